import PyProof.Rows.All
import Wide.All
import OpenK.AllK
import Wide.FinOn
import Lean
import PyProof.EqAt
import PyProof.EqKinds
import PyProof.TupleCall
import PyProof.NeData
import PyProof.P3In
import PyProof.ZipIter
import PyProof.Rows.ZipGen
import KE.KRevIter
import PyProof.CollectIter
import PyProof.ListRange
import PyProof.EnumMake
import PyProof.EnumFor
import PyProof.EnumStmt
import PyProof.Rows.SortStr
import KE.KDictList
import KE.KSortTup
import KE.KSortAsk
import PyProof.SumAny
import PyProof.WalksMore
import KE.KTupSum
import PyProof.FactsAll.set
import PyProof.Rows.SetFrom
import PyProof.InstStoreFacts
import PyProof.Rows.Range3
import PyProof.FactsAll.tuple_2
import PyProof.Rows.SeqMore2
import PyProof.Rows.SortShell
import PyProof.Draws
import KE.KxText
import PySem.Challenge.RW_ken_k53_turnings_in_order
import PyProof.SeqI3
import PyProof.Rows.CallKwBuiltin
set_option Elab.async false
set_option linter.all false
set_option maxRecDepth 100000
namespace L2
open PySem PySem.Spec PyProof.Rows
noncomputable abbrev Key:=Sum Int Str
noncomputable def Yz9:Key→Value→Bool
 | .inl k,v=>Value.isInt k v
 | .inr x,v=>Value.isStrOf x v
noncomputable def keyH (w:World):Key→Int
 | .inl k=>hashInt k
 | .inr x=>hashStr w x
theorem Zf3:∀ {k:Key} {v:Value},Yz9 k v=true→(∃ i t,k=Sum.inl i∧v=Value.int i t)∨(∃ x t,k=Sum.inr x∧v=Value.str x t)
 | .inl i,v,h=>by
  obtain⟨t,e⟩:=Value.isInt_shape (k:=i) (v:=v) h;exact .inl ⟨i,t,rfl,e⟩
 | .inr x,v,h=>by
  obtain⟨t,e⟩:=Value.isStrOf_shape (x:=x) (v:=v) h;exact .inr ⟨x,t,rfl,e⟩
theorem Xh4 (i:Int) (t:Tok):Yz9 (.inl i) (.int i t)=true:=by simp[Yz9,Value.isInt]
theorem Xh3 (x:Str) (t:Tok):Yz9 (.inr x) (.str x t)=true:=by simp[Yz9,Value.isStrOf]
theorem Wj2 (a b:Int):decide ((Sum.inl a:Key)=Sum.inl b)=(a == b):=by
 by_cases e:a=b
 ·subst e;simp
 ·have h:¬ (Sum.inl a:Key)=Sum.inl b:=fun q=>e (Sum.inl.inj q)
  rw[decide_eq_false h];exact (beq_eq_false_iff_ne.mpr e).symm
theorem Wi9 (a b:Str):decide ((Sum.inr a:Key)=Sum.inr b)=decide (a=b):=by
 by_cases e:a=b
 ·subst e;simp
 ·have h:¬ (Sum.inr a:Key)=Sum.inr b:=fun q=>e (Sum.inr.inj q)
  rw[decide_eq_false h,decide_eq_false e]
theorem Wj1 (a:Int) (b:Str):decide ((Sum.inl a:Key)=Sum.inr b)=false:=decide_eq_false (fun q=>nomatch q)
theorem Wj0 (a:Str) (b:Int):decide ((Sum.inr a:Key)=Sum.inl b)=false:=decide_eq_false (fun q=>nomatch q)
noncomputable def Zf1 (prog:Program) (w:World):PySem.KeyKind prog w Key where
  is:=Yz9
  hash:=keyH w
  inj:=fun v a b ha hb=>by
    rcases Zf3 ha with ⟨i,t,rfl,rfl⟩ | ⟨x,t,rfl,rfl⟩
    · rcases Zf3 hb with ⟨j,u,rfl,e⟩ | ⟨y,u,rfl,e⟩
      · injection e with e1 _;rw[e1]
      · exact nomatch e
    · rcases Zf3 hb with ⟨j,u,rfl,e⟩ | ⟨y,u,rfl,e⟩
      · exact nomatch e
      · injection e with e1 _;rw[e1]
  byValue:=fun k v h=>by
    rcases Zf3 h with ⟨i,t,rfl,rfl⟩ | ⟨x,t,rfl,rfl⟩<;>rfl
  pyHash:=fun hv h=>by
    rcases Zf3 hv with ⟨i,t,rfl,rfl⟩ | ⟨x,t,rfl,rfl⟩
    · exact wpAny_pyHash_int h
    · exact wpAny_pyHash_str h
  eqBool:=fun hu hv h=>by
    rcases Zf3 hu with ⟨i,t,rfl,rfl⟩ | ⟨x,t,rfl,rfl⟩
    · rcases Zf3 hv with ⟨j,u,rfl,rfl⟩ | ⟨y,u,rfl,rfl⟩
      · rw[Wj2] at h;exact wpAny_eqBool_int h
      · rw[Wj1] at h;exact SeqAt.EqAt.int_str i t y u _ _ _ _ h
    · rcases Zf3 hv with ⟨j,u,rfl,rfl⟩ | ⟨y,u,rfl,rfl⟩
      · rw[Wj0] at h;exact SeqAt.EqAt.str_int x t j u _ _ _ _ h
      · rw[Wi9] at h;exact wpAny_eqBool_str h
  «strs»:=fun k x t v h=>by
    rcases Zf3 h with ⟨i,u,rfl,e⟩ | ⟨y,u,rfl,e⟩
    · exact nomatch e
    · injection e with e1 _
      subst e1
      cases v<;>rfl
theorem Yq6 (prog:Program) (w:World) (i:Int) (t:Tok):(Zf1 prog w).is (.inl i) (.int i t)=true:=Xh4 i t
theorem Ya0 (prog:Program) (w:World) (x:Str) (t:Tok):(Zf1 prog w).is (.inr x) (.str x t)=true:=Xh3 x t
inductive V where
 | non | bl (b:Bool) | int (i:Int) | str (x:Str) | byt (b:Array UInt8) | flt (b:UInt64) | ref (a:Addr) | ty (n:String)
 deriving DecidableEq
def RelV:V→Value→Prop
 | .non,u=>u=Value.none
 | .bl b,u=>u=Value.bool b
 | .int i,u=>∃ t,u=Value.int i t
 | .str x,u=>∃ t,u=Value.str x t
 | .byt b,u=>∃ t,u=Value.bytes b t
 | .flt b,u=>∃ t,u=Value.float b t
 | .ref a,u=>u=Value.ref a
 | .ty n,u=>u=Value.type n
abbrev Vals:List V→List Value→Prop:=Paired RelV
theorem Vals.length {xs:List V} {us:List Value} (r:Vals xs us):xs.length=us.length:=Paired.length r
theorem Vals.get:∀ {xs:List V} {us:List Value} {i:Nat} {x:V},Vals xs us→xs[i]?=some x→∃ u,us[i]?=some u∧RelV x u
 | _,_,_,_,.nil,e=>by simp at e
 | _,_,0,_,.cons r _,e=>by simp at e;subst e;exact⟨_,rfl,r⟩
 | _,_,i+1,x,.cons _ t,e=>by
  obtain⟨u,h1,h2⟩:=Vals.get (i:=i) (x:=x) t (by simpa using e);exact⟨u,by simpa using h1,h2⟩
theorem Vals.set {x:V} {u:Value} (r:RelV x u):∀ {xs:List V} {us:List Value} (i:Nat),Vals xs us→Vals (xs.set i x) (us.set i u)
 | _,_,_,.nil=>.nil
 | _,_,0,.cons _ t=>.cons r t
 | _,_,i+1,.cons q t=>.cons q (Vals.set r i t)
theorem Vals.append:∀ {xs ys:List V} {us ws:List Value},Vals xs us→Vals ys ws→Vals (xs++ys) (us++ws)
 | _,_,_,_,.nil,s=>s
 | _,_,_,_,.cons r t,s=>.cons r (Vals.append t s)
theorem Vals.take:∀ {xs:List V} {us:List Value} (n:Nat),Vals xs us→Vals (xs.take n) (us.take n)
 | _,_,0,_=>.nil
 | _,_,_+1,.nil=>.nil
 | _,_,n+1,.cons r t=>.cons r (Vals.take n t)
theorem Vals.drop:∀ {xs:List V} {us:List Value} (n:Nat),Vals xs us→Vals (xs.drop n) (us.drop n)
 | _,_,0,r=>r
 | _,_,_+1,.nil=>.nil
 | _,_,n+1,.cons _ t=>Vals.drop n t
def RelO:Option V→Option Value→Prop
 | some v,some u=>RelV v u
 | none,none=>True
 | _,_=>False
def KV {κ:Type}:List (κ×V)→List (κ×Value)→Prop:=Paired fun (p:κ×V) (q:κ×Value)=>p.1=q.1∧RelV p.2 q.2
noncomputable def kV:Key→V
 | .inl i=>.int i
 | .inr x=>.str x
inductive HO where
 | lst (xs:List V)
 | tup (xs:List V)
 | dK (kvs:List (Key×V)) | dT (kvs:List (List Key×V))
 | set (S:Int→Bool) (n:Nat)
 | ins (C dx:Addr) (fs:List (Str×V))
 | own (x:Addr)
 | xd (fs:List (Str×V))
 | met (f x:Addr)
 | rng (lo hi:Int)
 | frz (o:Obj) (u:HO)
 | tbl (ps:Array Value)
 | ext (φ:Heap→Prop)
noncomputable abbrev Hp:=Addr→Option HO
noncomputable def upd (H:Hp) (a:Addr) (o:HO):Hp:=fun b=>if b=a then some o else H b
theorem Za4 {H:Hp} {a:Addr} {o:HO}:upd H a o a=some o:=by unfold upd;rw[if_pos rfl]
theorem Zb1 {H:Hp} {a b:Addr} {o:HO} (h:b≠a):upd H a o b=H b:=by unfold upd;rw[if_neg h]
theorem Xb8 {H:Hp} {a:Addr} {o u:HO}:upd (upd H a o) a u=upd H a u:=by
 funext b;unfold upd;split<;>rfl
theorem Xg1 {H:Hp} {a b:Addr} {o u:HO} (h:H a=some o) (h':H b=some u) (d:o≠u):a≠b:=by
 intro e;subst e;rw[h] at h';exact d (Option.some.inj h')
theorem Zb0 {H:Hp} {a b:Addr} {o:HO} (h:H a=some o) (h':H b=none):a≠b:=by
 intro e;subst e;rw[h] at h';cases h'
section
variable (P:Program) (w:World)
def ObjOk (H:Hp) (h:Heap) (a:Addr):HO→Prop
 | .lst xs=>xs.length≤sizeLine∧∃ (its:List Value) (n:Nat),Vals xs its∧h.get? a=some { cls:=.type "list",data:=.seq its.toArray n }
 | .tup xs=>xs.length≤sizeLine∧∃ its:List Value,Vals xs its∧IsTup h a its.toArray
 | .dK kvs=>kvs.length≤sizeLine∧(a == sysModules)=false∧∃ vs,KV kvs vs∧h.DictOf (Zf1 P w) a vs
 | .dT kvs=>kvs.length≤sizeLine∧(a == sysModules)=false∧∃ xs:List (List Key×Addr×Value),
   Paired (fun (p:List Key×V) (q:List Key×Addr×Value)=>p.1=q.1∧H q.2.1=some (.tup (p.1.map kV))∧RelV p.2 q.2.2) kvs xs ∧
   ∃ o es ep,h.get? a=some o∧o.ExactDict∧o.data=.dict es ep∧es.toList=xs.map (entryOfKey (tupleKind (Zf1 P w)))∧(xs.map (·.1)).Nodup
 | .set S n=>h.SetOf (intKind P w) a S n
 | .ins C dx fs=>H dx=some (.own a)∧fs.length≤1000∧dx≠a∧h.get? a=some (W.instObj C dx) ∧
   ∃ mA,h.Ns1 dx mA∧(∀ f,RelO (fs.lookup f) (mA f))∧PySem.Within mA (fs.map (·.1))
 | .own _=>∃ o,h.get? a=some o
 | .xd fs=>∃ mA,h.Ns1 a mA∧∀ f,RelO (fs.lookup f) (mA f)
 | .rng lo hi=>∃ t u v,h.get? a=some { cls:=.type "range",data:=.fields #[.int lo t,.int hi u,.int 1 v] }
 | .frz o u=>h.get? a=some o∧ObjOk H h a u
 | .tbl ps=>h.get? a=some { cls:=.none,data:=.fields ps }
 | .met f x=>h.get? a=some (W.methodObj (.ref f) (.ref x))
 | .ext φ=>φ h∧(∃ o,h.get? a=some o)∧∀ h1 h2:Heap,φ h1→(∀ o,h1.get? a=some o→h2.get? a=some o)→φ h2
def HOk (H:Hp) (h:Heap):Prop:=∀ a o,H a=some o→ObjOk P w H h a o
end
section
variable {P:Program} {w:World} {H H':Hp} {h h':Heap} {a:Addr} {o:HO}
theorem ObjOk.lt (x:ObjOk P w H h a o):a < h.objs.size:=by
 cases o with
 | lst xs=>obtain⟨_,_,_,_,e⟩:=x;exact Heap.lt_size e
 | tup xs=>obtain⟨_,_,_,p⟩:=x;exact p.lt
 | dK kvs=>obtain⟨_,_,_,_,o,_,_,e,_⟩:=x;exact Heap.lt_size e
 | dT kvs=>obtain⟨_,_,_,_,o,_,_,e,_⟩:=x;exact Heap.lt_size e
 | set S n=>obtain⟨o,_,_,_,e,_⟩:=x;exact Heap.lt_size e
 | ins C dx fs=>obtain⟨_,_,_,e,_⟩:=x;exact Heap.lt_size e
 | own y=>obtain⟨_,e⟩:=x;exact Heap.lt_size e
 | xd fs=>obtain⟨_,⟨_,_,_,e,_⟩,_⟩:=x;exact Heap.lt_size e
 | rng lo hi=>obtain⟨_,_,_,e⟩:=x;exact Heap.lt_size e
 | frz ob u=>obtain⟨e,_⟩:=x;exact Heap.lt_size e
 | tbl ps=>exact Heap.lt_size (show h.get? a=some _ from x)
 | met f y=>exact Heap.lt_size (show h.get? a=some _ from x)
 | ext φ=>obtain⟨_,⟨_,e⟩,_⟩:=x;exact Heap.lt_size e
theorem Paired.mapP {α β:Type} {F G:α→β→Prop}:∀ {l₁:List α} {l₂:List β},Paired F l₁ l₂→(∀ a b,F a b→G a b)→Paired G l₁ l₂
 | _,_,.nil,_=>.nil
 | _,_,.cons r t,f=>.cons (f _ _ r) (Paired.mapP t f)
theorem ObjOk.stay (x:ObjOk P w H h a o) (k:∀ b u,(b=a∨H b=some (.own a))→h.get? b=some u→h'.get? b=some u)
  (ho:∀ b,H b=some (.own a)→H' b=some (.own a)) (ht:∀ b xs,H b=some (.tup xs)→H' b=some (.tup xs)):ObjOk P w H' h' a o:=by
 induction o with
 | lst xs=>obtain⟨z,l,n,r,e⟩:=x;exact⟨z,l,n,r,k _ _ (.inl rfl) e⟩
 | tup xs=>obtain⟨z,l,r,g,e,c⟩:=x;exact⟨z,l,r,g,k _ _ (.inl rfl) e,c⟩
 | dK kvs=>obtain⟨z,y,B,r,g,i,j,e,c⟩:=x;exact⟨z,y,B,r,g,i,j,k _ _ (.inl rfl) e,c⟩
 | dT kvs =>
  obtain⟨z,y,xs,r,g,i,j,e,c⟩:=x;exact⟨z,y,xs,Paired.mapP r fun p q z=>⟨z.1,ht _ _ z.2.1,z.2.2⟩,g,i,j,k _ _ (.inl rfl) e,c⟩
 | set S n=>obtain⟨g,i,j,t,e,c⟩:=x;exact⟨g,i,j,t,k _ _ (.inl rfl) e,c⟩
 | ins C dx fs =>
  obtain⟨d,z,D,e,s,⟨m,i,j,F,c⟩,r⟩:=x;exact⟨ho _ d,z,D,k _ _ (.inl rfl) e,s,⟨m,i,j,k _ _ (.inr d) F,c⟩,r⟩
 | own y=>obtain⟨g,e⟩:=x;exact⟨g,k _ _ (.inl rfl) e⟩
 | xd fs=>obtain⟨s,⟨m,i,j,e,c⟩,r⟩:=x;exact⟨s,⟨m,i,j,k _ _ (.inl rfl) e,c⟩,r⟩
 | rng lo hi=>obtain⟨t,u,v,e⟩:=x;exact⟨t,u,v,k _ _ (.inl rfl) e⟩
 | frz g u ih=>obtain⟨e,q⟩:=x;exact⟨k _ _ (.inl rfl) e,ih q⟩
 | tbl ps =>
  have e:h.get? a=some { cls:=.none,data:=.fields ps }:=x;show h'.get? a=some { cls:=.none,data:=.fields ps };exact k a _ (.inl rfl) e
 | met f y =>
  have e:h.get? a=some (W.methodObj (.ref f) (.ref y)):=x;show h'.get? a=some (W.methodObj (.ref f) (.ref y));exact k a _ (.inl rfl) e
 | ext φ=>obtain⟨p,⟨o,e⟩,A⟩:=x;exact⟨A _ _ p fun o q=>k _ _ (.inl rfl) q,⟨o,k _ _ (.inl rfl) e⟩,A⟩
theorem HOk.lt (x:HOk P w H h) (e:H a=some o):a < h.objs.size:=(x a o e).lt
theorem HOk.fresh (x:HOk P w H h) (e:h.objs.size≤a):H a=none:=by
 cases q:H a with
 | none=>rfl
 | some u=>exact absurd (Nat.lt_of_lt_of_le (x.lt q) e) (Nat.lt_irrefl _)
theorem HOk.kept (x:HOk P w H h) (k:∀ b u,h.get? b=some u→h'.get? b=some u):HOk P w H h':=fun a o e =>
 (x a o e).stay (fun b u _ q=>k b u q) (fun _ q=>q) fun _ _ q=>q
theorem HOk.laid (x:HOk P w H h) (k:∀ b u,h.get? b=some u→h'.get? b=some u) (hp:h.objs.size≤a) (new:ObjOk P w (upd H a o) h' a o):HOk P w (upd H a o) h':=fun b u e=>by
 have d:=x.fresh hp
 by_cases hb:b=a
 ·subst hb;rw[Za4] at e;cases e;exact new
 ·rw[Zb1 hb] at e
  exact (x b u e).stay (fun c v _ q=>k c v q) (fun c q=>by rw[Zb1 (Zb0 q d)];exact q) fun c f q=>by rw[Zb1 (Zb0 q d)];exact q
end
def Rd (H:Hp) (a:Addr) (u:HO):Prop:=H a=some u∨∃ o,H a=some (.frz o u)
theorem Rd.ok {P:Program} {w:World} {H:Hp} {h:Heap} {a:Addr} {u:HO} (r:Rd H a u) (x:HOk P w H h):ObjOk P w H h a u:=by
 rcases r with r | ⟨o,r⟩
 ·exact x a u r
 ·obtain⟨_,q⟩:=x a _ r
  exact q
def Mut:Option HO→Prop
 | some (.lst _)=>True
 | some (.dK _)=>True
 | some (.dT _)=>True
 | some (.set _ _)=>True
 | some (.ins _ _ _)=>True
 | some (.ext _)=>True
 | _=>False
section
variable {P:Program} {w:World} {H:Hp} {h h':Heap} {x e:Addr} {o':HO}
theorem HOk.write (ok:HOk P w H h) (mu:Mut (H x)) (he:e=x∨H e=some (.own x)) (k:∀ b u,b≠e→h.get? b=some u→h'.get? b=some u) (heo:∃ u,h'.get? e=some u)
  (new:ObjOk P w (upd H x o') h' x o'):HOk P w (upd H x o') h':=fun b u q=>by
 have a:∀ c y,H c=some (.own y)→c≠x:=fun c y r z=>by subst z;rw[r] at mu;exact mu
 have g:∀ c d,H c=some (.tup d)→c≠x:=fun c d r z=>by subst z;rw[r] at mu;exact mu
 by_cases hb:b=x
 ·subst hb;rw[Za4] at q;cases q;exact new
 ·rw[Zb1 hb] at q
  by_cases hbe:b=e
  ·have i:H b=some (.own x):=by
    rcases he with z | z
    ·exact absurd (hbe.trans z) hb
    ·rw[hbe];exact z
   rw[q] at i;cases i;obtain⟨v,j⟩:=heo;exact⟨v,by rw[hbe];exact j⟩
  ·refine (ok b u q).stay (fun c v f r=>k c v ?_ r) (fun c r=>by rw[Zb1 (a c b r)];exact r) fun c d r=>by rw[Zb1 (g c d r)];exact r
   rcases f with rfl | f
   ·exact hbe
   ·rintro rfl
    rcases he with z | z
    ·exact a c b f z
    ·rw[f] at z;cases z;exact hb rfl
end
structure Un (fs ex:List Addr) (H H':Hp) (h h':Heap):Prop where
 keep:∀ b o,h.get? b=some o→H b=none→b ∉ fs→b ∉ ex→h'.get? b=some o
 slot:∀ b o,h.get? b=some o→H b=none→b∈fs→b ∉ ex→∃ sl,h'.get? b=some { o with slots:=sl }
 free:∀ b o,h.get? b=some o→H b=none→b ∉ ex→H' b=none
 there:∀ b o,h.get? b=some o→b ∉ ex→∃ o',h'.get? b=some o'
 tups:∀ b xs,H b=some (.tup xs)→H' b=some (.tup xs)
 frzs:∀ b o u,H b=some (.frz o u)→H' b=some (.frz o u)
 tbls:∀ b ps,H b=some (.tbl ps)→∃ more,H' b=some (.tbl (ps++more))
section
variable {fs fs' ex ex':List Addr} {H H1 H2:Hp} {h h1 h2 h':Heap} {a x e:Addr} {o:HO}
theorem Un.any (u:Un fs ex H H1 h h1) {b:Addr} {ob:Obj} (q:h.get? b=some ob) (n:H b=none) (hx:b ∉ ex):∃ sl,h1.get? b=some { ob with slots:=sl }:=by
 by_cases hb:b∈fs
 ·exact u.slot b ob q n hb hx
 ·exact⟨ob.slots,u.keep b ob q n hb hx⟩
theorem Un.kept (k:∀ b u,h.get? b=some u→h'.get? b=some u):Un fs ex H H h h' :=
 ⟨fun b a q _ _ _=>k b a q,fun b a q _ _ _=>⟨a.slots,k b a q⟩,fun _ _ _ n _=>n,fun b a q _=>⟨a,k b a q⟩,fun _ _ q=>q,fun _ _ _ q=>q,fun _ c q=>⟨#[],by rw[q];simp⟩⟩
theorem Un.refl:Un fs ex H H h h:=Un.kept fun _ _ q=>q
theorem Un.laid (k:∀ b u,h.get? b=some u→h'.get? b=some u) (hp:h.objs.size≤a) (hn:H a=none):Un fs ex H (upd H a o) h h' where
 keep:=fun b u q _ _ _=>k b u q
 slot:=fun b u q _ _ _=>⟨u.slots,k b u q⟩
 free:=fun b u q n _=>by rw[Zb1 (Nat.ne_of_lt (Nat.lt_of_lt_of_le (Heap.lt_size q) hp))];exact n
 there:=fun b u q _=>⟨u,k b u q⟩
 tups:=fun b c q=>by rw[Zb1 (Zb0 q hn)];exact q
 frzs:=fun b u c q=>by rw[Zb1 (Zb0 q hn)];exact q
 tbls:=fun b d q=>⟨#[],by rw[Zb1 (Zb0 q hn),q];simp⟩
theorem Un.write (mu:Mut (H x)) (he:e=x∨H e=some (.own x)) (k:∀ b u,b≠e→h.get? b=some u→h'.get? b=some u) (heo:∃ u,h'.get? e=some u):Un fs ex H (upd H x o) h h':=by
 have c:∀ b,H b=none→b≠x:=fun b n z=>by subst z;rw[n] at mu;exact mu
 have d:∀ b,H b=none→b≠e:=fun b n z=>by
  subst z;rcases he with r | r
  ·exact c b n r
  ·rw[n] at r;cases r
 have a:∀ b u,H b=some u→¬ Mut (some u)→b≠x:=fun b u q g z=>by subst z;rw[q] at mu;exact g mu
 refine⟨fun b u q n _ _=>k b u (d b n) q,fun b u q n _ _=>⟨u.slots,k b u (d b n) q⟩,fun b u q n _=>by rw[Zb1 (c b n)];exact n,fun b u q _=>?_,
  fun b f q=>by rw[Zb1 (a b _ q fun z=>z)];exact q,fun b u f q=>by rw[Zb1 (a b _ q fun z=>z)];exact q,fun b i q=>⟨#[],by rw[Zb1 (a b _ q fun z=>z),q];simp⟩⟩
 by_cases hbe:b=e
 ·subst hbe;exact heo
 ·exact⟨u,k b u hbe q⟩
end
noncomputable def trk (h:Heap) (H:Hp):List Addr:=(List.range h.objs.size).filter fun a=>(H a).isSome
noncomputable def hidT (h:Heap) (H:Hp):Heap:=W.hideAll h (trk h H)
theorem Xi7 (h:Heap) (H:Hp):(hidT h H).objs.size=h.objs.size:=W.hideAll_size _ _
theorem Xq6 {h:Heap} {H:Hp} {b:Addr} {o:Obj} (e:h.get? b=some o) (n:H b=none):(hidT h H).get? b=some o :=
 W.hideAll_get _ e fun a=>by
  have q:(H b).isSome=true:=(List.mem_filter.mp a).2;rw[n] at q;simp at q
theorem Xx3 {h:Heap} {H:Hp} {b:Addr} {o:Obj} (e:(hidT h H).get? b=some o):h.get? b=some o∧H b=none:=by
 have a:h.get? b=some o:=W.of_hideAll (trk h H) e;refine⟨a,?_⟩
 cases q:H b with
 | none=>rfl
 | some x =>
  have c:b∈trk h H:=List.mem_filter.mpr ⟨List.mem_range.mpr (Heap.lt_size a),by simp[q]⟩;have z:(hidT h H).get? b=none:=W.hideAll_none (trk h H) c;rw[z] at e;cases e
structure Mod (K:W.Frag) (mg:Str→Option Value) (base:Heap):Prop where
 kin:K.In base
 glob:base.Ns mainGlobals mg
 blt:∃ mb,base.Ns builtinsNs mb∧∀ x:Str,x≠"__name__"→mb x=bootBuiltins x
 nolimit:base.NoLimit
structure Cx where
 prog:Program
 w:World
 K:W.Frag
 mg:Str→Option Value
 base:Heap
 A:Around
 N:List Str
 s₀:Shared
 H₀:Hp
 env:Env
 outer:List Env
 stack:List Env
 ex:List Addr
 fn:Str→Bool
 calm:Bool
 pn:List (Addr×Obj)
 xe:Value→Shared→Prop
noncomputable def frs (l:List Env):List Addr:=l.filterMap (·.frame)
noncomputable abbrev Cx.fs (X:Cx):List Addr:=frs X.outer
def Vis (sc:Scope) (x:Str):Prop:=sc.names.lookup x=some .local∨sc.names.lookup x=some .cell∨sc.names.lookup x=some .free
def Loc (sc:Scope) (x:Str):Prop:=sc.names.lookup x=some .local∨sc.names.lookup x=some .cell
def Look (env:Env) (h:Heap) (m:Str→Option Value) (x:Str) (u:Value):Prop :=
 (env.kindOf x=some .local∧m x=some u)∨((env.kindOf x=some .cell∨env.kindOf x=some .free)∧∃ c,env.cells.lookup x=some c∧h.IsCell c (some u))
structure Cx.Ok (X:Cx):Prop where
 mod:Mod X.K X.mg X.base
 kind:X.env.scope.kind=.function
 glob:X.env.globals=mainGlobals
 blt:X.env.builtins=builtinsNs
 above:X.s₀.heap.objs.size≤X.env.locals
 inj:∀ x y c,X.env.cells.lookup x=some c→X.env.cells.lookup y=some c→x=y
 has:∀ x,(X.env.kindOf x=some .cell∨X.env.kindOf x=some .free)→∃ c,X.env.cells.lookup x=some c
 cab:∀ x c,X.fn x=true→X.env.cells.lookup x=some c→X.s₀.heap.objs.size≤c
 hd:X.calm=true→X.A.handled=none
 frames:X.A.frames=some X.stack
 stk:X.stack=X.outer∨(X.stack=X.env :: X.outer∧X.env.frame=some X.env.locals)
 exf:∀ b∈X.ex,b≠X.env.locals∧∀ x c,X.env.cells.lookup x=some c→c≠b
 bs:∀ b o,X.base.get? b=some o→X.s₀.heap.get? b=some o∧X.H₀ b=none
 bsz:X.base.objs.size≤X.s₀.heap.objs.size
 noex:∀ b o,X.base.get? b=some o→b ∉ X.ex
 exfs:∀ b∈X.ex,b ∉ X.fs
 funs:X.s₀.heap.FunFrames X.base X.outer
 frf:∀ b∈X.fs,X.H₀ b=none
structure Inv (X:Cx) (pins:List (Addr×Obj)) (σ:List (Option V)) (H:Hp) (s:Shared):Prop where
 ok:X.Ok
 os:s.os=X.s₀.os
 bare:AllBare s.gens
 base:Un X.fs X.ex X.H₀ H X.s₀.heap s.heap
 loc:∃ m,s.heap.Ns X.env.locals m∧∀ (i:Nat) (x:Str) (v:V),X.N[i]?=some x→σ[i]?=some (some v)→Vis X.env.scope x→∃ u,RelV v u∧Look X.env s.heap m x u
 cell:∀ x c,X.env.cells.lookup x=some c→∃ v,s.heap.IsCell c v
 free:H X.env.locals=none
 freeC:∀ x c,X.env.cells.lookup x=some c→H c=none
 pin:∀ p∈X.pn++pins,s.heap.get? p.1=some p.2∧H p.1=none∧p.1≠X.env.locals∧p.1 ∉ X.fs∧∀ v,p.2.data≠.cell v
 hok:HOk X.prog X.w H s.heap
 len:σ.length=X.N.length
section
variable {X:Cx} {pins:List (Addr×Obj)} {σ:List (Option V)} {H H':Hp} {s:Shared} {h':Heap}
theorem Cx.Ok.nofr (ok:X.Ok) {b:Addr} {o:Obj} (e:X.base.get? b=some o):b ∉ X.fs:=fun a=>by
 have:=(ok.funs.mem a).1;rw[e] at this;cases this
theorem Inv.bs (I:Inv X pins σ H s):∀ b o,X.base.get? b=some o→s.heap.get? b=some o∧H b=none:=fun b o e =>
 ⟨I.base.keep b o (I.ok.bs b o e).1 (I.ok.bs b o e).2 (I.ok.nofr e) (I.ok.noex b o e),I.base.free b o (I.ok.bs b o e).1 (I.ok.bs b o e).2 (I.ok.noex b o e)⟩
theorem Inv.bk (I:Inv X pins σ H s):∀ b o,X.base.get? b=some o→s.heap.get? b=some o:=fun b o e=>(I.bs b o e).1
theorem Inv.mod (I:Inv X pins σ H s):Mod X.K X.mg X.base:=I.ok.mod
theorem Inv.kIn (I:Inv X pins σ H s):X.K.In s.heap:=I.ok.mod.kin.keeps I.bk
theorem Inv.lt (I:Inv X pins σ H s):X.env.locals < s.heap.objs.size:=let ⟨_,hn,_⟩:=I.loc;hn.lt
theorem Inv.sz (I:Inv X pins σ H s):X.s₀.heap.objs.size≤s.heap.objs.size:=Nat.le_trans I.ok.above (Nat.le_of_lt I.lt)
theorem Inv.nofs (I:Inv X pins σ H s) {a:Addr} (h:s.heap.objs.size≤a):a ∉ X.fs:=fun c=>by
 obtain⟨_,o,b,_⟩:=I.ok.funs.mem c;exact absurd (Nat.lt_of_lt_of_le (Heap.lt_size b) (Nat.le_trans I.sz h)) (Nat.lt_irrefl _)
theorem Inv.cne (I:Inv X pins σ H s):∀ x c,X.env.cells.lookup x=some c→c≠X.env.locals:=fun x c e z=>by
 obtain⟨v,o,b,f⟩:=I.cell x c e;obtain⟨m,⟨g,h,i,a,d,_⟩,_⟩:=I.loc;rw[z,a] at b;cases b;rw[d] at f;cases f
theorem Inv.funs (I:Inv X pins σ H s):s.heap.FunFrames X.base X.outer:=by
 have g:∀ (l:List Env),(∀ b∈frs l,b∈X.fs)→X.s₀.heap.FunFrames X.base l→s.heap.FunFrames X.base l:=by
  intro l
  induction l with
  | nil=>intro _ _;trivial
  | cons env r ih =>
   intro f k;obtain⟨m,⟨L,o,a,j,i,n⟩,h⟩:=k;have d:L∈X.fs:=f L (by unfold frs;rw[List.filterMap_cons,a];exact List.mem_cons_self);obtain⟨p,e⟩:=I.base.slot L o i (I.ok.frf L d) d fun z=>I.ok.exfs L z d;exact⟨m,⟨L,_,a,j,e,n⟩,ih (fun b c=>f b (by unfold frs;rw[List.filterMap_cons,a];exact List.mem_cons_of_mem _ c)) h⟩
 exact g X.outer (fun _ c=>c) I.ok.funs
theorem Inv.stack (I:Inv X pins σ H s):s.heap.FunFrames X.base X.stack:=by
 rcases I.ok.stk with e | ⟨e,b⟩
 ·rw[e];exact I.funs
 ·rw[e]
  obtain⟨m,a,_⟩:=I.loc;refine .cons (by rw[I.ok.kind];decide) b a ?_ I.funs;exact Heap.get?_none_of_le (Nat.le_trans I.ok.bsz I.ok.above)
theorem Inv.stkSub (I:Inv X pins σ H s):∀ b∈frs X.stack,b∈X.env.locals :: X.fs:=fun b a=>by
 rcases I.ok.stk with e | ⟨e,c⟩
 ·rw[e] at a;exact List.mem_cons_of_mem _ a
 ·rw[e] at a
  unfold frs at a;rw[List.filterMap_cons,c] at a;exact a
theorem Inv.stkFree (I:Inv X pins σ H s):∀ b∈frs X.stack,H b=none:=fun b a=>by
 rcases List.mem_cons.mp (I.stkSub b a) with e | a
 ·rw[e];exact I.free
 ·obtain⟨_,o,c,_⟩:=I.ok.funs.mem a
  exact I.base.free b o c (I.ok.frf b a) fun z=>I.ok.exfs b z a
theorem Inv.step {g':Array GenState} {t':Nat} {d':Drawn} {ch:List Addr} (I:Inv X pins σ H s)
  (hch:∀ b∈ch,(b∈X.ex∨X.s₀.heap.objs.size≤b)∧b≠X.env.locals∧(∀ x c,X.env.cells.lookup x=some c→c≠b)∧∀ p∈X.pn++pins,p.1≠b)
  (keep:∀ b o,b≠X.env.locals→b ∉ X.fs→b ∉ ch→s.heap.get? b=some o→H b=none→h'.get? b=some o)
  (slot:∀ b o,b≠X.env.locals→b∈X.fs→b ∉ ch→s.heap.get? b=some o→H b=none→∃ sl,h'.get? b=some { o with slots:=sl }) (free:∀ b o,b ∉ ch→s.heap.get? b=some o→H b=none→H' b=none)
  (there:∀ b o,b ∉ ch→s.heap.get? b=some o→∃ o',h'.get? b=some o')
  (tups:∀ b xs,H b=some (.tup xs)→H' b=some (.tup xs)) (frzs:∀ b o u,H b=some (.frz o u)→H' b=some (.frz o u)) (tbls:∀ b ps,H b=some (.tbl ps)→∃ more,H' b=some (.tbl (ps++more)))
  (ns:∀ m,s.heap.Ns X.env.locals m→h'.Ns X.env.locals m) (hok:HOk X.prog X.w H' h') (hg:AllBare g') :
  Inv X pins σ H' { s with heap:=h',gens:=g',drawn:=d',toks:=t' }:=by
 have B:∀ b o,X.s₀.heap.get? b=some o→b≠X.env.locals:=fun b o e=>Nat.ne_of_lt (Nat.lt_of_lt_of_le (Heap.lt_size e) I.ok.above)
 have j:∀ b o,X.s₀.heap.get? b=some o→b ∉ X.ex→b ∉ ch:=fun b o e a h=>by
  rcases (hch b h).1 with z | z
  ·exact a z
  ·exact absurd (Nat.lt_of_lt_of_le (Heap.lt_size e) z) (Nat.lt_irrefl _)
 have t:∀ x c,X.env.cells.lookup x=some c→∀ v,s.heap.IsCell c v→h'.IsCell c v:=fun x c e v ⟨o,y,C⟩=>by
  have g:c ∉ ch:=fun z=>(hch c z).2.2.1 x c e rfl
  by_cases hc:c∈X.fs
  ·obtain⟨sl,q⟩:=slot c o (I.cne x c e) hc g y (I.freeC x c e)
   exact⟨_,q,C⟩
  ·exact⟨o,keep c o (I.cne x c e) hc g y (I.freeC x c e),C⟩
 refine⟨I.ok,I.os,hg,⟨fun b o e n h a=>?_,fun b o e n h a=>?_,fun b o e n a=>?_,fun b o e a=>?_,fun b xs e=>tups b xs (I.base.tups b xs e),fun b o xs e=>frzs b o xs (I.base.frzs b o xs e),fun b ps e=>?_⟩,?_,fun x c e=>?_,?_,fun x c e=>?_,fun p J=>?_,hok,I.len⟩
 ·exact keep b o (B b o e) h (j b o e a) (I.base.keep b o e n h a) (I.base.free b o e n a)
 ·obtain⟨sl,f⟩:=I.base.slot b o e n h a
  obtain⟨D,A⟩:=slot b _ (B b o e) h (j b o e a) f (I.base.free b o e n a);exact⟨D,A⟩
 ·obtain⟨o',f⟩:=I.base.there b o e a
  exact free b o' (j b o e a) f (I.base.free b o e n a)
 ·obtain⟨o',f⟩:=I.base.there b o e a
  exact there b o' (j b o e a) f
 ·obtain⟨M,f⟩:=I.base.tbls b ps e
  obtain⟨L,A⟩:=tbls b _ f;exact⟨M++L,by rw[A,Array.append_assoc]⟩
 ·obtain⟨m,N,O⟩:=I.loc
  refine⟨m,ns m N,fun i x v f A R=>?_⟩;obtain⟨u,r,l⟩:=O i x v f A R;refine⟨u,r,?_⟩;rcases l with l | ⟨k,c,e,z⟩
  ·exact .inl l
  ·exact .inr ⟨k,c,e,t x c e _ z⟩
 ·obtain⟨v,z⟩:=I.cell x c e
  exact⟨v,t x c e v z⟩
 ·obtain⟨m,⟨o,_,_,y,_⟩,_⟩:=I.loc
  exact free _ o (fun z=>(hch _ z).2.1 rfl) y I.free
 ·obtain⟨v,o,y,C⟩:=I.cell x c e
  exact free c o (fun z=>(hch c z).2.2.1 x c e rfl) y (I.freeC x c e)
 ·obtain⟨e,n,G,F,d⟩:=I.pin p J
  have g:p.1 ∉ ch:=fun z=>(hch p.1 z).2.2.2 p J rfl;exact⟨keep p.1 p.2 G F g e n,free p.1 p.2 g e n,G,F,d⟩
theorem Inv.un {t':Nat} (I:Inv X pins σ H s) (u:Un X.fs [] H H' s.heap h') (hok:HOk X.prog X.w H' h'):Inv X pins σ H' { s with heap:=h',toks:=t' }:=by
 obtain⟨m,⟨o,q,t,d,r⟩,_⟩:=id I.loc;obtain⟨k,j⟩:=u.any d I.free (by simp)
 exact I.step (g':=s.gens) (d':=s.drawn) (ch:=[]) (fun _ z=>nomatch z) (fun b o _ c _ e n=>u.keep b o e n c (by simp)) (fun b o _ c _ e n=>u.slot b o e n c (by simp)) (fun b o _ e n=>u.free b o e n (by simp)) (fun b o _ e=>u.there b o e (by simp)) u.tups u.frzs u.tbls (fun p i=>by
  obtain⟨l,f,g,a,h⟩:=i;rw[d] at a;cases a
  exact⟨_,f,g,j,h⟩) hok I.bare
theorem Inv.call {g':Array GenState} {t':Nat} {d':Drawn} {ch:List Addr} (I:Inv X pins σ H s) (u:Un (frs X.stack) ch H H' s.heap h') (hok:HOk X.prog X.w H' h') (hg:AllBare g')
  (hch:∀ b∈ch,(b∈X.ex∨X.s₀.heap.objs.size≤b)∧b≠X.env.locals∧(∀ x c,X.env.cells.lookup x=some c→c≠b)∧∀ p∈X.pn++pins,p.1≠b) :
  Inv X pins σ H' { s with heap:=h',gens:=g',drawn:=d',toks:=t' }:=by
 obtain⟨m,⟨o,y,A,g,r⟩,_⟩:=id I.loc;obtain⟨q,f⟩:=u.any g I.free fun z=>(hch _ z).2.1 rfl
 exact I.step (ch:=ch) hch (fun b o f l a e n=>u.keep b o e n (fun z=>(List.mem_cons.mp (I.stkSub b z)).elim f l) a) (fun b o _ _ a e n=>u.any e n a) (fun b o a e n=>u.free b o e n a) (fun b o a e=>u.there b o e a) u.tups u.frzs u.tbls (fun v k=>by
  obtain⟨t,h,i,d,j⟩:=k;rw[g] at d;cases d
  exact⟨_,h,i,f,j⟩) hok hg
theorem Inv.turned {t':Nat} {it:Addr} (I:Inv X pins σ H s) (k:∀ b o,b≠it→s.heap.get? b=some o→h'.get? b=some o) (hn:H it=none) (hL:it≠X.env.locals)
  (h1:it∈X.ex∨X.s₀.heap.objs.size≤it) (h2:∀ x c,X.env.cells.lookup x=some c→c≠it) (h3:∀ p∈X.pn++pins,p.1≠it):Inv X pins σ H { s with heap:=h',toks:=t' }:=by
 have d:∀ b u,H b=some u→b≠it:=fun b u e z=>by rw[z,hn] at e;cases e
 refine I.step (g':=s.gens) (d':=s.drawn) (ch:=[it]) (fun b h=>?_) (fun b o _ _ a e _=>k b o (fun z=>a (by simp[z])) e) (fun b o _ _ a e _=>⟨o.slots,k b o (fun z=>a (by simp[z])) e⟩) (fun _ _ _ _ n=>n)
  (fun b o a e=>⟨o,k b o (fun z=>a (by simp[z])) e⟩) (fun _ _ e=>e) (fun _ _ _ e=>e) (fun b l e=>⟨#[],by rw[e];simp⟩) (fun m g=>?_) (fun b u e=>?_) I.bare
 ·have e:b=it:=by simpa using h
  subst e;exact⟨h1,hL,h2,h3⟩
 ·obtain⟨o,i,j,f,r⟩:=g
  exact⟨o,i,j,k _ o (Ne.symm hL) f,r⟩
 ·refine (I.hok b u e).stay (fun c v a q=>k c v ?_ q) (fun _ q=>q) fun _ _ q=>q
  rcases a with z | z
  ·rw[z];exact d b u e
  ·exact d c _ z
theorem Inv.tok (I:Inv X pins σ H s) (t:Nat):Inv X pins σ H { s with toks:=t }:=I.un (h':=s.heap) (t':=t) Un.refl I.hok
theorem Inv.kept {t':Nat} (I:Inv X pins σ H s) (k:∀ b u,s.heap.get? b=some u→h'.get? b=some u):Inv X pins σ H { s with heap:=h',toks:=t' }:=I.un (Un.kept k) (I.hok.kept k)
theorem Inv.laid {a:Addr} {o:HO} {t':Nat} (I:Inv X pins σ H s) (k:∀ b u,s.heap.get? b=some u→h'.get? b=some u) (hp:s.heap.objs.size≤a) (new:ObjOk X.prog X.w (upd H a o) h' a o) :
  Inv X pins σ (upd H a o) { s with heap:=h',toks:=t' }:=I.un (Un.laid k hp (I.hok.fresh hp)) (I.hok.laid k hp new)
theorem Inv.write {x e:Addr} {o:HO} {t':Nat} (I:Inv X pins σ H s) (mu:Mut (H x)) (he:e=x∨H e=some (.own x)) (k:∀ b u,b≠e→s.heap.get? b=some u→h'.get? b=some u) (heo:∃ u,h'.get? e=some u)
  (new:ObjOk X.prog X.w (upd H x o) h' x o):Inv X pins σ (upd H x o) { s with heap:=h',toks:=t' }:=I.un (Un.write mu he k heo) (I.hok.write mu he k heo new)
theorem Inv.weak {σ':List (Option V)} (I:Inv X pins σ H s) (hl:σ'.length=σ.length) (w:∀ (i:Nat) v,σ'[i]?=some (some v)→σ[i]?=some (some v)):Inv X pins σ' H s :=
 ⟨I.ok,I.os,I.bare,I.base,let ⟨m,hn,hl'⟩:=I.loc;⟨m,hn,fun i x v c b a=>hl' i x v c (w i v b) a⟩,I.cell,I.free,I.freeC,I.pin,I.hok,hl.trans I.len⟩
theorem Inv.pins_of {pins':List (Addr×Obj)} (I:Inv X pins σ H s) (h:∀ p∈pins',s.heap.get? p.1=some p.2∧H p.1=none∧p.1≠X.env.locals∧p.1 ∉ X.fs∧∀ v,p.2.data≠.cell v):Inv X pins' σ H s :=
 ⟨I.ok,I.os,I.bare,I.base,I.loc,I.cell,I.free,I.freeC,fun p a=>(List.mem_append.mp a).elim (fun z=>I.pin p (List.mem_append_left _ z)) (h p),I.hok,I.len⟩
theorem Yg0 {N:List Str} (hN:N.Nodup) {i j:Nat} {x:Str} (a:N[i]?=some x) (b:N[j]?=some x):i=j:=by
 obtain⟨f,d⟩:=List.getElem?_eq_some_iff.mp a;obtain⟨e,c⟩:=List.getElem?_eq_some_iff.mp b;exact (List.getElem_inj hN).mp (d.trans c.symm)
theorem Xd9 {M:Model} {A:Around} {E:Value→Shared→Prop} {i:Nat} {x:Str} {v:V} {u:Value} {Q:Unit→Shared→Prop} (I:Inv X pins σ H s) (hN:X.N.Nodup) (hi:X.N[i]?=some x) (hx:Loc X.env.scope x) (r:RelV v u)
  (h:∀ s',Inv X pins (σ.set i (some v)) H s'→(∃ a,Heap.SameBut a s.heap s'.heap∧(a=X.env.locals∨X.env.cells.lookup x=some a))→Q () s') (hf:X.fn x=true∨X.env.scope.names.lookup x=some .local:=by first | exact .inl rfl | exact .inr rfl | assumption):wpAny M A (storeName X.env x u) Q E s:=by
 obtain⟨m,hn,hl⟩:=id I.loc
 have q1:(X.env.scope.kind == .class||(X.env.scope.kind == .module&&X.env.locals != X.env.globals))=false:=by rw[I.ok.kind];rfl
 have G:i < σ.length:=by rw[I.len];exact (List.getElem?_eq_some_iff.mp hi).1
 have L:=I.cne
 have t:∀ {a:Addr} {h':Heap},(∃ o,s.heap.get? a=some o∧H a=none)→Heap.SameBut a s.heap h'→HOk X.prog X.w H h':=fun {a h'} ha f b ob e=>by
  obtain⟨_,_,F⟩:=ha;refine (I.hok b ob e).stay (fun c O l q=>(f.2 c ?_).trans q) (fun _ q=>q) fun _ _ q=>q;rintro rfl;rcases l with rfl | l
  ·rw[F] at e;cases e
  ·rw[F] at l;cases l
 rcases hx with C | C
 ·refine wpAny_storeName_local C hn (fun h' q3 f=>?_) q1
  obtain⟨oL,_,_,q2,_⟩:=id hn;refine h _ ⟨I.ok,I.os,I.bare,⟨fun b o e n D hx=>?_,fun b o e n D hx=>?_,I.base.free,fun b o e hx=>?_,I.base.tups,I.base.frzs,I.base.tbls⟩,⟨_,q3,fun j y W g B e3=>?_⟩,fun y c e=>?_,I.free,I.freeC,fun p hp=>?_,t ⟨oL,q2,I.free⟩ f,by simpa using I.len⟩ ⟨_,f,.inl rfl⟩
  ·exact (f.2 b (Nat.ne_of_lt (Nat.lt_of_lt_of_le (Heap.lt_size e) I.ok.above))).trans (I.base.keep b o e n D hx)
  ·obtain⟨Z,g⟩:=I.base.slot b o e n D hx
   exact⟨Z,(f.2 b (Nat.ne_of_lt (Nat.lt_of_lt_of_le (Heap.lt_size e) I.ok.above))).trans g⟩
  ·obtain⟨o',g⟩:=I.base.there b o e hx
   exact⟨o',(f.2 b (Nat.ne_of_lt (Nat.lt_of_lt_of_le (Heap.lt_size e) I.ok.above))).trans g⟩
  ·by_cases hj:j=i
   ·subst hj
    rw[hi] at g;cases g;rw[List.getElem?_set_self G] at B;cases B;exact⟨u,r,.inl ⟨C,by simp⟩⟩
   ·rw[List.getElem?_set_ne (Ne.symm hj)] at B
    obtain⟨Y,r',q⟩:=hl j y W g B e3;refine⟨Y,r',?_⟩;rcases q with ⟨k,e⟩ | ⟨k,c,e,z⟩
    ·refine .inl ⟨k,?_⟩
     have:y≠x:=fun e=>hj (Yg0 hN g (e▸hi));simp[this,e]
    ·exact .inr ⟨k,c,e,z.sameBut f (L y c e)⟩
  ·obtain⟨O,z⟩:=I.cell y c e
   exact⟨O,z.sameBut f (L y c e)⟩
  ·obtain⟨e,n,R,nf,d⟩:=I.pin p hp
   exact⟨(f.2 p.1 R).trans e,n,R,nf,d⟩
 ·have J:X.fn x=true:=by
   rcases hf with z | z
   ·exact z
   ·rw[z] at C;cases C
  obtain⟨c,l⟩:=I.ok.has x (.inl C);obtain⟨O,z⟩:=I.cell x c l;refine wpAny_storeName_cell I.ok.kind C l z (fun h' U f=>?_);obtain⟨oc,T,q0⟩:=id z;refine h { s with heap:=h' } ⟨I.ok,I.os,I.bare,⟨fun b o e n D hx=>?_,fun b o e n D hx=>?_,I.base.free,fun b o e hx=>?_,I.base.tups,I.base.frzs,I.base.tbls⟩,⟨m,hn.sameBut f (Ne.symm (L x c l)),fun j y W g B e3=>?_⟩,fun y S e=>?_,I.free,I.freeC,fun p hp=>?_,t ⟨oc,T,I.freeC x c l⟩ f,by simpa using I.len⟩ ⟨c,f,.inr l⟩
  ·exact (f.2 b (Nat.ne_of_lt (Nat.lt_of_lt_of_le (Heap.lt_size e) (I.ok.cab x c J l)))).trans (I.base.keep b o e n D hx)
  ·obtain⟨Z,g⟩:=I.base.slot b o e n D hx
   exact⟨Z,(f.2 b (Nat.ne_of_lt (Nat.lt_of_lt_of_le (Heap.lt_size e) (I.ok.cab x c J l)))).trans g⟩
  ·obtain⟨o',g⟩:=I.base.there b o e hx
   exact⟨o',(f.2 b (Nat.ne_of_lt (Nat.lt_of_lt_of_le (Heap.lt_size e) (I.ok.cab x c J l)))).trans g⟩
  ·by_cases hj:j=i
   ·subst hj
    rw[hi] at g;cases g;rw[List.getElem?_set_self G] at B;cases B;exact⟨u,r,.inr ⟨.inl C,c,l,U⟩⟩
   ·rw[List.getElem?_set_ne (Ne.symm hj)] at B
    obtain⟨Y,r',q⟩:=hl j y W g B e3;refine⟨Y,r',?_⟩;rcases q with q | ⟨k,S,e,z'⟩
    ·exact .inl q
    ·refine .inr ⟨k,S,e,z'.sameBut f ?_⟩
     rintro rfl;exact hj (Yg0 hN g (I.ok.inj _ _ _ e l▸hi))
  ·by_cases hcc:S=c
   ·subst hcc;exact⟨_,U⟩
   ·obtain⟨w2,z2⟩:=I.cell y S e
    exact⟨w2,z2.sameBut f hcc⟩
  ·obtain⟨e,n,R,nf,d⟩:=I.pin p hp
   refine⟨(f.2 p.1 ?_).trans e,n,R,nf,d⟩;intro q;rw[q,T] at e;have q':oc=p.2:=Option.some.inj e;exact d O (by rw[← q'];exact q0)
theorem Zl8 {M:Model} {A:Around} {E:Value→Shared→Prop} {i:Nat} {x:Str} {v:V} {u:Value} {Q:Unit→Shared→Prop} (I:Inv X pins σ H s) (hN:X.N.Nodup) (hi:X.N[i]?=some x) (hx:Loc X.env.scope x) (r:RelV v u)
  (h:∀ s',Inv X pins (σ.set i (some v)) H s'→Q () s') (hf:X.fn x=true∨X.env.scope.names.lookup x=some .local:=by first | exact .inl rfl | exact .inr rfl | assumption):wpAny M A (storeName X.env x u) Q E s :=
 Xd9 I hN hi hx r (fun s' a _=>h s' a) hf
theorem Inv.call' {s':Shared} {ch:List Addr} (I:Inv X pins σ H s) (ho:s'.os=s.os) (u:Un (frs X.stack) ch H H' s.heap s'.heap) (hok:HOk X.prog X.w H' s'.heap) (hg:AllBare s'.gens)
  (hch:∀ b∈ch,(b∈X.ex∨X.s₀.heap.objs.size≤b)∧b≠X.env.locals∧(∀ x c,X.env.cells.lookup x=some c→c≠b)∧∀ p∈X.pn++pins,p.1≠b):Inv X pins σ H' s':=by
 obtain⟨d,g',d',t',a⟩:=s';have e:a=s.os:=ho;subst e;exact I.call (g':=g') (t':=t') (d':=d') u hok hg hch
end
noncomputable abbrev XK:=Value→Option Addr→Hp→Prop
noncomputable abbrev St:=List (Option V)
noncomputable abbrev VK:=V→Hp→Prop
noncomputable abbrev TE:=St→Hp→VK→Prop
noncomputable abbrev TT:=St→Hp→(Bool→Hp→Prop)→Prop
noncomputable abbrev TA:=St→Hp→(List V→Hp→Prop)→Prop
structure Ends where
 nx:St→Hp→Prop
 rt:VK
 bk:St→Hp→Prop:=fun _ _=>False
 ct:St→Hp→Prop:=fun _ _=>False
noncomputable abbrev TS:=Ends→St→Hp→Prop
def EP (X:Cx) (pins:List (Addr×Obj)) (σ:St) (Q:VK) (u:Value) (s':Shared):Prop:=∃ v H',Inv X pins σ H' s'∧RelV v u∧Q v H'
def TP (X:Cx) (pins:List (Addr×Obj)) (σ:St) (Q:Bool→Hp→Prop) (b:Bool) (s':Shared):Prop:=∃ H',Inv X pins σ H' s'∧Q b H'
def AP (X:Cx) (pins:List (Addr×Obj)) (σ:St) (Q:List V→Hp→Prop) (us:List Value) (s':Shared):Prop:=∃ vs H',Inv X pins σ H' s'∧Vals vs us∧Q vs H'
def SP (X:Cx) (pins:List (Addr×Obj)) (D:Ends) (f:Flow) (s':Shared):Prop :=
 match f with
 | .next=>∃ σ' H',Inv X pins σ' H' s'∧D.nx σ' H'
 | .brk=>∃ σ' H',Inv X pins σ' H' s'∧D.bk σ' H'
 | .cont=>∃ σ' H',Inv X pins σ' H' s'∧D.ct σ' H'
 | .ret u=>∃ v σ' H',Inv X pins σ' H' s'∧RelV v u∧D.rt v H'
def PE (X:Cx) (e:Expr) (t:TE):Prop :=
 ∀ (pins:List (Addr×Obj)) (s:Shared) (σ:St) (H:Hp) (Q:VK),Inv X pins σ H s→t σ H Q→wpAny (model X.prog X.w) X.A (eval e X.env) (EP X pins σ Q) X.xe s
def PT (X:Cx) (e:Expr) (t:TT):Prop :=
 ∀ (pins:List (Addr×Obj)) (s:Shared) (σ:St) (H:Hp) (Q:Bool→Hp→Prop),Inv X pins σ H s→t σ H Q→wpAny (model X.prog X.w) X.A (isTrue e X.env (eval e X.env)) (TP X pins σ Q) X.xe s
def PW (X:Cx) (e:Expr) (t:TT):Prop :=
 ∀ (whole:Sem Value) (pins:List (Addr×Obj)) (s:Shared) (σ:St) (H:Hp) (Q:Bool→Hp→Prop),Inv X pins σ H s→t σ H Q→wpAny (model X.prog X.w) X.A (isTrue e X.env whole) (TP X pins σ Q) X.xe s
theorem PW.pt {X:Cx} {e:Expr} {t:TT} (h:PW X e t):PT X e t:=h _
def PA (X:Cx) (es:List Expr) (t:TA):Prop :=
 ∀ (pos:Pos) (pins:List (Addr×Obj)) (s:Shared) (σ:St) (H:Hp) (Q:List V→Hp→Prop),Inv X pins σ H s→t σ H Q→wpAny (model X.prog X.w) X.A (spliced (backTo pos (starEach es X.env))) (AP X pins σ Q) X.xe s
def PS (X:Cx) (st:Stmt) (t:TS):Prop :=
 ∀ (pins:List (Addr×Obj)) (s:Shared) (σ:St) (H:Hp) (D:Ends),Inv X pins σ H s→t D σ H→wpAny (model X.prog X.w) X.A (exec st X.env) (SP X pins D) X.xe s
def PSs (X:Cx) (st:List Stmt) (t:TS):Prop :=
 ∀ (pins:List (Addr×Obj)) (s:Shared) (σ:St) (H:Hp) (D:Ends),Inv X pins σ H s→t D σ H→wpAny (model X.prog X.w) X.A (execs st X.env) (SP X pins D) X.xe s
theorem thn {α:Type} {t:Sem α} {Q Q':α→Shared→Prop} {M:Model} {A:Around} {E:Value→Shared→Prop} {s:Shared} (h:wpAny M A t Q E s) (hQ:∀ a s,Q a s→Q' a s):wpAny M A t Q' E s:=wpAny_mono h hQ fun _ _ x=>x
section
variable {X:Cx}
def tVar (i:Nat):TE:=fun σ H Q=>∃ v,σ[i]?=some (some v)∧Q v H
def tC (v:V):TE:=fun _ H Q=>Q v H
theorem Xf2 {i:Nat} {x:Str} {pos:Pos} (hN:X.N[i]?=some x) (hv:Vis X.env.scope x) (hd:(x == ("__debug__":Str))=false:=by decide) (hcd:(x == ("__classdict__":Str))=false:=by decide):PE X (.Name x pos) (tVar i):=by
 intro f s j H Q I h;obtain⟨v,e,h⟩:=h;obtain⟨m,k,o⟩:=I.loc;obtain⟨u,r,l⟩:=o i x v hN e hv;have d:EP X f j Q u s:=⟨v,H,I,r,h⟩;rcases l with ⟨a,n⟩ | ⟨a,c,g,b⟩
 ·exact wpAny_Name (wpAny_loadName_local I.ok.kind a k n d) hd
 ·rcases a with a | a
  ·exact wpAny_Name (wpAny_loadName_cell I.ok.kind a g b d) hd
  ·exact wpAny_Name (wpAny_loadName_free I.ok.kind a g b d hcd) hd
theorem Za2 {i j pos}:PE X (.Constant (.int i) j pos) (tC (.int i)):=fun _ _ _ H _ I h=>wpAny_Constant_int ⟨.int i,H,I.tok _,⟨_,rfl⟩,h⟩
theorem Zk3 {b j pos}:PE X (.Constant (.bool b) j pos) (tC (.bl b)):=fun _ _ _ H _ I h=>Constant_bool ⟨.bl b,H,I,rfl,h⟩
theorem We3 {j pos}:PE X (.Constant .none j pos) (tC .non):=fun _ _ _ H _ I h=>Constant_none ⟨.non,H,I,rfl,h⟩
theorem Za9 {x j pos}:PE X (.Constant (.str x) j pos) (tC (.str x)):=fun _ _ _ H _ I h=>Calls.Constant_str ⟨.str x,H,I.tok _,⟨_,rfl⟩,h⟩
def Gl (X:Cx) (x:Str):Prop:=X.env.kindOf x=some .globalImplicit
theorem Zn9 {E:Value→Shared→Prop} {pins:List (Addr×Obj)} {s:Shared} {σ:St} {H:Hp} {x:Str} {u:Value} {pos:Pos} {Q:Value→Shared→Prop} (I:Inv X pins σ H s) (hg:Gl X x) (hm:X.mg x=some u) (h:Q u s)
  (hd:(x == ("__debug__":Str))=false:=by decide):wpAny (model X.prog X.w) X.A (eval (.Name x pos) X.env) Q E s :=
 Calls.Name_function_global I.ok.kind hg (Calls.loadGlobal_global (by rw[I.ok.glob];exact I.mod.glob.keeps I.bk) hm h) hd
theorem Zp8 {E:Value→Shared→Prop} {pins:List (Addr×Obj)} {s:Shared} {σ:St} {H:Hp} {x:Str} {u:Value} {pos:Pos} {Q:Value→Shared→Prop} (I:Inv X pins σ H s) (hg:Gl X x) (hm:X.mg x=none) (hv:bootBuiltins x=some u) (h:Q u s)
  (hn:x≠"__name__":=by decide) (hd:(x == ("__debug__":Str))=false:=by decide):wpAny (model X.prog X.w) X.A (eval (.Name x pos) X.env) Q E s:=by
 obtain⟨c,b,a⟩:=I.mod.blt;exact Calls.Name_function_global I.ok.kind hg (Calls.loadGlobal_builtin (by rw[I.ok.glob];exact I.mod.glob.keeps I.bk) hm (by rw[I.ok.blt];exact b.keeps I.bk) ((a x hn).trans hv) h) hd
theorem Zh9 {x:Str} {v:V} {u:Value} {pos:Pos} (hg:Gl X x) (hm:X.mg x=some u) (r:RelV v u) (hd:(x == ("__debug__":Str))=false:=by decide):PE X (.Name x pos) (tC v) :=
 fun _ _ _ H _ I h=>Zn9 I hg hm ⟨v,H,I,r,h⟩ hd
theorem Zq6 {x:Str} {v:V} {u:Value} {pos:Pos} (hg:Gl X x) (hm:X.mg x=none) (hv:bootBuiltins x=some u) (r:RelV v u) (hn:x≠"__name__":=by decide) (hd:(x == ("__debug__":Str))=false:=by decide):PE X (.Name x pos) (tC v) :=
 fun _ _ _ H _ I h=>Zp8 I hg hm hv ⟨v,H,I,r,h⟩ hn hd
variable {a b:Expr} {ta tb:TE} {pos:Pos}
def PC (X:Cx) (op:CmpOp) (a b:Expr) (t:TE):Prop :=
 ∀ (pins:List (Addr×Obj)) (s:Shared) (σ:St) (H:Hp) (Q:VK),Inv X pins σ H s→t σ H Q →
  wpAny (model X.prog X.w) X.A (eval a X.env) (fun v s₁=>wpAny (model X.prog X.w) X.A (eval b X.env) (fun u s₂=>wpAny (model X.prog X.w) X.A (compareOp op v u) (EP X pins σ Q) X.xe s₂) X.xe s₁) X.xe s
def tB (t:TE):TT:=fun σ H Q=>t σ H fun x H1=>∃ c,x=.bl c∧Q c H1
theorem We6 {op:CmpOp} {t:TE} (h:PC X op a b t) (h1:behindInMarks op b=false:=by first | exact nobehind _ (by decide) (by decide) | rfl):PE X (.Compare a [op] [b] pos) t:=fun c s d H Q I e=>wpAny_Compare1 (h c s d H Q I e) h1
theorem Zj7 {e:Expr} {t:TE} (h:PE X e t) (he:∀ whole,isTrue e X.env whole=(do let v ← whole;standAt e.pos;holding [v] (truthy v)):=by intro _;rfl):PT X e (tB t):=by
 intro a s b H Q I c;refine isTrue_plain (thn (h a s b H _ I c) fun v s1 ⟨x,H1,I1,r1,q1⟩=>?_) (he _);obtain⟨d,rfl,q⟩:=q1;cases r1;exact wpAny_truthy_bool ⟨H1,I1,q⟩
variable {tA tB':TT} {rest:List Expr}
def tAnd (t u:TT):TT:=fun σ H Q=>t σ H fun c H1=>if c=true then u σ H1 Q else Q false H1
def tOr (t u:TT):TT:=fun σ H Q=>t σ H fun c H1=>if c=true then Q true H1 else u σ H1 Q
def tNot (t:TT):TT:=fun σ H Q=>t σ H fun c H1=>Q (!c) H1
theorem Zt9 (ha:PT X a tA):PW X (.BoolOp .And [a] pos) tA:=by
 intro f b s d H Q I h;refine isTrue_and (thn (ha b s d H Q I h) fun c g e=>?_)
 cases c with
 | true=>exact isTrue_and_nil e
 | false=>exact e
theorem Yk2 (ha:PT X a tA):PW X (.BoolOp .Or [a] pos) tA:=by
 intro f b s d H Q I h;refine isTrue_or (thn (ha b s d H Q I h) fun c g e=>?_)
 cases c with
 | false=>exact isTrue_or_nil e
 | true=>exact e
theorem Yc3 (ha:PT X a tA) (hb:PW X (.BoolOp .And (b :: rest) pos) tB'):PW X (.BoolOp .And (a :: b :: rest) pos) (tAnd tA tB'):=by
 intro f d s e H Q I h;refine isTrue_and (thn (ha d s e H _ I h) fun c s1 ⟨H1,I1,q1⟩=>?_)
 cases c with
 | true=>exact hb f d s1 e H1 Q I1 q1
 | false=>exact⟨H1,I1,q1⟩
theorem Yk3 (ha:PT X a tA) (hb:PW X (.BoolOp .Or (b :: rest) pos) tB'):PW X (.BoolOp .Or (a :: b :: rest) pos) (tOr tA tB'):=by
 intro f d s e H Q I h;refine isTrue_or (thn (ha d s e H _ I h) fun c s1 ⟨H1,I1,q1⟩=>?_)
 cases c with
 | true=>exact⟨H1,I1,q1⟩
 | false=>exact hb f d s1 e H1 Q I1 q1
theorem Zk8 (ha:PT X a tA):PT X (.UnaryOp .Not a pos) (tNot tA):=by
 intro b s d H Q I h;exact isTrue_not (ha b s d H (fun c e=>Q (!c) e) I h)
def Yo5 (ta tb:TE):TE:=fun σ H Q=>ta σ H fun x H1=>∃ c,x=.bl c∧if c=true then tb σ H1 Q else Q (.bl false) H1
def Yo2 (ta:TE):TE:=fun σ H Q=>ta σ H fun x H1=>∃ c,x=.bl c∧Q (.bl (!c)) H1
theorem Xf3 {op} {t:TE} (h:PE X a t):PE X (.BoolOp op [a] pos) t:=fun b s c H Q I d=>BoolOp_one (h b s c H Q I d)
theorem Yv8 (ha:PE X a ta) (hb:PE X (.BoolOp .And (b :: rest) pos) tb):PE X (.BoolOp .And (a :: b :: rest) pos) (Yo5 ta tb):=by
 intro d s f H Q I h;refine BoolOp_and (thn (ha d s f H _ I h) fun v s1 ⟨x,H1,I1,r1,e⟩=>?_);obtain⟨c,rfl,e⟩:=e;cases r1;refine wpAny_truthy_bool ?_
 cases c with
 | true=>exact hb d s1 f H1 Q I1 e
 | false=>exact⟨.bl false,H1,I1,rfl,e⟩
theorem We2 (ha:PE X a ta):PE X (.UnaryOp .Not a pos) (Yo2 ta):=by
 intro d s e H Q I h;refine UnaryOp_ (thn (ha d s e H _ I h) fun v s1 ⟨x,H1,I1,r1,b⟩=>?_);obtain⟨c,rfl,b⟩:=b;cases r1;exact not_of (wpAny_truthy_bool ⟨.bl (!c),H1,I1,rfl,b⟩)
def tIf (t:TT) (ta tb:TE):TE:=fun σ H Q=>t σ H fun c H1=>if c=true then ta σ H1 Q else tb σ H1 Q
theorem Yf4 {c:Expr} (hc:PT X c tA) (ha:PE X a ta) (hb:PE X b tb):PE X (.IfExp c a b pos) (tIf tA ta tb):=by
 intro e s f H Q I h;refine wpAny_IfExp (thn (hc e s f H _ I h) fun d s1 ⟨H1,I1,q1⟩=>?_)
 cases d with
 | true=>exact ha e s1 f H1 Q I1 q1
 | false=>exact hb e s1 f H1 Q I1 q1
end
def SqL (K:W.Frag) (H:Hp) (a:Addr) (xs:List V):Prop :=
 Rd H a (.lst xs) ∨
  ∃ (o:Obj) (its:Array Value) (n:Nat),K.lookup a=some o∧o.cls=.type "list"∧o.dict=none∧o.data=.seq its n∧its.size≤sizeLine∧Vals xs its.toList
def SqT (K:W.Frag) (H:Hp) (a:Addr) (xs:List V):Prop :=
 Rd H a (.tup xs) ∨
  ∃ (o:Obj) (its:Array Value) (n:Nat),K.lookup a=some o∧o.cls=.type "tuple"∧o.data=.seq its n∧its.size≤sizeLine∧Vals xs its.toList
noncomputable def absV:Value→Option V
 | .none=>some .non
 | .bool b=>some (.bl b)
 | .int i _=>some (.int i)
 | .str x _=>some (.str x)
 | .bytes b _=>some (.byt b)
 | .float b _=>some (.flt b)
 | .ref a=>some (.ref a)
 | .type n=>some (.ty n)
 | _=>none
theorem RelV.abs {x:V} {u:Value} (r:RelV x u):absV u=some x:=by
 cases x with
 | non=>cases r;rfl
 | bl _=>cases r;rfl
 | int _=>obtain⟨t,rfl⟩:=r;rfl
 | str _=>obtain⟨t,rfl⟩:=r;rfl
 | byt _=>obtain⟨t,rfl⟩:=r;rfl
 | flt _=>obtain⟨t,rfl⟩:=r;rfl
 | ref _=>cases r;rfl
 | ty _=>cases r;rfl
theorem RelV.inj {x y:V} {u:Value} (r:RelV x u) (q:RelV y u):x=y:=Option.some.inj (r.abs.symm.trans q.abs)
theorem Vals.inj:∀ {xs ys:List V} {us:List Value},Vals xs us→Vals ys us→xs=ys
 | _,_,_,.nil,.nil=>rfl
 | _,_,_,.cons r t,.cons r' t'=>by rw[r.inj r',Vals.inj t t']
section
variable {X:Cx} {pins:List (Addr×Obj)} {σ:St} {H:Hp} {s:Shared} {a:Addr} {xs ys:List V}
theorem SqL.of {K:W.Frag} (h:H a=some (.lst xs)):SqL K H a xs:=.inl (.inl h)
theorem Inv.list (I:Inv X pins σ H s) (h:SqL X.K H a xs):∃ its:List Value,Vals xs its∧PlainL s.heap a its.toArray∧xs.length≤sizeLine:=by
 rcases h with h | ⟨o,its,n,c,f,d,b,g,r⟩
 ·obtain⟨z,its,n,r,e⟩:=h.ok I.hok
  exact⟨its,r,⟨_,n,e,rfl,rfl,rfl⟩,z⟩
 ·refine⟨its.toList,r,⟨o,n,I.kIn a o c,f,d,by simpa using b⟩,?_⟩
  have e:=r.length;simp only[Array.length_toList] at e;omega
theorem Inv.tuple (I:Inv X pins σ H s) (h:SqT X.K H a xs):∃ its:List Value,Vals xs its∧IsTup s.heap a its.toArray∧xs.length≤sizeLine:=by
 rcases h with h | ⟨o,its,n,c,d,b,f,r⟩
 ·obtain⟨z,its,r,p⟩:=h.ok I.hok
  exact⟨its,r,p,z⟩
 ·refine⟨its.toList,r,⟨o,I.kIn a o c,d,n,by simpa using b⟩,?_⟩
  have e:=r.length;simp only[Array.length_toList] at e;omega
theorem Inv.list_inj (I:Inv X pins σ H s) (h:SqL X.K H a xs) (h':SqL X.K H a ys):xs=ys:=by
 obtain⟨b,r,⟨o,n,e,_,_,d⟩,_⟩:=I.list h;obtain⟨its',g,⟨i,j,c,_,_,f⟩,_⟩:=I.list h';rw[e] at c;cases c;rw[d] at f;injection f with d1 _
 have:b=its':=by simpa using congrArg Array.toList d1
 subst this;exact r.inj g
theorem Inv.tuple_inj (I:Inv X pins σ H s) (h:SqT X.K H a xs) (h':SqT X.K H a ys):xs=ys:=by
 obtain⟨b,r,⟨o,e,_,n,d⟩,_⟩:=I.tuple h;obtain⟨its',g,⟨i,c,_,j,f⟩,_⟩:=I.tuple h';rw[e] at c;cases c;rw[d] at f;injection f with d1 _
 have:b=its':=by simpa using congrArg Array.toList d1
 subst this;exact r.inj g
end
noncomputable abbrev Cx.wish (X:Cx) (E:Value→Shared→Prop):Cx:={ X with xe:=E }
noncomputable abbrev Cx.nox (X:Cx):Cx:=X.wish fun _ _=>False
theorem Cx.Ok.wish {X:Cx} (ok:X.Ok) (E:Value→Shared→Prop):(X.wish E).Ok :=
 ⟨ok.mod,ok.kind,ok.glob,ok.blt,ok.above,ok.inj,ok.has,ok.cab,ok.hd,ok.frames,ok.stk,ok.exf,ok.bs,ok.bsz,ok.noex,ok.exfs,ok.funs,ok.frf⟩
theorem Cx.Ok.unwish {X:Cx} {E:Value→Shared→Prop} (ok:(X.wish E).Ok):X.Ok :=
 ⟨ok.mod,ok.kind,ok.glob,ok.blt,ok.above,ok.inj,ok.has,ok.cab,ok.hd,ok.frames,ok.stk,ok.exf,ok.bs,ok.bsz,ok.noex,ok.exfs,ok.funs,ok.frf⟩
section
variable {X:Cx} {pins:List (Addr×Obj)} {σ:St} {H:Hp} {s:Shared} {E:Value→Shared→Prop}
theorem Inv.wish (I:Inv X pins σ H s) (E:Value→Shared→Prop):Inv (X.wish E) pins σ H s:=⟨I.ok.wish E,I.os,I.bare,I.base,I.loc,I.cell,I.free,I.freeC,I.pin,I.hok,I.len⟩
theorem Inv.unwish (I:Inv (X.wish E) pins σ H s):Inv X pins σ H s:=⟨I.ok.unwish,I.os,I.bare,I.base,I.loc,I.cell,I.free,I.freeC,I.pin,I.hok,I.len⟩
theorem SP.unwish {D:Ends} {f:Flow} {s':Shared} (h:SP (X.wish E) pins D f s'):SP X pins D f s':=by
 cases f with
 | next=>obtain⟨a,b,I,q⟩:=h;exact⟨a,b,I.unwish,q⟩
 | brk=>obtain⟨a,b,I,q⟩:=h;exact⟨a,b,I.unwish,q⟩
 | cont=>obtain⟨a,b,I,q⟩:=h;exact⟨a,b,I.unwish,q⟩
 | ret u=>obtain⟨v,a,b,I,r,q⟩:=h;exact⟨v,a,b,I.unwish,r,q⟩
theorem PSs.nox {st:List Stmt} {t:TS} (h:PSs X.nox st t):PSs X st t:=fun a s b H D I c =>
 wpAny_mono (h a s b H D (I.wish _) c) (fun _ _ q=>q.unwish) fun _ _ z=>False.elim z
end
section
variable {X:Cx} {st:Stmt} {rest:List Stmt} {t u:TS} {e:Expr} {te:TE} {pos:Pos}
def Xd6:TS:=fun D σ H=>D.nx σ H
def tSeq (t u:TS):TS:=fun D σ H=>t { D with nx:=u D } σ H
theorem Zb4:PSs X [] Xd6:=fun _ _ a H _ I h=>wpAny_execs_nil ⟨a,H,I,h⟩
theorem Za3 (h1:PS X st t) (h2:PSs X rest u):PSs X (st :: rest) (tSeq t u):=by
 intro a s c H D I h;refine wpAny_execs_cons (thn (h1 a s c H { D with nx:=u D } I h) fun f d q=>?_)
 cases f with
 | next =>
  obtain⟨b,g,e,q⟩:=q;exact h2 a d b g D e q
 | ret v=>exact q
 | brk=>exact q
 | cont=>exact q
theorem Za8 (h1:PS X st t):PSs X [st] t:=by
 intro a s b H D I h;refine wpAny_execs_cons (thn (h1 a s b H D I h) fun f c q=>?_)
 cases f with
 | next=>exact wpAny_execs_nil q
 | ret v=>exact q
 | brk=>exact q
 | cont=>exact q
theorem Inv.quiet {pins:List (Addr×Obj)} {σ:St} {H:Hp} {s:Shared} (I:Inv X pins σ H s):interactive X.env=false:=by simp[interactive,I.ok.kind]
def Xv5 (te:TE):TS:=fun D σ H=>te σ H fun _ H1=>D.nx σ H1
theorem Zm1 (he:PE X e te) (hs:swapsWith e none pos.line X.env=pure false:=by rfl):PS X (.Expr e pos) (Xv5 te):=by
 intro a s b H D I h;exact wpAny_Expr_any (thn (he a s b H _ I h) fun v s1 ⟨x,H1,I1,r1,q1⟩=>⟨b,H1,I1,q1⟩) I.quiet hs
def tRet (te:TE):TS:=fun D σ H=>te σ H D.rt
theorem Zb3 (he:PE X e te):PS X (.Return (some e) pos) (tRet te):=by
 intro a s b H D I h;exact wpAny_Return_some (thn (he a s b H _ I h) fun v s1 ⟨x,H1,I1,r1,q1⟩=>⟨x,b,H1,I1,r1,q1⟩)
def tIfS (c:TT) (t u:TS):TS:=fun D σ H=>c σ H fun b H1=>if b=true then t D σ H1 else u D σ H1
theorem Zd2 {c:Expr} {a b:List Stmt} {tc:TT} (hc:PT X c tc) (ha:PSs X a t) (hb:PSs X b u):PS X (.If c a b pos) (tIfS tc t u):=by
 intro e s f H D I h;refine wpAny_If (thn (hc e s f H _ I h) fun d s1 ⟨H1,I1,q1⟩=>?_)
 cases d with
 | true=>exact ha e s1 f H1 D I1 q1
 | false=>exact hb e s1 f H1 D I1 q1
end
noncomputable abbrev TG:=V→St→Hp→(St→Hp→Prop)→Prop
noncomputable abbrev TGs:=List V→St→Hp→(St→Hp→Prop)→Prop
def PG (X:Cx) (target:Expr) (t:TG):Prop :=
 ∀ (pins:List (Addr×Obj)) (s:Shared) (σ:St) (H:Hp) (v:V) (u:Value) (Q:St→Hp→Prop),Inv X pins σ H s→RelV v u→t v σ H Q →
  wpAny (model X.prog X.w) X.A (assign target X.env u) (fun _ s'=>∃ σ' H',Inv X pins σ' H' s'∧Q σ' H') X.xe s
def PGs (X:Cx) (ts:List Expr) (t:TGs):Prop :=
 ∀ (pins:List (Addr×Obj)) (s:Shared) (σ:St) (H:Hp) (vs:List V) (us:List Value) (Q:St→Hp→Prop),Inv X pins σ H s→Vals vs us→t vs σ H Q →
  wpAny (model X.prog X.w) X.A (assignInOrder ((assignEach ts X.env).map (·.2)) us) (fun _ s'=>∃ σ' H',Inv X pins σ' H' s'∧Q σ' H') X.xe s
noncomputable abbrev TSet:=V→V→V→Hp→(Hp→Prop)→Prop
def PSet (X:Cx) (t:TSet):Prop :=
 ∀ (pins:List (Addr×Obj)) (s:Shared) (σ:St) (H:Hp) (o i v:V) (ov iv u:Value) (Q:Hp→Prop),Inv X pins σ H s→RelV o ov→RelV i iv→RelV v u→t o i v H Q →
  wpAny (model X.prog X.w) X.A (setItem ov iv u) (fun _ s'=>∃ H',Inv X pins σ H' s'∧Q H') X.xe s
noncomputable abbrev TIp:=V→V→Hp→VK→Prop
def PIp (X:Cx) (op:Operator) (t:TIp):Prop :=
 ∀ (pins:List (Addr×Obj)) (s:Shared) (σ:St) (H:Hp) (x y:V) (v u:Value) (Q:VK),Inv X pins σ H s→RelV x v→RelV y u→t x y H Q →
  wpAny (model X.prog X.w) X.A (inplaceOp op v u) (EP X pins σ Q) X.xe s
section
variable {X:Cx} {pos:Pos}
def Ya4 (i:Nat):TG:=fun v σ H Q=>Q (σ.set i (some v)) H
theorem Zc0 {i:Nat} {x:Str} (hN:X.N.Nodup) (hi:X.N[i]?=some x) (hx:Loc X.env.scope x) (hf:X.fn x=true∨X.env.scope.names.lookup x=some .local:=by first | exact .inl rfl | exact .inr rfl | assumption):PG X (.Name x pos) (Ya4 i):=by
 intro a s c H v u Q I r h;exact wpAny_assign_Name (Zl8 I hN hi hx r (fun d b=>⟨_,H,b,h⟩) hf)
def gNil:TGs:=fun vs σ H Q=>vs=[]∧Q σ H
def Xa2 (t:TG) (u:TGs):TGs:=fun vs σ H Q=>∃ v r,vs=v :: r∧t v σ H fun σ' H'=>u r σ' H' Q
theorem Ze3:PGs X [] gNil:=by
 intro b s a H c d Q I r h;obtain⟨e,h⟩:=h;subst e;cases r;exact assignInOrder_nil ⟨a,H,I,h⟩
theorem Zb8 {e:Expr} {es:List Expr} {t:TG} {u:TGs} (h1:PG X e t) (h2:PGs X es u)
  (hs:(assignEach (e :: es) X.env).map (·.2)=assign e X.env :: (assignEach es X.env).map (·.2):=by rfl):PGs X (e :: es) (Xa2 t u):=by
 intro a s b H d g Q I r h;obtain⟨v,f,c,h⟩:=h;subst c
 cases r with
 | cons r rr =>
  rw[hs];refine assignInOrder_cons (thn (h1 a s b H _ _ _ I r h) fun _ s1 ⟨σ1,H1,I1,q1⟩=>?_);exact h2 a s1 σ1 H1 _ _ Q I1 rr q1
def gTup (K:W.Frag) (n:Nat) (t:TGs):TG:=fun v σ H Q=>∃ a xs,v=.ref a∧SqT K H a xs∧xs.length=n∧t xs σ H Q
theorem Zg4 {es:List Expr} {k:Nat} {t:TGs} {n:Nat} (hc:X.calm=true) (h:PGs X es t)
  (hn:(assignEach es X.env).length=n:=by rfl) (hst:(assignEach es X.env).findIdx? (·.1)=none:=by rfl):PG X (.Tuple es k pos) (gTup X.K n t):=by
 intro c s f H v u Q I r d;obtain⟨a,i,w,m,p,d⟩:=d;subst w;cases r;obtain⟨y,g,l,z⟩:=I.tuple m;refine assign_Tuple_tuple (I.ok.hd hc) l (by simp[hn,← p,g.length]) hst fun q j=>?_;have x:Inv X c f H { s with heap:=q }:=I.kept (t':=s.toks) fun b o e=>j b o (Nat.ne_of_lt (Heap.lt_size e)) e;exact h c _ f H i _ Q x (by simpa using g) d
def gSub (to ti:TE) (t:TSet):TG:=fun v σ H Q=>to σ H fun o H1=>ti σ H1 fun i H2=>t o i v H2 fun H3=>Q σ H3
theorem Wd9 {o i:Expr} {to ti:TE} {t:TSet} (ho:PE X o to) (hi:PE X i ti) (hs:PSet X t)
  (ha:∀ v,assign (.Subscript o i pos) X.env v=(do
   let ov ← holding [v] (eval o X.env)
   let iv ← holding [v,ov] (eval i X.env)
   standAt pos
   holding [v,ov,iv] (setItem ov iv v)
   release [v,ov,iv] []):=by intro _;rfl):PG X (.Subscript o i pos) (gSub to ti t):=by
 intro a s b H v u Q I r h;rw[ha];refine wpAny_bind (wpAny_holding (thn (ho a s b H _ I h) fun ov s1 ⟨x,H1,I1,r1,q1⟩=>?_));refine wpAny_bind (wpAny_holding (thn (hi a s1 b H1 _ I1 q1) fun iv s2 ⟨y,H2,I2,r2,q2⟩=>?_));refine wpAny_bind (wpAny_standAt (wpAny_bind (wpAny_holding (thn (hs a s2 b H2 x y v ov iv u _ I2 r1 r2 r q2) fun _ s3 ⟨H3,I3,q3⟩=>?_))));exact wpAny_release ⟨b,H3,I3,q3⟩
def tAsg (te:TE) (g:TG):TS:=fun D σ H=>te σ H fun x H1=>g x σ H1 D.nx
theorem Zk9 {tg e:Expr} {te:TE} {g:TG} (he:PE X e te) (hg:PG X tg g) (hs:swapsWithSole [tg] e pos.line X.env=pure false:=by rfl) (hw:swappedStores [tg] e X.env=pure none:=by rfl)
  (h1:(assignEach [tg] X.env).map (·.2)=[assign tg X.env]:=by rfl):PS X (.Assign [tg] e pos) (tAsg te g):=by
 intro a s b H D I h;refine wpAny_Assign_stores (thn (he a s b H _ I h) fun v s1 ⟨x,H1,I1,r1,q1⟩=>?_) hs hw;rw[h1];exact thn (hg a s1 b H1 x v _ I1 r1 q1) fun _ c q=>q
theorem Zv0 {i:Nat} {x:Str} {e:Expr} {te:TE} {pos':Pos} (hN:X.N.Nodup) (hi:X.N[i]?=some x) (hx:Loc X.env.scope x) (he:PE X e te) (hs:swapsWith e (some (.Name x pos')) pos.line X.env=pure false:=by rfl) (hf:X.fn x=true∨X.env.scope.names.lookup x=some .local:=by first | exact .inl rfl | exact .inr rfl | assumption) :
  PS X (.Assign [.Name x pos'] e pos) (tAsg te (Ya4 i)):=by
 intro a s b H D I h;refine wpAny_Assign_Name (thn (he a s b H _ I h) fun v s1 ⟨y,H1,I1,r1,q1⟩=>?_) hs;exact Zl8 I1 hN hi hx r1 (fun d c=>⟨_,H1,c,q1⟩) hf
def tAug (i:Nat) (te:TE) (ti:TIp):TS:=fun D σ H=>∃ x,σ[i]?=some (some x)∧te σ H fun y H1=>ti x y H1 fun z H2=>D.nx (σ.set i (some z)) H2
theorem Wd6 {i:Nat} {x:Str} {e:Expr} {te:TE} {op:Operator} {ti:TIp} {pos':Pos} (hN:X.N.Nodup) (hi:X.N[i]?=some x) (hx:Loc X.env.scope x) (he:PE X e te) (ho:PIp X op ti) (hf:X.fn x=true∨X.env.scope.names.lookup x=some .local:=by first | exact .inl rfl | exact .inr rfl | assumption) :
  PS X (.AugAssign (.Name x pos') op e pos) (tAug i te ti):=by
 intro b s f H D I h;obtain⟨v,t,h⟩:=h;obtain⟨m,n,p⟩:=I.loc
 have g:Vis X.env.scope x:=by rcases hx with k | k;exact .inl k;exact .inr (.inl k)
 obtain⟨u,r,l⟩:=p i x v hi t g;refine wpAny_AugAssign_Name ?_
 have j:wpAny (model X.prog X.w) X.A (eval e X.env) (fun w s₂=>wpAny (model X.prog X.w) X.A (inplaceOp op u w) (fun r s₃=>wpAny (model X.prog X.w) X.A (storeName X.env x r) (fun _=>SP X b D .next) X.xe s₃) X.xe s₂) X.xe s:=by
  refine thn (he b s f H _ I h) fun w s1 ⟨y,H1,I1,r1,q1⟩=>?_;refine thn (ho b s1 f H1 v y u w _ I1 r r1 q1) fun z s2 ⟨zv,H2,I2,r2,q2⟩=>?_;exact Zl8 I2 hN hi hx r2 (fun C B=>⟨_,H2,B,q2⟩) hf
 rcases l with ⟨a,o⟩ | ⟨a,c,q,d⟩
 ·exact wpAny_loadName_local I.ok.kind a n o j
 ·rcases a with a | a
  ·exact wpAny_loadName_cell I.ok.kind a q d j
  ·rcases hx with k | k
   ·have:X.env.scope.names.lookup x=some .free:=a
    rw[k] at this;cases this
   ·have:X.env.scope.names.lookup x=some .free:=a
    rw[k] at this;cases this
noncomputable def ipI (f:Int→Int→Int):TIp:=fun x y H Q=>∃ i j,x=.int i∧y=.int j∧Q (.int (f i j)) H
theorem Wj7:PIp X .Add (ipI fun i j=>i+j):=by
 intro c s f H x y v u Q I b a h;obtain⟨i,j,e,d,q⟩:=h;subst e;subst d;obtain⟨t,rfl⟩:=b;obtain⟨g,rfl⟩:=a;exact iadd_int ⟨.int _,H,I.tok _,⟨_,rfl⟩,q⟩
end
section
variable {X:Cx} {pos:Pos}
def Wb7 (c:TT) (tb:TS):TS:=fun D σ H=>∃ W:Nat→St→Hp→Prop,(∃ m,W m σ H)∧∀ m σ H,W m σ H →
 c σ H fun b H1=>if b=true then ∃ N:St→Hp→Prop,(∀ σ' H',N σ' H'→∃ m',m' < m∧W m' σ' H')∧tb { D with nx:=N,ct:=N,bk:=D.nx } σ H1 else D.nx σ H1
theorem Yv3 {c:Expr} {body:List Stmt} {tc:TT} {tb:TS} (hp:PassesOwn (model X.prog X.w) X.A X.env X.xe) (hc:PT X c tc) (hb:PSs X body tb):PS X (.While c body [] pos) (Wb7 tc tb):=by
 intro d s u H D I h;obtain⟨W,⟨C,y⟩,l⟩:=h;refine wpAny_While (codeAny_whileLoop (fun n B=>∃ σ' H',Inv X d σ' H' B∧W n σ' H') ?_ C ⟨u,H,I,y⟩);rintro n z ⟨e,t,F,x⟩;refine wpAny_passesOwn hp (thn (hc d z e t _ F (l n e t x)) fun b s2 ⟨H2,I2,j⟩=>?_)
 cases b with
 | true =>
  obtain⟨N,r,j⟩:=j;rw[if_pos rfl];refine wpAny_passesOwn hp (thn (hb d s2 e H2 _ I2 j) fun f G i=>?_)
  cases f with
  | next =>
   obtain⟨a,g,q,m⟩:=i;obtain⟨o,p,k⟩:=r a g m;exact⟨o,p,a,g,q,k⟩
  | cont =>
   obtain⟨a,g,q,m⟩:=i;obtain⟨o,p,k⟩:=r a g m;exact⟨o,p,a,g,q,k⟩
  | brk=>exact i
  | ret v=>exact i
 | false =>
  rw[if_neg Bool.false_ne_true];exact wpAny_execs_nil ⟨e,H2,I2,j⟩
end
structure It where
 go:Nat→Hp→Prop
 yld:Nat→Hp→V→Hp→Prop
 stop:Nat→Hp→Prop
def FpOk (X:Cx) (pins:List (Addr×Obj)) (H:Hp) (b:Addr):Prop :=
 H b=none∧b≠X.env.locals∧b ∉ X.fs∧(b∈X.ex∨X.s₀.heap.objs.size≤b)∧(∀ x c,X.env.cells.lookup x=some c→c≠b)∧∀ p∈X.pn++pins,p.1≠b
theorem Inv.fpOk {X:Cx} {pins:List (Addr×Obj)} {σ:St} {H H':Hp} {s:Shared} {b:Addr} (I:Inv X pins σ H s) (hb:s.heap.objs.size≤b) (hn:H' b=none):FpOk X pins H' b:=by
 refine⟨hn,Nat.ne_of_gt (Nat.lt_of_lt_of_le I.lt hb),I.nofs hb,.inr (Nat.le_trans I.sz hb),fun x c e z=>?_,fun p a z=>?_⟩
 ·obtain⟨v,q⟩:=I.cell x c e
  exact absurd (Nat.lt_of_lt_of_le q.lt (by rw[z];exact hb)) (Nat.lt_irrefl _)
 ·exact absurd (Nat.lt_of_lt_of_le (Heap.lt_size (I.pin p a).1) (by rw[z];exact hb)) (Nat.lt_irrefl _)
structure Turn (P:Program) (w:World) (K:W.Frag) (tg:Expr) (J:It) (fp:List Addr) (it:Addr) (tn:Nat→Heap→Prop):Prop where
  mem:it∈fp
  obj:∀ i h,tn i h→∀ b∈fp,∃ o,h.get? b=some o∧∀ v,o.data≠.cell v
  keep:∀ i h h',tn i h→(∀ b∈fp,∀ o,h.get? b=some o→h'.get? b=some o)→tn i h'
  item:∀ (X:Cx),X.prog=P→X.w=w→X.K=K→X.calm=true→∀ (i:Nat) (pins:List (Addr×Obj)) (s:Shared) (σ:St) (H:Hp) (E:Value→Shared→Prop),Inv X pins σ H s→(∀ b∈fp,FpOk X pins H b)→tn i s.heap→J.go i H →
    wpAny (model P w) X.A (pyNext (.ref it)) (fun r s1=>∃ u,r=some u ∧
      wpAny (model P w) X.A (letOwnedTupleGo tg (.ref it) u) (fun _ s2=>∃ x H',Inv X pins σ H' s2∧RelV x u∧J.yld i H x H'∧tn (i+1) s2.heap∧∀ b∈fp,H' b=none) E s1) E s
  done:∀ (X:Cx),X.prog=P→X.w=w→X.K=K→X.calm=true→∀ (i:Nat) (pins:List (Addr×Obj)) (s:Shared) (σ:St) (H:Hp) (E:Value→Shared→Prop),Inv X pins σ H s→(∀ b∈fp,FpOk X pins H b)→tn i s.heap→J.stop i H →
    wpAny (model P w) X.A (pyNext (.ref it)) (fun r s1=>r=none∧Inv X pins σ H s1) E s
  self:∀ (A:Around) (i:Nat) (s:Shared) (Q:Value→Shared→Prop) (E:Value→Shared→Prop),tn i s.heap→Q (.ref it) s→wpAny (model P w) A (pyIter (.ref it)) Q E s
noncomputable abbrev TI:=St→Hp→(It→Hp→Prop)→Prop
def PIE (X:Cx) (pins:List (Addr×Obj)) (σ:St) (tg:Expr) (R:It→Hp→Prop) (itv:Value) (s2:Shared):Prop :=
 ∃ (it:Addr) (fp:List Addr) (tn:Nat→Heap→Prop) (J:It) (H':Hp),itv=.ref it∧Inv X pins σ H' s2∧Turn X.prog X.w X.K tg J fp it tn∧tn 0 s2.heap∧(∀ b∈fp,FpOk X pins H' b)∧R J H'
def PI (X:Cx) (tg iter:Expr) (wi:TI):Prop :=
 ∀ (pins:List (Addr×Obj)) (s:Shared) (σ:St) (H:Hp) (R:It→Hp→Prop),Inv X pins σ H s→wi σ H R →
  wpAny (model X.prog X.w) X.A (eval iter X.env) (fun v s1=>wpAny (model X.prog X.w) X.A (pyIter v) (PIE X pins σ tg R) X.xe s1) X.xe s
theorem Xi9 {M:Model} {A:Around} {E:Value→Shared→Prop} {s:Shared} {tg:Expr} {it:Addr} {u:Value} {o:Obj} {n:String} {vs:Array Value} {Q:Unit→Shared→Prop} (ho:s.heap.get? it=some o) (hc:o.cls=.type n) (hd:o.data=.fields vs)
    (hn:["enumerate","zip","dict_itemiterator","dict_reverseitemiterator","odict_iterator","itertools.zip_longest","itertools.pairwise"].contains n=false) (hQ:Q () s):wpAny M A (letOwnedTupleGo tg (.ref it) u) Q E s:=by
  unfold letOwnedTupleGo
  cases tg<;>first
    | exact wpAny_pure hQ
    | (cases u<;>first
        | exact wpAny_pure hQ
        | (refine wpAny_bind (wpAny_load ho ?_)
           rw[hc,hd];show wpAny M A (if (["enumerate","zip","dict_itemiterator","dict_reverseitemiterator","odict_iterator","itertools.zip_longest","itertools.pairwise"].contains n&&vs[0]? == some (rawInt _))=true then _ else _) Q E s;rw[if_neg (by intro h;rw[hn,Bool.false_and] at h;cases h)]
           exact wpAny_pure hQ))
noncomputable def Itl (K:W.Frag) (a:Addr):It :=
 ⟨fun i H=>∃ xs x,SqL K H a xs∧xs[i]?=some x,fun i H x H'=>H'=H∧∀ xs,SqL K H a xs→xs[i]?=some x,fun i H=>∃ xs,SqL K H a xs∧xs.length≤i⟩
noncomputable def Itt (K:W.Frag) (a:Addr):It :=
 ⟨fun i H=>∃ xs x,SqT K H a xs∧xs[i]?=some x,fun i H x H'=>H'=H∧∀ xs,SqT K H a xs→xs[i]?=some x,fun i H=>∃ xs,SqT K H a xs∧xs.length≤i⟩
noncomputable def Itr (lo:Int) (n:Nat):It:=⟨fun i _=>i < n,fun i H x H'=>H'=H∧x=.int (lo+i),fun i _=>n≤i⟩
theorem Xc3 {P:Program} {w:World} {K:W.Frag} {tg:Expr} (a it:Addr):Turn P w K tg (Itl K a) [it] it (fun i h=>h.IsListIter it a i) where
  mem:=by simp
  obj:=fun i h f b g=>by
    have e:b=it:=by simpa using g
    subst e;obtain⟨o,e,c,d⟩:=f;exact⟨o,e,fun v z=>by rw[d] at z;cases z⟩
  keep:=fun i h n f k=>f.at fun o e=>k it (by simp) o e
  item:=by
    intro X B y C O i j s M H E I m f A;subst B y C;obtain⟨R,x,l,t⟩:=A;obtain⟨N,r,p,U⟩:=I.list l;obtain⟨u,Y,T⟩:=r.get t;obtain⟨L,J,Z,G,F,D⟩:=m it (by simp);refine wpAny_pyNext_list_item f p.isList (x:=u) (by simpa using Y) fun n q S=>?_;have I1:Inv X j M H { s with heap:=n }:=I.turned (t':=s.toks) (fun b o g e=>(S.2 b g).trans e) L J G F D;obtain⟨o,e,c,d⟩:=id q;exact⟨u,rfl,Xi9 (s:={ s with heap:=n }) e c d (by decide) ⟨x,H,I1,T,⟨rfl,fun ys V=>by rw[I.list_inj V l];exact t⟩,q,fun b g=>(m b g).1⟩⟩
  done:=by
    intro X B y C O i j s M H E I m f A;subst B y C;obtain⟨R,l,t⟩:=A;obtain⟨N,r,p,U⟩:=I.list l;obtain⟨L,J,Z,G,F,D⟩:=m it (by simp);have hl:=r.length;exact wpAny_pyNext_list_end (I.ok.hd O) f p.isList (by simp;omega) fun n eb=>⟨rfl,I.turned (t':=s.toks) (fun b o g e=>eb b o g e) L J G F D⟩
  self:=fun _ _ _ _ _ f h=>wpAny_pyIter_listiter f h
theorem Yy2 {P:Program} {w:World} {K:W.Frag} {tg:Expr} (a it:Addr):Turn P w K tg (Itt K a) [it] it (fun i h=>h.IsTupleIter it a i) where
  mem:=by simp
  obj:=fun i h f b g=>by
    have e:b=it:=by simpa using g
    subst e;obtain⟨o,e,c,d⟩:=f;exact⟨o,e,fun v z=>by rw[d] at z;cases z⟩
  keep:=fun i h q f k=>f.at fun o e=>k it (by simp) o e
  item:=by
    intro X C A D O i j s N H E I n f B;subst C A D;obtain⟨R,x,m,y⟩:=B;obtain⟨l,t,p,U⟩:=I.tuple m;obtain⟨u,Y,T⟩:=t.get y;obtain⟨M,L,Z,J,G,F⟩:=n it (by simp);refine wpAny_pyNext_tuple_item f (show s.heap.IsTuple a l.toArray from p) (x:=u) (by simpa using Y) fun q r S=>?_;have I1:Inv X j N H { s with heap:=q }:=I.turned (t':=s.toks) (fun b o g e=>(S.2 b g).trans e) M L J G F;obtain⟨o,e,c,d⟩:=id r;exact⟨u,rfl,Xi9 (s:={ s with heap:=q }) e c d (by decide) ⟨x,H,I1,T,⟨rfl,fun ys V=>by rw[I.tuple_inj V m];exact y⟩,r,fun b g=>(n b g).1⟩⟩
  done:=by
    intro X C A D O i j s N H E I n f B;subst C A D;obtain⟨R,m,y⟩:=B;obtain⟨l,t,p,U⟩:=I.tuple m;obtain⟨M,L,Z,J,G,F⟩:=n it (by simp);have hl:=t.length;exact wpAny_pyNext_tuple_end (I.ok.hd O) f (show s.heap.IsTuple a l.toArray from p) (by simp;omega) fun q eb=>⟨rfl,I.turned (t':=s.toks) (fun b o g e=>eb b o g e) M L J G F⟩
  self:=fun _ _ _ _ _ f h=>wpAny_pyIter_tupleiter f h
theorem Yy3 {P:Program} {w:World} {K:W.Frag} {tg:Expr} (it:Addr) (lo:Int) (n:Nat):Turn P w K tg (Itr lo n) [it] it (fun i h=>IsRangeIter h it (lo+(i:Nat)*1) ((n:Int) - (i:Nat)) 1) where
  mem:=by simp
  obj:=fun i h a b c=>by
    have e:b=it:=by simpa using c
    subst e
    exact⟨_,a,fun v z=>by
      have F:Data.fields _=Data.cell v:=z
      cases F⟩
  keep:=fun i h g a k=>k it (by simp) _ a
  item:=by
    intro X q l r p i d s C H E I f a m;subst q l r;obtain⟨B,A,L,y,x,u⟩:=f it (by simp);have W:=Walks.range (prog:=X.prog) (w:=X.w) (I.ok.hd p) it lo 1 n;refine W.item i s _ _ m a fun v g D J j G=>?_;obtain⟨t,rfl⟩:=J;have N:Inv X d C H { s with heap:=g,toks:=D }:=I.turned (fun b o c e=>G b o (by simpa using c) e) B A y x u;refine⟨_,rfl,Xi9 (s:={ s with heap:=g,toks:=D }) (n:="range_iterator") j rfl rfl (by decide) ⟨.int (lo+i),H,N,⟨t,?_⟩,⟨rfl,rfl⟩,j,fun b c=>(f b c).1⟩⟩;rw[Int.mul_one]
  done:=by
    intro X q l r p i d s C H E I f a m;subst q l r;obtain⟨B,A,L,y,x,u⟩:=f it (by simp);exact wpAny_pyNext_range_end (I.ok.hd p) a (by have:n≤i:=m;omega) fun g M=>⟨rfl,I.turned (t':=s.toks) (fun b o c e=>M b o c e) B A y x u⟩
  self:=fun _ _ _ _ _ a h=>wpAny_pyIter_rangeiter a h
section
variable {X:Cx} {tg:Expr}
def Ys0 (K:W.Frag) (tl:TE):TI:=fun σ H R=>tl σ H fun x H1=>∃ a,x=.ref a∧(∃ xs,SqL K H1 a xs)∧R (Itl K a) H1
def iTup (K:W.Frag) (tl:TE):TI:=fun σ H R=>tl σ H fun x H1=>∃ a,x=.ref a∧(∃ xs,SqT K H1 a xs)∧R (Itt K a) H1
theorem Zq5 {l:Expr} {tl:TE} (hl:PE X l tl):PI X tg l (Ys0 X.K tl):=by
 intro c s d H R I h;refine thn (hl c s d H _ I h) fun v s1 ⟨x,H1,I1,r1,q1⟩=>?_;obtain⟨a,e,⟨j,f⟩,q⟩:=q1;subst e;cases r1;obtain⟨i,k,p,m⟩:=I1.list f;refine wpAny_pyIter_list p.isList ?_;refine⟨s1.heap.objs.size,[s1.heap.objs.size],_,_,H1,rfl,I1.kept (t':=s1.toks) fun b o e=>Heap.get?_push_of_some _ e,Xc3 a _,⟨_,Heap.get?_push_size _ rfl,rfl,rfl⟩,fun b g=>?_,q⟩
 have e:b=s1.heap.objs.size:=by simpa using g
 subst e;exact I1.fpOk (Nat.le_refl _) (I1.hok.fresh (Nat.le_refl _))
theorem Wd8 {l:Expr} {tl:TE} (hl:PE X l tl):PI X tg l (iTup X.K tl):=by
 intro c s f H R I h;refine thn (hl c s f H _ I h) fun v s1 ⟨x,H1,I1,r1,q1⟩=>?_;obtain⟨a,e,⟨j,g⟩,q⟩:=q1;subst e;cases r1;obtain⟨d,k,p,m⟩:=I1.tuple g;refine wpAny_pyIter_tuple (show s1.heap.IsTuple a d.toArray from p) ?_;refine⟨s1.heap.objs.size,[s1.heap.objs.size],_,_,H1,rfl,I1.kept (t':=s1.toks) fun b o e=>Heap.get?_push_of_some _ e,Yy2 a _,⟨_,Heap.get?_push_size _ rfl,rfl,rfl⟩,fun b i=>?_,q⟩
 have e:b=s1.heap.objs.size:=by simpa using i
 subst e;exact I1.fpOk (Nat.le_refl _) (I1.hok.fresh (Nat.le_refl _))
theorem Xp0 {pins:List (Addr×Obj)} {σ:St} {H:Hp} {s:Shared} {R:It→Hp→Prop} {E:Value→Shared→Prop} {lo hi:Int} {t u v:Tok} {tk:Nat} (I:Inv X pins σ H s) (h1:-(2 ^ 62)≤lo) (h2:lo < 2 ^ 62) (h3:-(2 ^ 62)≤hi) (h4:hi < 2 ^ 62)
  (q:R (Itr lo (hi - lo).toNat) H):wpAny (model X.prog X.w) X.A (pyIter (.ref s.heap.objs.size)) (PIE X pins σ tg R) E { s with heap:=s.heap.push { cls:=.type "range",data:=.fields #[.int lo t,.int hi u,.int 1 v] },toks:=tk }:=by
 refine wpAny_pyIter_range (IsRange.new ..) (small_one h1 h2 h3 h4) ?_;have a:Inv X pins σ H { s with heap:=s.heap.push { cls:=.type "range",data:=.fields #[.int lo t,.int hi u,.int 1 v] },toks:=tk }:=I.kept fun b o e=>Heap.get?_push_of_some _ e
 refine⟨(s.heap.push { cls:=.type "range",data:=.fields #[.int lo t,.int hi u,.int 1 v] }).objs.size,[(s.heap.push { cls:=.type "range",data:=.fields #[.int lo t,.int hi u,.int 1 v] }).objs.size],_,_,H,rfl,
  a.kept (t':=tk) fun b o e=>Heap.get?_push_of_some _ e,Yy3 _ lo (hi - lo).toNat,?_,fun b c=>?_,q⟩
 ·have f:lo+((0:Nat):Int)*1=lo:=by simp
  have d:(((hi - lo).toNat:Nat):Int) - ((0:Nat):Int)=Builtin.Range.rangeSize lo hi 1:=by rw[rangeSize_one];split<;>omega
  show IsRangeIter _ _ (lo+((0:Nat):Int)*1) ((((hi - lo).toNat:Nat):Int) - ((0:Nat):Int)) 1;rw[f,d];exact Heap.get?_push_size _ rfl
 ·have e:b=(s.heap.push { cls:=.type "range",data:=.fields #[.int lo t,.int hi u,.int 1 v] }).objs.size:=by simpa using c
  subst e;exact a.fpOk (Nat.le_refl _) (a.hok.fresh (Nat.le_refl _))
def Yr7 (ta:TA):TI:=fun σ H R=>ta σ H fun vs H1=>∃ j:Int,vs=[.int j]∧-(2 ^ 62)≤j∧j < 2 ^ 62∧R (Itr 0 j.toNat) H1
theorem Zz1 {a:Expr} {ta:TA} {p pos:Pos} (hg:Gl X "range") (hm:X.mg "range"=none) (ha:PA X [a] ta) (hs:starEach [a] X.env=[(false,eval a X.env)]:=by rfl):PI X tg (.Call (.Name "range" p) [a] [] pos) (Yr7 ta):=by
 intro c s d H R I h;refine Call_ (Zp8 I hg hm boot_range (PyProof.Rows.callWith_type1 (thn (ha pos c s d H _ I h) fun us s1 ⟨vs,H1,I1,r1,b⟩=>?_) hs rfl));obtain⟨j,e,b,f,q⟩:=b;subst e
 cases r1 with
 | cons r rr =>
  cases rr;obtain⟨t,rfl⟩:=r;exact call_range_1 (Xp0 I1 (by omega) (by omega) b f (by simpa using q))
def tFor (wi:TI) (g:TG) (tb:TS):TS:=fun D σ H=>wi σ H fun J H1=>∃ W:Nat→Nat→St→Hp→Prop,(∃ m,W 0 m σ H1)∧∀ i m σ H,W i m σ H →
 (J.stop i H∧D.nx σ H)∨(J.go i H∧∃ N:St→Hp→Prop,(∀ σ' H',N σ' H'→∃ m',m' < m∧W (i+1) m' σ' H')∧∀ x H',J.yld i H x H'→g x σ H' fun σ2 H2=>tb { D with nx:=N,ct:=N,bk:=D.nx } σ2 H2)
noncomputable def Yv6 (fp:List Addr) (h:Heap):List (Addr×Obj):=fp.filterMap fun b=>(h.get? b).map fun o=>(b,o)
theorem Zj4 {fp:List Addr} {h:Heap} {b:Addr} {o:Obj} (hb:b∈fp) (e:h.get? b=some o):(b,o)∈Yv6 fp h:=List.mem_filterMap.mpr ⟨b,hb,by rw[e];rfl⟩
theorem Xf8 {fp:List Addr} {h:Heap} {p:Addr×Obj} (hp:p∈Yv6 fp h):p.1∈fp∧h.get? p.1=some p.2:=by
 obtain⟨b,a,e⟩:=List.mem_filterMap.mp hp
 cases q:h.get? b with
 | none=>rw[q] at e;cases e
 | some o =>
  rw[q] at e;have c:(b,o)=p:=Option.some.inj e;subst c;exact⟨a,q⟩
theorem Inv.pinned {pins:List (Addr×Obj)} {σ:St} {H:Hp} {s:Shared} {fp:List Addr} (I:Inv X pins σ H s) (hf:∀ b∈fp,FpOk X pins H b) (ho:∀ b∈fp,∃ o,s.heap.get? b=some o∧∀ v,o.data≠.cell v):Inv X (pins++Yv6 fp s.heap) σ H s :=
 I.pins_of fun p f=>(List.mem_append.mp f).elim (fun z=>I.pin p (List.mem_append_right _ z)) fun z=>by
  obtain⟨a,e⟩:=Xf8 z;obtain⟨i,h,g,_⟩:=hf p.1 a;obtain⟨o,c,d⟩:=ho p.1 a;rw[e] at c;cases c;exact⟨e,i,h,g,d⟩
theorem Inv.unpinned {pins pl:List (Addr×Obj)} {σ:St} {H:Hp} {s:Shared} (I:Inv X (pins++pl) σ H s):Inv X pins σ H s:=I.pins_of fun p a=>I.pin p (List.mem_append_right _ (List.mem_append_left _ a))
theorem Zp6 {iter:Expr} {body:List Stmt} {wi:TI} {g:TG} {tb:TS} {pos:Pos} (hp:PassesOwn (model X.prog X.w) X.A X.env X.xe) (hc:X.calm=true) (hi:PI X tg iter wi) (hg:PG X tg g) (hb:PSs X body tb)
  (hs:∀ x,foldedSetIterable iter X.env x=pure x:=by intro _;rfl):PS X (.For tg iter body [] pos) (tFor wi g tb):=by
 intro c s R H D I h;refine wpAny_For (thn (hi c s R H _ I h) fun v s1 h1=>thn h1 fun q1 s2 h2=>?_) hs;obtain⟨it,z,S,J,H2,e,I2,T,U,Z,W,⟨m0,w0⟩,G⟩:=h2;subst e;have q:∀ {H':Hp},(∀ b∈z,H' b=none)→∀ b∈z,FpOk X c H' b:=fun hn b hb=>⟨hn b hb,(Z b hb).2⟩;refine codeAny_forLoop_any (fun n Y=>∃ i σ' H',Inv X c σ' H' Y∧S i Y.heap∧(∀ b∈z,H' b=none)∧W i n σ' H') ?_ m0 ⟨0,R,H2,I2,U,fun b hb=>(Z b hb).1,w0⟩;rintro n V ⟨i,l,B,I3,C,F,w3⟩;rcases G i n l B w3 with ⟨L,qn⟩ | ⟨go,N,hN,M⟩
 ·refine wpAny_passesOwn hp (thn (T.done X rfl rfl rfl hc i c V l B X.xe I3 (q F) C L) fun r s4 ⟨hr,I4⟩=>?_)
  subst hr;exact wpAny_execs_nil ⟨l,B,I4,qn⟩
 ·refine wpAny_passesOwn hp (thn (T.item X rfl rfl rfl hc i c V l B X.xe I3 (q F) C go) fun r s4 ⟨u,hr,h4⟩=>?_)
  subst hr;refine wpAny_passesOwn hp (thn h4 fun _ s5 ⟨x,H5,I5,r5,y5,st5,fr5⟩=>?_);have q0:=I5.pinned (q fr5) (T.obj _ _ st5);refine wpAny_passesOwn hp (thn (hg _ s5 l H5 x u _ q0 r5 (M x H5 y5)) fun _ s6 ⟨σ6,H6,I6,q6⟩=>?_);refine wpAny_passesOwn hp (thn (hb _ s6 σ6 H6 _ I6 q6) fun f O p=>?_)
  have t:∀ {a:St} {k:Hp},Inv X (c++Yv6 z s5.heap) a k O→N a k→∃ m,m < n∧∃ i σ' H',Inv X c σ' H' O∧S i O.heap∧(∀ b∈z,H' b=none)∧W i m σ' H':=fun {a k} j y=>by
   obtain⟨m',hm,w7⟩:=hN a k y;refine⟨m',hm,i+1,a,k,j.unpinned,T.keep _ _ _ st5 fun b hb o e=>(j.pin (b,o) (List.mem_append_right _ (List.mem_append_right _ (Zj4 hb e)))).1,fun b hb=>?_,w7⟩;obtain⟨o,e,d⟩:=T.obj _ _ st5 b hb;exact (j.pin (b,o) (List.mem_append_right _ (List.mem_append_right _ (Zj4 hb e)))).2.1
  cases f with
  | next=>obtain⟨a,k,j,y⟩:=p;exact t j y
  | cont=>obtain⟨a,k,j,y⟩:=p;exact t j y
  | brk=>obtain⟨a,k,j,p⟩:=p;exact⟨a,k,j.unpinned,p⟩
  | ret v=>obtain⟨x7,a,k,j,r7,p⟩:=p;exact⟨x7,a,k,j.unpinned,r7,p⟩
end
theorem Xr0 {K:W.Frag} {a:Addr} {xs:List V} {g:TG} {tb:TS} {D:Ends} {σ:St} {H:Hp} (Pv:Nat→St→Hp→Prop) (h0:Pv 0 σ H) (hl:∀ i σ H,i≤xs.length→Pv i σ H→SqL K H a xs)
  (hs:∀ i x σ H,xs[i]?=some x→Pv i σ H→g x σ H fun σ2 H2=>tb { D with nx:=Pv (i+1),ct:=Pv (i+1),bk:=D.nx } σ2 H2) (hd:∀ σ H,Pv xs.length σ H→D.nx σ H) :
  ∃ W:Nat→Nat→St→Hp→Prop,(∃ m,W 0 m σ H)∧∀ i m σ H,W i m σ H →
   ((Itl K a).stop i H∧D.nx σ H)∨((Itl K a).go i H∧∃ N:St→Hp→Prop,(∀ σ' H',N σ' H'→∃ m',m' < m∧W (i+1) m' σ' H')∧∀ x H',(Itl K a).yld i H x H'→g x σ H' fun σ2 H2=>tb { D with nx:=N,ct:=N,bk:=D.nx } σ2 H2):=by
 refine⟨fun i m σ H=>m=xs.length - i∧i≤xs.length∧Pv i σ H,⟨xs.length,by simp,Nat.zero_le _,h0⟩,?_⟩;rintro i m σ H ⟨rfl,c,p⟩;have q:=hl i σ H c p
 by_cases hlt:i < xs.length
 ·refine .inr ⟨⟨xs,xs[i],q,by simp[hlt]⟩,Pv (i+1),fun σ' H' b=>⟨xs.length - (i+1),by omega,rfl,hlt,b⟩,fun x H' y=>?_⟩
  obtain⟨e,y⟩:=y;subst e;exact hs i x σ _ (y xs q) p
 ·have e:i=xs.length:=by omega
  subst e;exact .inl ⟨⟨xs,q,Nat.le_refl _⟩,hd σ H p⟩
theorem Xj5 {lo:Int} {n:Nat} {g:TG} {tb:TS} {D:Ends} {σ:St} {H:Hp} (Pv:Nat→St→Hp→Prop) (h0:Pv 0 σ H)
  (hs:∀ i σ H,i < n→Pv i σ H→g (.int (lo+i)) σ H fun σ2 H2=>tb { D with nx:=Pv (i+1),ct:=Pv (i+1),bk:=D.nx } σ2 H2) (hd:∀ σ H,Pv n σ H→D.nx σ H) :
  ∃ W:Nat→Nat→St→Hp→Prop,(∃ m,W 0 m σ H)∧∀ i m σ H,W i m σ H →
   ((Itr lo n).stop i H∧D.nx σ H)∨((Itr lo n).go i H∧∃ N:St→Hp→Prop,(∀ σ' H',N σ' H'→∃ m',m' < m∧W (i+1) m' σ' H')∧∀ x H',(Itr lo n).yld i H x H'→g x σ H' fun σ2 H2=>tb { D with nx:=N,ct:=N,bk:=D.nx } σ2 H2):=by
 refine⟨fun i m σ H=>m=n - i∧i≤n∧Pv i σ H,⟨n,by simp,Nat.zero_le _,h0⟩,?_⟩;rintro i m σ H ⟨rfl,b,p⟩
 by_cases hlt:i < n
 ·refine .inr ⟨hlt,Pv (i+1),fun σ' H' a=>⟨n - (i+1),by omega,rfl,hlt,a⟩,fun x H' y=>?_⟩
  obtain⟨e,y⟩:=y;subst e y;exact hs i σ _ hlt p
 ·have e:i=n:=by omega
  subst e;exact .inl ⟨Nat.le_refl _,hd σ H p⟩
noncomputable abbrev R2:=V→V→Hp→VK→Prop
def OpR (X:Cx) (f:Value→Value→Sem Value) (r:R2):Prop :=
 ∀ (pins:List (Addr×Obj)) (s:Shared) (σ:St) (H:Hp) (x y:V) (v u:Value) (Q:VK),Inv X pins σ H s→RelV x v→RelV y u→r x y H Q →
  wpAny (model X.prog X.w) X.A (f v u) (EP X pins σ Q) X.xe s
def Zr4 (X:Cx) (f:Value) (r:List V→Hp→VK→Prop):Prop :=
 ∀ (pins:List (Addr×Obj)) (s:Shared) (σ:St) (H:Hp) (xs:List V) (us:List Value) (Q:VK),Inv X pins σ H s→Vals xs us→r xs H Q →
  wpAny (model X.prog X.w) X.A (call f us) (EP X pins σ Q) X.xe s
def TruR (X:Cx) (r:V→Hp→(Bool→Hp→Prop)→Prop):Prop :=
 ∀ (pins:List (Addr×Obj)) (s:Shared) (σ:St) (H:Hp) (x:V) (v:Value) (Q:Bool→Hp→Prop),Inv X pins σ H s→RelV x v→r x H Q →
  wpAny (model X.prog X.w) X.A (truthy v) (TP X pins σ Q) X.xe s
def tOp (r:R2) (ta tb:TE):TE:=fun σ H Q=>ta σ H fun x H1=>tb σ H1 fun y H2=>r x y H2 Q
def rI (C:Int→Int→Prop) (g:Int→Int→V):R2:=fun x y H Q=>∃ i j,x=.int i∧y=.int j∧C i j∧Q (g i j) H
def rI0 (g:Int→Int→V):R2:=fun x y H Q=>∃ i j,x=.int i∧y=.int j∧Q (g i j) H
section
variable {X:Cx} {a b c:Expr} {ta tb tc:TE} {pos:Pos}
theorem binT (ha:PE X a ta) (hb:PE X b tb) {pins:List (Addr×Obj)} {s:Shared} {σ:St} {H:Hp} {R:V→V→Hp→Prop} (I:Inv X pins σ H s)
  (h:ta σ H fun x H1=>tb σ H1 fun y H2=>R x y H2) {Q:Value→Shared→Prop} {f:Value→Value→Sem Value}
  (hf:∀ v u s2 x y H2,Inv X pins σ H2 s2→RelV x v→RelV y u→R x y H2→wpAny (model X.prog X.w) X.A (f v u) Q X.xe s2) :
  wpAny (model X.prog X.w) X.A (eval a X.env) (fun v s₁=>wpAny (model X.prog X.w) X.A (eval b X.env) (fun u s₂=>wpAny (model X.prog X.w) X.A (f v u) Q X.xe s₂) X.xe s₁) X.xe s:=by
 refine thn (ha pins s σ H _ I h) fun v s1 ⟨x,H1,I1,r1,q1⟩=>?_;refine thn (hb pins s1 σ H1 _ I1 q1) fun u s2 ⟨y,H2,I2,r2,q2⟩=>?_;exact hf v u s2 x y H2 I2 r1 r2 q2
theorem Zb6 {op:Operator} {r:R2} (ho:OpR X (binaryOp op) r) (ha:PE X a ta) (hb:PE X b tb):PE X (.BinOp a op b pos) (tOp r ta tb):=by
 intro c s d H Q I h;exact wpAny_BinOp (binT ha hb I h fun v u e x y j i g f q=>ho c e d j x y v u Q i g f q)
theorem opI {f:Value→Value→Sem Value} {C:Int→Int→Prop} {g:Int→Int→Int}
  (rule:∀ (i j:Int) (t u:Tok) (s:Shared) (Q:Value→Shared→Prop) (E:Value→Shared→Prop),C i j→Q (.int (g i j) s.toks) { s with toks:=s.toks+1 }→wpAny (model X.prog X.w) X.A (f (.int i t) (.int j u)) Q E s) :
  OpR X f (rI C fun i j=>.int (g i j)):=by
 intro d s k H x y v u Q I c b h;obtain⟨i,j,rfl,rfl,e,q⟩:=h;obtain⟨t,rfl⟩:=c;obtain⟨a,rfl⟩:=b;exact rule i j t a s _ _ e ⟨.int (g i j),H,I.tok _,⟨_,rfl⟩,q⟩
theorem opI0 {f:Value→Value→Sem Value} {g:Int→Int→Int}
  (rule:∀ (i j:Int) (t u:Tok) (s:Shared) (Q:Value→Shared→Prop) (E:Value→Shared→Prop),Q (.int (g i j) s.toks) { s with toks:=s.toks+1 }→wpAny (model X.prog X.w) X.A (f (.int i t) (.int j u)) Q E s) :
  OpR X f (rI0 fun i j=>.int (g i j)):=by
 intro d s e H x y v u Q I c b h;obtain⟨i,j,rfl,rfl,q⟩:=h;obtain⟨t,rfl⟩:=c;obtain⟨a,rfl⟩:=b;exact rule i j t a s _ _ ⟨.int (g i j),H,I.tok _,⟨_,rfl⟩,q⟩
theorem opB0 {f:Value→Value→Sem Value} {g:Int→Int→Bool}
  (rule:∀ (i j:Int) (t u:Tok) (s:Shared) (Q:Value→Shared→Prop) (E:Value→Shared→Prop),Q (.bool (g i j)) s→wpAny (model X.prog X.w) X.A (f (.int i t) (.int j u)) Q E s) :
  OpR X f (rI0 fun i j=>.bl (g i j)):=by
 intro d s e H x y v u Q I c b h;obtain⟨i,j,rfl,rfl,q⟩:=h;obtain⟨t,rfl⟩:=c;obtain⟨a,rfl⟩:=b;exact rule i j t a s _ _ ⟨.bl (g i j),H,I,rfl,q⟩
def CDiv (i j:Int):Prop:=0 < j∧j < 1073741824
def CPow (i j:Int):Prop:=0≤j∧j≤1000000∧i.natAbs < 2 ^ 64
def CMul (i j:Int):Prop:=(-(2 ^ 64) < i∧i < 2 ^ 64)∨(-(2 ^ 64) < j∧j < 2 ^ 64)
theorem CMul.ok {i j:Int} (h:CMul i j):IntMulOk i j:=by
 rcases h with ⟨b,a⟩ | ⟨b,a⟩
 ·exact .of_left (intBits_le_64 b a)
 ·exact .of_right (intBits_le_64 b a)
theorem Wf2:OpR X (binaryOp .Add) (rI0 fun i j=>.int (i+j)):=opI0 fun _ _ _ _ _ _ _ q=>add_int q
theorem We8:OpR X (binaryOp .Sub) (rI0 fun i j=>.int (i - j)):=opI0 fun _ _ _ _ _ _ _ q=>sub_int q
theorem Wf0:OpR X (binaryOp .Mult) (rI CMul fun i j=>.int (i*j)):=opI fun _ _ _ _ _ _ _ a q=>mul_int q a.ok
theorem Xx1:OpR X (binaryOp .FloorDiv) (rI CDiv fun i j=>.int (i / j)):=opI fun i j _ _ _ _ _ a q=>by
 have c:(0:Int) < j:=a.1;have b:j < 1073741824:=a.2;exact floordiv_int (by omega) (by rw[Int.fdiv_eq_ediv_of_nonneg i (by omega)];exact q) (.inl (PyProof.noPylong_small (by omega)))
theorem Wf1:OpR X (binaryOp .Mod) (rI (fun _ j=>0 < j) fun i j=>.int (i % j)):=opI fun i j _ _ _ _ _ a q=>by
 have b:(0:Int) < j:=a;exact mod_int' (by omega) (by rw[Int.fmod_eq_emod_of_nonneg i (by omega)];exact q)
theorem We9:OpR X (binaryOp .Pow) (rI CPow fun i j=>.int (i ^ j.toNat)):=opI fun _ _ _ _ _ _ _ a q=>pow_int_small a.1 a.2.1 a.2.2 q
end
noncomputable def scal:V→V→Bool
 | .non,.non=>true | .non,.int _=>true | .int _,.non=>true | .non,.bl _=>true | .bl _,.non=>true | .non,.str _=>true | .str _,.non=>true
 | .int _,.int _=>true | .bl _,.bl _=>true | .str _,.str _=>true | .byt _,.byt _=>true
 | .int _,.str _=>true | .str _,.int _=>true | .bl _,.str _=>true | .str _,.bl _=>true
 | _,_=>false
def rEq:R2:=fun x y H Q=>scal x y=true∧Q (.bl (decide (x=y))) H
def rNe:R2:=fun x y H Q=>scal x y=true∧Q (.bl (!decide (x=y))) H
theorem Xk3 {i j:Int}:decide (V.int i=V.int j)=(i == j):=by
 rw[Bool.eq_iff_iff];simp
theorem Xu0 {i j:Bool}:decide (V.bl i=V.bl j)=(i == j):=by
 rw[Bool.eq_iff_iff];simp
theorem Xk2 {i j:Str}:decide (V.str i=V.str j)=(i == j):=by
 rw[Bool.eq_iff_iff];simp
theorem Xk4 {i j:Array UInt8}:decide (V.byt i=V.byt j)=(i.toList == j.toList):=by
 rw[Bool.eq_iff_iff];cases i;cases j;simp
section
variable {X:Cx} {a b c:Expr} {ta tb tc:TE} {pos:Pos}
theorem Ze6 {pins:List (Addr×Obj)} {σ:St} {H:Hp} {s:Shared} {Q:VK} {k k':Bool} (I:Inv X pins σ H s) (q:Q (.bl k) H) (e:k=k'):EP X pins σ Q (.bool k') s:=by
 subst e;exact⟨.bl k,H,I,rfl,q⟩
theorem Ze7:OpR X (compareOp .Eq) rEq:=by
 intro e s f H x y v u Q I d a h;obtain⟨c,q⟩:=h
 cases x with
 | non =>
  cases d
  cases y with
  | non=>cases a;exact PySem.EqNone.eq_none_none (Ze6 I q (by simp))
  | bl j=>cases a;exact PySem.EqNone.eq_none_bool (Ze6 I q (by simp))
  | int j=>obtain⟨b,rfl⟩:=a;exact PySem.EqNone.eq_none_int (Ze6 I q (by simp))
  | str j=>obtain⟨b,rfl⟩:=a;exact PySem.EqNone.eq_none_str (Ze6 I q (by simp))
  | _=>exact absurd (show false=true from c) Bool.false_ne_true
 | bl i =>
  cases d
  cases y with
  | non=>cases a;exact PySem.EqNone.eq_bool_none (Ze6 I q (by simp))
  | bl j=>cases a;exact eq_bool (Ze6 I q Xu0)
  | str j=>obtain⟨b,rfl⟩:=a;exact PySem.EqMixed.eq_bool_str (Ze6 I q (by simp))
  | _=>exact absurd (show false=true from c) Bool.false_ne_true
 | int i =>
  obtain⟨t,rfl⟩:=d
  cases y with
  | non=>cases a;exact PySem.EqNone.eq_int_none (Ze6 I q (by simp))
  | int j=>obtain⟨b,rfl⟩:=a;exact eq_int (Ze6 I q Xk3)
  | str j=>obtain⟨b,rfl⟩:=a;exact PySem.EqMixed.eq_int_str (Ze6 I q (by simp))
  | _=>exact absurd (show false=true from c) Bool.false_ne_true
 | str i =>
  obtain⟨t,rfl⟩:=d
  cases y with
  | non=>cases a;exact PySem.EqNone.eq_str_none (Ze6 I q (by simp))
  | bl j=>cases a;exact PySem.EqMixed.eq_str_bool (Ze6 I q (by simp))
  | int j=>obtain⟨b,rfl⟩:=a;exact PySem.EqMixed.eq_str_int (Ze6 I q (by simp))
  | str j=>obtain⟨b,rfl⟩:=a;exact eq_str (Ze6 I q Xk2)
  | _=>exact absurd (show false=true from c) Bool.false_ne_true
 | byt i =>
  obtain⟨t,rfl⟩:=d
  cases y with
  | byt j=>obtain⟨b,rfl⟩:=a;exact W.eq_bytes (Ze6 I q Xk4)
  | _=>exact absurd (show false=true from c) Bool.false_ne_true
 | _=>cases y<;>exact absurd (show false=true from c) Bool.false_ne_true
theorem Yq2:OpR X (compareOp .NotEq) rNe:=by
 intro e s f H x y v u Q I d a h;obtain⟨c,q⟩:=h
 cases x with
 | non =>
  cases d
  cases y with
  | non=>cases a;exact PySem.EqNone.ne_none_none (Ze6 I q (by simp))
  | bl j=>cases a;exact PySem.EqNone.ne_none_bool (Ze6 I q (by simp))
  | int j=>obtain⟨b,rfl⟩:=a;exact PySem.EqNone.ne_none_int (Ze6 I q (by simp))
  | str j=>obtain⟨b,rfl⟩:=a;exact PySem.EqNone.ne_none_str (Ze6 I q (by simp))
  | _=>exact absurd (show false=true from c) Bool.false_ne_true
 | bl i =>
  cases d
  cases y with
  | non=>cases a;exact PySem.EqNone.ne_bool_none (Ze6 I q (by simp))
  | bl j=>cases a;exact ne_bool (Ze6 I q (congrArg not Xu0))
  | str j=>obtain⟨b,rfl⟩:=a;exact PySem.EqMixed.ne_bool_str (Ze6 I q (by simp))
  | _=>exact absurd (show false=true from c) Bool.false_ne_true
 | int i =>
  obtain⟨t,rfl⟩:=d
  cases y with
  | non=>cases a;exact PySem.EqNone.ne_int_none (Ze6 I q (by simp))
  | int j=>obtain⟨b,rfl⟩:=a;exact ne_int (Ze6 I q (congrArg not Xk3))
  | str j=>obtain⟨b,rfl⟩:=a;exact PySem.EqMixed.ne_int_str (Ze6 I q (by simp))
  | _=>exact absurd (show false=true from c) Bool.false_ne_true
 | str i =>
  obtain⟨t,rfl⟩:=d
  cases y with
  | non=>cases a;exact PySem.EqNone.ne_str_none (Ze6 I q (by simp))
  | bl j=>cases a;exact PySem.EqMixed.ne_str_bool (Ze6 I q (by simp))
  | int j=>obtain⟨b,rfl⟩:=a;exact PySem.EqMixed.ne_str_int (Ze6 I q (by simp))
  | str j=>obtain⟨b,rfl⟩:=a;exact ne_str (Ze6 I q (congrArg not Xk2))
  | _=>exact absurd (show false=true from c) Bool.false_ne_true
 | byt i =>
  obtain⟨t,rfl⟩:=d
  cases y with
  | byt j=>obtain⟨b,rfl⟩:=a;exact W.ne_bytes (Ze6 I q (congrArg not Xk4))
  | _=>exact absurd (show false=true from c) Bool.false_ne_true
 | _=>cases y<;>exact absurd (show false=true from c) Bool.false_ne_true
theorem Wm5:OpR X (compareOp .Lt) (rI0 fun i j=>.bl (decide (i < j))):=opB0 fun _ _ _ _ _ _ _ q=>lt_int q
theorem Wm6:OpR X (compareOp .LtE) (rI0 fun i j=>.bl (decide (i≤j))):=opB0 fun _ _ _ _ _ _ _ q=>le_int q
theorem Wm7:OpR X (compareOp .Gt) (rI0 fun i j=>.bl (decide (j < i))):=opB0 fun _ _ _ _ _ _ _ q=>gt_int q
theorem Wm8:OpR X (compareOp .GtE) (rI0 fun i j=>.bl (decide (j≤i))):=opB0 fun _ _ _ _ _ _ _ q=>ge_int q
theorem Zl2 (b:Expr) {op:CmpOp} (h:op≠.In:=by decide) (h2:op≠.NotIn:=by decide):behindInMarks op b=false:=by
 have c:(op == CmpOp.In)=false:=by cases op<;>first | rfl | exact absurd rfl h
 have a:(op == CmpOp.NotIn)=false:=by cases op<;>first | rfl | exact absurd rfl h2
 cases b<;>simp[behindInMarks,c,a]
theorem Zi0 {op:CmpOp} {r:R2} (ho:OpR X (compareOp op) r) (ha:PE X a ta) (hb:PE X b tb) (hm:behindInMarks op b=false):PE X (.Compare a [op] [b] pos) (tOp r ta tb):=by
 intro c s d H Q I h;exact wpAny_Compare1 (binT ha hb I h fun v u e x y j i g f q=>ho c e d j x y v u Q i g f q) hm
def Yb3 (t:TE):TT:=fun σ H Q=>t σ H fun x H'=>∃ k,x=.bl k∧Q k H'
theorem Yp9 {op:CmpOp} {r:R2} (ho:OpR X (compareOp op) r) (ha:PE X a ta) (hb:PE X b tb) (hm:behindInMarks op b=false):PT X (.Compare a [op] [b] pos) (Yb3 (tOp r ta tb)):=by
 intro d s f H Q I h
 refine wpAny_isTrue_Compare1 (thn (ha d s f H _ I h) fun v s1 ⟨x,H1,I1,r1,q1⟩=>thn (hb d s1 f H1 _ I1 q1) fun u s2 ⟨y,H2,I2,r2,q2⟩ =>
  thn (ho d s2 f H2 x y v u _ I2 r1 r2 q2) fun c s3 ⟨z,H3,I3,r3,k,e,q3⟩=>?_) hm
 subst e;cases r3;exact wpAny_truthy_bool ⟨H3,I3,q3⟩
def Zx2 (r r':R2) (ta tb tc:TE):TE:=fun σ H Q=>ta σ H fun x H1=>tb σ H1 fun y H2=>r x y H2 fun z H3=>∃ k,z=.bl k ∧
 (if k=true then tc σ H3 fun w' H4=>r' y w' H4 Q else Q (.bl false) H3)
theorem Xp2 {op op':CmpOp} {r r':R2} (ho:OpR X (compareOp op) r) (ho':OpR X (compareOp op') r') (ha:PE X a ta) (hb:PE X b tb) (hc:PE X c tc)
  (hm:lastMarks [op,op'] [b,c]=false:=by with_unfolding_all rfl):PT X (.Compare a [op,op'] [b,c] pos) (Yb3 (Zx2 r r' ta tb tc)):=by
 intro f s g H Q I h
 refine isTrue_chain (thn (ha f s g H _ I h) fun v s1 ⟨x,H1,I1,r1,q1⟩=>test_link (thn (hb f s1 g H1 _ I1 q1) fun u s2 ⟨y,H2,I2,r2,q2⟩ =>
  thn (ho f s2 g H2 x y v u _ I2 r1 r2 q2) fun d s3 ⟨z,H3,I3,r3,k,e,q3⟩=>?_)) hm
 subst e;cases r3;refine wpAny_truthy_bool ?_
 cases k with
 | false =>
  obtain⟨l,j,i⟩:=q3;cases j;exact ite_ff ⟨H3,I3,i⟩
 | true =>
  refine ite_tt (test_last (thn (hc f s3 g H3 _ I3 q3) fun w' s4 ⟨z',H4,I4,r4,q4⟩=>thn (ho' f s4 g H4 y z' u w' _ I4 r2 r4 q4) fun d' s5 ⟨z2,H5,I5,r5,k2,e2,q5⟩=>?_));subst e2;cases r5;exact wpAny_truthy_bool ⟨H5,I5,q5⟩
def TruV (K:W.Frag) (x:V) (H:Hp) (k:Bool):Prop :=
 match x with
 | .non=>k=false
 | .bl b=>k=b
 | .int i=>k=(i != 0)
 | .str y=>y.length≤sizeLine∧k=((y.length:Int) != 0)
 | .byt y=>y.size≤sizeLine∧k=((y.size:Int) != 0)
 | .ref p=>(∃ xs,SqL K H p xs∧k=!xs.isEmpty)∨(∃ xs,SqT K H p xs∧k=!xs.isEmpty)∨∃ kvs,H p=some (.dK kvs)∧k=!kvs.isEmpty
 | _=>False
theorem Xa0 {κ:Type} {kvs:List (κ×V)} {vs:List (κ×Value)} (r:KV kvs vs):(!vs.isEmpty)=!kvs.isEmpty:=by
 cases r<;>rfl
theorem Yc7 {xs:List V} {its:List Value} (r:Vals xs its):(!its.toArray.isEmpty)=!xs.isEmpty:=by
 cases r<;>simp
theorem Zv3:(sizeLine:Nat) < 2 ^ 63:=by rw[sizeLine_eq];decide
theorem Wb2:TruR X (fun x H Q=>∃ k,TruV X.K x H k∧Q k H):=by
 intro u s B H x v Q I f h;obtain⟨k,e,q⟩:=h;have D:=Zv3;have C:sizeLine=16777216:=sizeLine_eq
 cases x with
 | non =>
  cases f;have a:k=false:=e;subst a;exact truthy_none ⟨H,I,q⟩
 | bl b =>
  cases f;have a:k=b:=e;subst a;exact wpAny_truthy_bool ⟨H,I,q⟩
 | int i =>
  obtain⟨t,rfl⟩:=f;have a:k=(i != 0):=e;subst a;exact PySem.P.truthy_int ⟨H,I,q⟩
 | str y =>
  obtain⟨t,rfl⟩:=f;obtain⟨z,a⟩:y.length≤sizeLine∧k=((y.length:Int) != 0):=e;subst a;exact PySem.P.truthy_str (by omega) ⟨H,I.tok _,q⟩
 | byt y =>
  obtain⟨t,rfl⟩:=f;obtain⟨z,a⟩:y.size≤sizeLine∧k=((y.size:Int) != 0):=e;subst a;exact W.truthy_bytes (by omega) ⟨H,I.tok _,q⟩
 | ref p =>
  cases f;have a:(∃ d,SqL X.K H p d∧k=!d.isEmpty)∨(∃ d,SqT X.K H p d∧k=!d.isEmpty)∨∃ c,H p=some (.dK c)∧k=!c.isEmpty:=e;rcases a with ⟨d,g,a⟩ | ⟨d,g,a⟩ | ⟨c,g,a⟩
  ·subst a
   obtain⟨n,r,l,o⟩:=I.list g;have j:=r.length;exact wpAny_truthy_list l.isList (by simp only[List.size_toArray];omega) ⟨H,I.tok _,by rw[Yc7 r];exact q⟩
  ·subst a
   obtain⟨n,r,l,o⟩:=I.tuple g;have j:=r.length;exact truthy_tuple l (by simp only[List.size_toArray];omega) ⟨H,I.tok _,by rw[Yc7 r];exact q⟩
  ·subst a
   obtain⟨o,A,vs,r,m⟩:c.length≤sizeLine∧(p == sysModules)=false∧∃ vs,KV c vs∧s.heap.DictOf (Zf1 X.prog X.w) p vs:=I.hok p _ g;have j:c.length=vs.length:=Paired.length r;exact wpAny_truthy_dict A m (by omega) ⟨H,I.tok _,by rw[Xa0 r];exact q⟩
 | _=>exact (show False from e).elim
theorem Xp1 (ha:PE X a ta) (he:∀ whole,isTrue a X.env whole=(do let v ← whole;standAt a.pos;holding [v] (truthy v))) :
  PT X a (fun σ H Q=>ta σ H fun x H'=>∃ k,TruV X.K x H' k∧Q k H'):=by
 intro b s σ H Q I h;exact isTrue_plain (thn (ha b s σ H _ I h) fun v s1 ⟨x,H1,I1,r1,q1⟩=>Wb2 b s1 σ H1 x v Q I1 r1 q1) (he _)
theorem Yc5:OpR X (binaryOp .Add) (fun x y H Q=>∃ i j,x=.str i∧y=.str j∧i.length+j.length≤sizeLine∧Q (.str (i++j)) H):=by
 intro d s f H x y v u Q I c b h;obtain⟨i,j,rfl,rfl,e,q⟩:=h;obtain⟨t,rfl⟩:=c;obtain⟨a,rfl⟩:=b;exact add_str (fun a g=>⟨.str (i++j),H,I.tok _,⟨_,rfl⟩,q⟩) e
theorem Yn9 {x:V} {us:List Value} (r:Vals [x] us):∃ u,us=[u]∧RelV x u:=by
 cases r with
 | cons r1 r2=>cases r2;exact⟨_,rfl,r1⟩
theorem Yy1 {x y:V} {us:List Value} (r:Vals [x,y] us):∃ u w',us=[u,w']∧RelV x u∧RelV y w':=by
 cases r with
 | cons r1 r2 =>
  cases r2 with
  | cons r3 r4=>cases r4;exact⟨_,_,rfl,r1,r3⟩
theorem Xl8 (hc:X.calm=true):Zr4 X (.builtin "max") (fun xs H Q=>∃ i j,xs=[.int i,.int j]∧Q (.int (if j > i then j else i)) H):=by
 intro a s b H xs d Q I r h;obtain⟨i,j,rfl,q⟩:=h;obtain⟨u,c,rfl,⟨t,rfl⟩,⟨f,rfl⟩⟩:=Yy1 r;refine max_two_ints (I.ok.hd hc) fun g e k=>⟨_,H,I.kept k,?_,q⟩
 by_cases hj:j > i
 ·rw[if_pos hj,if_pos hj];exact⟨_,rfl⟩
 ·rw[if_neg hj,if_neg hj];exact⟨_,rfl⟩
theorem Zt5:Zr4 X (.type "int") (fun xs H Q=>(∃ i,xs=[.int i]∧Q (.int i) H)∨∃ k,xs=[.bl k]∧Q (.int (if k then 1 else 0)) H):=by
 intro b s c H xs d Q I r h;rcases h with ⟨i,rfl,q⟩ | ⟨k,rfl,q⟩
 ·obtain⟨u,rfl,t,rfl⟩:=Yn9 r
  exact call_int_int ⟨.int i,H,I,⟨_,rfl⟩,q⟩
 ·obtain⟨u,rfl,a⟩:=Yn9 r
  cases a;exact call_int_bool ⟨.int (if k then 1 else 0),H,I.tok _,⟨_,rfl⟩,q⟩
end
structure ObjM (h:Heap) (x dx C:Addr) (mA:Str→Option Value):Prop where
 obj:h.get? x=some (W.instObj C dx)
 ns:h.Ns1 dx mA
 ne:dx≠x
theorem Xg7 {h:Heap} {dx:Addr} {mA:Str→Option Value} (n:h.Ns1 dx mA):∃ od,h.get? dx=some od∧∀ name,W.lookIn name od=some (mA name):=by
 obtain⟨o,es,ep,ho,hd,hk,_,hm⟩:=n;refine⟨o,ho,fun name=>?_⟩;have e:=hm name;unfold nsFind findBy at e;rw[← Array.find?_toList] at e;unfold W.lookIn;rw[hd];dsimp only
 split
 ·rename_i y q
  rw[q] at e;exact congrArg some e
 ·rename_i q
  rw[q] at e
  have a:es.toList.any (·.refKey)=false:=by
   rw[List.any_eq_false];intro y hy;obtain⟨z,t,hkey⟩:=hk y (Array.mem_toList_iff.mp hy);simp[DictEntry.refKey,hkey]
  have a':¬ es.toList.any (·.refKey)=true:=by rw[a];exact Bool.false_ne_true
  rw[if_neg a'];exact congrArg some e
theorem ObjM.look {h:Heap} {x dx C:Addr} {mA:Str→Option Value} (I:ObjM h x dx C mA):∃ od,W.InstAt h x (W.instObj C dx) C (some od)∧∀ name,W.lookIn name od=some (mA name) :=
 let ⟨od,ho,hl⟩:=Xg7 I.ns
 ⟨od,⟨I.obj,rfl,rfl,ho⟩,hl⟩
theorem RelO.some_of {v:V} {o:Option Value} (r:RelO (some v) o):∃ u,o=some u∧RelV v u:=by
 cases o with
 | none=>exact (show False from r).elim
 | some u=>exact⟨u,rfl,r⟩
section
variable {P:Program} {w:World} {H H':Hp} {h h':Heap} {a C dx:Addr} {fs fs':List (Str×V)}
theorem Xy8 (hok:HOk P w H h) (e:H a=some (.ins C dx fs)):∃ mA,ObjM h a dx C mA∧(∀ f,RelO (fs.lookup f) (mA f))∧PySem.Within mA (fs.map (·.1))∧fs.length≤1000∧H dx=some (.own a):=by
 obtain⟨d,z,c,b,mA,n,r,q⟩:=(show ObjOk P w H h a (.ins C dx fs) from hok a _ e);exact⟨mA,⟨b,n,c⟩,r,q,z,d⟩
end
structure Cls (K:W.Frag) (C:Addr):Prop where
 pg:W.plainGet K C Str.empty=true
 hd:W.hasDictIn K C=true
 po:W.plainOver K C=true
 sa:W.findIn K (.ref C) "__setattr__"=some (some (.builtin "object.__setattr__"))
theorem Cls.get {K:W.Frag} {C:Addr} (c:Cls K C) (f:Str):W.plainGet K C f=true:=c.pg
section
variable {X:Cx} {pins:List (Addr×Obj)} {σ:St} {H:Hp} {s:Shared} {A:Around} {E:Value→Shared→Prop} {Q:Value→Shared→Prop} {c:Value} {b:Bool}
inductive TyOf (K:W.Frag) (H:Hp):V→Value→Prop where
 | non:TyOf K H .non (.type "NoneType")
 | bl (x:Bool):TyOf K H (.bl x) (.type "bool")
 | int (i:Int):TyOf K H (.int i) (.type "int")
 | str (x:Str):TyOf K H (.str x) (.type "str")
 | flt (x:UInt64):TyOf K H (.flt x) (.type "float")
 | lst {a:Addr} {xs:List V} (e:H a=some (.lst xs)):TyOf K H (.ref a) (.type "list")
 | frz {a:Addr} {o:Obj} {xs:List V} (e:H a=some (.frz o (.lst xs))):TyOf K H (.ref a) (.type "list")
 | tup {a:Addr} {xs:List V} (e:H a=some (.tup xs)):TyOf K H (.ref a) (.type "tuple")
 | dK {a:Addr} {kvs:List (Key×V)} (e:H a=some (.dK kvs)):TyOf K H (.ref a) (.type "dict")
 | dT {a:Addr} {kvs:List (List Key×V)} (e:H a=some (.dT kvs)):TyOf K H (.ref a) (.type "dict")
 | ins {a C dx:Addr} {fs:List (Str×V)} (e:H a=some (.ins C dx fs)) (cl:Cls K C) (ha:W.findIn K (.ref C) "__class__"=some (some (.builtin "object.__class__")))
   (hn:W.specialIn K (.builtin "object.__class__") "__get__"=some (some (.builtin "getset_descriptor.__get__"))) (htk:W.takesIn K (.builtin "object.__class__")=some true)
   (hm:W.mroIn K C (.type "object")=some true):TyOf K H (.ref a) (.ref C)
theorem Xh9 {x:V} {u t:Value} (I:Inv X pins σ H s) (rx:RelV x u) (ty:TyOf X.K H x t) (e:W.kitOne X.K t c=some b) (h:∀ tk,Q (.bool b) { s with toks:=tk }) :
  wpAny (model X.prog X.w) A (call (.builtin "isinstance") [u,c]) Q E s:=by
 cases ty with
 | non=>cases (show u=Value.none from rx);exact W.kia_one W.kitx_none I.kIn True.intro e (fun z=>nomatch z) h
 | bl y=>cases (show u=Value.bool y from rx);exact W.kia_one W.kitx_bool I.kIn True.intro e (fun z=>nomatch z) h
 | int i=>obtain⟨t,q⟩:=(show ∃ t,u=Value.int i t from rx);cases q;exact W.kia_one W.kitx_int I.kIn True.intro e (fun z=>nomatch z) h
 | str y=>obtain⟨t,q⟩:=(show ∃ t,u=Value.str y t from rx);cases q;exact W.kia_one W.kitx_str I.kIn True.intro e (fun z=>nomatch z) h
 | flt y=>obtain⟨t,q⟩:=(show ∃ t,u=Value.float y t from rx);cases q;exact W.kia_one W.kitx_float I.kIn True.intro e (fun z=>nomatch z) h
 | @lst a f ea =>
  cases (show u=Value.ref a from rx);obtain⟨_,_,n,_,d⟩:=(show ObjOk X.prog X.w H s.heap a (.lst f) from I.hok a _ ea);exact W.kia_one W.kitx_list I.kIn ⟨_,d,rfl⟩ e (fun z=>nomatch z) h
 | @frz a ob f ea =>
  cases (show u=Value.ref a from rx);obtain⟨_,_,_,n,_,d⟩:=(show ObjOk X.prog X.w H s.heap a (.frz ob (.lst f)) from I.hok a _ ea);exact W.kia_one W.kitx_list I.kIn ⟨_,d,rfl⟩ e (fun z=>nomatch z) h
 | @tup a f ea =>
  cases (show u=Value.ref a from rx);obtain⟨_,_,_,p⟩:=(show ObjOk X.prog X.w H s.heap a (.tup f) from I.hok a _ ea);obtain⟨o,d,g,_⟩:=p;exact W.kia_one W.kitx_tuple I.kIn ⟨o,d,g⟩ e (fun z=>nomatch z) h
 | @dK a kvs ea =>
  cases (show u=Value.ref a from rx);obtain⟨_,_,l,_,p⟩:=(show ObjOk X.prog X.w H s.heap a (.dK kvs) from I.hok a _ ea);obtain⟨o,j,k,d,g,_⟩:=p;exact W.kia_one W.kitx_dict I.kIn ⟨o,d,g.1⟩ e (fun z=>nomatch z) h
 | @dT a kvs ea =>
  cases (show u=Value.ref a from rx);obtain⟨_,_,f,_,o,j,k,d,g,_⟩:=(show ObjOk X.prog X.w H s.heap a (.dT kvs) from I.hok a _ ea);exact W.kia_one W.kitx_dict I.kIn ⟨o,d,g.1⟩ e (fun z=>nomatch z) h
 | @ins a C dx fs ea cl ha hn htk hm =>
  cases (show u=Value.ref a from rx);obtain⟨r,O,_⟩:=Xy8 I.hok ea;obtain⟨m,J,_⟩:=O.look;exact W.kia_one (W.kitx_own (cl.get _) cl.hd ha hn htk hm) I.kIn J e (fun z=>nomatch z) h
end
structure Room (k:Nat) (A:Around):Prop where
 hd:A.handled=none
 dp:A.depth+3*k+5 < recursionLimit
 un:A.units+16*k+200 < cLine
theorem Room.mono {j k:Nat} {A:Around} (r:Room k A) (h:j≤k):Room j A:=⟨r.hd,by have:=r.dp;omega,by have:=r.un;omega⟩
theorem Room.deeper {k:Nat} {A:Around} (r:Room (k+1) A) (env:Env):Room k (A.deeper env) :=
 ⟨r.hd,by have:=r.dp;show A.depth+1+3*k+5 < _;omega,by have:=r.un;show A.units+3+16*k+200 < _;omega⟩
theorem Room.depth {k:Nat} {A:Around} (r:Room k A):A.depth < recursionLimit:=by have:=r.dp;omega
theorem Room.units {k:Nat} {A:Around} (r:Room k A):A.units+64 < cLine:=by have:=r.un;omega
def tNil:TA:=fun _ H Q=>Q [] H
def Zv7 (ta:TE) (tr:TA):TA:=fun σ H Q=>ta σ H fun x H1=>tr σ H1 fun xs H2=>Q (x :: xs) H2
section
variable {X:Cx} {e:Expr} {es:List Expr} {te:TE} {t:TA} {pos:Pos}
theorem Za1:PA X [] tNil:=fun _ _ _ _ H Q I h=>Calls.spliced_nil ⟨[],H,I,.nil,h⟩
theorem Za0 (ha:PE X e te) (hr:PA X es t) (hs:starEach (e :: es) X.env=(false,eval e X.env) :: starEach es X.env:=by rfl):PA X (e :: es) (Zv7 te t):=by
 intro b a s c H Q I h;rw[hs];show wpAny _ _ (spliced ((false,eval e X.env) :: backTo b (starEach es X.env))) _ _ s;refine Calls.spliced_cons (thn (ha a s c H _ I h) fun u s1 ⟨x,H1,I1,r1,q1⟩=>?_);exact thn (hr b a s1 c H1 _ I1 q1) fun us s2 ⟨xs,H2,I2,r2,q2⟩=>⟨x :: xs,H2,I2,.cons r1 r2,q2⟩
def tTup (t:TA):TE:=fun σ H Q=>t σ H fun xs H1=>xs.length≤sizeLine∧∀ p,H1 p=none→Q (.ref p) (upd H1 p (.tup xs))
def tLst (t:TA):TE:=fun σ H Q=>t σ H fun xs H1=>xs.length≤sizeLine∧∀ p,H1 p=none→Q (.ref p) (upd H1 p (.lst xs))
theorem Zb5 {x1} (h:PA X es t):PE X (.Tuple es x1 pos) (tTup t):=by
 intro a s c H Q I d;refine wpAny_Tuple_spliced (thn (h pos a s c H _ I d) fun us s1 ⟨xs,H1,I1,r,z,q⟩=>⟨by rw[← r.length];exact z,?_⟩);have f:H1 s1.heap.objs.size=none:=I1.hok.fresh (Nat.le_refl _);refine⟨.ref s1.heap.objs.size,upd H1 s1.heap.objs.size (.tup xs),I1.laid (t':=s1.toks) (fun b u e=>Heap.get?_push_of_some _ e) (Nat.le_refl _) ?_,rfl,q _ f⟩;exact⟨z,us,r,⟨_,Heap.get?_push_size _ rfl,rfl,_,rfl⟩⟩
theorem Ze1 (h:PA X es t):PE X (.List es pos) (tLst t):=by
 intro a s c H Q I d;refine wpAny_List_spliced (thn (h pos a s c H _ I d) fun us s1 ⟨xs,H1,I1,r,z,q⟩=>⟨by rw[← r.length];exact z,?_⟩);have f:H1 s1.heap.objs.size=none:=I1.hok.fresh (Nat.le_refl _);refine⟨.ref s1.heap.objs.size,upd H1 s1.heap.objs.size (.lst xs),I1.laid (t':=s1.toks) (fun b u e=>Heap.get?_push_of_some _ e) (Nat.le_refl _) ?_,rfl,q _ f⟩;exact⟨z,us,0,r,Heap.get?_push_size _ rfl⟩
end
noncomputable abbrev Sp:=List V→Hp→VK→XK→Prop
noncomputable abbrev CXT:=List Env→Hp→Shared→XK→Value→Shared→Prop
structure Env0 (P:Program) (w:World) (K:W.Frag) (mg:Str→Option Value) (base:Heap) (A:Around) (outer:List Env) (s:Shared) (H:Hp):Prop where
 frames:A.frames=some outer
 mod:Mod K mg base
 bs:∀ b o,base.get? b=some o→s.heap.get? b=some o∧H b=none
 bsz:base.objs.size≤s.heap.objs.size
 funs:s.heap.FunFrames base outer
 frf:∀ b∈frs outer,H b=none
 hok:HOk P w H s.heap
 bare:AllBare s.gens
def CE (outer:List Env) (P:Program) (w:World) (H:Hp) (s:Shared) (Q:VK) (u:Value) (s':Shared):Prop :=
 ∃ v H',s'.os=s.os∧AllBare s'.gens∧Un (frs outer) [] H H' s.heap s'.heap∧HOk P w H' s'.heap∧RelV v u∧Q v H'
def CR (CX:CXT) (outer:List Env) (P:Program) (w:World) (H:Hp) (s:Shared) (Q:VK) (E:XK) (r:Result) (s':Shared):Prop :=
 match r with
 | .ok (.ret u)=>CE outer P w H s Q u s'
 | .ok _=>False
 | .error e=>CX outer H s E e s'
structure FnOk (P:Program) (w:World) (K:W.Frag) (mg:Str→Option Value) (base:Heap) (CX:CXT) (k:Nat) (f:Addr) (fd:FuncData) (ps:List Str) (sp:Sp):Prop where
 len:∀ vs H Q E,sp vs H Q E→vs.length=ps.length
 run:∀ (A:Around) (outer:List Env) (s:Shared) (H:Hp) (args:Args) (us:List Value) (vs:List V) (Q:VK) (E:XK),Room k A→Env0 P w K mg base A outer s H→BindsTo s fd args (ps.zip us)→Vals vs us→sp vs H Q E →
  codeAny (model P w) A (.call (.ref f) args) (CR CX outer P w H s Q E) s
theorem FnOk.mono {P:Program} {w:World} {K:W.Frag} {mg:Str→Option Value} {base:Heap} {CX:CXT} {j k:Nat} {f:Addr} {fd:FuncData} {ps:List Str} {sp:Sp} (F:FnOk P w K mg base CX j f fd ps sp) (h:j≤k) :
  FnOk P w K mg base CX k f fd ps sp:=⟨F.len,fun A a s H b d c Q E e=>F.run A a s H b d c Q E (e.mono h)⟩
section
variable {X:Cx} {pins:List (Addr×Obj)} {σ:St} {H:Hp} {s s':Shared}
theorem Inv.env0 (I:Inv X pins σ H s):Env0 X.prog X.w X.K X.mg X.base X.A X.stack s H :=
 ⟨I.ok.frames,I.ok.mod,I.bs,Nat.le_trans I.ok.bsz I.sz,I.stack,I.stkFree,I.hok,I.bare⟩
theorem Inv.after {Q:VK} {u:Value} (I:Inv X pins σ H s) (h:CE X.stack X.prog X.w H s Q u s'):EP X pins σ Q u s':=by
 obtain⟨v,j,os,a,f,e,r,q⟩:=h;obtain⟨i,g,d,t,c⟩:=s';obtain rfl:c=s.os:=os;exact⟨v,j,I.call (h':=i) (g':=g) (d':=d) (t':=t) (ch:=[]) f e a (fun b z=>absurd z (by simp)),r,q⟩
end
def Zx4 (sp:Sp) (dvs:List V) (E:XK) (t:TA):TE:=fun σ H Q=>t σ H fun vs H1=>sp (vs++dvs) H1 Q E
def Binds (K:W.Frag) (fd:FuncData) (ps:List Str) (ds:List Value):Prop :=
 ∀ (s:Shared) (us:List Value),K.In s.heap→(us++ds).length=ps.length→BindsTo s fd ⟨us,[]⟩ (ps.zip (us++ds))
theorem Binds.all {K:W.Frag} {fd:FuncData} {ps:List Str} (h:∀ us:List Value,us.length=ps.length→bindArgs fd ⟨us,[]⟩=pure (ps.zip us)):Binds K fd ps []:=fun s us _ a=>by
 rw[List.append_nil] at a ⊢;exact .of_eq (h us a)
def Yn7 (CX:CXT) (X:Cx) (E:XK):Prop:=∀ (pins:List (Addr×Obj)) (σ:St) (H:Hp) (s:Shared) (e:Value) (s':Shared),Inv X pins σ H s→CX X.stack H s E e s'→X.xe e s'
section
variable {X:Cx} {CX:CXT} {k:Nat} {f C:Addr} {fd:FuncData} {ps:List Str} {sp:Sp} {dvs:List V} {ds:List Value} {E:XK} {x m:Str} {p pos apos:Pos} {e o:Expr} {es:List Expr} {ta:TE} {t:TA}
theorem Xs1 {pins:List (Addr×Obj)} {σ:St} {H:Hp} {s:Shared} {Q:VK} {us:List Value} {vs:List V} (F:FnOk X.prog X.w X.K X.mg X.base CX k f fd ps sp) (hr:Room k X.A) (hb:Binds X.K fd ps ds) (hd:Vals dvs ds) (hx:Yn7 CX X E)
  (I:Inv X pins σ H s) (r:Vals vs us) (h:sp (vs++dvs) H Q E):wpAny (model X.prog X.w) X.A (call (.ref f) us) (EP X pins σ Q) X.xe s:=by
 have b:Vals (vs++dvs) (us++ds):=r.append hd
 have d:(us++ds).length=ps.length:=by rw[← b.length];exact F.len _ _ _ _ h
 refine wpAny_call (codeAny_mono (F.run X.A X.stack s H ⟨us,[]⟩ (us++ds) (vs++dvs) Q E hr I.env0 (hb s us I.kIn d) b h) fun r c a=>?_)
 cases r with
 | error e=>exact hx pins σ H s e c I a
 | ok fl =>
  cases fl with
  | ret u=>exact I.after a
  | next=>exact False.elim a
  | brk=>exact False.elim a
  | cont=>exact False.elim a
theorem Yf5 (F:FnOk X.prog X.w X.K X.mg X.base CX k f fd ps sp) (hr:Room k X.A) (hg:Gl X x) (hm:X.mg x=some (.ref f)) (hk:W.keepIn X.K (.ref f)=true) (hb:Binds X.K fd ps ds) (hd:Vals dvs ds) (hx:Yn7 CX X E)
  (ha:PA X (e :: es) t) (hdb:(x == ("__debug__":Str))=false:=by decide) (he:starEach (e :: es) X.env=(false,eval e X.env) :: starEach es X.env:=by rfl) (hpl:(backTo pos (starEach es X.env)).any (·.1)=false:=by rfl) :
  PE X (.Call (.Name x p) (e :: es) [] pos) (Zx4 sp dvs E t):=by
 intro a s b H Q I h;refine wpAny_Call_Name_kw (Zn9 I hg hm ?_ hdb);refine W.callWith_K (h₀:=X.base) I.ok.mod.kin hk (thn (ha pos a s b H _ I h) fun us s1 ⟨vs,H1,I1,r,q⟩=>⟨I1.kIn,?_⟩) he hpl;exact Xs1 F hr hb hd hx I1 r q
end
structure FnScope (N P:List Str) (sc:Scope):Prop where
 kind:sc.kind=.function
 co:sc.isCoroutine=false
 gen:sc.isGenerator=false
 nd:N.Nodup
 pre:N.take P.length=P
 par:∀ x∈P,sc.names.lookup x=some .local∨sc.names.lookup x=some .cell
 nofree:∀ y∈sc.names,y.2≠.free
theorem Ym9 {kindOf:Str→Option NameKind} {x:Str}:∀ {binds:List (Str×Value)} {m:Str→Option Value},(∀ v,(x,v) ∉ binds)→bindL kindOf binds m x=m x
 | [],_,_=>rfl
 | (n,v) :: r,m,h=>by
  unfold bindL;rw[Ym9 fun w hw=>h w (List.mem_cons_of_mem _ hw)]
  split
  ·have:x≠n:=by rintro rfl;exact h v List.mem_cons_self
   simp[this]
  ·rfl
theorem Yn1 {kindOf:Str→Option NameKind} {x:Str}:∀ {binds:List (Str×Value)} {m:Str→Option Value},(∀ v,(x,v) ∉ binds)→bindC kindOf binds m x=m x
 | [],_,_=>rfl
 | (n,v) :: r,m,h=>by
  unfold bindC;rw[Yn1 fun w hw=>h w (List.mem_cons_of_mem _ hw)]
  split
  ·rfl
  ·have:x≠n:=by rintro rfl;exact h v List.mem_cons_self
   simp[this]
theorem Yn0 {kindOf:Str→Option NameKind} {x:Str} {v:Value}:∀ {P:List Str} {vs:List Value} {i:Nat} {m:Str→Option Value},P.Nodup→P[i]?=some x→vs[i]?=some v→kindOf x=some .local →
  bindL kindOf (P.zip vs) m x=some v
 | [],_,_,_,_,h,_,_=>by simp at h
 | _ :: _,[],_,_,_,_,h,_=>by simp at h
 | p :: P,w :: vs,0,m,nd,h1,h2,hk=>by
  simp at h1 h2;subst h1;subst h2;show bindL kindOf ((p,w) :: P.zip vs) m p=_;unfold bindL;rw[Ym9 fun v hv=>(List.nodup_cons.mp nd).1 (List.of_mem_zip hv).1,if_pos hk];simp
 | p :: P,w :: vs,i+1,m,nd,h1,h2,hk=>by
  show bindL kindOf ((p,w) :: P.zip vs) m x=_;unfold bindL;exact Yn0 (i:=i) (List.nodup_cons.mp nd).2 (by simpa using h1) (by simpa using h2) hk
theorem Yn2 {kindOf:Str→Option NameKind} {x:Str} {v:Value}:∀ {P:List Str} {vs:List Value} {i:Nat} {m:Str→Option Value},P.Nodup→P[i]?=some x→vs[i]?=some v→kindOf x≠some .local →
  bindC kindOf (P.zip vs) m x=some v
 | [],_,_,_,_,h,_,_=>by simp at h
 | _ :: _,[],_,_,_,_,h,_=>by simp at h
 | p :: P,w :: vs,0,m,nd,h1,h2,hk=>by
  simp at h1 h2;subst h1;subst h2;show bindC kindOf ((p,w) :: P.zip vs) m p=_;unfold bindC;rw[Yn1 fun v hv=>(List.nodup_cons.mp nd).1 (List.of_mem_zip hv).1,if_neg hk];simp
 | p :: P,w :: vs,i+1,m,nd,h1,h2,hk=>by
  show bindC kindOf ((p,w) :: P.zip vs) m x=_;unfold bindC;exact Yn2 (i:=i) (List.nodup_cons.mp nd).2 (by simpa using h1) (by simpa using h2) hk
noncomputable def start (N:List Str) (vs:List V):St:=vs.map some++List.replicate (N.length - vs.length) none
noncomputable def cxOf (CX:CXT) (P:Program) (w:World) (K:W.Frag) (mg:Str→Option Value) (base:Heap) (N:List Str) (qual:Str) (scope:Scope) (f:Addr) (cd:Value) (A:Around) (outer:List Env) (s:Shared) (H:Hp) (E:XK):Cx where
 prog:=P
 w:=w
 K:=K
 mg:=mg
 base:=base
 A:=A.deeper (envOfC qual scope s.heap.objs.size f cd)
 N:=N
 s₀:=s
 H₀:=H
 env:=envOfC qual scope s.heap.objs.size f cd
 outer:=outer
 stack:=envOfC qual scope s.heap.objs.size f cd :: outer
 ex:=[]
 calm:=true
 fn:=fun _=>true
 pn:=[]
 xe:=fun e s'=>wpAny (model P w) (A.deeper (envOfC qual scope s.heap.objs.size f cd)) (leaving (envOfC qual scope s.heap.objs.size f cd) e) (fun _ s''=>CX outer H s E e s'') (fun e' s''=>CX outer H s E e' s'') s'
theorem Zm5 {sc:Scope} {n:Nat} {x:Str} (h:sc.names.lookup x=some .cell):∃ c,(cellsFrom n sc.names []).lookup x=some c:=by
 have q:=W.cellsFrom_some sc.names n [] (.inl h);exact Option.isSome_iff_exists.mp q
theorem Xi0 {CX:CXT} {P:Program} {w:World} {K:W.Frag} {mg:Str→Option Value} {base:Heap} {N ps:List Str} {qual:Str} {scope:Scope} {f:Addr} {cd:Value} {A:Around} {outer:List Env} {s s1:Shared} {H:Hp} {E:XK} {us:List Value} {vs:List V}
  (S:FnScope N ps scope) (hd:A.handled=none) (e0:Env0 P w K mg base A outer s H) (hl:vs.length=ps.length) (r:Vals vs us)
  (x:InCallC s s.heap.objs.size (bindL (envOfC qual scope s.heap.objs.size f cd).kindOf (ps.zip us) fun _=>none) (cellsFrom (s.heap.objs.size+1) scope.names []) (bindC (envOfC qual scope s.heap.objs.size f cd).kindOf (ps.zip us) fun _=>none) s1) :
  Inv (cxOf CX P w K mg base N qual scope f cd A outer s H E) [] (start N vs) H s1:=by
 have G:ps.length≤N.length:=by have:=congrArg List.length S.pre;rw[List.length_take] at this;omega
 obtain⟨o,I,rfl,C⟩:=x.done;have j:∀ b:Addr,b ∉ (cxOf CX P w K mg base N qual scope f cd A outer s H E).ex:=fun b z=>absurd (show b∈([]:List Addr) from z) (by simp)
 refine⟨⟨e0.mod,S.kind,rfl,rfl,Nat.le_refl _,fun y z c o d=>?_,fun y g=>?_,fun y c _ h=>?_,fun _=>hd,Around.frames_deeper e0.frames,.inr ⟨rfl,rfl⟩,fun b z=>absurd z (j b),e0.bs,e0.bsz,fun b _ _=>j b,fun b z=>absurd z (j b),e0.funs,e0.frf⟩,
  rfl,e0.bare,Un.kept C,⟨_,x.toInCall.ns,fun i y v o d J=>?_⟩,fun y c h=>⟨_,x.cell y c h⟩,e0.hok.fresh (Nat.le_refl _),fun y c h=>?_,fun p l=>absurd (show p∈([]:List (Addr×Obj)) from l) (by simp),e0.hok.kept C,?_⟩
 ·exact name_of_addr x.apart (PySem.mem_of_lookup o) (PySem.mem_of_lookup d)
 ·have g:scope.names.lookup y=some .cell∨scope.names.lookup y=some .free:=g
  rcases g with g | g
  ·exact Zm5 g
  ·exact absurd rfl (S.nofree _ (PySem.mem_of_lookup g))
 ·exact Nat.le_of_lt (x.above y c (PySem.mem_of_lookup h))
 ·have m:i < vs.length:=by
   unfold start at d
   by_cases m:i < vs.length
   ·exact m
   ·rw[List.getElem?_append_right (by simpa using m)] at d
    rw[List.getElem?_replicate] at d
    split at d<;>cases d
  have F:vs[i]?=some v:=by
   unfold start at d;rw[List.getElem?_append_left (by simpa using m),List.getElem?_map] at d
   cases e:vs[i]? with
   | none=>rw[e] at d;cases d
   | some a=>rw[e] at d;cases d;rfl
  obtain⟨u,B,D⟩:=r.get F
  have l:ps[i]?=some y:=by
   rw[← S.pre,List.getElem?_take_of_lt (by omega)];exact o
  have t:ps.Nodup:=by rw[← S.pre];exact S.nd.sublist (List.take_sublist _ _)
  refine⟨u,D,?_⟩;rcases S.par y (List.mem_of_getElem? l) with k | k
  ·exact .inl ⟨k,Yn0 t l B k⟩
  ·obtain⟨c,e⟩:=Zm5 (n:=s.heap.objs.size+1) k
   refine .inr ⟨.inl k,c,e,?_⟩;have q:=x.cell y c e;rw[Yn2 t l B (by show scope.names.lookup y≠_;rw[k];decide)] at q;exact q
 ·exact e0.hok.fresh (Nat.le_of_lt (x.above y c (PySem.mem_of_lookup h)))
 ·unfold start
  show _=N.length;rw[List.length_append,List.length_map,List.length_replicate];omega
theorem fn_of {CX:CXT} {P:Program} {w:World} {K:W.Frag} {mg:Str→Option Value} {base:Heap} {k:Nat} {f:Addr} {name qual:Str} {params:Arguments} {body:List Stmt} {scope:Scope} {dV kV doc pm cdv ct oc:Value} {an od:Option Addr}
  {osl:Array (Option Value)} {N ps:List Str} {sp:Sp} (lk:K.lookup f=some ⟨oc,od,.func (W.fnOf name qual params body scope dV kV doc pm an cdv ct),osl⟩) (hcd:W.codeIn K cdv qual=true) (S:FnScope N ps scope)
  (len:∀ vs H Q E,sp vs H Q E→vs.length=ps.length)
  (hbody:∀ (A:Around) (outer:List Env) (s:Shared) (H:Hp) (vs:List V) (Q:VK) (E:XK),Room k (A.deeper (envOfC qual scope s.heap.objs.size f cdv))→sp vs H Q E →
   ∃ t,PSs (cxOf CX P w K mg base N qual scope f cdv A outer s H E) body t∧t { nx:=fun _ H'=>Q .non H',rt:=Q } (start N vs) H) :
  FnOk P w K mg base CX (k+1) f (W.fnOf name qual params body scope dV kV doc pm an cdv ct) ps sp:=by
 refine⟨len,fun A outer s H M z vs Q E l d G r h=>?_⟩;have D:=len _ _ _ _ h;have p:K.In s.heap:=d.mod.kin.keeps fun b o e=>(d.bs b o e).1;have m:s.heap.NoLimit:=d.mod.nolimit.keeps fun b o e=>(d.bs b o e).1
 have g:∀ y∈ps.zip z,scope.names.lookup y.1=some .local∨(scope.names.lookup y.1=some .cell∧((cellsFrom (s.heap.objs.size+1) scope.names []).lookup y.1).isSome=true):=fun⟨n,v⟩ hy=>by
  rcases S.par n (List.of_mem_zip hy).1 with q | q
  ·exact .inl q
  ·exact .inr ⟨q,W.cellsFrom_some _ _ _ (.inl q)⟩
 refine codeAny_call_function l.depth (p _ _ lk) rfl S.co S.gen rfl (W.codeRec_of p hcd) (G _ _ _ _ ?_);refine wpAny_newFunctionEnv_cells S.kind g fun O F s1 x=>?_;subst F;refine⟨m.keeps x.toInCall.keep,codeAny_func ?_⟩;obtain⟨t,B,C⟩:=hbody A outer s H vs Q E (l.deeper _) h;have I:Inv (cxOf CX P w K mg base N qual scope f cdv A outer s H E) [] (start N vs) H s1:=Xi0 S l.hd d D r x;refine wpAny_mono (B [] s1 (start N vs) H _ I C) (fun L s' c=>?_) fun e s' c=>c
 have i:∀ {a:St} {H':Hp} {v:V} {u:Value},Inv (cxOf CX P w K mg base N qual scope f cdv A outer s H E) [] a H' s'→RelV v u→Q v H'→CE outer P w H s Q u s' :=
  fun {a H' v u} J j q=>⟨v,H',J.os,J.bare,J.base,J.hok,j,q⟩
 cases L with
 | ret u =>
  obtain⟨v,a,H',J,j,q⟩:=c;exact i J j q
 | next =>
  obtain⟨a,H',J,q⟩:=c;exact i (v:=V.non) (u:=Value.none) J rfl q
 | brk =>
  obtain⟨_,_,_,q⟩:=c;exact False.elim q
 | cont =>
  obtain⟨_,_,_,q⟩:=c;exact False.elim q
section
variable {X:Cx} {x:Str} {p pos:Pos} {e:Expr} {es:List Expr} {t:TA} {id T:String} {r:List V→Hp→VK→Prop}
def tCB (r:List V→Hp→VK→Prop) (t:TA):TE:=fun σ H Q=>t σ H fun vs H1=>r vs H1 Q
theorem Zd1 (hc:Zr4 X (.builtin id) r) (hg:Gl X x) (hm:X.mg x=none) (hv:bootBuiltins x=some (.builtin id)) (ha:PA X (e :: es) t) (hn:x≠"__name__":=by decide) (hdb:(x == ("__debug__":Str))=false:=by decide)
  (he:starEach (e :: es) X.env=(false,eval e X.env) :: starEach es X.env:=by rfl) (hpl:(backTo pos (starEach es X.env)).any (·.1)=false:=by rfl):PE X (.Call (.Name x p) (e :: es) [] pos) (tCB r t):=by
 intro a s b H Q I h;refine wpAny_Call_Name_kw (Zp8 I hg hm hv ?_ hn hdb);exact PyProof.Rows.callWith_builtin1 (thn (ha pos a s b H _ I h) fun us s1 ⟨vs,H1,I1,r1,q1⟩=>hc a s1 b H1 vs us Q I1 r1 q1) he hpl
theorem Zl0 (hc:Zr4 X (.type T) r) (hg:Gl X x) (hm:X.mg x=none) (hv:bootBuiltins x=some (.type T)) (ha:PA X (e :: es) t) (hn:x≠"__name__":=by decide) (hdb:(x == ("__debug__":Str))=false:=by decide)
  (he:starEach (e :: es) X.env=(false,eval e X.env) :: starEach es X.env:=by rfl) (hpl:(backTo pos (starEach es X.env)).any (·.1)=false:=by rfl):PE X (.Call (.Name x p) (e :: es) [] pos) (tCB r t):=by
 intro a s b H Q I h;refine wpAny_Call_Name_kw (Zp8 I hg hm hv ?_ hn hdb);exact PyProof.Rows.callWith_type1 (thn (ha pos a s b H _ I h) fun us s1 ⟨vs,H1,I1,r1,q1⟩=>hc a s1 b H1 vs us Q I1 r1 q1) he hpl
end
end L2
namespace HT
open PySem PyProof.Rows
section
variable {prog:Program} {w:World} {A:Around} {E:Value→Shared→Prop} {s:Shared}
theorem cat_tup {t b:Addr} {vs ws:List Value} {Q:Value→Shared→Prop} (ht:IsTup s.heap t vs.toArray) (hb:IsTup s.heap b ws.toArray) (hv:vs≠[])
  (h1:ws=[]→Q (.ref t) s) (h2:ws≠[]→Q (.ref s.heap.objs.size) { s with heap:=s.heap.push { cls:=.type "tuple",data:=.seq (vs++ws).toArray } })
  (hsz:vs.length+ws.length≤sizeLine):wpAny (model prog w) A (binaryOp .Add (.ref t) (.ref b)) Q E s:=by
 obtain⟨⟨cls,m,data,i⟩,c,l,n,k⟩:=id ht;obtain⟨⟨p,h,o,d⟩,a,g,j,f⟩:=id hb;simp only at l k g f;subst l k g f
 have e:vs.toArray++ws.toArray=(vs++ws).toArray:=by simp
 by_cases hw:ws=[]
 ·exact concat_meets ⟨_,c,rfl⟩ ⟨_,a,rfl⟩ noFill_tuple_add seq_tuple_add PySem.F.slot_tuple_add PySem.F.entry_tuple_add (PySem.F.args_tuple_add_2 _ _)
   (tuple_addW1 t b vs.toArray ws.toArray n j m h i d (by simpa using hv) (by simp[hw])) ⟨c,a,h1 hw⟩
 ·refine concat_meets ⟨_,c,rfl⟩ ⟨_,a,rfl⟩ noFill_tuple_add seq_tuple_add PySem.F.slot_tuple_add PySem.F.entry_tuple_add (PySem.F.args_tuple_add_2 _ _)
   (tuple_addW2 t b vs.toArray ws.toArray n j m h i d (by simpa using hv) (by simpa using hw) (by rw[List.size_toArray,List.size_toArray];exact hsz)) ⟨c,a,?_⟩
  rw[e];exact h2 hw
noncomputable def sIx (n d:Nat):Option Int→Nat
 | none=>d
 | some v=>if v < 0 then (v+(n:Int)).toNat else min v.toNat n
theorem sIx_none (n d:Nat):sIx n d none=d:=rfl
theorem sIx_nat (n d k:Nat):sIx n d (some (k:Int))=min k n:=by
 show (if (k:Int) < 0 then ((k:Int)+(n:Int)).toNat else min (k:Int).toNat n)=min k n;rw[if_neg (by omega),Int.toNat_natCast]
theorem Wd0 (n d:Nat) (hd:d≤n) (o:Option Int):sIx n d o≤n:=by
 cases o with
 | none=>exact hd
 | some v =>
  show (if v < 0 then (v+(n:Int)).toNat else min v.toNat n)≤n
  by_cases hv:v < 0
  ·rw[if_pos hv];omega
  ·rw[if_neg hv];exact Nat.min_le_right _ _
theorem Xl5 (v:Int) (n d:Nat):(if v < 0 then max (v+(n:Int)) 0 else min v (n:Int))=((sIx n d (some v):Nat):Int):=by
 show (if v < 0 then max (v+(n:Int)) 0 else min v (n:Int))=(((if v < 0 then (v+(n:Int)).toNat else min v.toNat n):Nat):Int)
 by_cases hv:v < 0
 ·simp only[if_pos hv];omega
 ·simp only[if_neg hv];omega
theorem Xb4 (lo hi:Option Int) (n:Nat):Builtin.Slice.sliceAdjust lo hi 1 (n:Int)=(((sIx n 0 lo:Nat):Int),((sIx n n hi:Nat):Int)):=by
 have a:¬ ((1:Int) < 0):=by omega
 unfold Builtin.Slice.sliceAdjust;simp only[a,if_false];refine Prod.ext ?_ ?_
 ·cases lo with
  | none=>rfl
  | some v=>exact Xl5 v n 0
 ·cases hi with
  | none=>rfl
  | some v=>exact Xl5 v n n
theorem Yz1 (i j:Nat):Builtin.Slice.slicePlaces (i:Int) (j:Int) 1=j - i:=by
 unfold Builtin.Slice.slicePlaces
 have a:(1:Int) > 0:=by omega
 simp only[a,if_true,Int.ediv_one]
 split<;>omega
theorem Yc1 {v:Value} {o:Option Int} {Q:Option Int→Shared→Prop} (p:IsPart v o) (h:Q o s):wpAny (model prog w) A (Builtin.Slice.slicePartIndex v) Q E s:=by
 cases p with
 | none=>exact slicePart_none h
 | int i t=>exact slicePart_int h
theorem Zv9 {sl:Addr} {vl vu:Value} {lo hi:Option Int} {n:Nat} {Q:Int×Int×Nat→Shared→Prop} (hs:s.heap.IsSliceOf sl vl vu .none) (pl:IsPart vl lo) (pu:IsPart vu hi)
  (h:Q (((sIx n 0 lo:Nat):Int),1,sIx n n hi - sIx n 0 lo) s):wpAny (model prog w) A (Builtin.Slice.sliceApplied (.ref sl) (pure (n:Int))) Q E s:=by
 obtain⟨d,a,c,b⟩:=id hs;unfold Builtin.Slice.sliceApplied Builtin.Slice.sliceFields;refine wpAny_bind (wpAny_bind (wpAny_field a b (x:=vl) rfl (wpAny_bind (wpAny_field a b (x:=vu) rfl (wpAny_bind (wpAny_field a b (x:=.none) rfl (wpAny_pure ?_)))))));refine wpAny_bind (slicePart_none ?_);show wpAny _ _ (if ((1:Int) == 0)=true then _ else _) _ _ s;rw[if_neg (by decide)];refine wpAny_bind (Yc1 pl (wpAny_bind (Yc1 pu (wpAny_bind (wpAny_pure ?_)))));show wpAny _ _ (match Builtin.Slice.sliceAdjust lo hi 1 (n:Int) with | (lo,hi)=>pure (lo,(1:Int),Builtin.Slice.slicePlaces lo hi 1)) _ _ s;rw[Xb4 lo hi n];show wpAny _ _ (pure (((sIx n 0 lo:Nat):Int),(1:Int),Builtin.Slice.slicePlaces ((sIx n 0 lo:Nat):Int) ((sIx n n hi:Nat):Int) 1)) _ _ s;rw[Yz1];exact wpAny_pure h
theorem Xp6 (xs:Array Value) (i k:Nat):((List.range k).filterMap fun (m:Nat)=>xs[((i:Int)+(m:Int)*1).toNat]?).toArray=((xs.toList.drop i).take k).toArray:=by
 have e:(fun (m:Nat)=>xs[((i:Int)+(m:Int)*1).toNat]?)=fun m=>xs[i+m]?:=by
  funext m
  have:((i:Int)+(m:Int)*1).toNat=i+m:=by omega
  rw[this]
 rw[e];have:=pick_run xs i k;rw[List.filterMap_map] at this;have a:((fun x=>xs[x]?) ∘ fun x=>i+x)=fun m=>xs[i+m]?:=rfl;rw[a] at this;rw[this]
theorem getItem_tuple_cut {t sl:Addr} {items:Array Value} {vl vu:Value} {lo hi:Option Int} {Q:Value→Shared→Prop} (ht:IsTup s.heap t items) (hs:s.heap.IsSliceOf sl vl vu .none) (pl:IsPart vl lo) (pu:IsPart vu hi)
  (hw:¬ (sIx items.size 0 lo=0∧sIx items.size items.size hi=items.size))
  (h:Q (.ref s.heap.objs.size) { s with heap:=s.heap.push { cls:=.type "tuple",data:=.seq ((items.toList.drop (sIx items.size 0 lo)).take (sIx items.size items.size hi - sIx items.size 0 lo)).toArray } })
  (hsz:items.size≤sizeLine):wpAny (model prog w) A (getItem (.ref t) (.ref sl)) Q E s:=by
 have a:sizeOk (.seq ((items.toList.drop (sIx items.size 0 lo)).take (sIx items.size items.size hi - sIx items.size 0 lo)).toArray):=by
  show ((items.toList.drop (sIx items.size 0 lo)).take (sIx items.size items.size hi - sIx items.size 0 lo)).toArray.size≤sizeLine;rw[List.size_toArray,List.length_take,List.length_drop,Array.length_toList];omega
 have k:sIx items.size items.size hi≤items.size:=Wd0 _ _ (Nat.le_refl _) hi;obtain⟨f,b,d,g⟩:=id hs;have e:s.TypeIs (.ref sl) "slice":=⟨f,b,d⟩;unfold getItem
 try with_reducible refine wpAny_holding ?_
 first | refine wpAny_bind (wpAny_pure ?_) | skip
 refine wpAny_bind (wpAny_sequenceKey ht.typeIs (by decide) ?_)
 refine wpAny_bind (wpAny_callSpecial?_slot (name:=Str.ofString "__getitem__") ht.typeIs PyProof.Rows.slot_tuple_getitem
  (wpAny_call_entry PyProof.Rows.slot_tuple_getitem ht.typeIs entry_tuple_getitem ?_ (args_tuple_getitem _ _)))
 show wpAny _ _ (Builtin.Tuple.tupleItemsOf (.ref t) >>= _) _ _ s;refine wpAny_bind (tupleItemsOf_ ht ?_);refine wpAny_bind (wpAny_typeOf e ?_);rw[if_pos (by decide)];refine wpAny_bind (Zv9 hs pl pu ?_)
 have c:¬ ((((sIx items.size 0 lo:Nat):Int) == 0&&(1:Int) == 1&&(sIx items.size items.size hi - sIx items.size 0 lo) == items.size)=true):=by
  intro q;rw[Bool.and_eq_true,Bool.and_eq_true] at q;have j:((sIx items.size 0 lo:Nat):Int)=0:=eq_of_beq q.1.1;have i:sIx items.size items.size hi - sIx items.size 0 lo=items.size:=eq_of_beq q.2;exact hw ⟨by omega,by omega⟩
 show wpAny _ _ (if (((sIx items.size 0 lo:Nat):Int) == 0&&(1:Int) == 1&&(sIx items.size items.size hi - sIx items.size 0 lo) == items.size)=true then _ else _) _ _ s;rw[if_neg c,Xp6]
 first
  | exact wpAny_bind (m:=Builtin.Tuple.tupleExact _) (wpAny_newObj_type (wpAny_pure ⟨_,rfl,wpAny_pure h⟩) a)
  | exact wpAny_bind (m:=Builtin.Tuple.tupleExact _) (wpAny_newObj_type (wpAny_bind (wpAny_pure (wpAny_pure ⟨_,rfl,wpAny_pure h⟩))) a)
  | exact wpAny_bind (wpAny_bind (m:=Builtin.Tuple.tupleExact _) (wpAny_newObj_type (wpAny_pure (wpAny_pure ⟨_,rfl,wpAny_pure h⟩)) a))
  | exact wpAny_bind (wpAny_bind (m:=Builtin.Tuple.tupleExact _) (wpAny_newObj_type (wpAny_pure ⟨_,rfl,wpAny_pure h⟩) a))
end
end HT
namespace L2
open PySem PySem.Spec PyProof.Rows
noncomputable abbrev TO:=St→Hp→(Option Int→Hp→Prop)→Prop
def PO (X:Cx) (e:Option Expr) (t:TO):Prop :=
 ∀ (pins:List (Addr×Obj)) (s:Shared) (σ:St) (H:Hp) (Q:Option Int→Hp→Prop),Inv X pins σ H s→t σ H Q →
  wpAny (model X.prog X.w) X.A (evalPart e X.env) (fun u s'=>∃ o H',Inv X pins σ H' s'∧IsPart u o∧Q o H') X.xe s
noncomputable def Zq0:TO:=fun _ H Q=>Q none H
noncomputable def Yo1 (t:TE):TO:=fun σ H Q=>t σ H fun x H1=>∃ i,x=.int i∧Q (some i) H1
section
variable {X:Cx} {e:Expr} {te:TE} {lo hi:Option Expr} {tl th:TO} {pos p2:Pos}
theorem Zz0:PO X none Zq0:=by
 intro a s b H Q I h;rw[evalPart_none];exact wpAny_pure ⟨none,H,I,.none,h⟩
theorem Zy9 (h:PE X e te):PO X (some e) (Yo1 te):=by
 intro a s b H Q I c;rw[evalPart_some];refine thn (h a s b H _ I c) fun u s1 ⟨x,H1,I1,r1,q1⟩=>?_;obtain⟨i,rfl,q⟩:=q1;obtain⟨t,rfl⟩:=r1;exact⟨some i,H1,I1,.int i t,q⟩
def SlR (X:Cx) (r:V→Option Int→Option Int→Hp→VK→Prop):Prop :=
 ∀ (pins:List (Addr×Obj)) (s:Shared) (σ:St) (H:Hp) (x:V) (v vl vu:Value) (lo hi:Option Int) (sl:Addr) (Q:VK),Inv X pins σ H s→RelV x v→s.heap.IsSliceOf sl vl vu .none→IsPart vl lo→IsPart vu hi→r x lo hi H Q →
  ∃ T id,typeLookup (.type T) "__getitem__"=pure (some (.builtin id))∧s.TypeIs v T∧wpAny (model X.prog X.w) X.A (getItem v (.ref sl)) (EP X pins σ Q) X.xe s
def tSl (r:V→Option Int→Option Int→Hp→VK→Prop) (te:TE) (tl th:TO):TE:=fun σ H Q=>te σ H fun x H1=>tl σ H1 fun l H2=>th σ H2 fun u H3=>r x l u H3 Q
theorem Zs3 {r:V→Option Int→Option Int→Hp→VK→Prop} (hr:SlR X r) (he:PE X e te) (hl:PO X lo tl) (hu:PO X hi th):PE X (.Subscript e (.Slice lo hi none p2) pos) (tSl r te tl th):=by
 intro a s c H Q I h;refine Subscript_ (thn (he a s c H _ I h) fun v s1 ⟨x,H1,I1,r1,q1⟩=>?_);refine wpAny_Slice (thn (hl a s1 c H1 _ I1 q1) fun vl s2 ⟨l,H2,I2,pl,q2⟩=>thn (hu a s2 c H2 _ I2 q2) fun vu s3 ⟨u,H3,I3,pu,q3⟩=>?_);rw[evalPart_none];refine wpAny_pure ?_;have i:Inv X a c H3 { s3 with heap:=s3.heap.push { cls:=.type "slice",data:=.fields #[vl,vu,.none] } }:=I3.kept (t':=s3.toks) fun b j q=>Heap.get?_push_of_some _ q;obtain⟨T,id,g,d,f⟩:=hr a { s3 with heap:=s3.heap.push { cls:=.type "slice",data:=.fields #[vl,vu,.none] } } c H3 x v vl vu l u s3.heap.objs.size Q i r1 (Heap.IsSliceOf.new ..) pl pu q3;show wpAny (model X.prog X.w) X.A (subscriptTail e (.Slice lo hi none p2) v (.ref s3.heap.objs.size)) (EP X a c Q) X.xe { s3 with heap:=s3.heap.push { cls:=.type "slice",data:=.fields #[vl,vu,.none] } };exact tail_any (ops:=[.ref s3.heap.objs.size,v]) d g f (by with_unfolding_all rfl)
noncomputable def cutV (xs:List V) (lo hi:Option Int):List V:=(xs.drop (HT.sIx xs.length 0 lo)).take (HT.sIx xs.length xs.length hi - HT.sIx xs.length 0 lo)
theorem Zm3 (xs:List V) (lo hi:Option Int):(cutV xs lo hi).length≤xs.length:=by
 unfold cutV;rw[List.length_take,List.length_drop];omega
def rSlT (K:W.Frag):V→Option Int→Option Int→Hp→VK→Prop:=fun x lo hi H Q=>∃ a xs,x=.ref a∧SqT K H a xs ∧
 ¬ (HT.sIx xs.length 0 lo=0∧HT.sIx xs.length xs.length hi=xs.length)∧∀ p,H p=none→Q (.ref p) (upd H p (.tup (cutV xs lo hi)))
theorem Wc0:SlR X (rSlT X.K):=by
 intro n s w H x v z y e f A Q I k u m l h;obtain⟨a,c,rfl,p,t,q⟩:=h;cases k;obtain⟨g,r,j,i⟩:=I.tuple p
 have d:g.toArray.size=c.length:=by rw[List.size_toArray];exact r.length.symm
 refine⟨"tuple",_,PyProof.Rows.slot_tuple_getitem.lookup,j.typeIs,?_⟩;refine HT.getItem_tuple_cut j u m l (by rw[d];exact t) ?_ (by rw[d];exact i);rw[d];refine⟨.ref s.heap.objs.size,_,I.laid (t':=s.toks) (o:=.tup (cutV c e f)) (fun b B q=>Heap.get?_push_of_some _ q) (Nat.le_refl _) ?_,rfl,q _ (I.hok.fresh (Nat.le_refl _))⟩;exact⟨Nat.le_trans (Zm3 c e f) i,_,(r.drop (HT.sIx c.length 0 e)).take (HT.sIx c.length c.length f - HT.sIx c.length 0 e),IsTup.new _ _⟩
def Yp8 (K:W.Frag):R2:=fun x y H Q=>∃ a b xs ys,x=.ref a∧y=.ref b∧SqT K H a xs∧SqT K H b ys∧xs≠[]∧xs.length+ys.length≤sizeLine ∧
 (ys=[]→Q (.ref a) H)∧(ys≠[]→∀ p,H p=none→Q (.ref p) (upd H p (.tup (xs++ys))))
theorem Vals.nil_iff {xs:List V} {us:List Value} (r:Vals xs us):us=[]↔xs=[]:=by
 cases r with
 | nil=>simp
 | cons _ _=>simp
theorem Xf5:OpR X (binaryOp .Add) (Yp8 X.K):=by
 intro m s D H x y v u Q I j i h;obtain⟨a,b,g,f,rfl,rfl,B,A,t,e,l,k⟩:=h;cases j;cases i;obtain⟨C,d,p,_⟩:=I.tuple B;obtain⟨r,c,n,_⟩:=I.tuple A;refine HT.cat_tup p n (fun z=>t (d.nil_iff.mp z)) (fun z=>⟨.ref a,H,I,rfl,l (c.nil_iff.mp z)⟩) (fun z=>?_) (by rw[← d.length,← c.length];exact e);refine⟨.ref s.heap.objs.size,_,I.laid (t':=s.toks) (o:=.tup (g++f)) (fun b F q=>Heap.get?_push_of_some _ q) (Nat.le_refl _) ?_,rfl,k (fun w=>z (c.nil_iff.mpr w)) _ (I.hok.fresh (Nat.le_refl _))⟩;exact⟨by rw[List.length_append];exact e,_,d.append c,IsTup.new _ _⟩
end
noncomputable def ixN (n:Nat) (i:Int):Option Nat:=if 0≤i then (if i < n then some i.toNat else none) else if -(n:Int)≤i then some (i+n).toNat else none
noncomputable def atI {α:Type} (xs:List α) (i:Int):Option α:=(ixN xs.length i).bind fun j=>xs[j]?
theorem Xh6 {n:Nat} {i:Int} {j:Nat} (h:ixN n i=some j):seqIndex? i n=some j∧j < n∧-(n:Int)≤i∧i < n:=by
 unfold ixN at h
 by_cases h0:0≤i
 ·rw[if_pos h0] at h
  by_cases h1:i < n
  ·rw[if_pos h1] at h
   have e:i.toNat=j:=Option.some.inj h;exact⟨by rw[seqIndex_of h0 h1,e],by omega,by omega,h1⟩
  ·rw[if_neg h1] at h;cases h
 ·rw[if_neg h0] at h
  by_cases h1:-(n:Int)≤i
  ·rw[if_pos h1] at h
   have e:(i+n).toNat=j:=Option.some.inj h;exact⟨by rw[seqIndex_neg (by omega) h1,e],by omega,h1,by omega⟩
  ·rw[if_neg h1] at h;cases h
theorem Yt0 {α:Type} {xs:List α} {i:Int} {v:α} (h:atI xs i=some v):∃ j,seqIndex? i xs.length=some j∧xs[j]?=some v∧j < xs.length∧-(xs.length:Int)≤i∧i < xs.length:=by
 unfold atI at h
 cases e:ixN xs.length i with
 | none=>rw[e] at h;cases h
 | some j =>
  rw[e] at h;obtain⟨d,c,b,a⟩:=Xh6 e;exact⟨j,d,h,c,b,a⟩
theorem Zb7 {α:Type} {xs:List α} {j:Nat} {v:α} (h:xs[j]?=some v):atI xs (j:Int)=some v:=by
 have a:j < xs.length:=(List.getElem?_eq_some_iff.mp h).1
 have e:ixN xs.length (j:Int)=some j:=by
  unfold ixN;rw[if_pos (by omega),if_pos (by omega)];simp
 unfold atI;rw[e];exact h
def Yt3 (b:Expr):Prop:=∀ o i,subscripted b false o i=operate [o,i] (getItem o i)
def IxR (X:Cx) (r:R2):Prop :=
 ∀ (value slice:Expr) (pins:List (Addr×Obj)) (s:Shared) (σ:St) (H:Hp) (x y:V) (v u:Value) (Q:VK),Inv X pins σ H s→RelV x v→RelV y u→r x y H Q →
  subscripted slice false v u=operate [v,u] (getItem v u)→wpAny (model X.prog X.w) X.A (subscriptTail value slice v u) (EP X pins σ Q) X.xe s
def MtR (X:Cx) (id:String) (r:V→List V→Hp→VK→Prop):Prop :=
 ∀ (pins:List (Addr×Obj)) (s:Shared) (σ:St) (H:Hp) (x:V) (xs:List V) (v:Value) (us:List Value) (Q:VK),Inv X pins σ H s→RelV x v→Vals xs us→r x xs H Q →
  wpAny (model X.prog X.w) X.A (call (.builtin id) (v :: us)) (EP X pins σ Q) X.xe s
section
variable {X:Cx} {a b:Expr} {ta tb:TE} {pos:Pos}
theorem Xw6 {r:R2} (hr:IxR X r) (ha:PE X a ta) (hb:PE X b tb) (hs:Yt3 b):PE X (.Subscript a b pos) (tOp r ta tb):=by
 intro c s d H Q I h;exact Subscript_ (binT ha hb I h fun v u e x y j i g f q=>hr a b c e d j x y v u Q i g f q (hs _ _))
def rIxL (K:W.Frag):R2:=fun x y H Q=>∃ p xs i v,x=.ref p∧y=.int i∧SqL K H p xs∧atI xs i=some v∧Q v H
def rIxT (K:W.Frag):R2:=fun x y H Q=>∃ p xs i v,x=.ref p∧y=.int i∧SqT K H p xs∧atI xs i=some v∧Q v H
def rIxS:R2:=fun x y H Q=>∃ z i c,x=.str z∧y=.int i∧z.length≤sizeLine∧atI z.cps.toList i=some c∧Q (.str ⟨#[c]⟩) H
theorem Xy3:IxR X (rIxL X.K):=by
 intro n o a s f H x y v u Q I C B h l;obtain⟨p,N,i,z,rfl,rfl,D,G,q⟩:=h;cases C;obtain⟨t,rfl⟩:=B;obtain⟨k,r,d,O⟩:=I.list D;obtain⟨j,b,M,S,L,J⟩:=Yt0 G;obtain⟨w,m,g⟩:=r.get M;have F:=r.length;have R:=Zv3;have c:EP X a f Q w s:=⟨z,H,I,g,q⟩
 by_cases h0:0≤i
 ·have e:i.toNat=j:=by
   rw[seqIndex_of h0 J] at b;exact Option.some.inj b
  exact item_listR d.isList h0 (by omega) (by rw[e];simpa using m) c l
 ·have e:(i+(k.toArray.size:Int)).toNat=j:=by
   rw[seqIndex_neg (by omega) L] at b;rw[List.size_toArray,← F];exact Option.some.inj b
  exact subscriptTail_builtinR (x:=w) d.isList.typeIs slot_list_getitem.lookup
   (wpAny_getItem_list_neg (Q:=fun r A=>r=w∧EP X a f Q r A) d.isList (by omega) (by rw[List.size_toArray]<;>omega) (by omega) (by rw[e];simpa using m) ⟨rfl,c⟩) l
theorem Wj5:IxR X (rIxT X.K):=by
 intro f g a s b H x y v u Q I m l h n;obtain⟨p,J,i,z,rfl,rfl,o,B,q⟩:=h;cases m;obtain⟨t,rfl⟩:=l;obtain⟨G,r,d,L⟩:=I.tuple o;obtain⟨j,D,C,R,O,N⟩:=Yt0 B;obtain⟨w,F,c⟩:=r.get C;have A:=r.length;have M:=Zv3;have e:EP X a b Q w s:=⟨z,H,I,c,q⟩;exact subscriptTail_builtinR (x:=w) d.typeIs slot_tuple_getitem.lookup
  (getItem_tuple (j:=j) (Q:=fun r k=>r=w∧EP X a b Q r k) d (by omega) (by omega) (by rw[List.size_toArray,← A];exact D) (by simpa using F) ⟨rfl,e⟩) n
theorem Wj6:IxR X rIxS:=by
 intro b d g s A H x y v u Q I f e h k;obtain⟨z,i,c,rfl,rfl,C,m,q⟩:=h;obtain⟨t,rfl⟩:=f;obtain⟨B,rfl⟩:=e;obtain⟨j,a,p,F,o,n⟩:=Yt0 m
 have l:z.cps.toList.length=z.length:=by simp[Str.length]
 rw[l] at a o n;have D:=Zv3
 exact tail_any (typeIs_str s z t) slot_str_getitem.lookup (getItem_str (c:=c) (by
  have w:decide (i < -(2 ^ 63:Int))=false:=decide_eq_false (by omega);have r:decide (i ≥ 2 ^ 63)=false:=decide_eq_false (by omega)
  rw[w,r,Bool.or_false]) (by rw[a];simpa using p) ⟨.str ⟨#[c]⟩,H,I.tok _,⟨_,rfl⟩,q⟩) k
theorem Yz5 (its:List Value) (n j:Nat) (u:Value):Obj.mapSeq (·.setIfInBounds j u) { cls:=.type "list",data:=.seq its.toArray n }={ cls:=.type "list",data:=.seq (its.set j u).toArray n }:=by
 simp[Obj.mapSeq]
theorem Inv.lst {pins:List (Addr×Obj)} {σ:St} {H:Hp} {s:Shared} {p:Addr} {xs:List V} (I:Inv X pins σ H s) (h:H p=some (.lst xs)) :
  ∃ (its:List Value) (n:Nat),Vals xs its∧s.heap.get? p=some { cls:=.type "list",data:=.seq its.toArray n }∧xs.length≤sizeLine:=by
 obtain⟨z,its,n,r,e⟩:=I.hok p _ h;exact⟨its,n,r,e,z⟩
theorem Inv.lstUpd {pins:List (Addr×Obj)} {σ:St} {H:Hp} {s:Shared} {p:Addr} {xs ys:List V} {its its':List Value} {n n':Nat} {f:Obj→Obj} (I:Inv X pins σ H s) (h:H p=some (.lst xs))
  (ho:s.heap.get? p=some { cls:=.type "list",data:=.seq its.toArray n }) (hf:f { cls:=.type "list",data:=.seq its.toArray n }={ cls:=.type "list",data:=.seq its'.toArray n' }) (r:Vals ys its') (hz:ys.length≤sizeLine) (t:Nat) :
  Inv X pins σ (upd H p (.lst ys)) { s with heap:=s.heap.update p f,toks:=t }:=by
 have e:(s.heap.update p f).get? p=some { cls:=.type "list",data:=.seq its'.toArray n' }:=by
  rw[Heap.get?_update_self f ho (by rw[hf]<;>rfl),hf]
 refine I.write (x:=p) (e:=p) (by rw[h];trivial) (.inl rfl) (fun b u a q=>(Heap.get?_update_other _ _ (Ne.symm a)).trans q) ⟨_,e⟩ ?_;exact⟨hz,its',n',r,e⟩
def Yp6:V→V→V→Hp→(Hp→Prop)→Prop:=fun o i v H Q=>∃ p xs k j,o=.ref p∧i=.int k∧H p=some (.lst xs)∧ixN xs.length k=some j∧Q (upd H p (.lst (xs.set j v)))
theorem Xo6:PSet X Yp6:=by
 intro c s x H o i v F G u Q I A B z h;obtain⟨p,y,k,j,rfl,rfl,g,D,q⟩:=h;cases A;obtain⟨t,rfl⟩:=B;obtain⟨b,n,r,d,C⟩:=I.lst g;obtain⟨a,L,m,l⟩:=Xh6 D;have e:=r.length;have J:=Zv3
 have w:Inv X c x (upd H p (.lst (y.set j v))) { s with heap:=s.heap.update p (Obj.mapSeq (·.setIfInBounds j u)) } :=
  I.lstUpd g d (Yz5 b n j u) (r.set z j) (by rw[List.length_set];exact C) s.toks
 by_cases h0:0≤k
 ·have f:k.toNat=j:=by
   rw[seqIndex_of h0 l] at a;exact Option.some.inj a
  exact W.ki_setAt d h0 (by omega) (by rw[List.size_toArray,← e];exact l) (by rw[f];exact⟨_,w,q⟩)
 ·have f:(k+(b.toArray.size:Int)).toNat=j:=by
   rw[seqIndex_neg (by omega) m] at a;rw[List.size_toArray,← e];exact Option.some.inj a
  exact W.ki_setBack d (by omega) (by rw[List.size_toArray,← e];exact m) (by omega) (by rw[f];exact⟨_,w,q⟩)
theorem Yj2 (lo hi:Option Int) (n:Nat):(sliceBounds lo hi none n).1=((HT.sIx n 0 lo:Nat):Int)∧(sliceBounds lo hi none n).2.1=((HT.sIx n n hi:Nat):Int)∧(sliceBounds lo hi none n).2.2=1:=by
 refine⟨?_,?_,rfl⟩
 ·cases lo with
  | none=>simp[sliceBounds,HT.sIx]
  | some i =>
   simp only[sliceBounds,HT.sIx,Option.getD_none,show (1:Int) > 0 by decide,if_true]
   by_cases h:i < 0
   ·simp only[h,if_true]<;>omega
   ·simp only[h,if_false]<;>omega
 ·cases hi with
  | none=>simp[sliceBounds,HT.sIx]
  | some i =>
   simp only[sliceBounds,HT.sIx,Option.getD_none,show (1:Int) > 0 by decide,if_true]
   by_cases h:i < 0
   ·simp only[h,if_true]<;>omega
   ·simp only[h,if_false]<;>omega
theorem Ye4 (its:List Value) (lo hi:Option Int):slicePick its.toArray lo hi none=((its.drop (HT.sIx its.length 0 lo)).take (HT.sIx its.length its.length hi - HT.sIx its.length 0 lo)).toArray:=by
 obtain⟨c,b,a⟩:=Yj2 lo hi its.toArray.size;unfold slicePick;rw[c,b,a]
 simp only[sliceRange_one,pick_run,List.size_toArray]<;>rfl
def rSlL (K:W.Frag):V→Option Int→Option Int→Hp→VK→Prop:=fun x lo hi H Q=>∃ a xs,x=.ref a∧SqL K H a xs∧∀ p,H p=none→Q (.ref p) (upd H p (.lst (cutV xs lo hi)))
theorem Ye5:SlR X (rSlL X.K):=by
 intro l s u H x v y w d f z Q I i p k j h;obtain⟨a,c,rfl,n,q⟩:=h;cases i;obtain⟨t,r,g,m⟩:=I.list n;have e:=r.length;refine⟨"list",_,slot_list_getitem.lookup,g.isList.typeIs,?_⟩;refine wpAny_getItem_list_slice g.isList p k j .none (by simp) ?_ (by rw[List.size_toArray]<;>omega);rw[Ye4,← e];refine⟨.ref s.heap.objs.size,_,I.laid (t':=s.toks) (o:=.lst (cutV c d f)) (fun b A q=>Heap.get?_push_of_some _ q) (Nat.le_refl _) ?_,rfl,q _ (I.hok.fresh (Nat.le_refl _))⟩;exact⟨Nat.le_trans (Zm3 c d f) m,_,0,(r.drop (HT.sIx c.length 0 d)).take (HT.sIx c.length c.length f - HT.sIx c.length 0 d),Heap.get?_push_size _ rfl⟩
noncomputable def Yg8:V→Bool
 | .non=>true
 | .bl _=>true
 | .int _=>true
 | .str _=>true
 | _=>false
noncomputable def eqV:V→V→Bool
 | .non,.non=>true
 | .bl a,.bl b=>a == b
 | .bl a,.int b=>(if a then 1 else 0) == b
 | .int a,.bl b=>a == (if b then 1 else 0)
 | .int a,.int b=>a == b
 | .str a,.str b=>a == b
 | _,_=>false
theorem Wk4 {A:Around} {s:Shared} {y x:V} {u v:Value} (ry:RelV y u) (rx:RelV x v) (fy:Yg8 y=true) (fx:Yg8 x=true):SeqAt.EqAt A s u v (eqV y x):=by
 cases y with
 | non =>
  cases ry
  cases x with
  | non=>cases rx;exact SeqAt.EqAt.same _
  | bl b=>cases rx;exact SeqAt.EqAt.none_bool b
  | int b=>obtain⟨t,rfl⟩:=rx;exact SeqAt.EqAt.none_int b t
  | str b=>obtain⟨t,rfl⟩:=rx;exact SeqAt.EqAt.none_str b t
  | _=>exact absurd (show false=true from fx) Bool.false_ne_true
 | bl a =>
  cases ry
  cases x with
  | non=>cases rx;exact SeqAt.EqAt.bool_none a
  | bl b=>cases rx;exact SeqAt.EqAt.bool_bool a b
  | int b=>obtain⟨t,rfl⟩:=rx;exact SeqAt.EqAt.bool_int a b t
  | str b=>obtain⟨t,rfl⟩:=rx;exact SeqAt.EqAt.bool_str a b t
  | _=>exact absurd (show false=true from fx) Bool.false_ne_true
 | int a =>
  obtain⟨c,rfl⟩:=ry
  cases x with
  | non=>cases rx;exact SeqAt.EqAt.int_none a c
  | bl b=>cases rx;exact SeqAt.EqAt.int_bool a c b
  | int b=>obtain⟨t,rfl⟩:=rx;exact SeqAt.EqAt.int_int a c b t
  | str b=>obtain⟨t,rfl⟩:=rx;exact SeqAt.EqAt.int_str a c b t
  | _=>exact absurd (show false=true from fx) Bool.false_ne_true
 | str a =>
  obtain⟨c,rfl⟩:=ry
  cases x with
  | non=>cases rx;exact SeqAt.EqAt.str_none a c
  | bl b=>cases rx;exact SeqAt.EqAt.str_bool a c b
  | int b=>obtain⟨t,rfl⟩:=rx;exact SeqAt.EqAt.str_int a c b t
  | str b=>obtain⟨t,rfl⟩:=rx;exact SeqAt.EqAt.str_str a c b t
  | _=>exact absurd (show false=true from fx) Bool.false_ne_true
 | _=>exact absurd (show false=true from fy) Bool.false_ne_true
noncomputable def eqU (x:V) (u:Value):Bool:=match u with
 | .none=>eqV .non x
 | .bool b=>eqV (.bl b) x
 | .int i _=>eqV (.int i) x
 | .str z _=>eqV (.str z) x
 | _=>false
theorem Xt9 {x y:V} {u:Value} (r:RelV y u) (f:Yg8 y=true):eqU x u=eqV y x:=by
 cases y with
 | non=>cases r;rfl
 | bl b=>cases r;rfl
 | int i=>obtain⟨t,rfl⟩:=r;rfl
 | str z=>obtain⟨t,rfl⟩:=r;rfl
 | _=>exact absurd (show false=true from f) Bool.false_ne_true
theorem Yt1 {x:V}:∀ {xs:List V} {us:List Value},Vals xs us→xs.all Yg8=true→us.any (eqU x)=xs.any fun y=>eqV y x
 | _,_,.nil,_=>rfl
 | y :: xs,u :: us,.cons r t,f=>by
  rw[List.all_cons,Bool.and_eq_true] at f;rw[List.any_cons,List.any_cons,Xt9 r f.1,Yt1 t f.2]
theorem Yg3 {A:Around} {s:Shared} {x:V} {v:Value} (rx:RelV x v) (fx:Yg8 x=true):∀ {xs:List V} {us:List Value},Vals xs us→xs.all Yg8=true→∀ u∈us,SeqAt.EqAt A s u v (eqU x u)
 | _,_,.nil,_=>fun u hu=>by cases hu
 | y :: xs,u :: us,.cons r t,f=>fun u' hu=>by
  rw[List.all_cons,Bool.and_eq_true] at f;rcases List.mem_cons.mp hu with rfl | hu
  ·rw[Xt9 r f.1];exact Wk4 r rx f.1 fx
  ·exact Yg3 rx fx t f.2 u' hu
noncomputable def inV (x:V) (xs:List V):Bool:=xs.any fun y=>eqV y x
def rIn (K:W.Frag) (neg:Bool):R2:=fun x y H Q=>∃ p xs,y=.ref p∧(SqL K H p xs∨SqT K H p xs)∧Yg8 x=true∧xs.all Yg8=true∧Q (.bl (if neg then !inV x xs else inV x xs)) H
theorem Zl1:OpR X (compareOp .In) (rIn X.K false):=by
 intro j s l H x y v u Q I f i h;obtain⟨p,m,rfl,b,g,c,q⟩:=h;cases i;rcases b with b | b
 ·obtain⟨a,r,d,k⟩:=I.list b
  refine SeqAt.in_listAt (eqU x) d.isList (fun w e=>Yg3 f g r c w (by simpa using e)) ⟨.bl _,H,I,rfl,?_⟩;rw[show a.toArray.any (eqU x)=a.any (eqU x) by simp,Yt1 r c];exact q
 ·obtain⟨a,r,d,k⟩:=I.tuple b
  refine SeqAt.in_tupleAt (eqU x) d (fun w e=>Yg3 f g r c w (by simpa using e)) ⟨.bl _,H,I,rfl,?_⟩;rw[show a.toArray.any (eqU x)=a.any (eqU x) by simp,Yt1 r c];exact q
theorem Zc9:Zr4 X (.builtin "len") (fun xs H Q=>∃ p ys,xs=[.ref p]∧(SqL X.K H p ys∨SqT X.K H p ys)∧Q (.int ys.length) H):=by
 intro g s j H xs k Q I r h;obtain⟨p,ys,rfl,b,q⟩:=h;obtain⟨u,rfl,f⟩:=Yn9 r;cases f;have l:=Zv3;rcases b with b | b
 ·obtain⟨e,c,d,i⟩:=I.list b
  have a:=c.length;exact Calls.call_len_list d.isList (by simp only[List.size_toArray]<;>omega) ⟨.int ys.length,H,I.tok _,⟨s.toks+1,by rw[List.size_toArray,a]⟩,q⟩
 ·obtain⟨e,c,d,i⟩:=I.tuple b
  have a:=c.length;exact len_tuple d (by simp only[List.size_toArray]<;>omega) ⟨.int ys.length,H,I.tok _,⟨s.toks+1,by rw[List.size_toArray,a]⟩,q⟩
theorem Ym7:Zr4 X (.type "list") (fun xs H Q=>∃ p ys,xs=[.ref p]∧(SqL X.K H p ys∨SqT X.K H p ys)∧∀ l,H l=none→Q (.ref l) (upd H l (.lst ys))):=by
 intro t s A H xs C Q I r h;obtain⟨p,ys,rfl,j,q⟩:=h;obtain⟨u,rfl,B⟩:=Yn9 r;cases B
 have k:∀ (a:List Value),Vals ys a→ys.length≤sizeLine→∀ (c:Heap) (f:Nat),(∀ b o',s.heap.get? b=some o'→c.get? b=some o') →
   c.get? s.heap.objs.size=some { cls:=.type "list",dict:=none,data:=.seq a.toArray f,slots:=#[] }→EP X t A Q (.ref s.heap.objs.size) { s with heap:=c }:=fun a d i c f g e =>
  ⟨.ref s.heap.objs.size,_,I.laid (t':=s.toks) g (Nat.le_refl _) (show ObjOk X.prog X.w _ c _ (.lst ys) from ⟨i,a,f,d,e⟩),rfl,q _ (I.hok.fresh (Nat.le_refl _))⟩
 rcases j with j | j
 ·obtain⟨a,d,m,i⟩:=I.list j
  have x:=d.length;obtain⟨o,v,z,n,y⟩:=m.isList;exact call_list_seq p (.inl rfl) v z y (fun c f g e=>k a d i c f g e) (by simp only[List.size_toArray]<;>omega)
 ·obtain⟨a,d,m,i⟩:=I.tuple j
  have x:=d.length;obtain⟨o,v,z,n,y⟩:=m;exact call_list_seq p (.inr rfl) v z y (fun c f g e=>k a d i c f g e) (by simp only[List.size_toArray]<;>omega)
theorem Yh4:Zr4 X (.type "tuple") (fun xs H Q=>∃ p ys,xs=[.ref p]∧((SqL X.K H p ys∧∀ l,H l=none→Q (.ref l) (upd H l (.tup ys)))∨(SqT X.K H p ys∧Q (.ref p) H))):=by
 intro a s j H xs y Q I r h;obtain⟨p,ys,rfl,h⟩:=h;obtain⟨u,rfl,n⟩:=Yn9 r;cases n;rcases h with ⟨i,q⟩ | ⟨i,q⟩
 ·obtain⟨c,f,g,k⟩:=I.list i
  have v:=f.length;refine call_tuple_list g.isList (fun d t=>?_) (by simp only[List.size_toArray]<;>omega);have m:Inv X a j H { s with heap:=d }:=I.kept (t':=s.toks) t
  have x:Inv X a j (upd H d.objs.size (.tup ys)) { s with heap:=d.push { cls:=.type "tuple",data:=.seq c.toArray } } :=
   m.laid (t':=s.toks) (fun b o e=>Heap.get?_push_of_some _ e) (Nat.le_refl _) (show ObjOk X.prog X.w _ _ _ (.tup ys) from ⟨k,c,f,IsTup.new _ _⟩)
  exact⟨.ref d.objs.size,_,x,rfl,q _ (m.hok.fresh (Nat.le_refl _))⟩
 ·obtain⟨c,f,g,k⟩:=I.tuple i
  exact call_tuple_same g ⟨.ref p,H,I,rfl,q⟩
def tyV (K:W.Frag) (T:String) (x:V) (H:Hp):Prop:=match x with
 | .str _=>T="str"
 | .int _=>T="int"
 | .ref p=>(T="list"∧∃ xs,SqL K H p xs)∨(T="tuple"∧∃ o,K.lookup p=some o∧o.cls=.type "tuple"∧o.dict=none) ∨
   (T="dict"∧((∃ kvs,H p=some (.dK kvs))∨∃ kvs,H p=some (.dT kvs)))∨(T="set"∧∃ S n,H p=some (.set S n))
 | _=>False
theorem Xs0 {pins:List (Addr×Obj)} {σ:St} {H:Hp} {s:Shared} {T:String} {x:V} {v:Value} (I:Inv X pins σ H s) (r:RelV x v) (ty:tyV X.K T x H) :
  s.TypeIs v T∧∀ a,v=.ref a→∃ ob,s.heap.get? a=some ob∧ob.dict=none:=by
 cases x with
 | str z =>
  obtain⟨t,rfl⟩:=r;cases (show T="str" from ty);exact⟨typeIs_str s z t,fun _ e=>nomatch e⟩
 | int i =>
  obtain⟨t,rfl⟩:=r;cases (show T="int" from ty);exact⟨typeIs_int s i t,fun _ e=>nomatch e⟩
 | ref p =>
  cases r;rcases ty with ⟨rfl,m,j⟩ | ⟨rfl,o,b,k,d⟩ | ⟨rfl,b⟩ | ⟨rfl,S,n,b⟩
  ·obtain⟨l,_,g,_⟩:=I.list j
   refine⟨g.isList.typeIs,fun a e=>?_⟩;cases e;obtain⟨o,n,e,c,d,_⟩:=g;exact⟨o,e,d⟩
  ·refine⟨⟨o,I.kIn p o b,k⟩,fun a e=>?_⟩
   cases e;exact⟨o,I.kIn _ o b,d⟩
  ·have z:∃ o,s.heap.get? p=some o∧o.ExactDict:=by
    rcases b with ⟨h,b⟩ | ⟨h,b⟩
    ·obtain⟨_,_,_,_,o,_,_,e,ex,_⟩:=I.hok p _ b
     exact⟨o,e,ex⟩
    ·obtain⟨_,_,_,_,o,_,_,e,ex,_⟩:=I.hok p _ b
     exact⟨o,e,ex⟩
   obtain⟨o,e,ex⟩:=z;refine⟨⟨o,e,ex.1⟩,fun a f=>?_⟩;cases f;exact⟨o,e,ex.2.1⟩
  ·obtain⟨o,_,_,_,e,ex,_⟩:=I.hok p _ b
   refine⟨⟨o,e,ex.1⟩,fun a f=>?_⟩;cases f;exact⟨o,e,ex.2.1⟩
 | _=>exact False.elim ty
def tBM0 (K:W.Frag) (T:String) (r:V→List V→Hp→VK→Prop) (to:TE):TE:=fun σ H Q=>to σ H fun x H1=>tyV K T x H1∧r x [] H1 Q
def tBM (K:W.Frag) (T:String) (r:V→List V→Hp→VK→Prop) (to:TE) (t:TA):TE:=fun σ H Q=>to σ H fun x H1=>tyV K T x H1∧t σ H1 fun xs H2=>r x xs H2 Q
variable {o e:Expr} {es:List Expr} {to:TE} {t:TA} {name:Str} {apos cpos:Pos} {T id:String} {r:V→List V→Hp→VK→Prop}
theorem Xf4 (pa:PlainAttrs T) (slot:Slot T name id) (hty:typeOf (.builtin id)=pure (.type "method_descriptor")) (hm:MtR X id r) (ho:PE X o to)
  (hbase:attributeBase o name X.env (eval o X.env)=eval o X.env:=by rfl) (hline:(apos.endLine == cpos.line)=true:=by rfl):PE X (.Call (.Attribute o name apos) [] [] cpos) (tBM0 X.K T r to):=by
 intro a s b H Q I h;refine wpAny_Call_method0_late hbase hline (thn (ho a s b H _ I h) fun v s1 ⟨x,H1,I1,r1,ty,q1⟩=>?_);obtain⟨d,c⟩:=Xs0 I1 r1 ty;exact⟨T,id,pa,slot,hty,d,c,Calls.callWith_builtin rfl (PySem.evalArgs_none (hm a s1 b H1 x [] v [] Q I1 r1 .nil q1))⟩
theorem Zz2 (pa:PlainAttrs T) (slot:Slot T name id) (hty:typeOf (.builtin id)=pure (.type "method_descriptor")) (hm:MtR X id r) (ho:PE X o to) (ha:PA X (e :: es) t)
  (hbase:attributeBase o name X.env (eval o X.env)=eval o X.env:=by rfl)
  (hfew:((backTo cpos (starEach (e :: es) X.env)).all (fun x=>!x.1)&&(backToKw cpos (keywordEach [] X.env)).all (fun x=>x.1.isSome)
   && decide ((e :: es).length+([]:List Keyword).length+(if ([]:List Keyword).isEmpty then 0 else 1) < 30))=true:=by rfl)
  (hline:(apos.endLine == cpos.line)=true:=by rfl) (hs:starEach (e :: es) X.env=(false,eval e X.env) :: starEach es X.env:=by rfl) (hplain:(backTo cpos (starEach es X.env)).any (·.1)=false:=by rfl) :
  PE X (.Call (.Attribute o name apos) (e :: es) [] cpos) (tBM X.K T r to t):=by
 intro a s b H Q I h;refine wpAny_Call_method_late hbase hfew hline rfl (thn (ho a s b H _ I h) fun v s1 ⟨x,H1,I1,r1,ty,q1⟩=>?_);obtain⟨f,d⟩:=Xs0 I1 r1 ty;refine⟨T,id,pa,slot,hty,f,d,?_⟩;have c:=ha cpos a s1 b H1 _ I1 q1;rw[hs] at c ⊢;refine Calls.callWith_builtin (by show (false||(backTo cpos (starEach es X.env)).any (·.1))=false;rw[hplain]<;>rfl) (Calls.evalArgs_plain ?_);exact thn c fun us s2 ⟨vs,H2,I2,r2,q2⟩=>hm a s2 b H2 x vs v us Q I2 r1 r2 q2
end
def MtM (X:Cx) (id:String) (r:V→List V→Hp→VK→Prop):Prop :=
 ∀ (pins:List (Addr×Obj)) (s:Shared) (σ:St) (H:Hp) (x:V) (xs:List V) (v:Value) (us:List Value) (Q:VK),Inv X pins σ H s→RelV x v→Vals xs us→r x xs H Q →
  wpAny (model X.prog X.w) X.A (call (.builtin id) (v :: us)) (EP X pins σ Q) X.xe s
theorem Vals.one:∀ {x:V} {us:List Value},Vals [x] us→∃ u,us=[u]∧RelV x u
 | _,_,.cons r .nil=>⟨_,rfl,r⟩
theorem Vals.zero:∀ {us:List Value},Vals [] us→us=[]
 | _,.nil=>rfl
theorem Vals.dropLast {xs:List V} {us:List Value} (h:Vals xs us):Vals xs.dropLast us.dropLast:=by
 induction h with
 | nil=>exact .nil
 | cons r t ih =>
  cases t with
  | nil=>exact .nil
  | cons q t'=>exact .cons r ih
theorem Xa3 {α:Type} (l:List α):l.eraseIdx (l.length - 1)=l.dropLast:=by
 induction l with
 | nil=>rfl
 | cons a r ih =>
  cases r with
  | nil=>rfl
  | cons b r =>
   have e:(a :: b :: r).length - 1=((b :: r).length - 1)+1:=by
    have d:(a :: b :: r).length=r.length+2:=rfl;have c:(b :: r).length=r.length+1:=rfl;omega
   rw[e,List.eraseIdx_cons_succ,ih]
   all_goals rfl
section
variable {X:Cx} {pins:List (Addr×Obj)} {σ:St} {H:Hp} {s:Shared} {l b:Addr} {xs ys zs:List V}
theorem Inv.lset {its its':List Value} {n:Nat} {f:Array Value→Array Value} {t':Nat} (I:Inv X pins σ H s) (hH:H l=some (.lst xs))
  (e:s.heap.get? l=some { cls:=.type "list",data:=.seq its.toArray n }) (hf:f its.toArray=its'.toArray) (hv:Vals ys its') (hz:ys.length≤sizeLine) :
  Inv X pins σ (upd H l (.lst ys)) { s with heap:=s.heap.update l (Obj.mapSeq f),toks:=t' }:=by
 have q:=PySem.IsL.update e f;rw[hf] at q;refine I.write (x:=l) (e:=l) (by rw[hH];exact trivial) (.inl rfl) (fun c u b a=>(Heap.get?_update_other s.heap (Obj.mapSeq f) (Ne.symm b)).trans a) ⟨_,q⟩ ?_;exact⟨hz,its',_,hv,q⟩
theorem Inv.lnew {its:List Value} {t':Nat} (I:Inv X pins σ H s) (hv:Vals ys its) (hz:ys.length≤sizeLine) :
  Inv X pins σ (upd H s.heap.objs.size (.lst ys)) { s with heap:=s.heap.push { cls:=.type "list",data:=.seq its.toArray },toks:=t' } :=
 I.laid (fun _ _ q=>Heap.get?_push_of_some _ q) (Nat.le_refl _) ⟨hz,its,0,hv,Heap.get?_push_size _ rfl⟩
theorem Inv.fresh (I:Inv X pins σ H s):H s.heap.objs.size=none:=I.hok.fresh (Nat.le_refl _)
theorem Inv.lstM (I:Inv X pins σ H s) (hH:H l=some (.lst xs)):xs.length≤sizeLine∧∃ (its:List Value) (n:Nat),Vals xs its∧xs.length=its.length∧s.heap.get? l=some { cls:=.type "list",data:=.seq its.toArray n }:=by
 obtain⟨z,its,n,r,e⟩:=I.hok l _ hH;exact⟨z,its,n,r,r.length,e⟩
theorem Xp8 {n:Nat} (h:n≤sizeLine):Builtin.List.listTooLong n=false:=by
 unfold Builtin.List.listTooLong;exact decide_eq_false (by omega)
end
section
variable {X:Cx}
def Zq3:V→List V→Hp→VK→Prop:=fun x vs H Q=>∃ l xs y,x=.ref l∧vs=[y]∧H l=some (.lst xs)∧xs.length < sizeLine∧Q .non (upd H l (.lst (xs++[y])))
theorem Zh3:MtM X "list.append" Zq3:=by
 intro g s i H x k v m Q I c d h;obtain⟨l,j,y,rfl,rfl,b,o,q⟩:=h;cases c;obtain⟨u,rfl,f⟩:=d.one;obtain⟨z,a,n,r,p,e⟩:=I.lstM b;refine call_meets F.slot_list_append ⟨_,e,rfl⟩ F.entry_list_append (F.args_list_append_2 _ _) (PySem.list_append l a.toArray n u (by rw[List.size_toArray];omega)) ⟨e,?_⟩;refine⟨.non,_,I.lset (its':=a++[u]) b e (by simp) (r.append (.cons f .nil)) ?_,rfl,q⟩;rw[List.length_append,List.length_singleton];omega
def Zq2:V→List V→Hp→VK→Prop:=fun x vs H Q=>∃ l b xs zs,x=.ref l∧vs=[.ref b]∧H l=some (.lst xs)∧H b=some (.lst zs)∧xs.length+zs.length≤sizeLine∧Q .non (upd H l (.lst (xs++zs)))
theorem Yl1:MtM X "list.extend" Zq2:=by
 intro o s A H x G v J Q I i j h;obtain⟨l,b,D,B,rfl,rfl,g,t,L,q⟩:=h;cases i;obtain⟨u,rfl,k⟩:=j.one;cases k;obtain⟨z,c,n,r,M,e⟩:=I.lstM g;obtain⟨C,a,p,m,y,w⟩:=I.lstM t
 have f:c.toArray.size+a.toArray.size≤sizeLine:=by rw[List.size_toArray,List.size_toArray];omega
 have d:¬ (!c.toArray.isEmpty&&Builtin.List.listTooLong (c.toArray.size+a.toArray.size))=true:=by
  rw[Xp8 f,Bool.and_false];exact Bool.false_ne_true
 refine call_meets F.slot_list_extend ⟨_,e,rfl⟩ F.entry_list_extend (F.args_list_extend_2 _ _)
  (AutoSeq1.list_extend_list_list_0 l c.toArray n b a.toArray p d (by rw[List.size_toArray];omega) (by omega)) ⟨e,w,?_⟩
 refine⟨.non,_,I.lset (its':=c++a) g e (by simp) (r.append m) ?_,rfl,q⟩;rw[List.length_append];omega
def rPop:V→List V→Hp→VK→Prop:=fun x vs H Q=>∃ l xs y,x=.ref l∧vs=[]∧H l=some (.lst xs)∧xs[xs.length - 1]?=some y∧Q y (upd H l (.lst xs.dropLast))
theorem Xg3:MtM X "list.pop" rPop:=by
 intro j s p H x w v A Q I f g h;obtain⟨l,t,y,rfl,rfl,d,k,q⟩:=h;cases f;have c:=g.zero;subst c;obtain⟨z,a,n,r,o,e⟩:=I.lstM d;obtain⟨u,m,i⟩:=r.get k
 have b:a.toArray[a.toArray.size - 1]?=some u:=by
  show a.toArray[a.length - 1]?=some u;rw[← Array.getElem?_toList,← o];exact m
 refine call_meets F.slot_list_pop ⟨_,e,rfl⟩ F.entry_list_pop (F.args_list_pop_1 _) (MeetsSeq.list_pop_last l a.toArray n u b (by rw[List.size_toArray];omega)) ⟨e,?_⟩;refine⟨y,_,I.lset (its':=a.dropLast) d e ?_ r.dropLast ?_,i,q⟩
 ·show a.toArray.eraseIdxIfInBounds (a.toArray.size - 1)=a.dropLast.toArray
  rw[List.size_toArray,List.eraseIdxIfInBounds_toArray,Xa3]
 ·rw[List.length_dropLast]
  omega
def rCat:R2:=fun x y H Q=>∃ l b xs zs,x=.ref l∧y=.ref b∧H l=some (.lst xs)∧H b=some (.lst zs)∧xs.length+zs.length≤sizeLine∧∀ p,H p=none→Q (.ref p) (upd H p (.lst (xs++zs)))
theorem Yw4:OpR X (binaryOp .Add) rCat:=by
 intro i s t H x y v u Q I f d h;obtain⟨l,b,B,w,rfl,rfl,j,k,D,q⟩:=h;cases f;cases d;obtain⟨z,c,n,r,F,e⟩:=I.lstM j;obtain⟨A,a,C,g,p,o⟩:=I.lstM k;refine PySem.P.add_list e o ?_ (by rw[List.size_toArray,List.size_toArray];omega)
 have m:c.toArray++a.toArray=(c++a).toArray:=by simp
 rw[m];exact⟨.ref _,_,I.lnew (t':=s.toks) (r.append g) (by rw[List.length_append];omega),rfl,q _ I.fresh⟩
end
end L2
namespace Att
open PySem PySem.W PySem.Calls PyProof.Rows
theorem Ya2 {P:Params} {h:Heap}:∀ (ns:List Int) (vs:List Value),WellAll P h vs (ns.map WData.int)→IntsAre vs ns:=by
 intro ns
 induction ns with
 | nil =>
  intro vs w;rw[List.map_nil] at w;cases w;exact .nil
 | cons n ns ih =>
  intro vs w;rw[List.map_cons] at w
  cases w with
  | cons a b =>
   cases a;exact .cons _ _ (ih _ b)
theorem Xe2 {l:OpenLaw} {n:Nat} (hn:l.most=some n) {P:Params} {h:Heap} {args:List WData} {vals:List Value}
  (hpre:l.row.toRowW.claim.pre args=true) (hwl:WellAll P h vals args) :
  ∃ a vs ns,vals=[Value.ref a]∧args=[WData.list (ns.map WData.int)]∧h.get? a=some { cls:=.type "list",data:=.seq vs.toArray }∧IntsAre vs ns∧ns.length≤n:=by
 have f:WShape.hasAll [] args [.list .int]=true:=(pre_splitW hpre).1;have g:l.pre.holds [] { args:=args }=true:=(pre_splitW hpre).2;obtain⟨d,r,rfl,m,k⟩:=hasAllW_cons f;obtain rfl:=hasAllW_nil k;obtain⟨o,rfl,j⟩:=hasW_list m;obtain⟨ns,rfl⟩:=items_int j
 have e:ns.length≤n:=by
  unfold OpenLaw.pre at g
  have c:(WTm.not (.lt (.lit (.int (n:Int))) (.len (.arg 0)))).holds [] { args:=[.list (ns.map .int)] }=true:=by
   have c:=(holds_andW g).1;rw[hn] at c;exact c
  have b:=condW_of c (w_not (w_lt w_lit (w_len_list (w_arg rfl))));rw[List.length_map] at b;refine Nat.le_of_not_lt fun q=>?_
  have i:(n:Int) < ((ns.length:Nat):Int):=by omega
  first
   | (rw[decide_eq_true i] at b;exact absurd b (by decide))
   | (simp at b;omega)
 cases hwl with
 | cons w1 w2 =>
  cases w2
  cases w1 with
  | list ho hall=>exact⟨_,_,ns,rfl,rfl,ho,Ya2 ns _ hall,e⟩
theorem Xe7 (l:OpenLaw) (args:List WData):l.row.toRowW.claim.post args (.bool true) args=true :=
 postW_of (r:=l.row.toRowW) (X:=(true == true))
  (show WShape.has [] (.bool true) .bool=true by first | rfl | decide | simp[WShape.has,WShape.arms,WShape.armsAll])
  (show (WTm.eq .res (.lit (.bool true))).value [] { args:=args,res:=some (.bool true),after:=args }=some (.bool (true == true)) from w_eq_bool (w_res rfl) w_lit) rfl
theorem attach_call {l:OpenLaw} {n:Nat} {q:Program} {loose:List Str} {XP:(Str→Option Value)→Heap→Prop} {YP:World→Heap→Prop} {d:DefRec}
  (hn:l.most=some n) (hdf:d.params.defaults=[])
  (call:∀ (w:World) (s₀ s₁:Shared) (mg mb:Str→Option Value) (fa:Addr) (o:Obj) (pm cd doc:Value) (a:Addr) (vs:List Value) (ns:List Int),
   Ground q loose [] XP w s₀ mg mb s₁.heap→YP w s₁.heap →
   s₁.heap.get? fa=some o→o.data=.func (docDef d.name d.params d.body d.scope pm cd doc)→s₁.heap.CodeRec cd d.name→mg d.name=some (.ref fa) →
   s₁.heap.get? a=some { cls:=.type "list",data:=.seq vs.toArray }→IntsAre vs ns→ns.length≤n→s₁.gens=#[] →
   codeAny (model l.prog w) callerA (.call (.ref fa) ⟨[.ref a],[]⟩) (fun r s'=>r=.ok (.ret (.bool true))∧OldK s₁.heap s'.heap∧s'.os=s₁.os∧AllBare s'.gens) s₁) :
  WalkO q loose XP YP l.row.toRowW d [] (fun f vs=>PySem.call f vs):=by
 intro w s₀ s₁ mg mb G Y fa o pm cd doc D p u z j k i y F m L c x I h J;obtain rfl:D=.none:=Dflts.none k hdf;obtain rfl:p=.none:=Dflts.noKw k;obtain⟨a,vs,ns,rfl,rfl,e,b,g⟩:=Xe2 hn c h;refine enter_call (codeAny_mono (call w s₀ s₁ mg mb fa o pm cd doc a vs ns G Y u (fd_plain z) j i e b g y) fun r s' t=>?_);obtain⟨rfl,C,B,A⟩:=t;exact⟨.inl ⟨.bool true,.bool true,[],rfl,fun _=>rfl,.bool true,Xe7 l _,fun _=>⟨List.Pairwise.nil,fun _ v=>(nomatch v)⟩⟩,C,B,A⟩
end Att
namespace L2
open PySem PySem.Spec PyProof.Rows
theorem Zx0:∀ {vs:List Value} {ns:List Int},IntsAre vs ns→Vals (ns.map V.int) vs
 | _,_,.nil=>.nil
 | _,_,.cons n t h=>.cons ⟨t,rfl⟩ (Zx0 h)
noncomputable def Xz2 (s:Stmt) (j:Nat):Stmt:=match s with
 | .ClassDef _ _ _ body _ _ _ _ _ _ _=>body.getD j (.Pass ⟨0,0,0,0⟩)
 | _=>.Pass ⟨0,0,0,0⟩
noncomputable def Zd6 (s:Stmt):Arguments:=match s with
 | .FunctionDef _ a _ _ _ _ _ _ _ _=>a
 | _=>{ posonlyargs:=[],args:=[],vararg:=none,kwonlyargs:=[],kw_defaults:=[],kwarg:=none,defaults:=[] }
noncomputable def Zc7 (s:Stmt):List Stmt:=match s with
 | .FunctionDef _ _ b _ _ _ _ _ _ _=>b
 | _=>[]
noncomputable def Za5 (s:Stmt):Scope:=match s with
 | .FunctionDef _ _ _ _ _ _ sc _ _ _=>sc
 | _=>{ kind:=.function,names:=[],isGenerator:=false,isCoroutine:=false }
noncomputable abbrev CX0:CXT:=fun _ _ _ _ _ _=>False
abbrev E0:XK:=fun _ _ _=>False
theorem Xp7 {X:Cx}:Yn7 CX0 X E0:=fun _ _ _ _ _ _ _ h=>h.elim
structure Fun (K:W.Frag) (x qual:Str) (st:Stmt) (f:Addr) (fd:FuncData):Prop where
 ex:∃ (oc:Value) (od:Option Addr) (kV doc pm:Value) (an:Option Addr) (cdv ct:Value) (osl:Array (Option Value)),
  fd=W.fnOf x qual (Zd6 st) (Zc7 st) (Za5 st) .none kV doc pm an cdv ct∧K.lookup f=some ⟨oc,od,.func fd,osl⟩∧W.codeIn K cdv qual=true
 kp:W.keepIn K (.ref f)=true
section
variable {P:Program} {w:World} {K:W.Frag} {mg:Str→Option Value} {base:Heap}
theorem Fun.ok {x qual:Str} {st:Stmt} {f:Addr} {fd:FuncData} {N ps:List Str} {k:Nat} {sp:Sp} (F:Fun K x qual st f fd) (S:FnScope N ps (Za5 st)) (len:∀ vs H Q E,sp vs H Q E→vs.length=ps.length)
  (hbody:∀ (cdv:Value) (A:Around) (outer:List Env) (s:Shared) (H:Hp) (vs:List V) (Q:VK) (E:XK),Room k (A.deeper (envOfC qual (Za5 st) s.heap.objs.size f cdv))→sp vs H Q E →
   ∃ t,PSs (cxOf CX0 P w K mg base N qual (Za5 st) f cdv A outer s H E).nox (Zc7 st) t∧t { nx:=fun _ H'=>Q .non H',rt:=Q } (start N vs) H):FnOk P w K mg base CX0 (k+1) f fd ps sp:=by
 obtain⟨l,j,m,g,i,o,cdv,n,e,rfl,c,b⟩:=F.ex;refine fn_of c b S len fun A outer s H vs Q E d a=>?_;obtain⟨t,h,q⟩:=hbody cdv A outer s H vs Q E d a;exact⟨t,h.nox,q⟩
theorem Fun.binds {x qual:Str} {st:Stmt} {f:Addr} {fd:FuncData} {ps:List Str} (F:Fun K x qual st f fd)
  (h:∀ (kV doc pm:Value) (an:Option Addr) (cdv ct:Value) (us:List Value),us.length=ps.length→bindArgs (W.fnOf x qual (Zd6 st) (Zc7 st) (Za5 st) .none kV doc pm an cdv ct) ⟨us,[]⟩=pure (ps.zip us)):Binds K fd ps []:=by
 obtain⟨d,c,kV,doc,pm,an,cdv,ct,a,rfl,e,b⟩:=F.ex;exact .all (h kV doc pm an cdv ct)
theorem Xj1 {x qual:Str} {st:Stmt} {f:Addr} {oc:Value} {od an:Option Addr} {osl:Array (Option Value)} {kV doc pm cdv ct:Value} (l:K.lookup f=some ⟨oc,od,.func (W.fnOf x qual (Zd6 st) (Zc7 st) (Za5 st) .none kV doc pm an cdv ct),osl⟩)
  (c:W.codeIn K cdv qual=true) (k:W.keepIn K (.ref f)=true):Fun K x qual st f (W.fnOf x qual (Zd6 st) (Zc7 st) (Za5 st) .none kV doc pm an cdv ct):=⟨⟨oc,od,kV,doc,pm,an,cdv,ct,osl,rfl,l,c⟩,k⟩
end
theorem Wk0 {A:Around} {k:Nat} (hr:Room k A):A.units+1 < cLine:=Nat.lt_of_le_of_lt (Nat.add_le_add_left (by decide:1≤64) _) hr.units
theorem Zi5 {n:Nat} (h:n≤1000):n < sizeLine:=Nat.lt_of_le_of_lt h (by decide)
section
variable {X:Cx}
theorem pv (i:Nat) {x:Str} {pos:Pos} (hN:X.N[i]?=some x:=by rfl) (hv:Vis X.env.scope x:=by first | exact Or.inl rfl | exact Or.inr (Or.inl rfl) | exact Or.inr (Or.inr rfl)) (hd:(x == ("__debug__":Str))=false:=by decide)
  (hcd:(x == ("__classdict__":Str))=false:=by decide):PE X (.Name x pos) (tVar i):=Xf2 hN hv hd hcd
end
theorem ite2 {c A B:Prop} [Decidable c] (h1:c→A) (h2:¬ c→B):if c then A else B:=by
 by_cases h:c
 ·rw[if_pos h]
  exact h1 h
 ·rw[if_neg h]
  exact h2 h
def Same (H H':Hp):Prop:=∀ b o,H b=some o→H' b=some o
theorem Same.refl (H:Hp):Same H H:=fun _ _ h=>h
theorem Same.trans {H H1 H2:Hp} (a:Same H H1) (b:Same H1 H2):Same H H2:=fun c o h=>b c o (a c o h)
theorem Same.free {H H':Hp} (e:Same H H') {l:Addr} (h:H' l=Option.none):H l=Option.none:=by
 cases q:H l with
 | none=>rfl
 | some o =>
  rw[e l o q] at h;cases h
theorem Same.seq {K:W.Frag} {H H':Hp} {a:Addr} {xs:List V} (e:Same H H') (h:SqL K H a xs):SqL K H' a xs:=by
 rcases h with (h | ⟨o,h⟩) | h
 ·exact .inl (.inl (e _ _ h))
 ·exact .inl (.inr ⟨o,e _ _ h⟩)
 ·exact .inr h
section
variable {κ:Type} [DecidableEq κ]
noncomputable def valV (kvs:List (κ×V)) (k:κ):Option V:=(kvs.find? fun kv=>decide (kv.1=k)).map (·.2)
noncomputable def putK (kvs:List (κ×V)) (k:κ) (v:V):List (κ×V) :=
 if (kvs.any fun kv=>decide (kv.1=k))=true then kvs.map (fun kv=>if kv.1=k then (kv.1,v) else kv) else kvs++[(k,v)]
theorem Zg9 {p:κ×V} {r:List (κ×V)} {k:κ} (e:p.1=k):valV (p :: r) k=some p.2:=by simp[valV,List.find?_cons,e]
theorem Zh0 {p:κ×V} {r:List (κ×V)} {k:κ} (e:¬ p.1=k):valV (p :: r) k=valV r k:=by simp[valV,List.find?_cons,e]
theorem Zw3 (k:κ):∀ kvs:List (κ×V),(kvs.any fun kv=>decide (kv.1=k))=(valV kvs k).isSome
 | []=>rfl
 | p :: r=>by
  rw[List.any_cons]
  by_cases e:p.1=k
  ·simp only[Zg9 e,decide_eq_true e,Bool.true_or,Option.isSome_some]
  ·rw[Zh0 e,decide_eq_false e,Bool.false_or];exact Zw3 k r
theorem Yt7 (k j:κ) (y:V):∀ kvs:List (κ×V),valV (kvs.map fun kv=>if kv.1=k then (kv.1,y) else kv) j=(valV kvs j).map fun x=>if j=k then y else x
 | []=>rfl
 | p :: r=>by
  have ih:=Yt7 k j y r;rw[List.map_cons]
  by_cases h:p.1=k
  ·rw[if_pos h]
   by_cases e:p.1=j
   ·rw[Zg9 (p:=(p.1,y)) e,Zg9 e,Option.map_some,if_pos (e.symm.trans h)]
   ·rw[Zh0 (p:=(p.1,y)) e,Zh0 e,ih]
  ·rw[if_neg h]
   by_cases e:p.1=j
   ·rw[Zg9 (p:=p) e,Zg9 e,Option.map_some,if_neg (fun z=>h (e.trans z))]
   ·rw[Zh0 (p:=p) e,Zh0 e,ih]
theorem Yh6 (k j:κ) (y:V):∀ kvs:List (κ×V),valV kvs k=none→valV (kvs++[(k,y)]) j=if j=k then some y else valV kvs j
 | [],_=>by
  by_cases e:k=j
  ·rw[if_pos e.symm];exact Zg9 (p:=(k,y)) e
  ·rw[if_neg (fun z=>e z.symm)];exact Zh0 (p:=(k,y)) e
 | p :: r,hn=>by
  rw[List.cons_append]
  have hk:¬ p.1=k:=fun z=>by rw[Zg9 z] at hn;cases hn
  rw[Zh0 hk] at hn;have ih:=Yh6 k j y r hn
  by_cases e:p.1=j
  ·rw[Zg9 e,Zg9 e,if_neg (fun z=>hk (e.trans z))]
  ·rw[Zh0 e,Zh0 e,ih]
theorem Xn6 (kvs:List (κ×V)) (k j:κ) (y:V):valV (putK kvs k y) j=if j=k then some y else valV kvs j:=by
 unfold putK
 by_cases a:(kvs.any fun b=>decide (b.1=k))=true
 ·rw[if_pos a,Yt7]
  rw[Zw3] at a
  by_cases e:j=k
  ·obtain⟨x,c⟩:=Option.isSome_iff_exists.mp a
   rw[if_pos e,e,c,Option.map_some,if_pos rfl]
  ·rw[if_neg e]
   cases valV kvs j with
   | none=>rfl
   | some x=>rw[Option.map_some,if_neg e]
 ·rw[if_neg a]
  refine Yh6 k j y kvs ?_;rw[Zw3] at a
  cases q:valV kvs k with
  | none=>rfl
  | some x=>rw[q] at a;exact (a rfl).elim
theorem Zq9 (kvs:List (κ×V)) (k:κ) (v:V):(putK kvs k v).length≤kvs.length+1:=by
 unfold putK
 split
 ·rw[List.length_map];omega
 ·rw[List.length_append,List.length_cons,List.length_nil];omega
theorem RelO.isSome_eq {o:Option V} {u:Option Value} (r:RelO o u):o.isSome=u.isSome:=by
 cases o with
 | none=>cases u with
  | none=>rfl
  | some _=>exact (show False from r).elim
 | some _=>cases u with
  | none=>exact (show False from r).elim
  | some _=>rfl
theorem KV.val {kvs:List (κ×V)} {vs:List (κ×Value)} (r:KV kvs vs) (k:κ):RelO (valV kvs k) (valueAt vs k):=by
 unfold KV at r
 induction r with
 | nil=>exact True.intro
 | @cons p q ps qs h t ih =>
  obtain⟨c,d⟩:=h
  by_cases e:p.1=k
  ·have a:q.1=k:=c.symm.trans e
   have b:valueAt (q :: qs) k=some q.2:=by simp[valueAt,List.find?_cons,a]
   rw[Zg9 e,b];exact d
  ·have a:¬ q.1=k:=fun z=>e (c.trans z)
   have b:valueAt (q :: qs) k=valueAt qs k:=by simp[valueAt,List.find?_cons,a]
   rw[Zh0 e,b];exact ih
theorem KV.any {kvs:List (κ×V)} {vs:List (κ×Value)} (r:KV kvs vs) (k:κ):(kvs.any fun kv=>decide (kv.1=k))=vs.any fun kv=>decide (kv.1=k):=by
 unfold KV at r
 induction r with
 | nil=>rfl
 | cons h t ih=>rw[List.any_cons,List.any_cons,ih,h.1]
theorem KV.repl {kvs:List (κ×V)} {vs:List (κ×Value)} (r:KV kvs vs) (k:κ) {y:V} {u:Value} (ry:RelV y u) :
  KV (kvs.map fun kv=>if kv.1=k then (kv.1,y) else kv) (vs.map fun kv=>if kv.1=k then (kv.1,u) else kv):=by
 unfold KV at r ⊢
 induction r with
 | nil=>exact .nil
 | @cons p q ps qs h t ih =>
  rw[List.map_cons,List.map_cons];refine .cons ?_ ih;obtain⟨a,b⟩:=h
  by_cases e:p.1=k
  ·rw[if_pos e,if_pos (a.symm.trans e)];exact⟨a,ry⟩
  ·rw[if_neg e,if_neg (fun z=>e (a.trans z))];exact⟨a,b⟩
theorem KV.put {kvs:List (κ×V)} {vs:List (κ×Value)} (r:KV kvs vs) (k:κ) {y:V} {u:Value} (ry:RelV y u):KV (putK kvs k y) (stored vs k u):=by
 unfold putK stored;rw[r.any k]
 by_cases e:(vs.any fun a=>decide (a.1=k))=true
 ·rw[if_pos e,if_pos e];exact r.repl k ry
 ·rw[if_neg e,if_neg e];exact Paired.snoc r ⟨rfl,ry⟩
theorem KV.length {kvs:List (κ×V)} {vs:List (κ×Value)} (r:KV kvs vs):kvs.length=vs.length:=Paired.length r
end
theorem Xh5 {P:Program} {w:World} {k:Key} {u:Value} (r:RelV (kV k) u):(Zf1 P w).is k u=true:=by
 cases k with
 | inl i=>obtain⟨t,e⟩:=(show ∃ t,u=Value.int i t from r);subst e;exact Yq6 P w i t
 | inr x=>obtain⟨t,e⟩:=(show ∃ t,u=Value.str x t from r);subst e;exact Ya0 P w x t
theorem Yl7 {P:Program} {w:World}:∀ {ks:List Key} {us:List Value},Vals (ks.map kV) us→ItemsAre (Zf1 P w) ks us
 | [],_,r=>by rw[List.map_nil] at r;cases r;exact .nil
 | k :: ks,_,r=>by
  rw[List.map_cons] at r
  cases r with
  | cons h t=>exact .cons (Xh5 h) (Yl7 t)
abbrev KT (H:Hp):List (List Key×V)→List (List Key×Addr×Value)→Prop:=Paired fun p q=>p.1=q.1∧H q.2.1=some (.tup (p.1.map kV))∧RelV p.2 q.2.2
theorem KT.val {H:Hp} {kvs:List (List Key×V)} {xs:List (List Key×Addr×Value)} (r:KT H kvs xs) (k:List Key):RelO (valV kvs k) ((atKey xs k).map (·.2)):=by
 induction r with
 | nil=>exact True.intro
 | @cons p q ps qs h t ih =>
  obtain⟨c,_,d⟩:=h
  by_cases e:p.1=k
  ·have a:q.1=k:=c.symm.trans e
   have b:atKey (q :: qs) k=some q.2:=by simp[atKey,List.find?_cons,a]
   rw[Zg9 e,b];exact d
  ·have a:¬ q.1=k:=fun z=>e (c.trans z)
   have b:atKey (q :: qs) k=atKey qs k:=by simp[atKey,List.find?_cons,a]
   rw[Zh0 e,b];exact ih
theorem KT.repl {H:Hp} {kvs:List (List Key×V)} {xs:List (List Key×Addr×Value)} (r:KT H kvs xs) (k:List Key) {y:V} {u:Value} (ry:RelV y u) :
  KT H (kvs.map fun kv=>if kv.1=k then (kv.1,y) else kv) (xs.map (putAt k u)):=by
 induction r with
 | nil=>exact .nil
 | @cons p q ps qs h t ih =>
  rw[List.map_cons,List.map_cons];refine .cons ?_ ih;obtain⟨a,b,c⟩:=h;unfold putAt
  by_cases e:p.1=k
  ·rw[if_pos e,if_pos (a.symm.trans e)];exact⟨a,b,ry⟩
  ·rw[if_neg e,if_neg (fun z=>e (a.trans z))];exact⟨a,b,c⟩
theorem KT.put {H:Hp} {kvs:List (List Key×V)} {xs:List (List Key×Addr×Value)} (r:KT H kvs xs) (k:List Key) {b:Addr} {y:V} {u:Value} (hb:H b=some (.tup (k.map kV))) (ry:RelV y u) :
  KT H (putK kvs k y) (storedH xs k b u):=by
 have e:(kvs.any fun a=>decide (a.1=k))=(atKey xs k).isSome:=by
  rw[Zw3,(r.val k).isSome_eq,Option.isSome_map]
 unfold putK storedH;rw[e]
 by_cases q:(atKey xs k).isSome=true
 ·rw[if_pos q,if_pos q];exact r.repl k ry
 ·rw[if_neg q,if_neg q];exact Paired.snoc r ⟨rfl,hb,ry⟩
theorem KT.keeps {H H':Hp} {kvs:List (List Key×V)} {xs:List (List Key×Addr×Value)} (r:KT H kvs xs) (ht:∀ b ys,H b=some (.tup ys)→H' b=some (.tup ys)):KT H' kvs xs :=
 Paired.mapP r fun _ _ z=>⟨z.1,ht _ _ z.2.1,z.2.2⟩
section
variable {P:Program} {w:World} {H:Hp} {h:Heap} {a:Addr}
theorem Wd4 {u:HO} (ok:HOk P w H h) (e:Rd H a u):ObjOk P w H h a u:=e.ok ok
theorem Wa0 {kvs:List (Key×V)} (ok:HOk P w H h) (e:Rd H a (.dK kvs)):kvs.length≤sizeLine∧(a == sysModules)=false∧∃ vs,KV kvs vs∧h.DictOf (Zf1 P w) a vs :=
 show ObjOk P w H h a (.dK kvs) from Wd4 ok e
theorem Wn5 {kvs:List (Key×V)} (ok:HOk P w H h) (e:H a=some (.dK kvs)):kvs.length≤sizeLine∧(a == sysModules)=false∧∃ vs,KV kvs vs∧h.DictOf (Zf1 P w) a vs:=Wa0 ok (.inl e)
theorem Xh2 {ks:List Key} (ok:HOk P w H h) (e:H a=some (.tup (ks.map kV))):(tupleKind (Zf1 P w)).is h ks a:=by
 obtain⟨_,b,r,o,f,d,n,c⟩:=(show ObjOk P w H h a (.tup (ks.map kV)) from ok a _ e);exact⟨o,b.toArray,n,f,d,c,by simpa using Yl7 r⟩
theorem Xz8 {kvs:List (List Key×V)} (ok:HOk P w H h) (e:Rd H a (.dT kvs)):kvs.length≤sizeLine∧(a == sysModules)=false ∧
  ∃ xs,KT H kvs xs∧h.DictOfH (tupleKind (Zf1 P w)) a xs:=by
 obtain⟨z,y,xs,r,o,k,n,j,i,g,f,d⟩:=(show ObjOk P w H h a (.dT kvs) from Wd4 ok e);refine⟨z,y,xs,r,o,k,n,j,i,g,f,fun x b=>?_,d⟩
 have c:∀ {l:List (List Key×V)} {m:List (List Key×Addr×Value)},KT H l m→∀ x∈m,(tupleKind (Zf1 P w)).is h x.1 x.2.1:=by
  intro l m q
  induction q with
  | nil=>intro x b;exact nomatch b
  | @cons p q ps qs hq t ih =>
   intro x b;rcases List.mem_cons.mp b with e | b
   ·subst e
    exact Xh2 ok (by rw[← hq.1];exact hq.2.1)
   ·exact ih x b
 exact c r x b
theorem Wn4 {kvs:List (List Key×V)} (ok:HOk P w H h) (e:H a=some (.dT kvs)):kvs.length≤sizeLine∧(a == sysModules)=false ∧
  ∃ xs,KT H kvs xs∧h.DictOfH (tupleKind (Zf1 P w)) a xs:=Xz8 ok (.inl e)
end
def DGet (H:Hp) (a:Addr) (y:V) (r:Option V):Prop :=
 (∃ kvs k,Rd H a (.dK kvs)∧y=kV k∧r=valV kvs k)∨∃ kvs k b,Rd H a (.dT kvs)∧y=.ref b∧H b=some (.tup (k.map kV))∧r=valV kvs k
def DPut (H:Hp) (a:Addr) (y v:V) (H':Hp):Prop :=
 (∃ kvs k,H a=some (.dK kvs)∧y=kV k∧kvs.length < sizeLine∧H'=upd H a (.dK (putK kvs k v))) ∨
 ∃ kvs k b,H a=some (.dT kvs)∧y=.ref b∧H b=some (.tup (k.map kV))∧kvs.length < sizeLine∧H'=upd H a (.dT (putK kvs k v))
theorem DGet.k {H:Hp} {a:Addr} {kvs:List (Key×V)} {k:Key} (e:H a=some (.dK kvs)):DGet H a (kV k) (valV kvs k):=.inl ⟨kvs,k,.inl e,rfl,rfl⟩
theorem DPut.k {H:Hp} {a:Addr} {kvs:List (Key×V)} {k:Key} {v:V} (e:H a=some (.dK kvs)) (hl:kvs.length < sizeLine):DPut H a (kV k) v (upd H a (.dK (putK kvs k v))):=.inl ⟨kvs,k,e,rfl,hl,rfl⟩
section
variable {X:Cx} {pins:List (Addr×Obj)} {σ:St} {H:Hp} {s:Shared} {a:Addr} {y v:V} {u r:Value} {o:Option V} {A:Around} {E:Value→Shared→Prop}
theorem Inv.big (I:Inv X pins σ H s):sysModules < s.heap.objs.size:=by
 have h:mainGlobals < s.heap.objs.size:=(I.mod.glob.keeps I.bk).lt;exact Nat.lt_trans (by decide) h
theorem Xk6 {Q:Value→Shared→Prop} (hu:A.units+1 < cLine) (I:Inv X pins σ H s) (g:DGet H a y (some v)) (ry:RelV y u) (h:∀ w' s',Inv X pins σ H s'→RelV v w'→Q w' s') :
  wpAny (model X.prog X.w) A (getItem (.ref a) u) Q E s:=by
 rcases g with ⟨m,k,e,i,l⟩ | ⟨m,k,b,e,i,B,l⟩
 ·subst i
  obtain⟨z,x,r,d,j⟩:=Wa0 I.hok e;obtain⟨w',f,c⟩:=RelO.some_of (v:=v) (o:=valueAt r k) (by rw[l];exact d.val k);exact wpAny_getItem_of (Xh5 ry) j.mapOf f (h w' _ (I.tok _) c)
 ·subst i
  cases (show u=Value.ref b from ry);obtain⟨z,x,q,d,j⟩:=Xz8 I.hok e;obtain⟨w',f,c⟩:=RelO.some_of (v:=v) (o:=(atKey q k).map (·.2)) (by rw[l];exact d.val k);obtain⟨p,t,n⟩:=Option.map_eq_some_iff.mp f;refine wpAny_getItem_heap (tupleKind_room_in1 hu) (Xh2 I.hok B) j t ?_;rw[n];exact h w' _ (I.tok _) c
theorem Xk5 {h':Heap} {t':Nat} {ob:HO} (I:Inv X pins σ H s) (mu:Mut (H a)) (hs:Heap.SameBut a s.heap h') (he:∃ q,h'.get? a=some q) (new:ObjOk X.prog X.w (upd H a ob) h' a ob) :
  Inv X pins σ (upd H a ob) { s with heap:=h',toks:=t' } :=
 I.write (x:=a) (e:=a) mu (.inl rfl) (fun b q c z=>(hs.2 b c).trans z) he new
theorem Wk5 {P:Program} {w:World} {H':Hp} {h':Heap} {kvs:List (Key×V)} {vs:List (Key×Value)} (z:kvs.length≤sizeLine) (hd:(a == sysModules)=false) (rel:KV kvs vs) (dd:h'.DictOf (Zf1 P w) a vs) :
  ObjOk P w H' h' a (.dK kvs):=⟨z,hd,vs,rel,dd⟩
end
def NoSl (i:Expr):Prop:=∀ ov iv,subscripted i false ov iv=operate [ov,iv] (getItem ov iv)
theorem Xd7 {prog:Program} {w:World} {A:Around} {E:Value→Shared→Prop} {s:Shared} {env:Env} {value slice:Expr} {pos:Pos} {T id:String} {Q:Value→Shared→Prop}
  (hl:typeLookup (.type T) "__getitem__"=pure (some (.builtin id))) (hs:NoSl slice)
  (h:wpAny (model prog w) A (eval value env) (fun o s₁=>wpAny (model prog w) A (eval slice env) (fun i s₂=>s₂.TypeIs o T∧wpAny (model prog w) A (getItem o i) Q E s₂) E s₁) E s) :
  wpAny (model prog w) A (eval (.Subscript value slice pos) env) Q E s:=by
 refine Subscript_ (wpAny_mono h (fun o s₁ h₁=>wpAny_mono h₁ (fun i s₂ h₂=>?_) fun _ _ x=>x) fun _ _ x=>x);obtain⟨b,h₂⟩:=h₂;unfold subscriptTail;refine wpAny_bind ?_;rw[getitemInPython_of_ne b.not_modules];refine wpAny_bind (wpAny_specialOf b hl ?_)
 have a:wpAny (model prog w) A (subscripted slice false o i) (fun r s₃=>wpAny (model prog w) A (letTemporaryGo value o r >>= fun _=>pure r) Q E s₃) E s₂:=by
  rw[hs o i];exact wpAny_operating (wpAny_mono h₂ (fun r s₃ h₃=>wpAny_bind (wpAny_letTemporaryGo (wpAny_pure h₃))) fun _ _ x=>x)
 first
  | exact wpAny_pure (wpAny_bind a)
  | exact wpAny_bind (wpAny_pure (wpAny_bind a))
  | exact wpAny_bind a
theorem Ys7 {X:Cx} {pins:List (Addr×Obj)} {σ:St} {H:Hp} {s:Shared} {a:Addr} {y:V} {o:Option V} (I:Inv X pins σ H s) (g:DGet H a y o):s.TypeIs (.ref a) "dict":=by
 rcases g with ⟨d,k,e,_,_⟩ | ⟨d,k,b,e,_,_,_⟩
 ·obtain⟨_,_,h,_,c⟩:=Wa0 I.hok e
  exact c.typeIs
 ·obtain⟨_,_,f,_,c⟩:=Xz8 I.hok e
  exact c.typeIs
def Yo4 (td ty:TE):TE:=fun σ H Q=>td σ H fun x H1=>ty σ H1 fun y H2=>∃ a v,x=.ref a∧DGet H2 a y (some v)∧Q v H2
section
variable {X:Cx} {o i e value:Expr} {pos pos' tpos:Pos} {td ty tv:TE}
theorem Xw8 (hu:X.A.units+1 < cLine) (ho:PE X o td) (hi:PE X i ty) (hs:NoSl i):PE X (.Subscript o i pos) (Yo4 td ty):=by
 intro b s c H Q I h;refine Xd7 PySem.F.slot_dict_getitem.lookup hs (thn (ho b s c H _ I h) fun u s1 ⟨x,H1,I1,rx,q1⟩=>thn (hi b s1 c H1 _ I1 q1) fun iv s2 ⟨y,H2,I2,ry,a,v,ex,g,q2⟩=>?_);subst ex;obtain rfl:u=Value.ref a:=rx;exact⟨Ys7 I2 g,Xk6 hu I2 g ry fun f j e d=>⟨v,H2,e,d,q2⟩⟩
end
end L2
set_option maxHeartbeats 4000000
namespace L2
open PySem PySem.Spec PyProof.Rows
section
variable {X:Cx}
inductive TyX (K:W.Frag) (H:Hp):V→Value→Prop where
 | of {x:V} {t:Value} (h:TyOf K H x t):TyX K H x t
 | tupK {a:Addr} {xs:List V} (h:SqT K H a xs):TyX K H (.ref a) (.type "tuple")
 | lstK {a:Addr} {xs:List V} (h:SqL K H a xs):TyX K H (.ref a) (.type "list")
def rIsi (K:W.Frag):List V→Hp→VK→Prop:=fun xs H Q=>∃ x T t b,xs=[x,.ty T]∧TyX K H x t∧W.kitOne K t (.type T)=some b∧Q (.bl b) H
theorem Zp3:Zr4 X (.builtin "isinstance") (rIsi X.K):=by
 intro p s v H j w Q I r h;obtain⟨x,T,t,b,rfl,l,e,q⟩:=h;obtain⟨u,c,rfl,f,m⟩:=Yy1 r;cases (show c=Value.type T from m)
 cases l with
 | of h=>exact Xh9 I f h e fun d=>⟨.bl b,H,I.tok d,rfl,q⟩
 | @tupK a j h =>
  cases (show u=Value.ref a from f);obtain⟨k,_,⟨o,i,g,_⟩,_⟩:=I.tuple h;exact W.kia_one W.kitx_tuple I.kIn ⟨o,i,g⟩ e (fun z=>nomatch z) fun d=>⟨.bl b,H,I.tok d,rfl,q⟩
 | @lstK a j h =>
  cases (show u=Value.ref a from f);obtain⟨k,_,⟨o,n,i,g,_⟩,_⟩:=I.list h;exact W.kia_one W.kitx_list I.kIn ⟨o,i,g⟩ e (fun z=>nomatch z) fun d=>⟨.bl b,H,I.tok d,rfl,q⟩
theorem Zw7 (K:W.Frag) (T:String):W.kitOne K (.type T) (.type T)=some true:=by
 unfold W.kitOne;rw[if_pos (beq_self_eq_true _)]
def Yp7:R2:=fun x y H Q=>∃ z n,x=.str z∧y=.int n∧z.length≤1000∧-1000≤n∧n≤1000∧Q (.str (Txt.mul z n)) H
theorem Yq4 {z:Str} {n:Int} (h1:z.length≤1000) (h2:-1000≤n) (h3:n≤1000):MulOk z n:=by
 refine⟨?_,fun d c=>?_,fun d c=>?_⟩
 ·have a:¬ n < -(2 ^ 63:Int):=by omega
  have b:¬ n ≥ 2 ^ 63:=by omega
  rw[decide_eq_false a,decide_eq_false b];rfl
 ·have:(1000:Int)≤(2 ^ 63 - 1) / n:=by
   rw[Int.le_ediv_iff_mul_le (by omega)];omega
  omega
 ·have:z.length*n.toNat≤1000*1000:=Nat.mul_le_mul h1 (by omega)
  unfold Builtin.Str.tooLong;rw[decide_eq_false];have e:=sizeLine_eq
  first | omega | (simp at *;omega)
theorem Yq3:OpR X (binaryOp .Mult) Yp7:=by
 intro d s i H x y v u Q I c b h;obtain⟨z,n,rfl,rfl,g,f,e,q⟩:=h;obtain⟨t,rfl⟩:=c;obtain⟨a,rfl⟩:=b;exact SB.mul (Yq4 g f e) fun a k=>⟨.str _,H,I.tok k,⟨_,rfl⟩,q⟩
noncomputable abbrev TF:=Str→St→Hp→VK→Prop
def PF (X:Cx) (es:List Expr) (t:TF):Prop :=
 ∀ (out:Str) (pins:List (Addr×Obj)) (s:Shared) (σ:St) (H:Hp) (Q:VK),Inv X pins σ H s→t out σ H Q→wpAny (model X.prog X.w) X.A (joinParts out (evalEach es X.env)) (EP X pins σ Q) X.xe s
def tF0:TF:=fun out _ H Q=>out.length≤sizeLine∧Q (.str out) H
def tFc (x:Str) (t:TF):TF:=fun out σ H Q=>(out++x).length≤sizeLine∧t (out++x) σ H Q
theorem We0:PF X [] tF0:=fun a b s c H Q I h=>joinParts_nil ⟨.str a,H,I.tok _,⟨_,rfl⟩,h.2⟩ h.1
theorem Xs3 {x:Str} {j:Nat} {pos:Pos} {es:List Expr} {t:TF} (h:PF X es t) (hs:evalEach (.Constant (.str x) j pos :: es) X.env=eval (.Constant (.str x) j pos) X.env :: evalEach es X.env:=by rfl):PF X (.Constant (.str x) j pos :: es) (tFc x t):=by
 intro d a s c H Q I b;rw[hs];refine joinParts_cons (Calls.Constant_str ?_);exact⟨b.1,h _ a _ c H Q (I.tok _) b.2⟩
def tFs (t:TF):TE:=fun σ H Q=>t Str.empty σ H Q
theorem Xw7 {e1 e2:Expr} {es:List Expr} {t:TF} {pos:Pos} (h:PF X (e1 :: e2 :: es) t) (hs:evalEach (e1 :: e2 :: es) X.env=eval e1 X.env :: eval e2 X.env :: evalEach es X.env:=by rfl):PE X (.JoinedStr (e1 :: e2 :: es) pos) (tFs t):=by
 intro a s b H Q I c;refine JoinedStr_many ?_;rw[← hs];exact h _ a s b H Q I c
end
mutual
def Dn (K:W.Frag) (H:Hp):V→PyData→Prop
 | v,.none=>v=.non
 | v,.bool b=>v=.bl b
 | v,.int i=>v=.int i
 | v,.str x=>v=.str x
 | v,.list ds=>∃ a xs,v=.ref a∧SqL K H a xs∧DnAll K H xs ds
 | v,.tuple ds=>∃ a xs,v=.ref a∧SqT K H a xs∧DnAll K H xs ds
 | _,.dict _=>False
def DnAll (K:W.Frag) (H:Hp):List V→List PyData→Prop
 | xs,[]=>xs=[]
 | xs,d :: ds=>∃ x r,xs=x :: r∧Dn K H x d∧DnAll K H r ds
end
theorem DnAll.length {K:W.Frag} {H:Hp}:∀ {xs:List V} {ds:List PyData},DnAll K H xs ds→xs.length=ds.length
 | xs,[],h=>by rw[DnAll] at h;rw[h];rfl
 | xs,d :: ds,h=>by
  rw[DnAll] at h;obtain⟨x,r,rfl,_,h⟩:=h;simp[DnAll.length h]
def KeepT (K:W.Frag) (H H':Hp):Prop:=∀ a xs,SqT K H a xs→SqT K H' a xs
mutual
noncomputable def noList:PyData→Bool
 | .list _=>false
 | .tuple ds=>noLists ds
 | .dict _=>false
 | _=>true
noncomputable def noLists:List PyData→Bool
 | []=>true
 | d :: ds=>noList d&&noLists ds
end
mutual
theorem Dn.keepT {K:W.Frag} {H H':Hp} (k:KeepT K H H'):∀ {d:PyData} {v:V},noList d=true→Dn K H v d→Dn K H' v d
 | .none,v,_,h=>by rw[Dn] at h ⊢;exact h
 | .bool _,v,_,h=>by rw[Dn] at h ⊢;exact h
 | .int _,v,_,h=>by rw[Dn] at h ⊢;exact h
 | .str _,v,_,h=>by rw[Dn] at h ⊢;exact h
 | .list _,v,n,h=>by rw[noList] at n;cases n
 | .dict _,v,n,h=>by rw[noList] at n;cases n
 | .tuple ds,v,n,h=>by
  rw[Dn] at h ⊢;rw[noList] at n;obtain⟨a,xs,e,hs,hd⟩:=h;exact⟨a,xs,e,k a xs hs,DnAll.keepT k n hd⟩
theorem DnAll.keepT {K:W.Frag} {H H':Hp} (k:KeepT K H H'):∀ {ds:List PyData} {xs:List V},noLists ds=true→DnAll K H xs ds→DnAll K H' xs ds
 | [],xs,_,h=>by rw[DnAll] at h ⊢;exact h
 | d :: ds,xs,n,h=>by
  rw[DnAll] at h ⊢;rw[noLists,Bool.and_eq_true] at n;obtain⟨x,r,e,h1,h2⟩:=h;exact⟨x,r,e,Dn.keepT k n.1 h1,DnAll.keepT k n.2 h2⟩
end
section
variable {X:Cx} {pins:List (Addr×Obj)} {σ:St} {H:Hp} {s:Shared}
mutual
theorem Dn.reads (I:Inv X pins σ H s):∀ {d:PyData} {v:V} {u:Value},Dn X.K H v d→RelV v u→∃ as,Reads s.heap u d as
 | .none,v,u,h,r=>by rw[Dn] at h;subst h;cases (show u=Value.none from r);exact⟨_,.none⟩
 | .bool b,v,u,h,r=>by rw[Dn] at h;subst h;cases (show u=Value.bool b from r);exact⟨_,.bool b⟩
 | .int i,v,u,h,r=>by rw[Dn] at h;subst h;obtain⟨t,rfl⟩:=r;exact⟨_,.int i t⟩
 | .str x,v,u,h,r=>by rw[Dn] at h;subst h;obtain⟨t,rfl⟩:=r;exact⟨_,.str x t⟩
 | .dict _,v,u,h,r=>by rw[Dn] at h;exact h.elim
 | .list ds,v,u,h,r=>by
  rw[Dn] at h;obtain⟨a,xs,rfl,hs,hd⟩:=h;cases (show u=Value.ref a from r);obtain⟨its,rv,⟨o,n,h1,h2,_,h3⟩,_⟩:=I.list hs;obtain⟨as,q⟩:=DnAll.reads I hd rv;exact⟨_,.list h1 h2 h3 (by simpa using q)⟩
 | .tuple ds,v,u,h,r=>by
  rw[Dn] at h;obtain⟨a,xs,rfl,hs,hd⟩:=h;cases (show u=Value.ref a from r);obtain⟨its,rv,⟨o,h1,h2,n,h3⟩,_⟩:=I.tuple hs;obtain⟨as,q⟩:=DnAll.reads I hd rv;exact⟨_,.tuple h1 h2 h3 (by simpa using q)⟩
theorem DnAll.reads (I:Inv X pins σ H s):∀ {ds:List PyData} {xs:List V} {us:List Value},DnAll X.K H xs ds→Vals xs us→∃ as,ReadsAll s.heap us ds as
 | [],xs,us,h,r=>by rw[DnAll] at h;subst h;cases r;exact⟨_,.nil⟩
 | d :: ds,xs,us,h,r=>by
  rw[DnAll] at h;obtain⟨x,r',rfl,h1,h2⟩:=h
  cases r with
  | cons r1 r2 =>
   obtain⟨as,q1⟩:=Dn.reads I h1 r1;obtain⟨bs,q2⟩:=DnAll.reads I h2 r2;exact⟨_,.cons q1 q2⟩
end
end
section
variable {X:Cx}
def rEqD (K:W.Frag) (neg:Bool):R2:=fun x y H Q=>∃ d e,Dn K H x d∧Dn K H y e∧d.canLay0=true∧e.canLay0=true∧min d.depth e.depth≤150∧Q (.bl (if neg then !PyData.eqv d e else PyData.eqv d e)) H
theorem Zz5 (hu:X.A.units+150 < cLine):OpR X (compareOp .Eq) (rEqD X.K false):=by
 intro g s m H x y v u Q I b a h;obtain⟨d,e,l,k,j,i,n,q⟩:=h;obtain⟨p,f⟩:=l.reads I b;obtain⟨o,c⟩:=k.reads I a;exact W.cmp_ofEq (SeqAt.rcAt_reads f c j i (by omega) _ _ _ _ ⟨.bl _,H,I,rfl,q⟩)
theorem Xs6 (hu:X.A.units+150 < cLine):OpR X (compareOp .NotEq) (rEqD X.K true):=by
 intro g s m H x y v u Q I b a h;obtain⟨d,e,l,k,j,i,n,q⟩:=h;obtain⟨p,f⟩:=l.reads I b;obtain⟨o,c⟩:=k.reads I a;exact W.cmp_ofNotEq (SeqAt.rcNeAt_reads f c j i (by omega) _ _ _ _ ⟨.bl _,H,I,rfl,q⟩)
end
theorem Zl3 {A:Around} {k:Nat} (hr:Room k A):A.units+150 < cLine:=by have:=hr.un;omega
noncomputable def blk (X:Cx) (N':List Str) (scope:Scope) (cl:List (Str×Addr)) (s:Shared) (H:Hp) (C:Addr) (ex:List Addr):Cx where
 prog:=X.prog
 w:=X.w
 K:=X.K
 mg:=X.mg
 base:=X.base
 A:=X.A
 N:=N'
 s₀:=s
 H₀:=H
 env:=compEnvC scope cl C X.env
 outer:=X.stack
 stack:=X.stack
 ex:=ex
 fn:=fun _=>false
 calm:=X.calm
 pn:=[]
 xe:=fun _ _=>False
structure BlkOk (X:Cx) (scope:Scope) (cl:List (Str×Addr)) (N':List Str) (nt:Nat) (ci:List Nat):Prop where
 clos:closureFor scope X.env=pure cl
 cell:∀ y∈scope.names,y.2≠.cell
 kind:scope.kind=.function
 names:∀ y∈scope.names,y.2=.local→scope.names.lookup y.1=some .local
 sub:∀ x c,cl.lookup x=some c→X.env.cells.lookup x=some c
 has:∀ x,((relabel scope X.env).names.lookup x=some .cell∨(relabel scope X.env).names.lookup x=some .free)→∃ c,cl.lookup x=some c
 len:N'.length=nt+ci.length
 cap:∀ (j i:Nat),ci[j]?=some i→∃ x,N'[nt+j]?=some x∧X.N[i]?=some x∧X.env.scope.names.lookup x=some .cell∧((relabel scope X.env).names.lookup x=some .cell∨(relabel scope X.env).names.lookup x=some .free)
noncomputable def capt (nt:Nat) (ci:List Nat) (σ:St):St:=List.replicate nt none++ci.map fun i=>(σ[i]?).join
section
variable {X:Cx} {scope:Scope} {cl:List (Str×Addr)} {N':List Str} {nt:Nat} {ci:List Nat} {pins:List (Addr×Obj)} {σ:St} {H:Hp} {s:Shared}
theorem Xm3 (B:BlkOk X scope cl N' nt ci) (I:Inv X pins σ H s) {fp:List Addr} (hf:∀ b∈fp,FpOk X pins H b) (ho:∀ b∈fp,∃ o,s.heap.get? b=some o) {C acc:Addr} {h1:Heap} {tk:Nat}
    (hacc:acc=s.heap.objs.size) (hC:C=s.heap.objs.size+1) (k:∀ b u,s.heap.get? b=some u→h1.get? b=some u) (ns:h1.Ns C fun _=>none) (ha:h1.get? acc=some { cls:=.type "list",data:=.seq #[] }) :
    Inv (blk X N' scope cl s H C fp) [] (capt nt ci σ) (upd H acc (.lst [])) { s with heap:=h1,toks:=tk }:=by
  have hn:H acc=none:=I.hok.fresh (by rw[hacc];exact Nat.le_refl _);have M:H C=none:=I.hok.fresh (by rw[hC];exact Nat.le_succ _)
  have n:∀ x c,cl.lookup x=some c→c < s.heap.objs.size:=fun x c e=>by
    obtain⟨v,q⟩:=I.cell x c (B.sub x c e);exact q.lt
  refine⟨⟨I.ok.mod,B.kind,I.ok.glob,I.ok.blt,?_,fun x y c L f=>I.ok.inj x y c (B.sub _ _ L) (B.sub _ _ f),fun x Y=>B.has x Y,fun x c (z:false=true)=>Bool.noConfusion z,fun hc=>I.ok.hd hc,I.ok.frames,.inl rfl,fun b g=>?_,I.bs,?_,fun b o e g=>?_,fun b g=>?_,I.stack,fun b g=>I.stkFree b g⟩,
    rfl,I.bare,Un.laid (a:=acc) (o:=.lst []) k (by rw[hacc];exact Nat.le_refl _) hn,⟨_,ns,fun i x v L f e3=>?_⟩,fun x c e=>?_,?_,fun x c e=>?_,fun p Z=>absurd (show p∈([]:List (Addr×Obj)) from Z) (by simp),I.hok.laid k (by rw[hacc];exact Nat.le_refl _) ⟨Nat.zero_le _,[],0,.nil,ha⟩,?_⟩
  · show s.heap.objs.size≤C
    rw[hC];exact Nat.le_succ _
  · obtain⟨O,G,F,D,A,N⟩:=hf b g
    obtain⟨o,e⟩:=ho b g;refine⟨?_,fun x c e'=>A x c (B.sub x c e')⟩;show b≠C;rw[hC];exact Nat.ne_of_lt (Nat.lt_succ_of_lt (Heap.lt_size e))
  · exact Nat.le_trans I.ok.bsz I.sz
  · obtain⟨O,G,F,D,A,N⟩:=hf b g
    rcases D with z | z
    · exact I.ok.noex b o e z
    · exact absurd (Nat.lt_of_lt_of_le (Heap.lt_size e) (Nat.le_trans I.ok.bsz z)) (Nat.lt_irrefl _)
  · intro z
    obtain⟨O,G,F,D,A,N⟩:=hf b g;rcases List.mem_cons.mp (I.stkSub b z) with y | y
    · exact G y
    · exact F y
  ·
    obtain⟨m,hm,hl⟩:=I.loc;unfold capt at f
    by_cases hi:i < nt
    · rw[List.getElem?_append_left (by simpa using hi),List.getElem?_replicate] at f
      split at f<;>cases f
    · rw[List.getElem?_append_right (by simpa using hi),List.length_replicate,List.getElem?_map] at f
      cases q:ci[i - nt]? with
      | none=>rw[q] at f;cases f
      | some j =>
        rw[q] at f;have h:(σ[j]?).join=some v:=Option.some.inj f;obtain⟨y,U,a2,T,S⟩:=B.cap _ j q
        have ei:nt+(i - nt)=i:=by omega
        rw[ei,show N'[i]?=some x from L] at U;cases U
        have J:σ[j]?=some (some v):=by
          cases z:σ[j]? with
          | none=>rw[z] at h;cases h
          | some w=>rw[z] at h;exact congrArg some h
        obtain⟨u,r,l⟩:=hl j x v a2 J (.inr (.inl T));refine⟨u,r,.inr ⟨S,?_⟩⟩;rcases l with ⟨W,_⟩ | ⟨_,c,c1,c2⟩
        · have t:X.env.scope.names.lookup x=some .local:=W
          rw[T] at t;cases t
        · obtain⟨c',R⟩:=B.has x S
          have:=B.sub x c' R;rw[c1] at this;cases this;exact⟨c,R,let ⟨o,e,d⟩:=c2;⟨o,k _ _ e,d⟩⟩
  · obtain⟨v,q⟩:=I.cell x c (B.sub x c e)
    exact⟨v,let ⟨o,e,d⟩:=q;⟨o,k _ _ e,d⟩⟩
  · show upd H acc (.lst []) C=none
    rw[Zb1 (by rw[hacc,hC];exact Nat.succ_ne_self _)];exact M
  · have V:=n x c e
    rw[Zb1 (by rw[hacc];exact Nat.ne_of_lt V)];exact I.freeC x c (B.sub x c e)
  · show (capt nt ci σ).length=N'.length
    unfold capt;rw[List.length_append,List.length_replicate,List.length_map,B.len]
def Wk (σ σ':St):Prop:=σ'.length=σ.length∧∀ (i:Nat) v,σ[i]?=some (some v)→σ'[i]?=some (some v)
theorem Yb9 {σ:St} {i:Nat} {x:V} (h:σ[i]?=some none):Wk σ (σ.set i (some x)):=by
 refine⟨by simp,fun j v e=>?_⟩
 by_cases hj:j=i
 ·subst hj;rw[h] at e;cases e
 ·rw[List.getElem?_set_ne (Ne.symm hj)];exact e
theorem Yd7 {x:V} {r:St}:Wk (none :: r) (some x :: r):=Yb9 (σ:=none :: r) (i:=0) rfl
theorem Wk.trans {σ1 σ2 σ3:St} (a:Wk σ1 σ2) (b:Wk σ2 σ3):Wk σ1 σ3:=⟨b.1.trans a.1,fun i v e=>b.2 i v (a.2 i v e)⟩
theorem Wk.refl (σ:St):Wk σ σ:=⟨rfl,fun _ _ e=>e⟩
def lcW (K:W.Frag) (σ0:St) (J:It) (acc:Addr) (g:TG) (te:TE) (Q:VK) (W:Nat→Nat→List V→Hp→Prop):Prop :=
 ∀ i m ys H2,W i m ys H2→H2 acc=some (.lst ys)∧ys.length < sizeLine∧((J.stop i H2∧Q (.ref acc) H2) ∨
  (J.go i H2∧∀ x H3,J.yld i H2 x H3→g x σ0 H3 fun σ4 H4=>Wk σ0 σ4∧te σ4 H4 fun y H5=>H5 acc=some (.lst ys)∧∃ m',m' < m∧W (i+1) m' (ys++[y]) (upd H5 acc (.lst (ys++[y])))))
def tLC (K:W.Frag) (nt:Nat) (ci:List Nat) (wi:TI) (g:TG) (te:TE):TE:=fun σ H Q=>wi σ H fun J H1=>∀ acc,H1 acc=none→∃ W:Nat→Nat→List V→Hp→Prop,(∃ m,W 0 m [] (upd H1 acc (.lst [])))∧lcW K (capt nt ci σ) J acc g te Q W
theorem Ym3 (elt target iter:Expr) (scope:Scope) (pos:Pos) (it acc:Value) (env:Env) :
  compTurn (.ListComp elt [⟨target,iter,[],0⟩] scope pos) 0 it acc env=(standAt iter.pos >>= fun _=>pyNext it >>= fun r=>match r with
   | none=>pure (.done .next)
   | some v=>letOwnedTupleGo target it v >>= fun _=>assign target env v >>= fun _ =>
    (eval elt env >>= fun x=>call (.builtin "list.append") [acc,x] >>= fun _=>pure ()) >>= fun _ =>
     again (.compLoop (.ListComp elt [⟨target,iter,[],0⟩] scope pos) 0 it acc env)):=by rfl
theorem noE {M:Model} {A:Around} {env:Env} {E:Value→Shared→Prop}:∀ e s,(fun (_:Value) (_:Shared)=>False) e s→notedBy M A env E e s:=fun _ _ z=>z.elim
theorem Xy0 {tg elt iter:Expr} {pos:Pos} {g:TG} {te:TE} {it acc C:Addr} {fp:List Addr} {tn:Nat→Heap→Prop} {J:It} {Q:VK} {s0:Shared} {H0:Hp} {σ0:St} {R:Result→Shared→Prop} {s:Shared} {i0 m0:Nat} {ys0:List V} {H1:Hp} {W:Nat→Nat→List V→Hp→Prop}
  (hc:X.calm=true) (hg:PG (blk X N' scope cl s0 H0 C fp) tg g) (he:PE (blk X N' scope cl s0 H0 C fp) elt te) (T:Turn X.prog X.w X.K tg J fp it tn)
  (hfp:∀ (H':Hp),(∀ b∈fp,H' b=none)→∀ b∈fp,FpOk (blk X N' scope cl s0 H0 C fp) [] H' b) (hW:lcW X.K σ0 J acc g te Q W)
  (hR:∀ s' H',Inv (blk X N' scope cl s0 H0 C fp) [] σ0 H' s'→Q (.ref acc) H'→R (.ok .next) s')
  (I:Inv (blk X N' scope cl s0 H0 C fp) [] σ0 H1 s) (hst:tn i0 s.heap) (hfr:∀ b∈fp,H1 b=none) (w:W i0 m0 ys0 H1) :
  codeAny (model X.prog X.w) X.A (.compLoop (.ListComp elt [⟨tg,iter,[],0⟩] scope pos) 0 (.ref it) (.ref acc) (compEnvC scope cl C X.env)) R s:=by
 refine codeAny_loop rfl (fun n s=>∃ i c a,Inv (blk X N' scope cl s0 H0 C fp) [] σ0 a s∧tn i s.heap∧(∀ b∈fp,a b=none)∧W i n c a) (fun n s G=>?_) m0 ⟨i0,ys0,H1,I,hst,hfr,w⟩;obtain⟨i,c,a,z,j,k,D⟩:=G;show wpAny _ _ ((compTurn (.ListComp elt [⟨tg,iter,[],0⟩] scope pos) 0 (.ref it) (.ref acc) (compEnvC scope cl C X.env)).onRaise (fun x=>do noteFrame x (compEnvC scope cl C X.env);theTreesLotGoes x)) _ _ s;refine wpAny_noted ?_;rw[Ym3];refine wpAny_bind (wpAny_standAt (wpAny_bind ?_));obtain⟨F,p,f⟩:=hW i n c a D;rcases f with ⟨l,q⟩ | ⟨L,m⟩
 ·refine thn (T.done (blk X N' scope cl s0 H0 C fp) rfl rfl rfl hc i [] s σ0 a _ z (hfp a k) j l) fun r s1 ⟨hr,I3⟩=>?_
  subst hr;exact wpAny_pure (hR s1 a I3 q)
 ·refine thn (T.item (blk X N' scope cl s0 H0 C fp) rfl rfl rfl hc i [] s σ0 a _ z (hfp a k) j L) fun r s1 ⟨u,hr,h4⟩=>?_
  subst hr;refine wpAny_bind (thn h4 fun _ s5 ⟨x,H5,I5,r5,y5,st5,fr5⟩=>?_);have t:=I5.pinned (hfp H5 fr5) (T.obj _ _ st5);refine wpAny_bind (wpAny_mono (hg _ s5 σ0 H5 x u _ t r5 (m x H5 y5)) (fun _ s6 ⟨σ6,H6,I6,hw6,q6⟩=>?_) noE);refine wpAny_bind (wpAny_bind (wpAny_mono (he _ s6 σ6 H6 _ I6 q6) (fun v s7 ⟨y,H7,I7,r7,ha7,m',hm',w7⟩=>?_) noE));refine wpAny_bind (wpAny_mono (Zh3 (X:=blk X N' scope cl s0 H0 C fp) _ s7 σ6 H7 (.ref acc) [y] (.ref acc) [v] (fun _ B=>B=upd H7 acc (.lst (c++[y]))) I7 rfl (.cons r7 .nil) ⟨acc,c,y,rfl,rfl,ha7,p,rfl⟩) (fun _ s8 ⟨_,B,I8,_,e8⟩=>?_) noE);subst e8;refine wpAny_pure (wpAny_pure ⟨rfl,m',hm',i+1,c++[y],_,?_,?_,fun b h=>?_,w7⟩)
  ·exact I8.unpinned.weak hw6.1.symm hw6.2
  ·exact T.keep _ _ _ st5 fun b h o e=>(I8.pin (b,o) (List.mem_append_right _ (List.mem_append_right _ (Zj4 h e)))).1
  ·obtain⟨o,e,d⟩:=T.obj _ _ st5 b h
   exact (I8.pin (b,o) (List.mem_append_right _ (List.mem_append_right _ (Zj4 h e)))).2.1
theorem Xy1 {tg elt iter:Expr} {pos pos':Pos} {wi:TI} {g:TG} {te:TE} {use:Option (Value→Sem Unit)} {Q:VK} {Qf:Value→Shared→Prop} (B:BlkOk X scope cl N' nt ci) (hc:X.calm=true) (hi:PI X tg iter wi)
  (hg:∀ s H C ex,PG (blk X N' scope cl s H C ex) tg g) (he:∀ s H C ex,PE (blk X N' scope cl s H C ex) elt te) (hs:∀ x,foldedSetIterable iter X.env x=pure x) (I:Inv X pins σ H s) (h:tLC X.K nt ci wi g te σ H Q)
  (fin:∀ (acc C:Addr) (s':Shared) (H':Hp),Inv X pins σ H' s'→Q (.ref acc) H'→(∃ m,s'.heap.Ns C m)→FpOk X pins H' C→(∃ o,s'.heap.get? C=some o∧∀ v,o.data≠.cell v)→compPost (model X.prog X.w) X.A X.xe use Qf (.ref acc) C (.ok .next) s') :
  wpAny (model X.prog X.w) X.A (comprehension (.ListComp elt [⟨tg,iter,[],0⟩] scope pos) scope X.env pos' (newList []) false (eval iter X.env) use) Qf X.xe s:=by
 refine wpAny_comprehension_free (use:=use) rfl hs B.clos B.kind B.names (thn (hi pins s σ H _ I h) fun v s1 h1=>thn h1 fun q0 a h2=>?_);obtain⟨it,r,tn,J,R,e,n,T,i,t,q2⟩:=h2;subst e;have M:R a.heap.objs.size=none:=n.hok.fresh (Nat.le_refl _);obtain⟨W,⟨m0,Z⟩,hW⟩:=q2 a.heap.objs.size M;refine wpAny_newObj_type (wpAny_newFunctionEnv B.cell (by intro y hy;simp at hy) (fun h₁ hns₁ hsb₁=>?_) B.kind);dsimp only at hns₁ hsb₁ ⊢;have l:(a.heap.push { cls:=.type "list",dict:=none,data:=.seq ([]:List Value).toArray }).objs.size=a.heap.objs.size+1:=Heap.size_push ..;have S:∀ b u,a.heap.get? b=some u→h₁.get? b=some u:=fun b u e=>hsb₁.extBut b u (by rw[l];exact Nat.ne_of_lt (Nat.lt_succ_of_lt (Heap.lt_size e))) (Heap.get?_push_of_some _ (Heap.get?_push_of_some _ e));have a1:h₁.get? a.heap.objs.size=some { cls:=.type "list",data:=.seq #[] }:=hsb₁.extBut _ _ (by rw[l];exact Nat.ne_of_lt (Nat.lt_succ_self _)) (Heap.get?_push_of_some _ (Heap.get?_push_size _ rfl));rw[l] at hns₁ ⊢;have I3:=Xm3 (tk:=a.toks+([]:List (Str×Value)).length) B n t (fun b f=>let ⟨o,e,_⟩:=T.obj _ _ i b f;⟨o,e⟩) rfl rfl S (by simpa using hns₁) a1
 have L:∀ (H':Hp),(∀ b∈r,H' b=none)→∀ b∈r,FpOk (blk X N' scope cl a R (a.heap.objs.size+1) r) [] H' b:=fun H' hn b f=>by
  obtain⟨f0,O,Y,V,N,U⟩:=t b f;obtain⟨o,e,_⟩:=T.obj _ _ i b f;refine⟨hn b f,?_,fun z=>?_,.inl f,fun x c e'=>N x c (B.sub x c e'),fun p hp=>absurd (show p∈([]:List (Addr×Obj)) from hp) (by simp)⟩
  ·exact Nat.ne_of_lt (Nat.lt_succ_of_lt (Heap.lt_size e))
  ·rcases List.mem_cons.mp (n.stkSub b z) with y | y
   ·exact O y
   ·exact Y y
 have G:∀ b∈r,upd R a.heap.objs.size (.lst []) b=none:=fun b f=>by
  obtain⟨o,e,_⟩:=T.obj _ _ i b f;rw[Zb1 (Nat.ne_of_lt (Heap.lt_size e))];exact (t b f).1
 have D:tn 0 h₁:=T.keep _ _ _ i fun b _ o e=>S b o e;have k:codeAny (model X.prog X.w) X.A (.compLoop (.ListComp elt [⟨tg,iter,[],0⟩] scope pos) 0 (.ref it) (.ref a.heap.objs.size) (compEnvC scope cl (a.heap.objs.size+1) X.env))
   (compPost (model X.prog X.w) X.A X.xe use Qf (.ref a.heap.objs.size) (a.heap.objs.size+1)) { a with heap:=h₁,toks:=a.toks+([]:List (Str×Value)).length }:=by
  refine Xy0 (Q:=Q) hc (hg _ _ _ _) (he _ _ _ _) T L hW (fun s' H' j q=>?_) I3 D G Z;have un:=j.base;have ns:=j.loc;have fC:H' (a.heap.objs.size+1)=none:=j.free
  have I4:Inv X pins σ H' s':=n.call' j.os un j.hok j.bare fun b f=>by
   obtain⟨f0,O,Y,V,N,U⟩:=t b f;exact⟨V,O,N,U⟩
  obtain⟨m,hm,_⟩:=ns;have F:s'.heap.Ns (a.heap.objs.size+1) m:=hm;refine fin _ _ s' H' I4 q ⟨m,F⟩ (n.fpOk (Nat.le_succ _) fC) ?_;obtain⟨o,es,ep,e,d,_⟩:=F;exact⟨o,e,fun v z=>by rw[d] at z;cases z⟩
 exact codeAny_compStart_list k (T.self _ _ _ _ _ D k)
theorem Yf3 {i:Nat} {x:Str} {tg elt iter:Expr} {pos spos pos':Pos} {wi:TI} {g:TG} {te:TE} (hN:X.N.Nodup) (hi:X.N[i]?=some x) (hx:Loc X.env.scope x) (B:X.Ok→BlkOk X scope cl N' nt ci) (hc:X.calm=true) (hit:PI X tg iter wi)
  (hg:∀ s H C ex,PG (blk X N' scope cl s H C ex) tg g) (he:∀ s H C ex,PE (blk X N' scope cl s H C ex) elt te) (hsw:swapsWith (.ListComp elt [⟨tg,iter,[],0⟩] scope pos) (some (.Name x pos')) spos.line X.env=pure true)
  (hs:∀ x,foldedSetIterable iter X.env x=pure x:=by intro _;rfl) (hf:X.fn x=true∨X.env.scope.names.lookup x=some .local:=by first | exact .inl rfl | exact .inr rfl | assumption) :
  PS X (.Assign [.Name x pos'] (.ListComp elt [⟨tg,iter,[],0⟩] scope pos) spos) (tAsg (tLC X.K nt ci wi g te) (Ya4 i)):=by
 intro a s k H D I h;rw[exec_Assign_Name_used _ _ _ _ hsw];refine wpAny_bind (wpAny_standAt (wpAny_bind ?_));rw[arm_evalThenUse_ListComp];refine wpAny_bind (Xy1 (B I.ok) hc hit hg he hs I h fun c C s' j v q f l A=>?_);obtain⟨t,r,R,O,M,L⟩:=l;obtain⟨m,f⟩:=f;obtain⟨o,e,d⟩:=A
 have W:Inv X (a++[(C,o)]) k j s':=v.pins_of fun p y=>(List.mem_append.mp y).elim (fun z=>v.pin p (List.mem_append_right _ z)) fun z=>by
  have V:p=(C,o):=by simpa using z
  subst V;exact⟨e,t,r,R,d⟩
 refine wpAny_assign_Name (Zl8 W hN hi hx (show RelV (.ref c) (Value.ref c) from rfl) (fun s2 u=>?_) hf);have U:=(u.pin (C,o) (List.mem_append_right _ (List.mem_append_right _ (by simp)))).1;obtain⟨Z,S,T,n,J,G⟩:=f;rw[e] at n;cases n;refine⟨m,⟨o,S,T,U,J,G⟩,fun h' w=>wpAny_pure (wpAny_pure ?_)⟩;have Y:Inv X a (k.set i (some (.ref c))) j s2:=u.unpinned;exact⟨_,j,Y.turned (t':=s2.toks) (fun b o F e=>(w.2 b F).trans e) t r O M L,q⟩
end
end L2
namespace PySem
open Sem (wp)
namespace F
end F
end PySem
namespace L2
open PySem PySem.Spec PyProof.Rows
structure KDict (K:W.Frag) (w:World) (a:Addr) (kvs:List (Str×V)):Prop where
 ex:∃ (o:Obj) (es:Array DictEntry) (ep:Nat),K.lookup a=some o∧o.ExactDict∧o.data=.dict es ep∧Paired (fun (p:Str×V) (e:DictEntry)=>(∃ tk,e.key=.str p.1 tk)∧e.hash=PyData.keyHash w.params p.1∧RelV p.2 e.val) kvs es.toList
 nd:(kvs.map (·.1)).Nodup
 ns:(a == sysModules)=false
noncomputable def kvK (kvs:List (Str×V)):List (Key×V):=kvs.map fun p=>(Sum.inr p.1,p.2)
section
variable {X:Cx} {pins:List (Addr×Obj)} {σ:St} {H:Hp} {s:Shared} {a:Addr} {kvs:List (Str×V)}
theorem Yx2 {P:Program} {w:World}:∀ {kvs:List (Str×V)} {es:List DictEntry},Paired (fun (p:Str×V) (e:DictEntry)=>(∃ tk,e.key=.str p.1 tk)∧e.hash=PyData.keyHash w.params p.1∧RelV p.2 e.val) kvs es →
  (∀ e∈es,∃ k,(Zf1 P w).is k e.key=true∧e.hash=(Zf1 P w).hash k)∧Pairs (Zf1 P w) es (List.zip (kvs.map fun p=>(Sum.inr p.1:Key)) (es.map (·.val)))∧KV (kvK kvs) (List.zip (kvs.map fun p=>(Sum.inr p.1:Key)) (es.map (·.val)))
 | [],_,r=>by cases r;exact⟨(fun _ h=>(nomatch h)),.nil,.nil⟩
 | p :: kvs,_,r=>by
  cases r with
  | @cons _ e _ es h t =>
   obtain⟨⟨tk,h1⟩,h2,h3⟩:=h;obtain⟨q1,q2,q3⟩:=Yx2 (P:=P) t
   have hi:(Zf1 P w).is (Sum.inr p.1) e.key=true:=by rw[h1];exact Ya0 P w p.1 tk
   refine⟨fun e' he=>?_,.cons hi rfl q2,.cons ⟨rfl,h3⟩ q3⟩;rcases List.mem_cons.mp he with rfl | he
   ·exact⟨Sum.inr p.1,hi,h2⟩
   ·exact q1 e' he
theorem KDict.of (D:KDict X.K X.w a kvs) (I:Inv X pins σ H s):∃ vs,KV (kvK kvs) vs∧s.heap.DictOf (Zf1 X.prog X.w) a vs:=by
 obtain⟨o,f,v,k,ex,d,b⟩:=D.ex;obtain⟨j,i,g⟩:=Yx2 (P:=X.prog) b;refine⟨_,g,o,f,v,I.kIn a o k,ex,d,fun e t=>j e (by simpa using t),i,?_⟩
 have e:(List.zip (kvs.map fun p=>(Sum.inr p.1:Key)) (f.toList.map (·.val))).map (·.1)=kvs.map fun p=>(Sum.inr p.1:Key):=by
  rw[List.map_fst_zip];have:=Paired.length b;simp only[List.length_map];omega
 rw[e]
 have c:∀ l:List (Str×V),(l.map (·.1)).Nodup→(l.map fun p=>(Sum.inr p.1:Key)).Nodup:=by
  intro l
  induction l with
  | nil=>intro _;exact List.nodup_nil
  | cons p r ih =>
   intro h;rw[List.map_cons,List.nodup_cons] at h;rw[List.map_cons,List.nodup_cons];refine⟨fun m=>h.1 ?_,ih h.2⟩;obtain⟨q,n,u⟩:=List.mem_map.mp m;exact List.mem_map.mpr ⟨q,n,Sum.inr.inj u⟩
 exact c kvs D.nd
theorem Yt8 (kvs:List (Str×V)) (x:Str):valV (kvK kvs) (Sum.inr x)=kvs.lookup x:=by
 unfold valV kvK
 induction kvs with
 | nil=>rfl
 | cons p r ih =>
  rw[List.map_cons,List.find?_cons];obtain⟨k,v⟩:=p
  by_cases e:k=x
  ·subst e;simp[List.lookup_cons]
  ·have b:¬ (Sum.inr k:Key)=Sum.inr x:=fun q=>e (Sum.inr.inj q)
   have a:(x == k)=false:=beq_eq_false_iff_ne.mpr (Ne.symm e);simp only[decide_eq_false b,List.lookup_cons,a];exact ih
def tKD (kvs:List (Str×V)) (ti:TE):TE:=fun σ H Q=>ti σ H fun y H1=>∃ x v,y=.str x∧kvs.lookup x=some v∧Q v H1
theorem Zw5 {name:Str} {i:Expr} {ti:TE} {p pos:Pos} (D:KDict X.K X.w a kvs) (hg:Gl X name) (hm:X.mg name=some (.ref a)) (hi:PE X i ti) (hs:NoSl i:=by exact fun _ _=>rfl) (hd:(name == ("__debug__":Str))=false:=by decide) :
  PE X (.Subscript (.Name name p) i pos) (tKD kvs ti):=by
 intro b s f H Q I h;refine Xd7 PySem.F.slot_dict_getitem.lookup hs (Zn9 I hg hm (thn (hi b s f H _ I h) fun iv s2 ⟨y,H2,I2,ry,x,v,ey,hl,q2⟩=>?_) hd);subst ey;obtain⟨g,d,e⟩:=D.of I2;obtain⟨l,j,c⟩:=RelO.some_of (v:=v) (o:=valueAt g (Sum.inr x)) (by rw[← hl,← Yt8];exact d.val (Sum.inr x));exact⟨e.typeIs,wpAny_getItem_of (Xh5 (k:=Sum.inr x) ry) e.mapOf j ⟨v,H2,I2.tok _,c,q2⟩⟩
end
section
variable {X:Cx} {scope:Scope} {N':List Str}
theorem Yb4 {scope:Scope} {env:Env} (h:∀ y∈scope.names,y.2≠.free):(relabel scope env).names=scope.names:=by
 unfold relabel;simp only
 have a:∀ l:List (Str×NameKind),(∀ y∈l,y.2≠.free)→l.map (fun (n,k)=>if (k == NameKind.free&&env.scope.kind == .function&&env.kindOf n == some .cell) then (n,NameKind.cell) else (n,k))=l:=by
  intro l
  induction l with
  | nil=>intro _;rfl
  | cons y r ih =>
   intro h;rw[List.map_cons,ih fun z b=>h z (List.mem_cons_of_mem _ b)];obtain⟨n,k⟩:=y
   have:(k == NameKind.free)=false:=by simpa using h (n,k) List.mem_cons_self
   simp[this]
 exact a _ h
theorem blk0 (hc:∀ y∈scope.names,y.2≠.cell) (hf:∀ y∈scope.names,y.2≠.free) (hk:scope.kind=.function) (hn:∀ y∈scope.names,y.2=.local→scope.names.lookup y.1=some .local) (_:X.Ok):BlkOk X scope [] N' N'.length [] where
 clos:=closureFor_none hf
 cell:=hc
 kind:=hk
 names:=hn
 sub:=fun _ _ h=>by cases h
 has:=fun x h=>by
  rw[Yb4 hf] at h;rcases h with h | h
  ·exact absurd rfl (hc _ (PySem.mem_of_lookup h))
  ·exact absurd rfl (hf _ (PySem.mem_of_lookup h))
 len:=by simp
 cap:=fun j i h=>by simp at h
noncomputable def Zj2 (cells:List (Str×Addr)):List (Str×NameKind)→List (Str×Addr)→List (Str×Addr)
 | [],acc=>acc
 | (n,k) :: r,acc=>if k == .free then Zj2 cells r ((n,(cells.lookup n).getD 0) :: acc) else Zj2 cells r acc
theorem Yh3 {env:Env}:∀ (names:List (Str×NameKind)) (acc:List (Str×Addr)),(∀ y∈names,y.2=.free→∃ c,env.cells.lookup y.1=some c) →
  (forIn names acc fun (x:Str×NameKind) cs=>(match x with | (name,kind)=>if (kind == .free)=true then do let c ← cellOf env name;pure (ForInStep.yield ((name,c) :: cs)) else pure (ForInStep.yield cs):Sem (ForInStep (List (Str×Addr)))))=pure (Zj2 env.cells names acc)
 | [],acc,_=>rfl
 | (n,k) :: r,acc,h=>by
  rw[List.forIn_cons];unfold Zj2
  by_cases hk:(k == NameKind.free)=true
  ·obtain⟨c,hc⟩:=h (n,k) List.mem_cons_self (by simpa using hk)
   have e:cellOf env n=pure c:=by unfold cellOf;rw[show env.cells.lookup n=some c from hc]
   have hc':env.cells.lookup n=some c:=hc;simp only[hk,if_true,e,pure_bind,hc',Option.getD_some];exact Yh3 r _ fun y hy=>h y (List.mem_cons_of_mem _ hy)
  ·simp only[hk,if_false,pure_bind]
   exact Yh3 r acc fun y hy=>h y (List.mem_cons_of_mem _ hy)
theorem Zg2 {scope:Scope} {env:Env} (h:∀ y∈scope.names,y.2=.free→∃ c,env.cells.lookup y.1=some c):closureFor scope env=pure (Zj2 env.cells scope.names []):=by
 unfold closureFor;have e:=Yh3 (env:=env) scope.names [] h;simp only[bind_pure_comp] at e ⊢
 first
  | exact e
  | (rw[e];rfl)
  | (refine Eq.trans ?_ e;rfl)
theorem Zt2 {cells:List (Str×Addr)}:∀ {names:List (Str×NameKind)} {acc:List (Str×Addr)} {x:Str} {c:Addr},(x,c)∈Zj2 cells names acc→(x,c)∈acc∨((x,NameKind.free)∈names∧c=(cells.lookup x).getD 0)
 | [],acc,x,c,h=>.inl h
 | (n,k) :: r,acc,x,c,h=>by
  unfold Zj2 at h
  by_cases hk:(k == NameKind.free)=true
  ·rw[if_pos hk] at h
   have hk':k=.free:=by simpa using hk
   rcases Zt2 h with h | ⟨h1,h2⟩
   ·rcases List.mem_cons.mp h with e | h
    ·cases e
     subst hk';exact .inr ⟨List.mem_cons_self,rfl⟩
    ·exact .inl h
   ·exact .inr ⟨List.mem_cons_of_mem _ h1,h2⟩
  ·rw[if_neg hk] at h
   rcases Zt2 h with h | ⟨h1,h2⟩
   ·exact .inl h
   ·exact .inr ⟨List.mem_cons_of_mem _ h1,h2⟩
theorem Zt3 {cells:List (Str×Addr)}:∀ {names:List (Str×NameKind)} {acc:List (Str×Addr)} {x:Str},(x,NameKind.free)∈names∨(∃ c,(x,c)∈acc)→∃ c,(x,c)∈Zj2 cells names acc
 | [],acc,x,h=>by
  rcases h with h | h
  ·cases h
  ·exact h
 | (n,k) :: r,acc,x,h=>by
  unfold Zj2
  by_cases hk:(k == NameKind.free)=true
  ·rw[if_pos hk]
   refine Zt3 ?_;rcases h with h | ⟨c,h⟩
   ·rcases List.mem_cons.mp h with e | h
    ·cases e
     exact .inr ⟨_,List.mem_cons_self⟩
    ·exact .inl h
   ·exact .inr ⟨c,List.mem_cons_of_mem _ h⟩
  ·rw[if_neg hk]
   refine Zt3 ?_;rcases h with h | h
   ·rcases List.mem_cons.mp h with e | h
    ·cases e
     exact absurd (beq_self_eq_true NameKind.free) hk
    ·exact .inl h
   ·exact .inr h
theorem Zs6 {l:List (Str×Addr)} {x:Str} {c:Addr} (h:(x,c)∈l):∃ c',l.lookup x=some c':=by
 induction l with
 | nil=>cases h
 | cons p r ih =>
  obtain⟨n,a⟩:=p
  by_cases e:(x == n)=true
  ·exact⟨a,by simp[List.lookup_cons,e]⟩
  ·have b:(x == n)=false:=by simpa using e
   rcases List.mem_cons.mp h with h | h
   ·cases h;simp at e
   ·obtain⟨c',q⟩:=ih h
    exact⟨c',by simp only[List.lookup_cons,b];exact q⟩
theorem Zn4 {env:Env}:∀ {names:List (Str×NameKind)} {x:Str} {k:NameKind},(names.map fun (n,k)=>if (k == NameKind.free&&env.scope.kind == .function&&env.kindOf n == some .cell) then (n,NameKind.cell) else (n,k)).lookup x=some k→(k=.cell∨k=.free)→(∀ y∈names,y.2≠.cell)→(x,NameKind.free)∈names
 | [],x,k,h,_,_=>by cases h
 | (n,j) :: r,x,k,h,hk,hc=>by
  rw[List.map_cons] at h
  by_cases e:(x == n)=true
  ·have e':x=n:=by simpa using e
   subst e';have hj:j≠.cell:=hc (x,j) List.mem_cons_self
   by_cases q:(j == NameKind.free&&env.scope.kind == .function&&env.kindOf x == some .cell)=true
   ·have:j=.free:=by
     rw[Bool.and_eq_true,Bool.and_eq_true] at q
     simpa using q.1.1
    subst this;exact List.mem_cons_self
   ·simp only[q,if_false,List.lookup_cons,beq_self_eq_true] at h
    have h':j=k:=by simpa using h
    subst h';rcases hk with z | z
    ·exact absurd z hj
    ·subst z;exact List.mem_cons_self
  ·have e':(x == n)=false:=by simpa using e
   refine List.mem_cons_of_mem _ (Zn4 (env:=env) (k:=k) ?_ hk fun y hy=>hc y (List.mem_cons_of_mem _ hy));have h':List.lookup x ((if (j == NameKind.free&&env.scope.kind == .function&&env.kindOf n == some .cell)=true then (n,NameKind.cell) else (n,j)) :: _)=some k:=h
   by_cases q:(j == NameKind.free&&env.scope.kind == .function&&env.kindOf n == some .cell)=true
   ·rw[if_pos q,List.lookup_cons,e'] at h';exact h'
   ·rw[if_neg q,List.lookup_cons,e'] at h';exact h'
theorem Zn5 {env:Env} {x:Str} (h1:env.scope.kind=.function) (h2:env.kindOf x=some .cell):∀ {names:List (Str×NameKind)},names.lookup x=some .free→(names.map fun (n,k)=>if (k == NameKind.free&&env.scope.kind == .function&&env.kindOf n == some .cell) then (n,NameKind.cell) else (n,k)).lookup x=some .cell
 | [],h=>by cases h
 | (n,j) :: r,h=>by
  rw[List.map_cons]
  by_cases e:(x == n)=true
  ·have e':x=n:=by simpa using e
   subst e';simp only[List.lookup_cons,beq_self_eq_true] at h
   have hj:j=.free:=by simpa using h
   subst hj
   have q:((NameKind.free == NameKind.free)&&env.scope.kind == .function&&env.kindOf x == some .cell)=true:=by rw[h1,h2];rfl
   show List.lookup x ((if ((NameKind.free == NameKind.free)&&env.scope.kind == .function&&env.kindOf x == some .cell)=true then (x,NameKind.cell) else (x,NameKind.free)) :: _)=_;rw[if_pos q,List.lookup_cons,beq_self_eq_true]
  ·have e':(x == n)=false:=by simpa using e
   simp only[List.lookup_cons,e'] at h
   by_cases q:(j == NameKind.free&&env.scope.kind == .function&&env.kindOf n == some .cell)=true
   ·show List.lookup x ((if (j == NameKind.free&&env.scope.kind == .function&&env.kindOf n == some .cell)=true then (n,NameKind.cell) else (n,j)) :: _)=_
    rw[if_pos q,List.lookup_cons,e'];exact Zn5 h1 h2 h
   ·show List.lookup x ((if (j == NameKind.free&&env.scope.kind == .function&&env.kindOf n == some .cell)=true then (n,NameKind.cell) else (n,j)) :: _)=_
    rw[if_neg q,List.lookup_cons,e'];exact Zn5 h1 h2 h
noncomputable def Wk9 (N':List Str) (nt:Nat) (ci:List Nat) (Xn:List Str) (fsc scope:Scope):Bool :=
 (List.range ci.length).all fun j=>match ci[j]?,N'[nt+j]? with
  | some i,some x=>Xn[i]? == some x&&fsc.names.lookup x == some .cell&&scope.names.lookup x == some .free
  | _,_=>false
theorem blkC {nt:Nat} {ci:List Nat} (Xn:List Str) (fsc:Scope) (hN:X.N=Xn) (hs:X.env.scope=fsc) (hc:∀ y∈scope.names,y.2≠.cell) (hk:scope.kind=.function) (hn:∀ y∈scope.names,y.2=.local→scope.names.lookup y.1=some .local)
  (hfr:∀ y∈scope.names,y.2=.free→fsc.names.lookup y.1=some .cell) (hl:N'.length=nt+ci.length) (cap:Wk9 N' nt ci Xn fsc scope=true) (ok:X.Ok):BlkOk X scope (Zj2 X.env.cells scope.names []) N' nt ci:=by
 have d:∀ y∈scope.names,y.2=.free→∃ c,X.env.cells.lookup y.1=some c:=fun y g e=>ok.has y.1 (.inl (by show X.env.scope.names.lookup y.1=_;rw[hs];exact hfr y g e))
 have b:∀ x c,(Zj2 X.env.cells scope.names []).lookup x=some c→X.env.cells.lookup x=some c:=fun x c h=>by
  rcases Zt2 (PySem.mem_of_lookup h) with z | ⟨f,a⟩
  ·cases z
  ·obtain⟨m,e⟩:=d _ f rfl
   rw[show X.env.cells.lookup x=some m from e] at a ⊢;rw[a];rfl
 refine⟨Zg2 d,hc,hk,hn,b,fun x h=>?_,hl,fun j i h=>?_⟩
 ·have k:(x,NameKind.free)∈scope.names:=by
   rcases h with h | h
   ·exact Zn4 h (.inl rfl) hc
   ·exact Zn4 h (.inr rfl) hc
  obtain⟨c,q⟩:=Zt3 (cells:=X.env.cells) (acc:=[]) (.inl k);exact Zs6 q
 ·unfold Wk9 at cap
  rw[List.all_eq_true] at cap;have l:j < ci.length:=(List.getElem?_eq_some_iff.mp h).1;have q:=cap j (List.mem_range.mpr l);rw[h] at q
  cases e:N'[nt+j]? with
  | none=>rw[e] at q;cases q
  | some x =>
   rw[e] at q;simp only[Bool.and_eq_true,beq_iff_eq] at q;refine⟨x,rfl,by rw[hN];exact q.1.1,by rw[hs];exact q.1.2,.inl (Zn5 ok.kind ?_ q.2)⟩;show X.env.scope.names.lookup x=_;rw[hs];exact q.1.2
end
theorem Same.sqt {K:W.Frag} {H H':Hp} {a:Addr} {xs:List V} (e:Same H H') (h:SqT K H a xs):SqT K H' a xs:=by
 rcases h with (h | ⟨o,h⟩) | h
 ·exact .inl (.inl (e _ _ h))
 ·exact .inl (.inr ⟨o,e _ _ h⟩)
 ·exact .inr h
theorem Same.keepT {K:W.Frag} {H H':Hp} (e:Same H H'):KeepT K H H':=fun _ _ h=>e.sqt h
theorem Za6 {H:Hp} {p:Addr} (h:H p=none) (o:HO):Same H (upd H p o):=fun b u q=>by rw[Zb1 (Zb0 q h)];exact q
theorem KeepT.trans {K:W.Frag} {H H1 H2:Hp} (a:KeepT K H H1) (b:KeepT K H1 H2):KeepT K H H2:=fun x c h=>b x c (a x c h)
theorem KeepT.refl {K:W.Frag} (H:Hp):KeepT K H H:=fun _ _ h=>h
theorem Zf2 {K:W.Frag} {H:Hp} {l:Addr} {xs:List V} {o:HO} (h:H l=some (.lst xs)):KeepT K H (upd H l o):=fun a c q=>by
 rcases q with (q | ⟨b,q⟩) | q
 ·exact .inl (.inl (by rw[Zb1 (Xg1 q h (by intro z;cases z))];exact q))
 ·exact .inl (.inr ⟨b,by rw[Zb1 (Xg1 q h (by intro z;cases z))];exact q⟩)
 ·exact .inr q
theorem Zd3 {K:W.Frag} {H:Hp} {l:Addr} {o:HO} (h:H l=none):KeepT K H (upd H l o):=(Za6 h o).keepT
theorem Same.write {H0 H:Hp} {l:Addr} {o:HO} (e:Same H0 H) (h:H0 l=none):Same H0 (upd H l o):=fun b u q=>by
 rw[Zb1 (Zb0 q h)];exact e b u q
theorem Wb9 {K:W.Frag} {H:Hp} {l a:Addr} {xs:List V} {o:HO} (q:SqL K H a xs) (h:a≠l):SqL K (upd H l o) a xs:=by
 rcases q with (q | ⟨b,q⟩) | q
 ·exact .inl (.inl (by rw[Zb1 h];exact q))
 ·exact .inl (.inr ⟨b,by rw[Zb1 h];exact q⟩)
 ·exact .inr q
theorem Yd1 (CX:CXT) (P:Program) (w:World) (K:W.Frag) (mg:Str→Option Value) (base:Heap) (N:List Str) (qual:Str) (scope:Scope) (f:Addr) (cd:Value) (A:Around) (outer:List Env) (s:Shared) (H:Hp) (E:XK):(cxOf CX P w K mg base N qual scope f cd A outer s H E).K=K:=rfl
theorem Xb0 (X:Cx) (N':List Str) (scope:Scope) (cl:List (Str×Addr)) (s:Shared) (H:Hp) (C:Addr) (ex:List Addr):(blk X N' scope cl s H C ex).K=X.K:=rfl
theorem Yf0 (a b:Int):scal (.int a) (.int b)=true:=rfl
theorem Ye9 (a b:Str):scal (.str a) (.str b)=true:=rfl
theorem Yp3 (a b:Bool):scal (.bl a) (.bl b)=true:=rfl
theorem Yg2 {i j:Int} (h1:-(2 ^ 64) < i) (h2:i < 2 ^ 64):CMul i j:=.inl ⟨h1,h2⟩
theorem Yk9 {i j:Int} (h1:-(2 ^ 64) < j) (h2:j < 2 ^ 64):CMul i j:=.inr ⟨h1,h2⟩
theorem Ye8 {t u:TS} {D:Ends} {σ:St} {H:Hp} (R:St→Hp→Prop) (rest:∀ σ' H',R σ' H'→u D σ' H') (first:∀ C:St→Hp→Prop,(∀ σ' H',R σ' H'→C σ' H')→t { D with nx:=C } σ H):tSeq t u D σ H:=first (u D) rest
theorem sqt {t u:TS} {D:Ends} {σ:St} {H:Hp} (R:St→Hp→Prop) (first:∀ C:St→Hp→Prop,(∀ σ' H',R σ' H'→C σ' H')→t { D with nx:=C } σ H) (rest:∀ σ' H',R σ' H'→u D σ' H'):tSeq t u D σ H:=first (u D) rest
theorem Yl5 {K:W.Frag} {σ0:St} {n:Nat} {lo:Int} {acc:Addr} {g:TG} {te:TE} {Q:VK} {H:Hp} (Pv:Nat→List V→Hp→Prop) (h0:Pv 0 [] (upd H acc (.lst []))) (hl:∀ i ys H2,i≤n→Pv i ys H2→H2 acc=some (.lst ys)∧ys.length < sizeLine)
  (hs:∀ i ys H2,i < n→Pv i ys H2→∀ C:VK,(∀ y H5,H5 acc=some (.lst ys)→Pv (i+1) (ys++[y]) (upd H5 acc (.lst (ys++[y])))→C y H5)→g (.int (lo+i)) σ0 H2 fun σ4 H4=>Wk σ0 σ4∧te σ4 H4 C) (hd:∀ ys H2,Pv n ys H2→Q (.ref acc) H2) :
  ∃ W:Nat→Nat→List V→Hp→Prop,(∃ m,W 0 m [] (upd H acc (.lst [])))∧lcW K σ0 (Itr lo n) acc g te Q W:=by
 refine⟨fun i m ys H2=>m=n - i∧i≤n∧Pv i ys H2,⟨n,by simp,Nat.zero_le _,h0⟩,?_⟩;rintro i m ys H2 ⟨rfl,f,p⟩;obtain⟨a,b⟩:=hl i ys H2 f p;refine⟨a,b,?_⟩
 by_cases hlt:i < n
 ·refine .inr ⟨hlt,fun x h y=>?_⟩
  obtain⟨e,y⟩:=y;subst e y;exact hs i ys _ hlt p _ fun v H5 d c=>⟨d,n - (i+1),by omega,rfl,hlt,c⟩
 ·have e:i=n:=by omega
  subst e;exact .inl ⟨Nat.le_refl _,hd ys H2 p⟩
theorem Yd2 (x y:Str):(x++y).cps.toList=x.cps.toList++y.cps.toList:=by
 show (x.cps++y.cps).toList=_;simp
theorem Xx9 (x:Str):x.length=x.cps.toList.length:=by simp[Str.length]
end L2
namespace Ken
open PySem L2
theorem Zf4:bootBuiltins "len"=some (.builtin "len"):=by decide +kernel
theorem Zd7:bootBuiltins "isinstance"=some (.builtin "isinstance"):=by decide +kernel
theorem boot_max:bootBuiltins "max"=some (.builtin "max"):=by decide +kernel
theorem Ys9:bootBuiltins "sorted"=some (.builtin "sorted"):=by decide +kernel
theorem Zp4:bootBuiltins "int"=some (.type "int"):=by decide +kernel
theorem Ym8:bootBuiltins "bool"=some (.type "bool"):=by decide +kernel
theorem Zu6:bootBuiltins "tuple"=some (.type "tuple"):=by decide +kernel
theorem Xm2:bootBuiltins "list"=some (.type "list"):=by decide +kernel
inductive Kd where
 | both | one | thn
 deriving DecidableEq
noncomputable def Kd.str:Kd→Str
 | .both=>"both"
 | .one=>"one"
 | .thn=>"then"
inductive Tm where
 | low
 | ltr (w:Str)
 | nd (k:Kd) (a b:Tm)
 deriving DecidableEq
noncomputable def Tm.data:Tm→PyData
 | .low=>.tuple [.str "low"]
 | .ltr w=>.tuple [.str "letter",.str w]
 | .nd k a b=>.tuple [.str k.str,a.data,b.data]
noncomputable def Tm.parts:Tm→Nat
 | .low=>1
 | .ltr _=>1
 | .nd _ a b=>1+a.parts+b.parts
noncomputable def Tm.deep:Tm→Nat
 | .low=>1
 | .ltr _=>1
 | .nd _ a b=>1+max a.deep b.deep
theorem Tm.parts_pos:∀ t:Tm,1≤t.parts
 | .low=>Nat.le_refl _
 | .ltr _=>Nat.le_refl _
 | .nd _ a b=>by show 1≤1+a.parts+b.parts;omega
def Word (x:Str):Prop:=1≤x.cps.toList.length∧x.cps.toList.length≤8∧∀ c∈x.cps.toList,97≤c∧c≤122
theorem Word.strOk {x:Str} (h:Word x):PySem.PyData.strOk x=true:=by
 unfold PySem.PyData.strOk;rw[Array.all_eq_true_iff_forall_mem];intro c a;have:=h.2.2 c (by simpa using a);exact decide_eq_true (by omega)
def Tm.ok:Tm→Prop
 | .low=>True
 | .ltr w=>Word w
 | .nd _ a b=>a.ok∧b.ok
abbrev IsT (K:W.Frag) (H:Hp) (v:V) (t:Tm):Prop:=Dn K H v t.data
theorem Tm.noList:∀ t:Tm,L2.noList t.data=true
 | .low=>rfl
 | .ltr _=>rfl
 | .nd k a b=>by
  show (true&&(L2.noList a.data&&(L2.noList b.data&&true)))=true;rw[a.noList,b.noList];rfl
theorem Tm.lay:∀ t:Tm,t.ok→t.data.canLay0=true
 | .low,_=>by
  show (PySem.PyData.strOk "low"&&true)=true;decide +kernel
 | .ltr w,h=>by
  show (PySem.PyData.strOk "letter"&&(PySem.PyData.strOk w&&true))=true;rw[Word.strOk h];decide +kernel
 | .nd k a b,h=>by
  show (PySem.PyData.strOk k.str&&(a.data.canLay0&&(b.data.canLay0&&true)))=true;rw[a.lay h.1,b.lay h.2]
  cases k<;>decide +kernel
theorem Tm.depth:∀ t:Tm,t.data.depth=t.deep
 | .low=>rfl
 | .ltr _=>rfl
 | .nd k a b=>by
  show max 0 (max a.data.depth (max b.data.depth 0))+1=1+max a.deep b.deep;rw[a.depth,b.depth];omega
section
variable {K:W.Frag} {H H':Hp} {v:V}
theorem IsT.keep {t:Tm} (h:IsT K H v t) (k:KeepT K H H'):IsT K H' v t:=Dn.keepT k t.noList h
theorem isT_low:IsT K H v .low↔∃ a,v=.ref a∧SqT K H a [.str "low"]:=by
 show Dn K H v (.tuple [.str "low"])↔_;rw[Dn];constructor
 ·rintro⟨a,f,rfl,b,c⟩
  rw[DnAll] at c;obtain⟨x,r,rfl,e,d⟩:=c;rw[Dn] at e;rw[DnAll] at d;subst e;subst d;exact⟨a,rfl,b⟩
 ·rintro⟨a,rfl,b⟩
  refine⟨a,_,rfl,b,?_⟩;rw[DnAll];exact⟨_,_,rfl,by rw[Dn],by rw[DnAll]⟩
theorem isT_ltr {w:Str}:IsT K H v (.ltr w)↔∃ a,v=.ref a∧SqT K H a [.str "letter",.str w]:=by
 show Dn K H v (.tuple [.str "letter",.str w])↔_;rw[Dn];constructor
 ·rintro⟨a,h,rfl,b,c⟩
  rw[DnAll] at c;obtain⟨x,r,rfl,g,f⟩:=c;rw[DnAll] at f;obtain⟨y,r,rfl,e,d⟩:=f;rw[Dn] at g e;rw[DnAll] at d;subst g;subst e;subst d;exact⟨a,rfl,b⟩
 ·rintro⟨a,rfl,b⟩
  refine⟨a,_,rfl,b,?_⟩;rw[DnAll];refine⟨_,_,rfl,by rw[Dn],?_⟩;rw[DnAll];exact⟨_,_,rfl,by rw[Dn],by rw[DnAll]⟩
theorem isT_nd {k:Kd} {a b:Tm}:IsT K H v (.nd k a b)↔∃ p x y,v=.ref p∧SqT K H p [.str k.str,x,y]∧IsT K H x a∧IsT K H y b:=by
 show Dn K H v (.tuple [.str k.str,a.data,b.data])↔_;rw[Dn];constructor
 ·rintro⟨p,l,rfl,e,f⟩
  rw[DnAll] at f;obtain⟨x,r,rfl,d,c⟩:=f;rw[DnAll] at c;obtain⟨y,r,rfl,j,h⟩:=c;rw[DnAll] at h;obtain⟨z,r,rfl,i,g⟩:=h;rw[Dn] at d;rw[DnAll] at g;subst d;subst g;exact⟨p,y,z,rfl,e,j,i⟩
 ·rintro⟨p,x,y,rfl,e,d,c⟩
  refine⟨p,_,rfl,e,?_⟩;rw[DnAll];refine⟨_,_,rfl,by rw[Dn],?_⟩;rw[DnAll];refine⟨_,_,rfl,d,?_⟩;rw[DnAll];exact⟨_,_,rfl,c,by rw[DnAll]⟩
end
theorem Xz7 (a b c d e f:PyData):PyData.eqvAll [a,b,c] [d,e,f]=(PyData.eqv a d&&(PyData.eqv b e&&PyData.eqv c f)):=by
 simp[PyData.eqvAll]
theorem Kd.str_inj {a b:Kd} (h:a.str=b.str):a=b:=by
 cases a<;>cases b<;>first | rfl | exact absurd h (by decide)
theorem Tm.eqv:∀ s t:Tm,PyData.eqv s.data t.data=decide (s=t)
 | .low,.low=>by decide
 | .low,.ltr w=>by
  show PyData.eqvAll [.str "low"] [.str "letter",.str w]=_;simp[PyData.eqvAll]
 | .low,.nd k a b=>by
  show PyData.eqvAll [.str "low"] [.str k.str,a.data,b.data]=_;simp[PyData.eqvAll]
 | .ltr w,.low=>by
  show PyData.eqvAll [.str "letter",.str w] [.str "low"]=_;simp[PyData.eqvAll]
 | .ltr w,.ltr v=>by
  show (PyData.eqv (.str "letter") (.str "letter")&&(PyData.eqv (.str w) (.str v)&&true))=_;simp[PyData.eqv];rfl
 | .ltr w,.nd k a b=>by
  show PyData.eqvAll [.str "letter",.str w] [.str k.str,a.data,b.data]=_;simp[PyData.eqvAll]
 | .nd k a b,.low=>by
  show PyData.eqvAll [.str k.str,a.data,b.data] [.str "low"]=_;simp[PyData.eqvAll]
 | .nd k a b,.ltr w=>by
  show PyData.eqvAll [.str k.str,a.data,b.data] [.str "letter",.str w]=_;simp[PyData.eqvAll]
 | .nd k a b,.nd l c d=>by
  show PyData.eqvAll [.str k.str,a.data,b.data] [.str l.str,c.data,d.data]=_;rw[Xz7,a.eqv c,b.eqv d]
  have e:PyData.eqv (.str k.str) (.str l.str)=decide (k=l):=by
   show (k.str == l.str)=_
   by_cases h:k=l
   ·subst h;simp
   ·have:¬ k.str=l.str:=fun z=>h (Kd.str_inj z)
    rw[decide_eq_false h];exact beq_eq_false_iff_ne.mpr this
  rw[e]
  by_cases h1:k=l<;>by_cases h2:a=c<;>by_cases h3:b=d<;>simp[h1,h2,h3]
noncomputable def mix (c k:Int):Int:=((c+1)*(48271+118*k) % 2147483629 / 977*16807+(c+1)*(48271+118*k) % 2147483629*(k*k+7)+k) % 2147483587
theorem Zg5 (c k:Int):0≤mix c k:=by unfold mix;exact Int.emod_nonneg _ (by decide)
def Zk7:Sp:=fun vs H Q _=>∃ c k:Int,vs=[.int c,.int k]∧0≤k∧k≤100000∧Q (.int (mix c k)) H
noncomputable def cellOf (ns:List Int) (k:Int):Int:=mix (if k < (ns.length:Int) then (ns[k.toNat]?.getD 0) % 2147483647 else 0) (k+101)
theorem Wa2 (ns:List Int) (k:Int):0≤cellOf ns k:=Zg5 _ _
def Yo8 (K:W.Frag):Sp:=fun vs H Q _=>∃ (a:Addr) (ns:List Int) (k:Int),vs=[.ref a,.int k]∧SqL K H a (ns.map V.int)∧ns.length≤63∧0≤k∧k≤1000∧Q (.int (cellOf ns k)) H
def Yt2 (ws:List Str):Prop:=2≤ws.length∧ws.length≤6∧∀ w∈ws,Word w
def Yu4:Sp:=fun vs H Q _=>∃ c m:Int,vs=[.int c,.int m]∧0≤c∧2≤m∧m≤6 ∧
 ∀ (r:Addr) (H':Hp) (ws:List Str),Same H H'→H r=none→H' r=some (.lst (ws.map V.str))→Yt2 ws→Q (.ref r) H'
def Tm.inW (ws:List Str):Tm→Prop
 | .low=>True
 | .ltr w=>w∈ws
 | .nd _ a b=>a.inW ws∧b.inW ws
theorem Tm.inW.ok {ws:List Str} (hw:∀ w∈ws,Word w):∀ {t:Tm},t.inW ws→t.ok
 | .low,_=>trivial
 | .ltr w,h=>hw w h
 | .nd _ a b,h=>⟨Tm.inW.ok hw h.1,Tm.inW.ok hw h.2⟩
def Made (K:W.Frag) (H:Hp) (ws:List Str) (p d:Nat) (r:V) (t:Tm):Prop:=IsT K H r t∧t.inW ws∧t.parts≤p∧t.deep≤d
theorem Made.mono {K:W.Frag} {H H':Hp} {ws:List Str} {p d p' d':Nat} {r:V} {t:Tm} (h:Made K H ws p d r t) (k:KeepT K H H') (hp:p≤p') (hd:d≤d'):Made K H' ws p' d' r t :=
 ⟨h.1.keep k,h.2.1,Nat.le_trans h.2.2.1 hp,Nat.le_trans h.2.2.2 hd⟩
def Zy2 (K:W.Frag):Sp:=fun vs H Q _=>∃ (c:Int) (wa:Addr) (ws:List Str),vs=[.int c,.ref wa]∧SqL K H wa (ws.map V.str)∧Yt2 ws ∧
 ∀ (r:V) (H':Hp) (t:Tm),Same H H'→Made K H' ws 1 1 r t→Q r H'
noncomputable def rk (n:Int):Nat:=if n < 40 then n.toNat else if n≤53 then 40 else if n≤71 then 41 else if n≤95 then 42 else if n≤127 then 43 else if n≤170 then 44 else if n≤227 then 45 else 46
theorem Wd2 {n:Int} (h0:3≤n) (h1:n < 40):rk (n - 2) < rk n:=by
 unfold rk;rw[if_pos (by omega),if_pos (by omega)];omega
theorem Xe3 {n m:Int} (h0:3≤n) (h1:n < 40) (h2:m≤n - 1):rk m < rk n:=by
 unfold rk;rw[if_pos (by omega),if_pos (by omega)];omega
theorem Xs2 {n m:Int} (h0:40≤n) (h1:n≤300) (h2:m≤n - 1 - (n - 1) / 4):rk m < rk n:=by
 unfold rk;rw[if_neg (show ¬ n < 40 by omega)]
 repeat' split
 all_goals omega
def Zk6 (K:W.Frag) (n:Nat):Sp:=fun vs H Q _=>∃ (c size:Int) (wa:Addr) (ws:List Str),vs=[.int c,.int size,.ref wa]∧0≤c∧0≤size∧size≤300∧rk size < n∧SqL K H wa (ws.map V.str)∧Yt2 ws ∧
 ∀ (r:V) (H':Hp) (t:Tm),Same H H'→Made K H' ws (max 1 size.toNat) (rk size+1) r t→Q r H'
section
variable {K:W.Frag} {H:Hp} {p:Addr}
theorem Yw8 (ws:List Str) (hp:H p=none):Made K (upd H p (.tup [.str "low"])) ws 1 1 (.ref p) .low :=
 ⟨isT_low.mpr ⟨p,rfl,.inl (.inl Za4)⟩,trivial,Nat.le_refl _,Nat.le_refl _⟩
theorem Xp9 {ws:List Str} {w:Str} (hw:w∈ws) (hp:H p=none):Made K (upd H p (.tup [.str "letter",.str w])) ws 1 1 (.ref p) (.ltr w) :=
 ⟨isT_ltr.mpr ⟨p,rfl,.inl (.inl Za4)⟩,hw,Nat.le_refl _,Nat.le_refl _⟩
theorem Xg6 {ws:List Str} {k:Kd} {x y:V} {a b:Tm} {pa da pb db:Nat} (ha:Made K H ws pa da x a) (hb:Made K H ws pb db y b) (hp:H p=none) :
  Made K (upd H p (.tup [.str k.str,x,y])) ws (1+pa+pb) (1+max da db) (.ref p) (.nd k a b):=by
 refine⟨isT_nd.mpr ⟨p,x,y,rfl,.inl (.inl Za4),ha.1.keep (Zd3 hp),hb.1.keep (Zd3 hp)⟩,⟨ha.2.1,hb.2.1⟩,?_,?_⟩
 ·show 1+a.parts+b.parts≤_
  have:=ha.2.2.1;have:=hb.2.2.1;omega
 ·show 1+max a.deep b.deep≤_
  have:=ha.2.2.2;have:=hb.2.2.2;omega
end
theorem Xn4 {c:Nat} {n:Int} (h1:97≤c) (h2:c≤122) (h3:1≤n) (h4:n≤8):Word (Txt.mul ⟨#[c]⟩ n):=by
 unfold Word;rw[PyProof.Rows.mul_one_list];refine⟨by rw[List.length_replicate];omega,by rw[List.length_replicate];omega,fun d a=>?_⟩;rw[List.mem_replicate] at a;omega
theorem Xn5 {c d:Nat} {a b:Int} (h1:97≤c) (h2:c≤122) (h3:97≤d) (h4:d≤122) (h5:0≤a) (h6:0≤b) (h7:a+b≤7):Word (Txt.mul ⟨#[c]⟩ a++⟨#[d]⟩++Txt.mul ⟨#[c]⟩ b):=by
 unfold Word;rw[Yd2,Yd2,PyProof.Rows.mul_one_list,PyProof.Rows.mul_one_list];refine⟨by simp only[List.length_append,List.length_replicate,List.length_cons,List.length_nil];omega,by simp only[List.length_append,List.length_replicate,List.length_cons,List.length_nil];omega,fun e f=>?_⟩;simp only[List.mem_append,List.mem_replicate,List.mem_cons,List.not_mem_nil,or_false] at f;omega
theorem Xg2 {c:Nat} {n:Int}:(Txt.mul ⟨#[c]⟩ n).length=n.toNat:=by rw[Xx9,PyProof.Rows.mul_one_list,List.length_replicate]
noncomputable def Xu7 (x:Str):Bool:=decide (1≤x.cps.toList.length)&&decide (x.cps.toList.length≤8)&&x.cps.toList.all fun c=>decide (97≤c)&&decide (c≤122)
theorem Xu6 {x:Str} (h:Xu7 x=true):Word x:=by
 unfold Xu7 at h;simp only[Bool.and_eq_true,decide_eq_true_eq,List.all_eq_true] at h;exact⟨h.1.1,h.1.2,fun c a=>by have:=h.2 c a;simpa using this⟩
def Six (H0 H:Hp) (p:Addr) (ws:List Str):Prop:=Same H0 H∧H0 p=none∧H p=some (.lst (ws.map V.str))∧ws.length=6∧∀ w∈ws,Word w
theorem Ya5 (ws:List Str) (lo hi:Option Int):cutV (ws.map V.str) lo hi=((ws.drop (HT.sIx ws.length 0 lo)).take (HT.sIx ws.length ws.length hi - HT.sIx ws.length 0 lo)).map V.str:=by
 unfold cutV;rw[List.length_map,← List.map_drop,← List.map_take]
noncomputable def kd4 (i:Int):Kd:=if i=0 then .both else if i=1 then .one else .thn
theorem Wl3 {i:Int} (h0:0≤i) (h1:i < 4):atI [V.str "both",V.str "one",V.str "then",V.str "then"] i=some (.str (kd4 i).str):=by
 have:i=0∨i=1∨i=2∨i=3:=by omega
 rcases this with rfl | rfl | rfl | rfl<;>rfl
theorem Wa3 {α:Type} {xs:List α} {i:Int} (h0:0≤i) (h1:i < (xs.length:Int)):∃ v,v∈xs∧atI xs i=some v:=by
 obtain⟨j,rfl⟩:=Int.eq_ofNat_of_zero_le h0
 have a:j < xs.length:=by omega
 exact⟨xs[j],List.getElem_mem a,Zb7 (List.getElem?_eq_getElem a)⟩
theorem Zh8 {n:Nat} (h:n≤1000000):n < sizeLine:=Nat.lt_of_le_of_lt h (by rw[sizeLine_eq];decide)
theorem isT_tup {K:W.Frag} {H:Hp} {v:V} {t:Tm} (h:IsT K H v t):∃ a xs,v=.ref a∧SqT K H a xs:=by
 cases t with
 | low=>obtain⟨a,rfl,b⟩:=isT_low.mp h;exact⟨a,_,rfl,b⟩
 | ltr w=>obtain⟨a,rfl,b⟩:=isT_ltr.mp h;exact⟨a,_,rfl,b⟩
 | nd k x y=>obtain⟨a,d,c,rfl,b,_,_⟩:=isT_nd.mp h;exact⟨a,_,rfl,b⟩
theorem paired_get {α β:Type} {F:α→β→Prop}:∀ {l:List α} {m:List β} {i:Nat} {x:α},Paired F l m→l[i]?=some x→∃ y,m[i]?=some y∧F x y
 | _,_,0,_,.cons h t,e=>by cases e;exact⟨_,rfl,h⟩
 | _,_,i+1,_,.cons h t,e=>paired_get (i:=i) t (by simpa using e)
end Ken
namespace L2
open PySem PySem.Spec PyProof.Rows
noncomputable def Ite (K:W.Frag) (l:Addr):It :=
  ⟨fun i H=>∃ xs x,SqL K H l xs∧xs[i]?=some x,
   fun i H v H'=>∃ T x,v=.ref T∧H T=none∧H'=upd H T (.tup [.int i,x])∧∀ xs,SqL K H l xs→xs[i]?=some x,
   fun i H=>∃ xs,SqL K H l xs∧xs.length≤i⟩
def enSt (e it l:Addr) (i:Nat) (h:Heap):Prop:=(∃ old,IsEnum h e it i old)∧h.IsListIter it l i
theorem Xc4 {P:Program} {w:World} {K:W.Frag} {elts:List Expr} {k0:Nat} {tpos:Pos} (e it l:Addr) (hne:e≠it) :
    Turn P w K (.Tuple elts k0 tpos) (Ite K l) [e,it] e (enSt e it l) where
  mem:=by simp
  obj:=fun i h f b a=>by
    obtain⟨⟨g,d⟩,⟨o1,N,c1,d1⟩⟩:=f;simp only[List.mem_cons,List.not_mem_nil,or_false] at a;rcases a with rfl | rfl
    · exact⟨_,d,fun v q=>by cases q⟩
    · exact⟨o1,N,fun v q=>by rw[d1] at q;cases q⟩
  keep:=fun i h h' f k=>by
    obtain⟨⟨g,d⟩,A⟩:=f;exact⟨⟨g,k e (by simp) _ d⟩,A.at fun o q=>k it (by simp) o q⟩
  item:=by
    intro X hP Z hK hc i y s R H E I p f hg;subst hP Z hK;obtain⟨⟨g,d⟩,A⟩:=f;obtain⟨S,x,M,hx⟩:=hg;obtain⟨V,B,U,_⟩:=I.list M;obtain⟨T,q5,q2⟩:=B.get hx;refine wpAny_pyNext_enum_item d A U.isList (x:=T) (by simpa using q5) hne fun h' a1 a2 a5 a6 kk=>?_;have z:H s.heap.objs.size=none:=I.hok.fresh (Nat.le_refl _)
    have O:∀ b u,H b=some u→b ∉ [e,it]:=fun b u q a=>by rw[(p b a).1] at q;cases q
    have j:∀ b o,b ∉ [e,it]→s.heap.get? b=some o→h'.get? b=some o:=fun b o a q=>by
      simp only[List.mem_cons,List.not_mem_nil,or_false,not_or] at a;exact kk b o a.1 a.2 q
    have C:∀ b o,s.heap.get? b=some o→b≠s.heap.objs.size:=fun b o q=>Nat.ne_of_lt (Heap.lt_size q)
    have q0:HOk X.prog X.w (upd H s.heap.objs.size (.tup [.int i,x])) h':=fun b ob q=>by
      by_cases a:b=s.heap.objs.size
      · subst a
        rw[Za4] at q;cases q;exact⟨by show 2≤sizeLine;decide,[.int i s.toks,T],.cons ⟨_,rfl⟩ (.cons q2 .nil),_,a5,rfl,_,rfl⟩
      · rw[Zb1 a] at q
        refine (I.hok b ob q).stay (fun c v D t=>j c v ?_ t) (fun c t=>by rw[Zb1 (Zb0 t z)];exact t) fun c S t=>by rw[Zb1 (Zb0 t z)];exact t
        rcases D with rfl | D
        · exact O _ _ q
        · exact O _ _ D
    have I1:Inv X y R (upd H s.heap.objs.size (.tup [.int i,x])) { s with heap:=h',toks:=s.toks+1 }:=by
      refine I.step (g':=s.gens) (d':=s.drawn) (t':=s.toks+1) (ch:=[e,it]) (fun b a=>?_) (fun b o _ _ a q _=>j b o a q) (fun b o _ _ a q _=>⟨o.slots,j b o a q⟩) (fun b o _ q n=>by rw[Zb1 (C b o q)];exact n) (fun b o a q=>⟨o,j b o a q⟩)
        (fun b S q=>by rw[Zb1 (Zb0 q z)];exact q) (fun b o u q=>by rw[Zb1 (Zb0 q z)];exact q) (fun b ps q=>⟨#[],by rw[Zb1 (Zb0 q z),q];simp⟩) (fun m hm=>?_) q0 I.bare
      · obtain⟨f0,L,f2,J,G,F⟩:=p b a
        exact⟨J,L,G,F⟩
      · obtain⟨o,es,ep,ho,r⟩:=hm
        refine⟨o,es,ep,j _ o ?_ ho,r⟩;simp only[List.mem_cons,List.not_mem_nil,or_false,not_or];exact⟨((p e (by simp)).2.1).symm,((p it (by simp)).2.1).symm⟩
    refine⟨_,rfl,wpAny_letOwnedTupleGo_enum a1 fun q6 Y sb=>?_⟩;obtain⟨f0,L,f2,J,G,F⟩:=p e (by simp)
    have q3:∀ b∈[e,it],b≠s.heap.objs.size:=fun b a=>by
      simp only[List.mem_cons,List.not_mem_nil,or_false] at a;obtain⟨o1,N,_⟩:=A;rcases a with rfl | rfl
      · exact C _ _ d
      · exact C _ _ N
    have fn:∀ b∈[e,it],upd H s.heap.objs.size (.tup [.int i,x]) b=none:=fun b a=>by rw[Zb1 (q3 b a)];exact (p b a).1
    have I2:Inv X y R (upd H s.heap.objs.size (.tup [.int i,x])) { s with heap:=q6,toks:=s.toks+1 }:=I1.turned (t':=s.toks+1) (fun b o a q=>(sb.2 b a).trans q) (fn e (by simp)) L J G F;refine⟨.ref s.heap.objs.size,_,I2,rfl,⟨_,x,rfl,z,rfl,fun ys q4=>by rw[I.list_inj q4 M];exact hx⟩,⟨⟨T,?_⟩,?_⟩,fn⟩
    · rw[Int.natCast_add];exact Y
    · exact a2.extBut sb.extBut (Ne.symm hne)
  done:=by
    intro X hP Z hK hc i y s R H E I p f hg;subst hP Z hK;obtain⟨⟨g,d⟩,A⟩:=f;obtain⟨S,M,q7⟩:=hg;obtain⟨V,B,U,_⟩:=I.list M;have N:=B.length;refine wpAny_pyNext_enum_end (I.ok.hd hc) d A U.isList (by simp;omega) fun h' eb=>⟨rfl,?_⟩;obtain⟨f0,L,f2,J,G,F⟩:=p it (by simp);exact I.turned (t':=s.toks) (fun b o a q=>eb b o a q) f0 L J G F
  self:=fun _ _ _ _ _ f h=>by
    obtain⟨⟨g,d⟩,_⟩:=f;exact wpAny_pyIter_enum d h
section
variable {X:Cx}
def Ys1 (K:W.Frag) (ta:TA):TI:=fun σ H R=>ta σ H fun vs H1=>∃ a,vs=[.ref a]∧(∃ xs,SqL K H1 a xs)∧R (Ite K a) H1
theorem Xf1 {a:Expr} {ta:TA} {p pos:Pos} {elts:List Expr} {k0:Nat} {tpos:Pos} (hg:Gl X "enumerate") (hm:X.mg "enumerate"=none) (ha:PA X [a] ta) (hs:starEach [a] X.env=[(false,eval a X.env)]:=by rfl) :
  PI X (.Tuple elts k0 tpos) (.Call (.Name "enumerate" p) [a] [] pos) (Ys1 X.K ta):=by
 intro c s g H R I h;refine Call_ (Zp8 I hg hm (by first | exact PySem.boot_enumerate | rfl) (PyProof.Rows.callWith_type1 (thn (ha pos c s g H _ I h) fun us s1 ⟨vs,H1,I1,r1,f⟩=>?_) (by rw[hs];rfl) rfl));obtain⟨l,e,⟨w,f⟩,q⟩:=f;subst e;obtain⟨x,rfl,i⟩:=r1.one;cases i;obtain⟨n,v,m,_⟩:=I1.list f;refine call_enumerate_list m.isList fun t j r _ o=>wpAny_pyIter_enum j ?_;have u:Inv X c g H1 { s1 with heap:=t }:=I1.kept (t':=s1.toks) o;refine⟨_,_,_,_,H1,rfl,u,Xc4 _ _ l (Nat.succ_ne_self _),⟨⟨_,j⟩,r⟩,fun b k=>?_,q⟩
 have d:s1.heap.objs.size≤b:=by
  simp only[List.mem_cons,List.not_mem_nil,or_false] at k
  rcases k with rfl | rfl<;>omega
 exact I1.fpOk d (I1.hok.fresh d)
end
theorem Xr1 {K:W.Frag} {a:Addr} {xs:List V} {g:TG} {tb:TS} {D:Ends} {σ:St} {H:Hp} (Pv:Nat→St→Hp→Prop) (h0:Pv 0 σ H) (hl:∀ i σ H,i≤xs.length→Pv i σ H→SqL K H a xs)
  (hs:∀ i x σ H T,xs[i]?=some x→H T=none→Pv i σ H→g (.ref T) σ (upd H T (.tup [.int i,x])) fun σ2 H2=>tb { D with nx:=Pv (i+1),ct:=Pv (i+1),bk:=D.nx } σ2 H2) (hd:∀ σ H,Pv xs.length σ H→D.nx σ H) :
  ∃ W:Nat→Nat→St→Hp→Prop,(∃ m,W 0 m σ H)∧∀ i m σ H,W i m σ H →
   ((Ite K a).stop i H∧D.nx σ H)∨((Ite K a).go i H∧∃ N:St→Hp→Prop,(∀ σ' H',N σ' H'→∃ m',m' < m∧W (i+1) m' σ' H')∧∀ x H',(Ite K a).yld i H x H'→g x σ H' fun σ2 H2=>tb { D with nx:=N,ct:=N,bk:=D.nx } σ2 H2):=by
 refine⟨fun i m σ H=>m=xs.length - i∧i≤xs.length∧Pv i σ H,⟨xs.length,by simp,Nat.zero_le _,h0⟩,?_⟩;rintro i m σ H ⟨rfl,f,p⟩;have b:=hl i σ H f p
 by_cases hlt:i < xs.length
 ·refine .inr ⟨⟨xs,xs[i],b,by simp[hlt]⟩,Pv (i+1),fun σ' H' d=>⟨xs.length - (i+1),by omega,rfl,hlt,d⟩,fun v H' z=>?_⟩
  obtain⟨T,x,rfl,h,rfl,c⟩:=z;exact hs i x σ H T (c xs b) h p
 ·have e:i=xs.length:=by omega
  subst e;exact .inl ⟨⟨xs,b,Nat.le_refl _⟩,hd σ H p⟩
theorem Yq0 {X:Cx} {K:W.Frag} {pos:Pos} {es:List Expr} {k:Nat} {t:TGs} {n:Nat} (hc:X.calm=true) (hK:X.K=K) (h:PGs X es t)
  (hn:(assignEach es X.env).length=n) (hst:(assignEach es X.env).findIdx? (·.1)=none):PG X (.Tuple es k pos) (gTup K n t):=hK▸Zg4 hc h hn hst
end L2
namespace Ken
open PySem L2
theorem Zo9 {α β:Type} {F:α→β→Prop}:∀ {l:List α} {m:List β},Paired F l m→Paired F l.reverse m.reverse
 | _,_,.nil=>.nil
 | _,_,.cons h t=>by rw[List.reverse_cons,List.reverse_cons];exact Paired.snoc (Zo9 t) h
theorem Zi1 {α β:Type} {F:α→β→Prop}:∀ {l l':List α} {m m':List β},Paired F l m→Paired F l' m'→Paired F (l++l') (m++m')
 | _,_,_,_,.nil,q=>q
 | _,_,_,_,.cons h t,q=>.cons h (Zi1 t q)
end Ken
namespace L2
open PySem PySem.Spec PyProof.Rows
noncomputable abbrev TK:=St→Hp→(Hp→Prop)→Prop
def Xl1 (σ0:St) (J:It) (g:TG) (tk:TK) (Q:Hp→Prop) (W:Nat→Nat→Hp→Prop):Prop :=
 ∀ i m H2,W i m H2→(J.stop i H2∧Q H2)∨(J.go i H2∧∀ x H3,J.yld i H2 x H3→g x σ0 H3 fun σ4 H4=>Wk σ0 σ4∧tk σ4 H4 fun H5=>∃ m',m' < m∧W (i+1) m' H5)
def PTn (Y:Cx) (body:Sem Unit) (tk:TK):Prop:=∀ (pins:List (Addr×Obj)) (s:Shared) (σ:St) (H:Hp) (N:Hp→Prop),Inv Y pins σ H s→tk σ H N →
 wpAny (model Y.prog Y.w) Y.A body (fun _ s'=>∃ σ' H',Inv Y pins σ' H' s'∧Wk σ σ'∧N H') Y.xe s
def Zt6 (e:Expr) (d:Nat) (tg:Expr) (p:Pos) (acc:Value) (env:Env) (body:Sem Unit):Prop:=∀ it,compTurn e d it acc env=(standAt p >>= fun _=>pyNext it >>= fun r=>match r with
   | none=>pure (.done .next)
   | some v=>letOwnedTupleGo tg it v >>= fun _=>assign tg env v >>= fun _=>body >>= fun _=>again (.compLoop e d it acc env))
def Yt4 (prog:Program) (w:World) (A:Around) (e:Expr) (d:Nat) (acc:Value) (env:Env):Prop:=∀ it,
 (model prog w).den (.compLoop e d it acc env)=(compTurn e d it acc env).onRaise (fun x=>do noteFrame x env;theTreesLotGoes x)∧A.under (.compLoop e d it acc env)=A ∧
 (∃ p,(model prog w).den (.compStart e d it acc env)=(compStart e d it acc env).onRaise (fun x=>do noteFrame x env;standAt p))∧A.under (.compStart e d it acc env)=A
theorem Ym1 {Y:Cx} {e tg:Expr} {d:Nat} {p:Pos} {g:TG} {tk:TK} {it:Addr} {acc:Value} {body:Sem Unit} {fp:List Addr} {tn:Nat→Heap→Prop} {J:It} {Q:Hp→Prop} {σ0:St} {R:Result→Shared→Prop} {s:Shared} {i0 m0:Nat} {H1:Hp} {W:Nat→Nat→Hp→Prop} {pins:List (Addr×Obj)}
  (hc:Y.calm=true) (hxe:Y.xe=fun _ _=>False) (hden:Yt4 Y.prog Y.w Y.A e d acc Y.env) (eq:Zt6 e d tg p acc Y.env body) (hg:PG Y tg g) (hb:PTn Y body tk) (T:Turn Y.prog Y.w Y.K tg J fp it tn)
  (hfp:∀ (H':Hp),(∀ b∈fp,H' b=none)→∀ b∈fp,FpOk Y pins H' b) (hW:Xl1 σ0 J g tk Q W)
  (hR:∀ s' H',Inv Y pins σ0 H' s'→Q H'→R (.ok .next) s')
  (I:Inv Y pins σ0 H1 s) (hst:tn i0 s.heap) (hfr:∀ b∈fp,H1 b=none) (w:W i0 m0 H1) :
  codeAny (model Y.prog Y.w) Y.A (.compLoop e d (.ref it) acc Y.env) R s:=by
 have k:∀ {M:Model} {A:Around} {env:Env} {E:Value→Shared→Prop} (x:Value) (s:Shared),Y.xe x s→notedBy M A env E x s:=fun x s z=>by rw[hxe] at z;exact z.elim
 refine codeAny_loop rfl (fun n s=>∃ i a,Inv Y pins σ0 a s∧tn i s.heap∧(∀ b∈fp,a b=none)∧W i n a) (fun n s v=>?_) m0 ⟨i0,H1,I,hst,hfr,w⟩;obtain⟨i,a,m,c,f,t⟩:=v;rw[(hden (.ref it)).1,(hden (.ref it)).2.1];refine wpAny_noted ?_;rw[eq];refine wpAny_bind (wpAny_standAt (wpAny_bind ?_));rcases hW i n a t with ⟨h,q⟩ | ⟨y,j⟩
 ·refine thn (T.done Y rfl rfl rfl hc i pins s σ0 a _ m (hfp a f) c h) fun r s1 ⟨hr,I3⟩=>?_
  subst hr;exact wpAny_pure (hR s1 a I3 q)
 ·refine thn (T.item Y rfl rfl rfl hc i pins s σ0 a _ m (hfp a f) c y) fun r s1 ⟨u,hr,h4⟩=>?_
  subst hr;refine wpAny_bind (thn h4 fun _ s5 ⟨x,H5,I5,r5,y5,st5,fr5⟩=>?_);have l:=I5.pinned (hfp H5 fr5) (T.obj _ _ st5);refine wpAny_bind (wpAny_mono (hg _ s5 σ0 H5 x u _ l r5 (j x H5 y5)) (fun _ s6 ⟨σ6,H6,I6,hw6,q6⟩=>?_) k);refine wpAny_bind (wpAny_mono (hb _ s6 σ6 H6 _ I6 q6) (fun _ s8 ⟨σ8,H8,I8,hw8,m',hm',w7⟩=>?_) k);refine wpAny_pure ⟨rfl,m',hm',i+1,H8,?_,?_,fun b hb=>?_,w7⟩
  ·have:=hw6.trans hw8
   exact I8.unpinned.weak this.1.symm this.2
  ·exact T.keep _ _ _ st5 fun b hb o e=>(I8.pin (b,o) (List.mem_append_right _ (List.mem_append_right _ (Zj4 hb e)))).1
  ·obtain⟨o,e,B⟩:=T.obj _ _ st5 b hb
   exact (I8.pin (b,o) (List.mem_append_right _ (List.mem_append_right _ (Zj4 hb e)))).2.1
theorem Zi9 {prog:Program} {w:World} {A:Around} {R:Result→Shared→Prop} {s:Shared} {e:Expr} {d:Nat} {g:Comprehension} {it acc:Value} {env:Env} (hden:Yt4 prog w A e d acc env) (hcl:(clausesOf e)[d]?=some g) (ha:g.is_async=0)
  (h0:codeAny (model prog w) A (.compLoop e d it acc env) R s)
  (h:wpAny (model prog w) A (pyIter it) (fun it' s'=>codeAny (model prog w) A (.compLoop e d it' acc env) R s') (notedBy (model prog w) A env fun x s'=>R (.error x) s') s) :
  codeAny (model prog w) A (.compStart e d it acc env) R s:=by
 refine codeAny_of_tree ?_;obtain⟨p,b⟩:=(hden it).2.2.1;rw[b,(hden it).2.2.2];refine wpAny_notedAt ?_;unfold compStart;rw[hcl]
 have c:((some g).elim false fun x=>x.is_async != 0)=false:=by show (g.is_async != 0)=false;rw[ha];rfl
 rw[c,if_neg Bool.false_ne_true];refine wpAny_bind (wpAny_askSetting ?_);refine wpAny_ite ?_
 split
 ·exact wpAny_pure ⟨rfl,h0⟩
 ·refine wpAny_bind (wpAny_rule (wpAny_bind (wpAny_standAt (wpAny_bind (wpAny_mono h (fun it' s' a=>wpAny_pure ⟨rfl,a⟩) fun _ _ z=>z)))))
theorem Wn7 {prog:Program} {w:World} {A:Around} {elt:Expr} {gens:List Comprehension} {scope:Scope} {pos:Pos} {d:Nat} {acc:Value} {env:Env}:Yt4 prog w A (.ListComp elt gens scope pos) d acc env:=fun a=>⟨rfl,rfl,⟨_,rfl⟩,rfl⟩
theorem Wn6 {prog:Program} {w:World} {A:Around} {elt:Expr} {gens:List Comprehension} {scope:Scope} {pos:Pos} {d:Nat} {acc:Value} {env:Env}:Yt4 prog w A (.SetComp elt gens scope pos) d acc env:=fun a=>⟨rfl,rfl,⟨_,rfl⟩,rfl⟩
theorem Wn8 {prog:Program} {w:World} {A:Around} {k v:Expr} {gens:List Comprehension} {scope:Scope} {pos:Pos} {d:Nat} {acc:Value} {env:Env}:Yt4 prog w A (.DictComp k v gens scope pos) d acc env:=fun a=>⟨rfl,rfl,⟨_,rfl⟩,rfl⟩
noncomputable def Xj8 (elt:Expr) (acc:Value) (env:Env):Sem Unit:=eval elt env >>= fun x=>call (.builtin "list.append") [acc,x] >>= fun _=>pure ()
noncomputable def Xj7 (elt:Expr) (acc:Value) (env:Env):Sem Unit:=eval elt env >>= fun v=>standAt elt.pos >>= fun _=>call (.builtin "set.add") [acc,v] >>= fun _=>pure ()
noncomputable def Xj9 (k v:Expr) (d:Addr) (env:Env):Sem Unit:=eval k env >>= fun kv=>holding [kv] (eval v env) >>= fun vv=>standAt { line:=k.pos.line,col:=k.pos.col,endLine:=v.pos.endLine,endCol:=v.pos.endCol } >>= fun _=>holding [kv,vv] (dictSet d kv vv)
noncomputable def Yy6 (c:Expr) (env:Env) (body:Sem Unit):Sem Unit:=PySem.isTrue c env (eval c env) >>= fun ok=>if ok=true then body else pure ()
noncomputable def Xx6 (e:Expr) (d:Nat) (iter:Expr) (acc:Value) (env:Env):Sem Unit:=eval iter env >>= fun x=>standAt iter.pos >>= fun _=>foldedSetIterable iter env x >>= fun x=>holding [x] (pyIter x) >>= fun it=>runOwn (.compStart e d it acc env) env >>= fun _=>pure ()
theorem Xv1 {elt tg iter c tg2 iter2:Expr} {scope:Scope} {pos:Pos} {acc:Value} {env:Env}:Zt6 (.ListComp elt [⟨tg,iter,[c],0⟩] scope pos) 0 tg iter.pos acc env (Yy6 c env (Xj8 elt acc env)):=fun b=>by
  simp only[compTurn,Yy6,Xj8,Xj7,Xj9,Xx6,List.getElem?_cons_zero,List.getElem?_cons_succ,List.getElem?_nil,List.forIn_cons,List.forIn_nil,bind_assoc,pure_bind,if_true,bne_self_eq_false,Bool.false_eq_true,if_false,Nat.zero_add,Nat.reduceAdd];refine bind_congr fun _=>bind_congr fun r=>?_
  cases r with
  | none=>rfl
  | some v =>
    refine bind_congr fun _=>bind_congr fun _=>?_
    first
      | rfl
      | (refine bind_congr fun a => ?_
         cases a<;>simp)
      | simp
theorem Xv0 {elt tg iter c tg2 iter2:Expr} {scope:Scope} {pos:Pos} {acc:Value} {env:Env}:Zt6 (.SetComp elt [⟨tg,iter,[c],0⟩] scope pos) 0 tg iter.pos acc env (Yy6 c env (Xj7 elt acc env)):=fun b=>by
  simp only[compTurn,Yy6,Xj8,Xj7,Xj9,Xx6,List.getElem?_cons_zero,List.getElem?_cons_succ,List.getElem?_nil,List.forIn_cons,List.forIn_nil,bind_assoc,pure_bind,if_true,bne_self_eq_false,Bool.false_eq_true,if_false,Nat.zero_add,Nat.reduceAdd];refine bind_congr fun _=>bind_congr fun r=>?_
  cases r with
  | none=>rfl
  | some v =>
    refine bind_congr fun _=>bind_congr fun _=>?_
    first
      | rfl
      | (refine bind_congr fun a => ?_
         cases a<;>simp)
      | simp
theorem Xv2 {elt tg iter c tg2 iter2:Expr} {a:Addr} {scope:Scope} {pos:Pos} {env:Env}:Zt6 (.DictComp elt iter2 [⟨tg,iter,[],0⟩] scope pos) 0 tg iter.pos (.ref a) env (Xj9 elt iter2 a env):=fun d=>by
  simp only[compTurn,Yy6,Xj8,Xj7,Xj9,Xx6,List.getElem?_cons_zero,List.getElem?_cons_succ,List.getElem?_nil,List.forIn_cons,List.forIn_nil,bind_assoc,pure_bind,if_true,bne_self_eq_false,Bool.false_eq_true,if_false,Nat.zero_add,Nat.reduceAdd];refine bind_congr fun _=>bind_congr fun r=>?_
  cases r with
  | none=>rfl
  | some v =>
    refine bind_congr fun _=>bind_congr fun _=>?_
    first
      | rfl
      | (refine bind_congr fun b => ?_
         cases b<;>simp)
      | simp
def kApp (te:TE) (acc:Addr):TK:=fun σ H N=>te σ H fun y H5=>∃ ys,H5 acc=some (.lst ys)∧ys.length < sizeLine∧N (upd H5 acc (.lst (ys++[y])))
def Yr1 (tc:TT) (tk:TK):TK:=fun σ H N=>tc σ H fun b H1=>if b=true then tk σ H1 N else N H1
section
variable {Y:Cx}
theorem Xp4 {elt:Expr} {te:TE} {acc:Addr} (he:PE Y elt te):PTn Y (Xj8 elt (.ref acc) Y.env) (kApp te acc):=by
 intro a s b H N I h;refine wpAny_bind (thn (he a s b H _ I h) fun v s7 ⟨y,H7,I7,r7,ys,ha7,hlen,n⟩=>?_);refine wpAny_bind (thn (Zh3 (X:=Y) a s7 b H7 (.ref acc) [y] (.ref acc) [v] (fun _ c=>c=upd H7 acc (.lst (ys++[y]))) I7 rfl (.cons r7 .nil) ⟨acc,ys,y,rfl,rfl,ha7,hlen,rfl⟩) fun _ s8 ⟨_,c,I8,_,e8⟩=>?_);subst e8;exact wpAny_pure ⟨b,_,I8,Wk.refl _,n⟩
theorem Xe8 {c:Expr} {tc:TT} {body:Sem Unit} {tk:TK} (ht:PT Y c tc) (hb:PTn Y body tk):PTn Y (Yy6 c Y.env body) (Yr1 tc tk):=by
 intro a s d H N I h;refine wpAny_bind (thn (ht a s d H _ I h) fun b s1 ⟨H1,I1,q1⟩=>?_)
 cases b with
 | true =>
  rw[if_pos rfl] at q1 ⊢;exact hb a s1 d H1 N I1 q1
 | false =>
  rw[if_neg Bool.false_ne_true] at q1 ⊢;exact wpAny_pure ⟨d,H1,I1,Wk.refl _,q1⟩
end
def Yd8 (nt:Nat) (ci:List Nat) (wi:TI) (g:TG) (tk:Addr→TK) (o0:HO):TE:=fun σ H Q=>wi σ H fun J H1=>∀ acc,H1 acc=none→∃ W:Nat→Nat→Hp→Prop,(∃ m,W 0 m (upd H1 acc o0))∧Xl1 (capt nt ci σ) J g (tk acc) (fun H2=>Q (.ref acc) H2) W
section
variable {X:Cx} {scope:Scope} {cl:List (Str×Addr)} {N':List Str} {nt:Nat} {ci:List Nat} {pins:List (Addr×Obj)} {σ:St} {H:Hp} {s:Shared}
theorem Yd4 {o0:HO} (B:BlkOk X scope cl N' nt ci) (I:Inv X pins σ H s) {fp:List Addr} (hf:∀ b∈fp,FpOk X pins H b) (ho:∀ b∈fp,∃ o,s.heap.get? b=some o) {C acc:Addr} {h1:Heap} {tk:Nat}
    (hacc:acc=s.heap.objs.size) (hC:C=s.heap.objs.size+1) (k:∀ b u,s.heap.get? b=some u→h1.get? b=some u) (ns:h1.Ns C fun _=>none) (ha:ObjOk X.prog X.w (upd H acc o0) h1 acc o0) :
    Inv (blk X N' scope cl s H C fp) [] (capt nt ci σ) (upd H acc o0) { s with heap:=h1,toks:=tk }:=by
  have hn:H acc=none:=I.hok.fresh (by rw[hacc];exact Nat.le_refl _);have M:H C=none:=I.hok.fresh (by rw[hC];exact Nat.le_succ _)
  have n:∀ x c,cl.lookup x=some c→c < s.heap.objs.size:=fun x c e=>by
    obtain⟨v,q⟩:=I.cell x c (B.sub x c e);exact q.lt
  refine⟨⟨I.ok.mod,B.kind,I.ok.glob,I.ok.blt,?_,fun x y c L f=>I.ok.inj x y c (B.sub _ _ L) (B.sub _ _ f),fun x Y=>B.has x Y,fun x c (z:false=true)=>Bool.noConfusion z,fun hc=>I.ok.hd hc,I.ok.frames,.inl rfl,fun b g=>?_,I.bs,?_,fun b o e g=>?_,fun b g=>?_,I.stack,fun b g=>I.stkFree b g⟩,
    rfl,I.bare,Un.laid (a:=acc) (o:=o0) k (by rw[hacc];exact Nat.le_refl _) hn,⟨_,ns,fun i x v L f e3=>?_⟩,fun x c e=>?_,?_,fun x c e=>?_,fun p Z=>absurd (show p∈([]:List (Addr×Obj)) from Z) (by simp),I.hok.laid k (by rw[hacc];exact Nat.le_refl _) ha,?_⟩
  · show s.heap.objs.size≤C
    rw[hC];exact Nat.le_succ _
  · obtain⟨O,G,F,D,A,N⟩:=hf b g
    obtain⟨o,e⟩:=ho b g;refine⟨?_,fun x c e'=>A x c (B.sub x c e')⟩;show b≠C;rw[hC];exact Nat.ne_of_lt (Nat.lt_succ_of_lt (Heap.lt_size e))
  · exact Nat.le_trans I.ok.bsz I.sz
  · obtain⟨O,G,F,D,A,N⟩:=hf b g
    rcases D with z | z
    · exact I.ok.noex b o e z
    · exact absurd (Nat.lt_of_lt_of_le (Heap.lt_size e) (Nat.le_trans I.ok.bsz z)) (Nat.lt_irrefl _)
  · intro z
    obtain⟨O,G,F,D,A,N⟩:=hf b g;rcases List.mem_cons.mp (I.stkSub b z) with y | y
    · exact G y
    · exact F y
  ·
    obtain⟨m,hm,hl⟩:=I.loc;unfold capt at f
    by_cases hi:i < nt
    · rw[List.getElem?_append_left (by simpa using hi),List.getElem?_replicate] at f
      split at f<;>cases f
    · rw[List.getElem?_append_right (by simpa using hi),List.length_replicate,List.getElem?_map] at f
      cases q:ci[i - nt]? with
      | none=>rw[q] at f;cases f
      | some j =>
        rw[q] at f;have h:(σ[j]?).join=some v:=Option.some.inj f;obtain⟨y,U,a2,T,S⟩:=B.cap _ j q
        have ei:nt+(i - nt)=i:=by omega
        rw[ei,show N'[i]?=some x from L] at U;cases U
        have J:σ[j]?=some (some v):=by
          cases z:σ[j]? with
          | none=>rw[z] at h;cases h
          | some w=>rw[z] at h;exact congrArg some h
        obtain⟨u,r,l⟩:=hl j x v a2 J (.inr (.inl T));refine⟨u,r,.inr ⟨S,?_⟩⟩;rcases l with ⟨W,_⟩ | ⟨_,c,c1,c2⟩
        · have t:X.env.scope.names.lookup x=some .local:=W
          rw[T] at t;cases t
        · obtain⟨c',R⟩:=B.has x S
          have:=B.sub x c' R;rw[c1] at this;cases this;exact⟨c,R,let ⟨o,e,d⟩:=c2;⟨o,k _ _ e,d⟩⟩
  · obtain⟨v,q⟩:=I.cell x c (B.sub x c e)
    exact⟨v,let ⟨o,e,d⟩:=q;⟨o,k _ _ e,d⟩⟩
  · show upd H acc o0 C=none
    rw[Zb1 (by rw[hacc,hC];exact Nat.succ_ne_self _)];exact M
  · have V:=n x c e
    rw[Zb1 (by rw[hacc];exact Nat.ne_of_lt V)];exact I.freeC x c (B.sub x c e)
  · show (capt nt ci σ).length=N'.length
    unfold capt;rw[List.length_append,List.length_replicate,List.length_map,B.len]
theorem Xl6 {e:Expr} {gs:List Comprehension} {ifs:List Expr} {body:Addr→Env→Sem Unit} {newAcc:Sem Value} {ob:Obj} {o0:HO} {p0:Pos} {tk:Addr→TK} {tg iter:Expr} {pos':Pos} {wi:TI} {g:TG} {use:Option (Value→Sem Unit)} {Q:VK} {Qf:Value→Shared→Prop} (B:BlkOk X scope cl N' nt ci) (hc:X.calm=true) (hi:PI X tg iter wi)
  (hg:∀ s H C ex,PG (blk X N' scope cl s H C ex) tg g) (hcl:clausesOf e=⟨tg,iter,ifs,0⟩ :: gs) (hden:∀ acc env,Yt4 X.prog X.w X.A e 0 acc env) (htn:∀ a env,Zt6 e 0 tg p0 (.ref a) env (body a env))
  (hb:∀ s H C ex a,PTn (blk X N' scope cl s H C ex) (body a (blk X N' scope cl s H C ex).env) (tk a)) (hnew:∀ {M:Model} {A:Around} {E:Value→Shared→Prop} {s:Shared} {Q:Value→Shared→Prop},Q (.ref s.heap.objs.size) { s with heap:=s.heap.push ob }→wpAny M A newAcc Q E s)
  (hfree:ob.isFreed=false) (hobj:∀ (H:Hp) (h:Heap) (a:Addr),h.get? a=some ob→sysModules < a→ObjOk X.prog X.w (upd H a o0) h a o0) (hs:∀ x,foldedSetIterable iter X.env x=pure x) (I:Inv X pins σ H s) (h:Yd8 nt ci wi g tk o0 σ H Q)
  (fin:∀ (acc C:Addr) (s':Shared) (H':Hp),Inv X pins σ H' s'→Q (.ref acc) H'→(∃ m,s'.heap.Ns C m)→FpOk X pins H' C→(∃ o,s'.heap.get? C=some o∧∀ v,o.data≠.cell v)→compPost (model X.prog X.w) X.A X.xe use Qf (.ref acc) C (.ok .next) s') :
  wpAny (model X.prog X.w) X.A (comprehension e scope X.env pos' newAcc false (eval iter X.env) use) Qf X.xe s:=by
 refine wpAny_comprehension_free (use:=use) hcl hs B.clos B.kind B.names (thn (hi pins s σ H _ I h) fun v s1 h1=>thn h1 fun q0 f h2=>?_);obtain⟨it,r,tn,J,D,e,j,T,i,t,q2⟩:=h2;subst e;have R:D f.heap.objs.size=none:=j.hok.fresh (Nat.le_refl _);obtain⟨W,⟨m0,w0⟩,hW⟩:=q2 f.heap.objs.size R;refine hnew (wpAny_newFunctionEnv B.cell (by intro y hy;simp at hy) (fun h₁ hns₁ hsb₁=>?_) B.kind);dsimp only at hns₁ hsb₁ ⊢;have n:(f.heap.push ob).objs.size=f.heap.objs.size+1:=Heap.size_push ..;have V:∀ b u,f.heap.get? b=some u→h₁.get? b=some u:=fun b u e=>hsb₁.extBut b u (by rw[n];exact Nat.ne_of_lt (Nat.lt_succ_of_lt (Heap.lt_size e))) (Heap.get?_push_of_some _ (Heap.get?_push_of_some _ e));have a1:h₁.get? f.heap.objs.size=some ob:=hsb₁.extBut _ _ (by rw[n];exact Nat.ne_of_lt (Nat.lt_succ_self _)) (Heap.get?_push_of_some _ (Heap.get?_push_size _ hfree));rw[n] at hns₁ ⊢;have L:sysModules < f.heap.objs.size:=j.big;have I3:=Yd4 (o0:=o0) (tk:=f.toks+([]:List (Str×Value)).length) B j t (fun b hb=>let ⟨o,e,_⟩:=T.obj _ _ i b hb;⟨o,e⟩) rfl rfl V (by simpa using hns₁) (hobj _ _ _ a1 L)
 have O:∀ (H':Hp),(∀ b∈r,H' b=none)→∀ b∈r,FpOk (blk X N' scope cl f D (f.heap.objs.size+1) r) [] H' b:=fun H' hn b hb=>by
  obtain⟨f0,U,f3,f4,S,Z⟩:=t b hb;obtain⟨o,e,_⟩:=T.obj _ _ i b hb;refine⟨hn b hb,?_,fun z=>?_,.inl hb,fun x c e'=>S x c (B.sub x c e'),fun p hp=>absurd (show p∈([]:List (Addr×Obj)) from hp) (by simp)⟩
  ·exact Nat.ne_of_lt (Nat.lt_succ_of_lt (Heap.lt_size e))
  ·rcases List.mem_cons.mp (j.stkSub b z) with y | y
   ·exact U y
   ·exact f3 y
 have N:∀ b∈r,upd D f.heap.objs.size o0 b=none:=fun b hb=>by
  obtain⟨o,e,_⟩:=T.obj _ _ i b hb;rw[Zb1 (Nat.ne_of_lt (Heap.lt_size e))];exact (t b hb).1
 have F:tn 0 h₁:=T.keep _ _ _ i fun b _ o e=>V b o e;have l:codeAny (model X.prog X.w) X.A (.compLoop e 0 (.ref it) (.ref f.heap.objs.size) (compEnvC scope cl (f.heap.objs.size+1) X.env))
   (compPost (model X.prog X.w) X.A X.xe use Qf (.ref f.heap.objs.size) (f.heap.objs.size+1)) { f with heap:=h₁,toks:=f.toks+([]:List (Str×Value)).length }:=by
  refine Ym1 (Y:=blk X N' scope cl f D (f.heap.objs.size+1) r) (Q:=fun H'=>Q (.ref f.heap.objs.size) H') hc rfl (hden _ _) (htn _ _) (hg _ _ _ _) (hb _ _ _ _ _) T O hW (fun s' H' k q=>?_) I3 F N w0;have un:=k.base;have ns:=k.loc;have fC:H' (f.heap.objs.size+1)=none:=k.free
  have I4:Inv X pins σ H' s':=j.call' k.os un k.hok k.bare fun b hb=>by
   obtain⟨f0,U,f3,f4,S,Z⟩:=t b hb;exact⟨f4,U,S,Z⟩
  obtain⟨m,hm,_⟩:=ns;have G:s'.heap.Ns (f.heap.objs.size+1) m:=hm;refine fin _ _ s' H' I4 q ⟨m,G⟩ (j.fpOk (Nat.le_succ _) fC) ?_;obtain⟨o,es,ep,e,d,_⟩:=G;exact⟨o,e,fun v z=>by rw[d] at z;cases z⟩
 exact Zi9 (hden _ _) (by rw[hcl];rfl) rfl l (T.self _ _ _ _ _ F l)
theorem Xx8 {P:Program} {w:World} (H:Hp) (h:Heap) (a:Addr) (e:h.get? a=some { cls:=.type "list",dict:=none,data:=.seq ([]:List Value).toArray }) (_:sysModules < a):ObjOk P w (upd H a (.lst [])) h a (.lst []):=⟨Nat.zero_le _,[],0,.nil,e⟩
theorem We4 {elt tg iter:Expr} {ifs:List Expr} {gs:List Comprehension} {pos p0:Pos} {wi:TI} {g:TG} {tk:Addr→TK} {body:Addr→Env→Sem Unit} (B:X.Ok→BlkOk X scope cl N' nt ci) (hc:X.calm=true) (hi:PI X tg iter wi)
  (hg:∀ s H C ex,PG (blk X N' scope cl s H C ex) tg g) (htn:∀ a env,Zt6 (.ListComp elt (⟨tg,iter,ifs,0⟩ :: gs) scope pos) 0 tg p0 (.ref a) env (body a env))
  (hb:∀ s H C ex a,PTn (blk X N' scope cl s H C ex) (body a (blk X N' scope cl s H C ex).env) (tk a)) (hs:∀ x,foldedSetIterable iter X.env x=pure x:=by intro _;rfl) :
  PE X (.ListComp elt (⟨tg,iter,ifs,0⟩ :: gs) scope pos) (Yd8 nt ci wi g tk (.lst [])):=by
 intro j s w H Q I h;rw[eval_ListComp];refine Xl6 (B I.ok) hc hi hg rfl (fun _ _=>Wn7) htn hb (fun h=>wpAny_newObj_type h) rfl Xx8 hs I h fun d C i v u q c k y=>?_;obtain⟨m,c⟩:=c;obtain⟨t,r,A,p,n,l⟩:=k;exact⟨m,c,fun z f=>⟨.ref d,v,u.turned (t':=i.toks) (fun b o hb e=>(f.2 b hb).trans e) t r p n l,rfl,q⟩⟩
end
open Ken
theorem Yf7 (t:SetTable) (n:Nat):(t.orStandIn n).led=t.led:=by
 unfold SetTable.orStandIn;split<;>rfl
theorem Yz7 (t:SetTable) (es:Array (Int×Value)) (h:Int) (x:Value):(layNew t es h x).2.1.led=t.led:=by
 unfold layNew
 split
 ·show ((t.put _).1.orStandIn _).led=t.led
  rw[Yf7];rfl
 ·rfl
theorem Yz8 {mask finger moves:Nat} {led plain:Bool} {hashes:Array Int} {t:SetTable} {o:Array Nat} (h:SetTable.laid mask finger moves led plain hashes=some (t,o)):t.led=led∧t.plain=plain:=by
 unfold SetTable.laid at h
 cases z:SetTable.layClean mask hashes with
 | none=>rw[z] at h;cases h
 | some ow =>
  rw[z] at h;cases h;exact⟨rfl,rfl⟩
theorem Yj8 (t:SetTable) (es:Array (Int×Value)) (n:Nat):(relayAll t es n).2.1.led=t.led:=by
 unfold relayAll
 split
 ·rename_i t' o e
  have f:=Yz8 (show SetTable.laid _ _ _ t.led t.plain _=some (t',o) from e);dsimp only
  split
  ·exact f.1
  ·rfl
 ·rfl
theorem Zz3 {α β:Type} {F:α→β→Prop} {l l':List α} {m:List β} (p:List.Perm l l') (h:Paired F l m):∃ m',List.Perm m m'∧Paired F l' m':=by
 induction p generalizing m with
 | nil=>cases h;exact⟨[],.nil,.nil⟩
 | cons x _ ih =>
  cases h with
  | cons hx t =>
   obtain⟨m',f,c⟩:=ih t;exact⟨_ :: m',.cons _ f,.cons hx c⟩
 | swap x y l =>
  cases h with
  | cons hx t =>
   cases t with
   | cons hy t=>exact⟨_,.swap _ _ _,.cons hy (.cons hx t)⟩
 | trans _ _ ih1 ih2 =>
  obtain⟨i,e,b⟩:=ih1 h;obtain⟨g,d,a⟩:=ih2 b;exact⟨g,e.trans d,a⟩
noncomputable def Yp1 (w:World):Obj:={ cls:=.type "set",data:=.set #[] 0 (SetTable.fresh 0 0 !(w.params.followText "set-order")) }
section
variable {P:Program} {w:World} {A:Around} {E:Value→Shared→Prop} {s:Shared}
theorem Xx5 {Q:Value→Shared→Prop} (h:Q (.ref s.heap.objs.size) { s with heap:=s.heap.push (Yp1 w) }):wpAny (model P w) A (newSet (.type "set")) Q E s:=by
 unfold newSet;refine wpAny_bind (wpAny_bind (wpAny_askSetting (wpAny_pure ?_)));exact wpAny_newObj_type h (hd:=by show (0:Nat)≤sizeLine;decide)
end
def Zu8 (nt:Nat) (ci:List Nat) (wi:TI) (g:TG) (tk:Addr→TK) (o0:Addr→HO):TE:=fun σ H Q=>wi σ H fun J H1=>∀ acc,H1 acc=none→∃ W:Nat→Nat→Hp→Prop,(∃ m,W 0 m (upd H1 acc (o0 acc)))∧Xl1 (capt nt ci σ) J g (tk acc) (fun H2=>Q (.ref acc) H2) W
section
variable {X:Cx} {scope:Scope} {cl:List (Str×Addr)} {N':List Str} {nt:Nat} {ci:List Nat} {pins:List (Addr×Obj)} {σ:St} {H:Hp} {s:Shared}
theorem Xr8 {e:Expr} {gs:List Comprehension} {ifs:List Expr} {body:Addr→Env→Sem Unit} {newAcc:Sem Value} {ob:Obj} {o0:Addr→HO} {p0:Pos} {tk:Addr→TK} {tg iter:Expr} {pos':Pos} {wi:TI} {g:TG} {use:Option (Value→Sem Unit)} {Q:VK} {Qf:Value→Shared→Prop} (B:BlkOk X scope cl N' nt ci) (hc:X.calm=true) (hi:PI X tg iter wi)
  (hg:∀ s H C ex,PG (blk X N' scope cl s H C ex) tg g) (hcl:clausesOf e=⟨tg,iter,ifs,0⟩ :: gs) (hden:∀ acc env,Yt4 X.prog X.w X.A e 0 acc env) (htn:∀ a env,Zt6 e 0 tg p0 (.ref a) env (body a env))
  (hb:∀ s H C ex a,PTn (blk X N' scope cl s H C ex) (body a (blk X N' scope cl s H C ex).env) (tk a)) (hnew:∀ {A:Around} {E:Value→Shared→Prop} {s:Shared} {Q:Value→Shared→Prop},Q (.ref s.heap.objs.size) { s with heap:=s.heap.push ob }→wpAny (model X.prog X.w) A newAcc Q E s)
  (hfree:ob.isFreed=false) (hobj:∀ (H:Hp) (h:Heap) (a:Addr),h.get? a=some ob→sysModules < a→ObjOk X.prog X.w (upd H a (o0 a)) h a (o0 a)) (hs:∀ x,foldedSetIterable iter X.env x=pure x) (I:Inv X pins σ H s) (h:Zu8 nt ci wi g tk o0 σ H Q)
  (fin:∀ (acc C:Addr) (s':Shared) (H':Hp),Inv X pins σ H' s'→Q (.ref acc) H'→(∃ m,s'.heap.Ns C m)→FpOk X pins H' C→(∃ o,s'.heap.get? C=some o∧∀ v,o.data≠.cell v)→compPost (model X.prog X.w) X.A X.xe use Qf (.ref acc) C (.ok .next) s') :
  wpAny (model X.prog X.w) X.A (comprehension e scope X.env pos' newAcc false (eval iter X.env) use) Qf X.xe s:=by
 refine wpAny_comprehension_free (use:=use) hcl hs B.clos B.kind B.names (thn (hi pins s σ H _ I h) fun v s1 h1=>thn h1 fun q0 f h2=>?_);obtain⟨it,r,tn,J,D,e,j,T,i,t,q2⟩:=h2;subst e;have O:D f.heap.objs.size=none:=j.hok.fresh (Nat.le_refl _);obtain⟨W,⟨m0,w0⟩,hW⟩:=q2 f.heap.objs.size O;refine hnew (wpAny_newFunctionEnv B.cell (by intro y hy;simp at hy) (fun h₁ hns₁ hsb₁=>?_) B.kind);dsimp only at hns₁ hsb₁ ⊢;have n:(f.heap.push ob).objs.size=f.heap.objs.size+1:=Heap.size_push ..;have U:∀ b u,f.heap.get? b=some u→h₁.get? b=some u:=fun b u e=>hsb₁.extBut b u (by rw[n];exact Nat.ne_of_lt (Nat.lt_succ_of_lt (Heap.lt_size e))) (Heap.get?_push_of_some _ (Heap.get?_push_of_some _ e));have a1:h₁.get? f.heap.objs.size=some ob:=hsb₁.extBut _ _ (by rw[n];exact Nat.ne_of_lt (Nat.lt_succ_self _)) (Heap.get?_push_of_some _ (Heap.get?_push_size _ hfree));rw[n] at hns₁ ⊢;have L:sysModules < f.heap.objs.size:=j.big;have I3:=Yd4 (o0:=o0 f.heap.objs.size) (tk:=f.toks+([]:List (Str×Value)).length) B j t (fun b hb=>let ⟨o,e,_⟩:=T.obj _ _ i b hb;⟨o,e⟩) rfl rfl U (by simpa using hns₁) (hobj _ _ _ a1 L)
 have N:∀ (H':Hp),(∀ b∈r,H' b=none)→∀ b∈r,FpOk (blk X N' scope cl f D (f.heap.objs.size+1) r) [] H' b:=fun H' hn b hb=>by
  obtain⟨f0,S,f3,Z,R,V⟩:=t b hb;obtain⟨o,e,_⟩:=T.obj _ _ i b hb;refine⟨hn b hb,?_,fun z=>?_,.inl hb,fun x c e'=>R x c (B.sub x c e'),fun p hp=>absurd (show p∈([]:List (Addr×Obj)) from hp) (by simp)⟩
  ·exact Nat.ne_of_lt (Nat.lt_succ_of_lt (Heap.lt_size e))
  ·rcases List.mem_cons.mp (j.stkSub b z) with y | y
   ·exact S y
   ·exact f3 y
 have M:∀ b∈r,upd D f.heap.objs.size (o0 f.heap.objs.size) b=none:=fun b hb=>by
  obtain⟨o,e,_⟩:=T.obj _ _ i b hb;rw[Zb1 (Nat.ne_of_lt (Heap.lt_size e))];exact (t b hb).1
 have F:tn 0 h₁:=T.keep _ _ _ i fun b _ o e=>U b o e;have l:codeAny (model X.prog X.w) X.A (.compLoop e 0 (.ref it) (.ref f.heap.objs.size) (compEnvC scope cl (f.heap.objs.size+1) X.env))
   (compPost (model X.prog X.w) X.A X.xe use Qf (.ref f.heap.objs.size) (f.heap.objs.size+1)) { f with heap:=h₁,toks:=f.toks+([]:List (Str×Value)).length }:=by
  refine Ym1 (Y:=blk X N' scope cl f D (f.heap.objs.size+1) r) (Q:=fun H'=>Q (.ref f.heap.objs.size) H') hc rfl (hden _ _) (htn _ _) (hg _ _ _ _) (hb _ _ _ _ _) T N hW (fun s' H' k q=>?_) I3 F M w0;have un:=k.base;have ns:=k.loc;have fC:H' (f.heap.objs.size+1)=none:=k.free
  have I4:Inv X pins σ H' s':=j.call' k.os un k.hok k.bare fun b hb=>by
   obtain⟨f0,S,f3,Z,R,V⟩:=t b hb;exact⟨Z,S,R,V⟩
  obtain⟨m,hm,_⟩:=ns;have G:s'.heap.Ns (f.heap.objs.size+1) m:=hm;refine fin _ _ s' H' I4 q ⟨m,G⟩ (j.fpOk (Nat.le_succ _) fC) ?_;obtain⟨o,es,ep,e,d,_⟩:=G;exact⟨o,e,fun v z=>by rw[d] at z;cases z⟩
 exact Zi9 (hden _ _) (by rw[hcl];rfl) rfl l (T.self _ _ _ _ _ F l)
end
end L2
namespace Ken
open PySem L2
end Ken
namespace L2
open PySem PySem.Spec PyProof.Rows
section
variable {X:Cx} {pins:List (Addr×Obj)} {σ:St} {H:Hp} {s:Shared} {a:Addr} {y v:V} {u r:Value} {A:Around} {E:Value→Shared→Prop}
theorem Xk7 {H':Hp} {Q:Unit→Shared→Prop} (hu:A.units < cLine) (I:Inv X pins σ H s) (g:DPut H a y v H') (ry:RelV y u) (rv:RelV v r) (h:∀ s',Inv X pins σ H' s'→Q () s') :
  wpAny (model X.prog X.w) A (dictSet a u r) Q E s:=by
 rcases g with ⟨f,k,e,t,l,x⟩ | ⟨f,k,b,e,t,F,l,x⟩
 ·subst t x
  obtain⟨z,p,J,d,B⟩:=Wn5 I.hok e
  have m:J.length≤sizeLine:=by rw[← d.length];exact z
  have o:(putK f k v).length≤sizeLine:=by have:=Zq9 f k v;omega
  refine wpAny_dictSet_pairs (hsz:=m) (Xh5 ry) B fun C i n=>h _ ?_
  have L:∃ q,C.get? a=some q:=let ⟨q,_,_,j,_⟩:=i;⟨q,j⟩
  exact Xk5 I (by rw[e];exact True.intro) n L (Wk5 o p (d.put k rv) i)
 ·subst t x
  cases (show u=Value.ref b from ry);obtain⟨z,p,G,d,B⟩:=Wn4 I.hok e
  have m:G.length≤sizeLine:=by rw[← Paired.length d];exact z
  have o:(putK f k v).length≤sizeLine:=by have:=Zq9 f k v;omega
  refine wpAny_dictSet_heap (hsz:=m) (knd:=tupleKind (Zf1 X.prog X.w)) hu (Xh2 I.hok F) B fun C i n=>h _ ?_;obtain⟨q,S,T,j,R,O,N,_,M⟩:=i;refine Xk5 I (by rw[e];exact True.intro) n ⟨q,j⟩ ⟨o,p,_,(d.put k F rv).keeps fun c U D=>?_,q,S,T,j,R,O,N,M⟩;rw[Zb1 (Xg1 D e (fun z=>nomatch z))];exact D
end
def kPut (tk tv:TE) (acc:Addr):TK:=fun σ H N=>tk σ H fun y H1=>tv σ H1 fun x H2=>∃ H3,DPut H2 acc y x H3∧N H3
section
variable {Y:Cx}
theorem Xp5 {k v:Expr} {tk tv:TE} {acc:Addr} (hu:Y.A.units < cLine) (hk:PE Y k tk) (hv:PE Y v tv):PTn Y (Xj9 k v acc Y.env) (kPut tk tv acc):=by
 intro a s b H N I h;refine wpAny_bind (thn (hk a s b H _ I h) fun kv s1 ⟨y,H1,I1,r1,h1⟩=>?_);refine wpAny_bind (wpAny_holding (thn (hv a s1 b H1 _ I1 h1) fun vv s2 ⟨x,H2,I2,r2,H3,g,n⟩=>?_));refine wpAny_bind (wpAny_standAt (wpAny_holding ?_));exact Xk7 hu I2 g r1 r2 fun d c=>⟨b,_,c,Wk.refl _,n⟩
end
theorem Ym2 {K:W.Frag} {a:Addr} {xs:List V} {σ0:St} {g:TG} {tk:TK} {Q:Hp→Prop} {H:Hp} (Pv:Nat→Hp→Prop) (h0:Pv 0 H) (hl:∀ i H,i≤xs.length→Pv i H→SqL K H a xs)
  (hs:∀ i x H (N:Hp→Prop),xs[i]?=some x→Pv i H→(∀ H',Pv (i+1) H'→N H')→g x σ0 H fun σ4 H4=>Wk σ0 σ4∧tk σ4 H4 N) (hd:∀ H,Pv xs.length H→Q H) :
  ∃ W:Nat→Nat→Hp→Prop,(∃ m,W 0 m H)∧Xl1 σ0 (Itl K a) g tk Q W:=by
 refine⟨fun i m H=>m=xs.length - i∧i≤xs.length∧Pv i H,⟨xs.length,by simp,Nat.zero_le _,h0⟩,?_⟩;rintro i m H ⟨rfl,c,p⟩;have q:=hl i H c p
 by_cases hlt:i < xs.length
 ·refine .inr ⟨⟨xs,xs[i],q,by simp[hlt]⟩,fun x H' y=>?_⟩
  obtain⟨e,y⟩:=y;subst e;exact hs i x H' _ (y xs q) p fun d b=>⟨xs.length - (i+1),by omega,rfl,hlt,b⟩
 ·have e:i=xs.length:=by omega
  subst e;exact .inl ⟨⟨xs,q,Nat.le_refl _⟩,hd _ p⟩
end L2
namespace Ken
open PySem L2
end Ken
namespace L2
open PySem PySem.Spec PyProof.Rows
def Zx3 (i:Nat) (f:Addr) (t:TE):TE:=fun σ H Q=>σ[i]?=some (some (.ref f))∧t σ H Q
section
variable {X:Cx}
theorem Yv7 {k:Nat} {CX:CXT} {E:XK} {f:Addr} {fd:FuncData} {ps:List Str} {sp:Sp} {ds:List Value} {dvs:List V} {x:Str} {p pos:Pos} {e:Expr} {es:List Expr} {t:TA} {i:Nat} (F:FnOk X.prog X.w X.K X.mg X.base CX k f fd ps sp) (hr:Room k X.A) (hN:X.N[i]?=some x) (hv:Vis X.env.scope x) (hk:W.keepIn X.K (.ref f)=true) (hb:Binds X.K fd ps ds) (hd:Vals dvs ds) (hx:Yn7 CX X E)
  (ha:PA X (e :: es) t) (hdb:(x == ("__debug__":Str))=false:=by decide) (hcd:(x == ("__classdict__":Str))=false:=by decide) (he:starEach (e :: es) X.env=(false,eval e X.env) :: starEach es X.env:=by rfl) (hpl:(backTo pos (starEach es X.env)).any (·.1)=false:=by rfl) :
  PE X (.Call (.Name x p) (e :: es) [] pos) (Zx3 i f (Zx4 sp dvs E t)):=by
 intro a s b H Q I h;obtain⟨g,d⟩:=h;refine wpAny_Call_Name_kw ?_;refine thn (Xf2 (X:=X) (i:=i) hN hv hdb hcd a s b H (fun v c=>v=.ref f∧c=H) I ⟨_,g,rfl,rfl⟩) fun v s0 ⟨y,H0,I0,r0,e1,e2⟩=>?_;subst e1;subst e2;cases (show v=Value.ref f from r0);refine W.callWith_K (h₀:=X.base) I0.ok.mod.kin hk (thn (ha pos a s0 b H0 _ I0 d) fun us s1 ⟨vs,c,I1,r,q⟩=>⟨I1.kIn,?_⟩) he hpl;exact Xs1 F hr hb hd hx I1 r q
end
section
variable {prog:Program} {w:World} {A:Around} {E:Value→Shared→Prop} {s:Shared}
theorem Zx6 {α:Type} {Q:α→Shared→Prop} (hh:A.handled=none) (hE:∀ h' e,(∀ b o,s.heap.get? b=some o→h'.get? b=some o)→(∃ o,h'.get? e=some o∧o.cls=.type "StopIteration")→E (.ref e) { s with heap:=h' }) :
  wpAny (model prog w) A (Builtin.SmallTypes.stopIteration:Sem α) Q E s:=by
 show wpAny _ _ (newExc (Value.type "StopIteration") [] >>= _) _ _ _;refine wpAny_bind ?_;unfold newExc;refine wpAny_bind (wpAny_newObj_type ?_);refine wpAny_bind (wpAny_of_eq (Eq.refl (firstArgMember (Value.type "StopIteration") [])) (wpAny_newObj_type ?_));unfold raiseNew;refine wpAny_bind (wpAny_handled ?_);rw[hh];refine wpAny_throw ?_;exact hE _ _ (fun b o e=>Heap.get?_push_of_some _ (Heap.get?_push_of_some _ e)) ⟨_,Heap.get?_push_size _ rfl,rfl⟩
theorem Zu3 {it l:Addr} {i:Nat} {items:Array Value} {x:Value} {Q:Value→Shared→Prop} (hit:s.heap.IsTupleIter it l i) (hl:s.heap.IsTuple l items) (hx:items[i]?=some x)
  (hQ:∀ h',h'.IsTupleIter it l (i+1)→Heap.SameBut it s.heap h'→Q x { s with heap:=h' }):wpAny (model prog w) A (Builtin.SmallTypes.nextOf (Value.ref it)) Q E s:=by
 obtain⟨o,b,e,a⟩:=id hit;obtain⟨f,c,_,g,d⟩:=hl;show wpAny _ _ (callSpecial? (Value.ref it) (Str.ofString "__next__") >>= _) _ _ _;refine wpAny_bind (wpAny_callSpecial?_slot (Heap.IsTupleIter.typeIs hit) slot_tupleiter_next (wpAny_call_entry slot_tupleiter_next (Heap.IsTupleIter.typeIs hit) entry_tupleiter_next ?_ (args_tupleiter_next (Value.ref it))));show wpAny _ _ (field (Value.ref it) 0 >>= _) _ _ _;refine wpAny_bind (wpAny_field b a rfl ?_);dsimp only;rw[if_neg (show ¬ (#[Value.ref l,Value.int (↑i) 0][0] == Value.none)=true from Bool.false_ne_true)];refine wpAny_bind (wpAny_field b a rfl ?_);show wpAny _ _ (seqItems? (Value.ref l) >>= _) _ _ _;refine wpAny_bind (wpAny_seqItems c d ?_);dsimp only;rw[show items[((i:Int)).toNat]?=some x from hx];refine wpAny_bind (wpAny_setField b a (by simp) (wpAny_pure ⟨x,rfl,wpAny_pure (hQ _ ⟨_,Heap.get?_update_self _ b (Obj.isFreed_of_fields (Obj.data_mapFields a _)),(Obj.cls_mapFields o _).trans e,?_⟩ (Heap.SameBut.update s.heap it _))⟩));rw[Obj.data_mapFields a];rfl
theorem Zw1 {it l:Addr} {i:Nat} {items:Array Value} {Q:Value→Shared→Prop} (hh:A.handled=none) (hit:s.heap.IsTupleIter it l i) (hl:s.heap.IsTuple l items) (hx:items[i]?=none)
  (hE:∀ h' e,Heap.ExtBut it s.heap h'→(∃ o,h'.get? e=some o∧o.cls=.type "StopIteration")→E (.ref e) { s with heap:=h' }):wpAny (model prog w) A (Builtin.SmallTypes.nextOf (Value.ref it)) Q E s:=by
 obtain⟨o,a,q,c⟩:=id hit;obtain⟨n,d,_,p,f⟩:=hl;show wpAny _ _ (callSpecial? (Value.ref it) (Str.ofString "__next__") >>= _) _ _ _;refine wpAny_bind (wpAny_callSpecial?_slot (Heap.IsTupleIter.typeIs hit) slot_tupleiter_next (wpAny_call_entry slot_tupleiter_next (Heap.IsTupleIter.typeIs hit) entry_tupleiter_next ?_ (args_tupleiter_next (Value.ref it))));show wpAny _ _ (field (Value.ref it) 0 >>= _) _ _ _;refine wpAny_bind (wpAny_field a c rfl ?_);dsimp only;rw[if_neg (show ¬ (#[Value.ref l,Value.int (↑i) 0][0] == Value.none)=true from Bool.false_ne_true)];refine wpAny_bind (wpAny_field a c rfl ?_);show wpAny _ _ (seqItems? (Value.ref l) >>= _) _ _ _;refine wpAny_bind (wpAny_seqItems d f ?_);dsimp only;rw[show items[((i:Int)).toNat]?=none from hx];refine wpAny_bind (wpAny_rule (wpAny_bind (wpAny_setField a c (by simp) ?_)));refine Zx6 (A:=A.in1) (by first | exact hh | rfl) fun h' e k g=>?_;exact hE h' e (fun b h j m=>k b h ((Heap.SameBut.update s.heap it _).2 b j |>.trans m)) g
end
open Ken
theorem slot_si_next:Slot "set_iterator" (Str.ofString "__next__") "set_iterator.__next__" :=
 Slot.of (owner:="set_iterator") (n:="__next__") (by rw[typeLookup_type,builtinLookup_eq_fast];rfl) (by decide +kernel) (by decide +kernel) (by decide +kernel) (Or.inl (by decide +kernel)) (by rw[isSubtype_type];rfl) (by decide +kernel)
theorem Yg9:entryFor table "set_iterator.__next__"=some Builtin.«set_iterator.__next__»:=entryFor_of_tree rfl
theorem Yw1:List.lookup (String.ofList ("set_iterator".toList)) Manifest.owners=some Manifest.sig_set_iterator:=rfl
theorem Yn3 (a:Value):argsOk "set_iterator.__next__" { pos:=[a] }:=by
 show (match Manifest.signature? "set_iterator.__next__" with | some sig=>Bind.checkArgs "set_iterator.__next__" sig { pos:=[a] } | none=>pure ())=pure ();rw[signature?_of (id:="set_iterator.__next__") (n:="__next__".toList.reverse) (o:="set_iterator".toList.reverse) rfl Yw1];rfl
theorem Yb6:entryFor table "set.__iter__"=some Builtin.«frozenset.__iter__» :=
 entryFor_alias (id':="frozenset.__iter__") (by rw[fastTable_eq_tree];rfl) (by decide +kernel) (by decide +kernel) (by rw[fastTable_eq_tree];rfl)
theorem Zu9:Slot "set_iterator" (Str.ofString "__iter__") "set_iterator.__iter__" :=
 Slot.of (owner:="set_iterator") (n:="__iter__") (by rw[typeLookup_type,builtinLookup_eq_fast];rfl) (by decide +kernel) (by decide +kernel) (by decide +kernel) (Or.inl (by decide +kernel)) (by rw[isSubtype_type];rfl) (by decide +kernel)
theorem Yh0:entryFor table "set_iterator.__iter__"=some Builtin.«dict_keyiterator.__iter__» :=
 entryFor_alias (id':="dict_keyiterator.__iter__") (by rw[fastTable_eq_tree];rfl) (by decide +kernel) (by decide +kernel) (by rw[fastTable_eq_tree];rfl)
theorem Yn4 (a:Value):argsOk "set_iterator.__iter__" { pos:=[a] }:=by
 show (match Manifest.signature? "set_iterator.__iter__" with | some sig=>Bind.checkArgs "set_iterator.__iter__" sig { pos:=[a] } | none=>pure ())=pure ();rw[signature?_of (id:="set_iterator.__iter__") (n:="__iter__".toList.reverse) (o:="set_iterator".toList.reverse) rfl Yw1];rfl
noncomputable abbrev Zn2 (first:Value) (i:Nat) (a:Addr) (n ep:Nat):Obj:={ cls:=.type "set_iterator",data:=.fields #[first,.int i 0,.ref a,.int n 0,.int ep 0] }
section
variable {P:Program} {w:World} {A:Around} {E:Value→Shared→Prop} {s:Shared}
theorem Wa1 {α:Type} {src:Source} {n:Nat} {k:Nat→Sem α} {Q:α→Shared→Prop} (hn:n≠0) (h:∀ i d,i < n→wpAny (model P w) A (k i) Q E { s with drawn:=d }):wpAny (model P w) A (Sem.choose src n k) Q E s:=by
 intro Γ p hΓ;rw[Sem.wp_choose];exact⟨hn,h _ _ (Nat.mod_lt _ (Nat.pos_of_ne_zero hn)) Γ p hΓ⟩
theorem Zr9 {I a:Addr} {first:Value} {i n ep:Nat} {o:Obj} {es:Array (Int×Value)} {t:SetTable} {Q:Option Value→Shared→Prop} (hI:s.heap.get? I=some (Zn2 first i a es.size ep)) (ha:s.heap.get? a=some o) (hd:o.data=.set es ep t) (hf:t.fits es.size=true)
  (h:wpAny (model P w) A.in1 (match first with
     | Value.int slot tok=>do
      let __do_lift ← setNext a slot.toNat i ep
      match __do_lift with
       | some (x,next)=>do
        setField (.ref I) 0 (rawInt ↑next)
        setField (.ref I) 1 (rawInt (i+1))
        ret x
       | none=>do
        setField (.ref I) 2 Value.none
        Builtin.SmallTypes.stopIteration
     | x=>do
      let __x ← seqItems? first
      match __x with
       | some places =>
        match places[i]? with
        | some (Value.int place tok)=>do
         let x ← setNextDrawn a place.toNat ep
         setField (.ref I) 1 (rawInt (i+1))
         ret x
        | some val=>unsupported "internal:set_iterator"
        | none=>do
         setField (.ref I) 0 (rawInt 0)
         setField (.ref I) 2 Value.none
         Builtin.SmallTypes.stopIteration
       | x=>unsupported "internal:set_iterator")
   (fun fin s'=>∃ v,fin=Fin.done (Flow.ret v)∧Q (some v) s') (fun e s'=>wpAny (model P w) A (isInstance e (Value.type "StopIteration") >>= fun b=>if b=true then pure none else throw e) Q E s') s):wpAny (model P w) A (pyNext (.ref I)) Q E s:=by
 have c:s.TypeIs (.ref I) "set_iterator":=⟨_,hI,rfl⟩;refine wpAny_bind (wpAny_attempt (wpAny_callSpecial?_slot c slot_si_next (wpAny_call_entry slot_si_next c Yg9 ?_ (Yn3 _))));show wpAny _ _ (fieldsOf (.ref I) >>= _) _ _ _;refine wpAny_bind (wpAny_fieldsOf hI rfl ?_);refine wpAny_bind (wpAny_setEntries_of ha hd hf ?_);dsimp only;rw[if_neg (by simp)];refine wpAny_mono h (fun fin s' ⟨v,e,q⟩=>⟨v,e,wpAny_pure q⟩) fun e s' q=>q
theorem Ye6 {I a T:Addr} {i ep:Nat} {o:Obj} {es:Array (Int×Value)} {t:SetTable} {places:List Nat} {pl:Nat} {hx:Int} {x:Value} {Q:Option Value→Shared→Prop} (hI:s.heap.get? I=some (Zn2 (.ref T) i a es.size ep)) (ha:s.heap.get? a=some o) (hd:o.data=.set es ep t) (hf:t.fits es.size=true)
  (hT:s.heap.get? T=some { cls:=.type "tuple",data:=.seq (places.map fun (k:Nat)=>rawInt (k:Int)).toArray }) (hp:places[i]?=some pl) (he:es[pl]?=some (hx,x))
  (hQ:∀ h',h'.get? I=some (Zn2 (.ref T) (i+1) a es.size ep)→Heap.SameBut I s.heap h'→Q (some x) { s with heap:=h' }):wpAny (model P w) A (pyNext (.ref I)) Q E s:=by
 refine Zr9 (n:=es.size) hI ha hd hf ?_;dsimp only;refine wpAny_bind (wpAny_seqItems hT rfl ?_);dsimp only;rw[show (places.map fun (k:Nat)=>rawInt (k:Int)).toArray[i]?=some (rawInt (pl:Int)) from by simp[hp]];unfold rawInt;dsimp only;refine wpAny_bind ?_;unfold setNextDrawn;refine wpAny_bind (wpAny_setState_of ha hd hf ?_);dsimp only;rw[if_neg (by simp),Int.toNat_natCast,he];refine wpAny_pure (wpAny_bind (wpAny_setField_rec hI (by simp) fun h' b c=>wpAny_pure ⟨x,rfl,hQ h' ?_ c⟩));exact b
theorem Yj4 {I a T:Addr} {i ep:Nat} {o:Obj} {es:Array (Int×Value)} {t:SetTable} {places:List Nat} {Q:Option Value→Shared→Prop} (hh:A.handled=none) (hI:s.heap.get? I=some (Zn2 (.ref T) i a es.size ep)) (ha:s.heap.get? a=some o) (hd:o.data=.set es ep t) (hf:t.fits es.size=true)
  (hT:s.heap.get? T=some { cls:=.type "tuple",data:=.seq (places.map fun (k:Nat)=>rawInt (k:Int)).toArray }) (hp:places[i]?=none)
  (hQ:∀ h',Heap.ExtBut I s.heap h'→Q none { s with heap:=h' }):wpAny (model P w) A (pyNext (.ref I)) Q E s:=by
 refine Zr9 (n:=es.size) hI ha hd hf ?_;dsimp only;refine wpAny_bind (wpAny_seqItems hT rfl ?_);dsimp only;rw[show (places.map fun (k:Nat)=>rawInt (k:Int)).toArray[i]?=none from by simp[hp]];dsimp only;refine wpAny_bind (wpAny_setField_rec hI (by simp) fun p g d=>wpAny_bind (wpAny_setField_rec g (by simp) fun m l c=>?_));refine Zx6 (A:=A.in1) hh fun h' e k ⟨oe,he,hc⟩=>wpAny_bind (wpAny_isInstance ⟨oe,he,hc⟩ isSubtype_stop ?_);rw[if_pos rfl];exact wpAny_pure (hQ h' fun b h f j=>k b h ((c.2 b f).trans ((d.2 b f).trans j)))
theorem Yj3 {I a:Addr} {i ep:Nat} {o:Obj} {es:Array (Int×Value)} {t:SetTable} {e:Int×Value} {Q:Option Value→Shared→Prop} (hb:w.params.followText "set-order"=true) (hI:s.heap.get? I=some (Zn2 (.int 0 0) i a es.size ep)) (ha:s.heap.get? a=some o) (hd:o.data=.set es ep t) (hf:t.fits es.size=true)
  (he:(pickOrder (w.params.setOrder a ep) es)[i]?=some e)
  (hQ:∀ h',h'.get? I=some (Zn2 (.int 0 0) (i+1) a es.size ep)→Heap.SameBut I s.heap h'→Q (some e.2) { s with heap:=h' }):wpAny (model P w) A (pyNext (.ref I)) Q E s:=by
 refine Zr9 (n:=es.size) hI ha hd hf ?_;dsimp only;refine wpAny_bind ?_;unfold setNext;refine wpAny_bind (wpAny_setState_of ha hd hf ?_);dsimp only;refine wpAny_bind (wpAny_bind (wpAny_askSetting (wpAny_pure ?_)));rw[if_pos (show (model P w).w.params.followText "set-order"=true from hb),if_neg (by simp)];refine wpAny_bind ?_;unfold setWalk;refine wpAny_bind (wpAny_setState_of ha hd hf ?_);dsimp only;refine wpAny_bind (wpAny_bind (wpAny_askSetting (wpAny_pure ?_)));rw[if_pos (show (model P w).w.params.followText "set-order"=true from hb)];refine wpAny_bind (wpAny_askSetting (wpAny_pure (wpAny_pure ?_)));rw[show (pickOrder ((model P w).w.params.setOrder a ep) es)[i]?=some e from he];dsimp only[Option.map_some];refine wpAny_bind (wpAny_setField_rec hI (by simp) fun h f c=>wpAny_bind (wpAny_setField_rec f (by simp) fun g d b=>wpAny_pure ⟨_,rfl,hQ g ?_ (c.trans b)⟩));exact d
theorem Yp0 {I a:Addr} {i ep:Nat} {o:Obj} {es:Array (Int×Value)} {t:SetTable} {Q:Option Value→Shared→Prop} (hh:A.handled=none) (hb:w.params.followText "set-order"=true) (hI:s.heap.get? I=some (Zn2 (.int 0 0) i a es.size ep)) (ha:s.heap.get? a=some o) (hd:o.data=.set es ep t) (hf:t.fits es.size=true)
  (he:(pickOrder (w.params.setOrder a ep) es)[i]?=none)
  (hQ:∀ h',Heap.ExtBut I s.heap h'→Q none { s with heap:=h' }):wpAny (model P w) A (pyNext (.ref I)) Q E s:=by
 refine Zr9 (n:=es.size) hI ha hd hf ?_;dsimp only;refine wpAny_bind ?_;unfold setNext;refine wpAny_bind (wpAny_setState_of ha hd hf ?_);dsimp only;refine wpAny_bind (wpAny_bind (wpAny_askSetting (wpAny_pure ?_)));rw[if_pos (show (model P w).w.params.followText "set-order"=true from hb),if_neg (by simp)];refine wpAny_bind ?_;unfold setWalk;refine wpAny_bind (wpAny_setState_of ha hd hf ?_);dsimp only;refine wpAny_bind (wpAny_bind (wpAny_askSetting (wpAny_pure ?_)));rw[if_pos (show (model P w).w.params.followText "set-order"=true from hb)];refine wpAny_bind (wpAny_askSetting (wpAny_pure (wpAny_pure ?_)));rw[show (pickOrder ((model P w).w.params.setOrder a ep) es)[i]?=none from he];dsimp only[Option.map_none];refine wpAny_bind (wpAny_setField_rec hI (by simp) fun h g c=>?_);refine Zx6 (A:=A.in1) hh fun h' e k ⟨oe,he,hc⟩=>wpAny_bind (wpAny_isInstance ⟨oe,he,hc⟩ isSubtype_stop ?_);rw[if_pos rfl];exact wpAny_pure (hQ h' fun b d hb f=>k b d ((c.2 b hb).trans f))
theorem Zu1 {α:Type}:∀ (l:List α) (i:Nat) (h:i < l.length),List.Perm (l[i] :: l.eraseIdx i) l
 | [],i,h=>absurd h (by simp)
 | x :: l,0,h=>.refl _
 | x :: l,i+1,h=>by
  have ih:=Zu1 l i (by simpa using h);rw[List.eraseIdx_cons_succ,List.getElem_cons_succ];exact (List.Perm.swap _ _ _).trans (.cons _ ih)
theorem Yc9 {α:Type}:∀ (n:Nat) (xs:List α) {s:Shared} {Q:List α→Shared→Prop},xs.length≤n→(∀ ys d,List.Perm ys xs→Q ys { s with drawn:=d })→wpAny (model P w) A (drawOrder n xs) Q E s
 | 0,xs,s,Q,hn,hQ=>by
  have:xs=[]:=List.length_eq_zero_iff.mp (Nat.le_zero.mp hn);subst this;rw[drawOrder.eq_def];exact wpAny_pure (hQ [] s.drawn .nil)
 | n+1,[],s,Q,hn,hQ=>by
  rw[drawOrder.eq_def];exact wpAny_pure (hQ [] s.drawn .nil)
 | n+1,x :: xs,s,Q,hn,hQ=>by
  rw[drawOrder.eq_def];dsimp only;refine wpAny_bind (Wa1 (by simp) fun i d hi=>wpAny_pure ?_);rw[List.getElem?_eq_getElem hi];dsimp only;refine wpAny_bind (Yc9 n ((x :: xs).eraseIdx i) (by rw[List.length_eraseIdx_of_lt hi];omega) fun ys d' hp=>wpAny_pure (hQ _ _ ?_));exact (List.Perm.cons _ hp).trans (Zu1 _ _ hi)
theorem Zk2 {α:Type} (next:Nat→Nat) (xs:Array α):List.Perm (pickOrder next xs).toList xs.toList:=by
 have c:∀ (f k:Nat) (left:List α) (a:Array α),left.length=f→List.Perm (pickOrder.go next f k left a).toList (a.toList++left):=by
  intro f
  induction f with
  | zero =>
   intro k left a h;rw[List.length_eq_zero_iff.mp h,List.append_nil,pickOrder.go.eq_def]
  | succ f ih =>
   intro k left a h;rw[pickOrder.go.eq_def];dsimp only;have b:next k % left.length < left.length:=Nat.mod_lt _ (by omega);rw[List.getElem?_eq_getElem b];dsimp only;refine (ih (k+1) _ _ (by rw[List.length_eraseIdx_of_lt b];omega)).trans ?_;rw[Array.toList_push,List.append_assoc];exact List.Perm.append_left _ (Zu1 _ _ b)
 unfold pickOrder;have:=c xs.size 0 xs.toList #[] (by simp)
 simpa using this
end
section
variable {P:Program} {w:World} {A:Around} {E:Value→Shared→Prop} {s:Shared}
theorem Ye1:splitId "set.__len__"=some ("set","__len__"):=by decide +kernel
theorem Xq5 {a:Addr} {Q:Bool→Shared→Prop} (hT:s.TypeIs (.ref a) "set") (h:Q false s):wpAny (model P w) A (Builtin.List.listLengthHint (.ref a)) Q E s:=by
 unfold Builtin.List.listLengthHint;refine wpAny_bind (wpAny_specialOf hT F.slot_set_len.lookup ?_);dsimp only;rw[Ye1];dsimp only;refine wpAny_bind (wpAny_isInstance hT sub_set_self ?_);rw[if_neg (by decide)];refine wpAny_ite_split (fun _=>wpAny_bind (wpAny_typeOf hT (wpAny_pure h))) fun b=>absurd (by first | rfl | decide +kernel) b
end
theorem Zl7 (CX:CXT) (P:Program) (w:World) (K:W.Frag) (mg:Str→Option Value) (base:Heap) (N:List Str) (qual:Str) (scope:Scope) (f:Addr) (cd:Value) (A:Around) (outer:List Env) (s:Shared) (H:Hp) (E:XK):(cxOf CX P w K mg base N qual scope f cd A outer s H E).prog=P:=rfl
theorem Yd0 (CX:CXT) (P:Program) (w:World) (K:W.Frag) (mg:Str→Option Value) (base:Heap) (N:List Str) (qual:Str) (scope:Scope) (f:Addr) (cd:Value) (A:Around) (outer:List Env) (s:Shared) (H:Hp) (E:XK):(cxOf CX P w K mg base N qual scope f cd A outer s H E).w=w:=rfl
theorem Zp5 (X:Cx) (N':List Str) (scope:Scope) (cl:List (Str×Addr)) (s:Shared) (H:Hp) (C:Addr) (ex:List Addr):(blk X N' scope cl s H C ex).prog=X.prog:=rfl
theorem Xa9 (X:Cx) (N':List Str) (scope:Scope) (cl:List (Str×Addr)) (s:Shared) (H:Hp) (C:Addr) (ex:List Addr):(blk X N' scope cl s H C ex).w=X.w:=rfl
end L2
namespace Ken
open PySem L2 PyProof.Rows
end Ken
namespace L2
open PySem PySem.Spec PyProof.Rows Ken
noncomputable def ExcO (e:Addr) (C:Value) (dd T:Option Addr):HO:=.ext fun h=>∃ vs sl,h.get? e=some ⟨C,dd,.fields vs,sl⟩∧vs.size=6∧vs[1]?=some (T.elim Value.none Value.ref)
noncomputable def TbO (t:Addr) (fl:Value):HO:=.ext fun h=>∃ c d ts sl,h.get? t=some ⟨c,d,.fields ts,sl⟩∧ts[3]?=some fl
section
variable {P:Program} {w:World} {H:Hp} {h:Heap} {e t:Addr} {C fl:Value} {dd T:Option Addr}
theorem Zr1 (hok:HOk P w H h) (q:H e=some (ExcO e C dd T)):∃ vs sl,h.get? e=some ⟨C,dd,.fields vs,sl⟩∧vs.size=6∧vs[1]?=some (T.elim Value.none Value.ref):=(hok e _ q).1
theorem Xt8 (z:∃ vs sl,h.get? e=some ⟨C,dd,.fields vs,sl⟩∧vs.size=6∧vs[1]?=some (T.elim Value.none Value.ref)):ObjOk P w H h e (ExcO e C dd T) :=
 ⟨z,let ⟨_,_,q,_⟩:=z;⟨_,q⟩,fun _ _ ⟨vs,sl,a,b⟩ k=>⟨vs,sl,k _ a,b⟩⟩
theorem Xd4 (hok:HOk P w H h) (q:H t=some (TbO t fl)):∃ c d ts sl,h.get? t=some ⟨c,d,.fields ts,sl⟩∧ts[3]?=some fl:=(hok t _ q).1
theorem Xo0 (z:∃ c d ts sl,h.get? t=some ⟨c,d,.fields ts,sl⟩∧ts[3]?=some fl):ObjOk P w H h t (TbO t fl) :=
 ⟨z,let ⟨_,_,_,_,q,_⟩:=z;⟨_,q⟩,fun _ _ ⟨c,d,ts,sl,a,b⟩ k=>⟨c,d,ts,sl,k _ a,b⟩⟩
end
def Wa8 (fl:Value) (H:Hp) (e:Addr) (C:Value) (dd T:Option Addr):Prop:=H e=some (ExcO e C dd T)∧∀ t,T=some t→t≠e∧H t=some (TbO t fl)
noncomputable abbrev FlyT:=Wa8 .none
def XStep (e:Addr) (T:Option Addr) (H:Hp) (T':Option Addr) (H':Hp):Prop :=
 (∀ b o,H b=some o→b≠e→T≠some b→H' b=some o)∧∀ t,T'=some t→t≠e∧(T=some t∨H t=none)
theorem XStep.refl {e:Addr} {T:Option Addr} {H:Hp} (h:∀ t,T=some t→t≠e):XStep e T H T H:=⟨fun _ _ q _ _=>q,fun t q=>⟨h t q,.inl q⟩⟩
theorem XStep.trans {e:Addr} {T T' T'':Option Addr} {H H' H'':Hp} (a:XStep e T H T' H') (b:XStep e T' H' T'' H''):XStep e T H T'' H'':=by
 refine⟨fun c o q f d=>b.1 c o (a.1 c o q f d) f fun z=>?_,fun t q=>⟨(b.2 t q).1,?_⟩⟩
 ·rcases (a.2 c z).2 with y | y
  ·exact d y
  ·rw[q] at y;cases y
 ·rcases (b.2 t q).2 with z | z
  ·exact (a.2 t z).2
  ·by_cases hT:T=some t
   ·exact .inl hT
   ·cases e1:H t with
    | none=>exact .inr rfl
    | some o=>rw[a.1 t o e1 (b.2 t q).1 hT] at z;cases z
section
variable {X:Cx} {pins:List (Addr×Obj)} {σ:St} {H:Hp} {s:Shared} {M:Model} {A:Around} {E:Value→Shared→Prop} {e L:Addr} {C:Value} {dd T:Option Addr}
theorem Inv.noted {s':Shared} {t:Addr} {fl:Value} (I:Inv X pins σ H s) (F:FlyT H e C dd T) (hos:s'.os=s.os) (hg:s'.gens=s.gens)
  (hn:s.heap.objs.size≤t)
  (keep:∀ b o,s.heap.get? b=some o→b ∉ frs X.stack→b≠e→T≠some b→s'.heap.get? b=some o)
  (slot:∀ b o,s.heap.get? b=some o→b∈frs X.stack→∃ sl,s'.heap.get? b=some { o with slots:=sl })
  (old:∀ b,T=some b→∃ c d ts sl,s'.heap.get? b=some ⟨c,d,.fields ts,sl⟩∧ts[3]?=some Value.none)
  (exc:∃ vs sl,s'.heap.get? e=some ⟨C,dd,.fields vs,sl⟩∧vs.size=6∧vs[1]?=some (Value.ref t))
  (tb:∃ c d ts sl,s'.heap.get? t=some ⟨c,d,.fields ts,sl⟩∧ts[3]?=some fl) :
  Inv X pins σ (upd (upd H t (TbO t fl)) e (ExcO e C dd (some t))) s':=by
 have i:H t=none:=I.hok.fresh hn;have r:e≠t:=Zb0 F.1 i
 have p:e ∉ frs X.stack:=fun z=>by have:=I.stkFree e z;rw[F.1] at this;cases this
 have f:∀ b o,H b=some o→(∀ φ,o≠.ext φ)→b≠e∧b≠t∧T≠some b:=fun b o q n=>by
  refine⟨fun z=>?_,Zb0 q i,fun z=>?_⟩
  ·subst z;rw[F.1] at q;cases q;exact n _ rfl
  ·have:=(F.2 b z).2;rw[q] at this;cases this;exact n _ rfl
 have h:∀ b o,H b=some o→b≠e→upd (upd H t (TbO t fl)) e (ExcO e C dd (some t)) b=some o:=fun b o q n=>by
  rw[Zb1 n,Zb1 (Zb0 q i)];exact q
 have k:∀ b,H b=none→b≠t→upd (upd H t (TbO t fl)) e (ExcO e C dd (some t)) b=none:=fun b q n=>by
  rw[Zb1 (Zb0 F.1 q).symm,Zb1 n];exact q
 refine I.call' (ch:=[]) hos ⟨fun b o q n g _=>?_,fun b o q n g _=>slot b o q g,fun b o q n _=>k b n (Nat.ne_of_lt (Nat.lt_of_lt_of_le (Heap.lt_size q) hn)),fun b o q _=>?_,fun b m q=>h b _ q (f b _ q fun φ z=>nomatch z).1,fun b o u q=>h b _ q (f b _ q fun φ z=>nomatch z).1,
  fun b v q=>⟨#[],by rw[h b _ q (f b _ q fun φ z=>nomatch z).1];simp⟩⟩ (fun b o q=>?_) (by rw[hg];exact I.bare) (fun b z=>nomatch z)
 ·exact keep b o q g (Zb0 F.1 n).symm fun z=>by have:=(F.2 b z).2;rw[n] at this;cases this
 ·by_cases g:b∈frs X.stack
  ·obtain⟨sl,z⟩:=slot b o q g;exact⟨_,z⟩
  ·by_cases he:b=e
   ·subst he;obtain⟨_,_,z,_⟩:=exc;exact⟨_,z⟩
   ·by_cases hT:T=some b
    ·obtain⟨_,_,_,_,z,_⟩:=old b hT;exact⟨_,z⟩
    ·exact⟨o,keep b o q g he hT⟩
 ·by_cases he:b=e
  ·subst he;rw[Za4] at q;cases q;exact Xt8 exc
  ·rw[Zb1 he] at q
   by_cases ht:b=t
   ·subst ht;rw[Za4] at q;cases q;exact Xo0 tb
   ·rw[Zb1 ht] at q
    by_cases hT:T=some b
    ·have l:=(F.2 b hT).2
     rw[q] at l;cases l;exact Xo0 (old b hT)
    ·refine (I.hok b o q).stay (fun c u a z=>keep c u z ?_ ?_ ?_) (fun c z=>h c _ z (f c _ z fun φ y=>nomatch y).1) fun c m z=>h c _ z (f c _ z fun φ y=>nomatch y).1
     ·intro y
      have j:=I.stkFree c y;rcases a with a | a
      ·subst a;rw[q] at j;cases j
      ·rw[a] at j;cases j
     ·rcases a with a | a
      ·rw[a];exact he
      ·exact (f c _ a fun φ y=>nomatch y).1
     ·rcases a with a | a
      ·rw[a];exact hT
      ·exact (f c _ a fun φ y=>nomatch y).2.2
theorem Yx7 {head:Value} {hadNext:Bool} {Q:Unit→Shared→Prop} (I:Inv X pins σ H s) (F:FlyT H e C dd T) (hA:A.frames=some X.stack) (hst:X.stack=X.env :: X.outer) (hf:X.env.frame=some L)
  (h:∀ s' t,H t=none→Inv X pins σ (upd (upd H t (TbO t (rawInt L))) e (ExcO e C dd (some t))) s'→Q () s') :
  wpAny M A (do let a ← frameOf X.env;let pl ← entryPlaceOf L hadNext;let b ← EntryCells.newEntry head a .none (rawInt L) .none pl;setField (.ref e) 1 b) Q E s:=by
 obtain⟨n,p,D,m,G⟩:=Zr1 I.hok F.1
 have l:e ∉ frs X.stack:=fun z=>by have:=I.stkFree e z;rw[F.1] at this;cases this
 have w:=I.stack;rw[hst] at w hA;refine wpAny_bind (wpAny_frameOf_fun hA w hf fun h₁ hs₁=>?_);refine wpAny_bind (wpAny_entryPlaceOf fun pl r=>?_);unfold EntryCells.newEntry newFields;refine wpAny_bind (wpAny_newObj_type ?_ (r.sizeOk5 _ _ _ _ _));have i:∀ b,b ∉ frs X.stack→h₁.get? b=s.heap.get? b:=fun b f=>hs₁.2.1 b (by rw[hst] at f;exact f);have he₁:h₁.get? e=some ⟨C,dd,.fields n,p⟩:=(i e l).trans D;have he₂:=Heap.get?_push_of_some (h:=h₁) { cls:=.type "traceback",dict:=none,data:=.fields ([head,.ref L,.none,rawInt L,.none]++(if pl.isEmpty then List.replicate 6 Value.none else pl)).toArray } he₁;refine wpAny_setField he₂ rfl (by rw[m];decide) ?_;have v:h₁.objs.size≠e:=Nat.ne_of_gt (Heap.lt_size he₁);have k:s.heap.objs.size≤h₁.objs.size:=Nat.le_of_eq hs₁.1.symm;refine h _ h₁.objs.size (I.hok.fresh k) (Inv.noted I F rfl rfl k (fun b o q f u j=>?_) (fun b o q f=>?_) (fun b j=>?_) ?_ ?_)
 ·show (Heap.update _ e _).get? b=some o
  rw[Heap.get?_update_other _ _ (Ne.symm u)];exact Heap.get?_push_of_some _ ((i b f).trans q)
 ·obtain⟨g,z⟩:=hs₁.2.2 b o q
  refine⟨g,?_⟩;show (Heap.update _ e _).get? b=_;rw[Heap.get?_update_other _ _ (fun y=>l (by rw[y];exact f))];exact Heap.get?_push_of_some _ z
 ·obtain⟨c,d,B,g,z,x⟩:=Xd4 I.hok (F.2 b j).2
  have f:b ∉ frs X.stack:=fun y=>by have:=I.stkFree b y;rw[(F.2 b j).2] at this;cases this
  refine⟨c,d,B,g,?_,x⟩;show (Heap.update _ e _).get? b=_;rw[Heap.get?_update_other _ _ (Ne.symm (F.2 b j).1)];exact Heap.get?_push_of_some _ ((i b f).trans z)
 ·refine⟨n.setIfInBounds 1 (.ref h₁.objs.size),p,?_,by simp[m],by simp[m]⟩
  show (Heap.update _ e _).get? e=_;rw[Heap.get?_update_self _ he₂ rfl];rfl
 ·exact⟨_,_,_,_,(Heap.get?_update_other _ _ (Ne.symm v)).trans (Heap.get?_push_size h₁ rfl),by simp⟩
theorem Xf9 {Q:Unit→Shared→Prop} (I:Inv X pins σ H s) (F:FlyT H e C dd T) (hA:A.frames=some X.stack) (hst:X.stack=X.env :: X.outer) (hf:X.env.frame=some L)
  (h:∀ s' H' t,Inv X pins σ H' s'→Wa8 (rawInt L) H' e C dd (some t)→XStep e T H (some t) H'→Q () s'):wpAny M A (noteFrame (.ref e) X.env) Q E s:=by
 obtain⟨y,B,r,G,v⟩:=Zr1 I.hok F.1
 have f:∀ s' t,H t=none→Inv X pins σ (upd (upd H t (TbO t (rawInt L))) e (ExcO e C dd (some t))) s'→Q () s':=fun s' t j J=>by
  have a:e≠t:=Zb0 F.1 j;refine h s' _ t J ⟨Za4,fun u q=>?_⟩ ⟨fun b o q p D=>?_,fun u q=>?_⟩
  ·cases q;exact⟨a.symm,by rw[Zb1 a.symm,Za4]⟩
  ·rw[Zb1 p,Zb1 (Zb0 q j)];exact q
  ·cases q;exact⟨a.symm,.inr j⟩
 unfold noteFrame;simp only[hf];refine wpAny_bind (wpAny_field r rfl v ?_)
 cases hT:T with
 | none =>
  subst hT;rw[if_neg (by decide)];exact Yx7 I F hA hst hf f
 | some t =>
  subst hT;obtain⟨w,i⟩:=F.2 t rfl;obtain⟨c,d,m,k,z,g⟩:=Xd4 I.hok i;rw[if_pos (show ((Option.some t).elim Value.none Value.ref != Value.none)=true from by simp)];refine wpAny_bind (wpAny_field z rfl g ?_);rw[if_neg (by simp[rawInt])];refine wpAny_bind (wpAny_setField z rfl (Array.getElem?_eq_some_iff.mp g).1 ?_);refine Yx7 (T:=some t) ?_ F hA hst hf f;have l:=I.write (o:=TbO t .none) (h':=s.heap.update t (Obj.mapFields (·.setIfInBounds 3 .none))) (x:=t) (e:=t) (t':=s.toks) (by rw[i];trivial) (.inl rfl) (fun b u n q=>by rw[Heap.get?_update_other _ _ (Ne.symm n)];exact q)
   ⟨_,Heap.get?_update_self _ z rfl⟩ (Xo0 ⟨c,d,m.setIfInBounds 3 .none,k,by rw[Heap.get?_update_self _ z rfl];rfl,by simp[(Array.getElem?_eq_some_iff.mp g).1]⟩)
  have:upd H t (TbO t .none)=H:=by
   funext b
   by_cases hb:b=t
   ·subst hb;rw[Za4,i]
   ·rw[Zb1 hb]
  rw[this] at l;exact l
theorem Yr0 {Q:Unit→Shared→Prop} {fl:Value} (I:Inv X pins σ H s) (F:Wa8 fl H e C dd T)
  (h:∀ s' H',Inv X pins σ H' s'→FlyT H' e C dd T→XStep e T H T H'→Q () s'):wpAny M A (setFlight (.ref e) none) Q E s:=by
 obtain⟨r,v,l,B,m⟩:=Zr1 I.hok F.1;unfold setFlight;refine wpAny_bind (wpAny_field l rfl m ?_)
 cases hT:T with
 | none =>
  subst hT;rw[if_neg (by decide)];exact wpAny_pure (h s H I ⟨F.1,fun t q=>nomatch q⟩ (XStep.refl fun t q=>nomatch q))
 | some t =>
  subst hT;obtain⟨a,i⟩:=F.2 t rfl;obtain⟨c,d,j,g,z,f⟩:=Xd4 I.hok i;rw[if_pos (show ((Option.some t).elim Value.none Value.ref != Value.none)=true from by simp)];refine wpAny_setField z rfl (Array.getElem?_eq_some_iff.mp f).1 ?_;have p:=I.write (o:=TbO t .none) (h':=s.heap.update t (Obj.mapFields (·.setIfInBounds 3 .none))) (x:=t) (e:=t) (t':=s.toks) (by rw[i];trivial) (.inl rfl) (fun b u n q=>by rw[Heap.get?_update_other _ _ (Ne.symm n)];exact q)
   ⟨_,Heap.get?_update_self _ z rfl⟩ (Xo0 ⟨c,d,j.setIfInBounds 3 .none,g,by rw[Heap.get?_update_self _ z rfl];rfl,by simp[(Array.getElem?_eq_some_iff.mp f).1]⟩)
  refine h _ _ p ⟨by rw[Zb1 (Ne.symm a)];exact F.1,fun u q=>?_⟩ ⟨fun b o q w k=>?_,fun u q=>?_⟩
  ·cases q;exact⟨a,Za4⟩
  ·rw[Zb1 (fun y=>k (by rw[y]))];exact q
  ·cases q;exact⟨a,.inl rfl⟩
end
noncomputable def CXe (P:Program) (w:World):CXT:=fun outer H s E e s'=>∃ ea C dd T H',e=.ref ea∧s'.os=s.os∧AllBare s'.gens∧Un (frs outer) [] H H' s.heap s'.heap∧HOk P w H' s'.heap∧FlyT H' ea C dd T ∧
 ∀ T'' H'',XStep ea T H' T'' H''→FlyT H'' ea C dd T''→E (.ref ea) dd H''
def XOk (X:Cx) (E:XK):Prop:=∀ (pins:List (Addr×Obj)) (σ:St) (H:Hp) (s:Shared) (ea:Addr) (C:Value) (dd T:Option Addr),Inv X pins σ H s→FlyT H ea C dd T →
 (∀ T'' H'',XStep ea T H T'' H''→FlyT H'' ea C dd T''→E (.ref ea) dd H'')→X.xe (.ref ea) s
theorem Xq0 {X:Cx} {pins:List (Addr×Obj)} {σ:St} {H:Hp} {s:Shared} {M:Model} {A:Around} {E:Value→Shared→Prop} {e L:Addr} {C:Value} {dd T:Option Addr} {Q:Unit→Shared→Prop}
  (I:Inv X pins σ H s) (F:FlyT H e C dd T) (hA:A.frames=some X.stack) (hst:X.stack=X.env :: X.outer) (hf:X.env.frame=some L)
  (h:∀ s' H' T',Inv X pins σ H' s'→FlyT H' e C dd T'→XStep e T H T' H'→Q () s'):wpAny M A (leaving X.env (.ref e)) Q E s:=by
 unfold leaving;exact wpAny_bind (Xf9 I F hA hst hf fun k l t f j c=>Yr0 f j fun a g d i b=>h a g _ d i (c.trans b))
theorem Yt5 {P:Program} {w:World} {K:W.Frag} {mg:Str→Option Value} {base:Heap} {N:List Str} {qual:Str} {scope:Scope} {f:Addr} {cd:Value} {A:Around} {outer:List Env} {s:Shared} {H:Hp} {E:XK} :
  XOk (cxOf (CXe P w) P w K mg base N qual scope f cd A outer s H E) E:=by
 intro d m p o e C g T I F h;refine Xq0 (X:=cxOf (CXe P w) P w K mg base N qual scope f cd A outer s H E) (L:=s.heap.objs.size) I F I.ok.frames rfl rfl fun n k i a l j=>?_;exact⟨e,C,g,i,k,rfl,a.os,a.bare,a.base,a.hok,l,fun b c S F=>h b c (j.trans S) F⟩
noncomputable abbrev bmV:List Value:=[.type "ValueError",.type "Exception",.type "BaseException",.type "object"]
def IsXC (h:Heap) (C:Addr) (bm:List Value) (mN:Str→Option Value):Prop:=∃ nm q N bs hdct sn sub ab col dd k0 k1 k2 k3 k5,h.get? C=some (excClassObj nm q C N bs bm hdct sn sub ab col dd k0 k1 k2 k3 k5 "ValueError.__new__")∧h.Ns N mN∧OwnTail h bmV bm
def XCls (K:W.Frag) (C:Addr):Prop:=∀ h,K.In h→∃ bm mN,IsXC h C bm mN∧mN "__init__"=none
theorem IsXC.keeps {h h':Heap} {C:Addr} {bm:List Value} {mN:Str→Option Value} (x:IsXC h C bm mN) (k:∀ b o,h.get? b=some o→h'.get? b=some o):IsXC h' C bm mN :=
 let ⟨nm,q,N,bs,hdct,sn,sub,ab,col,dd,k0,k1,k2,k3,k5,a,b,c⟩:=x
 ⟨nm,q,N,bs,hdct,sn,sub,ab,col,dd,k0,k1,k2,k3,k5,k _ _ a,b.keeps k,c.keeps k⟩
section
variable {P:Program} {w:World} {H:Hp} {h h':Heap} {a:Addr} {o:HO}
theorem ObjOk.obj (x:ObjOk P w H h a o):∃ ob,h.get? a=some ob:=by
 cases o with
 | lst xs=>obtain⟨_,_,_,_,e⟩:=x;exact⟨_,e⟩
 | tup xs=>obtain⟨_,_,_,o,e,_⟩:=x;exact⟨_,e⟩
 | dK kvs=>obtain⟨_,_,_,_,o,_,_,e,_⟩:=x;exact⟨_,e⟩
 | dT kvs=>obtain⟨_,_,_,_,o,_,_,e,_⟩:=x;exact⟨_,e⟩
 | set S n=>obtain⟨o,_,_,_,e,_⟩:=x;exact⟨_,e⟩
 | ins C dx fs=>obtain⟨_,_,_,e,_⟩:=x;exact⟨_,e⟩
 | own y=>exact x
 | xd fs=>obtain⟨_,⟨_,_,_,e,_⟩,_⟩:=x;exact⟨_,e⟩
 | rng lo hi=>obtain⟨_,_,_,e⟩:=x;exact⟨_,e⟩
 | frz ob u=>obtain⟨e,_⟩:=x;exact⟨_,e⟩
 | tbl ps=>exact⟨_,x⟩
 | met f y=>exact⟨_,x⟩
 | ext φ=>exact x.2.1
theorem HOk.newAt (x:HOk P w H h) (n:h.get? a=none):H a=none:=by
 cases q:H a with
 | none=>rfl
 | some u =>
  obtain⟨b,z⟩:=(x a u q).obj;rw[n] at z;cases z
theorem Inv.laidN {X:Cx} {pins:List (Addr×Obj)} {σ:St} {s:Shared} {t':Nat} (I:Inv X pins σ H s) (k:∀ b u,s.heap.get? b=some u→h'.get? b=some u) (hn:s.heap.get? a=none) (new:ObjOk X.prog X.w (upd H a o) h' a o) :
  Inv X pins σ (upd H a o) { s with heap:=h',toks:=t' }:=by
 have f:=I.hok.newAt hn
 have d:∀ b u,H b=some u→upd H a o b=some u:=fun b u q=>by rw[Zb1 (Zb0 q f)];exact q
 refine I.un ⟨fun b u q _ _ _=>k b u q,fun b u q _ _ _=>⟨u.slots,k b u q⟩,fun b u q n _=>?_,fun b u q _=>⟨u,k b u q⟩,fun b e q=>d _ _ q,fun b u e q=>d _ _ q,fun b g q=>⟨#[],by rw[d _ _ q];simp⟩⟩ fun b u q=>?_
 ·rw[Zb1 (fun z=>by subst z;rw[hn] at q;cases q)];exact n
 ·by_cases hb:b=a
  ·subst hb;rw[Za4] at q;cases q;exact new
  ·rw[Zb1 hb] at q
   exact (I.hok b u q).stay (fun c v _ z=>k c v z) (fun c z=>d _ _ z) fun c e z=>d _ _ z
end
theorem IsXC.base {h:Heap} {C:Addr} {bm:List Value} {mN:Str→Option Value} (x:IsXC h C bm mN):bm.contains (.type "BaseException")=true :=
 let ⟨_,_,_,_,_,_,_,_,_,_,_,_,_,_,_,_,_,c⟩:=x
 c.hasType rfl
theorem Xu5 {K:W.Frag} {C N:Addr} {nm q:Str} {bs bm:List Value} {hdct:Bool} {sn:List Str} {sub:List Value} {ab:Bool} {col:Option Bool} {dd:Option Addr} {k0 k1 k2 k3 k5:Option Value}
  (l:K.lookup C=some (excClassObj nm q C N bs bm hdct sn sub ab col dd k0 k1 k2 k3 k5 "ValueError.__new__")) (t:W.tailIn K bmV bm=true) (n:W.nsOkIn K N=true) (i:W.nsIn K N "__init__"=some none):XCls K C:=fun h X =>
 ⟨bm,h.nsMap N,⟨nm,q,N,bs,hdct,sn,sub,ab,col,dd,k0,k1,k2,k3,k5,X _ _ l,.of_isNs (W.isNs_of_in X n),W.tail_of_in X t⟩,W.nsMap_none_of_in X n i⟩
def Xtd (H:Hp) (e:Addr) (C:Value) (dd:Option Addr) (H':Hp):Prop:=H e=none∧Same H H'∧∃ T,FlyT H' e C dd T
theorem Xtd.step {G H H':Hp} {e:Addr} {C:Value} {dd T T':Option Addr} (n:G e=none) (nt:∀ t,T=some t→G t=none) (s:Same G H) (S:XStep e T H T' H') (F:FlyT H' e C dd T'):Xtd G e C dd H' :=
 ⟨n,fun b o q=>S.1 b o (s b o q) (Zb0 q n) (fun z=>by rw[nt b z] at q;cases q),T',F⟩
def Yi3 (E:XK) (C:Addr) (t:TA):TS:=fun _ σ H=>t σ H fun vs H1=>vs.length≤sizeLine∧∀ e H',Xtd H1 e (.ref C) none H'→E (.ref e) none H'
section
variable {X:Cx} {E:XK} {x:Str} {C:Addr} {np cpos pos:Pos} {e:Expr} {es:List Expr} {t:TA}
theorem Yv4 (hx:XOk X E) (hc:X.calm=true) (hg:Gl X x) (hm:X.mg x=some (.ref C)) (hC:XCls X.K C) (ha:PA X (e :: es) t) (hdb:(x == ("__debug__":Str))=false:=by decide)
  (hs:starEach (e :: es) X.env=(false,eval e X.env) :: starEach es X.env:=by rfl) (hpl:(backTo cpos (starEach es X.env)).any (·.1)=false:=by rfl) :
  PS X (.Raise (some (.Call (.Name x np) (e :: es) [] cpos)) none pos) (Yi3 E C t):=by
 intro a s f H D I h;obtain⟨bm,mN,j,g⟩:=hC X.base I.ok.mod.kin;obtain⟨nm,q,N,bs,hdct,sn,sub,ab,col,dd,k0,k1,k2,k3,k5,u,p,n⟩:=id j;refine wpAny_Raise_call_subT F.excBase_ValueError (C:=C) (nm:=nm) (q:=q) (N:=N) (bs:=bs) (bm:=bm) (hdct:=hdct) (sn:=sn) (sub:=sub) (ab:=ab) (col:=col) (dd:=dd) (k0:=k0) (k1:=k1) (k2:=k2) (k3:=k3) (k5:=k5) (mN:=mN)
  j.base (I.ok.hd hc) (by rw[hs];exact hpl) g (Zn9 I hg hm ⟨rfl,?_⟩ hdb)
 rw[hs];refine PySem.Calls.evalArgs_plain ?_;have c:=ha cpos a s f H _ I h;rw[hs] at c;refine thn c fun us s1 ⟨vs,H1,I1,r,hl,q1⟩=>⟨rfl,by rw[← r.length];exact hl,I1.bk _ _ u,p.keeps I1.bk,n.keeps I1.bk,fun A d m=>?_⟩;obtain⟨w,l,_,y⟩:=m.there;have J:=I1.laidN (o:=ExcO d (.ref C) none none) (t':=s1.toks) m.keeps m.new (Xt8 ⟨_,_,l,rfl,rfl⟩);have i:=I1.hok.newAt m.new;refine hx a f _ _ d (.ref C) none none J ⟨Za4,fun t q=>nomatch q⟩ fun v k S F=>q1 d k ?_;exact Xtd.step (T:=none) i (fun t z=>nomatch z) (fun b o q=>by rw[Zb1 (Zb0 q i)];exact q) S F
end
noncomputable abbrev Cx.hand (X:Cx) (ea:Addr):Cx:={ X with A:=X.A.mark (some (.ref ea)),calm:=false,xe:=fun _ _=>False }
section
variable {X:Cx} {pins:List (Addr×Obj)} {σ:St} {H:Hp} {s:Shared} {ea:Addr}
theorem Inv.hand (I:Inv X pins σ H s) (ea:Addr):Inv (X.hand ea) pins σ H s :=
 ⟨⟨I.ok.mod,I.ok.kind,I.ok.glob,I.ok.blt,I.ok.above,I.ok.inj,I.ok.has,I.ok.cab,(fun z=>nomatch z),I.ok.frames,I.ok.stk,I.ok.exf,I.ok.bs,I.ok.bsz,I.ok.noex,I.ok.exfs,I.ok.funs,I.ok.frf⟩,I.os,I.bare,I.base,I.loc,I.cell,I.free,I.freeC,I.pin,I.hok,I.len⟩
theorem Inv.unhand (hd:X.calm=true→X.A.handled=none) (I:Inv (X.hand ea) pins σ H s):Inv X pins σ H s :=
 ⟨⟨I.ok.mod,I.ok.kind,I.ok.glob,I.ok.blt,I.ok.above,I.ok.inj,I.ok.has,I.ok.cab,hd,I.ok.frames,I.ok.stk,I.ok.exf,I.ok.bs,I.ok.bsz,I.ok.noex,I.ok.exfs,I.ok.funs,I.ok.frf⟩,I.os,I.bare,I.base,I.loc,I.cell,I.free,I.freeC,I.pin,I.hok,I.len⟩
theorem Xb9 {M:Model} {A:Around} {E:Value→Shared→Prop} {i:Nat} {x:Str} {v:V} {pos:Pos} {Q:Unit→Shared→Prop} (I:Inv X pins σ H s) (hN:X.N.Nodup) (hi:X.N[i]?=some x) (hx:X.env.scope.names.lookup x=some .local) (hv:σ[i]?=some (some v))
  (h:∀ s',Inv X pins (σ.set i none) H s'→Q () s'):wpAny M A (unbindBehindTheSuite X.env x pos) Q E s:=by
 obtain⟨m,hn,G⟩:=id I.loc;obtain⟨u,ru,W⟩:=G i x v hi hv (.inl hx)
 have hm:m x=some u:=by
  rcases W with ⟨_,z⟩ | ⟨z,_⟩
  ·exact z
  ·have f:X.env.kindOf x=some .local:=hx
   rw[f] at z;rcases z with z | z<;>cases z
 unfold unbindBehindTheSuite;refine wpAny_onRaise (wpAny_mono (wpAny_unbindName_local (E:=fun _ _=>False) hx hn hm (by rw[I.ok.kind];rfl) fun h' u' F hs=>?_) (fun _ _ q=>q) fun _ _ z=>False.elim z);refine h _ ?_;have a:∀ b o,b≠X.env.locals→s.heap.get? b=some o→h'.get? b=some o:=fun b o n q=>(hs.2 b n).trans q;have g:∀ b o,X.s₀.heap.get? b=some o→b≠X.env.locals:=fun b o e=>Nat.ne_of_lt (Nat.lt_of_lt_of_le (Heap.lt_size e) I.ok.above)
 have r:∀ b o,H b=some o→b≠X.env.locals:=fun b o e z=>by rw[z,I.free] at e;cases e
 refine⟨I.ok,I.os,I.bare,⟨fun b o e n C hx=>a b o (g b o e) (I.base.keep b o e n C hx),fun b o e n C hx=>?_,I.base.free,fun b o e hx=>?_,I.base.tups,I.base.frzs,I.base.tbls⟩,⟨_,F,fun j y w k l e3=>?_⟩,fun y c e=>?_,I.free,I.freeC,fun p hp=>?_,fun b o e=>?_,by rw[List.length_set];exact I.len⟩
 ·obtain⟨O,z⟩:=I.base.slot b o e n C hx
  exact⟨O,a b _ (g b o e) z⟩
 ·obtain⟨S,z⟩:=I.base.there b o e hx
  exact⟨S,a b _ (g b o e) z⟩
 ·have J:j≠i:=fun z=>by
   subst z;rw[List.getElem?_set_self (by rw[I.len];exact (List.getElem?_eq_some_iff.mp k).1)] at l;cases l
  rw[List.getElem?_set_ne (Ne.symm J)] at l;obtain⟨L,R,Y⟩:=G j y w k l e3;have Z:y≠x:=fun z=>J (Yg0 hN (by rw[← z];exact k) hi);refine⟨L,R,?_⟩;rcases Y with ⟨d,f⟩ | ⟨d,c,f,o,B,t⟩
  ·exact .inl ⟨d,(if_neg Z).trans f⟩
  ·exact .inr ⟨d,c,f,o,a c o (I.cne y c f) B,t⟩
 ·obtain⟨w,o,B,t⟩:=I.cell y c e
  exact⟨w,o,a c o (I.cne y c e) B,t⟩
 ·obtain⟨k,U,D,T,d1⟩:=I.pin p hp
  exact⟨a _ _ D k,U,D,T,d1⟩
 ·refine (I.hok b o e).stay (fun c w hc z=>a c w ?_ z) (fun _ z=>z) fun _ _ z=>z
  rcases hc with d | d
  ·rw[d];exact r b o e
  ·exact r c _ d
end
def Fell (X:Cx) (pins:List (Addr×Obj)) (σ:St) (E:XK) (x:Value) (s':Shared):Prop:=∃ ea C dd T H',x=.ref ea∧Inv X pins σ H' s'∧FlyT H' ea C dd T∧∀ T'' H'',XStep ea T H' T'' H''→FlyT H'' ea C dd T''→E (.ref ea) dd H''
def PX (X:Cx) (e:Expr) (t:XK→TE):Prop:=∀ (pins:List (Addr×Obj)) (s:Shared) (σ:St) (H:Hp) (Q:VK) (E:XK),Inv X pins σ H s→t E σ H Q→wpAny (model X.prog X.w) X.A (eval e X.env) (EP X pins σ Q) (Fell X pins σ E) s
section
variable {X:Cx} {k:Nat} {f:Addr} {fd:FuncData} {ps:List Str} {sp:Sp} {dvs:List V} {ds:List Value} {x:Str} {p pos:Pos} {e:Expr} {es:List Expr} {t:TA}
theorem Xw0 (F:FnOk X.prog X.w X.K X.mg X.base (CXe X.prog X.w) k f fd ps sp) (hr:Room k X.A) (hg:Gl X x) (hm:X.mg x=some (.ref f)) (hk:W.keepIn X.K (.ref f)=true) (hb:Binds X.K fd ps ds) (hd:Vals dvs ds)
  (ha:PA X.nox (e :: es) t) (hdb:(x == ("__debug__":Str))=false:=by decide) (he:starEach (e :: es) X.env=(false,eval e X.env) :: starEach es X.env:=by rfl) (hpl:(backTo pos (starEach es X.env)).any (·.1)=false:=by rfl) :
  PX X (.Call (.Name x p) (e :: es) [] pos) (fun E=>Zx4 sp dvs E t):=by
 intro d s i H Q E I h;refine wpAny_Call_Name_kw (Zn9 I hg hm ?_ hdb);refine W.callWith_K (h₀:=X.base) I.ok.mod.kin hk (wpAny_mono (ha pos d s i H _ (I.wish _) h) (fun us s1 ⟨vs,H1,I1',r,q⟩=>⟨I1'.unwish.kIn,?_⟩) fun _ _ z=>False.elim z) he hpl;have c:=I1'.unwish;have g:Vals (vs++dvs) (us++ds):=r.append hd
 have m:(us++ds).length=ps.length:=by rw[← g.length];exact F.len _ _ _ _ q
 refine wpAny_call (codeAny_mono (F.run X.A X.stack s1 H1 ⟨us,[]⟩ (us++ds) (vs++dvs) Q E hr c.env0 (hb s1 us c.kIn m) g q) fun r y a=>?_)
 cases r with
 | error e =>
  obtain⟨n,C,o,T,v,rfl,l,hg,j,hk,F,q⟩:=a;exact⟨n,C,o,T,v,rfl,c.call' (ch:=[]) l j hk hg (fun b z=>nomatch z),F,q⟩
 | ok fl =>
  cases fl with
  | ret u=>exact c.after a
  | next=>exact False.elim a
  | brk=>exact False.elim a
  | cont=>exact False.elim a
end
def Zm7 (C:Addr) (i:Nat) (ts:TS) (D:Ends) (σ:St):XK:=fun e dd H'=>∃ ea T,e=.ref ea∧FlyT H' ea (.ref C) dd T ∧
 ts { nx:=fun σ' H''=>D.nx (σ'.set i none) H'',rt:=D.rt,bk:=fun σ' H''=>D.bk (σ'.set i none) H'',ct:=fun σ' H''=>D.ct (σ'.set i none) H'' } (σ.set i (some (.ref ea))) H'
theorem Xz5 {P:Program} {w:World} {H:Hp} {h:Heap} {e:Addr} {C C':Value} {dd dd' T T':Option Addr} (hok:HOk P w H h) (a:FlyT H e C dd T) (b:FlyT H e C' dd' T'):C=C':=by
 obtain⟨_,_,z,_⟩:=Zr1 hok a.1;obtain⟨_,_,y,_⟩:=Zr1 hok b.1;rw[z] at y;injection y with y;injection y
section
variable {X:Cx} {pins:List (Addr×Obj)} {σ:St} {H:Hp} {s:Shared} {ea L C:Addr} {dd T:Option Addr} {D:Ends} {c n:Str} {cp hpos:Pos} {b₀:Stmt} {suite:List Stmt} {i:Nat} {ts:TS} {bm:List Value} {mN:Str→Option Value} {x:Value}
theorem Xl7 (hc:X.calm=true) (hst:X.stack=X.env :: X.outer) (hf:X.env.frame=some L) (hg:Gl X c) (hm:X.mg c=some (.ref C)) (hC:IsXC X.base C bm mN) (hN:X.N.Nodup) (hi:X.N[i]?=some n) (hx:X.env.scope.names.lookup n=some .local)
  (hs:∀ ea,PSs (X.hand ea) (b₀ :: suite) ts) (Fl:Fell X pins σ (Zm7 C i ts D σ) x s) (hdb:(c == ("__debug__":Str))=false:=by decide) :
  wpAny (model X.prog X.w) X.A (noteFrame x X.env) (fun _ s₂=>wpAny (model X.prog X.w) X.A (setFlight x none) (fun _ s₃=>wpAny (model X.prog X.w) X.A (handleBy x X.env [.ExceptHandler (some (.Name c cp)) (some n) (b₀ :: suite) hpos]) (SP X pins D) X.xe s₃) X.xe s₂) X.xe s:=by
 obtain⟨ea,C',dd,T,H',rfl,I,Fy,q⟩:=Fl;have hd:=I.ok.hd;refine Xf9 I Fy I.ok.frames hst hf fun s1 H1 t1 I1 F1 O=>Yr0 I1 F1 fun Z H2 o t M=>?_;refine wpAny_handleBy_cons (codeAny_handlers_test (Zn9 (X:=X.hand ea) (o.hand ea) hg hm ?_ hdb)) (fun z=>nomatch z);obtain⟨G,T',B,V,F⟩:=q _ H2 (O.trans M) t;cases B;obtain rfl:C'=Value.ref C:=Xz5 o.hok t V;obtain⟨nm,qn,N,bs,q0,sn,q1,ab,q4,q2,k0,k1,k2,k3,k5,c1,c2,c3⟩:=(hC.keeps o.bk);obtain⟨vs,sl,he,_⟩:=Zr1 o.hok t.1;obtain⟨hh,g,d,tk,os⟩:=Z;refine wpAny_excMatches_sub_self c1 he rfl hC.base (codeAny_handlers_suite_as ?_);refine Yr0 (o.hand ea) t fun s3 S I3 U S3=>?_;obtain⟨G,T',B,V,F⟩:=q _ S ((O.trans M).trans S3) U;cases B;refine Zl8 (X:=X.hand ea) I3 hN hi (.inl hx) (v:=.ref ea) rfl (fun Y I4=>?_) (.inr hx);refine wpAny_mono (hs ea pins Y _ S _ I4 F) (fun f s5 p=>?_) fun _ _ z=>False.elim z
 have m:∀ {a:St} {l:Hp} {Q:Flow→Shared→Prop},Inv (X.hand ea) pins a l s5→(∀ e,Inv X pins (a.set i none) l e→Q f e)→wpAny (model X.prog X.w) X.A (do bindName X.env n .none;unbindBehindTheSuite X.env n hpos) (fun _ e=>Q f e) X.xe s5:=by
  intro a l Q J k;refine wpAny_bind (wpAny_bindName (Zl8 (J.unhand hd) hN hi (.inl hx) (v:=.non) rfl (fun e h=>?_) (.inr hx)))
  have y:i < a.length:=by rw[J.len];exact (List.getElem?_eq_some_iff.mp hi).1
  refine Xb9 h hN hi hx (by rw[List.getElem?_set_self y]) fun W R=>k W ?_;rw[List.set_set] at R;exact R
 cases f with
 | next=>obtain⟨a,l,J,j⟩:=p;exact m (Q:=SP X pins D) J fun e h=>⟨_,_,h,j⟩
 | brk=>obtain⟨a,l,J,j⟩:=p;exact m (Q:=SP X pins D) J fun e h=>⟨_,_,h,j⟩
 | cont=>obtain⟨a,l,J,j⟩:=p;exact m (Q:=SP X pins D) J fun e h=>⟨_,_,h,j⟩
 | ret u=>obtain⟨v,a,l,J,r,j⟩:=p;exact m (Q:=SP X pins D) J fun e h=>⟨v,_,_,h,r,j⟩
end
def Yi1 (te:XK→TE) (C:Addr) (i:Nat) (ts:TS):TS:=fun D σ H=>te (Zm7 C i ts D σ) σ H fun v H1=>D.nx σ H1
def XC (K:W.Frag) (C:Addr):Prop:=∀ h,K.In h→∃ bm mN,IsXC h C bm mN
theorem XCls.xc {K:W.Frag} {C:Addr} (x:XCls K C):XC K C:=fun h X=>let ⟨bm,mN,a,_⟩:=x h X;⟨bm,mN,a⟩
section
variable {X:Cx} {C:Addr} {c n x:Str} {cp hpos pos apos xp:Pos} {b₀:Stmt} {suite:List Stmt} {i j:Nat} {ts:TS} {e:Expr} {te:XK→TE} {L:Addr}
theorem Xp3 (hc:X.calm=true) (hst:X.stack=X.env :: X.outer) (hf:X.env.frame=some X.env.locals) (hg:Gl X c) (hm:X.mg c=some (.ref C)) (hC:XC X.K C) (hN:X.N.Nodup) (hi:X.N[i]?=some n) (hx:X.env.scope.names.lookup n=some .local)
  (he:PX X e te) (hs:∀ ea,PSs (X.hand ea) (b₀ :: suite) ts) (hw:swapsWith e none apos.line X.env=pure false:=by rfl) (hdb:(c == ("__debug__":Str))=false:=by decide) :
  PS X (.Try [.Expr e apos] [.ExceptHandler (some (.Name c cp)) (some n) (b₀ :: suite) hpos] [] [] pos) (Yi1 te C i ts):=by
 intro a s d H D I h;obtain⟨l,k,g⟩:=hC X.base I.ok.mod.kin;exact wpAny_Try_except (wpAny_execs_cons (wpAny_Expr_any (wpAny_mono (he a s d H _ _ I h) (fun v f ⟨y,H1,I1,r1,q1⟩=>wpAny_execs_nil (wpAny_execs_nil ⟨_,H1,I1,q1⟩)) fun y f j=>Xl7 hc hst hf hg hm g hN hi hx hs j hdb) I.quiet hw))
end
open PySem.W
section
variable {prog:Program} {w:World} {A:Around} {E:Value→Shared→Prop} {s:Shared} {K:W.Frag} {x C:Addr} {ox:Obj} {od:Option Obj} {nm:Str} {tk:Tok}
structure XGet (K:W.Frag) (C:Addr):Prop where
 ga:findIn K (.ref C) "__getattribute__"=some (some (.builtin "BaseException.__getattribute__"))
 gt:findIn K (.ref C) "__getattr__"=some none
 mb:mroIn K C (.type "BaseException")=some true
theorem Xb6 {R:Result→Shared→Prop} (X:K.In s.heap) (I:W.InstAt s.heap x ox C od) (G:XGet K C)
  (h:wpAny (model prog w) A.in1 (Builtin.«object.__getattribute__» ⟨[.ref x,.str nm tk],[]⟩) (fun fin s'=>match fin with | .done (.ret v)=>R (.ok (.ret v)) s' | _=>False) (fun _ _=>False) s) :
  codeAny (model prog w) A (.call (.builtin "BaseException.__getattribute__") ⟨[.ref x,.str nm tk],[]⟩) R s:=by
 refine codeAny_call_builtin PySem.F.attrBase_ValueError.ga.plain PySem.F.entry_bexc_ga ?_
 have e:builtinKind "BaseException.__getattribute__"=some .slot:=by decide +kernel
 have a:splitId "BaseException.__getattribute__"=some ("BaseException","__getattribute__"):=by decide +kernel
 have f:=PySem.F.args_bexc_ga (.ref x) (.str nm tk);obtain⟨b,g,d,t,c⟩:=s;have k:=I.type (M:=model prog w);have j:=looks_mroIn (M:=model prog w) X G.mb;have i:Looks (model prog w) b (isInstance (.ref x) (.type "BaseException")) true:=k.andThen j;simp only[checkBuiltinCall,e,a];refine wpAny_bind (i.at ?_);simp only[Bool.not_true,Bool.false_eq_true,if_false];refine wpAny_mono (Q:=fun _ s'=>s'=⟨b,g,d,t,c⟩) (E:=fun _ _=>False) ?_ (fun _ s' z=>?_) fun _ _ z=>False.elim z
 ·have:=f
  repeat (any_goals (first | assumption | rfl | wp_step))
 ·subst z
  refine wpAny_mono h (fun fin s' z=>?_) fun _ _ z=>False.elim z
  rcases fin with (_ | _ | _ | _) | _<;>first | exact z | exact False.elim z
theorem Xu3 {fill expr:Bool} {Q:Value→Shared→Prop} (X:K.In s.heap) (I:W.InstAt s.heap x ox C od) (G:XGet K C)
  (h:wpAny (model prog w) A.in1 (Builtin.«object.__getattribute__» ⟨[.ref x,.str nm tk],[]⟩) (fun fin s'=>match fin with | .done (.ret v)=>wpAny (model prog w) A (handedOut v) Q E s' | _=>False) (fun _ _=>False) s) :
  wpAny (model prog w) A (getAttrBy (.ref x) (.str nm tk) fill expr) Q E s:=by
 obtain⟨f,g,d,t,e⟩:=s;have c:=I.type (M:=model prog w);have b:=looks_findIn (M:=model prog w) X G.ga;have a:=looks_findIn (M:=model prog w) X G.gt;unfold getAttrBy;refine wpAny_holding (wpAny_bind (c.at (wpAny_bind (b.at ?_))));dsimp only;rw[if_neg (by rw[show (Value.builtin "BaseException.__getattribute__" == Value.builtin "object.__getattribute__")=false from by decide];simp)];unfold getAttrByItsOwn hookBefore;rw[if_pos (show onTheHeap (.ref C)=true from rfl)];refine wpAny_bind (a.at (wpAny_bind (wpAny_attempt (wpAny_holding ?_))));unfold callGetattribute boundAndCalled;rw[if_neg (by cases expr<;>decide)];refine wpAny_bind (wpAny_of_eq (PySem.F.attrBase_ValueError.ga.bind (.ref x)) ?_);refine wpAny_call (Xb6 X I G (wpAny_mono h (fun fin s' z=>?_) fun _ _ z=>z))
 rcases fin with (_ | _ | _ | _) | _<;>first | exact z | exact False.elim z
theorem Yx9 {Q:Option Value→Shared→Prop} (X:K.In s.heap) (I:W.InstAt s.heap x ox C od) (G:XGet K C) (hf:findObj K C od "__class__"=some (.bind (.builtin "getset_descriptor.__get__") (.builtin "object.__class__"))) (hm:mroIn K C (.type "object")=some true)
  (h:Q (some (.ref C)) { s with toks:=s.toks+1 }):wpAny (model prog w) A (getAttr? (.ref x) "__class__") Q E s:=by
 obtain⟨b,g,d,t,a⟩:=s;unfold getAttr? getAttrBy?;refine wpAny_bind (wpAny_mkText (wpAny_bind (wpAny_attempt (Xu3 (s:=⟨b,g,d,t+1,a⟩) X I G ?_))));have e:=I.type (M:=model prog w);have c:=looks_find (M:=model prog w) X I hf;unfold Builtin.«object.__getattribute__»;refine wpAny_bind (wpAny_pure (wpAny_bind (wpAny_pure (wpAny_bind (e.at (wpAny_bind (c.at ?_)))))));dsimp only;unfold Builtin.ObjectAttr.bindTo;refine wpAny_bind (wpAny_holding (wpAny_call (class_get (s:=⟨b,g,d,t+1,a⟩) (ox:=ox) (od:=od) X I hm ?_)));exact wpAny_pure (handed_on rfl (wpAny_pure h))
end
structure XIsi (K:W.Frag) (C:Addr):Prop extends XGet K C where
 cls:(clsIn K C).isSome=true
 ca:findIn K (.ref C) "__class__"=some (some (.builtin "object.__class__"))
 mo:mroIn K C (.type "object")=some true
theorem Yt9:pureOf (fastBuiltinType "object.__class__")=some (.type "getset_descriptor"):=by kernel_rfl
theorem Xo5 (K:W.Frag):specialIn K (.builtin "object.__class__") "__get__"=some (some (.builtin "getset_descriptor.__get__")):=by
 show (pureOf (fastBuiltinType "object.__class__")).bind _=_;rw[Yt9];show fastLookup "getset_descriptor" "__get__"=_
 kernel_rfl
theorem Xn9 (K:W.Frag):takesIn K (.builtin "object.__class__")=some true:=by
 have e:specialIn K (.builtin "object.__class__") "__set__"=some (some (.builtin "getset_descriptor.__set__")):=by
  show (pureOf (fastBuiltinType "object.__class__")).bind _=_;rw[Yt9];show fastLookup "getset_descriptor" "__set__"=_
  kernel_rfl
 unfold takesIn;rw[e]
def XObj (x C:Addr) (h:Heap):Prop:=∃ ox od,W.InstAt h x ox C od
theorem Yg6 {K:W.Frag} {x C:Addr} (Z:XIsi K C):KitX K (.ref x) (.ref C) (XObj x C):=by
 obtain⟨cd,hcd⟩:=Option.isSome_iff_exists.mp Z.cls
 have hl:∃ c d sl,K.lookup C=some ⟨c,d,.cls cd,sl⟩:=by
  unfold clsIn at hcd
  split at hcd
  ·rename_i q;cases hcd;exact⟨_,_,_,q⟩
  ·cases hcd
 obtain⟨c,d,sl,hl⟩:=hl;refine⟨fun M h _ ⟨_,_,I⟩=>I.type,fun M h X _ A Q E s k q=>?_,fun h tp dd its n sl' X htp=>?_,fun {prog w A E Q s} X ⟨ox,od,I⟩ k=>Yx9 X I Z.toXGet ?_ Z.mo k⟩
 ·unfold isType loadHead
  exact wpAny_bind (wpAny_loadPart (k _ _ (X _ _ hl)) (wpAny_pure q))
 ·refine Bool.eq_false_iff.mpr fun q=>?_
  have e:C=tp:=Value.ref.inj (beq_iff_eq.mp q);subst e;have z:=(X _ _ hl).symm.trans htp;cases z
 ·unfold findObj
  rw[hcd,Option.bind_some,Z.ca,Option.bind_some];simp[Xo5 K,Xn9 K]
def Xn2 (H:Hp) (dd:Option Addr):Prop:=∀ d,dd=some d→∃ fs,H d=some (.xd fs)
theorem Yn8 {P:Program} {w:World} {H:Hp} {h:Heap} {e C:Addr} {dd T:Option Addr} (hok:HOk P w H h) (F:H e=some (ExcO e (.ref C) dd T)) (D:Xn2 H dd):XObj e C h:=by
 obtain⟨a,b,z,_⟩:=Zr1 hok F
 cases dd with
 | none=>exact⟨_,none,z,rfl,rfl,trivial⟩
 | some d =>
  obtain⟨c,q⟩:=D d rfl;obtain⟨o,y⟩:=(hok d _ q).obj;exact⟨_,some o,z,rfl,rfl,y⟩
def Yk0 (K:W.Frag):List V→Hp→VK→Prop:=fun xs H Q=>∃ e C dd T C' b,xs=[.ref e,.ref C']∧H e=some (ExcO e (.ref C) dd T)∧Xn2 H dd∧XIsi K C∧kitOne K (.ref C) (.ref C')=some b∧Q (.bl b) H
def Yk1 (K:W.Frag):List V→Hp→VK→Prop:=fun xs H Q=>∃ e C dd T n b,xs=[.ref e,.ty n]∧H e=some (ExcO e (.ref C) dd T)∧Xn2 H dd∧XIsi K C∧kitOne K (.ref C) (.type n)=some b∧Q (.bl b) H
def Yj9 (K:W.Frag):List V→Hp→VK→Prop:=fun xs H Q=>∃ e C dd T t,∃ (cs:List Addr) (b:Bool),xs=[.ref e,.ref t]∧H e=some (ExcO e (.ref C) dd T)∧Xn2 H dd∧XIsi K C∧H t=some (.tup (cs.map V.ref))∧kitAny K (.ref C) (cs.map Value.ref)=some b∧Q (.bl b) H
theorem Yt6:∀ {cs:List Addr} {us:List Value},Vals (cs.map V.ref) us→us=cs.map Value.ref
 | [],_,.nil=>rfl
 | _ :: _,_,.cons r t=>by rw[Yt6 t];cases (show _=Value.ref _ from r);rfl
section
variable {X:Cx}
theorem Xm0:Zr4 X (.builtin "isinstance") (Yk0 X.K):=by
 intro g s m H n o Q I r h;obtain⟨e,C,p,T,l,b,rfl,j,k,Z,i,q⟩:=h;obtain⟨u,c,rfl,d,f⟩:=Yy1 r;cases (show u=Value.ref e from d);cases (show c=Value.ref l from f);exact W.kia_one (Yg6 Z) I.kIn (Yn8 I.hok j k) i (fun z=>nomatch z) fun a=>⟨.bl b,H,I.tok a,rfl,q⟩
theorem Xm1:Zr4 X (.builtin "isinstance") (Yk1 X.K):=by
 intro g s m H n o Q I r h;obtain⟨e,C,p,T,l,b,rfl,j,k,Z,i,q⟩:=h;obtain⟨u,c,rfl,d,f⟩:=Yy1 r;cases (show u=Value.ref e from d);cases (show c=Value.type l from f);exact W.kia_one (Yg6 Z) I.kIn (Yn8 I.hok j k) i (fun z=>nomatch z) fun a=>⟨.bl b,H,I.tok a,rfl,q⟩
theorem Xl9:Zr4 X (.builtin "isinstance") (Yj9 X.K):=by
 intro l s F H G J Q I r h;obtain⟨e,C,N,T,t,y,b,rfl,v,x,Z,m,p,q⟩:=h;obtain⟨u,c,rfl,i,k⟩:=Yy1 r;cases (show u=Value.ref e from i);cases (show c=Value.ref t from k);obtain⟨_,D,j,o,f,d,n,a⟩:=(show ObjOk X.prog X.w H s.heap t (.tup (y.map V.ref)) from I.hok t _ m);obtain⟨M,L,B,A⟩:=o;dsimp only at d a;subst d a;rw[Yt6 j] at f;exact W.kia_tup (Yg6 Z) I.kIn (Yn8 I.hok v x) f p (fun z=>nomatch z) fun g=>⟨.bl b,H,I.tok g,rfl,q⟩
end
section
variable {X:Cx}
theorem Yz3 (X:Cx):X.nox.K=X.K:=rfl
theorem Zu5 (CX:CXT) (P:Program) (w:World) (K:W.Frag) (mg:Str→Option Value) (base:Heap) (N:List Str) (qual:Str) (scope:Scope) (f:Addr) (cd:Value) (A:Around) (outer:List Env) (s:Shared) (H:Hp) (E:XK):(cxOf CX P w K mg base N qual scope f cd A outer s H E).K=K:=rfl
end
end L2
namespace Ken
open PySem
theorem Ya9:bootBuiltins "ValueError"=some (.type "ValueError"):=PyProof.Rows.Boot.«ValueError»
end Ken
namespace L2
open PySem PySem.Spec PyProof.Rows PySem.W
open Ken
section
variable {X:Cx}
def tFi (te:TE) (t:TF):TF:=fun out σ H Q=>te σ H fun v H1=>∃ i:Int,v=.int i∧i.natAbs.log2 < 1920∧(out++Str.ofString (toString i)).length≤sizeLine∧t (out++Str.ofString (toString i)) σ H1 Q
theorem Xw4 {e:Expr} {te:TE} {pos:Pos} {es:List Expr} {t:TF} (he:PE X e te) (h:PF X es t) (hs:evalEach (.FormattedValue e (-1) none pos :: es) X.env=eval (.FormattedValue e (-1) none pos) X.env :: evalEach es X.env:=by rfl):PF X (.FormattedValue e (-1) none pos :: es) (tFi te t):=by
 intro g a s b H Q I f;rw[hs];refine joinParts_cons (FormattedValue_plain (thn (he a s b H _ I f) fun v s1 ⟨x,H1,I1,r1,q1⟩=>?_));obtain⟨i,rfl,d,c,q⟩:=q1;obtain⟨j,rfl⟩:=r1;exact wpAny_formatField_int d ⟨c,h _ a _ b H1 Q (I1.tok _) q⟩
end
section
variable {X:Cx} {K:W.Frag}
theorem Xa6 (hK:X.K=K):Zr4 X (.builtin "isinstance") (Yk0 K):=hK▸Xm0
theorem Xa7 (hK:X.K=K):Zr4 X (.builtin "isinstance") (Yk1 K):=hK▸Xm1
theorem Yd3 (hK:X.K=K):Zr4 X (.builtin "isinstance") (Yj9 K):=hK▸Xl9
theorem Xx4 {N:Addr} {c:Value} {d:Option Addr} {es:Array DictEntry} {ep:Nat} {sl:Array (Option Value)} (l:K.lookup N=some ⟨c,d,.dict es ep,sl⟩) (h:(es.toList.all fun e=>match e.key with | .str _ _=>true | _=>false)=true):W.nsOkIn K N=true:=by
 unfold W.nsOkIn;rw[l];show (es.all _)=true;rw[← Array.all_toList];exact h
theorem Xo2 {B N:Addr} {nm q:Str} {bs bm:List Value} {hdct:Bool} {sn:List Str} {sub:List Value} {ab:Bool} {col:Option Bool} {dd:Option Addr} {k0 k1 k2 k3 k5:Option Value} {nw:String}
  (l:K.lookup B=some (excClassObj nm q B N bs bm hdct sn sub ab col dd k0 k1 k2 k3 k5 nw)) (hn:W.nsOkIn K N=true) (hi:W.nsIn K N "__init__"=some none):W.tailIn K bmV (.ref B :: bmV)=true:=by
 rw[W.tailIn.eq_2,l];unfold excClassObj;dsimp only;rw[hn,hi,show W.tailIn K bmV bmV=true by rw[W.tailIn.eq_def];rfl];exact Bool.or_true _
theorem Xr7 {C:Addr} (h:W.hasDictIn K C=true):(W.clsIn K C).isSome=true:=by
 unfold W.hasDictIn at h
 cases e:W.clsIn K C with
 | none=>rw[e] at h;cases h
 | some _=>rfl
end
theorem Yc6 {α:Type} {x:Str}:∀ {l:List (Str×α)},(∀ v,(x,v) ∉ l)→l.lookup x=none
 | [],_=>rfl
 | (y,v) :: l,h=>by
  have hy:x≠y:=fun e=>h v (by rw[e];exact List.mem_cons_self);rw[List.lookup_cons,show (x == y)=false from by simpa using hy];exact Yc6 fun v hv=>h v (List.mem_cons_of_mem _ hv)
theorem Zp7:∀ {ps:List Str} {us:List Value} {i:Nat} {x:Str} {u:Value},ps.Nodup→ps[i]?=some x→us[i]?=some u→(ps.zip us).reverse.lookup x=some u
 | [],_,_,_,_,_,h,_=>by simp at h
 | _ :: _,[],_,_,_,_,_,h=>by simp at h
 | p :: ps,w :: us,0,x,u,nd,h1,h2=>by
  simp at h1 h2;subst h1;subst h2;rw[List.zip_cons_cons,List.reverse_cons,List.lookup_append,Yc6 (fun v hv=>(List.nodup_cons.mp nd).1 (List.of_mem_zip (List.mem_reverse.mp hv)).1)];simp
 | p :: ps,w :: us,i+1,x,u,nd,h1,h2=>by
  have ih:=Zp7 (List.nodup_cons.mp nd).2 (show ps[i]?=some x by simpa using h1) (show us[i]?=some u by simpa using h2);rw[List.zip_cons_cons,List.reverse_cons,List.lookup_append,ih];rfl
structure FnScopeC (N ps fv:List Str) (sc:Scope):Prop where
 kind:sc.kind=.function
 co:sc.isCoroutine=false
 gen:sc.isGenerator=false
 nd:N.Nodup
 pre:N.take (ps++fv).length=ps++fv
 par:∀ x∈ps,sc.names.lookup x=some .local
 fr:∀ x∈fv,sc.names.lookup x=some .free
 nocell:∀ y∈sc.names,y.2≠.cell
structure Caught (K:W.Frag) (sc:Scope) (cl:List (Str×Addr)) (fv:List Str) (frv:List V):Prop where
 len:frv.length=fv.length
 cell:∀ (i:Nat) (x:Str) (v:V),fv[i]?=some x→frv[i]?=some v→∃ c o u,cl.lookup x=some c∧K.lookup c=some o∧o.data=.cell (some u)∧RelV v u
 all:∀ x c,cl.lookup x=some c→∃ o v,K.lookup c=some o∧o.data=.cell v
 inj:∀ x y c,cl.lookup x=some c→cl.lookup y=some c→x=y
 has:∀ x,sc.names.lookup x=some .free→∃ c,cl.lookup x=some c
noncomputable def cxC (CX:CXT) (P:Program) (w:World) (K:W.Frag) (mg:Str→Option Value) (base:Heap) (N:List Str) (qual:Str) (scope:Scope) (f:Addr) (cd:Value) (cl:List (Str×Addr)) (A:Around) (outer:List Env) (s:Shared) (H:Hp) (E:XK):Cx where
 prog:=P
 w:=w
 K:=K
 mg:=mg
 base:=base
 A:=A.deeper (W.envX qual scope s.heap.objs.size f cd cl)
 N:=N
 s₀:=s
 H₀:=H
 env:=W.envX qual scope s.heap.objs.size f cd cl
 outer:=outer
 stack:=W.envX qual scope s.heap.objs.size f cd cl :: outer
 ex:=[]
 calm:=true
 fn:=fun _=>false
 pn:=[]
 xe:=fun e s'=>wpAny (model P w) (A.deeper (W.envX qual scope s.heap.objs.size f cd cl)) (leaving (W.envX qual scope s.heap.objs.size f cd cl) e) (fun _ s''=>CX outer H s E e s'') (fun e' s''=>CX outer H s E e' s'') s'
theorem Xa1 {CX:CXT} {P:Program} {w:World} {K:W.Frag} {mg:Str→Option Value} {base:Heap} {N ps fv:List Str} {qual:Str} {scope:Scope} {f:Addr} {cd:Value} {cl:List (Str×Addr)} {A:Around} {outer:List Env} {s:Shared} {H:Hp} {E:XK} {us:List Value} {vs frv:List V} {h1:Heap} {tk:Nat}
  (S:FnScopeC N ps fv scope) (C:Caught K scope cl fv frv) (hd:A.handled=none) (e0:Env0 P w K mg base A outer s H) (hl:vs.length=ps.length) (r:Vals vs us)
  (ns:h1.Ns s.heap.objs.size fun x=>(ps.zip us).reverse.lookup x) (hk:∀ b o,s.heap.get? b=some o→h1.get? b=some o) :
  Inv (cxC CX P w K mg base N qual scope f cd cl A outer s H E) [] (start N (vs++frv)) H { s with heap:=h1,toks:=tk }:=by
 have J:(ps++fv).length≤N.length:=by have:=congrArg List.length S.pre;rw[List.length_take] at this;omega
 have k:∀ b:Addr,b ∉ (cxC CX P w K mg base N qual scope f cd cl A outer s H E).ex:=fun b z=>absurd (show b∈([]:List Addr) from z) (by simp)
 have G:(vs++frv).length=(ps++fv).length:=by rw[List.length_append,List.length_append,hl,C.len]
 have l:∀ c o,K.lookup c=some o→s.heap.get? c=some o∧H c=none:=fun c o e=>e0.bs c o (e0.mod.kin c o e)
 refine⟨⟨e0.mod,S.kind,rfl,rfl,Nat.le_refl _,C.inj,fun y j=>?_,fun y c z _=>(nomatch (show false=true from z)),fun _=>hd,Around.frames_deeper e0.frames,.inr ⟨rfl,rfl⟩,fun b z=>absurd z (k b),e0.bs,e0.bsz,fun b _ _=>k b,fun b z=>absurd z (k b),e0.funs,e0.frf⟩,
  rfl,e0.bare,Un.kept hk,⟨_,ns,fun i y v h1 d L=>?_⟩,fun y c h=>?_,e0.hok.fresh (Nat.le_refl _),fun y c h=>?_,fun p g=>absurd (show p∈([]:List (Addr×Obj)) from g) (by simp),e0.hok.kept hk,?_⟩
 ·have j:scope.names.lookup y=some .cell∨scope.names.lookup y=some .free:=j
  rcases j with j | j
  ·exact absurd rfl (S.nocell _ (PySem.mem_of_lookup j))
  ·exact C.has y j
 ·have n:i < (vs++frv).length:=by
   unfold start at d
   by_cases n:i < (vs++frv).length
   ·exact n
   ·rw[List.getElem?_append_right (by simpa using n)] at d
    rw[List.getElem?_replicate] at d
    split at d<;>cases d
  have q:(vs++frv)[i]?=some v:=by
   unfold start at d;rw[List.getElem?_append_left (by simpa using n),List.getElem?_map] at d
   cases e:(vs++frv)[i]? with
   | none=>rw[e] at d;cases d
   | some a=>rw[e] at d;cases d;rfl
  have g:(ps++fv)[i]?=some y:=by
   rw[← S.pre,List.getElem?_take_of_lt (by omega)];exact h1
  have D:(ps++fv).Nodup:=by rw[← S.pre];exact S.nd.sublist (List.take_sublist _ _)
  by_cases hv:i < vs.length
  ·rw[List.getElem?_append_left hv] at q
   rw[List.getElem?_append_left (by omega)] at g;obtain⟨u,F,B⟩:=r.get q;exact⟨u,B,.inl ⟨S.par y (List.mem_of_getElem? g),Zp7 (D.sublist (List.sublist_append_left _ _)) g F⟩⟩
  ·rw[List.getElem?_append_right (by omega)] at q
   rw[List.getElem?_append_right (by omega),← hl] at g;obtain⟨c,o,u,m,t,I,B⟩:=C.cell _ y v g q;refine⟨u,B,.inr ⟨.inr (S.fr y (List.mem_of_getElem? g)),c,m,o,hk c o (l c o t).1,I⟩⟩
 ·obtain⟨o,v,m,t⟩:=C.all y c h
  exact⟨v,o,hk c o (l c o m).1,t⟩
 ·obtain⟨o,v,m,t⟩:=C.all y c h
  exact (l c o m).2
 ·unfold start
  show _=N.length;rw[List.length_append,List.length_map,List.length_replicate];omega
theorem Wk1 {CX:CXT} {P:Program} {w:World} {K:W.Frag} {mg:Str→Option Value} {base:Heap} {k:Nat} {f:Addr} {name qual:Str} {params:Arguments} {body:List Stmt} {scope:Scope} {cl:List (Str×Addr)} {doc pm cdv ct oc:Value} {od:Option Addr}
  {osl:Array (Option Value)} {N ps fv:List Str} {frv:List V} {sp:Sp} (lk:K.lookup f=some ⟨oc,od,.func (W.fnX name qual params body scope cl .none .none doc pm none cdv ct),osl⟩) (hcd:W.codeIn K cdv qual=true) (S:FnScopeC N ps fv scope) (C:Caught K scope cl fv frv)
  (len:∀ vs H Q E,sp vs H Q E→vs.length=ps.length)
  (hbody:∀ (A:Around) (outer:List Env) (s:Shared) (H:Hp) (vs:List V) (Q:VK) (E:XK),Room k (A.deeper (W.envX qual scope s.heap.objs.size f cdv cl))→sp vs H Q E →
   ∃ t,PSs (cxC CX P w K mg base N qual scope f cdv cl A outer s H E) body t∧t { nx:=fun _ H'=>Q .non H',rt:=Q } (start N (vs++frv)) H) :
  FnOk P w K mg base CX (k+1) f (W.fnX name qual params body scope cl .none .none doc pm none cdv ct) ps sp:=by
 refine⟨len,fun A outer s H O y vs Q E j d L r g=>?_⟩;have G:=len _ _ _ _ g;have x:K.In s.heap:=d.mod.kin.keeps fun b o e=>(d.bs b o e).1;have l:s.heap.NoLimit:=d.mod.nolimit.keeps fun b o e=>(d.bs b o e).1;refine codeAny_call_function j.depth (x _ _ lk) rfl S.co S.gen rfl (W.codeRec_of x hcd) (L _ _ _ _ ?_);refine wpAny_newFunctionEnv S.nocell (fun⟨n,v⟩ hy=>S.par n (List.of_mem_zip hy).1) (fun p B z=>?_) S.kind
 have m:∀ b o,s.heap.get? b=some o→p.get? b=some o:=fun b o e=>by
  rw[z.2 b (Nat.ne_of_lt (Heap.lt_size e))];exact Heap.get?_push_of_some _ e
 refine⟨l.keeps m,codeAny_func ?_⟩;obtain⟨t,D,F⟩:=hbody A outer s H vs Q E (j.deeper _) g;have I:Inv (cxC CX P w K mg base N qual scope f cdv cl A outer s H E) [] (start N (vs++frv)) H { s with heap:=p,toks:=s.toks+(ps.zip y).length }:=Xa1 S C j.hd d G r B m;refine wpAny_mono (D [] _ (start N (vs++frv)) H _ I F) (fun M s' c=>?_) fun e s' c=>c
 have h:∀ {a:St} {H':Hp} {v:V} {u:Value},Inv (cxC CX P w K mg base N qual scope f cdv cl A outer s H E) [] a H' s'→RelV v u→Q v H'→CE outer P w H s Q u s' :=
  fun {a H' v u} J i q=>⟨v,H',J.os,J.bare,J.base,J.hok,i,q⟩
 cases M with
 | ret u =>
  obtain⟨v,a,H',J,i,q⟩:=c;exact h J i q
 | next =>
  obtain⟨a,H',J,q⟩:=c;exact h (v:=V.non) (u:=Value.none) J rfl q
 | brk =>
  obtain⟨_,_,_,q⟩:=c;exact False.elim q
 | cont =>
  obtain⟨_,_,_,q⟩:=c;exact False.elim q
noncomputable abbrev FZ (o:Obj):HO:=.frz o (.ext fun _=>True)
def SameT (H H':Hp):Prop:=∀ b o,(∀ ps,o≠.tbl ps)→H b=some o→H' b=some o
theorem SameT.trans {H H1 H2:Hp} (a:SameT H H1) (b:SameT H1 H2):SameT H H2:=fun c o n h=>b c o n (a c o n h)
theorem Same.toT {H H':Hp} (a:Same H H'):SameT H H':=fun c o _ h=>a c o h
structure SameU (P:Addr) (H H':Hp):Prop where
 toT:SameT H H'
 off:∀ b o,b≠P→H b=some o→H' b=some o
 tab:∀ o,H P=some o→∃ o',H' P=some o'
theorem Same.toU {P:Addr} {H H':Hp} (a:Same H H'):SameU P H H':=⟨a.toT,fun c o _ h=>a c o h,fun o h=>⟨o,a _ _ h⟩⟩
def CodeFz (H:Hp) (cv:Value) (q:Str):Prop:=∃ c o vs t,cv=.ref c∧H c=some (FZ o)∧o.data=.fields vs∧vs[1]?=some (.str q t)
theorem CodeFz.keep {H H':Hp} {cv:Value} {q:Str} (h:CodeFz H cv q) (k:SameT H H'):CodeFz H' cv q:=by
 obtain⟨c,o,a,t,f,e,d,b⟩:=h;exact⟨c,o,a,t,f,k c _ (fun _ z=>nomatch z) e,d,b⟩
def TabOk (H:Hp) (P:Addr) (ds:List (Pos×Str)):Prop :=
 ∃ ps,H P=some (.tbl ps)∧TriplesOk ps.toList∧∀ d∈ds,∀ cv,codeAmong d.1 ps.toList=some cv→CodeFz H cv d.2
theorem TabOk.keep {H H':Hp} {P:Addr} {ds:List (Pos×Str)} (h:TabOk H P ds) (k:Same H H'):TabOk H' P ds:=by
 obtain⟨a,g,f,c⟩:=h;exact⟨a,k _ _ g,f,fun d b i e=>(c d b i e).keep k.toT⟩
theorem TabOk.new {H:Hp} {P:Addr} {ds:List (Pos×Str)} (h:H P=some (.tbl #[])):TabOk H P ds :=
 ⟨#[],h,trivial,fun d _ cv e=>by
  have a:(none:Option Value)=some cv:=e
  cases a⟩
def FnFz (H:Hp) (f:Addr) (name qual:Str) (params:Arguments) (body:List Stmt) (scope:Scope) (cl:List (Str×Addr)):Prop :=
 ∃ doc pm ct cv,H f=some (FZ { cls:=.type "function",data:=.func (W.fnX name qual params body scope cl .none .none doc pm none cv ct) })∧CodeFz H cv qual
theorem Zx1:∀ {l m:List Value},TriplesOk l→TriplesOk m→TriplesOk (l++m)
 | [],m,_,h=>h
 | .int i a :: .int j b :: c :: r,m,h,h'=>by
  show TriplesOk (.int i a :: .int j b :: c :: (r++m));exact Zx1 (l:=r) h h'
theorem Zt1 {pos:Pos}:∀ {l m:List Value},TriplesOk l→codeAmong pos (l++m)=(codeAmong pos l).or (codeAmong pos m)
 | [],m,_=>by simp[codeAmong]
 | .int i a :: .int j b :: c :: r,m,h=>by
  show codeAmong pos (.int i a :: .int j b :: c :: (r++m))=_;rw[codeAmong,codeAmong]
  split
  ·rfl
  ·exact Zt1 (l:=r) h
theorem Xq7 {P:Program} {w:World} {H:Hp} {h:Heap} {a:Addr} {o:Obj} (e:h.get? a=some o):ObjOk P w H h a (FZ o):=⟨e,trivial,⟨o,e⟩,fun _ _ _ _=>trivial⟩
def tDef (i:Nat) (name qual:Str) (params:Arguments) (body:List Stmt) (scope:Scope) (cl:List (Str×Addr)) (P:Addr) (ds:List (Pos×Str)):TS:=fun D σ H =>
 TabOk H P ds∧∀ f H',H f=none→SameU P H H'→TabOk H' P ds→FnFz H' f name qual params body scope cl→D.nx (σ.set i (some (.ref f))) H'
theorem Wd5 {X:Cx} {i:Nat} {name qual:Str} {params:Arguments} {body:List Stmt} {scope:Scope} {pos:Pos} {cl:List (Str×Addr)} {c P:Addr} {ds:List (Pos×Str)}
  (hN:X.N.Nodup) (hi:X.N[i]?=some name) (hx:Loc X.env.scope name) (hcl:closureFor scope X.env=pure cl) (hc:X.env.code=.ref c) (hC:∀ h,X.K.In h→W.CodeHd h c P) (hB:∀ h,X.K.In h→h.BuiltinsAt X.mg P) (hP:mainGlobals≠P)
  (hq:qualnameIn X.env name name=qual) (hd:(pos,qual)∈ds) (hds:∀ d∈ds,d.1.line=pos.line→d.1.col=pos.col→d.2=qual)
  (h1:params.defaults=[]) (h2:params.kw_defaults=[]) (h3:annTrees params none X.env=[])
  (hf:X.fn name=true∨X.env.scope.names.lookup name=some .local:=by first | exact .inl rfl | exact .inr rfl | assumption) :
  PS X (.FunctionDef name params body [] none [] scope none name pos) (tDef i name qual params body scope cl P ds):=by
 intro pins s σ H D I h;obtain⟨⟨ps,hp,ht,hcs⟩,q⟩:=h;refine W.nestDef_K h1 h2 h3 ?_;rw[hq];have kX:=I.kIn;have hPs:s.heap.get? P=some (W.tabObj ps):=I.hok P _ hp
 have mgs:s.heap.Ns mainGlobals X.mg:=by
  obtain⟨o,es,ep,e,d,r⟩:=I.ok.mod.glob;exact⟨o,es,ep,I.bk _ _ e,d,r⟩
 have fin:∀ {H':Hp} {s':Shared} {f:Addr},Inv X pins σ H' s'→H f=none→SameU P H H'→TabOk H' P ds→FnFz H' f name qual params body scope cl →
   wpAny (model X.prog X.w) X.A (storeName X.env name (.ref f)) (fun _ s''=>SP X pins D .next s'') X.xe s':=fun {H' s' f} J g1 g2 g3 g4 =>
  Zl8 (v:=.ref f) J hN hi hx rfl (fun s'' J'=>⟨_,_,J',q f H' g1 g2 g3 g4⟩) hf
 cases hm:codeAmong pos ps.toList with
 | some cv =>
  refine W.makeFunction_hit hcl I.ok.glob mgs hc (hC _ kX) hPs ht hm (hB _ kX) fun ctv doc h' tk hk hsz=>?_
  have kk:∀ b o,s.heap.get? b=some o→(h'.push { cls:=Value.type "function",data:=Data.func (W.fnX name qual params body scope cl Value.none Value.none doc ((X.mg (Str.ofString "__name__")).getD Value.none) none cv ctv) }).get? b=some o :=
   fun b o e=>Heap.get?_push_of_some _ (hk b o e)
  have hn:H h'.objs.size=none:=I.hok.fresh hsz;have J:=I.laid (a:=h'.objs.size) (o:=FZ _) (t':=tk) kk hsz (Xq7 (Heap.get?_push_size _ rfl))
  have e1:Same H (upd H h'.objs.size (FZ { cls:=Value.type "function",data:=Data.func (W.fnX name qual params body scope cl Value.none Value.none doc ((X.mg (Str.ofString "__name__")).getD Value.none) none cv ctv) })):=fun b u z=>by rw[Zb1 (Zb0 z hn)];exact z
  exact fin J hn e1.toU (TabOk.keep ⟨ps,hp,ht,hcs⟩ e1) ⟨_,_,_,_,Za4,(hcs _ hd cv hm).keep e1.toT⟩
 | none =>
  refine W.makeFunction_K hcl I.ok.glob mgs hc (hC _ kX) hPs ht hm hP (hB _ kX) fun c' ctv doc h' tk ext hc1 hc2 hcr htab=>?_;obtain⟨c2,co,vs,t,e1,e2,e3,e4⟩:=hcr;cases e1;have hPl:P < s.heap.objs.size:=Heap.lt_size hPs
  have hsz:s.heap.objs.size≤h'.objs.size:=by omega
  have nf:H h'.objs.size=none:=I.hok.fresh hsz;have nc:H c'=none:=I.hok.fresh hc1
  have ncf:c'≠h'.objs.size:=by omega
  have nPc:P≠c':=Nat.ne_of_lt (Nat.lt_of_lt_of_le hPl hc1);have nPf:P≠h'.objs.size:=Nat.ne_of_lt (Nat.lt_of_lt_of_le hPl hsz);generalize hfo:({ cls:=Value.type "function",data:=Data.func (W.fnX name qual params body scope cl Value.none Value.none doc ((X.mg (Str.ofString "__name__")).getD Value.none) none (Value.ref c') ctv) }:Obj)=fo;generalize htr:ps++#[rawInt (pos.line:Int),rawInt (pos.col:Int),Value.ref c']=ps';rw[htr] at htab
  have hps':ps'.toList=ps.toList++[rawInt (pos.line:Int),rawInt (pos.col:Int),Value.ref c']:=by rw[← htr];simp
  have gk:∀ b o,b≠P→s.heap.get? b=some o→(h'.push fo).get? b=some o:=fun b o hb e=>Heap.get?_push_of_some _ (ext b o hb e)
  have oP:∀ b,b≠P→b≠c'→b≠h'.objs.size→(upd (upd (upd H P (.tbl ps')) c' (FZ co)) h'.objs.size (FZ fo)) b=H b:=fun b n1 n2 n3=>by rw[Zb1 n3,Zb1 n2,Zb1 n1]
  have oPP:(upd (upd (upd H P (.tbl ps')) c' (FZ co)) h'.objs.size (FZ fo)) P=some (.tbl ps'):=by rw[Zb1 nPf,Zb1 nPc,Za4]
  have oc:(upd (upd (upd H P (.tbl ps')) c' (FZ co)) h'.objs.size (FZ fo)) c'=some (FZ co):=by rw[Zb1 ncf,Za4]
  have of':(upd (upd (upd H P (.tbl ps')) c' (FZ co)) h'.objs.size (FZ fo)) h'.objs.size=some (FZ fo):=Za4;generalize (upd (upd (upd H P (.tbl ps')) c' (FZ co)) h'.objs.size (FZ fo))=H' at oP oPP oc of'
  have tr:∀ b u,(∀ ps,u≠HO.tbl ps)→H b=some u→H' b=some u:=fun b u nu z=>by
   rw[oP b (fun w=>nu ps (by rw[w,hp] at z;exact (Option.some.inj z).symm)) (Zb0 z nc) (Zb0 z nf)];exact z
  have hok:HOk X.prog X.w H' (h'.push fo):=fun b u z=>by
   by_cases b1:b=h'.objs.size
   ·subst b1;rw[of'] at z;cases z;exact Xq7 (Heap.get?_push_size _ (by rw[← hfo];rfl))
   by_cases b2:b=c'
   ·subst b2;rw[oc] at z;cases z;exact Xq7 (Heap.get?_push_of_some _ e2)
   by_cases b3:b=P
   ·subst b3;rw[oPP] at z;cases z;exact Heap.get?_push_of_some _ htab
   rw[oP b b3 b2 b1] at z;refine (I.hok b u z).stay (fun d v hd e=>gk d v (fun w=>?_) e) (fun d z=>tr d _ (fun _ q=>nomatch q) z) fun d xs z=>tr d _ (fun _ q=>nomatch q) z;rcases hd with hd | hd
   ·exact b3 (hd.symm.trans w)
   ·rw[w,hp] at hd;cases hd
  have un:Un X.fs [] H H' s.heap (h'.push fo):=by
   refine⟨fun b o e n _ _=>gk b o (fun w=>by rw[w,hp] at n;cases n) e,fun b o e n _ _=>⟨o.slots,gk b o (fun w=>by rw[w,hp] at n;cases n) e⟩,fun b o e n _=>?_,fun b o e _=>?_,fun b xs z=>tr b _ (fun _ q=>nomatch q) z,fun b o u z=>tr b _ (fun _ q=>nomatch q) z,fun b ps2 z=>?_⟩
   ·rw[oP b (fun w=>by rw[w,hp] at n;cases n) (Nat.ne_of_lt (Nat.lt_of_lt_of_le (Heap.lt_size e) hc1)) (Nat.ne_of_lt (Nat.lt_of_lt_of_le (Heap.lt_size e) hsz))];exact n
   ·by_cases b3:b=P
    ·subst b3;exact⟨_,Heap.get?_push_of_some _ htab⟩
    ·exact⟨o,gk b o b3 e⟩
   ·by_cases b3:b=P
    ·subst b3
     rw[hp] at z;cases z;exact⟨_,by rw[oPP,← htr]⟩
    ·refine⟨#[],?_⟩
     rw[oP b b3 (Zb0 z nc) (Zb0 z nf),z];simp
  have J:Inv X pins σ H' { s with heap:=h'.push fo,toks:=tk }:=I.un un hok;have sT:SameT H H':=tr;have sU:SameU P H H':=⟨tr,fun b u hb z=>by rw[oP b hb (Zb0 z nc) (Zb0 z nf)];exact z,fun _ _=>⟨_,oPP⟩⟩;have cf:CodeFz H' (.ref c') qual:=⟨c',co,vs,t,rfl,oc,e3,e4⟩
  have tri:TriplesOk [rawInt (pos.line:Int),rawInt (pos.col:Int),Value.ref c']:=by
   unfold rawInt;exact trivial
  have tab:TabOk H' P ds:=by
   refine⟨ps',oPP,by rw[hps'];exact Zx1 ht tri,fun d hd' cv e=>?_⟩;rw[hps',Zt1 ht] at e
   cases hm':codeAmong d.1 ps.toList with
   | some cv2 =>
    rw[hm'] at e;cases e;exact (hcs d hd' cv hm').keep sT
   | none =>
    rw[hm',Option.none_or] at e;unfold rawInt at e;rw[codeAmong] at e
    split at e
    ·rename_i hh
     cases e
     have hh':d.1.line=pos.line∧d.1.col=pos.col:=by
      have:=hh;simp only[Bool.and_eq_true,beq_iff_eq] at this;omega
     rw[hds d hd' hh'.1 hh'.2];exact cf
    ·simp[codeAmong] at e
  rw[show W.fnMade name qual params body scope cl doc ((X.mg (Str.ofString "__name__")).getD Value.none) c' ctv=fo from hfo];exact fin J nf sU tab ⟨doc,_,ctv,.ref c',by rw[of',← hfo],cf⟩
def KLe (K K':W.Frag):Prop:=∀ a o,K.lookup a=some o→K'.lookup a=some o
noncomputable def remX (xs:List (Addr×Obj)) (H:Hp):Hp:=fun b=>if b∈xs.map (·.1) then none else H b
noncomputable def Yb1 (xs:List (Addr×Obj)) (H H2:Hp):Hp:=fun b=>if b∈xs.map (·.1) then H b else H2 b
theorem Zl9 {xs:List (Addr×Obj)} {H:Hp} {b:Addr} (h:b∈xs.map (·.1)):remX xs H b=none:=by unfold remX;rw[if_pos h]
theorem Zd8 {xs:List (Addr×Obj)} {H:Hp} {b:Addr} (h:b ∉ xs.map (·.1)):remX xs H b=H b:=by unfold remX;rw[if_neg h]
theorem Zm6 {xs:List (Addr×Obj)} {H H2:Hp} {b:Addr} (h:b∈xs.map (·.1)):Yb1 xs H H2 b=H b:=by unfold Yb1;rw[if_pos h]
theorem Ze5 {xs:List (Addr×Obj)} {H H2:Hp} {b:Addr} (h:b ∉ xs.map (·.1)):Yb1 xs H H2 b=H2 b:=by unfold Yb1;rw[if_neg h]
theorem Ya1:∀ {l:List (Addr×Obj)} {p:Addr×Obj},(∀ q∈l,q.1=p.1→q.2=p.2)→p∈l→l.lookup p.1=some p.2
 | [],_,_,h=>absurd h (by simp)
 | q :: l,p,hc,h=>by
  rw[show q :: l=(q.1,q.2) :: l from rfl,List.lookup_cons]
  by_cases e:q.1=p.1
  ·rw[show (p.1 == q.1)=true from by simp[e]]
   rw[hc q List.mem_cons_self e]
  ·rw[show (p.1 == q.1)=false from by simpa using fun z=>e z.symm]
   exact Ya1 (fun r hr=>hc r (List.mem_cons_of_mem _ hr)) (by
    rcases List.mem_cons.mp h with z | z
    ·exact absurd (by rw[z]) e
    ·exact z)
theorem Zk4:∀ {l:List (Addr×Obj)} {a:Addr} {o:Obj},l.lookup a=some o→(a,o)∈l
 | [],_,_,h=>by cases h
 | (b,u) :: l,a,o,h=>by
  rw[List.lookup_cons] at h
  split at h
  ·rename_i e
   cases h;rw[show a=b from by simpa using e];exact List.mem_cons_self
  ·exact List.mem_cons_of_mem _ (Zk4 h)
theorem Zp9 {h base base':Heap}:∀ {l:List Env},h.FunFrames base l→(∀ b∈frs l,base'.get? b=none)→h.FunFrames base' l
 | [],_,_=>trivial
 | env :: r,⟨hk,⟨L,o,hf,hn,ho,hd⟩,hr⟩,g=>by
  have e:frs (env :: r)=L :: frs r:=by unfold frs;rw[List.filterMap_cons,hf]
  rw[e] at g;exact⟨hk,⟨L,o,hf,g L List.mem_cons_self,ho,hd⟩,Zp9 hr fun b hb=>g b (List.mem_cons_of_mem _ hb)⟩
section
variable {X:Cx} {k:Nat} {f:Addr} {fd:FuncData} {ps:List Str} {sp:Sp}
theorem Xv8 {pins:List (Addr×Obj)} {σ:St} {H:Hp} {s:Shared} {Q:VK} {us:List Value} {vs:List V} (xs cs:List (Addr×Obj)) (I:Inv X pins σ H s) (hxs:∀ p∈xs,H p.1=some (FZ p.2))
  (hcs:∀ p∈cs,s.heap.get? p.1=some p.2∧H p.1=none∧p.1 ∉ frs X.stack) (F:∀ base,FnOk X.prog X.w (X.K++(xs++cs)) X.mg base CX0 k f fd ps sp) (hr:Room k X.A) (hb:Binds X.K fd ps [])
  (r:Vals vs us) (h:sp vs (remX xs H) (fun v H2=>(∀ p∈xs,H2 p.1=none)→Q v (Yb1 xs H H2)) E0):wpAny (model X.prog X.w) X.A (call (.ref f) us) (EP X pins σ Q) X.xe s:=by
 have U:∀ p∈xs,s.heap.get? p.1=some p.2:=fun p j=>(I.hok _ _ (hxs p j)).1;have T:∀ p∈xs++cs,s.heap.get? p.1=some p.2:=fun p j=>(List.mem_append.mp j).elim (U p) fun z=>(hcs p z).1
 let good:Addr→Prop:=fun b=>(X.base.get? b).isSome=true∨b∈(xs++cs).map (·.1)
 have q3:∀ b,Decidable (good b):=fun b=>by dsimp only[good];infer_instance
 let hid:List Addr:=(List.range s.heap.objs.size).filter fun b=>!(decide ((X.base.get? b).isSome=true)||decide (b∈(xs++cs).map (·.1)))
 have O:∀ b,good b→b ∉ hid:=fun b g R=>by
  have q:=(List.mem_filter.mp R).2;rcases g with g | g
  ·simp[g] at q
  ·rw[decide_eq_true g] at q;simp at q
 have Z:∀ b,¬ good b→b < s.heap.objs.size→b∈hid:=fun b g hl=>by
  refine List.mem_filter.mpr ⟨List.mem_range.mpr hl,?_⟩;rw[decide_eq_false (fun z=>g (.inl z)),decide_eq_false (fun z=>g (.inr z))];rfl
 let base':Heap:=W.hideAll s.heap hid
 have M:∀ b o,s.heap.get? b=some o→good b→base'.get? b=some o:=fun b o e g=>W.hideAll_get _ e (O b g)
 have L:∀ b o,base'.get? b=some o→s.heap.get? b=some o∧good b:=fun b o e=>by
  have c:s.heap.get? b=some o:=W.of_hideAll hid e;refine⟨c,?_⟩
  by_cases g:good b
  ·exact g
  ·have z:base'.get? b=none:=W.hideAll_none hid (Z b g (Heap.lt_size c))
   rw[z] at e;cases e
 have gb:∀ b o,X.base.get? b=some o→base'.get? b=some o:=fun b o e=>M b o (I.bk b o e) (.inl (by rw[e];rfl))
 have S:∀ b,good b→remX xs H b=none:=fun b g=>by
  rcases g with g | g
  ·obtain⟨o,e⟩:=Option.isSome_iff_exists.mp g
   by_cases z:b∈xs.map (·.1)
   ·exact Zl9 z
   ·rw[Zd8 z];exact (I.bs b o e).2
  ·rw[List.map_append] at g
   rcases List.mem_append.mp g with g | g
   ·exact Zl9 g
   ·by_cases z:b∈xs.map (·.1)
    ·exact Zl9 z
    ·rw[Zd8 z]
     obtain⟨p,j,rfl⟩:=List.mem_map.mp g;exact (hcs p j).2.1
 have Y:W.Frag.In (X.K++(xs++cs)) base':=fun a o e=>by
  have e:List.lookup a (X.K++(xs++cs))=some o:=e;rw[List.lookup_append] at e
  cases z:List.lookup a X.K with
  | some C =>
   rw[z] at e;cases e;exact gb a o (I.ok.mod.kin a o z)
  | none =>
   rw[z,Option.none_or] at e;have R:(a,o)∈xs++cs:=Zk4 e;exact M a o (T _ R) (.inr (List.mem_map.mpr ⟨_,R,rfl⟩))
 have D:∀ {b:Addr} {m:Str→Option Value},X.base.Ns b m→base'.Ns b m:=fun {b m} ⟨o,es,ep,e,d,r⟩=>⟨o,es,ep,gb b o e,d,r⟩
 have i:∀ b,b∈xs.map (·.1)→∃ o,H b=some (FZ o)∧s.heap.get? b=some o:=fun b z=>by
  obtain⟨p,j,rfl⟩:=List.mem_map.mp z;exact⟨p.2,hxs p j,U p j⟩
 have N:∀ b∈frs X.stack,base'.get? b=none:=fun b hb=>by
  cases z:base'.get? b with
  | none=>rfl
  | some o =>
   obtain⟨e,g⟩:=L b o z;rcases g with g | g
   ·have:=(I.stack.mem hb).1
    rw[this] at g;simp at g
   ·rw[List.map_append] at g
    rcases List.mem_append.mp g with g | g
    ·obtain⟨C,c,_⟩:=i b g
     rw[I.stkFree b hb] at c;cases c
    ·obtain⟨p,j,rfl⟩:=List.mem_map.mp g
     exact absurd hb (hcs p j).2.2
 have e0:Env0 X.prog X.w (X.K++(xs++cs)) X.mg base' X.A X.stack s (remX xs H):=by
  refine⟨I.ok.frames,⟨Y,D I.ok.mod.glob,?_,?_⟩,fun b o e=>⟨(L b o e).1,S b (L b o e).2⟩,Nat.le_of_eq (W.hideAll_size _ _),Zp9 I.stack N,fun b hb=>?_,fun a o z=>?_,I.bare⟩
  ·obtain⟨mb,h1,h2⟩:=I.ok.mod.blt
   exact⟨mb,D h1,h2⟩
  ·obtain⟨mc,h1,h2⟩:=I.ok.mod.nolimit
   exact⟨mc,D h1,h2⟩
  ·by_cases z:b∈xs.map (·.1)
   ·exact Zl9 z
   ·rw[Zd8 z];exact I.stkFree b hb
  ·by_cases y:a∈xs.map (·.1)
   ·rw[Zl9 y] at z;cases z
   ·rw[Zd8 y] at z
    refine (I.hok a o z).stay (fun b u _ e=>e) (fun b q=>?_) fun b x q=>?_
    ·rw[Zd8 fun y=>by obtain⟨C,c,_⟩:=i b y;rw[q] at c;cases c];exact q
    ·rw[Zd8 fun y=>by obtain⟨C,c,_⟩:=i b y;rw[q] at c;cases c];exact q
 have hl:us.length=ps.length:=by rw[← r.length];exact (F base').len _ _ _ _ h
 have q2:BindsTo s fd ⟨us,[]⟩ (ps.zip us):=by
  have:=hb s us I.kIn (by rw[List.append_nil];exact hl);rw[List.append_nil] at this;exact this
 refine wpAny_call (codeAny_mono ((F base').run X.A X.stack s (remX xs H) ⟨us,[]⟩ us vs _ E0 hr e0 q2 r h) fun rr s' J=>?_)
 cases rr with
 | error e=>exact False.elim J
 | ok fl =>
  cases fl with
  | next=>exact False.elim J
  | brk=>exact False.elim J
  | cont=>exact False.elim J
  | ret u =>
   obtain⟨v,H2,os,q1,l,q0,rv,q⟩:=J
   have t:∀ b,b∈xs.map (·.1)→H2 b=none:=fun b z=>by
    obtain⟨o,_,e⟩:=i b z;exact l.free b o e (Zl9 z) (by simp)
   have B:∀ {b:Addr} {u:HO},H b=some u→(∀ o,u≠FZ o)→b ∉ xs.map (·.1):=fun {b u} e n z=>by
    obtain⟨o,c,_⟩:=i b z;rw[e] at c;cases c;exact n o rfl
   refine⟨v,Yb1 xs H H2,I.call' (ch:=[]) os ⟨fun b o e n hb G=>l.keep b o e ?_ hb G,fun b o e n hb G=>l.slot b o e ?_ hb G,fun b o e n G=>?_,l.there,fun b x e=>?_,fun b o u e=>?_,fun b x e=>?_⟩ (fun a o z=>?_) q1 (fun b z=>absurd z (by simp)),rv,q fun p j=>t p.1 (List.mem_map.mpr ⟨p,j,rfl⟩)⟩
   ·by_cases z:b∈xs.map (·.1)
    ·exact Zl9 z
    ·rw[Zd8 z];exact n
   ·by_cases z:b∈xs.map (·.1)
    ·exact Zl9 z
    ·rw[Zd8 z];exact n
   ·by_cases z:b∈xs.map (·.1)
    ·rw[Zm6 z];exact n
    ·rw[Ze5 z];exact l.free b o e (by rw[Zd8 z];exact n) G
   ·have z:=B e (fun _ q=>nomatch q)
    rw[Ze5 z];exact l.tups b x (by rw[Zd8 z];exact e)
   ·by_cases z:b∈xs.map (·.1)
    ·rw[Zm6 z];exact e
    ·rw[Ze5 z];exact l.frzs b o u (by rw[Zd8 z];exact e)
   ·have z:=B e (fun _ q=>nomatch q)
    rw[Ze5 z];exact l.tbls b x (by rw[Zd8 z];exact e)
   ·by_cases y:a∈xs.map (·.1)
    ·rw[Zm6 y] at z
     obtain⟨C,c,g⟩:=i a y;rw[z] at c;cases c;exact Xq7 (l.keep a C g (Zl9 y) (fun hb=>by rw[I.stkFree a hb] at z;cases z) (by simp))
    ·rw[Ze5 y] at z
     refine (q0 a o z).stay (fun b u _ e=>e) (fun b q=>?_) fun b x q=>?_
     ·rw[Ze5 fun y=>by rw[t b y] at q;cases q];exact q
     ·rw[Ze5 fun y=>by rw[t b y] at q;cases q];exact q
theorem Yj7 {xs:List (Addr×Obj)} {H H2:Hp} (h:Same (remX xs H) H2):Same H (Yb1 xs H H2):=fun b o e=>by
 by_cases z:b∈xs.map (·.1)
 ·rw[Zm6 z];exact e
 ·rw[Ze5 z];exact h b o (by rw[Zd8 z];exact e)
def Xn3 (X:Cx) (σ:St) (ix:List Nat) (cs:List (Addr×Obj)):Prop :=
 Paired (fun (i:Nat) (p:Addr×Obj)=>∃ x v u,X.N[i]?=some x∧σ[i]?=some (some v)∧X.env.cells.lookup x=some p.1∧p.2.data=.cell (some u)∧RelV v u) ix cs
def Zm8 (X:Cx) (k:Nat) (f:Addr) (fd:FuncData) (ps:List Str) (ix:List Nat) (t:TA):TE:=fun σ H Q=>t σ H fun vs H1=>(∀ i∈ix,∃ v,σ[i]?=some (some v))∧∃ xs:List (Addr×Obj),(∀ p∈xs,H1 p.1=some (FZ p.2)) ∧
 ∀ (K':W.Frag) (cs:List (Addr×Obj)),X.Ok→KLe X.K K'→(∀ a o,K'.lookup a=some o→X.K.lookup a=some o∨(a,o)∈xs++cs)→(∀ p∈xs++cs,K'.lookup p.1=some p.2)→Xn3 X σ ix cs →
  ∃ sp:Sp,(∀ base,FnOk X.prog X.w K' X.mg base CX0 k f fd ps sp)∧sp vs (remX xs H1) (fun v H2=>(∀ p∈xs,H2 p.1=none)→Q v (Yb1 xs H1 H2)) E0
theorem Inv.cellsAt {pins:List (Addr×Obj)} {σ:St} {H:Hp} {s:Shared} (I:Inv X pins σ H s):∀ (ix:List Nat),(∀ i∈ix,∃ x,X.N[i]?=some x∧X.env.scope.names.lookup x=some .cell∧X.fn x=true)→(∀ i∈ix,∃ v,σ[i]?=some (some v)) →
  ∃ cs,Xn3 X σ ix cs∧∀ p∈cs,s.heap.get? p.1=some p.2∧H p.1=none∧p.1 ∉ frs X.stack∧X.K.lookup p.1=none
 | [],_,_=>⟨[],.nil,fun _ h=>absurd h (by simp)⟩
 | i :: ix,h1,h2=>by
  obtain⟨cs,g1,g2⟩:=I.cellsAt ix (fun j hj=>h1 j (List.mem_cons_of_mem _ hj)) fun j hj=>h2 j (List.mem_cons_of_mem _ hj);obtain⟨x,e1,e2,e3⟩:=h1 i List.mem_cons_self;obtain⟨v,e4⟩:=h2 i List.mem_cons_self;obtain⟨m,_,hm⟩:=I.loc;obtain⟨u,rv,lk⟩:=hm i x v e1 e4 (.inr (.inl e2));rcases lk with ⟨lk,_⟩ | ⟨_,c,lk,o,ho,hd⟩
  ·have lk':X.env.scope.names.lookup x=some .local:=lk
   rw[e2] at lk';cases lk'
  ·have hc:=I.ok.cab x c e3 lk
   refine⟨(c,o) :: cs,.cons ⟨x,v,u,e1,e4,lk,hd,rv⟩ g1,fun p hp=>?_⟩;rcases List.mem_cons.mp hp with rfl | hp
   ·refine⟨ho,I.freeC x c lk,fun hb=>?_,?_⟩
    ·rcases List.mem_cons.mp (I.stkSub _ hb) with z | z
     ·exact I.cne x c lk z
     ·obtain⟨_,o',ho',_⟩:=I.ok.funs.mem z
      exact absurd (Heap.lt_size ho') (Nat.not_lt.mpr hc)
    ·cases z:X.K.lookup c with
     | none=>rfl
     | some o'=>exact absurd (Heap.lt_size (I.ok.bs c o' (I.ok.mod.kin c o' z)).1) (Nat.not_lt.mpr hc)
   ·exact g2 p hp
theorem Zs4 {x:Str} {p pos:Pos} {e:Expr} {es:List Expr} {t:TA} {ix:List Nat} (hr:Room k X.A) (hg:Gl X x) (hm:X.mg x=some (.ref f)) (hk:W.keepIn X.K (.ref f)=true) (hb:Binds X.K fd ps [])
  (hix:∀ i∈ix,∃ x,X.N[i]?=some x∧X.env.scope.names.lookup x=some .cell∧X.fn x=true)
  (ha:PA X (e :: es) t) (hdb:(x == ("__debug__":Str))=false:=by decide) (he:starEach (e :: es) X.env=(false,eval e X.env) :: starEach es X.env:=by rfl) (hpl:(backTo pos (starEach es X.env)).any (·.1)=false:=by rfl) :
  PE X (.Call (.Name x p) (e :: es) [] pos) (Zm8 X k f fd ps ix t):=by
 intro j s n H Q I h;refine wpAny_Call_Name_kw (Zn9 I hg hm ?_ hdb);refine W.callWith_K (h₀:=X.base) I.ok.mod.kin hk (thn (ha pos j s n H _ I h) fun us s1 ⟨vs,H1,I1,r,hσ,xs,hxs,q⟩=>⟨I1.kIn,?_⟩) he hpl;obtain⟨c,B,g⟩:=I1.cellsAt ix hix hσ;have l:∀ p∈xs,s1.heap.get? p.1=some p.2:=fun p b=>(I1.hok _ _ (hxs p b)).1;have d:∀ p∈xs++c,s1.heap.get? p.1=some p.2:=fun p b=>(List.mem_append.mp b).elim (l p) fun z=>(g p z).1
 obtain⟨C,F,v⟩:=q (X.K++(xs++c)) c I1.ok (fun a o z=>by
   show List.lookup a (X.K++(xs++c))=some o
   rw[List.lookup_append,show List.lookup a X.K=some o from z];rfl) (fun a o z=>by
   have z:List.lookup a (X.K++(xs++c))=some o:=z;rw[List.lookup_append] at z
   cases y:List.lookup a X.K with
   | some o' =>
    rw[y] at z;cases z;exact .inl rfl
   | none =>
    rw[y,Option.none_or] at z
    exact .inr (Zk4 z)) (fun p b=>by
   have u:X.K.lookup p.1=none:=by
    rcases List.mem_append.mp b with z | z
    ·cases y:X.K.lookup p.1 with
     | none=>rfl
     | some o =>
      have:=(I1.bs p.1 o (I1.ok.mod.kin _ _ y)).2;rw[hxs p z] at this;cases this
    ·exact (g p z).2.2.2
   show List.lookup p.1 (X.K++(xs++c))=some p.2;rw[List.lookup_append,show List.lookup p.1 X.K=none from u,Option.none_or]
   exact Ya1 (fun q w e=>by
    have m:=d q w;rw[e,d p b] at m
    exact (Option.some.inj m).symm) b) B
 exact Xv8 xs c I1 hxs (fun p b=>⟨(g p b).1,(g p b).2.1,(g p b).2.2.1⟩) F hr hb r v
end
theorem Xg9 {P:Program} {w:World} {K:W.Frag} {mg mb:Str→Option Value} {CX:CXT} {k:Nat} {fa a:Addr} {fd:FuncData} {x:Str} {sp:Sp} {s₁:Shared} {vs:List Value} {ns:List Int} {ts:List Addr}
  (KX:K.In s₁.heap) (hns:s₁.heap.Ns mainGlobals mg) (hb:s₁.heap.Ns builtinsNs mb) (hbb:∀ x:Str,x≠"__name__"→mb x=bootBuiltins x) (hlim:s₁.heap.NoLimit) (hg:s₁.gens=#[])
  (ha:s₁.heap.get? a=some { cls:=.type "list",data:=.seq vs.toArray }) (hi:IntsAre vs ns) (hl:ns.length≤sizeLine) (hr:Room k callerA)
  (hT:∀ p∈ts,s₁.heap.get? p=some (W.tabObj #[])) (hTK:∀ p∈ts,K.lookup p=none) (hTc:∀ p∈ts,isCodeTable s₁.heap p)
  (F:∀ base:Heap,K.In base→base.Ns mainGlobals mg→FnOk P w K mg base CX k fa fd [x] sp) (hbind:∀ (s:Shared) (u:Value),BindsTo s fd ⟨[u],[]⟩ [(x,u)])
  (hsp:∀ H:Hp,(∀ p∈ts,H p=some (.tbl #[]))→SqL K H a (ns.map V.int)→sp [.ref a] H (fun v _=>v=.bl true) fun _ _ _=>False)
  (hCX:∀ H e s',CX [] H s₁ (fun _ _ _=>False) e s'→False) :
  codeAny (model P w) callerA (.call (.ref fa) ⟨[.ref a],[]⟩) (fun r s'=>r=.ok (.ret (.bool true))∧OldK s₁.heap s'.heap∧s'.os=s₁.os∧AllBare s'.gens) s₁:=by
 have R:=Zx0 hi;have D:=hi.length
 have l:∀ H:Hp,(∀ b u,H b=some u→(b=a∧K.lookup a=none∧∃ O,u=.frz { cls:=.type "list",data:=.seq vs.toArray } (.lst O))∨(b∈ts∧u=.tbl #[]))→(∀ p∈ts,H p=some (.tbl #[]))→SqL K H a (ns.map V.int)→HOk P w H s₁.heap →
   codeAny (model P w) callerA (.call (.ref fa) ⟨[.ref a],[]⟩) (fun r s'=>r=.ok (.ret (.bool true))∧OldK s₁.heap s'.heap∧s'.os=s₁.os∧AllBare s'.gens) s₁:=by
  intro H I U hS y;have f:∀ {b:Addr} {o:Obj},s₁.heap.get? b=some o→H b=none→(hidT s₁.heap H).get? b=some o:=fun e n=>Xq6 e n
  have S:∀ {b:Addr} {o:Obj} {es:Array DictEntry} {ep:Nat},s₁.heap.get? b=some o→o.data=.dict es ep→H b=none:=fun {b o es ep} e d=>by
   cases q:H b with
   | none=>rfl
   | some u =>
    rcases I b u q with ⟨rfl,_⟩ | ⟨hb,_⟩
    ·rw[ha] at e;cases e
     have M:Data.seq vs.toArray _=Data.dict es ep:=d;cases M
    ·rw[hT b hb] at e;cases e
     have M:Data.fields #[]=Data.dict es ep:=d;cases M
  have g:∀ {b:Addr} {m:Str→Option Value},s₁.heap.Ns b m→(hidT s₁.heap H).Ns b m:=fun {b m} ⟨o,es,ep,e,d,r⟩=>⟨o,es,ep,f e (S e d),d,r⟩
  have A:K.In (hidT s₁.heap H):=fun b o e=>f (KX b o e) (by
   cases q:H b with
   | none=>rfl
   | some u =>
    rcases I b u q with ⟨rfl,j,_⟩ | ⟨hb,_⟩
    ·rw[j] at e;cases e
    ·rw[hTK b hb] at e;cases e)
  have hM:Mod K mg (hidT s₁.heap H):=⟨A,g hns,⟨mb,g hb,hbb⟩,let ⟨mc,h1,J⟩:=hlim;⟨mc,g h1,J⟩⟩;have e0:Env0 P w K mg (hidT s₁.heap H) callerA [] s₁ H:=⟨rfl,hM,fun b o e=>Xx3 e,Nat.le_of_eq (Xi7 _ _),trivial,fun b hb=>absurd (show b∈([]:List Addr) from hb) (by simp),y,.of_eq hg⟩;refine codeAny_mono ((F _ A (g hns)).run callerA [] s₁ H ⟨[.ref a],[]⟩ [.ref a] [.ref a] _ _ hr e0 (hbind s₁ (.ref a)) (.cons rfl .nil) (hsp H U hS)) fun r s' h=>?_
  cases r with
  | error e=>exact (hCX H e s' h).elim
  | ok fl =>
   cases fl with
   | next=>exact False.elim h
   | brk=>exact False.elim h
   | cont=>exact False.elim h
   | ret u =>
    obtain⟨v,H',os,N,t,i,Y,q⟩:=h;have Z:v=.bl true:=q;subst Z;obtain rfl:u=Value.bool true:=Y;refine⟨rfl,⟨fun b o e=>?_,fun b o e=>t.there b o e (by simp)⟩,os,N⟩
    cases q:H b with
    | none=>exact .inl (t.keep b o e q (by intro z;exact absurd (show b∈([]:List Addr) from z) (by simp)) (by simp))
    | some u =>
     rcases I b u q with ⟨rfl,_,O,rfl⟩ | ⟨hb,rfl⟩
     ·have B:=t.frzs b _ _ q
      obtain⟨X,_⟩:=y b _ q;obtain⟨L,_⟩:=i b _ B;rw[e] at X;cases X;exact .inl L
     ·obtain⟨C,B⟩:=t.tbls b _ q
      have L:=i b _ B;rw[hT b hb] at e;cases e;exact .inr (.inl ⟨hTc b hb,rfl,#[],C,rfl,L⟩)
 have T:a ∉ ts:=fun z=>by
  have:=hT a z;rw[ha] at this;have J:=congrArg Obj.cls (Option.some.inj this);cases J
 cases j:K.lookup a with
 | some o =>
  have e:=KX a o j;rw[ha] at e;cases e;refine l (fun b=>if b∈ts then some (.tbl #[]) else none) (fun b u z=>?_) (fun p G=>if_pos G) (.inr ⟨_,vs.toArray,_,j,rfl,rfl,rfl,by rw[List.size_toArray,D];exact hl,by simpa using R⟩) (fun b u z=>?_)
  ·by_cases hb:b∈ts
   ·have c:=(if_pos hb).symm.trans z
    cases c;exact .inr ⟨hb,rfl⟩
   ·have c:=(if_neg hb).symm.trans z
    cases c
  ·by_cases hb:b∈ts
   ·have c:=(if_pos hb).symm.trans z
    cases c;exact hT b hb
   ·have c:=(if_neg hb).symm.trans z
    cases c
 | none =>
  refine l (fun b=>if b∈ts then some (.tbl #[]) else if b=a then some (.frz { cls:=.type "list",data:=.seq vs.toArray } (.lst (ns.map V.int))) else none) (fun b u z=>?_) (fun p G=>if_pos G) (.inl (.inr ⟨{ cls:=.type "list",data:=.seq vs.toArray },(if_neg T).trans (if_pos rfl)⟩)) (fun b u z=>?_)
  ·by_cases hb:b∈ts
   ·have c:=(if_pos hb).symm.trans z
    cases c;exact .inr ⟨hb,rfl⟩
   ·have c:=(if_neg hb).symm.trans z
    by_cases hba:b=a
    ·rw[if_pos hba] at c
     cases c;exact .inl ⟨hba,j,_,rfl⟩
    ·rw[if_neg hba] at c
     cases c
  ·by_cases hb:b∈ts
   ·have c:=(if_pos hb).symm.trans z
    cases c;exact hT b hb
   ·have c:=(if_neg hb).symm.trans z
    by_cases hba:b=a
    ·rw[if_pos hba] at c
     cases c;subst hba;exact⟨ha,by rw[List.length_map];exact hl,vs,_,R,ha⟩
    ·rw[if_neg hba] at c
     cases c
structure BltK (K:W.Frag) (mg:Str→Option Value) (bm:Addr):Prop where
 m:mg (Str.ofString "__builtins__")=some (.ref bm)
 l:∃ ob,K.lookup bm=some ob∧ob.cls=.type "module"∧ob.dict=some builtinsNs∧ob.data=.plain
 n1:bm≠builtinsNs
 n2:bm≠mainGlobals
theorem BltK.at {K:W.Frag} {mg:Str→Option Value} {bm:Addr} (b:BltK K mg bm) {T:Addr} (n:bm≠T) (h:Heap) (k:K.In h):h.BuiltinsAt mg T:=by
 obtain⟨a,l,c,d,e⟩:=b.l;exact⟨bm,a,b.m,b.n1,b.n2,n,k _ _ l,c,d,e⟩
end L2
namespace Ken
open PySem L2
end Ken
namespace L2
open PySem PySem.Spec PyProof.Rows
noncomputable def posOf (s:Stmt):Pos:=match s with
 | .FunctionDef _ _ _ _ _ _ _ _ _ p=>p
 | _=>⟨0,0,0,0⟩
noncomputable def Xi6 (s:Stmt) (j:Nat):Stmt:=(Zc7 s).getD j (.Pass ⟨0,0,0,0⟩)
theorem Zy7 {X:Cx} {i:Nat} {name qual:Str} {st:Stmt} {cl:List (Str×Addr)} {c P:Addr} {ds:List (Pos×Str)}
  (hst:st=.FunctionDef name (Zd6 st) (Zc7 st) [] none [] (Za5 st) none name (posOf st))
  (hN:X.N.Nodup) (hi:X.N[i]?=some name) (hx:Loc X.env.scope name) (hcl:closureFor (Za5 st) X.env=pure cl) (hc:X.env.code=.ref c) (hC:∀ h,X.K.In h→W.CodeHd h c P) (hB:∀ h,X.K.In h→h.BuiltinsAt X.mg P) (hP:mainGlobals≠P)
  (hq:qualnameIn X.env name name=qual) (hd:(posOf st,qual)∈ds) (hds:∀ d∈ds,d.1.line=(posOf st).line→d.1.col=(posOf st).col→d.2=qual)
  (h1:(Zd6 st).defaults=[]) (h2:(Zd6 st).kw_defaults=[]) (h3:annTrees (Zd6 st) none X.env=[])
  (hf:X.fn name=true∨X.env.scope.names.lookup name=some .local:=by first | exact .inl rfl | exact .inr rfl | assumption) :
  PS X st (tDef i name qual (Zd6 st) (Zc7 st) (Za5 st) cl P ds):=by
 have h:=Wd5 (X:=X) (pos:=posOf st) (body:=Zc7 st) hN hi hx hcl hc hC hB hP hq hd hds h1 h2 h3 hf;rw[← hst] at h;exact h
theorem Xl3 {K:W.Frag} {c:Addr} {o:Obj} {vs:Array Value} {q:Str} {t:Tok} (h:K.lookup c=some o) (hd:o.data=.fields vs) (hv:vs[1]?=some (.str q t)):W.codeIn K (.ref c) q=true:=by
 obtain⟨i,g,d,e⟩:=o;have hd:d=.fields vs:=hd;subst hd;unfold W.codeIn;dsimp only;rw[show List.lookup c K=_ from h];obtain⟨l⟩:=vs
 have hv:l[1]?=some (.str q t):=by simpa using hv
 match l,hv with
 | a :: b :: r,hv =>
  have f:b=.str q t:=by simpa using hv
  subst f;show (q == q)=true;simp
theorem Zs7 {K:W.Frag} {f:Addr} {oc:Value} {od:Option Addr} {fd:FuncData} {sl:Array (Option Value)} (h:K.lookup f=some ⟨oc,od,.func fd,sl⟩):W.keepIn K (.ref f)=true:=by
 unfold W.keepIn;dsimp only;rw[show List.lookup f K=_ from h]
theorem Ya7 {K K':W.Frag} (k:KLe K K') {cd:Value} {q:Str} (h:W.codeIn K cd q=true):W.codeIn K' cd q=true:=by
 cases cd with
 | ref c =>
  unfold W.codeIn at h ⊢;dsimp only at h ⊢
  cases z:List.lookup c K with
  | none=>rw[z] at h;cases h
  | some o =>
   rw[z] at h;rw[show List.lookup c K'=some o from k c o z];exact h
 | _=>exact absurd h (by simp[W.codeIn])
theorem Fun.le {K K':W.Frag} (k:KLe K K') {x qual:Str} {st:Stmt} {f:Addr} {fd:FuncData} (F:Fun K x qual st f fd):Fun K' x qual st f fd:=by
 obtain⟨⟨j,i,l,d,h,n,g,m,a,e,b,c⟩,o⟩:=F;exact⟨⟨j,i,l,d,h,n,g,m,a,e,k _ _ b,Ya7 k c⟩,Zs7 (k _ _ b)⟩
theorem Binds.le {K K':W.Frag} (k:KLe K K') {fd:FuncData} {ps:List Str} {ds:List Value} (b:Binds K fd ps ds):Binds K' fd ps ds:=fun s c h d=>b s c (fun a o e=>h a o (k a o e)) d
theorem SqT.le {K K':W.Frag} (k:KLe K K') {H:Hp} {a:Addr} {xs:List V} (h:SqT K H a xs):SqT K' H a xs:=by
 rcases h with h | ⟨o,b,n,e,r⟩
 ·exact .inl h
 ·exact .inr ⟨o,b,n,k a o e,r⟩
structure FunT (K:W.Frag) (x qual:Str) (st:Stmt) (f:Addr) (fd:FuncData) (P:Addr):Prop where
 ex:∃ (oc:Value) (od:Option Addr) (kV doc pm:Value) (an:Option Addr) (c:Addr) (ct:Value) (osl:Array (Option Value)),
  fd=W.fnOf x qual (Zd6 st) (Zc7 st) (Za5 st) .none kV doc pm an (.ref c) ct∧K.lookup f=some ⟨oc,od,.func fd,osl⟩∧W.codeIn K (.ref c) qual=true∧∀ h,K.In h→W.CodeHd h c P
 kp:W.keepIn K (.ref f)=true
theorem FunT.ok {P:Program} {w:World} {K:W.Frag} {mg:Str→Option Value} {base:Heap} {x qual:Str} {st:Stmt} {f:Addr} {fd:FuncData} {T:Addr} {N ps:List Str} {k:Nat} {sp:Sp} (F:FunT K x qual st f fd T) (S:FnScope N ps (Za5 st)) (len:∀ vs H Q E,sp vs H Q E→vs.length=ps.length)
  (hbody:∀ (c:Addr) (A:Around) (outer:List Env) (s:Shared) (H:Hp) (vs:List V) (Q:VK) (E:XK),(∀ h,K.In h→W.CodeHd h c T)→Room k (A.deeper (envOfC qual (Za5 st) s.heap.objs.size f (.ref c)))→sp vs H Q E →
   ∃ t,PSs (cxOf CX0 P w K mg base N qual (Za5 st) f (.ref c) A outer s H E).nox (Zc7 st) t∧t { nx:=fun _ H'=>Q .non H',rt:=Q } (start N vs) H):FnOk P w K mg base CX0 (k+1) f fd ps sp:=by
 obtain⟨n,m,o,j,l,r,c,p,i,rfl,d,b,g⟩:=F.ex;refine fn_of d b S len fun A outer s H vs Q E e a=>?_;obtain⟨t,h,q⟩:=hbody c A outer s H vs Q E g e a;exact⟨t,h.nox,q⟩
structure FunC (K:W.Frag) (x qual:Str) (st:Stmt) (cl:List (Str×Addr)) (f:Addr) (fd:FuncData):Prop where
 ex:∃ (oc:Value) (od:Option Addr) (doc pm cdv ct:Value) (osl:Array (Option Value)),
  fd=W.fnX x qual (Zd6 st) (Zc7 st) (Za5 st) cl .none .none doc pm none cdv ct∧K.lookup f=some ⟨oc,od,.func fd,osl⟩∧W.codeIn K cdv qual=true
 kp:W.keepIn K (.ref f)=true
theorem FunC.ok {P:Program} {w:World} {K:W.Frag} {mg:Str→Option Value} {base:Heap} {x qual:Str} {st:Stmt} {cl:List (Str×Addr)} {f:Addr} {fd:FuncData} {N ps fv:List Str} {frv:List V} {k:Nat} {sp:Sp} (F:FunC K x qual st cl f fd) (S:FnScopeC N ps fv (Za5 st)) (C:Caught K (Za5 st) cl fv frv) (len:∀ vs H Q E,sp vs H Q E→vs.length=ps.length)
  (hbody:∀ (cdv:Value) (A:Around) (outer:List Env) (s:Shared) (H:Hp) (vs:List V) (Q:VK) (E:XK),Room k (A.deeper (W.envX qual (Za5 st) s.heap.objs.size f cdv cl))→sp vs H Q E →
   ∃ t,PSs (cxC CX0 P w K mg base N qual (Za5 st) f cdv cl A outer s H E).nox (Zc7 st) t∧t { nx:=fun _ H'=>Q .non H',rt:=Q } (start N (vs++frv)) H):FnOk P w K mg base CX0 (k+1) f fd ps sp:=by
 obtain⟨l,j,g,i,cdv,m,e,rfl,c,b⟩:=F.ex;refine Wk1 c b S C len fun A outer s H vs Q E d a=>?_;obtain⟨t,h,q⟩:=hbody cdv A outer s H vs Q E d a;exact⟨t,h.nox,q⟩
theorem FunC.binds {K:W.Frag} {x qual:Str} {st:Stmt} {cl:List (Str×Addr)} {f:Addr} {fd:FuncData} {ps:List Str} (F:FunC K x qual st cl f fd)
  (h:∀ (doc pm cdv ct:Value) (us:List Value),us.length=ps.length→bindArgs (W.fnX x qual (Zd6 st) (Zc7 st) (Za5 st) cl .none .none doc pm none cdv ct) ⟨us,[]⟩=pure (ps.zip us)):Binds K fd ps []:=by
 obtain⟨d,c,doc,pm,cdv,ct,a,rfl,e,b⟩:=F.ex;exact .all (h doc pm cdv ct)
def Zv6 (X:Cx) (K:W.Frag) (x:Str) (v:V):Prop:=∃ c o u,X.env.cells.lookup x=some c∧K.lookup c=some o∧o.data=.cell (some u)∧RelV v u
theorem Zo2 {X:Cx} {K:W.Frag} {sc:Scope} {fv:List Str} {frv:List V} (ok:X.Ok) (hlen:frv.length=fv.length) (h1:∀ y∈sc.names,y.2=.free→y.1∈fv) (h2:∀ x∈fv,(x,NameKind.free)∈sc.names)
  (hc:∀ (i:Nat) (x:Str) (v:V),fv[i]?=some x→frv[i]?=some v→Zv6 X K x v):Caught K sc (Zj2 X.env.cells sc.names []) fv frv:=by
 have b:∀ x c,(Zj2 X.env.cells sc.names []).lookup x=some c→x∈fv∧c=(X.env.cells.lookup x).getD 0:=fun x c e=>by
  rcases Zt2 (PySem.mem_of_lookup e) with z | ⟨w,t⟩
  ·exact absurd z (by simp)
  ·exact⟨h1 _ w rfl,t⟩
 have h:∀ x∈fv,∃ i v,fv[i]?=some x∧frv[i]?=some v:=fun x a=>by
  obtain⟨i,I,e⟩:=List.getElem_of_mem a;exact⟨i,frv[i]'(by omega),by rw[List.getElem?_eq_getElem I,e],List.getElem?_eq_getElem _⟩
 have q:∀ x,x∈fv→∃ c,(Zj2 X.env.cells sc.names []).lookup x=some c:=fun x a=>by
  obtain⟨c,G⟩:=Zt3 (cells:=X.env.cells) (acc:=[]) (.inl (h2 x a));exact Zs6 G
 refine⟨hlen,fun i x v g k=>?_,fun x c e=>?_,fun x y c g k=>?_,fun x e=>?_⟩
 ·obtain⟨c,o,u,f,d,p,r⟩:=hc i x v g k
  obtain⟨s,e⟩:=q x (List.mem_of_getElem? g);have:=(b x s e).2;rw[f] at this;cases this;exact⟨c,o,u,e,d,p,r⟩
 ·obtain⟨a,n⟩:=b x c e
  obtain⟨i,v,g,k⟩:=h x a;obtain⟨s,o,u,f,d,p,r⟩:=hc i x v g k;rw[f] at n;cases n;exact⟨o,_,d,p⟩
 ·obtain⟨a,m⟩:=b x c g
  obtain⟨F,l⟩:=b y c k;obtain⟨i,v,D,C⟩:=h x a;obtain⟨j,u,B,A⟩:=h y F;obtain⟨L,_,_,f,_⟩:=hc i x v D C;obtain⟨J,_,_,d,_⟩:=hc j y u B A;rw[f] at m;rw[d] at l;cases m;cases l;exact ok.inj x y _ f d
 ·exact q x (h1 _ (PySem.mem_of_lookup e) rfl)
mutual
theorem Dn.moveT {K K':W.Frag} {H H':Hp} (k:∀ a xs,SqT K H a xs→SqT K' H' a xs):∀ {d:PyData} {v:V},noList d=true→Dn K H v d→Dn K' H' v d
 | .none,v,_,h=>by rw[Dn] at h ⊢;exact h
 | .bool _,v,_,h=>by rw[Dn] at h ⊢;exact h
 | .int _,v,_,h=>by rw[Dn] at h ⊢;exact h
 | .str _,v,_,h=>by rw[Dn] at h ⊢;exact h
 | .list _,v,n,h=>by rw[noList] at n;cases n
 | .dict _,v,n,h=>by rw[noList] at n;cases n
 | .tuple ds,v,n,h=>by
  rw[Dn] at h ⊢;rw[noList] at n;obtain⟨a,xs,e,hs,hd⟩:=h;exact⟨a,xs,e,k a xs hs,DnAll.moveT k n hd⟩
theorem DnAll.moveT {K K':W.Frag} {H H':Hp} (k:∀ a xs,SqT K H a xs→SqT K' H' a xs):∀ {ds:List PyData} {xs:List V},noLists ds=true→DnAll K H xs ds→DnAll K' H' xs ds
 | [],xs,_,h=>by rw[DnAll] at h ⊢;exact h
 | d :: ds,xs,n,h=>by
  rw[DnAll] at h ⊢;rw[noLists,Bool.and_eq_true] at n;obtain⟨x,r,e,h1,h2⟩:=h;exact⟨x,r,e,Dn.moveT k n.1 h1,DnAll.moveT k n.2 h2⟩
end
theorem Yc0 {K K':W.Frag} {H:Hp} {xs:List (Addr×Obj)} (hx:∀ p∈xs,H p.1=some (FZ p.2)) (k:KLe K K') (a:Addr) (ys:List V) (h:SqT K H a ys):SqT K' (remX xs H) a ys:=by
 have c:∀ {b:Addr} {u:HO},H b=some u→(∀ o,u≠FZ o)→b ∉ xs.map (·.1):=fun {b u} e n z=>by
  obtain⟨p,f,rfl⟩:=List.mem_map.mp z;rw[hx p f] at e;cases e;exact n p.2 rfl
 rcases h with (h | ⟨o,h⟩) | ⟨o,d,n,e,r⟩
 ·exact .inl (.inl (by rw[Zd8 (c h fun _ z=>nomatch z)];exact h))
 ·exact .inl (.inr ⟨o,by rw[Zd8 (c h fun _ z=>by cases z)];exact h⟩)
 ·exact .inr ⟨o,d,n,k a o e,r⟩
theorem Ye0 {K K':W.Frag} {H H2:Hp} {xs cs:List (Addr×Obj)} (k:∀ a o,K'.lookup a=some o→K.lookup a=some o∨(a,o)∈xs++cs) (hn:∀ p∈xs++cs,∀ its n,p.2.data≠.seq its n) (hx:∀ p∈xs,H2 p.1=none) (a:Addr) (ys:List V) (h:SqT K' H2 a ys):SqT K (Yb1 xs H H2) a ys:=by
 have c:∀ {b:Addr} {u:HO},H2 b=some u→b ∉ xs.map (·.1):=fun {b u} e z=>by
  obtain⟨p,i,rfl⟩:=List.mem_map.mp z;rw[hx p i] at e;cases e
 rcases h with (h | ⟨o,h⟩) | ⟨o,its,n,e,g,d,f⟩
 ·exact .inl (.inl (by rw[Ze5 (c h)];exact h))
 ·exact .inl (.inr ⟨o,by rw[Ze5 (c h)];exact h⟩)
 ·rcases k a o e with z | z
  ·exact .inr ⟨o,its,n,z,g,d,f⟩
  ·exact absurd d (hn _ z its n)
end L2
namespace Ken
open PySem L2
theorem SameT.keepT {K:W.Frag} {H H':Hp} (e:SameT H H'):KeepT K H H':=fun a b h=>by
 rcases h with (h | ⟨o,h⟩) | h
 ·exact .inl (.inl (e _ _ (fun _ z=>nomatch z) h))
 ·exact .inl (.inr ⟨o,e _ _ (fun _ z=>nomatch z) h⟩)
 ·exact .inr h
theorem SameT.seq {K:W.Frag} {H H':Hp} {a:Addr} {xs:List V} (e:SameT H H') (h:SqL K H a xs):SqL K H' a xs:=by
 rcases h with (h | ⟨o,h⟩) | h
 ·exact .inl (.inl (e _ _ (fun _ z=>nomatch z) h))
 ·exact .inl (.inr ⟨o,e _ _ (fun _ z=>nomatch z) h⟩)
 ·exact .inr h
section
variable {X:Cx} {pins:List (Addr×Obj)} {σ:St} {H:Hp} {s:Shared}
theorem isT_inj (I:Inv X pins σ H s):∀ {a b:Tm} {v:V},IsT X.K H v a→IsT X.K H v b→a=b
 | .low,b,v,h,g=>by
  obtain⟨p,rfl,hs⟩:=isT_low.mp h
  cases b with
  | low=>rfl
  | ltr w =>
   obtain⟨q,e,gs⟩:=isT_ltr.mp g;cases e;exact absurd (I.tuple_inj hs gs) (by simp)
  | nd k x y =>
   obtain⟨q,_,_,e,gs,_⟩:=isT_nd.mp g;cases e;exact absurd (I.tuple_inj hs gs) (by simp)
 | .ltr w,b,v,h,g=>by
  obtain⟨p,rfl,hs⟩:=isT_ltr.mp h
  cases b with
  | low =>
   obtain⟨q,e,gs⟩:=isT_low.mp g;cases e;exact absurd (I.tuple_inj hs gs) (by simp)
  | ltr w' =>
   obtain⟨q,e,gs⟩:=isT_ltr.mp g;cases e;have:=I.tuple_inj hs gs;simp only[List.cons.injEq,V.str.injEq,and_true,true_and] at this;rw[this]
  | nd k x y =>
   obtain⟨q,_,_,e,gs,_⟩:=isT_nd.mp g;cases e;exact absurd (I.tuple_inj hs gs) (by simp)
 | .nd k x y,b,v,h,g=>by
  obtain⟨p,vx,vy,rfl,hs,hx,hy⟩:=isT_nd.mp h
  cases b with
  | low =>
   obtain⟨q,e,gs⟩:=isT_low.mp g;cases e;exact absurd (I.tuple_inj hs gs) (by simp)
  | ltr w' =>
   obtain⟨q,e,gs⟩:=isT_ltr.mp g;cases e;exact absurd (I.tuple_inj hs gs) (by simp)
  | nd k' x' y' =>
   obtain⟨q,_,_,e,gs,gx,gy⟩:=isT_nd.mp g;cases e;have:=I.tuple_inj hs gs;simp only[List.cons.injEq,V.str.injEq,and_true] at this;obtain⟨e1,rfl,rfl⟩:=this;rw[Kd.str_inj e1,isT_inj I hx gx,isT_inj I hy gy]
end
end Ken
namespace L2
open PySem PySem.Spec PyProof.Rows
section
variable {X:Cx}
def rInT (K:W.Frag) (neg:Bool):R2:=fun x y H Q=>∃ (t:Ken.Tm) (p:Addr) (xs:List V) (ts:List Ken.Tm),Ken.IsT K H x t∧y=.ref p∧SqL K H p xs∧Paired (Ken.IsT K H) xs ts∧t.ok∧(∀ s∈ts,s.ok)∧t.deep≤140∧Q (.bl (if neg then !decide (t∈ts) else decide (t∈ts))) H
theorem Xt4 {pins:List (Addr×Obj)} {σ:St} {H:Hp} {s:Shared} {x:V} {v:Value} {t:Ken.Tm} {xs:List V} {ts:List Ken.Tm} {its:List Value} (hu:X.A.units+150 < cLine) (I:Inv X pins σ H s) (rx:RelV x v) (hT:Ken.IsT X.K H x t) (hP:Paired (Ken.IsT X.K H) xs ts) (r:Vals xs its) (ho:t.ok) (hs:∀ s∈ts,s.ok) (hd:t.deep≤140) :
  ∃ e:Value→Bool,(∀ w∈its,SeqAt.EqAt X.A.in1 s w v (e w))∧its.any e=decide (t∈ts)∧∀ (j:Nat) (w:Value),its[j]?=some w→e w=true→ts[j]?=some t:=by
 classical
 have l1:=Paired.length hP;have l2:=r.length
 have k:∀ (i j:Nat) (w:Value) (a b:Ken.Tm),its[i]?=some w→its[j]?=some w→ts[i]?=some a→ts[j]?=some b→a=b:=by
  intro i j w a b o f O N
  have M:i < xs.length:=by have:=(List.getElem?_eq_some_iff.mp O).1;omega
  have c:j < xs.length:=by have:=(List.getElem?_eq_some_iff.mp N).1;omega
  obtain⟨a',g,d⟩:=Ken.paired_get hP (List.getElem?_eq_getElem M);obtain⟨b',S,C⟩:=Ken.paired_get hP (List.getElem?_eq_getElem c);obtain⟨T,p,l⟩:=r.get (List.getElem?_eq_getElem M);obtain⟨u2,R,G⟩:=r.get (List.getElem?_eq_getElem c);rw[O] at g;cases g;rw[N] at S;cases S;rw[o] at p;cases p;rw[f] at R;cases R;obtain⟨p1,_,z,_⟩:=Ken.isT_tup d;obtain⟨p2,_,y,_⟩:=Ken.isT_tup C;rw[z] at l d;rw[y] at G C;have B:w=.ref p1:=l;have q:w=.ref p2:=G;rw[B] at q;cases q;exact Ken.isT_inj I d C
 refine⟨fun w=>decide (∃ j:Nat,its[j]?=some w∧ts[j]?=some t),fun w L=>?_,?_,fun j w c Y=>?_⟩
 ·obtain⟨j,c,F⟩:=List.mem_iff_getElem.mp L
  have u:j < xs.length:=by omega
  have m:j < ts.length:=by omega
  obtain⟨a,g,d⟩:=Ken.paired_get hP (List.getElem?_eq_getElem u);obtain⟨T,p,l⟩:=r.get (List.getElem?_eq_getElem u)
  have D:its[j]?=some w:=by rw[List.getElem?_eq_getElem c,F]
  rw[D] at p;cases p
  have J:decide (∃ j:Nat,its[j]?=some w∧ts[j]?=some t)=decide (a=t):=by
   by_cases h:a=t
   ·rw[decide_eq_true h,decide_eq_true ⟨j,D,by rw[g,h]⟩]
   ·rw[decide_eq_false h,decide_eq_false]
    rintro⟨i,o,f⟩;exact h (k j i w a t D o g f)
  show SeqAt.EqAt X.A.in1 s w v (decide (∃ j:Nat,its[j]?=some w∧ts[j]?=some t));rw[J];obtain⟨p1,_,z,_⟩:=Ken.isT_tup d;obtain⟨p2,_,y,_⟩:=Ken.isT_tup hT;rw[z] at l d;rw[y] at rx hT;have B:w=.ref p1:=l;have q:v=.ref p2:=rx;subst B;subst q
  by_cases h:p1=p2
  ·subst h
   rw[decide_eq_true (Ken.isT_inj I d hT)];exact SeqAt.EqAt.same _
  ·obtain⟨as,W⟩:=Dn.reads I d (show RelV (.ref p1) (.ref p1) from rfl)
   obtain⟨bs,U⟩:=Dn.reads I hT (show RelV (.ref p2) (.ref p2) from rfl);rw[← Ken.Tm.eqv];have Z:X.A.in1.units=X.A.units+1:=rfl
   have dm:min a.data.depth t.data.depth≤140:=by rw[Ken.Tm.depth,Ken.Tm.depth];omega
   exact SeqAt.EqAt.of_refs h (SeqAt.rcAt_reads W U (a.lay (hs a (List.mem_of_getElem? g))) (t.lay ho) (by omega))
 ·rw[Bool.eq_iff_iff,List.any_eq_true,decide_eq_true_iff]
  constructor
  ·rintro⟨w,L,h⟩
   obtain⟨j,_,f⟩:=of_decide_eq_true h;exact List.mem_of_getElem? f
  ·intro h
   obtain⟨j,c,F⟩:=List.mem_iff_getElem.mp h
   have n:j < its.length:=by omega
   exact⟨its[j],List.getElem_mem n,decide_eq_true ⟨j,List.getElem?_eq_getElem n,by rw[List.getElem?_eq_getElem c,F]⟩⟩
 ·obtain⟨i,o,f⟩:=of_decide_eq_true Y
  have n:j < its.length:=(List.getElem?_eq_some_iff.mp c).1
  have m:j < ts.length:=by omega
  rw[List.getElem?_eq_getElem m,k j i w ts[j] t c o (List.getElem?_eq_getElem m) f]
theorem Xs8 (hu:X.A.units+150 < cLine):OpR X (compareOp .In) (rInT X.K false):=by
 intro f s B H x y v u Q I c b h;obtain⟨t,p,C,D,n,rfl,j,o,k,i,m,q⟩:=h;cases b;obtain⟨a,r,d,F⟩:=I.list j;obtain⟨e,l,z,_⟩:=Xt4 hu I c n o r k i m;refine SeqAt.in_listAt e d.isList (fun w g=>l w (by simpa using g)) ⟨.bl _,H,I,rfl,?_⟩;rw[show a.toArray.any e=a.any e by simp,z];exact q
end
open Ken
end L2
namespace Ken
open PySem L2
end Ken
namespace L2
open PySem PySem.Spec PyProof.Rows
noncomputable def Itd (lo:Int) (n:Nat):It:=⟨fun i _=>i < n,fun i H x H'=>H'=H∧x=.int (lo - i),fun i _=>n≤i⟩
theorem Xc5 {P:Program} {w:World} {K:W.Frag} {tg:Expr} (it:Addr) (lo:Int) (n:Nat):Turn P w K tg (Itd lo n) [it] it (fun i h=>IsRangeIter h it (lo+(i:Nat)*(-1)) ((n:Int) - (i:Nat)) (-1)) where
  mem:=by simp
  obj:=fun i h a b c=>by
    have e:b=it:=by simpa using c
    subst e
    exact⟨_,a,fun v z=>by
      have F:Data.fields _=Data.cell v:=z
      cases F⟩
  keep:=fun i h g a k=>k it (by simp) _ a
  item:=by
    intro X q l r p i d s C H E I f a m;subst q l r;obtain⟨B,A,L,y,x,u⟩:=f it (by simp);have W:=Walks.range (prog:=X.prog) (w:=X.w) (I.ok.hd p) it lo (-1) n;refine W.item i s _ _ m a fun v g D J j G=>?_;obtain⟨t,rfl⟩:=J;have N:Inv X d C H { s with heap:=g,toks:=D }:=I.turned (fun b o c e=>G b o (by simpa using c) e) B A y x u;refine⟨_,rfl,Xi9 (s:={ s with heap:=g,toks:=D }) (n:="range_iterator") j rfl rfl (by decide) ⟨.int (lo - i),H,N,⟨t,?_⟩,⟨rfl,rfl⟩,j,fun b c=>(f b c).1⟩⟩;rw[show lo+(i:Int)*(-1)=lo - i by omega]
  done:=by
    intro X q l r p i d s C H E I f a m;subst q l r;obtain⟨B,A,L,y,x,u⟩:=f it (by simp);exact wpAny_pyNext_range_end (I.ok.hd p) a (by have:n≤i:=m;omega) fun g M=>⟨rfl,I.turned (t':=s.toks) (fun b o c e=>M b o c e) B A y x u⟩
  self:=fun _ _ _ _ _ a h=>wpAny_pyIter_rangeiter a h
theorem Xr2 {lo:Int} {n:Nat} {g:TG} {tb:TS} {D:Ends} {σ:St} {H:Hp} (Pv:Nat→St→Hp→Prop) (h0:Pv 0 σ H)
  (hs:∀ i σ H,i < n→Pv i σ H→g (.int (lo - i)) σ H fun σ2 H2=>tb { D with nx:=Pv (i+1),ct:=Pv (i+1),bk:=D.nx } σ2 H2) (hd:∀ σ H,Pv n σ H→D.nx σ H) :
  ∃ W:Nat→Nat→St→Hp→Prop,(∃ m,W 0 m σ H)∧∀ i m σ H,W i m σ H →
   ((Itd lo n).stop i H∧D.nx σ H)∨((Itd lo n).go i H∧∃ N:St→Hp→Prop,(∀ σ' H',N σ' H'→∃ m',m' < m∧W (i+1) m' σ' H')∧∀ x H',(Itd lo n).yld i H x H'→g x σ H' fun σ2 H2=>tb { D with nx:=N,ct:=N,bk:=D.nx } σ2 H2):=by
 refine⟨fun i m σ H=>m=n - i∧i≤n∧Pv i σ H,⟨n,by simp,Nat.zero_le _,h0⟩,?_⟩;rintro i m σ H ⟨rfl,b,p⟩
 by_cases hlt:i < n
 ·refine .inr ⟨hlt,Pv (i+1),fun σ' H' a=>⟨n - (i+1),by omega,rfl,hlt,a⟩,fun x H' y=>?_⟩
  obtain⟨rfl,rfl⟩:=y;exact hs i σ H' hlt p
 ·have:i=n:=by omega
  subst this;exact .inl ⟨Nat.le_refl _,hd σ H p⟩
section
variable {X:Cx}
def Zq1 (K:W.Frag):V→List V→Hp→VK→Prop:=fun x vs H Q=>∃ (y:V) (t:Ken.Tm) (p:Addr) (xs:List V) (ts:List Ken.Tm),x=.ref p∧vs=[y]∧Ken.IsT K H y t∧SqL K H p xs∧Paired (Ken.IsT K H) xs ts∧t.ok∧(∀ s∈ts,s.ok)∧t.deep≤140∧t∈ts ∧
 ∀ j:Nat,ts[j]?=some t→Q (.int (j:Nat)) H
theorem Yl0 {K:W.Frag} (hK:X.K=K) (hu:X.A.units+150 < cLine):MtR X "list.index" (Zq1 K):=by
 subst hK;intro Z s σ H x vs v us Q I U V h;obtain⟨y,t,p,xs,R,rfl,rfl,hT,hq,M,ho,hs,hd,c,q⟩:=h;cases U;obtain⟨u,rfl,Y⟩:=V.one;obtain⟨a,r,C,k⟩:=I.list hq;obtain⟨e,J,O,N⟩:=Xt4 hu I Y hT M r ho hs hd;obtain⟨⟨q1,dd,q0,T⟩,d,L,n,i⟩:=id C.isList;simp only at L i;subst L i;rw[decide_eq_true c,List.any_eq_true] at O;have l1:=Paired.length M;have D:=r.length
 have hf:∃ j,∃ h:j < a.length,e a[j]=true∧∀ m (c:m < a.length),m < j→e a[m]=false:=by
  clear J k r C D d N;obtain⟨w,G,ew⟩:=O
  induction a with
  | nil=>cases G
  | cons b a ih =>
   by_cases hb:e b=true
   ·exact⟨0,by simp,hb,fun m _ h=>absurd h (Nat.not_lt_zero _)⟩
   ·rcases List.mem_cons.mp G with z | z
    ·subst z;exact absurd ew hb
    ·obtain⟨j,h1,f,B⟩:=ih z
     refine⟨j+1,by rw[List.length_cons];omega,by simpa using f,fun m c g=>?_⟩
     cases m with
     | zero=>simpa using hb
     | succ m=>simpa using B m (by rw[List.length_cons] at c;omega) (by omega)
 obtain⟨j,l,f,B⟩:=hf
 have S:R[j]?=some t:=by
  exact N j a[j] (List.getElem?_eq_getElem l) f
 refine call_meets PySem.F.slot_list_index ⟨_,d,rfl⟩ PySem.F.entry_list_index (PySem.F.args_list_index_2 _ _)
  (SeqAt.list_indexAt p a.toArray n dd T u e j (by simpa using l) (by rw[← D] at l;exact Int.lt_of_lt_of_le (show (j:Int) < (sizeLine:Int) by omega) (by decide)) (by simpa using f) (fun m c g=>by simpa using B m (by simpa using c) g)) ⟨d,fun z k=>J z (by simpa using k),?_⟩
 exact⟨.int (j:Nat),H,I.kept (h':=s.heap) (t':=s.toks+1) fun b o e=>e,⟨_,rfl⟩,q j S⟩
end
section
variable {X:Cx} {scope:Scope} {cl:List (Str×Addr)} {N':List Str} {nt:Nat} {ci:List Nat} {pins:List (Addr×Obj)} {σ:St} {H:Hp} {s:Shared}
theorem Wk6 {P:Program} {w:World} (H:Hp) (h:Heap) (a:Addr) (e:h.get? a=some { cls:=.type "dict",dict:=none,data:=.dict #[] }) (hb:sysModules < a):ObjOk P w (upd H a (.dK [])) h a (.dK []) :=
 ⟨Nat.zero_le _,beq_eq_false_iff_ne.mpr (Ne.symm (Nat.ne_of_lt hb)),[],.nil,_,#[],0,e,⟨rfl,rfl,rfl⟩,rfl,fun _ b=>by simp at b,Pairs.nil,List.nodup_nil⟩
theorem We5 {ek ev tg iter:Expr} {ifs:List Expr} {gs:List Comprehension} {pos p0:Pos} {wi:TI} {g:TG} {tk:Addr→TK} {body:Addr→Env→Sem Unit} (B:X.Ok→BlkOk X scope cl N' nt ci) (hc:X.calm=true) (hi:PI X tg iter wi)
  (hg:∀ s H C ex,PG (blk X N' scope cl s H C ex) tg g) (htn:∀ a env,Zt6 (.DictComp ek ev (⟨tg,iter,ifs,0⟩ :: gs) scope pos) 0 tg p0 (.ref a) env (body a env))
  (hb:∀ s H C ex a,PTn (blk X N' scope cl s H C ex) (body a (blk X N' scope cl s H C ex).env) (tk a)) (hs:∀ x,foldedSetIterable iter X.env x=pure x:=by intro _;rfl) :
  PE X (.DictComp ek ev (⟨tg,iter,ifs,0⟩ :: gs) scope pos) (Yd8 nt ci wi g tk (.dK [])):=by
 intro j s w H Q I h;rw[arm_eval_DictComp];refine Xl6 (B I.ok) hc hi hg rfl (fun _ _=>Wn8) htn hb (fun h=>wpAny_newObj_type h) rfl Wk6 hs I h fun d C i v u q c k y=>?_;obtain⟨m,c⟩:=c;obtain⟨t,r,A,p,n,l⟩:=k;exact⟨m,c,fun z f=>⟨.ref d,v,u.turned (t':=i.toks) (fun b o hb e=>(f.2 b hb).trans e) t r p n l,rfl,q⟩⟩
end
end L2
namespace Ken
open PySem L2
end Ken
namespace L2
open PySem PySem.Spec PyProof.Rows
end L2
namespace Ken
open PySem L2
theorem Xy4 {n j:Nat} (h:j < n):ixN n (j:Int)=some j:=by
 unfold ixN;simp;omega
end Ken
namespace PySem.SeqAt
open PySem PySem.MeetsSeq L2 PyProof.Rows
end PySem.SeqAt
namespace L2
open PySem PySem.Spec PyProof.Rows
end L2
namespace Ken
open PySem L2
end Ken
namespace PySem.SeqAt
open PySem PySem.MeetsSeq L2 PyProof.Rows
end PySem.SeqAt
namespace Ken
open PySem L2 PySem.SeqAt
end Ken
namespace L2
open PySem PySem.Spec PyProof.Rows
end L2
namespace Ken
open PySem L2
end Ken
namespace L2
open PySem PySem.Spec PyProof.Rows
end L2
namespace Ken
open PySem L2
open PyProof.Rows
inductive U5 where
 | left | right | first | second | off
 deriving DecidableEq
noncomputable def U5.str:U5→Str
 | .left=>"left"
 | .right=>"right"
 | .first=>"first"
 | .second=>"second"
 | .off=>"off"
inductive U2 where
 | pair | use
 deriving DecidableEq
noncomputable def U2.str:U2→Str
 | .pair=>"pair"
 | .use=>"use"
inductive Te where
 | at (k:Nat)
 | one (u:U5) (a:Te) (ss:List Tm)
 | two (u:U2) (a b:Te)
 | fn (s:Tm) (a:Te)
 | cs (a b c:Te)
 deriving DecidableEq
noncomputable def Te.tag:Te→Str
 | .at _=>"at"
 | .one u _ _=>u.str
 | .two u _ _=>u.str
 | .fn _ _=>"fun"
 | .cs _ _ _=>"cases"
noncomputable def Te.data:Te→PyData
 | .at k=>.tuple [.str "at",.int (k:Nat)]
 | .one u a ss=>.tuple (.str u.str :: a.data :: ss.map Tm.data)
 | .two u a b=>.tuple [.str u.str,a.data,b.data]
 | .fn s a=>.tuple [.str "fun",s.data,a.data]
 | .cs a b c=>.tuple [.str "cases",a.data,b.data,c.data]
noncomputable def Te.items:Te→List PyData
 | .at k=>[.str "at",.int (k:Nat)]
 | .one u a ss=>.str u.str :: a.data :: ss.map Tm.data
 | .two u a b=>[.str u.str,a.data,b.data]
 | .fn s a=>[.str "fun",s.data,a.data]
 | .cs a b c=>[.str "cases",a.data,b.data,c.data]
theorem Te.data_eq (t:Te):t.data=.tuple t.items:=by cases t<;>rfl
noncomputable def Te.kids:Te→List (Te×Nat)
 | .at _=>[]
 | .one _ a _=>[(a,0)]
 | .two _ a b=>[(a,0),(b,0)]
 | .fn _ a=>[(a,1)]
 | .cs a b c=>[(a,0),(b,1),(c,1)]
noncomputable def Te.plc:Te→List Nat
 | .at _=>[]
 | .one _ _ _=>[1]
 | .two _ _ _=>[1,2]
 | .fn _ _=>[2]
 | .cs _ _ _=>[1,2,3]
noncomputable def Te.inn (t:Te):List (Nat×Nat):=List.zip t.plc (t.kids.map (·.2))
theorem Te.plc_len (t:Te):t.plc.length=t.kids.length:=by cases t<;>rfl
theorem Te.inn_len (t:Te):t.inn.length=t.kids.length:=by cases t<;>rfl
theorem Te.inn_at {t:Te} {i p m:Nat} (h:t.inn[i]?=some (p,m)):∃ k,t.kids[i]?=some (k,m)∧t.items[p]?=some k.data∧t.plc[i]?=some p∧1≤p∧p≤3:=by
 cases t with
 | «at» k=>cases i<;>cases h
 | one u a ss =>
  match i,h with
  | 0,h=>cases h;exact⟨a,rfl,rfl,rfl,by decide,by decide⟩
  | i+1,h=>cases i<;>cases h
 | two u a b =>
  match i,h with
  | 0,h=>cases h;exact⟨a,rfl,rfl,rfl,by decide,by decide⟩
  | 1,h=>cases h;exact⟨b,rfl,rfl,rfl,by decide,by decide⟩
  | i+2,h=>cases i<;>cases h
 | fn s a =>
  match i,h with
  | 0,h=>cases h;exact⟨a,rfl,rfl,rfl,by decide,by decide⟩
  | i+1,h=>cases i<;>cases h
 | cs a b c =>
  match i,h with
  | 0,h=>cases h;exact⟨a,rfl,rfl,rfl,by decide,by decide⟩
  | 1,h=>cases h;exact⟨b,rfl,rfl,rfl,by decide,by decide⟩
  | 2,h=>cases h;exact⟨c,rfl,rfl,rfl,by decide,by decide⟩
  | i+3,h=>cases i<;>cases h
noncomputable def Te.withK:Te→List Te→Te
 | .one u _ ss,[x]=>.one u x ss
 | .two u _ _,[x,y]=>.two u x y
 | .fn s _,[x]=>.fn s x
 | .cs _ _ _,[x,y,z]=>.cs x y z
 | t,_=>t
noncomputable def Zj0 {α:Type}:List α→List Nat→List α→List α
 | xs,p :: ps,y :: ys=>Zj0 (xs.set p y) ps ys
 | xs,_,_=>xs
theorem Te.withK_items {t:Te} {ks:List Te} (h:ks.length=t.kids.length):(t.withK ks).items=Zj0 t.items t.plc (ks.map Te.data):=by
 cases t with
 | «at» k=>cases ks<;>first | rfl | cases h
 | one u a ss=>match ks,h with | [x],_=>rfl
 | two u a b=>match ks,h with | [x,y],_=>rfl
 | fn s a=>match ks,h with | [x],_=>rfl
 | cs a b c=>match ks,h with | [x,y,z],_=>rfl
noncomputable def Te.size:Te→Nat
 | .at _=>1
 | .one _ a _=>1+a.size
 | .two _ a b=>1+a.size+b.size
 | .fn _ a=>1+a.size
 | .cs a b c=>1+a.size+b.size+c.size
noncomputable def Te.deep:Te→Nat
 | .at _=>1
 | .one _ a _=>1+a.deep
 | .two _ a b=>1+max a.deep b.deep
 | .fn _ a=>1+a.deep
 | .cs a b c=>1+max a.deep (max b.deep c.deep)
def Te.all (p:Tm→Prop):Te→Prop
 | .at _=>True
 | .one _ a ss=>a.all p∧∀ s∈ss,p s
 | .two _ a b=>a.all p∧b.all p
 | .fn s a=>p s∧a.all p
 | .cs a b c=>a.all p∧b.all p∧c.all p
theorem Zz7 (ss:List Tm):noLists (ss.map Tm.data)=true:=by
 induction ss with
 | nil=>rfl
 | cons s ss ih=>rw[List.map_cons,noLists,s.noList,ih];rfl
theorem Te.noList:∀ t:Te,L2.noList t.data=true
 | .at _=>rfl
 | .one u a ss=>by
  show (true&&(L2.noList a.data&&noLists (ss.map Tm.data)))=true;rw[a.noList,Zz7];rfl
 | .two u a b=>by
  show (true&&(L2.noList a.data&&(L2.noList b.data&&true)))=true;rw[a.noList,b.noList];rfl
 | .fn s a=>by
  show (true&&(L2.noList s.data&&(L2.noList a.data&&true)))=true;rw[a.noList,s.noList];rfl
 | .cs a b c=>by
  show (true&&(L2.noList a.data&&(L2.noList b.data&&(L2.noList c.data&&true))))=true;rw[a.noList,b.noList,c.noList];rfl
abbrev IsE (K:W.Frag) (H:Hp) (v:V) (t:Te):Prop:=Dn K H v t.data
theorem IsE.keep {K:W.Frag} {H H':Hp} {v:V} {t:Te} (h:IsE K H v t) (k:KeepT K H H'):IsE K H' v t:=Dn.keepT k t.noList h
section
variable {K:W.Frag} {H H':Hp} {v:V}
theorem dn_tup {ds:List PyData}:Dn K H v (.tuple ds)↔∃ a xs,v=.ref a∧SqT K H a xs∧DnAll K H xs ds:=by rw[Dn]
theorem isE_view {t:Te}:IsE K H v t↔∃ a xs,v=.ref a∧SqT K H a xs∧DnAll K H xs t.items:=by
 show Dn K H v t.data↔_;rw[t.data_eq,dn_tup]
theorem Ze4:∀ {ds:List PyData} {xs:List V} {i:Nat} {d:PyData},DnAll K H xs ds→ds[i]?=some d→∃ u,xs[i]?=some u∧Dn K H u d
 | [],xs,i,d,h,e=>by cases i<;>cases e
 | d0 :: ds,xs,i,d,h,e=>by
  rw[DnAll] at h;obtain⟨x,r,rfl,h1,h2⟩:=h
  cases i with
  | zero=>cases e;exact⟨x,rfl,h1⟩
  | succ i=>exact Ze4 (i:=i) h2 e
theorem Ym0:∀ {ds:List PyData} {xs:List V} (i:Nat) {d:PyData} {u:V},DnAll K H xs ds→Dn K H u d→DnAll K H (xs.set i u) (ds.set i d)
 | [],xs,i,d,u,h,e=>by
  rw[DnAll] at h;subst h;exact h_nil
 | d0 :: ds,xs,i,d,u,h,e=>by
  rw[DnAll] at h;obtain⟨x,r,rfl,h1,h2⟩:=h
  cases i with
  | zero=>rw[List.set_cons_zero,List.set_cons_zero,DnAll];exact⟨_,_,rfl,e,h2⟩
  | succ i=>rw[List.set_cons_succ,List.set_cons_succ,DnAll];exact⟨_,_,rfl,h1,Ym0 i h2 e⟩
where
 h_nil {K:W.Frag} {H:Hp}:DnAll K H [] []:=by rw[DnAll]
theorem dnAll_nil:DnAll K H [] []:=by rw[DnAll]
theorem dnAll_cons {x:V} {xs:List V} {d:PyData} {ds:List PyData} (h:Dn K H x d) (t:DnAll K H xs ds):DnAll K H (x :: xs) (d :: ds):=by rw[DnAll];exact⟨_,_,rfl,h,t⟩
theorem Zd5 {xs:List V} {d:PyData} {ds:List PyData} (h:DnAll K H xs (d :: ds)):∃ x r,xs=x :: r∧Dn K H x d∧DnAll K H r ds:=by rw[DnAll] at h;exact h
theorem dn_int {i:Int}:Dn K H v (.int i)↔v=.int i:=by rw[Dn]
theorem dn_str {x:Str}:Dn K H v (.str x)↔v=.str x:=by rw[Dn]
theorem Yj5:∀ {ps:List Nat} {us:List V} {ks:List Te} {xs:List V} {ds:List PyData},DnAll K H xs ds→Paired (IsE K H) us ks→DnAll K H (Zj0 xs ps us) (Zj0 ds ps (ks.map Te.data))
 | [],us,ks,xs,ds,h,_=>by cases us<;>cases ks<;>exact h
 | p :: ps,_,_,xs,ds,h,.nil=>h
 | p :: ps,_,_,xs,ds,h,.cons hu t=>by
  show DnAll K H (Zj0 (xs.set p _) ps _) (Zj0 (ds.set p _) ps _);exact Yj5 (Ym0 p h hu) t
theorem Xh8 (t:Te):∃ r,t.items=.str t.tag :: r:=by cases t<;>exact⟨_,rfl⟩
theorem Zj8 {t:Te} {xs:List V} (h:DnAll K H xs t.items):xs[0]?=some (.str t.tag):=by
 obtain⟨r,e⟩:=Xh8 t;rw[e] at h;obtain⟨x,l,rfl,a,_⟩:=Zd5 h;rw[dn_str] at a;subst a;rfl
end
noncomputable abbrev Pf:=Te×Nat
noncomputable def Te.pre:Te→Nat→List Pf
 | .at k,f=>[(.at k,f)]
 | .one u a ss,f=>(.one u a ss,f) :: a.pre f
 | .two u a b,f=>(.two u a b,f) :: (a.pre f++b.pre f)
 | .fn s a,f=>(.fn s a,f) :: a.pre (f+1)
 | .cs a b c,f=>(.cs a b c,f) :: (a.pre f++(b.pre (f+1)++c.pre (f+1)))
noncomputable def preP (p:Pf):List Pf:=p.1.pre p.2
noncomputable def Zh6 (p:Pf):List Pf:=p.1.kids.map fun k=>(k.1,p.2+k.2)
theorem Zq4 (p:Pf):preP p=p :: (Zh6 p).flatMap preP:=by
 obtain⟨t,f⟩:=p
 cases t<;>simp[preP,Zh6,Te.pre,Te.kids]
theorem Ze8:∀ (t:Te) (f:Nat),(t.pre f).length=t.size
 | .at _,f=>rfl
 | .one _ a _,f=>by show (a.pre f).length+1=1+a.size;rw[Ze8 a];omega
 | .two _ a b,f=>by show (a.pre f++b.pre f).length+1=1+a.size+b.size;rw[List.length_append,Ze8 a,Ze8 b];omega
 | .fn _ a,f=>by show (a.pre (f+1)).length+1=1+a.size;rw[Ze8 a];omega
 | .cs a b c,f=>by
  show (a.pre f++(b.pre (f+1)++c.pre (f+1))).length+1=1+a.size+b.size+c.size;rw[List.length_append,List.length_append,Ze8 a,Ze8 b,Ze8 c];omega
theorem Xj3 {fs:List Pf} {a:Pf} {rest:List Pf} (h:fs.flatMap preP=preP a++rest):∃ fs',fs=a :: fs'∧fs'.flatMap preP=rest:=by
 cases fs with
 | nil=>rw[Zq4 a] at h;cases h
 | cons f fs =>
  have b:=h;rw[List.flatMap_cons,Zq4 f,Zq4 a] at b;have c:f=a:=(List.cons.inj b).1;subst c;rw[List.flatMap_cons] at h;exact⟨fs,rfl,List.append_cancel_left h⟩
theorem Yx5:∀ {ks fs:List Pf} {rest:List Pf},fs.flatMap preP=ks.flatMap preP++rest→∃ fs',fs=ks++fs'∧fs'.flatMap preP=rest
 | [],fs,rest,h=>⟨fs,rfl,h⟩
 | k :: ks,fs,rest,h=>by
  rw[List.flatMap_cons,List.append_assoc] at h;obtain⟨f1,rfl,h1⟩:=Xj3 h;obtain⟨f2,rfl,h2⟩:=Yx5 h1;exact⟨f2,rfl,h2⟩
theorem Ys4 {fs:List Pf} (h:fs.flatMap preP=[]):fs=[]:=by
 cases fs with
 | nil=>rfl
 | cons f fs=>rw[List.flatMap_cons,Zq4 f] at h;cases h
def Xb5 (l:List Pf):Prop:=∀ j,j < l.length→∃ p rest,l[j]?=some p∧l.drop j=preP p++rest
theorem Ya3 {a b:List Pf} (ha:Xb5 a) (hb:Xb5 b):Xb5 (a++b):=fun j h=>by
 by_cases hj:j < a.length
 ·obtain⟨p,c,e,d⟩:=ha j hj
  exact⟨p,c++b,by rw[List.getElem?_append_left hj];exact e,by rw[List.drop_append_of_le_length (Nat.le_of_lt hj),d,List.append_assoc]⟩
 ·rw[List.length_append] at h
  obtain⟨p,c,e,d⟩:=hb (j - a.length) (by omega);refine⟨p,c,by rw[List.getElem?_append_right (by omega)];exact e,?_⟩;rw[List.drop_append,List.drop_of_length_le (by omega),List.nil_append];exact d
theorem Zl4 {p:Pf} {l:List Pf} (e:preP p=p :: l) (h:Xb5 l):Xb5 (preP p):=fun j a=>by
 cases j with
 | zero=>exact⟨p,[],by rw[e];rfl,by rw[List.append_nil];rfl⟩
 | succ j =>
  rw[e] at a ⊢;exact h j (by simpa using a)
theorem Zk0:∀ (t:Te) (f:Nat),Xb5 (t.pre f)
 | .at k,f=>Zl4 (p:=(.at k,f)) rfl fun j h=>absurd h (Nat.not_lt_zero _)
 | .one u a ss,f=>Zl4 (p:=(.one u a ss,f)) rfl (Zk0 a f)
 | .two u a b,f=>Zl4 (p:=(.two u a b,f)) rfl (Ya3 (Zk0 a f) (Zk0 b f))
 | .fn s a,f=>Zl4 (p:=(.fn s a,f)) rfl (Zk0 a (f+1))
 | .cs a b c,f=>Zl4 (p:=(.cs a b c,f)) rfl (Ya3 (Zk0 a f) (Ya3 (Zk0 b (f+1)) (Zk0 c (f+1))))
noncomputable def Te.mp (F:Nat→Nat→Te):Te→Nat→Te
 | .at k,f=>F k f
 | .one u a ss,f=>.one u (a.mp F f) ss
 | .two u a b,f=>.two u (a.mp F f) (b.mp F f)
 | .fn s a,f=>.fn s (a.mp F (f+1))
 | .cs a b c,f=>.cs (a.mp F f) (b.mp F (f+1)) (c.mp F (f+1))
noncomputable def mpP (F:Nat→Nat→Te) (p:Pf):Te:=p.1.mp F p.2
theorem Yq5 (F:Nat→Nat→Te) (p:Pf) (h:∀ k,p.1≠.at k):mpP F p=p.1.withK ((Zh6 p).map (mpP F)):=by
 obtain⟨t,f⟩:=p
 cases t with
 | «at» k=>exact absurd rfl (h k)
 | one u a ss=>rfl
 | two u a b=>rfl
 | fn s a=>rfl
 | cs a b c=>rfl
theorem Zp1 (p:Pf):(Zh6 p).length=p.1.kids.length:=by unfold Zh6;rw[List.length_map]
noncomputable def Zf5 (n k f:Nat):Te:=.at (if f≤k then k+n else k)
noncomputable def putF (o:Te) (k f:Nat):Te:=if k=f then o.mp (Zf5 k) 0 else .at (if f < k then k - 1 else k)
end Ken
namespace L2
open PySem PySem.Spec PyProof.Rows
namespace RevT
theorem Yw2:Manifest.owners.lookup (String.ofList ['d','e','s','r','e','v','e','r'].reverse)=some Manifest.sig_reversed:=by kernel_rfl
theorem slot_next:Slot "reversed" "__next__" "reversed.__next__" :=
 .of (owner:="reversed") (n:="__next__") (by rw[typeLookup_type,builtinLookup_eq_fast];kernel_rfl) (by decide +kernel) (by decide +kernel) (by decide +kernel)
  (by first | exact .inl (by decide +kernel) | exact .inr (by decide +kernel)) (by rw[isSubtype_type];kernel_rfl)
theorem Yc8:entryFor table "reversed.__next__"=some Builtin.«reversed.__next__»:=entryFor_of_tree (by kernel_rfl)
theorem Yn5 (a:Value):argsOk "reversed.__next__" ⟨[a],[]⟩:=by
 unfold argsOk;rw[signature?_of (id:="reversed.__next__") (n:=['_','_','t','x','e','n','_','_']) (o:=['d','e','s','r','e','v','e','r']) (by kernel_rfl) Yw2];kernel_rfl
theorem Yj1:Slot "reversed" "__iter__" "reversed.__iter__" :=
 .of (owner:="reversed") (n:="__iter__") (by rw[typeLookup_type,builtinLookup_eq_fast];kernel_rfl) (by decide +kernel) (by decide +kernel) (by decide +kernel)
  (by first | exact .inl (by decide +kernel) | exact .inr (by decide +kernel)) (by rw[isSubtype_type];kernel_rfl)
theorem Xm4 (a:Value):argsOk "reversed.__iter__" ⟨[a],[]⟩:=by
 unfold argsOk;rw[signature?_of (id:="reversed.__iter__") (n:=['_','_','r','e','t','i','_','_']) (o:=['d','e','s','r','e','v','e','r']) (by kernel_rfl) Yw2];kernel_rfl
theorem Xa4:entryFor table "reversed.__iter__"=some Builtin.«dict_keyiterator.__iter__» :=
 entryFor_alias (id':="dict_keyiterator.__iter__") (by kernel_rfl) (by first | rfl | decide +kernel | (unfold String.splitOn;simp +decide [String.splitOnAux])) (by decide +kernel) (by kernel_rfl)
theorem Xe0:Slot "reversed" "__init__" "object.__init__" :=
 .of (owner:="object") (n:="__init__") (by rw[typeLookup_type,builtinLookup_eq_fast];kernel_rfl) (by decide +kernel) (by decide +kernel) (by decide +kernel)
  (by first | exact .inl (by decide +kernel) | exact .inr (by decide +kernel)) (by rw[isSubtype_type];kernel_rfl)
theorem Wl0:TypeCalled "reversed" "reversed.__new__" "object.__init__" :=
 ⟨by decide +kernel,by decide +kernel,⟨_,_,F.mro_reversed⟩,F.made_reversed,by decide +kernel,by rw[isSubtype_type];kernel_rfl,Xe0⟩
theorem Xc6:typeLookup (.type "tuple") "__reversed__"=pure none:=by rw[typeLookup_type,builtinLookup_eq_fast];kernel_rfl
theorem Yy4:isSubtype (.type "tuple") (.type "dict")=pure false:=by rw[isSubtype_type];kernel_rfl
noncomputable def rvObj (l:Addr) (i:Int):Obj:={ cls:=.type "reversed",data:=.fields #[.ref l,rawInt i] }
theorem Xm5 (obj:Value) (a:Value):argsOk "object.__init__" ⟨[obj,a],[]⟩:=F.args_object_init_2 obj a
section
variable {prog:Program} {w:World} {A:Around} {E:Value→Shared→Prop} {s:Shared}
theorem Xg4 (l:Addr) (items:Array Value):Meets (Builtin.«reversed.__new__» ⟨[.type "reversed",.ref l],[]⟩) (fun _ R s=>IsTup s.heap l items∧(items.size:Int) < 2 ^ 63 ∧
  R (.ok (.ret (.ref s.heap.objs.size))) { s with heap:=s.heap.push (rvObj l ((items.size:Int) - 1)),toks:=s.toks+1+1 }) :=
 .of_wp fun d w A R s h=>by
  obtain⟨c,e,h⟩:=h;have b:s.TypeIs (.ref l) "tuple":=c.typeIs;unfold Builtin.«reversed.__new__»;refine wpAny_bind (wpAny_of_eq (newClass_reversed _) ?_)
  try dsimp only
  refine wpAny_bind (wpAny_of_eq (a:=()) (by first | rfl | kernel_rfl) ?_);refine wpAny_bind (wpAny_of_eq (a:=()) (by first | rfl | kernel_rfl) ?_)
  try dsimp only
  refine wpAny_bind (wpAny_specialOf b Xc6 ?_)
  try dsimp only
  refine wpAny_bind ?_;show wpAny _ _ (isInstance (.ref l) (.type "dict") >>= _) _ _ _;refine wpAny_bind (wpAny_isInstance b Yy4 ?_);rw[if_neg Bool.false_ne_true];refine wpAny_bind (wpAny_specialOf b slot_tuple_getitem.lookup ?_);refine wpAny_pure ?_
  try dsimp only
  refine wpAny_bind (len_tuple c e ?_);refine wpAny_bind (wpAny_pure ?_);show wpAny _ _ (newObj (.type "reversed") (.fields #[.ref l,rawInt ((items.size:Int) - 1)]) >>= _) _ _ _;refine wpAny_bind (wpAny_newObj_type ?_ (hd:=by show 2≤sizeLine+2;decide));exact wpAny_pure ⟨_,rfl,h⟩
theorem call_rev {l:Addr} {items:Array Value} {Q:Value→Shared→Prop} (hl:IsTup s.heap l items) (hz:(items.size:Int) < 2 ^ 63)
  (h:Q (.ref s.heap.objs.size) { s with heap:=s.heap.push (rvObj l ((items.size:Int) - 1)),toks:=s.toks+1+1 }):wpAny (model prog w) A (call (.type "reversed") [.ref l]) Q E s :=
 callType_new Wl0 (by decide) (F.typeCall_reversed_1 _) (F.newCall_reversed_1 _) (fun a=>Xm5 a _) F.entry_reversed_new (Xg4 l items) ⟨hl,hz,⟨_,Heap.get?_push_size _ rfl,rfl⟩,h⟩
theorem iter_rev {it l:Addr} {i:Int} {Q:Value→Shared→Prop} (hit:s.heap.get? it=some (rvObj l i)) (h:Q (.ref it) s):wpAny (model prog w) A (pyIter (.ref it)) Q E s:=by
 have a:s.TypeIs (.ref it) "reversed":=⟨_,hit,rfl⟩;refine wpAny_pyIter_slot a Yj1 (wpAny_call_entry Yj1 a Xa4 ?_ (Xm4 _));show wpAny _ _ (ret (.ref it)) _ _ s;exact wpAny_pure ⟨_,rfl,"reversed",_,a,slot_next.lookup,h⟩
theorem next_item {it l:Addr} {i:Nat} {items:Array Value} {x:Value} {Q:Option Value→Shared→Prop} (hit:s.heap.get? it=some (rvObj l (i:Int))) (hl:IsTup s.heap l items) (hz:(items.size:Int) < 2 ^ 63) (hx:items[i]?=some x)
  (hQ:∀ h' tk,h'.get? it=some (rvObj l ((i:Int) - 1))→Heap.SameBut it s.heap h'→Q (some x) { s with heap:=h',toks:=tk }):wpAny (model prog w) A (pyNext (.ref it)) Q E s:=by
 have c:s.TypeIs (.ref it) "reversed":=⟨_,hit,rfl⟩;have b:s.TypeIs (.ref l) "tuple":=hl.typeIs
 have f:i < items.size:=by
  by_cases h:i < items.size
  ·exact h
  ·rw[Array.getElem?_eq_none (by omega)] at hx;cases hx
 unfold pyNext;refine wpAny_bind (wpAny_attempt (wpAny_callSpecial?_slot (name:=Str.ofString "__next__") c slot_next (wpAny_call_entry slot_next c Yc8 ?_ (Yn5 _))));unfold Builtin.«reversed.__next__»;refine wpAny_bind (wpAny_of_eq (a:=(Value.ref it,[])) rfl ?_)
 try dsimp only
 refine wpAny_bind (wpAny_field hit rfl (x:=.ref l) rfl ?_);refine wpAny_bind (wpAny_field hit rfl (x:=rawInt (i:Int)) rfl ?_);show wpAny _ _ (if (i:Int) < 0 then _ else _) _ _ s;rw[if_neg (by omega)];refine wpAny_bind (wpAny_specialOf b slot_tuple_getitem.lookup ?_);show wpAny _ _ (if (some (Value.builtin "tuple.__getitem__")).isNone=true then _ else _) _ _ _;rw[if_neg (by simp)];refine wpAny_bind (wpAny_mkInt ?_);refine wpAny_bind (wpAny_attempt (getItem_tuple (j:=i) (x:=x) hl (by omega) (by omega) (by unfold seqIndex?;simp;omega) hx ?_))
 try dsimp only
 refine wpAny_bind (wpAny_field (s:={ s with toks:=_ }) hit rfl (x:=rawInt (i:Int)) rfl ?_);show wpAny _ _ (setField (.ref it) 1 (rawInt ((i:Int) - 1)) >>= _) _ _ _;refine wpAny_bind (wpAny_setField_rec (s:={ s with toks:=_ }) hit (by simp) fun h' e d=>wpAny_pure ⟨x,rfl,wpAny_pure (hQ h' _ e d)⟩)
theorem next_end {it l:Addr} {Q:Option Value→Shared→Prop} (hh:A.handled=none) (hit:s.heap.get? it=some (rvObj l (-1)))
  (hQ:∀ h',Heap.ExtBut it s.heap h'→Q none { s with heap:=h' }):wpAny (model prog w) A (pyNext (.ref it)) Q E s:=by
 have g:s.TypeIs (.ref it) "reversed":=⟨_,hit,rfl⟩;unfold pyNext;refine wpAny_bind (wpAny_attempt (wpAny_callSpecial?_slot (name:=Str.ofString "__next__") g slot_next (wpAny_call_entry slot_next g Yc8 ?_ (Yn5 _))));unfold Builtin.«reversed.__next__»;refine wpAny_bind (wpAny_of_eq (a:=(Value.ref it,[])) rfl ?_)
 try dsimp only
 refine wpAny_bind (wpAny_field hit rfl (x:=.ref l) rfl ?_);refine wpAny_bind (wpAny_field hit rfl (x:=rawInt (-1)) rfl ?_);show wpAny _ _ (if (-1:Int) < 0 then _ else _) _ _ s;rw[if_pos (by decide)];refine wpAny_bind (wpAny_rule ?_);refine wpAny_bind ?_;show wpAny _ _ (setField (.ref it) 1 (rawInt (-1)) >>= _) _ _ _;refine wpAny_bind (wpAny_setField_rec hit (by simp) fun o h d=>?_);refine wpAny_setField_rec h (by simp) fun n m c=>?_;refine wpAny_bind (Zx6 (A:=A.in1) hh fun h' e k ⟨oe,he,hc⟩=>wpAny_bind (wpAny_isInstance ⟨oe,he,hc⟩ isSubtype_stop ?_));rw[if_pos rfl];exact wpAny_pure (hQ h' fun b i f j=>k b i ((c.2 b f).trans ((d.2 b f).trans j)))
end
end RevT
noncomputable def ItvT (K:W.Frag) (a:Addr) (n:Nat):It :=
 ⟨fun i H=>i < n∧∃ xs x,SqT K H a xs∧xs[n - 1 - i]?=some x,fun i H x H'=>H'=H∧∀ xs,SqT K H a xs→xs[n - 1 - i]?=some x,fun i _=>i=n⟩
theorem Xc2 {P:Program} {w:World} {K:W.Frag} {tg:Expr} (a it:Addr) (n:Nat):Turn P w K tg (ItvT K a n) [it] it (fun i h=>h.get? it=some (RevT.rvObj a ((n:Int) - 1 - (i:Int)))) where
  mem:=by simp
  obj:=fun i h c b d=>by
    have e:b=it:=by simpa using d
    subst e
    exact⟨_,c,fun v z=>by
      have T:Data.fields _=Data.cell v:=z
      cases T⟩
  keep:=fun i h l c k=>k it (by simp) _ c
  item:=by
    intro X t q y R i g s J H E I j c r;subst t q y;obtain⟨hi,xs,x,N,M⟩:=r;obtain⟨q1,L,p,hz⟩:=I.tuple N;obtain⟨u,Z,V⟩:=L.get M;obtain⟨F,D,f2,C,B,A⟩:=j it (by simp)
    have G:(n:Int) - 1 - (i:Int)=((n - 1 - i:Nat):Int):=by omega
    rw[G] at c;have hn:=Zv3;have q0:=L.length;refine RevT.next_item c p (by rw[List.size_toArray];omega) (x:=u) (by simpa using Z) fun l m f U=>?_;have I1:Inv X g J H { s with heap:=l,toks:=m }:=I.turned (t':=m) (fun b o d e=>(U.2 b d).trans e) F D C B A
    have S:((n - 1 - i:Nat):Int) - 1=(n:Int) - 1 - ((i+1:Nat):Int):=by omega
    rw[S] at f;exact⟨u,rfl,Xi9 (s:={ s with heap:=l,toks:=m }) (n:="reversed") f rfl rfl (by decide) ⟨x,H,I1,V,⟨rfl,fun ys Y=>by rw[I.tuple_inj Y N];exact M⟩,f,fun b d=>(j b d).1⟩⟩
  done:=by
    intro X t q y R i g s J H E I j c r;subst t q y;have O:i=n:=r;subst O;obtain⟨F,D,f2,C,B,A⟩:=j it (by simp)
    have G:(i:Int) - 1 - (i:Int)=-1:=by omega
    rw[G] at c;exact RevT.next_end (I.ok.hd R) c fun l eb=>⟨rfl,I.turned (t':=s.toks) (fun b o d e=>eb b o d e) F D C B A⟩
  self:=fun _ _ _ _ _ c h=>RevT.iter_rev c h
def Yr8 (K:W.Frag) (ta:TA):TI:=fun σ H R=>ta σ H fun vs H1=>∃ a xs,vs=[.ref a]∧SqT K H1 a xs∧R (ItvT K a xs.length) H1
def Yr9 (ta:TA):TI:=fun σ H R=>ta σ H fun vs H1=>∃ n:Nat,vs=[.int (n:Nat)]∧n≤1000000∧R (Itd ((n:Int) - 1) n) H1
section
variable {X:Cx}
theorem Xw2 {tg e:Expr} {ta:TA} {p pos:Pos} (hg:Gl X "reversed") (hm:X.mg "reversed"=none) (ha:PA X [e] ta) (hs:starEach [e] X.env=[(false,eval e X.env)]:=by rfl) :
  PI X tg (.Call (.Name "reversed" p) [e] [] pos) (Yr8 X.K ta):=by
 intro c s i H R I h;refine Call_ (Zp8 I hg hm (by first | exact PySem.boot_reversed | rfl) (PyProof.Rows.callWith_type1 (thn (ha pos c s i H _ I h) fun us s1 ⟨vs,H1,I1,r1,f⟩=>?_) (by rw[hs];rfl) rfl));obtain⟨l,j,e,f,q⟩:=f;subst e;obtain⟨w,rfl,m⟩:=r1.one;cases m;obtain⟨a,k,r,v⟩:=I1.tuple f;have t:=k.length;have x:=Zv3;refine RevT.call_rev r (by rw[List.size_toArray];omega) ?_;have d:Heap.get? (s1.heap.push (RevT.rvObj l ((a.toArray.size:Int) - 1))) s1.heap.objs.size=some (RevT.rvObj l ((a.toArray.size:Int) - 1)):=Heap.get?_push_size _ rfl;refine RevT.iter_rev d ?_;have n:Inv X c i H1 { s1 with heap:=s1.heap.push (RevT.rvObj l ((a.toArray.size:Int) - 1)),toks:=s1.toks+1+1 }:=I1.kept (t':=s1.toks+1+1) fun b o e=>Heap.get?_push_of_some _ e
 have g:((a.toArray.size:Nat):Int) - 1=(j.length:Int) - 1 - ((0:Nat):Int):=by rw[List.size_toArray];omega
 rw[g] at d;rw[g] at n;rw[g];refine⟨_,_,_,_,H1,rfl,n,Xc2 l _ j.length,d,fun b u=>?_,q⟩
 have e:b=s1.heap.objs.size:=by simpa using u
 subst e;exact I1.fpOk (Nat.le_refl _) (I1.hok.fresh (Nat.le_refl _))
end
theorem Xq9 {K:W.Frag} {a:Addr} {xs:List V} {g:TG} {tb:TS} {D:Ends} {σ:St} {H:Hp} (Pv:Nat→St→Hp→Prop) (h0:Pv 0 σ H) (hl:∀ i σ H,i≤xs.length→Pv i σ H→SqT K H a xs)
  (hs:∀ i x σ H,i < xs.length→xs[xs.length - 1 - i]?=some x→Pv i σ H→g x σ H fun σ2 H2=>tb { D with nx:=Pv (i+1),ct:=Pv (i+1),bk:=D.nx } σ2 H2) (hd:∀ σ H,Pv xs.length σ H→D.nx σ H) :
  ∃ W:Nat→Nat→St→Hp→Prop,(∃ m,W 0 m σ H)∧∀ i m σ H,W i m σ H →
   ((ItvT K a xs.length).stop i H∧D.nx σ H)∨((ItvT K a xs.length).go i H∧∃ N:St→Hp→Prop,(∀ σ' H',N σ' H'→∃ m',m' < m∧W (i+1) m' σ' H')∧∀ x H',(ItvT K a xs.length).yld i H x H'→g x σ H' fun σ2 H2=>tb { D with nx:=N,ct:=N,bk:=D.nx } σ2 H2):=by
 refine⟨fun i m σ H=>m=xs.length - i∧i≤xs.length∧Pv i σ H,⟨xs.length,by simp,Nat.zero_le _,h0⟩,?_⟩;rintro i m σ H ⟨rfl,c,p⟩;have q:=hl i σ H c p
 by_cases hlt:i < xs.length
 ·refine .inr ⟨⟨hlt,xs,xs[xs.length - 1 - i],q,List.getElem?_eq_getElem (by omega)⟩,Pv (i+1),fun σ' H' b=>⟨xs.length - (i+1),by omega,rfl,hlt,b⟩,fun x H' y=>?_⟩
  obtain⟨e,y⟩:=y;subst e;exact hs i x σ _ hlt (y xs q) p
 ·have e:i=xs.length:=by omega
  subst e;exact .inl ⟨rfl,hd _ _ p⟩
open Ken
open AutoSeq1 (wpAny_loadPart')
namespace RevT
theorem Yy8:isSubtype (.type "range_iterator") (.type "reversed")=pure false:=by rw[isSubtype_type];kernel_rfl
section
variable {prog:Program} {w:World} {A:Around} {E:Value→Shared→Prop} {s:Shared}
theorem Yb8 {r:Addr} {n:Nat} {t u v:Tok} {Q:Value→Shared→Prop} (hr:IsRange s.heap r 0 (n:Nat) 1 t u v) (hn:n≤1000000)
  (h:Q (.ref s.heap.objs.size) { s with heap:=s.heap.push { cls:=.type "range_iterator",data:=.fields #[rawInt ((n:Int) - 1),rawInt (n:Int),rawInt (-1)] } }) :
  wpAny (model prog w) A (call (.builtin "range.__reversed__") [.ref r]) Q E s:=by
 have f:s.TypeIs (.ref r) "range":=⟨_,hr,rfl⟩
 have b:Builtin.Range.rangeSize 0 (n:Int) 1=(n:Int):=by rw[rangeSize_one];split<;>omega
 have i:(0:Int)+((n:Int) - 1)*1=(n:Int) - 1:=by omega
 have c:(Builtin.Range.rangeFitsLong 0&&Builtin.Range.rangeFitsLong (n:Int)&&Builtin.Range.rangeFitsLong 1&&Builtin.Range.rangeFitsLong (-1)&&Builtin.Range.rangeFitsLong (0 - 1)&&Builtin.Range.rangeFitsLong (n:Int))=true:=by
  simp only[Builtin.Range.rangeFitsLong,Bool.and_eq_true,decide_eq_true_eq];omega
 refine wpAny_call_entry F.slot_range_reversed f F.entry_range_reversed ?_ (F.args_range_reversed_1 _);unfold Builtin.«range.__reversed__»;refine wpAny_bind (wpAny_of_eq (a:=Value.ref r) rfl ?_)
 have e:∀ {Q:Int×Int×Int→Shared→Prop} {A:Around} {E:Value→Shared→Prop},Q (0,(n:Int),1) s→wpAny (model prog w) A (Builtin.Range.rangeFields (.ref r)) Q E s:=fun {Q A E} q=>by
  obtain⟨l,g,d,j,k⟩:=s
  wp_walk using wpAny_loadPart' hr
  exact q
 refine wpAny_bind (e ?_);dsimp only;rw[b,c,i];show wpAny _ _ (newObj (.type "range_iterator") (.fields #[rawInt ((n:Int) - 1),rawInt (n:Int),rawInt (-1)]) >>= _) _ _ _;exact wpAny_bind (wpAny_newObj_type (wpAny_pure ⟨_,rfl,h⟩) (hd:=by show 3≤sizeLine+2;decide))
theorem Yb7 {r:Addr} {n:Nat} {t u v:Tok} {Q₁:Value→Shared→Prop} (hr:IsRange s.heap r 0 (n:Nat) 1 t u v) (hn:n≤1000000)
  (h:Q₁ (.ref s.heap.objs.size) { s with heap:=s.heap.push { cls:=.type "range_iterator",data:=.fields #[rawInt ((n:Int) - 1),rawInt (n:Int),rawInt (-1)] } }) :
  codeAny (model prog w) A (.call (.builtin "reversed.__new__") ⟨[.type "reversed",.ref r],[]⟩) (wants Q₁ E) s:=by
 have b:s.TypeIs (.ref r) "range":=⟨_,hr,rfl⟩;refine codeAny_of_tree ?_;show wpAny _ A.in1 (do checkBuiltinCall "reversed.__new__" ⟨[.type "reversed",.ref r],[]⟩;again (.builtin "reversed.__new__" ⟨[.type "reversed",.ref r],[]⟩)) _ _ s;refine wpAny_bind (wpAny_of_eq (F.newCall_reversed_1 _) (wpAny_pure ⟨plainId_quiet F.plain_reversed_new _,codeAny_builtin F.entry_reversed_new ?_⟩));rw[Around.under_plainId F.plain_reversed_new _];unfold Builtin.«reversed.__new__»;refine wpAny_bind (wpAny_of_eq (newClass_reversed _) ?_)
 try dsimp only
 refine wpAny_bind (wpAny_of_eq (a:=()) (by first | rfl | kernel_rfl) ?_);refine wpAny_bind (wpAny_of_eq (a:=()) (by first | rfl | kernel_rfl) ?_)
 try dsimp only
 refine wpAny_bind (wpAny_specialOf b F.slot_range_reversed.lookup ?_)
 try dsimp only
 refine wpAny_bind (wpAny_of_eq (F.slot_range_reversed.bind _) ?_)
 try dsimp only
 first
 | rw[if_neg (show ¬ ((Value.builtin "range.__reversed__" == Value.none)=true) from Bool.false_ne_true)]
 | (show wpAny _ _ (if (Value.builtin "range.__reversed__" == Value.none)=true then _ else _) _ _ _;rw[if_neg (show ¬ ((Value.builtin "range.__reversed__" == Value.none)=true) from Bool.false_ne_true)])
 refine wpAny_bind (wpAny_rule ?_);refine wpAny_bind (m:=runValue (.call (.builtin "range.__reversed__") ⟨[.ref r],[]⟩)) (show wpAny _ _ (call (.builtin "range.__reversed__") [.ref r]) _ _ _ from Yb8 hr hn ?_)
 first
 | exact wpAny_pure h
 | exact wpAny_bind (wpAny_pure (wpAny_pure h))
theorem call_rev_range {r:Addr} {n:Nat} {t u v:Tok} {Q:Value→Shared→Prop} (hr:IsRange s.heap r 0 (n:Nat) 1 t u v) (hn:n≤1000000)
  (h:Q (.ref s.heap.objs.size) { s with heap:=s.heap.push { cls:=.type "range_iterator",data:=.fields #[rawInt ((n:Int) - 1),rawInt (n:Int),rawInt (-1)] } }) :
  wpAny (model prog w) A (call (.type "reversed") [.ref r]) Q E s:=by
 refine callType_other (U:="range_iterator") (Q₁:=fun a s₁=>a=.ref s.heap.objs.size∧s₁={ s with heap:=s.heap.push { cls:=.type "range_iterator",data:=.fields #[rawInt ((n:Int) - 1),rawInt (n:Int),rawInt (-1)] } }) (by decide +kernel) F.create_reversed ⟨_,_,F.mro_reversed⟩ F.made_reversed Yy8 (F.typeCall_reversed_1 _) (Yb7 hr hn ⟨rfl,rfl⟩) ?_;rintro a s₁ ⟨rfl,rfl⟩;exact⟨⟨_,Heap.get?_push_size _ rfl,rfl⟩,h⟩
end
end RevT
section
variable {X:Cx}
theorem Xw3 {tg e:Expr} {ta:TA} {p p2 pos pos2:Pos} (hg:Gl X "reversed") (hm:X.mg "reversed"=none) (hg2:Gl X "range") (hm2:X.mg "range"=none) (ha:PA X [e] ta)
  (he:starEach [e] X.env=[(false,eval e X.env)]:=by rfl) (he2:starEach [.Call (.Name "range" p2) [e] [] pos2] X.env=[(false,eval (.Call (.Name "range" p2) [e] [] pos2) X.env)]:=by rfl) :
  PI X tg (.Call (.Name "reversed" p) [.Call (.Name "range" p2) [e] [] pos2] [] pos) (Yr9 ta):=by
 intro a s f H R I h;refine Call_ (Zp8 I hg hm (by first | exact PySem.boot_reversed | rfl) ?_);refine PyProof.Rows.callWith_type1 ?_ he2 rfl;rw[he2];show wpAny _ _ (spliced ((false,eval (.Call (.Name "range" p2) [e] [] pos2) X.env) :: backTo pos (starEach [] X.env))) _ _ s;refine Calls.spliced_cons (wpAny_Call_Name_kw (Zp8 I hg2 hm2 PyProof.Rows.boot_range ?_));refine PyProof.Rows.callWith_type1 (thn (ha pos2 a s f H _ I h) fun us s1 ⟨vs,H1,I1,r1,q1⟩=>?_) he rfl;obtain⟨n,rfl,j,q⟩:=q1
 cases r1 with
 | cons r rr =>
  cases rr;obtain⟨i,rfl⟩:=r;refine call_range_1 (Calls.spliced_nil ?_);have c:Inv X a f H1 { s1 with heap:=s1.heap.push { cls:=.type "range",data:=.fields #[.int 0 s1.toks,.int (n:Nat) i,.int 1 (s1.toks+1)] },toks:=s1.toks+1+1 }:=I1.kept fun b o e=>Heap.get?_push_of_some _ e;refine RevT.call_rev_range (n:=n) (t:=s1.toks) (u:=i) (v:=s1.toks+1) (IsRange.new ..) j ?_;generalize (s1.heap.push { cls:=.type "range",data:=.fields #[.int 0 s1.toks,.int (n:Nat) i,.int 1 (s1.toks+1)] }:Heap)=g at c;have d:IsRangeIter (g.push { cls:=.type "range_iterator",data:=.fields #[rawInt ((n:Int) - 1),rawInt (n:Int),rawInt (-1)] }) g.objs.size ((n:Int) - 1) (n:Int) (-1):=Heap.get?_push_size _ rfl;refine wpAny_pyIter_rangeiter d ?_;have w:Inv X a f H1 { s1 with heap:=g.push { cls:=.type "range_iterator",data:=.fields #[rawInt ((n:Int) - 1),rawInt (n:Int),rawInt (-1)] },toks:=s1.toks+1+1 }:=c.kept (t':=s1.toks+1+1) fun b o e=>Heap.get?_push_of_some _ e;refine⟨_,_,_,_,H1,rfl,w,Xc5 _ ((n:Int) - 1) n,?_,fun b k=>?_,q⟩
  ·have m:(n:Int) - 1+((0:Nat):Int)*(-1)=(n:Int) - 1:=by omega
   have l:(n:Int) - ((0:Nat):Int)=(n:Int):=by omega
   show IsRangeIter _ _ ((n:Int) - 1+((0:Nat):Int)*(-1)) ((n:Int) - ((0:Nat):Int)) (-1);rw[m,l];exact d
  ·have e:b=g.objs.size:=by simpa using k
   subst e;exact c.fpOk (Nat.le_refl _) (c.hok.fresh (Nat.le_refl _))
end
noncomputable abbrev Zr7 (l:Addr):Obj:={ cls:=Value.type "tuple_iterator",data:=Data.fields #[Value.ref l,Value.int 0 0] }
section
variable {prog:Program} {w:World} {A:Around} {E:Value→Shared→Prop} {s:Shared}
theorem Zw2 {it l:Addr} {i:Nat} {items:Array Value} {x:Value} {Q:Value→Shared→Prop} (hit:s.heap.IsListIter it l i) (hl:s.heap.IsList l items) (hx:items[i]?=some x)
  (hQ:∀ h',h'.IsListIter it l (i+1)→Heap.SameBut it s.heap h'→Q x { s with heap:=h' }):wpAny (model prog w) A (Builtin.SmallTypes.nextOf (Value.ref it)) Q E s:=by
 obtain⟨o,b,e,a⟩:=id hit;obtain⟨f,c,_,g,d⟩:=hl;show wpAny _ _ (callSpecial? (Value.ref it) (Str.ofString "__next__") >>= _) _ _ _;refine wpAny_bind (wpAny_callSpecial?_slot (Heap.IsListIter.typeIs hit) slot_listiter_next (wpAny_call_entry slot_listiter_next (Heap.IsListIter.typeIs hit) entry_listiter_next ?_ (args_listiter_next (Value.ref it))));show wpAny _ _ (field (Value.ref it) 0 >>= _) _ _ _;refine wpAny_bind (wpAny_field b a rfl ?_);dsimp only;rw[if_neg (show ¬ (#[Value.ref l,Value.int (↑i) 0][0] == Value.none)=true from Bool.false_ne_true)];refine wpAny_bind (wpAny_field b a rfl ?_);show wpAny _ _ (seqItems? (Value.ref l) >>= _) _ _ _;refine wpAny_bind (wpAny_seqItems c d ?_);dsimp only;rw[show items[((i:Int)).toNat]?=some x from hx];refine wpAny_bind (wpAny_setField b a (by simp) (wpAny_pure ⟨x,rfl,wpAny_pure (hQ _ ⟨_,Heap.get?_update_self _ b (Obj.isFreed_of_fields (Obj.data_mapFields a _)),(Obj.cls_mapFields o _).trans e,?_⟩ (Heap.SameBut.update s.heap it _))⟩));rw[Obj.data_mapFields a];rfl
theorem Yb2 {z TI TO i1 i2 l1 l2:Addr} {k1 k2:Nat} {xs ys:Array Value} {x y a b:Value} {Q:Value→Shared→Prop} (D:ZipApart z TI TO i1 i2 l1 l2) (hz:IsZip s.heap z TI TO .none) (hTI:IsPair s.heap TI (.ref i1) (.ref i2)) (hTO:IsPair s.heap TO a b)
  (h1:s.heap.IsTupleIter i1 l1 k1) (h2:s.heap.IsListIter i2 l2 k2) (hl1:s.heap.IsTuple l1 xs) (hl2:s.heap.IsList l2 ys) (hx:xs[k1]?=some x) (hy:ys[k2]?=some y)
  (hQ:∀ h',IsZip h' z TI TO (rawInt ↑s.heap.objs.size)→IsPair h' TO x y→h'.IsTupleIter i1 l1 (k1+1)→h'.IsListIter i2 l2 (k2+1)→IsPair h' s.heap.objs.size x y→h'.objs.size=s.heap.objs.size+1 →
   (∀ c o,c≠z→c≠TO→c≠i1→c≠i2→s.heap.get? c=some o→h'.get? c=some o)→Q (.ref s.heap.objs.size) { s with heap:=h' }) :
  wpAny (model prog w) A (Builtin.«zip.__next__» { pos:=[.ref z] }) (fun fin s'=>∃ v,fin=Fin.done (Flow.ret v)∧Q v s') E s:=by
 show wpAny _ _ (field (Value.ref z) 2 >>= _) _ _ _;refine wpAny_bind (wpAny_field hz rfl rfl ?_);show wpAny _ _ (field (Value.ref z) 3 >>= _) _ _ _;refine wpAny_bind (wpAny_field hz rfl rfl ?_);refine wpAny_bind (wpAny_seqItems hTI rfl ?_);show wpAny _ _ (Builtin.SmallTypes.ownedTupleIsFree (Value.ref z) >>= _) _ _ _;refine wpAny_bind ?_;show wpAny _ _ (field (Value.ref z) 0 >>= _) _ _ _;refine wpAny_bind (wpAny_field hz rfl rfl (wpAny_pure ?_));dsimp only;rw[if_pos rfl];refine wpAny_bind (wpAny_rule (wpAny_bind (wpAny_field hz rfl rfl ?_)));show wpAny _ _ (setField (Value.ref z) 0 Value.ellipsis >>= _) _ _ _;refine wpAny_bind (wpAny_setField_rec hz (by simp) fun g1 z1 f=>?_);simp only[List.zipIdx_cons,List.zipIdx_nil,List.forIn_cons,List.forIn_nil];have d:∀ {g g':Heap} {c:Addr},Heap.SameBut c g g'→Heap.ExtBut c g g':=fun u b o hb e=>(u.2 b hb).trans e;have M:∀ {g g':Heap} {c t:Addr} {vs:Array Value},Heap.SameBut c g g'→t≠c→g.IsTuple t vs→g'.IsTuple t vs:=fun u hne ⟨o,e,r⟩=>⟨o,(u.2 _ hne).trans e,r⟩;have n:∀ {g g':Heap} {c t:Addr} {vs:Array Value},Heap.SameBut c g g'→t≠c→g.IsList t vs→g'.IsList t vs:=fun u hne ⟨o,e,r⟩=>⟨o,(u.2 _ hne).trans e,r⟩;have q9:=h1.extBut (d f) D.i1z;have q4:=h2.extBut (d f) D.i2z;have S:=M f D.l1z hl1;have R:=n f D.l2z hl2;have V:IsPair g1 TO a b:=(f.2 TO D.TOz).trans hTO;refine wpAny_bind (wpAny_bind (wpAny_bind (wpAny_onRaise ?_)));show wpAny _ _ (Builtin.SmallTypes.nextOf (Value.ref i1) >>= _) _ _ _;refine wpAny_bind (Zu3 (s:={ s with heap:=g1 }) q9 S hx fun g2 q8 j=>wpAny_pure ?_);have q3:=q4.extBut (d j) D.i12.symm;have O:=n j D.l2i1 R;have C:IsPair g2 TO a b:=(j.2 TO D.TOi1).trans V;have z2:=(j.2 z D.i1z.symm).trans z1;refine wpAny_bind (wpAny_seqItems C rfl ?_);refine wpAny_bind (wpAny_updateSeq_pair (s:={ s with heap:=g2 }) C fun g3 U i=>wpAny_bind (wpAny_letGo (wpAny_pure ?_)));have I:IsPair g3 TO x b:=U;have q7:=q8.extBut (d i) D.TOi1.symm;have q2:=q3.extBut (d i) D.TOi2.symm;have N:=n i D.l2TO O;have z3:=(i.2 z D.TOz.symm).trans z2;refine wpAny_bind (wpAny_bind (wpAny_onRaise ?_));show wpAny _ _ (Builtin.SmallTypes.nextOf (Value.ref i2) >>= _) _ _ _;refine wpAny_bind (Zw2 (s:={ s with heap:=g3 }) q2 N hy fun g4 q1 l=>wpAny_pure ?_);have q6:=q7.extBut (d l) D.i12;have B:IsPair g4 TO x b:=(l.2 TO D.TOi2).trans I;have z4:=(l.2 z D.i2z.symm).trans z3;refine wpAny_bind (wpAny_seqItems B rfl ?_);refine wpAny_bind (wpAny_updateSeq_pair (s:={ s with heap:=g4 }) B fun h T k=>wpAny_bind (wpAny_letGo (wpAny_pure (wpAny_pure ?_))));have p:IsPair h TO x y:=T;have q5:=q6.extBut (d k) D.TOi1.symm;have q0:=q1.extBut (d k) D.TOi2.symm;have z5:=(k.2 z D.TOz.symm).trans z4
 have m:h.objs.size=s.heap.objs.size:=by rw[k.1,l.1,i.1,j.1,f.1]
 refine wpAny_bind (wpAny_seqItems p rfl ?_);refine wpAny_bind (wpAny_newTuple (s:={ s with heap:=h }) ?_ (by show 2≤sizeLine;decide));have z6:(h.push { cls:=Value.type "tuple",data:=Data.seq #[x,y] }).get? z=_:=Heap.get?_push_of_some _ z5;show wpAny _ _ (Builtin.SmallTypes.ownedTupleHandOut (Value.ref z) (Value.ref h.objs.size) >>= _) _ _ _;refine wpAny_bind ?_;show wpAny _ _ (setField (Value.ref z) 0 (rawInt (h.objs.size:Int)) >>= _) _ _ _;refine wpAny_bind (wpAny_setField_rec z6 (by simp) fun g7 z7 L=>wpAny_setField_rec z7 (by simp) fun W z8 J=>wpAny_pure ⟨_,rfl,?_⟩);have Z:z < s.heap.objs.size:=Heap.lt_size hz;have k8:∀ c o,c≠z→(h.push { cls:=Value.type "tuple",data:=Data.seq #[x,y] }).get? c=some o→W.get? c=some o:=fun c o G e=>(J.2 c G).trans ((L.2 c G).trans e);have F:∀ c o,c≠z→h.get? c=some o→W.get? c=some o:=fun c o G e=>k8 c o G (Heap.get?_push_of_some _ e)
 have nz:h.objs.size≠z:=by rw[m];exact (Nat.ne_of_lt Z).symm
 have j0:(h.push { cls:=Value.type "tuple",data:=Data.seq #[x,y] }).get? h.objs.size=some { cls:=Value.type "tuple",data:=Data.seq #[x,y] }:=Heap.get?_push_size _ rfl;have q:=hQ W (by rw[← m];exact z8) (F TO _ D.TOz p) (q5.at fun o e=>F i1 o D.i1z e) (q0.at fun o e=>F i2 o D.i2z e) (by rw[← m];exact k8 _ _ nz j0)
  (by rw[J.1,L.1,Heap.size_push,m]) (fun c o Y X n3 n4 e=>F c o Y ((k.2 c X).trans ((l.2 c n4).trans ((i.2 c X).trans ((j.2 c n3).trans ((f.2 c Y).trans e))))))
 rw[← m] at q;exact q
theorem Yd6 {z TI TO i1 i2 l1 l2:Addr} {k1 k2:Nat} {xs ys:Array Value} {a b:Value} {Q:PySem.Fin→Shared→Prop} (hh:A.handled=none) (D:ZipApart z TI TO i1 i2 l1 l2) (hz:IsZip s.heap z TI TO .none) (hTI:IsPair s.heap TI (.ref i1) (.ref i2)) (hTO:IsPair s.heap TO a b)
  (h1:s.heap.IsTupleIter i1 l1 k1) (h2:s.heap.IsListIter i2 l2 k2) (hl1:s.heap.IsTuple l1 xs) (hl2:s.heap.IsList l2 ys) (hx:xs[k1]?=none)
  (hE:∀ h' e,(∀ c o,c≠z→c≠TO→c≠i1→c≠i2→s.heap.get? c=some o→h'.get? c=some o)→(∃ o,h'.get? e=some o∧o.cls=.type "StopIteration")→E (.ref e) { s with heap:=h' }) :
  wpAny (model prog w) A (Builtin.«zip.__next__» { pos:=[.ref z] }) Q E s:=by
 show wpAny _ _ (field (Value.ref z) 2 >>= _) _ _ _;refine wpAny_bind (wpAny_field hz rfl rfl ?_);show wpAny _ _ (field (Value.ref z) 3 >>= _) _ _ _;refine wpAny_bind (wpAny_field hz rfl rfl ?_);refine wpAny_bind (wpAny_seqItems hTI rfl ?_);show wpAny _ _ (Builtin.SmallTypes.ownedTupleIsFree (Value.ref z) >>= _) _ _ _;refine wpAny_bind ?_;show wpAny _ _ (field (Value.ref z) 0 >>= _) _ _ _;refine wpAny_bind (wpAny_field hz rfl rfl (wpAny_pure ?_));dsimp only;rw[if_pos rfl];refine wpAny_bind (wpAny_rule (wpAny_bind (wpAny_field hz rfl rfl ?_)));show wpAny _ _ (setField (Value.ref z) 0 Value.ellipsis >>= _) _ _ _;refine wpAny_bind (wpAny_setField_rec hz (by simp) fun B u d=>?_);simp only[List.zipIdx_cons,List.zipIdx_nil,List.forIn_cons,List.forIn_nil];have l:∀ {g g':Heap} {c:Addr},Heap.SameBut c g g'→Heap.ExtBut c g g':=fun i b o x e=>(i.2 b x).trans e;have h:∀ {g g':Heap} {c t:Addr} {vs:Array Value},Heap.SameBut c g g'→t≠c→g.IsTuple t vs→g'.IsTuple t vs:=fun i hne ⟨o,e,r⟩=>⟨o,(i.2 _ hne).trans e,r⟩;have p:=h1.extBut (l d) D.i1z;have j:=h d D.l1z hl1;refine wpAny_bind (wpAny_bind (wpAny_bind (wpAny_onRaise ?_)));show wpAny _ _ (Builtin.SmallTypes.nextOf (Value.ref i1) >>= _) _ _ _;refine wpAny_bind (Zw1 (s:={ s with heap:=B }) hh p j hx fun g2 e eb ⟨oe,he,hce⟩=>?_);have k:=eb z _ D.i1z.symm u;refine wpAny_setField_rec (s:={ s with heap:=g2 }) k (by simp) fun y F f=>?_
 have m:e≠z:=fun w=>by
  rw[w,k] at he;cases he;injection hce with q;exact absurd q (by decide)
 exact hE y e (fun c o n I v G C=>(f.2 c n).trans (eb c o v ((d.2 c n).trans C))) ⟨oe,(f.2 e m).trans he,hce⟩
end
noncomputable abbrev Yl6 (l:Addr):Obj:={ cls:=Value.type "list_iterator",data:=Data.fields #[Value.ref l,Value.int 0 0] }
theorem Yb5 (l1 l2:Addr) (xs ys:Array Value):Meets (Builtin.«zip.__new__» { pos:=[Value.type "zip",Value.ref l1,Value.ref l2] }) fun x R s =>
  s.heap.IsTuple l1 xs∧s.heap.IsList l2 ys∧(∀ g:Heap,g=((((s.heap.push (Zr7 l1)).push (Yl6 l2)).push { cls:=Value.type "tuple",data:=Data.seq #[Value.ref s.heap.objs.size,Value.ref (s.heap.objs.size+1)] }).push { cls:=Value.type "tuple",data:=Data.seq #[Value.none,Value.none] }).push
    { cls:=Value.type "zip",data:=Data.fields #[Value.none,Value.bool false,Value.bool false,Value.ref (s.heap.objs.size+2),Value.ref (s.heap.objs.size+3)] } →
   R (Except.ok (Flow.ret (Value.ref (s.heap.objs.size+4)))) { s with heap:=g }) :=
 Meets.of_wp fun i w A R s h=>by
  obtain⟨f,d,h⟩:=h;have a:=sub_zip;show wpAny _ _ (Builtin.SmallTypes.newClass "zip" { pos:=[Value.type "zip",Value.ref l1,Value.ref l2] } >>= _) _ _ _;refine wpAny_bind ?_;unfold Builtin.SmallTypes.newClass;show wpAny _ _ (isType (Value.type "zip") >>= _) _ _ _;refine wpAny_bind (wpAny_of_eq (show isType (Value.type "zip")=pure true from rfl) ?_);dsimp only;refine wpAny_ite_false rfl ?_;refine wpAny_bind (wpAny_of_eq a ?_);refine wpAny_ite_false rfl (wpAny_pure ?_);dsimp only;refine wpAny_ite_false rfl ?_;show wpAny _ _ (Builtin.SmallTypes.iterAll [Value.ref l1,Value.ref l2] >>= _) _ _ _;refine wpAny_bind ?_;unfold Builtin.SmallTypes.iterAll;simp only[List.forIn_cons,List.forIn_nil]
  have b:(s.heap.push (Zr7 l1)).IsList l2 ys:=by
   obtain⟨o,e,r⟩:=d;exact⟨o,Heap.get?_push_of_some _ e,r⟩
  refine wpAny_bind (wpAny_bind (wpAny_bind (wpAny_holding (wpAny_pyIter_tuple f (wpAny_pure ?_)))));refine wpAny_bind (wpAny_bind (wpAny_holding (wpAny_pyIter_list (s:={ s with heap:=s.heap.push (Zr7 l1) }) b (wpAny_pure (wpAny_pure (wpAny_pure ?_))))));refine wpAny_bind (wpAny_newTuple ?_ (by show 2≤sizeLine;decide));refine wpAny_bind (wpAny_newTuple ?_ (by show 2≤sizeLine;decide));dsimp only;refine wpAny_bind ?_;unfold Builtin.SmallTypes.newRecord;refine wpAny_newObj_type (wpAny_pure ⟨_,rfl,?_⟩) (hd:=by first | exact True.intro | (unfold sizeOk;first | exact True.intro | (show ¬ (5 > sizeLine);decide) | (simp[Builtin.SmallTypes.ownedTupleFields];done) | (simp[Builtin.SmallTypes.ownedTupleFields,sizeLine];done)));dsimp only;have l:(s.heap.push (Zr7 l1)).objs.size=s.heap.objs.size+1:=Heap.size_push _ _
  have k:((s.heap.push (Zr7 l1)).push (Yl6 l2)).objs.size=s.heap.objs.size+2:=by rw[Heap.size_push,l]
  have j:∀ o,(((s.heap.push (Zr7 l1)).push (Yl6 l2)).push o).objs.size=s.heap.objs.size+3:=fun o=>by rw[Heap.size_push,k]
  have m:∀ o c,((((s.heap.push (Zr7 l1)).push (Yl6 l2)).push o).push c).objs.size=s.heap.objs.size+4:=fun o c=>by rw[Heap.size_push,j]
  have q:=h _ rfl;simp only[Heap.size_push] at q ⊢;exact q
theorem Xa5 {prog:Program} {w:World} {A:Around} {E:Value→Shared→Prop} {s:Shared} {l1 l2:Addr} {xs ys:Array Value} {Q:Value→Shared→Prop} (hl1:s.heap.IsTuple l1 xs) (hl2:s.heap.IsList l2 ys)
  (h:∀ h':Heap,IsZip h' (s.heap.objs.size+4) (s.heap.objs.size+2) (s.heap.objs.size+3) Value.none→IsPair h' (s.heap.objs.size+2) (Value.ref s.heap.objs.size) (Value.ref (s.heap.objs.size+1))→IsPair h' (s.heap.objs.size+3) Value.none Value.none →
   h'.IsTupleIter s.heap.objs.size l1 0→h'.IsListIter (s.heap.objs.size+1) l2 0→h'.objs.size=s.heap.objs.size+5→(∀ c o,s.heap.get? c=some o→h'.get? c=some o)→Q (Value.ref (s.heap.objs.size+4)) { s with heap:=h' }) :
  wpAny (model prog w) A (call (Value.type "zip") [Value.ref l1,Value.ref l2]) Q E s:=by
 refine callType_new F.called_zip (by decide) (F.typeCall_zip_2 _ _) (F.newCall_zip_2 _ _) (fun p=>F.args_object_init_3 p _ _) F.entry_zip_new (Yb5 l1 l2 xs ys) ⟨hl1,hl2,fun g a=>?_⟩;have n:(s.heap.push (Zr7 l1)).objs.size=s.heap.objs.size+1:=Heap.size_push _ _
 have j:((s.heap.push (Zr7 l1)).push (Yl6 l2)).objs.size=s.heap.objs.size+2:=by rw[Heap.size_push,n]
 have z:(s.heap.push (Zr7 l1)).get? s.heap.objs.size=some (Zr7 l1):=Heap.get?_push_size _ rfl
 have r:((s.heap.push (Zr7 l1)).push (Yl6 l2)).get? (s.heap.objs.size+1)=some (Yl6 l2):=by rw[← n];exact Heap.get?_push_size _ rfl
 generalize d:(s.heap.push (Zr7 l1)).push (Yl6 l2)=p1 at a j r
 have t:p1.get? s.heap.objs.size=some (Zr7 l1):=by rw[← d];exact Heap.get?_push_of_some _ z
 have v:∀ c o,s.heap.get? c=some o→p1.get? c=some o:=fun c o e=>by rw[← d];exact Heap.get?_push_of_some _ (Heap.get?_push_of_some _ e)
 generalize i:({ cls:=Value.type "tuple",data:=Data.seq #[Value.ref s.heap.objs.size,Value.ref (s.heap.objs.size+1)] }:Obj)=o2 at a;generalize f:({ cls:=Value.type "tuple",data:=Data.seq #[Value.none,Value.none] }:Obj)=o3 at a;generalize b:({ cls:=Value.type "zip",data:=Data.fields #[Value.none,Value.bool false,Value.bool false,Value.ref (s.heap.objs.size+2),Value.ref (s.heap.objs.size+3)] }:Obj)=o4 at a
 have m:(p1.push o2).objs.size=s.heap.objs.size+3:=by rw[Heap.size_push,j]
 have l:((p1.push o2).push o3).objs.size=s.heap.objs.size+4:=by rw[Heap.size_push,m]
 have u:g.objs.size=s.heap.objs.size+5:=by rw[a,Heap.size_push,l]
 have q:g.get? (s.heap.objs.size+4)=some o4:=by rw[a,← l];exact Heap.get?_push_size _ (by rw[← b];rfl)
 have x:g.get? (s.heap.objs.size+3)=some o3:=by rw[a,← m];exact Heap.get?_push_of_some _ (Heap.get?_push_size _ (by rw[← f];rfl))
 have y:g.get? (s.heap.objs.size+2)=some o2:=by rw[a,← j];exact Heap.get?_push_of_some _ (Heap.get?_push_of_some _ (Heap.get?_push_size _ (by rw[← i];rfl)))
 have k:∀ c o,p1.get? c=some o→g.get? c=some o:=fun c o e=>by rw[a];exact Heap.get?_push_of_some _ (Heap.get?_push_of_some _ (Heap.get?_push_of_some _ e))
 refine⟨⟨_,q,by rw[← b]⟩,?_⟩;exact h g (q.trans (by rw[← b])) (y.trans (by rw[← i])) (x.trans (by rw[← f])) ⟨_,k _ _ t,rfl,rfl⟩ ⟨_,k _ _ r,rfl,rfl⟩ u fun c o e=>k c o (v c o e)
section
variable {prog:Program} {w:World} {A:Around} {E:Value→Shared→Prop} {s:Shared}
theorem Zw0 {z TI TO i1 i2 l1 l2:Addr} {k1 k2:Nat} {xs ys:Array Value} {x y a b:Value} {Q:Option Value→Shared→Prop} (D:ZipApart z TI TO i1 i2 l1 l2) (hz:IsZip s.heap z TI TO .none) (hTI:IsPair s.heap TI (.ref i1) (.ref i2)) (hTO:IsPair s.heap TO a b)
  (h1:s.heap.IsTupleIter i1 l1 k1) (h2:s.heap.IsListIter i2 l2 k2) (hl1:s.heap.IsTuple l1 xs) (hl2:s.heap.IsList l2 ys) (hx:xs[k1]?=some x) (hy:ys[k2]?=some y)
  (hQ:∀ h',IsZip h' z TI TO (rawInt ↑s.heap.objs.size)→IsPair h' TO x y→h'.IsTupleIter i1 l1 (k1+1)→h'.IsListIter i2 l2 (k2+1)→IsPair h' s.heap.objs.size x y→h'.objs.size=s.heap.objs.size+1 →
   (∀ c o,c≠z→c≠TO→c≠i1→c≠i2→s.heap.get? c=some o→h'.get? c=some o)→Q (some (.ref s.heap.objs.size)) { s with heap:=h' }) :
  wpAny (model prog w) A (pyNext (.ref z)) Q E s:=by
 have d:s.TypeIs (.ref z) "zip":=⟨_,hz,rfl⟩;exact id (wpAny_bind (wpAny_attempt (wpAny_callSpecial?_slot d F.slot_zip_next (wpAny_call_entry F.slot_zip_next d F.entry_zip_next (Yb2 D hz hTI hTO h1 h2 hl1 hl2 hx hy fun h' k j i h g f e=>wpAny_pure (hQ h' k j i h g f e)) (F.args_zip_next_1 (.ref z))))))
theorem Zy6 {z TI TO i1 i2 l1 l2:Addr} {k1 k2:Nat} {xs ys:Array Value} {a b:Value} {Q:Option Value→Shared→Prop} (hh:A.handled=none) (D:ZipApart z TI TO i1 i2 l1 l2) (hz:IsZip s.heap z TI TO .none) (hTI:IsPair s.heap TI (.ref i1) (.ref i2)) (hTO:IsPair s.heap TO a b)
  (h1:s.heap.IsTupleIter i1 l1 k1) (h2:s.heap.IsListIter i2 l2 k2) (hl1:s.heap.IsTuple l1 xs) (hl2:s.heap.IsList l2 ys) (hx:xs[k1]?=none)
  (hQ:∀ h',(∀ c o,c≠z→c≠TO→c≠i1→c≠i2→s.heap.get? c=some o→h'.get? c=some o)→Q none { s with heap:=h' }) :
  wpAny (model prog w) A (pyNext (.ref z)) Q E s:=by
 have d:s.TypeIs (.ref z) "zip":=⟨_,hz,rfl⟩
 exact id (wpAny_bind (wpAny_attempt (wpAny_callSpecial?_slot d F.slot_zip_next (wpAny_call_entry F.slot_zip_next d F.entry_zip_next (Yd6 hh D hz hTI hTO h1 h2 hl1 hl2 hx fun h' e hk ⟨o,ho,hc⟩ =>
  wpAny_bind (wpAny_isInstance ⟨o,ho,hc⟩ isSubtype_stop (wpAny_pure (hQ h' hk)))) (F.args_zip_next_1 (.ref z))))))
end
noncomputable def ItzX (K:W.Frag) (a b:Addr):It :=
  ⟨fun i H=>∃ xs ys x y,SqT K H a xs∧SqL K H b ys∧xs[i]?=some x∧ys[i]?=some y,
   fun i H v H'=>∃ T x y,v=.ref T∧H T=none∧H'=upd H T (.tup [x,y])∧(∀ xs,SqT K H a xs→xs[i]?=some x)∧∀ ys,SqL K H b ys→ys[i]?=some y,
   fun i H=>∃ xs ys,SqT K H a xs∧SqL K H b ys∧xs.length≤i⟩
def Wa9 (z TI TO i1 i2 l1 l2:Addr) (i:Nat) (h:Heap):Prop :=
 IsZip h z TI TO .none∧IsPair h TI (.ref i1) (.ref i2)∧(∃ a b,IsPair h TO a b)∧h.IsTupleIter i1 l1 i∧h.IsListIter i2 l2 i
theorem Xc1 {P:Program} {w:World} {K:W.Frag} {elts:List Expr} {k0:Nat} {tpos:Pos} (z TI TO i1 i2 l1 l2:Addr) (D:ZipApart z TI TO i1 i2 l1 l2) :
    Turn P w K (.Tuple elts k0 tpos) (ItzX K l1 l2) [z,TI,TO,i1,i2] z (Wa9 z TI TO i1 i2 l1 l2) where
  mem:=by simp
  obj:=fun i h st b hb=>by
    obtain⟨hz,hTI,⟨a,c,hTO⟩,⟨o1,e1,c1,d1⟩,⟨o2,e2,c2,d2⟩⟩:=st;simp only[List.mem_cons,List.not_mem_nil,or_false] at hb;rcases hb with rfl | rfl | rfl | rfl | rfl
    · exact⟨_,hz,fun v q=>by cases q⟩
    · exact⟨_,hTI,fun v q=>by cases q⟩
    · exact⟨_,hTO,fun v q=>by cases q⟩
    · exact⟨o1,e1,fun v q=>by rw[d1] at q;cases q⟩
    · exact⟨o2,e2,fun v q=>by rw[d2] at q;cases q⟩
  keep:=fun i h h' st k=>by
    obtain⟨hz,hTI,⟨a,c,hTO⟩,h1,h2⟩:=st;exact⟨k z (by simp) _ hz,k TI (by simp) _ hTI,⟨a,c,k TO (by simp) _ hTO⟩,h1.at fun o e=>k i1 (by simp) o e,h2.at fun o e=>k i2 (by simp) o e⟩
  item:=by
    intro X hP hw hK hc i pins s σ H E I hf st hg;subst hP hw hK;obtain⟨hz,hTI,⟨a,c,hTO⟩,h1,h2⟩:=st;obtain⟨xs,ys,x,y,q1,q2,hx,hy⟩:=hg;obtain⟨its1,rv1,p1,_⟩:=I.tuple q1;obtain⟨its2,rv2,p2,_⟩:=I.list q2;obtain⟨u1,hu1,ru1⟩:=rv1.get hx;obtain⟨u2,hu2,ru2⟩:=rv2.get hy;refine Zw0 D hz hTI hTO h1 h2 (show s.heap.IsTuple l1 its1.toArray from p1) p2.isList (x:=u1) (y:=u2) (by simpa using hu1) (by simpa using hu2) fun h' a1 a2 a3 a4 a5 a6 kk=>?_;have hT:H s.heap.objs.size=none:=I.hok.fresh (Nat.le_refl _)
    have nch:∀ b u,H b=some u→b ∉ [z,TO,i1,i2]:=fun b u e hb=>by
      have hb':b∈[z,TI,TO,i1,i2]:=by
        simp only[List.mem_cons,List.not_mem_nil,or_false] at hb ⊢;rcases hb with q | q | q | q
        · exact .inl q
        · exact .inr (.inr (.inl q))
        · exact .inr (.inr (.inr (.inl q)))
        · exact .inr (.inr (.inr (.inr q)))
      rw[(hf b hb').1] at e;cases e
    have kk':∀ b o,b ∉ [z,TO,i1,i2]→s.heap.get? b=some o→h'.get? b=some o:=fun b o hb e=>by
      simp only[List.mem_cons,List.not_mem_nil,or_false,not_or] at hb;exact kk b o hb.1 hb.2.1 hb.2.2.1 hb.2.2.2 e
    have ltT:∀ b o,s.heap.get? b=some o→b≠s.heap.objs.size:=fun b o e=>Nat.ne_of_lt (Heap.lt_size e)
    have hokT:HOk X.prog X.w (upd H s.heap.objs.size (.tup [x,y])) h':=fun b ob e=>by
      by_cases hb:b=s.heap.objs.size
      · subst hb
        rw[Za4] at e;cases e;exact⟨by show 2≤sizeLine;decide,[u1,u2],.cons ru1 (.cons ru2 .nil),_,a5,rfl,_,rfl⟩
      · rw[Zb1 hb] at e
        refine (I.hok b ob e).stay (fun c v hcv q=>kk' c v ?_ q) (fun c q=>by rw[Zb1 (Zb0 q hT)];exact q) fun c xs q=>by rw[Zb1 (Zb0 q hT)];exact q
        rcases hcv with rfl | hcv
        · exact nch _ _ e
        · exact nch _ _ hcv
    have I1:Inv X pins σ (upd H s.heap.objs.size (.tup [x,y])) { s with heap:=h' }:=by
      refine I.step (g':=s.gens) (d':=s.drawn) (t':=s.toks) (ch:=[z,TO,i1,i2]) (fun b hb=>?_) (fun b o _ _ hb e _=>kk' b o hb e) (fun b o _ _ hb e _=>⟨o.slots,kk' b o hb e⟩) (fun b o _ e n=>by rw[Zb1 (ltT b o e)];exact n) (fun b o hb e=>⟨o,kk' b o hb e⟩)
        (fun b xs q=>by rw[Zb1 (Zb0 q hT)];exact q) (fun b o u q=>by rw[Zb1 (Zb0 q hT)];exact q) (fun b ps q=>⟨#[],by rw[Zb1 (Zb0 q hT),q];simp⟩) (fun m hm=>?_) hokT I.bare
      · have hb':b∈[z,TI,TO,i1,i2]:=by
          simp only[List.mem_cons,List.not_mem_nil,or_false] at hb ⊢;rcases hb with q | q | q | q
          · exact .inl q
          · exact .inr (.inr (.inl q))
          · exact .inr (.inr (.inr (.inl q)))
          · exact .inr (.inr (.inr (.inr q)))
        obtain⟨f0,f1,f2,f3,f4,f5⟩:=hf b hb';exact⟨f3,f1,f4,f5⟩
      · obtain⟨o,es,ep,ho,r⟩:=hm
        refine⟨o,es,ep,kk' _ o ?_ ho,r⟩;simp only[List.mem_cons,List.not_mem_nil,or_false,not_or];exact⟨((hf z (by simp)).2.1).symm,((hf TO (by simp)).2.1).symm,((hf i1 (by simp)).2.1).symm,((hf i2 (by simp)).2.1).symm⟩
    refine⟨_,rfl,wpAny_letOwnedTupleGo_zip a1 fun h'' hz'' sb=>?_⟩;obtain⟨f0,f1,f2,f3,f4,f5⟩:=hf z (by simp)
    have ltz:∀ b∈[z,TI,TO,i1,i2],b≠s.heap.objs.size:=fun b hb=>by
      simp only[List.mem_cons,List.not_mem_nil,or_false] at hb;obtain⟨o1,e1,_⟩:=h1;obtain⟨o2,e2,_⟩:=h2;rcases hb with rfl | rfl | rfl | rfl | rfl
      · exact ltT _ _ hz
      · exact ltT _ _ hTI
      · exact ltT _ _ hTO
      · exact ltT _ _ e1
      · exact ltT _ _ e2
    have fn:∀ b∈[z,TI,TO,i1,i2],upd H s.heap.objs.size (.tup [x,y]) b=none:=fun b hb=>by rw[Zb1 (ltz b hb)];exact (hf b hb).1
    have I2:Inv X pins σ (upd H s.heap.objs.size (.tup [x,y])) { s with heap:=h'' }:=I1.turned (t':=s.toks) (fun b o hb e=>(sb.2 b hb).trans e) (fn z (by simp)) f1 f3 f4 f5;refine⟨.ref s.heap.objs.size,_,I2,rfl,⟨_,x,y,rfl,hT,rfl,fun ys hy'=>by rw[I.tuple_inj hy' q1];exact hx,fun ys hy'=>by rw[I.list_inj hy' q2];exact hy⟩,⟨hz'',?_,⟨u1,u2,?_⟩,?_,?_⟩,fn⟩
    · exact (sb.2 TI D.TIz).trans (kk' TI _ (by simp only[List.mem_cons,List.not_mem_nil,or_false,not_or];exact⟨D.TIz,D.TITO,D.TIi1,D.TIi2⟩) hTI)
    · exact (sb.2 TO D.TOz).trans a2
    · exact a3.extBut sb.extBut D.i1z
    · exact a4.extBut sb.extBut D.i2z
  done:=by
    intro X hP hw hK hc i pins s σ H E I hf st hg;subst hP hw hK;obtain⟨hz,hTI,⟨a,c,hTO⟩,h1,h2⟩:=st;obtain⟨xs,ys,q1,q2,hend⟩:=hg;obtain⟨its1,rv1,p1,_⟩:=I.tuple q1;obtain⟨its2,rv2,p2,_⟩:=I.list q2;have e1:=rv1.length;have e2:=rv2.length;refine Zy6 (I.ok.hd hc) D hz hTI hTO h1 h2 (show s.heap.IsTuple l1 its1.toArray from p1) p2.isList ?_ fun h' kk=>⟨rfl,?_⟩
    · simp;omega
    · have nch:∀ b u,H b=some u→b ∉ [z,TO,i1,i2]:=fun b u e hb=>by
        have hb':b∈[z,TI,TO,i1,i2]:=by
          simp only[List.mem_cons,List.not_mem_nil,or_false] at hb ⊢;rcases hb with q | q | q | q
          · exact .inl q
          · exact .inr (.inr (.inl q))
          · exact .inr (.inr (.inr (.inl q)))
          · exact .inr (.inr (.inr (.inr q)))
        rw[(hf b hb').1] at e;cases e
      have kk':∀ b o,b ∉ [z,TO,i1,i2]→s.heap.get? b=some o→h'.get? b=some o:=fun b o hb e=>by
        simp only[List.mem_cons,List.not_mem_nil,or_false,not_or] at hb;exact kk b o hb.1 hb.2.1 hb.2.2.1 hb.2.2.2 e
      have hok':HOk X.prog X.w H h':=fun b ob e=>by
        refine (I.hok b ob e).stay (fun c v hcv q=>kk' c v ?_ q) (fun c q=>q) fun c xs q=>q;rcases hcv with rfl | hcv
        · exact nch _ _ e
        · exact nch _ _ hcv
      refine I.step (g':=s.gens) (d':=s.drawn) (t':=s.toks) (ch:=[z,TO,i1,i2]) (fun b hb=>?_) (fun b o _ _ hb e _=>kk' b o hb e) (fun b o _ _ hb e _=>⟨o.slots,kk' b o hb e⟩) (fun b o _ e n=>n) (fun b o _ e=>?_)
        (fun b xs q=>q) (fun b o u q=>q) (fun b ps q=>⟨#[],by rw[q];simp⟩) (fun m hm=>?_) hok' I.bare
      · have hb':b∈[z,TI,TO,i1,i2]:=by
          simp only[List.mem_cons,List.not_mem_nil,or_false] at hb ⊢;rcases hb with q | q | q | q
          · exact .inl q
          · exact .inr (.inr (.inl q))
          · exact .inr (.inr (.inr (.inl q)))
          · exact .inr (.inr (.inr (.inr q)))
        obtain⟨f0,f1,f2,f3,f4,f5⟩:=hf b hb';exact⟨f3,f1,f4,f5⟩
      · rename_i hb
        exact⟨o,kk' b o hb e⟩
      · obtain⟨o,es,ep,ho,r⟩:=hm
        refine⟨o,es,ep,kk' _ o ?_ ho,r⟩;simp only[List.mem_cons,List.not_mem_nil,or_false,not_or];exact⟨((hf z (by simp)).2.1).symm,((hf TO (by simp)).2.1).symm,((hf i1 (by simp)).2.1).symm,((hf i2 (by simp)).2.1).symm⟩
  self:=fun _ _ _ _ _ st h=>wpAny_pyIter_zip st.1 h
section
variable {X:Cx}
def Yr6 (K:W.Frag) (ta:TA):TI:=fun σ H R=>ta σ H fun vs H1=>∃ a b,vs=[.ref a,.ref b]∧(∃ xs,SqT K H1 a xs)∧(∃ ys,SqL K H1 b ys)∧R (ItzX K a b) H1
theorem Xw1 {a b:Expr} {ta:TA} {p pos:Pos} {elts:List Expr} {k0:Nat} {tpos:Pos} (hg:Gl X "zip") (hm:X.mg "zip"=none) (ha:PA X [a,b] ta) (hs:starEach [a,b] X.env=[(false,eval a X.env),(false,eval b X.env)]:=by rfl) (hs2:starEach [b] X.env=[(false,eval b X.env)]:=by rfl) :
  PI X (.Tuple elts k0 tpos) (.Call (.Name "zip" p) [a,b] [] pos) (Yr6 X.K ta):=by
 intro c s k H R I h;refine Call_ (Zp8 I hg hm (by first | exact PySem.boot_zip | rfl) (PyProof.Rows.callWith_type1 (thn (ha pos c s k H _ I h) fun us s1 ⟨vs,H1,I1,r1,f⟩=>?_) (by rw[hs,hs2]) (by rw[hs2];rfl)));obtain⟨i,g,e,⟨N,f⟩,⟨M,z⟩,q⟩:=f;subst e;obtain⟨S,O,rfl,m,l⟩:=Yy1 r1;cases m;cases l;obtain⟨j,L,r,_⟩:=I1.tuple f;obtain⟨A,J,n,_⟩:=I1.list z;have F:i < s1.heap.objs.size:=r.lt;have D:g < s1.heap.objs.size:=(show g < s1.heap.objs.size by obtain⟨o,e,_⟩:=n.isList;exact Heap.lt_size e);refine Xa5 (show s1.heap.IsTuple i j.toArray from r) n.isList fun C t y x v u _ B=>wpAny_pyIter_zip t ?_;have G:Inv X c k H1 { s1 with heap:=C }:=I1.kept (t':=s1.toks) B;refine⟨_,_,_,_,H1,rfl,G,Xc1 _ _ _ _ _ i g (zipApart_new F D),⟨t,y,⟨_,_,x⟩,v,u⟩,fun b w=>?_,q⟩
 have d:s1.heap.objs.size≤b:=by
  simp only[List.mem_cons,List.not_mem_nil,or_false] at w
  rcases w with rfl | rfl | rfl | rfl | rfl<;>omega
 exact I1.fpOk d (I1.hok.fresh d)
end
theorem Xq8 {K:W.Frag} {a b:Addr} {xs ys:List V} {g:TG} {tb:TS} {D:Ends} {σ:St} {H:Hp} (Pv:Nat→St→Hp→Prop) (hxy:xs.length=ys.length) (h0:Pv 0 σ H) (hl:∀ i σ H,i≤xs.length→Pv i σ H→SqT K H a xs∧SqL K H b ys)
  (hs:∀ i x y σ H T,i < xs.length→xs[i]?=some x→ys[i]?=some y→H T=none→Pv i σ H→g (.ref T) σ (upd H T (.tup [x,y])) fun σ2 H2=>tb { D with nx:=Pv (i+1),ct:=Pv (i+1),bk:=D.nx } σ2 H2) (hd:∀ σ H,Pv xs.length σ H→D.nx σ H) :
  ∃ W:Nat→Nat→St→Hp→Prop,(∃ m,W 0 m σ H)∧∀ i m σ H,W i m σ H →
   ((ItzX K a b).stop i H∧D.nx σ H)∨((ItzX K a b).go i H∧∃ N:St→Hp→Prop,(∀ σ' H',N σ' H'→∃ m',m' < m∧W (i+1) m' σ' H')∧∀ x H',(ItzX K a b).yld i H x H'→g x σ H' fun σ2 H2=>tb { D with nx:=N,ct:=N,bk:=D.nx } σ2 H2):=by
 refine⟨fun i m σ H=>m=xs.length - i∧i≤xs.length∧Pv i σ H,⟨xs.length,by simp,Nat.zero_le _,h0⟩,?_⟩;rintro i m σ H ⟨rfl,k,p⟩;obtain⟨d,c⟩:=hl i σ H k p
 by_cases hlt:i < xs.length
 ·refine .inr ⟨⟨xs,ys,xs[i],ys[i],d,c,by simp[hlt],by simp[hxy▸hlt]⟩,Pv (i+1),fun σ' H' j=>⟨xs.length - (i+1),by omega,rfl,hlt,j⟩,fun x H' y=>?_⟩
  obtain⟨T,x,y,rfl,l,rfl,h,f⟩:=y;exact hs i x y σ H T hlt (h xs d) (f ys c) l p
 ·have e:i=xs.length:=by omega
  subst e;exact .inl ⟨⟨xs,ys,d,c,Nat.le_refl _⟩,hd _ _ p⟩
def Rise (xs:Array Nat):Prop:=xs.toList.Pairwise (· < ·)
theorem Rise.lt {xs:Array Nat} (h:Rise xs) {i j a b:Nat} (hij:i < j) (ha:xs[i]?=some a) (hb:xs[j]?=some b):a < b:=by
 rw[← Array.getElem?_toList] at ha hb;obtain⟨d,rfl⟩:=List.getElem?_eq_some_iff.mp ha;obtain⟨c,rfl⟩:=List.getElem?_eq_some_iff.mp hb;exact List.pairwise_iff_getElem.mp h i j d c hij
structure Cut (xs:Array Nat) (j c:Nat):Prop where
 le:c≤xs.size
 lo:∀ i a,i < c→xs[i]?=some a→a < j
 hi:∀ i a,c≤i→xs[i]?=some a→j≤a
theorem Xj0 {xs:Array Nat} (h:Rise xs) (j:Nat):∀ (n lo hi:Nat),hi - lo≤n→lo≤hi→hi≤xs.size→(∀ i a,i < lo→xs[i]?=some a→a < j)→(∀ i a,hi≤i→xs[i]?=some a→j≤a)→Cut xs j (SetTable.below.go xs j n lo hi)
 | 0,lo,hi,hn,hl,hz,h1,h2=>by
  rw[SetTable.below.go.eq_def]
  have e:lo=hi:=by omega
  subst e;exact⟨hz,h1,h2⟩
 | n+1,lo,hi,hn,hl,hz,h1,h2=>by
  rw[SetTable.below.go.eq_def];dsimp only
  by_cases c:lo < hi
  ·rw[if_pos c]
   have hm:(lo+hi) / 2 < xs.size:=by omega
   have em:xs[(lo+hi) / 2]?=some xs[(lo+hi) / 2]:=Array.getElem?_eq_getElem hm
   have eg:xs.getD ((lo+hi) / 2) j=xs[(lo+hi) / 2]:=by simp[Array.getD,hm]
   rw[eg]
   by_cases q:xs[(lo+hi) / 2] < j
   ·rw[if_pos q]
    refine Xj0 h j n _ _ (by omega) (by omega) hz (fun i a hi' e=>?_) h2
    by_cases z:i=(lo+hi) / 2
    ·subst z;rw[em] at e;cases e;exact q
    ·exact Nat.lt_trans (h.lt (show i < (lo+hi) / 2 by omega) e em) q
   ·rw[if_neg q]
    refine Xj0 h j n _ _ (by omega) (by omega) (by omega) h1 (fun i a hi' e=>?_)
    by_cases z:i=(lo+hi) / 2
    ·subst z;rw[em] at e;cases e;omega
    ·have:=h.lt (show (lo+hi) / 2 < i by omega) em e
     omega
  ·rw[if_neg c]
   have e:lo=hi:=by omega
   subst e;exact⟨hz,h1,h2⟩
theorem Yb0 {xs:Array Nat} (h:Rise xs) (j:Nat):Cut xs j (SetTable.below xs j) :=
 Xj0 h j xs.size 0 xs.size (by omega) (by omega) (by omega) (fun i a b _=>absurd b (Nat.not_lt_zero _)) fun i a b e=>by
  rw[Array.getElem?_eq_none b] at e;cases e
theorem Cut.uniq {xs:Array Nat} {j c d:Nat} (a:Cut xs j c) (b:Cut xs j d):c=d:=by
 rcases Nat.lt_trichotomy c d with z | z | z
 ·have h:c < xs.size:=Nat.lt_of_lt_of_le z b.le
  have e:xs[c]?=some xs[c]:=Array.getElem?_eq_getElem h;have:=b.lo c _ z e;have:=a.hi c _ (Nat.le_refl _) e;omega
 ·exact z
 ·have h:d < xs.size:=Nat.lt_of_lt_of_le z a.le
  have e:xs[d]?=some xs[d]:=Array.getElem?_eq_getElem h;have:=a.lo d _ z e;have:=b.hi d _ (Nat.le_refl _) e;omega
theorem Xb2 {xs:Array Nat} (h:Rise xs) {i a:Nat} (e:xs[i]?=some a):SetTable.below xs (a+1)=i+1:=by
 refine (Yb0 h (a+1)).uniq ⟨?_,fun k b d c=>?_,fun k b d c=>?_⟩
 ·by_cases z:i < xs.size
  ·exact z
  ·rw[Array.getElem?_eq_none (by omega)] at e;cases e
 ·by_cases z:k=i
  ·subst z;rw[e] at c;cases c;omega
  ·have:=h.lt (show k < i by omega) c e
   omega
 ·have:=h.lt (show i < k by omega) e c
  omega
theorem Xb1 {xs:Array Nat} (h:Rise xs):SetTable.below xs 0=0 :=
 (Yb0 h 0).uniq ⟨Nat.zero_le _,fun k b a _=>absurd a (Nat.not_lt_zero _),fun k b _ _=>Nat.zero_le _⟩
theorem Yp5 {xs:Array Nat} (h:Rise xs) {j:Nat} (hj:xs[SetTable.below xs j]?≠some j):Rise (SetTable.insertAt xs (SetTable.below xs j) j):=by
 have c:=Yb0 h j;generalize SetTable.below xs j=p at c hj;unfold Rise SetTable.insertAt
 have e:((xs.extract 0 p).push j++xs.extract p xs.size).toList=xs.toList.take p++(j :: xs.toList.drop p):=by
  simp[List.take_of_length_le]
 rw[e,List.pairwise_append];refine⟨h.sublist (List.take_sublist _ _),List.pairwise_cons.mpr ⟨fun b f=>?_,h.sublist (List.drop_sublist _ _)⟩,fun a m b f=>?_⟩
 ·obtain⟨i,d,e⟩:=List.getElem_of_mem f
  rw[List.getElem_drop] at e;rw[List.length_drop,Array.length_toList] at d
  have g:xs[p+i]?=some b:=by rw[← e,Array.getElem?_eq_getElem (by omega)];simp
  have k:=c.hi _ _ (Nat.le_add_right _ _) g
  by_cases z:b=j
  ·subst z
   cases i with
   | zero=>exact absurd g hj
   | succ i =>
    have l:xs[p]?=some (xs[p]'(by omega)):=Array.getElem?_eq_getElem _;have:=c.hi _ _ (Nat.le_refl _) l;have:=h.lt (show p < p+(i+1) by omega) l g;omega
  ·omega
 ·have k:a < j:=by
   obtain⟨i,d,e⟩:=List.getElem_of_mem m;rw[List.getElem_take] at e;rw[List.length_take,Array.length_toList] at d;exact c.lo i a (by omega) (by rw[← e,Array.getElem?_eq_getElem (by omega)];simp)
  rcases List.mem_cons.mp f with rfl | f
  ·exact k
  ·obtain⟨i,d,e⟩:=List.getElem_of_mem f
   rw[List.getElem_drop] at e;rw[List.length_drop,Array.length_toList] at d;have:=c.hi (p+i) b (Nat.le_add_right _ _) (by rw[← e,Array.getElem?_eq_getElem (by omega)];simp);omega
theorem Yu8 {t:SetTable} {j:Nat} (h:∀ i,t.slot j≠.live i):t.place[SetTable.below t.place j]?≠some j:=fun z=>by
 refine h (SetTable.below t.place j) ?_;unfold SetTable.slot;rw[if_pos (by simpa using z)]
theorem Zy8 {t:SetTable} {h:Int}:∀ (n:Nat) (p:SetTable.Probe) (j:Nat) (d:Option Nat),(∀ k,p.dummy=some k→t.place[SetTable.below t.place k]?≠some k)→SetTable.probe.go t (fun _=>h+1) h n p=some (.empty j d)→t.place[SetTable.below t.place (d.getD j)]?≠some (d.getD j)
 | 0,p,j,d,hp,e=>by rw[SetTable.probe.go.eq_def] at e;cases e
 | n+1,p,j,d,hp,e=>by
  rw[SetTable.probe.go.eq_def] at e;dsimp only at e
  have adv:∀ q:SetTable.Probe,(t.advance q).dummy=q.dummy:=fun q=>by
   unfold SetTable.advance
   split<;>rfl
  cases s:t.slot p.j with
  | empty =>
   rw[s] at e;cases e
   cases z:p.dummy with
   | none=>exact Yu8 fun i w=>by rw[show t.slot ((none:Option Nat).getD p.j)=.empty from s] at w;cases w
   | some k=>exact hp k z
  | dummy =>
   rw[s] at e;refine Zy8 n _ j d (fun k hk=>?_) e;rw[adv] at hk;cases hk
   exact Yu8 fun i w=>by rw[s] at w;cases w
  | live i =>
   rw[s] at e;dsimp only at e;rw[if_neg (by simp;omega)] at e;exact Zy8 n _ j d (fun k hk=>hp k (by rw[adv] at hk;exact hk)) e
theorem Yl9 {t:SetTable} {h:Int} {j:Nat} {b:Bool} (e:t.freeSlot h=some (j,b)):t.place[SetTable.below t.place j]?≠some j:=by
 unfold SetTable.freeSlot at e
 split at e
 ·rename_i k d q
  cases e
  exact Zy8 _ _ _ _ (fun k hk=>by
   have hk:(none:Option Nat)=some k:=hk
   cases hk) q
 ·cases e
theorem Zj9 (t:SetTable) (n:Nat):Rise (t.standIn n).place:=by
 show (Array.range n).toList.Pairwise (· < ·);rw[Array.toList_range];exact List.pairwise_lt_range
theorem Xv9 {t:SetTable} (n:Nat) (h:Rise t.place):Rise (t.orStandIn n).place:=by
 unfold SetTable.orStandIn
 split
 ·exact h
 ·exact Zj9 _ _
theorem Xo8 {t:SetTable} (h:Rise t.place) (es:Array (Int×Value)) (hh:Int) (x:Value):Rise (layNew t es hh x).2.1.place:=by
 unfold layNew
 split
 ·rename_i j b e
  exact Xv9 _ (Yp5 h (Yl9 e))
 ·exact Zj9 _ _
theorem Xe4 {mask finger moves:Nat} {led plain:Bool} {hashes:Array Int} {t:SetTable} {o:Array Nat} (h:SetTable.laid mask finger moves led plain hashes=some (t,o)):Rise t.place:=by
 unfold SetTable.laid at h
 cases z:SetTable.layClean mask hashes with
 | none=>rw[z] at h;cases h
 | some ow =>
  rw[z] at h;cases h;show (List.map _ _).toArray.toList.Pairwise (· < ·);rw[List.toList_toArray,List.pairwise_map,List.pairwise_filterMap];refine List.pairwise_lt_range.imp fun {a b} hab x d y c=>?_;have d:(ow.getD a none).map (a,·)=some x:=d;have c:(ow.getD b none).map (b,·)=some y:=c;obtain⟨u,_,rfl⟩:=Option.map_eq_some_iff.mp d;obtain⟨v,_,rfl⟩:=Option.map_eq_some_iff.mp c;exact hab
theorem Xo9 {t:SetTable} (h:Rise t.place) (es:Array (Int×Value)) (n:Nat):Rise (relayAll t es n).2.1.place:=by
 unfold relayAll
 split
 ·rename_i t' o e
  dsimp only
  split
  ·exact Xe4 (show SetTable.laid _ _ _ t.led t.plain _=some (t',o) from e)
  ·exact Zj9 _ _
 ·exact Zj9 _ _
theorem Xo7:Rise #[]:=List.Pairwise.nil
section
variable {P:Program} {w:World} {A:Around} {E:Value→Shared→Prop} {s:Shared}
theorem Yu9 {I a:Addr} {i ep slot:Nat} {o:Obj} {es:Array (Int×Value)} {t:SetTable} {Q:Option Value→Shared→Prop} (hb:w.params.followText "set-order"=false) (hI:s.heap.get? I=some (Zn2 (.int slot 0) i a es.size ep)) (ha:s.heap.get? a=some o) (hd:o.data=.set es ep t) (hf:t.fits es.size=true) (hl:t.led=true) (h1:t.plain=true∨es.size≤1)
    (h:wpAny (model P w) A.in1 (match (match es[SetTable.below t.place slot]?,t.place[SetTable.below t.place slot]? with
              | some (_,x),some j=>some (x,j+1)
              | _,_=>none) with
              | some (x,next)=>do
                setField (.ref I) 0 (rawInt ↑(next:Nat))
                setField (.ref I) 1 (rawInt (i+1))
                ret x
              | none=>do
                setField (.ref I) 2 Value.none
                Builtin.SmallTypes.stopIteration)
      (fun fin s'=>∃ v,fin=Fin.done (Flow.ret v)∧Q (some v) s') (fun e s'=>wpAny (model P w) A (isInstance e (Value.type "StopIteration") >>= fun b=>if b=true then pure none else throw e) Q E s') s):wpAny (model P w) A (pyNext (.ref I)) Q E s:=by
  refine Zr9 (n:=es.size) hI ha hd hf ?_;dsimp only;refine wpAny_bind ?_;unfold setNext;refine wpAny_bind (wpAny_setState_of ha hd hf ?_);dsimp only;refine wpAny_bind (wpAny_bind (wpAny_askSetting (wpAny_pure ?_)));rw[if_neg (show ¬ ((model P w).w.params.followText "set-order"=true) from fun z=>by rw[show (model P w).w.params.followText "set-order"=false from hb] at z;cases z)]
  split
  · rename_i hz
    have hz:(!t.plain&&decide (es.size > 1))=true:=hz;rw[Bool.and_eq_true] at hz;have:=of_decide_eq_true hz.2;rcases h1 with h1 | h1
    · rw[h1] at hz;cases hz.1
    · omega
  refine wpAny_bind ?_;show wpAny _ _ (if (!t.led&&!es.isEmpty)=true then unsupported "set:maker-not-led" else pure ()) _ _ _;rw[if_neg (by rw[hl];simp)];refine wpAny_pure (wpAny_pure ?_);exact h
def SiAtR (w:World) (I a:Addr) (es:Array (Int×Value)) (ep:Nat) (t:SetTable) (ord:List Value) (fs:List Addr) (i:Nat) (h:Heap):Prop :=
  (∃ o,h.get? a=some o∧o.data=.set es ep t) ∧
  ((∃ (T : Addr) (places : List Nat), fs = [T] ∧ h.get? I = some (Zn2 (.ref T) i a es.size ep) ∧ h.get? T = some { cls := .type "tuple", data := .seq (places.map fun (k : Nat) => rawInt (k : Int)).toArray } ∧ ord = places.map (fun k => ((es[k]?).getD (0, .none)).2) ∧ places.length = es.size ∧ ∀ k ∈ places, k < es.size) ∨
   (fs=[]∧w.params.followText "set-order"=true∧h.get? I=some (Zn2 (.int 0 0) i a es.size ep)∧ord=(pickOrder (w.params.setOrder a ep) es).toList.map (·.2)) ∨
   (fs=[]∧w.params.followText "set-order"=false∧(t.plain=true∨es.size≤1)∧t.led=true∧ord=es.toList.map (·.2)∧∃ slot:Nat,h.get? I=some (Zn2 (.int slot 0) i a es.size ep)∧Rise t.place∧SetTable.below t.place slot=i))
theorem SiAtR.keep {w:World} {I a:Addr} {es:Array (Int×Value)} {ep:Nat} {t:SetTable} {ord:List Value} {fs:List Addr} {i:Nat} {h h':Heap} (x:SiAtR w I a es ep t ord fs i h) (k:∀ b∈I :: a :: fs,∀ o,h.get? b=some o→h'.get? b=some o):SiAtR w I a es ep t ord fs i h':=by
 obtain⟨⟨o,n,m⟩,x⟩:=x;refine⟨⟨o,k a (by simp) o n,m⟩,?_⟩;rcases x with ⟨T,d,e,c,g,r⟩ | ⟨e,b,c,r⟩ | ⟨e,b,z,l,r,f,c,j⟩
 ·exact .inl ⟨T,d,e,k I (by simp) _ c,k T (by rw[e];simp) _ g,r⟩
 ·exact .inr (.inl ⟨e,b,k I (by simp) _ c,r⟩)
 ·exact .inr (.inr ⟨e,b,z,l,r,f,k I (by simp) _ c,j⟩)
theorem Yy0 {I a:Addr} {es:Array (Int×Value)} {ep:Nat} {t:SetTable} {ord:List Value} {fs:List Addr} (hh:A.handled=none) (hf:t.fits es.size=true) (haI:a≠I) (hfI:∀ T∈fs,T≠I) :
  Walks P w A I (I :: a :: fs) [I] es.size (fun i v=>ord[i]?=some v) (SiAtR w I a es ep t ord fs):=by
 have f:∀ {h j:Heap} {b:Addr},Heap.SameBut I h j→b≠I→∀ o,h.get? b=some o→j.get? b=some o:=fun m g o e=>(m.2 _ g).trans e;refine⟨fun b g=>by rw[List.mem_singleton.mp g];simp,fun i h j x k=>x.keep k,fun i s Q E hi x q=>?_,fun s Q E x q=>?_,fun i s Q E x q=>?_⟩
 ·obtain⟨⟨o,p,n⟩,x⟩:=x
  rcases x with ⟨T,c,e,d,G,S,B,u⟩ | ⟨e,b,d,r⟩ | ⟨e,b,z,l,r,y,d,B,u⟩
  ·have X:c[i]?=some (c[i]'(by omega)):=List.getElem?_eq_getElem _
   have L:=u _ (List.getElem_mem (by omega:i < c.length));refine Ye6 d p n hf G X (hx:=(es[c[i]'(by omega)]'L).1) (x:=(es[c[i]'(by omega)]'L).2) (by rw[Array.getElem?_eq_getElem L]) fun j D m=>?_;refine q _ j s.toks ?_ ⟨⟨o,f m haI _ p,n⟩,.inl ⟨T,c,e,D,f m (hfI T (by rw[e];simp)) _ G,S,B,u⟩⟩ fun b o g e=>f m (by simpa using g) _ e;rw[S,List.getElem?_map,X];simp[Array.getElem?_eq_getElem L]
  ·have W:(pickOrder (w.params.setOrder a ep) es).size=es.size:=by have:=(Zk2 (w.params.setOrder a ep) es).length_eq;simpa using this
   have M:(pickOrder (w.params.setOrder a ep) es)[i]?=some ((pickOrder (w.params.setOrder a ep) es)[i]'(by omega)):=Array.getElem?_eq_getElem _;refine Yj3 b d p n hf M fun j D m=>?_;refine q _ j s.toks ?_ ⟨⟨o,f m haI _ p,n⟩,.inr (.inl ⟨e,b,D,r⟩)⟩ fun b o g e=>f m (by simpa using g) _ e;rw[r,List.getElem?_map,Array.getElem?_toList,M];rfl
  ·have q0:t.place.size=es.size:=by
    unfold SetTable.fits at hf;rw[Bool.and_eq_true,beq_iff_eq] at hf;exact hf.1
   have N:t.place[i]?=some (t.place[i]'(by omega)):=Array.getElem?_eq_getElem _;have O:es[i]?=some (es[i]'hi):=Array.getElem?_eq_getElem _;refine Yu9 b d p n hf l z ?_;rw[u,N,O];refine wpAny_bind (wpAny_setField_rec d (by simp) fun g1 R C=>wpAny_bind (wpAny_setField_rec R (by simp) fun g2 Y V=>wpAny_pure ⟨_,rfl,?_⟩));have m:=C.trans V;refine q _ g2 s.toks ?_ ⟨⟨o,f m haI _ p,n⟩,.inr (.inr ⟨e,b,z,l,r,_,?_,B,Xb2 B N⟩)⟩ fun b o g e=>f m (by simpa using g) _ e
   ·rw[r,List.getElem?_map,Array.getElem?_toList,O];rfl
   ·exact Y
 ·obtain⟨⟨o,p,n⟩,x⟩:=x
  rcases x with ⟨T,c,e,d,G,S,B,u⟩ | ⟨e,b,d,r⟩ | ⟨e,b,z,l,r,y,d,B,u⟩
  ·exact Yj4 hh d p n hf G (List.getElem?_eq_none (by omega)) fun j F=>q j s.toks fun b o g e=>F b o (by simpa using g) e
  ·have W:(pickOrder (w.params.setOrder a ep) es).size=es.size:=by have:=(Zk2 (w.params.setOrder a ep) es).length_eq;simpa using this
   exact Yp0 hh b d p n hf (Array.getElem?_eq_none (by omega)) fun j F=>q j s.toks fun b o g e=>F b o (by simpa using g) e
  ·refine Yu9 b d p n hf l z ?_
   have J:es[SetTable.below t.place y]?=none:=by
    rw[u];exact Array.getElem?_eq_none (Nat.le_refl _)
   rw[J];dsimp only;refine wpAny_bind (wpAny_setField_rec d (by simp) fun g1 R C=>?_);refine Zx6 (A:=A.in1) hh fun j e k ⟨oe,M,hc⟩=>wpAny_bind (wpAny_isInstance ⟨oe,M,hc⟩ isSubtype_stop ?_);rw[if_pos rfl];exact wpAny_pure (q j s.toks fun b Z g F=>k b Z ((C.2 b (by simpa using g)).trans F))
 ·have U:s.TypeIs (.ref I) "set_iterator":=by
   obtain⟨_,x⟩:=x;rcases x with ⟨T,c,e,d,_⟩ | ⟨e,b,d,r⟩ | ⟨e,b,z,l,r,y,d,B,u⟩
   ·exact⟨_,d,rfl⟩
   ·exact⟨_,d,rfl⟩
   ·exact⟨_,d,rfl⟩
  exact wpAny_pyIter_slot U Zu9 (wpAny_call_entry Zu9 U Yh0 (id (wpAny_pure ⟨.ref I,rfl,"set_iterator",.builtin "set_iterator.__next__",U,slot_si_next.lookup,q⟩)) (Yn4 (.ref I)))
theorem Xh7 {a:Addr} {o:Obj} {es:Array (Int×Value)} {ep:Nat} {t:SetTable} {Q:Value→Shared→Prop} (ha:s.heap.get? a=some o) (hx:o.ExactSet) (hd:o.data=.set es ep t) (hf:t.fits es.size=true) (hl:t.led=!(w.params.followText "set-order")) (hp:Rise t.place) (hz:es.size≤sizeLine)
  (hQ:∀ (I:Addr) (fs:List Addr) (ord:List Value) (h':Heap) (d:Drawn),s.heap.objs.size≤I→(∀ T∈fs,s.heap.objs.size≤T∧T≠I)→(∀ b∈I :: fs,b < h'.objs.size)→(∀ b o,s.heap.get? b=some o→h'.get? b=some o)→List.Perm ord (es.toList.map (·.2))→SiAtR w I a es ep t ord fs 0 h'→Q (.ref I) { s with heap:=h',drawn:=d }) :
  wpAny (model P w) A (pyIter (.ref a)) Q E s:=by
 have hT:s.TypeIs (.ref a) "set":=⟨o,ha,hx.1⟩;refine wpAny_pyIter_slot hT F.slot_set_iter (wpAny_call_entry F.slot_set_iter hT Yb6 ?_ (F.args_set_iter_1 (.ref a)));show wpAny _ _ (Builtin.Frozenset.slot0 "__iter__" { pos:=[.ref a] } >>= _) _ _ _;refine wpAny_bind ?_;show wpAny _ _ (Builtin.Frozenset.addrOf (.ref a)) _ _ _;refine wpAny_pure ?_;refine wpAny_bind (wpAny_bind (wpAny_setEntries_of ha hd hf (wpAny_pure ?_)));refine wpAny_bind ?_;unfold setDrawn;refine wpAny_bind (wpAny_setState_of ha hd hf ?_);dsimp only;refine wpAny_bind (wpAny_bind (wpAny_askSetting (wpAny_pure (wpAny_pure ?_))));dsimp only
 split
 ·rename_i hc
  have hc:(!(w.params.followText "set-order")&&(!t.plain&&decide (es.size > 1)))=true:=hc;refine wpAny_bind (Yc9 es.size (List.range es.size) (by simp) fun ys d hy=>?_)
  have hyl:ys.length=es.size:=by have:=hy.length_eq;simpa using this
  refine wpAny_bind (wpAny_newTuple (s:={ s with drawn:=d }) ?_ (by rw[List.length_map,hyl];exact hz));dsimp only;have ha1:(s.heap.push { cls:=Value.type "tuple",data:=Data.seq (List.map (fun (i:Nat)=>rawInt ↑i) ys).toArray }).get? a=some o:=Heap.get?_push_of_some _ ha;refine wpAny_bind (wpAny_bind (wpAny_setState_of (s:={ s with heap:=s.heap.push { cls:=Value.type "tuple",data:=Data.seq (List.map (fun (i:Nat)=>rawInt ↑i) ys).toArray },drawn:=d }) ha1 hd hf (wpAny_pure ?_)));dsimp only;refine wpAny_bind (wpAny_newObj_type ?_ (hd:=by show 5≤sizeLine+2;decide));generalize hp1:s.heap.push { cls:=Value.type "tuple",data:=Data.seq (List.map (fun (i:Nat)=>rawInt ↑i) ys).toArray }=g1 at ha1
  have z1:g1.objs.size=s.heap.objs.size+1:=by rw[← hp1];exact Heap.size_push _ _
  have eT:g1.get? s.heap.objs.size=some { cls:=Value.type "tuple",data:=Data.seq (List.map (fun (i:Nat)=>rawInt ↑i) ys).toArray }:=by rw[← hp1];exact Heap.get?_push_size _ rfl
  have k1:∀ b o,s.heap.get? b=some o→g1.get? b=some o:=fun b o e=>by rw[← hp1];exact Heap.get?_push_of_some _ e
  have eI:(g1.push (Zn2 (.ref s.heap.objs.size) 0 a es.size ep)).get? g1.objs.size=some (Zn2 (.ref s.heap.objs.size) 0 a es.size ep):=Heap.get?_push_size _ rfl;refine wpAny_pure ⟨_,rfl,"set_iterator",_,⟨_,eI,rfl⟩,slot_si_next.lookup,?_⟩
  have szE:(g1.push (Zn2 (.ref s.heap.objs.size) 0 a es.size ep)).objs.size=s.heap.objs.size+2:=by rw[Heap.size_push,z1]
  refine hQ g1.objs.size [s.heap.objs.size] (ys.map fun k=>((es[k]?).getD (0,.none)).2) _ d (by rw[z1];exact Nat.le_succ _) (fun T hT=>by rw[List.mem_singleton.mp hT,z1];exact⟨Nat.le_refl _,Nat.ne_of_lt (Nat.lt_succ_self _)⟩) (fun b hb=>?_) (fun b o e=>Heap.get?_push_of_some _ (k1 b o e)) ?_ ⟨⟨o,Heap.get?_push_of_some _ ha1,hd⟩,.inl ⟨_,ys,rfl,eI,Heap.get?_push_of_some _ eT,rfl,hyl,fun k hk=>by have:=hy.mem_iff.mp hk;simpa using this⟩⟩
  ·rw[Heap.size_push]
   rcases List.mem_cons.mp hb with rfl | hb
   ·exact Nat.lt_succ_self _
   ·rw[List.mem_singleton.mp hb]
    show s.heap.objs.size < g1.objs.size+1;rw[z1];exact Nat.lt_succ_of_lt (Nat.lt_succ_self _)
  ·refine (hy.map _).trans ?_
   have e:List.map (fun k=>((es[k]?).getD (0,Value.none)).2) (List.range es.size)=es.toList.map (·.2):=by
    apply List.ext_getElem
    ·simp
    ·intro i h1 h2
     simp only[List.length_map,List.length_range] at h1;simp[Array.getElem?_eq_getElem h1]
   rw[e]
 ·rename_i hc
  have hc:¬ ((!(w.params.followText "set-order")&&(!t.plain&&decide (es.size > 1)))=true):=hc;refine wpAny_bind (wpAny_pure ?_);refine wpAny_bind (wpAny_bind (wpAny_setState_of ha hd hf (wpAny_pure ?_)));dsimp only;refine wpAny_bind (wpAny_newObj_type ?_ (hd:=by show 5≤sizeLine+2;decide));have eI:(s.heap.push (Zn2 (.int 0 0) 0 a es.size ep)).get? s.heap.objs.size=some (Zn2 (.int 0 0) 0 a es.size ep):=Heap.get?_push_size _ rfl;refine wpAny_pure ⟨_,rfl,"set_iterator",_,⟨_,eI,rfl⟩,slot_si_next.lookup,?_⟩;have szE:(s.heap.push (Zn2 (.int 0 0) 0 a es.size ep)).objs.size=s.heap.objs.size+1:=Heap.size_push _ _
  by_cases hb:w.params.followText "set-order"=true
  ·refine hQ s.heap.objs.size [] ((pickOrder (w.params.setOrder a ep) es).toList.map (·.2)) _ s.drawn (Nat.le_refl _) (fun T hT=>absurd hT (by simp)) (fun b hb=>by rw[List.mem_singleton.mp hb,Heap.size_push];exact Nat.lt_succ_self _) (fun b o e=>Heap.get?_push_of_some _ e) ((Zk2 _ _).map _) ⟨⟨o,Heap.get?_push_of_some _ ha,hd⟩,.inr (.inl ⟨rfl,hb,eI,rfl⟩)⟩
  ·have hb':w.params.followText "set-order"=false:=by simpa using hb
   have hsz:t.plain=true∨es.size≤1:=by
    cases hpl:t.plain with
    | true=>exact .inl rfl
    | false =>
     rw[hb',hpl] at hc;simp at hc;exact .inr hc
   refine hQ s.heap.objs.size [] (es.toList.map (·.2)) _ s.drawn (Nat.le_refl _) (fun T hT=>absurd hT (by simp)) (fun b hb=>by rw[List.mem_singleton.mp hb,Heap.size_push];exact Nat.lt_succ_self _) (fun b o e=>Heap.get?_push_of_some _ e) (.refl _) ⟨⟨o,Heap.get?_push_of_some _ ha,hd⟩,.inr (.inr ⟨rfl,hb',hsz,by rw[hl,hb'];rfl,rfl,0,eI,hp,Xb1 hp⟩)⟩
theorem Ys5 {a S:Addr} {o:Obj} {es:Array (Int×Value)} {ep:Nat} {t:SetTable} {R:Result→Shared→Prop} {res:Value} {c₀:Nat} (hh:A.handled=none) (ha:s.heap.get? a=some o) (hx:o.ExactSet) (hd:o.data=.set es ep t) (hf:t.fits es.size=true) (hl:t.led=!(w.params.followText "set-order")) (hp:Rise t.place) (hz:es.size≤sizeLine)
  (hS:s.heap.get? S=some { cls:=.type "list",data:=.seq #[] c₀ })
  (hR:∀ (h':Heap) (tk:Nat) (d:Drawn) (vs:List Value) (c':Nat),(∀ b o,b≠S→s.heap.get? b=some o→h'.get? b=some o)→h'.get? S=some { cls:=.type "list",data:=.seq vs.toArray c' }→List.Perm vs (es.toList.map (·.2))→R (.ok (.ret res)) { s with heap:=h',toks:=tk,drawn:=d }) :
  wpAny (model P w) A.in1 (Builtin.List.listExtendWith (.ref S) (.ref a) res) (fun fin s'=>match fin with
   | Fin.done f=>R (.ok f) s'
   | Fin.again c'=>c'.quiet=true∧codeAny (model P w) A c' R s') (fun e s'=>R (.error e) s') s:=by
 have hT:s.TypeIs (.ref a) "set":=⟨o,ha,hx.1⟩
 have B:S≠a:=fun z=>by
  rw[z,ha] at hS;cases hS;cases hd
 unfold Builtin.List.listExtendWith;refine wpAny_bind (wpAny_typeOf hT ?_)
 rw[if_neg (show ¬ ((Builtin.List.listSameRef (.ref S) (.ref a)||Value.type "set" == Value.type "list"||Value.type "set" == Value.type "tuple")=true) from by
  rw[show Builtin.List.listSameRef (.ref S) (.ref a)=false from by
   show (S == a)=false
   simpa using B]
  decide)]
 refine wpAny_bind (Xh7 ha hx hd hf hl hp hz fun I fs ord p d G u q0 n k J=>?_)
 have ol:ord.length=es.size:=by have:=k.length_eq;simpa using this
 have O:a≠I:=Nat.ne_of_lt (Nat.lt_of_lt_of_le (Heap.lt_size ha) G);have X:S≠I:=Nat.ne_of_lt (Nat.lt_of_lt_of_le (Heap.lt_size hS) G)
 have y:S ∉ I :: a :: fs:=fun z=>by
  rcases List.mem_cons.mp z with z | z
  ·exact X z
  rcases List.mem_cons.mp z with z | z
  ·exact B z
  ·exact Nat.ne_of_lt (Nat.lt_of_lt_of_le (Heap.lt_size hS) (u S z).1) rfl
 have m:=n S _ hS;have U:({ s with heap:=p,drawn:=d }:Shared).TypeIs (.ref a) "set":=⟨o,n a _ ha,hx.1⟩;have W:=Yy0 (P:=P) (w:=w) (A:=A.in1) (I:=I) (a:=a) (es:=es) (ep:=ep) (t:=t) (ord:=ord) (fs:=fs) hh hf O fun T V=>(u T V).2
 have r:∀ (h:Heap) (c₁ tk:Nat),SiAtR w I a es ep t ord fs 0 h→(∀ b o,b≠S→s.heap.get? b=some o→h.get? b=some o)→h.get? S=some { cls:=.type "list",data:=.seq #[] c₁ } →
   codeAny (model P w) A (Code.builtin "list.extend.loop" { pos:=[.ref S,.ref I,res] }) R { s with heap:=h,toks:=tk,drawn:=d }:=fun h c₁ tk M hk hS₁ =>
  codeAny_extend_loopS (Walks.toS W) hz S y res es.size 0 { s with heap:=h,toks:=tk,drawn:=d } #[] c₁ rfl (Nat.zero_le _) M hS₁ (ItemsOf.nil _) fun s' i c' N Z l=>by
   rw[Moved.eq_with N];refine hR s'.heap s'.toks d i.toList c' (fun b o g e=>N.heap b o (fun D=>?_) (hk b o g e)) (by simpa using Z) ?_
   ·rcases List.mem_cons.mp D with z | z
    ·exact g z
    ·have z':b=I:=List.mem_singleton.mp z
     exact absurd (Heap.lt_size e) (by rw[z'];exact Nat.not_lt.mpr G)
   ·have e:i.toList=ord:=by
     apply List.ext_getElem?;intro j
     cases q:i.toList[j]? with
     | none =>
      have:i.toList.length≤j:=List.getElem?_eq_none_iff.mp q;rw[List.getElem?_eq_none (by rw[ol];have:=l.1;rw[Array.length_toList] at *;omega)]
     | some v=>exact (l.2 j v (by simpa using q)).symm
    rw[e];exact k
 refine wpAny_bind (wpAny_holding (Xq5 U ?_));refine wpAny_ite_split (fun _=>?_) fun _=>?_
 ·refine wpAny_bind (wpAny_rule (wpAny_bind ?_))
  have C:=Heap.get?_update_self (Obj.mapSeq fun x=>x.push Value.none) m rfl;have Y:=Heap.get?_update_self (Obj.mapSeq fun x=>x.pop) C rfl
  have L:∀ b ob,b≠S→p.get? b=some ob→((p.update S (Obj.mapSeq fun x=>x.push Value.none)).update S (Obj.mapSeq fun x=>x.pop)).get? b=some ob:=fun b ob g e =>
   ((Heap.SameBut.update _ S _).2 b g).trans (((Heap.SameBut.update _ S _).2 b g).trans e)
  refine wpAny_bind (wpAny_updateSeq m rfl ?_);refine wpAny_updateSeq C rfl ?_;exact wpAny_pure ⟨plainId_quiet F.plain_extend_loop _,r _ _ s.toks (J.keep fun b g ob e=>L b ob (fun z=>y (z▸g)) e) (fun b ob g e=>L b ob g (n b ob e)) Y⟩
 ·exact wpAny_pure ⟨plainId_quiet F.plain_extend_loop _,r p c₀ s.toks J (fun b o _ e=>n b o e) m⟩
theorem Ym4 {a:Addr} {o:Obj} {es:Array (Int×Value)} {ep:Nat} {t:SetTable} {Q:List Value→Shared→Prop} (hh:A.handled=none) (ha:s.heap.get? a=some o) (hx:o.ExactSet) (hd:o.data=.set es ep t) (hf:t.fits es.size=true) (hl:t.led=!(w.params.followText "set-order")) (hp:Rise t.place) (hz:es.size≤sizeLine)
  (hQ:∀ (h':Heap) (tk:Nat) (d:Drawn) (vs:List Value),s.heap.objs.size < h'.objs.size→(∀ b o,s.heap.get? b=some o→h'.get? b=some o)→List.Perm vs (es.toList.map (·.2))→Q vs { s with heap:=h',toks:=tk,drawn:=d }) :
  wpAny (model P w) A (collect (.ref a)) Q E s:=by
 refine wpAny_bind (wpAny_runValue (codeAny_builtin entry_proto_collect' ?_));rw[Around.under_plainId F.plain_proto_collect { pos:=[Value.ref a] }];refine wpAny_bind (wpAny_newObj_type (wpAny_pure ⟨plainId_quiet F.plain_list_iadd _,codeAny_builtin entry_list_iadd' ?_⟩));rw[Around.under_plainId F.plain_list_iadd { pos:=[Value.ref s.heap.objs.size,Value.ref a] }];show wpAny _ _ (Builtin.List.listExtendWith (.ref s.heap.objs.size) (.ref a) (.ref s.heap.objs.size)) _ _ _;have i:(s.heap.push { cls:=Value.type "list",data:=Data.seq ([]:List Value).toArray }).get? s.heap.objs.size=some { cls:=Value.type "list",data:=Data.seq #[] 0 }:=Heap.get?_push_size _ rfl
 refine Ys5 (P:=P) (w:=w) (s:={ s with heap:=s.heap.push { cls:=Value.type "list",data:=Data.seq ([]:List Value).toArray } }) (R:=fun r f=>match r with
  | .ok (.ret v)=>wpAny (model P w) A (match v with
   | .ref a=>do
    let o ← load a
    match o.data with
     | .seq xs _=>pure xs.toList
     | _=>unsupported "internal:collect"
   | _=>unsupported "internal:collect") Q E f
  | .ok _=>False
  | .error e=>E e f) hh (Heap.get?_push_of_some _ ha) hx hd hf hl hp hz i fun h' tk d vs j k g c=>?_
 refine wpAny_bind (wpAny_load g (wpAny_pure ?_));exact hQ h' tk d vs (Heap.lt_size g) (fun b h e=>k b h (Nat.ne_of_lt (Heap.lt_size e)) (Heap.get?_push_of_some _ e)) c
end
def SetAtI (P:Program) (w:World) (h:Heap) (a:Addr) (xs:List Int):Prop :=
 ∃ o es ep t ys,h.get? a=some o∧o.ExactSet∧o.data=Data.set es ep t∧ElemsOf (PySem.intKind P w) es.toList∧Paired (fun (e:Int×Value) (x:Int)=>∃ tk,e.2=.int x tk) es.toList ys∧List.Perm ys xs∧xs.Nodup∧es.size < scanBound∧t.fits es.size=true ∧
  t.led=!(w.params.followText "set-order")∧Rise t.place
theorem SetAtI.at {P:Program} {w:World} {h h':Heap} {a:Addr} {xs:List Int} (s:SetAtI P w h a xs) (k:∀ o,h.get? a=some o→h'.get? a=some o):SetAtI P w h' a xs:=by
 obtain⟨o,d,e,t,b,c,r⟩:=s;exact⟨o,d,e,t,b,k o c,r⟩
section
variable {P:Program} {w:World} {A:Around} {E:Value→Shared→Prop} {s:Shared}
theorem Yn6 {g:Bool→Sem Unit} (hg:∀ (b:Bool) (s₁:Shared) (Q':Unit→Shared→Prop),Q' () s₁→wpAny (model P w) A (g b) Q' E s₁) {a:Addr} {o:Obj} {es:Array (Int×Value)} {ep:Nat} {t:SetTable} (ho:s.heap.get? a=some o) (hx:o.ExactSet) (hd:o.data=.set es ep t)
  {es1:Array (Int×Value)} {t2:SetTable} {zs ys:List Int} (he:ElemsOf (PySem.intKind P w) es1.toList) (hp:Paired (fun (e:Int×Value) (x:Int)=>∃ tk,e.2=.int x tk) es1.toList ys) (hq:List.Perm ys zs) (hn:zs.Nodup) (hz:es1.size < scanBound) (hf:t2.fits es1.size=true) (hl:t2.led=!(w.params.followText "set-order")) (hpl:Rise t2.place)
  {wasDummy:Bool} {R:Option Bool→Shared→Prop} (hR:∀ h',Heap.SameBut a s.heap h'→SetAtI P w h' a zs→R (some true) { s with heap:=h' }) :
  wpAny (model P w) A (do
   storeSet a es1 t2
   if (!wasDummy&&t2.tooFull)=true then do
    g (relayAll t2 es1 (SetTable.grown es1.size)).2.2
    storeSet a (relayAll t2 es1 (SetTable.grown es1.size)).1 (relayAll t2 es1 (SetTable.grown es1.size)).2.1
    pure (some true)
   else pure (some true)) R E s:=by
 have j:=SetOf_store (knd:=PySem.intKind P w) (S':=fun k=>es1.toList.any fun e=>(PySem.intKind P w).is k e.2) ho hx hd he (fun k=>by rw[List.any_eq_true]) hz hf;refine wpAny_bind (wpAny_storeSet_of ho hd ?_ (Nat.le_trans (Nat.le_of_lt hz) (show scanBound≤sizeLine by decide)))
 split
 ·refine wpAny_bind (hg _ _ _ ?_)
  have d:=relayAll_perm t2 es1 (SetTable.grown es1.size);have i:=relayAll_fits t2 es1 (SetTable.grown es1.size);have m:=Yj8 t2 es1 (SetTable.grown es1.size);have f:=Xo9 hpl es1 (SetTable.grown es1.size);generalize relayAll t2 es1 (SetTable.grown es1.size)=rr at d i m f;have h:=he.perm d;obtain⟨l,q,p⟩:=Zz3 d.symm hp
  have n:rr.1.size=es1.size:=by have:=d.length_eq;simpa using this
  have c:rr.1.size < scanBound:=by rw[n];exact hz
  have r:=SetOf_store (knd:=PySem.intKind P w) (S':=fun k=>rr.1.toList.any fun e=>(PySem.intKind P w).is k e.2) j.1 hx rfl h (fun k=>by rw[List.any_eq_true]) c i;refine wpAny_bind (wpAny_storeSet_of j.1 rfl (wpAny_pure ?_) (Nat.le_trans (Nat.le_of_lt c) (show scanBound≤sizeLine by decide)));refine hR _ ((Heap.SameBut.update _ _ _).trans (Heap.SameBut.update _ _ _)) ⟨_,rr.1,_,rr.2.1,l,r.1,hx,rfl,h,p,q.symm.trans hq,hn,c,i,m.trans hl,f⟩
 ·refine wpAny_pure (hR _ (Heap.SameBut.update _ _ _) ⟨_,es1,_,t2,ys,j.1,hx,rfl,he,hp,hq,hn,hz,hf,hl,hpl⟩)
theorem Yp2 {a:Addr} {x:Int} {tk:Tok} {xs:List Int} {Q:Bool→Shared→Prop} (hs:SetAtI P w s.heap a xs) (hz:xs.length+1 < scanBound)
  (hQ:∀ h',Heap.SameBut a s.heap h'→SetAtI P w h' a (if x∈xs then xs else xs++[x])→∀ b,Q b { s with heap:=h' }) :
  wpAny (model P w) A (setAddHashed a (.int x tk) ((PySem.intKind P w).hash x)) Q E s:=by
 obtain⟨o,c,ep,t,ys,F,h2,C,M,p,n,h7,h8,Z,D,U⟩:=hs
 have q3:c.size=xs.length:=by have:=Paired.length p;have:=n.length_eq;rw[← Array.length_toList];omega
 have J:byScan (.int x tk) c=true:=by
  unfold byScan;rw[Bool.and_eq_true,Bool.and_eq_true];refine⟨⟨rfl,decide_eq_true h8⟩,?_⟩;rw[Array.all_eq_true_iff_forall_mem];intro e d;exact (M e (by simpa using d)).2
 have S:(PySem.intKind P w).is x (.int x tk)=true:=by
  show Value.isInt x (.int x tk)=true;simp[Value.isInt]
 unfold setAddHashed;refine wpAny_holding ?_;rw[setAddHashedIn.eq_def];refine wpAny_bind (wpAny_setState_of F C Z ?_);dsimp only;rw[if_pos J];unfold setAddByScan;refine wpAny_bind (wpAny_bind (wpAny_rule (wpAny_bind (wpAny_setScan_of S F C Z M ?_))))
 have g:∀ e∈c.toList,(PySem.intKind P w).is x e.2=true→x∈xs:=fun e d m=>by
  obtain⟨j,k,rfl⟩:=List.getElem_of_mem d;obtain⟨y,Y,u,ey⟩:=paired_get p (List.getElem?_eq_getElem k);rw[ey] at m
  have q0:x=y:=by
   have m:Value.isInt x (.int y u)=true:=m;exact (show y=x by simpa [Value.isInt] using m).symm
  rw[q0];exact n.mem_iff.mp (List.mem_of_getElem? Y)
 have B:x∈xs→∃ e∈c.toList,(PySem.intKind P w).is x e.2=true:=fun i=>by
  have Y:x∈ys:=n.mem_iff.mpr i;obtain⟨j,k,e⟩:=List.getElem_of_mem Y
  have R:j < c.toList.length:=by rw[Paired.length p];exact k
  obtain⟨y,N,u,ey⟩:=paired_get p (List.getElem?_eq_getElem R);rw[List.getElem?_eq_getElem k] at N;cases N;refine⟨_,List.getElem_mem R,?_⟩;rw[ey,e];show Value.isInt x (.int x u)=true;simp[Value.isInt]
 cases hf:List.findIdx? (fun e=>(PySem.intKind P w).is x e.2) c.toList with
 | some j =>
  dsimp only;refine wpAny_pure (wpAny_pure ?_)
  have i:x∈xs:=by
   obtain⟨k,hp,_⟩:=List.findIdx?_eq_some_iff_getElem.mp hf;exact g _ (List.getElem_mem k) hp
  have q:=hQ s.heap (Heap.SameBut.refl _ _) (by rw[if_pos i];exact⟨o,c,ep,t,ys,F,h2,C,M,p,n,h7,h8,Z,D,U⟩) false;exact q
 | none =>
  dsimp only
  have i:x ∉ xs:=fun z=>by
   obtain⟨e,d,m⟩:=B z;have:=List.findIdx?_eq_none_iff.mp hf e d;rw[m] at this;cases this
  rw[if_neg i] at hQ;have h:=layNew_perm t c ((PySem.intKind P w).hash x) (.int x tk);have I:=layNew_fits t c ((PySem.intKind P w).hash x) (.int x tk);have G:=Yz7 t c ((PySem.intKind P w).hash x) (.int x tk);have f:=Xo8 U c ((PySem.intKind P w).hash x) (.int x tk);generalize layNew t c ((PySem.intKind P w).hash x) (.int x tk)=r at h I G f;obtain⟨V,t1,wd,gv⟩:=r;dsimp only at h I G f ⊢
  have L:(c.push ((PySem.intKind P w).hash x,Value.int x tk)).toList=c.toList++[((PySem.intKind P w).hash x,Value.int x tk)]:=by simp
  rw[L] at h
  have T:ElemsOf (PySem.intKind P w) V.toList:=ElemsOf.perm (l:=c.toList++[((PySem.intKind P w).hash x,Value.int x tk)]) (fun e d=>by
   rcases List.mem_append.mp d with d | d
   ·exact M e d
   ·rw[List.mem_singleton.mp d]
    exact⟨⟨x,S,rfl⟩,rfl⟩) h
  have q2:Paired (fun (e:Int×Value) (x:Int)=>∃ tk,e.2=.int x tk) (c.toList++[((PySem.intKind P w).hash x,Value.int x tk)]) (ys++[x]):=Zi1 p (.cons ⟨tk,rfl⟩ .nil);obtain⟨q4,p1,q1⟩:=Zz3 h.symm q2
  have O:V.size=xs.length+1:=by
   have:=h.length_eq;rw[List.length_append,List.length_singleton,Array.length_toList,Array.length_toList] at this;omega
  have nd:(xs++[x]).Nodup:=by
   rw[List.nodup_append];refine⟨h7,by simp,fun a ha b hb=>?_⟩;rw[List.mem_singleton.mp hb];exact fun z=>i (z▸ha)
  refine wpAny_bind ?_;cases gv
  all_goals first | refine wpAny_pure ?_ | refine wpAny_rule ?_
  all_goals (
   by_cases hpl:t1.plain=true
   ·rw[if_pos hpl]
    refine wpAny_bind (wpAny_pure ?_);simp only[if_true];refine Yn6 (P:=P) (w:=w) (fun b s₁ Q' v=>by cases b<;>first | exact wpAny_pure v | exact wpAny_rule v) F h2 C T q1 (p1.symm.trans (n.append_right _)) nd (by rw[O];exact hz) I (G.trans D) f fun h' X W=>wpAny_pure (hQ h' X W true)
   ·rw[if_neg hpl]
    refine wpAny_bind (wpAny_pure ?_);simp only[if_true]
    refine Yn6 (P:=P) (w:=w) (fun b s₁ Q' v=>by cases b<;>first | exact wpAny_pure v | exact wpAny_rule v) F h2 C T q1 (p1.symm.trans (n.append_right _)) nd (by rw[O];exact hz) I (G.trans D) f fun h' X W=>wpAny_pure (hQ h' X W true))
end
noncomputable def Ye7 (P:Program) (w:World) (a:Addr) (xs:List Int):HO:=.ext fun h=>SetAtI P w h a xs
theorem Yv0 {P:Program} {w:World} {H:Hp} {h:Heap} {a:Addr} {xs:List Int} (s:SetAtI P w h a xs):ObjOk P w H h a (Ye7 P w a xs):=by
 obtain⟨o,e,f,t,c,b,r⟩:=id s;exact⟨s,⟨o,b⟩,fun b d z k=>SetAtI.at z k⟩
theorem Yv1 {P:Program} {w:World} {H:Hp} {h:Heap} {a:Addr} {xs:List Int} (ok:HOk P w H h) (e:H a=some (Ye7 P w a xs)):SetAtI P w h a xs:=(ok a _ e).1
theorem Yy9 {P:Program} {w:World} {h:Heap} {a:Addr} (e:h.get? a=some (Yp1 w)):SetAtI P w h a [] :=
 ⟨_,#[],0,_,[],e,⟨rfl,rfl,rfl⟩,rfl,fun e b=>by simp at b,.nil,.nil,List.nodup_nil,by decide,rfl,rfl,Xo7⟩
section
variable {P:Program} {w:World} {A:Around} {E:Value→Shared→Prop} {s:Shared}
theorem Xa8 {a:Addr} {x:Int} {tk:Tok} {xs:List Int} {Q:Value→Shared→Prop} (hs:SetAtI P w s.heap a xs) (hz:xs.length+1 < scanBound)
  (hQ:∀ h' tk',Heap.SameBut a s.heap h'→SetAtI P w h' a (if x∈xs then xs else xs++[x])→Q .none { s with heap:=h',toks:=tk' }) :
  wpAny (model P w) A (call (.builtin "set.add") [.ref a,.int x tk]) Q E s:=by
 have g:s.TypeIs (.ref a) "set":=by
  obtain⟨o,k,l,t,j,i,h,r⟩:=id hs;exact⟨o,i,h.1⟩
 have c:(PySem.intKind P w).is x (.int x tk)=true:=by
  show Value.isInt x (.int x tk)=true;simp[Value.isInt]
 refine wpAny_call_entry F.slot_set_add g F.entry_set_add ?_ (F.args_set_add_2 (.ref a) (.int x tk));show wpAny _ _ (Builtin.Frozenset.oneOther "add" { pos:=[.ref a,.int x tk] } >>= _) _ _ _;refine wpAny_bind ?_;show wpAny _ _ (Builtin.Frozenset.addrOf (.ref a) >>= fun d=>pure (d,Value.int x tk)) _ _ _;refine wpAny_bind (wpAny_pure (wpAny_pure ?_));show wpAny _ _ (setAdd a (.int x tk) >>= _) _ _ _;refine wpAny_bind (wpAny_holding (wpAny_bind ((PySem.intKind P w).pyHash c ?_)));exact Yp2 hs hz fun h' f e b=>wpAny_pure ⟨_,rfl,hQ h' _ f e⟩
end
def Yr2 (P:Program) (w:World) (te:TE) (acc:Addr):TK:=fun σ H N=>te σ H fun y H5=>∃ x xs,y=.int x∧H5 acc=some (Ye7 P w acc xs)∧xs.length < 4000∧N (upd H5 acc (Ye7 P w acc (if x∈xs then xs else xs++[x])))
theorem Xe9 {P:Program} {w:World} {Y:Cx} {elt:Expr} {te:TE} {acc:Addr} (hP:Y.prog=P) (hw:Y.w=w) (he:PE Y elt te):PTn Y (Xj7 elt (.ref acc) Y.env) (Yr2 P w te acc):=by
 subst hP hw;intro c s d H N I h;refine wpAny_bind (thn (he c s d H _ I h) fun v s7 ⟨y,H7,I7,r7,x,xs,e,ha7,hlen,n⟩=>?_);subst e;obtain⟨p,rfl⟩:=r7;have g:=Yv1 I7.hok ha7;refine wpAny_bind (wpAny_standAt (wpAny_bind (Xa8 g (Nat.lt_of_lt_of_le (Nat.add_lt_add_right hlen 1) (by decide)) fun q f i a=>wpAny_pure ?_)));obtain⟨o,z,A,t,m,k,r⟩:=id a;have l:=I7.write (x:=acc) (e:=acc) (o:=Ye7 Y.prog Y.w acc (if x∈xs then xs else xs++[x])) (t':=f) (by rw[ha7];exact True.intro) (.inl rfl) (fun b u j e=>(i.2 b j).trans e) ⟨o,k⟩ (Yv0 a);exact⟨d,_,l,Wk.refl _,n⟩
section
variable {X:Cx} {scope:Scope} {cl:List (Str×Addr)} {N':List Str} {nt:Nat} {ci:List Nat} {pins:List (Addr×Obj)} {σ:St} {H:Hp} {s:Shared}
theorem We1 {P:Program} {w:World} {elt tg iter:Expr} {ifs:List Expr} {gs:List Comprehension} {pos p0:Pos} {wi:TI} {g:TG} {tk:Addr→TK} {body:Addr→Env→Sem Unit} (hP:X.prog=P) (hw:X.w=w) (B:X.Ok→BlkOk X scope cl N' nt ci) (hc:X.calm=true) (hi:PI X tg iter wi)
  (hg:∀ s H C ex,PG (blk X N' scope cl s H C ex) tg g) (htn:∀ a env,Zt6 (.SetComp elt (⟨tg,iter,ifs,0⟩ :: gs) scope pos) 0 tg p0 (.ref a) env (body a env))
  (hb:∀ s H C ex a,PTn (blk X N' scope cl s H C ex) (body a (blk X N' scope cl s H C ex).env) (tk a)) (hs:∀ x,foldedSetIterable iter X.env x=pure x:=by intro _;rfl) :
  PE X (.SetComp elt (⟨tg,iter,ifs,0⟩ :: gs) scope pos) (Zu8 nt ci wi g tk fun a=>Ye7 P w a []):=by
 subst hP hw;intro j s y H Q I h;rw[arm_eval_SetComp];refine Xr8 (B I.ok) hc hi hg rfl (fun _ _=>Wn6) htn hb (ob:=Yp1 X.w) (fun h=>Xx5 h) rfl (fun H h a e _=>Yv0 (Yy9 e)) hs I h fun d C i v u q c k z=>?_;obtain⟨m,c⟩:=c;obtain⟨t,r,D,p,n,l⟩:=k;exact⟨m,c,fun A f=>⟨.ref d,v,u.turned (t':=i.toks) (fun b o hb e=>(f.2 b hb).trans e) t r p n l,rfl,q⟩⟩
end
section
variable {P:Program} {w:World} {A:Around} {E:Value→Shared→Prop} {s:Shared}
theorem Yr5 {es:List (Int×Value)} {ys:List Int} (h:Paired (fun (e:Int×Value) (x:Int)=>∃ tk,e.2=.int x tk) es ys):IntsAre (es.map (·.2)) ys:=by
 induction h with
 | nil=>exact .nil
 | cons hx _ ih =>
  obtain⟨tk,e⟩:=hx;rw[List.map_cons,e];exact .cons _ tk ih
theorem Xi1 {us vs:List Value} {ys:List Int} (p:List.Perm us vs) (h:IntsAre us ys):∃ zs,List.Perm ys zs∧IntsAre vs zs:=by
 induction p generalizing ys with
 | nil=>cases h;exact⟨[],.nil,.nil⟩
 | cons x _ ih =>
  cases h with
  | cons n tk t =>
   obtain⟨zs,f,c⟩:=ih t;exact⟨_ :: zs,.cons _ f,.cons _ tk c⟩
 | swap x y l =>
  cases h with
  | cons n tk t =>
   cases t with
   | cons n2 tk2 t=>exact⟨_,.swap _ _ _,.cons _ tk2 (.cons _ tk t)⟩
 | trans _ _ ih1 ih2 =>
  obtain⟨i,e,b⟩:=ih1 h;obtain⟨g,d,a⟩:=ih2 b;exact⟨g,e.trans d,a⟩
theorem Yo9 {a:Addr} {xs:List Int} {Q:Value→Shared→Prop} (hh:A.handled=none) (st:SetAtI P w s.heap a xs) (h64:xs.length < 64)
  (hQ:∀ (D:Addr) (h':Heap) (tk:Nat) (d:Drawn) (out:List Value) (c:Nat) (ys:List Int),s.heap.objs.size≤D→(∀ b o,s.heap.get? b=some o→h'.get? b=some o)→h'.get? D=some { cls:=.type "list",data:=.seq out.toArray c }→IntsAre out ys→List.Perm ys xs→Q (.ref D) { s with heap:=h',toks:=tk,drawn:=d }) :
  wpAny (model P w) A (call (.builtin "sorted") [.ref a]) Q E s:=by
 obtain⟨o,x,T,t,ys,J,I,G,S,r,q,R,O,F,v,u⟩:=st
 have j:x.size=xs.length:=by have:=Paired.length r;have:=q.length_eq;rw[← Array.length_toList];omega
 refine Calls.call_function_entry kind_sorted plain_sorted entry_sorted (args_sorted1 (.ref a)) ?_;show wpAny _ _ (pure () >>= _) _ _ _;refine wpAny_bind (wpAny_pure (wpAny_bind (Ym4 (A:=A.in1) hh J I G F v u (by rw[j];exact Nat.le_trans (Nat.le_of_lt h64) (by decide)) fun h' tk d i p k f=>?_)));obtain⟨N,z,y⟩:=Xi1 f.symm (Yr5 r)
 have h:i.length=xs.length:=by have:=f.length_eq;rw[List.length_map] at this;have e:=Array.length_toList (xs:=x);omega
 refine wpAny_bind (wpAny_newList ?_ (by rw[h];exact Nat.le_trans (Nat.le_of_lt h64) (by decide)));have g:(h'.push (seqObj "list" i.toArray 0)).get? h'.objs.size=some (seqObj "list" i.toArray 0):=Heap.get?_push_size _ rfl;refine wpAny_bind (wpAny_holding (wpAny_call_entry slot_list_sort ⟨_,g,rfl⟩ entry_list_sort (list_sort_tree g y (by rw[h];exact h64) fun out m M L U=>⟨_,rfl,?_⟩) (args_list_sort (.ref h'.objs.size))));obtain⟨c,C⟩:=sortedHeap_at (out:=out) g;refine wpAny_pure ⟨_,rfl,?_⟩;have n:s.heap.objs.size≤h'.objs.size:=Nat.le_of_lt p
 exact hQ h'.objs.size _ tk d out.toList c m n (fun b B e=>by
  have l:=k b B e;rw[sortedHeap_old (Nat.ne_of_lt (Heap.lt_size l)) (by rw[Heap.size_push];exact Nat.lt_succ_of_lt (Heap.lt_size l))]
  exact Heap.get?_push_of_some _ l) (C.trans (by rw[Array.toArray_toList])) M (L.trans (z.symm.trans q))
end
section
variable {X:Cx}
theorem Yh5 {P:Program} {w:World} (hP:X.prog=P) (hw:X.w=w) (hc:X.calm=true):Zr4 X (.builtin "sorted") (fun vs H Q=>∃ (a:Addr) (xs:List Int),vs=[.ref a]∧H a=some (Ye7 P w a xs)∧xs.length < 64∧∀ l ys,H l=none→List.Perm ys xs→Q (.ref l) (upd H l (.lst (ys.map V.int)))):=by
 subst hP hw;intro t s B H vs C Q I r h;obtain⟨a,xs,rfl,y,i,q⟩:=h;obtain⟨u,rfl,p⟩:=Yn9 r;cases p;refine Yo9 (I.ok.hd hc) (Yv1 I.hok y) i fun D A o d f c ys e k m x g=>?_;have j:H D=none:=I.hok.fresh e
 have n:ys.length < 64:=by rw[g.length_eq];exact i
 have v:ObjOk X.prog X.w (upd H D (.lst (ys.map V.int))) A D (.lst (ys.map V.int)):=⟨by rw[List.length_map];exact Nat.le_trans (Nat.le_of_lt n) (by decide),f,c,Zx0 x,m⟩;exact⟨.ref D,_,I.call (g':=s.gens) (t':=o) (d':=d) (ch:=[]) (Un.laid k e j) (I.hok.laid k e v) I.bare (fun b z=>absurd z (by simp)),rfl,q D ys j g⟩
end
theorem Xy2 {K:W.Frag} {σ0:St} {a:Addr} {xs:List V} {acc:Addr} {g:TG} {te:TE} {Q:VK} {H:Hp} (Pv:Nat→List V→Hp→Prop) (h0:Pv 0 [] (upd H acc (.lst []))) (hl:∀ i ys H2,i≤xs.length→Pv i ys H2→H2 acc=some (.lst ys)∧ys.length < sizeLine∧SqT K H2 a xs)
  (hs:∀ i x ys H2,xs[i]?=some x→Pv i ys H2→∀ C:VK,(∀ y H5,H5 acc=some (.lst ys)→Pv (i+1) (ys++[y]) (upd H5 acc (.lst (ys++[y])))→C y H5)→g x σ0 H2 fun σ4 H4=>Wk σ0 σ4∧te σ4 H4 C) (hd:∀ ys H2,Pv xs.length ys H2→Q (.ref acc) H2) :
  ∃ W:Nat→Nat→List V→Hp→Prop,(∃ m,W 0 m [] (upd H acc (.lst [])))∧lcW K σ0 (Itt K a) acc g te Q W:=by
 refine⟨fun i m ys H2=>m=xs.length - i∧i≤xs.length∧Pv i ys H2,⟨xs.length,by simp,Nat.zero_le _,h0⟩,?_⟩;rintro i m ys H2 ⟨rfl,d,p⟩;obtain⟨h,f,q⟩:=hl i ys H2 d p;refine⟨h,f,?_⟩
 by_cases hlt:i < xs.length
 ·refine .inr ⟨⟨xs,xs[i],q,by simp[hlt]⟩,fun x j y=>?_⟩
  obtain⟨e,y⟩:=y;subst e;exact hs i x ys _ (y xs q) p _ fun v H5 c b=>⟨c,xs.length - (i+1),by omega,rfl,hlt,b⟩
 ·have e:i=xs.length:=by omega
  subst e;exact .inl ⟨⟨xs,q,Nat.le_refl _⟩,hd ys H2 p⟩
section
variable {X:Cx}
theorem Xw9 {K:W.Frag} {o:Expr} {to:TE} {name:Str} {apos cpos:Pos} {T id:String} {r:V→List V→Hp→VK→Prop} (hK:X.K=K) (pa:PlainAttrs T) (slot:Slot T name id) (hty:typeOf (.builtin id)=pure (.type "method_descriptor")) (hm:MtR X id r) (ho:PE X o to)
  (hbase:attributeBase o name X.env (eval o X.env)=eval o X.env:=by rfl) (hline:(apos.endLine == cpos.line)=true:=by rfl):PE X (.Call (.Attribute o name apos) [] [] cpos) (tBM0 K T r to):=by
 subst hK;exact Xf4 pa slot hty hm ho hbase hline
end
theorem Xj6 {lo:Int} {n:Nat} {g:TG} {tb:TS} {D:Ends} {σ:St} {H:Hp} (Pv:Nat→St→Hp→Prop) (h0:Pv 0 σ H)
  (hs:∀ i σ H,i < n→Pv i σ H→∀ N:St→Hp→Prop,(∀ σ' H',Pv (i+1) σ' H'→N σ' H')→g (.int (lo - i)) σ H fun σ2 H2=>tb { D with nx:=N,ct:=N,bk:=D.nx } σ2 H2) (hd:∀ σ H,Pv n σ H→D.nx σ H) :
  ∃ W:Nat→Nat→St→Hp→Prop,(∃ m,W 0 m σ H)∧∀ i m σ H,W i m σ H →
   ((Itd lo n).stop i H∧D.nx σ H)∨((Itd lo n).go i H∧∃ N:St→Hp→Prop,(∀ σ' H',N σ' H'→∃ m',m' < m∧W (i+1) m' σ' H')∧∀ x H',(Itd lo n).yld i H x H'→g x σ H' fun σ2 H2=>tb { D with nx:=N,ct:=N,bk:=D.nx } σ2 H2) :=
 Xr2 Pv h0 (fun i σ H b a=>hs i σ H b a _ fun _ _ z=>z) hd
theorem Xj4 {K:W.Frag} {a b:Addr} {xs ys:List V} {g:TG} {tb:TS} {D:Ends} {σ:St} {H:Hp} (Pv:Nat→St→Hp→Prop) (hxy:xs.length=ys.length) (h0:Pv 0 σ H) (hl:∀ i σ H,i≤xs.length→Pv i σ H→SqT K H a xs∧SqL K H b ys)
  (hs:∀ i x y σ H T,i < xs.length→xs[i]?=some x→ys[i]?=some y→H T=none→Pv i σ H→∀ N:St→Hp→Prop,(∀ σ' H',Pv (i+1) σ' H'→N σ' H')→g (.ref T) σ (upd H T (.tup [x,y])) fun σ2 H2=>tb { D with nx:=N,ct:=N,bk:=D.nx } σ2 H2) (hd:∀ σ H,Pv xs.length σ H→D.nx σ H) :
  ∃ W:Nat→Nat→St→Hp→Prop,(∃ m,W 0 m σ H)∧∀ i m σ H,W i m σ H →
   ((ItzX K a b).stop i H∧D.nx σ H)∨((ItzX K a b).go i H∧∃ N:St→Hp→Prop,(∀ σ' H',N σ' H'→∃ m',m' < m∧W (i+1) m' σ' H')∧∀ x H',(ItzX K a b).yld i H x H'→g x σ H' fun σ2 H2=>tb { D with nx:=N,ct:=N,bk:=D.nx } σ2 H2) :=
 Xq8 Pv hxy h0 hl (fun i x y σ H T h f e d c=>hs i x y σ H T h f e d c _ fun _ _ z=>z) hd
theorem Zo0 {K:W.Frag} {a:Addr} {xs:List V} {g:TG} {tb:TS} {D:Ends} {σ:St} {H:Hp} (Pv:Nat→St→Hp→Prop) (h0:Pv 0 σ H) (hl:∀ i σ H,i≤xs.length→Pv i σ H→SqL K H a xs)
  (hs:∀ i x σ H,xs[i]?=some x→Pv i σ H→∀ N:St→Hp→Prop,(∀ σ' H',Pv (i+1) σ' H'→N σ' H')→g x σ H fun σ2 H2=>tb { D with nx:=N,ct:=N,bk:=D.nx } σ2 H2) (hd:∀ σ H,Pv xs.length σ H→D.nx σ H) :
  ∃ W:Nat→Nat→St→Hp→Prop,(∃ m,W 0 m σ H)∧∀ i m σ H,W i m σ H →
   ((Itl K a).stop i H∧D.nx σ H)∨((Itl K a).go i H∧∃ N:St→Hp→Prop,(∀ σ' H',N σ' H'→∃ m',m' < m∧W (i+1) m' σ' H')∧∀ x H',(Itl K a).yld i H x H'→g x σ H' fun σ2 H2=>tb { D with nx:=N,ct:=N,bk:=D.nx } σ2 H2) :=
 Xr0 Pv h0 hl (fun i x σ H c b=>hs i x σ H c b _ fun _ _ z=>z) hd
end L2
namespace Ken
open PySem L2
noncomputable def Xs4 (p:Pf):PyData:=.tuple [p.1.data,.int (p.2:Nat)]
abbrev IsPf (K:W.Frag) (H:Hp) (v:V) (p:Pf):Prop:=Dn K H v (Xs4 p)
theorem Zs2 (p:Pf):L2.noList (Xs4 p)=true:=by
 show (L2.noList p.1.data&&(true&&true))=true;rw[p.1.noList];rfl
theorem IsPf.keep {K:W.Frag} {H H':Hp} {v:V} {p:Pf} (h:IsPf K H v p) (k:KeepT K H H'):IsPf K H' v p:=Dn.keepT k (Zs2 p) h
theorem isPf {K:W.Frag} {H:Hp} {v:V} {p:Pf}:IsPf K H v p↔∃ a x,v=.ref a∧SqT K H a [x,.int (p.2:Nat)]∧IsE K H x p.1:=by
 show Dn K H v (.tuple [p.1.data,.int (p.2:Nat)])↔_;rw[dn_tup];constructor
 ·rintro⟨a,h,rfl,b,f⟩
  obtain⟨x,r,rfl,c,g⟩:=Zd5 f;obtain⟨y,r,rfl,e,d⟩:=Zd5 g;rw[dn_int] at e;rw[DnAll] at d;subst e;subst d;exact⟨a,x,rfl,b,c⟩
 ·rintro⟨a,x,rfl,b,c⟩
  exact⟨a,_,rfl,b,dnAll_cons c (dnAll_cons (dn_int.mpr rfl) dnAll_nil)⟩
noncomputable def innV (aT:Nat→Addr):List (Str×V):=[("at",.ref (aT 0)),("pair",.ref (aT 1)),("left",.ref (aT 2)),("right",.ref (aT 3)),("first",.ref (aT 4)),("second",.ref (aT 5)),("cases",.ref (aT 6)),("fun",.ref (aT 7)),("use",.ref (aT 8)),("off",.ref (aT 9))]
def innRow (K:W.Frag) (a:Addr) (r:List (Nat×Nat)):Prop:=∀ H,Dn K H (.ref a) (.tuple (r.map fun p=>.tuple [.int (p.1:Nat),.int (p.2:Nat)]))
noncomputable def Xy9:List (List (Nat×Nat)):=[[],[(1,0),(2,0)],[(1,0)],[(1,0)],[(1,0)],[(1,0)],[(1,0),(2,1),(3,1)],[(2,1)],[(1,0),(2,0)],[(1,0)]]
structure Inn (K:W.Frag) (aT:Nat→Addr):Prop where
 row:∀ i r,Xy9[i]?=some r→innRow K (aT i) r
theorem Xi3 {K:W.Frag} {aT:Nat→Addr} (h:Inn K aT) (t:Te):∃ a,(innV aT).lookup t.tag=some (.ref a)∧innRow K a t.inn:=by
 cases t with
 | «at» k=>exact⟨_,rfl,h.row 0 _ rfl⟩
 | one u a ss =>
  cases u
  ·exact⟨_,rfl,h.row 2 _ rfl⟩
  ·exact⟨_,rfl,h.row 3 _ rfl⟩
  ·exact⟨_,rfl,h.row 4 _ rfl⟩
  ·exact⟨_,rfl,h.row 5 _ rfl⟩
  ·exact⟨_,rfl,h.row 9 _ rfl⟩
 | two u a b =>
  cases u
  ·exact⟨_,rfl,h.row 1 _ rfl⟩
  ·exact⟨_,rfl,h.row 8 _ rfl⟩
 | fn s a=>exact⟨_,rfl,h.row 7 _ rfl⟩
 | cs a b c=>exact⟨_,rfl,h.row 6 _ rfl⟩
theorem innRow.sq {K:W.Frag} {a:Addr} {r:List (Nat×Nat)} (h:innRow K a r) (H:Hp):∃ xs,SqT K H a xs∧xs.length=r.length∧∀ (i p m:Nat),r[i]?=some (p,m)→∃ b,xs[i]?=some (V.ref b)∧SqT K H b [.int (p:Nat),.int (m:Nat)]:=by
 obtain⟨t,xs,e,k,c⟩:=dn_tup.mp (h H);cases e;refine⟨xs,k,by rw[DnAll.length c,List.length_map],fun i p m e=>?_⟩;obtain⟨u,q,o⟩:=Ze4 c (by rw[List.getElem?_map,e];rfl);obtain⟨b,s,rfl,l,j⟩:=dn_tup.mp o;obtain⟨x,r,rfl,g,n⟩:=Zd5 j;obtain⟨y,r,rfl,f,d⟩:=Zd5 n;rw[dn_int] at g f;rw[DnAll] at d;subst g;subst f;subst d;exact⟨b,q,l⟩
def Zf7 (K:W.Frag):Sp:=fun vs H Q _=>∃ (v:V) (t:Te),vs=[v]∧IsE K H v t∧t.size≤20000 ∧
 ∀ (r:Addr) (H':Hp) (us:List V),Same H H'→H r=none→H' r=some (.lst us)→Paired (IsPf K H') us (t.pre 0)→Q (.ref r) H'
def Zx7 (K:W.Frag):Sp:=fun vs H Q _=>∃ (v:V) (t:Te) (l:Addr) (us:List V) (ks:List Te),vs=[v,.ref l]∧IsE K H v t∧SqL K H l us∧Paired (IsE K H) us ks∧ks.length=t.kids.length ∧
 ∀ (r:V) (H':Hp),Same H H'→IsE K H' r (t.withK ks)→Q r H'
noncomputable abbrev RP:=Hp→Pf→V→Prop
def Yi6 (J:Hp→Prop) (R:RP) (p0:Pf):Sp:=fun vs H Q _=>∃ (n:Nat) (p:Pf) (l:Addr) (us:List V),vs=[.int (n:Nat),.ref l]∧J H∧(preP p0)[n]?=some p∧H l=some (.lst us)∧Paired (fun u k=>R H k u) us (Zh6 p) ∧
 ∀ (r:V) (H':Hp),Same H H'→R H' p r→Q r H'
def Zr8 (K:W.Frag) (J:Hp→Prop) (R:RP) (p0:Pf) (f:Addr):Sp:=fun vs H Q _=>∃ (l:Addr) (us:List V),vs=[.ref l,.ref f]∧J H∧SqL K H l us∧Paired (IsPf K H) us (preP p0)∧p0.1.size≤20000 ∧
 ∀ (r:V) (H':Hp),Same H H'→R H' p0 r→Q r H'
def Zy0 (K:W.Frag) (J:Hp→Prop) (F:Nat→Nat→Te) (A:Nat→Nat→Prop):Sp:=fun vs H Q _=>∃ (k f:Nat),vs=[.int (k:Nat),.int (f:Nat)]∧J H∧A k f∧∀ (r:V) (H':Hp),Same H H'→IsE K H' r (F k f)→Q r H'
theorem opq {P:(St→Hp→Prop)→Prop} {I:St→Hp→Prop} (h:∀ N:St→Hp→Prop,(∀ σ' H',I σ' H'→N σ' H')→P N):∃ N:St→Hp→Prop,(∀ σ' H',N σ' H'→I σ' H')∧P N:=⟨I,fun _ _ z=>z,h I fun _ _ z=>z⟩
theorem Xh0 {p:Pf} {i:Nat} {k:Te} {m:Nat} (h:p.1.kids[i]?=some (k,m)):(Zh6 p)[i]?=some (k,p.2+m):=by
 unfold Zh6;rw[List.getElem?_map,h];rfl
end Ken
namespace L2
open PySem PySem.Spec PyProof.Rows
structure SameV (ts:List Addr) (H H':Hp):Prop where
 toT:SameT H H'
 off:∀ b o,b ∉ ts→H b=some o→H' b=some o
 has:∀ b o,H b=some o→∃ o',H' b=some o'
theorem SameV.trans {ts:List Addr} {H H1 H2:Hp} (a:SameV ts H H1) (b:SameV ts H1 H2):SameV ts H H2 :=
 ⟨a.toT.trans b.toT,fun c o n h=>b.off c o n (a.off c o n h),fun c o h=>let ⟨o',h'⟩:=a.has c o h;b.has c o' h'⟩
theorem SameV.mono {ts ts':List Addr} {H H':Hp} (a:SameV ts H H') (h:∀ b∈ts,b∈ts'):SameV ts' H H' :=
 ⟨a.toT,fun c o n e=>a.off c o (fun z=>n (h c z)) e,a.has⟩
theorem Same.toV {ts:List Addr} {H H':Hp} (a:Same H H'):SameV ts H H':=⟨a.toT,fun c o _ h=>a c o h,fun c o h=>⟨o,a c o h⟩⟩
theorem SameU.toV {P:Addr} {H H':Hp} (a:SameU P H H'):SameV [P] H H':=⟨a.toT,fun c o n h=>a.off c o (fun z=>n (by rw[z];simp)) h,fun c o h=>by
 by_cases z:c=P
 ·subst z;exact a.tab o h
 ·exact⟨o,a.off c o z h⟩⟩
theorem SameV.free {ts:List Addr} {H H':Hp} (a:SameV ts H H') {l:Addr} (h:H' l=Option.none):H l=Option.none:=by
 cases e:H l with
 | none=>rfl
 | some o =>
  obtain⟨c,b⟩:=a.has l o e;rw[h] at b;cases b
theorem SameV.write {ts:List Addr} {H0 H:Hp} {l:Addr} {o:HO} (e:SameV ts H0 H) (h:H0 l=Option.none):SameV ts H0 (upd H l o):=by
 have a:∀ {b u},H0 b=some u→b≠l:=fun {b u} q z=>by rw[z,h] at q;cases q
 refine⟨fun b u n q=>?_,fun b u n q=>?_,fun b u q=>?_⟩
 ·rw[Zb1 (a q)];exact e.toT b u n q
 ·rw[Zb1 (a q)];exact e.off b u n q
 ·obtain⟨c,d⟩:=e.has b u q
  exact⟨c,by rw[Zb1 (a q)];exact d⟩
theorem SameV.tab {ts:List Addr} {H H':Hp} (a:SameV ts H H') {T:Addr} {ds:List (Pos×Str)} (n:T ∉ ts) (h:TabOk H T ds):TabOk H' T ds:=by
 obtain⟨b,i,g,f⟩:=h;exact⟨b,a.off _ _ n i,g,fun d c j e=>(f d c j e).keep a.toT⟩
theorem SameV.back {ts:List Addr} {xs:List (Addr×Obj)} {H H2:Hp} (h:SameV ts (remX xs H) H2):SameV ts H (Yb1 xs H H2):=by
 refine⟨fun b o n e=>?_,fun b o n e=>?_,fun b o e=>?_⟩
 ·by_cases z:b∈xs.map (·.1)
  ·rw[Zm6 z];exact e
  ·rw[Ze5 z];exact h.toT b o n (by rw[Zd8 z];exact e)
 ·by_cases z:b∈xs.map (·.1)
  ·rw[Zm6 z];exact e
  ·rw[Ze5 z];exact h.off b o n (by rw[Zd8 z];exact e)
 ·by_cases z:b∈xs.map (·.1)
  ·exact⟨o,by rw[Zm6 z];exact e⟩
  ·rw[Ze5 z];exact h.has b o (by rw[Zd8 z];exact e)
def Xu1 (xs:List (Addr×Obj)) (ds:List (Pos×Str)):Prop:=∀ p∈xs,∀ vs q t,p.2.data=.fields vs→vs[1]?=some (.str q t)→∀ d∈ds,d.2≠q
theorem TabOk.rem {xs:List (Addr×Obj)} {H:Hp} {T:Addr} {ds:List (Pos×Str)} (hx:∀ p∈xs,H p.1=some (FZ p.2)) (hn:Xu1 xs ds) (h:TabOk H T ds):TabOk (remX xs H) T ds:=by
 obtain⟨q,j,s,r⟩:=h
 have g:∀ {b u},H b=some u→(∀ p∈xs,b=p.1→u≠FZ p.2)→b ∉ xs.map (·.1):=fun {b u} e n z=>by
  obtain⟨p,a,rfl⟩:=List.mem_map.mp z;rw[hx p a] at e;exact n p a rfl (Option.some.inj e).symm
 refine⟨q,by rw[Zd8 (g j fun _ _ _ z=>nomatch z)];exact j,s,fun d i w e=>?_⟩;obtain⟨c,o,f,t,v,m,l,k⟩:=r d i w e;refine⟨c,o,f,t,v,?_,l,k⟩;rw[Zd8 (g m fun p a _ z=>?_)]
 ·exact m
 ·cases z
  exact hn p a f d.2 t l k d i rfl
theorem TabOk.back {xs:List (Addr×Obj)} {H H2:Hp} {T:Addr} {ds:List (Pos×Str)} (hx:∀ p∈xs,H2 p.1=none) (h:TabOk H2 T ds):TabOk (Yb1 xs H H2) T ds:=by
 obtain⟨j,f,n,m⟩:=h
 have a:∀ {b:Addr} {u:HO},H2 b=some u→b ∉ xs.map (·.1):=fun {b u} e z=>by
  obtain⟨p,k,rfl⟩:=List.mem_map.mp z;rw[hx p k] at e;cases e
 refine⟨j,by rw[Ze5 (a f)];exact f,n,fun d l v e=>?_⟩;obtain⟨c,o,i,t,s,g,r,q⟩:=m d l v e;exact⟨c,o,i,t,s,by rw[Ze5 (a g)];exact g,r,q⟩
theorem TabOk.put {H:Hp} {T l:Addr} {ds:List (Pos×Str)} {o o':HO} (e:H l=some o) (n1:∀ ps,o≠.tbl ps) (n2:∀ b,o≠FZ b) (h:TabOk H T ds):TabOk (upd H l o') T ds:=by
 obtain⟨ps,a,k,j⟩:=h;refine⟨ps,by rw[Zb1 (fun z=>n1 ps (by rw[z,e] at a;exact Option.some.inj a))];exact a,k,fun d i r q=>?_⟩;obtain⟨c,b,g,t,p,f,n,m⟩:=j d i r q;exact⟨c,b,g,t,p,by rw[Zb1 (fun z=>n2 b (by rw[z,e] at f;exact Option.some.inj f))];exact f,n,m⟩
theorem FnFz.objs2 {H:Hp} {f:Addr} {name qual:Str} {st:Stmt} {cl:List (Str×Addr)} (h:FnFz H f name qual (Zd6 st) (Zc7 st) (Za5 st) cl) :
  ∃ (o1:Obj) (c:Addr) (o2:Obj),(∀ p∈[(f,o1),(c,o2)],H p.1=some (FZ p.2))∧(∀ p∈[(f,o1),(c,o2)],∀ its n,p.2.data≠.seq its n)∧(∀ ds:List (Pos×Str),(∀ d∈ds,d.2≠qual)→Xu1 [(f,o1),(c,o2)] ds) ∧
   ∀ K:W.Frag,(∀ p∈[(f,o1),(c,o2)],K.lookup p.1=some p.2)→∃ fd,FunC K name qual st cl f fd:=by
 obtain⟨i,k,r,A,v,c,o,x,t,rfl,u,j,m⟩:=h;refine⟨{ cls:=.type "function",data:=.func (W.fnX name qual (Zd6 st) (Zc7 st) (Za5 st) cl .none .none i k none (.ref c) r) },c,o,?_,?_,?_,fun K e=>?_⟩
 rotate_right
 ·have b:=e _ (List.mem_cons_self ..)
  have g:=e _ (List.mem_cons_of_mem _ (List.mem_cons_self ..));exact⟨_,⟨_,_,i,k,_,r,_,rfl,b,Xl3 g j m⟩,Zs7 b⟩
 ·intro p a
  simp only[List.mem_cons,List.not_mem_nil,or_false] at a;rcases a with rfl | rfl
  ·exact v
  ·exact u
 ·intro p a its n z
  simp only[List.mem_cons,List.not_mem_nil,or_false] at a;rcases a with rfl | rfl
  ·cases z
  ·rw[j] at z;cases z
 ·intro ds l p a w q y b g d s
  simp only[List.mem_cons,List.not_mem_nil,or_false] at a;rcases a with rfl | rfl
  ·cases b
  ·rw[j] at b
   cases b;rw[m] at g;cases g;exact l d s
theorem FunC.le {K K':W.Frag} (k:KLe K K') {x qual:Str} {st:Stmt} {cl:List (Str×Addr)} {f:Addr} {fd:FuncData} (F:FunC K x qual st cl f fd):FunC K' x qual st cl f fd:=by
 obtain⟨⟨j,i,d,h,g,l,a,e,b,c⟩,m⟩:=F;exact⟨⟨j,i,d,h,g,l,a,e,k _ _ b,Ya7 k c⟩,by subst e;exact Zs7 (k _ _ b)⟩
theorem Caught.le {K K':W.Frag} (k:KLe K K') {sc:Scope} {cl:List (Str×Addr)} {fv:List Str} {frv:List V} (C:Caught K sc cl fv frv):Caught K' sc cl fv frv :=
 ⟨C.len,fun i x v b a=>let ⟨c,o,u,g1,g2,g3,g4⟩:=C.cell i x v b a;⟨c,o,u,g1,k _ _ g2,g3,g4⟩,fun x c e=>let ⟨o,v,g1,g2⟩:=C.all x c e;⟨o,v,k _ _ g1,g2⟩,C.inj,C.has⟩
theorem Xx2 {X:Cx} {K:W.Frag} (e:X.K=K) (hu:X.A.units+150 < cLine):OpR X (compareOp .Eq) (rEqD K false):=e▸Zz5 hu
theorem KDict.le {K K':W.Frag} {w:World} {a:Addr} {kvs:List (Str×V)} (k:KLe K K') (h:KDict K w a kvs):KDict K' w a kvs:=by
 obtain⟨⟨o,e,f,d,r⟩,c,b⟩:=h;exact⟨⟨o,e,f,k _ _ d,r⟩,c,b⟩
theorem KLe.trans {K K1 K2:W.Frag} (a:KLe K K1) (b:KLe K1 K2):KLe K K2:=fun c o h=>b c o (a c o h)
end L2
namespace Ken
open PySem L2
theorem Zq7 {α β γ:Type} {F:α→β→Prop} {G:α→γ→Prop} {f:β→γ} (h:∀ x y,F x y→G x (f y)):∀ {l:List α} {m:List β},Paired F l m→Paired G l (m.map f)
 | _,_,.nil=>.nil
 | _,_,.cons a t=>.cons (h _ _ a) (Zq7 h t)
theorem Yu2 {t:Te} (h:t.tag="at"):∃ k,t=.at k:=by
 cases t with
 | «at» k=>exact⟨k,rfl⟩
 | one u a ss=>exact absurd (show u.str="at" from h) (by cases u<;>decide)
 | two u a b=>exact absurd (show u.str="at" from h) (by cases u<;>decide)
 | fn s a=>exact absurd (show ("fun":Str)="at" from h) (by decide)
 | cs a b c=>exact absurd (show ("cases":Str)="at" from h) (by decide)
theorem Yg5:∀ {ss:List Tm},(∀ s∈ss,s.ok)→PyData.canLayAll0 (ss.map Tm.data)=true
 | [],_=>rfl
 | s :: ss,h=>by
  show (s.data.canLay0&&PyData.canLayAll0 (ss.map Tm.data))=true;rw[s.lay (h s List.mem_cons_self),Yg5 fun x hx=>h x (List.mem_cons_of_mem _ hx)];rfl
theorem Te.lay:∀ {t:Te},t.all Tm.ok→t.data.canLay0=true
 | .at k,_=>by
  show (PyData.strOk "at"&&(true&&true))=true;decide +kernel
 | .one u a ss,h=>by
  show (PyData.strOk u.str&&(a.data.canLay0&&PyData.canLayAll0 (ss.map Tm.data)))=true;rw[Te.lay h.1,Yg5 h.2]
  cases u<;>decide +kernel
 | .two u a b,h=>by
  show (PyData.strOk u.str&&(a.data.canLay0&&(b.data.canLay0&&true)))=true;rw[Te.lay h.1,Te.lay h.2]
  cases u<;>decide +kernel
 | .fn s a,h=>by
  show (PyData.strOk "fun"&&(s.data.canLay0&&(a.data.canLay0&&true)))=true;rw[s.lay h.1,Te.lay h.2];decide +kernel
 | .cs a b c,h=>by
  show (PyData.strOk "cases"&&(a.data.canLay0&&(b.data.canLay0&&(c.data.canLay0&&true))))=true;rw[Te.lay h.1,Te.lay h.2.1,Te.lay h.2.2];decide +kernel
theorem Wl2 (k:Nat):(Te.at k).data.canLay0=true:=Te.lay (t:=.at k) trivial
theorem Wk3 {t:Te} {f:Nat}:PyData.eqv t.data (Te.at f).data=decide (t=.at f):=by
 cases t with
 | «at» k =>
  show PyData.eqvAll [.str "at",.int (k:Nat)] [.str "at",.int (f:Nat)]=_
  have e:PyData.eqvAll [.str "at",.int (k:Nat)] [.str "at",.int (f:Nat)]=((k:Int) == (f:Int)):=by simp[PyData.eqvAll,PyData.eqv]
  rw[e]
  by_cases h:k=f
  ·subst h;simp
  ·rw[decide_eq_false (by simpa using h)]
   exact beq_eq_false_iff_ne.mpr (by omega)
 | one u a ss =>
  have e:PyData.eqv (Te.one u a ss).data (Te.at f).data=false:=by
   show PyData.eqvAll (.str u.str :: a.data :: ss.map Tm.data) [.str "at",.int (f:Nat)]=false
   have n:¬ u.str="at":=by cases u<;>decide
   simp[PyData.eqvAll,PyData.eqv,n]
  rw[e];exact (decide_eq_false (by simp)).symm
 | two u a b =>
  have e:PyData.eqv (Te.two u a b).data (Te.at f).data=false:=by
   show PyData.eqvAll [.str u.str,a.data,b.data] [.str "at",.int (f:Nat)]=false;simp[PyData.eqvAll]
  rw[e];exact (decide_eq_false (by simp)).symm
 | fn s a =>
  have e:PyData.eqv (Te.fn s a).data (Te.at f).data=false:=by
   show PyData.eqvAll [.str "fun",s.data,a.data] [.str "at",.int (f:Nat)]=false;simp[PyData.eqvAll]
  rw[e];exact (decide_eq_false (by simp)).symm
 | cs a b c =>
  have e:PyData.eqv (Te.cs a b c).data (Te.at f).data=false:=by
   show PyData.eqvAll [.str "cases",a.data,b.data,c.data] [.str "at",.int (f:Nat)]=false;simp[PyData.eqvAll]
  rw[e];exact (decide_eq_false (by simp)).symm
theorem Zi6:∀ {t:Te} {f:Nat} {p:Pf},p∈t.pre f→p.2 < f+t.deep
 | .at k,f,p,h=>by rcases List.mem_singleton.mp h with rfl;show f < f+1;omega
 | .one u a ss,f,p,h=>by
  show p.2 < f+(1+a.deep);rcases List.mem_cons.mp h with rfl | h
  ·show f < _;omega
  ·have:=Zi6 h;omega
 | .two u a b,f,p,h=>by
  show p.2 < f+(1+max a.deep b.deep);rcases List.mem_cons.mp h with rfl | h
  ·show f < _;omega
  ·rcases List.mem_append.mp h with h | h
   ·have:=Zi6 h;omega
   ·have:=Zi6 h;omega
 | .fn s a,f,p,h=>by
  show p.2 < f+(1+a.deep);rcases List.mem_cons.mp h with rfl | h
  ·show f < _;omega
  ·have:=Zi6 h;omega
 | .cs a b c,f,p,h=>by
  show p.2 < f+(1+max a.deep (max b.deep c.deep));rcases List.mem_cons.mp h with rfl | h
  ·show f < _;omega
  ·rcases List.mem_append.mp h with h | h
   ·have:=Zi6 h;omega
   ·rcases List.mem_append.mp h with h | h
    ·have:=Zi6 h;omega
    ·have:=Zi6 h;omega
theorem Zm2 {q:Tm→Prop}:∀ {t:Te} {f:Nat} {p:Pf},t.all q→p∈t.pre f→p.1.all q
 | .at k,f,p,h0,h=>by rcases List.mem_singleton.mp h with rfl;exact h0
 | .one u a ss,f,p,h0,h=>by
  rcases List.mem_cons.mp h with rfl | h
  ·exact h0
  ·exact Zm2 h0.1 h
 | .two u a b,f,p,h0,h=>by
  rcases List.mem_cons.mp h with rfl | h
  ·exact h0
  ·rcases List.mem_append.mp h with h | h
   ·exact Zm2 h0.1 h
   ·exact Zm2 h0.2 h
 | .fn s a,f,p,h0,h=>by
  rcases List.mem_cons.mp h with rfl | h
  ·exact h0
  ·exact Zm2 h0.2 h
 | .cs a b c,f,p,h0,h=>by
  rcases List.mem_cons.mp h with rfl | h
  ·exact h0
  ·rcases List.mem_append.mp h with h | h
   ·exact Zm2 h0.1 h
   ·rcases List.mem_append.mp h with h | h
    ·exact Zm2 h0.2.1 h
    ·exact Zm2 h0.2.2 h
theorem Yx1:∀ {xs ws:List Int},xs.Nodup→(∀ x∈xs,x∈ws)→xs.length≤ws.length
 | [],_,_,_=>Nat.zero_le _
 | x :: xs,ws,nd,h=>by
  have hx:=h x List.mem_cons_self;have ih:=Yx1 (xs:=xs) (ws:=ws.erase x) (List.nodup_cons.mp nd).2 fun y hy=>(List.mem_erase_of_ne (show y≠x from fun z=>(List.nodup_cons.mp nd).1 (by rw[← z];exact hy))).mpr (h y (List.mem_cons_of_mem _ hy));have:=List.length_erase_of_mem hx;have:0 < ws.length:=List.length_pos_of_mem hx;rw[List.length_cons];omega
theorem Yl4 {xs:List Int} {n:Nat} (nd:xs.Nodup) (h:∀ x∈xs,∃ f:Nat,x=(f:Int)∧f < n):xs.length≤n:=by
 have:=Yx1 (ws:=(List.range n).map fun (i:Nat)=>(i:Int)) nd fun x a=>by
  obtain⟨f,rfl,b⟩:=h x a;exact List.mem_map.mpr ⟨f,List.mem_range.mpr b,rfl⟩
 rwa [List.length_map,List.length_range] at this
theorem Zv1:∀ r:List (Nat×Nat),noLists (r.map fun p=>PyData.tuple [.int (p.1:Nat),.int (p.2:Nat)])=true
 | []=>rfl
 | p :: r=>by rw[List.map_cons,noLists,Zv1 r];rfl
theorem innRow.le {K K':W.Frag} (k:KLe K K') {a:Addr} {r:List (Nat×Nat)} (h:innRow K a r):innRow K' a r:=fun H =>
 Dn.moveT (fun _ _ z=>SqT.le k z) (by rw[noList];exact Zv1 r) (h H)
theorem Inn.le {K K':W.Frag} (k:KLe K K') {aT:Nat→Addr} (h:Inn K aT):Inn K' aT:=⟨fun i r e=>(h.row i r e).le k⟩
noncomputable abbrev JP:=W.Frag→Hp→Prop
structure JOk (J:JP):Prop where
 keep:∀ K H H',SameT H H'→J K H→J K H'
 inn:∀ K K' H xs,(∀ p∈xs,H p.1=some (FZ p.2))→KLe K K'→J K H→J K' (remX xs H)
theorem Xq1 {K:W.Frag} {H:Hp} {l:Addr} {kvs:List (Key×V)} {o:HO} (h:H l=some (.dK kvs)):KeepT K H (upd H l o):=fun a c q=>by
 rcases q with (q | ⟨b,q⟩) | q
 ·exact .inl (.inl (by rw[Zb1 (Xg1 q h (by intro z;cases z))];exact q))
 ·exact .inl (.inr ⟨b,by rw[Zb1 (Xg1 q h (by intro z;cases z))];exact q⟩)
 ·exact .inr q
noncomputable def JPut (dl:Addr) (kvs:List (Key×V)) (fr:List Int) (o:Te):JP:=fun K H=>H dl=some (.dK kvs)∧∀ f:Nat,(f:Int)∈fr→∃ u,valV kvs (Sum.inl (f:Int))=some u∧IsE K H u (o.mp (Zf5 f) 0)
theorem Yr3 (dl:Addr) (kvs:List (Key×V)) (fr:List Int) (o:Te):JOk (JPut dl kvs fr o):=by
 refine⟨fun K H l e h=>⟨e _ _ (fun _ z=>nomatch z) h.1,fun f a=>?_⟩,fun K j H i d k h=>⟨?_,fun f a=>?_⟩⟩
 ·obtain⟨u,c,b⟩:=h.2 f a
  exact⟨u,c,IsE.keep b (SameT.keepT e)⟩
 ·rw[Zd8 fun z=>?_]
  ·exact h.1
  ·obtain⟨p,g,e⟩:=List.mem_map.mp z
   have:=d p g;rw[e,h.1] at this;cases this
 ·obtain⟨u,c,b⟩:=h.2 f a
  exact⟨u,c,Dn.moveT (Yc0 d k) (Te.noList _) b⟩
def Zo6 (K:W.Frag) (T:Addr) (ds:List (Pos×Str)) (J:JP) (F:Nat→Nat→Te) (A:Nat→Nat→Prop) (f:Addr):Sp:=fun vs H Q _=>∃ (v:V) (t:Te),vs=[v,.ref f]∧IsE K H v t∧t.size≤20000∧J K H∧(∀ k f,(Te.at k,f)∈t.pre 0→A k f)∧TabOk H T ds ∧
 ∀ (r:V) (H':Hp),SameV [T] H H'→TabOk H' T ds→IsE K H' r (t.mp F 0)→Q r H'
def Yi7 (K:W.Frag) (T1 T2:Addr) (d1 d2:List (Pos×Str)):Sp:=fun vs H Q _=>∃ (v:V) (t:Te) (n:Nat),vs=[v,.int (n:Nat)]∧IsE K H v t∧t.size≤20000∧TabOk H T1 d1∧TabOk H T2 d2 ∧
 ∀ (r:V) (H':Hp),SameV [T1,T2] H H'→TabOk H' T1 d1→TabOk H' T2 d2→IsE K H' r (t.mp (Zf5 n) 0)→Q r H'
def Yu7 (K:W.Frag) (T1 T2 T3:Addr) (d1 d2 d3:List (Pos×Str)):Sp:=fun vs H Q _=>∃ (v:V) (t:Te) (ov:V) (o:Te),vs=[v,ov]∧IsE K H v t∧IsE K H ov o∧t.size≤20000∧o.size≤20000∧t.deep≤60∧t.all Tm.ok∧TabOk H T1 d1∧TabOk H T2 d2∧TabOk H T3 d3 ∧
 ∀ (r:V) (H':Hp),SameV [T1,T2,T3] H H'→TabOk H' T1 d1→TabOk H' T2 d2→TabOk H' T3 d3→IsE K H' r (t.mp (putF o) 0)→Q r H'
noncomputable def U5.ar:U5→Nat
 | .left=>0
 | .right=>0
 | _=>1
def okW (ws:List Str) (s:Tm):Prop:=s.inW ws∧s.parts≤60
def Te.fine (ws:List Str):Te→Prop
 | .at _=>True
 | .one u a ss=>a.fine ws∧ss.length=u.ar∧∀ s∈ss,okW ws s
 | .two _ a b=>a.fine ws∧b.fine ws
 | .fn s a=>okW ws s∧a.fine ws
 | .cs a b c=>a.fine ws∧b.fine ws∧c.fine ws
theorem Te.fine.ok {ws:List Str} (hw:∀ w∈ws,Word w):∀ {t:Te},t.fine ws→t.all Tm.ok
 | .at _,_=>trivial
 | .one u a ss,h=>⟨Te.fine.ok hw h.1,fun s hs=>(h.2.2 s hs).1.ok hw⟩
 | .two _ a b,h=>⟨Te.fine.ok hw h.1,Te.fine.ok hw h.2⟩
 | .fn s a,h=>⟨h.1.1.ok hw,Te.fine.ok hw h.2⟩
 | .cs a b c,h=>⟨Te.fine.ok hw h.1,Te.fine.ok hw h.2.1,Te.fine.ok hw h.2.2⟩
theorem Zh5 {n:Nat}:∀ {t:Te} {f:Nat},(t.mp (Zf5 n) f).deep=t.deep
 | .at k,f=>rfl
 | .one u a ss,f=>by show 1+(a.mp (Zf5 n) f).deep=1+a.deep;rw[Zh5]
 | .two u a b,f=>by show 1+max (a.mp (Zf5 n) f).deep (b.mp (Zf5 n) f).deep=_;rw[Zh5,Zh5];rfl
 | .fn s a,f=>by show 1+(a.mp (Zf5 n) (f+1)).deep=1+a.deep;rw[Zh5]
 | .cs a b c,f=>by show 1+max (a.mp (Zf5 n) f).deep (max (b.mp (Zf5 n) (f+1)).deep (c.mp (Zf5 n) (f+1)).deep)=_;rw[Zh5,Zh5,Zh5];rfl
theorem Zh4 {n:Nat}:∀ {t:Te} {f:Nat},(t.mp (Zf5 n) f).size=t.size
 | .at k,f=>rfl
 | .one u a ss,f=>by show 1+(a.mp (Zf5 n) f).size=1+a.size;rw[Zh4]
 | .two u a b,f=>by show 1+(a.mp (Zf5 n) f).size+(b.mp (Zf5 n) f).size=_;rw[Zh4,Zh4];rfl
 | .fn s a,f=>by show 1+(a.mp (Zf5 n) (f+1)).size=1+a.size;rw[Zh4]
 | .cs a b c,f=>by show 1+(a.mp (Zf5 n) f).size+(b.mp (Zf5 n) (f+1)).size+(c.mp (Zf5 n) (f+1)).size=_;rw[Zh4,Zh4,Zh4];rfl
theorem Zi7 {ws:List Str} {n:Nat}:∀ {t:Te} {f:Nat},t.fine ws→(t.mp (Zf5 n) f).fine ws
 | .at k,f,_=>trivial
 | .one u a ss,f,h=>⟨Zi7 h.1,h.2⟩
 | .two u a b,f,h=>⟨Zi7 h.1,Zi7 h.2⟩
 | .fn s a,f,h=>⟨h.1,Zi7 h.2⟩
 | .cs a b c,f,h=>⟨Zi7 h.1,Zi7 h.2.1,Zi7 h.2.2⟩
section
variable {K:W.Frag} {H:Hp} {v:V}
theorem isE_atV {k:Nat}:IsE K H v (.at k)↔∃ p,v=.ref p∧SqT K H p [.str "at",.int (k:Nat)]:=by
 rw[isE_view];constructor
 ·rintro⟨p,e,rfl,a,f⟩
  obtain⟨x,r,rfl,d,g⟩:=Zd5 (show DnAll K H e [.str "at",.int (k:Nat)] from f);obtain⟨y,r,rfl,c,b⟩:=Zd5 g;rw[dn_str] at d;rw[dn_int] at c;rw[DnAll] at b;subst d;subst c;subst b;exact⟨p,rfl,a⟩
 ·rintro⟨p,rfl,a⟩
  exact⟨p,_,rfl,a,dnAll_cons (dn_str.mpr rfl) (dnAll_cons (dn_int.mpr rfl) dnAll_nil)⟩
theorem isE_oneV {u:U5} {a:Te} {ss:List Tm}:IsE K H v (.one u a ss)↔∃ p x rs,v=.ref p∧SqT K H p (.str u.str :: x :: rs)∧IsE K H x a∧DnAll K H rs (ss.map Tm.data):=by
 rw[isE_view];constructor
 ·rintro⟨p,e,rfl,c,f⟩
  obtain⟨x,r,rfl,b,d⟩:=Zd5 (show DnAll K H e (.str u.str :: a.data :: ss.map Tm.data) from f);obtain⟨y,r,rfl,h,g⟩:=Zd5 d;rw[dn_str] at b;subst b;exact⟨p,y,r,rfl,c,h,g⟩
 ·rintro⟨p,x,rs,rfl,c,b,d⟩
  exact⟨p,_,rfl,c,dnAll_cons (dn_str.mpr rfl) (dnAll_cons b d)⟩
theorem isE_twoV {u:U2} {a b:Te}:IsE K H v (.two u a b)↔∃ p x y,v=.ref p∧SqT K H p [.str u.str,x,y]∧IsE K H x a∧IsE K H y b:=by
 rw[isE_view];constructor
 ·rintro⟨p,g,rfl,d,h⟩
  obtain⟨x,r,rfl,c,e⟩:=Zd5 (show DnAll K H g [.str u.str,a.data,b.data] from h);obtain⟨y,r,rfl,k,j⟩:=Zd5 e;obtain⟨z,r,rfl,i,f⟩:=Zd5 j;rw[dn_str] at c;rw[DnAll] at f;subst c;subst f;exact⟨p,y,z,rfl,d,k,i⟩
 ·rintro⟨p,x,y,rfl,d,c,e⟩
  exact⟨p,_,rfl,d,dnAll_cons (dn_str.mpr rfl) (dnAll_cons c (dnAll_cons e dnAll_nil))⟩
theorem isE_fnV {s:Tm} {a:Te}:IsE K H v (.fn s a)↔∃ p x y,v=.ref p∧SqT K H p [.str "fun",x,y]∧IsT K H x s∧IsE K H y a:=by
 rw[isE_view];constructor
 ·rintro⟨p,f,rfl,c,g⟩
  obtain⟨x,r,rfl,b,d⟩:=Zd5 (show DnAll K H f [.str "fun",s.data,a.data] from g);obtain⟨y,r,rfl,j,i⟩:=Zd5 d;obtain⟨z,r,rfl,h,e⟩:=Zd5 i;rw[dn_str] at b;rw[DnAll] at e;subst b;subst e;exact⟨p,y,z,rfl,c,j,h⟩
 ·rintro⟨p,x,y,rfl,c,b,d⟩
  exact⟨p,_,rfl,c,dnAll_cons (dn_str.mpr rfl) (dnAll_cons b (dnAll_cons d dnAll_nil))⟩
theorem isE_csV {a b c:Te}:IsE K H v (.cs a b c)↔∃ p x y z,v=.ref p∧SqT K H p [.str "cases",x,y,z]∧IsE K H x a∧IsE K H y b∧IsE K H z c:=by
 rw[isE_view];constructor
 ·rintro⟨p,j,rfl,e,k⟩
  obtain⟨x,r,rfl,d,g⟩:=Zd5 (show DnAll K H j [.str "cases",a.data,b.data,c.data] from k);obtain⟨y,r,rfl,f,o⟩:=Zd5 g;obtain⟨z,r,rfl,n,m⟩:=Zd5 o;obtain⟨i,r,rfl,l,h⟩:=Zd5 m;rw[dn_str] at d;rw[DnAll] at h;subst d;subst h;exact⟨p,y,z,i,rfl,e,f,n,l⟩
 ·rintro⟨p,x,y,z,rfl,e,d,g,f⟩
  exact⟨p,_,rfl,e,dnAll_cons (dn_str.mpr rfl) (dnAll_cons d (dnAll_cons g (dnAll_cons f dnAll_nil)))⟩
theorem Zp2 {p:Addr} {x:V} {u:U5} {a:Te} (h:SqT K H p [.str u.str,x]) (h1:IsE K H x a):IsE K H (.ref p) (.one u a []):=isE_oneV.mpr ⟨p,x,[],rfl,h,h1,dnAll_nil⟩
theorem Zs8 {p:Addr} {x y:V} {u:U5} {a:Te} {s:Tm} (h:SqT K H p [.str u.str,x,y]) (h1:IsE K H x a) (h2:IsT K H y s):IsE K H (.ref p) (.one u a [s]):=isE_oneV.mpr ⟨p,x,[y],rfl,h,h1,dnAll_cons h2 dnAll_nil⟩
theorem Zk1 {p:Addr} {x y:V} {u:U2} {a b:Te} (h:SqT K H p [.str u.str,x,y]) (h1:IsE K H x a) (h2:IsE K H y b):IsE K H (.ref p) (.two u a b):=isE_twoV.mpr ⟨p,x,y,rfl,h,h1,h2⟩
theorem Yr4 {p:Addr} {x y:V} {s:Tm} {a:Te} (h:SqT K H p [.str "fun",x,y]) (h1:IsT K H x s) (h2:IsE K H y a):IsE K H (.ref p) (.fn s a):=isE_fnV.mpr ⟨p,x,y,rfl,h,h1,h2⟩
theorem Zu4 {p:Addr} {k:Nat} (h:SqT K H p [.str "at",.int (k:Nat)]):IsE K H (.ref p) (.at k):=isE_atV.mpr ⟨p,rfl,h⟩
theorem Wb8 {p:Addr} {xs:List V}:SqT K (upd H p (.tup xs)) p xs:=.inl (.inl Za4)
theorem nw1 {p:Addr} {xs:List V} {J:Hp} (h:H p=none) (e:upd H p (.tup xs)=J):Same H J:=e▸Za6 h _
theorem nw2 {p:Addr} {xs:List V} {J:Hp} (e:upd H p (.tup xs)=J):SqT K J p xs:=e▸Wb8
theorem Xv6 {ss:List Tm} {rs:List V} {H':Hp} (k:KeepT K H H') (h:DnAll K H rs (ss.map Tm.data)):DnAll K H' rs (ss.map Tm.data):=DnAll.keepT k (Zz7 ss) h
end
theorem cut2 (a b:V) (rs:List V):cutV (a :: b :: rs) (some 2) none=rs:=by
 unfold cutV;rw[show (2:Int)=((2:Nat):Int) from rfl,HT.sIx_nat,HT.sIx_none,show min 2 (a :: b :: rs).length=2 by simp];show List.take _ rs=rs;exact List.take_of_length_le (by simp)
theorem Xr6 (a b:V) (rs:List V):¬ (HT.sIx (a :: b :: rs).length 0 (some 2)=0∧HT.sIx (a :: b :: rs).length (a :: b :: rs).length none=(a :: b :: rs).length):=fun h=>by
 have c:=h.1;rw[show (2:Int)=((2:Nat):Int) from rfl,HT.sIx_nat,show min 2 (a :: b :: rs).length=2 by simp] at c;cases c
theorem Zl6:∀ t:Tm,t.deep≤t.parts
 | .low=>Nat.le_refl _
 | .ltr _=>Nat.le_refl _
 | .nd _ a b=>by
  show 1+max a.deep b.deep≤1+a.parts+b.parts;have:=Zl6 a;have:=Zl6 b;omega
theorem Xb7 {t:Te} {ks:List Te} (h:ks.length=t.kids.length):(t.withK ks).tag=t.tag:=by
 cases t with
 | «at» k=>cases ks<;>first | rfl | cases h
 | one u a ss=>match ks,h with | [x],_=>rfl
 | two u a b=>match ks,h with | [x,y],_=>rfl
 | fn s a=>match ks,h with | [x],_=>rfl
 | cs a b c=>match ks,h with | [x,y,z],_=>rfl
theorem Zs0 {α:Type}:∀ {ps:List Nat} {ys:List α} {xs:List α},(Zj0 xs ps ys).length=xs.length
 | [],ys,xs=>by cases ys<;>rfl
 | q :: ps,[],xs=>rfl
 | q :: ps,z :: ys,xs=>by rw[Zj0,Zs0,List.length_set]
theorem okW.lay {ws:List Str} (hw:∀ w∈ws,Word w) {s:Tm} (h:okW ws s):s.data.canLay0=true∧min s.data.depth s.data.depth≤150:=by
 refine⟨s.lay (h.1.ok hw),?_⟩;rw[Tm.depth];have:=Zl6 s;have:=h.2;omega
theorem Wi4 {F:Nat→Nat→Te} {t:Te} {f:Nat} (h:∀ k,t≠.at k):(t.mp F f).inn=t.inn:=by
 cases t with
 | «at» k=>exact absurd rfl (h k)
 | _=>rfl
theorem Xx7 {F:Nat→Nat→Te} {t:Te} {f:Nat} (h:∀ k,t≠.at k):(t.mp F f).kids=t.kids.map fun p=>(p.1.mp F (f+p.2),p.2):=by
 cases t with
 | «at» k=>exact absurd rfl (h k)
 | _=>rfl
theorem Xh1 {ws:List Str} {t:Te} {i:Nat} {k:Te} {m:Nat} (hf:t.fine ws) (h:t.kids[i]?=some (k,m)):k.fine ws∧k.deep < t.deep:=by
 have d:=List.mem_of_getElem? h
 cases t with
 | «at» k0=>cases d
 | one u a ss =>
  have e:=Prod.mk.inj (List.mem_singleton.mp d);rw[e.1];exact⟨hf.1,by show a.deep < 1+a.deep;omega⟩
 | two u a b =>
  rcases List.mem_cons.mp d with d | d
  ·rw[(Prod.mk.inj d).1];exact⟨hf.1,by show a.deep < 1+max a.deep b.deep;omega⟩
  ·rw[(Prod.mk.inj (List.mem_singleton.mp d)).1];exact⟨hf.2,by show b.deep < 1+max a.deep b.deep;omega⟩
 | fn s a =>
  rw[(Prod.mk.inj (List.mem_singleton.mp d)).1];exact⟨hf.2,by show a.deep < 1+a.deep;omega⟩
 | cs a b c =>
  rcases List.mem_cons.mp d with d | d
  ·rw[(Prod.mk.inj d).1];exact⟨hf.1,by show a.deep < 1+max a.deep (max b.deep c.deep);omega⟩
  ·rcases List.mem_cons.mp d with d | d
   ·rw[(Prod.mk.inj d).1];exact⟨hf.2.1,by show b.deep < 1+max a.deep (max b.deep c.deep);omega⟩
   ·rw[(Prod.mk.inj (List.mem_singleton.mp d)).1];exact⟨hf.2.2,by show c.deep < 1+max a.deep (max b.deep c.deep);omega⟩
theorem Wi5 {F:Nat→Nat→Te} {t:Te} {f:Nat} (h:∀ k,t≠.at k) {i p m:Nat} (hi:t.inn[i]?=some (p,m)):∃ k,t.kids[i]?=some (k,m)∧t.items[p]?=some k.data∧(t.mp F f).items[p]?=some (k.mp F (f+m)).data:=by
 obtain⟨k,a,c,_⟩:=Te.inn_at hi;obtain⟨e,b,d,_⟩:=Te.inn_at (t:=t.mp F f) (by rw[Wi4 h];exact hi);rw[Xx7 h,List.getElem?_map,a] at b;cases b;exact⟨k,a,c,d⟩
def Zo5 (K:W.Frag) (n:Nat):Sp:=fun vs H Q _=>∃ (v:V) (t:Te) (f:Nat) (ws:List Str),vs=[v,.int (f:Nat)]∧IsE K H v t∧t.fine ws∧t.deep≤n∧∀ (r:V) (H':Hp),Same H H'→IsE K H' r (t.mp (Zf5 1) f)→Q r H'
def Ye2 (K:W.Frag):Sp:=fun vs H Q _=>∃ (v:V) (t:Tm),vs=[v]∧IsT K H v t∧t.ok∧t.parts≤400∧∀ H',Same H H'→Q (.int (t.parts:Nat)) H'
def Zh1 (K:W.Frag):Sp:=fun vs H Q _=>∃ (v:V) (t:Te),vs=[v]∧IsE K H v t∧∀ (r:Addr) (H':Hp) (us:List V),Same H H'→H r=none→H' r=some (.lst us)→Paired (fun u (p:Nat×Nat)=>∃ b,u=.ref b∧SqT K H' b [.int (p.1:Nat),.int (p.2:Nat)]) us t.inn→Q (.ref r) H'
def Zh7 (K:W.Frag):Sp:=fun vs H Q _=>∃ (x y:V) (t:Te) (ks:List Te) (ws:List Str),vs=[x,y]∧IsE K H x (t.withK ks)∧IsE K H y t∧ks.length=t.kids.length∧t.fine ws∧(∀ w∈ws,Word w)∧∀ H',Same H H'→Q (.bl true) H'
def Yi9 (K:W.Frag):Sp:=fun vs H Q _=>∃ (x:V) (k:Nat),vs=[x,.int (k:Nat)]∧IsE K H x (.at k)∧Q (.bl true) H
def Zg0 (K:W.Frag) (n:Nat):Sp:=fun vs H Q _=>∃ (x y:V) (t:Te) (b f:Nat) (ws:List Str),vs=[x,y,.int (b:Nat),.int (f:Nat)]∧IsE K H x (t.mp (Zf5 b) f)∧IsE K H y t∧t.fine ws∧(∀ w∈ws,Word w)∧t.deep≤n∧∀ H',Same H H'→Q (.bl true) H'
def Zj5 (K:W.Frag) (n:Nat):Sp:=fun vs H Q _=>∃ (x y z:V) (t o:Te) (f:Nat) (ws:List Str),vs=[x,y,z,.int (f:Nat)]∧IsE K H x (t.mp (putF o) f)∧IsE K H y t∧IsE K H z o∧t.fine ws∧o.fine ws∧(∀ w∈ws,Word w)∧t.deep≤n∧o.deep≤40∧∀ H',Same H H'→Q (.bl true) H'
noncomputable def dB (m:Nat):Nat:=2+3*(m - 1)
noncomputable def sB (m:Nat):Nat:=[2,2,14,18,30,34,54,58,66,74,78].getD m 78
theorem Zw9:∀ m:Nat,m≤10→2≤m→2+dB (m - 1)≤dB m∧2+dB (m / 2)≤dB m∧3+dB (m / 3)≤dB m∧4≤dB m∧2≤dB (m - 1)∧2≤dB (m / 3)∧2≤dB (m / 2):=by decide
theorem Zw4:∀ m:Nat,m≤10→2≤m→4+sB (m - 1)≤sB m∧2+2*sB (m / 2)≤sB m∧8+sB (m / 2)+2*sB (m / 3)≤sB m∧8≤sB m:=by decide
theorem Xv7:∀ m:Nat,m≤10→sB m≤78:=by decide
theorem Wk8:∀ m:Nat,m≤10→dB m≤29:=by decide
theorem Wk7:∀ m:Nat,m≤10→2≤dB m∧2≤sB m:=by decide
def MadeE (K:W.Frag) (H:Hp) (ws:List Str) (d s b:Nat) (r:V):Prop:=∃ p x y t g,r=.ref p∧SqT K H p [x,y]∧IsE K H x t∧IsT K H y g∧t.fine ws∧t.deep≤d∧t.size≤s∧g.inW ws∧g.parts≤b
theorem MadeE.mono {K:W.Frag} {H H':Hp} {ws:List Str} {d s b d' s' b':Nat} {r:V} (h:MadeE K H ws d s b r) (k:KeepT K H H') (h1:d≤d') (h2:s≤s') (h3:b≤b'):MadeE K H' ws d' s' b' r:=by
 obtain⟨p,x,y,t,g,e,n,m,l,j,i,f,c,a⟩:=h;exact⟨p,x,y,t,g,e,k _ _ n,IsE.keep m k,IsT.keep l k,j,Nat.le_trans i h1,Nat.le_trans f h2,c,Nat.le_trans a h3⟩
structure Gv (K:W.Frag) (H:Hp) (ws:List Str) (wa ga:Addr) (gs:List V) (ts:List Tm):Prop where
 w:SqL K H wa (ws.map V.str)
 wo:Yt2 ws
 g:H ga=some (.lst gs)
 p:Paired (IsT K H) gs ts
 o:∀ s∈ts,okW ws s
theorem Gv.keep {K:W.Frag} {H H':Hp} {ws:List Str} {wa ga:Addr} {gs:List V} {ts:List Tm} (h:Gv K H ws wa ga gs ts) (e:Same H H'):Gv K H' ws wa ga gs ts :=
 ⟨e.seq h.w,h.wo,e _ _ h.g,Paired.mapP h.p fun _ _ z=>IsT.keep z e.keepT,h.o⟩
theorem Zm9 {K:W.Frag} {c n:Int} {wa:Addr} {ws:List Str} {H:Hp} {Q:VK} {E:XK} (hc:0≤c) (h0:0≤n) (h1:n≤11) (hS:SqL K H wa (ws.map V.str)) (hw:Yt2 ws)
  (q:∀ (r:V) (H':Hp) (t:Tm),Same H H'→IsT K H' r t→t.inW ws→t.parts≤max 1 n.toNat→Q r H'):Zk6 K 12 [.int c,.int n,.ref wa] H Q E:=by
 refine⟨c,n,wa,ws,rfl,hc,h0,by omega,?_,hS,hw,fun r H' t e m=>q r H' t e m.1 m.2.1 m.2.2.1⟩;unfold rk;rw[if_pos (by omega)];omega
theorem Zg7 {K:W.Frag} {H:Hp} {p:Addr} {x y:V} {ws:List Str} {d s b:Nat} {t:Te} {g:Tm} (h:SqT K H p [x,y]) (h1:IsE K H x t) (h2:IsT K H y g) (h3:t.fine ws) (h4:t.deep≤d) (h5:t.size≤s) (h6:g.inW ws) (h7:g.parts≤b):MadeE K H ws d s b (.ref p) :=
 ⟨p,x,y,t,g,rfl,h,h1,h2,h3,h4,h5,h6,h7⟩
noncomputable def Tm.tagS:Tm→Str
 | .low=>"low"
 | .ltr _=>"letter"
 | .nd k _ _=>k.str
theorem Yg7 {K:W.Frag} {H:Hp} {v:V} {g:Tm} (h:IsT K H v g):∃ p xs,v=.ref p∧SqT K H p xs∧atI xs 0=some (.str g.tagS):=by
 cases g with
 | low=>obtain⟨p,rfl,c⟩:=isT_low.mp h;exact⟨p,_,rfl,c,rfl⟩
 | ltr x=>obtain⟨p,rfl,c⟩:=isT_ltr.mp h;exact⟨p,_,rfl,c,rfl⟩
 | nd k a b=>obtain⟨p,x,y,rfl,c,_⟩:=isT_nd.mp h;exact⟨p,_,rfl,c,rfl⟩
theorem Yo0 {g:Tm} {k:Kd} (h:g.tagS=k.str):∃ a b,g=.nd k a b:=by
 cases g with
 | low=>exact absurd (show ("low":Str)=k.str from h) (by cases k<;>decide)
 | ltr x=>exact absurd (show ("letter":Str)=k.str from h) (by cases k<;>decide)
 | nd k' a b=>exact⟨a,b,by rw[Kd.str_inj (show k'.str=k.str from h)]⟩
def Zo4 (K:W.Frag):Sp:=fun vs H Q _=>∃ (c:Int) (ga wa:Addr) (ws:List Str) (gs:List V) (ts:List Tm),vs=[.int c,.ref ga,.ref wa]∧0≤c∧Gv K H ws wa ga gs ts∧ts.length≤20∧∀ (r:V) (H':Hp),Same H H'→MadeE K H' ws 2 2 60 r→Q r H'
def Zf8 (K:W.Frag) (lo n b:Nat):Sp:=fun vs H Q _=>∃ (c:Int) (m:Nat) (ga wa:Addr) (ws:List Str) (gs:List V) (ts:List Tm),vs=[.int c,.int (m:Nat),.ref ga,.ref wa]∧0≤c∧lo≤m∧m≤n∧m≤10∧Gv K H ws wa ga gs ts∧ts.length+m≤20 ∧
 ∀ (r:V) (H':Hp),Same H H'→MadeE K H' ws (dB m) (sB m) b r→Q r H'
end Ken
namespace L2
open PySem PySem.Spec PyProof.Rows
end L2
namespace Ken
open PySem L2 PyProof.Rows
end Ken
namespace L2
open PySem PySem.Spec PyProof.Rows
end L2
namespace Ken
open PySem L2
end Ken
namespace L2
open PySem PySem.Spec PyProof.Rows
end L2
namespace Ken
open PySem L2 PyProof.Rows
end Ken
namespace L2
open PySem
theorem Xl0 {K:W.Frag} {a:Addr} {xs:List V} {σ0:St} {g:TG} {tk:TK} {Q:Hp→Prop} {H:Hp} (Pv:Nat→Hp→Prop) (h0:Pv 0 H) (hl:∀ i H,i≤xs.length→Pv i H→SqL K H a xs)
  (hs:∀ i x H T (N:Hp→Prop),xs[i]?=some x→H T=none→Pv i H→(∀ H',Pv (i+1) H'→N H')→g (.ref T) σ0 (upd H T (.tup [.int i,x])) fun σ4 H4=>Wk σ0 σ4∧tk σ4 H4 N) (hd:∀ H,Pv xs.length H→Q H) :
  ∃ W:Nat→Nat→Hp→Prop,(∃ m,W 0 m H)∧Xl1 σ0 (Ite K a) g tk Q W:=by
 refine⟨fun i m H=>m=xs.length - i∧i≤xs.length∧Pv i H,⟨xs.length,by simp,Nat.zero_le _,h0⟩,?_⟩;rintro i m H ⟨rfl,d,p⟩;have q:=hl i H d p
 by_cases hlt:i < xs.length
 ·refine .inr ⟨⟨xs,xs[i],q,by simp[hlt]⟩,fun x H' y=>?_⟩
  obtain⟨T,x,rfl,f,rfl,b⟩:=y;exact hs i x _ T _ (b xs q) f p fun h c=>⟨xs.length - (i+1),by omega,rfl,hlt,c⟩
 ·have e:i=xs.length:=by omega
  subst e;exact .inl ⟨⟨xs,q,Nat.le_refl _⟩,hd _ p⟩
end L2
namespace Ken
open PySem L2
end Ken
namespace Ken
noncomputable def topI:Option Int→List Int→Option Int
 | b,[]=>b
 | none,x :: xs=>topI (some x) xs
 | some y,x :: xs=>topI (some (if x > y then x else y)) xs
end Ken
namespace L2
open PySem PySem.Spec PyProof.Rows
def tKIn (kvs:List (Str×V)) (ti:TE):TE:=fun σ H Q=>ti σ H fun y H1=>∃ x,y=.str x∧Q (.bl (kvs.lookup x).isSome) H1
def Yo3 (K:W.Frag) (ta td:TE):TE:=fun σ H Q=>ta σ H fun v H1=>td σ H1 fun y H2=>∃ (a:Addr) (ns:List Int) (d:Int),v=.ref a∧y=.int d∧SqL K H2 a (ns.map V.int)∧Q (.int ((Ken.topI none ns).getD d)) H2
section
variable {X:Cx} {te:TE} {t:TA} {es:List Expr}
theorem Zc4 {es':List Expr} {k:Nat} {p:Pos} (ha:PE X (.Tuple es' k p) te) (hr:PA X es t):PA X (.Tuple es' k p :: es) (Zv7 te t):=Za0 ha hr rfl
theorem Zb2 {c:Const} {k:Nat} {p:Pos} (ha:PE X (.Constant c k p) te) (hr:PA X es t):PA X (.Constant c k p :: es) (Zv7 te t):=Za0 ha hr rfl
theorem Za7 {x:Str} {p:Pos} (ha:PE X (.Name x p) te) (hr:PA X es t):PA X (.Name x p :: es) (Zv7 te t):=Za0 ha hr rfl
theorem Zp0 {a b:Expr} {p:Pos} (ha:PE X (.Subscript a b p) te) (hr:PA X es t):PA X (.Subscript a b p :: es) (Zv7 te t):=Za0 ha hr rfl
end
end L2
namespace Ken
open PySem
def endV (d:Value):Option Int→Value→Prop
 | none,r=>r=d
 | some b,r=>∃ k,r=.int b k
theorem Wo0 (a d:Value):argsOk "max" ⟨[a],[("default",d)]⟩:=by
 unfold argsOk
 kernel_rfl
section
variable {prog:Program} {w:World} {A:Around} {R:Result→Shared→Prop} {it:Addr} {fp wr:List Addr} {n:Nat} {P:Nat→Value→Prop} {St:Nat→Heap→Prop}
theorem Xg5 (wk:Walks prog w A.in1 it fp wr n P St) {val:Nat→Int} (hval:∀ i v,P i v→∃ t,v=.int (val i) t) {d:Value} {B:Addr} (nB:B ∉ fp) :
  ∀ (m i:Nat) (y:Int) (ty:Tok) (t:Shared) (c:Nat),i+m=n→St i t.heap→t.heap.get? B=some { cls:=.type "list",dict:=none,data:=.seq #[.int y ty,.int y ty] c,slots:=#[] } →
   (∀ r h' tk,endV d (topI (some y) ((List.range' i m).map val)) r→(∀ b o,b ∉ wr→b≠B→t.heap.get? b=some o→h'.get? b=some o)→R (.ok (.ret r)) { t with heap:=h',toks:=tk }) →
   codeAny (model prog w) A (.builtin "max.loop" ⟨[.ref it,.none,.ref B],[("default",d)]⟩) R t:=by
 have N:B ∉ wr:=fun z=>nB (wk.sub _ z)
 have O:(toString "max"++toString ".loop":String)="max.loop":=by decide
 have X:=CmpOf.ints_gt (prog:=prog) (w:=w) (A:=A.in1) val hval;intro m
 induction m with
 | zero =>
  intro i y ty t c e G u q
  obtain rfl:i=n:=by omega
  refine codeAny_builtin F.entry_max_loop (Around.under_plainId F.plain_max_loop _▸?_);refine wpAny_bind (wpAny_seqItems u rfl (wpAny_bind (wpAny_tryCatch (wk.done t _ _ G fun h' tk k=>?_))));refine wpAny_bind (wpAny_updateSeq (k B _ N u) rfl (wpAny_bind (wpAny_letGo (wpAny_pure ?_))));exact q _ _ tk ⟨ty,rfl⟩ fun a o f h g=>(Heap.get?_update_other _ _ (Ne.symm h)).trans (k a o f g)
 | succ m ih =>
  intro i y ty t c e G u q;refine codeAny_builtin F.entry_max_loop (Around.under_plainId F.plain_max_loop _▸?_);refine wpAny_bind (wpAny_seqItems u rfl (wpAny_bind (wpAny_tryCatch (wk.item i t _ _ (by omega) G fun v h' tk T x k=>?_))));have s:=k B _ N u;obtain⟨M,rfl⟩:=hval i v T
  have W:∀ (D C:Tok) (s1:Shared) (Q:Value→Shared→Prop) (E:Value→Shared→Prop),Q (.bool (decide (val i > y))) s1→wpAny (model prog w) A.in1 (richCompare .Gt (.int (val i) D) (.int y C)) Q E s1:=fun D C s1 Q E V =>
   CmpOf.ints_gt (P:=fun j v=>(j=0∧v=.int (val i) D)∨(j=1∧v=.int y C)) (fun j=>if j=0 then val i else y) (fun j v U=>by rcases U with ⟨rfl,rfl⟩ | ⟨rfl,rfl⟩<;>exact⟨_,rfl⟩) 0 1 _ _ s1 Q E (.inl ⟨rfl,rfl⟩) (.inr ⟨rfl,rfl⟩) V
  refine wpAny_bind (wpAny_pure ?_);refine wpAny_bind (wpAny_tryCatch (wpAny_holding (wpAny_bind (W M ty _ _ _ (wpAny_bind (wpAny_holding (wpAny_truthy_bool (wpAny_bind (wpAny_letGo (wpAny_pure ?_))))))))));have S:topI (some y) ((List.range' i (m+1)).map val)=topI (some (if val i > y then val i else y)) ((List.range' (i+1) m).map val):=rfl;rw[S] at q
  by_cases l:val i > y
  ·rw[decide_eq_true l]
   rw[if_pos l] at q;refine wpAny_bind (wpAny_updateSeq s rfl (wpAny_bind (wpAny_letGo ?_)));rw[O];refine wpAny_pure ⟨plainId_quiet F.plain_max_loop _,ih (i+1) (val i) M _ _ (by omega) (wk.frame _ _ _ x fun b l o g=>(Heap.get?_update_other _ _ (fun z:B=b=>nB (z▸l))).trans g) (Heap.get?_update_self _ s rfl) fun r L p J I=>?_⟩;exact q r L p J fun b o f h g=>I b o f h ((Heap.get?_update_other _ _ (Ne.symm h)).trans (k b o f g))
  ·rw[decide_eq_false l]
   rw[if_neg l] at q;refine wpAny_bind (wpAny_letGo ?_);rw[O];exact wpAny_pure ⟨plainId_quiet F.plain_max_loop _,ih (i+1) y ty _ c (by omega) x s fun r L p J I=>q r L p J fun b o f h g=>I b o f h (k b o f g)⟩
theorem Yz4 (wk:Walks prog w A.in1 it fp wr n P St) {val:Nat→Int} (hval:∀ i v,P i v→∃ t,v=.int (val i) t) {d:Value} {B:Addr} (nB:B ∉ fp) {t:Shared} {c:Nat} (st:St 0 t.heap) (hB:t.heap.get? B=some { cls:=.type "list",dict:=none,data:=.seq #[] c,slots:=#[] })
  (q:∀ r h' tk,endV d (topI none ((List.range' 0 n).map val)) r→(∀ b o,b ∉ wr→b≠B→t.heap.get? b=some o→h'.get? b=some o)→R (.ok (.ret r)) { t with heap:=h',toks:=tk }) :
  codeAny (model prog w) A (.builtin "max.loop" ⟨[.ref it,.none,.ref B],[("default",d)]⟩) R t:=by
 have p:B ∉ wr:=fun z=>nB (wk.sub _ z)
 have s:(toString "max"++toString ".loop":String)="max.loop":=by decide
 refine codeAny_builtin F.entry_max_loop (Around.under_plainId F.plain_max_loop _▸?_);refine wpAny_bind (wpAny_seqItems hB rfl ?_)
 cases n with
 | zero =>
  refine wpAny_bind (wpAny_tryCatch (wk.done t _ _ st fun h' tk f=>?_));exact wpAny_bind (wpAny_rule (wpAny_pure (q d h' tk rfl fun b o e _ a=>f b o e a)))
 | succ m =>
  refine wpAny_bind (wpAny_tryCatch (wk.item 0 t _ _ (Nat.succ_pos _) st fun v h' tk x j f=>?_));have g:=f B _ p hB;obtain⟨l,rfl⟩:=hval 0 v x;refine wpAny_bind (wpAny_pure (wpAny_bind (wpAny_updateSeq g rfl ?_)));rw[s];refine wpAny_pure ⟨plainId_quiet F.plain_max_loop _,Xg5 wk hval nB m 1 (val 0) l _ _ (by omega) (wk.frame _ _ _ j fun b C o a=>(Heap.get?_update_other _ _ (fun z:B=b=>nB (z▸C))).trans a) (Heap.get?_update_self _ g rfl) fun r D h y u=>?_⟩;exact q r D h y fun b o e k a=>u b o e k ((Heap.get?_update_other _ _ (Ne.symm k)).trans (f b o e a))
theorem Yq7 {E:Value→Shared→Prop} {s:Shared} {l:Addr} {xs:Array (Int×Tok)} {d:Value} {Q:Value→Shared→Prop} (hh:A.handled=none) (hl:s.heap.IsList l (intItems xs))
  (q:∀ r h' tk,endV d (topI none (xs.toList.map (·.1))) r→(∀ b o,s.heap.get? b=some o→h'.get? b=some o)→Q r { s with heap:=h',toks:=tk }) :
  wpAny (model prog w) A (call (.builtin "max") [.ref l] [("default",d)]) Q E s:=by
 have x:(toString "max"++toString ".loop":String)="max.loop":=by decide
 refine wpAny_call (codeAny_call_builtin F.plain_max F.entry_max ?_)
 have k:wpAny (model prog w) A.in1 (Builtin.max ⟨[.ref l],[("default",d)]⟩) (fun m a=>match m with
   | .done f=>(match (Except.ok f:Result) with | .ok (.ret v)=>Q v a | .ok _=>False | .error e=>E e a)
   | .again c=>c.quiet=true∧codeAny (model prog w) A c (fun r a=>match r with | .ok (.ret v)=>Q v a | .ok _=>False | .error e=>E e a) a) E s:=by
  refine wpAny_bind (wpAny_of_eq (show Builtin.Builtins.bindParams "max" ["key","default"] 0 ⟨[],[("default",d)]⟩=pure [none,some d] from rfl) (wpAny_bind (wpAny_pure (wpAny_bind (iter_intList hl fun C e n j t=>?_)))));subst e;refine wpAny_bind (wpAny_newObj_type ?_);rw[x];have g:=Walks.list (prog:=prog) (w:=w) (A:=A.in1) hh s.heap.objs.size l t (intItems xs);refine wpAny_pure ⟨plainId_quiet F.plain_max_loop _,Yz4 g (val:=numAt xs) (fun _ _=>intItems_at) (fun z=>Nat.lt_irrefl _ (j _ z)) (g.frame _ _ _ n fun b _ o e=>Heap.get?_push_of_some _ e) (Heap.get?_push_size _ rfl) fun r h' tk h y=>?_⟩;refine q r h' tk ?_ (old_kept fun b o u e=>y b o u (Nat.ne_of_lt (Heap.lt_size e)) (Heap.get?_push_of_some _ e))
  have B:(List.range' 0 (intItems xs).size).map (numAt xs)=xs.toList.map (·.1):=by
   apply List.ext_getElem?;intro i
   by_cases hi:i < xs.size
   ·simp[intItems,numAt,hi]
   ·simp[intItems,numAt,hi]
  rw[B] at h;exact h
 simp only[checkBuiltinCall,F.kind_max]
 cases hs:Manifest.signature? "max" with
 | none=>exact wpAny_pure k
 | some sg =>
  have p:Bind.checkArgs "max" sg ⟨[.ref l],[("default",d)]⟩=pure ():=by simpa only[argsOk,hs] using Wo0 (.ref l) d
  simp only[p];exact wpAny_pure k
end
end Ken
namespace L2
open PySem PySem.Spec PyProof.Rows Ken
section
variable {X:Cx}
theorem Xt6:∀ {ns:List Int} {us:List Value},Vals (ns.map V.int) us→∃ xs:List (Int×Tok),us=xs.map (fun p=>Value.int p.1 p.2)∧xs.map (·.1)=ns
 | [],_,r=>by cases r;exact⟨[],rfl,rfl⟩
 | n :: ns,_,r=>by
  cases r with
  | cons h t =>
   obtain⟨tk,rfl⟩:=h;obtain⟨xs,rfl,e⟩:=Xt6 t;exact⟨(n,tk) :: xs,rfl,by rw[List.map_cons,e]⟩
theorem Xw5 {K:W.Frag} {e d:Expr} {te td:TE} {p kp pos:Pos} (hK:X.K=K) (hc:X.calm=true) (hg:Gl X "max") (hm:X.mg "max"=none) (ha:PE X e te) (hd:PE X d td)
  (he:starEach [e] X.env=[(false,eval e X.env)]:=by rfl):PE X (.Call (.Name "max" p) [e] [⟨some "default",d,kp⟩] pos) (Yo3 K te td):=by
 subst hK;intro f s i H Q I h;refine wpAny_Call_Name_kw (Zp8 I hg hm Ken.boot_max ?_ (by decide) (by decide));have m:PA X [e] (Zv7 te tNil):=Za0 ha Za1 he
 refine callWith_kw (thn (m pos f s i H (fun j l=>match j with
  | [v]=>td i l fun y g=>∃ (a:Addr) (ns:List Int) (d:Int),v=.ref a∧y=.int d∧SqL X.K g a (ns.map V.int)∧Q (.int ((Ken.topI none ns).getD d)) g
  | _=>False) I h) fun us s1 ⟨j,l,I1,r1,q1⟩=>?_) (by rw[he];rfl) (by rw[he];rfl)
 match j,r1,q1 with
 | [v],r1,q1 =>
  obtain⟨z,rfl,o⟩:=Yn9 r1;refine kws_cons (thn (hd f s1 i l _ I1 q1) fun u s2 ⟨y,g,I2,r2,a,ns,d0,ev,ey,hq,q⟩=>kws_nil ?_);subst ev;subst ey;cases o;obtain⟨kd,rfl⟩:=r2;obtain⟨x,n,t,C⟩:=I2.list hq;obtain⟨xs,rfl,ex⟩:=Xt6 n
  have w:intItems xs.toArray=(xs.map (fun p=>Value.int p.1 p.2)).toArray:=by simp[intItems]
  refine Yq7 (xs:=xs.toArray) (I2.ok.hd hc) (by rw[w];exact t.isList) fun r D A c k=>?_;rw[show xs.toArray.toList.map (·.1)=ns by simpa using ex] at c
  cases et:topI none ns with
  | none =>
   rw[et] at c q;have c:r=.int d0 kd:=c;subst c;exact⟨.int d0,g,I2.kept k,⟨_,rfl⟩,q⟩
  | some b =>
   rw[et] at c q;obtain⟨B,rfl⟩:=c;exact⟨.int b,g,I2.kept k,⟨_,rfl⟩,q⟩
theorem We7 {a:Addr} {kvs:List (Str×V)} {name:Str} {i:Expr} {ti:TE} {p:Pos} (D:KDict X.K X.w a kvs) (hg:Gl X name) (hm:X.mg name=some (.ref a)) (hi:PE X i ti) (hd:(name == ("__debug__":Str))=false:=by decide) :
  PC X .In i (.Name name p) (tKIn kvs ti):=by
 intro b s d H Q I h;refine thn (hi b s d H _ I h) fun iv s1 ⟨y,H1,I1,ry,x,ey,q1⟩=>?_;subst ey;refine Zn9 I1 hg hm ?_ hd;obtain⟨f,c,e⟩:=D.of I1;refine wpAny_in_of (Xh5 (k:=Sum.inr x) ry) D.ns e.mapOf ?_;rw[← (c.val (Sum.inr x)).isSome_eq,Yt8];exact⟨.bl _,H1,I1.tok _,rfl,q1⟩
end
noncomputable abbrev TBs:=List (Addr×List (Pos×Str))
def Tabs (H:Hp) (tb:TBs):Prop:=∀ x∈tb,TabOk H x.1 x.2
theorem Tabs.keep {H H':Hp} {tb:TBs} (h:Tabs H tb) (e:Same H H'):Tabs H' tb:=fun x a=>(h x a).keep e
theorem Tabs.put {H:Hp} {tb:TBs} {l:Addr} {xs:List V} {o:HO} (h:Tabs H tb) (e:H l=some (.lst xs)):Tabs (upd H l o) tb:=fun x a=>TabOk.put e (fun _ z=>nomatch z) (fun _ z=>nomatch z) (h x a)
theorem SameV.nil {H H':Hp} (h:SameV [] H H'):Same H H':=fun b o e=>h.off b o (by simp) e
theorem FnOk.sub {P:Program} {w:World} {K:W.Frag} {mg:Str→Option Value} {base:Heap} {CX:CXT} {k:Nat} {f:Addr} {fd:FuncData} {ps:List Str} {sp sp':Sp} (F:FnOk P w K mg base CX k f fd ps sp) (h:∀ vs H Q E,sp' vs H Q E→sp vs H Q E):FnOk P w K mg base CX k f fd ps sp' :=
 ⟨fun vs H Q E x=>F.len vs H Q E (h vs H Q E x),fun A e s H g i vs Q E a b c d x=>F.run A e s H g i vs Q E a b c d (h vs H Q E x)⟩
end L2
namespace Ken
open PySem L2
noncomputable def numP:Nat→List Pf→List (Nat×Pf)
 | _,[]=>[]
 | n,p :: ps=>(n,p) :: numP (n+p.1.size) ps
theorem Yv5 (p:Pf):(preP p).length=p.1.size:=Ze8 p.1 p.2
theorem Yw6:∀ {a b:List Pf} {n:Nat},numP n (a++b)=numP n a++numP (n+(a.flatMap preP).length) b
 | [],b,n=>rfl
 | p :: a,b,n=>by
  show (n,p) :: numP (n+p.1.size) (a++b)=(n,p) :: (numP (n+p.1.size) a++_);rw[Yw6,List.flatMap_cons,List.length_append,Yv5,Nat.add_assoc]
theorem Yf9:∀ {ps:List Pf} {n:Nat},(numP n ps).map (·.2)=ps
 | [],n=>rfl
 | p :: ps,n=>by show p :: (numP _ ps).map (·.2)=_;rw[Yf9]
theorem Yw5 {ps:List Pf} {n:Nat}:(numP n ps).length=ps.length:=by
 have:=congrArg List.length (Yf9 (ps:=ps) (n:=n))
 rwa [List.length_map] at this
theorem Xe1 (p:Pf):p.1.size=1+((Zh6 p).flatMap preP).length:=by
 rw[← Yv5,Zq4,List.length_cons];omega
noncomputable abbrev RPn:=Hp→Nat→Pf→V→Prop
def Yo6 (tb:TBs) (J:Hp→Prop) (R:RPn) (p0:Pf):Sp:=fun vs H Q _=>∃ (n:Nat) (p:Pf) (l:Addr) (us:List V),vs=[.int (n:Nat),.ref l]∧J H∧Tabs H tb∧(preP p0)[n]?=some p∧H l=some (.lst us)∧Paired (fun u (k:Nat×Pf)=>R H k.1 k.2 u) us (numP (n+1) (Zh6 p)) ∧
 ∀ (r:V) (H':Hp),SameV (tb.map (·.1)) H H'→Tabs H' tb→R H' n p r→Q r H'
def Zx9 (K:W.Frag) (tb:TBs) (J:Hp→Prop) (R:RPn) (p0:Pf) (f:Addr):Sp:=fun vs H Q _=>∃ (l:Addr) (us:List V),vs=[.ref l,.ref f]∧J H∧Tabs H tb∧SqL K H l us∧Paired (IsPf K H) us (preP p0)∧p0.1.size≤20000 ∧
 ∀ (r:V) (H':Hp),SameV (tb.map (·.1)) H H'→Tabs H' tb→R H' 0 p0 r→Q r H'
theorem Yc4 {α β γ:Type} {F:α→γ→Prop} {g:β→γ}:∀ {l:List α} {m:List β},Paired (fun u k=>F u (g k)) l m→Paired F l (m.map g)
 | _,_,.nil=>.nil
 | _,_,.cons a t=>.cons a (Yc4 t)
noncomputable def Te.turns:Te→Bool
 | .one .left (.two .pair _ _) _=>true
 | .one .right (.two .pair _ _) _=>true
 | .two .use (.fn _ _) _=>true
 | .cs (.one .first _ _) _ _=>true
 | .cs (.one .second _ _) _ _=>true
 | _=>false
noncomputable def Te.itself:Te→Te
 | .one .left (.two .pair a _) _=>a
 | .one .right (.two .pair _ b) _=>b
 | .two .use (.fn _ b) o=>b.mp (putF o) 0
 | .cs (.one .first a _) b _=>b.mp (putF a) 0
 | .cs (.one .second a _) _ c=>c.mp (putF a) 0
 | t=>t
noncomputable def Te.tpm (m:Nat):Te→Nat→Te
 | .at k,n=>if n=m then (Te.at k).itself else .at k
 | .one u a ss,n=>if n=m then (Te.one u a ss).itself else .one u (a.tpm m (n+1)) ss
 | .two u a b,n=>if n=m then (Te.two u a b).itself else .two u (a.tpm m (n+1)) (b.tpm m (n+1+a.size))
 | .fn s a,n=>if n=m then (Te.fn s a).itself else .fn s (a.tpm m (n+1))
 | .cs a b c,n=>if n=m then (Te.cs a b c).itself else .cs (a.tpm m (n+1)) (b.tpm m (n+1+a.size)) (c.tpm m (n+1+a.size+b.size))
theorem Yu1 {m:Nat}:∀ t:Te,t.tpm m m=t.itself
 | .at k=>if_pos rfl
 | .one _ _ _=>if_pos rfl
 | .two _ _ _=>if_pos rfl
 | .fn _ _=>if_pos rfl
 | .cs _ _ _=>if_pos rfl
theorem Xn7 {m n:Nat} (h:n≠m) (p:Pf):p.1.tpm m n=p.1.withK ((numP (n+1) (Zh6 p)).map fun k=>k.2.1.tpm m k.1):=by
 obtain⟨t,f⟩:=p
 cases t with
 | «at» k=>exact if_neg h
 | one u a ss=>exact if_neg h
 | two u a b=>exact if_neg h
 | fn s a=>exact if_neg h
 | cs a b c=>exact if_neg h
theorem size_pos:∀ t:Te,1≤t.size
 | .at _=>Nat.le_refl _
 | .one _ a _=>Nat.le_add_right _ _
 | .two _ a b=>by show 1≤1+a.size+b.size;omega
 | .fn _ a=>Nat.le_add_right _ _
 | .cs a b c=>by show 1≤1+a.size+b.size+c.size;omega
theorem Zg6 {m:Nat}:∀ {t:Te} {n:Nat},(m < n∨n+t.size≤m)→t.tpm m n=t
 | .at k,n,h=>if_neg (by have:m < n∨n+1≤m:=h;omega)
 | .one u a ss,n,h=>by
  have h:m < n∨n+(1+a.size)≤m:=h;refine (if_neg (by omega)).trans ?_;rw[Zg6 (t:=a) (by omega)]
 | .two u a b,n,h=>by
  have h:m < n∨n+(1+a.size+b.size)≤m:=h;refine (if_neg (by omega)).trans ?_;rw[Zg6 (t:=a) (by omega),Zg6 (t:=b) (by omega)]
 | .fn s a,n,h=>by
  have h:m < n∨n+(1+a.size)≤m:=h;refine (if_neg (by omega)).trans ?_;rw[Zg6 (t:=a) (by omega)]
 | .cs a b c,n,h=>by
  have h:m < n∨n+(1+a.size+b.size+c.size)≤m:=h;refine (if_neg (by omega)).trans ?_;rw[Zg6 (t:=a) (by omega),Zg6 (t:=b) (by omega),Zg6 (t:=c) (by omega)]
noncomputable def idxT:Nat→List Pf→List Nat
 | _,[]=>[]
 | n,p :: ps=>(if p.1.turns then [n] else [])++idxT (n+1) ps
theorem Zs9:∀ {a b:List Pf} {n:Nat},idxT n (a++b)=idxT n a++idxT (n+a.length) b
 | [],b,n=>rfl
 | p :: a,b,n=>by
  show _++idxT (n+1) (a++b)=(_++idxT (n+1) a)++_;rw[Zs9,List.append_assoc,List.length_cons,show n+1+a.length=n+(a.length+1) by omega]
theorem Zw8:∀ {a:List Pf} {n:Nat},(idxT n a).length≤a.length
 | [],n=>Nat.le_refl _
 | p :: a,n=>by
  show ((if p.1.turns then [n] else [])++idxT (n+1) a).length≤a.length+1;rw[List.length_append];have:=Zw8 (a:=a) (n:=n+1)
  split<;>simp<;>omega
noncomputable def Te.paths:Te→List Nat→List (List Nat)
 | .at _,_=>[]
 | .one u a ss,π=>(if (Te.one u a ss).turns then [π] else [])++a.paths (π++[1])
 | .two u a b,π=>(if (Te.two u a b).turns then [π] else [])++(a.paths (π++[1])++b.paths (π++[2]))
 | .fn s a,π=>a.paths (π++[2])
 | .cs a b c,π=>(if (Te.cs a b c).turns then [π] else [])++(a.paths (π++[1])++(b.paths (π++[2])++c.paths (π++[3])))
noncomputable def Te.tat:Te→List Nat→Te
 | t,[]=>t.itself
 | .one u a ss,1 :: π=>.one u (a.tat π) ss
 | .two u a b,1 :: π=>.two u (a.tat π) b
 | .two u a b,2 :: π=>.two u a (b.tat π)
 | .fn s a,2 :: π=>.fn s (a.tat π)
 | .cs a b c,1 :: π=>.cs (a.tat π) b c
 | .cs a b c,2 :: π=>.cs a (b.tat π) c
 | .cs a b c,3 :: π=>.cs a b (c.tat π)
 | t,_=>t
def Te.okp:Te→List Nat→Prop
 | t,[]=>t.turns=true
 | .one u a ss,1 :: π=>a.okp π
 | .two u a b,1 :: π=>a.okp π
 | .two u a b,2 :: π=>b.okp π
 | .fn s a,2 :: π=>a.okp π
 | .cs a b c,1 :: π=>a.okp π
 | .cs a b c,2 :: π=>b.okp π
 | .cs a b c,3 :: π=>c.okp π
 | _,_=>False
def Corr (t:Te) (n:Nat) (π:List Nat) (m:Nat) (q:List Nat):Prop:=∃ ρ,q=π++ρ∧t.tpm m n=t.tat ρ∧n≤m∧m < n+t.size∧t.okp ρ
theorem Zf9 {α β:Type} {F:α→β→Prop}:∀ {l l2:List α} {m m2:List β},Paired F l m→Paired F l2 m2→Paired F (l++l2) (m++m2)
 | _,_,_,_,.nil,h=>h
 | _,_,_,_,.cons a t,h=>.cons a (Zf9 t h)
theorem Zg8 {α β:Type} {F G:α→β→Prop} (h:∀ x y,F x y→G x y):∀ {l:List α} {m:List β},Paired F l m→Paired G l m
 | _,_,.nil=>.nil
 | _,_,.cons a t=>.cons (h _ _ a) (Zg8 h t)
theorem Xk8 {t:Te} {n:Nat} {π:List Nat} (h:t.turns=true):Corr t n π n π:=⟨[],by rw[List.append_nil],by rw[Yu1];cases t<;>rfl,Nat.le_refl _,by have:=size_pos t;omega,by cases t<;>exact h⟩
theorem Ya6 {t:Te} {n:Nat} {π:List Nat}:Paired (Corr t n π) (if t.turns then [n] else []) (if t.turns then [π] else []):=by
 cases h:t.turns with
 | true=>exact .cons (Xk8 h) .nil
 | false=>exact .nil
theorem Zm4 {t a:Te} {n k i:Nat} {π:List Nat} {m:Nat} {q:List Nat} (h:Corr a k (π++[i]) m q) (h1:∀ m ρ,k≤m→m < k+a.size→a.tpm m k=a.tat ρ→t.tpm m n=t.tat (i :: ρ)) (h2:n≤k) (h3:k+a.size≤n+t.size) (h4:∀ ρ,a.okp ρ→t.okp (i :: ρ)):Corr t n π m q:=by
 obtain⟨ρ,f,e,d,c,b⟩:=h;exact⟨i :: ρ,by rw[f,List.append_assoc];rfl,h1 m ρ d c e,by omega,by omega,h4 ρ b⟩
theorem Zj1:∀ {t:Te} {f n:Nat} {π:List Nat},Paired (Corr t n π) (idxT n (t.pre f)) (t.paths π)
 | .at k,f,n,π=>.nil
 | .one u a ss,f,n,π=>by
  refine Zf9 Ya6 (Zg8 (fun m q h=>Zm4 h (fun m ρ e1 e2 e=>?_) (by omega) (by show _≤n+(1+a.size);omega) fun _ z=>z) (Zj1 (t:=a) (f:=f) (n:=n+1) (π:=π++[1])));exact (if_neg (by omega)).trans (by rw[e];rfl)
 | .two u a b,f,n,π=>by
  show Paired _ (_++idxT (n+1) (a.pre f++b.pre f)) _;rw[Zs9,Ze8]
  refine Zf9 Ya6 (Zf9 (Zg8 (fun m q h=>Zm4 h (fun m ρ e1 e2 e=>?_) (by omega) (by show _≤n+(1+a.size+b.size);omega) fun _ z=>z) (Zj1 (t:=a) (f:=f) (n:=n+1) (π:=π++[1])))
   (Zg8 (fun m q h=>Zm4 h (fun m ρ e1 e2 e=>?_) (by omega) (by show _≤n+(1+a.size+b.size);omega) fun _ z=>z) (Zj1 (t:=b) (f:=f) (n:=n+1+a.size) (π:=π++[2]))))
  ·exact (if_neg (by omega)).trans (by rw[e,Zg6 (t:=b) (by omega)];rfl)
  ·exact (if_neg (by omega)).trans (by rw[e,Zg6 (t:=a) (by omega)];rfl)
 | .fn s a,f,n,π=>by
  refine Zg8 (fun m q h=>Zm4 h (fun m ρ e1 e2 e=>?_) (by omega) (by show _≤n+(1+a.size);omega) fun _ z=>z) (Zj1 (t:=a) (f:=f+1) (n:=n+1) (π:=π++[2]));exact (if_neg (by omega)).trans (by rw[e];rfl)
 | .cs a b c,f,n,π=>by
  show Paired _ (_++idxT (n+1) (a.pre f++(b.pre (f+1)++c.pre (f+1)))) _;rw[Zs9,Zs9,Ze8,Ze8]
  refine Zf9 Ya6 (Zf9 (Zg8 (fun m q h=>Zm4 h (fun m ρ e1 e2 e=>?_) (by omega) (by show _≤n+(1+a.size+b.size+c.size);omega) fun _ z=>z) (Zj1 (t:=a) (f:=f) (n:=n+1) (π:=π++[1])))
   (Zf9 (Zg8 (fun m q h=>Zm4 h (fun m ρ e1 e2 e=>?_) (by omega) (by show _≤n+(1+a.size+b.size+c.size);omega) fun _ z=>z) (Zj1 (t:=b) (f:=f+1) (n:=n+1+a.size) (π:=π++[2])))
    (Zg8 (fun m q h=>Zm4 h (fun m ρ e1 e2 e=>?_) (by omega) (by show _≤n+(1+a.size+b.size+c.size);omega) fun _ z=>z) (Zj1 (t:=c) (f:=f+1) (n:=n+1+a.size+b.size) (π:=π++[3])))))
  ·exact (if_neg (by omega)).trans (by rw[e,Zg6 (t:=b) (by omega),Zg6 (t:=c) (by omega)];rfl)
  ·exact (if_neg (by omega)).trans (by rw[e,Zg6 (t:=a) (by omega),Zg6 (t:=c) (by omega)];rfl)
  ·exact (if_neg (by omega)).trans (by rw[e,Zg6 (t:=a) (by omega),Zg6 (t:=b) (by omega)];rfl)
theorem Zi3 {o:Te}:∀ {b:Te} {f:Nat},3*(b.mp (putF o) f).size+1≤(2*o.size+1)*b.size+o.size
 | .at k,f=>by
  have h:=size_pos o;show 3*(putF o k f).size+1≤(2*o.size+1)*1+o.size;unfold putF
  split
  ·rw[Zh4];omega
  ·show 3*1+1≤_;omega
 | .one u a ss,f=>by
  have h:=size_pos o;have ih:=Zi3 (o:=o) (b:=a) (f:=f);have e:=Nat.mul_add (2*o.size+1) 1 a.size;show 3*(1+(a.mp (putF o) f).size)+1≤(2*o.size+1)*(1+a.size)+o.size;omega
 | .two u a b,f=>by
  have h:=size_pos o;have i1:=Zi3 (o:=o) (b:=a) (f:=f);have i2:=Zi3 (o:=o) (b:=b) (f:=f);show 3*(1+(a.mp (putF o) f).size+(b.mp (putF o) f).size)+1≤(2*o.size+1)*(1+a.size+b.size)+o.size;have e:=Nat.mul_add (2*o.size+1) (1+a.size) b.size;have e2:=Nat.mul_add (2*o.size+1) 1 a.size;omega
 | .fn s a,f=>by
  have h:=size_pos o;have ih:=Zi3 (o:=o) (b:=a) (f:=f+1);have e:=Nat.mul_add (2*o.size+1) 1 a.size;show 3*(1+(a.mp (putF o) (f+1)).size)+1≤(2*o.size+1)*(1+a.size)+o.size;omega
 | .cs a b c,f=>by
  have h:=size_pos o;have i1:=Zi3 (o:=o) (b:=a) (f:=f);have i2:=Zi3 (o:=o) (b:=b) (f:=f+1);have i3:=Zi3 (o:=o) (b:=c) (f:=f+1);show 3*(1+(a.mp (putF o) f).size+(b.mp (putF o) (f+1)).size+(c.mp (putF o) (f+1)).size)+1≤(2*o.size+1)*(1+a.size+b.size+c.size)+o.size;have e:=Nat.mul_add (2*o.size+1) (1+a.size) b.size;have e2:=Nat.mul_add (2*o.size+1) 1 a.size;have e3:=Nat.mul_add (2*o.size+1) (1+a.size+b.size) c.size;omega
theorem Zi4 {o:Te}:∀ {b:Te} {f:Nat},(b.mp (putF o) f).deep≤b.deep+o.deep
 | .at k,f=>by
  show (putF o k f).deep≤1+o.deep;unfold putF
  split
  ·rw[Zh5];omega
  ·show 1≤_;omega
 | .one u a ss,f=>by
  have ih:=Zi4 (o:=o) (b:=a) (f:=f);show 1+(a.mp (putF o) f).deep≤1+a.deep+o.deep;omega
 | .two u a b,f=>by
  have i1:=Zi4 (o:=o) (b:=a) (f:=f);have i2:=Zi4 (o:=o) (b:=b) (f:=f);show 1+max (a.mp (putF o) f).deep (b.mp (putF o) f).deep≤1+max a.deep b.deep+o.deep;omega
 | .fn s a,f=>by
  have ih:=Zi4 (o:=o) (b:=a) (f:=f+1);show 1+(a.mp (putF o) (f+1)).deep≤1+a.deep+o.deep;omega
 | .cs a b c,f=>by
  have i1:=Zi4 (o:=o) (b:=a) (f:=f);have i2:=Zi4 (o:=o) (b:=b) (f:=f+1);have i3:=Zi4 (o:=o) (b:=c) (f:=f+1);show 1+max (a.mp (putF o) f).deep (max (b.mp (putF o) (f+1)).deep (c.mp (putF o) (f+1)).deep)≤1+max a.deep (max b.deep c.deep)+o.deep;omega
theorem Zc8:∀ t:Te,t.deep≤t.size
 | .at _=>Nat.le_refl _
 | .one _ a _=>by have:=Zc8 a;show 1+a.deep≤1+a.size;omega
 | .two _ a b=>by have:=Zc8 a;have:=Zc8 b;show 1+max a.deep b.deep≤1+a.size+b.size;omega
 | .fn _ a=>by have:=Zc8 a;show 1+a.deep≤1+a.size;omega
 | .cs a b c=>by have:=Zc8 a;have:=Zc8 b;have:=Zc8 c;show 1+max a.deep (max b.deep c.deep)≤1+a.size+b.size+c.size;omega
theorem sq2 (z b:Nat):2*(z*b)≤b*b+z*z:=by
 rcases Nat.le_total z b with h | h
 ·obtain⟨d,rfl⟩:=Nat.exists_eq_add_of_le h
  have c:z*(z+d)=z*z+z*d:=Nat.mul_add ..
  have a:(z+d)*(z+d)=z*z+z*d+(z*d+d*d):=by rw[Nat.add_mul,Nat.mul_add,Nat.mul_add,Nat.mul_comm d z]
  omega
 ·obtain⟨d,rfl⟩:=Nat.exists_eq_add_of_le h
  have c:(b+d)*b=b*b+b*d:=by rw[Nat.add_mul,Nat.mul_comm d b]
  have a:(b+d)*(b+d)=b*b+b*d+(b*d+d*d):=by rw[Nat.add_mul,Nat.mul_add,Nat.mul_add,Nat.mul_comm d b]
  omega
def Gr (x n:Nat):Prop:=6*x+2*n+2≤n*n
theorem Zr0 {x n r:Nat} (hx:1≤x) (h:Gr x n):Gr (x+r) (n+r):=by
 unfold Gr at *
 have a:4≤n:=by
  by_cases c:n≤3
  ·have:n=0∨n=1∨n=2∨n=3:=by omega
   rcases this with rfl | rfl | rfl | rfl<;>omega
  ·omega
 have e:(n+r)*(n+r)=n*n+n*r+(n*r+r*r):=by rw[Nat.add_mul,Nat.mul_add,Nat.mul_add,Nat.mul_comm r n]
 have b:4*r≤n*r:=Nat.mul_le_mul_right r a;omega
theorem Xi8 {x b z:Nat} (h:3*x+1≤(2*z+1)*b+z):Gr x (b+z+2):=by
 unfold Gr
 have c:(2*z+1)*b=2*(z*b)+b:=by rw[Nat.add_mul,Nat.mul_assoc,Nat.one_mul]
 have a:(b+z+2)*(b+z+2)=b*b+z*b+2*b+(z*b+z*z+2*z)+(2*b+2*z+4):=by
  simp only[Nat.add_mul,Nat.mul_add,Nat.mul_comm b z,Nat.mul_comm b 2,Nat.mul_comm z 2]
  try omega
 have:=sq2 z b;omega
theorem Yx4 {x n:Nat} (h:x+3≤n):Gr x n:=by
 unfold Gr;obtain⟨r,rfl⟩:=Nat.exists_eq_add_of_le h
 have e:(x+3+r)*(x+3+r)=x*x+6*x+9+(2*(x*r)+6*r+r*r):=by
  simp only[Nat.add_mul,Nat.mul_add,Nat.mul_comm r x,Nat.mul_comm x 3,Nat.mul_comm r 3]
  try omega
 have:2*x≤x*x+1:=by
  have:=sq2 1 x;rw[Nat.one_mul] at this;omega
 omega
theorem Ys2 {x n r:Nat} (h:Gr x n) (h2:2≤n):Gr x (n+r):=by
 unfold Gr at *
 have e:(n+r)*(n+r)=n*n+n*r+(n*r+r*r):=by rw[Nat.add_mul,Nat.mul_add,Nat.mul_add,Nat.mul_comm r n]
 have a:2*r≤n*r:=Nat.mul_le_mul_right r h2;omega
theorem Yh7 {t:Te} (h:t.turns=true):(∃ a b ss,t=.one .left (.two .pair a b) ss)∨(∃ a b ss,t=.one .right (.two .pair a b) ss)∨(∃ s b o,t=.two .use (.fn s b) o)∨(∃ a ss b c,t=.cs (.one .first a ss) b c)∨(∃ a ss b c,t=.cs (.one .second a ss) b c):=by
 unfold Te.turns at h
 split at h
 ·exact .inl ⟨_,_,_,rfl⟩
 ·exact .inr (.inl ⟨_,_,_,rfl⟩)
 ·exact .inr (.inr (.inl ⟨_,_,_,rfl⟩))
 ·exact .inr (.inr (.inr (.inl ⟨_,_,_,_,rfl⟩)))
 ·exact .inr (.inr (.inr (.inr ⟨_,_,_,_,rfl⟩)))
 ·cases h
theorem Xf6 {t:Te} (h:t.okp []):t.turns=true:=by cases t<;>exact h
theorem Xd5 {t:Te}:t.tat []=t.itself:=by cases t<;>rfl
theorem Yf8 {t:Te} {i:Nat} {ρ:List Nat} (h:t.okp (i :: ρ)):(∃ u a ss,t=.one u a ss∧i=1∧a.okp ρ)∨(∃ u a b,t=.two u a b∧i=1∧a.okp ρ)∨(∃ u a b,t=.two u a b∧i=2∧b.okp ρ)∨(∃ s a,t=.fn s a∧i=2∧a.okp ρ)∨(∃ a b c,t=.cs a b c∧i=1∧a.okp ρ)∨(∃ a b c,t=.cs a b c∧i=2∧b.okp ρ)∨(∃ a b c,t=.cs a b c∧i=3∧c.okp ρ):=by
 unfold Te.okp at h
 split at h
 ·rename_i e;cases e
 ·rename_i e;cases e;exact .inl ⟨_,_,_,rfl,rfl,h⟩
 ·rename_i e;cases e;exact .inr (.inl ⟨_,_,_,rfl,rfl,h⟩)
 ·rename_i e;cases e;exact .inr (.inr (.inl ⟨_,_,_,rfl,rfl,h⟩))
 ·rename_i e;cases e;exact .inr (.inr (.inr (.inl ⟨_,_,rfl,rfl,h⟩)))
 ·rename_i e;cases e;exact .inr (.inr (.inr (.inr (.inl ⟨_,_,_,rfl,rfl,h⟩))))
 ·rename_i e;cases e;exact .inr (.inr (.inr (.inr (.inr (.inl ⟨_,_,_,rfl,rfl,h⟩)))))
 ·rename_i e;cases e;exact .inr (.inr (.inr (.inr (.inr (.inr ⟨_,_,_,rfl,rfl,h⟩)))))
 ·exact h.elim
theorem Zu7:∀ {ρ:List Nat} {t:Te},t.okp ρ→Gr (t.tat ρ).size t.size∧(t.tat ρ).deep≤t.size
 | [],t,h=>by
  rw[Xd5];rcases Yh7 (Xf6 h) with ⟨a,b,ss,rfl⟩ | ⟨a,b,ss,rfl⟩ | ⟨s,b,o,rfl⟩ | ⟨a,ss,b,c,rfl⟩ | ⟨a,ss,b,c,rfl⟩
  ·have h1:=size_pos b
   have h2:=Zc8 a;exact⟨Yx4 (by show a.size+3≤1+(1+a.size+b.size);omega),by show a.deep≤1+(1+a.size+b.size);omega⟩
  ·have h1:=size_pos a
   have h2:=Zc8 b;exact⟨Yx4 (by show b.size+3≤1+(1+a.size+b.size);omega),by show b.deep≤1+(1+a.size+b.size);omega⟩
  ·have h1:=Zi4 (o:=o) (b:=b) (f:=0)
   have h2:=Zc8 b;have h3:=Zc8 o;refine⟨?_,by show (b.mp (putF o) 0).deep≤1+(1+b.size)+o.size;omega⟩;show Gr (b.mp (putF o) 0).size (1+(1+b.size)+o.size);rw[show 1+(1+b.size)+o.size=b.size+o.size+2 by omega];exact Xi8 Zi3
  ·have h1:=Zi4 (o:=a) (b:=b) (f:=0)
   have h2:=Zc8 a;have h3:=Zc8 b;refine⟨?_,by show (b.mp (putF a) 0).deep≤1+(1+a.size)+b.size+c.size;omega⟩;show Gr (b.mp (putF a) 0).size (1+(1+a.size)+b.size+c.size);rw[show 1+(1+a.size)+b.size+c.size=b.size+a.size+2+c.size by omega];exact Ys2 (Xi8 Zi3) (by omega)
  ·have h1:=Zi4 (o:=a) (b:=c) (f:=0)
   have h2:=Zc8 a;have h3:=Zc8 c;refine⟨?_,by show (c.mp (putF a) 0).deep≤1+(1+a.size)+b.size+c.size;omega⟩;show Gr (c.mp (putF a) 0).size (1+(1+a.size)+b.size+c.size);rw[show 1+(1+a.size)+b.size+c.size=c.size+a.size+2+b.size by omega];exact Ys2 (Xi8 Zi3) (by omega)
 | i :: ρ,t,h=>by
  rcases Yf8 h with ⟨u,a,ss,rfl,rfl,h⟩ | ⟨u,a,b,rfl,rfl,h⟩ | ⟨u,a,b,rfl,rfl,h⟩ | ⟨s,a,rfl,rfl,h⟩ | ⟨a,b,c,rfl,rfl,h⟩ | ⟨a,b,c,rfl,rfl,h⟩ | ⟨a,b,c,rfl,rfl,h⟩
  ·obtain⟨h1,h2⟩:=Zu7 (t:=a) (ρ:=ρ) h
   refine⟨?_,by show 1+(a.tat ρ).deep≤1+a.size;omega⟩;show Gr (1+(a.tat ρ).size) (1+a.size);rw[Nat.add_comm,Nat.add_comm 1 a.size];exact Zr0 (size_pos _) h1
  ·obtain⟨h1,h2⟩:=Zu7 (t:=a) (ρ:=ρ) h
   have h3:=Zc8 b;refine⟨?_,by show 1+max (a.tat ρ).deep b.deep≤1+a.size+b.size;omega⟩;show Gr (1+(a.tat ρ).size+b.size) (1+a.size+b.size);rw[show 1+(a.tat ρ).size+b.size=(a.tat ρ).size+(1+b.size) by omega,show 1+a.size+b.size=a.size+(1+b.size) by omega];exact Zr0 (size_pos _) h1
  ·obtain⟨h1,h2⟩:=Zu7 (t:=b) (ρ:=ρ) h
   have h3:=Zc8 a;refine⟨?_,by show 1+max a.deep (b.tat ρ).deep≤1+a.size+b.size;omega⟩;show Gr (1+a.size+(b.tat ρ).size) (1+a.size+b.size);rw[Nat.add_comm _ (b.tat ρ).size,Nat.add_comm _ b.size];exact Zr0 (size_pos _) h1
  ·obtain⟨h1,h2⟩:=Zu7 (t:=a) (ρ:=ρ) h
   refine⟨?_,by show 1+(a.tat ρ).deep≤1+a.size;omega⟩;show Gr (1+(a.tat ρ).size) (1+a.size);rw[Nat.add_comm,Nat.add_comm 1 a.size];exact Zr0 (size_pos _) h1
  ·obtain⟨h1,h2⟩:=Zu7 (t:=a) (ρ:=ρ) h
   have h3:=Zc8 b;have h4:=Zc8 c;refine⟨?_,by show 1+max (a.tat ρ).deep (max b.deep c.deep)≤1+a.size+b.size+c.size;omega⟩;show Gr (1+(a.tat ρ).size+b.size+c.size) (1+a.size+b.size+c.size);rw[show 1+(a.tat ρ).size+b.size+c.size=(a.tat ρ).size+(1+b.size+c.size) by omega,show 1+a.size+b.size+c.size=a.size+(1+b.size+c.size) by omega];exact Zr0 (size_pos _) h1
  ·obtain⟨h1,h2⟩:=Zu7 (t:=b) (ρ:=ρ) h
   have h3:=Zc8 a;have h4:=Zc8 c;refine⟨?_,by show 1+max a.deep (max (b.tat ρ).deep c.deep)≤1+a.size+b.size+c.size;omega⟩;show Gr (1+a.size+(b.tat ρ).size+c.size) (1+a.size+b.size+c.size);rw[show 1+a.size+(b.tat ρ).size+c.size=(b.tat ρ).size+(1+a.size+c.size) by omega,show 1+a.size+b.size+c.size=b.size+(1+a.size+c.size) by omega];exact Zr0 (size_pos _) h1
  ·obtain⟨h1,h2⟩:=Zu7 (t:=c) (ρ:=ρ) h
   have h3:=Zc8 a;have h4:=Zc8 b;refine⟨?_,by show 1+max a.deep (max b.deep (c.tat ρ).deep)≤1+a.size+b.size+c.size;omega⟩;show Gr (1+a.size+b.size+(c.tat ρ).size) (1+a.size+b.size+c.size);rw[Nat.add_comm _ (c.tat ρ).size,Nat.add_comm _ c.size];exact Zr0 (size_pos _) h1
theorem Wn3 {x n:Nat} (h:Gr x n) (h2:n≤78):x≤1000:=by
 by_cases c:2≤n
 ·have:=Ys2 (r:=78 - n) h c
  rw[show n+(78 - n)=78 by omega] at this;unfold Gr at this;omega
 ·unfold Gr at h
  have:n=0∨n=1:=by omega
  rcases this with rfl | rfl<;>omega
end Ken
namespace L2
open PySem PySem.Spec PyProof.Rows
theorem FunT.okX {P:Program} {w:World} {K:W.Frag} {mg:Str→Option Value} {base:Heap} {x qual:Str} {st:Stmt} {f:Addr} {fd:FuncData} {T:Addr} {N ps:List Str} {k:Nat} {sp:Sp} (F:FunT K x qual st f fd T) (S:FnScope N ps (Za5 st)) (len:∀ vs H Q E,sp vs H Q E→vs.length=ps.length)
  (hbody:∀ (c:Addr) (A:Around) (outer:List Env) (s:Shared) (H:Hp) (vs:List V) (Q:VK) (E:XK),(∀ h,K.In h→W.CodeHd h c T)→Room k (A.deeper (envOfC qual (Za5 st) s.heap.objs.size f (.ref c)))→sp vs H Q E →
   ∃ t,PSs (cxOf (CXe P w) P w K mg base N qual (Za5 st) f (.ref c) A outer s H E) (Zc7 st) t∧t { nx:=fun _ H'=>Q .non H',rt:=Q } (start N vs) H):FnOk P w K mg base (CXe P w) (k+1) f fd ps sp:=by
 obtain⟨n,m,o,j,l,q,c,p,i,rfl,d,b,g⟩:=F.ex;exact fn_of d b S len fun A outer s H vs Q E e a=>hbody c A outer s H vs Q E g e a
end L2
namespace Ken
open PySem L2
theorem Yg4:∀ {t:Te} {f:Nat},t.mp (Zf5 0) f=t
 | .at k,f=>by show Te.at (if f≤k then k+0 else k)=.at k;split<;>rfl
 | .one u a ss,f=>by show Te.one u (a.mp (Zf5 0) f) ss=_;rw[Yg4]
 | .two u a b,f=>by show Te.two u (a.mp (Zf5 0) f) (b.mp (Zf5 0) f)=_;rw[Yg4,Yg4]
 | .fn s a,f=>by show Te.fn s (a.mp (Zf5 0) (f+1))=_;rw[Yg4]
 | .cs a b c,f=>by show Te.cs (a.mp (Zf5 0) f) (b.mp (Zf5 0) (f+1)) (c.mp (Zf5 0) (f+1))=_;rw[Yg4,Yg4,Yg4]
theorem Xo1 {t:Te} {i:Nat} {ρ:List Nat} (h:t.okp (i :: ρ)):∃ ks:List Te,ks.length=t.kids.length∧t.tat (i :: ρ)=t.withK ks:=by
 rcases Yf8 h with ⟨u,a,d,rfl,rfl,h⟩ | ⟨u,a,b,rfl,rfl,h⟩ | ⟨u,a,b,rfl,rfl,h⟩ | ⟨s,a,rfl,rfl,h⟩ | ⟨a,b,c,rfl,rfl,h⟩ | ⟨a,b,c,rfl,rfl,h⟩ | ⟨a,b,c,rfl,rfl,h⟩
 ·exact⟨[a.tat ρ],rfl,rfl⟩
 ·exact⟨[a.tat ρ,b],rfl,rfl⟩
 ·exact⟨[a,b.tat ρ],rfl,rfl⟩
 ·exact⟨[a.tat ρ],rfl,rfl⟩
 ·exact⟨[a.tat ρ,b,c],rfl,rfl⟩
 ·exact⟨[a,b.tat ρ,c],rfl,rfl⟩
 ·exact⟨[a,b,c.tat ρ],rfl,rfl⟩
theorem Wb5 {t:Te} {i:Nat} {ρ:List Nat} (h:t.okp (i :: ρ)) {j p m:Nat} (hj:t.inn[j]?=some (p,m)):∃ k,t.kids[j]?=some (k,m)∧t.items[p]?=some k.data∧((p=i∧(t.tat (i :: ρ)).items[p]?=some (k.tat ρ).data∧k.okp ρ)∨(p≠i∧(t.tat (i :: ρ)).items[p]?=some k.data)):=by
 rcases Yf8 h with ⟨u,a,d,rfl,rfl,h⟩ | ⟨u,a,b,rfl,rfl,h⟩ | ⟨u,a,b,rfl,rfl,h⟩ | ⟨s,a,rfl,rfl,h⟩ | ⟨a,b,c,rfl,rfl,h⟩ | ⟨a,b,c,rfl,rfl,h⟩ | ⟨a,b,c,rfl,rfl,h⟩
 ·match j,hj with
  | 0,hj=>cases hj;exact⟨a,rfl,rfl,.inl ⟨rfl,rfl,h⟩⟩
  | j+1,hj=>cases j<;>cases hj
 ·match j,hj with
  | 0,hj=>cases hj;exact⟨a,rfl,rfl,.inl ⟨rfl,rfl,h⟩⟩
  | 1,hj=>cases hj;exact⟨b,rfl,rfl,.inr ⟨by decide,rfl⟩⟩
  | j+2,hj=>cases j<;>cases hj
 ·match j,hj with
  | 0,hj=>cases hj;exact⟨a,rfl,rfl,.inr ⟨by decide,rfl⟩⟩
  | 1,hj=>cases hj;exact⟨b,rfl,rfl,.inl ⟨rfl,rfl,h⟩⟩
  | j+2,hj=>cases j<;>cases hj
 ·match j,hj with
  | 0,hj=>cases hj;exact⟨a,rfl,rfl,.inl ⟨rfl,rfl,h⟩⟩
  | j+1,hj=>cases j<;>cases hj
 ·match j,hj with
  | 0,hj=>cases hj;exact⟨a,rfl,rfl,.inl ⟨rfl,rfl,h⟩⟩
  | 1,hj=>cases hj;exact⟨b,rfl,rfl,.inr ⟨by decide,rfl⟩⟩
  | 2,hj=>cases hj;exact⟨c,rfl,rfl,.inr ⟨by decide,rfl⟩⟩
  | j+3,hj=>cases j<;>cases hj
 ·match j,hj with
  | 0,hj=>cases hj;exact⟨a,rfl,rfl,.inr ⟨by decide,rfl⟩⟩
  | 1,hj=>cases hj;exact⟨b,rfl,rfl,.inl ⟨rfl,rfl,h⟩⟩
  | 2,hj=>cases hj;exact⟨c,rfl,rfl,.inr ⟨by decide,rfl⟩⟩
  | j+3,hj=>cases j<;>cases hj
 ·match j,hj with
  | 0,hj=>cases hj;exact⟨a,rfl,rfl,.inr ⟨by decide,rfl⟩⟩
  | 1,hj=>cases hj;exact⟨b,rfl,rfl,.inr ⟨by decide,rfl⟩⟩
  | 2,hj=>cases hj;exact⟨c,rfl,rfl,.inl ⟨rfl,rfl,h⟩⟩
  | j+3,hj=>cases j<;>cases hj
theorem Xr5 (p:Pf):1+(topI none ((Zh6 p).map fun k=>((k.1.deep:Nat):Int))).getD 0=((p.1.deep:Nat):Int):=by
 obtain⟨t,f⟩:=p
 cases t with
 | «at» k=>rfl
 | one u a ss=>show 1+((a.deep:Nat):Int)=((1+a.deep:Nat):Int);omega
 | two u a b =>
  show 1+(if ((b.deep:Nat):Int) > ((a.deep:Nat):Int) then ((b.deep:Nat):Int) else ((a.deep:Nat):Int))=((1+max a.deep b.deep:Nat):Int)
  split<;>omega
 | fn s a=>show 1+((a.deep:Nat):Int)=((1+a.deep:Nat):Int);omega
 | cs a b c =>
  show 1+(if ((c.deep:Nat):Int) > (if ((b.deep:Nat):Int) > ((a.deep:Nat):Int) then ((b.deep:Nat):Int) else ((a.deep:Nat):Int)) then ((c.deep:Nat):Int) else (if ((b.deep:Nat):Int) > ((a.deep:Nat):Int) then ((b.deep:Nat):Int) else ((a.deep:Nat):Int)))=((1+max a.deep (max b.deep c.deep):Nat):Int)
  split<;>split<;>omega
noncomputable def turnV (aT:Nat→Addr):List (Str×V):=[("left",.ref (aT 0)),("right",.ref (aT 1)),("use",.ref (aT 2)),("cases",.ref (aT 3))]
structure Tng (K:W.Frag) (aT:Nat→Addr):Prop where
 l:∀ H,SqT K H (aT 0) [.str "pair"]
 r:∀ H,SqT K H (aT 1) [.str "pair"]
 u:∀ H,SqT K H (aT 2) [.str "fun"]
 c:∀ H,SqT K H (aT 3) [.str "first",.str "second"]
noncomputable abbrev natW (ns:List Nat):List V:=ns.map fun (n:Nat)=>V.int (n:Nat)
def Yu5 (K:W.Frag):Sp:=fun vs H Q _=>∃ (v:V) (t:Te),vs=[v]∧IsE K H v t∧Q (.bl t.turns) H
def Zy3 (K:W.Frag) (tb:TBs):Sp:=fun vs H Q _=>∃ (v:V) (t:Te),vs=[v]∧IsE K H v t∧t.turns=true∧t.size≤20000∧t.deep≤60∧t.all Tm.ok∧Tabs H tb∧∀ (r:V) (H':Hp),SameV (tb.map (·.1)) H H'→Tabs H' tb→IsE K H' r t.itself→Q r H'
def Zo3 (K:W.Frag):Sp:=fun vs H Q _=>∃ (l:Addr) (us:List V) (ps:List Pf),vs=[.ref l]∧H l=some (.lst us)∧Paired (IsPf K H) us ps∧ps.length≤20000∧∀ (r:Addr) (H':Hp),Same H H'→H r=none→H' r=some (.lst (natW (idxT 0 ps)))→Q (.ref r) H'
def Yi5 (K:W.Frag):Sp:=fun vs H Q _=>∃ (v:V) (t:Te),vs=[v]∧IsE K H v t∧t.size≤20000∧∀ H',Same H H'→Q (.int (t.size:Nat)) H'
def Yu6 (K:W.Frag) (T:Addr) (d:List (Pos×Str)):Sp:=fun vs H Q _=>∃ (v:V) (t:Te),vs=[v]∧IsE K H v t∧t.size≤20000∧TabOk H T d∧∀ H',SameV [T] H H'→TabOk H' T d→Q (.int (t.deep:Nat)) H'
def Zn0 (K:W.Frag) (tb:TBs) (aN aL:Addr):Sp:=fun vs H Q E=>∃ (v:V) (t:Te) (i:Int),vs=[v,.int i]∧IsE K H v t∧t.size≤5000∧t.deep≤60∧t.all Tm.ok∧Tabs H tb∧(∀ m∈idxT 0 (t.pre 0),(t.tpm m 0).size≤20000) ∧
 (¬ (0≤i∧i < ((idxT 0 (t.pre 0)).length:Nat))→∀ e H1 H',SameV (tb.map (·.1)) H H1→Tabs H1 tb→Xtd H1 e (.ref aN) none H'→E (.ref e) none H') ∧
 (∀ (j m:Nat),i=(j:Nat)→(idxT 0 (t.pre 0))[j]?=some m →
  ((t.tpm m 0).size≤1000∧(t.tpm m 0).deep≤120→∀ (r:V) (H':Hp),SameV (tb.map (·.1)) H H'→Tabs H' tb→IsE K H' r (t.tpm m 0)→Q r H') ∧
  (¬ ((t.tpm m 0).size≤1000∧(t.tpm m 0).deep≤120)→∀ e H1 H',SameV (tb.map (·.1)) H H1→Tabs H1 tb→Xtd H1 e (.ref aL) none H'→E (.ref e) none H'))
def Yo7 (K:W.Frag):Sp:=fun vs H Q _=>∃ (v:V) (t:Te),vs=[v]∧IsE K H v t∧∀ H',Same H H'→Q (.bl t.turns) H'
def IsPb (H0:Hp) (l:Addr) (H:Hp) (u:V) (ρ:List Nat):Prop:=∃ b,u=.ref b∧H b=some (.lst (natW ρ))∧(b=l∨H0 b=none)
def IsPc (H0:Hp) (l a:Addr) (H:Hp) (u:V) (ρ:List Nat):Prop:=∃ b,u=.ref b∧H b=some (.lst (natW ρ))∧(b=l∨H0 b=none)∧b≠a
theorem IsPc.keep {H0 H H':Hp} {l a:Addr} {u:V} {ρ:List Nat} (h:IsPc H0 l a H u ρ) (e:Same H H'):IsPc H0 l a H' u ρ:=by
 obtain⟨b,f,d,c⟩:=h;exact⟨b,f,e _ _ d,c⟩
theorem IsPc.put {H0 H:Hp} {l a:Addr} {o:HO} {u:V} {ρ:List Nat} (h:IsPc H0 l a H u ρ):IsPc H0 l a (upd H a o) u ρ:=by
 obtain⟨b,f,e,d,c⟩:=h;exact⟨b,f,by rw[Zb1 c];exact e,d,c⟩
theorem IsPc.b {H0 H:Hp} {l a:Addr} {u:V} {ρ:List Nat} (h:IsPc H0 l a H u ρ):IsPb H0 l H u ρ:=by
 obtain⟨b,e,d,c,f⟩:=h;exact⟨b,e,d,c⟩
def Zn1 (K:W.Frag) (n:Nat):Sp:=fun vs H Q _=>∃ (v:V) (t:Te) (l:Addr) (π:List Nat),vs=[v,.ref l]∧IsE K H v t∧H l=some (.lst (natW π))∧t.deep≤n∧t.size≤1000∧π.length+n≤100∧∀ (r:Addr) (H':Hp) (us:List V),Same H H'→H r=none→H' r=some (.lst us)→Paired (IsPb H l H') us (t.paths π)→Q (.ref r) H'
def Zj3 (K:W.Frag) (n:Nat):Sp:=fun vs H Q _=>∃ (x y:V) (t:Te) (l:Addr) (ρ:List Nat) (ws:List Str),vs=[x,y,.ref l]∧IsE K H x (t.tat ρ)∧IsE K H y t∧H l=some (.lst (natW ρ))∧t.okp ρ∧t.fine ws∧(∀ w∈ws,Word w)∧t.deep≤n∧t.deep≤40∧∀ H',Same H H'→Q (.bl true) H'
theorem Yk4:∀ {t:Te} {π:List Nat},(t.paths π).length≤t.size:=fun {t π}=>by
 rw[← Paired.length (Zj1 (t:=t) (f:=0) (n:=0) (π:=π)),← Ze8 t 0];exact Zw8
noncomputable def Te.pk (t:Te):List (Nat×Te):=List.zip t.plc (t.kids.map (·.1))
theorem Yv9 (t:Te) (π:List Nat):t.paths π=(if t.turns then [π] else [])++t.pk.flatMap fun x=>x.2.paths (π++[x.1]):=by
 cases t with
 | «at» k=>rfl
 | one u a ss=>show _=_++(a.paths _++[]);rw[List.append_nil];rfl
 | two u a b=>show _=_++(a.paths _++(b.paths _++[]));rw[List.append_nil];rfl
 | fn s a=>show _=[]++(a.paths _++[]);rw[List.append_nil];rfl
 | cs a b c=>show _=_++(a.paths _++(b.paths _++(c.paths _++[])));rw[List.append_nil];rfl
theorem Wd7 (t:Te):t.pk.length=t.inn.length:=by cases t<;>rfl
theorem Wm4 {t:Te} {i p m:Nat} {k:Te} (h:t.inn[i]?=some (p,m)) (h2:t.kids[i]?=some (k,m)):t.pk[i]?=some (p,k):=by
 obtain⟨c,a,_,b,_⟩:=Te.inn_at h;rw[a] at h2;cases h2;unfold Te.pk;rw[List.getElem?_zip_eq_some];exact⟨b,by rw[List.getElem?_map,a];rfl⟩
theorem Wi6 {t:Te} {i:Nat} {k:Te} {m:Nat} (h:t.kids[i]?=some (k,m)):k.size < t.size∧k.deep < t.deep:=by
 have d:=List.mem_of_getElem? h
 cases t with
 | «at» k0=>cases d
 | one u a ss =>
  rw[(Prod.mk.inj (List.mem_singleton.mp d)).1];exact⟨by show a.size < 1+a.size;omega,by show a.deep < 1+a.deep;omega⟩
 | two u a b =>
  rcases List.mem_cons.mp d with d | d
  ·rw[(Prod.mk.inj d).1];exact⟨by show a.size < 1+a.size+b.size;omega,by show a.deep < 1+max a.deep b.deep;omega⟩
  ·rw[(Prod.mk.inj (List.mem_singleton.mp d)).1];exact⟨by show b.size < 1+a.size+b.size;omega,by show b.deep < 1+max a.deep b.deep;omega⟩
 | fn s a =>
  rw[(Prod.mk.inj (List.mem_singleton.mp d)).1];exact⟨by show a.size < 1+a.size;omega,by show a.deep < 1+a.deep;omega⟩
 | cs a b c =>
  rcases List.mem_cons.mp d with d | d
  ·rw[(Prod.mk.inj d).1];exact⟨by show a.size < 1+a.size+b.size+c.size;omega,by show a.deep < 1+max a.deep (max b.deep c.deep);omega⟩
  ·rcases List.mem_cons.mp d with d | d
   ·rw[(Prod.mk.inj d).1];exact⟨by show b.size < 1+a.size+b.size+c.size;omega,by show b.deep < 1+max a.deep (max b.deep c.deep);omega⟩
   ·rw[(Prod.mk.inj (List.mem_singleton.mp d)).1];exact⟨by show c.size < 1+a.size+b.size+c.size;omega,by show c.deep < 1+max a.deep (max b.deep c.deep);omega⟩
theorem Xk1 {K:W.Frag} {H:Hp} {l:Addr} {ρ:List Nat} (h:H l=some (.lst (natW ρ))):Dn K H (.ref l) (.list (ρ.map fun (n:Nat)=>PyData.int (n:Nat))):=by
 rw[Dn];refine⟨l,_,rfl,SqL.of h,?_⟩;clear h
 induction ρ with
 | nil=>exact dnAll_nil
 | cons n ρ ih=>exact dnAll_cons (dn_int.mpr rfl) ih
theorem Yg1:∀ ρ:List Nat,PyData.canLayAll0 (ρ.map fun (n:Nat)=>PyData.int (n:Nat))=true
 | []=>rfl
 | n :: ρ=>Yg1 ρ
theorem Yx3:∀ {ps:List Pf} {n m:Nat},m∈idxT n ps→∃ p,n≤m∧ps[m - n]?=some p∧p.1.turns=true
 | [],n,m,h=>nomatch h
 | p :: ps,n,m,h=>by
  rcases List.mem_append.mp (show m∈(if p.1.turns then [n] else [])++idxT (n+1) ps from h) with h | h
  ·split at h
   ·rename_i c
    rcases List.mem_singleton.mp h with rfl;exact⟨p,Nat.le_refl _,by rw[Nat.sub_self];rfl,c⟩
   ·cases h
  ·obtain⟨q,h1,h2,h3⟩:=Yx3 h
   exact⟨q,by omega,by rw[show m - n=m - (n+1)+1 by omega];exact h2,h3⟩
theorem Zu0:∀ {t:Te} {f:Nat} {p:Pf},p∈t.pre f→p.1.size≤t.size∧p.1.deep≤t.deep
 | .at k,f,p,h=>by rcases List.mem_singleton.mp h with rfl;exact⟨Nat.le_refl _,Nat.le_refl _⟩
 | .one u a ss,f,p,h=>by
  rcases List.mem_cons.mp h with rfl | h
  ·exact⟨Nat.le_refl _,Nat.le_refl _⟩
  ·obtain⟨h1,h2⟩:=Zu0 h
   exact⟨by show _≤1+a.size;omega,by show _≤1+a.deep;omega⟩
 | .two u a b,f,p,h=>by
  rcases List.mem_cons.mp h with rfl | h
  ·exact⟨Nat.le_refl _,Nat.le_refl _⟩
  ·rcases List.mem_append.mp h with h | h<;>obtain⟨h1,h2⟩:=Zu0 h<;>exact⟨by show _≤1+a.size+b.size;omega,by show _≤1+max a.deep b.deep;omega⟩
 | .fn s a,f,p,h=>by
  rcases List.mem_cons.mp h with rfl | h
  ·exact⟨Nat.le_refl _,Nat.le_refl _⟩
  ·obtain⟨h1,h2⟩:=Zu0 h
   exact⟨by show _≤1+a.size;omega,by show _≤1+a.deep;omega⟩
 | .cs a b c,f,p,h=>by
  rcases List.mem_cons.mp h with rfl | h
  ·exact⟨Nat.le_refl _,Nat.le_refl _⟩
  ·rcases List.mem_append.mp h with h | h
   ·obtain⟨h1,h2⟩:=Zu0 h
    exact⟨by show _≤1+a.size+b.size+c.size;omega,by show _≤1+max a.deep (max b.deep c.deep);omega⟩
   ·rcases List.mem_append.mp h with h | h<;>obtain⟨h1,h2⟩:=Zu0 h<;>exact⟨by show _≤1+a.size+b.size+c.size;omega,by show _≤1+max a.deep (max b.deep c.deep);omega⟩
def JPt (K:W.Frag) (lp pl:Addr) (us:List V) (p0:Pf) (ms:List Nat) (H:Hp):Prop:=SqL K H lp us∧Paired (IsPf K H) us (preP p0)∧SqL K H pl (natW ms)
theorem Xq2 {K:W.Frag} {lp pl:Addr} {us:List V} {p0:Pf} {ms:List Nat} {ts:List Addr} (H H':Hp) (e:SameV ts H H') (h:JPt K lp pl us p0 ms H):JPt K lp pl us p0 ms H' :=
 ⟨SameT.seq e.toT h.1,Paired.mapP h.2.1 fun _ _ z=>IsPf.keep z (SameT.keepT e.toT),SameT.seq e.toT h.2.2⟩
noncomputable abbrev RTn (K:W.Frag) (m:Nat):RPn:=fun H n p v=>IsE K H v (p.1.tpm m n)
structure SubE (a t:Te):Prop where
 sz:a.size < t.size
 dp:a.deep < t.deep
 al:t.all Tm.ok→a.all Tm.ok
 fi:∀ ws,t.fine ws→a.fine ws
inductive TView (K:W.Frag) (H:Hp) (t:Te):Str→Str→List V→List V→Prop where
 | left {ti:Str} {r:List V} {x y:V} {a:Te}:IsE K H x a→t.itself=a→SubE a t→TView K H t "left" ti r [x,y]
 | right {ti:Str} {r:List V} {x y:V} {a:Te}:IsE K H y a→t.itself=a→SubE a t→TView K H t "right" ti r [x,y]
 | use {ti:Str} {x y z:V} {b o:Te}:IsE K H y b→IsE K H z o→t.itself=b.mp (putF o) 0→SubE b t→SubE o t→TView K H t "use" ti [z] [x,y]
 | cases {ti:Str} {x y z:V} {rs:List V} {b o:Te}:IsE K H (if ti="first" then y else z) b→IsE K H x o→t.itself=b.mp (putF o) 0→SubE b t→SubE o t→(ti="first"∨ti="second")→TView K H t "cases" ti [y,z] (x :: rs)
theorem Wb0 {K:W.Frag} {H:Hp} {t:Te} {v:V} (hT:IsE K H v t) (ht:t.turns=true):∃ (p pi:Addr) (tg ti:Str) (r ry:List V),v=.ref p∧SqT K H p (.str tg :: .ref pi :: r)∧SqT K H pi (.str ti :: ry)∧TView K H t tg ti r ry:=by
 rcases Yh7 ht with ⟨a,b,m,rfl⟩ | ⟨a,b,m,rfl⟩ | ⟨u,b,o,rfl⟩ | ⟨a,m,b,c,rfl⟩ | ⟨a,m,b,c,rfl⟩
 ·obtain⟨p,x,n,rfl,f,e,_⟩:=isE_oneV.mp hT
  obtain⟨d,k,q,rfl,g,i,j⟩:=isE_twoV.mp e;exact⟨p,d,_,_,_,_,rfl,f,g,.left i rfl ⟨by show a.size < 1+(1+a.size+b.size);omega,by show a.deep < 1+(1+max a.deep b.deep);omega,fun h=>h.1.1,fun _ h=>h.1.1⟩⟩
 ·obtain⟨p,x,n,rfl,f,e,_⟩:=isE_oneV.mp hT
  obtain⟨d,k,q,rfl,g,i,j⟩:=isE_twoV.mp e;exact⟨p,d,_,_,_,_,rfl,f,g,.right j rfl ⟨by show b.size < 1+(1+a.size+b.size);omega,by show b.deep < 1+(1+max a.deep b.deep);omega,fun h=>h.1.2,fun _ h=>h.1.2⟩⟩
 ·obtain⟨p,x,z,rfl,f,e,l⟩:=isE_twoV.mp hT
  obtain⟨d,k,q,rfl,g,i,j⟩:=isE_fnV.mp e;exact⟨p,d,_,_,_,_,rfl,f,g,.use j l rfl ⟨by show b.size < 1+(1+b.size)+o.size;omega,by show b.deep < 1+max (1+b.deep) o.deep;omega,fun h=>h.1.2,fun _ h=>h.1.2⟩ ⟨by show o.size < 1+(1+b.size)+o.size;omega,by show o.deep < 1+max (1+b.deep) o.deep;omega,fun h=>h.2,fun _ h=>h.2⟩⟩
 ·obtain⟨p,x,y,z,rfl,f,e,l,s⟩:=isE_csV.mp hT
  obtain⟨d,k,n,rfl,g,i,j⟩:=isE_oneV.mp e;exact⟨p,d,_,_,_,_,rfl,f,g,.cases l i rfl ⟨by show b.size < 1+(1+a.size)+b.size+c.size;omega,by show b.deep < 1+max (1+a.deep) (max b.deep c.deep);omega,fun h=>h.2.1,fun _ h=>h.2.1⟩ ⟨by show a.size < 1+(1+a.size)+b.size+c.size;omega,by show a.deep < 1+max (1+a.deep) (max b.deep c.deep);omega,fun h=>h.1.1,fun _ h=>h.1.1⟩ (.inl rfl)⟩
 ·obtain⟨p,x,y,z,rfl,f,e,l,s⟩:=isE_csV.mp hT
  obtain⟨d,k,n,rfl,g,i,j⟩:=isE_oneV.mp e;exact⟨p,d,_,_,_,_,rfl,f,g,.cases s i rfl ⟨by show c.size < 1+(1+a.size)+b.size+c.size;omega,by show c.deep < 1+max (1+a.deep) (max b.deep c.deep);omega,fun h=>h.2.2,fun _ h=>h.2.2⟩ ⟨by show a.size < 1+(1+a.size)+b.size+c.size;omega,by show a.deep < 1+max (1+a.deep) (max b.deep c.deep);omega,fun h=>h.1.1,fun _ h=>h.1.1⟩ (.inr rfl)⟩
end Ken
namespace L2
open PySem PySem.Spec PyProof.Rows
structure CodeFs (vs:Array Value) (T:Addr):Prop where
 a:vs[11]?=some (.ref T)
 b:vs.getD 11 .none=.ref T
 c:∃ file tf,vs.getD 18 .none=.str file tf
 d:∃ flags tg,vs.getD 7 .none=.int flags tg
 e:∃ inF,vs.getD 9 .none=.bool inF
 f:∃ text tt,vs.getD 10 .none=.int text tt
theorem Xl4 {K:W.Frag} {c T:Addr} {od:Option Addr} {vs:Array Value} {sl:Array (Option Value)} (l:K.lookup c=some ⟨.type "code",od,.fields vs,sl⟩) (x:CodeFs vs T) (n:c≠T) (h:Heap) (k:K.In h):W.CodeHd h c T:=by
 obtain⟨j,q,u⟩:=x.c;obtain⟨g,p,t⟩:=x.d;obtain⟨m,s⟩:=x.e;obtain⟨i,o,r⟩:=x.f;exact⟨_,vs,j,q,g,p,m,i,o,k _ _ l,rfl,rfl,x.a,x.b,u,t,s,r,n⟩
theorem Xz4 {K:W.Frag} {x qual:Str} {st:Stmt} {f:Addr} {oc:Value} {od an:Option Addr} {osl:Array (Option Value)} {kV doc pm ct:Value} {c T:Addr} (l:K.lookup f=some ⟨oc,od,.func (W.fnOf x qual (Zd6 st) (Zc7 st) (Za5 st) .none kV doc pm an (.ref c) ct),osl⟩)
  (cc:W.codeIn K (.ref c) qual=true) (k:W.keepIn K (.ref f)=true) (hC:∀ h,K.In h→W.CodeHd h c T):FunT K x qual st f (W.fnOf x qual (Zd6 st) (Zc7 st) (Za5 st) .none kV doc pm an (.ref c) ct) T:=⟨⟨oc,od,kV,doc,pm,an,c,ct,osl,rfl,l,cc,hC⟩,k⟩
end L2
namespace Hd
open PySem PySem.W PySem.Calls PyProof.Rows
noncomputable abbrev pos0:Pos:=⟨0,0,0,0⟩
noncomputable def o11:Obj:={ cls:=.type "tuple",data:=.seq #[] }
noncomputable def o12:Obj:={ cls:=.none,data:=.fields #[] }
noncomputable def o13:Obj:={ cls:=.type "code",data:=.fields #[.str (Str.ofString "<module>") 182,.str (Str.ofString "<module>") 183,.str (Str.ofString "/claim/cut.py") 184,.int 1 0,.int 0 0,.int 0 0,.int 0 0,.int 0 0,.ref 11,.bool false,.int 181 0,.ref 12,.none,.none,.none,.none,.int 185 0,.int 1 0,.str (Str.ofString "/claim/cut.py") 186] }
noncomputable def o14:Obj:={ cls:=.type "frame",slots:=#[some (.ref 13),some (.ref 3),some (.ref 3),none,some (.str (Str.ofString "__main__") 164),none,some (.ref 0)] }
noncomputable def Wm1 (P:Params):BT :=
 (.node (boot_o_0 P) (.node (boot_o_1 P) (.node (boot_o_3 P) (.node (boot_o_7 P) .nil .nil) (.node o11 .nil .nil)) (.node (boot_o_5 P) (.node (boot_o_9 P) .nil .nil) (.node o13 .nil .nil))) (.node (boot_o_2 P) (.node (boot_o_4 P) (.node (boot_o_8 P) .nil .nil) (.node o12 .nil .nil)) (.node (boot_o_6 P) (.node (boot_o_10 P) .nil .nil) (.node o14 .nil .nil))))
noncomputable abbrev annB:Option Value:=some (.ref 6)
noncomputable def Xr3 (p:Program):Env:={ scope:=p.main.scope,locals:=mainNs,globals:=mainNs,cells:=[],code:=.ref 13,frame:=some 14 }
noncomputable def Zv5 (p:Program):Code:=.body (behindTheImports p) (Xr3 p)
noncomputable def SB (w:World) (os:OsState):SharedT:=⟨Wm1 w.params,15,{},#[],{},187,os⟩
noncomputable def S0 (w:World) (os:OsState):Shared:=⟨boot_heap w.params,Array.mk [],boot_drawn,boot_toks,os⟩
noncomputable def pre (p:Program) (w:World) (os:OsState):=topGo treeTable p w 11 annB 12 (S0 w os) (topStub p)
noncomputable def preTo (p:Program) (w:World) (os:OsState):Option (Shared×Thread):=some ((SB w os).abs,⟨denote treeTable (Zv5 p),Zv5 p,pos0,[topFrame pos0]⟩)
noncomputable def blk (p:Program) (w:World) (os:OsState):=segRun treeTable p w 11 annB 1 1 (SB w os).abs (blockOf (behindTheImports p) (Xr3 p) (Zv5 p) pos0 [topFrame pos0])
noncomputable def blkTo (p:Program) (w:World) (os:OsState):Option (Flow×Shared×Code×Pos):=some (.next,(SB w os).abs,Zv5 p,pos0)
noncomputable def run (p:Program) (n:Nat) (w:World) (os:OsState):=segRunT treeTable p w 11 annB 1 n (SB w os) (piecesOf (behindTheImports p) (Xr3 p) (Zv5 p) pos0 [topFrame pos0])
noncomputable def fin (p:Program) (e:Pos) (w:World) (x:SharedT):Option Shared:=topRun treeTable p w 11 annB 2 x.abs ⟨doneF .next,Zv5 p,e,[topFrame pos0]⟩
noncomputable def kept (p:Program) (w:World) (s:Shared):Bool:=staticsOk (importedModules p.main.body) (boot_heap w.params) s.heap&&namesBound p s.heap&&gensDone s&&laidKept (boot_heap w.params) s.heap
noncomputable def ev {α:Type} (p q:Program) (loose:List Str) (lv:List (Str×WData)) (Yf:Shared→α) (n:Nat) (e:Pos) (w:World) (os:OsState) :=
 (run p n w os).map fun x=>(x.1,x.2.2,(fin p e w x.2.1).map fun s=>(kept p w s,openSeen q loose (importedModules p.main.body) (fun s=>xlAt q lv s&&recOk [] s) true s,Yf s))
noncomputable def evTo {α:Type} (p q:Program) (loose:List Str) (Ya:World→α) (e:Pos) (w:World) :=
 some (Flow.next,(Zv5 p,e),some (true,(expectedOf q,bltViewBooted,true,true,pinGoodD (drecsOf q),
  plainGoodE q (looseW q loose),plainGoodD q loose,wideGood q,clsGoodW q loose),Ya w))
theorem Wa7 (w:World) (os:OsState):((S0 w os).heap.isNs mainGlobals&&(S0 w os).gens.size == 0)=true∧(S0 w os).heap.objs.size=11∧(S0 w os).heap.nsMap mainGlobals "__annotations__"=annB:=by
 refine⟨?_,?_,?_⟩<;>kernel_rfl
theorem left {α:Type} {p q:Program} {loose:List Str} {lv:List (Str×WData)} {Yf:Shared→α} {Ya:World→α} {N n:Nat} {e:Pos}
  (ho:opening p=plainProg p.main.scope.names) (hN:Nat.ble 600 N=true) (hf:∀ s,fenceModules? p s=some s)
  (h1:∀ w,(fun os=>pre p w os)=fun os=>preTo p w os) (h2:∀ w,(fun os=>blk p w os)=fun os=>blkTo p w os)
  (h3:∀ w,(fun os=>ev p q loose lv Yf n e w os)=fun _=>evTo p q loose Ya e w) (hl:Nat.ble (12+(1+(n+2))) N=true) :
  LeftO p q loose (fun s=>xlAt q lv s&&recOk [] s) Yf Ya N:=fun w=>by
 obtain⟨s,C,D⟩:=Option.map_eq_some_iff.mp (boot_open ho hN hf w);obtain⟨A,B,G,m,os⟩:=s;have a:=Wa7 w os
 obtain⟨rfl,rfl,rfl,rfl⟩:A=boot_heap w.params∧B=Array.mk []∧G=boot_drawn∧m=boot_toks:=by
  have:=D;simp only[Prod.mk.injEq] at this;exact this
 obtain⟨x,ex,b⟩:=Option.map_eq_some_iff.mp (congrFun (h3 w) os);obtain⟨f,I,c,J⟩:=x;have k:=(Prod.mk.inj b).1;have j:=(Prod.mk.inj (Prod.mk.inj b).2).1;have i:=(Prod.mk.inj (Prod.mk.inj b).2).2;dsimp only at k j i;subst k;cases j;obtain⟨s1,F,d⟩:=Option.map_eq_some_iff.mp i;have g:topRun treeTable p w 11 annB (n+2) (SB w os).abs (restOf (behindTheImports p++[]) (Xr3 p) (Zv5 p) pos0 [topFrame pos0])=some s1:=piece_app (segRun_of ex) (piece_nil F);rw[List.append_nil] at g;have r:=piece_block (congrFun (h2 w) os) g;have u:=go_top (congrFun (h1 w) os) r;have h:=topRun_mono (N - (12+(1+(n+2)))) _ _ _ _ u;rw[show 12+(1+(n+2))+(N - (12+(1+(n+2))))=N by have:=Nat.le_of_ble_eq_true hl;omega] at h;have z:=(Prod.mk.inj d).1;have y:=(Prod.mk.inj (Prod.mk.inj d).2).1;have v:=(Prod.mk.inj (Prod.mk.inj d).2).2
 have t:topFrom treeTable p w N (S0 w os)=some s1:=by
  unfold topFrom;rw[a.1,a.2.1,a.2.2];dsimp only;rw[h,Option.bind_some];have l:(staticsOk (importedModules p.main.body) (S0 w os).heap s1.heap&&namesBound p s1.heap&&gensDone s1&&laidKept (S0 w os).heap s1.heap)=true:=z;rw[l]
 unfold openEnds;rw[C,Option.bind_some];have o:=congrArg (Option.map fun s=>(openSeen q loose (importedModules p.main.body) (fun s=>xlAt q lv s&&recOk [] s) true s,Yf s)) t;exact o.trans (congrArg some (Prod.ext y v))
theorem pre_self:@pre=@pre:=rfl
theorem preTo_self:@preTo=@preTo:=rfl
theorem blk_self:@blk=@blk:=rfl
theorem blkTo_self:@blkTo=@blkTo:=rfl
theorem ev_self:@ev=@ev:=rfl
theorem evTo_self:@evTo=@evTo:=rfl
end Hd
name_quick hdPre for Hd.pre by Hd.pre_self
name_quick hdPreTo for Hd.preTo by Hd.preTo_self
name_quick hdBlk for Hd.blk by Hd.blk_self
name_quick hdBlkTo for Hd.blkTo by Hd.blkTo_self
name_quick hdEv for Hd.ev by Hd.ev_self
name_quick hdEvTo for Hd.evTo by Hd.evTo_self
namespace Hd
open PySem PySem.W PySem.Calls PyProof.Rows L2
noncomputable def pick (h:Heap) (as:List Addr):Frag:=as.filterMap fun a=>(h.get? a).map fun o=>(a,o)
theorem Xf0 (h:Heap):∀ as:List Addr,(pick h as).In h
 | []=>fun _ _ e=>by cases e
 | b :: as=>fun a o e=>by
  have ih:=Xf0 h as a o;have e':List.lookup a (pick h (b :: as))=some o:=e;unfold pick at e';rw[List.filterMap_cons] at e'
  cases z:h.get? b with
  | none=>rw[z] at e';exact ih e'
  | some u =>
   rw[z] at e';dsimp only[Option.map] at e';rw[List.lookup_cons] at e'
   split at e'
   ·rename_i hb
    have:=eq_of_beq hb;subst this;cases e';exact z
   ·exact ih e'
noncomputable def stAt (p:Program) (i:Nat):Stmt:=p.main.body.getD i (.Pass ⟨0,0,0,0⟩)
noncomputable def nm:Stmt→Str
 | .FunctionDef n _ _ _ _ _ _ _ _ _=>n
 | .ClassDef n _ _ _ _ _ _ _ _ _ _=>n
 | .Assign [.Name n _] _ _=>n
 | _=>Str.empty
noncomputable def Xk9:PySem.Expr→Str
 | .Constant (.str s) _ _=>s
 | .Name n _=>n
 | _=>Str.empty
noncomputable def Wb1:Stmt→List Str
 | .Assign _ (.Tuple es _ _) _=>es.map Xk9
 | _=>[]
noncomputable def Ys8:Stmt→List (Str×Str)
 | .Assign _ (.Dict ks vs _) _=>List.zip (ks.map fun k=>match k with | some e=>Xk9 e | none=>Str.empty) (vs.map Xk9)
 | _=>[]
structure Ask where
 fns:List Nat
 tups:List Nat
 kfs:List Nat
 kds:List Nat
 bl:List Str
noncomputable abbrev FnD:=Str×Str×Arguments×FuncBody×Scope×Addr×List (Str×Addr)×Value×Addr×Bool
noncomputable def fnD (K:Frag) (fd:FuncData):FnD:=(fd.name,fd.qualname,fd.params,fd.body,fd.scope,fd.globals,fd.closure,fd.defaults,fd.builtins,codeIn K fd.code fd.qualname)
noncomputable def Zj6 (K:Frag) (x:Str):Option (Addr×Obj):=match nsIn K mainGlobals x with
 | some (some (.ref f))=>(K.lookup f).map fun o=>(f,o)
 | _=>none
noncomputable def Zt0 (K:Frag) (x:Str):Option FnD:=match Zj6 K x with
 | some (_,⟨_,_,.func fd,_⟩)=>some (fnD K fd)
 | _=>none
noncomputable def Zv4 (st:Stmt):Option FnD:=some (nm st,nm st,Zd6 st,.stmts (Zc7 st),Za5 st,mainGlobals,[],.none,builtinsNs,true)
theorem Xe5 {K:Frag} {x:Str} {r:Addr×Obj} (e:Zj6 K x=some r):nsIn K mainGlobals x=some (some (.ref r.1))∧K.lookup r.1=some r.2:=by
 unfold Zj6 at e
 split at e
 ·rename_i f hf
  obtain⟨o,e1,e2⟩:=Option.map_eq_some_iff.mp e;subst e2;exact⟨hf,e1⟩
 ·cases e
theorem fn_of {K:Frag} {st:Stmt} (e:Zt0 K (nm st)=Zv4 st):∃ (f:Addr) (oc:Value) (od:Option Addr) (sl:Array (Option Value)) (kV dc pm:Value) (an:Option Addr) (cd ct:Value),
  nsIn K mainGlobals (nm st)=some (some (.ref f))∧K.lookup f=some ⟨oc,od,.func (fnOf (nm st) (nm st) (Zd6 st) (Zc7 st) (Za5 st) .none kV dc pm an cd ct),sl⟩∧codeIn K cd (nm st)=true∧keepIn K (.ref f)=true:=by
 unfold Zt0 at e
 split at e
 ·rename_i f oc od fd sl h
  obtain⟨h1,h2⟩:=Xe5 h;dsimp only at h1 h2;obtain⟨a1,a2,a3,a4,a5,a6,a7,a8,a9,a10,a11,a12,a13,a14,a15⟩:=fd;have e:=Option.some.inj e;simp only[fnD,Prod.mk.injEq] at e;obtain⟨rfl,rfl,rfl,rfl,rfl,rfl,rfl,rfl,rfl,hc⟩:=e;refine⟨f,oc,od,sl,_,_,_,_,_,_,h1,h2,hc,?_⟩;show (match K.lookup f with | some ⟨_,_,.func _,_⟩=>true | some ⟨_,_,.cls _,_⟩=>specialIn K (.ref f) "__call__" == some (some (.builtin "type.__call__")) | _=>false)=true;rw[h2]
 ·cases e
noncomputable def Zv8:Value→Option Str
 | .str s _=>some s
 | _=>none
theorem Yd9 {v:Value} {s:Str} (e:Zv8 v=some s):∃ t,v=.str s t:=by
 unfold Zv8 at e
 split at e
 ·cases e;exact⟨_,rfl⟩
 ·cases e
noncomputable def Xv4 (K:Frag) (x:Str):Option (Value×List (Option Str)):=match Zj6 K x with
 | some (_,⟨c,_,.seq vs _,_⟩)=>some (c,vs.toList.map Zv8)
 | _=>none
noncomputable def Xv3 (st:Stmt):Option (Value×List (Option Str)):=some (.type "tuple",(Wb1 st).map some)
noncomputable abbrev DiD:=Value×Option Addr×Array (Option Value)×Bool×Nat×List (Int×Option Str×Bool)
noncomputable def Wn0 (K:Frag) (e:DictEntry) (kf:Str×Str):Int×Option Str×Bool:=(e.hash,Zv8 e.key,nsIn K mainGlobals kf.2 == some (some e.val))
noncomputable def Wi8 (K:Frag) (x:Str) (kfs:List (Str×Str)):Option DiD:=match Zj6 K x with
 | some (a,⟨c,od,.dict es _,sl⟩)=>some (c,od,sl,a == sysModules,es.toList.length,List.zipWith (Wn0 K) es.toList kfs)
 | _=>none
noncomputable def Wi7 (P:Params) (kfs:List (Str×Str)):Option DiD:=some (.type "dict",none,#[],false,kfs.length,kfs.map fun kf=>(PyData.keyHash P kf.1,some kf.1,true))
noncomputable abbrev DsD:=Value×Option Addr×Array (Option Value)×Bool×List (Int×Option Str×Option Str)
noncomputable def Wj4 (K:Frag) (x:Str):Option DsD:=match Zj6 K x with
 | some (a,⟨c,od,.dict es _,sl⟩)=>some (c,od,sl,a == sysModules,es.toList.map fun e=>(e.hash,Zv8 e.key,Zv8 e.val))
 | _=>none
noncomputable def Wj3 (P:Params) (kvs:List (Str×Str)):Option DsD:=some (.type "dict",none,#[],false,kvs.map fun kv=>(PyData.keyHash P kv.1,some kv.1,some kv.2))
noncomputable abbrev Obs:=List (Option FnD)×List (Option (Value×List (Option Str)))×List (Option DiD)×List (Option DsD)×List (Option (Option Value))
noncomputable def obsK (p:Program) (A:Ask) (K:Frag):Obs :=
 (A.fns.map fun i=>Zt0 K (nm (stAt p i)),A.tups.map fun i=>Xv4 K (nm (stAt p i)),A.kfs.map fun i=>Wi8 K (nm (stAt p i)) (Ys8 (stAt p i)),A.kds.map fun i=>Wj4 K (nm (stAt p i)),A.bl.map fun x=>nsIn K mainGlobals x)
noncomputable def valK (p:Program) (A:Ask) (P:Params):Obs :=
 (A.fns.map fun i=>Zv4 (stAt p i),A.tups.map fun i=>Xv3 (stAt p i),A.kfs.map fun i=>Wi7 P (Ys8 (stAt p i)),A.kds.map fun i=>Wj3 P (Ys8 (stAt p i)),A.bl.map fun _=>some none)
noncomputable def Wo1 (p:Program) (A:Ask) (h:Heap):List Addr :=
 mainGlobals :: (A.fns++A.tups++A.kfs++A.kds).flatMap fun i=>match nsIn (pick h [mainGlobals]) mainGlobals (nm (stAt p i)) with
  | some (some (.ref a))=>a :: (match h.get? a with
   | some ⟨_,_,.func fd,_⟩=>(match fd.code with | .ref c=>[c] | _=>[])
   | _=>[])
  | _=>[]
theorem Xt5 {α β:Type} {f g:α→β} {l:List α} (e:l.map f=l.map g) {a:α} (h:a∈l):f a=g a:=List.map_inj_left.mp e a h
section
variable {p:Program} {A:Ask} {K:Frag} {P:Params} (e:obsK p A K=valK p A P)
theorem e_fn (e:obsK p A K=valK p A P) {i:Nat} (h:i∈A.fns):Zt0 K (nm (stAt p i))=Zv4 (stAt p i):=Xt5 (f:=fun i=>Zt0 K (nm (stAt p i))) (g:=fun i=>Zv4 (stAt p i)) (Prod.mk.inj e).1 h
theorem e_bl (e:obsK p A K=valK p A P) {x:Str} (h:x∈A.bl):nsIn K mainGlobals x=some none :=
 Xt5 (f:=fun x=>nsIn K mainGlobals x) (g:=fun _=>some none) (Prod.mk.inj (Prod.mk.inj (Prod.mk.inj (Prod.mk.inj e).2).2).2).2 h
end
open PySem.Spec
noncomputable def posOf:Stmt→Pos
 | .FunctionDef _ _ _ _ _ _ _ _ _ p=>p
 | _=>⟨0,0,0,0⟩
def FnF (K:Frag) (x:Str) (st:Stmt):Prop:=∃ (f:Addr) (oc:Value) (od:Option Addr) (sl:Array (Option Value)) (kV dc pm:Value) (an:Option Addr) (cd ct:Value),
 nsIn K mainGlobals x=some (some (.ref f))∧K.lookup f=some ⟨oc,od,.func (fnOf x x (Zd6 st) (Zc7 st) (Za5 st) .none kV dc pm an cd ct),sl⟩∧codeIn K cd x=true∧keepIn K (.ref f)=true
theorem fn_ofx {K:Frag} {x:Str} {st:Stmt} (hx:nm st=x) (e:Zt0 K (nm st)=Zv4 st):FnF K x st:=hx▸fn_of e
def FunF (K:Frag) (x:Str) (st:Stmt):Prop:=∃ (f:Addr) (fd:FuncData),nsIn K mainGlobals x=some (some (.ref f))∧Fun K x x st f fd
theorem Xz3 {K:Frag} {x:Str} {st:Stmt} (hx:nm st=x) (e:Zt0 K (nm st)=Zv4 st):FunF K x st:=by
 obtain⟨f,h,g,b,i,j,d,o,n,m,a,l,c,k⟩:=fn_ofx hx e;exact⟨f,_,a,Xj1 l c k⟩
noncomputable def adr (K:Frag) (x:Str):Addr:=match nsIn K mainGlobals x with
 | some (some (.ref a))=>a
 | _=>0
noncomputable def Xy5 (K:Frag) (x:Str):Bool:=match nsIn K mainGlobals x with
 | some (some (.ref _))=>true
 | _=>false
theorem Wl4 {K:Frag} {x:Str} (h:Xy5 K x=true):nsIn K mainGlobals x=some (some (.ref (adr K x))):=by
 unfold Xy5 at h;unfold adr
 split at h
 ·rename_i a e
  rw[e]
 ·cases h
noncomputable def Zr2 (o:Obj) (C:Addr):Option (List Value×Addr):=match o with
 | ⟨c,_,.cls cd,sl⟩=>(match cd.mro,sl.toList with
  | .ref c1 :: bm,[_,_,_,_,some (.builtin n),_]=>if c=.type "type"∧c1=C∧cd.hasDel=false∧n="ValueError.__new__" then some (bm,cd.ns) else none
  | _,_=>none)
 | _=>none
theorem Xt7 {o:Obj} {C N:Addr} {bm:List Value} (h:Zr2 o C=some (bm,N)):∃ (nm q:Str) (bs:List Value) (hdct:Bool) (sn:List Str) (sub:List Value) (ab:Bool) (col:Option Bool) (dd:Option Addr) (k0 k1 k2 k3 k5:Option Value),
  o=excClassObj nm q C N bs bm hdct sn sub ab col dd k0 k1 k2 k3 k5 "ValueError.__new__":=by
 unfold Zr2 at h
 split at h
 ·rename_i c dd cd sl
  split at h
  ·rename_i c1 bm' k0 k1 k2 k3 n k5 hm hs
   split at h
   ·rename_i hc
    obtain⟨h1,h2,h3,h4⟩:=hc;have h:=Option.some.inj h;obtain⟨e1,e2⟩:=Prod.mk.inj h;obtain⟨nm,bs,mro,ns,q,hd,sn,sub,ab,col,del⟩:=cd;dsimp only at hm h3 e2;subst hm h1 h2 h3 h4 e1 e2;refine⟨nm,q,bs,hd,sn,sub,ab,col,dd,k0,k1,k2,k3,k5,?_⟩;have:sl=#[k0,k1,k2,k3,some (.builtin "ValueError.__new__"),k5]:=Array.toList_inj.mp hs;rw[this]
   ·cases h
  ·cases h
 ·cases h
noncomputable def Yz2 (K:Frag) (N:Addr):Bool:=match K.lookup N with
 | some ⟨_,_,.dict es _,_⟩=>es.toList.all fun e=>match e.key with | .str _ _=>true | _=>false
 | _=>false
theorem Yw7 {K:Frag} {N:Addr} (h:Yz2 K N=true):nsOkIn K N=true:=by
 unfold Yz2 at h
 split at h
 ·rename_i l
  exact Xx4 l h
 ·cases h
noncomputable def Xz6 (K:Frag) (C B:Addr):Bool:=match (K.lookup C).bind (Zr2 · C),(K.lookup B).bind (Zr2 · B) with
 | some (bm,N),some (_,M)=>bm == .ref B :: bmV&&Yz2 K N&&Yz2 K M&&nsIn K N "__init__" == some none&&nsIn K M "__init__" == some none
 | _,_=>false
theorem Xu4 {K:Frag} {C B:Addr} (h:Xz6 K C B=true):XCls K C:=by
 unfold Xz6 at h
 split at h
 ·rename_i bm N bm2 M hC hB
  obtain⟨o,l,f⟩:=Option.bind_eq_some_iff.mp hC;obtain⟨o2,l2,f2⟩:=Option.bind_eq_some_iff.mp hB;simp only[Bool.and_eq_true] at h;obtain⟨⟨⟨⟨h1,h2⟩,h3⟩,h4⟩,h5⟩:=h;have h1:=eq_of_beq h1;have h4:=eq_of_beq h4;have h5:=eq_of_beq h5;subst h1;obtain⟨nm,q,bs,hd,sn,sub,ab,col,dd,k0,k1,k2,k3,k5,rfl⟩:=Xt7 f;obtain⟨nm',q',bs',hd',sn',sub',ab',col',dd',k0',k1',k2',k3',k5',rfl⟩:=Xt7 f2;exact Xu5 l (Xo2 l2 (Yw7 h3) h5) (Yw7 h2) h4
 ·cases h
noncomputable def Xq4 (K:Frag) (C:Addr):Bool:=findIn K (.ref C) "__getattribute__" == some (some (.builtin "BaseException.__getattribute__"))&&findIn K (.ref C) "__getattr__" == some none&&mroIn K C (.type "BaseException") == some true&&hasDictIn K C &&
 findIn K (.ref C) "__class__" == some (some (.builtin "object.__class__"))&&mroIn K C (.type "object") == some true
theorem Xu2 {K:Frag} {C:Addr} (h:Xq4 K C=true):XIsi K C:=by
 unfold Xq4 at h;simp only[Bool.and_eq_true] at h;obtain⟨⟨⟨⟨⟨f,e⟩,d⟩,c⟩,b⟩,a⟩:=h;exact⟨⟨eq_of_beq f,eq_of_beq e,eq_of_beq d⟩,Xr7 c,eq_of_beq b,eq_of_beq a⟩
structure ClsAsk where
 cls:List Nat
 exc:List (Nat×Nat)
 kit:List (Nat×List Nat)
noncomputable def at_ (p:Program) (K:Frag) (i:Nat):Addr:=adr K (nm (stAt p i))
noncomputable def chk (p:Program) (B:ClsAsk) (K:Frag):Bool :=
 (B.cls.all fun i=>Xy5 K (nm (stAt p i)))&&(B.exc.all fun ij=>Xz6 K (at_ p K ij.1) (at_ p K ij.2)&&Xq4 K (at_ p K ij.1)&&kitOne K (.ref (at_ p K ij.1)) (.ref (at_ p K ij.2)) == some true&&kitOne K (.ref (at_ p K ij.1)) (.type "ValueError") == some true) &&
 B.kit.all fun ij=>kitAny K (.ref (at_ p K ij.1)) (ij.2.map fun j=>.ref (at_ p K j)) == some false
section
variable {p:Program} {B:ClsAsk} {K:Frag}
theorem Wn9 (h:chk p B K=true) {i:Nat} (hi:i∈B.cls):nsIn K mainGlobals (nm (stAt p i))=some (some (.ref (at_ p K i))):=by
 unfold chk at h;simp only[Bool.and_eq_true] at h;exact Wl4 (List.all_eq_true.mp h.1.1 i hi)
theorem c_refx {x:Str} (h:chk p B K=true) {i:Nat} (hx:nm (stAt p i)=x) (hi:i∈B.cls):nsIn K mainGlobals x=some (some (.ref (at_ p K i))):=hx▸Wn9 h hi
theorem c_exc (h:chk p B K=true) {ij:Nat×Nat} (hi:ij∈B.exc):XCls K (at_ p K ij.1)∧XIsi K (at_ p K ij.1)∧kitOne K (.ref (at_ p K ij.1)) (.ref (at_ p K ij.2))=some true∧kitOne K (.ref (at_ p K ij.1)) (.type "ValueError")=some true:=by
 unfold chk at h;simp only[Bool.and_eq_true] at h;have:=List.all_eq_true.mp h.1.2 ij hi;simp only[Bool.and_eq_true] at this;obtain⟨⟨⟨d,c⟩,b⟩,a⟩:=this;exact⟨Xu4 d,Xu2 c,eq_of_beq b,eq_of_beq a⟩
theorem c_kit (h:chk p B K=true) {ij:Nat×List Nat} (hi:ij∈B.kit):kitAny K (.ref (at_ p K ij.1)) (ij.2.map fun j=>.ref (at_ p K j))=some false:=by
 unfold chk at h;simp only[Bool.and_eq_true] at h;exact eq_of_beq (List.all_eq_true.mp h.2 ij hi)
end
noncomputable def Wl9 (p:Program) (A:Ask) (B:ClsAsk) (h:Heap):List Addr :=
 Wo1 p A h++B.cls.flatMap fun i=>match nsIn (pick h [mainGlobals]) mainGlobals (nm (stAt p i)) with
  | some (some (.ref a))=>a :: (match h.get? a with
   | some ⟨_,_,.cls cd,_⟩=>[cd.ns]
   | _=>[])
  | _=>[]
noncomputable def nsOf (K:Frag) (C:Addr):Option Addr:=((K.lookup C).bind (Zr2 · C)).map (·.2)
noncomputable def Wn2 (K:Frag) (C:Addr):Option (Addr×Obj):=(nsOf K C).bind fun N=>match nsIn K N "__init__" with
 | some (some (.ref f))=>(K.lookup f).map fun o=>(f,o)
 | _=>none
noncomputable def Xz1 (K:Frag) (C:Addr):Option (Value×FnD):=match Wn2 K C with
 | some (_,⟨c,_,.func fd,_⟩)=>some (c,fnD K fd)
 | _=>none
noncomputable def Xz0 (q:Str) (st:Stmt):Option (Value×FnD):=some (.type "function","__init__",q,Zd6 st,.stmts (Zc7 st),Za5 st,mainGlobals,[],.none,builtinsNs,true)
noncomputable def Wk2 (K:Frag) (C B:Addr):Bool:=match (K.lookup C).bind (Zr2 · C),(K.lookup B).bind (Zr2 · B) with
 | some (bm,N),some (_,M)=>bm == .ref B :: bmV&&Yz2 K N&&Yz2 K M&&nsIn K M "__init__" == some none
 | _,_=>false
noncomputable def Wm3 (K:Frag) (C:Addr) (x:Str):Bool:=findIn K (.ref C) "__setattr__" == some (some (.builtin "object.__setattr__"))&&findIn K (.ref C) x == some none&&hasDictIn K C&&mroIn K C (.type "object") == some true
noncomputable def fiOk:Option CFound→Bool
 | some (.val (.builtin n))=>n == "ValueError.__init__"
 | _=>false
noncomputable def Wn1 (K:Frag) (B:Addr):Bool:=specialIn K (.ref B) "__getattribute__" == some (some (.builtin "type.__getattribute__"))&&readsIn K B (.type "type")&&fiOk (findCls K (.ref B) (.type "type") "__init__")
structure IniRow where
 cls:Nat
 bas:Nat
 met:Nat
 qual:Str
 fld:Str
noncomputable def Wj9 (K:Frag) (C B:Addr) (fld:Str):Bool:=Wk2 K C B&&Xq4 K C&&Wm3 K C fld&&Wn1 K B&&kitOne K (.ref C) (.ref B) == some true&&kitOne K (.ref C) (.type "ValueError") == some true
noncomputable def Xy6 (K:Frag) (x:Str) (i:Int):Bool:=match nsIn K mainGlobals x with
 | some (some (.int j _))=>decide (j=i)
 | _=>false
theorem Wj8 {K:Frag} {x:Str} {i:Int} (h:Xy6 K x i=true):∃ t,nsIn K mainGlobals x=some (some (.int i t)):=by
 unfold Xy6 at h
 split at h
 ·rename_i j t e
  have:=of_decide_eq_true h;subst this;exact⟨t,e⟩
 ·cases h
structure MoreAsk where
 ini:List IniRow
 nums:List (Str×Int)
noncomputable def chkM (p:Program) (M:MoreAsk) (K:Frag):Bool:=(M.ini.all fun r=>Wj9 K (at_ p K r.cls) (at_ p K r.bas) r.fld)&&M.nums.all fun xi=>Xy6 K xi.1 xi.2
noncomputable def iniK (p:Program) (M:MoreAsk) (K:Frag):List (Option (Value×FnD)):=M.ini.map fun r=>Xz1 K (at_ p K r.cls)
noncomputable def iniV (p:Program) (M:MoreAsk):List (Option (Value×FnD)):=M.ini.map fun r=>Xz0 r.qual (Xz2 (stAt p r.cls) r.met)
theorem m_int {p:Program} {M:MoreAsk} {K:Frag} (h:chkM p M K=true) {x:Str} {i:Int} (hi:(x,i)∈M.nums):∃ t,nsIn K mainGlobals x=some (some (.int i t)):=by
 unfold chkM at h;rw[Bool.and_eq_true] at h;exact Wj8 (List.all_eq_true.mp h.2 _ hi)
noncomputable def Wl8 (p:Program) (A:Ask) (B:ClsAsk) (M:MoreAsk) (h:Heap):List Addr :=
 cStatics :: Wl9 p A B h++M.ini.flatMap fun r=>match nsIn (pick h [mainGlobals]) mainGlobals (nm (stAt p r.cls)) with
  | some (some (.ref a))=>(match h.get? a with
   | some ⟨_,_,.cls cd,_⟩=>(match nsIn (pick h [cd.ns]) cd.ns "__init__" with
    | some (some (.ref f))=>f :: (match h.get? f with
     | some ⟨_,_,.func fd,_⟩=>(match fd.code with | .ref c=>[c] | _=>[])
     | _=>[])
    | _=>[])
   | _=>[])
  | _=>[]
noncomputable abbrev Obs3:=Obs×Bool×List (Option (Value×FnD))×Bool
noncomputable def Wm9 (p:Program) (A:Ask) (B:ClsAsk) (M:MoreAsk) (K:Frag):Obs3:=(obsK p A K,chk p B K,iniK p M K,chkM p M K)
noncomputable def val3 (p:Program) (A:Ask) (M:MoreAsk) (w:World):Obs3:=(valK p A w.params,true,iniV p M,true)
end Hd
namespace L2
open PySem PySem.Spec PyProof.Rows
structure Df (K:W.Frag) (mg:Str→Option Value) (x:Str) (st:Stmt) (ps:List Str):Prop where
 ex:∃ (f:Addr) (fd:FuncData),mg x=some (.ref f)∧Fun K x x st f fd∧W.keepIn K (.ref f)=true∧Binds K fd ps []
end L2
namespace Hd
open PySem PySem.W PySem.Calls PySem.Spec PyProof.Rows L2
section
variable {p:Program} {A:Ask} {K:Frag} {P:Params} {h:Heap} {mg:Str→Option Value} {x a b c d e f g:Str}
theorem df {ps:List Str} (X:K.In h) (G:h.Ns mainGlobals mg) (E:obsK p A K=valK p A P) (i:Nat) (hx:nm (stAt p i)=x) (hi:i∈A.fns)
  (hb:∀ kV dc pm an cd ct (us:List Value),us.length=ps.length→bindArgs (fnOf x x (Zd6 (stAt p i)) (Zc7 (stAt p i)) (Za5 (stAt p i)) .none kV dc pm an cd ct) ⟨us,[]⟩=pure (ps.zip us)):Df K mg x (stAt p i) ps:=by
 obtain⟨f,b,a,F⟩:=Xz3 hx (e_fn E hi);exact⟨⟨f,b,mg_of X G a,F,F.kp,F.binds hb⟩⟩
theorem df1 (X:K.In h) (G:h.Ns mainGlobals mg) (E:obsK p A K=valK p A P) (i:Nat) (hx:nm (stAt p i)=x:=by kernel_rfl) (hi:i∈A.fns:=by decide)
  (hb:∀ kV dc pm an cd ct u1,bindArgs (fnOf x x (Zd6 (stAt p i)) (Zc7 (stAt p i)) (Za5 (stAt p i)) .none kV dc pm an cd ct) ⟨[u1],[]⟩=pure [(a,u1)]:=by intros;rfl):Df K mg x (stAt p i) [a] :=
 df X G E i hx hi fun kV dc pm an cd ct b c=>match b,c with | [u],_=>hb kV dc pm an cd ct u
theorem df2 (X:K.In h) (G:h.Ns mainGlobals mg) (E:obsK p A K=valK p A P) (i:Nat) (hx:nm (stAt p i)=x:=by kernel_rfl) (hi:i∈A.fns:=by decide)
  (hb:∀ kV dc pm an cd ct u1 u2,bindArgs (fnOf x x (Zd6 (stAt p i)) (Zc7 (stAt p i)) (Za5 (stAt p i)) .none kV dc pm an cd ct) ⟨[u1,u2],[]⟩=pure [(a,u1),(b,u2)]:=by intros;rfl):Df K mg x (stAt p i) [a,b] :=
 df X G E i hx hi fun kV dc pm an cd ct c d=>match c,d with | [u,v],_=>hb kV dc pm an cd ct u v
theorem df3 (X:K.In h) (G:h.Ns mainGlobals mg) (E:obsK p A K=valK p A P) (i:Nat) (hx:nm (stAt p i)=x:=by kernel_rfl) (hi:i∈A.fns:=by decide)
  (hb:∀ kV dc pm an cd ct u1 u2 u3,bindArgs (fnOf x x (Zd6 (stAt p i)) (Zc7 (stAt p i)) (Za5 (stAt p i)) .none kV dc pm an cd ct) ⟨[u1,u2,u3],[]⟩=pure [(a,u1),(b,u2),(c,u3)]:=by intros;rfl):Df K mg x (stAt p i) [a,b,c] :=
 df X G E i hx hi fun kV dc pm an cd ct d e=>match d,e with | [u,v,w],_=>hb kV dc pm an cd ct u v w
theorem df4 (X:K.In h) (G:h.Ns mainGlobals mg) (E:obsK p A K=valK p A P) (i:Nat) (hx:nm (stAt p i)=x:=by kernel_rfl) (hi:i∈A.fns:=by decide)
  (hb:∀ kV dc pm an cd ct u1 u2 u3 u4,bindArgs (fnOf x x (Zd6 (stAt p i)) (Zc7 (stAt p i)) (Za5 (stAt p i)) .none kV dc pm an cd ct) ⟨[u1,u2,u3,u4],[]⟩=pure [(a,u1),(b,u2),(c,u3),(d,u4)]:=by intros;rfl):Df K mg x (stAt p i) [a,b,c,d] :=
 df X G E i hx hi fun kV dc pm an cd ct e f=>match e,f with | [u,v,w,y],_=>hb kV dc pm an cd ct u v w y
end
noncomputable def Xl2 (K:Frag):Value→Option (Addr×Obj)
 | .ref c=>(K.lookup c).map fun o=>(c,o)
 | _=>none
noncomputable def Yx8 (K:Frag) (x:Str):Option (Addr×Obj):=match Zj6 K x with
 | some (_,⟨_,_,.func fd,_⟩)=>Xl2 K fd.code
 | _=>none
noncomputable def tabV:Option Value→Addr
 | some (.ref T)=>T
 | _=>0
noncomputable def Wm2:Option (Addr×Obj)→Addr
 | some (_,⟨_,_,.fields vs,_⟩)=>tabV vs[11]?
 | _=>0
noncomputable def tabAt (K:Frag) (x:Str):Addr:=Wm2 (Yx8 K x)
noncomputable def Yx6 (c:Addr) (vs:Array Value):Bool:=match (vs[11]?:Option Value),vs.getD 11 .none,vs.getD 18 .none,vs.getD 7 .none,vs.getD 9 .none,vs.getD 10 .none with
 | some (.ref T),.ref T',.str _ _,.int _ _,.bool _,.int _ _=>T == T'&&c != T&&mainGlobals != T
 | _,_,_,_,_,_=>false
noncomputable def Ym5 (K:Frag) (x:Str):Bool:=(match Yx8 K x with
 | some (c,⟨cl,_,.fields vs,_⟩)=>cl == .type "code"&&Yx6 c vs
 | _=>false)&&(K.lookup (tabAt K x)).isNone
theorem Yz0 {K:Frag} {x:Str} {f:Addr} {o:Obj} (a:nsIn K mainGlobals x=some (some (.ref f))) (l:K.lookup f=some o):Zj6 K x=some (f,o):=by
 unfold Zj6;rw[a];dsimp only;rw[l];rfl
def FunTF (K:Frag) (x:Str) (st:Stmt) (T:Addr):Prop:=∃ (f:Addr) (fd:FuncData),nsIn K mainGlobals x=some (some (.ref f))∧FunT K x x st f fd T∧Fun K x x st f fd∧mainGlobals≠T∧K.lookup T=none∧∀ h,K.In h→isCodeTable h T
theorem Xj2 {K:Frag} {st:Stmt} (e:Zt0 K (nm st)=Zv4 st) (h:Ym5 K (nm st)=true):FunTF K (nm st) st (tabAt K (nm st)):=by
 obtain⟨f,oc,od,sl,kV,dc,pm,an,cd,ct,a,l,c,k⟩:=fn_of e;have r:=Yz0 a l
 have q:Yx8 K (nm st)=Xl2 K cd:=by
  unfold Yx8;rw[r]
 unfold Ym5 at h;rw[Bool.and_eq_true] at h;obtain⟨h,hn⟩:=h;have hn:=Option.isNone_iff_eq_none.mp hn
 split at h
 ·rename_i cc cl od2 vs sl2 hc
  have ht:tabAt K (nm st)=tabV vs[11]?:=by
   unfold tabAt;rw[hc];rfl
  rw[Bool.and_eq_true] at h;obtain⟨hcl,hf⟩:=h;have hcl:=eq_of_beq hcl;subst hcl;unfold Yx6 at hf
  split at hf
  ·rename_i T T' s1 s2 i1 i2 b1 j1 j2 g1 g2 g3 g4 g5 g6
   simp only[Bool.and_eq_true] at hf;obtain⟨⟨f1,f2⟩,f3⟩:=hf;have f1:=eq_of_beq f1
   have f2:cc≠T:=fun z=>by rw[z] at f2;simp at f2
   have f3:mainGlobals≠T:=fun z=>by rw[← z] at f3;simp at f3
   subst f1
   have ht:tabAt K (nm st)=T:=by rw[ht,g1];rfl
   rw[ht] at hn ⊢
   cases cd with
   | ref c0 =>
    rw[hc] at q;obtain⟨o,e1,e2⟩:=Option.map_eq_some_iff.mp (show (K.lookup c0).map (fun o=>(c0,o))=_ from q.symm);cases e2;have hC:∀ h,K.In h→CodeHd h cc T:=fun h kx=>Xl4 e1 ⟨g1,g2,⟨_,_,g3⟩,⟨_,_,g4⟩,⟨_,g5⟩,⟨_,_,g6⟩⟩ f2 h kx;exact⟨f,_,a,Xz4 l c k hC,Xj1 l c k,f3,hn,fun h kx=>⟨cc,_,vs,kx _ _ e1,rfl,rfl,g1⟩⟩
   | _=>exact absurd (hc.symm.trans q) (by intro z;cases z)
  ·cases hf
 ·cases h
theorem funT_ofx {K:Frag} {x:Str} {st:Stmt} (hx:nm st=x) (e:Zt0 K (nm st)=Zv4 st) (h:Ym5 K (nm st)=true):FunTF K x st (tabAt K x):=hx▸Xj2 e h
noncomputable def Yh1 (o:Option Obj):Bool:=match o with
 | some ⟨.none,none,.fields vs,sl⟩=>vs.size == 0&&sl.size == 0
 | _=>false
theorem Ys6 {o:Option Obj} (h:Yh1 o=true):o=some (tabObj #[]):=by
 unfold Yh1 at h
 split at h
 ·rename_i vs sl
  rw[Bool.and_eq_true] at h;have h1:vs=#[]:=Array.size_eq_zero_iff.mp (by simpa using h.1);have h2:sl=#[]:=Array.size_eq_zero_iff.mp (by simpa using h.2);rw[h1,h2]
 ·cases h
noncomputable def Wl1 (K:Frag):Bool:=match nsIn K mainGlobals (Str.ofString "__builtins__") with
 | some (some (.ref b))=>(K.lookup b).isSome
 | _=>false
noncomputable def tabs (p:Program) (TA:List Nat) (K:Frag):List Addr:=TA.map fun i=>tabAt K (nm (stAt p i))
noncomputable def codesOk (p:Program) (TA:List Nat) (K:Frag):Bool:=(TA.all fun i=>Ym5 K (nm (stAt p i)))&&Wl1 K
noncomputable def Wb6 (p:Program) (TA:List Nat) (h:Heap) (K:Frag):Bool:=(tabs p TA K).all fun T=>Yh1 (h.get? T)
noncomputable def Wl7 (p:Program) (A:Ask) (B:ClsAsk) (M:MoreAsk) (h:Heap):List Addr :=
 Wl8 p A B M h++(match nsIn (pick h [mainGlobals]) mainGlobals (Str.ofString "__builtins__") with
  | some (some (.ref b))=>[b]
  | _=>[])
theorem t_code {p:Program} {TA:List Nat} {K:Frag} (h:codesOk p TA K=true) {i:Nat} (hi:i∈TA):Ym5 K (nm (stAt p i))=true:=by
 unfold codesOk at h;rw[Bool.and_eq_true] at h;exact List.all_eq_true.mp h.1 i hi
noncomputable def Xy7:Value→Option Int
 | .int i _=>some i
 | _=>none
noncomputable def Wd3:Value→Option Addr
 | .ref a=>some a
 | _=>none
noncomputable def Zw6 (K:Frag) (v:Value):Option (Value×Nat×List (Option Int)):=match v with
 | .ref a=>(match K.lookup a with
  | some ⟨c,_,.seq vs _,_⟩=>some (c,vs.toList.length,vs.toList.map Xy7)
  | _=>none)
 | _=>none
noncomputable def Yf1 (K:Frag) (v:Value):Option (Value×Nat×List (Option (Value×Nat×List (Option Int)))):=match v with
 | .ref a=>(match K.lookup a with
  | some ⟨c,_,.seq vs _,_⟩=>some (c,vs.toList.length,vs.toList.map (Zw6 K))
  | _=>none)
 | _=>none
noncomputable abbrev InD:=Value×Option Addr×Array (Option Value)×Bool×List (Int×Option Str×Option (Value×Nat×List (Option (Value×Nat×List (Option Int)))))
noncomputable def inSeen (K:Frag) (x:Str):Option InD:=match Zj6 K x with
 | some (a,⟨c,od,.dict es _,sl⟩)=>some (c,od,sl,a == sysModules,es.toList.map fun e=>(e.hash,Zv8 e.key,Yf1 K e.val))
 | _=>none
noncomputable def Yf6 (p:Nat×Nat):Option (Value×Nat×List (Option Int)):=some (.type "tuple",2,[some (p.1:Int),some (p.2:Int)])
noncomputable def Yp4 (r:List (Nat×Nat)):Option (Value×Nat×List (Option (Value×Nat×List (Option Int)))):=some (.type "tuple",r.length,r.map Yf6)
noncomputable def inWant (P:Params) (kvs:List (Str×List (Nat×Nat))):Option InD:=some (.type "dict",none,#[],false,kvs.map fun kv=>(PyData.keyHash P kv.1,some kv.1,Yp4 kv.2))
noncomputable def innK:List (Str×List (Nat×Nat)):=[("at",[]),("pair",[(1,0),(2,0)]),("left",[(1,0)]),("right",[(1,0)]),("first",[(1,0)]),("second",[(1,0)]),("cases",[(1,0),(2,1),(3,1)]),("fun",[(2,1)]),("use",[(1,0),(2,0)]),("off",[(1,0)])]
theorem Xx0 {K:Frag} {v:Value} {p:Nat×Nat} (e:Zw6 K v=Yf6 p):∃ b,v=.ref b∧∀ H,SqT K H b [.int (p.1:Nat),.int (p.2:Nat)]:=by
 unfold Zw6 at e
 split at e
 ·rename_i a
  split at e
  ·rename_i c od vs n sl h
   have e:=Option.some.inj e;simp only[Prod.mk.injEq] at e;obtain⟨rfl,e2,e3⟩:=e;refine⟨a,rfl,fun H=>.inr ⟨_,vs,n,h,rfl,rfl,?_,?_⟩⟩
   ·rw[Array.length_toList] at e2
    rw[e2];decide
   ·match hv:vs.toList,e2,e3 with
    | [x,y],_,e3 =>
     have f1:=(List.cons.inj e3).1;have f2:=(List.cons.inj (List.cons.inj e3).2).1;refine .cons ?_ (.cons ?_ .nil)
     ·unfold Xy7 at f1;split at f1
      ·cases f1;exact⟨_,rfl⟩
      ·cases f1
     ·unfold Xy7 at f2;split at f2
      ·cases f2;exact⟨_,rfl⟩
      ·cases f2
  ·cases e
 ·cases e
theorem Yw0 {K:Frag}:∀ {r:List (Nat×Nat)} {vs:List Value},vs.map (Zw6 K)=r.map Yf6→∃ xs:List V,Vals xs vs∧∀ H,DnAll K H xs (r.map fun p=>.tuple [.int (p.1:Nat),.int (p.2:Nat)])
 | [],[],_=>⟨[],.nil,fun H=>Ken.dnAll_nil⟩
 | [],_ :: _,e=>by cases e
 | _ :: _,[],e=>by cases e
 | p :: r,v :: vs,e=>by
  obtain⟨b,rfl,hb⟩:=Xx0 (List.cons.inj e).1;obtain⟨xs,h1,h2⟩:=Yw0 (List.cons.inj e).2;exact⟨.ref b :: xs,.cons rfl h1,fun H=>Ken.dnAll_cons (Ken.dn_tup.mpr ⟨b,_,rfl,hb H,Ken.dnAll_cons (Ken.dn_int.mpr rfl) (Ken.dnAll_cons (Ken.dn_int.mpr rfl) Ken.dnAll_nil)⟩) (h2 H)⟩
theorem Wd1 {K:Frag} {v:Value} {r:List (Nat×Nat)} (hr:r.length≤sizeLine) (e:Yf1 K v=Yp4 r):∃ b,v=.ref b∧Ken.innRow K b r:=by
 unfold Yf1 at e
 split at e
 ·rename_i a
  split at e
  ·rename_i c od vs n sl h
   have e:=Option.some.inj e;simp only[Prod.mk.injEq] at e;obtain⟨rfl,e2,e3⟩:=e;obtain⟨xs,h1,h2⟩:=Yw0 e3;refine⟨a,rfl,fun H=>Ken.dn_tup.mpr ⟨a,xs,rfl,.inr ⟨_,vs,n,h,rfl,rfl,?_,h1⟩,h2 H⟩⟩;rw[Array.length_toList] at e2;rw[e2];exact hr
  ·cases e
 ·cases e
theorem Xi4 {K:Frag} {w:World}:∀ {kvs:List (Str×List (Nat×Nat))} {es:List DictEntry},(∀ kv∈kvs,kv.2.length≤sizeLine)→es.map (fun e=>(e.hash,Zv8 e.key,Yf1 K e.val))=kvs.map (fun kv=>(PyData.keyHash w.params kv.1,some kv.1,Yp4 kv.2)) →
  ∃ bs:List Addr,bs.length=kvs.length∧Paired (fun (p:Str×V) (e:DictEntry)=>(∃ tk,e.key=.str p.1 tk)∧e.hash=PyData.keyHash w.params p.1∧RelV p.2 e.val) (List.zipWith (fun kv b=>(kv.1,V.ref b)) kvs bs) es∧∀ (i:Nat) (kv:Str×List (Nat×Nat)) (b:Addr),kvs[i]?=some kv→bs[i]?=some b→Ken.innRow K b kv.2
 | [],[],_,_=>⟨[],rfl,.nil,fun i kv b h=>by cases i<;>cases h⟩
 | [],_ :: _,_,h=>by cases h
 | _ :: _,[],_,h=>by cases h
 | kv :: kvs,e :: es,hs,h=>by
  have q1:=(List.cons.inj h).1;simp only[Prod.mk.injEq] at q1;obtain⟨q3,q4,q5⟩:=q1;obtain⟨b,e1,hb⟩:=Wd1 (hs _ (.head _)) q5;obtain⟨bs,h1,h2,h3⟩:=Xi4 (fun kv m=>hs kv (.tail _ m)) (List.cons.inj h).2;refine⟨b :: bs,congrArg Nat.succ h1,.cons ⟨Yd9 q4,q3,e1⟩ h2,fun i kv' b' z1 z2=>?_⟩
  cases i with
  | zero=>cases z1;cases z2;exact hb
  | succ i=>exact h3 i kv' b' z1 z2
theorem in_of {K:Frag} {w:World} {x:Str} (e:inSeen K x=inWant w.params innK):∃ (a:Addr) (aT:Nat→Addr),nsIn K mainGlobals x=some (some (.ref a))∧KDict K w a (Ken.innV aT)∧Ken.Inn K aT:=by
 unfold inSeen at e
 split at e
 ·rename_i a c od es n sl h
  obtain⟨h1,h2⟩:=Xe5 h;have e:=Option.some.inj e;simp only[Prod.mk.injEq] at e;obtain⟨rfl,rfl,rfl,e4,e6⟩:=e;obtain⟨bs,l1,l2,l3⟩:=Xi4 (by decide) e6;refine⟨a,fun i=>bs.getD i 0,h1,⟨⟨_,es,n,h2,⟨rfl,rfl,rfl⟩,rfl,?_⟩,?_,e4⟩,⟨fun i r hr=>?_⟩⟩
  ·match bs,l1,l2 with
   | [b0,b1,b2,b3,b4,b5,b6,b7,b8,b9],_,l2=>exact l2
  ·show (["at","pair","left","right","first","second","cases","fun","use","off"]:List Str).Nodup
   decide
  ·have hi:i < 10:=(List.getElem?_eq_some_iff.mp hr).1
   have hb:i < bs.length:=by rw[l1];exact hi
   have ek:∃ kv,innK[i]?=some kv∧kv.2=r:=by
    have:(innK.map (·.2))[i]?=some r:=hr;rw[List.getElem?_map] at this;obtain⟨kv,z1,z2⟩:=Option.map_eq_some_iff.mp this;exact⟨kv,z1,z2⟩
   obtain⟨kv,z1,rfl⟩:=ek;show Ken.innRow K (bs.getD i 0) kv.2;refine l3 i kv _ z1 ?_;simp[List.getD,hb]
 ·cases e
noncomputable def Wl6 (h:Heap):List Addr:=match nsIn (pick h [mainGlobals]) mainGlobals "INNER" with
 | some (some (.ref a))=>a :: (match h.get? a with
  | some ⟨_,_,.dict es _,_⟩=>es.toList.flatMap fun e=>(match e.val with
   | .ref b=>b :: (match h.get? b with
    | some ⟨_,_,.seq vs _,_⟩=>vs.toList.filterMap Wd3
    | _=>[])
   | _=>[])
  | _=>[])
 | _=>[]
noncomputable def Yu0 (K:Frag) (v:Value):Option (Value×Nat×List (Option Str)):=match v with
 | .ref a=>(match K.lookup a with
  | some ⟨c,_,.seq vs _,_⟩=>some (c,vs.toList.length,vs.toList.map Zv8)
  | _=>none)
 | _=>none
noncomputable abbrev TrD:=Value×Option Addr×Array (Option Value)×Bool×List (Int×Option Str×Option (Value×Nat×List (Option Str)))
noncomputable def trSeen (K:Frag) (x:Str):Option TrD:=match Zj6 K x with
 | some (a,⟨c,od,.dict es _,sl⟩)=>some (c,od,sl,a == sysModules,es.toList.map fun e=>(e.hash,Zv8 e.key,Yu0 K e.val))
 | _=>none
noncomputable def Xc7 (r:List Str):Option (Value×Nat×List (Option Str)):=some (.type "tuple",r.length,r.map some)
noncomputable def trWant (P:Params) (kvs:List (Str×List Str)):Option TrD:=some (.type "dict",none,#[],false,kvs.map fun kv=>(PyData.keyHash P kv.1,some kv.1,Xc7 kv.2))
noncomputable def trK:List (Str×List Str):=[("left",["pair"]),("right",["pair"]),("use",["fun"]),("cases",["first","second"])]
theorem Xd8:∀ {r:List Str} {vs:List Value},vs.map Zv8=r.map some→Vals (r.map V.str) vs
 | [],[],_=>.nil
 | [],_ :: _,e=>by cases e
 | _ :: _,[],e=>by cases e
 | p :: r,v :: vs,e=>.cons (Yd9 (List.cons.inj e).1) (Xd8 (List.cons.inj e).2)
theorem Wm0 {K:Frag} {v:Value} {r:List Str} (hr:r.length≤sizeLine) (e:Yu0 K v=Xc7 r):∃ b,v=.ref b∧∀ H,SqT K H b (r.map V.str):=by
 unfold Yu0 at e
 split at e
 ·rename_i a
  split at e
  ·rename_i c od vs n sl h
   have e:=Option.some.inj e;simp only[Prod.mk.injEq] at e;obtain⟨rfl,e2,e3⟩:=e;refine⟨a,rfl,fun H=>.inr ⟨_,vs,n,h,rfl,rfl,?_,Xd8 e3⟩⟩;rw[Array.length_toList] at e2;rw[e2];exact hr
  ·cases e
 ·cases e
theorem Xc8 {K:Frag} {w:World}:∀ {kvs:List (Str×List Str)} {es:List DictEntry},(∀ kv∈kvs,kv.2.length≤sizeLine)→es.map (fun e=>(e.hash,Zv8 e.key,Yu0 K e.val))=kvs.map (fun kv=>(PyData.keyHash w.params kv.1,some kv.1,Xc7 kv.2)) →
  ∃ bs:List Addr,bs.length=kvs.length∧Paired (fun (p:Str×V) (e:DictEntry)=>(∃ tk,e.key=.str p.1 tk)∧e.hash=PyData.keyHash w.params p.1∧RelV p.2 e.val) (List.zipWith (fun kv b=>(kv.1,V.ref b)) kvs bs) es∧∀ (i:Nat) (kv:Str×List Str) (b:Addr),kvs[i]?=some kv→bs[i]?=some b→∀ H,SqT K H b (kv.2.map V.str)
 | [],[],_,_=>⟨[],rfl,.nil,fun i kv b h=>by cases i<;>cases h⟩
 | [],_ :: _,_,h=>by cases h
 | _ :: _,[],_,h=>by cases h
 | kv :: kvs,e :: es,hs,h=>by
  have q1:=(List.cons.inj h).1;simp only[Prod.mk.injEq] at q1;obtain⟨q3,q4,q5⟩:=q1;obtain⟨b,e1,hb⟩:=Wm0 (hs _ (.head _)) q5;obtain⟨bs,h1,h2,h3⟩:=Xc8 (fun kv m=>hs kv (.tail _ m)) (List.cons.inj h).2;refine⟨b :: bs,congrArg Nat.succ h1,.cons ⟨Yd9 q4,q3,e1⟩ h2,fun i kv' b' z1 z2=>?_⟩
  cases i with
  | zero=>cases z1;cases z2;exact hb
  | succ i=>exact h3 i kv' b' z1 z2
theorem tr_of {K:Frag} {w:World} {x:Str} (e:trSeen K x=trWant w.params trK):∃ (a:Addr) (aU:Nat→Addr),nsIn K mainGlobals x=some (some (.ref a))∧KDict K w a (Ken.turnV aU)∧Ken.Tng K aU:=by
 unfold trSeen at e
 split at e
 ·rename_i a c od es n sl h
  obtain⟨h1,h2⟩:=Xe5 h;have e:=Option.some.inj e;simp only[Prod.mk.injEq] at e;obtain⟨rfl,rfl,rfl,e4,e6⟩:=e;obtain⟨bs,l1,l2,l3⟩:=Xc8 (by decide) e6
  match bs,l1,l2,l3 with
  | [b0,b1,b2,b3],_,l2,l3 =>
   refine⟨a,fun i=>[b0,b1,b2,b3].getD i 0,h1,⟨⟨_,es,n,h2,⟨rfl,rfl,rfl⟩,rfl,l2⟩,?_,e4⟩,⟨l3 0 _ b0 rfl rfl,l3 1 _ b1 rfl rfl,l3 2 _ b2 rfl rfl,l3 3 _ b3 rfl rfl⟩⟩;show (["left","right","use","cases"]:List Str).Nodup;decide
 ·cases e
noncomputable def Wl5 (h:Heap):List Addr:=match nsIn (pick h [mainGlobals]) mainGlobals "TURNING" with
 | some (some (.ref a))=>a :: (match h.get? a with
  | some ⟨_,_,.dict es _,_⟩=>es.toList.filterMap fun e=>Wd3 e.val
  | _=>[])
 | _=>[]
noncomputable def Yd5 (p:Program) (A:Ask) (B:ClsAsk) (M:MoreAsk) (h:Heap):List Addr:=Wl7 p A B M h++(Wl6 h++Wl5 h)
noncomputable abbrev Obs9:=Obs3×Bool×Bool×Option InD×Option TrD×Bool
noncomputable def obs9 (p:Program) (A:Ask) (B:ClsAsk) (M:MoreAsk) (TA:List Nat) (s:Shared):Obs9 :=
 (Wm9 p A B M (pick s.heap (Yd5 p A B M s.heap)),codesOk p TA (pick s.heap (Yd5 p A B M s.heap)),Wb6 p TA s.heap (pick s.heap (Yd5 p A B M s.heap)),inSeen (pick s.heap (Yd5 p A B M s.heap)) "INNER",trSeen (pick s.heap (Yd5 p A B M s.heap)) "TURNING",decide (tabs p TA (pick s.heap (Yd5 p A B M s.heap))).Nodup)
noncomputable def val9 (p:Program) (A:Ask) (M:MoreAsk) (w:World):Obs9:=(val3 p A M w,true,true,inWant w.params innK,trWant w.params trK,true)
noncomputable def hook9 (p:Program) (A:Ask) (B:ClsAsk) (M:MoreAsk) (TA:List Nat):Hook :=
 ⟨Obs9,obs9 p A B M TA,val9 p A M,fun w h=>∃ K:Frag,K.In h∧(obsK p A K=valK p A w.params∧chk p B K=true∧iniK p M K=iniV p M∧chkM p M K=true)∧codesOk p TA K=true∧inSeen K "INNER"=inWant w.params innK∧trSeen K "TURNING"=trWant w.params trK∧(tabs p TA K).Nodup∧∀ T∈tabs p TA K,h.get? T=some (tabObj #[]),
  fun w s e=>by
   obtain⟨e1,e2⟩:=Prod.mk.inj e;obtain⟨e2,e3⟩:=Prod.mk.inj e2;obtain⟨e3,e4⟩:=Prod.mk.inj e3;obtain⟨e4,e5⟩:=Prod.mk.inj e4;obtain⟨e5,e6⟩:=Prod.mk.inj e5;refine⟨_,Xf0 _ _,⟨(Prod.mk.inj e1).1,(Prod.mk.inj (Prod.mk.inj e1).2).1,(Prod.mk.inj (Prod.mk.inj (Prod.mk.inj e1).2).2).1,(Prod.mk.inj (Prod.mk.inj (Prod.mk.inj e1).2).2).2⟩,e2,e4,e5,of_decide_eq_true e6,fun T hT=>?_⟩
   exact Ys6 (List.all_eq_true.mp e3 T hT),
  fun w h h' x k=>by
   obtain⟨K,i,e,c,a1,a2,a3,t⟩:=x
   exact⟨K,fun a o z=>k _ _ (i a o z),e,c,a1,a2,a3,fun T hT=>k _ _ (t T hT)⟩⟩
theorem walkH9 {l:OpenLaw} {n k:Nat} {q p:Program} {A:Ask} {B:ClsAsk} {M:MoreAsk} {TA:List Nat} {loose:List Str} {XP:(Str→Option Value)→Heap→Prop} {d:DefRec} {CX:CXT} {sp:Frag→List Addr→Sp} {x:Str}
  (hn:l.most=some n) (hn2:n≤sizeLine) (hdf:d.params.defaults=[]) (hr:Room k callerA) (hTA:∀ i∈TA,i∈A.fns)
  (F:∀ (w:World) (mg:Str→Option Value) (fa:Addr) (h:Heap) (K:Frag) (bm:Addr),K.In h→h.Ns mainGlobals mg→mg d.name=some (.ref fa)→obsK p A K=valK p A w.params→chk p B K=true→iniK p M K=iniV p M→chkM p M K=true→codesOk p TA K=true→inSeen K "INNER"=inWant w.params innK→trSeen K "TURNING"=trWant w.params trK→(tabs p TA K).Nodup→BltK K mg bm→(∀ T∈tabs p TA K,bm≠T) →
   ∃ fd:FuncData,(∀ (s:Shared) (u:Value),BindsTo s fd ⟨[u],[]⟩ [(x,u)])∧∀ base:Heap,K.In base→base.Ns mainGlobals mg→FnOk l.prog w K mg base CX k fa fd [x] (sp K (tabs p TA K)))
  (hsp:∀ (K:Frag) (ts:List Addr) (H:Hp) (a:Addr) (ns:List Int),ns.length≤n→ts.length=TA.length→(∀ T∈ts,H T=some (.tbl #[]))→SqL K H a (ns.map V.int)→sp K ts [.ref a] H (fun v _=>v=.bl true) fun _ _ _=>False)
  (hCX:∀ (H:Hp) (s:Shared) (e:Value) (s':Shared),CX [] H s (fun _ _ _=>False) e s'→False) :
  WalkO q loose XP (hook9 p A B M TA).says l.row.toRowW d [] (fun f vs=>PySem.call f vs) :=
 Att.attach_call hn hdf fun w s₀ s₁ mg mb fa o pm cd doc a vs ns G Y ho hd hcd hmg hobj hints hlen hg=>by
  obtain⟨K,KX,⟨E,D,E2,D2⟩,hc,hI,hU,hN,TX⟩:=Y;obtain⟨bm,ob,b1,b2,b3,b4,b5,b6⟩:=G.T.bmain
  have hblt:K.lookup bm=some ob:=by
   have hb:=hc;unfold codesOk at hb;rw[Bool.and_eq_true] at hb;have hb:=hb.2;unfold Wl1 at hb
   split at hb
   ·rename_i b e
    have e1:=(mg_of KX G.T.g e).symm.trans b1;cases e1;obtain⟨o',e2⟩:=Option.isSome_iff_exists.mp hb;have e3:=KX _ _ e2;rw[b3] at e3;cases e3;exact e2
   ·cases hb
  have nT:∀ T∈tabs p TA K,bm≠T:=fun T hT z=>by
   have:=TX T hT;rw[← z,b3] at this;cases this;cases b4
  have nM:bm≠mainGlobals:=fun z=>by
   obtain⟨o',es,ep,e,d',_⟩:=G.T.g;rw[← z,b3] at e;cases e;rw[b6] at d';cases d'
  have fact:∀ T∈tabs p TA K,K.lookup T=none∧isCodeTable s₁.heap T:=fun T hT=>by
   obtain⟨i,hi,rfl⟩:=List.mem_map.mp hT;obtain⟨_,_,_,_,_,_,h1,h2⟩:=Xj2 (e_fn E (hTA i hi)) (t_code hc hi);exact⟨h1,h2 _ KX⟩
  obtain⟨fd,hb,hF⟩:=F w mg fa _ K bm KX G.T.g hmg E D E2 D2 hc hI hU hN ⟨b1,⟨ob,hblt,b4,b5,b6⟩,b2,nM⟩ nT;exact Xg9 KX G.T.g G.T.b G.T.builtins G.T.nolimit hg hobj hints (Nat.le_trans hlen hn2) hr TX (fun T hT=>(fact T hT).1) (fun T hT=>(fact T hT).2) hF hb
   (fun H hO hS=>hsp K _ H a ns hlen (by simp[tabs]) hO hS) fun H e s'=>hCX H s₁ e s'
theorem obs9_self:@obs9=@obs9:=rfl
theorem val9_self:@val9=@val9:=rfl
end Hd
name_quick hdObs9 for Hd.obs9 by Hd.obs9_self
name_quick hdVal9 for Hd.val9 by Hd.val9_self
namespace L2
open PySem PySem.Spec PyProof.Rows
structure Cl (P:Program) (w:World) (K:W.Frag) (mg:Str→Option Value) (base:Heap) (k:Nat) (x:Str) (ps:List Str) (sp:Sp):Prop where
 ex:∃ (f:Addr) (fd:FuncData),FnOk P w K mg base CX0 k f fd ps sp∧mg x=some (.ref f)∧W.keepIn K (.ref f)=true∧Binds K fd ps []
section
variable {P:Program} {w:World} {K:W.Frag} {mg:Str→Option Value} {base:Heap} {j k:Nat} {x:Str} {ps:List Str} {sp:Sp}
theorem Cl.of {f:Addr} {fd:FuncData} (G:FnOk P w K mg base CX0 k f fd ps sp) (m:mg x=some (.ref f)) (kp:W.keepIn K (.ref f)=true) (b:Binds K fd ps []):Cl P w K mg base k x ps sp:=⟨⟨f,fd,G,m,kp,b⟩⟩
theorem Cl.up (C:Cl P w K mg base j x ps sp) (h:j≤k):Cl P w K mg base k x ps sp:=by
 obtain⟨f,a,G,r⟩:=C.ex;exact⟨⟨f,a,G.mono h,r⟩⟩
end
section
variable {X:Cx}
theorem Zc2 {k:Nat} {x:Str} {ps:List Str} {sp:Sp} {e:Expr} {es:List Expr} {t:TA} {p pos:Pos} (C:Cl X.prog X.w X.K X.mg X.base k x ps sp) (hr:Room k X.A) (ha:PA X (e :: es) t) (hg:Gl X x:=by exact rfl)
  (hdb:(x == ("__debug__":Str))=false:=by decide) (he:starEach (e :: es) X.env=(false,eval e X.env) :: starEach es X.env:=by rfl) (hpl:(backTo pos (starEach es X.env)).any (·.1)=false:=by rfl) :
  PE X (.Call (.Name x p) (e :: es) [] pos) (Zx4 sp [] E0 t):=by
 obtain⟨f,c,G,m,a,b⟩:=C.ex;exact Yf5 G hr hg m a b .nil Xp7 ha hdb he hpl
end
abbrev pq0:List Str:=["_law_cell_here","_law_given_here","_law_words_here"]
abbrev pq1:List Str:=["_law_cell_here","_law_k"]
abbrev pq3:List Str:=["_law_cell_here","_law_size_here","_law_given_here","_law_words_here"]
abbrev pq4:List Str:=["_law_cell_here","_law_size_here","_law_words_here"]
abbrev pq5:List Str:=["_law_cell_here","_law_words_here"]
abbrev pq6:List Str:=["_law_found","_law_number"]
abbrev pq7:List Str:=["_law_found","_law_term","_law_by","_law_own"]
abbrev pq8:List Str:=["_law_found","_law_term","_law_other","_law_own"]
abbrev pq9:List Str:=["_law_found","_law_term","_law_path"]
abbrev pq10:List Str:=["_law_found","_law_term"]
abbrev pq16:List Str:=["_law_term","_law_own"]
abbrev pq17:List Str:=["_law_term","_law_path"]
abbrev pq18:List Str:=["_law_term"]
abbrev pq20:List Str:=["piece","inner"]
abbrev pq21:List Str:=["pieces","of_piece"]
abbrev pq24:List Str:=["term","number"]
abbrev pq27:List Str:=["term"]
abbrev KpI (K:W.Frag) (f:Addr):Prop:=W.keepIn K (.ref f)=true
abbrev MgI (mg:Str→Option Value) (x:Str) (f:Addr):Prop:=mg x=some (.ref f)
abbrev Fk0 (P:Program) (w:World) (K:W.Frag) (mg:Str→Option Value) (base:Heap):Nat→Addr→FuncData→List Str→Sp→Prop:=FnOk P w K mg base CX0
section
variable {X:Cx}
theorem pcl {k:Nat} {f:Addr} {fd:FuncData} {ps:List Str} {sp:Sp} {x:Str} {e:Expr} {es:List Expr} {t:TA} {p pos:Pos} (G:FnOk X.prog X.w X.K X.mg X.base CX0 k f fd ps sp) (hr:Room k X.A) (hm:X.mg x=some (.ref f)) (hk:W.keepIn X.K (.ref f)=true) (hb:Binds X.K fd ps []) (ha:PA X (e :: es) t) (hg:Gl X x:=by exact rfl)
  (hdb:(x == ("__debug__":Str))=false:=by decide) (he:starEach (e :: es) X.env=(false,eval e X.env) :: starEach es X.env:=by rfl) (hpl:(backTo pos (starEach es X.env)).any (·.1)=false:=by rfl) :
  PE X (.Call (.Name x p) (e :: es) [] pos) (Zx4 sp [] E0 t):=Yf5 G hr hg hm hk hb .nil Xp7 ha hdb he hpl
theorem pxt {a b:Expr} {ta tb:TE} {pos:Pos} (ha:PE X a ta) (hb:PE X b tb) (hs:Yt3 b:=by exact fun _ _=>rfl):PE X (.Subscript a b pos) (tOp (rIxT X.K) ta tb):=Xw6 Wj5 ha hb hs
theorem pxl {a b:Expr} {ta tb:TE} {pos:Pos} (ha:PE X a ta) (hb:PE X b tb) (hs:Yt3 b:=by exact fun _ _=>rfl):PE X (.Subscript a b pos) (tOp (rIxL X.K) ta tb):=Xw6 Xy3 ha hb hs
theorem pst (i:Nat) {x:Str} {e:Expr} {te:TE} {pos' pos:Pos} (hN:X.N.Nodup) (he:PE X e te) (hi:X.N[i]?=some x:=by exact rfl) (hx:Loc X.env.scope x:=by exact Or.inl rfl) (hs:swapsWith e (some (.Name x pos')) pos.line X.env=pure false:=by rfl) (hf:X.fn x=true∨X.env.scope.names.lookup x=some .local:=by first | exact .inl rfl | exact .inr rfl | assumption) :
  PS X (.Assign [.Name x pos'] e pos) (tAsg te (Ya4 i)):=Zv0 hN hi hx he hs hf
theorem ptc {a b:Expr} {ta tb:TE} {pos:Pos} {op:CmpOp} {r:R2} (ho:OpR X (compareOp op) r) (ha:PE X a ta) (hb:PE X b tb) (h:op≠.In:=by decide) (h2:op≠.NotIn:=by decide):PT X (.Compare a [op] [b] pos) (Yb3 (tOp r ta tb)):=Yp9 ho ha hb (Zl2 _ h h2)
end
theorem scm {N ps:List Str} {sc:Scope} (h:(decide (sc.kind=.function)&&(!sc.isCoroutine&&(!sc.isGenerator&&(decide N.Nodup&&(decide (N.take ps.length=ps)&&(ps.all (fun x=>decide (sc.names.lookup x=some .local∨sc.names.lookup x=some .cell))&&sc.names.all fun y=>decide (y.2≠.free)))))))=true):FnScope N ps sc:=by
 simp only[Bool.and_eq_true,decide_eq_true_eq,List.all_eq_true,Bool.not_eq_true'] at h;exact⟨h.1,h.2.1,h.2.2.1,h.2.2.2.1,h.2.2.2.2.1,h.2.2.2.2.2.1,h.2.2.2.2.2.2⟩
def varM:Option (Option V)→Hp→VK→Prop
 | some (some v),H,Q=>Q v H
 | _,_,_=>False
def Yi0 (i:Nat):TE:=fun σ H Q=>varM σ[i]? H Q
theorem Zk5 {v:V} {H:Hp} {Q:VK}:varM (some (some v)) H Q=Q v H:=rfl
theorem Xu8 {o:Option (Option V)} {H:Hp} {Q:VK}:varM o H Q=∃ v,o=some (some v)∧Q v H:=propext ⟨fun h=>by
 unfold varM at h
 split at h
 ·exact⟨_,rfl,h⟩
 ·exact h.elim,fun⟨v,e,h⟩=>by rw[e];exact h⟩
theorem Xo3:Yi0=tVar:=by
 funext i σ H Q
 exact Xu8
def bM:V→Hp→(Bool→Hp→Prop)→Prop
 | .bl c,H,Q=>Q c H
 | _,_,_=>False
theorem Xb3 {c:Bool} {H:Hp} {Q:Bool→Hp→Prop}:bM (.bl c) H Q=Q c H:=rfl
theorem Xr9 {x:V} {H:Hp} {Q:Bool→Hp→Prop}:bM x H Q=∃ k,x=.bl k∧Q k H:=propext ⟨fun h=>by
 unfold bM at h
 split at h
 ·exact⟨_,rfl,h⟩
 ·exact h.elim,fun⟨v,e,h⟩=>by rw[e];exact h⟩
def Zr6 (t:TE):TT:=fun σ H Q=>t σ H fun x H1=>bM x H1 Q
theorem Yi2:Zr6=Yb3:=by
 funext t σ H Q
 show t σ H (fun x a=>bM x a Q)=t σ H _
 congr 1
 funext x a
 exact Xr9
def rI0M (g:Int→Int→V):R2
 | .int i,.int j,H,Q=>Q (g i j) H
 | _,_,_,_=>False
theorem Zo7 {g:Int→Int→V} {i j:Int} {H:Hp} {Q:VK}:rI0M g (.int i) (.int j) H Q=Q (g i j) H:=rfl
theorem Yf2 {g:Int→Int→V} {x y:V} {H:Hp} {Q:VK}:rI0M g x y H Q=∃ i j,x=.int i∧y=.int j∧Q (g i j) H:=propext ⟨fun h=>by
 unfold rI0M at h
 split at h
 ·exact⟨_,_,rfl,rfl,h⟩
 ·exact h.elim,fun⟨i,j,e,f,h⟩=>by rw[e,f];exact h⟩
theorem Zt8:rI0M=rI0:=by
 funext g x y H Q
 exact Yf2
def rIM (C:Int→Int→Prop) (g:Int→Int→V):R2
 | .int i,.int j,H,Q=>C i j∧Q (g i j) H
 | _,_,_,_=>False
theorem Zt7 {C:Int→Int→Prop} {g:Int→Int→V} {i j:Int} {H:Hp} {Q:VK}:rIM C g (.int i) (.int j) H Q=(C i j∧Q (g i j) H):=rfl
theorem Yv2 {C:Int→Int→Prop} {g:Int→Int→V} {x y:V} {H:Hp} {Q:VK}:rIM C g x y H Q=∃ i j,x=.int i∧y=.int j∧C i j∧Q (g i j) H:=propext ⟨fun h=>by
 unfold rIM at h
 split at h
 ·exact⟨_,_,rfl,rfl,h⟩
 ·exact h.elim,fun⟨i,j,e,f,h⟩=>by rw[e,f];exact h⟩
theorem Xe6:rIM=rI:=by
 funext C g x y H Q
 exact Yv2
section
variable {X:Cx}
theorem pvM (i:Nat) {x:Str} {pos:Pos} (hN:X.N[i]?=some x:=by rfl) (hv:Vis X.env.scope x:=by first | exact Or.inl rfl | exact Or.inr (Or.inl rfl) | exact Or.inr (Or.inr rfl)) (hd:(x == ("__debug__":Str))=false:=by decide)
  (hcd:(x == ("__classdict__":Str))=false:=by decide):PE X (.Name x pos) (Yi0 i):=Xo3▸Xf2 hN hv hd hcd
theorem ptcM {a b:Expr} {ta tb:TE} {pos:Pos} {op:CmpOp} {r:R2} (ho:OpR X (compareOp op) r) (ha:PE X a ta) (hb:PE X b tb) (h:op≠.In:=by decide) (h2:op≠.NotIn:=by decide):PT X (.Compare a [op] [b] pos) (Zr6 (tOp r ta tb)):=Yi2▸Yp9 ho ha hb (Zl2 _ h h2)
theorem Zo8 {a b:Expr} {ta tb:TE} {pos:Pos} {op:CmpOp} {r:R2} (ho:OpR X (compareOp op) r) (ha:PE X a ta) (hb:PE X b tb) (hm:behindInMarks op b=false):PT X (.Compare a [op] [b] pos) (Zr6 (tOp r ta tb)):=Yi2▸Yp9 ho ha hb hm
theorem Ze0:OpR X (binaryOp .Add) (rI0M fun i j=>.int (i+j)):=Zt8▸Wf2
theorem Zh2:OpR X (binaryOp .Sub) (rI0M fun i j=>.int (i - j)):=Zt8▸We8
theorem Zz4:OpR X (binaryOp .Mult) (rIM CMul fun i j=>.int (i*j)):=Xe6▸Wf0
theorem Zd9:OpR X (binaryOp .FloorDiv) (rIM CDiv fun i j=>.int (i / j)):=Xe6▸Xx1
theorem Zc6:OpR X (binaryOp .Mod) (rIM (fun _ j=>0 < j) fun i j=>.int (i % j)):=Xe6▸Wf1
theorem Yk6:OpR X (compareOp .Lt) (rI0M fun i j=>.bl (decide (i < j))):=Zt8▸Wm5
theorem Xs7:OpR X (compareOp .LtE) (rI0M fun i j=>.bl (decide (i≤j))):=Zt8▸Wm6
theorem Yk7:OpR X (compareOp .Gt) (rI0M fun i j=>.bl (decide (j < i))):=Zt8▸Wm7
theorem Yw3:OpR X (compareOp .GtE) (rI0M fun i j=>.bl (decide (j≤i))):=Zt8▸Wm8
end
section
variable {α β:Type} {a b:α} {l m:List α} {n:Nat}
theorem zmc {f:α→β}:(a :: l).map f=f a :: l.map f:=rfl
theorem zmn {f:α→β}:([]:List α).map f=[]:=rfl
theorem zlc:(a :: l).length=l.length+1:=rfl
theorem zln:([]:List α).length=0:=rfl
theorem zca:(a :: l)++m=a :: (l++m):=rfl
theorem zna:[]++m=m:=rfl
theorem zrs:List.replicate (n+1) a=a :: List.replicate n a:=rfl
theorem zrz:List.replicate 0 a=[]:=rfl
theorem zg0:(a :: l)[0]?=some a:=rfl
theorem zgs:(a :: l)[n+1]?=l[n]?:=rfl
theorem zgn:([]:List α)[n]?=none:=rfl
theorem zs0:(a :: l).set 0 b=b :: l:=rfl
theorem zss:(a :: l).set (n+1) b=a :: l.set n b:=rfl
theorem zjs {x:Option α}:(some x).join=x:=rfl
theorem zjn:(none:Option (Option α)).join=none:=rfl
end
end L2
namespace KLaw
noncomputable abbrev pg:=PySem.Challenge.pw_ken_k53_turnings_in_order
open PySem L2 Ken
local macro_rules | `(tactic| walk_at "1")=>`(tactic| ((try dsimp only[tKIn,Yo3,Yp8,rSlT,Yr8,Yr9,Yr6,Yr2,tFi,Yi3,Yi1,Zm7,Yk0,Yk1,Yj9,Zu8,Zq1,tIf,rInT,Zx3,Yd8,Yr1,kApp,kPut,tSeq,tAsg,Ya4,tVar,tC,tOp,rI0,rI,tRet,tIfS,Yb3,tB,Xd6,Zv7,tNil,tCB,Zx4,tTup,tLst,Xv5,tAug,ipI,tAnd,tOr,tNot,Yo5,Yo2,tBM,tBM0,Zq3,Zq2,rPop,rIxL,rIxT,rIxS,rCat,rEq,rNe,Yp7,tSl,rSlL,Yo1,Zq0,Yo4,tFs,tFc,tF0,tKD,rIsi,rEqD,Zx2,rIn,Yp6,gSub,Ys1,gTup,Xa2,gNil,Yr7,Ys0,iTup,L2.start,capt,zmc,zmn,zlc,zln,zca,zna,zrs,zrz,Nat.reduceAdd,Nat.reduceSub,Nat.add_zero,Nat.sub_zero,zg0,zgs,zgn,zs0,zss,zjs,zjn,Yd1,Zu5,Yz3,Zl7,Yd0,Zp5,Xa9,Xb0,Yi0,Zk5,Zr6,Xb3,Zo7,Zt7]);(try simp only[tKIn,Yo3,Yp8,rSlT,Yr8,Yr9,Yr6,Yr2,tFi,Yi3,Yi1,Zm7,Yk0,Yk1,Yj9,Zu8,Zq1,tIf,rInT,Zx3,Yd8,Yr1,kApp,kPut,tSeq,tAsg,Ya4,tVar,tC,tOp,rI0,rI,tRet,tIfS,Yb3,tB,Xd6,Zv7,tNil,tCB,Zx4,tTup,tLst,Xv5,tAug,ipI,tAnd,tOr,tNot,Yo5,Yo2,tBM,tBM0,Zq3,Zq2,rPop,rIxL,rIxT,rIxS,rCat,rEq,rNe,Yp7,tSl,rSlL,Yo1,Zq0,Yo4,tFs,tFc,tF0,tKD,rIsi,rEqD,Zx2,rIn,Yp6,gSub,Ys1,gTup,Xa2,gNil,Yr7,Ys0,iTup,L2.start,capt,zmc,zmn,zlc,zln,zca,zna,zrs,zrz,Nat.reduceAdd,Nat.reduceSub,Nat.add_zero,Nat.sub_zero,zg0,zgs,zgn,zs0,zss,zjs,zjn,Yd1,Zu5,Yz3,Zl7,Yd0,Zp5,Xa9,Xb0,Yi0,Zk5,Zr6,Xb3,Zo7,Zt7,List.append_nil,Nat.zero_add,Option.some.injEq,V.int.injEq,V.str.injEq,V.ref.injEq,V.bl.injEq,V.ty.injEq,List.cons.injEq,and_true,true_and,exists_eq_left',exists_eq_left,exists_and_left,exists_eq,exists_eq',and_assoc,Yf0,Ye9,Yp3,decide_eq_true_eq,Xr9,Yf2,Yv2])))
local macro_rules | `(tactic| walk_at "2")=>`(tactic| ((try dsimp only[tKIn,Yo3,Yp8,rSlT,Yr8,Yr9,Yr6,Yr2,tFi,Yi3,Yi1,Zm7,Yk0,Yk1,Yj9,Zu8,Zq1,tIf,rInT,Zx3,Yd8,Yr1,kApp,kPut,tFor,tLC,tVar,tC,tOp,rI0,rI,Yb3,tB,Zv7,tNil,tCB,Zx4,tTup,tLst,ipI,tAnd,tOr,tNot,Yo5,Yo2,tBM,tBM0,Zq3,Zq2,rPop,rIxL,rIxT,rIxS,rCat,rEq,rNe,Yp7,tSl,rSlL,Yo1,Zq0,Yo4,tFs,tFc,tF0,tKD,rIsi,rEqD,Zx2,rIn,Yp6,Ys1,Yr7,Ys0,iTup,L2.start,capt,zmc,zmn,zlc,zln,zca,zna,zrs,zrz,Nat.reduceAdd,Nat.reduceSub,Nat.add_zero,Nat.sub_zero,zg0,zgs,zgn,zs0,zss,zjs,zjn,Yd1,Zu5,Yz3,Zl7,Yd0,Zp5,Xa9,Xb0,Yi0,Zk5,Zr6,Xb3,Zo7,Zt7]);(try simp only[tKIn,Yo3,Yp8,rSlT,Yr8,Yr9,Yr6,Yr2,tFi,Yi3,Yi1,Zm7,Yk0,Yk1,Yj9,Zu8,Zq1,tIf,rInT,Zx3,Yd8,Yr1,kApp,kPut,tFor,tLC,tVar,tC,tOp,rI0,rI,Yb3,tB,Zv7,tNil,tCB,Zx4,tTup,tLst,ipI,tAnd,tOr,tNot,Yo5,Yo2,tBM,tBM0,Zq3,Zq2,rPop,rIxL,rIxT,rIxS,rCat,rEq,rNe,Yp7,tSl,rSlL,Yo1,Zq0,Yo4,tFs,tFc,tF0,tKD,rIsi,rEqD,Zx2,rIn,Yp6,Ys1,Yr7,Ys0,iTup,L2.start,capt,zmc,zmn,zlc,zln,zca,zna,zrs,zrz,Nat.reduceAdd,Nat.reduceSub,Nat.add_zero,Nat.sub_zero,zg0,zgs,zgn,zs0,zss,zjs,zjn,Yd1,Zu5,Yz3,Zl7,Yd0,Zp5,Xa9,Xb0,Yi0,Zk5,Zr6,Xb3,Zo7,Zt7,List.append_nil,Nat.zero_add,Option.some.injEq,V.int.injEq,V.str.injEq,V.ref.injEq,V.bl.injEq,V.ty.injEq,List.cons.injEq,and_true,true_and,exists_eq_left',exists_eq_left,exists_and_left,exists_eq,exists_eq',and_assoc,Yf0,Ye9,Yp3,decide_eq_true_eq,Xr9,Yf2,Yv2])))
local macro_rules | `(tactic| walk_at "3")=>`(tactic| ((try dsimp only[tKIn,Yo3,Yp8,rSlT,Yr8,Yr9,Yr6,Yr2,tFi,Zm7,Yk0,Yk1,Yj9,Zu8,Zq1,tIf,rInT,Zx3,Yd8,Yr1,kApp,kPut,Ya4,tVar,tC,tOp,rI0,rI,tIfS,Yb3,tB,Xd6,Zv7,tNil,tCB,Zx4,tTup,tLst,ipI,tAnd,tOr,tNot,Yo5,Yo2,tBM,tBM0,Zq3,Zq2,rPop,rIxL,rIxT,rIxS,rCat,rEq,rNe,Yp7,tSl,rSlL,Yo1,Zq0,Yo4,tFs,tFc,tF0,tKD,rIsi,rEqD,Zx2,rIn,Yp6,gSub,Ys1,gTup,Xa2,gNil,Yr7,Ys0,iTup,L2.start,capt,zmc,zmn,zlc,zln,zca,zna,zrs,zrz,Nat.reduceAdd,Nat.reduceSub,Nat.add_zero,Nat.sub_zero,zg0,zgs,zgn,zs0,zss,zjs,zjn,Yd1,Zu5,Yz3,Zl7,Yd0,Zp5,Xa9,Xb0,Yi0,Zk5,Zr6,Xb3,Zo7,Zt7]);(try simp only[tKIn,Yo3,Yp8,rSlT,Yr8,Yr9,Yr6,Yr2,tFi,Zm7,Yk0,Yk1,Yj9,Zu8,Zq1,tIf,rInT,Zx3,Yd8,Yr1,kApp,kPut,Ya4,tVar,tC,tOp,rI0,rI,tIfS,Yb3,tB,Xd6,Zv7,tNil,tCB,Zx4,tTup,tLst,ipI,tAnd,tOr,tNot,Yo5,Yo2,tBM,tBM0,Zq3,Zq2,rPop,rIxL,rIxT,rIxS,rCat,rEq,rNe,Yp7,tSl,rSlL,Yo1,Zq0,Yo4,tFs,tFc,tF0,tKD,rIsi,rEqD,Zx2,rIn,Yp6,gSub,Ys1,gTup,Xa2,gNil,Yr7,Ys0,iTup,L2.start,capt,zmc,zmn,zlc,zln,zca,zna,zrs,zrz,Nat.reduceAdd,Nat.reduceSub,Nat.add_zero,Nat.sub_zero,zg0,zgs,zgn,zs0,zss,zjs,zjn,Yd1,Zu5,Yz3,Zl7,Yd0,Zp5,Xa9,Xb0,Yi0,Zk5,Zr6,Xb3,Zo7,Zt7,List.append_nil,Nat.zero_add,Option.some.injEq,V.int.injEq,V.str.injEq,V.ref.injEq,V.bl.injEq,V.ty.injEq,List.cons.injEq,and_true,true_and,exists_eq_left',exists_eq_left,exists_and_left,exists_eq,exists_eq',and_assoc,Yf0,Ye9,Yp3,decide_eq_true_eq,Xr9,Yf2,Yv2])))
noncomputable def top (i:Nat):Stmt:=pg.main.body.getD i (.Pass ⟨0,0,0,0⟩)
theorem sc_as0:FnScope ["_law_cell_here","_law_k","_law_first"] ["_law_cell_here","_law_k"] (Za5 (top 35)):=scm (by decide +kernel)
theorem sc_ah0:FnScope ["_law_script","_law_k","_law_cell_here"] ["_law_script","_law_k"] (Za5 (top 36)):=scm (by decide +kernel)
theorem sc_bb0:FnScope ["_law_cell_here","_law_many","_law_some","_law_size_here","_law_at","_law_start"] ["_law_cell_here","_law_many"] (Za5 (top 37)):=scm (by decide +kernel)
theorem Wc6:FnScope ["_law_cell_here","_law_words_here"] ["_law_cell_here","_law_words_here"] (Za5 (top 38)):=scm (by decide +kernel)
theorem sc_az0:FnScope ["_law_cell_here","_law_size_here","_law_words_here","_law_rest","_law_few","_law_one","_law_other"] ["_law_cell_here","_law_size_here","_law_words_here"] (Za5 (top 39)):=scm (by decide +kernel)
section
variable {P:Program} {w:World} {K:W.Frag} {mg:Str→Option Value} {base:Heap}
theorem Xt1 {k:Nat} {f_as0:Addr} {fd_as0:FuncData} (F_as0:Fun K "_law_mix" "_law_mix" (top 35) f_as0 fd_as0):Fk0 P w K mg base (k+1) f_as0 fd_as0 pq1 Zk7:=by
 refine F_as0.ok sc_as0 (fun b H Q E h=>?_) (fun d A a s H b Q E e h=>?_)
 ·obtain⟨c,k,rfl,_⟩:=h
  rfl
 obtain⟨c,k,rfl,g,f,q⟩:=h
 refine⟨_,(Za3 (pst 2 sc_as0.nd (Zb6 Zc6 (Zb6 Zz4 (Zb6 Ze0 (pvM 0) Za2) (Zb6 Ze0 Za2 (Zb6 Zz4 Za2 (pvM 1)))) Za2))
 (Za8 (Zb3 (Zb6 Zc6 (Zb6 Ze0 (Zb6 Ze0 (Zb6 Zz4 (Zb6 Zd9 (pvM 2) Za2) Za2) (Zb6 Zz4 (pvM 2) (Zb6 Ze0 (Zb6 Zz4 (pvM 1) (pvM 1)) Za2))) (pvM 1)) Za2)))),?_⟩
 walk_at "1";have j:0≤(c+1)*(48271+118*k) % 2147483629:=Int.emod_nonneg _ (by decide);have i:(c+1)*(48271+118*k) % 2147483629 < 2147483629:=Int.emod_lt_of_pos _ (by decide);refine⟨Yg2 (by decide) (by decide),Yk9 (by omega) (by omega),by decide,⟨by decide,by decide⟩,Yk9 (by decide) (by decide),Yg2 (by omega) (by omega),Yg2 (by omega) (by omega),by decide,?_⟩;exact q
theorem Wi1 {k:Nat} {f_ah0:Addr} {fd_ah0:FuncData} (F_ah0:Fun K "_law_cell" "_law_cell" (top 36) f_ah0 fd_ah0) (C__law_mix:Cl P w K mg base k "_law_mix" pq1 (Zk7)) (m_len:mg "len"=none):Fk0 P w K mg base (k+1) f_ah0 fd_ah0 ["_law_script","_law_k"] (Yo8 K):=by
 refine F_ah0.ok sc_ah0 (fun i H Q E h=>?_) (fun o A g s H i Q E l h=>?_)
 ·obtain⟨a,b,k,rfl,_⟩:=h
  rfl
 obtain⟨a,b,j,rfl,f,n,r,p,q⟩:=h
 refine⟨_,(Za3 (pst 2 sc_ah0.nd Za2)
 (Za3 (Zd2 (ptcM (Yk6) (pvM 1) (Zd1 Zc9 (by exact rfl) m_len Zf4 (Za0 (pvM 0) Za1)))
  (Za8 (pst 2 sc_ah0.nd (Zb6 Zc6 (pxl (pvM 0) (pvM 1)) Za2)))
  Zb4)
 (Za8 (Zb3 (Zc2 C__law_mix l (Za0 (pvM 2) (Za0 (Zb6 Ze0 (pvM 1) Za2) Za1))))))),?_⟩
 walk_at "1";refine⟨_,.inl f,?_⟩;rw[List.length_map];have e:cellOf b j=mix (if j < (b.length:Int) then (b[j.toNat]?.getD 0) % 2147483647 else 0) (j+101):=rfl;refine ite2 (fun c=>?_) (fun c=>?_)
 ·rw[if_pos c] at e
  have d:j.toNat < b.length:=by omega
  refine⟨_,f,V.int (b[j.toNat]),?_,_,rfl,by decide,?_⟩
  ·have m:j=((j.toNat:Nat):Int):=by omega
   have q:atI (b.map V.int) ((j.toNat:Nat):Int)=some (.int b[j.toNat]):=Zb7 (by rw[List.getElem?_map,List.getElem?_eq_getElem d]<;>rfl);rw[← m] at q;exact q
  ·rw[List.getElem?_eq_getElem d] at e
   rw[e] at q;exact⟨_,_,rfl,by omega,by omega,q⟩
 ·rw[if_neg c] at e
  rw[e] at q;exact⟨_,_,rfl,by omega,by omega,q⟩
theorem Xt3 {k:Nat} {f_ap0:Addr} {fd_ap0:FuncData} (F_ap0:Fun K "_law_leaf" "_law_leaf" (top 38) f_ap0 fd_ap0) (m_len:mg "len"=none):Fk0 P w K mg base (k+1) f_ap0 fd_ap0 pq5 (Zy2 K):=by
 refine F_ap0.ok Wc6 (fun l H Q E h=>?_) (fun r A j s H l Q E y h=>?_)
 ·obtain⟨a,u,k,rfl,_⟩:=h
  rfl
 obtain⟨c,t,b,rfl,g,n,q⟩:=h
 refine⟨_,(Za3 (Zd2 (ptcM (Ze7) (Zb6 Zc6 (pvM 0) Za2) Za2)
  (Za8 (Zb3 (Zb5 (Za0 Za9 Za1))))
  Zb4)
 (Za8 (Zb3 (Zb5 (Za0 Za9 (Za0 (pxl (pvM 1) (Zb6 Zc6 (Zb6 Zd9 (pvM 0) Za2) (Zd1 Zc9 (by exact rfl) m_len Zf4 (Za0 (pvM 1) Za1)))) Za1)))))),?_⟩
 walk_at "1";refine⟨by decide,ite2 (fun _=>?_) (fun _=>?_)⟩
 ·exact⟨by decide,fun p d=>q _ _ _ (Za6 d _) (Yw8 b d)⟩
 ·have f:((b.map V.str).length:Int)=b.length:=by rw[List.length_map]
  have z:=n.1;refine⟨⟨by decide,by decide⟩,_,.inl g,by rw[f];omega,_,g,?_⟩;rw[f];obtain⟨v,o,e⟩:=Wa3 (xs:=b.map V.str) (i:=c / 6 % (b.length:Int)) (Int.emod_nonneg _ (by omega)) (by rw[f];exact Int.emod_lt_of_pos _ (by omega));obtain⟨x,m,rfl⟩:=List.mem_map.mp o;exact⟨_,e,by decide,fun p d=>q _ _ _ (Za6 d _) (Xp9 m d)⟩
theorem Wg6 {k n:Nat} {f_az0:Addr} {fd_az0:FuncData} (F_az0:Fun K "_law_statement" "_law_statement" (top 39) f_az0 fd_az0) (G_az0:Fk0 P w K mg base k f_az0 fd_az0 pq4 (Zk6 K n)) (m_az0:MgI mg "_law_statement" f_az0) (k_az0:KpI K f_az0) (b_az0:Binds K fd_az0 pq4 []) (C__law_mix:Cl P w K mg base k "_law_mix" pq1 (Zk7)) (C__law_leaf:Cl P w K mg base k "_law_leaf" pq5 (Zy2 K)):Fk0 P w K mg base (k+1) f_az0 fd_az0 pq4 (Zk6 K (n+1)):=by
 refine F_az0.ok sc_az0 (fun vs H Q E h=>?_) (fun q2 A q0 s H vs Q E j h=>?_)
 ·obtain⟨c,d,J,u,rfl,_⟩:=h
  rfl
 obtain⟨c,d,J,u,rfl,q1,h0,U,hn,G,C,q⟩:=h
 refine⟨_,(Za3 (Zd2 (ptcM (Yk6) (pvM 1) Za2)
  (Za8 (Zb3 (Zc2 C__law_leaf j (Za0 (Zb6 Zd9 (pvM 0) Za2) (Za0 (pvM 2) Za1)))))
  Zb4)
 (Za3 (Zd2 ((Yc3 (ptcM (Yk6) (pvM 1) Za2) (Zt9 (ptcM (Ze7) (Zb6 Zc6 (Zb6 Zd9 (pvM 0) Za2) Za2) Za2)))).pt
  (Za8 (Zb3 (Zb5 (Za0 Za9 (Za0 (pcl G_az0 j m_az0 k_az0 b_az0 (Za0 (Zc2 C__law_mix j (Za0 (pvM 0) (Za0 Za2 Za1))) (Za0 (Zb6 Zh2 (pvM 1) Za2) (Za0 (pvM 2) Za1)))) (Za0 (Zb5 (Za0 Za9 Za1)) Za1))))))
  Zb4)
 (Za3 (pst 3 sc_az0.nd (Zb6 Zh2 (pvM 1) Za2))
 (Za3 (pst 4 sc_az0.nd (Zb6 Ze0 Za2 (Zb6 Zc6 (Zc2 C__law_mix j (Za0 (pvM 0) (Za0 Za2 Za1))) (Zb6 Zh2 (pvM 3) Za2))))
 (Za3 (Zd2 (ptcM (Yw3) (pvM 1) Za2)
  (Za8 (pst 4 sc_az0.nd (Zb6 Ze0 (Zb6 Zd9 (pvM 3) Za2) (Zb6 Zc6 (Zc2 C__law_mix j (Za0 (pvM 0) (Za0 Za2 Za1))) (Zb6 Zd9 (pvM 3) Za2)))))
  Zb4)
 (Za3 (pst 5 sc_az0.nd (pcl G_az0 j m_az0 k_az0 b_az0 (Za0 (Zc2 C__law_mix j (Za0 (pvM 0) (Za0 Za2 Za1))) (Za0 (pvM 4) (Za0 (pvM 2) Za1)))))
 (Za3 (pst 6 sc_az0.nd (pcl G_az0 j m_az0 k_az0 b_az0 (Za0 (Zc2 C__law_mix j (Za0 (pvM 0) (Za0 Za2 Za1))) (Za0 (Zb6 Zh2 (pvM 3) (pvM 4)) (Za0 (pvM 2) Za1)))))
 (Za8 (Zb3 (Zb5 (Za0 (pxl (Ze1 (Za0 Za9 (Za0 Za9 (Za0 Za9 (Za0 Za9 Za1))))) (Zb6 Zc6 (pvM 0) Za2)) (Za0 (pvM 5) (Za0 (pvM 6) Za1))))))))))))),?_⟩
 walk_at "1";have h2:=C.1
 have z:∀ (g:Int),1≤g→g≤d - 2→rk g < rk d→rk (d - 1 - g) < rk d →
   Zk7 [V.int c,V.int 3] H (fun x f=>Zk6 K n [x,V.int g,V.ref J] f (fun x f=>Zk7 [V.int c,V.int 4] f (fun N f=>Zk6 K n [N,V.int (d - 1 - g),V.ref J] f (fun M f =>
    4≤sizeLine∧∀ (p:Addr),f p=none→(0:Int) < 4∧∃ x_3,SqL K (upd f p (.lst [V.str "both",V.str "one",V.str "then",V.str "then"])) p x_3∧∃ x_4,atI x_3 (c % 4)=some x_4∧3≤sizeLine ∧
     ∀ (p_1:Addr),upd f p (.lst [V.str "both",V.str "one",V.str "then",V.str "then"]) p_1=none→Q (V.ref p_1) (upd (upd f p (.lst [V.str "both",V.str "one",V.str "then",V.str "then"])) p_1 (.tup [x_4,x,M]))) E0) E0) E0) E0:=by
  intro g X W R O;refine⟨_,_,rfl,by decide,by decide,?_⟩;refine⟨_,_,_,u,rfl,Zg5 _ _,by omega,by omega,by omega,G,C,fun x f a I L=>?_⟩;refine⟨_,_,rfl,by decide,by decide,?_⟩;refine⟨_,_,_,u,rfl,Zg5 _ _,by omega,by omega,by omega,I.seq G,C,fun y Z b Y m2=>?_⟩;refine⟨by decide,fun p v=>⟨by decide,_,.inl (.inl Za4),_,Wl3 (Int.emod_nonneg _ (by decide)) (Int.emod_lt_of_pos _ (by decide)),by decide,fun p1 l=>?_⟩⟩;have T:KeepT K Z (upd Z p (.lst [V.str "both",V.str "one",V.str "then",V.str "then"])):=Zd3 v;have B:=L.mono (Y.keepT.trans T) (Nat.le_refl _) (Nat.le_refl _);have S:=m2.mono T (Nat.le_refl _) (Nat.le_refl _);refine q _ _ _ (((I.trans Y).trans (Za6 v _)).trans (Za6 l _)) ((Xg6 B S l).mono (KeepT.refl _) (by omega) (by omega))
 refine ite2 (fun c3=>?_) (fun c3=>?_)
 ·exact⟨⟨by decide,by decide⟩,_,_,u,rfl,G,C,fun r H' t e m=>q r H' t e (m.mono (KeepT.refl _) (by omega) (by omega))⟩
 have d4:CDiv c 4:=⟨by decide,by decide⟩;have b4:CDiv (d - 1) 4:=⟨by decide,by decide⟩;have b2:CDiv (d - 1) 2:=⟨by decide,by decide⟩
 have F:d < 40→∀ m:Int,rk (1+m % (d - 1 - 1)) < rk d∧rk (d - 1 - (1+m % (d - 1 - 1))) < rk d∧1≤1+m % (d - 1 - 1)∧1+m % (d - 1 - 1)≤d - 2:=fun i m=>by
  have b0:=Int.emod_nonneg m (show d - 1 - 1≠0 by omega);have b1:=Int.emod_lt_of_pos m (show 0 < d - 1 - 1 by omega);exact⟨Xe3 (by omega) i (by omega),Xe3 (by omega) i (by omega),by omega,by omega⟩
 refine ite2 (fun i=>?_) (fun i=>?_)
 ·refine⟨d4,by decide,ite2 (fun c0=>?_) (fun c0=>?_)⟩
  ·refine⟨_,_,rfl,by decide,by decide,?_⟩
   have r0:=Wd2 (by omega) i;refine⟨_,_,_,u,rfl,Zg5 _ _,by omega,by omega,by omega,G,C,fun x f a I L=>?_⟩;refine⟨by decide,fun p v=>⟨by decide,fun p1 l=>?_⟩⟩;have B:=L.mono (Zd3 (o:=.tup [V.str "low"]) v) (Nat.le_refl _) (Nat.le_refl _);refine q _ _ _ ((I.trans (Za6 v _)).trans (Za6 l _)) ((Xg6 (k:=.thn) B (Yw8 u v) l).mono (KeepT.refl _) (by omega) (by omega))
  ·refine⟨_,_,rfl,by decide,by decide,_,rfl,by omega,ite2 (fun D=>by omega) (fun D=>?_)⟩
   obtain⟨R,O,X,W⟩:=F i (mix c 2);exact z _ X W R O
 ·refine⟨_,_,rfl,by decide,by decide,_,rfl,by omega,ite2 (fun D=>?_) (fun D=>by omega)⟩
  refine⟨b4,_,_,rfl,by decide,by decide,b2,_,rfl,by omega,?_⟩;have g0:=Int.emod_nonneg (mix c 2) (show (d - 1) / 2≠0 by omega);have g1:=Int.emod_lt_of_pos (mix c 2) (show 0 < (d - 1) / 2 by omega);exact z _ (by omega) (by omega) (Xs2 (by omega) U (by omega)) (Xs2 (by omega) U (by omega))
theorem Xo4 {f:Addr} {fd:FuncData} {ps:List Str} {k:Nat}:Fk0 P w K mg base k f fd ps (Zk6 K 0):=by
 have b:∀ a H Q E,¬ Zk6 K 0 a H Q E:=fun a H Q E h=>by
  obtain⟨c,e,l,j,_,_,_,_,g,_⟩:=h;exact absurd g (Nat.not_lt_zero _)
 exact⟨fun a H Q E h=>absurd h (b a H Q E),fun A d s H i m a Q E _ _ _ _ h=>absurd h (b a H Q E)⟩
theorem Xm6 {f_az0:Addr} {fd_az0:FuncData} (F_az0:Fun K "_law_statement" "_law_statement" (top 39) f_az0 fd_az0) (m_az0:MgI mg "_law_statement" f_az0) (b_az0:Binds K fd_az0 pq4 [])
  {f_as0:Addr}{fd_as0:FuncData}(G_as0:∀ k,Fk0 P w K mg base (k+1) f_as0 fd_as0 pq1 Zk7)(m_as0:MgI mg "_law_mix" f_as0)(k_as0:KpI K f_as0)(b_as0:Binds K fd_as0 pq1 [])
  {f_ap0:Addr}{fd_ap0:FuncData}(G_ap0:∀ k,Fk0 P w K mg base (k+1) f_ap0 fd_ap0 pq5 (Zy2 K))(m_ap0:MgI mg "_law_leaf" f_ap0)(k_ap0:KpI K f_ap0)(b_ap0:Binds K fd_ap0 pq5 []) :
  ∀ n:Nat,Fk0 P w K mg base (n+1) f_az0 fd_az0 pq4 (Zk6 K n)
 | 0=>Xo4
 | n+1=>Wg6 F_az0 (Xm6 F_az0 m_az0 b_az0 G_as0 m_as0 k_as0 b_as0 G_ap0 m_ap0 k_ap0 b_ap0 n) m_az0 F_az0.kp b_az0 (.of (G_as0 n) m_as0 k_as0 b_as0) (.of (G_ap0 n) m_ap0 k_ap0 b_ap0)
theorem sc_aq0:FnScope ["_law_term","_law_own","_law_rest"] ["_law_term","_law_own"] (Za5 (top 40)):=scm (by decide +kernel)
theorem Wh3 {k n:Nat} {f_aq0:Addr} {fd_aq0:FuncData} (F_aq0:Fun K "_law_lifted" "_law_lifted" (top 40) f_aq0 fd_aq0) (G_aq0:Fk0 P w K mg base k f_aq0 fd_aq0 pq16 (Zo5 K n)) (m_aq0:MgI mg "_law_lifted" f_aq0) (k_aq0:KpI K f_aq0) (b_aq0:Binds K fd_aq0 pq16 []) (m_int:mg "int"=none):Fk0 P w K mg base (k+1) f_aq0 fd_aq0 pq16 (Zo5 K (n+1)):=by
 refine F_aq0.ok sc_aq0 (fun vs H Q E h=>?_) (fun q4 A q3 s H vs Q E J h=>?_)
 ·obtain⟨v,t,f,D,rfl,_⟩:=h
  rfl
 obtain⟨v,t,f,D,rfl,N,G,hd,q⟩:=h
 refine⟨_,(Za3 (Zd2 (ptcM (Ze7) (pxt (pvM 0) Za2) Za9)
  (Za8 (Zb3 (pxl (Ze1 (Za0 (pvM 0) (Za0 (Zb5 (Za0 Za9 (Za0 (Zb6 Ze0 (pxt (pvM 0) Za2) Za2) Za1))) Za1))) (Zl0 Zt5 (by exact rfl) m_int Zp4 (Za0 (Zi0 (Yw3) (pxt (pvM 0) Za2) (pvM 1) (Zl2 _)) Za1)))))
  Zb4)
 (Za3 (Zd2 (ptcM (Ze7) (pxt (pvM 0) Za2) Za9)
  (Za8 (Zb3 (Zb5 (Za0 Za9 (Za0 (pxt (pvM 0) Za2) (Za0 (pcl G_aq0 J m_aq0 k_aq0 b_aq0 (Za0 (pxt (pvM 0) Za2) (Za0 (Zb6 Ze0 (pvM 1) Za2) Za1))) Za1))))))
  Zb4)
 (Za3 (Zd2 (ptcM (Ze7) (pxt (pvM 0) Za2) Za9)
  (Za3 (pst 2 sc_aq0.nd (Zb5 (Za0 (pcl G_aq0 J m_aq0 k_aq0 b_aq0 (Za0 (pxt (pvM 0) Za2) (Za0 (Zb6 Ze0 (pvM 1) Za2) Za1))) (Za0 (pcl G_aq0 J m_aq0 k_aq0 b_aq0 (Za0 (pxt (pvM 0) Za2) (Za0 (Zb6 Ze0 (pvM 1) Za2) Za1))) Za1))))
 (Za8 (Zb3 (Zb6 Xf5 (Zb5 (Za0 Za9 (Za0 (pcl G_aq0 J m_aq0 k_aq0 b_aq0 (Za0 (pxt (pvM 0) Za2) (Za0 (pvM 1) Za1))) Za1))) (pvM 2)))))
  Zb4)
 (Za3 (Zd2 (Zo8 (Zl1) (pxt (pvM 0) Za2) (Zb5 (Za0 Za9 (Za0 Za9 Za1))) (by with_unfolding_all rfl))
  (Za8 (Zb3 (Zb5 (Za0 (pxt (pvM 0) Za2) (Za0 (pcl G_aq0 J m_aq0 k_aq0 b_aq0 (Za0 (pxt (pvM 0) Za2) (Za0 (pvM 1) Za1))) (Za0 (pcl G_aq0 J m_aq0 k_aq0 b_aq0 (Za0 (pxt (pvM 0) Za2) (Za0 (pvM 1) Za1))) Za1))))))
  Zb4)
 (Za8 (Zb3 (Zb6 Xf5 (Zb5 (Za0 (pxt (pvM 0) Za2) (Za0 (pcl G_aq0 J m_aq0 k_aq0 b_aq0 (Za0 (pxt (pvM 0) Za2) (Za0 (pvM 1) Za1))) Za1))) (Zs3 Wc0 (pvM 0) (Zy9 Za2) Zz0)))))))),?_⟩
 walk_at "1"
 cases t with
 | «at» k0 =>
  obtain⟨p,rfl,d⟩:=isE_atV.mp N;refine⟨p,rfl,_,d,_,rfl,rfl,?_⟩;rw[if_pos (by rfl)];refine⟨p,rfl,_,d,_,rfl,_,rfl,by decide,fun L C=>⟨by decide,fun Y B=>?_⟩⟩;have F:=(Za6 C (.tup [.str "at",.int ((k0:Int)+1)])).trans (Za6 B (.lst [.ref p,.ref L]));refine⟨p,rfl,_,F.sqt d,_,rfl,_,rfl,.inr ⟨_,SqL.of Za4,?_⟩⟩
  by_cases c:f≤k0
  ·rw[if_pos (by omega)]
   refine⟨_,rfl,q _ _ F ?_⟩;show IsE K _ _ (.at (if f≤k0 then k0+1 else k0));rw[if_pos c];exact isE_atV.mpr ⟨L,rfl,Zd3 B _ _ (.inl (.inl Za4))⟩
  ·rw[if_neg (by omega)]
   refine⟨_,rfl,q _ _ F ?_⟩;show IsE K _ _ (.at (if f≤k0 then k0+1 else k0));rw[if_neg c];exact IsE.keep N F.keepT
 | one u a ss =>
  obtain⟨p,x,O,rfl,d,I,T⟩:=isE_oneV.mp N
  have q2:a.deep≤n:=by have:(Te.one u a ss).deep=1+a.deep:=rfl;omega
  refine⟨p,rfl,_,d,_,Zb7 (j:=0) rfl,rfl,?_⟩;rw[if_neg (by cases u<;>decide)];refine⟨p,rfl,_,d,_,Zb7 (j:=0) rfl,rfl,?_⟩;rw[if_neg (by cases u<;>decide)];refine⟨p,rfl,_,d,_,Zb7 (j:=0) rfl,rfl,?_⟩;rw[if_neg (by cases u<;>decide)];refine⟨p,rfl,_,d,_,Zb7 (j:=0) rfl,by decide,fun L C=>⟨_,.inr (.inl (.inl Za4)),rfl,rfl,?_⟩⟩;have i:=Za6 C (.tup [.str "pair",.str "use"]);rw[if_neg Bool.false_ne_true,if_neg (by cases u<;>decide)];refine⟨p,rfl,_,i.sqt d,_,Zb7 (j:=0) rfl,p,rfl,_,i.sqt d,_,Zb7 (j:=1) rfl,x,a,f,D,rfl,IsE.keep I i.keepT,G.1,q2,fun m H1 e g=>?_⟩
  have lr:O.length≤1:=by
   rw[DnAll.length T,List.length_map,G.2.1]
   cases u<;>decide
  refine⟨by decide,fun Y B=>⟨p,rfl,_,(Za6 B _).sqt (e.sqt (i.sqt d)),Xr6 _ _ _,fun p4 h4=>?_⟩⟩;rw[cut2];have s3:=Za6 B (.tup [.str u.str,m]);have l:=Za6 h4 (.tup O);have F:=((i.trans e).trans s3).trans l;refine⟨_,l.sqt (.inl (.inl Za4)),_,.inl (.inl Za4),by simp,Nat.le_of_lt (Zh8 (by show 2+O.length≤_;omega)),fun z=>q _ _ F ?_,fun _ p5 V=>q _ _ (F.trans (Za6 V _)) ?_⟩
  ·have q0:ss=[]:=by
    have:=DnAll.length T;rw[z,List.length_map] at this;exact List.length_eq_zero_iff.mp this.symm
   subst q0;exact isE_oneV.mpr ⟨Y,m,[],rfl,l.sqt (.inl (.inl Za4)),IsE.keep g (s3.trans l).keepT,dnAll_nil⟩
  ·have M:=Zd3 (K:=K) (o:=.tup ([.str u.str,m]++O)) V
   exact isE_oneV.mpr ⟨p5,m,O,rfl,.inl (.inl Za4),IsE.keep g ((s3.trans l).keepT.trans M),Xv6 (F.keepT.trans M) T⟩
 | two u a b =>
  obtain⟨p,x,y,rfl,d,I,S⟩:=isE_twoV.mp N;have ed:(Te.two u a b).deep=1+max a.deep b.deep:=rfl;refine⟨p,rfl,_,d,_,rfl,rfl,?_⟩;rw[if_neg (by cases u<;>decide)];refine⟨p,rfl,_,d,_,rfl,rfl,?_⟩;rw[if_neg (by cases u<;>decide)];refine⟨p,rfl,_,d,_,rfl,rfl,?_⟩;rw[if_neg (by cases u<;>decide)];refine⟨p,rfl,_,d,_,rfl,by decide,fun L C=>⟨_,.inr (.inl (.inl Za4)),rfl,rfl,?_⟩⟩;have i:=Za6 C (.tup [.str "pair",.str "use"]);rw[if_neg Bool.false_ne_true,if_pos (by cases u<;>decide)];refine⟨p,rfl,_,i.sqt d,_,rfl,p,rfl,_,i.sqt d,_,rfl,x,a,f,D,rfl,IsE.keep I i.keepT,G.1,by omega,fun m H1 e g=>⟨p,rfl,_,e.sqt (i.sqt d),_,rfl,y,b,f,D,rfl,IsE.keep S (i.trans e).keepT,G.2,by omega,fun R H2 W U=>⟨by decide,fun Y B=>q _ _ (((i.trans e).trans W).trans (Za6 B _)) ?_⟩⟩⟩;exact isE_twoV.mpr ⟨Y,m,R,rfl,.inl (.inl Za4),IsE.keep g (W.trans (Za6 B _)).keepT,IsE.keep U (Zd3 B)⟩
 | fn s a =>
  obtain⟨p,x,y,rfl,d,I,S⟩:=isE_fnV.mp N;have ed:(Te.fn s a).deep=1+a.deep:=rfl;refine⟨p,rfl,_,d,_,rfl,rfl,?_⟩;rw[if_neg (by decide)];refine⟨p,rfl,_,d,_,rfl,rfl,?_⟩;rw[if_pos (by rfl)];refine⟨p,rfl,_,d,_,rfl,p,rfl,_,d,_,rfl,y,a,f+1,D,rfl,S,G.2,by omega,fun r H1 e g=>⟨by decide,fun L C=>q _ _ (e.trans (Za6 C _)) ?_⟩⟩;exact isE_fnV.mpr ⟨L,x,r,rfl,.inl (.inl Za4),IsT.keep I (e.trans (Za6 C _)).keepT,IsE.keep g (Zd3 C)⟩
 | cs a b c =>
  obtain⟨p,x,y,z,rfl,d,I,S,hz⟩:=isE_csV.mp N;have ed:(Te.cs a b c).deep=1+max a.deep (max b.deep c.deep):=rfl;refine⟨p,rfl,_,d,_,rfl,rfl,?_⟩;rw[if_neg (by decide)];refine⟨p,rfl,_,d,_,rfl,rfl,?_⟩;rw[if_neg (by decide)];refine⟨p,rfl,_,d,_,rfl,rfl,?_⟩;rw[if_pos (by rfl)];refine⟨p,rfl,_,d,_,rfl,y,b,f+1,D,rfl,S,G.2.1,by omega,fun m H1 e g=>⟨p,rfl,_,e.sqt d,_,rfl,z,c,f+1,D,rfl,IsE.keep hz e.keepT,G.2.2,by omega,fun R H2 W U=>?_⟩⟩;refine⟨by decide,fun p1 h1=>?_⟩;have X:=(e.trans W).trans (Za6 h1 (.tup [m,R]));refine⟨p,rfl,_,X.sqt d,_,rfl,x,a,f,D,rfl,IsE.keep I X.keepT,G.1,by omega,fun r0 H3 Z q1=>⟨by decide,fun p4 h4=>?_⟩⟩;have l:=Za6 h4 (.tup [.str "cases",r0]);refine⟨_,.inl (.inl Za4),_,l.sqt (Z.sqt (.inl (.inl Za4))),by simp,by show 4≤sizeLine;decide,fun z=>absurd z (by simp),fun _ p5 V=>q _ _ (((X.trans Z).trans l).trans (Za6 V _)) ?_⟩;have M:=Zd3 (K:=K) (o:=.tup [.str "cases",r0,m,R]) V;exact isE_csV.mpr ⟨p5,r0,m,R,rfl,.inl (.inl Za4),IsE.keep q1 (l.keepT.trans M),IsE.keep g ((W.trans (Za6 h1 _)).keepT.trans ((Z.trans l).keepT.trans M)),IsE.keep U ((Za6 h1 _).keepT.trans ((Z.trans l).keepT.trans M))⟩
theorem Yz6 {f:Addr} {fd:FuncData} {ps:List Str} {k:Nat} (hl:ps.length=2):Fk0 P w K mg base k f fd ps (Zo5 K 0):=by
 refine⟨fun d H Q E h=>?_,fun A b s H g i d Q E j m l r a=>?_⟩
 ·obtain⟨v,t,f,c,rfl,_⟩:=h
  exact hl.symm
 ·obtain⟨v,t,f,c,_,_,_,e,_⟩:=a
  exact absurd e (by cases t<;>simp[Te.deep]<;>omega)
theorem Xm8 {f_aq0:Addr} {fd_aq0:FuncData} (F_aq0:Fun K "_law_lifted" "_law_lifted" (top 40) f_aq0 fd_aq0) (m_aq0:MgI mg "_law_lifted" f_aq0) (b_aq0:Binds K fd_aq0 pq16 []) (m_int:mg "int"=none):∀ n,Fk0 P w K mg base n f_aq0 fd_aq0 pq16 (Zo5 K n)
 | 0=>Yz6 rfl
 | n+1=>Wh3 F_aq0 (Xm8 F_aq0 m_aq0 b_aq0 m_int n) m_aq0 F_aq0.kp b_aq0 m_int
theorem Wg4 {k:Nat} {f_bb0:Addr} {fd_bb0:FuncData} (F_bb0:Fun K "_law_words" "_law_words" (top 37) f_bb0 fd_bb0) (m_range:mg "range"=none):Fk0 P w K mg base (k+1) f_bb0 fd_bb0 ["_law_cell_here","_law_many"] Yu4:=by
 refine F_bb0.ok sc_bb0 (fun vs H Q E h=>?_) (fun j3 A q6 s H vs Q E hr h=>?_)
 ·obtain⟨c,m,rfl,_⟩:=h
  rfl
 obtain⟨c,m,rfl,j2,h0,h1,q⟩:=h
 refine⟨_,(Za3 (pst 2 sc_bb0.nd (Ze1 (Za0 Za9 (Za0 Za9 (Za0 Za9 (Za0 Za9 (Za0 Za9 (Za0 Za9 Za1))))))))
 (Za3 (Zd2 (ptcM (Ze7) (Zb6 Zc6 (pvM 0) Za2) Za2)
  (Za8 (Yf3 (i:=2) sc_bb0.nd rfl (Or.inl rfl) (blk0 (N':=["_law_k"]) (by decide +kernel) (by decide +kernel) rfl (by decide +kernel)) rfl (Zz1 rfl m_range (Za0 Za2 Za1)) (fun _ _ _ _=>(Zc0 (i:=0) (show (["_law_k"]:List Str).Nodup from by decide +kernel) rfl (Or.inl rfl))) (fun _ _ _ _=>(Zb6 Yq3 Za9 (Zb6 Ze0 Za2 (pvM 0)))) rfl))
  Zb4)
 (Za3 (Zd2 (ptcM (Ze7) (Zb6 Zc6 (pvM 0) Za2) Za2)
  (Za3 (Zv0 (i:=3) sc_bb0.nd rfl (Or.inr rfl) (Zb6 Ze0 Za2 (Zb6 Zc6 (Zb6 Zd9 (pvM 0) Za2) Za2)))
 (Za3 (Zv0 (i:=4) sc_bb0.nd rfl (Or.inr rfl) (Zb6 Zc6 (Zb6 Zd9 (pvM 0) Za2) (pvM 3)))
 (Za8 (Yf3 (i:=2) sc_bb0.nd rfl (Or.inl rfl) (blkC (N':=["_law_k","_law_at","_law_size_here"]) (nt:=1) (ci:=[4,3]) ["_law_cell_here","_law_many","_law_some","_law_size_here","_law_at","_law_start"] (Za5 (top 37)) rfl rfl (by decide +kernel) rfl (by decide +kernel) (by decide +kernel) rfl (by decide +kernel)) rfl (Zz1 rfl m_range (Za0 Za2 Za1)) (fun _ _ _ _=>(Zc0 (i:=0) (show (["_law_k","_law_at","_law_size_here"]:List Str).Nodup from by decide +kernel) rfl (Or.inl rfl))) (fun _ _ _ _=>(Zb6 Yc5 (Zb6 Yc5 (Zb6 Yq3 Za9 (pvM 1)) (Xw6 Wj6 Za9 (pvM 0) (fun _ _=>rfl))) (Zb6 Yq3 Za9 (Zb6 Zh2 (Zb6 Zh2 (pvM 2) Za2) (pvM 1))))) rfl))))
  Zb4)
 (Za3 (Zd2 (ptcM (Ze7) (Zb6 Zc6 (pvM 0) Za2) Za2)
  (Za8 (pst 2 sc_bb0.nd (Ze1 (Za0 Za9 (Za0 Za9 (Za0 Za9 (Za0 Za9 (Za0 Za9 (Za0 Za9 Za1)))))))))
  Zb4)
 (Za3 (pst 5 sc_bb0.nd (Zb6 Zc6 (Zb6 Zd9 (pvM 0) Za2) Za2))
 (Za8 (Zb3 (Zs3 Ye5 (Zb6 Yw4 (Zs3 Ye5 (pvM 2) (Zy9 (pvM 5)) Zz0) (Zs3 Ye5 (pvM 2) Zz0 (Zy9 (pvM 5)))) Zz0 (Zy9 (pvM 1)))))))))),?_⟩
 have J:∀ (ws:List Str) (F:Hp) (p:Addr),Same H F→F p=none→ws.length=6→(ws.all Xu7)=true→Six H (upd F p (.lst (ws.map V.str))) p ws:=fun ws F p e y hl hw =>
  ⟨e.trans (Za6 y _),e.free y,Za4,hl,fun x u=>Xu6 (List.all_eq_true.mp hw x u)⟩
 refine sqt (fun f v=>∃ p ws b a,f=[some (.int c),some (.int m),some (.ref p),b,a,none]∧Six H v p ws) ?_ ?_
 ·intro C o
  walk_at "1";exact⟨by decide,fun p y=>o _ _ ⟨p,["a","b","c","d","e","f"],none,none,rfl,J ["a","b","c","d","e","f"] H p (Same.refl H) y rfl (by decide +kernel)⟩⟩
 rintro j0 F ⟨p1,w1,b,a,rfl,U⟩;refine sqt (fun f v=>∃ p ws b a,f=[some (.int c),some (.int m),some (.ref p),b,a,none]∧Six H v p ws) ?_ ?_
 ·intro C o
  walk_at "1";refine⟨by decide,ite2 (fun _=>?_) (fun _=>o _ _ ⟨p1,w1,b,a,rfl,U⟩)⟩;unfold tLC;walk_at "1";refine⟨by decide,by decide,fun t j=>?_⟩;refine Yl5 (n:=6) (lo:=0) (fun i g D=>D=upd F t (.lst g)∧∃ ws,g=ws.map V.str∧ws.length=i∧∀ x∈ws,Word x) ⟨rfl,[],rfl,rfl,by simp⟩ (fun i g D hi ⟨e,ws,e2,e3,_⟩=>?_) (fun i g D hi ⟨e,ws,e2,e3,r⟩ C' hC'=>?_) (fun g D ⟨e,ws,e2,e3,r⟩=>?_)
  ·subst e;subst e2
   refine⟨Za4,?_⟩;rw[List.length_map,e3];exact Zi5 (by omega)
  ·subst e;subst e2
   walk_at "1";refine⟨Yd7,by decide,by omega,by omega,?_⟩;refine hC' _ _ Za4 ⟨by rw[Xb8],ws++[Txt.mul "k" (1+(0+(i:Int)))],by rw[List.map_append];rfl,by rw[List.length_append,e3];rfl,fun x u=>?_⟩;rcases List.mem_append.mp u with z | z
   ·exact r x z
   ·have O:x=Txt.mul "k" (1+(0+(i:Int))):=by simpa using z
    rw[O];exact Xn4 (c:=107) (by decide) (by decide) (by omega) (by omega)
  ·subst e;subst e2
   exact o _ _ ⟨t,ws,b,a,rfl,U.1.trans (Za6 j _),U.1.free j,Za4,e3,r⟩
 rintro q9 D ⟨p2,w2,b,a,rfl,T⟩;refine sqt (fun f v=>∃ p ws b a,f=[some (.int c),some (.int m),some (.ref p),b,a,none]∧Six H v p ws) ?_ ?_
 ·intro C o
  walk_at "1";refine⟨by decide,ite2 (fun _=>?_) (fun _=>o _ _ ⟨p2,w2,b,a,rfl,T⟩)⟩;refine⟨⟨by decide,by decide⟩,by decide,⟨by decide,by decide⟩,by omega,?_⟩;unfold tLC;walk_at "1";refine⟨by decide,by decide,fun t j=>?_⟩;have a0:=Int.emod_nonneg (c / 32) (show 1+c / 4 % 8≠0 by omega);have a1:=Int.emod_lt_of_pos (c / 32) (show 0 < 1+c / 4 % 8 by omega);generalize ea:c / 32 % (1+c / 4 % 8)=at' at a0 a1 ⊢;generalize es:1+c / 4 % 8=size at a1 ⊢
  have j1:size≤8:=by omega
  refine Yl5 (n:=6) (lo:=0) (fun i g B=>B=upd D t (.lst g)∧∃ ws,g=ws.map V.str∧ws.length=i∧∀ x∈ws,Word x) ⟨rfl,[],rfl,rfl,by simp⟩ (fun i g B hi ⟨e,ws,e2,e3,_⟩=>?_) (fun i g B hi ⟨e,ws,e2,e3,r⟩ C' hC'=>?_) (fun g B ⟨e,ws,e2,e3,r⟩=>?_)
  ·subst e;subst e2
   refine⟨Za4,?_⟩;rw[List.length_map,e3];exact Zi5 (by omega)
  ·subst e;subst e2
   walk_at "1"
   have q5:∃ d:Nat,atI ("aghmxz":Str).cps.toList (0+(i:Int))=some d∧97≤d∧d≤122:=by
    have:i=0∨i=1∨i=2∨i=3∨i=4∨i=5:=by omega
    rcases this with rfl | rfl | rfl | rfl | rfl | rfl
    ·exact⟨97,rfl,by decide,by decide⟩
    ·exact⟨103,rfl,by decide,by decide⟩
    ·exact⟨104,rfl,by decide,by decide⟩
    ·exact⟨109,rfl,by decide,by decide⟩
    ·exact⟨120,rfl,by decide,by decide⟩
    ·exact⟨122,rfl,by decide,by decide⟩
   obtain⟨d,hd,d1,d2⟩:=q5
   have l1:(Txt.mul "m" at').length≤8:=by rw[show ("m":Str)=⟨#[109]⟩ from rfl,Xg2];omega
   have l2:(Txt.mul "m" (size - 1 - at')).length≤8:=by rw[show ("m":Str)=⟨#[109]⟩ from rfl,Xg2];omega
   have l3:(⟨#[d]⟩:Str).length=1:=rfl
   have R:(Txt.mul "m" at'++(⟨#[d]⟩:Str)).length≤9:=by rw[strLen_append];omega
   refine⟨Yd7,by decide,by omega,by omega,by decide,d,hd,?_,by decide,by omega,by omega,?_,?_⟩
   ·exact Nat.le_of_lt (Zi5 (by omega))
   ·exact Nat.le_of_lt (Zi5 (by omega))
   refine hC' _ _ Za4 ⟨by rw[Xb8],ws++[Txt.mul "m" at'++(⟨#[d]⟩:Str)++Txt.mul "m" (size - 1 - at')],by rw[List.map_append];rfl,by rw[List.length_append,e3];rfl,fun x u=>?_⟩;rcases List.mem_append.mp u with z | z
   ·exact r x z
   ·have O:x=Txt.mul "m" at'++(⟨#[d]⟩:Str)++Txt.mul "m" (size - 1 - at'):=by simpa using z
    rw[O];exact Xn5 (c:=109) (by decide) (by decide) d1 d2 (by omega) (by omega) (by omega)
  ·subst e;subst e2
   exact o _ _ ⟨t,ws,_,_,rfl,T.1.trans (Za6 j _),T.1.free j,Za4,e3,r⟩
 rintro q8 B ⟨p3,w3,b,a,rfl,S3⟩;refine sqt (fun f v=>∃ p ws b a,f=[some (.int c),some (.int m),some (.ref p),b,a,none]∧Six H v p ws) ?_ ?_
 ·intro C o
  walk_at "1";refine⟨by decide,ite2 (fun _=>?_) (fun _=>o _ _ ⟨p3,w3,b,a,rfl,S3⟩)⟩;exact⟨by decide,fun p y=>o _ _ ⟨p,["low","one","both","then","letter","lows"],_,_,rfl,J ["low","one","both","then","letter","lows"] B p S3.1 y rfl (by decide +kernel)⟩⟩
 rintro q7 H4 ⟨p4,l,b,a,rfl,S4⟩;walk_at "1";have b0:=Int.emod_nonneg (c / 256) (show (6:Int)≠0 by decide);have b1:=Int.emod_lt_of_pos (c / 256) (show (0:Int) < 6 by decide);generalize c / 256 % 6=st at b0 b1 ⊢;obtain⟨r,f4,S,R,X⟩:=S4;refine⟨⟨by decide,by decide⟩,by decide,l.map V.str,.inl (.inl S),fun q1 M=>⟨l.map V.str,?_,fun W I=>?_⟩⟩
 ·exact Wb9 (.inl (.inl S)) (Zb0 S M)
 have Y:W≠q1:=fun z=>by subst z;rw[Za4] at I;cases I
 refine⟨cutV (l.map V.str) (some st) none,?_,cutV (l.map V.str) none (some st),Za4,?_,fun q3 q0=>⟨_,.inl (.inl Za4),fun q4 G=>?_⟩⟩
 ·rw[Zb1 (Ne.symm Y),Za4]
 ·have z1:=Zm3 (l.map V.str) (some st) none
  have z2:=Zm3 (l.map V.str) none (some st);rw[List.length_map] at z1 z2;exact Nat.le_of_lt (Zi5 (by omega))
 rw[Ya5,Ya5,← List.map_append] at G ⊢;rw[Ya5];have N:Same H4 (upd (upd (upd H4 q1 (.lst (cutV (l.map V.str) (some st) none))) W (.lst (cutV (l.map V.str) none (some st)))) q3 (.lst (cutV (l.map V.str) (some st) none++cutV (l.map V.str) none (some st)))):=((Za6 M _).trans (Za6 I _)).trans (Za6 q0 _);rw[Ya5,Ya5,← List.map_append] at N;have eA:=r.trans N
 have L:st=((st.toNat:Nat):Int):=by omega
 have hm:m=((m.toNat:Nat):Int):=by omega
 refine q _ _ _ (eA.trans (Za6 G _)) (eA.free G) Za4 ⟨?_,?_,fun x u=>?_⟩
 ·rw[L,hm]
  simp only[List.length_take,List.length_drop,List.length_append,HT.sIx_nat,HT.sIx_none,R];omega
 ·rw[L,hm]
  simp only[List.length_take,List.length_drop,List.length_append,HT.sIx_nat,HT.sIx_none,R];omega
 ·have Z:=List.mem_of_mem_drop (List.mem_of_mem_take u)
  rcases List.mem_append.mp Z with z | z
  ·exact X x (List.mem_of_mem_drop (List.mem_of_mem_take z))
  ·exact X x (List.mem_of_mem_drop (List.mem_of_mem_take z))
theorem sc_ay0:FnScope ["_law_statement_here","_law_many","_law_todo","_law_here"] ["_law_statement_here"] (Za5 (top 41)):=scm (by decide +kernel)
noncomputable def sumP (ts:List Tm):Nat:=(ts.map Tm.parts).sum
theorem Zg3 (t:Tm) (ts:List Tm):sumP (t :: ts)=t.parts+sumP ts:=by unfold sumP;rw[List.map_cons,List.sum_cons]
theorem Yw9:∀ ts:List Tm,ts.length≤sumP ts
 | []=>Nat.le_refl _
 | t :: ts=>by
  rw[Zg3,List.length_cons];have:=Yw9 ts;have:=t.parts_pos;omega
theorem Yh2 {K:W.Frag} {H:Hp}:∀ {us:List V} {ts:List Tm},Paired (IsT K H) us ts→DnAll K H us (ts.map Tm.data)
 | _,_,.nil=>dnAll_nil
 | _,_,.cons h t=>dnAll_cons h (Yh2 t)
theorem Zv2 (ds:List PyData):PyData.eqv (.list ds) (.list [])=ds.isEmpty:=by
 cases ds<;>simp[PyData.eqv,PyData.eqvAll]
theorem Wg7 {k:Nat} {f_ay0:Addr} {fd_ay0:FuncData} (F_ay0:Fun K "_law_size" "_law_size" (top 41) f_ay0 fd_ay0) (m_len:mg "len"=none):Fk0 P w K mg base (k+1) f_ay0 fd_ay0 ["_law_statement_here"] (Ye2 K):=by
 refine F_ay0.ok sc_ay0 (fun vs H Q E h=>?_) (fun q7 A q1 s H vs Q E hr h=>?_)
 ·obtain⟨v,t,rfl,_⟩:=h
  rfl
 obtain⟨v,t,rfl,hT,q0,hp,q⟩:=h
 refine⟨_,(Za3 (pst 1 sc_ay0.nd Za2)
 (Za3 (pst 2 sc_ay0.nd (Ze1 (Za0 (pvM 0) Za1)))
 (Za3 (Yv3 PassesOwn.never (ptcM (Xs6 (Zl3 hr)) (pvM 2) (Ze1 Za1))
  (Za3 (pst 3 sc_ay0.nd (Xf4 F.plainAttrs_list F.slot_list_pop F.type_list_pop Xg3 (pvM 2)))
 (Za3 (Wd6 (i:=1) sc_ay0.nd rfl (Or.inl rfl) Za2 Wj7)
 (Za8 (Zd2 (ptcM (Ze7) (Zd1 Zc9 (by exact rfl) m_len Zf4 (Za0 (pvM 3) Za1)) Za2)
  (Za8 (Zm1 (Zz2 F.plainAttrs_list F.slot_list_extend F.type_list_extend Yl1 (pvM 2) (Za0 (Ze1 (Za0 (pxt (pvM 3) Za2) (Za0 (pxt (pvM 3) Za2) Za1))) Za1))))
  Zb4)))))
 (Za8 (Zb3 (pvM 1)))))),?_⟩
 refine sqt (fun c f=>c=[some v,some (.int 0),none,none]∧f=H) ?_ ?_
 ·intro C S
  walk_at "1";exact S _ _ ⟨rfl,rfl⟩
 rintro q6 I ⟨rfl,rfl⟩;refine sqt (fun c f=>∃ l,c=[some v,some (.int 0),some (.ref l),none]∧Same I f∧I l=none∧f l=some (.lst [v])) ?_ ?_
 ·intro C S
  walk_at "1";exact⟨by decide,fun l M=>S _ _ ⟨l,rfl,Za6 M _,M,Za4⟩⟩
 rintro q5 G ⟨l,rfl,e2,f2,h2⟩;refine sqt (fun c f=>∃ D,c=[some v,some (.int (t.parts:Nat)),some (.ref l),D]∧Same I f) ?_ ?_
 ·intro C S
  refine⟨fun m c f=>∃ d ts n D,m=sumP ts∧n+m=t.parts∧c=[some v,some (.int (n:Nat)),some (.ref l),D]∧Same I f∧f l=some (.lst d.reverse)∧Paired (IsT K f) d ts∧∀ s∈ts,s.ok,
   ⟨_,[v],[t],0,none,rfl,by rw[Zg3];show 0+(t.parts+0)=_;omega,rfl,e2,h2,.cons (IsT.keep hT e2.keepT) .nil,fun s g=>by rw[List.mem_singleton.mp g];exact q0⟩,?_⟩
  rintro m c f ⟨d,ts,n,D,rfl,hn,rfl,e,M,hd,ho⟩;walk_at "3";refine⟨by decide,fun p B=>?_⟩
  have y:upd f p (.lst []) l=some (.lst d.reverse):=by rw[Zb1 (Zb0 M B)];exact M
  have kA:=Zd3 (K:=K) (o:=.lst []) B;have W:Paired (IsT K (upd f p (.lst []))) d ts:=Paired.mapP hd fun _ _ z=>IsT.keep z kA;refine⟨.list (ts.reverse.map Tm.data),by rw[Dn];exact⟨l,_,rfl,SqL.of y,Yh2 (Zo9 W)⟩,.list [],by rw[Dn];exact⟨p,_,rfl,SqL.of Za4,dnAll_nil⟩,Yg5 (fun s g=>ho s (List.mem_reverse.mp g)),rfl,Nat.le_trans (Nat.min_le_right _ _) (by decide),?_⟩;rw[if_pos trivial,Zv2]
  cases W with
  | nil =>
   rw[if_neg (by decide)];refine S _ _ ⟨D,?_,e.trans (Za6 B _)⟩
   have:n=t.parts:=by rw[← hn];rfl
   rw[this]
  | @cons u i d is hi hst =>
   have Z:(u :: d).reverse=d.reverse++[u]:=List.reverse_cons;rw[if_pos (by rw[List.reverse_cons,List.map_append];simp)];refine opq fun N hN=>?_;rw[Z] at y;rw[Zg3] at hn;have f1:∀ {b:Addr} {o:HO},I b=some o→f b=some o:=fun h=>e _ _ h;refine sqt (fun c G=>c=[some v,some (.int (n:Nat)),some (.ref l),some u]∧Same I G∧KeepT K (upd f p (.lst [])) G∧G l=some (.lst d.reverse)) ?_ ?_
   ·intro C' R
    walk_at "1";refine⟨.inl ⟨rfl,_,SqL.of y⟩,_,y,u,by simp,?_⟩;rw[List.dropLast_concat];exact R _ _ ⟨rfl,(e.trans (Za6 B _)).write f2,Zf2 y,Za4⟩
   rintro q3 H4 ⟨rfl,e4,k4,T⟩;refine sqt (fun c G=>c=[some v,some (.int ((n+1:Nat):Int)),some (.ref l),some u]∧G=H4) ?_ ?_
   ·intro C' R
    walk_at "1";exact R _ _ ⟨rfl,rfl⟩
   rintro q2 H5 ⟨rfl,rfl⟩;have O:=IsT.keep hi k4;have j:Paired (IsT K H5) d is:=Paired.mapP hst fun _ _ z=>IsT.keep z k4;have oi:=ho i List.mem_cons_self;have J:∀ s∈is,s.ok:=fun s g=>ho s (List.mem_cons_of_mem _ g);have l3:=Paired.length j;have l4:=Yw9 is;walk_at "1"
   cases i with
   | low =>
    obtain⟨a,rfl,g⟩:=isT_low.mp O;refine⟨_,rfl,_,.inr g,?_⟩;rw[if_neg (by decide)];exact hN _ _ ⟨sumP is,by rw[Zg3];show _ < 1+_;omega,d,is,rfl,n+1,by have:Tm.low.parts=1:=rfl;omega,_,rfl,e4,T,j,J⟩
   | ltr x =>
    obtain⟨a,rfl,g⟩:=isT_ltr.mp O;refine⟨_,rfl,_,.inr g,?_⟩;rw[if_neg (by simp)];exact hN _ _ ⟨sumP is,by rw[Zg3];show _ < 1+_;omega,d,is,rfl,n+1,by have:(Tm.ltr x).parts=1:=rfl;omega,_,rfl,e4,T,j,J⟩
   | nd kd a b =>
    obtain⟨pt,V,U,rfl,g,hx,hy⟩:=isT_nd.mp O;refine⟨_,rfl,_,.inr g,?_⟩;rw[if_pos (by rfl)];have pe:(Tm.nd kd a b).parts=1+a.parts+b.parts:=rfl;refine⟨.inl ⟨rfl,_,SqL.of T⟩,pt,rfl,_,g,_,rfl,pt,rfl,_,g,_,rfl,by decide,fun p2 L=>?_⟩
    have X:upd H5 p2 (.lst [V,U]) l=some (.lst d.reverse):=by rw[Zb1 (Zb0 T L)];exact T
    have Y:=(Zd3 (K:=K) (o:=.lst [V,U]) L).trans (Zf2 (o:=.lst (d.reverse++[V,U])) X);refine⟨_,X,_,Za4,?_,hN _ _ ⟨sumP (b :: a :: is),?_,U :: V :: d,b :: a :: is,rfl,n+1,?_,_,rfl,(e4.trans (Za6 L _)).write f2,?_,?_,?_⟩⟩
    ·rw[List.length_reverse];exact Nat.le_of_lt (Zh8 (by show d.length+2≤_;omega))
    ·rw[Zg3,Zg3,Zg3];omega
    ·rw[Zg3,Zg3];omega
    ·rw[Za4,List.reverse_cons,List.reverse_cons,List.append_assoc];rfl
    ·exact .cons (IsT.keep hy Y) (.cons (IsT.keep hx Y) (Paired.mapP j fun _ _ z=>IsT.keep z Y))
    ·intro s r
     rcases List.mem_cons.mp r with rfl | r
     ·exact oi.2
     ·rcases List.mem_cons.mp r with rfl | r
      ·exact oi.1
      ·exact J s r
 rintro q4 H3 ⟨D,rfl,e3⟩;walk_at "1";exact q _ e3
theorem sc_ax0:FnScope ["_law_cell_here","_law_given_here","_law_words_here","_law_here"] ["_law_cell_here","_law_given_here","_law_words_here"] (Za5 (top 42)):=scm (by decide +kernel)
theorem Xz9 {H:Hp} {l:Addr} {us:List V} {ts:List Tm} (h:SqL K H l us) (p:Paired (IsT K H) us ts):Dn K H (.ref l) (.list (ts.map Tm.data)):=by rw[Dn];exact⟨l,us,rfl,h,Yh2 p⟩
theorem Wg8 {k:Nat} {f_ax0:Addr} {fd_ax0:FuncData} (F_ax0:Fun K "_law_simple" "_law_simple" (top 42) f_ax0 fd_ax0) (C__law_statement:Cl P w K mg base k "_law_statement" pq4 (Zk6 K 12)) (m_len:mg "len"=none):Fk0 P w K mg base (k+1) f_ax0 fd_ax0 pq0 (Zo4 K):=by
 refine F_ax0.ok sc_ax0 (fun vs H Q E h=>?_) (fun q1 A Z s H vs Q E S h=>?_)
 ·obtain⟨c,V,y,ws,a,n,rfl,_⟩:=h
  rfl
 obtain⟨c,V,y,ws,a,n,rfl,hc,G,hl,q⟩:=h;have lg:=Paired.length G.p
 refine⟨_,(Za3 (Zd2 ((Yk3 (ptcM (Zz5 (Zl3 S)) (pvM 1) (Ze1 Za1)) (Yk2 (ptcM (Ze7) (Zb6 Zc6 (pvM 0) Za2) Za2)))).pt
  (Za3 (pst 3 sc_ax0.nd (Zc2 C__law_statement S (Za0 (Zb6 Zd9 (pvM 0) Za2) (Za0 (Zb6 Ze0 Za2 (Zb6 Zc6 (Zb6 Zd9 (pvM 0) Za2) Za2)) (Za0 (pvM 2) Za1)))))
 (Za8 (Zb3 (Zb5 (Za0 (Zb5 (Za0 Za9 (Za0 (pvM 3) (Za0 (Zb5 (Za0 Za9 (Za0 Za2 Za1))) Za1)))) (Za0 (Zb5 (Za0 Za9 (Za0 (pvM 3) (Za0 (pvM 3) Za1)))) Za1))))))
  Zb4)
 (Za8 (Zb3 (Zb5 (Za0 (Zb5 (Za0 Za9 (Za0 (Zb6 Zc6 (Zb6 Zd9 (pvM 0) Za2) (Zd1 Zc9 (by exact rfl) m_len Zf4 (Za0 (pvM 1) Za1))) Za1))) (Za0 (pxl (pvM 1) (Zb6 Zc6 (Zb6 Zd9 (pvM 0) Za2) (Zd1 Zc9 (by exact rfl) m_len Zf4 (Za0 (pvM 1) Za1)))) Za1)))))),?_⟩
 refine sqt (fun J H'=>∃ L,J=[some (.int c),some (.ref V),some (.ref y),L]∧Same H H'∧n≠[]) ?_ ?_
 ·intro C hC
  walk_at "1";refine⟨by decide,fun N h1=>?_⟩;have z:=Za6 h1 (.lst []);have e:=G.keep z;refine⟨_,Xz9 (SqL.of e.g) e.p,.list [],by rw[Dn];exact⟨N,_,rfl,SqL.of Za4,dnAll_nil⟩,Yg5 (fun s hs=>(G.o s hs).1.ok G.wo.2.2),rfl,Nat.le_trans (Nat.min_le_right _ _) (by decide),?_⟩;rw[if_neg Bool.false_ne_true,Zv2];have a0:=Int.emod_nonneg (c / 7) (show (4:Int)≠0 by decide);have a1:=Int.emod_lt_of_pos (c / 7) (show (0:Int) < 4 by decide)
  have v:Zk6 K 12 [.int (c / 7),.int (1+c / 7 % 4),.ref y] (upd H N (.lst [])) (fun x m=>2≤sizeLine∧∀ p,m p=none→3≤sizeLine∧∀ p_1,upd m p (.tup [.str "at",.int 0]) p_1=none→3≤sizeLine∧∀ p_2,upd (upd m p (.tup [.str "at",.int 0])) p_1 (.tup [.str "fun",x,.ref p]) p_2=none→2≤sizeLine ∧
    ∀ p_3,upd (upd (upd m p (.tup [.str "at",.int 0])) p_1 (.tup [.str "fun",x,.ref p])) p_2 (.tup [.str "then",x,x]) p_3=none→Q (.ref p_3) (upd (upd (upd (upd m p (.tup [.str "at",.int 0])) p_1 (.tup [.str "fun",x,.ref p])) p_2 (.tup [.str "then",x,x])) p_3 (.tup [.ref p_1,.ref p_2]))) E0:=by
   refine Zm9 (by omega) (by omega) (by omega) e.w G.wo fun r H2 t e2 F D hp=>⟨by decide,fun l I=>⟨by decide,fun B u=>⟨by decide,fun M h4=>⟨by decide,fun p5 h5=>?_⟩⟩⟩⟩;have b:=Za6 I (.tup [.str "at",.int 0]);have d:=Za6 u (.tup [.str "fun",r,.ref l]);have i:=Za6 h4 (.tup [.str "then",r,r]);have f:=Za6 h5 (.tup [.ref B,.ref M])
   have pt:t.parts≤4:=by omega
   refine q _ _ ((((z.trans e2).trans b).trans d).trans (i.trans f)) (Zg7 (t:=.fn t (.at 0)) (g:=.nd .thn t t) (.inl (.inl Za4)) ?_ ?_ ⟨⟨D,by omega⟩,trivial⟩ (Nat.le_refl _) (Nat.le_refl _) ⟨D,D⟩ (by show 1+t.parts+t.parts≤60;omega))
   ·exact isE_fnV.mpr ⟨B,r,.ref l,rfl,(i.trans f).sqt (.inl (.inl Za4)),IsT.keep F (((b.trans d).trans i).trans f).keepT,isE_atV.mpr ⟨l,rfl,((d.trans i).trans f).sqt (.inl (.inl Za4))⟩⟩
   ·exact isT_nd.mpr ⟨M,r,r,rfl,f.sqt (.inl (.inl Za4)),IsT.keep F (((b.trans d).trans i).trans f).keepT,IsT.keep F (((b.trans d).trans i).trans f).keepT⟩
  by_cases ce:n=[]
  ·rw[if_pos (by rw[ce];rfl),if_pos trivial]
   exact⟨⟨by decide,by decide⟩,⟨by decide,by decide⟩,by decide,v⟩
  ·rw[if_neg (by cases n with | nil=>exact absurd rfl ce | cons _ _=>simp)]
   refine⟨by decide,ite2 (fun _=>⟨⟨by decide,by decide⟩,⟨by decide,by decide⟩,by decide,v⟩) fun _=>hC _ _ ⟨_,rfl,z,ce⟩⟩
 rintro q0 m ⟨L,rfl,X,T⟩;walk_at "1";have e:=G.keep X
 have lp:0 < a.length:=by
  rw[lg]
  cases n with
  | nil=>exact absurd rfl T
  | cons _ _=>simp
 have Y:=Int.emod_nonneg (c / 7) (show (a.length:Int)≠0 by omega);have b1:=Int.emod_lt_of_pos (c / 7) (show (0:Int) < (a.length:Int) by omega);refine⟨⟨by decide,by decide⟩,a,.inl (SqL.of e.g),by omega,by decide,?_⟩;generalize W:c / 7 % (a.length:Int)=jj at Y b1 ⊢;obtain⟨j,rfl⟩:=Int.eq_ofNat_of_zero_le Y;intro l I;have b:=Za6 I (.tup [.str "at",.int (j:Nat)])
 have R:j < a.length:=by omega
 obtain⟨g,hg,U⟩:=paired_get e.p (List.getElem?_eq_getElem R);have O:=G.o g (List.mem_of_getElem? hg);refine⟨⟨by decide,by decide⟩,a,.inl (SqL.of (b _ _ e.g)),by omega,a,SqL.of (b _ _ e.g),a[j],by rw[W];exact Zb7 (List.getElem?_eq_getElem R),by decide,fun B u=>?_⟩;have d:=Za6 u (.tup [.ref l,a[j]]);refine q _ _ ((X.trans b).trans d) (Zg7 (t:=.at j) (g:=g) (.inl (.inl Za4)) ?_ (IsT.keep U (b.trans d).keepT) trivial (by show 1≤2;omega) (by show 1≤2;omega) O.1 O.2);exact isE_atV.mpr ⟨l,rfl,Zd3 u _ _ (.inl (.inl Za4))⟩
theorem sc_aw0:FnScope ["_law_cell_here","_law_size_here","_law_given_here","_law_words_here","_law_term","_law_shape","_law_other"] ["_law_cell_here","_law_size_here","_law_given_here","_law_words_here"] (Za5 (top 43)):=scm (by decide +kernel)
theorem sc_ar0:FnScope ["_law_cell_here","_law_size_here","_law_given_here","_law_words_here","_law_found","_law_more"] ["_law_cell_here","_law_size_here","_law_given_here","_law_words_here"] (Za5 (top 47)):=scm (by decide +kernel)
theorem sc_af0:FnScope ["_law_cell_here","_law_size_here","_law_given_here","_law_words_here","_law_form","_law_seed","_law_one","_law_shape","_law_other","_law_more","_law_term","_law_here"] ["_law_cell_here","_law_size_here","_law_given_here","_law_words_here"] (Za5 (top 46)):=scm (by decide +kernel)
theorem at2 {a b:V} {c:Int} (h0:0≤c) (h1:c < 2) {p:V→Prop} (ha:c=0→p a) (hb:c=1→p b):∃ x,atI [a,b] c=some x∧p x:=by
 have:c=0∨c=1:=by omega
 rcases this with rfl | rfl
 ·exact⟨a,rfl,ha rfl⟩
 ·exact⟨b,rfl,hb rfl⟩
theorem Wg9 {k n:Nat} {f_aw0:Addr} {fd_aw0:FuncData} (F_aw0:Fun K "_law_sided" "_law_sided" (top 43) f_aw0 fd_aw0) (C__law_made:Cl P w K mg base k "_law_made" pq3 (Zf8 K 0 n 60)) (C__law_simple:Cl P w K mg base k "_law_simple" pq0 (Zo4 K)) (C__law_mix:Cl P w K mg base k "_law_mix" pq1 (Zk7)):Fk0 P w K mg base (k+1) f_aw0 fd_aw0 pq3 (Zf8 K 2 (n+1) 60):=by
 refine F_aw0.ok sc_aw0 (fun vs H Q E h=>?_) (fun j6 A j2 s H vs Q E hr h=>?_)
 ·obtain⟨c,m,ga,Y,X,gs,ts,rfl,_⟩:=h
  rfl
 obtain⟨c,m,ga,Y,X,gs,ts,rfl,hc,lo,hn,q0,G,hl,q⟩:=h;have c0:=Int.emod_nonneg c (show (2:Int)≠0 by decide);have c1:=Int.emod_lt_of_pos c (show (0:Int) < 2 by decide);obtain⟨d1,d2,d3,d4,d5,d6,d7⟩:=Zw9 m q0 lo;obtain⟨z1,z2,z3,z4⟩:=Zw4 m q0 lo
 refine⟨_,(Za3 (Zk9 (Zc2 C__law_made hr (Za0 (Zc2 C__law_mix hr (Za7 (pvM 0) (Zb2 Za2 Za1))) (Za0 (Zb6 Zh2 (pvM 1) Za2) (Za7 (pvM 2) (Za7 (pvM 3) Za1))))) (Zg4 rfl (Zb8 (Zc0 (i:=4) sc_aw0.nd rfl (Or.inl rfl)) (Zb8 (Zc0 (i:=5) sc_aw0.nd rfl (Or.inl rfl)) Ze3))))
 (Za3 (Zd2 (ptcM (Ze7) (pxt (pvM 5) Za2) Za9)
  (Za8 (Zb3 (pxl (Ze1 (Zc4 (Zb5 (Zc4 (Zb5 (Zb2 Za9 (Za7 (pvM 4) Za1))) (Zp0 (pxt (pvM 5) Za2) Za1))) (Zc4 (Zb5 (Zc4 (Zb5 (Zb2 Za9 (Za7 (pvM 4) Za1))) (Zp0 (pxt (pvM 5) Za2) Za1))) Za1))) (Zb6 Zc6 (pvM 0) Za2))))
  Zb4)
 (Za3 (pst 6 sc_aw0.nd (pxt (Zc2 C__law_simple hr (Za0 (Zc2 C__law_mix hr (Za7 (pvM 0) (Zb2 Za2 Za1))) (Za7 (pvM 2) (Za7 (pvM 3) Za1)))) Za2))
 (Za8 (Zb3 (Zb5 (Zp0 (pxl (Ze1 (Zc4 (Zb5 (Zb2 Za9 (Zc4 (Zb5 (Zb2 Za9 (Za7 (pvM 4) (Za7 (pvM 6) Za1)))) Za1))) (Zc4 (Zb5 (Zb2 Za9 (Zc4 (Zb5 (Zb2 Za9 (Za7 (pvM 6) (Za7 (pvM 4) Za1)))) Za1))) Za1))) (Zb6 Zc6 (pvM 0) Za2)) (Za7 (pvM 5) Za1)))))))),?_⟩
 refine sqt (fun W H'=>∃ x y t g,W=[some (.int c),some (.int (m:Nat)),some (.ref ga),some (.ref Y),some x,some y,none]∧Same H H'∧IsE K H' x t∧IsT K H' y g∧t.fine X∧t.deep≤dB (m - 1)∧t.size≤sB (m - 1)∧g.inW X∧g.parts≤60) ?_ ?_
 ·intro C hC
  walk_at "1";refine⟨_,_,rfl,by omega,by omega,_,m - 1,ga,Y,X,gs,ts,by rw[show (m:Int) - 1=((m - 1:Nat):Int) by omega],Zg5 _ _,by omega,by omega,by omega,G,by omega,fun r H1 S hm=>?_⟩;obtain⟨p,x,y,t,g,rfl,h1,h2,h3,h4,h5,h6,h7,h8⟩:=hm;exact⟨p,rfl,_,h1,rfl,_,_,rfl,_,_,rfl,rfl,hC _ _ ⟨x,y,t,g,rfl,S,h2,h3,h4,h5,h6,h7,h8⟩⟩
 rintro j4 H1 ⟨x,y,t,g,rfl,S,hx,hy,tf,td,tz,gw,gp⟩;obtain⟨py,ys,rfl,j1,q8⟩:=Yg7 hy;refine sqt (fun W H'=>W=[some (.int c),some (.int (m:Nat)),some (.ref ga),some (.ref Y),some x,some (.ref py),none]∧H'=H1) ?_ ?_
 ·intro C hC
  walk_at "1";refine⟨_,j1,_,q8,rfl,?_⟩
  by_cases ca:g.tagS="both"
  ·obtain⟨q7,q5,rfl⟩:=Yo0 (k:=.both) ca
   obtain⟨p,u1,u2,e,hs,j0,q9⟩:=isT_nd.mp hy;cases e;rw[if_pos (by rfl)];have j5:1+q7.parts+q5.parts≤60:=gp;refine⟨by decide,?_⟩;intro p1 R;generalize l:upd H1 p1 (.tup [.str "left",x])=J1;have Z:=nw1 R l;have q1:=nw2 (K:=K) l;refine⟨_,Z.sqt hs,u1,rfl,by decide,?_⟩;intro I O;generalize j:upd J1 I (.tup [.ref p1,u1])=J2;have s2:=nw1 O j;have q2:=nw2 (K:=K) j;refine⟨by decide,?_⟩;intro p3 N;generalize f:upd J2 p3 (.tup [.str "right",x])=J3;have s3:=nw1 N f;have q3:=nw2 (K:=K) f;refine⟨_,((Z.trans s2).trans s3).sqt hs,u2,rfl,by decide,?_⟩;intro F M;generalize d:upd J3 F (.tup [.ref p3,u2])=J4;have s4:=nw1 M d;have q4:=nw2 (K:=K) d;refine⟨by decide,fun p5 h5=>⟨by decide,_,SqL.of Za4,?_⟩⟩;have J:=Za6 h5 (.lst [.ref I,.ref F]);generalize upd J4 p5 (.lst [.ref I,.ref F])=J5 at J ⊢;have v:=s4.trans J;have B:=s3.trans v;have D:=s2.trans B;have o:=Z.trans D;refine at2 c0 c1 (fun _=>q _ _ (S.trans o) (Zg7 (t:=.one .left t []) (g:=q7) (B.sqt q2) (Zp2 (u:=.left) (D.sqt q1) (IsE.keep hx o.keepT)) (IsT.keep j0 o.keepT) ⟨tf,rfl,fun _ h=>nomatch h⟩ (by show 1+t.deep≤_;omega) (by show 1+t.size≤_;omega) gw.1 (by omega)))
    (fun _=>q _ _ (S.trans o) (Zg7 (t:=.one .right t []) (g:=q5) (J.sqt q4) (Zp2 (u:=.right) (v.sqt q3) (IsE.keep hx o.keepT)) (IsT.keep q9 o.keepT) ⟨tf,rfl,fun _ h=>nomatch h⟩ (by show 1+t.deep≤_;omega) (by show 1+t.size≤_;omega) gw.2 (by omega)))
  ·rw[if_neg (fun z=>ca (V.str.inj z))]
   exact hC _ _ ⟨rfl,rfl⟩
 rintro j3 H2 ⟨rfl,rfl⟩;walk_at "1";refine⟨_,_,rfl,by omega,by omega,_,ga,Y,X,gs,ts,rfl,Zg5 _ _,G.keep S,by omega,fun r H3 e3 hm=>?_⟩;obtain⟨p,x',y',T,g',rfl,a1,a2,a3,a4,a5,a6,a7,a8⟩:=hm;refine⟨p,rfl,_,a1,_,rfl,by decide,?_⟩;intro p1 R;generalize l:upd H3 p1 (.tup [.str "pair",x,x'])=J1;have Z:=nw1 R l;have q1:=nw2 (K:=K) l;refine⟨by decide,?_⟩;intro I O;generalize j:upd J1 I (.tup [.str "left",.ref p1])=J2;have s2:=nw1 O j;have q2:=nw2 (K:=K) j;refine⟨by decide,?_⟩;intro p3 N;generalize f:upd J2 p3 (.tup [.str "pair",x',x])=J3;have s3:=nw1 N f;have q3:=nw2 (K:=K) f;refine⟨by decide,?_⟩;intro F M;generalize d:upd J3 F (.tup [.str "right",.ref p3])=J4;have s4:=nw1 M d;have q4:=nw2 (K:=K) d;refine⟨by decide,fun p5 h5=>⟨by decide,_,SqL.of Za4,?_⟩⟩;have J:=Za6 h5 (.lst [.ref I,.ref F]);generalize upd J4 p5 (.lst [.ref I,.ref F])=J5 at J ⊢;have v:=s4.trans J;have B:=s3.trans v;have D:=s2.trans B;have o:=Z.trans D;have U:=e3.trans o;refine at2 c0 c1 (fun _=>⟨by decide,?_⟩) (fun _=>⟨by decide,?_⟩)
 ·intro p6 L;generalize b:upd J5 p6 (.tup [.ref I,.ref py])=J6;have a:=nw1 L b;have q6:=nw2 (K:=K) b
  refine q _ _ (S.trans (U.trans a)) (Zg7 (t:=.one .left (.two .pair t T) []) (g:=g) q6 (Zp2 (u:=.left) ((B.trans a).sqt q2) (Zk1 (u:=.pair) ((D.trans a).sqt q1) (IsE.keep hx (U.trans a).keepT) (IsE.keep a2 (o.trans a).keepT))) (IsT.keep hy (U.trans a).keepT) ⟨⟨tf,a4⟩,rfl,fun _ h=>nomatch h⟩ (by show 1+(1+max t.deep T.deep)≤_;omega) (by show 1+(1+t.size+T.size)≤_;omega) gw gp)
 ·intro p6 L;generalize b:upd J5 p6 (.tup [.ref F,.ref py])=J6;have a:=nw1 L b;have q6:=nw2 (K:=K) b
  refine q _ _ (S.trans (U.trans a)) (Zg7 (t:=.one .right (.two .pair T t) []) (g:=g) q6 (Zp2 (u:=.right) ((J.trans a).sqt q4) (Zk1 (u:=.pair) ((v.trans a).sqt q3) (IsE.keep a2 (o.trans a).keepT) (IsE.keep hx (U.trans a).keepT))) (IsT.keep hy (U.trans a).keepT) ⟨⟨a4,tf⟩,rfl,fun _ h=>nomatch h⟩ (by show 1+(1+max T.deep t.deep)≤_;omega) (by show 1+(1+T.size+t.size)≤_;omega) gw gp)
theorem sc_aj0:FnScope ["_law_script","_law_words_here","_law_given_here","_law_k","_law_cell_here"] ["_law_script","_law_words_here"] (Za5 (top 48)):=scm (by decide +kernel)
def Yi8 (K:W.Frag):Sp:=fun vs H Q _=>∃ (sa wa:Addr) (ns:List Int) (ws:List Str),vs=[.ref sa,.ref wa]∧SqL K H sa (ns.map V.int)∧ns.length≤63∧SqL K H wa (ws.map V.str)∧Yt2 ws∧∀ (r:Addr) (H':Hp) (gs:List V) (ts:List Tm),Same H H'→H' r=some (.lst gs)→Paired (IsT K H') gs ts→(∀ s∈ts,okW ws s)→ts.length≤4→Q (.ref r) H'
theorem Wh9 {k:Nat} {f_aj0:Addr} {fd_aj0:FuncData} (F_aj0:Fun K "_law_given" "_law_given" (top 48) f_aj0 fd_aj0) (C__law_cell:Cl P w K mg base k "_law_cell" ["_law_script","_law_k"] (Yo8 K)) (C__law_mix:Cl P w K mg base k "_law_mix" pq1 (Zk7)) (C__law_statement:Cl P w K mg base k "_law_statement" pq4 (Zk6 K 12)) (m_range:mg "range"=none) (m_max:mg "max"=none) (m_len:mg "len"=none):Fk0 P w K mg base (k+1) f_aj0 fd_aj0 ["_law_script","_law_words_here"] (Yi8 K):=by
 refine F_aj0.ok sc_aj0 (fun vs H Q E h=>?_) (fun q3 A q1 s H vs Q E N h=>?_)
 ·obtain⟨G,B,d,y,rfl,_⟩:=h
  rfl
 obtain⟨G,B,d,y,rfl,U,O,hW,hw,q⟩:=h
 refine⟨_,(Za3 (pst 2 sc_aj0.nd (Ze1 Za1))
 (Za3 (Zp6 PassesOwn.never rfl (Zz1 rfl m_range (Za0 (Zb6 Zc6 (Zb6 Zd9 (Zc2 C__law_cell N (Za0 (pvM 0) (Za0 Za2 Za1))) Za2) Za2) Za1)) (Zc0 (i:=3) sc_aj0.nd rfl (Or.inl rfl))
  (Za3 (pst 4 sc_aj0.nd (Zc2 C__law_mix N (Za0 (Zc2 C__law_cell N (Za0 (pvM 0) (Za0 (Zb6 Ze0 Za2 (Zb6 Zc6 (pvM 3) (Zd1 (Xl8 rfl) (by exact rfl) m_max boot_max (Za0 Za2 (Za0 (Zd1 Zc9 (by exact rfl) m_len Zf4 (Za0 (pvM 0) Za1)) Za1))))) Za1))) (Za0 (Zb6 Ze0 (pvM 3) Za2) Za1))))
 (Za8 (Zd2 (ptcM (Ze7) (Zb6 Zc6 (pvM 4) Za2) Za2)
  (Za8 (Zm1 (Zz2 F.plainAttrs_list F.slot_list_append F.type_list_append Zh3 (pvM 2) (Za0 (Zb5 (Za0 Za9 Za1)) Za1))))
  (Za8 (Zm1 (Zz2 F.plainAttrs_list F.slot_list_append F.type_list_append Zh3 (pvM 2) (Za0 (Zc2 C__law_statement N (Za0 (Zb6 Zd9 (pvM 4) Za2) (Za0 (Zb6 Ze0 Za2 (Zb6 Zc6 (pvM 4) Za2)) (Za0 (pvM 1) Za1)))) Za1))))))))
 (Za8 (Zb3 (pvM 2))))),?_⟩
 refine sqt (fun b f=>∃ l,b=[some (.ref G),some (.ref B),some (.ref l),none,none]∧Same H f∧H l=none∧f l=some (.lst [])) ?_ ?_
 ·intro C W
  walk_at "1";exact⟨by decide,fun l t=>W _ _ ⟨l,rfl,Za6 t _,t,Za4⟩⟩
 rintro q2 H1 ⟨l,rfl,e1,f1,X⟩;refine sqt (fun b f=>∃ m j a c,b=[some (.ref G),some (.ref B),some (.ref l),m,j]∧Same H f∧f l=some (.lst a)∧Paired (IsT K f) a c∧(∀ s∈c,okW y s)∧c.length≤4) ?_ ?_
 ·intro C W
  walk_at "2";have b0:=Int.emod_nonneg (cellOf d 1 / 5) (show (5:Int)≠0 by decide);have b1:=Int.emod_lt_of_pos (cellOf d 1 / 5) (show (0:Int) < 5 by decide);refine⟨_,d,_,rfl,e1.seq U,O,by decide,by decide,_,rfl,⟨by decide,by decide⟩,by decide,by omega,by omega,?_⟩;generalize cellOf d 1 / 5 % 5=cnt at b0 b1 ⊢;refine Xj5 (D:={ nx:=C,rt:=Q }) (n:=cnt.toNat) (lo:=0) (fun i b f=>∃ m j a c,b=[some (.ref G),some (.ref B),some (.ref l),m,j]∧Same H f∧f l=some (.lst a)∧Paired (IsT K f) a c∧(∀ s∈c,okW y s)∧c.length=i) ⟨none,none,[],[],rfl,e1,X,.nil,fun s p=>absurd p (by simp),rfl⟩ (fun i b f hi g=>?_) (fun b f ⟨m,j,a,c,e0,e,h,g,I,t⟩=>W _ _ ⟨m,j,a,c,e0,e,h,g,I,by omega⟩);obtain⟨m,j,a,c,rfl,e,h,g,I,t⟩:=g;unfold Ya4;refine sqt (fun b J=>∃ x:Int,b=[some (.ref G),some (.ref B),some (.ref l),some (.int (0+(i:Int))),some (.int x)]∧J=f∧0≤x) ?_ ?_
  ·intro C' q0
   walk_at "1";refine⟨d.map V.int,.inl (e.seq U),?_⟩
   have S:0 < (if ((d.map V.int).length:Int) > 1 then ((d.map V.int).length:Int) else 1):=by split<;>omega
   have m1:(if ((d.map V.int).length:Int) > 1 then ((d.map V.int).length:Int) else 1)≤63:=by rw[List.length_map];split<;>omega
   generalize (if ((d.map V.int).length:Int) > 1 then ((d.map V.int).length:Int) else 1)=M at S m1 ⊢;have a0:=Int.emod_nonneg (0+(i:Int)) (show M≠0 by omega);have a1:=Int.emod_lt_of_pos (0+(i:Int)) S;exact⟨S,_,d,_,rfl,e.seq U,O,by omega,by omega,_,_,rfl,by omega,by omega,q0 _ _ ⟨_,rfl,rfl,Zg5 _ _⟩⟩
  rintro Y J2 ⟨x,rfl,rfl,hx⟩;have lg:=Paired.length g;have c0:=Int.emod_nonneg x (show (7:Int)≠0 by decide);have c1:=Int.emod_lt_of_pos x (show (0:Int) < 7 by decide)
  have R:∀ {J:Hp} {v:V} {u:Tm},Same J2 J→IsT K J v u→okW y u→J l=some (.lst a)∧a.length < sizeLine∧Same H (upd J l (.lst (a++[v])))∧∃ x_1,upd J l (.lst (a++[v])) l=some (.lst x_1)∧∃ x_2,Paired (IsT K (upd J l (.lst (a++[v])))) x_1 x_2∧(∀ s∈x_2,okW y s)∧x_2.length=i+1:=fun {J v u} L hv T=>by
   have hJ:=L _ _ h;have Z:=Zf2 (K:=K) (o:=.lst (a++[v])) hJ;refine⟨hJ,Zh8 (by omega),(e.trans L).write f1,_,Za4,c++[u],Zi1 (Paired.mapP g fun _ _ z=>IsT.keep z (L.keepT.trans Z)) (.cons (IsT.keep hv Z) .nil),fun s p=>?_,by rw[List.length_append,t];rfl⟩;rcases List.mem_append.mp p with p | p
   ·exact I s p
   ·rw[List.mem_singleton.mp p];exact T
  walk_at "1";refine⟨by decide,ite2 (fun _=>⟨.inl ⟨rfl,_,SqL.of h⟩,by decide,fun p1 X=>?_⟩) (fun _=>⟨.inl ⟨rfl,_,SqL.of h⟩,⟨by decide,by decide⟩,by decide,Zm9 (by omega) (by omega) (by omega) (e.seq hW) hw fun r J u L T uw up=>?_⟩)⟩
  ·exact⟨a,R (Za6 X _) (isT_low.mpr ⟨p1,rfl,.inl (.inl Za4)⟩) ⟨trivial,by decide⟩⟩
  ·exact⟨a,R L T ⟨uw,by omega⟩⟩
 rintro Y H2 ⟨m,j,a,c,rfl,e2,h2,g,I,t⟩;walk_at "1";exact q _ _ a c e2 h2 g I t
theorem Wc8:FnScope ["_law_term"] ["_law_term"] (Za5 (top 49)):=scm (by decide +kernel)
theorem Wc5:FnScope ["_law_found","_law_term"] ["_law_found","_law_term"] (Za5 (top 50)):=scm (by decide +kernel)
theorem Wc7:FnScope ["_law_found","_law_number"] ["_law_found","_law_number"] (Za5 (top 51)):=scm (by decide +kernel)
theorem Wh8 {k:Nat} {f_ak0:Addr} {fd_ak0:FuncData} (F_ak0:Fun K "_law_inner_of" "_law_inner_of" (top 49) f_ak0 fd_ak0):Fk0 P w K mg base (k+1) f_ak0 fd_ak0 pq18 (Zh1 K):=by
 refine F_ak0.ok Wc8 (fun J H Q E h=>?_) (fun O A G s H J Q E S h=>?_)
 ·obtain⟨v,t,rfl,_⟩:=h
  rfl
 obtain⟨v,t,rfl,N,q⟩:=h;obtain⟨p,I,rfl,f,M⟩:=isE_view.mp N;have l:atI I 0=some (.str t.tag):=Zb7 (Zj8 M)
 refine⟨_,(Za3 (Zd2 (ptcM (Ze7) (pxt (pvM 0) Za2) Za9)
  (Za8 (Zb3 (Ze1 Za1)))
  Zb4)
 (Za3 (Zd2 (ptcM (Ze7) (pxt (pvM 0) Za2) Za9)
  (Za8 (Zb3 (Ze1 (Za0 (Zb5 (Za0 Za2 (Za0 Za2 Za1))) Za1))))
  Zb4)
 (Za3 (Zd2 (ptcM (Ze7) (pxt (pvM 0) Za2) Za9)
  (Za8 (Zb3 (Ze1 (Za0 (Zb5 (Za0 Za2 (Za0 Za2 Za1))) (Za0 (Zb5 (Za0 Za2 (Za0 Za2 Za1))) (Za0 (Zb5 (Za0 Za2 (Za0 Za2 Za1))) Za1))))))
  Zb4)
 (Za3 (Zd2 (Zo8 (Zl1) (pxt (pvM 0) Za2) (Zb5 (Za0 Za9 (Za0 Za9 Za1))) (by with_unfolding_all rfl))
  (Za8 (Zb3 (Ze1 (Za0 (Zb5 (Za0 Za2 (Za0 Za2 Za1))) (Za0 (Zb5 (Za0 Za2 (Za0 Za2 Za1))) Za1)))))
  Zb4)
 (Za8 (Zb3 (Ze1 (Za0 (Zb5 (Za0 Za2 (Za0 Za2 Za1))) Za1)))))))),?_⟩
 walk_at "1";have o:∀ {H':Hp} {b:Addr} {i j:Nat},SqT K H' b [.int (i:Nat),.int (j:Nat)]→(∃ b',(V.ref b)=.ref b'∧SqT K H' b' [.int (((i,j):Nat×Nat).1:Nat),.int (((i,j):Nat×Nat).2:Nat)]):=fun {H' b i j} h=>⟨b,rfl,h⟩;refine⟨_,f,_,l,rfl,?_⟩
 cases t with
 | «at» k0 =>
  rw[if_pos (by rfl)];exact⟨by decide,fun r d=>q _ _ _ (Za6 d _) d Za4 .nil⟩
 | fn s a =>
  rw[if_neg (by show ¬ V.str "fun"=V.str "at";decide)];refine⟨_,f,_,l,rfl,?_⟩;rw[if_pos (by rfl)];refine⟨by decide,fun r d=>⟨by decide,fun y g=>q _ _ _ ((Za6 d _).trans (Za6 g _)) ((Za6 d _).free g) Za4 ?_⟩⟩;exact .cons (o (i:=2) (j:=1) (Zd3 g _ _ (.inl (.inl Za4)))) .nil
 | cs a b c =>
  rw[if_neg (by show ¬ V.str "cases"=V.str "at";decide)];refine⟨_,f,_,l,rfl,?_⟩;rw[if_neg (by show ¬ V.str "cases"=V.str "fun";decide)];refine⟨_,f,_,l,rfl,?_⟩;rw[if_pos (by rfl)];refine⟨by decide,fun r d=>⟨by decide,fun y g=>⟨by decide,fun D B=>⟨by decide,fun R F=>?_⟩⟩⟩⟩;have n:=Za6 d (.tup [.int 1,.int 0]);have e:=Za6 g (.tup [.int 2,.int 1]);have m:=Za6 B (.tup [.int 3,.int 1]);have z:=Za6 F (.lst [.ref r,.ref y,.ref D]);refine q _ _ _ (((n.trans e).trans m).trans z) (((n.trans e).trans m).free F) Za4 ?_;exact .cons (o (i:=1) (j:=0) ((((e.trans m).trans z)).sqt (.inl (.inl Za4)))) (.cons (o (i:=2) (j:=1) ((m.trans z).sqt (.inl (.inl Za4)))) (.cons (o (i:=3) (j:=1) (z.sqt (.inl (.inl Za4)))) .nil))
 | two u a b =>
  rw[if_neg (by show ¬ V.str u.str=_;cases u<;>decide)];refine⟨_,f,_,l,rfl,?_⟩;rw[if_neg (by show ¬ V.str u.str=_;cases u<;>decide)];refine⟨_,f,_,l,rfl,?_⟩;rw[if_neg (by show ¬ V.str u.str=_;cases u<;>decide)];refine⟨_,f,_,l,by decide,fun L C=>⟨_,.inr (.inl (.inl Za4)),rfl,rfl,?_⟩⟩;have x:=Za6 C (.tup [.str "pair",.str "use"]);rw[if_neg Bool.false_ne_true,if_pos (by cases u<;>rfl)];refine⟨by decide,fun r d=>⟨by decide,fun y g=>⟨by decide,fun D B=>?_⟩⟩⟩;have n:=Za6 d (.tup [.int 1,.int 0]);have e:=Za6 g (.tup [.int 2,.int 0]);have m:=Za6 B (.lst [.ref r,.ref y]);refine q _ _ _ (((x.trans n).trans e).trans m) (((x.trans n).trans e).free B) Za4 ?_;exact .cons (o (i:=1) (j:=0) ((e.trans m).sqt (.inl (.inl Za4)))) (.cons (o (i:=2) (j:=0) (m.sqt (.inl (.inl Za4)))) .nil)
 | one u a ss =>
  rw[if_neg (by show ¬ V.str u.str=_;cases u<;>decide)];refine⟨_,f,_,l,rfl,?_⟩;rw[if_neg (by show ¬ V.str u.str=_;cases u<;>decide)];refine⟨_,f,_,l,rfl,?_⟩;rw[if_neg (by show ¬ V.str u.str=_;cases u<;>decide)];refine⟨_,f,_,l,by decide,fun L C=>⟨_,.inr (.inl (.inl Za4)),rfl,rfl,?_⟩⟩;have x:=Za6 C (.tup [.str "pair",.str "use"]);rw[if_neg Bool.false_ne_true,if_neg (by show ¬ inV (V.str u.str) _=true;cases u<;>decide)];refine⟨by decide,fun r d=>⟨by decide,fun y g=>?_⟩⟩;have n:=Za6 d (.tup [.int 1,.int 0]);have e:=Za6 g (.lst [.ref r]);exact q _ _ _ ((x.trans n).trans e) ((x.trans n).free g) Za4 (.cons (o (i:=1) (j:=0) (e.sqt (.inl (.inl Za4)))) .nil)
theorem Wh7 {k:Nat} {f_al0:Addr} {fd_al0:FuncData} (F_al0:Fun K "_law_is_at" "_law_is_at" (top 51) f_al0 fd_al0) (m_isinstance:mg "isinstance"=none) (m_int:mg "int"=none) (m_tuple:mg "tuple"=none) (m_len:mg "len"=none) (m_bool:mg "bool"=none):Fk0 P w K mg base (k+1) f_al0 fd_al0 pq6 (Yi9 K):=by
 refine F_al0.ok Wc7 (fun e H Q E h=>?_) (fun l A d s H e Q E m h=>?_)
 ·obtain⟨x,c,rfl,_⟩:=h
  rfl
 obtain⟨x,c,rfl,f,q⟩:=h;obtain⟨p,rfl,a⟩:=isE_atV.mp f
 refine⟨_,(Za3 (Zd2 ((Yk3 (Zk8 (Zj7 (Zd1 Zp3 (by exact rfl) m_isinstance Zd7 (Za0 (pvM 0) (Za0 (Zq6 (v:=.ty "tuple") (by exact rfl) m_tuple Zu6 (by exact rfl)) Za1))))) (Yk3 (ptcM (Yq2) (Zd1 Zc9 (by exact rfl) m_len Zf4 (Za0 (pvM 0) Za1)) Za2) (Yk2 (ptcM (Yq2) (pxt (pvM 0) Za2) Za9))))).pt
  (Za8 (Zb3 Zk3))
  Zb4)
 (Za8 (Zb3 (Yv8 (Zd1 Zp3 (by exact rfl) m_isinstance Zd7 (Za0 (pxt (pvM 0) Za2) (Za0 (Zq6 (v:=.ty "int") (by exact rfl) m_int Zp4 (by exact rfl)) Za1))) (Yv8 (We2 (Zd1 Zp3 (by exact rfl) m_isinstance Zd7 (Za0 (pxt (pvM 0) Za2) (Za0 (Zq6 (v:=.ty "bool") (by exact rfl) m_bool Ym8 (by exact rfl)) Za1)))) (Xf3 (Zi0 (Ze7) (pxt (pvM 0) Za2) (pvM 1) (Zl2 _)))))))),?_⟩
 refine sqt (fun b i=>b=[some (.ref p),some (.int (c:Nat))]∧i=H) ?_ ?_
 ·intro C g
  walk_at "1";refine⟨_,TyX.tupK a,_,Zw7 K "tuple",?_⟩;rw[if_neg (by decide)];refine⟨_,.inr a,?_⟩;rw[if_neg (by simp)];refine⟨_,a,_,rfl,rfl,?_⟩;rw[if_neg (by decide)];exact g _ _ ⟨rfl,rfl⟩
 rintro j n ⟨rfl,rfl⟩;walk_at "1";refine⟨_,a,_,rfl,_,.of (.int _),_,Zw7 K "int",?_⟩;rw[if_pos rfl];refine⟨_,a,_,rfl,_,.of (.int _),_,show W.kitOne K (.type "int") (.type "bool")=some false from rfl,?_⟩;rw[if_pos (by decide)];refine⟨_,a,_,rfl,rfl,?_⟩;rw[decide_eq_true rfl];exact q
theorem Wh0 {k:Nat} {f_av0:Addr} {fd_av0:FuncData} (F_av0:Fun K "_law_shaped" "_law_shaped" (top 50) f_av0 fd_av0) (m_isinstance:mg "isinstance"=none) (m_tuple:mg "tuple"=none) (m_len:mg "len"=none):Fk0 P w K mg base (k+1) f_av0 fd_av0 pq10 (Zh7 K):=by
 refine F_av0.ok Wc5 (fun Y H Q E h=>?_) (fun q1 A X s H Y Q E W h=>?_)
 ·obtain⟨x,y,t,I,S,rfl,_⟩:=h
  rfl
 obtain⟨x,y,t,I,S,rfl,hX,hY,F,B,J,q⟩:=h;obtain⟨px,R,rfl,l,o⟩:=isE_view.mp hX;obtain⟨py,O,rfl,f,n⟩:=isE_view.mp hY
 have T:R.length=O.length:=by rw[DnAll.length o,DnAll.length n,Te.withK_items F,Zs0]
 have U:atI R 0=some (.str t.tag):=by rw[← Xb7 F];exact Zb7 (Zj8 o)
 have g:atI O 0=some (.str t.tag):=Zb7 (Zj8 n)
 refine⟨_,(Za3 (Zd2 ((Yk3 (Zk8 (Zj7 (Zd1 Zp3 (by exact rfl) m_isinstance Zd7 (Za0 (pvM 0) (Za0 (Zq6 (v:=.ty "tuple") (by exact rfl) m_tuple Zu6 (by exact rfl)) Za1))))) (Yk3 (ptcM (Yq2) (Zd1 Zc9 (by exact rfl) m_len Zf4 (Za0 (pvM 0) Za1)) (Zd1 Zc9 (by exact rfl) m_len Zf4 (Za0 (pvM 1) Za1))) (Yk2 (ptcM (Yq2) (pxt (pvM 0) Za2) (pxt (pvM 1) Za2)))))).pt
  (Za8 (Zb3 Zk3))
  Zb4)
 (Za3 (Zd2 (ptcM (Ze7) (pxt (pvM 1) Za2) Za9)
  (Za8 (Zb3 (Zi0 (Zz5 (Zl3 W)) (pxt (pvM 0) Za2) (pxt (pvM 1) Za2) (Zl2 _))))
  Zb4)
 (Za3 (Zd2 (Zo8 (Zl1) (pxt (pvM 1) Za2) (Zb5 (Za0 Za9 (Za0 Za9 (Za0 Za9 Za1)))) (by with_unfolding_all rfl))
  (Za8 (Zb3 (Zi0 (Zz5 (Zl3 W)) (pxt (pvM 0) Za2) (pxt (pvM 1) Za2) (Zl2 _))))
  Zb4)
 (Za8 (Zb3 Zk3))))),?_⟩
 refine sqt (fun N H'=>N=[some (.ref px),some (.ref py)]∧H'=H) ?_ ?_
 ·intro C hC
  walk_at "1";refine⟨_,TyX.tupK l,_,Zw7 K "tuple",?_⟩;rw[if_neg (by decide)];refine⟨_,.inr l,_,.inr f,?_⟩;rw[if_neg (by rw[T];simp)];refine⟨_,l,_,U,_,f,_,g,rfl,?_⟩;rw[if_neg (by simp)];exact hC _ _ ⟨rfl,rfl⟩
 rintro q0 H1 ⟨rfl,rfl⟩;walk_at "1";refine⟨_,f,_,g,rfl,?_⟩
 have G:∀ {x y:V} {s:Tm} {H2:Hp},Dn K H2 x s.data→Dn K H2 y s.data→okW S s→Same H1 H2→∃ d,Dn K H2 x d∧∃ e,Dn K H2 y e∧d.canLay0=true∧e.canLay0=true∧min d.depth e.depth≤150∧Q (.bl (if false=true then !PyData.eqv d e else PyData.eqv d e)) H2:=fun {x y s H2} hx hy ho e1=>by
  refine⟨s.data,hx,s.data,hy,(ho.lay J).1,(ho.lay J).1,(ho.lay J).2,?_⟩;rw[if_neg Bool.false_ne_true,Tm.eqv,decide_eq_true rfl];exact q _ e1
 cases t with
 | fn s a =>
  match I,F with
  | [k1],_ =>
   rw[if_pos (by rfl)];obtain⟨u,L,M⟩:=Ze4 (i:=1) o rfl;obtain⟨Z,z,D⟩:=Ze4 (i:=1) n rfl;exact⟨_,l,_,Zb7 (j:=1) L,_,f,_,Zb7 (j:=1) z,G M D B.1 (Same.refl _)⟩
 | «at» k0 =>
  rw[if_neg (by show ¬ V.str "at"=V.str "fun";decide)];refine⟨_,f,_,g,by decide,fun p m=>⟨_,.inr (.inl (.inl Za4)),rfl,rfl,?_⟩⟩;rw[if_neg Bool.false_ne_true,if_neg (by show ¬ inV (V.str "at") _=true;decide)];exact q _ (Za6 m _)
 | cs a b c =>
  rw[if_neg (by show ¬ V.str "cases"=V.str "fun";decide)];refine⟨_,f,_,g,by decide,fun p m=>⟨_,.inr (.inl (.inl Za4)),rfl,rfl,?_⟩⟩;rw[if_neg Bool.false_ne_true,if_neg (by show ¬ inV (V.str "cases") _=true;decide)];exact q _ (Za6 m _)
 | two u a b =>
  rw[if_neg (by show ¬ V.str u.str=V.str "fun";cases u<;>decide)];refine⟨_,f,_,g,by decide,fun p m=>⟨_,.inr (.inl (.inl Za4)),rfl,rfl,?_⟩⟩;rw[if_neg Bool.false_ne_true,if_neg (by show ¬ inV (V.str u.str) _=true;cases u<;>decide)];exact q _ (Za6 m _)
 | one u a ss =>
  rw[if_neg (by show ¬ V.str u.str=V.str "fun";cases u<;>decide)];refine⟨_,f,_,g,by decide,fun p m=>⟨_,.inr (.inl (.inl Za4)),rfl,rfl,?_⟩⟩;rw[if_neg Bool.false_ne_true];have r:=Za6 m (.tup [.str "first",.str "second",.str "off"])
  by_cases ca:inV (V.str u.str) [V.str "first",V.str "second",V.str "off"]=true
  ·rw[if_pos (show inV (V.str (Te.one u a ss).tag) _=true from ca)]
   have l1:ss.length=1:=by rw[B.2.1];cases u<;>first | rfl | exact absurd ca (by decide)
   match I,F,ss,l1,B with
   | [k1],_,[s1],_,B =>
    obtain⟨u1,L,M⟩:=Ze4 (i:=2) o rfl;obtain⟨Z,z,D⟩:=Ze4 (i:=2) n rfl;exact⟨_,r.sqt l,_,Zb7 (j:=2) L,_,r.sqt f,_,Zb7 (j:=2) z,G (Dn.keepT r.keepT s1.noList M) (Dn.keepT r.keepT s1.noList D) (B.2.2 s1 List.mem_cons_self) r⟩
  ·rw[if_neg (show ¬ inV (V.str (Te.one u a ss).tag) _=true from ca)]
   exact q _ r
theorem sc_am0:FnScope ["_law_found","_law_term","_law_by","_law_own","_law_k","_law_front"] ["_law_found","_law_term","_law_by","_law_own"] (Za5 (top 52)):=scm (by decide +kernel)
theorem sc_an0:FnScope ["_law_found","_law_term","_law_other","_law_own","_law_k","_law_front"] ["_law_found","_law_term","_law_other","_law_own"] (Za5 (top 53)):=scm (by decide +kernel)
theorem Wh6 {k n:Nat} {f_am0:Addr} {fd_am0:FuncData} (F_am0:Fun K "_law_is_lifted" "_law_is_lifted" (top 52) f_am0 fd_am0) (G_am0:Fk0 P w K mg base k f_am0 fd_am0 pq7 (Zg0 K n)) (m_am0:MgI mg "_law_is_lifted" f_am0) (k_am0:KpI K f_am0) (b_am0:Binds K fd_am0 pq7 []) (C__law_inner_of:Cl P w K mg base k "_law_inner_of" pq18 (Zh1 K)) (C__law_shaped:Cl P w K mg base k "_law_shaped" pq10 (Zh7 K)) (C__law_is_at:Cl P w K mg base k "_law_is_at" pq6 (Yi9 K)) (m_int:mg "int"=none):Fk0 P w K mg base (k+1) f_am0 fd_am0 pq7 (Zg0 K (n+1)):=by
 refine F_am0.ok sc_am0 (fun vs H Q E h=>?_) (fun j2 A q8 s H vs Q E G h=>?_)
 ·obtain⟨x,y,t,b,f,T,rfl,_⟩:=h
  rfl
 obtain⟨x,y,t,b,f,T,rfl,U,I,hf,Z,hd,q⟩:=h;obtain⟨m,xs,rfl,q2,q5⟩:=isE_view.mp U;obtain⟨v,ys,rfl,R,S⟩:=isE_view.mp I;have Y:atI ys 0=some (.str t.tag):=Zb7 (Zj8 S)
 refine⟨_,(Za3 (Zd2 (ptcM (Ze7) (pxt (pvM 1) Za2) Za9)
  (Za8 (Zb3 (Zc2 C__law_is_at G (Za0 (pvM 0) (Za0 (pxl (Ze1 (Za0 (pxt (pvM 1) Za2) (Za0 (Zb6 Ze0 (pxt (pvM 1) Za2) (pvM 2)) Za1))) (Zl0 Zt5 (by exact rfl) m_int Zp4 (Za0 (Zi0 (Yw3) (pxt (pvM 1) Za2) (pvM 3) (Zl2 _)) Za1))) Za1)))))
  Zb4)
 (Za3 (Zd2 (Zk8 (Zj7 (Zc2 C__law_shaped G (Za0 (pvM 0) (Za0 (pvM 1) Za1)))))
  (Za8 (Zb3 Zk3))
  Zb4)
 (Za3 (Zp6 PassesOwn.never rfl (Zq5 (Zc2 C__law_inner_of G (Za0 (pvM 1) Za1))) (Zg4 rfl (Zb8 (Zc0 (i:=4) sc_am0.nd rfl (Or.inl rfl)) (Zb8 (Zc0 (i:=5) sc_am0.nd rfl (Or.inl rfl)) Ze3)))
  (Za8 (Zd2 (Zk8 (Zj7 (pcl G_am0 G m_am0 k_am0 b_am0 (Za0 (pxt (pvM 0) (pvM 4)) (Za0 (pxt (pvM 1) (pvM 4)) (Za0 (pvM 2) (Za0 (Zb6 Ze0 (pvM 3) (pvM 5)) Za1)))))))
  (Za8 (Zb3 Zk3))
  Zb4)))
 (Za8 (Zb3 Zk3))))),?_⟩
 by_cases ca:∃ k0,t=.at k0
 ·obtain⟨k0,rfl⟩:=ca
  obtain⟨p,e,B⟩:=isE_atV.mp I;cases e;walk_at "1";refine⟨_,B,_,rfl,rfl,?_⟩;rw[if_pos (by rfl)];refine⟨_,B,_,rfl,_,B,_,rfl,_,rfl,by decide,fun p2 h2=>?_⟩;have l:=Za6 h2 (.lst [.int (k0:Nat),.int ((k0:Int)+b)]);refine⟨_,l.sqt B,_,rfl,_,rfl,.inr ⟨_,SqL.of Za4,?_⟩⟩;have J:IsE K H (.ref m) (.at (if f≤k0 then k0+b else k0)):=U
  by_cases c:f≤k0
  ·rw[if_pos (by omega)]
   rw[if_pos c] at J;exact⟨_,rfl,_,k0+b,rfl,IsE.keep J l.keepT,q _ l⟩
  ·rw[if_neg (by omega)]
   rw[if_neg c] at J;exact⟨_,rfl,_,k0,rfl,IsE.keep J l.keepT,q _ l⟩
 ·have O:∀ k0,t≠.at k0:=fun k0 z=>ca ⟨k0,z⟩
  refine sqt (fun a d=>a=[some (.ref m),some (.ref v),some (.int (b:Nat)),some (.int (f:Nat)),none,none]∧d=H) ?_ ?_
  ·intro C o
   walk_at "1";refine⟨_,R,_,Y,rfl,?_⟩;rw[if_neg (fun z=>ca (Yu2 (V.str.inj z)))];exact o _ _ ⟨rfl,rfl⟩
  rintro j1 H1 ⟨rfl,rfl⟩;refine sqt (fun a d=>a=[some (.ref m),some (.ref v),some (.int (b:Nat)),some (.int (f:Nat)),none,none]∧Same H1 d) ?_ ?_
  ·intro C o
   walk_at "1";refine⟨_,_,t,(Zh6 (t,f)).map (mpP (Zf5 b)),T,rfl,?_,I,by rw[List.length_map,Zp1],hf,Z,fun d e=>?_⟩
   ·rw[← Yq5 (Zf5 b) (t,f) O];exact U
   ·exact⟨true,rfl,o _ _ ⟨rfl,e⟩⟩
  rintro j0 H2 ⟨rfl,W⟩;refine sqt (fun a d=>∃ j g,a=[some (.ref m),some (.ref v),some (.int (b:Nat)),some (.int (f:Nat)),j,g]∧Same H1 d) ?_ ?_
  ·intro C o
   walk_at "2";refine⟨_,t,rfl,IsE.keep I W.keepT,fun r H3 X M f3 h3 hu=>⟨r,rfl,⟨X,SqL.of h3⟩,?_⟩⟩;refine Zo0 (D:={ nx:=C,rt:=Q }) (xs:=X) (fun i a d=>∃ j g,a=[some (.ref m),some (.ref v),some (.int (b:Nat)),some (.int (f:Nat)),j,g]∧Same H3 d) ⟨none,none,rfl,Same.refl _⟩ (fun i a d _ ⟨j,g,_,e⟩=>SqL.of (e _ _ h3)) (fun i u a d hx ⟨j,g,e0,e⟩ N hN=>?_) (fun a d ⟨j,g,e0,e⟩=>o _ _ ⟨j,g,e0,(W.trans M).trans e⟩);subst e0;obtain⟨⟨pl,mo⟩,q4,bb,rfl,q3⟩:=paired_get hu hx;obtain⟨kd,g1,g2,g3⟩:=Wi5 (F:=Zf5 b) (f:=f) O q4;obtain⟨ux,q1,q7⟩:=Ze4 q5 g3;obtain⟨uy,q0,q6⟩:=Ze4 S g2;have ko:=Xh1 hf g1;have L:=(W.trans M).trans e;walk_at "1";refine⟨_,e.sqt q3,rfl,_,_,rfl,_,_,rfl,rfl,?_⟩;refine⟨_,_,rfl,L.sqt q2,ux,Zb7 q1,_,_,rfl,L.sqt R,uy,Zb7 q0,_,rfl,_,_,kd,b,f+mo,T,rfl,IsE.keep q7 L.keepT,IsE.keep q6 L.keepT,ko.1,Z,by omega,fun H4 e4=>⟨true,rfl,hN _ _ ⟨_,_,rfl,e.trans e4⟩⟩⟩
  rintro q9 H3 ⟨j,g,rfl,M⟩;walk_at "1";exact q _ M
theorem Wh5 {k n:Nat} {f_an0:Addr} {fd_an0:FuncData} (F_an0:Fun K "_law_is_put" "_law_is_put" (top 53) f_an0 fd_an0) (G_an0:Fk0 P w K mg base k f_an0 fd_an0 pq8 (Zj5 K n)) (m_an0:MgI mg "_law_is_put" f_an0) (k_an0:KpI K f_an0) (b_an0:Binds K fd_an0 pq8 []) (C__law_is_lifted:Cl P w K mg base k "_law_is_lifted" pq7 (Zg0 K 40)) (C__law_inner_of:Cl P w K mg base k "_law_inner_of" pq18 (Zh1 K)) (C__law_shaped:Cl P w K mg base k "_law_shaped" pq10 (Zh7 K)) (C__law_is_at:Cl P w K mg base k "_law_is_at" pq6 (Yi9 K)) (m_int:mg "int"=none):Fk0 P w K mg base (k+1) f_an0 fd_an0 pq8 (Zj5 K (n+1)):=by
 refine F_an0.ok sc_an0 (fun vs H Q E h=>?_) (fun j3 A q8 s H vs Q E J h=>?_)
 ·obtain⟨x,y,z,t,o,f,M,rfl,_⟩:=h
  rfl
 obtain⟨x,y,z,t,o,f,M,rfl,Z,O,hZ,hf,U,Y,hd,W,q⟩:=h;obtain⟨v,xs,rfl,q2,q5⟩:=isE_view.mp Z;obtain⟨B,ys,rfl,G,X⟩:=isE_view.mp O;have T:atI ys 0=some (.str t.tag):=Zb7 (Zj8 X)
 refine⟨_,(Za3 (Zd2 ((Yc3 (ptcM (Ze7) (pxt (pvM 1) Za2) Za9) (Zt9 (ptcM (Ze7) (pxt (pvM 1) Za2) (pvM 3))))).pt
  (Za8 (Zb3 (Zc2 C__law_is_lifted J (Za0 (pvM 0) (Za0 (pvM 2) (Za0 (pvM 3) (Za0 Za2 Za1)))))))
  Zb4)
 (Za3 (Zd2 (ptcM (Ze7) (pxt (pvM 1) Za2) Za9)
  (Za8 (Zb3 (Zc2 C__law_is_at J (Za0 (pvM 0) (Za0 (Zb6 Zh2 (pxt (pvM 1) Za2) (Zl0 Zt5 (by exact rfl) m_int Zp4 (Za0 (Zi0 (Yk7) (pxt (pvM 1) Za2) (pvM 3) (Zl2 _)) Za1))) Za1)))))
  Zb4)
 (Za3 (Zd2 (Zk8 (Zj7 (Zc2 C__law_shaped J (Za0 (pvM 0) (Za0 (pvM 1) Za1)))))
  (Za8 (Zb3 Zk3))
  Zb4)
 (Za3 (Zp6 PassesOwn.never rfl (Zq5 (Zc2 C__law_inner_of J (Za0 (pvM 1) Za1))) (Zg4 rfl (Zb8 (Zc0 (i:=4) sc_an0.nd rfl (Or.inl rfl)) (Zb8 (Zc0 (i:=5) sc_an0.nd rfl (Or.inl rfl)) Ze3)))
  (Za8 (Zd2 (Zk8 (Zj7 (pcl G_an0 J m_an0 k_an0 b_an0 (Za0 (pxt (pvM 0) (pvM 4)) (Za0 (pxt (pvM 1) (pvM 4)) (Za0 (pvM 2) (Za0 (Zb6 Ze0 (pvM 3) (pvM 5)) Za1)))))))
  (Za8 (Zb3 Zk3))
  Zb4)))
 (Za8 (Zb3 Zk3)))))),?_⟩
 by_cases ca:∃ k0,t=.at k0
 ·obtain⟨k0,rfl⟩:=ca
  obtain⟨p,e,I⟩:=isE_atV.mp O;cases e;walk_at "1";refine⟨_,I,_,rfl,rfl,?_⟩;rw[if_pos (by rfl)];refine⟨_,I,_,rfl,rfl,?_⟩;have l:IsE K H (.ref v) (Ken.putF o k0 f):=Z;unfold Ken.putF at l
  by_cases c:k0=f
  ·subst c
   rw[if_pos rfl] at l ⊢;exact⟨_,_,o,k0,0,M,rfl,l,hZ,U,Y,W,q⟩
  ·rw[if_neg c] at l
   rw[if_neg (fun z=>c (by have:=V.int.inj z;omega))];refine⟨_,I,_,rfl,rfl,?_⟩;rw[if_pos (by rfl)];refine⟨_,I,_,rfl,_,I,_,rfl,_,rfl,.inr ⟨_,rfl,?_⟩⟩
   by_cases d:f < k0
   ·rw[if_pos d] at l
    rw[if_pos (by omega)];exact⟨_,k0 - 1,by rw[show (k0:Int) - 1=((k0 - 1:Nat):Int) by omega],l,q _ (Same.refl _)⟩
   ·rw[if_neg d] at l
    rw[if_neg (by omega)];exact⟨_,k0,by rw[Int.sub_zero],l,q _ (Same.refl _)⟩
 ·have S:∀ k0,t≠.at k0:=fun k0 z=>ca ⟨k0,z⟩
  refine sqt (fun a b=>a=[some (.ref v),some (.ref B),some z,some (.int (f:Nat)),none,none]∧b=H) ?_ ?_
  ·intro C m
   walk_at "1";refine⟨_,G,_,T,rfl,?_⟩;rw[if_neg (fun z=>ca (Yu2 (V.str.inj z)))];exact m _ _ ⟨rfl,rfl⟩
  rintro j2 H0 ⟨rfl,rfl⟩;refine sqt (fun a b=>a=[some (.ref v),some (.ref B),some z,some (.int (f:Nat)),none,none]∧b=H0) ?_ ?_
  ·intro C m
   walk_at "1";refine⟨_,G,_,T,rfl,?_⟩;rw[if_neg (fun z=>ca (Yu2 (V.str.inj z)))];exact m _ _ ⟨rfl,rfl⟩
  rintro j1 H1 ⟨rfl,rfl⟩;refine sqt (fun a b=>a=[some (.ref v),some (.ref B),some z,some (.int (f:Nat)),none,none]∧Same H1 b) ?_ ?_
  ·intro C m
   walk_at "1";refine⟨_,_,t,(Zh6 (t,f)).map (mpP (Ken.putF o)),M,rfl,?_,O,by rw[List.length_map,Zp1],hf,Y,fun b e=>?_⟩
   ·rw[← Yq5 (Ken.putF o) (t,f) S];exact Z
   ·exact⟨true,rfl,m _ _ ⟨rfl,e⟩⟩
  rintro j0 H2 ⟨rfl,e2⟩;refine sqt (fun a b=>∃ j g,a=[some (.ref v),some (.ref B),some z,some (.int (f:Nat)),j,g]∧Same H1 b) ?_ ?_
  ·intro C m
   walk_at "2";refine⟨_,t,rfl,IsE.keep O e2.keepT,fun r H3 us R f3 h3 hu=>⟨r,rfl,⟨us,SqL.of h3⟩,?_⟩⟩;refine Zo0 (D:={ nx:=C,rt:=Q }) (xs:=us) (fun i a b=>∃ j g,a=[some (.ref v),some (.ref B),some z,some (.int (f:Nat)),j,g]∧Same H3 b) ⟨none,none,rfl,Same.refl _⟩ (fun i a b _ ⟨j,g,_,e⟩=>SqL.of (e _ _ h3)) (fun i u a b hx ⟨j,g,e0,e⟩ N hN=>?_) (fun a b ⟨j,g,e0,e⟩=>m _ _ ⟨j,g,e0,(e2.trans R).trans e⟩);subst e0;obtain⟨⟨pl,mo⟩,q4,bb,rfl,q3⟩:=paired_get hu hx;obtain⟨kd,g1,g2,g3⟩:=Wi5 (F:=Ken.putF o) (f:=f) S q4;obtain⟨ux,q1,q7⟩:=Ze4 q5 g3;obtain⟨uy,q0,q6⟩:=Ze4 X g2;have ko:=Xh1 hf g1;have L:=(e2.trans R).trans e;walk_at "1";refine⟨_,e.sqt q3,rfl,_,_,rfl,_,_,rfl,rfl,?_⟩;refine⟨_,_,rfl,L.sqt q2,ux,Zb7 q1,_,_,rfl,L.sqt G,uy,Zb7 q0,_,rfl,_,_,_,kd,o,f+mo,M,rfl,IsE.keep q7 L.keepT,IsE.keep q6 L.keepT,IsE.keep hZ L.keepT,ko.1,U,Y,by omega,W,fun H4 e4=>⟨true,rfl,hN _ _ ⟨_,_,rfl,e.trans e4⟩⟩⟩
  rintro q9 H3 ⟨j,g,rfl,R⟩;walk_at "1";exact q _ R
theorem Yl3 {f:Addr} {fd:FuncData} {ps:List Str} {k:Nat} (hl:ps.length=4):Fk0 P w K mg base k f fd ps (Zg0 K 0):=by
 refine⟨fun e H Q E h=>?_,fun A c s H i j e Q E l n m r a=>?_⟩
 ·obtain⟨x,y,t,b,f,d,rfl,_⟩:=h
  exact hl.symm
 ·obtain⟨x,y,t,b,f,d,_,_,_,_,_,g,_⟩:=a
  exact absurd g (by cases t<;>simp[Te.deep]<;>omega)
theorem Yq9 {f:Addr} {fd:FuncData} {ps:List Str} {k:Nat} (hl:ps.length=4):Fk0 P w K mg base k f fd ps (Zj5 K 0):=by
 refine⟨fun d H Q E h=>?_,fun A b s H g i d Q E j m l r a=>?_⟩
 ·obtain⟨x,y,z,t,o,f,c,rfl,_⟩:=h
  exact hl.symm
 ·obtain⟨x,y,z,t,o,f,c,_,_,_,_,_,_,_,e,_⟩:=a
  exact absurd e (by cases t<;>simp[Te.deep]<;>omega)
theorem Xt2 {k n:Nat} {f_ar0:Addr} {fd_ar0:FuncData} (F_ar0:Fun K "_law_made" "_law_made" (top 47) f_ar0 fd_ar0) (C__law_any:Cl P w K mg base k "_law_any" pq3 (Zf8 K 2 n 150)) (C__law_simple:Cl P w K mg base k "_law_simple" pq0 (Zo4 K)) (C__law_mix:Cl P w K mg base k "_law_mix" pq1 (Zk7)) (C__law_size:Cl P w K mg base k "_law_size" ["_law_statement_here"] (Ye2 K)):Fk0 P w K mg base (k+1) f_ar0 fd_ar0 pq3 (Zf8 K 0 n 60):=by
 refine F_ar0.ok sc_ar0 (fun R H Q E h=>?_) (fun q2 A O s H R Q E i h=>?_)
 ·obtain⟨c,m,o,f,e,I,F,rfl,_⟩:=h
  rfl
 obtain⟨c,m,o,f,e,I,F,rfl,hc,lo,T,D,G,U,q⟩:=h;have B:=Wk7 m D
 refine⟨_,(Za3 (pst 4 sc_ar0.nd (Zc2 C__law_simple i (Za0 (Zc2 C__law_mix i (Za0 (pvM 0) (Za0 Za2 Za1))) (Za0 (pvM 2) (Za0 (pvM 3) Za1)))))
 (Za3 (Zd2 (ptcM (Yk7) (pvM 1) Za2)
  (Za3 (pst 5 sc_ar0.nd (Zc2 C__law_any i (Za0 (Zc2 C__law_mix i (Za0 (pvM 0) (Za0 Za2 Za1))) (Za0 (pvM 1) (Za0 (pvM 2) (Za0 (pvM 3) Za1))))))
 (Za8 (Zd2 (ptcM (Xs7) (Zc2 C__law_size i (Za0 (pxt (pvM 5) Za2) Za1)) Za2)
  (Za8 (pst 4 sc_ar0.nd (pvM 5)))
  Zb4)))
  Zb4)
 (Za8 (Zb3 (pvM 4))))),?_⟩
 refine sqt (fun d v=>∃ r,d=[some (.int c),some (.int (m:Nat)),some (.ref o),some (.ref f),some r,none]∧Same H v∧MadeE K v e 2 2 60 r) ?_ ?_
 ·intro C l
  walk_at "1";exact⟨_,_,rfl,by omega,by omega,_,o,f,e,I,F,rfl,Zg5 _ _,G,by omega,fun r H1 b z=>l _ _ ⟨r,rfl,b,z⟩⟩
 rintro q1 H1 ⟨r,rfl,b,z⟩;refine sqt (fun d v=>∃ r J,d=[some (.int c),some (.int (m:Nat)),some (.ref o),some (.ref f),some r,J]∧Same H v∧MadeE K v e (dB m) (sB m) 60 r) ?_ ?_
 ·intro C l
  walk_at "1";refine ite2 (fun W=>?_) (fun W=>l _ _ ⟨r,none,rfl,b,z.mono (KeepT.refl _) B.1 B.2 (Nat.le_refl _)⟩);refine⟨_,_,rfl,by omega,by omega,_,m,o,f,e,I,F,rfl,Zg5 _ _,by omega,T,D,G.keep b,U,fun S H2 u j=>?_⟩;obtain⟨p,x,y,t,g,rfl,N,a2,M,Z,Y,X,L,a8⟩:=j;refine⟨p,rfl,_,N,_,rfl,_,g,rfl,M,L.ok G.wo.2.2,by omega,fun H3 a=>?_⟩;refine⟨_,rfl,ite2 (fun V=>l _ _ ⟨.ref p,_,rfl,(b.trans u).trans a,Zg7 (a.sqt N) (IsE.keep a2 a.keepT) (IsT.keep M a.keepT) Z Y X L (by omega)⟩) (fun V=>l _ _ ⟨r,_,rfl,(b.trans u).trans a,z.mono (u.trans a).keepT B.1 B.2 (Nat.le_refl _)⟩)⟩
 rintro q0 H2 ⟨S,J,rfl,u,j⟩;walk_at "1";exact q _ _ u j
theorem sc_ba0:FnScope ["_law_cell_here","_law_size_here","_law_given_here","_law_words_here","_law_term","_law_shape","_law_other","_law_here"] ["_law_cell_here","_law_size_here","_law_given_here","_law_words_here"] (Za5 (top 45)):=scm (by decide +kernel)
theorem Wg5 {k n:Nat} {f_ba0:Addr} {fd_ba0:FuncData} (F_ba0:Fun K "_law_used" "_law_used" (top 45) f_ba0 fd_ba0) (C__law_made:Cl P w K mg base k "_law_made" pq3 (Zf8 K 0 n 60)) (C__law_mix:Cl P w K mg base k "_law_mix" pq1 (Zk7)):Fk0 P w K mg base (k+1) f_ba0 fd_ba0 pq3 (Zf8 K 2 (n+1) 60):=by
 refine F_ba0.ok sc_ba0 (fun vs H Q E h=>?_) (fun z8 A j8 s H vs Q E R h=>?_)
 ·obtain⟨c,m,ga,N,B,gs,O,rfl,_⟩:=h
  rfl
 obtain⟨c,m,ga,N,B,gs,O,rfl,hc,lo,hn,q8,G,hl,q⟩:=h;obtain⟨d1,d2,d3,d4,d5,d6,d7⟩:=Zw9 m q8 lo;obtain⟨z1,z2,z3,z4⟩:=Zw4 m q8 lo;have lg:=Paired.length G.p
 refine⟨_,(Za3 (Zd2 (ptcM (Ze7) (Zb6 Zc6 (pvM 0) Za2) Za2)
  (Za3 (Zk9 (Zc2 C__law_made R (Za0 (Zc2 C__law_mix R (Za7 (pvM 0) (Zb2 Za2 Za1))) (Za0 (Zb6 Zh2 (pvM 1) Za2) (Za7 (pvM 2) (Za7 (pvM 3) Za1))))) (Zg4 rfl (Zb8 (Zc0 (i:=4) sc_ba0.nd rfl (Or.inl rfl)) (Zb8 (Zc0 (i:=5) sc_ba0.nd rfl (Or.inl rfl)) Ze3))))
 (Za8 (Zd2 ((Yc3 (ptcM (Ze7) (pxt (pvM 5) Za2) Za9) (Zt9 (Zo8 (Xs8 (Zl3 R)) (pxt (pvM 5) Za2) (pvM 2) (by with_unfolding_all rfl))))).pt
  (Za8 (Zb3 (Zb5 (Zc4 (Zb5 (Zb2 Za9 (Za7 (pvM 4) (Zc4 (Zb5 (Zb2 Za9 (Za0 (Zz2 F.plainAttrs_list F.slot_list_index F.type_list_index (Yl0 (K:=K) rfl (Zl3 R)) (pvM 2) (Zp0 (pxt (pvM 5) Za2) Za1)) Za1))) Za1)))) (Zp0 (pxt (pvM 5) Za2) Za1)))))
  Zb4)))
  Zb4)
 (Za3 (Zk9 (Zc2 C__law_made R (Za0 (Zc2 C__law_mix R (Za7 (pvM 0) (Zb2 Za2 Za1))) (Za0 (Zb6 Zd9 (pvM 1) Za2) (Za7 (pvM 2) (Za7 (pvM 3) Za1))))) (Zg4 rfl (Zb8 (Zc0 (i:=6) sc_ba0.nd rfl (Or.inl rfl)) (Zb8 (Zc0 (i:=7) sc_ba0.nd rfl (Or.inl rfl)) Ze3))))
 (Za3 (Zk9 (Zc2 C__law_made R (Za0 (Zc2 C__law_mix R (Za7 (pvM 0) (Zb2 Za2 Za1))) (Za0 (Zb6 Zd9 (pvM 1) Za2) (Za0 (Zb6 Yw4 (Ze1 (Za7 (pvM 7) Za1)) (pvM 2)) (Za7 (pvM 3) Za1))))) (Zg4 rfl (Zb8 (Zc0 (i:=4) sc_ba0.nd rfl (Or.inl rfl)) (Zb8 (Zc0 (i:=5) sc_ba0.nd rfl (Or.inl rfl)) Ze3))))
 (Za8 (Zb3 (Zb5 (Zc4 (Zb5 (Zb2 Za9 (Zc4 (Zb5 (Zb2 Za9 (Za7 (pvM 7) (Za7 (pvM 4) Za1)))) (Za7 (pvM 6) Za1)))) (Za7 (pvM 5) Za1)))))))),?_⟩
 refine sqt (fun b a=>∃ x4 x5,b=[some (.int c),some (.int (m:Nat)),some (.ref ga),some (.ref N),x4,x5,none,none]∧Same H a) ?_ ?_
 ·intro C hC
  walk_at "3";refine⟨by decide,ite2 (fun _=>?_) (fun _=>hC _ _ ⟨none,none,rfl,Same.refl _⟩)⟩;refine sqt (fun b a=>∃ x y t g,b=[some (.int c),some (.int (m:Nat)),some (.ref ga),some (.ref N),some x,some y,none,none]∧Same H a∧IsE K a x t∧IsT K a y g∧t.fine B∧t.deep≤dB (m - 1)∧t.size≤sB (m - 1)∧g.inW B∧g.parts≤60) ?_ ?_
  ·intro C' S
   walk_at "1";refine⟨_,_,rfl,by omega,by omega,_,m - 1,ga,N,B,gs,O,by rw[show (m:Int) - 1=((m - 1:Nat):Int) by omega],Zg5 _ _,by omega,by omega,by omega,G,by omega,fun r H1 M hm=>?_⟩;obtain⟨p,x,y,t,g,rfl,h1,Z,h3,h4,h5,h6,h7,h8⟩:=hm;exact⟨p,rfl,_,h1,rfl,_,_,rfl,_,_,rfl,rfl,S _ _ ⟨x,y,t,g,rfl,M,Z,h3,h4,h5,h6,h7,h8⟩⟩
  rintro j2 H1 ⟨x,y,t,g,rfl,M,hx,hy,tf,td,tz,gw,gp⟩;obtain⟨py,ys,rfl,j7,j4⟩:=Yg7 hy;have G1:=G.keep M;walk_at "1";refine⟨_,j7,_,j4,rfl,?_⟩
  by_cases ca:g.tagS="then"
  ·obtain⟨I,q9,rfl⟩:=Yo0 (k:=.thn) ca
   obtain⟨p,u1,u2,e,L,q7,j6⟩:=isT_nd.mp hy;cases e;have z7:1+I.parts+q9.parts≤60:=gp;rw[if_pos (by rfl)];have q4:∀ s∈O,s.ok:=fun s L=>(G.o s L).1.ok G.wo.2.2;have dq:I.deep≤140:=Nat.le_trans (Zl6 I) (by omega);refine⟨_,L,_,rfl,I,q7,_,SqL.of G1.g,O,G1.p,gw.1.ok G.wo.2.2,q4,dq,?_⟩;rw[if_neg Bool.false_ne_true]
   by_cases cm:I∈O
   ·rw[if_pos (decide_eq_true cm)]
    refine⟨.inl ⟨rfl,_,SqL.of G1.g⟩,_,L,_,rfl,I,q7,_,SqL.of G1.g,O,G1.p,gw.1.ok G.wo.2.2,q4,dq,cm,fun j hj=>⟨by decide,?_⟩⟩;intro p1 Y;generalize v:upd H1 p1 (.tup [.str "at",.int (j:Nat)])=J1;have J:=nw1 Y v;have q1:=nw2 (K:=K) v;refine⟨by decide,?_⟩;intro U X;generalize l:upd J1 U (.tup [.str "use",x,.ref p1])=J2;have D:=nw1 X l;have q2:=nw2 (K:=K) l;refine⟨_,(J.trans D).sqt L,_,rfl,by decide,?_⟩;intro p3 W;generalize f:upd J2 p3 (.tup [.ref U,u2])=J3;have T:=nw1 W f;have q3:=nw2 (K:=K) f;have d:=(J.trans D).trans T;exact q _ _ (M.trans d) (Zg7 (t:=.two .use t (.at j)) (g:=q9) q3 (Zk1 (u:=.use) (T.sqt q2) (IsE.keep hx d.keepT) (Zu4 ((D.trans T).sqt q1))) (IsT.keep j6 d.keepT) ⟨tf,trivial⟩ (by show 1+max t.deep 1≤_;omega) (by show 1+t.size+1≤_;omega) gw.2 (by omega))
   ·rw[if_neg (by simpa using cm)]
    exact hC _ _ ⟨_,_,rfl,M⟩
  ·rw[if_neg (fun z=>ca (V.str.inj z))]
   exact hC _ _ ⟨_,_,rfl,M⟩
 rintro j2 H1 ⟨x4,x5,rfl,M⟩;refine sqt (fun b a=>∃ x y t g,b=[some (.int c),some (.int (m:Nat)),some (.ref ga),some (.ref N),x4,x5,some x,some y]∧Same H a∧IsE K a x t∧IsT K a y g∧t.fine B∧t.deep≤dB (m / 2)∧t.size≤sB (m / 2)∧g.inW B∧g.parts≤60) ?_ ?_
 ·intro C' S
  walk_at "1";refine⟨_,_,rfl,by omega,by omega,⟨by decide,by decide⟩,_,m / 2,ga,N,B,gs,O,rfl,Zg5 _ _,by omega,by omega,by omega,G.keep M,by omega,fun r H2 e2 hm=>?_⟩;obtain⟨p,x,y,t,g,rfl,h1,Z,h3,h4,h5,h6,h7,h8⟩:=hm;exact⟨p,rfl,_,h1,rfl,_,_,rfl,_,_,rfl,rfl,S _ _ ⟨x,y,t,g,rfl,M.trans e2,Z,h3,h4,h5,h6,h7,h8⟩⟩
 rintro z0 H2 ⟨x6,x7,t6,g7,rfl,e2,j5,q6,j3,z6,z5,j0,j1⟩;refine sqt (fun b a=>∃ x y t g,b=[some (.int c),some (.int (m:Nat)),some (.ref ga),some (.ref N),some x,some y,some x6,some x7]∧Same H2 a∧IsE K a x t∧IsT K a y g∧t.fine B∧t.deep≤dB (m / 2)∧t.size≤sB (m / 2)∧g.inW B∧g.parts≤60) ?_ ?_
 ·intro C' S
  walk_at "1";have G2:=G.keep e2;refine⟨_,_,rfl,by omega,by omega,⟨by decide,by decide⟩,by decide,fun p1 h1=>?_⟩;have J:=Za6 h1 (.lst [x7]);refine⟨_,Za4,gs,J _ _ G2.g,Nat.le_of_lt (Zh8 (by show 1+gs.length≤_;omega)),fun U Z=>?_⟩;have D:=Za6 Z (.lst ([x7]++gs));have q5:=(J.trans D).keepT (K:=K);refine⟨_,m / 2,U,N,B,x7 :: gs,g7 :: O,rfl,Zg5 _ _,by omega,by omega,by omega,⟨(J.trans D).seq G2.w,G.wo,Za4,.cons (IsT.keep q6 q5) (Paired.mapP G2.p fun _ _ z=>IsT.keep z q5),fun s L=>?_⟩,by rw[List.length_cons];omega,fun r H3 e3 hm=>?_⟩
  ·rcases List.mem_cons.mp L with rfl | L
   ·exact⟨j0,j1⟩
   ·exact G.o s L
  obtain⟨p,x,y,t,g,rfl,h1,Z,h3,h4,h5,h6,h7,h8⟩:=hm;exact⟨p,rfl,_,h1,rfl,_,_,rfl,_,_,rfl,rfl,S _ _ ⟨x,y,t,g,rfl,(J.trans D).trans e3,Z,h3,h4,h5,h6,h7,h8⟩⟩
 rintro j9 H3 ⟨x,y,t,g,rfl,e3,hx,hy,tf,td,tz,gw,gp⟩;walk_at "1";refine⟨by decide,?_⟩;intro p1 Y;generalize v:upd H3 p1 (.tup [.str "fun",x7,x])=J1;have J:=nw1 Y v;have q1:=nw2 (K:=K) v;refine⟨by decide,?_⟩;intro U X;generalize l:upd J1 U (.tup [.str "use",.ref p1,x6])=J2;have D:=nw1 X l;have q2:=nw2 (K:=K) l;refine⟨by decide,?_⟩;intro p3 W;generalize f:upd J2 p3 (.tup [.ref U,y])=J3;have T:=nw1 W f;have q3:=nw2 (K:=K) f;have d:=(J.trans D).trans T;have q0:=e3.trans d;refine q _ _ (e2.trans q0) (Zg7 (t:=.two .use (.fn g7 t) t6) (g:=g) q3 (Zk1 (u:=.use) (T.sqt q2) (Yr4 ((D.trans T).sqt q1) (IsT.keep q6 q0.keepT) (IsE.keep hx d.keepT)) (IsE.keep j5 q0.keepT)) (IsT.keep hy d.keepT) ⟨⟨⟨j0,j1⟩,tf⟩,j3⟩ (by show 1+max (1+t.deep) t6.deep≤_;omega) (by show 1+(1+t.size)+t6.size≤_;omega) gw gp)
theorem Wi3 {k n:Nat} {f_af0:Addr} {fd_af0:FuncData} (F_af0:Fun K "_law_any" "_law_any" (top 46) f_af0 fd_af0) (C__law_made:Cl P w K mg base k "_law_made" pq3 (Zf8 K 0 n 60)) (C__law_sided:Cl P w K mg base k "_law_sided" pq3 (Zf8 K 2 (n+1) 60)) (C__law_chosen:Cl P w K mg base k "_law_chosen" pq3 (Zf8 K 2 (n+1) 60)) (C__law_used:Cl P w K mg base k "_law_used" pq3 (Zf8 K 2 (n+1) 60)) (C__law_mix:Cl P w K mg base k "_law_mix" pq1 (Zk7)) (C__law_statement:Cl P w K mg base k "_law_statement" pq4 (Zk6 K 12)):Fk0 P w K mg base (k+1) f_af0 fd_af0 pq3 (Zf8 K 2 (n+1) 150):=by
 refine F_af0.ok sc_af0 (fun vs H Q E h=>?_) (fun y8 A z9 s H vs Q E I h=>?_)
 ·obtain⟨c,m,D,v,O,gs,ts,rfl,_⟩:=h
  rfl
 obtain⟨c,m,D,v,O,gs,ts,rfl,hc,lo,hn,q6,G,hl,q⟩:=h;obtain⟨d1,d2,d3,d4,d5,d6,d7⟩:=Zw9 m q6 lo;obtain⟨z1,z2,z3,z4⟩:=Zw4 m q6 lo;have lg:=Paired.length G.p
 have sd:0≤c / 8:=by omega
 have qm:∀ (r:V) (H':Hp),Same H H'→MadeE K H' O (dB m) (sB m) 60 r→Q r H':=fun r H' e hm=>q r H' e (hm.mono (KeepT.refl _) (Nat.le_refl _) (Nat.le_refl _) (by omega))
 refine⟨_,(Za3 (pst 4 sc_af0.nd (Zb6 Zc6 (pvM 0) Za2))
 (Za3 (pst 5 sc_af0.nd (Zb6 Zd9 (pvM 0) Za2))
 (Za3 (Zd2 (ptcM (Ze7) (pvM 4) Za2)
  (Za3 (Zk9 (Zc2 C__law_made I (Za0 (Zc2 C__law_mix I (Za7 (pvM 5) (Zb2 Za2 Za1))) (Za0 (Zb6 Zd9 (pvM 1) Za2) (Za7 (pvM 2) (Za7 (pvM 3) Za1))))) (Zg4 rfl (Zb8 (Zc0 (i:=6) sc_af0.nd rfl (Or.inl rfl)) (Zb8 (Zc0 (i:=7) sc_af0.nd rfl (Or.inl rfl)) Ze3))))
 (Za3 (Zk9 (Zc2 C__law_made I (Za0 (Zc2 C__law_mix I (Za7 (pvM 5) (Zb2 Za2 Za1))) (Za0 (Zb6 Zd9 (pvM 1) Za2) (Za7 (pvM 2) (Za7 (pvM 3) Za1))))) (Zg4 rfl (Zb8 (Zc0 (i:=8) sc_af0.nd rfl (Or.inl rfl)) (Zb8 (Zc0 (i:=9) sc_af0.nd rfl (Or.inl rfl)) Ze3))))
 (Za8 (Zb3 (Zb5 (Zc4 (Zb5 (Zb2 Za9 (Za7 (pvM 6) (Za7 (pvM 8) Za1)))) (Zc4 (Zb5 (Zb2 Za9 (Za7 (pvM 7) (Za7 (pvM 9) Za1)))) Za1)))))))
  Zb4)
 (Za3 (Zd2 (ptcM (Ze7) (pvM 4) Za2)
  (Za8 (Zb3 (Zc2 C__law_sided I (Za7 (pvM 5) (Za7 (pvM 1) (Za7 (pvM 2) (Za7 (pvM 3) Za1)))))))
  Zb4)
 (Za3 (Zd2 (ptcM (Ze7) (pvM 4) Za2)
  (Za3 (Zk9 (Zc2 C__law_made I (Za0 (Zc2 C__law_mix I (Za7 (pvM 5) (Zb2 Za2 Za1))) (Za0 (Zb6 Zh2 (pvM 1) Za2) (Za7 (pvM 2) (Za7 (pvM 3) Za1))))) (Zg4 rfl (Zb8 (Zc0 (i:=10) sc_af0.nd rfl (Or.inl rfl)) (Zb8 (Zc0 (i:=7) sc_af0.nd rfl (Or.inl rfl)) Ze3))))
 (Za3 (pst 9 sc_af0.nd (Zc2 C__law_statement I (Za0 (Zc2 C__law_mix I (Za7 (pvM 5) (Zb2 Za2 Za1))) (Za0 (Zb6 Ze0 Za2 (Zb6 Zc6 (pvM 5) Za2)) (Za7 (pvM 3) Za1)))))
 (Za3 (Zd2 (ptcM (Ze7) (Zb6 Zc6 (Zb6 Zd9 (pvM 5) Za2) Za2) Za2)
  (Za8 (Zb3 (Zb5 (Zc4 (Zb5 (Zb2 Za9 (Za7 (pvM 10) (Za7 (pvM 9) Za1)))) (Zc4 (Zb5 (Zb2 Za9 (Za7 (pvM 7) (Za7 (pvM 9) Za1)))) Za1)))))
  Zb4)
 (Za8 (Zb3 (Zb5 (Zc4 (Zb5 (Zb2 Za9 (Za7 (pvM 10) (Za7 (pvM 9) Za1)))) (Zc4 (Zb5 (Zb2 Za9 (Za7 (pvM 9) (Za7 (pvM 7) Za1)))) Za1))))))))
  Zb4)
 (Za3 (Zd2 (ptcM (Ze7) (pvM 4) Za2)
  (Za8 (Zb3 (Zc2 C__law_chosen I (Za7 (pvM 5) (Za7 (pvM 1) (Za7 (pvM 2) (Za7 (pvM 3) Za1)))))))
  Zb4)
 (Za3 (Zd2 ((Yc3 (ptcM (Ze7) (pvM 4) Za2) (Zt9 (Zo8 (Xs8 (Zl3 I)) (Zb5 (Zb2 Za9 Za1)) (pvM 2) (by with_unfolding_all rfl))))).pt
  (Za3 (pst 11 sc_af0.nd (Zc2 C__law_statement I (Za0 (Zc2 C__law_mix I (Za7 (pvM 5) (Zb2 Za2 Za1))) (Za0 (Zb6 Ze0 Za2 (Zb6 Zc6 (pvM 5) Za2)) (Za7 (pvM 3) Za1)))))
 (Za8 (Zb3 (Zb5 (Zc4 (Zb5 (Zb2 Za9 (Zc4 (Zb5 (Zb2 Za9 (Za0 (Zz2 F.plainAttrs_list F.slot_list_index F.type_list_index (Yl0 (K:=K) rfl (Zl3 I)) (pvM 2) (Zc4 (Zb5 (Zb2 Za9 Za1)) Za1)) Za1))) (Za7 (pvM 11) Za1)))) (Za7 (pvM 11) Za1))))))
  Zb4)
 (Za3 (Zd2 (ptcM (Yk6) (pvM 4) Za2)
  (Za3 (pst 11 sc_af0.nd (Zc2 C__law_statement I (Za0 (Zc2 C__law_mix I (Za7 (pvM 5) (Zb2 Za2 Za1))) (Za0 (Zb6 Ze0 Za2 (Zb6 Zc6 (pvM 5) Za2)) (Za7 (pvM 3) Za1)))))
 (Za3 (Zk9 (Zc2 C__law_made I (Za0 (Zc2 C__law_mix I (Za7 (pvM 5) (Zb2 Za2 Za1))) (Za0 (Zb6 Zh2 (pvM 1) Za2) (Za0 (Zb6 Yw4 (Ze1 (Za7 (pvM 11) Za1)) (pvM 2)) (Za7 (pvM 3) Za1))))) (Zg4 rfl (Zb8 (Zc0 (i:=10) sc_af0.nd rfl (Or.inl rfl)) (Zb8 (Zc0 (i:=7) sc_af0.nd rfl (Or.inl rfl)) Ze3))))
 (Za8 (Zb3 (Zb5 (Zc4 (Zb5 (Zb2 Za9 (Za7 (pvM 11) (Za7 (pvM 10) Za1)))) (Zc4 (Zb5 (Zb2 Za9 (Za7 (pvM 11) (Za7 (pvM 7) Za1)))) Za1)))))))
  Zb4)
 (Za8 (Zb3 (Zc2 C__law_used I (Za7 (pvM 5) (Za7 (pvM 1) (Za7 (pvM 2) (Za7 (pvM 3) Za1))))))))))))))),?_⟩
 refine sqt (fun a H'=>a=[some (.int c),some (.int (m:Nat)),some (.ref D),some (.ref v),some (.int (c % 8)),none,none,none,none,none,none,none]∧H'=H) ?_ ?_
 ·intro C U
  walk_at "1";exact⟨by decide,U _ _ ⟨rfl,rfl⟩⟩
 rintro y4 H0 ⟨rfl,rfl⟩;refine sqt (fun a H'=>a=[some (.int c),some (.int (m:Nat)),some (.ref D),some (.ref v),some (.int (c % 8)),some (.int (c / 8)),none,none,none,none,none,none]∧H'=H0) ?_ ?_
 ·intro C U
  walk_at "1";exact⟨⟨by decide,by decide⟩,U _ _ ⟨rfl,rfl⟩⟩
 rintro y3 H1 ⟨rfl,rfl⟩;generalize c / 8=sdv at sd ⊢;generalize c % 8=fm;refine sqt (fun a H'=>a=[some (.int c),some (.int (m:Nat)),some (.ref D),some (.ref v),some (.int fm),some (.int sdv),none,none,none,none,none,none]∧H'=H1) ?_ ?_
 ·intro C U
  walk_at "3";refine ite2 (fun _=>?_) (fun _=>U _ _ ⟨rfl,rfl⟩);refine sqt (fun a H'=>∃ x y t g,a=[some (.int c),some (.int (m:Nat)),some (.ref D),some (.ref v),some (.int fm),some (.int sdv),some x,some y,none,none,none,none]∧Same H1 H'∧IsE K H' x t∧IsT K H' y g∧t.fine O∧t.deep≤dB (m / 2)∧t.size≤sB (m / 2)∧g.inW O∧g.parts≤60) ?_ ?_
  ·intro C' X
   walk_at "1";refine⟨_,_,rfl,by omega,by omega,⟨by decide,by decide⟩,_,m / 2,D,v,O,gs,ts,rfl,Zg5 _ _,by omega,by omega,by omega,G,by omega,fun r J ej hm=>?_⟩;obtain⟨p,x,y,t,g,rfl,h1,h2,h3,h4,h5,h6,h7,h8⟩:=hm;exact⟨p,rfl,_,h1,rfl,_,_,rfl,_,_,rfl,rfl,X _ _ ⟨x,y,t,g,rfl,ej,h2,h3,h4,h5,h6,h7,h8⟩⟩
  rintro j9 H2 ⟨x,y,t,g,rfl,e2,hx,hy,tf,td,tz,gw,gp⟩;refine sqt (fun a H'=>∃ x9 y9 t g,a=[some (.int c),some (.int (m:Nat)),some (.ref D),some (.ref v),some (.int fm),some (.int sdv),some x,some y,some x9,some y9,none,none]∧Same H2 H'∧IsE K H' x9 t∧IsT K H' y9 g∧t.fine O∧t.deep≤dB (m / 2)∧t.size≤sB (m / 2)∧g.inW O∧g.parts≤60) ?_ ?_
  ·intro C' X
   walk_at "1";refine⟨_,_,rfl,by omega,by omega,⟨by decide,by decide⟩,_,m / 2,D,v,O,gs,ts,rfl,Zg5 _ _,by omega,by omega,by omega,G.keep e2,by omega,fun r J ej hm=>?_⟩;obtain⟨p,x',y',t',g',rfl,h1,h2,h3,h4,h5,h6,h7,h8⟩:=hm;exact⟨p,rfl,_,h1,rfl,_,_,rfl,_,_,rfl,rfl,X _ _ ⟨x',y',t',g',rfl,ej,h2,h3,h4,h5,h6,h7,h8⟩⟩
  rintro j8 H3 ⟨x',y',t',g',rfl,e3,z7,z6,z0,y6,y5,z8,y7⟩;walk_at "1";refine⟨by decide,?_⟩;intro W N;generalize f:upd H3 W (.tup [.str "pair",x,x'])=J1;have T:=nw1 N f;have q1:=nw2 (K:=K) f;refine⟨by decide,?_⟩;intro B M;generalize d:upd J1 B (.tup [.str "both",y,y'])=J2;have R:=nw1 M d;have q2:=nw2 (K:=K) d;refine⟨by decide,?_⟩;intro p3 L;generalize b:upd J2 p3 (.tup [.ref W,.ref B])=J3;have S:=nw1 L b;have q3:=nw2 (K:=K) b;have l:=(T.trans R).trans S;have j1:=e3.trans l;exact q _ _ (e2.trans j1) (Zg7 (t:=.two .pair t t') (g:=.nd .both g g') q3 (Zk1 (u:=.pair) ((R.trans S).sqt q1) (IsE.keep hx j1.keepT) (IsE.keep z7 l.keepT)) (isT_nd.mpr ⟨B,y,y',rfl,S.sqt q2,IsT.keep hy j1.keepT,IsT.keep z6 l.keepT⟩) ⟨tf,z0⟩ (by show 1+max t.deep t'.deep≤_;omega) (by show 1+t.size+t'.size≤_;omega) ⟨gw,z8⟩ (by show 1+g.parts+g'.parts≤_;omega))
 rintro j9 H2 ⟨rfl,rfl⟩;refine sqt (fun a H'=>a=[some (.int c),some (.int (m:Nat)),some (.ref D),some (.ref v),some (.int fm),some (.int sdv),none,none,none,none,none,none]∧H'=H2) ?_ ?_
 ·intro C U
  walk_at "1";refine ite2 (fun _=>?_) (fun _=>U _ _ ⟨rfl,rfl⟩);exact⟨_,m,D,v,O,gs,ts,rfl,sd,lo,hn,q6,G,hl,qm⟩
 rintro j8 H3 ⟨rfl,rfl⟩;refine sqt (fun a H'=>a=[some (.int c),some (.int (m:Nat)),some (.ref D),some (.ref v),some (.int fm),some (.int sdv),none,none,none,none,none,none]∧H'=H3) ?_ ?_
 ·intro C U
  walk_at "3";refine ite2 (fun _=>?_) (fun _=>U _ _ ⟨rfl,rfl⟩);refine sqt (fun a H'=>∃ x y t g,a=[some (.int c),some (.int (m:Nat)),some (.ref D),some (.ref v),some (.int fm),some (.int sdv),none,some y,none,none,some x,none]∧Same H3 H'∧IsE K H' x t∧IsT K H' y g∧t.fine O∧t.deep≤dB (m - 1)∧t.size≤sB (m - 1)∧g.inW O∧g.parts≤60) ?_ ?_
  ·intro C' X
   walk_at "1";refine⟨_,_,rfl,by omega,by omega,_,m - 1,D,v,O,gs,ts,by rw[show (m:Int) - 1=((m - 1:Nat):Int) by omega],Zg5 _ _,by omega,by omega,by omega,G,by omega,fun r J ej hm=>?_⟩;obtain⟨p,x,y,t,g,rfl,h1,h2,h3,h4,h5,h6,h7,h8⟩:=hm;exact⟨p,rfl,_,h1,rfl,_,_,rfl,_,_,rfl,rfl,X _ _ ⟨x,y,t,g,rfl,ej,h2,h3,h4,h5,h6,h7,h8⟩⟩
  rintro j7 H4 ⟨x,y,t,g,rfl,e4,hx,hy,tf,td,tz,gw,gp⟩;have a0:=Int.emod_nonneg sdv (show (4:Int)≠0 by decide);have a1:=Int.emod_lt_of_pos sdv (show (0:Int) < 4 by decide);walk_at "1";refine⟨_,_,rfl,by omega,by omega,by decide,Zm9 (Zg5 _ _) (by omega) (by omega) (e4.seq G.w) G.wo fun r H5 u e5 Z Y up=>?_⟩
  have pu:u.parts≤4:=by omega
  refine⟨⟨by decide,by decide⟩,by decide,ite2 (fun _=>⟨by decide,?_⟩) (fun _=>⟨by decide,?_⟩)⟩
  ·intro W N;generalize f:upd H5 W (.tup [.str "first",x,r])=J1;have T:=nw1 N f;have q1:=nw2 (K:=K) f
   refine⟨by decide,?_⟩;intro B M;generalize d:upd J1 B (.tup [.str "one",y,r])=J2;have R:=nw1 M d;have q2:=nw2 (K:=K) d;refine⟨by decide,?_⟩;intro p3 L;generalize b:upd J2 p3 (.tup [.ref W,.ref B])=J3;have S:=nw1 L b;have q3:=nw2 (K:=K) b;have l:=(T.trans R).trans S;have q0:=e5.trans l;exact q _ _ (e4.trans q0) (Zg7 (t:=.one .first t [u]) (g:=.nd .one g u) q3 (Zs8 (u:=.first) ((R.trans S).sqt q1) (IsE.keep hx q0.keepT) (IsT.keep Z l.keepT)) (isT_nd.mpr ⟨B,y,r,rfl,S.sqt q2,IsT.keep hy q0.keepT,IsT.keep Z l.keepT⟩) ⟨tf,rfl,fun s hs=>by rw[List.mem_singleton.mp hs];exact⟨Y,by omega⟩⟩ (by show 1+t.deep≤_;omega) (by show 1+t.size≤_;omega) ⟨gw,Y⟩ (by show 1+g.parts+u.parts≤_;omega))
  ·intro W N;generalize f:upd H5 W (.tup [.str "second",x,r])=J1;have T:=nw1 N f;have q1:=nw2 (K:=K) f
   refine⟨by decide,?_⟩;intro B M;generalize d:upd J1 B (.tup [.str "one",r,y])=J2;have R:=nw1 M d;have q2:=nw2 (K:=K) d;refine⟨by decide,?_⟩;intro p3 L;generalize b:upd J2 p3 (.tup [.ref W,.ref B])=J3;have S:=nw1 L b;have q3:=nw2 (K:=K) b;have l:=(T.trans R).trans S;have q0:=e5.trans l;exact q _ _ (e4.trans q0) (Zg7 (t:=.one .second t [u]) (g:=.nd .one u g) q3 (Zs8 (u:=.second) ((R.trans S).sqt q1) (IsE.keep hx q0.keepT) (IsT.keep Z l.keepT)) (isT_nd.mpr ⟨B,r,y,rfl,S.sqt q2,IsT.keep Z l.keepT,IsT.keep hy q0.keepT⟩) ⟨tf,rfl,fun s hs=>by rw[List.mem_singleton.mp hs];exact⟨Y,by omega⟩⟩ (by show 1+t.deep≤_;omega) (by show 1+t.size≤_;omega) ⟨Y,gw⟩ (by show 1+u.parts+g.parts≤_;omega))
 rintro j7 H4 ⟨rfl,rfl⟩;refine sqt (fun a H'=>a=[some (.int c),some (.int (m:Nat)),some (.ref D),some (.ref v),some (.int fm),some (.int sdv),none,none,none,none,none,none]∧H'=H4) ?_ ?_
 ·intro C U
  walk_at "1";refine ite2 (fun _=>?_) (fun _=>U _ _ ⟨rfl,rfl⟩);exact⟨_,m,D,v,O,gs,ts,rfl,sd,lo,hn,q6,G,hl,qm⟩
 rintro y2 H5 ⟨rfl,rfl⟩;refine sqt (fun a H'=>a=[some (.int c),some (.int (m:Nat)),some (.ref D),some (.ref v),some (.int fm),some (.int sdv),none,none,none,none,none,none]∧Same H5 H') ?_ ?_
 ·intro C U
  walk_at "1";refine ite2 (fun _=>⟨by decide,?_⟩) (fun _=>U _ _ ⟨rfl,Same.refl _⟩);intro W N;generalize f:upd H5 W (.tup [.str "low"])=J1;have T:=nw1 N f;have q1:=nw2 (K:=K) f;have GJ:=G.keep T;have j2:∀ s∈ts,s.ok:=fun s hs=>(G.o s hs).1.ok G.wo.2.2;have a0:=Int.emod_nonneg sdv (show (5:Int)≠0 by decide);have a1:=Int.emod_lt_of_pos sdv (show (0:Int) < 5 by decide);refine⟨.low,isT_low.mpr ⟨W,rfl,q1⟩,_,SqL.of GJ.g,ts,GJ.p,trivial,j2,by decide,?_⟩;rw[if_neg Bool.false_ne_true]
  by_cases cm:Tm.low∈ts
  ·rw[if_pos (decide_eq_true cm)]
   refine⟨_,_,rfl,by omega,by omega,by decide,Zm9 (Zg5 _ _) (by omega) (by omega) GJ.w G.wo fun r H6 u e6 Z Y up=>⟨.inl ⟨rfl,_,SqL.of (e6 _ _ GJ.g)⟩,by decide,?_⟩⟩;intro B M;generalize d:upd H6 B (.tup [.str "low"])=J2;have R:=nw1 M d;have q2:=nw2 (K:=K) d;have G2:=(GJ.keep e6).keep R;refine⟨.low,isT_low.mpr ⟨B,rfl,q2⟩,_,SqL.of G2.g,ts,G2.p,trivial,j2,by decide,cm,fun j hj=>⟨by decide,?_⟩⟩;intro p3 L;generalize b:upd J2 p3 (.tup [.str "at",.int (j:Nat)])=J3;have S:=nw1 L b;have q3:=nw2 (K:=K) b;refine⟨by decide,?_⟩;intro p4 j5;generalize q9:upd J3 p4 (.tup [.str "off",.ref p3,r])=J4;have s4:=nw1 j5 q9;have q4:=nw2 (K:=K) q9;refine⟨by decide,?_⟩;intro p5 j4;generalize q8:upd J4 p5 (.tup [.ref p4,r])=J5;have s5:=nw1 j4 q8;have q5:=nw2 (K:=K) q8;have z5:=(S.trans s4).trans s5;have q7:=R.trans z5;exact q _ _ ((T.trans e6).trans q7) (Zg7 (t:=.one .off (.at j) [u]) (g:=u) q5 (Zs8 (u:=.off) (s5.sqt q4) (Zu4 ((s4.trans s5).sqt q3)) (IsT.keep Z q7.keepT)) (IsT.keep Z q7.keepT) ⟨trivial,rfl,fun s hs=>by rw[List.mem_singleton.mp hs];exact⟨Y,by omega⟩⟩ (by show 1+1≤_;omega) (by show 1+1≤_;omega) Y (by omega))
  ·rw[if_neg (by simpa using cm)]
   exact U _ _ ⟨rfl,T⟩
 rintro y1 H6 ⟨rfl,e6⟩;have G6:=G.keep e6;refine sqt (fun a H'=>a=[some (.int c),some (.int (m:Nat)),some (.ref D),some (.ref v),some (.int fm),some (.int sdv),none,none,none,none,none,none]∧H'=H6) ?_ ?_
 ·intro C U
  walk_at "3";refine ite2 (fun _=>?_) (fun _=>U _ _ ⟨rfl,rfl⟩);have a0:=Int.emod_nonneg sdv (show (5:Int)≠0 by decide);have a1:=Int.emod_lt_of_pos sdv (show (0:Int) < 5 by decide);refine sqt (fun a H'=>∃ r u,a=[some (.int c),some (.int (m:Nat)),some (.ref D),some (.ref v),some (.int fm),some (.int sdv),none,none,none,none,none,some r]∧Same H6 H'∧IsT K H' r u∧u.inW O∧u.parts≤5) ?_ ?_
  ·intro C' X
   walk_at "1";exact⟨_,_,rfl,by omega,by omega,by decide,Zm9 (Zg5 _ _) (by omega) (by omega) G6.w G.wo fun r J u ej Z Y up=>X _ _ ⟨r,u,rfl,ej,Z,Y,by omega⟩⟩
  rintro j6 H7 ⟨r,u,rfl,e7,Z,Y,up⟩;have G7:=G6.keep e7;refine sqt (fun a H'=>∃ x y t g,a=[some (.int c),some (.int (m:Nat)),some (.ref D),some (.ref v),some (.int fm),some (.int sdv),none,some y,none,none,some x,some r]∧Same H7 H'∧IsE K H' x t∧IsT K H' y g∧t.fine O∧t.deep≤dB (m - 1)∧t.size≤sB (m - 1)∧g.inW O∧g.parts≤60) ?_ ?_
  ·intro C' X
   walk_at "1";refine⟨_,_,rfl,by omega,by omega,by decide,fun W h1=>?_⟩;have T:=Za6 h1 (.lst [r]);refine⟨_,Za4,gs,T _ _ G7.g,Nat.le_of_lt (Zh8 (by show 1+gs.length≤_;omega)),fun B h2=>?_⟩;have R:=Za6 h2 (.lst ([r]++gs));have j3:=(T.trans R).keepT (K:=K);refine⟨_,m - 1,B,v,O,r :: gs,u :: ts,by rw[show (m:Int) - 1=((m - 1:Nat):Int) by omega],Zg5 _ _,by omega,by omega,by omega,⟨(T.trans R).seq G7.w,G.wo,Za4,.cons (IsT.keep Z j3) (Paired.mapP G7.p fun _ _ z=>IsT.keep z j3),fun s hs=>?_⟩,by rw[List.length_cons];omega,fun r2 J ej hm=>?_⟩
   ·rcases List.mem_cons.mp hs with rfl | hs
    ·exact⟨Y,by omega⟩
    ·exact G.o s hs
   obtain⟨p,x,y,t,g,rfl,h1,h2,h3,h4,h5,h6,h7,h8⟩:=hm;exact⟨p,rfl,_,h1,rfl,_,_,rfl,_,_,rfl,rfl,X _ _ ⟨x,y,t,g,rfl,(T.trans R).trans ej,h2,h3,h4,h5,h6,h7,h8⟩⟩
  rintro y0 H8 ⟨x,y,t,g,rfl,e8,hx,hy,tf,td,tz,gw,gp⟩;walk_at "1";refine⟨by decide,?_⟩;intro W N;generalize f:upd H8 W (.tup [.str "fun",r,x])=J1;have T:=nw1 N f;have q1:=nw2 (K:=K) f;refine⟨by decide,?_⟩;intro B M;generalize d:upd J1 B (.tup [.str "then",r,y])=J2;have R:=nw1 M d;have q2:=nw2 (K:=K) d;refine⟨by decide,?_⟩;intro p3 L;generalize b:upd J2 p3 (.tup [.ref W,.ref B])=J3;have S:=nw1 L b;have q3:=nw2 (K:=K) b;have l:=(T.trans R).trans S;have j0:=e8.trans l;exact q _ _ ((e6.trans e7).trans j0) (Zg7 (t:=.fn u t) (g:=.nd .thn u g) q3 (Yr4 ((R.trans S).sqt q1) (IsT.keep Z j0.keepT) (IsE.keep hx l.keepT)) (isT_nd.mpr ⟨B,r,y,rfl,S.sqt q2,IsT.keep Z j0.keepT,IsT.keep hy l.keepT⟩) ⟨⟨Y,by omega⟩,tf⟩ (by show 1+t.deep≤_;omega) (by show 1+t.size≤_;omega) ⟨Y,gw⟩ (by show 1+u.parts+g.parts≤_;omega))
 rintro j6 H7 ⟨rfl,rfl⟩;walk_at "1";exact⟨_,m,D,v,O,gs,ts,rfl,sd,lo,hn,q6,G6,hl,fun r H' e hm=>qm r H' (e6.trans e) hm⟩
theorem sc_ai0:FnScope ["_law_cell_here","_law_size_here","_law_given_here","_law_words_here","_law_term","_law_shape","_law_more","_law_base","_law_found","_law_ends","_law_one"] ["_law_cell_here","_law_size_here","_law_given_here","_law_words_here"] (Za5 (top 44)):=scm (by decide +kernel)
theorem at4 {a b c d:V} {i:Int} (h0:0≤i) (h1:i < 4):∃ x,atI [a,b,c,d] i=some x∧x∈[a,b,c,d]:=by
 have:i=0∨i=1∨i=2∨i=3:=by omega
 rcases this with rfl | rfl | rfl | rfl
 ·exact⟨a,rfl,by simp⟩
 ·exact⟨b,rfl,by simp⟩
 ·exact⟨c,rfl,by simp⟩
 ·exact⟨d,rfl,by simp⟩
def EL (K:W.Frag) (H:Hp) (ws:List Str) (d s:Nat) (u:V):Prop:=∃ t,IsE K H u t∧t.fine ws∧t.deep≤d∧t.size≤s
theorem EL.keep {K:W.Frag} {H H':Hp} {ws:List Str} {d s:Nat} {u:V} (h:EL K H ws d s u) (k:KeepT K H H'):EL K H' ws d s u:=let ⟨t,h1,h2⟩:=h;⟨t,IsE.keep h1 k,h2⟩
theorem Wi0 {k n:Nat} {f_ai0:Addr} {fd_ai0:FuncData} (F_ai0:Fun K "_law_chosen" "_law_chosen" (top 44) f_ai0 fd_ai0) (C__law_made:Cl P w K mg base k "_law_made" pq3 (Zf8 K 0 n 60)) (C__law_lifted:Cl P w K mg base k "_law_lifted" pq16 (Zo5 K 30)) (C__law_mix:Cl P w K mg base k "_law_mix" pq1 (Zk7)) (C__law_leaf:Cl P w K mg base k "_law_leaf" pq5 (Zy2 K)):Fk0 P w K mg base (k+1) f_ai0 fd_ai0 pq3 (Zf8 K 2 (n+1) 60):=by
 refine F_ai0.ok sc_ai0 (fun vs H Q E h=>?_) (fun cdv A outer s H vs Q E hr h=>?_)
 ·obtain⟨c,m,W,U,J,gs,ts,rfl,_⟩:=h
  rfl
 obtain⟨c,m,W,U,J,gs,ts,rfl,hc,lo,hn,j4,G,hl,q⟩:=h;have c0:=Int.emod_nonneg c (show (2:Int)≠0 by decide);have c1:=Int.emod_lt_of_pos c (show (0:Int) < 2 by decide);obtain⟨d1,d2,d3,d4,d5,d6,d7⟩:=Zw9 m j4 lo;obtain⟨z1,z2,z3,z4⟩:=Zw4 m j4 lo;have d8:=Wk8 m j4
 refine⟨_,(Za3 (Zk9 (Zc2 C__law_made hr (Za0 (Zc2 C__law_mix hr (Za7 (pvM 0) (Zb2 Za2 Za1))) (Za0 (Zb6 Zd9 (pvM 1) Za2) (Za7 (pvM 2) (Za7 (pvM 3) Za1))))) (Zg4 rfl (Zb8 (Zc0 (i:=4) sc_ai0.nd rfl (Or.inl rfl)) (Zb8 (Zc0 (i:=5) sc_ai0.nd rfl (Or.inl rfl)) Ze3))))
 (Za3 (Zd2 (ptcM (Yq2) (pxt (pvM 5) Za2) Za9)
  (Za3 (pst 6 sc_ai0.nd (Zc2 C__law_leaf hr (Za0 (Zc2 C__law_mix hr (Za7 (pvM 0) (Zb2 Za2 Za1))) (Za7 (pvM 3) Za1))))
 (Za3 (pst 4 sc_ai0.nd (pxl (Ze1 (Zc4 (Zb5 (Zb2 Za9 (Za7 (pvM 4) (Za7 (pvM 6) Za1)))) (Zc4 (Zb5 (Zb2 Za9 (Za7 (pvM 4) (Za7 (pvM 6) Za1)))) Za1))) (Zb6 Zc6 (pvM 0) Za2)))
 (Za8 (pst 5 sc_ai0.nd (pxl (Ze1 (Zc4 (Zb5 (Zb2 Za9 (Za7 (pvM 5) (Za7 (pvM 6) Za1)))) (Zc4 (Zb5 (Zb2 Za9 (Za7 (pvM 6) (Za7 (pvM 5) Za1)))) Za1))) (Zb6 Zc6 (pvM 0) Za2))))))
  Zb4)
 (Za3 (Zk9 (Zc2 C__law_made hr (Za0 (Zc2 C__law_mix hr (Za7 (pvM 0) (Zb2 Za2 Za1))) (Za0 (Zb6 Zd9 (pvM 1) Za2) (Za7 (pvM 2) (Za7 (pvM 3) Za1))))) (Zg4 rfl (Zb8 (Zc0 (i:=7) sc_ai0.nd rfl (Or.inl rfl)) (Zb8 (Zc0 (i:=8) sc_ai0.nd rfl (Or.inl rfl)) Ze3))))
 (Za3 (pst 7 sc_ai0.nd (Zc2 C__law_lifted hr (Za7 (pvM 7) (Zb2 Za2 Za1))))
 (Za3 (pst 9 sc_ai0.nd (Ze1 (Za7 (pvM 7) (Zc4 (Zb5 (Zb2 Za9 (Zc4 (Zb5 (Zb2 Za9 (Zc4 (Zb5 (Zb2 Za9 (Zb2 Za2 Za1))) (Za7 (pvM 7) Za1)))) Za1))) (Zc4 (Zb5 (Zb2 Za9 (Zc4 (Zb5 (Zb2 Za9 (Za7 (pvM 7) (Zc4 (Zb5 (Zb2 Za9 (Zb2 Za2 Za1))) Za1)))) Za1))) Za1)))))
 (Za3 (Zm1 (Zz2 F.plainAttrs_list F.slot_list_append F.type_list_append Zh3 (pvM 9) (Zc4 (Zb5 (Zb2 Za9 (Zc4 (Zb5 (Zb2 Za9 (Za7 (pvM 8) (Zc4 (Zb5 (Zb2 Za9 (Zb2 Za2 Za1))) Za1)))) (Za7 (pvM 7) Za1)))) Za1)))
 (Za3 (pst 10 sc_ai0.nd (pxl (pvM 9) (Zb6 Zc6 (Zb6 Zd9 (pvM 0) Za2) Za2)))
 (Za3 (Zd2 (ptcM (Zz5 (Zl3 hr)) (pxt (pvM 5) Za2) (pvM 8))
  (Za8 (pst 10 sc_ai0.nd (Zb5 (Zb2 Za9 (Zb2 Za2 Za1)))))
  Zb4)
 (Za8 (Zb3 (Zb5 (Zc4 (Zb5 (Zb2 Za9 (Za7 (pvM 4) (Za7 (pvM 10) (Zp0 (pxl (pvM 9) (Zb6 Zc6 (Zb6 Zd9 (pvM 0) Za2) Za2)) Za1))))) (Za7 (pvM 8) Za1))))))))))))),?_⟩
 refine sqt (fun l j=>∃ x y t g,l=[some (.int c),some (.int (m:Nat)),some (.ref W),some (.ref U),some x,some y,none,none,none,none,none]∧Same H j∧IsE K j x t∧IsT K j y g∧t.fine J∧t.deep≤dB (m / 2)∧t.size≤sB (m / 2)∧g.inW J∧g.parts≤60) ?_ ?_
 ·intro C N
  walk_at "1";refine⟨_,_,rfl,by omega,by omega,⟨by decide,by decide⟩,_,m / 2,W,U,J,gs,ts,rfl,Zg5 _ _,by omega,by omega,by omega,G,by omega,fun r H1 e1 hm=>?_⟩;obtain⟨p,x,y,t,g,rfl,h1,h2,h3,h4,h5,h6,h7,h8⟩:=hm;exact⟨p,rfl,_,h1,rfl,_,_,rfl,_,_,rfl,rfl,N _ _ ⟨x,y,t,g,rfl,e1,h2,h3,h4,h5,h6,h7,h8⟩⟩
 rintro σ1 H1 ⟨x,y,t,g,rfl,e1,hx,hy,tf,td,tz,gw,gp⟩;refine sqt (fun l j=>∃ x y x6 t a b,l=[some (.int c),some (.int (m:Nat)),some (.ref W),some (.ref U),some x,some y,x6,none,none,none,none]∧Same H j∧IsE K j x t∧IsT K j y (.nd .one a b)∧t.fine J∧t.deep≤1+dB (m / 2)∧t.size≤1+sB (m / 2)∧a.inW J∧a.parts≤60) ?_ ?_
 ·intro C N
  obtain⟨py,ys,rfl,hsy,hy0⟩:=Yg7 hy;walk_at "3";refine⟨_,hsy,_,hy0,rfl,?_⟩
  by_cases ca:g.tagS="one"
  ·obtain⟨a,b,rfl⟩:=Yo0 (k:=.one) ca
   have gp':1+a.parts+b.parts≤60:=gp;rw[if_neg (by rw[ca];simp)];exact N _ _ ⟨_,_,_,t,a,b,rfl,e1,hx,hy,tf,by omega,by omega,gw.1,by omega⟩
  ·rw[if_pos (by simpa using ca)]
   refine sqt (fun l j=>∃ r u,l=[some (.int c),some (.int (m:Nat)),some (.ref W),some (.ref U),some x,some (.ref py),some r,none,none,none,none]∧Same H1 j∧IsT K j r u∧u.inW J∧u.parts≤1) ?_ ?_
   ·intro C' q9
    walk_at "1";exact⟨_,_,rfl,by omega,by omega,_,_,J,rfl,e1.seq G.w,G.wo,fun r j u e m=>q9 _ _ ⟨r,u,rfl,e,m.1,m.2.1,m.2.2.1⟩⟩
   rintro v9 H2 ⟨r,u,rfl,e2,M,uw,up⟩;refine sqt (fun l j=>∃ x' t',l=[some (.int c),some (.int (m:Nat)),some (.ref W),some (.ref U),some x',some (.ref py),some r,none,none,none,none]∧Same H2 j∧IsE K j x' t'∧t'.fine J∧t'.deep≤1+dB (m / 2)∧t'.size≤1+sB (m / 2)) ?_ ?_
   ·intro C' q9
    walk_at "1";refine⟨by decide,?_⟩;intro I B;generalize f:upd H2 I (.tup [.str "first",x,r])=J1;have Y:=nw1 B f;have Z:=nw2 (K:=K) f;refine⟨by decide,?_⟩;intro S L;generalize z:upd J1 S (.tup [.str "second",x,r])=J2;have T:=nw1 L z;have q2:=nw2 (K:=K) z;refine⟨by decide,fun R h3=>⟨by decide,_,SqL.of Za4,?_⟩⟩;have O:=Za6 h3 (.lst [.ref I,.ref S]);generalize upd J2 R (.lst [.ref I,.ref S])=J3 at O ⊢;have D:=(Y.trans T).trans O
    have fu:∀ s∈[u],okW J s:=fun s hs=>by rw[List.mem_singleton.mp hs];exact⟨uw,by omega⟩
    refine at2 c0 c1 (fun _=>q9 _ _ ⟨_,.one .first t [u],rfl,D,Zs8 (u:=.first) ((T.trans O).sqt Z) (IsE.keep hx (e2.trans D).keepT) (IsT.keep M D.keepT),⟨tf,rfl,fu⟩,by show 1+t.deep≤_;omega,by show 1+t.size≤_;omega⟩)
     (fun _=>q9 _ _ ⟨_,.one .second t [u],rfl,D,Zs8 (u:=.second) (O.sqt q2) (IsE.keep hx (e2.trans D).keepT) (IsT.keep M D.keepT),⟨tf,rfl,fu⟩,by show 1+t.deep≤_;omega,by show 1+t.size≤_;omega⟩)
   rintro v8 H3 ⟨x',t',rfl,e3,y7,z6,z7,z5⟩;walk_at "1";refine⟨by decide,?_⟩;intro I B;generalize f:upd H3 I (.tup [.str "one",.ref py,r])=J1;have Y:=nw1 B f;have Z:=nw2 (K:=K) f;refine⟨by decide,?_⟩;intro S L;generalize z:upd J1 S (.tup [.str "one",r,.ref py])=J2;have T:=nw1 L z;have q2:=nw2 (K:=K) z;refine⟨by decide,fun R h3=>⟨by decide,_,SqL.of Za4,?_⟩⟩;have O:=Za6 h3 (.lst [.ref I,.ref S]);generalize upd J2 R (.lst [.ref I,.ref S])=J3 at O ⊢;have D:=(Y.trans T).trans O;have z0:=e3.trans D;have j0:=e2.trans z0;refine at2 c0 c1 (fun _=>N _ _ ⟨x',_,_,t',g,u,rfl,e1.trans j0,IsE.keep y7 D.keepT,isT_nd.mpr ⟨I,.ref py,r,rfl,(T.trans O).sqt Z,IsT.keep hy j0.keepT,IsT.keep M z0.keepT⟩,z6,z7,z5,gw,by omega⟩)
    (fun _=>N _ _ ⟨x',_,_,t',u,g,rfl,e1.trans j0,IsE.keep y7 D.keepT,isT_nd.mpr ⟨S,r,.ref py,rfl,O.sqt q2,IsT.keep M z0.keepT,IsT.keep hy j0.keepT⟩,z6,z7,z5,uw,by omega⟩)
 rintro v9 H2 ⟨x4,y5,x6,t4,a5,b5,rfl,e2,hx4,hy5,t4f,t4d,t4z,a5w,a5p⟩;refine sqt (fun l j=>∃ x y t g,l=[some (.int c),some (.int (m:Nat)),some (.ref W),some (.ref U),some x4,some y5,x6,some x,some y,none,none]∧Same H2 j∧IsE K j x t∧IsT K j y g∧t.fine J∧t.deep≤dB (m / 3)∧t.size≤sB (m / 3)∧g.inW J∧g.parts≤60) ?_ ?_
 ·intro C N
  walk_at "1";refine⟨_,_,rfl,by omega,by omega,⟨by decide,by decide⟩,_,m / 3,W,U,J,gs,ts,rfl,Zg5 _ _,by omega,by omega,by omega,G.keep e2,by omega,fun r H1 e1 hm=>?_⟩;obtain⟨p,x,y,t,g,rfl,h1,h2,h3,h4,h5,h6,h7,h8⟩:=hm;exact⟨p,rfl,_,h1,rfl,_,_,rfl,_,_,rfl,rfl,N _ _ ⟨x,y,t,g,rfl,e1,h2,h3,h4,h5,h6,h7,h8⟩⟩
 rintro v8 H3 ⟨x7,y8,t7,g8,rfl,e3,hx7,j3,z8,t7d,t7z,j5,v4⟩;refine sqt (fun l j=>∃ x t,l=[some (.int c),some (.int (m:Nat)),some (.ref W),some (.ref U),some x4,some y5,x6,some x,some y8,none,none]∧Same H3 j∧IsE K j x t∧t.fine J∧t.deep≤dB (m / 3)∧t.size≤sB (m / 3)) ?_ ?_
 ·intro C N
  walk_at "1";exact⟨_,t7,0,J,rfl,hx7,z8,by omega,fun r j e hr'=>N _ _ ⟨r,_,rfl,e,hr',Zi7 z8,by rw[Zh5];exact t7d,by rw[Zh4];exact t7z⟩⟩
 rintro σ4 H4 ⟨X,t8,rfl,e4,y6,q8,t8d,t8z⟩;have e04:=e2.trans (e3.trans e4);refine sqt (fun l j=>∃ le u1 u2 u3,l=[some (.int c),some (.int (m:Nat)),some (.ref W),some (.ref U),some x4,some y5,x6,some X,some y8,some (.ref le),none]∧Same H4 j∧H4 le=none∧j le=some (.lst [u1,u2,u3])∧∀ u∈[u1,u2,u3],EL K j J (2+dB (m / 3)) (3+sB (m / 3)) u) ?_ ?_
 ·intro C N
  walk_at "1";refine⟨by decide,?_⟩;intro I B;generalize f:upd H4 I (.tup [.str "at",.int 0])=J1;have Y:=nw1 B f;have Z:=nw2 (K:=K) f;refine⟨by decide,?_⟩;intro S L;generalize z:upd J1 S (.tup [.str "pair",.ref I,X])=J2;have T:=nw1 L z;have q2:=nw2 (K:=K) z;refine⟨by decide,?_⟩;intro R q7;generalize q0:upd J2 R (.tup [.str "right",.ref S])=J3;have O:=nw1 q7 q0;have q3:=nw2 (K:=K) q0;refine⟨by decide,?_⟩;intro p4 v7;generalize j8:upd J3 p4 (.tup [.str "at",.int 0])=J4;have s4:=nw1 v7 j8;have q4:=nw2 (K:=K) j8;refine⟨by decide,?_⟩;intro p5 v6;generalize j7:upd J4 p5 (.tup [.str "pair",X,.ref p4])=J5;have s5:=nw1 v6 j7;have q5:=nw2 (K:=K) j7;refine⟨by decide,?_⟩;intro p6 v5;generalize j6:upd J5 p6 (.tup [.str "left",.ref p5])=J6;have s6:=nw1 v5 j6;have q6:=nw2 (K:=K) j6;refine⟨by decide,fun p7 h7=>?_⟩;have s7:=Za6 h7 (.lst [X,.ref R,.ref p6]);have sA:=((((Y.trans T).trans O).trans s4).trans s5).trans s6;have f7:H4 p7=none:=sA.free h7;have l7:upd J6 p7 (.lst [X,.ref R,.ref p6]) p7=some (.lst [X,.ref R,.ref p6]):=Za4;generalize upd J6 p7 (.lst [X,.ref R,.ref p6])=J7 at s7 l7 ⊢;have z9:=s6.trans s7;have y0:=s5.trans z9;have y1:=s4.trans y0;have y2:=O.trans y1;have y3:=T.trans y2;have y4:=Y.trans y3;have j1:=IsE.keep y6 y4.keepT;refine N _ _ ⟨p7,X,.ref R,.ref p6,rfl,y4,f7,l7,fun u M=>?_⟩;rcases List.mem_cons.mp M with rfl | M
  ·exact⟨t8,j1,q8,by omega,by omega⟩
  rcases List.mem_cons.mp M with rfl | M
  ·exact⟨.one .right (.two .pair (.at 0) t8) [],Zp2 (u:=.right) (y1.sqt q3) (Zk1 (u:=.pair) (y2.sqt q2) (Zu4 (k:=0) (y3.sqt Z)) j1),⟨⟨trivial,q8⟩,rfl,fun _ h=>nomatch h⟩,by show 1+(1+max 1 t8.deep)≤_;omega,by show 1+(1+1+t8.size)≤_;omega⟩
  ·rw[List.mem_singleton.mp M]
   exact⟨.one .left (.two .pair t8 (.at 0)) [],Zp2 (u:=.left) (s7.sqt q6) (Zk1 (u:=.pair) (z9.sqt q5) j1 (Zu4 (k:=0) (y0.sqt q4))),⟨⟨q8,trivial⟩,rfl,fun _ h=>nomatch h⟩,by show 1+(1+max t8.deep 1)≤_;omega,by show 1+(1+t8.size+1)≤_;omega⟩
 rintro σ5 H5 ⟨le,u1,u2,u3,rfl,e5,f5,h5,hE⟩;refine sqt (fun l j=>∃ u4,l=[some (.int c),some (.int (m:Nat)),some (.ref W),some (.ref U),some x4,some y5,x6,some X,some y8,some (.ref le),none]∧Same H4 j∧j le=some (.lst [u1,u2,u3,u4])∧∀ u∈[u1,u2,u3,u4],EL K j J (2+dB (m / 3)) (3+sB (m / 3)) u) ?_ ?_
 ·intro C N
  walk_at "1";refine⟨.inl ⟨rfl,_,SqL.of h5⟩,by decide,?_⟩;intro I B;generalize f:upd H5 I (.tup [.str "at",.int 0])=J1;have Y:=nw1 B f;have Z:=nw2 (K:=K) f;refine⟨by decide,?_⟩;intro S L;generalize z:upd J1 S (.tup [.str "fun",y8,.ref I])=J2;have T:=nw1 L z;have q2:=nw2 (K:=K) z;refine⟨by decide,?_⟩;intro R q7;generalize q0:upd J2 R (.tup [.str "use",.ref S,X])=J3;have O:=nw1 q7 q0;have q3:=nw2 (K:=K) q0;have D:=(Y.trans T).trans O;have v3:=D _ _ h5;have kl:=Zf2 (K:=K) (o:=.lst ([u1,u2,u3]++[.ref R])) v3;have wr:=(e5.trans D).write (o:=.lst ([u1,u2,u3]++[.ref R])) f5;refine⟨_,v3,by show 3 < sizeLine;decide,N _ _ ⟨.ref R,rfl,wr,Za4,fun u M=>?_⟩⟩;have k8:=(wr.keepT (K:=K));have M:u∈[u1,u2,u3]++[V.ref R]:=M;rcases List.mem_append.mp M with M | M
  ·exact (hE u M).keep (D.keepT.trans kl)
  ·rw[List.mem_singleton.mp M]
   exact⟨.two .use (.fn g8 (.at 0)) t8,Zk1 (u:=.use) (kl _ _ q3) (Yr4 (kl _ _ (O.sqt q2)) (IsT.keep j3 (e4.keepT.trans k8)) (Zu4 (k:=0) (kl _ _ ((T.trans O).sqt Z)))) (IsE.keep y6 k8),⟨⟨⟨j5,v4⟩,trivial⟩,q8⟩,by show 1+max (1+1) t8.deep≤_;omega,by show 1+(1+1)+t8.size≤_;omega⟩
 rintro σ6 H6 ⟨u4,rfl,e6,h6,v0⟩;have b0:=Int.emod_nonneg (c / 2) (show (4:Int)≠0 by decide);have b1:=Int.emod_lt_of_pos (c / 2) (show (0:Int) < 4 by decide);have b2:=Int.emod_nonneg (c / 8) (show (4:Int)≠0 by decide);have b3:=Int.emod_lt_of_pos (c / 8) (show (0:Int) < 4 by decide);refine sqt (fun l j=>∃ v,l=[some (.int c),some (.int (m:Nat)),some (.ref W),some (.ref U),some x4,some y5,x6,some X,some y8,some (.ref le),some v]∧j=H6∧EL K H6 J (2+dB (m / 3)) (3+sB (m / 3)) v) ?_ ?_
 ·intro C N
  walk_at "1";obtain⟨v,hv,hm⟩:=at4 (a:=u1) (b:=u2) (c:=u3) (d:=u4) b0 b1;exact⟨⟨by decide,by decide⟩,by decide,_,SqL.of h6,v,hv,N _ _ ⟨v,rfl,rfl,v0 v hm⟩⟩
 rintro σ7 H7 ⟨v,rfl,rfl,hv⟩;have e47:=e6;refine sqt (fun l j=>∃ v,l=[some (.int c),some (.int (m:Nat)),some (.ref W),some (.ref U),some x4,some y5,x6,some X,some y8,some (.ref le),some v]∧Same H7 j∧EL K j J (2+dB (m / 3)) (3+sB (m / 3)) v) ?_ ?_
 ·intro C N
  obtain⟨p5,v1,v2,rfl,hs5,hv1,y9⟩:=isT_nd.mp (IsT.keep hy5 (e3.trans (e4.trans e6)).keepT);walk_at "1";refine⟨_,hs5,v1,rfl,a5.data,hv1,g8.data,IsT.keep j3 (e4.trans e6).keepT,a5.lay (a5w.ok G.wo.2.2),g8.lay (j5.ok G.wo.2.2),?_,?_⟩
  ·rw[Tm.depth,Tm.depth]
   have:=Zl6 a5;omega
  rw[if_neg Bool.false_ne_true];refine ite2 (fun _=>⟨by decide,?_⟩) (fun _=>N _ _ ⟨v,rfl,Same.refl _,hv⟩);intro I B;generalize f:upd H7 I (.tup [.str "at",.int 0])=J1;have Y:=nw1 B f;have Z:=nw2 (K:=K) f;exact N _ _ ⟨.ref I,rfl,Y,.at 0,Zu4 (k:=0) Z,trivial,by show 1≤_;omega,by show 1≤_;omega⟩
 rintro σ8 H8 ⟨v,rfl,e8,t9,hv9,t9f,t9d,t9z⟩;obtain⟨v2,y9,hm2⟩:=at4 (a:=u1) (b:=u2) (c:=u3) (d:=u4) b2 b3;obtain⟨ta,ha,taf,tad,taz⟩:=(v0 v2 hm2).keep e8.keepT;walk_at "1";refine⟨⟨by decide,by decide⟩,by decide,_,SqL.of (e8 _ _ h6),v2,y9,by decide,?_⟩;intro I B;generalize f:upd H8 I (.tup [.str "cases",x4,v,v2])=J1;have Y:=nw1 B f;have Z:=nw2 (K:=K) f;refine⟨by decide,?_⟩;intro S L;generalize z:upd J1 S (.tup [.ref I,y8])=J2;have T:=nw1 L z;have q2:=nw2 (K:=K) z;have j2:=Y.trans T;have e82:=e8.trans j2;have j9:=(e4.trans e6).trans e82;refine q _ _ (e2.trans (e3.trans j9)) (Zg7 (t:=.cs t4 t9 ta) (g:=g8) q2 (isE_csV.mpr ⟨I,x4,v,v2,rfl,T.sqt Z,IsE.keep hx4 (e3.trans j9).keepT,IsE.keep hv9 j2.keepT,IsE.keep ha j2.keepT⟩) (IsT.keep j3 j9.keepT) ⟨t4f,t9f,taf⟩ (by show 1+max t4.deep (max t9.deep ta.deep)≤_;omega) (by show 1+t4.size+t9.size+ta.size≤_;omega) j5 v4)
theorem Xn1 {k:Nat} {f_am0:Addr} {fd_am0:FuncData} (F_am0:Fun K "_law_is_lifted" "_law_is_lifted" (top 52) f_am0 fd_am0) (m_am0:MgI mg "_law_is_lifted" f_am0) (b_am0:Binds K fd_am0 pq7 []) (C__law_inner_of:Cl P w K mg base k "_law_inner_of" pq18 (Zh1 K)) (C__law_shaped:Cl P w K mg base k "_law_shaped" pq10 (Zh7 K)) (C__law_is_at:Cl P w K mg base k "_law_is_at" pq6 (Yi9 K)) (m_int:mg "int"=none) :
  ∀ n,Fk0 P w K mg base (k+n) f_am0 fd_am0 pq7 (Zg0 K n)
 | 0=>Yl3 rfl
 | n+1=>Wh6 (k:=k+n) F_am0 (Xn1 F_am0 m_am0 b_am0 C__law_inner_of C__law_shaped C__law_is_at m_int n) m_am0 F_am0.kp b_am0
   (C__law_inner_of.up (Nat.le_add_right _ _)) (C__law_shaped.up (Nat.le_add_right _ _)) (C__law_is_at.up (Nat.le_add_right _ _)) m_int
theorem Xn0 {k:Nat} {f_an0:Addr} {fd_an0:FuncData} (F_an0:Fun K "_law_is_put" "_law_is_put" (top 53) f_an0 fd_an0) (m_an0:MgI mg "_law_is_put" f_an0) (b_an0:Binds K fd_an0 pq8 []) (C__law_is_lifted:Cl P w K mg base k "_law_is_lifted" pq7 (Zg0 K 40)) (C__law_inner_of:Cl P w K mg base k "_law_inner_of" pq18 (Zh1 K)) (C__law_shaped:Cl P w K mg base k "_law_shaped" pq10 (Zh7 K)) (C__law_is_at:Cl P w K mg base k "_law_is_at" pq6 (Yi9 K)) (m_int:mg "int"=none) :
  ∀ n,Fk0 P w K mg base (k+n) f_an0 fd_an0 pq8 (Zj5 K n)
 | 0=>Yq9 rfl
 | n+1=>Wh5 (k:=k+n) F_an0 (Xn0 F_an0 m_an0 b_an0 C__law_is_lifted C__law_inner_of C__law_shaped C__law_is_at m_int n) m_an0 F_an0.kp b_an0
   (C__law_is_lifted.up (Nat.le_add_right _ _)) (C__law_inner_of.up (Nat.le_add_right _ _)) (C__law_shaped.up (Nat.le_add_right _ _)) (C__law_is_at.up (Nat.le_add_right _ _)) m_int
theorem Xk0 {f:Addr} {fd:FuncData} {ps:List Str} {k b:Nat}:Fk0 P w K mg base k f fd ps (Zf8 K 2 0 b):=by
 have d:∀ a H Q E,¬ Zf8 K 2 0 b a H Q E:=fun a H Q E h=>by
  obtain⟨c,m,r,j,i,q,n,_,_,p,o,_⟩:=h;omega
 exact⟨fun a H Q E h=>absurd h (d a H Q E),fun A e s H g l a Q E _ _ _ _ h=>absurd h (d a H Q E)⟩
theorem Wa6 {k:Nat} {f_ar0:Addr} {fd_ar0:FuncData} (F_ar0:Fun K "_law_made" "_law_made" (top 47) f_ar0 fd_ar0) (m_ar0:MgI mg "_law_made" f_ar0) (b_ar0:Binds K fd_ar0 pq3 [])
  {f_af0:Addr}{fd_af0:FuncData}(F_af0:Fun K "_law_any" "_law_any" (top 46) f_af0 fd_af0)(m_af0:MgI mg "_law_any" f_af0)(b_af0:Binds K fd_af0 pq3 [])
  {f_aw0:Addr}{fd_aw0:FuncData}(F_aw0:Fun K "_law_sided" "_law_sided" (top 43) f_aw0 fd_aw0)(m_aw0:MgI mg "_law_sided" f_aw0)(b_aw0:Binds K fd_aw0 pq3 [])
  {f_ai0:Addr}{fd_ai0:FuncData}(F_ai0:Fun K "_law_chosen" "_law_chosen" (top 44) f_ai0 fd_ai0)(m_ai0:MgI mg "_law_chosen" f_ai0)(b_ai0:Binds K fd_ai0 pq3 [])
  {f_ba0:Addr}{fd_ba0:FuncData}(F_ba0:Fun K "_law_used" "_law_used" (top 45) f_ba0 fd_ba0)(m_ba0:MgI mg "_law_used" f_ba0)(b_ba0:Binds K fd_ba0 pq3 [])
  (C__law_simple:Cl P w K mg base k "_law_simple" pq0 (Zo4 K)) (C__law_mix:Cl P w K mg base k "_law_mix" pq1 (Zk7)) (C__law_size:Cl P w K mg base k "_law_size" ["_law_statement_here"] (Ye2 K)) (C__law_lifted:Cl P w K mg base k "_law_lifted" pq16 (Zo5 K 30)) (C__law_leaf:Cl P w K mg base k "_law_leaf" pq5 (Zy2 K)) (C__law_statement:Cl P w K mg base k "_law_statement" pq4 (Zk6 K 12)) :
  ∀ n,Fk0 P w K mg base (k+3*n+1) f_ar0 fd_ar0 pq3 (Zf8 K 0 n 60):=by
 intro n
 induction n with
 | zero=>exact Xt2 (k:=k+3*0) F_ar0 (.of Xk0 m_af0 F_af0.kp b_af0) C__law_simple C__law_mix C__law_size
 | succ n ih =>
  have a:k≤k+3*n+1:=by omega
  have c:k≤k+3*n+2:=by omega
  have b:k≤k+3*n+3:=by omega
  have d:k+3*n+1≤k+3*n+2:=by omega
  have i:=Wg9 (k:=k+3*n+1) F_aw0 (.of ih m_ar0 F_ar0.kp b_ar0) (C__law_simple.up a) (C__law_mix.up a);have h:=Wi0 (k:=k+3*n+1) F_ai0 (.of ih m_ar0 F_ar0.kp b_ar0) (C__law_lifted.up a) (C__law_mix.up a) (C__law_leaf.up a);have g:=Wg5 (k:=k+3*n+1) F_ba0 (.of ih m_ar0 F_ar0.kp b_ar0) (C__law_mix.up a);have f:=Wi3 (k:=k+3*n+2) F_af0 (.of (ih.mono d) m_ar0 F_ar0.kp b_ar0) (.of i m_aw0 F_aw0.kp b_aw0) (.of h m_ai0 F_ai0.kp b_ai0) (.of g m_ba0 F_ba0.kp b_ba0) (C__law_mix.up c) (C__law_statement.up c);have e:=Xt2 (k:=k+3*n+3) F_ar0 (.of f m_af0 F_af0.kp b_af0) (C__law_simple.up b) (C__law_mix.up b) (C__law_size.up b);exact e
theorem sc_bi0:FnScope ["term","found","waiting","piece","front","place","more"] ["term"] (Za5 (top 15)):=scm (by decide +kernel)
noncomputable def sumE (ts:List Pf):Nat:=(ts.map fun p=>p.1.size).sum
theorem Zx5 (t:Pf) (ts:List Pf):sumE (t :: ts)=t.1.size+sumE ts:=by unfold sumE;rw[List.map_cons,List.sum_cons]
theorem Yu3 (a b:List Pf):sumE (a++b)=sumE a+sumE b:=by unfold sumE;rw[List.map_append,List.sum_append]
theorem Yi4 (p:Pf):sumE (Zh6 p)+1=p.1.size:=by
 obtain⟨t,f⟩:=p
 cases t<;>simp[sumE,Zh6,Te.kids,Te.size]<;>omega
theorem size_pos (t:Te):1≤t.size:=by cases t<;>simp[Te.size]<;>omega
theorem Yx0:∀ ts:List Pf,ts.length≤sumE ts
 | []=>Nat.le_refl _
 | t :: ts=>by
  rw[Zx5,List.length_cons];have:=Yx0 ts;have:=size_pos t.1;omega
theorem Yq1 {K:W.Frag} {H H':Hp} (k:KeepT K H H') {us:List V} {ts:List Pf} (h:Paired (IsPf K H) us ts):Paired (IsPf K H') us ts:=Paired.mapP h fun _ _ z=>z.keep k
theorem Xf7 {k:Nat} {f_bi0:Addr} {fd_bi0:FuncData} (F_bi0:Fun K "standing" "standing" (top 15) f_bi0 fd_bi0) {aINNER:Addr} {aT:Nat→Addr} (m_aa0:MgI mg "INNER" aINNER) (D_INNER:KDict K w aINNER (innV aT)) (hI:Inn K aT) (m_reversed:mg "reversed"=none):Fk0 P w K mg base (k+1) f_bi0 fd_bi0 pq27 (Zf7 K):=by
 refine F_bi0.ok sc_bi0 (fun vs H Q E h=>?_) (fun z6 A z4 s H vs Q E hr h=>?_)
 ·obtain⟨v,t,rfl,_⟩:=h
  rfl
 obtain⟨v,t,rfl,hT,hz,q⟩:=h
 refine⟨_,(Za3 (pst 1 sc_bi0.nd (Ze1 Za1))
 (Za3 (pst 2 sc_bi0.nd (Ze1 (Za0 (Zb5 (Za0 (pv 0) (Za0 Za2 Za1))) Za1)))
 (Za3 (Yv3 PassesOwn.never (Xp1 (pv 2) (fun _=>rfl))
  (Za3 (Zk9 (Xf4 F.plainAttrs_list F.slot_list_pop F.type_list_pop Xg3 (pv 2)) (Zg4 rfl (Zb8 (Zc0 (i:=3) sc_bi0.nd rfl (Or.inl rfl)) (Zb8 (Zc0 (i:=4) sc_bi0.nd rfl (Or.inl rfl)) Ze3))))
 (Za3 (Zm1 (Zz2 F.plainAttrs_list F.slot_list_append F.type_list_append Zh3 (pv 1) (Za0 (Zb5 (Za0 (pv 3) (Za0 (pv 4) Za1))) Za1)))
 (Za8 (Zp6 PassesOwn.never rfl (Xw2 rfl m_reversed (Za0 (Zw5 D_INNER rfl m_aa0 (pxt (pv 3) Za2)) Za1)) (Zg4 rfl (Zb8 (Zc0 (i:=5) sc_bi0.nd rfl (Or.inl rfl)) (Zb8 (Zc0 (i:=6) sc_bi0.nd rfl (Or.inl rfl)) Ze3)))
  (Za8 (Zm1 (Zz2 F.plainAttrs_list F.slot_list_append F.type_list_append Zh3 (pv 2) (Za0 (Zb5 (Za0 (pxt (pv 3) (pv 5)) (Za0 (Zb6 Ze0 (pv 4) (pv 6)) Za1))) Za1)))))))))
 (Za8 (Zb3 (pv 1)))))),?_⟩
 refine sqt (fun c a=>∃ g,c=[some v,some (.ref g),none,none,none,none,none]∧Same H a∧H g=none∧a g=some (.lst [])) ?_ ?_
 ·intro C hC
  walk_at "1";exact⟨by decide,fun p j=>hC _ _ ⟨p,rfl,Za6 j _,j,Za4⟩⟩
 rintro j2 T ⟨g,rfl,V,f1,S⟩;refine sqt (fun c a=>∃ lw u,c=[some v,some (.ref g),some (.ref lw),none,none,none,none]∧Same H a∧a g=some (.lst [])∧H lw=none∧lw≠g∧a lw=some (.lst [u])∧IsPf K a u (t,0)) ?_ ?_
 ·intro C hC
  walk_at "1";refine⟨by decide,fun p j=>⟨by decide,fun p2 q2=>?_⟩⟩;have L:T p2=none:=(Za6 j _).free q2;refine hC _ _ ⟨p2,_,rfl,(V.trans (Za6 j _)).trans (Za6 q2 _),?_,V.free L,(fun z=>by rw[z,S] at L;cases L),Za4,?_⟩
  ·rw[Zb1 (Zb0 S L),Zb1 (Zb0 S j)];exact S
  ·refine (isPf.mpr ⟨p,v,rfl,.inl (.inl Za4),hT.keep ((V.trans (Za6 j _)).keepT)⟩:IsPf K _ (.ref p) (t,0)).keep (Zd3 q2)
 rintro j1 H2 ⟨lw,u0,rfl,e2,R,f2,q8,h3,j6⟩;refine sqt (fun c a=>∃ B X W I G,c=[some v,some (.ref g),some (.ref lw),X,W,I,G]∧Same H a∧a g=some (.lst B)∧Paired (IsPf K a) B (t.pre 0)) ?_ ?_
 ·intro C hC
  refine⟨fun m c a=>∃ n Z B ds X W I G,m=sumE Z∧c=[some v,some (.ref g),some (.ref lw),X,W,I,G]∧Same H a∧a g=some (.lst B)∧a lw=some (.lst n.reverse)∧Paired (IsPf K a) n Z∧Paired (IsPf K a) B ds∧ds++Z.flatMap preP=t.pre 0∧B.length+sumE Z≤20000,
   ⟨_,[u0],[(t,0)],[],[],none,none,none,none,rfl,rfl,e2,R,h3,.cons j6 .nil,.nil,?_,?_⟩,?_⟩
  ·show []++(t.pre 0++[])=t.pre 0
   simp
  ·show 0+(t.size+0)≤20000
   omega
  rintro m j2 T ⟨n,Z,B,ds,X,W,I,G,rfl,rfl,V,S,R,hd,hu,ht,hn⟩;refine⟨_,rfl,!n.reverse.isEmpty,.inl ⟨_,SqL.of R,rfl⟩,?_⟩
  cases hd with
  | nil =>
   rw[if_neg (by decide)];rw[List.flatMap_nil,List.append_nil] at ht;rw[ht] at hu;exact hC _ _ ⟨B,_,_,_,_,rfl,V,S,hu⟩
  | @cons u i n is hi hst =>
   have q1:(u :: n).reverse=n.reverse++[u]:=List.reverse_cons;rw[if_pos (by rw[q1];simp)];refine opq fun N hN=>?_;rw[q1] at R;have q5:g≠lw:=Ne.symm q8;obtain⟨p0,x0,rfl,j9,q7⟩:=isPf.mp hi;obtain⟨d,f⟩:=i;have k1:KeepT K T (upd T lw (.lst n.reverse)):=Zf2 R
   have O:upd T lw (.lst n.reverse) g=some (.lst B):=by rw[Zb1 q5];exact S
   rw[Zx5] at hn;have pp:=size_pos d;refine sqt (fun c a=>c=[some v,some (.ref g),some (.ref lw),some x0,some (.int (f:Nat)),I,G]∧a=upd T lw (.lst n.reverse)) ?_ ?_
   ·intro C' q4
    walk_at "1";refine⟨.inl ⟨rfl,_,SqL.of R⟩,_,R,.ref p0,by simp,?_⟩;rw[List.dropLast_concat];exact⟨p0,rfl,_,k1 _ _ j9,rfl,_,_,rfl,_,_,rfl,rfl,q4 _ _ ⟨rfl,rfl⟩⟩
   rintro j1 z7 ⟨rfl,rfl⟩;refine sqt (fun c a=>c=[some v,some (.ref g),some (.ref lw),some x0,some (.int (f:Nat)),I,G]∧Same H a∧KeepT K T a∧a lw=some (.lst n.reverse)∧∃ Y,a g=some (.lst (B++[Y]))∧IsPf K a Y (d,f)) ?_ ?_
   ·intro C' q4
    walk_at "1";refine⟨.inl ⟨rfl,_,SqL.of O⟩,by decide,fun p j=>?_⟩;have n1:=Zb0 O j;refine⟨_,by rw[Zb1 n1];exact O,Zh8 (by omega),q4 _ _ ⟨rfl,?_,?_,?_,_,Za4,?_⟩⟩
    ·exact ((V.write f2).trans (Za6 j _)).write f1
    ·exact (k1.trans (Zd3 j)).trans (Zf2 (by rw[Zb1 n1];exact O))
    ·rw[Zb1 q8,Zb1 (Zb0 Za4 j),Za4]
    ·exact (isPf.mpr ⟨p,x0,rfl,.inl (.inl Za4),q7.keep (k1.trans (Zd3 j))⟩:IsPf K _ (.ref p) (d,f)).keep (Zf2 (by rw[Zb1 n1];exact O))
   rintro j0 H3 ⟨rfl,e3,k3,j4,Y,j8,j7⟩;obtain⟨pt,xs,rfl,hs,hd⟩:=isE_view.mp (q7.keep k3);obtain⟨ai,la,ri⟩:=Xi3 hI d;obtain⟨y,q6,q0,j3⟩:=ri.sq H3;walk_at "2";refine⟨_,hs,_,Zb7 (Zj8 hd),d.tag,rfl,_,la,ai,rfl,y,q6,?_⟩
   have lk:y.length=(Zh6 (d,f)).length:=by rw[q0,d.inn_len,Zp1]
   have z5:y.length≤3:=by rw[q0];cases d<;>simp[Te.inn,Te.plc,Te.kids]
   refine Xq9 (D:={ nx:=N,rt:=Q }) (xs:=y) (fun i c a=>∃ I G J,c=[some v,some (.ref g),some (.ref lw),some (.ref pt),some (.int (f:Nat)),I,G]∧Same H a∧KeepT K H3 a∧a g=some (.lst (B++[Y]))∧a lw=some (.lst (n.reverse++J))∧J.length=i∧Paired (IsPf K a) J ((Zh6 (d,f)).drop (y.length - i)).reverse)
    ⟨I,G,[],rfl,e3,KeepT.refl _,j8,by rw[List.append_nil];exact j4,rfl,?_⟩ (fun i c a _ ⟨I,G,J,_,_,kk,_⟩=>kk _ _ q6) (fun i x c a hi hx q3=>?_) (fun c a q3=>?_)
   ·rw[Nat.sub_zero,lk,List.drop_length];exact .nil
   ·obtain⟨y5,y6,J,rfl,e4,M,h4,h5,hl,j⟩:=q3
    obtain⟨⟨pl,mo⟩,hr⟩:∃ r,d.inn[y.length - 1 - i]?=some r:=⟨_,List.getElem?_eq_getElem (by rw[← q0];omega)⟩;obtain⟨b,eb,sb⟩:=j3 _ _ _ hr;rw[hx] at eb;cases eb;obtain⟨kd,hk,z1,_,_,_⟩:=Te.inn_at hr;obtain⟨ux,j5,z3⟩:=Ze4 hd z1;have z0:(Zh6 (d,f))[y.length - 1 - i]?=some (kd,f+mo):=Xh0 hk;walk_at "1";refine⟨_,M _ _ sb,rfl,_,_,rfl,_,_,rfl,rfl,.inl ⟨rfl,_,SqL.of h5⟩,_,_,rfl,M _ _ hs,ux,Zb7 j5,_,rfl,by decide,fun p U=>?_⟩;have n5:=Zb0 h5 U
    have q9:upd a p (.tup [ux,.int ((f:Int)+mo)]) lw=some (.lst (n.reverse++J)):=by rw[Zb1 n5];exact h5
    have kA:=Zd3 (K:=K) (o:=.tup [ux,.int ((f:Int)+mo)]) U;have kB:=Zf2 (K:=K) (o:=.lst (n.reverse++J++[.ref p])) q9;have l3:=Paired.length hst;have l4:=Yx0 is;refine⟨_,q9,Zh8 ?_,(e4.trans (Za6 U _)).write f2,(M.trans kA).trans kB,?_,J++[.ref p],?_,?_,?_⟩
    ·rw[List.length_append,List.length_reverse];omega
    ·rw[Zb1 q5,Zb1 (Zb0 h4 U)];exact h4
    ·rw[Za4,List.append_assoc]
    ·rw[List.length_append,hl];rfl
    ·have e:(Zh6 (d,f)).drop (y.length - (i+1))=(kd,f+mo) :: (Zh6 (d,f)).drop (y.length - i):=by
      have h':y.length - (i+1)=y.length - 1 - i:=by omega
      rw[h',List.drop_eq_getElem_cons (by rw[← lk];omega),show y.length - 1 - i+1=y.length - i by omega]
      congr 1
      have:=List.getElem?_eq_getElem (l:=Zh6 (d,f)) (i:=y.length - 1 - i) (by rw[← lk];omega);rw[z0] at this;exact (Option.some.inj this).symm
     rw[e,List.reverse_cons];refine Zi1 (Yq1 (kA.trans kB) j) (.cons ?_ .nil);exact IsPf.keep (p:=(kd,f+mo)) (isPf.mpr ⟨p,ux,rfl,.inl (.inl Za4),IsE.keep (t:=kd) z3 (M.trans kA)⟩) kB
   ·obtain⟨y5,y6,J,rfl,e4,M,h4,h5,hl,j⟩:=q3
    rw[Nat.sub_self,List.drop_zero] at j;refine hN _ _ ⟨sumE (Zh6 (d,f)++is),?_,J.reverse++n,Zh6 (d,f)++is,B++[Y],ds++[(d,f)],_,_,_,_,rfl,rfl,e4,h4,?_,?_,?_,?_,?_⟩
    ·rw[Yu3,Zx5]
     have:=Yi4 (d,f);have e:(d,f).1.size=d.size:=rfl;omega
    ·rw[List.reverse_append,List.reverse_reverse];exact h5
    ·refine Zi1 ?_ (Yq1 (k3.trans M) hst)
     have:=Zo9 j
     rwa [List.reverse_reverse] at this
    ·exact Zi1 (Yq1 (k3.trans M) hu) (.cons (j7.keep M) .nil)
    ·rw[← ht,List.flatMap_append,List.flatMap_cons,Zq4 (d,f)];simp
    ·rw[List.length_append,List.length_singleton,Yu3]
     have:=Yi4 (d,f);have e:(d,f).1.size=d.size:=rfl;rw[e] at hn;omega
 rintro j0 H3 ⟨B,X,W,I,G,rfl,e3,z2,hu⟩;walk_at "1";exact q _ _ _ e3 f1 z2 hu
theorem sc_bk0:FnScope ["pieces","of_piece","told","number","inner"] ["pieces","of_piece"] (Za5 (top 16)):=scm (by decide +kernel)
theorem Yj0 {α β:Type} {F:α→β→Prop}:∀ {l:List α} {m ks:List β},Paired F l (m++ks)→∃ l1 l2,l=l1++l2∧Paired F l1 m∧Paired F l2 ks
 | l,[],ks,h=>⟨[],l,rfl,.nil,h⟩
 | _,z :: m,ks,h=>by
  cases h with
  | cons hx t =>
   obtain⟨l1,l2,rfl,h1,h2⟩:=Yj0 t;exact⟨_ :: l1,l2,rfl,.cons hx h1,h2⟩
theorem Zn6 {k:Nat} {tb:TBs} {J:Hp→Prop} (hJ:∀ H H',SameV (tb.map (·.1)) H H'→J H→J H') {R:RPn} (hR:∀ H H' n p v,KeepT K H H'→R H n p v→R H' n p v) {p0:Pf} {ps_of_piece:List Str} {f_bk0:Addr} {fd_bk0:FuncData} (F_bk0:Fun K "term_folded" "term_folded" (top 16) f_bk0 fd_bk0) {aINNER:Addr} {aT:Nat→Addr} (m_aa0:MgI mg "INNER" aINNER) (D_INNER:KDict K w aINNER (innV aT)) (hI:Inn K aT) (m_reversed:mg "reversed"=none) (m_range:mg "range"=none) (m_len:mg "len"=none)
  {f_bg0:Addr}{fd_bg0:FuncData}(G_bg0:Fk0 P w K mg base k f_bg0 fd_bg0 ps_of_piece (Yo6 tb J R p0))(k_bg0:KpI K f_bg0)(b_bg0:Binds K fd_bg0 ps_of_piece []):Fk0 P w K mg base (k+1) f_bk0 fd_bk0 pq21 (Zx9 K tb J R p0 f_bg0):=by
 refine F_bk0.ok sc_bk0 (fun vs H Q E h=>?_) (fun z7 A j8 s H vs Q E hr h=>?_)
 ·obtain⟨l,a,rfl,_⟩:=h
  rfl
 obtain⟨lp,a,rfl,j0,t0,hS,hU,hz,q⟩:=h;have q2:∀ {H4 H5:Hp} {a:List V} {fs:List (Nat×Pf)},KeepT K H4 H5→Paired (fun u s=>R H4 s.1 s.2 u) a fs→Paired (fun u s=>R H5 s.1 s.2 u) a fs:=fun k z=>Paired.mapP z fun _ _ y=>hR _ _ _ _ _ k y;have lu:=Paired.length hU
 have lz:a.length≤20000:=by rw[lu];unfold preP;rw[Ze8];exact hz
 refine⟨_,(Za3 (Zv0 (i:=2) sc_bk0.nd rfl (Or.inr rfl) (Ze1 Za1))
 (Za3 (Zp6 PassesOwn.never rfl (Xw3 rfl m_reversed rfl m_range (Za0 (Zd1 Zc9 (by exact rfl) m_len Zf4 (Za0 (pvM 0) Za1)) Za1)) (Zc0 (i:=3) sc_bk0.nd rfl (Or.inl rfl))
  (Za3 (Yf3 (i:=4) sc_bk0.nd rfl (Or.inl rfl) (blkC (N':=["place","told"]) (nt:=1) (ci:=[2]) ["pieces","of_piece","told","number","inner"] (Za5 (top 16)) rfl rfl (by decide +kernel) rfl (by decide +kernel) (by decide +kernel) rfl (by decide +kernel)) rfl (Wd8 (Zw5 D_INNER rfl m_aa0 (pxt (pxt (pxl (pvM 0) (pvM 3)) Za2) Za2))) (fun _ _ _ _=>(Zc0 (i:=0) (show (["place","told"]:List Str).Nodup from by decide +kernel) rfl (Or.inl rfl))) (fun _ _ _ _=>(Xw9 (K:=K) rfl F.plainAttrs_list F.slot_list_pop F.type_list_pop Xg3 (pvM 1))) rfl)
 (Za8 (Zm1 (Zz2 F.plainAttrs_list F.slot_list_append F.type_list_append Zh3 (pvM 2) (Za0 (Yv7 (i:=1) G_bg0 hr rfl (Or.inl rfl) k_bg0 b_bg0 .nil Xp7 (Za0 (pvM 3) (Za0 (pvM 4) Za1))) Za1))))))
 (Za8 (Zb3 (pxl (pvM 2) Za2))))),?_⟩
 refine sqt (fun d H'=>∃ l,d=[some (.ref lp),some (.ref f_bg0),some (.ref l),none,none]∧Same H H'∧H l=none∧H' l=some (.lst [])) ?_ ?_
 ·intro C hC
  walk_at "1";exact⟨by decide,fun l hl=>hC _ _ ⟨l,rfl,Za6 hl _,hl,Za4⟩⟩
 rintro j9 H1 ⟨l,rfl,e1,f1,h1⟩;refine sqt (fun d H'=>∃ G B u,d=[some (.ref lp),some (.ref f_bg0),some (.ref l),G,B]∧SameV (tb.map (·.1)) H H'∧Tabs H' tb∧H' l=some (.lst [u])∧R H' 0 p0 u) ?_ ?_
 ·intro C hC
  walk_at "2";refine⟨_,.inl (e1.seq hS),a.length,rfl,by omega,?_⟩;refine Xj6 (D:={ nx:=C,rt:=Q }) (lo:=(a.length:Int) - 1) (n:=a.length) (fun i d H'=>∃ G B O fs,d=[some (.ref lp),some (.ref f_bg0),some (.ref l),G,B]∧SameV (tb.map (·.1)) H H'∧Tabs H' tb∧H' l=some (.lst O)∧Paired (fun u s=>R H' s.1 s.2 u) O (numP (a.length - i) fs).reverse∧fs.flatMap preP=(preP p0).drop (a.length - i)∧O.length≤i)
   ⟨none,none,[],[],rfl,e1.toV,t0.keep e1,h1,.nil,?_,Nat.le_refl _⟩ (fun i d H' hi X N hN=>?_) (fun d H' X=>?_)
  ·rw[Nat.sub_zero,lu,List.drop_length];rfl
  ·obtain⟨G,B,O,fs,rfl,e,tt,L,m,W,hn⟩:=X
   have kk:KeepT K H H':=SameT.keepT e.toT
   have hj:a.length - 1 - i < a.length:=by omega
   obtain⟨p,q6,q8⟩:=paired_get hU (List.getElem?_eq_getElem hj);obtain⟨p',rest,g1,g2⟩:=Zk0 p0.1 p0.2 (a.length - 1 - i) (by rw[show (p0.1.pre p0.2).length=a.length from lu.symm];exact hj);rw[show (p0.1.pre p0.2)[a.length - 1 - i]?=some p from q6] at g1;cases g1
   have ej:a.length - i=a.length - 1 - i+1:=by omega
   have eu:a.length - (i+1)=a.length - 1 - i:=by omega
   have dr:(preP p0).drop (a.length - i)=(Zh6 p).flatMap preP++rest:=by
    have:=congrArg List.tail g2;rw[List.tail_drop,← ej,Zq4 p,List.cons_append,List.tail_cons] at this;exact this
   rw[dr] at W;obtain⟨Y,rfl,U⟩:=Yx5 W;rw[Yw6,List.reverse_append,ej] at m;obtain⟨g,I,rfl,j5,q3⟩:=Yj0 m;have lr:=Paired.length q3;rw[List.length_reverse,Yw5] at lr;rw[List.length_append] at hn;obtain⟨pa,x0,j1,j2,q9⟩:=isPf.mp (q8.keep kk);obtain⟨pt,xs,rfl,hs,hd⟩:=isE_view.mp q9;obtain⟨ai,la,ri⟩:=Xi3 hI p.1;obtain⟨Z,q0,q1,z6⟩:=ri.sq H'
   have lk:Z.length=(Zh6 p).length:=by rw[q1,p.1.inn_len,Zp1]
   have z5:Z.length≤3:=by rw[q1];cases p.1<;>simp[Te.inn,Te.plc,Te.kids]
   have en:((a.length:Int) - 1 - (i:Nat))=((a.length - 1 - i:Nat):Int):=by omega
   unfold Ya4;rw[en];refine sqt (fun d b=>∃ c,d=[some (.ref lp),some (.ref f_bg0),some (.ref l),some (.int ((a.length - 1 - i:Nat):Int)),some (.ref c)]∧SameV (tb.map (·.1)) H b∧Tabs b tb∧KeepT K H' b∧c≠l∧H c=none∧b l=some (.lst g)∧b c=some (.lst I.reverse)) ?_ ?_
   ·intro C' j7
    unfold tLC;walk_at "1";refine⟨_,SameT.seq e.toT hS,_,Zb7 (List.getElem?_eq_getElem hj),pa,j1,_,j2,_,rfl,pt,rfl,_,hs,_,Zb7 (Zj8 hd),_,rfl,_,la,ai,rfl,⟨Z,q0⟩,fun c f=>?_⟩;have fa:H c=none:=e.free f
    have S:c≠l:=fun z=>by rw[z,L] at f;cases f
    refine Xy2 (xs:=Z) (fun j t b=>t=I.reverse.take j∧KeepT K H' b∧SameV (tb.map (·.1)) H b∧Tabs b tb∧b l=some (.lst (g++(I.reverse.drop j).reverse))∧b c=some (.lst t))
     ⟨rfl,Zd3 f,e.write fa,tt.keep (Za6 f _),?_,Za4⟩ (fun j t b hj2 ⟨z0,z1,z2,zt,z3,z4⟩=>⟨z4,?_,z1 _ _ q0⟩) (fun j x t b hx ⟨z0,z1,z2,zt,z3,z4⟩ C2 hC2=>?_) (fun t b ⟨z0,z1,z2,zt,z3,z4⟩=>?_)
    ·rw[Zb1 S.symm,List.drop_zero,List.reverse_reverse];exact L
    ·rw[z0,List.length_take];exact Zh8 (by omega)
    ·have q5:j < I.reverse.length:=by
      rw[List.length_reverse,lr,← lk];exact (List.getElem?_eq_some_iff.mp hx).1
     rw[List.drop_eq_getElem_cons q5,List.reverse_cons,← List.append_assoc] at z3;walk_at "1";refine⟨Yd7,.inl ⟨rfl,_,SqL.of z3⟩,_,z3,I.reverse[j],by simp,?_⟩;rw[List.dropLast_concat]
     have M:∀ o,upd b l o c=some (.lst t):=fun o=>by rw[Zb1 S];exact z4
     refine hC2 _ _ (M _) ⟨by rw[z0,← List.take_append_getElem q5],?_,(z2.write f1).write fa,(zt.put z3).put (M _),?_,Za4⟩
     ·exact (z1.trans (Zf2 z3)).trans (Zf2 (xs:=t) (M _))
     ·rw[Zb1 S.symm,Za4]
    ·rw[List.drop_of_length_le (by rw[List.length_reverse,lr,← lk];exact Nat.le_refl _),List.reverse_nil,List.append_nil] at z3
     rw[List.take_of_length_le (by rw[List.length_reverse,lr,← lk];exact Nat.le_refl _)] at z0;exact j7 _ _ ⟨c,rfl,z2,zt,z1,S,fa,z3,z0▸z4⟩
   rintro q7 b ⟨c,rfl,e2,t2,k2,S,fa,q4,j6⟩;walk_at "1"
   have j4:Paired (fun u k=>R b k.1 k.2 u) I.reverse (numP (a.length - 1 - i+1) (Zh6 p)):=by
    have:=q2 k2 (Zo9 q3)
    rwa [List.reverse_reverse] at this
   refine⟨.inl ⟨rfl,_,SqL.of q4⟩,_,p,c,I.reverse,rfl,hJ _ _ e2 j0,t2,q6,j6,j4,fun r H3 e3 t3 j3=>?_⟩;have T:H3 l=some (.lst g):=e3.toT _ _ (fun _ z=>nomatch z) q4;have k3:KeepT K b H3:=SameT.keepT e3.toT;have kl:=Zf2 (K:=K) (o:=.lst (g++[r])) T;refine⟨g,T,Zh8 (by omega),hN _ _ ⟨_,_,g++[r],p :: Y,rfl,(e2.trans e3).write f1,t3.put T,Za4,?_,?_,?_⟩⟩
   ·rw[eu]
    show Paired _ _ ((a.length - 1 - i,p) :: numP (a.length - 1 - i+p.1.size) Y).reverse;rw[List.reverse_cons,Xe1,← Nat.add_assoc];exact Zi1 (q2 (k2.trans (k3.trans kl)) j5) (.cons (hR _ _ _ _ _ kl j3) .nil)
   ·rw[List.flatMap_cons,U,eu];exact g2.symm
   ·rw[List.length_append,List.length_singleton];omega
  ·obtain⟨G,B,O,fs,rfl,e,tt,L,m,W,hn⟩:=X
   rw[Nat.sub_self,List.drop_zero,← List.append_nil (preP p0)] at W;obtain⟨Y,rfl,U⟩:=Xj3 W;rw[Ys4 U,Nat.sub_self] at m
   cases m with
   | cons hu' hnil =>
    cases hnil;exact hC _ _ ⟨G,B,_,rfl,e,tt,L,hu'⟩
 rintro q7 b ⟨G,B,u,rfl,e2,t2,h2,ru⟩;walk_at "1";exact⟨_,SqL.of h2,u,rfl,q _ _ e2 t2 ru⟩
theorem Xt0 {k:Nat} {J:Hp→Prop} (hJ:∀ H H',Same H H'→J H→J H') {R:RP} (hR:∀ H H' p v,KeepT K H H'→R H p v→R H' p v) {p0:Pf} {ps_of_piece:List Str} {f_bk0:Addr} {fd_bk0:FuncData} (F_bk0:Fun K "term_folded" "term_folded" (top 16) f_bk0 fd_bk0) {aINNER:Addr} {aT:Nat→Addr} (m_aa0:MgI mg "INNER" aINNER) (D_INNER:KDict K w aINNER (innV aT)) (hI:Inn K aT) (m_reversed:mg "reversed"=none) (m_range:mg "range"=none) (m_len:mg "len"=none)
  {f_bg0:Addr}{fd_bg0:FuncData}(G_bg0:Fk0 P w K mg base k f_bg0 fd_bg0 ps_of_piece (Yi6 J R p0))(k_bg0:KpI K f_bg0)(b_bg0:Binds K fd_bg0 ps_of_piece []):Fk0 P w K mg base (k+1) f_bk0 fd_bk0 pq21 (Zr8 K J R p0 f_bg0):=by
 refine (Zn6 (tb:=[]) (J:=J) (R:=fun H _ p v=>R H p v) (p0:=p0) (fun H H' e=>hJ H H' e.nil) (fun H H' _ p v=>hR H H' p v) F_bk0 m_aa0 D_INNER hI m_reversed m_range m_len (G_bg0.sub ?_) k_bg0 b_bg0).sub ?_
 ·rintro m H Q E ⟨n,p,l,a,j,i,_,f,d,c,q⟩
  refine⟨n,p,l,a,j,i,f,d,?_,fun r H' e b=>q r H' e.toV (fun _ h=>nomatch h) b⟩;have:=Yc4 (F:=fun u p=>R H p u) (g:=fun (k:Nat×Pf)=>k.2) c
  rwa [Yf9] at this
 ·rintro m H Q E ⟨l,a,j,i,f,d,c,q⟩
  exact⟨l,a,j,i,(fun _ h=>nomatch h),f,d,c,fun r H' e _ b=>q r H' e.nil b⟩
theorem sc_br0:FnScope ["piece","inner","told","place","more","term"] ["piece","inner"] (Za5 (top 17)):=scm (by decide +kernel)
theorem Zy4 {α:Type}:∀ {ps:List Nat} {ys:List α} {xs:List α} {p:Nat} {y:α},ps.length=ys.length→Zj0 xs (ps++[p]) (ys++[y])=(Zj0 xs ps ys).set p y
 | [],[],xs,p,y,_=>rfl
 | q :: ps,z :: ys,xs,p,y,h=>Zy4 (xs:=xs.set q z) (by simpa using h)
 | [],_ :: _,_,_,_,h=>by cases h
 | _ :: _,[],_,_,_,h=>by cases h
theorem Yc2 {α:Type}:∀ {ps:List Nat} {ys:List α} {xs:List α},(Zj0 xs ps ys).length=xs.length
 | [],ys,xs=>by cases ys<;>rfl
 | q :: ps,[],xs=>rfl
 | q :: ps,z :: ys,xs=>by rw[Zj0,Yc2,List.length_set]
theorem Zr5 {α:Type} {l:List α} {i:Nat} {x:α} (h:l[i]?=some x):l.take (i+1)=l.take i++[x]:=by
 obtain⟨a,rfl⟩:=List.getElem?_eq_some_iff.mp h;exact (List.take_append_getElem a).symm
theorem Xs9 {k:Nat} {f_br0:Addr} {fd_br0:FuncData} (F_br0:Fun K "with_inner" "with_inner" (top 17) f_br0 fd_br0) {aINNER:Addr} {aT:Nat→Addr} (m_aa0:MgI mg "INNER" aINNER) (D_INNER:KDict K w aINNER (innV aT)) (hI:Inn K aT) (m_list:mg "list"=none) (m_zip:mg "zip"=none) (m_tuple:mg "tuple"=none):Fk0 P w K mg base (k+1) f_br0 fd_br0 pq20 (Zx7 K):=by
 refine F_br0.ok sc_br0 (fun vs H Q E h=>?_) (fun q5 A q1 s H vs Q E hr h=>?_)
 ·obtain⟨v,t,l,j,ks,rfl,_⟩:=h
  rfl
 obtain⟨v,t,L,j,ks,rfl,hT,hL,hU,m,q⟩:=h;obtain⟨G,xs,rfl,Y,M⟩:=isE_view.mp hT;have J:=Paired.length hU;have lx:=DnAll.length M
 refine⟨_,(Za3 (pst 2 sc_br0.nd (Zl0 Ym7 (by exact rfl) m_list Xm2 (Za0 (pvM 0) Za1)))
 (Za3 (Zp6 PassesOwn.never rfl (Xw1 rfl m_zip (Za0 (Zw5 D_INNER rfl m_aa0 (pxt (pvM 0) Za2)) (Za0 (pvM 1) Za1))) (Zg4 rfl (Zb8 (Zg4 rfl (Zb8 (Zc0 (i:=3) sc_br0.nd rfl (Or.inl rfl)) (Zb8 (Zc0 (i:=4) sc_br0.nd rfl (Or.inl rfl)) Ze3))) (Zb8 (Zc0 (i:=5) sc_br0.nd rfl (Or.inl rfl)) Ze3)))
  (Za8 (Zk9 (pvM 5) (Wd9 (pvM 2) (pvM 3) Xo6))))
 (Za8 (Zb3 (Zl0 Yh4 (by exact rfl) m_tuple Zu6 (Za0 (pvM 2) Za1)))))),?_⟩
 refine sqt (fun c a=>∃ l,c=[some (.ref G),some (.ref L),some (.ref l),none,none,none]∧Same H a∧H l=none∧a l=some (.lst xs)) ?_ ?_
 ·intro C O
  walk_at "1";exact⟨_,.inr Y,fun l hl=>O _ _ ⟨l,rfl,Za6 hl _,hl,Za4⟩⟩
 rintro q3 H1 ⟨l,rfl,R,f1,h1⟩;obtain⟨ai,U,ri⟩:=Xi3 hI t;refine sqt (fun c a=>∃ g f d,c=[some (.ref G),some (.ref L),some (.ref l),g,f,d]∧Same H a∧a l=some (.lst (Zj0 xs t.plc j))) ?_ ?_
 ·intro C O
  obtain⟨ys,n,x,X⟩:=ri.sq H1
  have I:ys.length=j.length:=by rw[x,t.inn_len,J,m]
  walk_at "2";refine⟨_,R.sqt Y,_,Zb7 (Zj8 M),_,rfl,_,U,ai,rfl,⟨ys,n⟩,⟨j,R.seq hL⟩,?_⟩;refine Xj4 (D:={ nx:=C,rt:=Q }) (xs:=ys) (ys:=j) (fun i c a=>∃ g f d,c=[some (.ref G),some (.ref L),some (.ref l),g,f,d]∧Same H a∧KeepT K H1 a∧a l=some (.lst (Zj0 xs (t.plc.take i) (j.take i)))) I
   ⟨none,none,none,rfl,R,KeepT.refl _,h1⟩ (fun i c a hi ⟨g,f,d,_,e,kk,_⟩=>⟨kk _ _ n,e.seq hL⟩) (fun i y u c a T hi hy hu hT' ⟨g,f,d,e0,e,kk,h⟩ N hN=>?_) (fun c a ⟨g,f,d,e0,e,kk,h⟩=>?_)
  ·subst e0
   obtain⟨⟨S,mo⟩,B⟩:∃ r,t.inn[i]?=some r:=⟨_,List.getElem?_eq_getElem (by rw[← x];exact hi)⟩;obtain⟨b,eb,sb⟩:=X _ _ _ B;rw[hy] at eb;cases eb;obtain⟨kd,q4,q0,Z,p1,p3⟩:=Te.inn_at B;have ip:S < t.items.length:=(List.getElem?_eq_some_iff.mp q0).1;walk_at "1"
   have F:upd a T (.tup [.ref b,u]) l=some (.lst (Zj0 xs (t.plc.take i) (j.take i))):=by rw[Zb1 (Zb0 h hT')];exact h
   have V:=Zd3 (K:=K) (o:=.tup [.ref b,u]) hT';refine⟨_,.inl (.inl Za4),rfl,_,_,rfl,b,rfl,_,V _ _ (kk _ _ sb),rfl,_,_,rfl,_,_,rfl,rfl,_,_,rfl,rfl,_,_,rfl,F,S,Xy4 (by rw[Yc2,lx];exact ip),hN _ _ ⟨_,_,_,rfl,(e.trans (Za6 hT' _)).write f1,(kk.trans V).trans (Zf2 F),?_⟩⟩;rw[Za4,Zr5 Z,Zr5 hu,Zy4 (by rw[List.length_take,List.length_take,t.plc_len,J,m])]
  ·rw[List.take_of_length_le (by rw[t.plc_len,I,J,m];exact Nat.le_refl _),List.take_of_length_le (by rw[I];exact Nat.le_refl _)] at h
   exact O _ _ ⟨g,f,d,e0,e,h⟩
 rintro q2 H2 ⟨g,f,d,rfl,e2,h2⟩;walk_at "1";refine⟨_,.inl ⟨SqL.of h2,fun p hp=>q _ _ (e2.trans (Za6 hp _)) ?_⟩⟩;have W:KeepT K H (upd H2 p (.tup (Zj0 xs t.plc j))):=e2.keepT.trans (Zd3 hp);refine isE_view.mpr ⟨p,_,rfl,.inl (.inl Za4),?_⟩;rw[Te.withK_items m];exact Yj5 (DnAll.keepT W (by have:=t.noList;rw[t.data_eq,noList] at this;exact this) M) (Paired.mapP hU fun _ _ z=>IsE.keep z W)
theorem sc_bc0:FnScope ["term","of_at","pieces","of_piece"] ["term","of_at"] (Za5 (top 18)):=scm (by decide +kernel)
noncomputable abbrev Zc3:Stmt:=Xi6 (top 18) 1
theorem sc_changed_of_piece:FnScopeC ["number","inner","pieces","of_at","piece","front"] ["number","inner"] ["pieces","of_at"] (Za5 Zc3):=⟨rfl,rfl,rfl,by decide +kernel,rfl,by decide +kernel,by decide +kernel,by decide +kernel⟩
noncomputable abbrev Zf6:Str:=("changed":Str)++Str.ofString ".<locals>."++"of_piece"
theorem Zr3:∀ y∈(Za5 Zc3).names,y.2=NameKind.free→(Za5 (top 18)).names.lookup y.1=some NameKind.cell:=by decide +kernel
noncomputable def Zc1:List (Pos×Str):=[(posOf Zc3,Zf6)]
def JPc (K:W.Frag) (J:JP) (lp:Addr) (us:List V) (p0:Pf) (H:Hp):Prop:=J K H∧SqL K H lp us∧Paired (IsPf K H) us (preP p0)
theorem Xq3 {J:JP} (hJ:JOk J) {lp:Addr} {us:List V} {p0:Pf} (H H':Hp) (e:Same H H') (h:JPc K J lp us p0 H):JPc K J lp us p0 H' :=
 ⟨hJ.keep _ _ _ e.toT h.1,e.seq h.2.1,Paired.mapP h.2.2 fun _ _ z=>IsPf.keep z e.keepT⟩
theorem Zq8 {k:Nat} {cl:List (Str×Addr)} {f:Addr} {fd:FuncData} (F:FunC K "of_piece" Zf6 Zc3 cl f fd) {J:JP} {FF:Nat→Nat→Te} {AA:Nat→Nat→Prop} {lp:Addr} {us:List V} {p0:Pf} {f_bf0:Addr} {fd_bf0:FuncData}
  (C:Caught K (Za5 Zc3) cl ["pieces","of_at"] [.ref lp,.ref f_bf0]) (hA:∀ k f,(Te.at k,f)∈preP p0→AA k f)
  (G_bf0:Fk0 P w K mg base k f_bf0 fd_bf0 ["k","front"] (Zy0 K (J K) FF AA)) (k_bf0:KpI K f_bf0) (b_bf0:Binds K fd_bf0 ["k","front"] [])
  (C_with_inner:Cl P w K mg base k "with_inner" pq20 (Zx7 K)) :
  Fk0 P w K mg base (k+1) f fd ["number","inner"] (Yi6 (JPc K J lp us p0) (fun H p v=>IsE K H v (mpP FF p)) p0):=by
 refine F.ok sc_changed_of_piece C (fun X H Q E h=>?_) (fun q1 A U s H X Q E O h=>?_)
 ·obtain⟨n,p,l,m,rfl,_⟩:=h
  rfl
 obtain⟨n,p,l,m,rfl,hj,B,hl,hU,q⟩:=h;obtain⟨j1,j2,G⟩:=hj;have lu:=Paired.length G;obtain⟨u,L⟩:∃ u,us[n]?=some u:=⟨_,List.getElem?_eq_getElem (by rw[lu];exact (List.getElem?_eq_some_iff.mp B).1)⟩;obtain⟨p',t,I⟩:=paired_get G L;rw[B] at t;cases t;obtain⟨a,d⟩:=p;obtain⟨Z,x0,rfl,M,o⟩:=isPf.mp I;obtain⟨Y,W,rfl,N,R⟩:=isE_view.mp o
 refine⟨_,(Za3 (Zk9 (pxl (pvM 2) (pvM 0)) (Zg4 rfl (Zb8 (Zc0 (i:=4) sc_changed_of_piece.nd rfl (Or.inl rfl)) (Zb8 (Zc0 (i:=5) sc_changed_of_piece.nd rfl (Or.inl rfl)) Ze3))))
 (Za3 (Zd2 (ptcM (Ze7) (pxt (pvM 4) Za2) Za9)
  (Za8 (Zb3 (Yv7 (i:=3) G_bf0 O rfl (Or.inr (Or.inr rfl)) k_bf0 b_bf0 .nil Xp7 (Za0 (pxt (pvM 4) Za2) (Za0 (pvM 5) Za1)))))
  Zb4)
 (Za8 (Zb3 (Zc2 C_with_inner O (Za0 (pvM 4) (Za0 (pvM 1) Za1))))))),?_⟩
 refine sqt (fun D g=>D=[some (.int (n:Nat)),some (.ref l),some (.ref lp),some (.ref f_bf0),some (.ref Y),some (.int (d:Nat))]∧g=H) ?_ ?_
 ·intro C' S
  walk_at "1";exact⟨_,j2,_,Zb7 L,Z,rfl,_,M,rfl,_,_,rfl,_,_,rfl,rfl,S _ _ ⟨rfl,rfl⟩⟩
 rintro q0 H1 ⟨rfl,rfl⟩;walk_at "1";refine⟨_,N,_,Zb7 (Zj8 R),rfl,?_⟩
 by_cases ca:∃ b,a=.at b
 ·obtain⟨b,rfl⟩:=ca
  rw[if_pos (by rfl)];obtain⟨x,r,rfl,h1,h2⟩:=Zd5 (show DnAll K H1 W [.str "at",.int (b:Nat)] from R);obtain⟨y,r,rfl,T,h4⟩:=Zd5 h2;rw[dn_int] at T;subst T;refine⟨_,N,_,Zb7 (j:=1) rfl,b,d,rfl,j1,hA _ _ (List.mem_of_getElem? B),fun r g e c=>q _ _ e c⟩
 ·have ne:¬ (a.tag="at"):=fun z=>ca (Yu2 z)
  rw[if_neg (by simpa using ne)];refine⟨_,a,l,m,(Zh6 (a,d)).map (mpP FF),rfl,o,SqL.of hl,Zq7 (f:=mpP FF) (fun _ _ z=>z) hU,by rw[List.length_map,Zp1],fun r g e c=>q _ _ e ?_⟩;show IsE K g r (mpP FF (a,d));rw[Yq5 FF (a,d) fun b z=>ca ⟨b,z⟩];exact c
theorem Wg3 {j:Nat} {T:Addr} {f_bc0:Addr} {fd_bc0:FuncData} (F_bc0:FunT K "changed" "changed" (top 18) f_bc0 fd_bc0 T) (hB:∀ h,K.In h→h.BuiltinsAt mg T) (hT:mainGlobals≠T)
  {J:JP} (hJ:JOk J) {FF:Nat→Nat→Te} {AA:Nat→Nat→Prop}
  (C_standing:Cl P w K mg base (j+2) "standing" pq27 (Zf7 K))
  {f_br0:Addr}{fd_br0:FuncData}(G_br0:∀ K' base,KLe K K'→FnOk P w K' mg base CX0 j f_br0 fd_br0 pq20 (Zx7 K'))(m_br0:MgI mg "with_inner" f_br0)(k_br0:∀ K',KLe K K'→W.keepIn K' (.ref f_br0)=true)(b_br0:Binds K fd_br0 pq20 [])
  {f_bk0:Addr}{fd_bk0:FuncData}(m_bk0:MgI mg "term_folded" f_bk0)(k_bk0:KpI K f_bk0)(b_bk0:Binds K fd_bk0 pq21 [])
  (GF:∀ (K':W.Frag) (base:Heap) (J:Hp→Prop) (R:RP) (p0:Pf) (f1:Addr) (fd1:FuncData),KLe K K'→(∀ H H',Same H H'→J H→J H')→(∀ H H' p v,KeepT K' H H'→R H p v→R H' p v) →
   FnOk P w K' mg base CX0 (j+1) f1 fd1 ["number","inner"] (Yi6 J R p0)→W.keepIn K' (.ref f1)=true→Binds K' fd1 ["number","inner"] []→FnOk P w K' mg base CX0 (j+2) f_bk0 fd_bk0 pq21 (Zr8 K' J R p0 f1))
  {f_bf0:Addr}{fd_bf0:FuncData}(G_bf0:∀ K' base,KLe K K'→FnOk P w K' mg base CX0 j f_bf0 fd_bf0 ["k","front"] (Zy0 K' (J K') FF AA))(k_bf0:∀ K',KLe K K'→W.keepIn K' (.ref f_bf0)=true)(b_bf0:Binds K fd_bf0 ["k","front"] []) :
  Fk0 P w K mg base (j+3) f_bc0 fd_bc0 ["term","of_at"] (Zo6 K T Zc1 J FF AA f_bf0):=by
 refine F_bc0.ok sc_bc0 (fun vs H Q E h=>?_) (fun c A M s H vs Q E hC hr h=>?_)
 ·obtain⟨v,t,rfl,_⟩:=h
  rfl
 obtain⟨v,t,rfl,q9,hz,j0,hA,q1,q⟩:=h
 have q7:∀ i∈([1,2]:List Nat),∃ x,(["term","of_at","pieces","of_piece"]:List Str)[i]?=some x∧(Za5 (top 18)).names.lookup x=some .cell∧(fun _:Str=>true) x=true:=by
  intro i G;simp only[List.mem_cons,List.not_mem_nil,or_false] at G;rcases G with rfl | rfl
  ·exact⟨"of_at",rfl,rfl,rfl⟩
  ·exact⟨"pieces",rfl,rfl,rfl⟩
 refine⟨_,(Za3 (Zv0 (i:=2) sc_bc0.nd rfl (Or.inr rfl) (Zc2 C_standing hr (Za0 (pvM 0) Za1)))
 (Za3 (Zy7 (st:=Zc3) (i:=3) (qual:=Zf6) (ds:=Zc1) rfl sc_bc0.nd rfl (Or.inl rfl) (Zg2 (fun y hy hf=>Zm5 (Zr3 y hy hf))) rfl hC hB hT rfl (by simp[Zc1]) (by decide +kernel) rfl rfl rfl)
 (Za8 (Zb3 (Zs4 (ix:=[1,2]) hr (by exact rfl) m_bk0 k_bk0 b_bk0 q7 (Za0 (pvM 2) (Za0 (pvM 3) Za1))))))),?_⟩
 generalize D:(cxOf CX0 P w K mg base ["term","of_at","pieces","of_piece"] "changed" (Za5 (top 18)) f_bc0 (.ref c) A M s H E).nox=X
 have eP:X.prog=P:=by rw[← D];rfl
 have ew:X.w=w:=by rw[← D];rfl
 have eK:X.K=K:=by rw[← D];rfl
 have em:X.mg=mg:=by rw[← D];rfl
 have eN:X.N=(["term","of_at","pieces","of_piece"]:List Str):=by rw[← D];rfl
 have ec:(PyProof.Rows.envOfC "changed" (Za5 (top 18)) s.heap.objs.size f_bc0 (.ref c)).cells=X.env.cells:=by rw[← D];rfl
 refine sqt (fun F H'=>∃ d us,F=[some v,some (.ref f_bf0),some (.ref d),none]∧Same H H'∧H' d=some (.lst us)∧Paired (IsPf K H') us (t.pre 0)) ?_ ?_
 ·intro C I
  walk_at "1";exact⟨v,t,rfl,q9,hz,fun r H' us e _ h hu=>I _ _ ⟨r,us,rfl,e,h,hu⟩⟩
 rintro j3 H1 ⟨d,us,rfl,g,q6,q4⟩;refine sqt (fun F H'=>∃ f1,F=[some v,some (.ref f_bf0),some (.ref d),some (.ref f1)]∧SameU T H1 H'∧TabOk H' T Zc1∧FnFz H' f1 "of_piece" Zf6 (Zd6 Zc3) (Zc7 Zc3) (Za5 Zc3) (Zj2 X.env.cells (Za5 Zc3).names [])) ?_ ?_
 ·intro C I
  exact⟨q1.keep g,fun f H' n sm tb fn=>I _ _ ⟨f,rfl,sm,tb,ec▸fn⟩⟩
 rintro j2 H2 ⟨f1,rfl,Y,q0,j1⟩;obtain⟨o1,c1,p1,L,a2,a3,a4⟩:=j1.objs2;have sA:SameV [T] H H2:=g.toV.trans Y.toV;show Zm8 X _ _ _ _ [1,2] _ _ _ _;unfold Zm8;walk_at "1";refine⟨fun i G=>?_,[(f1,o1),(c1,p1)],L,fun K' cs ok a l B q8=>?_⟩
 ·simp only[List.mem_cons,List.not_mem_nil,or_false] at G
  rcases G with rfl | rfl
  ·exact⟨_,rfl⟩
  ·exact⟨_,rfl⟩
 rw[eK] at a l;obtain⟨fd1,G1⟩:=a4 K' fun p b=>B p (List.mem_append_left _ b)
 have cw:Zv6 X K' "of_at" (.ref f_bf0)∧Zv6 X K' "pieces" (.ref d)∧∀ p∈cs,∀ O n,p.2.data≠.seq O n:=by
  cases q8 with
  | cons h1 r1 =>
   cases r1 with
   | cons h2 r2 =>
    cases r2;obtain⟨x1,v1,u1,g,o,Z,e4,e5⟩:=h1;obtain⟨x2,v2,u2,g1,g2,g3,g4,g5⟩:=h2;rw[eN] at g g1;cases g;cases o;cases g1;cases g2;refine⟨⟨_,_,u1,Z,B _ (List.mem_append_right _ (by simp)),e4,e5⟩,⟨_,_,u2,g3,B _ (List.mem_append_right _ (by simp)),g4,g5⟩,fun p b O n z=>?_⟩;simp only[List.mem_cons,List.not_mem_nil,or_false] at b;rcases b with rfl | rfl
    ·rw[e4] at z;cases z
    ·rw[g4] at z;cases z
 have C1:Caught K' (Za5 Zc3) (Zj2 X.env.cells (Za5 Zc3).names []) ["pieces","of_at"] [.ref d,.ref f_bf0] :=
  Zo2 ok rfl (by decide +kernel) (by decide +kernel) fun i y u g o=>by
   match i,g,o with
   | 0,g,o=>cases g;cases o;exact cw.2.1
   | 1,g,o=>cases g;cases o;exact cw.1
 generalize [(f1,o1),(c1,p1)]=xs at L a2 a3 B l ⊢;have q3:=Yc0 L a;have V:H2 d=some (.lst us):=Y.toT _ _ (fun _ z=>nomatch z) q6
 have q2:d ∉ xs.map (·.1):=fun z=>by
  obtain⟨p,b,e⟩:=List.mem_map.mp z;have:=L p b;rw[e,V] at this;cases this
 refine⟨Zr8 K' (JPc K' J d us (t,0)) (fun H p v=>IsE K' H v (mpP FF p)) (t,0) f1,fun m=>?_,?_⟩
 ·rw[eP,ew,em]
  exact GF K' m _ _ (t,0) f1 fd1 a (Xq3 hJ) (fun H H' p v k h=>IsE.keep h k)
   (Zq8 G1 C1 hA (G_bf0 K' m a) (k_bf0 K' a) (b_bf0.le a) (.of (G_br0 K' m a) m_br0 (k_br0 K' a) (b_br0.le a))) G1.kp (G1.binds fun _ _ _ _ us hl=>match us,hl with | [_,_],_=>rfl)
 ·have U:SqL K' (remX xs H2) d us:=.inl (.inl (by rw[Zd8 q2];exact V))
  have S:Paired (IsPf K' (remX xs H2)) us (preP (t,0)):=Paired.mapP q4 fun _ p z=>Dn.moveT q3 (Zs2 p) (IsPf.keep z (SameT.keepT Y.toT));refine⟨d,us,rfl,⟨hJ.inn _ _ _ _ L a (hJ.keep _ _ _ sA.toT j0),U,S⟩,U,S,hz,fun r H3 Z q5 n3=>?_⟩;have sb:=Yj7 Z;refine q _ _ (sA.trans sb.toV) (q0.keep sb) (Dn.moveT (Ye0 l (fun p b=>?_) n3) (Te.noList _) q5);rcases List.mem_append.mp b with b | b
  ·exact a2 p b
  ·exact cw.2.2 p b
theorem sc_be0:FnScope ["term","by","of_at"] ["term","by"] (Za5 (top 23)):=scm (by decide +kernel)
noncomputable abbrev Zd0:Stmt:=Xi6 (top 23) 0
theorem Zy5:FnScopeC ["k","front","by"] ["k","front"] ["by"] (Za5 Zd0):=⟨rfl,rfl,rfl,by decide +kernel,rfl,by decide +kernel,by decide +kernel,by decide +kernel⟩
noncomputable abbrev Zi2:Str:=("lifted":Str)++Str.ofString ".<locals>."++"of_at"
theorem Ya8:∀ y∈(Za5 Zd0).names,y.2=NameKind.free→(Za5 (top 23)).names.lookup y.1=some NameKind.cell:=by decide +kernel
noncomputable def Zd4:List (Pos×Str):=[(posOf Zd0,Zi2)]
theorem Yl8 {H:Hp} {p:Addr} {k:Nat} (h:SqT K H p [.str "at",.int (k:Nat)]):IsE K H (.ref p) (.at k):=isE_view.mpr ⟨p,_,rfl,h,dnAll_cons (dn_str.mpr rfl) (dnAll_cons (dn_int.mpr rfl) dnAll_nil)⟩
theorem Zz6 {k:Nat} {cl:List (Str×Addr)} {f:Addr} {fd:FuncData} (F:FunC K "of_at" Zi2 Zd0 cl f fd) {n:Nat} {J:Hp→Prop} {AA:Nat→Nat→Prop}
  (C:Caught K (Za5 Zd0) cl ["by"] [.int (n:Nat)]):Fk0 P w K mg base (k+1) f fd ["k","front"] (Zy0 K J (Zf5 n) AA):=by
 refine F.ok Zy5 C (fun g H Q E h=>?_) (fun i A e s H g Q E l h=>?_)
 ·obtain⟨a,b,rfl,_⟩:=h
  rfl
 obtain⟨a,b,rfl,j,m,q⟩:=h;refine⟨_,(Za8 (Zb3 (Zb5 (Za0 Za9 (Za0 (Yf4 (ptcM (Yw3) (pvM 0) (pvM 1)) (Zb6 Ze0 (pvM 0) (pvM 2)) (pvM 0)) Za1))))),?_⟩;walk_at "1"
 by_cases c:b≤a
 ·rw[if_pos (by omega)]
  refine⟨by decide,fun p d=>q _ _ (Za6 d _) ?_⟩;show IsE K _ _ (.at (if b≤a then a+n else a));rw[if_pos c];exact Yl8 (.inl (.inl Za4))
 ·rw[if_neg (by omega)]
  refine⟨by decide,fun p d=>q _ _ (Za6 d _) ?_⟩;show IsE K _ _ (.at (if b≤a then a+n else a));rw[if_neg c];exact Yl8 (.inl (.inl Za4))
abbrev GCh (P:Program) (w:World) (K:W.Frag) (mg:Str→Option Value) (j:Nat) (T:Addr) (f_bc0:Addr) (fd_bc0:FuncData):Prop:=∀ (K':W.Frag) (base:Heap) (J:JP) (FF:Nat→Nat→Te) (AA:Nat→Nat→Prop) (f1:Addr) (fd1:FuncData),KLe K K'→JOk J →
 (∀ K2 base,KLe K' K2→FnOk P w K2 mg base CX0 j f1 fd1 ["k","front"] (Zy0 K2 (J K2) FF AA))→(∀ K2,KLe K' K2→W.keepIn K2 (.ref f1)=true)→Binds K' fd1 ["k","front"] []→FnOk P w K' mg base CX0 (j+3) f_bc0 fd_bc0 ["term","of_at"] (Zo6 K' T Zc1 J FF AA f1)
theorem Wg1 {j:Nat} {T T1:Addr} {f_be0:Addr} {fd_be0:FuncData} (F_be0:FunT K "lifted" "lifted" (top 23) f_be0 fd_be0 T) (hB:∀ h,K.In h→h.BuiltinsAt mg T) (hT:mainGlobals≠T) (hne:T≠T1)
  {f_bc0:Addr}{fd_bc0:FuncData}(m_bc0:MgI mg "changed" f_bc0)(k_bc0:KpI K f_bc0)(b_bc0:Binds K fd_bc0 ["term","of_at"] [])(GC:GCh P w K mg (j+1) T1 f_bc0 fd_bc0) :
  Fk0 P w K mg base (j+5) f_be0 fd_be0 ["term","by"] (Yi7 K T1 T Zc1 Zd4):=by
 refine F_be0.ok sc_be0 (fun vs H Q E h=>?_) (fun c A B s H vs Q E hC hr h=>?_)
 ·obtain⟨v,t,n,rfl,_⟩:=h
  rfl
 obtain⟨v,t,n,rfl,q4,hz,M,Z,q⟩:=h
 have q2:∀ i∈([1]:List Nat),∃ x,(["term","by","of_at"]:List Str)[i]?=some x∧(Za5 (top 23)).names.lookup x=some .cell∧(fun _:Str=>true) x=true:=by
  intro i R;rcases List.mem_singleton.mp R with rfl;exact⟨"by",rfl,rfl,rfl⟩
 refine⟨_,(Za3 (Zy7 (st:=Zd0) (i:=2) (qual:=Zi2) (ds:=Zd4) rfl sc_be0.nd rfl (Or.inl rfl) (Zg2 (fun y hy hf=>Zm5 (Ya8 y hy hf))) rfl hC hB hT rfl (by simp[Zd4]) (by decide +kernel) rfl rfl rfl)
 (Za8 (Zb3 (Zs4 (ix:=[1]) hr (by exact rfl) m_bc0 k_bc0 b_bc0 q2 (Za0 (pvM 0) (Za0 (pvM 2) Za1)))))),?_⟩
 generalize e:(cxOf CX0 P w K mg base ["term","by","of_at"] "lifted" (Za5 (top 23)) f_be0 (.ref c) A B s H E).nox=X
 have eP:X.prog=P:=by rw[← e];rfl
 have ew:X.w=w:=by rw[← e];rfl
 have eK:X.K=K:=by rw[← e];rfl
 have em:X.mg=mg:=by rw[← e];rfl
 have eN:X.N=(["term","by","of_at"]:List Str):=by rw[← e];rfl
 have ec:(PyProof.Rows.envOfC "lifted" (Za5 (top 23)) s.heap.objs.size f_be0 (.ref c)).cells=X.env.cells:=by rw[← e];rfl
 refine sqt (fun V J=>∃ d,V=[some v,some (.int (n:Nat)),some (.ref d)]∧SameU T H J∧TabOk J T Zd4∧FnFz J d "of_at" Zi2 (Zd6 Zd0) (Zc7 Zd0) (Za5 Zd0) (Zj2 X.env.cells (Za5 Zd0).names [])) ?_ ?_
 ·intro C q5
  exact⟨Z,fun f J n sm tb fn=>q5 _ _ ⟨f,rfl,sm,tb,ec▸fn⟩⟩
 rintro q9 H2 ⟨d,rfl,O,W,q6⟩;obtain⟨o1,c1,p1,I,a2,G,a4⟩:=q6.objs2;have Y:TabOk H2 T1 Zc1:=O.toV.tab (by simpa using fun z=>hne z.symm) M;show Zm8 X _ _ _ _ [1] _ _ _ _;unfold Zm8;walk_at "1";refine⟨fun i R=>?_,[(d,o1),(c1,p1)],I,fun o cs ok k a l q3=>?_⟩
 ·rcases List.mem_singleton.mp R with rfl
  exact⟨_,rfl⟩
 rw[eK] at k a;obtain⟨q7,U⟩:=a4 o fun p b=>l p (List.mem_append_left _ b)
 have cw:Zv6 X o "by" (.int (n:Nat))∧∀ p∈cs,∀ L n,p.2.data≠.seq L n:=by
  cases q3 with
  | cons h1 r1 =>
   cases r1;obtain⟨x1,v1,u1,g,m,S,e4,e5⟩:=h1;rw[eN] at g;cases g;cases m;refine⟨⟨_,_,u1,S,l _ (List.mem_append_right _ (by simp)),e4,e5⟩,fun p b L n z=>?_⟩;rcases List.mem_singleton.mp b with rfl;rw[e4] at z;cases z
 have C1:Caught o (Za5 Zd0) (Zj2 X.env.cells (Za5 Zd0).names []) ["by"] [.int (n:Nat)] :=
  Zo2 ok rfl (by decide +kernel) (by decide +kernel) fun i y u g m=>by
   match i,g,m with
   | 0,g,m=>cases g;cases m;exact cw.1
 have G:=G Zc1 (by decide +kernel);generalize [(d,o1),(c1,p1)]=xs at I a2 G l a ⊢;have q0:=Yc0 I k;refine⟨Zo6 o T1 Zc1 (fun _ _=>True) (Zf5 n) (fun _ _=>True) d,fun F=>?_,?_⟩
 ·rw[eP,ew,em]
  exact GC o F _ _ _ d q7 k ⟨fun _ _ _ _ _=>trivial,fun _ _ _ _ _ _ _=>trivial⟩ (fun K2 q8 D=>Zz6 (U.le D) (C1.le D)) (fun K2 D=>(U.le D).kp) (U.binds fun _ _ _ _ us hl=>match us,hl with | [_,_],_=>rfl)
 ·refine⟨v,t,rfl,Dn.moveT q0 t.noList (IsE.keep q4 (SameT.keepT O.toT)),hz,trivial,fun _ _ _=>trivial,Y.rem I G,fun r H3 S t3 q1 n3=>?_⟩
  have sb:=S.back;refine q _ _ ((O.toV.mono (by simp)).trans (sb.mono (by simp))) (t3.back n3) (sb.tab (by simpa using hne) W) (Dn.moveT (Ye0 a (fun p b=>?_) n3) (Te.noList _) q1);rcases List.mem_append.mp b with b | b
  ·exact a2 p b
  ·exact cw.2 p b
theorem sc_bh0:FnScope ["term","other","fronts","lifts","of_at"] ["term","other"] (Za5 (top 24)):=scm (by decide +kernel)
noncomputable abbrev Ze2:Stmt:=Xi6 (top 24) 2
theorem Yj6:FnScopeC ["k","front","lifts"] ["k","front"] ["lifts"] (Za5 Ze2):=⟨rfl,rfl,rfl,by decide +kernel,rfl,by decide +kernel,by decide +kernel,by decide +kernel⟩
noncomputable abbrev Zm0:Str:=("put":Str)++Str.ofString ".<locals>."++"of_at"
theorem Ym6:∀ y∈(Za5 Ze2).names,y.2=NameKind.free→(Za5 (top 24)).names.lookup y.1=some NameKind.cell:=by decide +kernel
noncomputable def Zi8:List (Pos×Str):=[(posOf Ze2,Zm0)]
theorem Yk8 {k:Nat} {cl:List (Str×Addr)} {f:Addr} {fd:FuncData} (F:FunC K "of_at" Zm0 Ze2 cl f fd) {dl:Addr} {kvs:List (Key×V)} {fr:List Int} {o:Te}
  (C:Caught K (Za5 Ze2) cl ["lifts"] [.ref dl]):Fk0 P w K mg base (k+1) f fd ["k","front"] (Zy0 K (JPut dl kvs fr o K) (Ken.putF o) (fun k f=>k=f→(f:Int)∈fr)):=by
 refine F.ok Yj6 C (fun l H Q E h=>?_) (fun x A j s H l Q E m h=>?_)
 ·obtain⟨a,b,rfl,_⟩:=h
  rfl
 obtain⟨a,b,rfl,g,n,q⟩:=h
 refine⟨_,(Za3 (Zd2 (ptcM (Ze7) (pvM 0) (pvM 1))
  (Za8 (Zb3 (Xw8 (Wk0 m) (pvM 2) (pvM 1) (fun _ _=>rfl))))
  Zb4)
 (Za8 (Zb3 (Zb5 (Za0 Za9 (Za0 (Yf4 (ptcM (Yk7) (pvM 0) (pvM 1)) (Zb6 Zh2 (pvM 0) Za2) (pvM 0)) Za1)))))),?_⟩
 walk_at "1"
 by_cases c:a=b
 ·subst c
  obtain⟨u,t,r⟩:=g.2 a (n rfl);rw[if_pos (by simp)];refine⟨u,?_,q _ _ (Same.refl _) ?_⟩
  ·have:=DGet.k (k:=Sum.inl (a:Int)) g.1
   rw[t] at this;exact this
  ·show IsE K H u (if a=a then o.mp (Zf5 a) 0 else _)
   rw[if_pos rfl];exact r
 ·rw[if_neg (by simpa using fun z:(a:Int)=b=>c (by omega))]
  have i:Ken.putF o a b=.at (if b < a then a - 1 else a):=by unfold Ken.putF;rw[if_neg c]
  by_cases d:b < a
  ·rw[if_pos (by omega)]
   refine⟨by decide,fun p e=>q _ _ (Za6 e _) ?_⟩;rw[i,if_pos d]
   have v:((a:Int) - 1)=((a - 1:Nat):Int):=by omega
   rw[v];exact Yl8 (.inl (.inl Za4))
  ·rw[if_neg (by omega)]
   refine⟨by decide,fun p e=>q _ _ (Za6 e _) ?_⟩;rw[i,if_neg d];exact Yl8 (.inl (.inl Za4))
theorem Wg0 {j:Nat} {T T1 T2:Addr} {f_bh0:Addr} {fd_bh0:FuncData} (F_bh0:FunT K "put" "put" (top 24) f_bh0 fd_bh0 T) (hB:∀ h,K.In h→h.BuiltinsAt mg T) (hT:mainGlobals≠T) (ne1:T≠T1) (ne2:T≠T2) (ne12:T1≠T2)
  {f_bc0:Addr}{fd_bc0:FuncData}(m_bc0:MgI mg "changed" f_bc0)(k_bc0:KpI K f_bc0)(b_bc0:Binds K fd_bc0 ["term","of_at"] [])(GC:GCh P w K mg (j+3) T1 f_bc0 fd_bc0)
  (C_standing:Cl P w K mg base (j+6) "standing" pq27 (Zf7 K))
  (C_lifted:Cl P w K mg base (j+6) "lifted" ["term","by"] (Yi7 K T1 T2 Zc1 Zd4)) (m_sorted:mg "sorted"=none) :
  Fk0 P w K mg base (j+7) f_bh0 fd_bh0 ["term","other"] (Yu7 K T1 T2 T Zc1 Zd4 Zi8):=by
 refine F_bh0.ok sc_bh0 (fun vs H Q E h=>?_) (fun c A q8 s H vs Q E hC hr h=>?_)
 ·obtain⟨v,t,ov,o,rfl,_⟩:=h
  rfl
 obtain⟨v,t,ov,o,rfl,j2,hO,hz,y0,v9,y1,j4,j3,z0,q⟩:=h
 have y4:∀ i∈([1,3]:List Nat),∃ x,(["term","other","fronts","lifts","of_at"]:List Str)[i]?=some x∧(Za5 (top 24)).names.lookup x=some .cell∧(fun _:Str=>true) x=true:=by
  intro i hi;simp only[List.mem_cons,List.not_mem_nil,or_false] at hi;rcases hi with rfl | rfl
  ·exact⟨"other",rfl,rfl,rfl⟩
  ·exact⟨"lifts",rfl,rfl,rfl⟩
 refine⟨_,(Za3 (pst 2 sc_bh0.nd (Zd1 (Yh5 (P:=P) (w:=w) rfl rfl rfl) (by exact rfl) m_sorted Ys9 (Za0 (We1 (P:=P) (w:=w) rfl rfl (blk0 (N':=["piece","front"]) (by decide +kernel) (by decide +kernel) rfl (by decide +kernel)) rfl (Zq5 (Zc2 C_standing hr (Za0 (pvM 0) Za1))) (fun _ _ _ _=>(Yq0 (K:=K) (n:=2) rfl rfl (Zb8 (Zc0 (i:=0) (show (["piece","front"]:List Str).Nodup from by decide +kernel) rfl (Or.inl rfl)) (Zb8 (Zc0 (i:=1) (show (["piece","front"]:List Str).Nodup from by decide +kernel) rfl (Or.inl rfl)) Ze3)) rfl rfl)) (fun _ _=>Xv0 (tg2:=(.Name "" ⟨0,0,0,0⟩)) (iter2:=(.Name "" ⟨0,0,0,0⟩))) (fun _ _ _ _ _=>(Xe8 (ptcM (Xx2 (K:=K) rfl (Zl3 hr)) (pvM 0) (Zb5 (Za0 Za9 (Za0 (pvM 1) Za1)))) (Xe9 (P:=P) (w:=w) rfl rfl (pvM 1))))) Za1)))
 (Za3 (Zv0 (i:=3) sc_bh0.nd rfl (Or.inr rfl) (We5 (blkC (N':=["front","other"]) (nt:=1) (ci:=[1]) ["term","other","fronts","lifts","of_at"] (Za5 (top 24)) rfl rfl (by decide +kernel) rfl (by decide +kernel) (by decide +kernel) rfl (by decide +kernel)) rfl (Zq5 (pvM 2)) (fun _ _ _ _=>(Zc0 (i:=0) (show (["front","other"]:List Str).Nodup from by decide +kernel) rfl (Or.inl rfl))) (fun _ _=>Xv2 (c:=(.Name "" ⟨0,0,0,0⟩)) (tg2:=(.Name "" ⟨0,0,0,0⟩))) (fun _ _ _ _ _=>(Xp5 (Nat.lt_of_succ_lt (Wk0 hr)) (pvM 0) (Zc2 C_lifted hr (Za0 (pvM 1) (Za0 (pvM 0) Za1)))))))
 (Za3 (Zy7 (st:=Ze2) (i:=4) (qual:=Zm0) (ds:=Zi8) rfl sc_bh0.nd rfl (Or.inl rfl) (Zg2 (fun y J F=>Zm5 (Ym6 y J F))) rfl hC hB hT rfl (by simp[Zi8]) (by decide +kernel) rfl rfl rfl)
 (Za8 (Zb3 (Zs4 (ix:=[1,3]) hr (by exact rfl) m_bc0 k_bc0 b_bc0 y4 (Za0 (pvM 0) (Za0 (pvM 4) Za1)))))))),?_⟩
 generalize hX:(cxOf CX0 P w K mg base ["term","other","fronts","lifts","of_at"] "put" (Za5 (top 24)) f_bh0 (.ref c) A q8 s H E).nox=X
 have eP:X.prog=P:=by rw[← hX];rfl
 have ew:X.w=w:=by rw[← hX];rfl
 have eK:X.K=K:=by rw[← hX];rfl
 have em:X.mg=mg:=by rw[← hX];rfl
 have eN:X.N=(["term","other","fronts","lifts","of_at"]:List Str):=by rw[← hX];rfl
 have ec:(PyProof.Rows.envOfC "put" (Za5 (top 24)) s.heap.objs.size f_bh0 (.ref c)).cells=X.env.cells:=by rw[← hX];rfl
 refine sqt (fun U g=>∃ (lf:Addr) (B:List Int),U=[some v,some ov,some (.ref lf),none,none]∧Same H g∧g lf=some (.lst (B.map V.int))∧B.length < 64∧(∀ x∈B,0≤x)∧∀ f,(Te.at f,f)∈t.pre 0→(f:Int)∈B) ?_ ?_
 ·intro C q0
  rw[eK];walk_at "1";refine⟨v,t,rfl,j2,hz,fun r H1 us G f1 h1 hu=>⟨r,rfl,⟨_,SqL.of h1⟩,fun acc m=>?_⟩⟩;have lu:=Paired.length hu;refine Ym2 (xs:=us) (fun i g=>Same H1 g∧∃ xs,g acc=some (Ye7 P w acc xs)∧xs.Nodup∧(∀ x∈xs,∃ f:Nat,x=(f:Int)∧f < 60)∧∀ f:Nat,(Te.at f,f)∈(t.pre 0).take i→(f:Int)∈xs) ⟨Za6 m _,[],Za4,List.nodup_nil,fun x W=>absurd W (by simp),fun f F=>absurd F (by simp)⟩ (fun i g _ ⟨e,_⟩=>SqL.of (e _ _ h1)) (fun i u g N W ⟨e,xs,O,nd,S,hm⟩ hN=>?_) (fun g ⟨e,xs,O,nd,S,hm⟩=>?_)
  ·obtain⟨p,D,z6⟩:=paired_get hu W
   obtain⟨tp,fp⟩:=p;have pm:(tp,fp)∈t.pre 0:=List.mem_of_getElem? D;have pf:=Zi6 pm;obtain⟨pa,x0,rfl,z7,q3⟩:=isPf.mp (z6.keep e.keepT);have xl:=Yl4 nd S;have eo:(t.pre 0).take (i+1)=(t.pre 0).take i++[(tp,fp)]:=Zr5 D;walk_at "1";have j5:Wk [none,none] [some x0,some (.int (fp:Nat))]:=(Yb9 (σ:=[none,none]) (i:=0) rfl).trans (Yb9 (σ:=[some x0,none]) (i:=1) rfl);refine⟨_,z7,rfl,_,_,rfl,_,_,rfl,rfl,j5,by decide,fun p q2=>?_⟩;have kA:=Zd3 (K:=K) (o:=.tup [.str "at",.int (fp:Nat)]) q2;refine⟨tp.data,IsE.keep q3 kA,(Te.at fp).data,Yl8 (.inl (.inl Za4)),Te.lay (Zm2 y1 pm),Wl2 fp,Nat.le_trans (Nat.min_le_right _ _) (by show (1:Nat)≤150;decide),?_⟩;rw[if_neg Bool.false_ne_true,Wk3]
   have j1:upd g p (.tup [.str "at",.int (fp:Nat)]) acc=some (Ye7 P w acc xs):=by rw[Zb1 (Zb0 O q2)];exact O
   by_cases ca:tp=.at fp
   ·subst ca
    rw[if_pos (by simp)];refine⟨_,rfl,xs,j1,by omega,hN _ ⟨(e.trans (Za6 q2 _)).write m,_,Za4,?_,fun x I=>?_,fun f F=>?_⟩⟩
    ·by_cases J:(fp:Int)∈xs
     ·rw[if_pos J];exact nd
     ·rw[if_neg J,List.nodup_append]
      exact⟨nd,by simp,fun a O b S=>by rw[List.mem_singleton.mp S];exact fun z=>J (z▸O)⟩
    ·by_cases J:(fp:Int)∈xs
     ·rw[if_pos J] at I;exact S x I
     ·rw[if_neg J] at I
      rcases List.mem_append.mp I with z | z
      ·exact S x z
      ·exact⟨fp,List.mem_singleton.mp z,by have:fp < 0+t.deep:=pf;omega⟩
    ·rw[eo] at F
     have Z:(f:Int)∈xs∨f=fp:=by
      rcases List.mem_append.mp F with z | z
      ·exact .inl (hm f z)
      ·have:=List.mem_singleton.mp z
       exact .inr (Prod.mk.inj this).2
     by_cases J:(fp:Int)∈xs
     ·rw[if_pos J]
      rcases Z with z | z
      ·exact z
      ·rw[z];exact J
     ·rw[if_neg J]
      rcases Z with z | z
      ·exact List.mem_append_left _ z
      ·rw[z];exact List.mem_append_right _ (List.mem_singleton.mpr rfl)
   ·rw[if_neg (by simpa using ca)]
    refine hN _ ⟨e.trans (Za6 q2 _),xs,j1,nd,S,fun f F=>?_⟩;rw[eo] at F;rcases List.mem_append.mp F with z | z
    ·exact hm f z
    ·have:=List.mem_singleton.mp z
     obtain⟨z1,z2⟩:=Prod.mk.inj this;exact absurd (by rw[← z1,z2]) ca
  ·have xl:=Yl4 nd S
   refine⟨xs,O,by omega,fun l ys hl q4=>q0 _ _ ⟨l,ys,rfl,(G.trans e).trans (Za6 hl _),Za4,by rw[q4.length_eq];omega,fun x W=>?_,fun f F=>?_⟩⟩
   ·obtain⟨f,rfl,_⟩:=S x (q4.mem_iff.mp W)
    omega
   ·rw[lu,List.take_length] at hm
    exact q4.mem_iff.mpr (hm f F)
 rintro v6 H1 ⟨lf,B,rfl,G,Y,v8,y6,y5⟩;refine sqt (fun U g=>∃ M d,U=[some v,some ov,some (.ref lf),some (.ref M),none]∧SameV [T1,T2] H1 g∧TabOk g T1 Zc1∧TabOk g T2 Zd4∧g M=some (.dK d)∧∀ f:Nat,(f:Int)∈B→∃ u,valV d (Sum.inl (f:Int))=some u∧IsE K g u (o.mp (Zf5 f) 0)) ?_ ?_
 ·intro C q0
  rw[eK];walk_at "1"
  have f0:∀ acc,H1 acc=none→H1 lf≠none:=fun acc _ z=>by rw[Y] at z;cases z
  refine⟨⟨_,SqL.of Y⟩,fun acc m=>?_⟩
  have v7:lf≠acc:=fun z=>by rw[z,m] at Y;cases Y
  refine Ym2 (xs:=B.map V.int) (fun i g=>SameV [T1,T2] H1 g∧TabOk g T1 Zc1∧TabOk g T2 Zd4∧∃ d,g acc=some (.dK d)∧d.length≤i∧∀ f:Nat,(f:Int)∈B.take i→∃ u,valV d (Sum.inl (f:Int))=some u∧IsE K g u (o.mp (Zf5 f) 0))
   ⟨(Za6 m _).toV,(j4.keep G).keep (Za6 m _),(j3.keep G).keep (Za6 m _),[],Za4,Nat.le_refl _,fun f F=>absurd F (by simp)⟩ (fun i g _ ⟨e,_⟩=>SqL.of (e.toT _ _ (fun _ z=>nomatch z) Y)) (fun i u g N W ⟨e,t1,t2,d,O,hkl,hm⟩ hN=>?_) (fun g ⟨e,t1,t2,d,O,hkl,hm⟩=>?_)
  ·rw[List.getElem?_map] at W
   obtain⟨x,I,rfl⟩:=Option.map_eq_some_iff.mp W;have q3:=y6 x (List.mem_of_getElem? I);obtain⟨f,rfl⟩:=Int.eq_ofNat_of_zero_le q3;have il:i < B.length:=(List.getElem?_eq_some_iff.mp I).1;walk_at "1";refine⟨Yd7,ov,o,f,rfl,IsE.keep hO (G.keepT.trans (SameT.keepT e.toT)),y0,t1,t2,fun r H2 L z4 z3 z9=>?_⟩;have q6:H2 acc=some (.dK d):=L.toT _ _ (fun _ z=>nomatch z) O;have kB:=Xq1 (K:=K) (o:=.dK (putK d (Sum.inl (f:Int)) r)) q6;have wr:∀ {T:Addr} {ds:List (Pos×Str)},TabOk H2 T ds→TabOk (upd H2 acc (.dK (putK d (Sum.inl (f:Int)) r))) T ds:=fun h=>h.put q6 (fun _ z=>nomatch z) (fun _ z=>nomatch z);refine⟨_,DPut.k (k:=Sum.inl (f:Int)) q6 (Zh8 (by omega)),hN _ ⟨(e.trans L).write m,wr z4,wr z3,_,Za4,?_,fun f' Z=>?_⟩⟩
   ·have:=Zq9 d (Sum.inl (f:Int)) r
    omega
   ·rw[Xn6]
    by_cases ef:f'=f
    ·subst ef
     exact⟨r,by rw[if_pos rfl],IsE.keep z9 kB⟩
    ·rw[Zr5 I] at Z
     rcases List.mem_append.mp Z with z | z
     ·obtain⟨u,h1,h2⟩:=hm f' z
      exact⟨u,by rw[if_neg (fun q=>ef (by have:=Sum.inl.inj q;omega))];exact h1,IsE.keep h2 ((SameT.keepT L.toT).trans kB)⟩
     ·exact absurd (by have:=List.mem_singleton.mp z;omega) ef
  ·rw[List.length_map,List.take_length] at hm
   exact q0 _ _ ⟨acc,d,rfl,e,t1,t2,O,hm⟩
 rintro v5 H2 ⟨M,d,rfl,L,t1,t2,y7,y2⟩;have q7:SameV [T1,T2] H H2:=G.toV.trans L;have j9:TabOk H2 T Zi8:=q7.tab (by simp[ne1,ne2]) z0;refine sqt (fun U g=>∃ f1,U=[some v,some ov,some (.ref lf),some (.ref M),some (.ref f1)]∧SameU T H2 g∧TabOk g T Zi8∧FnFz g f1 "of_at" Zm0 (Zd6 Ze2) (Zc7 Ze2) (Za5 Ze2) (Zj2 X.env.cells (Za5 Ze2).names [])) ?_ ?_
 ·intro C q0
  exact⟨j9,fun f g n sm tb fn=>q0 _ _ ⟨f,rfl,sm,tb,ec▸fn⟩⟩
 rintro v4 H3 ⟨f1,rfl,s3,j6,y9⟩;obtain⟨o1,c1,p1,a1,a2,a3,a4⟩:=y9.objs2;have j8:TabOk H3 T1 Zc1:=s3.toV.tab (by simpa using fun z=>ne1 z.symm) t1;have j7:TabOk H3 T2 Zd4:=s3.toV.tab (by simpa using fun z=>ne2 z.symm) t2;have jp:JPut M d B o K H3:=(Yr3 M d B o).keep _ _ _ s3.toT ⟨y7,y2⟩;show Zm8 X _ _ _ _ [1,3] _ _ _ _;unfold Zm8;walk_at "1";refine⟨fun i hi=>?_,[(f1,o1),(c1,p1)],a1,fun K' cs ok q1 R q5 y8=>?_⟩
 ·simp only[List.mem_cons,List.not_mem_nil,or_false] at hi
  rcases hi with rfl | rfl
  ·exact⟨_,rfl⟩
  ·exact⟨_,rfl⟩
 rw[eK] at q1 R;obtain⟨v0,G1⟩:=a4 K' fun p D=>q5 p (List.mem_append_left _ D)
 have cw:Zv6 X K' "lifts" (.ref M)∧∀ p∈cs,∀ j0 n,p.2.data≠.seq j0 n:=by
  cases y8 with
  | cons h1 r1 =>
   cases r1 with
   | cons h2 r2 =>
    cases r2;obtain⟨x1,v1,u1,G,L,e3,e4,e5⟩:=h1;obtain⟨x2,v2,u2,g1,g2,g3,g4,g5⟩:=h2;rw[eN] at G g1;cases G;cases L;cases g1;cases g2;refine⟨⟨_,_,u2,g3,q5 _ (List.mem_append_right _ (by simp)),g4,g5⟩,fun p D j0 n z=>?_⟩;simp only[List.mem_cons,List.not_mem_nil,or_false] at D;rcases D with rfl | rfl
    ·rw[e4] at z;cases z
    ·rw[g4] at z;cases z
 have C1:Caught K' (Za5 Ze2) (Zj2 X.env.cells (Za5 Ze2).names []) ["lifts"] [.ref M] :=
  Zo2 ok rfl (by decide +kernel) (by decide +kernel) fun i y u G L=>by
   match i,G,L with
   | 0,G,L=>cases G;cases L;exact cw.1
 have a3:=a3 Zc1 (by decide +kernel);generalize [(f1,o1),(c1,p1)]=xs at a1 a2 a3 q5 R ⊢;have z5:=Yc0 a1 q1;refine⟨Zo6 K' T1 Zc1 (JPut M d B o) (Ken.putF o) (fun k f=>k=f→(f:Int)∈B) f1,fun q9=>?_,?_⟩
 ·rw[eP,ew,em]
  exact GC K' q9 _ _ _ f1 v0 q1 (Yr3 M d B o) (fun K2 v3 k2=>Yk8 (G1.le k2) (C1.le k2)) (fun K2 k2=>(G1.le k2).kp) (G1.binds fun _ _ _ _ us hl=>match us,hl with | [_,_],_=>rfl)
 ·refine⟨v,t,rfl,Dn.moveT z5 t.noList (IsE.keep j2 ((SameT.keepT q7.toT).trans (SameT.keepT s3.toT))),hz,(Yr3 M d B o).inn _ _ _ _ a1 q1 jp,fun k f y3 e=>y5 f (e▸y3),j8.rem a1 a3,fun r H4 e4 t4 z8 n4=>?_⟩
  have sb:=e4.back;refine q _ _ (((q7.mono (by simp)).trans (s3.toV.mono (by simp))).trans (sb.mono (by simp))) (t4.back n4) (sb.tab (by simpa using fun z=>ne12 z.symm) j7) (sb.tab (by simpa using ne1) j6) (Dn.moveT (Ye0 R (fun p D=>?_) n4) (Te.noList _) z8);rcases List.mem_append.mp D with D | D
  ·exact a2 p D
  ·exact cw.2 p D
theorem _root_.L2.FunT.le {K K':W.Frag} (k:KLe K K') {x qual:Str} {st:Stmt} {f:Addr} {fd:FuncData} {T:Addr} (F:FunT K x qual st f fd T):FunT K' x qual st f fd T:=by
 obtain⟨⟨l,j,m,g,i,s,c,r,b,e,d,n,q⟩,t⟩:=F;refine⟨⟨l,j,m,g,i,s,c,r,b,e,k _ _ d,Ya7 k n,fun h p=>q h fun a o e=>p a o (k a o e)⟩,?_⟩;exact Zs7 (k _ _ d)
theorem Ys3 {j:Nat} {T:Addr} {f_bc0:Addr} {fd_bc0:FuncData} (F_bc0:FunT K "changed" "changed" (top 18) f_bc0 fd_bc0 T) (hB:∀ h,K.In h→h.BuiltinsAt mg T) (hT:mainGlobals≠T)
  {aINNER:Addr} {aT:Nat→Addr} (m_aa0:MgI mg "INNER" aINNER) (D_INNER:KDict K w aINNER (innV aT)) (hI:Inn K aT) (m_reversed:mg "reversed"=none) (m_range:mg "range"=none) (m_len:mg "len"=none) (m_list:mg "list"=none) (m_zip:mg "zip"=none) (m_tuple:mg "tuple"=none)
  {f_bi0:Addr}{fd_bi0:FuncData}(F_bi0:Fun K "standing" "standing" (top 15) f_bi0 fd_bi0)(m_bi0:MgI mg "standing" f_bi0)(b_bi0:Binds K fd_bi0 pq27 [])
  {f_br0:Addr}{fd_br0:FuncData}(F_br0:Fun K "with_inner" "with_inner" (top 17) f_br0 fd_br0)(m_br0:MgI mg "with_inner" f_br0)(b_br0:Binds K fd_br0 pq20 [])
  {f_bk0:Addr}{fd_bk0:FuncData}(F_bk0:Fun K "term_folded" "term_folded" (top 16) f_bk0 fd_bk0)(m_bk0:MgI mg "term_folded" f_bk0)(b_bk0:Binds K fd_bk0 pq21 []) :
  GCh P w K mg (j+1) T f_bc0 fd_bc0:=fun x f J y z v s c g q l p =>
 Wg3 (j:=j+1) (F_bc0.le c) (fun h n=>hB h fun a o e=>n a o (c a o e)) hT g
  (.of (Xf7 (k:=j+2) (F_bi0.le c) m_aa0 (D_INNER.le c) (hI.le c) m_reversed) m_bi0 (F_bi0.le c).kp (b_bi0.le c))
  (fun i f d=>Xs9 (k:=j) (F_br0.le (c.trans d)) m_aa0 (D_INNER.le (c.trans d)) (hI.le (c.trans d)) m_list m_zip m_tuple) m_br0 (fun i d=>(F_br0.le (c.trans d)).kp) (b_br0.le c)
  m_bk0 (F_bk0.le c).kp (b_bk0.le c)
  (fun i f J R t u r d g m G k b=>Xt0 (k:=j+2) g m (F_bk0.le (c.trans d)) m_aa0 (D_INNER.le (c.trans d)) (hI.le (c.trans d)) m_reversed m_range m_len G k b)
  q l p
theorem Wc1:FnScope ["term"] ["term"] (Za5 (top 29)):=scm (by decide +kernel)
theorem Wc4:FnScope ["term"] ["term"] (Za5 (top 20)):=scm (by decide +kernel)
theorem Wf3 {k:Nat} {f_bq0:Addr} {fd_bq0:FuncData} (F_bq0:Fun K "turns" "turns" (top 29) f_bq0 fd_bq0) {aTURNING:Addr} {aU:Nat→Addr} (m_ae0:MgI mg "TURNING" aTURNING) (D_TURNING:KDict K w aTURNING (turnV aU)) (hU:Tng K aU):Fk0 P w K mg base (k+1) f_bq0 fd_bq0 pq27 (Yu5 K):=by
 refine F_bq0.ok Wc1 (fun G H Q E h=>?_) (fun T A F s H G Q E X h=>?_)
 ·obtain⟨v,t,rfl,_⟩:=h
  rfl
 obtain⟨v,t,rfl,i,q⟩:=h;obtain⟨D,U,rfl,J,M⟩:=isE_view.mp i;refine⟨_,(Za8 (Zb3 (Yv8 (We6 (We7 D_TURNING rfl m_ae0 (pxt (pvM 0) Za2)) (by with_unfolding_all rfl)) (Xf3 (Zi0 (Zl1) (pxt (pxt (pvM 0) Za2) Za2) (Zw5 D_TURNING rfl m_ae0 (pxt (pvM 0) Za2)) (by with_unfolding_all rfl)))))),?_⟩;walk_at "1"
 have B:∀ {x:V} {a:Te},IsE K H x a→∃ p m,x=.ref p∧SqT K H p m∧atI m 0=some (.str a.tag):=fun {x a} h=>by
  obtain⟨p,m,e,d,f⟩:=isE_view.mp h;exact⟨p,m,e,d,Zb7 (Zj8 f)⟩
 have N:(∃ (g:Str) (r:List V),SqT K H D (.str g :: r)∧(List.lookup g (turnV aU)).isSome=false∧t.turns=false)∨(∃ (g:Str) (x:V) (r:List V) (a:Te) (o:Addr) (n:List V),SqT K H D (.str g :: x :: r)∧List.lookup g (turnV aU)=some (.ref o)∧IsE K H x a∧SqT K H o n∧n.all Yg8=true∧inV (.str a.tag) n=t.turns):=by
  clear q J M
  cases t with
  | «at» k0 =>
   obtain⟨p,e,d⟩:=isE_atV.mp i;cases e;exact .inl ⟨_,_,d,rfl,rfl⟩
  | one u a ss =>
   obtain⟨p,x,W,e,d,f,_⟩:=isE_oneV.mp i;cases e
   cases u with
   | left=>exact .inr ⟨_,_,_,_,_,_,d,rfl,f,hU.l H,rfl,(by cases a with | two u2 _ _=>cases u2<;>rfl | one u1 _ _=>cases u1<;>rfl | _=>rfl)⟩
   | right=>exact .inr ⟨_,_,_,_,_,_,d,rfl,f,hU.r H,rfl,(by cases a with | two u2 _ _=>cases u2<;>rfl | one u1 _ _=>cases u1<;>rfl | _=>rfl)⟩
   | first=>exact .inl ⟨_,_,d,rfl,rfl⟩
   | second=>exact .inl ⟨_,_,d,rfl,rfl⟩
   | off=>exact .inl ⟨_,_,d,rfl,rfl⟩
  | two u a b =>
   obtain⟨p,x,y,e,d,f,_⟩:=isE_twoV.mp i;cases e
   cases u with
   | pair=>exact .inl ⟨_,_,d,rfl,rfl⟩
   | use=>exact .inr ⟨_,_,_,_,_,_,d,rfl,f,hU.u H,rfl,(by cases a with | two u2 _ _=>cases u2<;>rfl | one u1 _ _=>cases u1<;>rfl | _=>rfl)⟩
  | fn st a =>
   obtain⟨p,x,y,e,d,_⟩:=isE_fnV.mp i;cases e;exact .inl ⟨_,_,d,rfl,rfl⟩
  | cs a b c =>
   obtain⟨p,x,y,z,e,d,f,_⟩:=isE_csV.mp i;cases e;exact .inr ⟨_,_,_,_,_,_,d,rfl,f,hU.c H,rfl,(by cases a with | two u2 _ _=>cases u2<;>rfl | one u1 _ _=>cases u1<;>rfl | _=>rfl)⟩
 rcases N with ⟨g,r,d,f,C⟩ | ⟨g,x,r,a,o,n,d,f,C,S,R,O⟩
 ·refine⟨_,d,_,Zb7 (j:=0) rfl,_,rfl,?_⟩
  rw[f,if_neg (by decide),← C];exact q
 ·obtain⟨p,m,rfl,L,I⟩:=B C
  refine⟨_,d,_,Zb7 (j:=0) rfl,_,rfl,?_⟩;rw[f,if_pos (by rfl)];refine⟨_,d,_,Zb7 (j:=1) rfl,p,rfl,_,L,_,I,_,d,_,Zb7 (j:=0) rfl,_,rfl,_,f,o,rfl,n,.inr S,rfl,R,?_⟩;rw[if_neg (by decide),O];exact q
theorem Wf8 {k:Nat} {f_bl0:Addr} {fd_bl0:FuncData} (F_bl0:Fun K "term_parts" "term_parts" (top 20) f_bl0 fd_bl0) (C_standing:Cl P w K mg base k "standing" pq27 (Zf7 K)) (m_len:mg "len"=none):Fk0 P w K mg base (k+1) f_bl0 fd_bl0 pq27 (Yi5 K):=by
 refine F_bl0.ok Wc4 (fun b H Q E h=>?_) (fun j A a s H b Q E g h=>?_)
 ·obtain⟨v,t,rfl,_⟩:=h
  rfl
 obtain⟨v,t,rfl,i,d,q⟩:=h;refine⟨_,(Za8 (Zb3 (Zd1 Zc9 (by exact rfl) m_len Zf4 (Za0 (Zc2 C_standing g (Za0 (pvM 0) Za1)) Za1)))),?_⟩;walk_at "1";refine⟨v,t,rfl,i,d,fun r l c e _ h f=>⟨r,rfl,c,.inl (SqL.of h),?_⟩⟩;have:=Paired.length f;rw[Ze8] at this;rw[this];exact q _ e
theorem Wc3:FnScope ["pieces"] ["pieces"] (Za5 (top 31)):=scm (by decide +kernel)
theorem Wf5 {k:Nat} {f_bo0:Addr} {fd_bo0:FuncData} (F_bo0:Fun K "turning_places" "turning_places" (top 31) f_bo0 fd_bo0) (C_turns:Cl P w K mg base k "turns" pq27 (Yu5 K)) (m_enumerate:mg "enumerate"=none):Fk0 P w K mg base (k+1) f_bo0 fd_bo0 ["pieces"] (Zo3 K):=by
 refine F_bo0.ok Wc3 (fun G H Q E h=>?_) (fun O A F s H G Q E L h=>?_)
 ·obtain⟨l,o,b,rfl,_⟩:=h
  rfl
 obtain⟨l,o,b,rfl,z,C,S,q⟩:=h;have R:=Paired.length C;refine⟨_,(Za8 (Zb3 (We4 (blk0 (N':=["place","piece","front"]) (by decide +kernel) (by decide +kernel) rfl (by decide +kernel)) rfl (Xf1 rfl m_enumerate (Za0 (pvM 0) Za1)) (fun _ _ _ _=>(Yq0 (K:=K) (n:=2) rfl rfl (Zb8 (Zc0 (i:=0) (show (["place","piece","front"]:List Str).Nodup from by decide +kernel) rfl (Or.inl rfl)) (Zb8 (Yq0 (K:=K) (n:=2) rfl rfl (Zb8 (Zc0 (i:=1) (show (["place","piece","front"]:List Str).Nodup from by decide +kernel) rfl (Or.inl rfl)) (Zb8 (Zc0 (i:=2) (show (["place","piece","front"]:List Str).Nodup from by decide +kernel) rfl (Or.inl rfl)) Ze3)) rfl rfl) Ze3)) rfl rfl)) (fun _ _=>Xv1 (tg2:=(.Name "" ⟨0,0,0,0⟩)) (iter2:=(.Name "" ⟨0,0,0,0⟩))) (fun _ _ _ _ _=>(Xe8 (Zj7 (Zc2 C_turns L (Za0 (pvM 1) Za1))) (Xp4 (pvM 0))))))),?_⟩;walk_at "1";refine⟨⟨_,SqL.of z⟩,fun f c=>?_⟩
 have r:∀ {i:Nat} {p:Pf},b[i]?=some p→idxT 0 (b.take (i+1))=idxT 0 (b.take i)++(if p.1.turns then [i] else []):=fun {i p} h=>by
  have B:=(List.getElem?_eq_some_iff.mp h).1;rw[List.take_add_one,h,Zs9,List.length_take,Nat.min_eq_left (Nat.le_of_lt B),Nat.zero_add];show _++((if p.1.turns then [i] else [])++[])=_;rw[List.append_nil]
 refine Xl0 (xs:=o) (fun i d=>Same H d∧d f=some (.lst (natW (idxT 0 (b.take i))))) ⟨Za6 c _,by rw[List.take_zero];exact Za4⟩ (fun i d _ ⟨e,_⟩=>SqL.of (e _ _ z)) (fun i x d T0 N hx hT0 ⟨e,h⟩ hN=>?_) (fun d ⟨e,h⟩=>?_)
 ·obtain⟨p,g,v⟩:=paired_get C hx
  have t:=Za6 hT0 (.tup [.int (i:Nat),x]);have m:=e.trans t;obtain⟨u,y,rfl,J,I⟩:=isPf.mp (IsPf.keep v m.keepT);have B:=(List.getElem?_eq_some_iff.mp g).1
  have j:(natW (idxT 0 (b.take i))).length < sizeLine:=by
   rw[List.length_map];have M:=Zw8 (a:=b.take i) (n:=0);rw[List.length_take] at M;exact Zh8 (by omega)
  have D:upd d T0 (.tup [.int (i:Nat),.ref u]) f=some (.lst (natW (idxT 0 (b.take i)))):=t _ _ h;walk_at "1";refine⟨_,.inl (.inl Za4),rfl,_,_,rfl,_,_,rfl,u,rfl,_,J,rfl,_,_,rfl,_,_,rfl,rfl,rfl,Wk.trans (Yb9 (i:=0) rfl) (Wk.trans (Yb9 (i:=1) rfl) (Yb9 (i:=2) rfl)),y,p.1,rfl,I,p.1.turns,rfl,?_⟩
  by_cases hb:p.1.turns=true
  ·rw[if_pos hb]
   refine⟨_,D,j,hN _ ⟨m.write c,?_⟩⟩;rw[Za4,r g,if_pos hb];show some (HO.lst (_++_))=some (HO.lst (List.map _ (_++_)));rw[List.map_append];rfl
  ·rw[if_neg hb]
   refine hN _ ⟨m,?_⟩;rw[D,r g,if_neg hb,List.append_nil]
 ·rw[List.take_of_length_le (by omega)] at h
  exact q f d e c h
theorem sc_bj0:FnScope ["term","of_piece"] ["term"] (Za5 (top 21)):=scm (by decide +kernel)
noncomputable abbrev Zb9:Stmt:=Xi6 (top 21) 0
theorem Zn3:FnScopeC ["number","inner"] ["number","inner"] [] (Za5 Zb9):=⟨rfl,rfl,rfl,by decide +kernel,rfl,by decide +kernel,by decide +kernel,by decide +kernel⟩
noncomputable abbrev Zf0:Str:=("term_deep":Str)++Str.ofString ".<locals>."++"of_piece"
theorem Zo1:∀ y∈(Za5 Zb9).names,y.2=NameKind.free→(Za5 (top 21)).names.lookup y.1=some NameKind.cell:=by decide +kernel
noncomputable def Ze9:List (Pos×Str):=[(posOf Zb9,Zf0)]
theorem Xi2 {H:Hp}:∀ {us:List V} {ps:List Pf},Paired (fun u (p:Pf)=>u=V.int (p.1.deep:Nat)) us ps→us=(ps.map fun p=>((p.1.deep:Nat):Int)).map V.int
 | _,_,.nil=>rfl
 | _,_,.cons a t=>by rw[a,Xi2 (H:=H) t];rfl
theorem Zn7 {k:Nat} {cl:List (Str×Addr)} {f:Addr} {fd:FuncData} (F:FunC K "of_piece" Zf0 Zb9 cl f fd) {p0:Pf}
  (C:Caught K (Za5 Zb9) cl [] []) (m_max:mg "max"=none):Fk0 P w K mg base (k+1) f fd ["number","inner"] (Yi6 (fun _=>True) (fun _ p v=>v=V.int (p.1.deep:Nat)) p0):=by
 refine F.ok Zn3 C (fun c H Q E h=>?_) (fun i A b s H c Q E j h=>?_)
 ·obtain⟨n,p,l,a,rfl,_⟩:=h
  rfl
 obtain⟨n,p,l,a,rfl,_,m,d,e,q⟩:=h;have g:=Xi2 (H:=H) e;refine⟨_,(Za8 (Zb3 (Zb6 Ze0 Za2 (Xw5 (K:=K) rfl rfl (by exact rfl) m_max (pvM 1) Za2)))),?_⟩;walk_at "1";refine⟨_,SqL.of (g▸d),?_⟩;have:=Xr5 p;rw[this];exact q _ _ (Same.refl _) rfl
theorem Wf9 {j:Nat} {T:Addr} {f_bj0:Addr} {fd_bj0:FuncData} (F_bj0:FunT K "term_deep" "term_deep" (top 21) f_bj0 fd_bj0 T) (hB:∀ h,K.In h→h.BuiltinsAt mg T) (hT:mainGlobals≠T)
  (C_standing:Cl P w K mg base (j+2) "standing" pq27 (Zf7 K))
  {f_bk0:Addr}{fd_bk0:FuncData}(m_bk0:MgI mg "term_folded" f_bk0)(k_bk0:KpI K f_bk0)(b_bk0:Binds K fd_bk0 pq21 [])
  (GF:∀ (K':W.Frag) (base:Heap) (J:Hp→Prop) (R:RP) (p0:Pf) (f1:Addr) (fd1:FuncData),KLe K K'→(∀ H H',Same H H'→J H→J H')→(∀ H H' p v,KeepT K' H H'→R H p v→R H' p v) →
   FnOk P w K' mg base CX0 (j+1) f1 fd1 ["number","inner"] (Yi6 J R p0)→W.keepIn K' (.ref f1)=true→Binds K' fd1 ["number","inner"] []→FnOk P w K' mg base CX0 (j+2) f_bk0 fd_bk0 pq21 (Zr8 K' J R p0 f1)) (m_max:mg "max"=none) :
  Fk0 P w K mg base (j+3) f_bj0 fd_bj0 pq27 (Yu6 K T Ze9):=by
 refine F_bj0.ok sc_bj0 (fun vs H Q E h=>?_) (fun c A m s H vs Q E hC hr h=>?_)
 ·obtain⟨v,t,rfl,_⟩:=h
  rfl
 obtain⟨v,t,rfl,q9,hz,q0,q⟩:=h;have q7:∀ i∈([]:List Nat),∃ x,(["term","of_piece"]:List Str)[i]?=some x∧(Za5 (top 21)).names.lookup x=some .cell∧(fun _:Str=>true) x=true:=fun i M=>nomatch M
 refine⟨_,(Za3 (Zy7 (st:=Zb9) (i:=1) (qual:=Zf0) (ds:=Ze9) rfl sc_bj0.nd rfl (Or.inl rfl) (Zg2 (fun y hy hf=>Zm5 (Zo1 y hy hf))) rfl hC hB hT rfl (by simp[Ze9]) (by decide +kernel) rfl rfl rfl)
 (Za8 (Zb3 (Zs4 (ix:=[]) hr (by exact rfl) m_bk0 k_bk0 b_bk0 q7 (Za0 (Zc2 C_standing hr (Za0 (pvM 0) Za1)) (Za0 (pvM 1) Za1)))))),?_⟩
 generalize g:(cxOf CX0 P w K mg base ["term","of_piece"] "term_deep" (Za5 (top 21)) f_bj0 (.ref c) A m s H E).nox=X
 have eP:X.prog=P:=by rw[← g];rfl
 have ew:X.w=w:=by rw[← g];rfl
 have eK:X.K=K:=by rw[← g];rfl
 have em:X.mg=mg:=by rw[← g];rfl
 have ec:(PyProof.Rows.envOfC "term_deep" (Za5 (top 21)) s.heap.objs.size f_bj0 (.ref c)).cells=X.env.cells:=by rw[← g];rfl
 refine sqt (fun Y H'=>∃ f1,Y=[some v,some (.ref f1)]∧SameU T H H'∧TabOk H' T Ze9∧FnFz H' f1 "of_piece" Zf0 (Zd6 Zb9) (Zc7 Zb9) (Za5 Zb9) (Zj2 X.env.cells (Za5 Zb9).names [])) ?_ ?_
 ·intro C j0
  exact⟨q0,fun f H' n sm tb fn=>j0 _ _ ⟨f,rfl,sm,tb,ec▸fn⟩⟩
 rintro j3 H2 ⟨f1,rfl,s2,Z,j1⟩;obtain⟨I,N,G,O,a2,a3,a4⟩:=j1.objs2;show Zm8 X _ _ _ _ [] _ _ _ _;unfold Zm8;walk_at "1";refine⟨v,t,rfl,IsE.keep q9 (SameT.keepT s2.toT),hz,fun L S us o _ F q3=>⟨fun i M=>(nomatch M),[(f1,I),(N,G)],fun p a=>o _ _ (O p a),fun K' cs ok d b D q8=>?_⟩⟩;rw[eK] at d b;obtain⟨fd1,U⟩:=a4 K' fun p a=>D p (List.mem_append_left _ a)
 have j2:cs=[]:=by cases q8;rfl
 subst j2
 have C1:Caught K' (Za5 Zb9) (Zj2 X.env.cells (Za5 Zb9).names []) [] [] :=
  Zo2 ok rfl (by decide +kernel) (by decide +kernel) fun i y u e1 e2=>by cases i<;>cases e1
 have l:∀ p∈[(f1,I),(N,G)],S p.1=some (FZ p.2):=fun p a=>o _ _ (O p a);generalize [(f1,I),(N,G)]=xs at O l a2 a3 D b ⊢;have q2:=Yc0 l d
 have q1:L ∉ xs.map (·.1):=fun z=>by
  obtain⟨p,a,e⟩:=List.mem_map.mp z;have:=l p a;rw[e,F] at this;cases this
 refine⟨Zr8 K' (fun _=>True) (fun _ p v=>v=V.int (p.1.deep:Nat)) (t,0) f1,fun B=>?_,?_⟩
 ·rw[eP,ew,em]
  exact GF K' B _ _ (t,0) f1 fd1 d (fun _ _ _ _=>trivial) (fun H H' p v k h=>h) (Zn7 U C1 m_max) U.kp (U.binds fun _ _ _ _ us hl=>match us,hl with | [_,_],_=>rfl)
 ·have q6:SqL K' (remX xs S) L us:=.inl (.inl (by rw[Zd8 q1];exact F))
  have q4:Paired (IsPf K' (remX xs S)) us (preP (t,0)):=Paired.mapP q3 fun _ p z=>Dn.moveT q2 (Zs2 p) z;refine⟨L,us,rfl,trivial,q6,q4,hz,fun r H4 e4 q5 n4=>?_⟩;have sb:=Yj7 e4;rw[q5];exact q _ ((s2.toV.trans o.toV).trans sb.toV) ((Z.keep o).keep sb)
theorem sc_bn0:FnScope ["term","inner"] ["term"] (Za5 (top 30)):=scm (by decide +kernel)
theorem Wf6 {k:Nat} {T1 T2 T3:Addr} {f_bn0:Addr} {fd_bn0:FuncData} (F_bn0:Fun K "turned_itself" "turned_itself" (top 30) f_bn0 fd_bn0) (C_put:Cl P w K mg base k "put" ["term","other"] (Yu7 K T1 T2 T3 Zc1 Zd4 Zi8)):Fk0 P w K mg base (k+1) f_bn0 fd_bn0 pq27 (Zy3 K [(T1,Zc1),(T2,Zd4),(T3,Zi8)]):=by
 refine F_bn0.ok sc_bn0 (fun T H Q E h=>?_) (fun q4 A S s H T Q E D h=>?_)
 ·obtain⟨v,t,rfl,_⟩:=h
  rfl
 obtain⟨v,t,rfl,hT,ht,hz,R,O,u,q⟩:=h;have X:TabOk H T1 Zc1:=u (T1,Zc1) (by simp);have W:TabOk H T2 Zd4:=u (T2,Zd4) (by simp);have U:TabOk H T3 Zi8:=u (T3,Zi8) (by simp)
 have M:∀ {b o:Te} {vb vo:V},IsE K H vb b→IsE K H vo o→b.size≤20000→o.size≤20000→b.deep≤60→b.all Tm.ok→b.mp (Ken.putF o) 0=t.itself→Yu7 K T1 T2 T3 Zc1 Zd4 Zi8 [vb,vo] H Q E0:=fun {b o vb vo} f h2 h3 h4 h5 h6 h7 =>
  ⟨vb,b,vo,o,rfl,f,h2,h3,h4,h5,h6,X,W,U,fun r H' e k1 k2 k3 D=>q r H' e (fun x N=>by
   simp only[List.mem_cons,List.not_mem_nil,or_false] at N;rcases N with rfl | rfl | rfl
   ·exact k1
   ·exact k2
   ·exact k3) (h7▸D)⟩
 have l:∀ {b:Te},SubE b t→b.size≤20000∧b.deep≤60∧b.all Tm.ok:=fun s=>⟨Nat.le_trans (Nat.le_of_lt s.sz) hz,Nat.le_trans (Nat.le_of_lt s.dp) R,s.al O⟩;obtain⟨p,y,i,L,r,ry,rfl,f,n,F⟩:=Wb0 hT ht;have B:∀ {a b:Str},a≠b→¬ V.str a=V.str b:=fun h z=>h (V.str.inj z);have I:atI (.str i :: .ref y :: r) 0=some (.str i):=Zb7 (j:=0) rfl
 refine⟨_,(Za3 (pst 1 sc_bn0.nd (pxt (pvM 0) Za2))
 (Za3 (Zd2 (ptcM (Ze7) (pxt (pvM 0) Za2) Za9)
  (Za8 (Zb3 (pxt (pvM 1) Za2)))
  Zb4)
 (Za3 (Zd2 (ptcM (Ze7) (pxt (pvM 0) Za2) Za9)
  (Za8 (Zb3 (pxt (pvM 1) Za2)))
  Zb4)
 (Za3 (Zd2 (ptcM (Ze7) (pxt (pvM 0) Za2) Za9)
  (Za8 (Zb3 (Zc2 C_put D (Za0 (pxt (pvM 1) Za2) (Za0 (pxt (pvM 0) Za2) Za1)))))
  Zb4)
 (Za8 (Zb3 (Zc2 C_put D (Za0 (pxt (pvM 0) (Yf4 (ptcM (Ze7) (pxt (pvM 1) Za2) Za9) Za2 Za2)) (Za0 (pxt (pvM 1) Za2) Za1))))))))),?_⟩
 refine sqt (fun d J=>d=[some (.ref p),some (.ref y)]∧J=H) ?_ ?_
 ·intro C m
  walk_at "1";exact⟨_,f,_,Zb7 (j:=1) rfl,m _ _ ⟨rfl,rfl⟩⟩
 rintro q3 H1 ⟨rfl,rfl⟩;refine sqt (fun d J=>d=[some (.ref p),some (.ref y)]∧J=H1∧i≠"left") ?_ ?_
 ·intro C m
  walk_at "1";refine⟨_,f,_,I,rfl,?_⟩
  by_cases c:i="left"
  ·rw[if_pos (by rw[c])]
   cases F with
   | left g e _=>exact⟨_,n,_,rfl,q _ _ (Same.refl _).toV u (e▸g)⟩
   | _=>exact absurd c (by decide)
  ·rw[if_neg (B c)]
   exact m _ _ ⟨rfl,rfl,c⟩
 rintro q2 H2 ⟨rfl,rfl,n1⟩;refine sqt (fun d J=>d=[some (.ref p),some (.ref y)]∧J=H2∧i≠"right") ?_ ?_
 ·intro C m
  walk_at "1";refine⟨_,f,_,I,rfl,?_⟩
  by_cases c:i="right"
  ·rw[if_pos (by rw[c])]
   cases F with
   | right g e _=>exact⟨_,n,_,rfl,q _ _ (Same.refl _).toV u (e▸g)⟩
   | _=>exact absurd c (by decide)
  ·rw[if_neg (B c)]
   exact m _ _ ⟨rfl,rfl,c⟩
 rintro q1 H3 ⟨rfl,rfl,Z⟩;refine sqt (fun d J=>d=[some (.ref p),some (.ref y)]∧J=H3∧i≠"use") ?_ ?_
 ·intro C m
  walk_at "1";refine⟨_,f,_,I,rfl,?_⟩
  by_cases c:i="use"
  ·rw[if_pos (by rw[c])]
   cases F with
   | use d1 d2 d3 d4 d5=>exact⟨_,n,_,rfl,_,f,_,rfl,M d1 d2 (l d4).1 (l d5).1 (l d4).2.1 (l d4).2.2 d3.symm⟩
   | _=>exact absurd c (by decide)
  ·rw[if_neg (B c)]
   exact m _ _ ⟨rfl,rfl,c⟩
 rintro q0 H4 ⟨rfl,rfl,Y⟩
 cases F with
 | left=>exact absurd rfl n1
 | right=>exact absurd rfl Z
 | use=>exact absurd rfl Y
 | @cases L _ _ _ _ _ _ d1 d2 d3 d4 d5 _ =>
  walk_at "1";refine⟨_,n,_,Zb7 (j:=0) rfl,rfl,?_⟩;have G:=fun {vb:V} (h:IsE K H4 vb _)=>M h d2 (l d4).1 (l d5).1 (l d4).2.1 (l d4).2.2 d3.symm
  by_cases cf:L="first"
  ·rw[if_pos cf] at d1
   rw[if_pos (by rw[cf])];exact⟨_,f,_,rfl,_,n,_,Zb7 (j:=1) rfl,G d1⟩
  ·rw[if_neg cf] at d1
   rw[if_neg (B cf)];exact⟨_,f,_,rfl,_,n,_,Zb7 (j:=1) rfl,G d1⟩
theorem sc_bm0:FnScope ["term","number","pieces","places","of_piece","told"] ["term","number"] (Za5 (top 33)):=scm (by decide +kernel)
noncomputable abbrev Zc5:Stmt:=Xi6 (top 33) 3
theorem Zs1:FnScopeC ["place","inner","places","number","pieces"] ["place","inner"] ["places","number","pieces"] (Za5 Zc5):=⟨rfl,rfl,rfl,by decide +kernel,rfl,by decide +kernel,by decide +kernel,by decide +kernel⟩
noncomputable abbrev Zg1:Str:=("turned":Str)++Str.ofString ".<locals>."++"of_piece"
theorem Zt4:∀ y∈(Za5 Zc5).names,y.2=NameKind.free→(Za5 (top 33)).names.lookup y.1=some NameKind.cell:=by decide +kernel
noncomputable def Zl5:List (Pos×Str):=[(posOf Zc5,Zg1)]
theorem Zs5 {k:Nat} {cl:List (Str×Addr)} {f:Addr} {fd:FuncData} (F:FunC K "of_piece" Zg1 Zc5 cl f fd) {tb:TBs} {lp pl:Addr} {us:List V} {p0:Pf} {ms:List Nat} {i m:Nat} (hm:ms[i]?=some m) (hms:ms=idxT 0 (preP p0)) (hz:p0.1.size≤5000) (hdp:p0.1.deep≤60) (hok:p0.1.all Tm.ok)
  (C:Caught K (Za5 Zc5) cl ["places","number","pieces"] [.ref pl,.int (i:Nat),.ref lp]) (C_with_inner:Cl P w K mg base k "with_inner" pq20 (Zx7 K)) (C_turned_itself:Cl P w K mg base k "turned_itself" pq27 (Zy3 K tb)) :
  Fk0 P w K mg base (k+1) f fd ["place","inner"] (Yo6 tb (JPt K lp pl us p0 ms) (RTn K m) p0):=by
 refine F.ok Zs1 C (fun U H Q E h=>?_) (fun q0 A T s H U Q E O h=>?_)
 ·obtain⟨n,p,l,g,rfl,_⟩:=h
  rfl
 obtain⟨n,p,l,g,rfl,hj,v,d,Z,hU,q⟩:=h;obtain⟨M,L,Y⟩:=hj;have X:=Paired.length L;obtain⟨u,B⟩:∃ u,us[n]?=some u:=⟨_,List.getElem?_eq_getElem (by rw[X];exact (List.getElem?_eq_some_iff.mp d).1)⟩;obtain⟨p',y,N⟩:=paired_get L B;rw[d] at y;cases y;obtain⟨a,S⟩:=p;obtain⟨J,G,rfl,x,o⟩:=isPf.mp N
 refine⟨_,(Za3 (Zd2 (ptcM (Ze7) (pvM 0) (pxl (pvM 2) (pvM 3)))
  (Za8 (Zb3 (Zc2 C_turned_itself O (Za0 (pxt (pxl (pvM 4) (pvM 0)) Za2) Za1))))
  Zb4)
 (Za8 (Zb3 (Zc2 C_with_inner O (Za0 (pxt (pxl (pvM 4) (pvM 0)) Za2) (Za0 (pvM 1) Za1)))))),?_⟩
 walk_at "1";refine⟨_,Y,.int (m:Nat),Zb7 (by show (List.map _ ms)[i]?=_;rw[List.getElem?_map,hm];rfl),rfl,?_⟩
 by_cases c:n=m
 ·subst c
  rw[if_pos rfl];obtain⟨p2,_,R,h3⟩:=Yx3 (show n∈idxT 0 (preP p0) by rw[← hms];exact List.mem_of_getElem? hm);rw[Nat.sub_zero,d] at R;cases R;have I:=List.mem_of_getElem? d;have j:=Zu0 (t:=p0.1) (f:=p0.2) I;refine⟨_,M,_,Zb7 B,J,rfl,_,x,_,rfl,G,a,rfl,o,h3,by have:a.size≤p0.1.size:=j.1;omega,by have:a.deep≤p0.1.deep:=j.2;omega,Zm2 hok I,v,fun r D e W b=>q _ _ e W ?_⟩;show IsE K D r (a.tpm n n);rw[Yu1];exact b
 ·rw[if_neg (fun z=>c (by have:=V.int.inj z;omega))]
  refine⟨_,M,_,Zb7 B,J,rfl,_,x,_,rfl,G,a,l,g,(numP (n+1) (Zh6 (a,S))).map (fun k=>k.2.1.tpm m k.1),rfl,o,SqL.of Z,Zq7 (f:=fun (k:Nat×Pf)=>k.2.1.tpm m k.1) (fun _ _ z=>z) hU,by rw[List.length_map,Yw5,Zp1],fun r D e b=>q _ _ e.toV (v.keep e) ?_⟩;show IsE K D r (a.tpm m n);rw[Xn7 c (a,S)];exact b
noncomputable abbrev tb3 (T1 T2 T3:Addr):TBs:=[(T1,Zc1),(T2,Zd4),(T3,Zi8)]
noncomputable abbrev tb5 (T1 T2 T3 T4 T5:Addr):TBs:=[(T1,Zc1),(T2,Zd4),(T3,Zi8),(T4,Ze9),(T5,Zl5)]
theorem Xc0 (i:Nat) (h:i≤5000):(Str.ofString "there are ").length+(Str.ofString (toString ((i:Nat):Int))).length+(Str.ofString " turnings").length≤100:=by
 have c:(Str.ofString (toString ((i:Nat):Int))).length≤10:=W.KT.len_num (by omega) (Int.lt_of_le_of_lt (show ((i:Nat):Int)≤5000 by omega) (by decide))
 have b:(Str.ofString "there are ").length=10:=by decide +kernel
 have a:(Str.ofString " turnings").length=9:=by decide +kernel
 omega
theorem Xu9 (i:Nat) (h:i≤5000):((i:Nat):Int).natAbs.log2 < 1920:=by
 have:((i:Nat):Int).natAbs=i:=rfl;rw[this]
 by_cases h0:i=0
 ·subst h0;decide
 ·rw[Nat.log2_lt h0]
  exact Nat.lt_of_le_of_lt h (by decide)
theorem Wf7 {j:Nat} {T1 T2 T3 T4 T5:Addr} (hN:[T1,T2,T3,T4,T5].Nodup) {f_bm0:Addr} {fd_bm0:FuncData} (F_bm0:FunT K "turned" "turned" (top 33) f_bm0 fd_bm0 T5) (hB:∀ h,K.In h→h.BuiltinsAt mg T5) (hT:mainGlobals≠T5)
  {aNoTurning aLarge:Addr} (m_ad0:MgI mg "NoTurning" aNoTurning) (x_NoTurning:XCls K aNoTurning) (m_Large:MgI mg "Large" aLarge) (x_Large:XCls K aLarge) {k1 k2:Tok} (m_ac0:mg "MOST_PARTS"=some (.int 1000 k1)) (m_ab0:mg "MOST_DEEP"=some (.int 120 k2))
  (C_standing:Cl P w K mg base (j+2) "standing" pq27 (Zf7 K))
  (C_turning_places:Cl P w K mg base (j+2) "turning_places" ["pieces"] (Zo3 K))
  (C_term_parts:Cl P w K mg base (j+2) "term_parts" pq27 (Yi5 K))
  (C_term_deep:Cl P w K mg base (j+2) "term_deep" pq27 (Yu6 K T4 Ze9))
  {f_br0:Addr}{fd_br0:FuncData}(G_br0:∀ K' base,KLe K K'→FnOk P w K' mg base CX0 j f_br0 fd_br0 pq20 (Zx7 K'))(m_br0:MgI mg "with_inner" f_br0)(k_br0:∀ K',KLe K K'→W.keepIn K' (.ref f_br0)=true)(b_br0:Binds K fd_br0 pq20 [])
  {f_bn0:Addr}{fd_bn0:FuncData}(G_bn0:∀ K' base,KLe K K'→FnOk P w K' mg base CX0 j f_bn0 fd_bn0 pq27 (Zy3 K' (tb3 T1 T2 T3)))(m_bn0:MgI mg "turned_itself" f_bn0)(k_bn0:∀ K',KLe K K'→W.keepIn K' (.ref f_bn0)=true)(b_bn0:Binds K fd_bn0 pq27 [])
  {f_bk0:Addr}{fd_bk0:FuncData}(m_bk0:MgI mg "term_folded" f_bk0)(k_bk0:KpI K f_bk0)(b_bk0:Binds K fd_bk0 pq21 [])
  (GF:∀ (K':W.Frag) (base:Heap) (tb:TBs) (J:Hp→Prop) (R:RPn) (p0:Pf) (f1:Addr) (fd1:FuncData),KLe K K'→(∀ H H',SameV (tb.map (·.1)) H H'→J H→J H')→(∀ H H' n p v,KeepT K' H H'→R H n p v→R H' n p v) →
   FnOk P w K' mg base CX0 (j+1) f1 fd1 ["place","inner"] (Yo6 tb J R p0)→W.keepIn K' (.ref f1)=true→Binds K' fd1 ["place","inner"] []→FnOk P w K' mg base CX0 (j+2) f_bk0 fd_bk0 pq21 (Zx9 K' tb J R p0 f1)) (m_len:mg "len"=none) :
  FnOk P w K mg base (CXe P w) (j+3) f_bm0 fd_bm0 pq24 (Zn0 K (tb5 T1 T2 T3 T4 T5) aNoTurning aLarge):=by
 refine F_bm0.okX sc_bm0 (fun vs H Q E h=>?_) (fun c A q9 s H vs Q E hC hr h=>?_)
 ·obtain⟨v,t,i,rfl,_⟩:=h
  rfl
 obtain⟨v,t,i,rfl,v9,hz,v4,y8,q6,q4,qe,q⟩:=h
 have v0:∀ i∈([1,2,3]:List Nat),∃ x,(["term","number","pieces","places","of_piece","told"]:List Str)[i]?=some x∧(Za5 (top 33)).names.lookup x=some .cell∧(fun _:Str=>true) x=true:=by
  intro i hi;simp only[List.mem_cons,List.not_mem_nil,or_false] at hi;rcases hi with rfl | rfl | rfl
  ·exact⟨"number",rfl,rfl,rfl⟩
  ·exact⟨"pieces",rfl,rfl,rfl⟩
  ·exact⟨"places",rfl,rfl,rfl⟩
 refine⟨_,(Za3 (Zv0 (i:=2) sc_bm0.nd rfl (Or.inr rfl) (Zc2 C_standing hr (Za0 (pvM 0) Za1)))
 (Za3 (Zv0 (i:=3) sc_bm0.nd rfl (Or.inr rfl) (Zc2 C_turning_places hr (Za0 (pvM 2) Za1)))
 (Za3 (Zd2 (Zk8 (Xp2 (Xs7) (Yk6) Za2 (pvM 1) (Zd1 Zc9 (by exact rfl) m_len Zf4 (Za0 (pvM 3) Za1))))
  (Za8 (Yv4 Yt5 rfl (by exact rfl) m_ad0 x_NoTurning (Za0 (Xw7 (Xs3 (Xw4 (Zd1 Zc9 (by exact rfl) m_len Zf4 (Za0 (pvM 3) Za1)) (Xs3 We0)))) Za1)))
  Zb4)
 (Za3 (Zy7 (st:=Zc5) (i:=4) (qual:=Zg1) (ds:=Zl5) rfl sc_bm0.nd rfl (Or.inl rfl) (Zg2 (fun y hy hf=>Zm5 (Zt4 y hy hf))) rfl hC hB hT rfl (by simp[Zl5]) (by decide +kernel) rfl rfl rfl)
 (Za3 (pst 5 sc_bm0.nd (Zs4 (ix:=[1,2,3]) hr (by exact rfl) m_bk0 k_bk0 b_bk0 v0 (Za0 (pvM 2) (Za0 (pvM 4) Za1))))
 (Za3 (Zd2 ((Yk3 (ptcM (Yk7) (Zc2 C_term_parts hr (Za0 (pvM 5) Za1)) (Zh9 (v:=.int 1000) (by exact rfl) m_ac0 ⟨_,rfl⟩)) (Yk2 (ptcM (Yk7) (Zc2 C_term_deep hr (Za0 (pvM 5) Za1)) (Zh9 (v:=.int 120) (by exact rfl) m_ab0 ⟨_,rfl⟩))))).pt
  (Za8 (Yv4 Yt5 rfl (by exact rfl) m_Large x_Large (Za0 Za9 Za1)))
  Zb4)
 (Za8 (Zb3 (pvM 5))))))))),?_⟩
 generalize hX:cxOf (CXe P w) P w K mg base ["term","number","pieces","places","of_piece","told"] "turned" (Za5 (top 33)) f_bm0 (.ref c) A q9 s H E=X
 have eP:X.prog=P:=by rw[← hX];rfl
 have ew:X.w=w:=by rw[← hX];rfl
 have eK:X.K=K:=by rw[← hX];rfl
 have em:X.mg=mg:=by rw[← hX];rfl
 have eN:X.N=(["term","number","pieces","places","of_piece","told"]:List Str):=by rw[← hX];rfl
 have ec:(PyProof.Rows.envOfC "turned" (Za5 (top 33)) s.heap.objs.size f_bm0 (.ref c)).cells=X.env.cells:=by rw[← hX];rfl
 refine sqt (fun a H'=>∃ o us,a=[some v,some (.int i),some (.ref o),none,none,none]∧Same H H'∧H' o=some (.lst us)∧Paired (IsPf K H') us (t.pre 0)) ?_ ?_
 ·intro C g
  walk_at "1";exact⟨v,t,rfl,v9,by omega,fun r H' us e _ h hu=>g _ _ ⟨r,us,rfl,e,h,hu⟩⟩
 rintro σ1 H1 ⟨o,us,rfl,I,z4,z1⟩;refine Ye8 (fun a H'=>∃ D,a=[some v,some (.int i),some (.ref o),some (.ref D),none,none]∧Same H1 H'∧H' D=some (.lst (natW (idxT 0 (t.pre 0))))) ?_ ?_
 rotate_left
 ·intro C g
  walk_at "1";exact⟨o,us,t.pre 0,rfl,z4,z1,by rw[Ze8];omega,fun r H' e _ h=>g _ _ ⟨r,rfl,e,h⟩⟩
 rintro σ2 H2 ⟨D,rfl,G,q8⟩;have q5:=I.trans G;have q7:(idxT 0 (t.pre 0)).length≤5000:=Nat.le_trans Zw8 (by rw[Ze8];omega);generalize y9:idxT 0 (t.pre 0)=ms at q8 q4 qe q q7;refine sqt (fun a H'=>a=[some v,some (.int i),some (.ref o),some (.ref D),none,none]∧H'=H2∧0≤i∧i < (ms.length:Nat)) ?_ ?_
 ·intro C g
  walk_at "1"
  have z8:¬ (0≤i∧i < (ms.length:Nat))→∀ L:List V,L=natW ms→(Str.empty++Str.ofString "there are ").length≤sizeLine∧((L.length:Nat):Int).natAbs.log2 < 1920∧(Str.empty++Str.ofString "there are "++Str.ofString (toString ((L.length:Nat):Int))).length≤sizeLine∧(Str.empty++Str.ofString "there are "++Str.ofString (toString ((L.length:Nat):Int))++Str.ofString " turnings").length≤sizeLine∧1≤sizeLine∧∀ (e:Addr) (H':Hp),Xtd H2 e (Value.ref aNoTurning) none H'→E (Value.ref e) none H':=fun O L ey=>by
   have hy:L.length≤5000:=by rw[ey,List.length_map];exact q7
   have h1:=Xc0 _ hy;have h2:=Xu9 _ hy
   have h3:(Str.empty++Str.ofString "there are ").length≤100:=by rw[Str.length_append];show 0+_≤_;omega
   have h4:(Str.empty++Str.ofString "there are "++Str.ofString (toString ((L.length:Nat):Int))).length≤100:=by rw[Str.length_append,Str.length_append];show 0+_+_≤_;omega
   have h5:(Str.empty++Str.ofString "there are "++Str.ofString (toString ((L.length:Nat):Int))++Str.ofString " turnings").length≤100:=by rw[Str.length_append,Str.length_append,Str.length_append];show 0+_+_+_≤_;omega
   exact⟨Nat.le_of_lt (Zi5 (by omega)),h2,Nat.le_of_lt (Zi5 (by omega)),Nat.le_of_lt (Zi5 (by omega)),by decide,fun e H' x=>qe O e H2 H' q5.toV (q6.keep q5) x⟩
  have sq:SqL X.K H2 D (natW ms):=SqL.of q8
  by_cases c0:0≤i
  ·rw[if_pos c0]
   refine⟨natW ms,.inl sq,?_⟩;rw[List.length_map]
   by_cases U:i < (ms.length:Nat)
   ·rw[decide_eq_true U,if_neg (by decide)]
    exact g _ _ ⟨rfl,rfl,c0,U⟩
   ·rw[decide_eq_false U,if_pos (by rfl)]
    obtain⟨b1,b2,b3,b4,b5,b6⟩:=z8 (fun z=>U z.2) _ rfl;exact⟨b1,natW ms,.inl sq,b2,b3,b4,b4,b5,b6⟩
  ·rw[if_neg c0,if_pos (by rfl)]
   obtain⟨b1,b2,b3,b4,b5,b6⟩:=z8 (fun z=>c0 z.1) _ rfl;exact⟨b1,natW ms,.inl sq,b2,b3,b4,b4,b5,b6⟩
 rintro σ3 H3 ⟨rfl,rfl,i0,i1⟩;obtain⟨ix,rfl⟩:=Int.eq_ofNat_of_zero_le i0;obtain⟨m,hm⟩:∃ m,ms[ix]?=some m:=⟨_,List.getElem?_eq_getElem (by omega)⟩;obtain⟨q1,q2⟩:=q ix m rfl hm;have z2:=List.mem_of_getElem? hm;have M:∀ {T:Addr} {d:List (Pos×Str)},(T,d)∈tb5 T1 T2 T3 T4 T5→TabOk H3 T d:=fun h=>(q6 _ h).keep q5;have y4:TabOk H3 T1 Zc1:=M (by simp);have y3:TabOk H3 T2 Zd4:=M (by simp);have y2:TabOk H3 T3 Zi8:=M (by simp);have y1:TabOk H3 T4 Ze9:=M (by simp);have y0:TabOk H3 T5 Zl5:=M (by simp);simp only[List.nodup_cons,List.mem_cons,List.not_mem_nil,or_false,not_or] at hN;obtain⟨⟨n12,n13,j8,j7⟩,⟨n23,j6,j5⟩,⟨j4,j3⟩,j2,_⟩:=hN;refine sqt (fun a H'=>∃ f1,a=[some v,some (.int (ix:Nat)),some (.ref o),some (.ref D),some (.ref f1),none]∧SameU T5 H3 H'∧TabOk H' T5 Zl5∧FnFz H' f1 "of_piece" Zg1 (Zd6 Zc5) (Zc7 Zc5) (Za5 Zc5) (Zj2 X.env.cells (Za5 Zc5).names [])) ?_ ?_
 ·intro C g
  exact⟨y0,fun f H' n sm tb fn=>g _ _ ⟨f,rfl,sm,tb,ec▸fn⟩⟩
 rintro σ4 H4 ⟨f1,rfl,s4,z9,fn1⟩;have u1:TabOk H4 T1 Zc1:=s4.toV.tab (by simpa using j7) y4;have u2:TabOk H4 T2 Zd4:=s4.toV.tab (by simpa using j5) y3;have u3:TabOk H4 T3 Zi8:=s4.toV.tab (by simpa using j3) y2;have u4:TabOk H4 T4 Ze9:=s4.toV.tab (by simpa using j2) y1;refine sqt (fun a H'=>∃ r,a=[some v,some (.int (ix:Nat)),some (.ref o),some (.ref D),some (.ref f1),some r]∧SameV ((tb5 T1 T2 T3 T4 T5).map (·.1)) H H'∧Tabs H' (tb5 T1 T2 T3 T4 T5)∧IsE K H' r (t.tpm m 0)) ?_ ?_
 ·intro C g
  obtain⟨o1,U,p1,a1,a2,a3,a4⟩:=fn1.objs2;show Zm8 X _ _ _ _ [1,2,3] _ _ _ _;unfold Zm8;walk_at "1";refine⟨fun i hi=>?_,[(f1,o1),(U,p1)],a1,fun K' cs ok B S q3 v8=>?_⟩
  ·simp only[List.mem_cons,List.not_mem_nil,or_false] at hi
   rcases hi with rfl | rfl | rfl
   ·exact⟨_,rfl⟩
   ·exact⟨_,rfl⟩
   ·exact⟨_,rfl⟩
  rw[eK] at B S;obtain⟨fd1,G1⟩:=a4 K' fun p F=>q3 p (List.mem_append_left _ F)
  have cw:Zv6 X K' "number" (.int (ix:Nat))∧Zv6 X K' "pieces" (.ref o)∧Zv6 X K' "places" (.ref D)∧∀ p∈cs,∀ j9 n,p.2.data≠.seq j9 n:=by
   cases v8 with
   | cons h1 r1 =>
    cases r1 with
    | cons h2 r2 =>
     cases r2 with
     | cons h3 r3 =>
      cases r3;obtain⟨x1,v1,u1,I,G,e3,e4,e5⟩:=h1;obtain⟨x2,v2,u2,g1,g2,g3,g4,g5⟩:=h2;obtain⟨x3,v3,u3,f1,f2,f3,f4,f5⟩:=h3;rw[eN] at I g1 f1;cases I;cases G;cases g1;cases g2;cases f1;cases f2;refine⟨⟨_,_,u1,e3,q3 _ (List.mem_append_right _ (by simp)),e4,e5⟩,⟨_,_,u2,g3,q3 _ (List.mem_append_right _ (by simp)),g4,g5⟩,⟨_,_,u3,f3,q3 _ (List.mem_append_right _ (by simp)),f4,f5⟩,fun p F j9 n z=>?_⟩;simp only[List.mem_cons,List.not_mem_nil,or_false] at F;rcases F with rfl | rfl | rfl
      ·rw[e4] at z;cases z
      ·rw[g4] at z;cases z
      ·rw[f4] at z;cases z
  have C1:Caught K' (Za5 Zc5) (Zj2 X.env.cells (Za5 Zc5).names []) ["places","number","pieces"] [.ref D,.int (ix:Nat),.ref o] :=
   Zo2 ok rfl (by decide +kernel) (by decide +kernel) fun i y u I G=>by
    match i,I,G with
    | 0,I,G=>cases I;cases G;exact cw.2.2.1
    | 1,I,G=>cases I;cases G;exact cw.1
    | 2,I,G=>cases I;cases G;exact cw.2.1
  have x1:=a3 Zc1 (by decide +kernel);have x2:=a3 Zd4 (by decide +kernel);have x3:=a3 Zi8 (by decide +kernel);generalize [(f1,o1),(U,p1)]=xs at a1 a2 x1 x2 x3 q3 S ⊢;have y5:=Yc0 a1 B;have z7:SameT H1 H4:=G.toT.trans s4.toT;have z6:H4 o=some (.lst us):=z7 _ _ (fun _ z=>nomatch z) z4;have z5:H4 D=some (.lst (natW ms)):=s4.toT _ _ (fun _ z=>nomatch z) q8
  have j1:∀ {l:Addr} {L:List V},H4 l=some (.lst L)→l ∉ xs.map (·.1):=fun {l L} h z=>by
   obtain⟨p,F,e⟩:=List.mem_map.mp z;have:=a1 p F;rw[e,h] at this;cases this
  refine⟨Zx9 K' (tb3 T1 T2 T3) (JPt K' o D us (t,0) ms) (RTn K' m) (t,0) f1,fun Y=>?_,?_⟩
  ·rw[eP,ew,em]
   exact GF K' Y _ _ _ (t,0) f1 fd1 B Xq2 (fun H H' n p v k h=>IsE.keep h k)
    (Zs5 G1 hm y9.symm hz v4 y8 C1 (.of (G_br0 K' Y B) m_br0 (k_br0 K' B) (b_br0.le B)) (.of (G_bn0 K' Y B) m_bn0 (k_bn0 K' B) (b_bn0.le B))) G1.kp (G1.binds fun _ _ _ _ us hl=>match us,hl with | [_,_],_=>rfl)
  ·have z3:SqL K' (remX xs H4) o us:=.inl (.inl (by rw[Zd8 (j1 z6)];exact z6))
   have y7:SqL K' (remX xs H4) D (natW ms):=.inl (.inl (by rw[Zd8 (j1 z5)];exact z5));have z0:Paired (IsPf K' (remX xs H4)) us (preP (t,0)):=Paired.mapP z1 fun _ p z=>Dn.moveT y5 (Zs2 p) (IsPf.keep z (SameT.keepT z7));refine⟨o,us,rfl,⟨z3,z0,y7⟩,?_,z3,z0,by show t.size≤20000;omega,fun r H5 e5 t5 q0 n5=>?_⟩
   ·intro x hx
    simp only[List.mem_cons,List.not_mem_nil,or_false] at hx;rcases hx with rfl | rfl | rfl
    ·exact u1.rem a1 x1
    ·exact u2.rem a1 x2
    ·exact u3.rem a1 x3
   have sb:=e5.back
   refine g _ _ ⟨r,rfl,((q5.toV.trans (s4.toV.mono (by simp))).trans (sb.mono (by
    intro b O;simp only[List.map_cons,List.map_nil,List.mem_cons,List.not_mem_nil,or_false] at O ⊢;rcases O with O | O | O
    ·exact .inl O
    ·exact .inr (.inl O)
    ·exact .inr (.inr (.inl O))))),?_,Dn.moveT (Ye0 S (fun p F=>?_) n5) (Te.noList _) q0⟩
   ·intro x hx
    simp only[List.mem_cons,List.not_mem_nil,or_false] at hx;rcases hx with rfl | rfl | rfl | rfl | rfl
    ·exact (t5 _ (by simp)).back n5
    ·exact (t5 _ (by simp)).back n5
    ·exact (t5 _ (by simp)).back n5
    ·exact sb.tab (by simp only[List.map_cons,List.map_nil,List.mem_cons,List.not_mem_nil,or_false,not_or];exact⟨fun z=>j8 z.symm,fun z=>j6 z.symm,fun z=>j4 z.symm⟩) u4
    ·exact sb.tab (by simp only[List.map_cons,List.map_nil,List.mem_cons,List.not_mem_nil,or_false,not_or];exact⟨fun z=>j7 z.symm,fun z=>j5 z.symm,fun z=>j3 z.symm⟩) z9
   ·rcases List.mem_append.mp F with F | F
    ·exact a2 p F
    ·exact cw.2.2.2 p F
 rintro σ5 H5 ⟨r,rfl,v5,t5,q0⟩;refine sqt (fun a H'=>a=[some v,some (.int (ix:Nat)),some (.ref o),some (.ref D),some (.ref f1),some r]∧SameV ((tb5 T1 T2 T3 T4 T5).map (·.1)) H H'∧Tabs H' (tb5 T1 T2 T3 T4 T5)∧IsE K H' r (t.tpm m 0)∧(t.tpm m 0).size≤1000∧(t.tpm m 0).deep≤120) ?_ ?_
 ·intro C g
  walk_at "1";refine⟨r,_,rfl,q0,q4 m z2,fun H6 e6=>⟨_,rfl,?_⟩⟩;have v6:=v5.trans e6.toV;have Z:=t5.keep e6;refine ite2 (fun U=>?_) (fun U=>?_)
  ·rw[if_pos trivial]
   exact⟨by decide,fun e H' x=>q2 (fun z=>by have:=z.1;omega) e _ H' v6 Z x⟩
  ·refine⟨r,_,rfl,IsE.keep q0 e6.keepT,q4 m z2,Z (T4,Ze9) (by simp),fun H7 e7 t7=>⟨_,rfl,?_⟩⟩
   have v7:=v6.trans (e7.mono (by simp))
   have j0:Tabs H7 (tb5 T1 T2 T3 T4 T5):=by
    intro x hx;simp only[List.mem_cons,List.not_mem_nil,or_false] at hx;rcases hx with rfl | rfl | rfl | rfl | rfl
    ·exact e7.tab (by simpa using j8) (Z (T1,Zc1) (by simp))
    ·exact e7.tab (by simpa using j6) (Z (T2,Zd4) (by simp))
    ·exact e7.tab (by simpa using j4) (Z (T3,Zi8) (by simp))
    ·exact t7
    ·exact e7.tab (by simpa using fun z=>j2 z.symm) (Z (T5,Zl5) (by simp))
   refine ite2 (fun c2=>⟨by decide,fun e H' x=>q2 (fun z=>by have:=z.2;omega) e _ H' v7 j0 x⟩) (fun c2=>g _ _ ⟨rfl,v7,j0,IsE.keep q0 (e6.keepT.trans (SameT.keepT e7.toT)),by omega,by omega⟩)
 rintro σ6 H6 ⟨rfl,v6,Z,y6,g1,g2⟩;walk_at "1";exact q1 ⟨g1,g2⟩ _ _ v6 Z y6
theorem Wc9:FnScope ["_law_term"] ["_law_term"] (Za5 (top 54)):=scm (by decide +kernel)
theorem Xi5 (a b c:Str):inV (.str a) [.str b,.str c]=(decide (a=b)||decide (a=c)):=by
 show (eqV (.str b) (.str a)||(eqV (.str c) (.str a)||false))=_;rw[Bool.or_false]
 congr 1
 ·exact decide_eq_decide.mpr eq_comm
 ·exact decide_eq_decide.mpr eq_comm
theorem Wi2 {k:Nat} {f_ag0:Addr} {fd_ag0:FuncData} (F_ag0:Fun K "_law_can_turn" "_law_can_turn" (top 54) f_ag0 fd_ag0):Fk0 P w K mg base (k+1) f_ag0 fd_ag0 pq18 (Yo7 K):=by
 refine F_ag0.ok Wc9 (fun vs H Q E h=>?_) (fun q4 A q0 s H vs Q E hr h=>?_)
 ·obtain⟨v,t,rfl,_⟩:=h
  rfl
 obtain⟨v,t,rfl,O,q⟩:=h
 have o:∀ {x:V} {a:Te},IsE K H x a→∃ p n,x=.ref p∧SqT K H p n∧atI n 0=some (.str a.tag):=fun {x a} h=>by
  obtain⟨p,n,e,d,m⟩:=isE_view.mp h;exact⟨p,n,e,d,Zb7 (Zj8 m)⟩
 have G:∃ (p:Addr) (f:Str) (r:List V),v=.ref p∧SqT K H p (.str f :: r)∧(((f="left"∨f="right")∧∃ x g a,r=x :: g∧IsE K H x a∧t.turns=decide (a.tag="pair"))∨(f="use"∧∃ x g a,r=x :: g∧IsE K H x a∧t.turns=decide (a.tag="fun")) ∨
   (f="cases"∧∃ x g a,r=x :: g∧IsE K H x a∧t.turns=(decide (a.tag="first")||decide (a.tag="second")))∨(f≠"left"∧f≠"right"∧f≠"use"∧f≠"cases"∧t.turns=false)):=by
  clear q
  cases t with
  | «at» k0 =>
   obtain⟨p,rfl,d⟩:=isE_atV.mp O;exact⟨p,_,_,rfl,d,.inr (.inr (.inr ⟨by decide,by decide,by decide,by decide,rfl⟩))⟩
  | one u a ss =>
   obtain⟨p,x,Z,rfl,d,m,_⟩:=isE_oneV.mp O
   cases u with
   | left=>exact⟨p,_,_,rfl,d,.inl ⟨.inl rfl,x,Z,a,rfl,m,(by cases a with | two u2 _ _=>cases u2<;>rfl | one u1 _ _=>cases u1<;>rfl | _=>rfl)⟩⟩
   | right=>exact⟨p,_,_,rfl,d,.inl ⟨.inr rfl,x,Z,a,rfl,m,(by cases a with | two u2 _ _=>cases u2<;>rfl | one u1 _ _=>cases u1<;>rfl | _=>rfl)⟩⟩
   | first=>exact⟨p,_,_,rfl,d,.inr (.inr (.inr ⟨by decide,by decide,by decide,by decide,rfl⟩))⟩
   | second=>exact⟨p,_,_,rfl,d,.inr (.inr (.inr ⟨by decide,by decide,by decide,by decide,rfl⟩))⟩
   | off=>exact⟨p,_,_,rfl,d,.inr (.inr (.inr ⟨by decide,by decide,by decide,by decide,rfl⟩))⟩
  | two u a b =>
   obtain⟨p,x,y,rfl,d,m,_⟩:=isE_twoV.mp O
   cases u with
   | pair=>exact⟨p,_,_,rfl,d,.inr (.inr (.inr ⟨by decide,by decide,by decide,by decide,rfl⟩))⟩
   | use=>exact⟨p,_,_,rfl,d,.inr (.inl ⟨rfl,x,_,a,rfl,m,(by cases a with | two u2 _ _=>cases u2<;>rfl | one u1 _ _=>cases u1<;>rfl | _=>rfl)⟩)⟩
  | fn st a =>
   obtain⟨p,x,y,rfl,d,_⟩:=isE_fnV.mp O;exact⟨p,_,_,rfl,d,.inr (.inr (.inr ⟨by decide,by decide,by decide,by decide,rfl⟩))⟩
  | cs a b c =>
   obtain⟨p,x,y,z,rfl,d,m,_⟩:=isE_csV.mp O;exact⟨p,_,_,rfl,d,.inr (.inr (.inl ⟨rfl,x,_,a,rfl,m,(by cases a with | two u2 _ _=>cases u2<;>rfl | one u1 _ _=>cases u1<;>rfl | _=>rfl)⟩))⟩
 obtain⟨p,f,r,rfl,d,G⟩:=G;have X:atI (V.str f :: r) 0=some (.str f):=Zb7 (j:=0) rfl
 refine⟨_,(Za3 (Zd2 (Zo8 (Zl1) (pxt (pvM 0) Za2) (Zb5 (Za0 Za9 (Za0 Za9 Za1))) (by with_unfolding_all rfl))
  (Za8 (Zb3 (Zi0 (Ze7) (pxt (pxt (pvM 0) Za2) Za2) Za9 (Zl2 _))))
  Zb4)
 (Za3 (Zd2 (ptcM (Ze7) (pxt (pvM 0) Za2) Za9)
  (Za8 (Zb3 (Zi0 (Ze7) (pxt (pxt (pvM 0) Za2) Za2) Za9 (Zl2 _))))
  Zb4)
 (Za8 (Zb3 (Yv8 (Zi0 (Ze7) (pxt (pvM 0) Za2) Za9 (Zl2 _)) (Xf3 (Zi0 (Zl1) (pxt (pxt (pvM 0) Za2) Za2) (Zb5 (Za0 Za9 (Za0 Za9 Za1))) (by with_unfolding_all rfl)))))))),?_⟩
 refine sqt (fun I Y=>I=[some (.ref p)]∧Same H Y∧¬ (f="left"∨f="right")) ?_ ?_
 ·intro C W
  walk_at "1";refine⟨_,d,_,X,by decide,?_⟩;intro T D;generalize i:upd H T (.tup [.str "left",.str "right"])=J1;have F:=nw1 D i;have S:=nw2 (K:=K) i;refine⟨_,.inr S,rfl,rfl,?_⟩;rw[if_neg Bool.false_ne_true,Xi5]
  by_cases c:f="left"∨f="right"
  ·rw[if_pos (by simpa using c)]
   obtain⟨x,g,a,rfl,M,B⟩:∃ x g a,r=x :: g∧IsE K H x a∧t.turns=decide (a.tag="pair"):=by
    rcases G with ⟨_,h⟩ | ⟨z,_⟩ | ⟨z,_⟩ | ⟨z1,z2,_⟩
    ·exact h
    ·rcases c with c | c<;>exact absurd (c.symm.trans z) (by decide)
    ·rcases c with c | c<;>exact absurd (c.symm.trans z) (by decide)
    ·rcases c with c | c
     ·exact absurd c z1
     ·exact absurd c z2
   obtain⟨J,n,rfl,N,L⟩:=o M;refine⟨_,F.sqt d,_,Zb7 (j:=1) rfl,J,rfl,_,F.sqt N,_,L,rfl,?_⟩;rw[show decide (V.str a.tag=V.str (Str.ofString "pair"))=t.turns from by rw[B];exact decide_eq_decide.mpr ⟨fun z=>V.str.inj z,fun z=>by rw[z]⟩];exact q _ F
  ·rw[if_neg (by simpa using c)]
   exact W _ _ ⟨rfl,F,c⟩
 rintro q3 H1 ⟨rfl,l,U⟩;refine sqt (fun I Y=>I=[some (.ref p)]∧Y=H1∧f≠"use") ?_ ?_
 ·intro C W
  walk_at "1";refine⟨_,l.sqt d,_,X,rfl,?_⟩
  by_cases c:f="use"
  ·rw[if_pos (by rw[c])]
   obtain⟨x,g,a,rfl,M,B⟩:∃ x g a,r=x :: g∧IsE K H x a∧t.turns=decide (a.tag="fun"):=by
    rcases G with ⟨z,_⟩ | ⟨_,h⟩ | ⟨z,_⟩ | ⟨_,_,z,_⟩
    ·exact absurd z U
    ·exact h
    ·exact absurd (c.symm.trans z) (by decide)
    ·exact absurd c z
   obtain⟨J,n,rfl,N,L⟩:=o M;refine⟨_,l.sqt d,_,Zb7 (j:=1) rfl,J,rfl,_,l.sqt N,_,L,rfl,?_⟩;rw[show decide (V.str a.tag=V.str (Str.ofString "fun"))=t.turns from by rw[B];exact decide_eq_decide.mpr ⟨fun z=>V.str.inj z,fun z=>by rw[z]⟩];exact q _ l
  ·rw[if_neg (fun z=>c (V.str.inj z))]
   exact W _ _ ⟨rfl,rfl,c⟩
 rintro q2 H2 ⟨rfl,rfl,R⟩;walk_at "1";refine⟨_,l.sqt d,_,X,rfl,?_⟩
 by_cases c:f="cases"
 ·rw[if_pos (by rw[c])]
  obtain⟨x,g,a,rfl,M,B⟩:∃ x g a,r=x :: g∧IsE K H x a∧t.turns=(decide (a.tag="first")||decide (a.tag="second")):=by
   rcases G with ⟨z,_⟩ | ⟨z,_⟩ | ⟨_,h⟩ | ⟨_,_,_,z,_⟩
   ·exact absurd z U
   ·exact absurd z R
   ·exact h
   ·exact absurd c z
  obtain⟨J,n,rfl,N,L⟩:=o M;refine⟨_,l.sqt d,_,Zb7 (j:=1) rfl,J,rfl,_,l.sqt N,_,L,by decide,?_⟩;intro T D;generalize i:upd H2 T (.tup [.str "first",.str "second"])=J1;have F:=nw1 D i;have S:=nw2 (K:=K) i;refine⟨_,.inr S,rfl,rfl,?_⟩;rw[if_neg Bool.false_ne_true,Xi5,← B];exact q _ (l.trans F)
 ·rw[if_neg (fun z=>c (V.str.inj z))]
  have B:t.turns=false:=by
   rcases G with ⟨z,_⟩ | ⟨z,_⟩ | ⟨z,_⟩ | ⟨_,_,_,_,h⟩
   ·exact absurd z U
   ·exact absurd z R
   ·exact absurd z c
   ·exact h
  rw[← B];exact q _ l
theorem sc_at0:FnScope ["_law_term","_law_path","_law_found","_law_k","_law_front"] ["_law_term","_law_path"] (Za5 (top 55)):=scm (by decide +kernel)
theorem Wh2 {k n:Nat} {f_at0:Addr} {fd_at0:FuncData} (F_at0:Fun K "_law_paths" "_law_paths" (top 55) f_at0 fd_at0) (G_at0:Fk0 P w K mg base k f_at0 fd_at0 pq17 (Zn1 K n)) (m_at0:MgI mg "_law_paths" f_at0) (k_at0:KpI K f_at0) (b_at0:Binds K fd_at0 pq17 []) (C__law_inner_of:Cl P w K mg base k "_law_inner_of" pq18 (Zh1 K)) (C__law_can_turn:Cl P w K mg base k "_law_can_turn" pq18 (Yo7 K)):Fk0 P w K mg base (k+1) f_at0 fd_at0 pq17 (Zn1 K (n+1)):=by
 refine F_at0.ok sc_at0 (fun O H Q E h=>?_) (fun z0 A j4 s H O Q E hr h=>?_)
 ·obtain⟨v,t,l,π,rfl,_⟩:=h
  rfl
 obtain⟨v,t,l,π,rfl,hT,U,hd,hz,j9,q⟩:=h;obtain⟨T,ys,rfl,q6,j2⟩:=isE_view.mp hT;have pl:=Yk4 (t:=t) (π:=π)
 refine⟨_,(Za3 (pst 2 sc_at0.nd (Ze1 Za1))
 (Za3 (Zd2 (Zj7 (Zc2 C__law_can_turn hr (Za0 (pvM 0) Za1)))
  (Za8 (Zm1 (Zz2 F.plainAttrs_list F.slot_list_append F.type_list_append Zh3 (pvM 2) (Za0 (pvM 1) Za1))))
  Zb4)
 (Za3 (Zp6 PassesOwn.never rfl (Zq5 (Zc2 C__law_inner_of hr (Za0 (pvM 0) Za1))) (Zg4 rfl (Zb8 (Zc0 (i:=3) sc_at0.nd rfl (Or.inl rfl)) (Zb8 (Zc0 (i:=4) sc_at0.nd rfl (Or.inl rfl)) Ze3)))
  (Za8 (Zm1 (Zz2 F.plainAttrs_list F.slot_list_extend F.type_list_extend Yl1 (pvM 2) (Za0 (pcl G_at0 hr m_at0 k_at0 b_at0 (Za0 (pxt (pvM 0) (pvM 3)) (Za0 (Zb6 Yw4 (pvM 1) (Ze1 (Za0 (pvM 3) Za1))) Za1))) Za1)))))
 (Za8 (Zb3 (pvM 2)))))),?_⟩
 refine sqt (fun f d=>∃ a,f=[some (.ref T),some (.ref l),some (.ref a),none,none]∧Same H d∧H a=none∧d a=some (.lst [])) ?_ ?_
 ·intro C M
  walk_at "1";exact⟨by decide,fun a ha=>M _ _ ⟨a,rfl,Za6 ha _,ha,Za4⟩⟩
 rintro j7 H1 ⟨a,rfl,Y,X,h1⟩;refine sqt (fun f d=>∃ o,f=[some (.ref T),some (.ref l),some (.ref a),none,none]∧Same H d∧d a=some (.lst o)∧Paired (IsPc H l a d) o (if t.turns then [π] else [])) ?_ ?_
 ·intro C M
  walk_at "1";refine⟨_,t,rfl,IsE.keep hT Y.keepT,fun H2 j=>⟨_,rfl,?_⟩⟩
  by_cases c:t.turns=true
  ·rw[if_pos c]
   refine⟨.inl ⟨rfl,_,SqL.of (j _ _ h1)⟩,_,j _ _ h1,by decide,M _ _ ⟨[.ref l],rfl,(Y.trans j).write X,Za4,?_⟩⟩;rw[if_pos c]
   have nl:l≠a:=fun z=>by rw[z,X] at U;cases U
   exact .cons ⟨l,rfl,by rw[Zb1 nl];exact j _ _ (Y _ _ U),.inl rfl,nl⟩ .nil
  ·rw[if_neg c]
   refine M _ _ ⟨[],rfl,Y.trans j,j _ _ h1,?_⟩;rw[if_neg c];exact .nil
 rintro j6 H2 ⟨o,rfl,j,h2,y⟩;refine sqt (fun f d=>∃ I G o,f=[some (.ref T),some (.ref l),some (.ref a),I,G]∧Same H d∧d a=some (.lst o)∧Paired (IsPb H l d) o (t.paths π)) ?_ ?_
 ·intro C M
  walk_at "2";refine⟨_,t,rfl,IsE.keep hT j.keepT,fun r H3 O J f3 W hu=>⟨r,rfl,⟨O,SqL.of W⟩,?_⟩⟩
  have ra:r≠a:=fun z=>by rw[z,h2] at f3;cases f3
  refine Zo0 (D:={ nx:=C,rt:=Q }) (xs:=O) (fun i f d=>∃ I G o,f=[some (.ref T),some (.ref l),some (.ref a),I,G]∧Same H d∧KeepT K H3 d∧d r=some (.lst O)∧d a=some (.lst o)∧Paired (IsPc H l a d) o ((if t.turns then [π] else [])++(t.pk.take i).flatMap fun x=>x.2.paths (π++[x.1])))
   ⟨none,none,o,rfl,j.trans J,KeepT.refl _,W,J _ _ h2,?_⟩ (fun i f d _ ⟨_,_,_,_,_,_,e,_⟩=>SqL.of e) (fun i u f d hx ⟨I,G,us',e0,e,ke,hr',ha',hp'⟩ N hN=>?_) (fun f d ⟨I,G,us',e0,e,ke,hr',ha',hp'⟩=>M _ _ ⟨I,G,us',e0,e,ha',?_⟩)
  ·rw[List.take_zero]
   show Paired _ _ (_++[]);rw[List.append_nil];exact Paired.mapP y fun _ _ z=>z.keep J
  ·subst e0
   obtain⟨⟨p,m⟩,q0,bb,rfl,q7⟩:=paired_get hu hx;obtain⟨kd,g1,g2,_⟩:=Te.inn_at q0;obtain⟨uy,q5,j3⟩:=Ze4 j2 g2;have ks:=Wi6 g1
   have np:π.length < 100:=by omega
   walk_at "1";refine⟨_,ke _ _ q7,rfl,_,_,rfl,_,_,rfl,rfl,?_⟩;have j1:d l=some (.lst (natW π)):=e _ _ U;refine⟨.inl ⟨rfl,_,SqL.of ha'⟩,_,_,rfl,ke _ _ (J.sqt (j.sqt q6)),uy,Zb7 q5,by decide,fun p1 j0=>?_⟩;have S:=Za6 j0 (.lst [V.int (p:Nat)]);refine⟨_,S _ _ j1,_,Za4,by rw[List.length_map];exact Nat.le_of_lt (Zh8 (by show π.length+1≤_;omega)),fun p2 y=>?_⟩;have s2:=Za6 y (.lst (natW π++[V.int (p:Nat)]))
   have e4:natW π++[V.int (p:Nat)]=natW (π++[p]):=by show _=List.map _ (_++_);rw[List.map_append];rfl
   have L:=S.trans s2;refine⟨uy,kd,p2,π++[p],rfl,IsE.keep (IsE.keep j3 j.keepT) (J.keepT.trans (ke.trans L.keepT)),by rw[← e4];exact Za4,by omega,by omega,by rw[List.length_append,List.length_singleton];omega,fun r5 H5 R e5 f5 h5 Z=>?_⟩;have B:=L.trans e5;have q1:=B _ _ ha';have q8:=Wm4 q0 g1
   have q2:((if t.turns then [π] else [])++(t.pk.take (i+1)).flatMap fun x=>x.2.paths (π++[x.1]))=((if t.turns then [π] else [])++(t.pk.take i).flatMap fun x=>x.2.paths (π++[x.1]))++kd.paths (π++[p]):=by
    rw[List.take_add_one,q8,List.flatMap_append,List.append_assoc];show _++(_++(kd.paths (π++[p])++[]))=_;rw[List.append_nil]
   have ln:us'.length≤1000:=by
    rw[Paired.length hp'];have:=Yv9 t π;rw[← List.take_append_drop i t.pk,List.flatMap_append,← List.append_assoc] at this;have:=congrArg List.length this;rw[List.length_append (bs:=(t.pk.drop i).flatMap _)] at this;omega
   have j8:R.length≤1000:=by
    rw[Paired.length Z];exact Nat.le_trans Yk4 (by omega)
   have q4:p2≠a:=fun z=>by rw[z,S _ _ ha'] at y;cases y
   refine⟨r5,rfl,us',q1,R,h5,Nat.le_of_lt (Zh8 (by omega)),hN _ _ ⟨_,_,us'++R,rfl,(e.trans B).write X,?_,?_,Za4,?_⟩⟩
   ·exact ke.trans (B.keepT.trans (Zf2 q1))
   ·rw[Zb1 ra];exact B _ _ hr'
   ·rw[q2]
    refine Zf9 (Paired.mapP hp' fun _ _ z=>(z.keep B).put) (Paired.mapP Z fun u ρ z=>?_);obtain⟨b,z1,z2,g⟩:=z
    have nb:b≠a:=by
     rcases g with g | g
     ·rw[g];exact q4
     ·intro z
      rw[z,L _ _ ha'] at g;cases g
    refine⟨b,z1,by rw[Zb1 nb];exact z2,.inr ?_,nb⟩;rcases g with g | g
    ·rw[g];exact (e.trans S).free y
    ·exact (e.trans L).free g
  ·rw[List.take_of_length_le (by rw[Wd7,← Paired.length hu];exact Nat.le_refl _),← Yv9] at hp'
   exact Paired.mapP hp' fun _ _ z=>z.b
 rintro j5 H3 ⟨I,G,q3,rfl,J,W,q9⟩;walk_at "1";exact q _ _ q3 J X W q9
theorem sc_ao0:FnScope ["_law_found","_law_term","_law_path","_law_k","_law_front"] ["_law_found","_law_term","_law_path"] (Za5 (top 56)):=scm (by decide +kernel)
theorem Xg8 (ds:List PyData):PyData.eqv (.list ds) (.list [])=ds.isEmpty:=by
 cases ds<;>simp[PyData.eqv,PyData.eqvAll]
theorem cut1 (a:V) (rs:List V):cutV (a :: rs) (some 1) none=rs:=by
 unfold cutV;rw[show (1:Int)=((1:Nat):Int) from rfl,HT.sIx_nat,HT.sIx_none,show min 1 (a :: rs).length=1 by simp];show List.take _ rs=rs;exact List.take_of_length_le (by simp)
theorem Wh4 {k n:Nat} {f_ao0:Addr} {fd_ao0:FuncData} (F_ao0:Fun K "_law_is_turned" "_law_is_turned" (top 56) f_ao0 fd_ao0) (G_ao0:Fk0 P w K mg base k f_ao0 fd_ao0 pq9 (Zj3 K n)) (m_ao0:MgI mg "_law_is_turned" f_ao0) (k_ao0:KpI K f_ao0) (b_ao0:Binds K fd_ao0 pq9 []) (C__law_inner_of:Cl P w K mg base k "_law_inner_of" pq18 (Zh1 K)) (C__law_shaped:Cl P w K mg base k "_law_shaped" pq10 (Zh7 K)) (C__law_is_lifted:Cl P w K mg base k "_law_is_lifted" pq7 (Zg0 K 40)) (C__law_is_put:Cl P w K mg base k "_law_is_put" pq8 (Zj5 K 40)) (m_int:mg "int"=none):Fk0 P w K mg base (k+1) f_ao0 fd_ao0 pq9 (Zj3 K (n+1)):=by
 refine F_ao0.ok sc_ao0 (fun vs H Q E h=>?_) (fun y2 A y0 s H vs Q E M h=>?_)
 ·obtain⟨x,y,t,l,m,F,rfl,_⟩:=h
  rfl
 obtain⟨x,y,t,l,m,F,rfl,hX,hY,hl,q2,hf,hw,hd,z9,q⟩:=h
 refine⟨_,(Za3 (Zd2 (ptcM (Xs6 (Zl3 M)) (pvM 2) (Ze1 Za1))
  (Za3 (Zd2 (Zk8 (Zj7 (Zc2 C__law_shaped M (Za0 (pvM 0) (Za0 (pvM 1) Za1)))))
  (Za8 (Zb3 Zk3))
  Zb4)
 (Za3 (Zp6 PassesOwn.never rfl (Zq5 (Zc2 C__law_inner_of M (Za0 (pvM 1) Za1))) (Zg4 rfl (Zb8 (Zc0 (i:=3) sc_ao0.nd rfl (Or.inl rfl)) (Zb8 (Zc0 (i:=4) sc_ao0.nd rfl (Or.inl rfl)) Ze3)))
  (Za3 (Zd2 ((Yc3 (ptcM (Ze7) (pvM 3) (pxl (pvM 2) Za2)) (Zt9 (Zk8 (Zj7 (pcl G_ao0 M m_ao0 k_ao0 b_ao0 (Za0 (pxt (pvM 0) (pvM 3)) (Za0 (pxt (pvM 1) (pvM 3)) (Za0 (Zs3 Ye5 (pvM 2) (Zy9 Za2) Zz0) Za1))))))))).pt
  (Za8 (Zb3 Zk3))
  Zb4)
 (Za8 (Zd2 ((Yc3 (ptcM (Yq2) (pvM 3) (pxl (pvM 2) Za2)) (Zt9 (Zk8 (Zj7 (Zc2 C__law_is_lifted M (Za0 (pxt (pvM 0) (pvM 3)) (Za0 (pxt (pvM 1) (pvM 3)) (Za0 Za2 (Za0 Za2 Za1)))))))))).pt
  (Za8 (Zb3 Zk3))
  Zb4))))
 (Za8 (Zb3 Zk3))))
  Zb4)
 (Za3 (Zd2 (ptcM (Ze7) (pxt (pvM 1) Za2) Za9)
  (Za8 (Zb3 (Zc2 C__law_is_lifted M (Za0 (pvM 0) (Za0 (pxt (pxt (pvM 1) Za2) Za2) (Za0 Za2 (Za0 Za2 Za1)))))))
  Zb4)
 (Za3 (Zd2 (ptcM (Ze7) (pxt (pvM 1) Za2) Za9)
  (Za8 (Zb3 (Zc2 C__law_is_lifted M (Za0 (pvM 0) (Za0 (pxt (pxt (pvM 1) Za2) Za2) (Za0 Za2 (Za0 Za2 Za1)))))))
  Zb4)
 (Za3 (Zd2 (ptcM (Ze7) (pxt (pvM 1) Za2) Za9)
  (Za8 (Zb3 (Zc2 C__law_is_put M (Za0 (pvM 0) (Za0 (pxt (pxt (pvM 1) Za2) Za2) (Za0 (pxt (pvM 1) Za2) (Za0 Za2 Za1)))))))
  Zb4)
 (Za8 (Zb3 (Zc2 C__law_is_put M (Za0 (pvM 0) (Za0 (pxt (pvM 1) (pxl (Ze1 (Za0 Za2 (Za0 Za2 Za1))) (Zl0 Zt5 (by exact rfl) m_int Zp4 (Za0 (Zi0 (Ze7) (pxt (pxt (pvM 1) Za2) Za2) Za9 (Zl2 _)) Za1)))) (Za0 (pxt (pxt (pvM 1) Za2) Za2) (Za0 Za2 Za1))))))))))),?_⟩
 refine sqt (fun d f=>d=[some x,some y,some (.ref l),none,none]∧Same H f∧m=[]) ?_ ?_
 ·intro C W
  walk_at "3";refine⟨by decide,fun p0 z6=>?_⟩;have U:=Za6 z6 (.lst []);refine⟨_,Xk1 (U _ _ hl),.list [],by rw[Dn];exact⟨p0,_,rfl,SqL.of Za4,dnAll_nil⟩,Yg1 m,rfl,Nat.le_trans (Nat.min_le_right _ _) (by decide),?_⟩;rw[if_pos trivial,Xg8]
  cases m with
  | nil=>exact W _ _ ⟨rfl,U,rfl⟩
  | cons i m =>
   rw[if_pos (by rfl)];have q4:=IsE.keep hX U.keepT;have X:=IsE.keep hY U.keepT;have q9:=U _ _ hl;generalize upd H p0 (.lst [])=H0 at U q4 X q9 ⊢;obtain⟨px,xs,rfl,q8,j0⟩:=isE_view.mp q4;obtain⟨py,ys,rfl,q7,z7⟩:=isE_view.mp X;refine Ye8 (D:={ nx:=C,rt:=Q }) (fun d f=>d=[some (.ref px),some (.ref py),some (.ref l),none,none]∧Same H0 f) ?_ ?_
   rotate_left
   ·intro C' q5
    walk_at "1";obtain⟨ks,k1,k2⟩:=Xo1 q2;exact⟨_,_,t,ks,F,rfl,k2▸q4,X,k1,hf,hw,fun f e=>⟨true,rfl,q5 _ _ ⟨rfl,e⟩⟩⟩
   rintro j8 H2 ⟨rfl,e2⟩;refine Ye8 (D:={ nx:=C,rt:=Q }) (fun d f=>∃ R O,d=[some (.ref px),some (.ref py),some (.ref l),R,O]∧Same H0 f) ?_ ?_
   rotate_left
   ·intro C' q5
    walk_at "2";refine⟨_,t,rfl,IsE.keep X e2.keepT,fun r H3 us e3 f3 h3 hu=>⟨r,rfl,⟨us,SqL.of h3⟩,?_⟩⟩;refine Zo0 (D:={ nx:=C',rt:=Q }) (xs:=us) (fun _ d f=>∃ R O,d=[some (.ref px),some (.ref py),some (.ref l),R,O]∧Same H3 f) ⟨none,none,rfl,Same.refl _⟩ (fun i d f _ ⟨R,O,_,e⟩=>SqL.of (e _ _ h3)) (fun jx u d f hx ⟨R,O,e0,e⟩ N hN=>?_) (fun d f ⟨R,O,e0,e⟩=>q5 _ _ ⟨R,O,e0,(e2.trans e3).trans e⟩);subst e0;obtain⟨⟨pl,mo⟩,z4,bb,rfl,z3⟩:=paired_get hu hx;obtain⟨kd,Z,g2,g3⟩:=Wb5 q2 z4;obtain⟨uy,j9,j4⟩:=Ze4 z7 g2;have ko:=Xh1 hf Z;have eA:=(e2.trans e3).trans e;have q3:=eA _ _ q9;have j2:atI (natW (i :: m)) 0=some (.int (i:Nat)):=Zb7 (j:=0) rfl
    obtain⟨G,z2,j5⟩:∃ G,xs[pl]?=some G∧((pl=i∧IsE K H0 G (kd.tat m)∧kd.okp m)∨(pl≠i∧IsE K H0 G kd)):=by
     rcases g3 with ⟨z,g4,g5⟩ | ⟨z,g4⟩
     ·obtain⟨G,B,h2⟩:=Ze4 j0 g4
      exact⟨G,B,.inl ⟨z,h2,g5⟩⟩
     ·obtain⟨G,B,h2⟩:=Ze4 j0 g4
      exact⟨G,B,.inr ⟨z,h2⟩⟩
    have q1:=Zb7 z2;have q0:=Zb7 j9;have hq:=e.sqt z3;simp only[gTup,Xa2,gNil,Ya4,List.set_cons_zero,List.set_cons_succ,List.length_cons,List.length_nil,assignEach,Nat.reduceAdd,Nat.zero_add];refine⟨bb,_,rfl,hq,rfl,_,_,rfl,_,_,rfl,rfl,?_⟩;refine sqt (fun d J=>d=[some (.ref px),some (.ref py),some (.ref l),some (.int (pl:Nat)),some (.int (mo:Nat))]∧Same f J) ?_ ?_
    ·intro C2 j1
     walk_at "1";refine⟨_,SqL.of q3,_,j2,rfl,?_⟩;rcases j5 with ⟨rfl,T,d2⟩ | ⟨dn,_⟩
     ·rw[if_pos rfl]
      refine⟨_,eA.sqt q8,G,q1,_,eA.sqt q7,uy,q0,_,SqL.of q3,fun p hp=>?_⟩;rw[show cutV (natW (pl :: m)) (some 1) none=natW m from cut1 _ _];have sp:=Za6 hp (.lst (natW m));refine⟨_,_,kd,p,m,F,rfl,IsE.keep T (eA.trans sp).keepT,IsE.keep j4 (eA.trans sp).keepT,Za4,d2,ko.1,hw,by omega,by omega,fun H4 e4=>⟨true,rfl,?_⟩⟩;rw[if_neg (by decide)];exact j1 _ _ ⟨rfl,sp.trans e4⟩
     ·rw[if_neg (fun z=>dn (by have:=V.int.inj z;omega)),if_neg (by decide)]
      exact j1 _ _ ⟨rfl,Same.refl _⟩
    rintro j6 J4 ⟨rfl,s4⟩;have eB:=eA.trans s4;walk_at "1";refine⟨_,SqL.of (s4 _ _ q3),_,j2,rfl,?_⟩;rcases j5 with ⟨rfl,_⟩ | ⟨dn,T⟩
    ·rw[decide_eq_true rfl,if_neg (by decide),if_neg (by decide)]
     exact hN _ _ ⟨_,_,rfl,e.trans s4⟩
    ·rw[decide_eq_false (fun z=>dn (by have:=V.int.inj z;omega)),if_pos (by rfl)]
     refine⟨_,eB.sqt q8,G,q1,_,eB.sqt q7,uy,q0,_,_,kd,0,0,F,rfl,by rw[Yg4];exact IsE.keep T eB.keepT,IsE.keep j4 eB.keepT,ko.1,hw,by omega,fun H4 e4=>⟨true,rfl,?_⟩⟩;rw[if_neg (by decide)];exact hN _ _ ⟨_,_,rfl,(e.trans s4).trans e4⟩
   rintro j7 H3 ⟨R,O,rfl,e3⟩;walk_at "1";exact q _ (U.trans e3)
 rintro y1 H1 ⟨rfl,e1,rfl⟩;rw[Xd5] at hX;have Y:=IsE.keep hX e1.keepT;have z8:=IsE.keep hY e1.keepT
 have lf:∀ {J:Hp} {z:V} {a:Te},Same H1 J→IsE K H1 z a→t.itself=a→a.fine F→a.deep≤40→Zg0 K 40 [x,z,.int 0,.int 0] J Q E0:=fun {J z a} ej hz ea fa da=>by
  rw[ea] at Y;exact⟨_,_,a,0,0,F,rfl,by rw[Yg4];exact IsE.keep Y ej.keepT,IsE.keep hz ej.keepT,fa,hw,da,fun f e=>q _ ((e1.trans ej).trans e)⟩
 have pf:∀ {J:Hp} {z u:V} {b o:Te},Same H1 J→IsE K H1 z b→IsE K H1 u o→t.itself=b.mp (Ken.putF o) 0→b.fine F→o.fine F→b.deep≤40→o.deep≤40→Zj5 K 40 [x,z,u,.int 0] J Q E0:=fun {J z u b o} ej hz hu ea fb fo db do'=>by
  rw[ea] at Y;exact⟨_,_,_,b,o,0,F,rfl,IsE.keep Y ej.keepT,IsE.keep hz ej.keepT,IsE.keep hu ej.keepT,fb,fo,hw,db,do',fun f e=>q _ ((e1.trans ej).trans e)⟩
 obtain⟨p,L,I,ti,r,ry,rfl,B,Z,hc⟩:=Wb0 z8 (Xf6 q2);have v:∀ {b:Te},SubE b t→b.fine F∧b.deep≤40:=fun s=>⟨s.fi F hf,Nat.le_trans (Nat.le_of_lt s.dp) z9⟩;have ne:∀ {a b:Str},a≠b→¬ V.str a=V.str b:=fun h z=>h (V.str.inj z);have z0:atI (.str I :: .ref L :: r) 0=some (.str I):=Zb7 (j:=0) rfl;have z1:atI (.str I :: .ref L :: r) 1=some (.ref L):=Zb7 (j:=1) rfl;refine sqt (fun d J=>d=[some x,some (.ref p),some (.ref l),none,none]∧J=H1∧I≠"left") ?_ ?_
 ·intro C W
  walk_at "1";refine⟨_,B,_,z0,rfl,?_⟩
  by_cases c:I="left"
  ·rw[if_pos (by rw[c])]
   cases hc with
   | left g e s=>exact⟨_,B,_,z1,L,rfl,_,Z,_,rfl,lf (Same.refl _) g e (v s).1 (v s).2⟩
   | _=>exact absurd c (by decide)
  ·rw[if_neg (ne c)]
   exact W _ _ ⟨rfl,rfl,c⟩
 rintro j8 H2 ⟨rfl,rfl,n1⟩;refine sqt (fun d J=>d=[some x,some (.ref p),some (.ref l),none,none]∧J=H2∧I≠"right") ?_ ?_
 ·intro C W
  walk_at "1";refine⟨_,B,_,z0,rfl,?_⟩
  by_cases c:I="right"
  ·rw[if_pos (by rw[c])]
   cases hc with
   | right g e s=>exact⟨_,B,_,z1,L,rfl,_,Z,_,rfl,lf (Same.refl _) g e (v s).1 (v s).2⟩
   | _=>exact absurd c (by decide)
  ·rw[if_neg (ne c)]
   exact W _ _ ⟨rfl,rfl,c⟩
 rintro j7 H3 ⟨rfl,rfl,n2⟩;refine sqt (fun d J=>d=[some x,some (.ref p),some (.ref l),none,none]∧J=H3∧I≠"use") ?_ ?_
 ·intro C W
  walk_at "1";refine⟨_,B,_,z0,rfl,?_⟩
  by_cases c:I="use"
  ·rw[if_pos (by rw[c])]
   cases hc with
   | use T d2 d3 d4 d5=>exact⟨_,B,_,z1,L,rfl,_,Z,_,rfl,_,B,_,rfl,pf (Same.refl _) T d2 d3 (v d4).1 (v d5).1 (v d4).2 (v d5).2⟩
   | _=>exact absurd c (by decide)
  ·rw[if_neg (ne c)]
   exact W _ _ ⟨rfl,rfl,c⟩
 rintro j6 H4 ⟨rfl,rfl,n3⟩
 cases hc with
 | left=>exact absurd rfl n1
 | right=>exact absurd rfl n2
 | use=>exact absurd rfl n3
 | @cases ti _ _ _ _ _ _ T d2 d3 d4 d5 d6 =>
  walk_at "1";refine⟨by decide,fun p1 z5=>?_⟩;have s1:=Za6 z5 (.lst [.int 2,.int 3]);have hq:SqL K (upd H4 p1 (.lst [.int 2,.int 3])) p1 [.int 2,.int 3]:=SqL.of Za4;generalize upd H4 p1 (.lst [.int 2,.int 3])=J at s1 hq ⊢;have S:=s1.sqt B;have q6:=s1.sqt Z;refine⟨_,S,_,z1,L,rfl,_,q6,_,Zb7 (j:=0) rfl,rfl,.inr ⟨_,hq,?_⟩⟩;have j3:=fun {vb:V} (h:IsE K H4 vb _)=>pf s1 h d2 d3 (v d4).1 (v d5).1 (v d4).2 (v d5).2;rcases d6 with rfl | rfl
  ·exact⟨_,rfl,_,_,rfl,S,_,rfl,_,S,_,rfl,L,rfl,_,q6,_,Zb7 (j:=1) rfl,j3 T⟩
  ·exact⟨_,rfl,_,_,rfl,S,_,rfl,_,S,_,rfl,L,rfl,_,q6,_,Zb7 (j:=1) rfl,j3 T⟩
theorem Yq8 {f:Addr} {fd:FuncData} {ps:List Str} {k:Nat} (hl:ps.length=2):Fk0 P w K mg base k f fd ps (Zn1 K 0):=by
 refine⟨fun d H Q E h=>?_,fun A b s H g i d Q E j n m r a=>?_⟩
 ·obtain⟨v,t,l,c,rfl,_⟩:=h
  exact hl.symm
 ·obtain⟨v,t,l,c,_,_,_,e,_⟩:=a
  exact absurd e (by cases t<;>simp[Te.deep]<;>omega)
theorem Yl2 {f:Addr} {fd:FuncData} {ps:List Str} {k:Nat} (hl:ps.length=3):Fk0 P w K mg base k f fd ps (Zj3 K 0):=by
 refine⟨fun e H Q E h=>?_,fun A b s H i j e Q E m o n r a=>?_⟩
 ·obtain⟨x,y,t,l,c,d,rfl,_⟩:=h
  exact hl.symm
 ·obtain⟨x,y,t,l,c,d,_,_,_,_,_,_,_,g,_⟩:=a
  exact absurd g (by cases t<;>simp[Te.deep]<;>omega)
theorem Xm7 {k:Nat} {f_at0:Addr} {fd_at0:FuncData} (F_at0:Fun K "_law_paths" "_law_paths" (top 55) f_at0 fd_at0) (m_at0:MgI mg "_law_paths" f_at0) (b_at0:Binds K fd_at0 pq17 []) (C__law_inner_of:Cl P w K mg base k "_law_inner_of" pq18 (Zh1 K)) (C__law_can_turn:Cl P w K mg base k "_law_can_turn" pq18 (Yo7 K)) :
  ∀ n,Fk0 P w K mg base (k+n) f_at0 fd_at0 pq17 (Zn1 K n)
 | 0=>Yq8 rfl
 | n+1=>Wh2 (k:=k+n) F_at0 (Xm7 F_at0 m_at0 b_at0 C__law_inner_of C__law_can_turn n) m_at0 F_at0.kp b_at0
   (C__law_inner_of.up (Nat.le_add_right _ _)) (C__law_can_turn.up (Nat.le_add_right _ _))
theorem Xm9 {k:Nat} {f_ao0:Addr} {fd_ao0:FuncData} (F_ao0:Fun K "_law_is_turned" "_law_is_turned" (top 56) f_ao0 fd_ao0) (m_ao0:MgI mg "_law_is_turned" f_ao0) (b_ao0:Binds K fd_ao0 pq9 []) (C__law_inner_of:Cl P w K mg base k "_law_inner_of" pq18 (Zh1 K)) (C__law_shaped:Cl P w K mg base k "_law_shaped" pq10 (Zh7 K)) (C__law_is_lifted:Cl P w K mg base k "_law_is_lifted" pq7 (Zg0 K 40)) (C__law_is_put:Cl P w K mg base k "_law_is_put" pq8 (Zj5 K 40)) (m_int:mg "int"=none) :
  ∀ n,Fk0 P w K mg base (k+n) f_ao0 fd_ao0 pq9 (Zj3 K n)
 | 0=>Yl2 rfl
 | n+1=>Wh4 (k:=k+n) F_ao0 (Xm9 F_ao0 m_ao0 b_ao0 C__law_inner_of C__law_shaped C__law_is_lifted C__law_is_put m_int n) m_ao0 F_ao0.kp b_ao0
   (C__law_inner_of.up (Nat.le_add_right _ _)) (C__law_shaped.up (Nat.le_add_right _ _)) (C__law_is_lifted.up (Nat.le_add_right _ _)) (C__law_is_put.up (Nat.le_add_right _ _)) m_int
theorem Wa5 {T1 T2 T3 T4 T5:Addr} (hN:[T1,T2,T3,T4,T5].Nodup)
  {f_bc0:Addr}{fd_bc0:FuncData}(F_bc0:FunT K "changed" "changed" (top 18) f_bc0 fd_bc0 T1)(hB_changed:∀ h,K.In h→h.BuiltinsAt mg T1)(v_changed:mainGlobals≠T1)(m_bc0:MgI mg "changed" f_bc0)(b_bc0:Binds K fd_bc0 ["term","of_at"] [])
  {f_be0:Addr}{fd_be0:FuncData}(F_be0:FunT K "lifted" "lifted" (top 23) f_be0 fd_be0 T2)(hB_lifted:∀ h,K.In h→h.BuiltinsAt mg T2)(v_lifted:mainGlobals≠T2)(m_be0:MgI mg "lifted" f_be0)(b_be0:Binds K fd_be0 ["term","by"] [])
  {f_bh0:Addr}{fd_bh0:FuncData}(F_bh0:FunT K "put" "put" (top 24) f_bh0 fd_bh0 T3)(hB_put:∀ h,K.In h→h.BuiltinsAt mg T3)(v_put:mainGlobals≠T3)(m_bh0:MgI mg "put" f_bh0)(b_bh0:Binds K fd_bh0 ["term","other"] [])
  {f_bj0:Addr}{fd_bj0:FuncData}(F_bj0:FunT K "term_deep" "term_deep" (top 21) f_bj0 fd_bj0 T4)(hB_term_deep:∀ h,K.In h→h.BuiltinsAt mg T4)(v_term_deep:mainGlobals≠T4)(m_bj0:MgI mg "term_deep" f_bj0)(b_bj0:Binds K fd_bj0 pq27 [])
  {f_bm0:Addr}{fd_bm0:FuncData}(F_bm0:FunT K "turned" "turned" (top 33) f_bm0 fd_bm0 T5)(hB_turned:∀ h,K.In h→h.BuiltinsAt mg T5)(v_turned:mainGlobals≠T5)(m_bm0:MgI mg "turned" f_bm0)(b_bm0:Binds K fd_bm0 pq24 [])
  {f_bi0:Addr}{fd_bi0:FuncData}(F_bi0:Fun K "standing" "standing" (top 15) f_bi0 fd_bi0)(m_bi0:MgI mg "standing" f_bi0)(b_bi0:Binds K fd_bi0 pq27 [])
  {f_br0:Addr}{fd_br0:FuncData}(F_br0:Fun K "with_inner" "with_inner" (top 17) f_br0 fd_br0)(m_br0:MgI mg "with_inner" f_br0)(b_br0:Binds K fd_br0 pq20 [])
  {f_bk0:Addr}{fd_bk0:FuncData}(F_bk0:Fun K "term_folded" "term_folded" (top 16) f_bk0 fd_bk0)(m_bk0:MgI mg "term_folded" f_bk0)(b_bk0:Binds K fd_bk0 pq21 [])
  {f_bn0:Addr}{fd_bn0:FuncData}(F_bn0:Fun K "turned_itself" "turned_itself" (top 30) f_bn0 fd_bn0)(m_bn0:MgI mg "turned_itself" f_bn0)(b_bn0:Binds K fd_bn0 pq27 [])
  {f_bl0:Addr}{fd_bl0:FuncData}(F_bl0:Fun K "term_parts" "term_parts" (top 20) f_bl0 fd_bl0)(m_bl0:MgI mg "term_parts" f_bl0)(b_bl0:Binds K fd_bl0 pq27 [])
  {aINNER:Addr} {aT:Nat→Addr} (m_aa0:MgI mg "INNER" aINNER) (D_INNER:KDict K w aINNER (innV aT)) (hI:Inn K aT) (m_reversed:mg "reversed"=none) (m_range:mg "range"=none) (m_len:mg "len"=none) (m_list:mg "list"=none) (m_zip:mg "zip"=none) (m_tuple:mg "tuple"=none) (m_sorted:mg "sorted"=none) (m_max:mg "max"=none)
  {aNoTurning aLarge:Addr} (m_ad0:MgI mg "NoTurning" aNoTurning) (x_NoTurning:XCls K aNoTurning) (m_Large:MgI mg "Large" aLarge) (x_Large:XCls K aLarge) {k1 k2:Tok} (m_ac0:mg "MOST_PARTS"=some (.int 1000 k1)) (m_ab0:mg "MOST_DEEP"=some (.int 120 k2))
  (C_turning_places:Cl P w K mg base 10 "turning_places" ["pieces"] (Zo3 K)) :
  FnOk P w K mg base (CXe P w) 11 f_bm0 fd_bm0 pq24 (Zn0 K (tb5 T1 T2 T3 T4 T5) aNoTurning aLarge):=by
 have f:∀ (d:W.Frag) (base:Heap) (k:Nat),KLe K d→FnOk P w d mg base CX0 (k+1) f_bi0 fd_bi0 pq27 (Zf7 d):=fun d base k c=>Xf7 (F_bi0.le c) m_aa0 (D_INNER.le c) (hI.le c) m_reversed;have m:∀ (d:W.Frag) (j:Nat),KLe K d→GCh P w d mg (j+1) T1 f_bc0 fd_bc0:=fun d j c=>Ys3 (F_bc0.le c) (fun h g=>hB_changed h fun a o e=>g a o (c a o e)) v_changed m_aa0 (D_INNER.le c) (hI.le c) m_reversed m_range m_len m_list m_zip m_tuple (F_bi0.le c) m_bi0 (b_bi0.le c) (F_br0.le c) m_br0 (b_br0.le c) (F_bk0.le c) m_bk0 (b_bk0.le c);have l:=hN;simp only[List.nodup_cons,List.mem_cons,List.not_mem_nil,or_false,not_or] at l;obtain⟨⟨i,s,_,_⟩,⟨r,_,_⟩,_,_,_⟩:=l
 have q:∀ (d:W.Frag) (base:Heap),KLe K d→FnOk P w d mg base CX0 7 f_bh0 fd_bh0 ["term","other"] (Yu7 d T1 T2 T3 Zc1 Zd4 Zi8):=fun d base c =>
  Wg0 (j:=0) (F_bh0.le c) (fun h g=>hB_put h fun a o e=>g a o (c a o e)) v_put (fun z=>s z.symm) (fun z=>r z.symm) i m_bc0 (F_bc0.le c).kp (b_bc0.le c) (m d 2 c)
   (.of (f d base 5 c) m_bi0 (F_bi0.le c).kp (b_bi0.le c))
   (.of (Wg1 (j:=1) (F_be0.le c) (fun h g=>hB_lifted h fun a o e=>g a o (c a o e)) v_lifted (fun z=>i z.symm) m_bc0 (F_bc0.le c).kp (b_bc0.le c) (m d 1 c)) m_be0 (F_be0.le c).kp (b_be0.le c)) m_sorted
 exact Wf7 (j:=8) hN F_bm0 hB_turned v_turned m_ad0 x_NoTurning m_Large x_Large m_ac0 m_ab0
  (.of (f K base 9 fun _ _ z=>z) m_bi0 F_bi0.kp b_bi0) C_turning_places
  (.of (Wf8 (k:=9) F_bl0 (.of (f K base 8 fun _ _ z=>z) m_bi0 F_bi0.kp b_bi0) m_len) m_bl0 F_bl0.kp b_bl0)
  (.of (Wf9 (j:=7) F_bj0 hB_term_deep v_term_deep (.of (f K base 8 fun _ _ z=>z) m_bi0 F_bi0.kp b_bi0) m_bk0 F_bk0.kp b_bk0
   (fun x base J R u v t k2 p n G k b=>Xt0 (k:=8) p n (F_bk0.le k2) m_aa0 (D_INNER.le k2) (hI.le k2) m_reversed m_range m_len G k b) m_max) m_bj0 F_bj0.kp b_bj0)
  (fun d base c=>Xs9 (k:=7) (F_br0.le c) m_aa0 (D_INNER.le c) (hI.le c) m_list m_zip m_tuple) m_br0 (fun d c=>(F_br0.le c).kp) b_br0
  (fun d base c=>Wf6 (k:=7) (F_bn0.le c) (.of (q d base c) m_bh0 (F_bh0.le c).kp (b_bh0.le c))) m_bn0 (fun d c=>(F_bn0.le c).kp) b_bn0
  m_bk0 F_bk0.kp b_bk0
  (fun x base y J R u v t k2 p n G k b=>Zn6 (k:=9) p n (F_bk0.le k2) m_aa0 (D_INNER.le k2) (hI.le k2) m_reversed m_range m_len G k b) m_len
theorem Wc2:FnScope ["term"] ["term"] (Za5 (top 32)):=scm (by decide +kernel)
theorem sc_au0:FnScope ["_law_term","_law_number","_law_told","error","_law_one","_law_other"] ["_law_term","_law_number"] (Za5 (top 57)):=scm (by decide +kernel)
def Zx8 (K:W.Frag):Sp:=fun vs H Q _=>∃ (v:V) (t:Te),vs=[v]∧IsE K H v t∧t.size≤20000∧∀ H',Same H H'→Q (.int ((idxT 0 (t.pre 0)).length:Nat)) H'
theorem Wf4 {k:Nat} {f_bp0:Addr} {fd_bp0:FuncData} (F_bp0:Fun K "turnings" "turnings" (top 32) f_bp0 fd_bp0) (C_standing:Cl P w K mg base k "standing" pq27 (Zf7 K)) (C_turning_places:Cl P w K mg base k "turning_places" ["pieces"] (Zo3 K)) (m_len:mg "len"=none):Fk0 P w K mg base (k+1) f_bp0 fd_bp0 pq27 (Zx8 K):=by
 refine F_bp0.ok Wc2 (fun d H Q E h=>?_) (fun n A c s H d Q E b h=>?_)
 ·obtain⟨v,t,rfl,_⟩:=h
  rfl
 obtain⟨v,t,rfl,j,a,q⟩:=h;refine⟨_,(Za8 (Zb3 (Zd1 Zc9 (by exact rfl) m_len Zf4 (Za0 (Zc2 C_turning_places b (Za0 (Zc2 C_standing b (Za0 (pvM 0) Za1)) Za1)) Za1)))),?_⟩;walk_at "1";refine⟨v,t,rfl,j,a,fun r p f e _ h i=>⟨r,f,t.pre 0,rfl,h,i,by rw[Ze8];exact a,fun g o m _ l=>⟨g,rfl,_,.inl (SqL.of l),?_⟩⟩⟩;rw[List.length_map];exact q _ (e.trans m)
noncomputable def Xn8:List V:=[.bl true,.bl true,.bl false,.bl false]
theorem Xc9 {H:Hp} {p:Addr} (h:H p=some (.lst Xn8)):Dn K H (.ref p) (.list [.bool true,.bool true,.bool false,.bool false]):=by
 rw[Dn];exact⟨p,_,rfl,SqL.of h,dnAll_cons (by rw[Dn]) (dnAll_cons (by rw[Dn]) (dnAll_cons (by rw[Dn]) (dnAll_cons (by rw[Dn]) dnAll_nil)))⟩
def Zy1 (K:W.Frag) (tb:TBs):Sp:=fun vs H Q _=>∃ (v:V) (t:Te) (i:Int),vs=[v,.int i]∧IsE K H v t∧t.size≤5000∧t.deep≤60∧t.all Tm.ok∧Tabs H tb∧(∀ m∈idxT 0 (t.pre 0),(t.tpm m 0).size≤20000)∧¬ (0≤i∧i < ((idxT 0 (t.pre 0)).length:Nat))∧∀ H',SameV (tb.map (·.1)) H H'→Tabs H' tb→Q (.bl true) H'
theorem Wh1 {k:Nat} {tb:TBs} {f_au0:Addr} {fd_au0:FuncData} (F_au0:Fun K "_law_refused" "_law_refused" (top 57) f_au0 fd_au0) {aKenError aLarge aNoKind aNoLine aNoRow aNoWorlds aNoTurning aNoWish aNoRule aNotShown aTwice aNoText:Addr} {f_bm0:Addr} {fd_bm0:FuncData} (G_bm0:FnOk P w K mg base (CXe P w) k f_bm0 fd_bm0 pq24 (Zn0 K tb aNoTurning aLarge)) (m_bm0:MgI mg "turned" f_bm0) (k_bm0:KpI K f_bm0) (b_bm0:Binds K fd_bm0 pq24 []) (m_ad0:MgI mg "NoTurning" aNoTurning) (xc_NoTurning:XC K aNoTurning) (z_NoTurning:XIsi K aNoTurning)
  (m_KenError:MgI mg "KenError" aKenError) (m_Large:MgI mg "Large" aLarge) (m_NoKind:MgI mg "NoKind" aNoKind) (m_NoLine:MgI mg "NoLine" aNoLine) (m_NoRow:MgI mg "NoRow" aNoRow) (m_NoWorlds:MgI mg "NoWorlds" aNoWorlds) (m_NoWish:MgI mg "NoWish" aNoWish) (m_NoRule:MgI mg "NoRule" aNoRule) (m_NotShown:MgI mg "NotShown" aNotShown) (m_Twice:MgI mg "Twice" aTwice) (m_NoText:MgI mg "NoText" aNoText)
  (i_1:W.kitOne K (.ref aNoTurning) (.ref aKenError)=some true) (i_2:W.kitOne K (.ref aNoTurning) (.type "ValueError")=some true) (i_3:W.kitAny K (.ref aNoTurning) [.ref aLarge,.ref aNoText,.ref aNoLine,.ref aNoRow,.ref aNoRule,.ref aNotShown]=some false) (i_4:W.kitAny K (.ref aNoTurning) [.ref aNoKind,.ref aNoWish,.ref aNoWorlds,.ref aTwice]=some false) (m_isinstance:mg "isinstance"=none) (m_ValueError:mg "ValueError"=none):Fk0 P w K mg base (k+1) f_au0 fd_au0 ["_law_term","_law_number"] (Zy1 K tb):=by
 refine F_au0.ok sc_au0 (fun U H Q E h=>?_) (fun q2 A O s H U Q E J h=>?_)
 ·obtain⟨v,t,i,rfl,_⟩:=h
  rfl
 obtain⟨v,t,i,rfl,hT,X,N,L,n,u,M,q⟩:=h
 refine⟨_,(Za3 (pst 2 sc_au0.nd We3)
 (Za3 (Xp3 (i:=3) rfl rfl rfl (by exact rfl) m_ad0 xc_NoTurning sc_au0.nd rfl rfl (Xw0 G_bm0 J (by exact rfl) m_bm0 k_bm0 b_bm0 .nil (Za0 (pvM 0) (Za0 (pvM 1) Za1)))
  (fun ea=>(Za3 (pst 4 sc_au0.nd (Zd1 (Yd3 (K:=K) rfl) (by exact rfl) m_isinstance Zd7 (Za0 (pvM 3) (Za0 (Zb5 (Za0 (Zh9 (v:=.ref aLarge) (by exact rfl) m_Large (by exact rfl)) (Za0 (Zh9 (v:=.ref aNoText) (by exact rfl) m_NoText (by exact rfl)) (Za0 (Zh9 (v:=.ref aNoLine) (by exact rfl) m_NoLine (by exact rfl)) (Za0 (Zh9 (v:=.ref aNoRow) (by exact rfl) m_NoRow (by exact rfl)) (Za0 (Zh9 (v:=.ref aNoRule) (by exact rfl) m_NoRule (by exact rfl)) (Za0 (Zh9 (v:=.ref aNotShown) (by exact rfl) m_NotShown (by exact rfl)) Za1))))))) Za1))))
 (Za3 (pst 5 sc_au0.nd (Zd1 (Yd3 (K:=K) rfl) (by exact rfl) m_isinstance Zd7 (Za0 (pvM 3) (Za0 (Zb5 (Za0 (Zh9 (v:=.ref aNoKind) (by exact rfl) m_NoKind (by exact rfl)) (Za0 (Zh9 (v:=.ref aNoWish) (by exact rfl) m_NoWish (by exact rfl)) (Za0 (Zh9 (v:=.ref aNoWorlds) (by exact rfl) m_NoWorlds (by exact rfl)) (Za0 (Zh9 (v:=.ref aTwice) (by exact rfl) m_Twice (by exact rfl)) Za1))))) Za1))))
 (Za8 (pst 2 sc_au0.nd (Ze1 (Za0 (Zd1 (Xa6 (K:=K) rfl) (by exact rfl) m_isinstance Zd7 (Za0 (pvM 3) (Za0 (Zh9 (v:=.ref aKenError) (by exact rfl) m_KenError (by exact rfl)) Za1))) (Za0 (Zd1 (Xa7 (K:=K) rfl) (by exact rfl) m_isinstance Zd7 (Za0 (pvM 3) (Za0 (Zq6 (v:=.ty "ValueError") (by exact rfl) m_ValueError Ya9 (by exact rfl)) Za1))) (Za0 (pvM 4) (Za0 (pvM 5) Za1)))))))))))
 (Za8 (Zb3 (Zi0 (Zz5 (Zl3 J)) (pvM 2) (Ze1 (Za0 Zk3 (Za0 Zk3 (Za0 Zk3 (Za0 Zk3 Za1))))) (Zl2 _)))))),?_⟩
 refine sqt (fun b f=>b=[some v,some (.int i),some .non,none,none,none]∧f=H) ?_ ?_
 ·intro C x
  walk_at "1";exact x _ _ ⟨rfl,rfl⟩
 rintro q1 H2 ⟨rfl,rfl⟩;refine sqt (fun b f=>∃ p B y,b=[some v,some (.int i),some (.ref p),none,B,y]∧SameV (tb.map (·.1)) H2 f∧Tabs f tb∧f p=some (.lst Xn8)) ?_ ?_
 ·intro C x
  walk_at "1";refine⟨v,t,i,rfl,hT,X,N,L,n,u,fun _ e J1 J2 o l R=>?_,fun j m ej Z=>?_⟩
  ·obtain⟨x1,S,T,g⟩:=R
   refine⟨e,T,rfl,g,?_⟩;have D:∀ J3:Hp,Xn2 J3 none:=fun _ _ z=>nomatch z;walk_at "1";refine⟨by decide,fun p r=>?_⟩;have G:=Za6 r (HO.tup [V.ref aLarge,V.ref aNoText,V.ref aNoLine,V.ref aNoRow,V.ref aNoRule,V.ref aNotShown]);refine⟨aNoTurning,none,T,G _ _ g.1,D _,z_NoTurning,[aLarge,aNoText,aNoLine,aNoRow,aNoRule,aNotShown],Za4,false,i_3,by decide,fun I c=>?_⟩;have a:=G.trans (Za6 c (HO.tup [V.ref aNoKind,V.ref aNoWish,V.ref aNoWorlds,V.ref aTwice]));refine⟨aNoTurning,none,T,a _ _ g.1,D _,z_NoTurning,[aNoKind,aNoWish,aNoWorlds,aTwice],Za4,false,i_4,?_⟩;have d:=a _ _ g.1;generalize upd (upd J2 p _) I _=H6 at a d ⊢;refine⟨aNoTurning,none,T,d,D _,z_NoTurning,true,i_1,aNoTurning,none,T,d,D _,z_NoTurning,true,i_2,by decide,fun t Y=>?_⟩;have F:=(S.trans a).trans (Za6 Y (.lst Xn8));exact x _ _ ⟨t,_,_,rfl,o.trans F.toV,l.keep F,Za4⟩
  ·have:=(List.getElem?_eq_some_iff.mp Z).1
   exact absurd ⟨by omega,by omega⟩ M
 rintro q0 H3 ⟨p,B,y,rfl,o,l,r⟩;walk_at "1";refine⟨by decide,fun I c=>?_⟩;have a:=Za6 c (.lst Xn8);refine⟨_,Xc9 (a _ _ r),_,Xc9 Za4,rfl,rfl,Nat.le_trans (Nat.min_le_left _ _) (by decide),?_⟩;rw[if_neg Bool.false_ne_true,show (PyData.list [.bool true,.bool true,.bool false,.bool false]).eqv (.list [.bool true,.bool true,.bool false,.bool false])=true from rfl];exact q _ (o.trans a.toV) (l.keep a)
theorem sc_bd0:FnScope ["_law_script","_law_words_here","_law_given_here","_law_term","_law_paths_here","_law_many","_law_number","_law_path","_law_far"] ["_law_script"] (Za5 (top 58)):=scm (by decide +kernel)
theorem Xs5 {P:Program} {w:World} {X:Cx}:Yn7 (CXe P w) X E0:=fun _ _ _ _ _ _ _ h=>by
 obtain⟨c,C,e,T,f,_,_,_,_,_,g,h⟩:=h;exact (h none (upd f c (ExcO c C e none)) ⟨fun b o d a _=>by rw[Zb1 a];exact d,fun t q=>nomatch q⟩ ⟨Za4,fun t q=>nomatch q⟩).elim
theorem Xr4 {H H0:Hp} {l0 l:Addr} {us:List V} {ps:List (List Nat)} (h:H l=some (.lst us)) (hp:Paired (IsPb H0 l0 H) us ps):Dn K H (.ref l) (.list (ps.map fun ρ=>.list (ρ.map fun (n:Nat)=>PyData.int (n:Nat)))):=by
 rw[Dn];refine⟨l,us,rfl,SqL.of h,?_⟩;clear h
 induction hp with
 | nil=>exact dnAll_nil
 | cons a t ih =>
  obtain⟨b,rfl,c,_⟩:=a;exact dnAll_cons (Xk1 c) ih
theorem Yk5:∀ ps:List (List Nat),PyData.canLayAll0 (ps.map fun ρ=>PyData.list (ρ.map fun (n:Nat)=>PyData.int (n:Nat)))=true
 | []=>rfl
 | ρ :: ps=>by
  show (PyData.canLayAll0 (ρ.map fun (n:Nat)=>PyData.int (n:Nat))&&_)=true;rw[Yg1,Yk5 ps];rfl
def Ye3 (K:W.Frag) (tb:TBs):Sp:=fun vs H Q _=>∃ (a:Addr) (ns:List Int),vs=[.ref a]∧SqL K H a (ns.map V.int)∧ns.length≤63∧Tabs H tb∧∀ H',Q (.bl true) H'
theorem Wg2 {k:Nat} {tb:TBs} {aNoTurning aLarge:Addr} {f_bd0:Addr} {fd_bd0:FuncData} (F_bd0:Fun K "law" "law" (top 58) f_bd0 fd_bd0) (C__law_words:Cl P w K mg base k "_law_words" ["_law_cell_here","_law_many"] (Yu4)) (C__law_cell:Cl P w K mg base k "_law_cell" ["_law_script","_law_k"] (Yo8 K)) (C__law_given:Cl P w K mg base k "_law_given" ["_law_script","_law_words_here"] (Yi8 K)) (C__law_made:Cl P w K mg base k "_law_made" pq3 (Zf8 K 0 10 60)) (C__law_paths:Cl P w K mg base k "_law_paths" pq17 (Zn1 K 40)) (C__law_is_turned:Cl P w K mg base k "_law_is_turned" pq9 (Zj3 K 40)) (C_turnings:Cl P w K mg base k "turnings" pq27 (Zx8 K)) (C__law_refused:Cl P w K mg base k "_law_refused" ["_law_term","_law_number"] (Zy1 K tb)) {f_bm0:Addr} {fd_bm0:FuncData} (G_bm0:FnOk P w K mg base (CXe P w) k f_bm0 fd_bm0 pq24 (Zn0 K tb aNoTurning aLarge)) (m_bm0:MgI mg "turned" f_bm0) (k_bm0:KpI K f_bm0) (b_bm0:Binds K fd_bm0 pq24 []) (m_len:mg "len"=none) (m_enumerate:mg "enumerate"=none) (m_isinstance:mg "isinstance"=none) (m_int:mg "int"=none) (m_bool:mg "bool"=none):Fk0 P w K mg base (k+1) f_bd0 fd_bd0 ["_law_script"] (Ye3 K tb):=by
 refine F_bd0.ok sc_bd0 (fun vs H Q E h=>?_) (fun cdv A v0 s H vs Q E B h=>?_)
 ·obtain⟨a,O,rfl,_⟩:=h
  rfl
 obtain⟨a,O,rfl,hS,q0,z6,q⟩:=h;have cn:=Wa2 O
 refine⟨_,(Za3 (pst 1 sc_bd0.nd (Zc2 C__law_words B (Za0 (Zc2 C__law_cell B (Za0 (pvM 0) (Za0 Za2 Za1))) (Za0 (Zb6 Ze0 Za2 (Zb6 Zc6 (Zc2 C__law_cell B (Za0 (pvM 0) (Za0 Za2 Za1))) Za2)) Za1))))
 (Za3 (pst 2 sc_bd0.nd (Zc2 C__law_given B (Za0 (pvM 0) (Za0 (pvM 1) Za1))))
 (Za3 (pst 3 sc_bd0.nd (pxt (Zc2 C__law_made B (Za0 (Zc2 C__law_cell B (Za0 (pvM 0) (Za0 Za2 Za1))) (Za0 (Zb6 Ze0 Za2 (Zb6 Zc6 (Zc2 C__law_cell B (Za0 (pvM 0) (Za0 Za2 Za1))) Za2)) (Za0 (pvM 2) (Za0 (pvM 1) Za1))))) Za2))
 (Za3 (pst 4 sc_bd0.nd (Zc2 C__law_paths B (Za0 (pvM 3) (Za0 (Ze1 Za1) Za1))))
 (Za3 (pst 5 sc_bd0.nd (Zc2 C_turnings B (Za0 (pvM 3) Za1)))
 (Za3 (Zd2 ((Yk3 (Zk8 (Zj7 (Zd1 Zp3 (by exact rfl) m_isinstance Zd7 (Za0 (pvM 5) (Za0 (Zq6 (v:=.ty "int") (by exact rfl) m_int Zp4 (by exact rfl)) Za1))))) (Yk3 (Zj7 (Zd1 Zp3 (by exact rfl) m_isinstance Zd7 (Za0 (pvM 5) (Za0 (Zq6 (v:=.ty "bool") (by exact rfl) m_bool Ym8 (by exact rfl)) Za1)))) (Yk2 (ptcM (Yq2) (pvM 5) (Zd1 Zc9 (by exact rfl) m_len Zf4 (Za0 (pvM 4) Za1))))))).pt
  (Za8 (Zb3 Zk3))
  Zb4)
 (Za3 (Zp6 PassesOwn.never rfl (Xf1 rfl m_enumerate (Za0 (pvM 4) Za1)) (Zg4 rfl (Zb8 (Zc0 (i:=6) sc_bd0.nd rfl (Or.inl rfl)) (Zb8 (Zc0 (i:=7) sc_bd0.nd rfl (Or.inl rfl)) Ze3)))
  (Za8 (Zd2 (Zk8 (Zj7 (Zc2 C__law_is_turned B (Za0 (Yf5 G_bm0 B (by exact rfl) m_bm0 k_bm0 b_bm0 .nil Xs5 (Za0 (pvM 3) (Za0 (pvM 6) Za1))) (Za0 (pvM 3) (Za0 (pvM 7) Za1))))))
  (Za8 (Zb3 Zk3))
  Zb4)))
 (Za3 (pst 8 sc_bd0.nd (Zc2 C__law_cell B (Za0 (pvM 0) (Za0 Za2 Za1))))
 (Za3 (Zp6 PassesOwn.never rfl (Zq5 (Ze1 (Za0 (pvM 5) (Za0 (Zb6 Zh2 (Zb6 Zh2 Za2 Za2) (Zb6 Zc6 (pvM 8) Za2)) (Za0 (Zb6 Ze0 (pvM 5) (Zb6 Zc6 (pvM 8) (Zb6 We9 Za2 Za2))) Za1))))) (Zc0 (i:=6) sc_bd0.nd rfl (Or.inl rfl))
  (Za8 (Zd2 (Zk8 (Zj7 (Zc2 C__law_refused B (Za0 (pvM 3) (Za0 (pvM 6) Za1)))))
  (Za8 (Zb3 Zk3))
  Zb4)))
 (Za3 (Zd2 (ptcM (Zz5 (Zl3 B)) (pvM 4) (Ze1 Za1))
  (Za8 (Zb3 Zk3))
  Zb4)
 (Za8 (Zb3 (Zc2 C__law_is_turned B (Za0 (Yf5 G_bm0 B (by exact rfl) m_bm0 k_bm0 b_bm0 .nil Xs5 (Za0 (pvM 3) (Za0 Za2 Za1))) (Za0 (pvM 3) (Za0 (pxl (pvM 4) Za2) Za1)))))))))))))))),?_⟩
 refine sqt (fun d c=>∃ L ws,d=[some (.ref a),some (.ref L),none,none,none,none,none,none,none]∧Same H c∧c L=some (.lst (ws.map V.str))∧Yt2 ws) ?_ ?_
 ·intro C F
  walk_at "1";have b0:=Int.emod_nonneg (cellOf O 1) (show (5:Int)≠0 by decide);have b1:=Int.emod_lt_of_pos (cellOf O 1) (show (0:Int) < 5 by decide);exact⟨_,O,_,rfl,hS,q0,by decide,by decide,_,O,_,rfl,hS,q0,by decide,by decide,_,rfl,by decide,_,_,rfl,cn 0,by omega,by omega,fun r c ws e _ h hw=>F _ _ ⟨r,ws,rfl,e,h,hw⟩⟩
 rintro σ1 H1 ⟨L,ws,rfl,e1,j8,hW⟩;refine sqt (fun d c=>∃ S gs ts,d=[some (.ref a),some (.ref L),some (.ref S),none,none,none,none,none,none]∧Same H1 c∧Gv K c ws L S gs ts∧ts.length≤4) ?_ ?_
 ·intro C F
  walk_at "1";exact⟨_,_,O,ws,rfl,e1.seq hS,q0,SqL.of j8,hW,fun r c gs ts e h hp ho hl=>F _ _ ⟨r,gs,ts,rfl,e,⟨SqL.of (e _ _ j8),hW,h,hp,ho⟩,hl⟩⟩
 rintro v9 H2 ⟨S,gs,ts,rfl,e2,G,hl⟩;have j3:=e1.trans e2;refine sqt (fun d c=>∃ x t,d=[some (.ref a),some (.ref L),some (.ref S),some x,none,none,none,none,none]∧Same H2 c∧IsE K c x t∧t.fine ws∧t.deep≤29∧t.size≤78) ?_ ?_
 ·intro C F
  have b0:=Int.emod_nonneg (cellOf O 6) (show (8:Int)≠0 by decide);have b1:=Int.emod_lt_of_pos (cellOf O 6) (show (0:Int) < 8 by decide);walk_at "1";refine⟨_,O,_,rfl,j3.seq hS,q0,by decide,by decide,_,O,_,rfl,j3.seq hS,q0,by decide,by decide,_,rfl,by decide,?_⟩;generalize cellOf O 6 % 8=j at b0 b1 ⊢;obtain⟨j,rfl⟩:=Int.eq_ofNat_of_zero_le b0;refine⟨_,1+j,S,L,ws,gs,ts,by rw[show (1:Int)+(j:Int)=((1+j:Nat):Int) by omega],cn 7,by omega,by omega,by omega,G,by omega,fun r2 J ej X=>?_⟩;obtain⟨p,x,y,t,g,rfl,h1,h2,h3,h4,h5,h6,h7,h8⟩:=X;exact⟨p,rfl,_,h1,_,rfl,F _ _ ⟨x,t,rfl,ej,h2,h4,Nat.le_trans h5 (Wk8 _ (by omega)),Nat.le_trans h6 (Xv7 _ (by omega))⟩⟩
 rintro v8 H3 ⟨x,t,rfl,e3,hx,tf,td,tz⟩;have y9:=j3.trans e3;have q3:=Zj1 (t:=t) (f:=0) (n:=0) (π:=[]);have lc:=Paired.length q3;have j6:t.all Tm.ok:=tf.ok hW.2.2
 have j4:∀ m∈idxT 0 (t.pre 0),(t.tpm m 0).size≤1000∧(t.tpm m 0).deep≤120:=fun m X=>by
  obtain⟨i,hi,rfl⟩:=List.getElem_of_mem X;obtain⟨_,_,ρ,_,c2,_,_,c5⟩:=paired_get q3 (List.getElem?_eq_getElem hi);rw[c2];obtain⟨g1,g2⟩:=Zu7 c5;exact⟨Wn3 g1 tz,by omega⟩
 refine sqt (fun d c=>∃ T l l0,d=[some (.ref a),some (.ref L),some (.ref S),some x,some (.ref T),none,none,none,none]∧Same H3 c∧c T=some (.lst l)∧Paired (IsPb H3 l0 c) l (t.paths [])) ?_ ?_
 ·intro C F
  walk_at "1";refine⟨by decide,fun l0 h0=>?_⟩;have s0:=Za6 h0 (.lst []);refine⟨x,t,l0,[],rfl,IsE.keep hx s0.keepT,Za4,by omega,by omega,by decide,fun r c l e _ h hp=>F _ _ ⟨r,l,l0,rfl,s0.trans e,h,Paired.mapP hp fun u ρ z=>?_⟩⟩;obtain⟨b,z1,z2,z3⟩:=z;exact⟨b,z1,z2,z3.imp id fun z=>s0.free z⟩
 rintro v7 H4 ⟨T,l,l0,rfl,e4,q4,j0⟩;have z4:=y9.trans e4;have q9:=IsE.keep hx e4.keepT;have lu:=Paired.length j0
 have li:(idxT 0 (t.pre 0)).length=l.length:=by rw[lc,lu]
 refine sqt (fun d c=>d=[some (.ref a),some (.ref L),some (.ref S),some x,some (.ref T),some (.int (l.length:Nat)),none,none,none]∧Same H4 c) ?_ ?_
 ·intro C F
  walk_at "1";refine⟨x,t,rfl,q9,by omega,fun c e=>F _ _ ⟨by rw[li],e⟩⟩
 rintro v6 H5 ⟨rfl,Y⟩;refine sqt (fun d c=>d=[some (.ref a),some (.ref L),some (.ref S),some x,some (.ref T),some (.int (l.length:Nat)),none,none,none]∧c=H5) ?_ ?_
 ·intro C F
  walk_at "1";refine⟨_,.of (.int _),true,Zw7 K "int",?_⟩;rw[if_neg (by decide)];refine⟨_,.of (.int _),false,show W.kitOne K (.type "int") (.type "bool")=some false from rfl,?_⟩;rw[if_neg (by decide)];refine⟨l,.inl (SqL.of (Y _ _ q4)),?_⟩;rw[decide_eq_true rfl,if_neg (by decide)];exact F _ _ ⟨rfl,rfl⟩
 rintro v5 H6 ⟨rfl,rfl⟩;have e46:=Y
 have q5:∀ {J:Hp} {Z:VK} {j:Nat} {ρ:List Nat},(t.paths [])[j]?=some ρ→SameV (tb.map (·.1)) H6 J→Tabs J tb→(∀ r J',SameV (tb.map (·.1)) H6 J'→Tabs J' tb→IsE K J' r (t.tat ρ)→t.okp ρ→Z r J')→Zn0 K tb aNoTurning aLarge [x,.int (j:Nat)] J Z E0:=fun {J Z j ρ} hj o tj fin=>by
  have y8:=(List.getElem?_eq_some_iff.mp hj).1
  have j9:j < (idxT 0 (t.pre 0)).length:=by rw[lc];exact y8
  obtain⟨j5,q8,ρ2,c1,c2,_,_,c5⟩:=paired_get q3 (List.getElem?_eq_getElem j9);rw[hj] at q8;cases q8;rw[List.nil_append] at c1;subst c1;have X:=List.getElem?_eq_getElem j9;generalize (idxT 0 (t.pre 0))[j]=m at X c2;have bm:=j4 m (List.mem_of_getElem? X);refine⟨x,t,(j:Nat),rfl,IsE.keep q9 (Y.keepT.trans (SameT.keepT o.toT)),by omega,by omega,j6,tj,fun m X=>Nat.le_trans (j4 m X).1 (by decide),fun no=>absurd ⟨by omega,by omega⟩ no,fun j2 m2 ej z0=>?_⟩
  have:j2=j:=by omega
  subst this;rw[X] at z0;cases z0;exact⟨fun _ r J' e tk B=>fin r J' (o.trans e) tk (c2▸B) c5,fun no=>absurd bm no⟩
 have kx:∀ {J:Hp},SameV (tb.map (·.1)) H6 J→IsE K J x t∧SqL K J T l∧∀ (j:Nat) (u:V),l[j]?=some u→∃ ρ b,(t.paths [])[j]?=some ρ∧u=.ref b∧J b=some (.lst (natW ρ)):=fun {J} o=>⟨IsE.keep q9 (Y.keepT.trans (SameT.keepT o.toT)),SameT.seq o.toT (SqL.of (Y _ _ q4)),fun j u R=>by
  obtain⟨ρ,q2,b,z1,z2,_⟩:=paired_get j0 R
  exact⟨ρ,b,q2,z1,o.toT _ _ (fun _ z=>nomatch z) (Y _ _ z2)⟩⟩
 have j7:∀ {J:Hp} {Z:VK} {r:V} {b:Addr} {ρ:List Nat},SameV (tb.map (·.1)) H6 J→IsE K J r (t.tat ρ)→t.okp ρ→J b=some (.lst (natW ρ))→(∀ J',Same J J'→Z (.bl true) J')→Zj3 K 40 [r,x,.ref b] J Z E0:=fun {J Z r b ρ} o B c5 hb fin =>
  ⟨r,x,t,b,ρ,ws,rfl,B,(kx o).1,hb,c5,tf,hW.2.2,by omega,by omega,fin⟩
 refine sqt (fun d c=>∃ I U,d=[some (.ref a),some (.ref L),some (.ref S),some x,some (.ref T),some (.int (l.length:Nat)),I,U,none]∧SameV (tb.map (·.1)) H6 c∧Tabs c tb) ?_ ?_
 ·intro C F
  walk_at "2";refine⟨⟨l,SqL.of (Y _ _ q4)⟩,?_⟩;refine Xr1 (D:={ nx:=C,rt:=Q }) (xs:=l) (fun i d c=>∃ I U,d=[some (.ref a),some (.ref L),some (.ref S),some x,some (.ref T),some (.int (l.length:Nat)),I,U,none]∧SameV (tb.map (·.1)) H6 c∧Tabs c tb) ⟨none,none,rfl,(Same.refl _).toV,z6.keep (z4.trans Y)⟩ (fun i d c _ ⟨_,_,_,o,_⟩=>(kx o).2.1) (fun i u d c T0 R hT0 ⟨I,U,e0,o,tk⟩=>?_) (fun d c ⟨I,U,e0,o,tk⟩=>F _ _ ⟨I,U,e0,o,tk⟩);subst e0;have s0:=Za6 hT0 (.tup [.int (i:Nat),u]);have M:=o.trans s0.toV;obtain⟨ρ,b,g1,rfl,g3⟩:=(kx M).2.2 i u R;have hq:SqT K (upd c T0 (.tup [.int (i:Nat),.ref b])) T0 [.int (i:Nat),.ref b]:=.inl (.inl Za4);generalize upd c T0 (.tup [.int (i:Nat),.ref b])=J0 at s0 M g3 hq ⊢;walk_at "1";refine⟨_,hq,rfl,_,_,rfl,_,_,rfl,rfl,q5 g1 M (tk.keep s0) fun r J q1 q6 y6 c5=>j7 q1 y6 c5 ?_ fun J' s'=>⟨true,rfl,?_⟩⟩
  ·obtain⟨j5,b',y1,y2,y3⟩:=(kx q1).2.2 i _ R
   cases y2;rw[g1] at y1;cases y1;exact y3
  ·rw[if_neg (by decide)]
   exact⟨q1.trans s'.toV,q6.keep s'⟩
 rintro v4 H7 ⟨I,U,rfl,q7,y0⟩;refine sqt (fun d c=>∃ f:Nat,d=[some (.ref a),some (.ref L),some (.ref S),some x,some (.ref T),some (.int (l.length:Nat)),I,U,some (.int (f:Nat))]∧c=H7) ?_ ?_
 ·intro C F
  walk_at "1";refine⟨_,O,_,rfl,SameT.seq q7.toT ((z4.trans Y).seq hS),q0,by decide,by decide,?_⟩;have c8:=cn 8;generalize cellOf O 8=f at c8 ⊢;obtain⟨f,rfl⟩:=Int.eq_ofNat_of_zero_le c8;exact F _ _ ⟨f,rfl,rfl⟩
 rintro v3 H8 ⟨f,rfl,rfl⟩;refine sqt (fun d c=>∃ I,d=[some (.ref a),some (.ref L),some (.ref S),some x,some (.ref T),some (.int (l.length:Nat)),I,U,some (.int (f:Nat))]∧SameV (tb.map (·.1)) H6 c∧Tabs c tb) ?_ ?_
 ·intro C F
  walk_at "2";refine⟨by decide,⟨by decide,by decide⟩,by decide,by decide,fun p hp=>?_⟩;have a0:=Int.emod_nonneg (f:Int) (show (9:Int)≠0 by decide);have a1:=Int.emod_nonneg (f:Int) (show (10:Int) ^ Int.toNat 9≠0 by decide);generalize (f:Int) % 9=u1 at a0 ⊢;generalize (f:Int) % 10 ^ Int.toNat 9=u2 at a1 ⊢;have sp:=Za6 hp (.lst [V.int (l.length:Nat),V.int (0 - 1 - u1),V.int ((l.length:Nat)+u2)]);have j1:upd H8 p (.lst [V.int (l.length:Nat),V.int (0 - 1 - u1),V.int ((l.length:Nat)+u2)]) p=some (.lst [V.int (l.length:Nat),V.int (0 - 1 - u1),V.int ((l.length:Nat)+u2)]):=Za4;generalize upd H8 p _=J0 at sp j1 ⊢;refine⟨⟨_,SqL.of j1⟩,?_⟩;refine Zo0 (D:={ nx:=C,rt:=Q }) (xs:=[V.int (l.length:Nat),V.int (0 - 1 - u1),V.int ((l.length:Nat)+u2)]) (fun _ d c=>∃ I,d=[some (.ref a),some (.ref L),some (.ref S),some x,some (.ref T),some (.int (l.length:Nat)),I,U,some (.int (f:Nat))]∧SameV (tb.map (·.1)) J0 c∧Tabs c tb) ⟨I,rfl,(Same.refl _).toV,y0.keep sp⟩ (fun i d c _ ⟨_,_,o,_⟩=>SameT.seq o.toT (SqL.of j1)) (fun i u d c R ⟨I,e0,o,tk⟩ N hN=>?_) (fun d c ⟨I,e0,o,tk⟩=>F _ _ ⟨I,e0,(q7.trans sp.toV).trans o,tk⟩);subst e0;have M:=(q7.trans sp.toV).trans o
  obtain⟨z,rfl,hz⟩:∃ z:Int,u=.int z∧¬ (0≤z∧z < ((idxT 0 (t.pre 0)).length:Nat)):=by
   rw[li]
   match i,R with
   | 0,R=>cases R;exact⟨_,rfl,by omega⟩
   | 1,R=>cases R;exact⟨_,rfl,by omega⟩
   | 2,R=>cases R;exact⟨_,rfl,by omega⟩
   | i+3,R=>cases i<;>cases R
  walk_at "1";refine⟨x,t,z,rfl,(kx M).1,by omega,by omega,j6,tk,fun m X=>Nat.le_trans (j4 m X).1 (by decide),hz,fun J2 q1 q6=>⟨true,rfl,?_⟩⟩;rw[if_neg (by decide)];exact hN _ _ ⟨_,rfl,o.trans q1,q6⟩
 rintro v2 H9 ⟨z8,rfl,y4,z9⟩;refine sqt (fun d c=>d=[some (.ref a),some (.ref L),some (.ref S),some x,some (.ref T),some (.int (l.length:Nat)),z8,U,some (.int (f:Nat))]∧SameV (tb.map (·.1)) H6 c∧Tabs c tb∧t.paths []≠[]) ?_ ?_
 ·intro C F
  walk_at "1";refine⟨by decide,fun p0 h0=>?_⟩;have s0:=Za6 h0 (.lst []);have M:=y4.trans s0.toV;have y5:upd H9 p0 (.lst []) T=some (.lst l):=M.toT _ _ (fun _ z=>nomatch z) (Y _ _ q4);refine⟨_,Xr4 (H0:=H3) (l0:=l0) y5 (Paired.mapP j0 fun u ρ ⟨b,z1,z2,z3⟩=>⟨b,z1,M.toT _ _ (fun _ z=>nomatch z) (Y _ _ z2),z3⟩),.list [],by rw[Dn];exact⟨p0,_,rfl,SqL.of Za4,dnAll_nil⟩,Yk5 _,rfl,Nat.le_trans (Nat.min_le_right _ _) (by decide),?_⟩;rw[if_neg Bool.false_ne_true,Xg8]
  by_cases hz:t.paths []=[]
  ·rw[if_pos (by rw[hz];rfl)]
   exact q _
  ·rw[if_neg (by cases hq:t.paths [] with | nil=>exact absurd hq hz | cons _ _=>simp)]
   exact F _ _ ⟨rfl,M,z9.keep s0,hz⟩
 rintro v1 H10 ⟨rfl,z7,z5,y7⟩;walk_at "1"
 obtain⟨ρ,q2⟩:∃ ρ,(t.paths [])[0]?=some ρ:=by
  cases hq:t.paths [] with
  | nil=>exact absurd hq y7
  | cons ρ _=>exact⟨ρ,rfl⟩
 have h0:0 < l.length:=by rw[lu];exact (List.getElem?_eq_some_iff.mp q2).1
 refine q5 (j:=0) q2 z7 z5 fun r J o tk B c5=>?_;obtain⟨_,k2,k3⟩:=kx o;obtain⟨j5,b,g1,g2,g3⟩:=k3 0 _ (List.getElem?_eq_getElem h0);rw[q2] at g1;cases g1;refine⟨l,k2,_,Zb7 (j:=0) (List.getElem?_eq_getElem h0),?_⟩;rw[g2];exact j7 o B c5 g3 fun J3 _=>q _
noncomputable def ask:Hd.Ask:=⟨[35,36,37,38,39,40,41,42,43,44,45,46,47,48,49,50,51,52,53,54,55,56,29,31,15,16,17,18,23,24,20,21,30,33,32,57,58],[],[],[],[Str.ofString "len",Str.ofString "range",Str.ofString "max",Str.ofString "isinstance",Str.ofString "tuple",Str.ofString "int",Str.ofString "bool",Str.ofString "enumerate",Str.ofString "reversed",Str.ofString "list",Str.ofString "zip",Str.ofString "sorted",Str.ofString "ValueError"]⟩
noncomputable def cask:Hd.ClsAsk:=⟨[1,2,3,4,5,6,7,8,9,10,11,12],[(7,1),(8,1)],[(7,[8,2,5,12,4,9]),(7,[6,11,3,10])]⟩
noncomputable def mask:Hd.MoreAsk:=⟨[],[(Str.ofString "MOST_PARTS",1000),(Str.ofString "MOST_DEEP",120)]⟩
noncomputable def tas:List Nat:=[18,23,24,21,33]
noncomputable def q:Program:=W.view pg [1,2,3,4,5,6,7,8,9,10,11,12,14,15,16,17,18,20,21,23,24,26,27,28,29,30,31,32,33,35,36,37,38,39,40,41,42,43,44,45,46,47,48,49,50,51,52,53,54,55,56,57,58]
noncomputable def loose:List Str:=[Str.ofString "INNER",Str.ofString "TURNING"]
open PySem.W.Fast
theorem h1 (w:World):(fun os=>Hd.pre pg w os)=fun os=>Hd.preTo pg w os:=by
 rw[hdPre_eq,hdPreTo_eq]
 kernel_rfl
theorem h2 (w:World):(fun os=>Hd.blk pg w os)=fun os=>Hd.blkTo pg w os:=by
 rw[hdBlk_eq,hdBlkTo_eq]
 kernel_rfl
theorem h3f (w:World):(fun os=>Hd.ev pg q loose [] (Hd.obs9 pg ask cask mask tas) 4181 ⟨334,0,351,78⟩ (World.withFollow w "special-get-raises" false) os)=fun _=>Hd.evTo pg q loose (Hd.val9 pg ask mask) ⟨334,0,351,78⟩ (World.withFollow w "special-get-raises" false):=by
 rw[hdEv_eq,hdEvTo_eq,hdObs9_eq,hdVal9_eq]
 kernel_rfl
theorem h3t (w:World):(fun os=>Hd.ev pg q loose [] (Hd.obs9 pg ask cask mask tas) 4181 ⟨334,0,351,78⟩ (World.withFollow w "special-get-raises" true) os)=fun _=>Hd.evTo pg q loose (Hd.val9 pg ask mask) ⟨334,0,351,78⟩ (World.withFollow w "special-get-raises" true):=by
 rw[hdEv_eq,hdEvTo_eq,hdObs9_eq,hdVal9_eq]
 kernel_rfl
theorem h3 (w:World):(fun os=>Hd.ev pg q loose [] (Hd.obs9 pg ask cask mask tas) 4181 ⟨334,0,351,78⟩ w os)=fun _=>Hd.evTo pg q loose (Hd.val9 pg ask mask) ⟨334,0,351,78⟩ w :=
 W.byRow2 "special-get-raises" (P:=fun w=>(fun os=>Hd.ev pg q loose [] (Hd.obs9 pg ask cask mask tas) 4181 ⟨334,0,351,78⟩ w os)=fun _=>Hd.evTo pg q loose (Hd.val9 pg ask mask) ⟨334,0,351,78⟩ w) h3f h3t w
theorem lft:W.LeftO pg q loose (fun s=>W.xlAt q [] s&&W.recOk [] s) (Hd.hook9 pg ask cask mask tas).obs (Hd.hook9 pg ask cask mask tas).val 8486 :=
 Hd.left (by kernel_rfl) rfl (fun s=>by kernel_rfl) h1 h2 h3 rfl
theorem Zu2:Hd.nm (Hd.stAt pg 18)="changed":=by kernel_rfl
theorem Yy7 (K:W.Frag):(Hd.tabs pg tas K).getD 0 0=Hd.tabAt K "changed":=congrArg (Hd.tabAt K) Zu2
theorem Yy5 (K:W.Frag):Hd.tabAt K "changed"∈Hd.tabs pg tas K:=Zu2▸(.head _)
theorem Zz9:Hd.nm (Hd.stAt pg 23)="lifted":=by kernel_rfl
theorem Xd3 (K:W.Frag):(Hd.tabs pg tas K).getD 1 0=Hd.tabAt K "lifted":=congrArg (Hd.tabAt K) Zz9
theorem Xd1 (K:W.Frag):Hd.tabAt K "lifted"∈Hd.tabs pg tas K:=Zz9▸(.tail _ (.head _))
theorem Xg0:Hd.nm (Hd.stAt pg 24)="put":=by kernel_rfl
theorem Wb4 (K:W.Frag):(Hd.tabs pg tas K).getD 2 0=Hd.tabAt K "put":=congrArg (Hd.tabAt K) Xg0
theorem Wb3 (K:W.Frag):Hd.tabAt K "put"∈Hd.tabs pg tas K:=Xg0▸(.tail _ (.tail _ (.head _)))
theorem Zn8:Hd.nm (Hd.stAt pg 21)="term_deep":=by kernel_rfl
theorem Yh9 (K:W.Frag):(Hd.tabs pg tas K).getD 3 0=Hd.tabAt K "term_deep":=congrArg (Hd.tabAt K) Zn8
theorem Yh8 (K:W.Frag):Hd.tabAt K "term_deep"∈Hd.tabs pg tas K:=Zn8▸(.tail _ (.tail _ (.tail _ (.head _))))
theorem Zz8:Hd.nm (Hd.stAt pg 33)="turned":=by kernel_rfl
theorem Xd2 (K:W.Frag):(Hd.tabs pg tas K).getD 4 0=Hd.tabAt K "turned":=congrArg (Hd.tabAt K) Zz8
theorem Xd0 (K:W.Frag):Hd.tabAt K "turned"∈Hd.tabs pg tas K:=Zz8▸(.tail _ (.tail _ (.tail _ (.tail _ (.head _)))))
theorem Wa4 {l:W.OpenLaw} {w:World} {K:W.Frag} {h:Heap} {mg:Str→Option Value} {fa bm:Addr} (X:K.In h) (G:h.Ns mainGlobals mg) (hfa:MgI mg "law" fa) (E:Hd.obsK pg ask K=Hd.valK pg ask w.params) (D:Hd.chk pg cask K=true) (E2:Hd.iniK pg mask K=Hd.iniV pg mask) (D2:Hd.chkM pg mask K=true) (hc:Hd.codesOk pg tas K=true) (hIn:Hd.inSeen K "INNER"=Hd.inWant w.params Hd.innK) (hTr:Hd.trSeen K "TURNING"=Hd.trWant w.params Hd.trK) (hNd:(Hd.tabs pg tas K).Nodup) (hblt:BltK K mg bm) (nT:∀ T∈Hd.tabs pg tas K,bm≠T) :
  ∃ fd:FuncData,(∀ (s:Shared) (v:Value),BindsTo s fd ⟨[v],[]⟩ [("_law_script",v)])∧∀ base:Heap,K.In base→base.Ns mainGlobals mg→FnOk l.prog w K mg base CX0 126 fa fd ["_law_script"] ((fun K=>Ye3 K (tb5 (Hd.tabAt K "changed") (Hd.tabAt K "lifted") (Hd.tabAt K "put") (Hd.tabAt K "term_deep") (Hd.tabAt K "turned"))) K):=by
 obtain⟨f_as0,fd_as0,t,F_as0,y,B⟩:=(show Df K mg "_law_mix" (top 35) ["_law_cell_here","_law_k"] from Hd.df2 X G E 35).ex;obtain⟨f_ah0,fd_ah0,v7,F_ah0,k_ah0,b_ah0⟩:=(show Df K mg "_law_cell" (top 36) ["_law_script","_law_k"] from Hd.df2 X G E 36).ex;obtain⟨f_bb0,fd_bb0,m_bb0,F_bb0,k_bb0,b_bb0⟩:=(show Df K mg "_law_words" (top 37) ["_law_cell_here","_law_many"] from Hd.df2 X G E 37).ex;obtain⟨f_ap0,fd_ap0,v3,F_ap0,k_ap0,b_ap0⟩:=(show Df K mg "_law_leaf" (top 38) ["_law_cell_here","_law_words_here"] from Hd.df2 X G E 38).ex;obtain⟨f_az0,fd_az0,r,F_az0,q5,A⟩:=(show Df K mg "_law_statement" (top 39) ["_law_cell_here","_law_size_here","_law_words_here"] from Hd.df3 X G E 39).ex;obtain⟨f_aq0,fd_aq0,v2,F_aq0,k_aq0,b_aq0⟩:=(show Df K mg "_law_lifted" (top 40) ["_law_term","_law_own"] from Hd.df2 X G E 40).ex;obtain⟨f_ay0,fd_ay0,m_ay0,F_ay0,k_ay0,b_ay0⟩:=(show Df K mg "_law_size" (top 41) ["_law_statement_here"] from Hd.df1 X G E 41).ex;obtain⟨f_ax0,fd_ax0,m_ax0,F_ax0,k_ax0,b_ax0⟩:=(show Df K mg "_law_simple" (top 42) ["_law_cell_here","_law_given_here","_law_words_here"] from Hd.df3 X G E 42).ex;obtain⟨f_aw0,fd_aw0,m_aw0,F_aw0,k_aw0,b_aw0⟩:=(show Df K mg "_law_sided" (top 43) ["_law_cell_here","_law_size_here","_law_given_here","_law_words_here"] from Hd.df4 X G E 43).ex;obtain⟨f_ai0,fd_ai0,m_ai0,F_ai0,k_ai0,b_ai0⟩:=(show Df K mg "_law_chosen" (top 44) ["_law_cell_here","_law_size_here","_law_given_here","_law_words_here"] from Hd.df4 X G E 44).ex;obtain⟨f_ba0,fd_ba0,m_ba0,F_ba0,k_ba0,b_ba0⟩:=(show Df K mg "_law_used" (top 45) ["_law_cell_here","_law_size_here","_law_given_here","_law_words_here"] from Hd.df4 X G E 45).ex;obtain⟨f_af0,fd_af0,m_af0,F_af0,k_af0,b_af0⟩:=(show Df K mg "_law_any" (top 46) ["_law_cell_here","_law_size_here","_law_given_here","_law_words_here"] from Hd.df4 X G E 46).ex;obtain⟨f_ar0,fd_ar0,v1,F_ar0,k_ar0,b_ar0⟩:=(show Df K mg "_law_made" (top 47) ["_law_cell_here","_law_size_here","_law_given_here","_law_words_here"] from Hd.df4 X G E 47).ex;obtain⟨f_aj0,fd_aj0,m_aj0,F_aj0,k_aj0,b_aj0⟩:=(show Df K mg "_law_given" (top 48) ["_law_script","_law_words_here"] from Hd.df2 X G E 48).ex;obtain⟨f_ak0,fd_ak0,u,F_ak0,z,C⟩:=(show Df K mg "_law_inner_of" (top 49) ["_law_term"] from Hd.df1 X G E 49).ex;obtain⟨f_av0,fd_av0,q0,F_av0,q6,j2⟩:=(show Df K mg "_law_shaped" (top 50) ["_law_found","_law_term"] from Hd.df2 X G E 50).ex;obtain⟨f_al0,fd_al0,v6,F_al0,k_al0,b_al0⟩:=(show Df K mg "_law_is_at" (top 51) ["_law_found","_law_number"] from Hd.df2 X G E 51).ex;obtain⟨f_am0,fd_am0,q1,F_am0,k_am0,j3⟩:=(show Df K mg "_law_is_lifted" (top 52) ["_law_found","_law_term","_law_by","_law_own"] from Hd.df4 X G E 52).ex;obtain⟨f_an0,fd_an0,v5,F_an0,k_an0,b_an0⟩:=(show Df K mg "_law_is_put" (top 53) ["_law_found","_law_term","_law_other","_law_own"] from Hd.df4 X G E 53).ex;obtain⟨f_ag0,fd_ag0,m_ag0,F_ag0,k_ag0,b_ag0⟩:=(show Df K mg "_law_can_turn" (top 54) ["_law_term"] from Hd.df1 X G E 54).ex;obtain⟨f_at0,fd_at0,v0,F_at0,k_at0,b_at0⟩:=(show Df K mg "_law_paths" (top 55) ["_law_term","_law_path"] from Hd.df2 X G E 55).ex;obtain⟨f_ao0,fd_ao0,v4,F_ao0,k_ao0,b_ao0⟩:=(show Df K mg "_law_is_turned" (top 56) ["_law_found","_law_term","_law_path"] from Hd.df3 X G E 56).ex;obtain⟨f_bq0,fd_bq0,m_bq0,F_bq0,k_bq0,b_bq0⟩:=(show Df K mg "turns" (top 29) ["term"] from Hd.df1 X G E 29).ex;obtain⟨f_bo0,fd_bo0,y8,F_bo0,k_bo0,b_bo0⟩:=(show Df K mg "turning_places" (top 31) ["pieces"] from Hd.df1 X G E 31).ex;obtain⟨f_bi0,fd_bi0,y9,F_bi0,k_bi0,b_bi0⟩:=(show Df K mg "standing" (top 15) ["term"] from Hd.df1 X G E 15).ex;obtain⟨f_bk0,fd_bk0,m_bk0,F_bk0,k_bk0,b_bk0⟩:=(show Df K mg "term_folded" (top 16) ["pieces","of_piece"] from Hd.df2 X G E 16).ex;obtain⟨f_br0,fd_br0,m_br0,F_br0,k_br0,b_br0⟩:=(show Df K mg "with_inner" (top 17) ["piece","inner"] from Hd.df2 X G E 17).ex;obtain⟨f_bl0,fd_bl0,m_bl0,F_bl0,k_bl0,b_bl0⟩:=(show Df K mg "term_parts" (top 20) ["term"] from Hd.df1 X G E 20).ex;obtain⟨f_bn0,fd_bn0,m_bn0,F_bn0,k_bn0,b_bn0⟩:=(show Df K mg "turned_itself" (top 30) ["term"] from Hd.df1 X G E 30).ex;obtain⟨f_bp0,fd_bp0,m_bp0,F_bp0,k_bp0,b_bp0⟩:=(show Df K mg "turnings" (top 32) ["term"] from Hd.df1 X G E 32).ex;obtain⟨f_au0,fd_au0,m_au0,F_au0,k_au0,b_au0⟩:=(show Df K mg "_law_refused" (top 57) ["_law_term","_law_number"] from Hd.df2 X G E 57).ex;obtain⟨f_bd0,oc_bd0,od_bd0,sl_bd0,kV_bd0,dc_bd0,pm_bd0,an_bd0,cd_bd0,ct_bd0,a_bd0,l_bd0,c_bd0,k_bd0⟩:Hd.FnF K "law" (top 58):=Hd.fn_ofx (by kernel_rfl) (Hd.e_fn E (i:=58) (by decide));obtain⟨f_bc0,fd_bc0,a_bc0,F_bc0,j,j7,_,_⟩:Hd.FunTF K "changed" (top 18) (Hd.tabAt K "changed"):=Hd.funT_ofx (by kernel_rfl) (Hd.e_fn E (i:=18) (by decide)) (Hd.t_code hc (by decide));have m_bc0:=W.mg_of X G a_bc0;have k_bc0:=j.kp
 have b_bc0:=j.binds (ps:=["term","of_at"]) fun _ _ _ _ _ _ Y hl=>match Y,hl with | [_,_],_=>rfl
 have q7:=fun h k=>hblt.at (nT _ (Yy5 K)) h k;obtain⟨f_be0,fd_be0,a_be0,F_be0,q,z5,_,_⟩:Hd.FunTF K "lifted" (top 23) (Hd.tabAt K "lifted"):=Hd.funT_ofx (by kernel_rfl) (Hd.e_fn E (i:=23) (by decide)) (Hd.t_code hc (by decide));have m_be0:=W.mg_of X G a_be0;have k_be0:=q.kp
 have b_be0:=q.binds (ps:=["term","by"]) fun _ _ _ _ _ _ Y hl=>match Y,hl with | [_,_],_=>rfl
 have z0:=fun h k=>hblt.at (nT _ (Xd1 K)) h k;obtain⟨f_bh0,fd_bh0,a_bh0,F_bh0,z2,v_put,_,_⟩:Hd.FunTF K "put" (top 24) (Hd.tabAt K "put"):=Hd.funT_ofx (by kernel_rfl) (Hd.e_fn E (i:=24) (by decide)) (Hd.t_code hc (by decide));have m_bh0:=W.mg_of X G a_bh0;have k_bh0:=z2.kp
 have b_bh0:=z2.binds (ps:=["term","other"]) fun _ _ _ _ _ _ Y hl=>match Y,hl with | [_,_],_=>rfl
 have hB_put:=fun h k=>hblt.at (nT _ (Wb3 K)) h k;obtain⟨f_bj0,fd_bj0,a_bj0,F_bj0,c,O,_,_⟩:Hd.FunTF K "term_deep" (top 21) (Hd.tabAt K "term_deep"):=Hd.funT_ofx (by kernel_rfl) (Hd.e_fn E (i:=21) (by decide)) (Hd.t_code hc (by decide));have m_bj0:=W.mg_of X G a_bj0;have k_bj0:=c.kp
 have b_bj0:=c.binds (ps:=["term"]) fun _ _ _ _ _ _ Y hl=>match Y,hl with | [_],_=>rfl
 have L:=fun h k=>hblt.at (nT _ (Yh8 K)) h k;obtain⟨f_bm0,fd_bm0,a_bm0,F_bm0,p,z4,_,_⟩:Hd.FunTF K "turned" (top 33) (Hd.tabAt K "turned"):=Hd.funT_ofx (by kernel_rfl) (Hd.e_fn E (i:=33) (by decide)) (Hd.t_code hc (by decide));have Z:=W.mg_of X G a_bm0;have k_bm0:=p.kp
 have j1:=p.binds (ps:=["term","number"]) fun _ _ _ _ _ _ Y hl=>match Y,hl with | [_,_],_=>rfl
 have j9:=fun h k=>hblt.at (nT _ (Xd0 K)) h k;have j0:=Hd.c_refx (x:="KenError") D (i:=1) (by kernel_rfl) (by decide);have y3:=Hd.c_refx (x:="NoText") D (i:=2) (by kernel_rfl) (by decide);have q9:=Hd.c_refx (x:="NoWorlds") D (i:=3) (by kernel_rfl) (by decide);have y4:=Hd.c_refx (x:="NoRule") D (i:=4) (by kernel_rfl) (by decide);have y5:=Hd.c_refx (x:="NoLine") D (i:=5) (by kernel_rfl) (by decide);have y6:=Hd.c_refx (x:="NoKind") D (i:=6) (by kernel_rfl) (by decide);have R:=Hd.c_refx (x:="NoTurning") D (i:=7) (by kernel_rfl) (by decide);have g_Large:=Hd.c_refx (x:="Large") D (i:=8) (by kernel_rfl) (by decide);have q8:=Hd.c_refx (x:="NotShown") D (i:=9) (by kernel_rfl) (by decide);have g_Twice:=Hd.c_refx (x:="Twice") D (i:=10) (by kernel_rfl) (by decide);have y2:=Hd.c_refx (x:="NoWish") D (i:=11) (by kernel_rfl) (by decide);have g_NoRow:=Hd.c_refx (x:="NoRow") D (i:=12) (by kernel_rfl) (by decide);obtain⟨tk_MOST_PARTS,M⟩:=Hd.m_int D2 (x:="MOST_PARTS") (i:=1000) (.head _);obtain⟨tk_MOST_DEEP,S⟩:=Hd.m_int D2 (x:="MOST_DEEP") (i:=120) (.tail _ (.head _));obtain⟨e,N,i_1,i_2⟩:=Hd.c_exc D (ij:=(7,1)) (by decide);obtain⟨x_Large,z_Large,i_3,i_4⟩:=Hd.c_exc D (ij:=(8,1)) (by decide);have i_5:=Hd.c_kit D (ij:=(7,[8,2,5,12,4,9])) (by decide);have i_6:=Hd.c_kit D (ij:=(7,[6,11,3,10])) (by decide);have a:=W.mg_none_of X G (n:="len") (Hd.e_bl E (.head _));have o:=W.mg_none_of X G (n:="range") (Hd.e_bl E (.tail _ (.head _)));have y7:=W.mg_none_of X G (n:="max") (Hd.e_bl E (.tail _ (.tail _ (.head _))));have b:=W.mg_none_of X G (n:="isinstance") (Hd.e_bl E (.tail _ (.tail _ (.tail _ (.head _)))));have m:=W.mg_none_of X G (n:="tuple") (Hd.e_bl E (.tail _ (.tail _ (.tail _ (.tail _ (.head _))))));have d:=W.mg_none_of X G (n:="int") (Hd.e_bl E (.tail _ (.tail _ (.tail _ (.tail _ (.tail _ (.head _)))))));have j8:=W.mg_none_of X G (n:="bool") (Hd.e_bl E (.tail _ (.tail _ (.tail _ (.tail _ (.tail _ (.tail _ (.head _))))))));have f:=W.mg_none_of X G (n:="enumerate") (Hd.e_bl E (.tail _ (.tail _ (.tail _ (.tail _ (.tail _ (.tail _ (.tail _ (.head _)))))))));have g:=W.mg_none_of X G (n:="reversed") (Hd.e_bl E (.tail _ (.tail _ (.tail _ (.tail _ (.tail _ (.tail _ (.tail _ (.tail _ (.head _))))))))));have m_list:=W.mg_none_of X G (n:="list") (Hd.e_bl E (.tail _ (.tail _ (.tail _ (.tail _ (.tail _ (.tail _ (.tail _ (.tail _ (.tail _ (.head _)))))))))));have m_zip:=W.mg_none_of X G (n:="zip") (Hd.e_bl E (.tail _ (.tail _ (.tail _ (.tail _ (.tail _ (.tail _ (.tail _ (.tail _ (.tail _ (.tail _ (.head _))))))))))));have z6:=W.mg_none_of X G (n:="sorted") (Hd.e_bl E (.tail _ (.tail _ (.tail _ (.tail _ (.tail _ (.tail _ (.tail _ (.tail _ (.tail _ (.tail _ (.tail _ (.head _)))))))))))));have J:=W.mg_none_of X G (n:="ValueError") (Hd.e_bl E (.tail _ (.tail _ (.tail _ (.tail _ (.tail _ (.tail _ (.tail _ (.tail _ (.tail _ (.tail _ (.tail _ (.tail _ (.head _))))))))))))));cases hfa.symm.trans (W.mg_of X G a_bd0);have F_bd0:=Xj1 (st:=(top 58)) l_bd0 c_bd0 k_bd0;have m_ac0:=W.mg_of X G M;have m_ab0:=W.mg_of X G S;have q4:=W.mg_of X G j0;have z8:=W.mg_of X G y3;have q3:=W.mg_of X G q9;have z9:=W.mg_of X G y4;have y0:=W.mg_of X G y5;have y1:=W.mg_of X G y6;have v8:=W.mg_of X G R;have U:=W.mg_of X G g_Large;have q2:=W.mg_of X G q8;have m_Twice:=W.mg_of X G g_Twice;have z7:=W.mg_of X G y2;have m_NoRow:=W.mg_of X G g_NoRow;have I:=e.xc;obtain⟨aINNER,aT,g_INNER,V,hI⟩:=Hd.in_of hIn;have v9:=W.mg_of X G g_INNER;obtain⟨aTURNING,aU,z1,z3,hU⟩:=Hd.tr_of hTr;have m_ae0:=W.mg_of X G z1
 have hN:([Hd.tabAt K "changed",Hd.tabAt K "lifted",Hd.tabAt K "put",Hd.tabAt K "term_deep",Hd.tabAt K "turned"]:List Addr).Nodup:=by
  rw[← Zu2,← Zz9,← Xg0,← Zn8,← Zz8];exact hNd
 refine⟨W.fnOf "law" "law" (Zd6 (top 58)) (Zc7 (top 58)) (Za5 (top 58)) .none kV_bd0 dc_bd0 pm_bd0 an_bd0 cd_bd0 ct_bd0,fun s v=>.of_eq rfl,fun base _ _=>?_⟩;have j6:=Xt1 (P:=l.prog) (w:=w) (mg:=mg) (base:=base) (k:=0) F_as0;have G_ah0:=Wi1 (P:=l.prog) (w:=w) (mg:=mg) (base:=base) (k:=1) F_ah0 (.of (j6.mono (by decide)) t y B) a;have G_bb0:=Wg4 (P:=l.prog) (w:=w) (mg:=mg) (base:=base) (k:=0) F_bb0 o;have G_ap0:=Xt3 (P:=l.prog) (w:=w) (mg:=mg) (base:=base) (k:=0) F_ap0 a;have j4:=Xm6 (P:=l.prog) (w:=w) (mg:=mg) (base:=base) F_az0 r A (fun k=>Xt1 F_as0) t y B (fun k=>Xt3 F_ap0 a) v3 k_ap0 b_ap0 12;have G_aq0:=Xm8 (P:=l.prog) (w:=w) (mg:=mg) (base:=base) F_aq0 v2 b_aq0 d 30;have G_ay0:=Wg7 (P:=l.prog) (w:=w) (mg:=mg) (base:=base) (k:=0) F_ay0 a;have G_ax0:=Wg8 (P:=l.prog) (w:=w) (mg:=mg) (base:=base) (k:=13) F_ax0 (.of (j4.mono (by decide)) r q5 A) a;have G_ar0:=Wa6 (P:=l.prog) (w:=w) (mg:=mg) (base:=base) (k:=30) F_ar0 v1 b_ar0 F_af0 m_af0 b_af0 F_aw0 m_aw0 b_aw0 F_ai0 m_ai0 b_ai0 F_ba0 m_ba0 b_ba0 (.of (G_ax0.mono (by decide)) m_ax0 k_ax0 b_ax0) (.of (j6.mono (by decide)) t y B) (.of (G_ay0.mono (by decide)) m_ay0 k_ay0 b_ay0) (.of (G_aq0.mono (by decide)) v2 k_aq0 b_aq0) (.of (G_ap0.mono (by decide)) v3 k_ap0 b_ap0) (.of (j4.mono (by decide)) r q5 A) 10;have G_aj0:=Wh9 (P:=l.prog) (w:=w) (mg:=mg) (base:=base) (k:=13) F_aj0 (.of (G_ah0.mono (by decide)) v7 k_ah0 b_ah0) (.of (j6.mono (by decide)) t y B) (.of (j4.mono (by decide)) r q5 A) o y7 a;have F:=Wh8 (P:=l.prog) (w:=w) (mg:=mg) (base:=base) (k:=0) F_ak0;have j5:=Wh0 (P:=l.prog) (w:=w) (mg:=mg) (base:=base) (k:=0) F_av0 b m a;have G_al0:=Wh7 (P:=l.prog) (w:=w) (mg:=mg) (base:=base) (k:=0) F_al0 b d m a j8;have G_am0:=Xn1 (P:=l.prog) (w:=w) (mg:=mg) (base:=base) (k:=1) F_am0 q1 j3 (.of (F.mono (by decide)) u z C) (.of (j5.mono (by decide)) q0 q6 j2) (.of (G_al0.mono (by decide)) v6 k_al0 b_al0) d 40;have G_an0:=Xn0 (P:=l.prog) (w:=w) (mg:=mg) (base:=base) (k:=41) F_an0 v5 b_an0 (.of (G_am0.mono (by decide)) q1 k_am0 j3) (.of (F.mono (by decide)) u z C) (.of (j5.mono (by decide)) q0 q6 j2) (.of (G_al0.mono (by decide)) v6 k_al0 b_al0) d 40;have G_ag0:=Wi2 (P:=l.prog) (w:=w) (mg:=mg) (base:=base) (k:=0) F_ag0;have G_at0:=Xm7 (P:=l.prog) (w:=w) (mg:=mg) (base:=base) (k:=5) F_at0 v0 b_at0 (.of (F.mono (by decide)) u z C) (.of (G_ag0.mono (by decide)) m_ag0 k_ag0 b_ag0) 40;have G_ao0:=Xm9 (P:=l.prog) (w:=w) (mg:=mg) (base:=base) (k:=85) F_ao0 v4 b_ao0 (.of (F.mono (by decide)) u z C) (.of (j5.mono (by decide)) q0 q6 j2) (.of (G_am0.mono (by decide)) q1 k_am0 j3) (.of (G_an0.mono (by decide)) v5 k_an0 b_an0) d 40;have G_bq0:=Wf3 (P:=l.prog) (w:=w) (mg:=mg) (base:=base) (k:=0) F_bq0 m_ae0 z3 hU;have G_bo0:=Wf5 (P:=l.prog) (w:=w) (mg:=mg) (base:=base) (k:=1) F_bo0 (.of (G_bq0.mono (by decide)) m_bq0 k_bq0 b_bq0) f;have G_bi0:=Xf7 (P:=l.prog) (w:=w) (mg:=mg) (base:=base) (k:=10) F_bi0 v9 V hI g;have G_bm0:=Wa5 (P:=l.prog) (w:=w) (mg:=mg) (base:=base) hN F_bc0 q7 j7 m_bc0 b_bc0 F_be0 z0 z5 m_be0 b_be0 F_bh0 hB_put v_put m_bh0 b_bh0 F_bj0 L O m_bj0 b_bj0 F_bm0 j9 z4 Z j1 F_bi0 y9 b_bi0 F_br0 m_br0 b_br0 F_bk0 m_bk0 b_bk0 F_bn0 m_bn0 b_bn0 F_bl0 m_bl0 b_bl0 v9 V hI g o a m_list m_zip m z6 y7 v8 e U x_Large m_ac0 m_ab0 (.of (G_bo0.mono (by decide)) y8 k_bo0 b_bo0);have G_bp0:=Wf4 (P:=l.prog) (w:=w) (mg:=mg) (base:=base) (k:=11) F_bp0 (.of (G_bi0.mono (by decide)) y9 k_bi0 b_bi0) (.of (G_bo0.mono (by decide)) y8 k_bo0 b_bo0) a;have G_au0:=Wh1 (P:=l.prog) (w:=w) (mg:=mg) (base:=base) (k:=11) F_au0 G_bm0 Z k_bm0 j1 v8 I N q4 U y1 y0 m_NoRow q3 z7 z9 q2 m_Twice z8 i_1 i_2 i_5 i_6 b J;have G_bd0:=Wg2 (P:=l.prog) (w:=w) (mg:=mg) (base:=base) (k:=125) F_bd0 (.of (G_bb0.mono (by decide)) m_bb0 k_bb0 b_bb0) (.of (G_ah0.mono (by decide)) v7 k_ah0 b_ah0) (.of (G_aj0.mono (by decide)) m_aj0 k_aj0 b_aj0) (.of (G_ar0.mono (by decide)) v1 k_ar0 b_ar0) (.of (G_at0.mono (by decide)) v0 k_at0 b_at0) (.of (G_ao0.mono (by decide)) v4 k_ao0 b_ao0) (.of (G_bp0.mono (by decide)) m_bp0 k_bp0 b_bp0) (.of (G_au0.mono (by decide)) m_au0 k_au0 b_au0) (G_bm0.mono (by decide)) Z k_bm0 j1 a f b d j8;exact G_bd0
noncomputable def dLaw:PySem.DefRec:=⟨"law",Zd6 (top 58),Zc7 (top 58),Za5 (top 58),Hd.posOf (top 58)⟩
theorem wlk:W.WalkO q loose (W.XL q []) (Hd.hook9 pg ask cask mask tas).says (PySem.Challenge.rw_ken_k53_turnings_in_order).row.toRowW dLaw [] (fun f vs=>PySem.call f vs) :=
 Hd.walkH9 (l:=PySem.Challenge.rw_ken_k53_turnings_in_order) (n:=63) (k:=126) (x:="_law_script") (CX:=CX0) (sp:=fun K b=>(fun K=>Ye3 K (tb5 (b.getD 0 0) (b.getD 1 0) (b.getD 2 0) (b.getD 3 0) (b.getD 4 0))) K) rfl (by decide) rfl ⟨rfl,by decide,by decide⟩ (by decide) (fun w B C h K F v G g E D y A p u i t r m=>by
   rw[Yy7,Xd3,Wb4,Yh9,Xd2]
   exact Wa4 v G g E D y A p u i t r m)
  (fun K b H a j o c d s=>by
   have c:b.length=5:=c
   match b,c,d with
   | [T_changed,T_lifted,T_put,T_term_deep,T_turned],_,d=>exact⟨a,j,rfl,s,o,fun x e=>by
    simp only[List.mem_cons,List.not_mem_nil,or_false] at e;rcases e with rfl | rfl | rfl | rfl | rfl
    all_goals exact TabOk.new (d _ (by simp)),fun _=>rfl⟩) fun _ _ _ _ z=>z
end
end KLaw
open PySem PySem.W PyProof.Rows
set_option maxRecDepth 100000 in
set_option maxHeartbeats 0 in
theorem PySem.Challenge.cw_ken_k53_turnings_in_order_holds : PySem.Challenge.rw_ken_k53_turnings_in_order.Holds := by
 refine W.holds_law (by decide +kernel) fun said=>W.holds_open (q:=KLaw.q) (loose:=KLaw.loose) (XP:=XL KLaw.q []) (d:=KLaw.dLaw) (kwd:=[]) (YP:=(Hd.hook9 KLaw.pg KLaw.ask KLaw.cask KLaw.mask KLaw.tas).says)
  KLaw.lft (Hd.hook9 KLaw.pg KLaw.ask KLaw.cask KLaw.mask KLaw.tas).of (Hd.hook9 KLaw.pg KLaw.ask KLaw.cask KLaw.mask KLaw.tas).keeps
  (fun s e=>xl_of s (Bool.and_eq_true_iff.mp e).1) XL.keeps (by kernel_rfl) (by kernel_rfl) rfl (fun s e=>recFacts_of (Bool.and_eq_true_iff.mp e).2)
  rfl said (by decide +kernel) ⟨rfl,rfl,rfl,rfl,rfl,by decide +kernel⟩ ?hw ?hc
 (case hw=>w_witness2)
 exact KLaw.wlk
