import PyProof.Rows.All
import Wide.All
import OpenK.AllK
import Wide.FinOn
import Lean
import PyProof.EqAt
import PyProof.EqKinds
import PyProof.TupleCall
import PyProof.NeData
import PyProof.P3In
import PyProof.ZipIter
import PyProof.Rows.ZipGen
import KE.KRevIter
import PyProof.CollectIter
import PyProof.ListRange
import PyProof.EnumMake
import PyProof.EnumFor
import PyProof.EnumStmt
import PyProof.Rows.SortStr
import KE.KDictList
import KE.KSortTup
import KE.KSortAsk
import PyProof.SumAny
import PyProof.WalksMore
import KE.KTupSum
import PyProof.FactsAll.set
import PyProof.Rows.SetFrom
import PyProof.InstStoreFacts
import PyProof.FactsAll.tuple_2
import PyProof.Rows.Range3
import PyProof.Rows.SeqMore2
import PyProof.SeqI3
import PySem.Challenge.RW_ken_k25_bad_lines
import PyProof.Draws
import KE.KxText
set_option maxRecDepth 100000 in
set_option maxHeartbeats 0 in
theorem ws0:PySem.Challenge.rw_ken_k25_bad_lines.wellSaid=true:=by decide +kernel
local macro_rules | `(tactic| walk_at "o")=>`(tactic| first | lia | omega)
set_option Elab.async false
set_option linter.all false
set_option maxRecDepth 100000
namespace L2
open PySem PySem.Spec PyProof.Rows
noncomputable abbrev Key:=Sum Int Str
noncomputable def Yt3:Key->Value->Bool
 | .inl k,v=>Value.isInt k v
 | .inr x,v=>Value.isStrOf x v
noncomputable def keyH (w:World):Key->Int
 | .inl k=>hashInt k
 | .inr x=>hashStr w x
theorem Zf1:∀ {k:Key} {v:Value},Yt3 k v=true->(∃ i t,k=Sum.inl i/\v=Value.int i t)∨(∃ x t,k=Sum.inr x/\v=Value.str x t)
 | .inl i,v,h=>by
  obtain⟨t,e⟩:=Value.isInt_shape (k:=i) (v:=v) h;exact .inl ⟨i,t,rfl,e⟩
 | .inr x,v,h=>by
  obtain⟨t,e⟩:=Value.isStrOf_shape (x:=x) (v:=v) h;exact .inr ⟨x,t,rfl,e⟩
theorem Xa9 (i:Int) (t:Tok):Yt3 (.inl i) (.int i t)=true:=by simp[Yt3,Value.isInt]
theorem Xa8 (x:Str) (t:Tok):Yt3 (.inr x) (.str x t)=true:=by simp[Yt3,Value.isStrOf]
theorem Wc3 (a b:Int):decide ((Sum.inl a:Key)=Sum.inl b)=(a == b):=by
 by_cases e:a=b
 ·subst e;simp
 ·have h:¬ (Sum.inl a:Key)=Sum.inl b:=fun q=>e (Sum.inl.inj q)
  rw[decide_eq_false h];exact (beq_eq_false_iff_ne.mpr e).symm
theorem Wc0 (a b:Str):decide ((Sum.inr a:Key)=Sum.inr b)=decide (a=b):=by
 by_cases e:a=b
 ·subst e;simp
 ·have h:¬ (Sum.inr a:Key)=Sum.inr b:=fun q=>e (Sum.inr.inj q)
  rw[decide_eq_false h,decide_eq_false e]
theorem Wc2 (a:Int) (b:Str):decide ((Sum.inl a:Key)=Sum.inr b)=false:=decide_eq_false (fun q=>nomatch q)
theorem Wc1 (a:Str) (b:Int):decide ((Sum.inr a:Key)=Sum.inl b)=false:=decide_eq_false (fun q=>nomatch q)
noncomputable def Zj6 (prog:Program) (w:World):PySem.KeyKind prog w Key where
  is:=Yt3
  hash:=keyH w
  inj:=fun v a b ha hb=>by
    rcases Zf1 ha with ⟨i,t,rfl,rfl⟩ | ⟨x,t,rfl,rfl⟩
    · rcases Zf1 hb with ⟨j,u,rfl,e⟩ | ⟨y,u,rfl,e⟩
      · injection e with e1 _;rw[e1]
      · exact nomatch e
    · rcases Zf1 hb with ⟨j,u,rfl,e⟩ | ⟨y,u,rfl,e⟩
      · exact nomatch e
      · injection e with e1 _;rw[e1]
  byValue:=fun k v h=>by
    rcases Zf1 h with ⟨i,t,rfl,rfl⟩ | ⟨x,t,rfl,rfl⟩<;>rfl
  pyHash:=fun hv h=>by
    rcases Zf1 hv with ⟨i,t,rfl,rfl⟩ | ⟨x,t,rfl,rfl⟩
    · exact wpAny_pyHash_int h
    · exact wpAny_pyHash_str h
  eqBool:=fun hu hv h=>by
    rcases Zf1 hu with ⟨i,t,rfl,rfl⟩ | ⟨x,t,rfl,rfl⟩
    · rcases Zf1 hv with ⟨j,u,rfl,rfl⟩ | ⟨y,u,rfl,rfl⟩
      · rw[Wc3] at h;exact wpAny_eqBool_int h
      · rw[Wc2] at h;exact SeqAt.EqAt.int_str i t y u _ _ _ _ h
    · rcases Zf1 hv with ⟨j,u,rfl,rfl⟩ | ⟨y,u,rfl,rfl⟩
      · rw[Wc1] at h;exact SeqAt.EqAt.str_int x t j u _ _ _ _ h
      · rw[Wc0] at h;exact wpAny_eqBool_str h
  «strs»:=fun k x t v h=>by
    rcases Zf1 h with ⟨i,u,rfl,e⟩ | ⟨y,u,rfl,e⟩
    · exact nomatch e
    · injection e with e1 _
      subst e1
      cases v<;>rfl
theorem Yl2 (prog:Program) (w:World) (i:Int) (t:Tok):(Zj6 prog w).is (.inl i) (.int i t)=true:=Xa9 i t
theorem Zx0 (prog:Program) (w:World) (x:Str) (t:Tok):(Zj6 prog w).is (.inr x) (.str x t)=true:=Xa8 x t
inductive V where
 | non | bl (b:Bool) | int (i:Int) | str (x:Str) | byt (b:Array UInt8) | flt (b:UInt64) | ref (a:Addr) | ty (n:String)
 deriving DecidableEq
def RelV:V->Value->Prop
 | .non,u=>u=Value.none
 | .bl b,u=>u=Value.bool b
 | .int i,u=>∃ t,u=Value.int i t
 | .str x,u=>∃ t,u=Value.str x t
 | .byt b,u=>∃ t,u=Value.bytes b t
 | .flt b,u=>∃ t,u=Value.float b t
 | .ref a,u=>u=Value.ref a
 | .ty n,u=>u=Value.type n
abbrev Vals:List V->List Value->Prop:=Paired RelV
theorem Vals.length {xs:List V} {us:List Value} (r:Vals xs us):xs.length=us.length:=Paired.length r
theorem Vals.get:∀ {xs:List V} {us:List Value} {i:Nat} {x:V},Vals xs us->xs[i]?=some x->∃ u,us[i]?=some u/\RelV x u
 | _,_,_,_,.nil,e=>by simp at e
 | _,_,0,_,.cons r _,e=>by simp at e;subst e;exact⟨_,rfl,r⟩
 | _,_,i+1,x,.cons _ t,e=>by
  obtain⟨u,h1,h2⟩:=Vals.get (i:=i) (x:=x) t (by simpa using e);exact⟨u,by simpa using h1,h2⟩
theorem Vals.append:∀ {xs ys:List V} {us ws:List Value},Vals xs us->Vals ys ws->Vals (xs++ys) (us++ws)
 | _,_,_,_,.nil,s=>s
 | _,_,_,_,.cons r t,s=>.cons r (Vals.append t s)
theorem Vals.take:∀ {xs:List V} {us:List Value} (n:Nat),Vals xs us->Vals (xs.take n) (us.take n)
 | _,_,0,_=>.nil
 | _,_,_+1,.nil=>.nil
 | _,_,n+1,.cons r t=>.cons r (Vals.take n t)
theorem Vals.drop:∀ {xs:List V} {us:List Value} (n:Nat),Vals xs us->Vals (xs.drop n) (us.drop n)
 | _,_,0,r=>r
 | _,_,_+1,.nil=>.nil
 | _,_,n+1,.cons _ t=>Vals.drop n t
def RelO:Option V->Option Value->Prop
 | some v,some u=>RelV v u
 | none,none=>True
 | _,_=>False
def KV {κ:Type}:List (κ×V)->List (κ×Value)->Prop:=Paired fun (p:κ×V) (q:κ×Value)=>p.1=q.1/\RelV p.2 q.2
noncomputable def kV:Key->V
 | .inl i=>.int i
 | .inr x=>.str x
inductive HO where
 | lst (xs:List V)
 | tup (xs:List V)
 | dK (kvs:List (Key×V)) | dT (kvs:List (List Key×V))
 | set (S:Int->Bool) (n:Nat)
 | ins (C dx:Addr) (fs:List (Str×V))
 | own (x:Addr)
 | xd (fs:List (Str×V))
 | met (f x:Addr)
 | rng (lo hi:Int)
 | frz (o:Obj) (u:HO)
 | tbl (ps:Array Value)
 | ext (φ:Heap->Prop)
noncomputable abbrev Hp:=Addr->Option HO
noncomputable def upd (H:Hp) (a:Addr) (o:HO):Hp:=fun b=>if b=a then some o else H b
theorem Za3 {H:Hp} {a:Addr} {o:HO}:upd H a o a=some o:=by unfold upd;rw[if_pos rfl]
theorem Zc2 {H:Hp} {a b:Addr} {o:HO} (h:b≠a):upd H a o b=H b:=by unfold upd;rw[if_neg h]
theorem Xm8 {H:Hp} {a:Addr} {o u:HO}:upd (upd H a o) a u=upd H a u:=by
 funext b;unfold upd;split<;>rfl
theorem Wb2 {H:Hp} {a b:Addr} {o u:HO} (h:H a=some o) (h':H b=some u) (d:o≠u):a≠b:=by
 intro e;subst e;rw[h] at h';exact d (Option.some.inj h')
theorem Zb9 {H:Hp} {a b:Addr} {o:HO} (h:H a=some o) (h':H b=none):a≠b:=by
 intro e;subst e;rw[h] at h';cases h'
section
variable (P:Program) (w:World)
def ObjOk (H:Hp) (h:Heap) (a:Addr):HO->Prop
 | .lst xs=>xs.length<=sizeLine/\∃ (its:List Value) (n:Nat),Vals xs its/\h.get? a=some { cls:=.type "list",data:=.seq its.toArray n }
 | .tup xs=>xs.length<=sizeLine/\∃ its:List Value,Vals xs its/\IsTup h a its.toArray
 | .dK kvs=>kvs.length<=sizeLine/\(a == sysModules)=false/\∃ vs,KV kvs vs/\h.DictOf (Zj6 P w) a vs
 | .dT kvs=>kvs.length<=sizeLine/\(a == sysModules)=false/\∃ xs:List (List Key×Addr×Value),
   Paired (fun (p:List Key×V) (q:List Key×Addr×Value)=>p.1=q.1/\H q.2.1=some (.tup (p.1.map kV))/\RelV p.2 q.2.2) kvs xs /\
   ∃ o es ep,h.get? a=some o/\o.ExactDict/\o.data=.dict es ep/\es.toList=xs.map (entryOfKey (tupleKind (Zj6 P w)))/\(xs.map (·.1)).Nodup
 | .set S n=>h.SetOf (intKind P w) a S n
 | .ins C dx fs=>H dx=some (.own a)/\fs.length<=1000/\dx≠a/\h.get? a=some (W.instObj C dx) /\
   ∃ mA,h.Ns1 dx mA/\(∀ f,RelO (fs.lookup f) (mA f))/\PySem.Within mA (fs.map (·.1))
 | .own _=>∃ o,h.get? a=some o
 | .xd fs=>∃ mA,h.Ns1 a mA/\∀ f,RelO (fs.lookup f) (mA f)
 | .rng lo hi=>∃ t u v,h.get? a=some { cls:=.type "range",data:=.fields #[.int lo t,.int hi u,.int 1 v] }
 | .frz o u=>h.get? a=some o/\ObjOk H h a u
 | .tbl ps=>h.get? a=some { cls:=.none,data:=.fields ps }
 | .met f x=>h.get? a=some (W.methodObj (.ref f) (.ref x))
 | .ext φ=>φ h/\(∃ o,h.get? a=some o)/\∀ h1 h2:Heap,φ h1->(∀ o,h1.get? a=some o->h2.get? a=some o)->φ h2
def HOk (H:Hp) (h:Heap):Prop:=∀ a o,H a=some o->ObjOk P w H h a o
end
section
variable {P:Program} {w:World} {H H':Hp} {h h':Heap} {a:Addr} {o:HO}
theorem ObjOk.lt (x:ObjOk P w H h a o):a < h.objs.size:=by
 cases o with
 | lst xs=>obtain⟨_,_,_,_,e⟩:=x;exact Heap.lt_size e
 | tup xs=>obtain⟨_,_,_,p⟩:=x;exact p.lt
 | dK kvs=>obtain⟨_,_,_,_,o,_,_,e,_⟩:=x;exact Heap.lt_size e
 | dT kvs=>obtain⟨_,_,_,_,o,_,_,e,_⟩:=x;exact Heap.lt_size e
 | set S n=>obtain⟨o,_,_,_,e,_⟩:=x;exact Heap.lt_size e
 | ins C dx fs=>obtain⟨_,_,_,e,_⟩:=x;exact Heap.lt_size e
 | own y=>obtain⟨_,e⟩:=x;exact Heap.lt_size e
 | xd fs=>obtain⟨_,⟨_,_,_,e,_⟩,_⟩:=x;exact Heap.lt_size e
 | rng lo hi=>obtain⟨_,_,_,e⟩:=x;exact Heap.lt_size e
 | frz ob u=>obtain⟨e,_⟩:=x;exact Heap.lt_size e
 | tbl ps=>exact Heap.lt_size (show h.get? a=some _ from x)
 | met f y=>exact Heap.lt_size (show h.get? a=some _ from x)
 | ext φ=>obtain⟨_,⟨_,e⟩,_⟩:=x;exact Heap.lt_size e
theorem Paired.mapP {α β:Type} {F G:α->β->Prop}:∀ {l₁:List α} {l₂:List β},Paired F l₁ l₂->(∀ a b,F a b->G a b)->Paired G l₁ l₂
 | _,_,.nil,_=>.nil
 | _,_,.cons r t,f=>.cons (f _ _ r) (Paired.mapP t f)
theorem ObjOk.stay (x:ObjOk P w H h a o) (k:∀ b u,(b=a∨H b=some (.own a))->h.get? b=some u->h'.get? b=some u)
  (ho:∀ b,H b=some (.own a)->H' b=some (.own a)) (ht:∀ b xs,H b=some (.tup xs)->H' b=some (.tup xs)):ObjOk P w H' h' a o:=by
 induction o with
 | lst xs=>obtain⟨z,l,n,r,e⟩:=x;exact⟨z,l,n,r,k _ _ (.inl rfl) e⟩
 | tup xs=>obtain⟨z,l,r,g,e,c⟩:=x;exact⟨z,l,r,g,k _ _ (.inl rfl) e,c⟩
 | dK kvs=>obtain⟨z,y,B,r,g,i,j,e,c⟩:=x;exact⟨z,y,B,r,g,i,j,k _ _ (.inl rfl) e,c⟩
 | dT kvs =>
  obtain⟨z,y,xs,r,g,i,j,e,c⟩:=x;exact⟨z,y,xs,Paired.mapP r fun p q z=>⟨z.1,ht _ _ z.2.1,z.2.2⟩,g,i,j,k _ _ (.inl rfl) e,c⟩
 | set S n=>obtain⟨g,i,j,t,e,c⟩:=x;exact⟨g,i,j,t,k _ _ (.inl rfl) e,c⟩
 | ins C dx fs =>
  obtain⟨d,z,D,e,s,⟨m,i,j,F,c⟩,r⟩:=x;exact⟨ho _ d,z,D,k _ _ (.inl rfl) e,s,⟨m,i,j,k _ _ (.inr d) F,c⟩,r⟩
 | own y=>obtain⟨g,e⟩:=x;exact⟨g,k _ _ (.inl rfl) e⟩
 | xd fs=>obtain⟨s,⟨m,i,j,e,c⟩,r⟩:=x;exact⟨s,⟨m,i,j,k _ _ (.inl rfl) e,c⟩,r⟩
 | rng lo hi=>obtain⟨t,u,v,e⟩:=x;exact⟨t,u,v,k _ _ (.inl rfl) e⟩
 | frz g u ih=>obtain⟨e,q⟩:=x;exact⟨k _ _ (.inl rfl) e,ih q⟩
 | tbl ps =>
  have e:h.get? a=some { cls:=.none,data:=.fields ps }:=x;show h'.get? a=some { cls:=.none,data:=.fields ps };exact k a _ (.inl rfl) e
 | met f y =>
  have e:h.get? a=some (W.methodObj (.ref f) (.ref y)):=x;show h'.get? a=some (W.methodObj (.ref f) (.ref y));exact k a _ (.inl rfl) e
 | ext φ=>obtain⟨p,⟨o,e⟩,A⟩:=x;exact⟨A _ _ p fun o q=>k _ _ (.inl rfl) q,⟨o,k _ _ (.inl rfl) e⟩,A⟩
theorem HOk.lt (x:HOk P w H h) (e:H a=some o):a < h.objs.size:=(x a o e).lt
theorem HOk.fresh (x:HOk P w H h) (e:h.objs.size<=a):H a=none:=by
 cases q:H a with
 | none=>rfl
 | some u=>exact absurd (Nat.lt_of_lt_of_le (x.lt q) e) (Nat.lt_irrefl _)
theorem HOk.kept (x:HOk P w H h) (k:∀ b u,h.get? b=some u->h'.get? b=some u):HOk P w H h':=fun a o e =>
 (x a o e).stay (fun b u _ q=>k b u q) (fun _ q=>q) fun _ _ q=>q
theorem HOk.laid (x:HOk P w H h) (k:∀ b u,h.get? b=some u->h'.get? b=some u) (hp:h.objs.size<=a) (new:ObjOk P w (upd H a o) h' a o):HOk P w (upd H a o) h':=fun b u e=>by
 have d:=x.fresh hp
 by_cases hb:b=a
 ·subst hb;rw[Za3] at e;cases e;exact new
 ·rw[Zc2 hb] at e
  exact (x b u e).stay (fun c v _ q=>k c v q) (fun c q=>by rw[Zc2 (Zb9 q d)];exact q) fun c f q=>by rw[Zc2 (Zb9 q d)];exact q
end
def Rd (H:Hp) (a:Addr) (u:HO):Prop:=H a=some u∨∃ o,H a=some (.frz o u)
theorem Rd.ok {P:Program} {w:World} {H:Hp} {h:Heap} {a:Addr} {u:HO} (r:Rd H a u) (x:HOk P w H h):ObjOk P w H h a u:=by
 rcases r with r | ⟨o,r⟩
 ·exact x a u r
 ·obtain⟨_,q⟩:=x a _ r
  exact q
def Mut:Option HO->Prop
 | some (.lst _)=>True
 | some (.dK _)=>True
 | some (.dT _)=>True
 | some (.set _ _)=>True
 | some (.ins _ _ _)=>True
 | some (.ext _)=>True
 | _=>False
section
variable {P:Program} {w:World} {H:Hp} {h h':Heap} {x e:Addr} {o':HO}
theorem HOk.write (ok:HOk P w H h) (mu:Mut (H x)) (he:e=x∨H e=some (.own x)) (k:∀ b u,b≠e->h.get? b=some u->h'.get? b=some u) (heo:∃ u,h'.get? e=some u)
  (new:ObjOk P w (upd H x o') h' x o'):HOk P w (upd H x o') h':=fun b u q=>by
 have a:∀ c y,H c=some (.own y)->c≠x:=fun c y r z=>by subst z;rw[r] at mu;exact mu
 have g:∀ c d,H c=some (.tup d)->c≠x:=fun c d r z=>by subst z;rw[r] at mu;exact mu
 by_cases hb:b=x
 ·subst hb;rw[Za3] at q;cases q;exact new
 ·rw[Zc2 hb] at q
  by_cases hbe:b=e
  ·have i:H b=some (.own x):=by
    rcases he with z | z
    ·exact absurd (hbe.trans z) hb
    ·rw[hbe];exact z
   rw[q] at i;cases i;obtain⟨v,j⟩:=heo;exact⟨v,by rw[hbe];exact j⟩
  ·refine (ok b u q).stay (fun c v f r=>k c v ?_ r) (fun c r=>by rw[Zc2 (a c b r)];exact r) fun c d r=>by rw[Zc2 (g c d r)];exact r
   rcases f with rfl | f
   ·exact hbe
   ·rintro rfl
    rcases he with z | z
    ·exact a c b f z
    ·rw[f] at z;cases z;exact hb rfl
end
structure Un (fs ex:List Addr) (H H':Hp) (h h':Heap):Prop where
 keep:∀ b o,h.get? b=some o->H b=none->b ∉ fs->b ∉ ex->h'.get? b=some o
 slot:∀ b o,h.get? b=some o->H b=none->b∈fs->b ∉ ex->∃ sl,h'.get? b=some { o with slots:=sl }
 free:∀ b o,h.get? b=some o->H b=none->b ∉ ex->H' b=none
 there:∀ b o,h.get? b=some o->b ∉ ex->∃ o',h'.get? b=some o'
 tups:∀ b xs,H b=some (.tup xs)->H' b=some (.tup xs)
 frzs:∀ b o u,H b=some (.frz o u)->H' b=some (.frz o u)
 tbls:∀ b ps,H b=some (.tbl ps)->∃ more,H' b=some (.tbl (ps++more))
section
variable {fs fs' ex ex':List Addr} {H H1 H2:Hp} {h h1 h2 h':Heap} {a x e:Addr} {o:HO}
theorem Un.any (u:Un fs ex H H1 h h1) {b:Addr} {ob:Obj} (q:h.get? b=some ob) (n:H b=none) (hx:b ∉ ex):∃ sl,h1.get? b=some { ob with slots:=sl }:=by
 by_cases hb:b∈fs
 ·exact u.slot b ob q n hb hx
 ·exact⟨ob.slots,u.keep b ob q n hb hx⟩
theorem Un.kept (k:∀ b u,h.get? b=some u->h'.get? b=some u):Un fs ex H H h h' :=
 ⟨fun b a q _ _ _=>k b a q,fun b a q _ _ _=>⟨a.slots,k b a q⟩,fun _ _ _ n _=>n,fun b a q _=>⟨a,k b a q⟩,fun _ _ q=>q,fun _ _ _ q=>q,fun _ c q=>⟨#[],by rw[q];simp⟩⟩
theorem Un.refl:Un fs ex H H h h:=Un.kept fun _ _ q=>q
theorem Un.laid (k:∀ b u,h.get? b=some u->h'.get? b=some u) (hp:h.objs.size<=a) (hn:H a=none):Un fs ex H (upd H a o) h h' where
 keep:=fun b u q _ _ _=>k b u q
 slot:=fun b u q _ _ _=>⟨u.slots,k b u q⟩
 free:=fun b u q n _=>by rw[Zc2 (Nat.ne_of_lt (Nat.lt_of_lt_of_le (Heap.lt_size q) hp))];exact n
 there:=fun b u q _=>⟨u,k b u q⟩
 tups:=fun b c q=>by rw[Zc2 (Zb9 q hn)];exact q
 frzs:=fun b u c q=>by rw[Zc2 (Zb9 q hn)];exact q
 tbls:=fun b d q=>⟨#[],by rw[Zc2 (Zb9 q hn),q];simp⟩
theorem Un.write (mu:Mut (H x)) (he:e=x∨H e=some (.own x)) (k:∀ b u,b≠e->h.get? b=some u->h'.get? b=some u) (heo:∃ u,h'.get? e=some u):Un fs ex H (upd H x o) h h':=by
 have c:∀ b,H b=none->b≠x:=fun b n z=>by subst z;rw[n] at mu;exact mu
 have d:∀ b,H b=none->b≠e:=fun b n z=>by
  subst z;rcases he with r | r
  ·exact c b n r
  ·rw[n] at r;cases r
 have a:∀ b u,H b=some u->¬ Mut (some u)->b≠x:=fun b u q g z=>by subst z;rw[q] at mu;exact g mu
 refine⟨fun b u q n _ _=>k b u (d b n) q,fun b u q n _ _=>⟨u.slots,k b u (d b n) q⟩,fun b u q n _=>by rw[Zc2 (c b n)];exact n,fun b u q _=>?_,
  fun b f q=>by rw[Zc2 (a b _ q fun z=>z)];exact q,fun b u f q=>by rw[Zc2 (a b _ q fun z=>z)];exact q,fun b i q=>⟨#[],by rw[Zc2 (a b _ q fun z=>z),q];simp⟩⟩
 by_cases hbe:b=e
 ·subst hbe;exact heo
 ·exact⟨u,k b u hbe q⟩
end
noncomputable def trk (h:Heap) (H:Hp):List Addr:=(List.range h.objs.size).filter fun a=>(H a).isSome
noncomputable def hidT (h:Heap) (H:Hp):Heap:=W.hideAll h (trk h H)
theorem Xb5 (h:Heap) (H:Hp):(hidT h H).objs.size=h.objs.size:=W.hideAll_size _ _
theorem Xi6 {h:Heap} {H:Hp} {b:Addr} {o:Obj} (e:h.get? b=some o) (n:H b=none):(hidT h H).get? b=some o :=
 W.hideAll_get _ e fun a=>by
  have q:(H b).isSome=true:=(List.mem_filter.mp a).2;rw[n] at q;simp at q
theorem Xo8 {h:Heap} {H:Hp} {b:Addr} {o:Obj} (e:(hidT h H).get? b=some o):h.get? b=some o/\H b=none:=by
 have a:h.get? b=some o:=W.of_hideAll (trk h H) e;refine⟨a,?_⟩
 cases q:H b with
 | none=>rfl
 | some x =>
  have c:b∈trk h H:=List.mem_filter.mpr ⟨List.mem_range.mpr (Heap.lt_size a),by simp[q]⟩;have z:(hidT h H).get? b=none:=W.hideAll_none (trk h H) c;rw[z] at e;cases e
structure Mod (K:W.Frag) (mg:Str->Option Value) (base:Heap):Prop where
 kin:K.In base
 glob:base.Ns mainGlobals mg
 blt:∃ mb,base.Ns builtinsNs mb/\∀ x:Str,x≠"__name__"->mb x=bootBuiltins x
 nolimit:base.NoLimit
structure Cx where
 prog:Program
 w:World
 K:W.Frag
 mg:Str->Option Value
 base:Heap
 A:Around
 N:List Str
 s₀:Shared
 H₀:Hp
 env:Env
 outer:List Env
 stack:List Env
 ex:List Addr
 fn:Str->Bool
 calm:Bool
 pn:List (Addr×Obj)
 xe:Value->Shared->Prop
noncomputable def frs (l:List Env):List Addr:=l.filterMap (·.frame)
noncomputable abbrev Cx.fs (X:Cx):List Addr:=frs X.outer
def Vis (sc:Scope) (x:Str):Prop:=sc.names.lookup x=some .local∨sc.names.lookup x=some .cell∨sc.names.lookup x=some .free
def Loc (sc:Scope) (x:Str):Prop:=sc.names.lookup x=some .local∨sc.names.lookup x=some .cell
def Look (env:Env) (h:Heap) (m:Str->Option Value) (x:Str) (u:Value):Prop :=
 (env.kindOf x=some .local/\m x=some u)∨((env.kindOf x=some .cell∨env.kindOf x=some .free)/\∃ c,env.cells.lookup x=some c/\h.IsCell c (some u))
structure Cx.Ok (X:Cx):Prop where
 mod:Mod X.K X.mg X.base
 kind:X.env.scope.kind=.function
 glob:X.env.globals=mainGlobals
 blt:X.env.builtins=builtinsNs
 above:X.s₀.heap.objs.size<=X.env.locals
 inj:∀ x y c,X.env.cells.lookup x=some c->X.env.cells.lookup y=some c->x=y
 has:∀ x,(X.env.kindOf x=some .cell∨X.env.kindOf x=some .free)->∃ c,X.env.cells.lookup x=some c
 cab:∀ x c,X.fn x=true->X.env.cells.lookup x=some c->X.s₀.heap.objs.size<=c
 hd:X.calm=true->X.A.handled=none
 frames:X.A.frames=some X.stack
 stk:X.stack=X.outer∨(X.stack=X.env :: X.outer/\X.env.frame=some X.env.locals)
 exf:∀ b∈X.ex,b≠X.env.locals/\∀ x c,X.env.cells.lookup x=some c->c≠b
 bs:∀ b o,X.base.get? b=some o->X.s₀.heap.get? b=some o/\X.H₀ b=none
 bsz:X.base.objs.size<=X.s₀.heap.objs.size
 noex:∀ b o,X.base.get? b=some o->b ∉ X.ex
 exfs:∀ b∈X.ex,b ∉ X.fs
 funs:X.s₀.heap.FunFrames X.base X.outer
 frf:∀ b∈X.fs,X.H₀ b=none
structure Inv (X:Cx) (pins:List (Addr×Obj)) (σ:List (Option V)) (H:Hp) (s:Shared):Prop where
 ok:X.Ok
 os:s.os=X.s₀.os
 bare:AllBare s.gens
 base:Un X.fs X.ex X.H₀ H X.s₀.heap s.heap
 loc:∃ m,s.heap.Ns X.env.locals m/\∀ (i:Nat) (x:Str) (v:V),X.N[i]?=some x->σ[i]?=some (some v)->Vis X.env.scope x->∃ u,RelV v u/\Look X.env s.heap m x u
 cell:∀ x c,X.env.cells.lookup x=some c->∃ v,s.heap.IsCell c v
 free:H X.env.locals=none
 freeC:∀ x c,X.env.cells.lookup x=some c->H c=none
 pin:∀ p∈X.pn++pins,s.heap.get? p.1=some p.2/\H p.1=none/\p.1≠X.env.locals/\p.1 ∉ X.fs/\∀ v,p.2.data≠.cell v
 hok:HOk X.prog X.w H s.heap
 len:σ.length=X.N.length
section
variable {X:Cx} {pins:List (Addr×Obj)} {σ:List (Option V)} {H H':Hp} {s:Shared} {h':Heap}
theorem Cx.Ok.nofr (ok:X.Ok) {b:Addr} {o:Obj} (e:X.base.get? b=some o):b ∉ X.fs:=fun a=>by
 have:=(ok.funs.mem a).1;rw[e] at this;cases this
theorem Inv.bs (I:Inv X pins σ H s):∀ b o,X.base.get? b=some o->s.heap.get? b=some o/\H b=none:=fun b o e =>
 ⟨I.base.keep b o (I.ok.bs b o e).1 (I.ok.bs b o e).2 (I.ok.nofr e) (I.ok.noex b o e),I.base.free b o (I.ok.bs b o e).1 (I.ok.bs b o e).2 (I.ok.noex b o e)⟩
theorem Inv.bk (I:Inv X pins σ H s):∀ b o,X.base.get? b=some o->s.heap.get? b=some o:=fun b o e=>(I.bs b o e).1
theorem Inv.mod (I:Inv X pins σ H s):Mod X.K X.mg X.base:=I.ok.mod
theorem Inv.kIn (I:Inv X pins σ H s):X.K.In s.heap:=I.ok.mod.kin.keeps I.bk
theorem Inv.lt (I:Inv X pins σ H s):X.env.locals < s.heap.objs.size:=let ⟨_,hn,_⟩:=I.loc;hn.lt
theorem Inv.sz (I:Inv X pins σ H s):X.s₀.heap.objs.size<=s.heap.objs.size:=Nat.le_trans I.ok.above (Nat.le_of_lt I.lt)
theorem Inv.nofs (I:Inv X pins σ H s) {a:Addr} (h:s.heap.objs.size<=a):a ∉ X.fs:=fun c=>by
 obtain⟨_,o,b,_⟩:=I.ok.funs.mem c;exact absurd (Nat.lt_of_lt_of_le (Heap.lt_size b) (Nat.le_trans I.sz h)) (Nat.lt_irrefl _)
theorem Inv.cne (I:Inv X pins σ H s):∀ x c,X.env.cells.lookup x=some c->c≠X.env.locals:=fun x c e z=>by
 obtain⟨v,o,b,f⟩:=I.cell x c e;obtain⟨m,⟨g,h,i,a,d,_⟩,_⟩:=I.loc;rw[z,a] at b;cases b;rw[d] at f;cases f
theorem Inv.funs (I:Inv X pins σ H s):s.heap.FunFrames X.base X.outer:=by
 have g:∀ (l:List Env),(∀ b∈frs l,b∈X.fs)->X.s₀.heap.FunFrames X.base l->s.heap.FunFrames X.base l:=by
  intro l
  induction l with
  | nil=>intro _ _;trivial
  | cons env r ih =>
   intro f k;obtain⟨m,⟨L,o,a,j,i,n⟩,h⟩:=k;have d:L∈X.fs:=f L (by unfold frs;rw[List.filterMap_cons,a];exact List.mem_cons_self);obtain⟨p,e⟩:=I.base.slot L o i (I.ok.frf L d) d fun z=>I.ok.exfs L z d;exact⟨m,⟨L,_,a,j,e,n⟩,ih (fun b c=>f b (by unfold frs;rw[List.filterMap_cons,a];exact List.mem_cons_of_mem _ c)) h⟩
 exact g X.outer (fun _ c=>c) I.ok.funs
theorem Inv.stack (I:Inv X pins σ H s):s.heap.FunFrames X.base X.stack:=by
 rcases I.ok.stk with e | ⟨e,b⟩
 ·rw[e];exact I.funs
 ·rw[e]
  obtain⟨m,a,_⟩:=I.loc;refine .cons (by rw[I.ok.kind];decide) b a ?_ I.funs;exact Heap.get?_none_of_le (Nat.le_trans I.ok.bsz I.ok.above)
theorem Inv.stkSub (I:Inv X pins σ H s):∀ b∈frs X.stack,b∈X.env.locals :: X.fs:=fun b a=>by
 rcases I.ok.stk with e | ⟨e,c⟩
 ·rw[e] at a;exact List.mem_cons_of_mem _ a
 ·rw[e] at a
  unfold frs at a;rw[List.filterMap_cons,c] at a;exact a
theorem Inv.stkFree (I:Inv X pins σ H s):∀ b∈frs X.stack,H b=none:=fun b a=>by
 rcases List.mem_cons.mp (I.stkSub b a) with e | a
 ·rw[e];exact I.free
 ·obtain⟨_,o,c,_⟩:=I.ok.funs.mem a
  exact I.base.free b o c (I.ok.frf b a) fun z=>I.ok.exfs b z a
theorem Inv.step {g':Array GenState} {t':Nat} {d':Drawn} {ch:List Addr} (I:Inv X pins σ H s)
  (hch:∀ b∈ch,(b∈X.ex∨X.s₀.heap.objs.size<=b)/\b≠X.env.locals/\(∀ x c,X.env.cells.lookup x=some c->c≠b)/\∀ p∈X.pn++pins,p.1≠b)
  (keep:∀ b o,b≠X.env.locals->b ∉ X.fs->b ∉ ch->s.heap.get? b=some o->H b=none->h'.get? b=some o)
  (slot:∀ b o,b≠X.env.locals->b∈X.fs->b ∉ ch->s.heap.get? b=some o->H b=none->∃ sl,h'.get? b=some { o with slots:=sl }) (free:∀ b o,b ∉ ch->s.heap.get? b=some o->H b=none->H' b=none)
  (there:∀ b o,b ∉ ch->s.heap.get? b=some o->∃ o',h'.get? b=some o')
  (tups:∀ b xs,H b=some (.tup xs)->H' b=some (.tup xs)) (frzs:∀ b o u,H b=some (.frz o u)->H' b=some (.frz o u)) (tbls:∀ b ps,H b=some (.tbl ps)->∃ more,H' b=some (.tbl (ps++more)))
  (ns:∀ m,s.heap.Ns X.env.locals m->h'.Ns X.env.locals m) (hok:HOk X.prog X.w H' h') (hg:AllBare g') :
  Inv X pins σ H' { s with heap:=h',gens:=g',drawn:=d',toks:=t' }:=by
 have B:∀ b o,X.s₀.heap.get? b=some o->b≠X.env.locals:=fun b o e=>Nat.ne_of_lt (Nat.lt_of_lt_of_le (Heap.lt_size e) I.ok.above)
 have j:∀ b o,X.s₀.heap.get? b=some o->b ∉ X.ex->b ∉ ch:=fun b o e a h=>by
  rcases (hch b h).1 with z | z
  ·exact a z
  ·exact absurd (Nat.lt_of_lt_of_le (Heap.lt_size e) z) (Nat.lt_irrefl _)
 have t:∀ x c,X.env.cells.lookup x=some c->∀ v,s.heap.IsCell c v->h'.IsCell c v:=fun x c e v ⟨o,y,C⟩=>by
  have g:c ∉ ch:=fun z=>(hch c z).2.2.1 x c e rfl
  by_cases hc:c∈X.fs
  ·obtain⟨sl,q⟩:=slot c o (I.cne x c e) hc g y (I.freeC x c e)
   exact⟨_,q,C⟩
  ·exact⟨o,keep c o (I.cne x c e) hc g y (I.freeC x c e),C⟩
 refine⟨I.ok,I.os,hg,⟨fun b o e n h a=>?_,fun b o e n h a=>?_,fun b o e n a=>?_,fun b o e a=>?_,fun b xs e=>tups b xs (I.base.tups b xs e),fun b o xs e=>frzs b o xs (I.base.frzs b o xs e),fun b ps e=>?_⟩,?_,fun x c e=>?_,?_,fun x c e=>?_,fun p J=>?_,hok,I.len⟩
 ·exact keep b o (B b o e) h (j b o e a) (I.base.keep b o e n h a) (I.base.free b o e n a)
 ·obtain⟨sl,f⟩:=I.base.slot b o e n h a
  obtain⟨D,A⟩:=slot b _ (B b o e) h (j b o e a) f (I.base.free b o e n a);exact⟨D,A⟩
 ·obtain⟨o',f⟩:=I.base.there b o e a
  exact free b o' (j b o e a) f (I.base.free b o e n a)
 ·obtain⟨o',f⟩:=I.base.there b o e a
  exact there b o' (j b o e a) f
 ·obtain⟨M,f⟩:=I.base.tbls b ps e
  obtain⟨L,A⟩:=tbls b _ f;exact⟨M++L,by rw[A,Array.append_assoc]⟩
 ·obtain⟨m,N,O⟩:=I.loc
  refine⟨m,ns m N,fun i x v f A R=>?_⟩;obtain⟨u,r,l⟩:=O i x v f A R;refine⟨u,r,?_⟩;rcases l with l | ⟨k,c,e,z⟩
  ·exact .inl l
  ·exact .inr ⟨k,c,e,t x c e _ z⟩
 ·obtain⟨v,z⟩:=I.cell x c e
  exact⟨v,t x c e v z⟩
 ·obtain⟨m,⟨o,_,_,y,_⟩,_⟩:=I.loc
  exact free _ o (fun z=>(hch _ z).2.1 rfl) y I.free
 ·obtain⟨v,o,y,C⟩:=I.cell x c e
  exact free c o (fun z=>(hch c z).2.2.1 x c e rfl) y (I.freeC x c e)
 ·obtain⟨e,n,G,F,d⟩:=I.pin p J
  have g:p.1 ∉ ch:=fun z=>(hch p.1 z).2.2.2 p J rfl;exact⟨keep p.1 p.2 G F g e n,free p.1 p.2 g e n,G,F,d⟩
theorem Inv.un {t':Nat} (I:Inv X pins σ H s) (u:Un X.fs [] H H' s.heap h') (hok:HOk X.prog X.w H' h'):Inv X pins σ H' { s with heap:=h',toks:=t' }:=by
 obtain⟨m,⟨o,q,t,d,r⟩,_⟩:=id I.loc;obtain⟨k,j⟩:=u.any d I.free (by simp)
 exact I.step (g':=s.gens) (d':=s.drawn) (ch:=[]) (fun _ z=>nomatch z) (fun b o _ c _ e n=>u.keep b o e n c (by simp)) (fun b o _ c _ e n=>u.slot b o e n c (by simp)) (fun b o _ e n=>u.free b o e n (by simp)) (fun b o _ e=>u.there b o e (by simp)) u.tups u.frzs u.tbls (fun p i=>by
  obtain⟨l,f,g,a,h⟩:=i;rw[d] at a;cases a
  exact⟨_,f,g,j,h⟩) hok I.bare
theorem Inv.call {g':Array GenState} {t':Nat} {d':Drawn} {ch:List Addr} (I:Inv X pins σ H s) (u:Un (frs X.stack) ch H H' s.heap h') (hok:HOk X.prog X.w H' h') (hg:AllBare g')
  (hch:∀ b∈ch,(b∈X.ex∨X.s₀.heap.objs.size<=b)/\b≠X.env.locals/\(∀ x c,X.env.cells.lookup x=some c->c≠b)/\∀ p∈X.pn++pins,p.1≠b) :
  Inv X pins σ H' { s with heap:=h',gens:=g',drawn:=d',toks:=t' }:=by
 obtain⟨m,⟨o,y,A,g,r⟩,_⟩:=id I.loc;obtain⟨q,f⟩:=u.any g I.free fun z=>(hch _ z).2.1 rfl
 exact I.step (ch:=ch) hch (fun b o f l a e n=>u.keep b o e n (fun z=>(List.mem_cons.mp (I.stkSub b z)).elim f l) a) (fun b o _ _ a e n=>u.any e n a) (fun b o a e n=>u.free b o e n a) (fun b o a e=>u.there b o e a) u.tups u.frzs u.tbls (fun v k=>by
  obtain⟨t,h,i,d,j⟩:=k;rw[g] at d;cases d
  exact⟨_,h,i,f,j⟩) hok hg
theorem Inv.turned {t':Nat} {it:Addr} (I:Inv X pins σ H s) (k:∀ b o,b≠it->s.heap.get? b=some o->h'.get? b=some o) (hn:H it=none) (hL:it≠X.env.locals)
  (h1:it∈X.ex∨X.s₀.heap.objs.size<=it) (h2:∀ x c,X.env.cells.lookup x=some c->c≠it) (h3:∀ p∈X.pn++pins,p.1≠it):Inv X pins σ H { s with heap:=h',toks:=t' }:=by
 have d:∀ b u,H b=some u->b≠it:=fun b u e z=>by rw[z,hn] at e;cases e
 refine I.step (g':=s.gens) (d':=s.drawn) (ch:=[it]) (fun b h=>?_) (fun b o _ _ a e _=>k b o (fun z=>a (by simp[z])) e) (fun b o _ _ a e _=>⟨o.slots,k b o (fun z=>a (by simp[z])) e⟩) (fun _ _ _ _ n=>n)
  (fun b o a e=>⟨o,k b o (fun z=>a (by simp[z])) e⟩) (fun _ _ e=>e) (fun _ _ _ e=>e) (fun b l e=>⟨#[],by rw[e];simp⟩) (fun m g=>?_) (fun b u e=>?_) I.bare
 ·have e:b=it:=by simpa using h
  subst e;exact⟨h1,hL,h2,h3⟩
 ·obtain⟨o,i,j,f,r⟩:=g
  exact⟨o,i,j,k _ o (Ne.symm hL) f,r⟩
 ·refine (I.hok b u e).stay (fun c v a q=>k c v ?_ q) (fun _ q=>q) fun _ _ q=>q
  rcases a with z | z
  ·rw[z];exact d b u e
  ·exact d c _ z
theorem Inv.tok (I:Inv X pins σ H s) (t:Nat):Inv X pins σ H { s with toks:=t }:=I.un (h':=s.heap) (t':=t) Un.refl I.hok
theorem Inv.kept {t':Nat} (I:Inv X pins σ H s) (k:∀ b u,s.heap.get? b=some u->h'.get? b=some u):Inv X pins σ H { s with heap:=h',toks:=t' }:=I.un (Un.kept k) (I.hok.kept k)
theorem Inv.laid {a:Addr} {o:HO} {t':Nat} (I:Inv X pins σ H s) (k:∀ b u,s.heap.get? b=some u->h'.get? b=some u) (hp:s.heap.objs.size<=a) (new:ObjOk X.prog X.w (upd H a o) h' a o) :
  Inv X pins σ (upd H a o) { s with heap:=h',toks:=t' }:=I.un (Un.laid k hp (I.hok.fresh hp)) (I.hok.laid k hp new)
theorem Inv.write {x e:Addr} {o:HO} {t':Nat} (I:Inv X pins σ H s) (mu:Mut (H x)) (he:e=x∨H e=some (.own x)) (k:∀ b u,b≠e->s.heap.get? b=some u->h'.get? b=some u) (heo:∃ u,h'.get? e=some u)
  (new:ObjOk X.prog X.w (upd H x o) h' x o):Inv X pins σ (upd H x o) { s with heap:=h',toks:=t' }:=I.un (Un.write mu he k heo) (I.hok.write mu he k heo new)
theorem Inv.weak {σ':List (Option V)} (I:Inv X pins σ H s) (hl:σ'.length=σ.length) (w:∀ (i:Nat) v,σ'[i]?=some (some v)->σ[i]?=some (some v)):Inv X pins σ' H s :=
 ⟨I.ok,I.os,I.bare,I.base,let ⟨m,hn,hl'⟩:=I.loc;⟨m,hn,fun i x v c b a=>hl' i x v c (w i v b) a⟩,I.cell,I.free,I.freeC,I.pin,I.hok,hl.trans I.len⟩
theorem Inv.pins_of {pins':List (Addr×Obj)} (I:Inv X pins σ H s) (h:∀ p∈pins',s.heap.get? p.1=some p.2/\H p.1=none/\p.1≠X.env.locals/\p.1 ∉ X.fs/\∀ v,p.2.data≠.cell v):Inv X pins' σ H s :=
 ⟨I.ok,I.os,I.bare,I.base,I.loc,I.cell,I.free,I.freeC,fun p a=>(List.mem_append.mp a).elim (fun z=>I.pin p (List.mem_append_left _ z)) (h p),I.hok,I.len⟩
theorem Yb7 {N:List Str} (hN:N.Nodup) {i j:Nat} {x:Str} (a:N[i]?=some x) (b:N[j]?=some x):i=j:=by
 obtain⟨f,d⟩:=List.getElem?_eq_some_iff.mp a;obtain⟨e,c⟩:=List.getElem?_eq_some_iff.mp b;exact (List.getElem_inj hN).mp (d.trans c.symm)
theorem Yw0 {M:Model} {A:Around} {E:Value->Shared->Prop} {i:Nat} {x:Str} {v:V} {u:Value} {Q:Unit->Shared->Prop} (I:Inv X pins σ H s) (hN:X.N.Nodup) (hi:X.N[i]?=some x) (hx:Loc X.env.scope x) (r:RelV v u)
  (h:∀ s',Inv X pins (σ.set i (some v)) H s'->(∃ a,Heap.SameBut a s.heap s'.heap/\(a=X.env.locals∨X.env.cells.lookup x=some a))->Q () s') (hf:X.fn x=true∨X.env.scope.names.lookup x=some .local:=by first | exact .inl rfl | exact .inr rfl | assumption):wpAny M A (storeName X.env x u) Q E s:=by
 obtain⟨m,hn,hl⟩:=id I.loc
 have q1:(X.env.scope.kind == .class||(X.env.scope.kind == .module&&X.env.locals != X.env.globals))=false:=by rw[I.ok.kind];rfl
 have G:i < σ.length:=by rw[I.len];exact (List.getElem?_eq_some_iff.mp hi).1
 have L:=I.cne
 have t:∀ {a:Addr} {h':Heap},(∃ o,s.heap.get? a=some o/\H a=none)->Heap.SameBut a s.heap h'->HOk X.prog X.w H h':=fun {a h'} ha f b ob e=>by
  obtain⟨_,_,F⟩:=ha;refine (I.hok b ob e).stay (fun c O l q=>(f.2 c ?_).trans q) (fun _ q=>q) fun _ _ q=>q;rintro rfl;rcases l with rfl | l
  ·rw[F] at e;cases e
  ·rw[F] at l;cases l
 rcases hx with C | C
 ·refine wpAny_storeName_local C hn (fun h' q3 f=>?_) q1
  obtain⟨oL,_,_,q2,_⟩:=id hn;refine h _ ⟨I.ok,I.os,I.bare,⟨fun b o e n D hx=>?_,fun b o e n D hx=>?_,I.base.free,fun b o e hx=>?_,I.base.tups,I.base.frzs,I.base.tbls⟩,⟨_,q3,fun j y W g B e3=>?_⟩,fun y c e=>?_,I.free,I.freeC,fun p hp=>?_,t ⟨oL,q2,I.free⟩ f,by simpa using I.len⟩ ⟨_,f,.inl rfl⟩
  ·exact (f.2 b (Nat.ne_of_lt (Nat.lt_of_lt_of_le (Heap.lt_size e) I.ok.above))).trans (I.base.keep b o e n D hx)
  ·obtain⟨Z,g⟩:=I.base.slot b o e n D hx
   exact⟨Z,(f.2 b (Nat.ne_of_lt (Nat.lt_of_lt_of_le (Heap.lt_size e) I.ok.above))).trans g⟩
  ·obtain⟨o',g⟩:=I.base.there b o e hx
   exact⟨o',(f.2 b (Nat.ne_of_lt (Nat.lt_of_lt_of_le (Heap.lt_size e) I.ok.above))).trans g⟩
  ·by_cases hj:j=i
   ·subst hj
    rw[hi] at g;cases g;rw[List.getElem?_set_self G] at B;cases B;exact⟨u,r,.inl ⟨C,by simp⟩⟩
   ·rw[List.getElem?_set_ne (Ne.symm hj)] at B
    obtain⟨Y,r',q⟩:=hl j y W g B e3;refine⟨Y,r',?_⟩;rcases q with ⟨k,e⟩ | ⟨k,c,e,z⟩
    ·refine .inl ⟨k,?_⟩
     have:y≠x:=fun e=>hj (Yb7 hN g (e▸hi));simp[this,e]
    ·exact .inr ⟨k,c,e,z.sameBut f (L y c e)⟩
  ·obtain⟨O,z⟩:=I.cell y c e
   exact⟨O,z.sameBut f (L y c e)⟩
  ·obtain⟨e,n,R,nf,d⟩:=I.pin p hp
   exact⟨(f.2 p.1 R).trans e,n,R,nf,d⟩
 ·have J:X.fn x=true:=by
   rcases hf with z | z
   ·exact z
   ·rw[z] at C;cases C
  obtain⟨c,l⟩:=I.ok.has x (.inl C);obtain⟨O,z⟩:=I.cell x c l;refine wpAny_storeName_cell I.ok.kind C l z (fun h' U f=>?_);obtain⟨oc,T,q0⟩:=id z;refine h { s with heap:=h' } ⟨I.ok,I.os,I.bare,⟨fun b o e n D hx=>?_,fun b o e n D hx=>?_,I.base.free,fun b o e hx=>?_,I.base.tups,I.base.frzs,I.base.tbls⟩,⟨m,hn.sameBut f (Ne.symm (L x c l)),fun j y W g B e3=>?_⟩,fun y S e=>?_,I.free,I.freeC,fun p hp=>?_,t ⟨oc,T,I.freeC x c l⟩ f,by simpa using I.len⟩ ⟨c,f,.inr l⟩
  ·exact (f.2 b (Nat.ne_of_lt (Nat.lt_of_lt_of_le (Heap.lt_size e) (I.ok.cab x c J l)))).trans (I.base.keep b o e n D hx)
  ·obtain⟨Z,g⟩:=I.base.slot b o e n D hx
   exact⟨Z,(f.2 b (Nat.ne_of_lt (Nat.lt_of_lt_of_le (Heap.lt_size e) (I.ok.cab x c J l)))).trans g⟩
  ·obtain⟨o',g⟩:=I.base.there b o e hx
   exact⟨o',(f.2 b (Nat.ne_of_lt (Nat.lt_of_lt_of_le (Heap.lt_size e) (I.ok.cab x c J l)))).trans g⟩
  ·by_cases hj:j=i
   ·subst hj
    rw[hi] at g;cases g;rw[List.getElem?_set_self G] at B;cases B;exact⟨u,r,.inr ⟨.inl C,c,l,U⟩⟩
   ·rw[List.getElem?_set_ne (Ne.symm hj)] at B
    obtain⟨Y,r',q⟩:=hl j y W g B e3;refine⟨Y,r',?_⟩;rcases q with q | ⟨k,S,e,z'⟩
    ·exact .inl q
    ·refine .inr ⟨k,S,e,z'.sameBut f ?_⟩
     rintro rfl;exact hj (Yb7 hN g (I.ok.inj _ _ _ e l▸hi))
  ·by_cases hcc:S=c
   ·subst hcc;exact⟨_,U⟩
   ·obtain⟨w2,z2⟩:=I.cell y S e
    exact⟨w2,z2.sameBut f hcc⟩
  ·obtain⟨e,n,R,nf,d⟩:=I.pin p hp
   refine⟨(f.2 p.1 ?_).trans e,n,R,nf,d⟩;intro q;rw[q,T] at e;have q':oc=p.2:=Option.some.inj e;exact d O (by rw[<- q'];exact q0)
theorem Zm8 {M:Model} {A:Around} {E:Value->Shared->Prop} {i:Nat} {x:Str} {v:V} {u:Value} {Q:Unit->Shared->Prop} (I:Inv X pins σ H s) (hN:X.N.Nodup) (hi:X.N[i]?=some x) (hx:Loc X.env.scope x) (r:RelV v u)
  (h:∀ s',Inv X pins (σ.set i (some v)) H s'->Q () s') (hf:X.fn x=true∨X.env.scope.names.lookup x=some .local:=by first | exact .inl rfl | exact .inr rfl | assumption):wpAny M A (storeName X.env x u) Q E s :=
 Yw0 I hN hi hx r (fun s' a _=>h s' a) hf
theorem Inv.call' {s':Shared} {ch:List Addr} (I:Inv X pins σ H s) (ho:s'.os=s.os) (u:Un (frs X.stack) ch H H' s.heap s'.heap) (hok:HOk X.prog X.w H' s'.heap) (hg:AllBare s'.gens)
  (hch:∀ b∈ch,(b∈X.ex∨X.s₀.heap.objs.size<=b)/\b≠X.env.locals/\(∀ x c,X.env.cells.lookup x=some c->c≠b)/\∀ p∈X.pn++pins,p.1≠b):Inv X pins σ H' s':=by
 obtain⟨d,g',d',t',a⟩:=s';have e:a=s.os:=ho;subst e;exact I.call (g':=g') (t':=t') (d':=d') u hok hg hch
end
noncomputable abbrev XK:=Value->Option Addr->Hp->Prop
noncomputable abbrev St:=List (Option V)
noncomputable abbrev VK:=V->Hp->Prop
noncomputable abbrev TE:=St->Hp->VK->Prop
noncomputable abbrev TT:=St->Hp->(Bool->Hp->Prop)->Prop
noncomputable abbrev TA:=St->Hp->(List V->Hp->Prop)->Prop
structure Ends where
 nx:St->Hp->Prop
 rt:VK
 bk:St->Hp->Prop:=fun _ _=>False
 ct:St->Hp->Prop:=fun _ _=>False
noncomputable abbrev TS:=Ends->St->Hp->Prop
def EP (X:Cx) (pins:List (Addr×Obj)) (σ:St) (Q:VK) (u:Value) (s':Shared):Prop:=∃ v H',Inv X pins σ H' s'/\RelV v u/\Q v H'
def TP (X:Cx) (pins:List (Addr×Obj)) (σ:St) (Q:Bool->Hp->Prop) (b:Bool) (s':Shared):Prop:=∃ H',Inv X pins σ H' s'/\Q b H'
def AP (X:Cx) (pins:List (Addr×Obj)) (σ:St) (Q:List V->Hp->Prop) (us:List Value) (s':Shared):Prop:=∃ vs H',Inv X pins σ H' s'/\Vals vs us/\Q vs H'
def SP (X:Cx) (pins:List (Addr×Obj)) (D:Ends) (f:Flow) (s':Shared):Prop :=
 match f with
 | .next=>∃ σ' H',Inv X pins σ' H' s'/\D.nx σ' H'
 | .brk=>∃ σ' H',Inv X pins σ' H' s'/\D.bk σ' H'
 | .cont=>∃ σ' H',Inv X pins σ' H' s'/\D.ct σ' H'
 | .ret u=>∃ v σ' H',Inv X pins σ' H' s'/\RelV v u/\D.rt v H'
def PE (X:Cx) (e:Expr) (t:TE):Prop :=
 ∀ (pins:List (Addr×Obj)) (s:Shared) (σ:St) (H:Hp) (Q:VK),Inv X pins σ H s->t σ H Q->wpAny (model X.prog X.w) X.A (eval e X.env) (EP X pins σ Q) X.xe s
def PT (X:Cx) (e:Expr) (t:TT):Prop :=
 ∀ (pins:List (Addr×Obj)) (s:Shared) (σ:St) (H:Hp) (Q:Bool->Hp->Prop),Inv X pins σ H s->t σ H Q->wpAny (model X.prog X.w) X.A (isTrue e X.env (eval e X.env)) (TP X pins σ Q) X.xe s
def PW (X:Cx) (e:Expr) (t:TT):Prop :=
 ∀ (whole:Sem Value) (pins:List (Addr×Obj)) (s:Shared) (σ:St) (H:Hp) (Q:Bool->Hp->Prop),Inv X pins σ H s->t σ H Q->wpAny (model X.prog X.w) X.A (isTrue e X.env whole) (TP X pins σ Q) X.xe s
theorem PW.pt {X:Cx} {e:Expr} {t:TT} (h:PW X e t):PT X e t:=h _
def PA (X:Cx) (es:List Expr) (t:TA):Prop :=
 ∀ (pos:Pos) (pins:List (Addr×Obj)) (s:Shared) (σ:St) (H:Hp) (Q:List V->Hp->Prop),Inv X pins σ H s->t σ H Q->wpAny (model X.prog X.w) X.A (spliced (backTo pos (starEach es X.env))) (AP X pins σ Q) X.xe s
def PS (X:Cx) (st:Stmt) (t:TS):Prop :=
 ∀ (pins:List (Addr×Obj)) (s:Shared) (σ:St) (H:Hp) (D:Ends),Inv X pins σ H s->t D σ H->wpAny (model X.prog X.w) X.A (exec st X.env) (SP X pins D) X.xe s
def PSs (X:Cx) (st:List Stmt) (t:TS):Prop :=
 ∀ (pins:List (Addr×Obj)) (s:Shared) (σ:St) (H:Hp) (D:Ends),Inv X pins σ H s->t D σ H->wpAny (model X.prog X.w) X.A (execs st X.env) (SP X pins D) X.xe s
theorem thn {α:Type} {t:Sem α} {Q Q':α->Shared->Prop} {M:Model} {A:Around} {E:Value->Shared->Prop} {s:Shared} (h:wpAny M A t Q E s) (hQ:∀ a s,Q a s->Q' a s):wpAny M A t Q' E s:=wpAny_mono h hQ fun _ _ x=>x
section
variable {X:Cx}
def tVar (i:Nat):TE:=fun σ H Q=>∃ v,σ[i]?=some (some v)/\Q v H
def tC (v:V):TE:=fun _ H Q=>Q v H
theorem Yx9 {i:Nat} {x:Str} {pos:Pos} (hN:X.N[i]?=some x) (hv:Vis X.env.scope x) (hd:(x == ("__debug__":Str))=false:=by decide) (hcd:(x == ("__classdict__":Str))=false:=by decide):PE X (.Name x pos) (tVar i):=by
 intro f s j H Q I h;obtain⟨v,e,h⟩:=h;obtain⟨m,k,o⟩:=I.loc;obtain⟨u,r,l⟩:=o i x v hN e hv;have d:EP X f j Q u s:=⟨v,H,I,r,h⟩;rcases l with ⟨a,n⟩ | ⟨a,c,g,b⟩
 ·exact wpAny_Name (wpAny_loadName_local I.ok.kind a k n d) hd
 ·rcases a with a | a
  ·exact wpAny_Name (wpAny_loadName_cell I.ok.kind a g b d) hd
  ·exact wpAny_Name (wpAny_loadName_free I.ok.kind a g b d hcd) hd
theorem Za5 {i j pos}:PE X (.Constant (.int i) j pos) (tC (.int i)):=fun _ _ _ H _ I h=>wpAny_Constant_int ⟨.int i,H,I.tok _,⟨_,rfl⟩,h⟩
theorem Zo1 {b j pos}:PE X (.Constant (.bool b) j pos) (tC (.bl b)):=fun _ _ _ H _ I h=>Constant_bool ⟨.bl b,H,I,rfl,h⟩
theorem Zd4 {j pos}:PE X (.Constant .none j pos) (tC .non):=fun _ _ _ H _ I h=>Constant_none ⟨.non,H,I,rfl,h⟩
theorem Za9 {x j pos}:PE X (.Constant (.str x) j pos) (tC (.str x)):=fun _ _ _ H _ I h=>Calls.Constant_str ⟨.str x,H,I.tok _,⟨_,rfl⟩,h⟩
def Gl (X:Cx) (x:Str):Prop:=X.env.kindOf x=some .globalImplicit
theorem Zj7 {E:Value->Shared->Prop} {pins:List (Addr×Obj)} {s:Shared} {σ:St} {H:Hp} {x:Str} {u:Value} {pos:Pos} {Q:Value->Shared->Prop} (I:Inv X pins σ H s) (hg:Gl X x) (hm:X.mg x=some u) (h:Q u s)
  (hd:(x == ("__debug__":Str))=false:=by decide):wpAny (model X.prog X.w) X.A (eval (.Name x pos) X.env) Q E s :=
 Calls.Name_function_global I.ok.kind hg (Calls.loadGlobal_global (by rw[I.ok.glob];exact I.mod.glob.keeps I.bk) hm h) hd
theorem Zx2 {E:Value->Shared->Prop} {pins:List (Addr×Obj)} {s:Shared} {σ:St} {H:Hp} {x:Str} {u:Value} {pos:Pos} {Q:Value->Shared->Prop} (I:Inv X pins σ H s) (hg:Gl X x) (hm:X.mg x=none) (hv:bootBuiltins x=some u) (h:Q u s)
  (hn:x≠"__name__":=by decide) (hd:(x == ("__debug__":Str))=false:=by decide):wpAny (model X.prog X.w) X.A (eval (.Name x pos) X.env) Q E s:=by
 obtain⟨c,b,a⟩:=I.mod.blt;exact Calls.Name_function_global I.ok.kind hg (Calls.loadGlobal_builtin (by rw[I.ok.glob];exact I.mod.glob.keeps I.bk) hm (by rw[I.ok.blt];exact b.keeps I.bk) ((a x hn).trans hv) h) hd
theorem Zh3 {x:Str} {v:V} {u:Value} {pos:Pos} (hg:Gl X x) (hm:X.mg x=some u) (r:RelV v u) (hd:(x == ("__debug__":Str))=false:=by decide):PE X (.Name x pos) (tC v) :=
 fun _ _ _ H _ I h=>Zj7 I hg hm ⟨v,H,I,r,h⟩ hd
theorem Yb4 {x:Str} {v:V} {u:Value} {pos:Pos} (hg:Gl X x) (hm:X.mg x=none) (hv:bootBuiltins x=some u) (r:RelV v u) (hn:x≠"__name__":=by decide) (hd:(x == ("__debug__":Str))=false:=by decide):PE X (.Name x pos) (tC v) :=
 fun _ _ _ H _ I h=>Zx2 I hg hm hv ⟨v,H,I,r,h⟩ hn hd
variable {a b:Expr} {ta tb:TE} {pos:Pos}
def PC (X:Cx) (op:CmpOp) (a b:Expr) (t:TE):Prop :=
 ∀ (pins:List (Addr×Obj)) (s:Shared) (σ:St) (H:Hp) (Q:VK),Inv X pins σ H s->t σ H Q ->
  wpAny (model X.prog X.w) X.A (eval a X.env) (fun v s₁=>wpAny (model X.prog X.w) X.A (eval b X.env) (fun u s₂=>wpAny (model X.prog X.w) X.A (compareOp op v u) (EP X pins σ Q) X.xe s₂) X.xe s₁) X.xe s
def tB (t:TE):TT:=fun σ H Q=>t σ H fun x H1=>∃ c,x=.bl c/\Q c H1
theorem Xu9 {op:CmpOp} {t:TE} (h:PC X op a b t) (h1:behindInMarks op b=false:=by first | exact nobehind _ (by decide) (by decide) | rfl):PT X (.Compare a [op] [b] pos) (tB t):=by
 intro e s f H Q I g;refine wpAny_isTrue_Compare1 (thn (h e s f H _ I g) fun v k h1=>thn h1 fun u j i=>thn i fun c s3 ⟨x,H1,I1,r1,q1⟩=>?_) h1;obtain⟨d,rfl,q⟩:=q1;cases r1;exact wpAny_truthy_bool ⟨H1,I1,q⟩
theorem Zj1 {e:Expr} {t:TE} (h:PE X e t) (he:∀ whole,isTrue e X.env whole=(do let v <- whole;standAt e.pos;holding [v] (truthy v)):=by intro _;rfl):PT X e (tB t):=by
 intro a s b H Q I c;refine isTrue_plain (thn (h a s b H _ I c) fun v s1 ⟨x,H1,I1,r1,q1⟩=>?_) (he _);obtain⟨d,rfl,q⟩:=q1;cases r1;exact wpAny_truthy_bool ⟨H1,I1,q⟩
variable {tA tB':TT} {rest:List Expr}
def tAnd (t u:TT):TT:=fun σ H Q=>t σ H fun c H1=>if c=true then u σ H1 Q else Q false H1
def tOr (t u:TT):TT:=fun σ H Q=>t σ H fun c H1=>if c=true then Q true H1 else u σ H1 Q
def tNot (t:TT):TT:=fun σ H Q=>t σ H fun c H1=>Q (!c) H1
theorem Ze6 (ha:PT X a tA):PW X (.BoolOp .And [a] pos) tA:=by
 intro f b s d H Q I h;refine isTrue_and (thn (ha b s d H Q I h) fun c g e=>?_)
 cases c with
 | true=>exact isTrue_and_nil e
 | false=>exact e
theorem Zl7 (ha:PT X a tA):PW X (.BoolOp .Or [a] pos) tA:=by
 intro f b s d H Q I h;refine isTrue_or (thn (ha b s d H Q I h) fun c g e=>?_)
 cases c with
 | false=>exact isTrue_or_nil e
 | true=>exact e
theorem Zg0 (ha:PT X a tA) (hb:PW X (.BoolOp .And (b :: rest) pos) tB'):PW X (.BoolOp .And (a :: b :: rest) pos) (tAnd tA tB'):=by
 intro f d s e H Q I h;refine isTrue_and (thn (ha d s e H _ I h) fun c s1 zq=>?_);obtain⟨H1,I1,q1⟩:=zq
 cases c with
 | true=>exact hb f d s1 e H1 Q I1 q1
 | false=>exact⟨H1,I1,q1⟩
theorem Zr2 (ha:PT X a tA) (hb:PW X (.BoolOp .Or (b :: rest) pos) tB'):PW X (.BoolOp .Or (a :: b :: rest) pos) (tOr tA tB'):=by
 intro f d s e H Q I h;refine isTrue_or (thn (ha d s e H _ I h) fun c s1 zq=>?_);obtain⟨H1,I1,q1⟩:=zq
 cases c with
 | true=>exact⟨H1,I1,q1⟩
 | false=>exact hb f d s1 e H1 Q I1 q1
theorem Zl8 (ha:PT X a tA):PT X (.UnaryOp .Not a pos) (tNot tA):=by
 intro b s d H Q I h;exact isTrue_not (ha b s d H (fun c e=>Q (!c) e) I h)
def Yj0 (ta tb:TE):TE:=fun σ H Q=>ta σ H fun x H1=>∃ c,x=.bl c/\if c=true then tb σ H1 Q else Q (.bl false) H1
def tOrV (ta tb:TE):TE:=fun σ H Q=>ta σ H fun x H1=>∃ c,x=.bl c/\if c=true then Q (.bl true) H1 else tb σ H1 Q
def Yi9 (ta:TE):TE:=fun σ H Q=>ta σ H fun x H1=>∃ c,x=.bl c/\Q (.bl (!c)) H1
theorem Yo9 {op} {t:TE} (h:PE X a t):PE X (.BoolOp op [a] pos) t:=fun b s c H Q I d=>BoolOp_one (h b s c H Q I d)
theorem Yy2 (ha:PE X a ta) (hb:PE X (.BoolOp .And (b :: rest) pos) tb):PE X (.BoolOp .And (a :: b :: rest) pos) (Yj0 ta tb):=by
 intro d s f H Q I h;refine BoolOp_and (thn (ha d s f H _ I h) fun v s1 zq=>?_);obtain⟨x,H1,I1,r1,e⟩:=zq;obtain⟨c,rfl,e⟩:=e;cases r1;refine wpAny_truthy_bool ?_
 cases c with
 | true=>exact hb d s1 f H1 Q I1 e
 | false=>exact⟨.bl false,H1,I1,rfl,e⟩
theorem We9 (ha:PE X a ta) (hb:PE X (.BoolOp .Or (b :: rest) pos) tb):PE X (.BoolOp .Or (a :: b :: rest) pos) (tOrV ta tb):=by
 intro d s f H Q I h;refine BoolOp_or (thn (ha d s f H _ I h) fun v s1 zq=>?_);obtain⟨x,H1,I1,r1,e⟩:=zq;obtain⟨c,rfl,e⟩:=e;cases r1;refine wpAny_truthy_bool ?_
 cases c with
 | false=>exact hb d s1 f H1 Q I1 e
 | true=>exact⟨.bl true,H1,I1,rfl,e⟩
theorem Xv1 (ha:PE X a ta):PE X (.UnaryOp .Not a pos) (Yi9 ta):=by
 intro d s e H Q I h;refine UnaryOp_ (thn (ha d s e H _ I h) fun v s1 zq=>?_);obtain⟨x,H1,I1,r1,b⟩:=zq;obtain⟨c,rfl,b⟩:=b;cases r1;exact not_of (wpAny_truthy_bool ⟨.bl (!c),H1,I1,rfl,b⟩)
def tIf (t:TT) (ta tb:TE):TE:=fun σ H Q=>t σ H fun c H1=>if c=true then ta σ H1 Q else tb σ H1 Q
theorem Zk4 {c:Expr} (hc:PT X c tA) (ha:PE X a ta) (hb:PE X b tb):PE X (.IfExp c a b pos) (tIf tA ta tb):=by
 intro e s f H Q I h;refine wpAny_IfExp (thn (hc e s f H _ I h) fun d s1 zq=>?_);obtain⟨H1,I1,q1⟩:=zq
 cases d with
 | true=>exact ha e s1 f H1 Q I1 q1
 | false=>exact hb e s1 f H1 Q I1 q1
end
def SqL (K:W.Frag) (H:Hp) (a:Addr) (xs:List V):Prop :=
 Rd H a (.lst xs) ∨
  ∃ (o:Obj) (its:Array Value) (n:Nat),K.lookup a=some o/\o.cls=.type "list"/\o.dict=none/\o.data=.seq its n/\its.size<=sizeLine/\Vals xs its.toList
def SqT (K:W.Frag) (H:Hp) (a:Addr) (xs:List V):Prop :=
 Rd H a (.tup xs) ∨
  ∃ (o:Obj) (its:Array Value) (n:Nat),K.lookup a=some o/\o.cls=.type "tuple"/\o.data=.seq its n/\its.size<=sizeLine/\Vals xs its.toList
noncomputable def absV:Value->Option V
 | .none=>some .non
 | .bool b=>some (.bl b)
 | .int i _=>some (.int i)
 | .str x _=>some (.str x)
 | .bytes b _=>some (.byt b)
 | .float b _=>some (.flt b)
 | .ref a=>some (.ref a)
 | .type n=>some (.ty n)
 | _=>none
theorem RelV.abs {x:V} {u:Value} (r:RelV x u):absV u=some x:=by
 cases x with
 | non=>cases r;rfl
 | bl _=>cases r;rfl
 | int _=>obtain⟨t,rfl⟩:=r;rfl
 | str _=>obtain⟨t,rfl⟩:=r;rfl
 | byt _=>obtain⟨t,rfl⟩:=r;rfl
 | flt _=>obtain⟨t,rfl⟩:=r;rfl
 | ref _=>cases r;rfl
 | ty _=>cases r;rfl
theorem RelV.inj {x y:V} {u:Value} (r:RelV x u) (q:RelV y u):x=y:=Option.some.inj (r.abs.symm.trans q.abs)
theorem Vals.inj:∀ {xs ys:List V} {us:List Value},Vals xs us->Vals ys us->xs=ys
 | _,_,_,.nil,.nil=>rfl
 | _,_,_,.cons r t,.cons r' t'=>by rw[r.inj r',Vals.inj t t']
section
variable {X:Cx} {pins:List (Addr×Obj)} {σ:St} {H:Hp} {s:Shared} {a:Addr} {xs ys:List V}
theorem SqL.of {K:W.Frag} (h:H a=some (.lst xs)):SqL K H a xs:=.inl (.inl h)
theorem Inv.list (I:Inv X pins σ H s) (h:SqL X.K H a xs):∃ its:List Value,Vals xs its/\PlainL s.heap a its.toArray/\xs.length<=sizeLine:=by
 rcases h with h | ⟨o,its,n,c,f,d,b,g,r⟩
 ·obtain⟨z,its,n,r,e⟩:=h.ok I.hok
  exact⟨its,r,⟨_,n,e,rfl,rfl,rfl⟩,z⟩
 ·refine⟨its.toList,r,⟨o,n,I.kIn a o c,f,d,by simpa using b⟩,?_⟩
  have e:=r.length;simp only[Array.length_toList] at e;walk_at "o"
theorem Inv.tuple (I:Inv X pins σ H s) (h:SqT X.K H a xs):∃ its:List Value,Vals xs its/\IsTup s.heap a its.toArray/\xs.length<=sizeLine:=by
 rcases h with h | ⟨o,its,n,c,d,b,f,r⟩
 ·obtain⟨z,its,r,p⟩:=h.ok I.hok
  exact⟨its,r,p,z⟩
 ·refine⟨its.toList,r,⟨o,I.kIn a o c,d,n,by simpa using b⟩,?_⟩
  have e:=r.length;simp only[Array.length_toList] at e;walk_at "o"
theorem Inv.list_inj (I:Inv X pins σ H s) (h:SqL X.K H a xs) (h':SqL X.K H a ys):xs=ys:=by
 obtain⟨b,r,⟨o,n,e,_,_,d⟩,_⟩:=I.list h;obtain⟨its',g,⟨i,j,c,_,_,f⟩,_⟩:=I.list h';rw[e] at c;cases c;rw[d] at f;injection f with d1 _
 have:b=its':=by simpa using congrArg Array.toList d1
 subst this;exact r.inj g
theorem Inv.tuple_inj (I:Inv X pins σ H s) (h:SqT X.K H a xs) (h':SqT X.K H a ys):xs=ys:=by
 obtain⟨b,r,⟨o,e,_,n,d⟩,_⟩:=I.tuple h;obtain⟨its',g,⟨i,c,_,j,f⟩,_⟩:=I.tuple h';rw[e] at c;cases c;rw[d] at f;injection f with d1 _
 have:b=its':=by simpa using congrArg Array.toList d1
 subst this;exact r.inj g
end
noncomputable abbrev Cx.wish (X:Cx) (E:Value->Shared->Prop):Cx:={ X with xe:=E }
noncomputable abbrev Cx.nox (X:Cx):Cx:=X.wish fun _ _=>False
theorem Cx.Ok.wish {X:Cx} (ok:X.Ok) (E:Value->Shared->Prop):(X.wish E).Ok :=
 ⟨ok.mod,ok.kind,ok.glob,ok.blt,ok.above,ok.inj,ok.has,ok.cab,ok.hd,ok.frames,ok.stk,ok.exf,ok.bs,ok.bsz,ok.noex,ok.exfs,ok.funs,ok.frf⟩
theorem Cx.Ok.unwish {X:Cx} {E:Value->Shared->Prop} (ok:(X.wish E).Ok):X.Ok :=
 ⟨ok.mod,ok.kind,ok.glob,ok.blt,ok.above,ok.inj,ok.has,ok.cab,ok.hd,ok.frames,ok.stk,ok.exf,ok.bs,ok.bsz,ok.noex,ok.exfs,ok.funs,ok.frf⟩
section
variable {X:Cx} {pins:List (Addr×Obj)} {σ:St} {H:Hp} {s:Shared} {E:Value->Shared->Prop}
theorem Inv.wish (I:Inv X pins σ H s) (E:Value->Shared->Prop):Inv (X.wish E) pins σ H s:=⟨I.ok.wish E,I.os,I.bare,I.base,I.loc,I.cell,I.free,I.freeC,I.pin,I.hok,I.len⟩
theorem Inv.unwish (I:Inv (X.wish E) pins σ H s):Inv X pins σ H s:=⟨I.ok.unwish,I.os,I.bare,I.base,I.loc,I.cell,I.free,I.freeC,I.pin,I.hok,I.len⟩
theorem SP.unwish {D:Ends} {f:Flow} {s':Shared} (h:SP (X.wish E) pins D f s'):SP X pins D f s':=by
 cases f with
 | next=>obtain⟨a,b,I,q⟩:=h;exact⟨a,b,I.unwish,q⟩
 | brk=>obtain⟨a,b,I,q⟩:=h;exact⟨a,b,I.unwish,q⟩
 | cont=>obtain⟨a,b,I,q⟩:=h;exact⟨a,b,I.unwish,q⟩
 | ret u=>obtain⟨v,a,b,I,r,q⟩:=h;exact⟨v,a,b,I.unwish,r,q⟩
theorem PSs.nox {st:List Stmt} {t:TS} (h:PSs X.nox st t):PSs X st t:=fun a s b H D I c =>
 wpAny_mono (h a s b H D (I.wish _) c) (fun _ _ q=>q.unwish) fun _ _ z=>False.elim z
end
section
variable {X:Cx} {st:Stmt} {rest:List Stmt} {t u:TS} {e:Expr} {te:TE} {pos:Pos}
def Yv9:TS:=fun D σ H=>D.nx σ H
def tSeq (t u:TS):TS:=fun D σ H=>t { D with nx:=u D } σ H
theorem Zb2:PSs X [] Yv9:=fun _ _ a H _ I h=>wpAny_execs_nil ⟨a,H,I,h⟩
theorem Za4 (h1:PS X st t) (h2:PSs X rest u):PSs X (st :: rest) (tSeq t u):=by
 intro a s c H D I h;refine wpAny_execs_cons (thn (h1 a s c H { D with nx:=u D } I h) fun f d q=>?_)
 cases f with
 | next =>
  obtain⟨b,g,e,q⟩:=q;exact h2 a d b g D e q
 | ret v=>exact q
 | brk=>exact q
 | cont=>exact q
theorem Za6 (h1:PS X st t):PSs X [st] t:=by
 intro a s b H D I h;refine wpAny_execs_cons (thn (h1 a s b H D I h) fun f c q=>?_)
 cases f with
 | next=>exact wpAny_execs_nil q
 | ret v=>exact q
 | brk=>exact q
 | cont=>exact q
theorem Inv.quiet {pins:List (Addr×Obj)} {σ:St} {H:Hp} {s:Shared} (I:Inv X pins σ H s):interactive X.env=false:=by simp[interactive,I.ok.kind]
def Xn1 (te:TE):TS:=fun D σ H=>te σ H fun _ H1=>D.nx σ H1
theorem Zq2 (he:PE X e te) (hs:swapsWith e none pos.line X.env=pure false:=by rfl):PS X (.Expr e pos) (Xn1 te):=by
 intro a s b H D I h;exact wpAny_Expr_any (thn (he a s b H _ I h) fun v s1 ⟨x,H1,I1,r1,q1⟩=>⟨b,H1,I1,q1⟩) I.quiet hs
def tRet (te:TE):TS:=fun D σ H=>te σ H D.rt
theorem Zb1 (he:PE X e te):PS X (.Return (some e) pos) (tRet te):=by
 intro a s b H D I h;exact wpAny_Return_some (thn (he a s b H _ I h) fun v s1 ⟨x,H1,I1,r1,q1⟩=>⟨x,b,H1,I1,r1,q1⟩)
def tIfS (c:TT) (t u:TS):TS:=fun D σ H=>c σ H fun b H1=>if b=true then t D σ H1 else u D σ H1
theorem Zc4 {c:Expr} {a b:List Stmt} {tc:TT} (hc:PT X c tc) (ha:PSs X a t) (hb:PSs X b u):PS X (.If c a b pos) (tIfS tc t u):=by
 intro e s f H D I h;refine wpAny_If (thn (hc e s f H _ I h) fun d s1 zq=>?_);obtain⟨H1,I1,q1⟩:=zq
 cases d with
 | true=>exact ha e s1 f H1 D I1 q1
 | false=>exact hb e s1 f H1 D I1 q1
end
noncomputable abbrev TG:=V->St->Hp->(St->Hp->Prop)->Prop
noncomputable abbrev TGs:=List V->St->Hp->(St->Hp->Prop)->Prop
def PG (X:Cx) (target:Expr) (t:TG):Prop :=
 ∀ (pins:List (Addr×Obj)) (s:Shared) (σ:St) (H:Hp) (v:V) (u:Value) (Q:St->Hp->Prop),Inv X pins σ H s->RelV v u->t v σ H Q ->
  wpAny (model X.prog X.w) X.A (assign target X.env u) (fun _ s'=>∃ σ' H',Inv X pins σ' H' s'/\Q σ' H') X.xe s
def PGs (X:Cx) (ts:List Expr) (t:TGs):Prop :=
 ∀ (pins:List (Addr×Obj)) (s:Shared) (σ:St) (H:Hp) (vs:List V) (us:List Value) (Q:St->Hp->Prop),Inv X pins σ H s->Vals vs us->t vs σ H Q ->
  wpAny (model X.prog X.w) X.A (assignInOrder ((assignEach ts X.env).map (·.2)) us) (fun _ s'=>∃ σ' H',Inv X pins σ' H' s'/\Q σ' H') X.xe s
section
variable {X:Cx} {pos:Pos}
def Zx6 (i:Nat):TG:=fun v σ H Q=>Q (σ.set i (some v)) H
theorem Zb6 {i:Nat} {x:Str} (hN:X.N.Nodup) (hi:X.N[i]?=some x) (hx:Loc X.env.scope x) (hf:X.fn x=true∨X.env.scope.names.lookup x=some .local:=by first | exact .inl rfl | exact .inr rfl | assumption):PG X (.Name x pos) (Zx6 i):=by
 intro a s c H v u Q I r h;exact wpAny_assign_Name (Zm8 I hN hi hx r (fun d b=>⟨_,H,b,h⟩) hf)
def gNil:TGs:=fun vs σ H Q=>vs=[]/\Q σ H
def Xb6 (t:TG) (u:TGs):TGs:=fun vs σ H Q=>∃ v r,vs=v :: r/\t v σ H fun σ' H'=>u r σ' H' Q
theorem Zh9:PGs X [] gNil:=by
 intro b s a H c d Q I r h;obtain⟨e,h⟩:=h;subst e;cases r;exact assignInOrder_nil ⟨a,H,I,h⟩
theorem Zc0 {e:Expr} {es:List Expr} {t:TG} {u:TGs} (h1:PG X e t) (h2:PGs X es u)
  (hs:(assignEach (e :: es) X.env).map (·.2)=assign e X.env :: (assignEach es X.env).map (·.2):=by rfl):PGs X (e :: es) (Xb6 t u):=by
 intro a s b H d g Q I r h;obtain⟨v,f,c,h⟩:=h;subst c
 cases r with
 | cons r rr =>
  rw[hs];refine assignInOrder_cons (thn (h1 a s b H _ _ _ I r h) fun _ s1 zq=>?_);obtain⟨σ1,H1,I1,q1⟩:=zq;exact h2 a s1 σ1 H1 _ _ Q I1 rr q1
def gTup (K:W.Frag) (n:Nat) (t:TGs):TG:=fun v σ H Q=>∃ a xs,v=.ref a/\SqT K H a xs/\xs.length=n/\t xs σ H Q
theorem Zo0 {es:List Expr} {k:Nat} {t:TGs} {n:Nat} (hc:X.calm=true) (h:PGs X es t)
  (hn:(assignEach es X.env).length=n:=by rfl) (hst:(assignEach es X.env).findIdx? (·.1)=none:=by rfl):PG X (.Tuple es k pos) (gTup X.K n t):=by
 intro c s f H v u Q I r d;obtain⟨a,i,w,m,p,d⟩:=d;subst w;cases r;obtain⟨y,g,l,z⟩:=I.tuple m;refine assign_Tuple_tuple (I.ok.hd hc) l (by simp[hn,<- p,g.length]) hst fun q j=>?_;have x:Inv X c f H { s with heap:=q }:=I.kept (t':=s.toks) fun b o e=>j b o (Nat.ne_of_lt (Heap.lt_size e)) e;exact h c _ f H i _ Q x (by simpa using g) d
def tAsg (te:TE) (g:TG):TS:=fun D σ H=>te σ H fun x H1=>g x σ H1 D.nx
theorem Zr3 {tg e:Expr} {te:TE} {g:TG} (he:PE X e te) (hg:PG X tg g) (hs:swapsWithSole [tg] e pos.line X.env=pure false:=by rfl) (hw:swappedStores [tg] e X.env=pure none:=by rfl)
  (h1:(assignEach [tg] X.env).map (·.2)=[assign tg X.env]:=by rfl):PS X (.Assign [tg] e pos) (tAsg te g):=by
 intro a s b H D I h;refine wpAny_Assign_stores (thn (he a s b H _ I h) fun v s1 ⟨x,H1,I1,r1,q1⟩=>?_) hs hw;rw[h1];exact thn (hg a s1 b H1 x v _ I1 r1 q1) fun _ c q=>q
theorem Zg1 {i:Nat} {x:Str} {e:Expr} {te:TE} {pos':Pos} (hN:X.N.Nodup) (hi:X.N[i]?=some x) (hx:Loc X.env.scope x) (he:PE X e te) (hs:swapsWith e (some (.Name x pos')) pos.line X.env=pure false:=by rfl) (hf:X.fn x=true∨X.env.scope.names.lookup x=some .local:=by first | exact .inl rfl | exact .inr rfl | assumption) :
  PS X (.Assign [.Name x pos'] e pos) (tAsg te (Zx6 i)):=by
 intro a s b H D I h;refine wpAny_Assign_Name (thn (he a s b H _ I h) fun v s1 ⟨y,H1,I1,r1,q1⟩=>?_) hs;exact Zm8 I1 hN hi hx r1 (fun d c=>⟨_,H1,c,q1⟩) hf
end
section
variable {X:Cx} {pos:Pos}
def Xs2 (c:TT) (tb:TS):TS:=fun D σ H=>∃ W:Nat->St->Hp->Prop,(∃ m,W m σ H)/\∀ m σ H,W m σ H ->
 c σ H fun b H1=>if b=true then ∃ N:St->Hp->Prop,(∀ σ' H',N σ' H'->∃ m',m' < m/\W m' σ' H')/\tb { D with nx:=N,ct:=N,bk:=D.nx } σ H1 else D.nx σ H1
theorem Yo6 {c:Expr} {body:List Stmt} {tc:TT} {tb:TS} (hp:PassesOwn (model X.prog X.w) X.A X.env X.xe) (hc:PT X c tc) (hb:PSs X body tb):PS X (.While c body [] pos) (Xs2 tc tb):=by
 intro d s u H D I h;obtain⟨W,⟨C,y⟩,l⟩:=h;refine wpAny_While (codeAny_whileLoop (fun n B=>∃ σ' H',Inv X d σ' H' B/\W n σ' H') ?_ C ⟨u,H,I,y⟩);rintro n z ⟨e,t,F,x⟩;refine wpAny_passesOwn hp (thn (hc d z e t _ F (l n e t x)) fun b s2 zq=>?_);obtain⟨H2,I2,j⟩:=zq
 cases b with
 | true =>
  obtain⟨N,r,j⟩:=j;rw[if_pos rfl];refine wpAny_passesOwn hp (thn (hb d s2 e H2 _ I2 j) fun f G i=>?_)
  cases f with
  | next =>
   obtain⟨a,g,q,m⟩:=i;obtain⟨o,p,k⟩:=r a g m;exact⟨o,p,a,g,q,k⟩
  | cont =>
   obtain⟨a,g,q,m⟩:=i;obtain⟨o,p,k⟩:=r a g m;exact⟨o,p,a,g,q,k⟩
  | brk=>exact i
  | ret v=>exact i
 | false =>
  rw[if_neg Bool.false_ne_true];exact wpAny_execs_nil ⟨e,H2,I2,j⟩
end
structure It where
 go:Nat->Hp->Prop
 yld:Nat->Hp->V->Hp->Prop
 stop:Nat->Hp->Prop
def FpOk (X:Cx) (pins:List (Addr×Obj)) (H:Hp) (b:Addr):Prop :=
 H b=none/\b≠X.env.locals/\b ∉ X.fs/\(b∈X.ex∨X.s₀.heap.objs.size<=b)/\(∀ x c,X.env.cells.lookup x=some c->c≠b)/\∀ p∈X.pn++pins,p.1≠b
theorem Inv.fpOk {X:Cx} {pins:List (Addr×Obj)} {σ:St} {H H':Hp} {s:Shared} {b:Addr} (I:Inv X pins σ H s) (hb:s.heap.objs.size<=b) (hn:H' b=none):FpOk X pins H' b:=by
 refine⟨hn,Nat.ne_of_gt (Nat.lt_of_lt_of_le I.lt hb),I.nofs hb,.inr (Nat.le_trans I.sz hb),fun x c e z=>?_,fun p a z=>?_⟩
 ·obtain⟨v,q⟩:=I.cell x c e
  exact absurd (Nat.lt_of_lt_of_le q.lt (by rw[z];exact hb)) (Nat.lt_irrefl _)
 ·exact absurd (Nat.lt_of_lt_of_le (Heap.lt_size (I.pin p a).1) (by rw[z];exact hb)) (Nat.lt_irrefl _)
structure Turn (P:Program) (w:World) (K:W.Frag) (tg:Expr) (J:It) (fp:List Addr) (it:Addr) (tn:Nat->Heap->Prop):Prop where
  mem:it∈fp
  obj:∀ i h,tn i h->∀ b∈fp,∃ o,h.get? b=some o/\∀ v,o.data≠.cell v
  keep:∀ i h h',tn i h->(∀ b∈fp,∀ o,h.get? b=some o->h'.get? b=some o)->tn i h'
  item:∀ (X:Cx),X.prog=P->X.w=w->X.K=K->X.calm=true->∀ (i:Nat) (pins:List (Addr×Obj)) (s:Shared) (σ:St) (H:Hp) (E:Value->Shared->Prop),Inv X pins σ H s->(∀ b∈fp,FpOk X pins H b)->tn i s.heap->J.go i H ->
    wpAny (model P w) X.A (pyNext (.ref it)) (fun r s1=>∃ u,r=some u /\
      wpAny (model P w) X.A (letOwnedTupleGo tg (.ref it) u) (fun _ s2=>∃ x H',Inv X pins σ H' s2/\RelV x u/\J.yld i H x H'/\tn (i+1) s2.heap/\∀ b∈fp,H' b=none) E s1) E s
  done:∀ (X:Cx),X.prog=P->X.w=w->X.K=K->X.calm=true->∀ (i:Nat) (pins:List (Addr×Obj)) (s:Shared) (σ:St) (H:Hp) (E:Value->Shared->Prop),Inv X pins σ H s->(∀ b∈fp,FpOk X pins H b)->tn i s.heap->J.stop i H ->
    wpAny (model P w) X.A (pyNext (.ref it)) (fun r s1=>r=none/\Inv X pins σ H s1) E s
  self:∀ (A:Around) (i:Nat) (s:Shared) (Q:Value->Shared->Prop) (E:Value->Shared->Prop),tn i s.heap->Q (.ref it) s->wpAny (model P w) A (pyIter (.ref it)) Q E s
noncomputable abbrev TI:=St->Hp->(It->Hp->Prop)->Prop
def PIE (X:Cx) (pins:List (Addr×Obj)) (σ:St) (tg:Expr) (R:It->Hp->Prop) (itv:Value) (s2:Shared):Prop :=
 ∃ (it:Addr) (fp:List Addr) (tn:Nat->Heap->Prop) (J:It) (H':Hp),itv=.ref it/\Inv X pins σ H' s2/\Turn X.prog X.w X.K tg J fp it tn/\tn 0 s2.heap/\(∀ b∈fp,FpOk X pins H' b)/\R J H'
def PI (X:Cx) (tg iter:Expr) (wi:TI):Prop :=
 ∀ (pins:List (Addr×Obj)) (s:Shared) (σ:St) (H:Hp) (R:It->Hp->Prop),Inv X pins σ H s->wi σ H R ->
  wpAny (model X.prog X.w) X.A (eval iter X.env) (fun v s1=>wpAny (model X.prog X.w) X.A (pyIter v) (PIE X pins σ tg R) X.xe s1) X.xe s
theorem Xq2 {M:Model} {A:Around} {E:Value->Shared->Prop} {s:Shared} {tg:Expr} {it:Addr} {u:Value} {o:Obj} {n:String} {vs:Array Value} {Q:Unit->Shared->Prop} (ho:s.heap.get? it=some o) (hc:o.cls=.type n) (hd:o.data=.fields vs)
    (hn:["enumerate","zip","dict_itemiterator","dict_reverseitemiterator","odict_iterator","itertools.zip_longest","itertools.pairwise"].contains n=false) (hQ:Q () s):wpAny M A (letOwnedTupleGo tg (.ref it) u) Q E s:=by
  unfold letOwnedTupleGo
  cases tg<;>first
    | exact wpAny_pure hQ
    | (cases u<;>first
        | exact wpAny_pure hQ
        | (refine wpAny_bind (wpAny_load ho ?_)
           rw[hc,hd];show wpAny M A (if (["enumerate","zip","dict_itemiterator","dict_reverseitemiterator","odict_iterator","itertools.zip_longest","itertools.pairwise"].contains n&&vs[0]? == some (rawInt _))=true then _ else _) Q E s;rw[if_neg (by intro h;rw[hn,Bool.false_and] at h;cases h)]
           exact wpAny_pure hQ))
noncomputable def Itl (K:W.Frag) (a:Addr):It :=
 ⟨fun i H=>∃ xs x,SqL K H a xs/\xs[i]?=some x,fun i H x H'=>H'=H/\∀ xs,SqL K H a xs->xs[i]?=some x,fun i H=>∃ xs,SqL K H a xs/\xs.length<=i⟩
noncomputable def Itr (lo:Int) (n:Nat):It:=⟨fun i _=>i < n,fun i H x H'=>H'=H/\x=.int (lo+i),fun i _=>n<=i⟩
theorem Yv3 {P:Program} {w:World} {K:W.Frag} {tg:Expr} (a it:Addr):Turn P w K tg (Itl K a) [it] it (fun i h=>h.IsListIter it a i) where
  mem:=by simp
  obj:=fun i h f b g=>by
    have e:b=it:=by simpa using g
    subst e;obtain⟨o,e,c,d⟩:=f;exact⟨o,e,fun v z=>by rw[d] at z;cases z⟩
  keep:=fun i h n f k=>f.at fun o e=>k it (by simp) o e
  item:=by
    intro X B y C O i j s M H E I m f A;subst B y C;obtain⟨R,x,l,t⟩:=A;obtain⟨N,r,p,U⟩:=I.list l;obtain⟨u,Y,T⟩:=r.get t;obtain⟨L,J,Z,G,F,D⟩:=m it (by simp);refine wpAny_pyNext_list_item f p.isList (x:=u) (by simpa using Y) fun n q S=>?_;have I1:Inv X j M H { s with heap:=n }:=I.turned (t':=s.toks) (fun b o g e=>(S.2 b g).trans e) L J G F D;obtain⟨o,e,c,d⟩:=id q;exact⟨u,rfl,Xq2 (s:={ s with heap:=n }) e c d (by decide) ⟨x,H,I1,T,⟨rfl,fun ys V=>by rw[I.list_inj V l];exact t⟩,q,fun b g=>(m b g).1⟩⟩
  done:=by
    intro X B y C O i j s M H E I m f A;subst B y C;obtain⟨R,l,t⟩:=A;obtain⟨N,r,p,U⟩:=I.list l;obtain⟨L,J,Z,G,F,D⟩:=m it (by simp);have hl:=r.length;exact wpAny_pyNext_list_end (I.ok.hd O) f p.isList (by simp;walk_at "o") fun n eb=>⟨rfl,I.turned (t':=s.toks) (fun b o g e=>eb b o g e) L J G F D⟩
  self:=fun _ _ _ _ _ f h=>wpAny_pyIter_listiter f h
theorem Yr6 {P:Program} {w:World} {K:W.Frag} {tg:Expr} (it:Addr) (lo:Int) (n:Nat):Turn P w K tg (Itr lo n) [it] it (fun i h=>IsRangeIter h it (lo+(i:Nat)*1) ((n:Int) - (i:Nat)) 1) where
  mem:=by simp
  obj:=fun i h a b c=>by
    have e:b=it:=by simpa using c
    subst e
    exact⟨_,a,fun v z=>by
      have F:Data.fields _=Data.cell v:=z
      cases F⟩
  keep:=fun i h g a k=>k it (by simp) _ a
  item:=by
    intro X q l r p i d s C H E I f a m;subst q l r;obtain⟨B,A,L,y,x,u⟩:=f it (by simp);have W:=Walks.range (prog:=X.prog) (w:=X.w) (I.ok.hd p) it lo 1 n;refine W.item i s _ _ m a fun v g D J j G=>?_;obtain⟨t,rfl⟩:=J;have N:Inv X d C H { s with heap:=g,toks:=D }:=I.turned (fun b o c e=>G b o (by simpa using c) e) B A y x u;refine⟨_,rfl,Xq2 (s:={ s with heap:=g,toks:=D }) (n:="range_iterator") j rfl rfl (by decide) ⟨.int (lo+i),H,N,⟨t,?_⟩,⟨rfl,rfl⟩,j,fun b c=>(f b c).1⟩⟩;rw[Int.mul_one]
  done:=by
    intro X q l r p i d s C H E I f a m;subst q l r;obtain⟨B,A,L,y,x,u⟩:=f it (by simp);exact wpAny_pyNext_range_end (I.ok.hd p) a (by have:n<=i:=m;walk_at "o") fun g M=>⟨rfl,I.turned (t':=s.toks) (fun b o c e=>M b o c e) B A y x u⟩
  self:=fun _ _ _ _ _ a h=>wpAny_pyIter_rangeiter a h
section
variable {X:Cx} {tg:Expr}
def Ym1 (K:W.Frag) (tl:TE):TI:=fun σ H R=>tl σ H fun x H1=>∃ a,x=.ref a/\(∃ xs,SqL K H1 a xs)/\R (Itl K a) H1
theorem Ze7 {l:Expr} {tl:TE} (hl:PE X l tl):PI X tg l (Ym1 X.K tl):=by
 intro c s d H R I h;refine thn (hl c s d H _ I h) fun v s1 zq=>?_;obtain⟨x,H1,I1,r1,q1⟩:=zq;obtain⟨a,e,⟨j,f⟩,q⟩:=q1;subst e;cases r1;obtain⟨i,k,p,m⟩:=I1.list f;refine wpAny_pyIter_list p.isList ?_;refine⟨s1.heap.objs.size,[s1.heap.objs.size],_,_,H1,rfl,I1.kept (t':=s1.toks) fun b o e=>Heap.get?_push_of_some _ e,Yv3 a _,⟨_,Heap.get?_push_size _ rfl,rfl,rfl⟩,fun b g=>?_,q⟩
 have e:b=s1.heap.objs.size:=by simpa using g
 subst e;exact I1.fpOk (Nat.le_refl _) (I1.hok.fresh (Nat.le_refl _))
theorem Yo4 {pins:List (Addr×Obj)} {σ:St} {H:Hp} {s:Shared} {R:It->Hp->Prop} {E:Value->Shared->Prop} {lo hi:Int} {t u v:Tok} {tk:Nat} (I:Inv X pins σ H s) (h1:-(2 ^ 62)<=lo) (h2:lo < 2 ^ 62) (h3:-(2 ^ 62)<=hi) (h4:hi < 2 ^ 62)
  (q:R (Itr lo (hi - lo).toNat) H):wpAny (model X.prog X.w) X.A (pyIter (.ref s.heap.objs.size)) (PIE X pins σ tg R) E { s with heap:=s.heap.push { cls:=.type "range",data:=.fields #[.int lo t,.int hi u,.int 1 v] },toks:=tk }:=by
 refine wpAny_pyIter_range (IsRange.new ..) (small_one h1 h2 h3 h4) ?_;have a:Inv X pins σ H { s with heap:=s.heap.push { cls:=.type "range",data:=.fields #[.int lo t,.int hi u,.int 1 v] },toks:=tk }:=I.kept fun b o e=>Heap.get?_push_of_some _ e
 refine⟨(s.heap.push { cls:=.type "range",data:=.fields #[.int lo t,.int hi u,.int 1 v] }).objs.size,[(s.heap.push { cls:=.type "range",data:=.fields #[.int lo t,.int hi u,.int 1 v] }).objs.size],_,_,H,rfl,
  a.kept (t':=tk) fun b o e=>Heap.get?_push_of_some _ e,Yr6 _ lo (hi - lo).toNat,?_,fun b c=>?_,q⟩
 ·have f:lo+((0:Nat):Int)*1=lo:=by simp
  have d:(((hi - lo).toNat:Nat):Int) - ((0:Nat):Int)=Builtin.Range.rangeSize lo hi 1:=by rw[rangeSize_one];split<;>walk_at "o"
  show IsRangeIter _ _ (lo+((0:Nat):Int)*1) ((((hi - lo).toNat:Nat):Int) - ((0:Nat):Int)) 1;rw[f,d];exact Heap.get?_push_size _ rfl
 ·have e:b=(s.heap.push { cls:=.type "range",data:=.fields #[.int lo t,.int hi u,.int 1 v] }).objs.size:=by simpa using c
  subst e;exact a.fpOk (Nat.le_refl _) (a.hok.fresh (Nat.le_refl _))
def Ym0 (ta:TA):TI:=fun σ H R=>ta σ H fun vs H1=>∃ j:Int,vs=[.int j]/\-(2 ^ 62)<=j/\j < 2 ^ 62/\R (Itr 0 j.toNat) H1
def Yl9 (ta:TA):TI:=fun σ H R=>ta σ H fun vs H1=>∃ i j:Int,vs=[.int i,.int j]/\(-(2 ^ 62)<=i/\i < 2 ^ 62/\-(2 ^ 62)<=j/\j < 2 ^ 62)/\R (Itr i (j - i).toNat) H1
theorem Zi8 {a:Expr} {ta:TA} {p pos:Pos} (hg:Gl X "range") (hm:X.mg "range"=none) (ha:PA X [a] ta) (hs:starEach [a] X.env=[(false,eval a X.env)]:=by rfl):PI X tg (.Call (.Name "range" p) [a] [] pos) (Ym0 ta):=by
 intro c s d H R I h;refine Call_ (Zx2 I hg hm boot_range (PyProof.Rows.callWith_type1 (thn (ha pos c s d H _ I h) fun us s1 ⟨vs,H1,I1,r1,b⟩=>?_) hs rfl));obtain⟨j,e,b,f,q⟩:=b;subst e
 cases r1 with
 | cons r rr =>
  cases rr;obtain⟨t,rfl⟩:=r;exact call_range_1 (Yo4 I1 (by walk_at "o") (by walk_at "o") b f (by simpa using q))
theorem Yx8 {a b:Expr} {ta:TA} {p pos:Pos} (hg:Gl X "range") (hm:X.mg "range"=none) (ha:PA X [a,b] ta) (hs:starEach [a,b] X.env=[(false,eval a X.env),(false,eval b X.env)]:=by rfl) (hs2:starEach [b] X.env=[(false,eval b X.env)]:=by rfl) :
  PI X tg (.Call (.Name "range" p) [a,b] [] pos) (Yl9 ta):=by
 intro d s f H R I h;refine Call_ (Zx2 I hg hm boot_range (PyProof.Rows.callWith_type1 (thn (ha pos d s f H _ I h) fun us s1 ⟨vs,H1,I1,r1,c⟩=>?_) (by rw[hs,hs2]) (by rw[hs2];rfl)));obtain⟨i,j,e,⟨c,l,k,g⟩,q⟩:=c;subst e
 cases r1 with
 | cons r rr =>
  cases rr with
  | cons r' rr =>
   cases rr;obtain⟨t,rfl⟩:=r;obtain⟨m,rfl⟩:=r';exact call_range_2 (Yo4 I1 c l k g q)
def tFor (wi:TI) (g:TG) (tb:TS):TS:=fun D σ H=>wi σ H fun J H1=>∃ W:Nat->Nat->St->Hp->Prop,(∃ m,W 0 m σ H1)/\∀ i m σ H,W i m σ H ->
 (J.stop i H/\D.nx σ H)∨(J.go i H/\∃ N:St->Hp->Prop,(∀ σ' H',N σ' H'->∃ m',m' < m/\W (i+1) m' σ' H')/\∀ x H',J.yld i H x H'->g x σ H' fun σ2 H2=>tb { D with nx:=N,ct:=N,bk:=D.nx } σ2 H2)
noncomputable def Yo7 (fp:List Addr) (h:Heap):List (Addr×Obj):=fp.filterMap fun b=>(h.get? b).map fun o=>(b,o)
theorem Zj2 {fp:List Addr} {h:Heap} {b:Addr} {o:Obj} (hb:b∈fp) (e:h.get? b=some o):(b,o)∈Yo7 fp h:=List.mem_filterMap.mpr ⟨b,hb,by rw[e];rfl⟩
theorem Yz1 {fp:List Addr} {h:Heap} {p:Addr×Obj} (hp:p∈Yo7 fp h):p.1∈fp/\h.get? p.1=some p.2:=by
 obtain⟨b,a,e⟩:=List.mem_filterMap.mp hp
 cases q:h.get? b with
 | none=>rw[q] at e;cases e
 | some o =>
  rw[q] at e;have c:(b,o)=p:=Option.some.inj e;subst c;exact⟨a,q⟩
theorem Inv.pinned {pins:List (Addr×Obj)} {σ:St} {H:Hp} {s:Shared} {fp:List Addr} (I:Inv X pins σ H s) (hf:∀ b∈fp,FpOk X pins H b) (ho:∀ b∈fp,∃ o,s.heap.get? b=some o/\∀ v,o.data≠.cell v):Inv X (pins++Yo7 fp s.heap) σ H s :=
 I.pins_of fun p f=>(List.mem_append.mp f).elim (fun z=>I.pin p (List.mem_append_right _ z)) fun z=>by
  obtain⟨a,e⟩:=Yz1 z;obtain⟨i,h,g,_⟩:=hf p.1 a;obtain⟨o,c,d⟩:=ho p.1 a;rw[e] at c;cases c;exact⟨e,i,h,g,d⟩
theorem Inv.unpinned {pins pl:List (Addr×Obj)} {σ:St} {H:Hp} {s:Shared} (I:Inv X (pins++pl) σ H s):Inv X pins σ H s:=I.pins_of fun p a=>I.pin p (List.mem_append_right _ (List.mem_append_left _ a))
theorem Zp5 {iter:Expr} {body:List Stmt} {wi:TI} {g:TG} {tb:TS} {pos:Pos} (hp:PassesOwn (model X.prog X.w) X.A X.env X.xe) (hc:X.calm=true) (hi:PI X tg iter wi) (hg:PG X tg g) (hb:PSs X body tb)
  (hs:∀ x,foldedSetIterable iter X.env x=pure x:=by intro _;rfl):PS X (.For tg iter body [] pos) (tFor wi g tb):=by
 intro c s R H D I h;refine wpAny_For (thn (hi c s R H _ I h) fun v s1 h1=>thn h1 fun q1 s2 h2=>?_) hs;obtain⟨it,z,S,J,H2,e,I2,T,U,Z,W,⟨m0,w0⟩,G⟩:=h2;subst e;have q:∀ {H':Hp},(∀ b∈z,H' b=none)->∀ b∈z,FpOk X c H' b:=fun hn b hb=>⟨hn b hb,(Z b hb).2⟩;refine codeAny_forLoop_any (fun n Y=>∃ i σ' H',Inv X c σ' H' Y/\S i Y.heap/\(∀ b∈z,H' b=none)/\W i n σ' H') ?_ m0 ⟨0,R,H2,I2,U,fun b hb=>(Z b hb).1,w0⟩;rintro n V ⟨i,l,B,I3,C,F,w3⟩;rcases G i n l B w3 with ⟨L,qn⟩ | ⟨go,N,hN,M⟩
 ·refine wpAny_passesOwn hp (thn (T.done X rfl rfl rfl hc i c V l B X.xe I3 (q F) C L) fun r s4 zq=>?_);obtain⟨hr,I4⟩:=zq
  subst hr;exact wpAny_execs_nil ⟨l,B,I4,qn⟩
 ·refine wpAny_passesOwn hp (thn (T.item X rfl rfl rfl hc i c V l B X.xe I3 (q F) C go) fun r s4 zq=>?_);obtain⟨u,hr,h4⟩:=zq
  subst hr;refine wpAny_passesOwn hp (thn h4 fun _ s5 zq=>?_);obtain⟨x,H5,I5,r5,y5,st5,fr5⟩:=zq;have q0:=I5.pinned (q fr5) (T.obj _ _ st5);refine wpAny_passesOwn hp (thn (hg _ s5 l H5 x u _ q0 r5 (M x H5 y5)) fun _ s6 zq=>?_);obtain⟨σ6,H6,I6,q6⟩:=zq;refine wpAny_passesOwn hp (thn (hb _ s6 σ6 H6 _ I6 q6) fun f O p=>?_)
  have t:∀ {a:St} {k:Hp},Inv X (c++Yo7 z s5.heap) a k O->N a k->∃ m,m < n/\∃ i σ' H',Inv X c σ' H' O/\S i O.heap/\(∀ b∈z,H' b=none)/\W i m σ' H':=fun {a k} j y=>by
   obtain⟨m',hm,w7⟩:=hN a k y;refine⟨m',hm,i+1,a,k,j.unpinned,T.keep _ _ _ st5 fun b hb o e=>(j.pin (b,o) (List.mem_append_right _ (List.mem_append_right _ (Zj2 hb e)))).1,fun b hb=>?_,w7⟩;obtain⟨o,e,d⟩:=T.obj _ _ st5 b hb;exact (j.pin (b,o) (List.mem_append_right _ (List.mem_append_right _ (Zj2 hb e)))).2.1
  cases f with
  | next=>obtain⟨a,k,j,y⟩:=p;exact t j y
  | cont=>obtain⟨a,k,j,y⟩:=p;exact t j y
  | brk=>obtain⟨a,k,j,p⟩:=p;exact⟨a,k,j.unpinned,p⟩
  | ret v=>obtain⟨x7,a,k,j,r7,p⟩:=p;exact⟨x7,a,k,j.unpinned,r7,p⟩
end
theorem Yq1 {K:W.Frag} {a:Addr} {xs:List V} {g:TG} {tb:TS} {D:Ends} {σ:St} {H:Hp} (Pv:Nat->St->Hp->Prop) (h0:Pv 0 σ H) (hl:∀ i σ H,i<=xs.length->Pv i σ H->SqL K H a xs)
  (hs:∀ i x σ H,xs[i]?=some x->Pv i σ H->g x σ H fun σ2 H2=>tb { D with nx:=Pv (i+1),ct:=Pv (i+1),bk:=D.nx } σ2 H2) (hd:∀ σ H,Pv xs.length σ H->D.nx σ H) :
  ∃ W:Nat->Nat->St->Hp->Prop,(∃ m,W 0 m σ H)/\∀ i m σ H,W i m σ H ->
   ((Itl K a).stop i H/\D.nx σ H)∨((Itl K a).go i H/\∃ N:St->Hp->Prop,(∀ σ' H',N σ' H'->∃ m',m' < m/\W (i+1) m' σ' H')/\∀ x H',(Itl K a).yld i H x H'->g x σ H' fun σ2 H2=>tb { D with nx:=N,ct:=N,bk:=D.nx } σ2 H2):=by
 refine⟨fun i m σ H=>m=xs.length - i/\i<=xs.length/\Pv i σ H,⟨xs.length,by simp,Nat.zero_le _,h0⟩,?_⟩;rintro i m σ H ⟨rfl,c,p⟩;have q:=hl i σ H c p
 by_cases hlt:i < xs.length
 ·refine .inr ⟨⟨xs,xs[i],q,by simp[hlt]⟩,Pv (i+1),fun σ' H' b=>⟨xs.length - (i+1),by walk_at "o",rfl,hlt,b⟩,fun x H' y=>?_⟩
  obtain⟨e,y⟩:=y;subst e;exact hs i x σ _ (y xs q) p
 ·have e:i=xs.length:=by walk_at "o"
  subst e;exact .inl ⟨⟨xs,q,Nat.le_refl _⟩,hd σ H p⟩
theorem Zk0 {lo:Int} {n:Nat} {g:TG} {tb:TS} {D:Ends} {σ:St} {H:Hp} (Pv:Nat->St->Hp->Prop) (h0:Pv 0 σ H)
  (hs:∀ i σ H,i < n->Pv i σ H->g (.int (lo+i)) σ H fun σ2 H2=>tb { D with nx:=Pv (i+1),ct:=Pv (i+1),bk:=D.nx } σ2 H2) (hd:∀ σ H,Pv n σ H->D.nx σ H) :
  ∃ W:Nat->Nat->St->Hp->Prop,(∃ m,W 0 m σ H)/\∀ i m σ H,W i m σ H ->
   ((Itr lo n).stop i H/\D.nx σ H)∨((Itr lo n).go i H/\∃ N:St->Hp->Prop,(∀ σ' H',N σ' H'->∃ m',m' < m/\W (i+1) m' σ' H')/\∀ x H',(Itr lo n).yld i H x H'->g x σ H' fun σ2 H2=>tb { D with nx:=N,ct:=N,bk:=D.nx } σ2 H2):=by
 refine⟨fun i m σ H=>m=n - i/\i<=n/\Pv i σ H,⟨n,by simp,Nat.zero_le _,h0⟩,?_⟩;rintro i m σ H ⟨rfl,b,p⟩
 by_cases hlt:i < n
 ·refine .inr ⟨hlt,Pv (i+1),fun σ' H' a=>⟨n - (i+1),by walk_at "o",rfl,hlt,a⟩,fun x H' y=>?_⟩
  obtain⟨e,y⟩:=y;subst e y;exact hs i σ _ hlt p
 ·have e:i=n:=by walk_at "o"
  subst e;exact .inl ⟨Nat.le_refl _,hd σ H p⟩
noncomputable abbrev R2:=V->V->Hp->VK->Prop
def OpR (X:Cx) (f:Value->Value->Sem Value) (r:R2):Prop :=
 ∀ (pins:List (Addr×Obj)) (s:Shared) (σ:St) (H:Hp) (x y:V) (v u:Value) (Q:VK),Inv X pins σ H s->RelV x v->RelV y u->r x y H Q ->
  wpAny (model X.prog X.w) X.A (f v u) (EP X pins σ Q) X.xe s
def UnR (X:Cx) (f:Value->Sem Value) (r:V->Hp->VK->Prop):Prop :=
 ∀ (pins:List (Addr×Obj)) (s:Shared) (σ:St) (H:Hp) (x:V) (v:Value) (Q:VK),Inv X pins σ H s->RelV x v->r x H Q ->
  wpAny (model X.prog X.w) X.A (f v) (EP X pins σ Q) X.xe s
def Zs1 (X:Cx) (f:Value) (r:List V->Hp->VK->Prop):Prop :=
 ∀ (pins:List (Addr×Obj)) (s:Shared) (σ:St) (H:Hp) (xs:List V) (us:List Value) (Q:VK),Inv X pins σ H s->Vals xs us->r xs H Q ->
  wpAny (model X.prog X.w) X.A (call f us) (EP X pins σ Q) X.xe s
def TruR (X:Cx) (r:V->Hp->(Bool->Hp->Prop)->Prop):Prop :=
 ∀ (pins:List (Addr×Obj)) (s:Shared) (σ:St) (H:Hp) (x:V) (v:Value) (Q:Bool->Hp->Prop),Inv X pins σ H s->RelV x v->r x H Q ->
  wpAny (model X.prog X.w) X.A (truthy v) (TP X pins σ Q) X.xe s
def tOp (r:R2) (ta tb:TE):TE:=fun σ H Q=>ta σ H fun x H1=>tb σ H1 fun y H2=>r x y H2 Q
def tUn (r:V->Hp->VK->Prop) (ta:TE):TE:=fun σ H Q=>ta σ H fun x H1=>r x H1 Q
def rI (C:Int->Int->Prop) (g:Int->Int->V):R2:=fun x y H Q=>∃ i j,x=.int i/\y=.int j/\C i j/\Q (g i j) H
def rI0 (g:Int->Int->V):R2:=fun x y H Q=>∃ i j,x=.int i/\y=.int j/\Q (g i j) H
def rU (g:Int->V):V->Hp->VK->Prop:=fun x H Q=>∃ i,x=.int i/\Q (g i) H
section
variable {X:Cx} {a b c:Expr} {ta tb tc:TE} {pos:Pos}
theorem binT (ha:PE X a ta) (hb:PE X b tb) {pins:List (Addr×Obj)} {s:Shared} {σ:St} {H:Hp} {R:V->V->Hp->Prop} (I:Inv X pins σ H s)
  (h:ta σ H fun x H1=>tb σ H1 fun y H2=>R x y H2) {Q:Value->Shared->Prop} {f:Value->Value->Sem Value}
  (hf:∀ v u s2 x y H2,Inv X pins σ H2 s2->RelV x v->RelV y u->R x y H2->wpAny (model X.prog X.w) X.A (f v u) Q X.xe s2) :
  wpAny (model X.prog X.w) X.A (eval a X.env) (fun v s₁=>wpAny (model X.prog X.w) X.A (eval b X.env) (fun u s₂=>wpAny (model X.prog X.w) X.A (f v u) Q X.xe s₂) X.xe s₁) X.xe s:=by
 refine thn (ha pins s σ H _ I h) fun v s1 zq=>?_;obtain⟨x,H1,I1,r1,q1⟩:=zq;refine thn (hb pins s1 σ H1 _ I1 q1) fun u s2 zq=>?_;obtain⟨y,H2,I2,r2,q2⟩:=zq;exact hf v u s2 x y H2 I2 r1 r2 q2
theorem Zb4 {op:Operator} {r:R2} (ho:OpR X (binaryOp op) r) (ha:PE X a ta) (hb:PE X b tb):PE X (.BinOp a op b pos) (tOp r ta tb):=by
 intro c s d H Q I h;exact wpAny_BinOp (binT ha hb I h fun v u e x y j i g f q=>ho c e d j x y v u Q i g f q)
theorem Yy0 {op:UnaryOp} {r:V->Hp->VK->Prop} (ho:UnR X (unaryOp op) r) (ha:PE X a ta):PE X (.UnaryOp op a pos) (tUn r ta):=by
 intro b s c H Q I h;exact UnaryOp_ (thn (ha b s c H _ I h) fun v s1 ⟨x,H1,I1,r1,q1⟩=>ho b s1 c H1 x v Q I1 r1 q1)
theorem opI {f:Value->Value->Sem Value} {C:Int->Int->Prop} {g:Int->Int->Int}
  (rule:∀ (i j:Int) (t u:Tok) (s:Shared) (Q:Value->Shared->Prop) (E:Value->Shared->Prop),C i j->Q (.int (g i j) s.toks) { s with toks:=s.toks+1 }->wpAny (model X.prog X.w) X.A (f (.int i t) (.int j u)) Q E s) :
  OpR X f (rI C fun i j=>.int (g i j)):=by
 intro d s k H x y v u Q I c b h;obtain⟨i,j,rfl,rfl,e,q⟩:=h;obtain⟨t,rfl⟩:=c;obtain⟨a,rfl⟩:=b;exact rule i j t a s _ _ e ⟨.int (g i j),H,I.tok _,⟨_,rfl⟩,q⟩
theorem opI0 {f:Value->Value->Sem Value} {g:Int->Int->Int}
  (rule:∀ (i j:Int) (t u:Tok) (s:Shared) (Q:Value->Shared->Prop) (E:Value->Shared->Prop),Q (.int (g i j) s.toks) { s with toks:=s.toks+1 }->wpAny (model X.prog X.w) X.A (f (.int i t) (.int j u)) Q E s) :
  OpR X f (rI0 fun i j=>.int (g i j)):=by
 intro d s e H x y v u Q I c b h;obtain⟨i,j,rfl,rfl,q⟩:=h;obtain⟨t,rfl⟩:=c;obtain⟨a,rfl⟩:=b;exact rule i j t a s _ _ ⟨.int (g i j),H,I.tok _,⟨_,rfl⟩,q⟩
theorem opB0 {f:Value->Value->Sem Value} {g:Int->Int->Bool}
  (rule:∀ (i j:Int) (t u:Tok) (s:Shared) (Q:Value->Shared->Prop) (E:Value->Shared->Prop),Q (.bool (g i j)) s->wpAny (model X.prog X.w) X.A (f (.int i t) (.int j u)) Q E s) :
  OpR X f (rI0 fun i j=>.bl (g i j)):=by
 intro d s e H x y v u Q I c b h;obtain⟨i,j,rfl,rfl,q⟩:=h;obtain⟨t,rfl⟩:=c;obtain⟨a,rfl⟩:=b;exact rule i j t a s _ _ ⟨.bl (g i j),H,I,rfl,q⟩
def CDiv (i j:Int):Prop:=0 < j/\j < 1073741824
def CMul (i j:Int):Prop:=(-(2 ^ 64) < i/\i < 2 ^ 64)∨(-(2 ^ 64) < j/\j < 2 ^ 64)
theorem CMul.ok {i j:Int} (h:CMul i j):IntMulOk i j:=by
 rcases h with ⟨b,a⟩ | ⟨b,a⟩
 ·exact .of_left (intBits_le_64 b a)
 ·exact .of_right (intBits_le_64 b a)
theorem Xv9:OpR X (binaryOp .Add) (rI0 fun i j=>.int (i+j)):=opI0 fun _ _ _ _ _ _ _ q=>add_int q
theorem Xv3:OpR X (binaryOp .Sub) (rI0 fun i j=>.int (i - j)):=opI0 fun _ _ _ _ _ _ _ q=>sub_int q
theorem Xv4:OpR X (binaryOp .Mult) (rI CMul fun i j=>.int (i*j)):=opI fun _ _ _ _ _ _ _ a q=>mul_int q a.ok
theorem Xo7:OpR X (binaryOp .FloorDiv) (rI CDiv fun i j=>.int (i / j)):=opI fun i j _ _ _ _ _ a q=>by
 have c:(0:Int) < j:=a.1;have b:j < 1073741824:=a.2;exact floordiv_int (by walk_at "o") (by rw[Int.fdiv_eq_ediv_of_nonneg i (by walk_at "o")];exact q) (.inl (PyProof.noPylong_small (by walk_at "o")))
theorem Xv5:OpR X (binaryOp .Mod) (rI (fun _ j=>0 < j) fun i j=>.int (i % j)):=opI fun i j _ _ _ _ _ a q=>by
 have b:(0:Int) < j:=a;exact mod_int' (by walk_at "o") (by rw[Int.fmod_eq_emod_of_nonneg i (by walk_at "o")];exact q)
theorem unI {f:Value->Sem Value} {g:Int->Int}
  (rule:∀ (i:Int) (t:Tok) (s:Shared) (Q:Value->Shared->Prop) (E:Value->Shared->Prop),Q (.int (g i) s.toks) { s with toks:=s.toks+1 }->wpAny (model X.prog X.w) X.A (f (.int i t)) Q E s) :
  UnR X f (rU fun i=>.int (g i)):=by
 intro b s c H x v Q I a h;obtain⟨i,rfl,q⟩:=h;obtain⟨t,rfl⟩:=a;exact rule i t s _ _ ⟨.int (g i),H,I.tok _,⟨_,rfl⟩,q⟩
theorem Yd5:UnR X (unaryOp .USub) (rU fun i=>.int (-i)):=unI fun _ _ _ _ _ q=>neg_int q
end
noncomputable def scal:V->V->Bool
 | .non,.non=>true | .non,.int _=>true | .int _,.non=>true | .non,.bl _=>true | .bl _,.non=>true | .non,.str _=>true | .str _,.non=>true
 | .int _,.int _=>true | .bl _,.bl _=>true | .str _,.str _=>true | .byt _,.byt _=>true
 | .int _,.str _=>true | .str _,.int _=>true | .bl _,.str _=>true | .str _,.bl _=>true
 | _,_=>false
def rEq:R2:=fun x y H Q=>scal x y=true/\Q (.bl (decide (x=y))) H
def rNe:R2:=fun x y H Q=>scal x y=true/\Q (.bl (!decide (x=y))) H
theorem Xc1 {i j:Int}:decide (V.int i=V.int j)=(i == j):=by
 rw[Bool.eq_iff_iff];simp
theorem Xl9 {i j:Bool}:decide (V.bl i=V.bl j)=(i == j):=by
 rw[Bool.eq_iff_iff];simp
theorem Xc0 {i j:Str}:decide (V.str i=V.str j)=(i == j):=by
 rw[Bool.eq_iff_iff];simp
theorem Xc2 {i j:Array UInt8}:decide (V.byt i=V.byt j)=(i.toList == j.toList):=by
 rw[Bool.eq_iff_iff];cases i;cases j;simp
section
variable {X:Cx} {a b c:Expr} {ta tb tc:TE} {pos:Pos}
theorem Ze2 {pins:List (Addr×Obj)} {σ:St} {H:Hp} {s:Shared} {Q:VK} {k k':Bool} (I:Inv X pins σ H s) (q:Q (.bl k) H) (e:k=k'):EP X pins σ Q (.bool k') s:=by
 subst e;exact⟨.bl k,H,I,rfl,q⟩
theorem Zd6:OpR X (compareOp .Eq) rEq:=by
 intro e s f H x y v u Q I d a h;obtain⟨c,q⟩:=h
 cases x with
 | non =>
  cases d
  cases y with
  | non=>cases a;exact PySem.EqNone.eq_none_none (Ze2 I q (by simp))
  | bl j=>cases a;exact PySem.EqNone.eq_none_bool (Ze2 I q (by simp))
  | int j=>obtain⟨b,rfl⟩:=a;exact PySem.EqNone.eq_none_int (Ze2 I q (by simp))
  | str j=>obtain⟨b,rfl⟩:=a;exact PySem.EqNone.eq_none_str (Ze2 I q (by simp))
  | _=>exact absurd (show false=true from c) Bool.false_ne_true
 | bl i =>
  cases d
  cases y with
  | non=>cases a;exact PySem.EqNone.eq_bool_none (Ze2 I q (by simp))
  | bl j=>cases a;exact eq_bool (Ze2 I q Xl9)
  | str j=>obtain⟨b,rfl⟩:=a;exact PySem.EqMixed.eq_bool_str (Ze2 I q (by simp))
  | _=>exact absurd (show false=true from c) Bool.false_ne_true
 | int i =>
  obtain⟨t,rfl⟩:=d
  cases y with
  | non=>cases a;exact PySem.EqNone.eq_int_none (Ze2 I q (by simp))
  | int j=>obtain⟨b,rfl⟩:=a;exact eq_int (Ze2 I q Xc1)
  | str j=>obtain⟨b,rfl⟩:=a;exact PySem.EqMixed.eq_int_str (Ze2 I q (by simp))
  | _=>exact absurd (show false=true from c) Bool.false_ne_true
 | str i =>
  obtain⟨t,rfl⟩:=d
  cases y with
  | non=>cases a;exact PySem.EqNone.eq_str_none (Ze2 I q (by simp))
  | bl j=>cases a;exact PySem.EqMixed.eq_str_bool (Ze2 I q (by simp))
  | int j=>obtain⟨b,rfl⟩:=a;exact PySem.EqMixed.eq_str_int (Ze2 I q (by simp))
  | str j=>obtain⟨b,rfl⟩:=a;exact eq_str (Ze2 I q Xc0)
  | _=>exact absurd (show false=true from c) Bool.false_ne_true
 | byt i =>
  obtain⟨t,rfl⟩:=d
  cases y with
  | byt j=>obtain⟨b,rfl⟩:=a;exact W.eq_bytes (Ze2 I q Xc2)
  | _=>exact absurd (show false=true from c) Bool.false_ne_true
 | _=>cases y<;>exact absurd (show false=true from c) Bool.false_ne_true
theorem Zw6:OpR X (compareOp .NotEq) rNe:=by
 intro e s f H x y v u Q I d a h;obtain⟨c,q⟩:=h
 cases x with
 | non =>
  cases d
  cases y with
  | non=>cases a;exact PySem.EqNone.ne_none_none (Ze2 I q (by simp))
  | bl j=>cases a;exact PySem.EqNone.ne_none_bool (Ze2 I q (by simp))
  | int j=>obtain⟨b,rfl⟩:=a;exact PySem.EqNone.ne_none_int (Ze2 I q (by simp))
  | str j=>obtain⟨b,rfl⟩:=a;exact PySem.EqNone.ne_none_str (Ze2 I q (by simp))
  | _=>exact absurd (show false=true from c) Bool.false_ne_true
 | bl i =>
  cases d
  cases y with
  | non=>cases a;exact PySem.EqNone.ne_bool_none (Ze2 I q (by simp))
  | bl j=>cases a;exact ne_bool (Ze2 I q (congrArg not Xl9))
  | str j=>obtain⟨b,rfl⟩:=a;exact PySem.EqMixed.ne_bool_str (Ze2 I q (by simp))
  | _=>exact absurd (show false=true from c) Bool.false_ne_true
 | int i =>
  obtain⟨t,rfl⟩:=d
  cases y with
  | non=>cases a;exact PySem.EqNone.ne_int_none (Ze2 I q (by simp))
  | int j=>obtain⟨b,rfl⟩:=a;exact ne_int (Ze2 I q (congrArg not Xc1))
  | str j=>obtain⟨b,rfl⟩:=a;exact PySem.EqMixed.ne_int_str (Ze2 I q (by simp))
  | _=>exact absurd (show false=true from c) Bool.false_ne_true
 | str i =>
  obtain⟨t,rfl⟩:=d
  cases y with
  | non=>cases a;exact PySem.EqNone.ne_str_none (Ze2 I q (by simp))
  | bl j=>cases a;exact PySem.EqMixed.ne_str_bool (Ze2 I q (by simp))
  | int j=>obtain⟨b,rfl⟩:=a;exact PySem.EqMixed.ne_str_int (Ze2 I q (by simp))
  | str j=>obtain⟨b,rfl⟩:=a;exact ne_str (Ze2 I q (congrArg not Xc0))
  | _=>exact absurd (show false=true from c) Bool.false_ne_true
 | byt i =>
  obtain⟨t,rfl⟩:=d
  cases y with
  | byt j=>obtain⟨b,rfl⟩:=a;exact W.ne_bytes (Ze2 I q (congrArg not Xc2))
  | _=>exact absurd (show false=true from c) Bool.false_ne_true
 | _=>cases y<;>exact absurd (show false=true from c) Bool.false_ne_true
theorem Wf0:OpR X (compareOp .Lt) (rI0 fun i j=>.bl (decide (i < j))):=opB0 fun _ _ _ _ _ _ _ q=>lt_int q
theorem Wf1:OpR X (compareOp .LtE) (rI0 fun i j=>.bl (decide (i<=j))):=opB0 fun _ _ _ _ _ _ _ q=>le_int q
theorem Wf2:OpR X (compareOp .Gt) (rI0 fun i j=>.bl (decide (j < i))):=opB0 fun _ _ _ _ _ _ _ q=>gt_int q
theorem Wf3:OpR X (compareOp .GtE) (rI0 fun i j=>.bl (decide (j<=i))):=opB0 fun _ _ _ _ _ _ _ q=>ge_int q
theorem Yy8:OpR X (compareOp .Lt) (fun x y H Q=>∃ i j,x=.str i/\y=.str j/\Q (.bl (decide (i.cps.toList < j.cps.toList))) H):=by
 intro c s d H x y v u Q I b a h;obtain⟨i,j,rfl,rfl,q⟩:=h;obtain⟨t,rfl⟩:=b;obtain⟨e,rfl⟩:=a;exact lt_str (Ze2 I q rfl)
theorem Zw7:OpR X (compareOp .Is) (fun x y H Q=>y=.non/\Q (.bl (decide (x=.non))) H):=by
 intro c s d H x y v u Q I a b h;obtain⟨rfl,q⟩:=h;cases b;refine is_none_gen (Ze2 I q ?_)
 cases x<;>first
  | (cases a;rfl)
  | (obtain⟨t,rfl⟩:=a;rfl)
theorem Yy6:OpR X (compareOp .IsNot) (fun x y H Q=>y=.non/\Q (.bl (!decide (x=.non))) H):=by
 intro c s d H x y v u Q I a b h;obtain⟨rfl,q⟩:=h;cases b;refine isnot_none_gen (Ze2 I q ?_)
 cases x<;>first
  | (cases a;rfl)
  | (obtain⟨t,rfl⟩:=a;rfl)
theorem Zn3 (b:Expr) {op:CmpOp} (h:op≠.In:=by decide) (h2:op≠.NotIn:=by decide):behindInMarks op b=false:=by
 have c:(op == CmpOp.In)=false:=by cases op<;>first | rfl | exact absurd rfl h
 have a:(op == CmpOp.NotIn)=false:=by cases op<;>first | rfl | exact absurd rfl h2
 cases b<;>simp[behindInMarks,c,a]
theorem Zl0 {op:CmpOp} {r:R2} (ho:OpR X (compareOp op) r) (ha:PE X a ta) (hb:PE X b tb) (hm:behindInMarks op b=false):PE X (.Compare a [op] [b] pos) (tOp r ta tb):=by
 intro c s d H Q I h;exact wpAny_Compare1 (binT ha hb I h fun v u e x y j i g f q=>ho c e d j x y v u Q i g f q) hm
def Zv2 (t:TE):TT:=fun σ H Q=>t σ H fun x H'=>∃ k,x=.bl k/\Q k H'
theorem Yk3 {op:CmpOp} {r:R2} (ho:OpR X (compareOp op) r) (ha:PE X a ta) (hb:PE X b tb) (hm:behindInMarks op b=false):PT X (.Compare a [op] [b] pos) (Zv2 (tOp r ta tb)):=by
 intro d s f H Q I h
 refine wpAny_isTrue_Compare1 (thn (ha d s f H _ I h) fun v s1 ⟨x,H1,I1,r1,q1⟩=>thn (hb d s1 f H1 _ I1 q1) fun u s2 ⟨y,H2,I2,r2,q2⟩ =>
  thn (ho d s2 f H2 x y v u _ I2 r1 r2 q2) fun c s3 ⟨z,H3,I3,r3,k,e,q3⟩=>?_) hm
 subst e;cases r3;exact wpAny_truthy_bool ⟨H3,I3,q3⟩
def Zv4 (r r':R2) (ta tb tc:TE):TE:=fun σ H Q=>ta σ H fun x H1=>tb σ H1 fun y H2=>r x y H2 fun z H3=>∃ k,z=.bl k /\
 (if k=true then tc σ H3 fun w' H4=>r' y w' H4 Q else Q (.bl false) H3)
theorem Xh4 {op op':CmpOp} {r r':R2} (ho:OpR X (compareOp op) r) (ho':OpR X (compareOp op') r') (ha:PE X a ta) (hb:PE X b tb) (hc:PE X c tc)
  (hm:lastMarks [op,op'] [b,c]=false:=by with_unfolding_all rfl):PE X (.Compare a [op,op'] [b,c] pos) (Zv4 r r' ta tb tc):=by
 intro f s g H Q I h
 refine Compare_chain (thn (ha f s g H _ I h) fun v s1 ⟨x,H1,I1,r1,q1⟩=>chain_link (thn (hb f s1 g H1 _ I1 q1) fun u s2 ⟨y,H2,I2,r2,q2⟩ =>
  thn (ho f s2 g H2 x y v u _ I2 r1 r2 q2) fun d s3 ⟨z,H3,I3,r3,k,e,q3⟩=>?_)) hm
 subst e;cases r3;refine wpAny_truthy_bool ?_
 cases k with
 | false=>exact ite_ff ⟨.bl false,H3,I3,rfl,q3⟩
 | true=>exact ite_tt (chain_last (thn (hc f s3 g H3 _ I3 q3) fun w' s4 ⟨z',H4,I4,r4,q4⟩=>ho' f s4 g H4 y z' u w' Q I4 r2 r4 q4))
def TruV (K:W.Frag) (x:V) (H:Hp) (k:Bool):Prop :=
 match x with
 | .non=>k=false
 | .bl b=>k=b
 | .int i=>k=(i != 0)
 | .str y=>y.length<=sizeLine/\k=((y.length:Int) != 0)
 | .byt y=>y.size<=sizeLine/\k=((y.size:Int) != 0)
 | .ref p=>(∃ xs,SqL K H p xs/\k=!xs.isEmpty)∨(∃ xs,SqT K H p xs/\k=!xs.isEmpty)∨∃ kvs,H p=some (.dK kvs)/\k=!kvs.isEmpty
 | _=>False
theorem Yt4 {κ:Type} {kvs:List (κ×V)} {vs:List (κ×Value)} (r:KV kvs vs):(!vs.isEmpty)=!kvs.isEmpty:=by
 cases r<;>rfl
theorem Zz7 {xs:List V} {its:List Value} (r:Vals xs its):(!its.toArray.isEmpty)=!xs.isEmpty:=by
 cases r<;>simp
theorem Yg2:(sizeLine:Nat) < 2 ^ 63:=by rw[sizeLine_eq];decide
theorem Xs1:TruR X (fun x H Q=>∃ k,TruV X.K x H k/\Q k H):=by
 intro u s B H x v Q I f h;obtain⟨k,e,q⟩:=h;have D:=Yg2;have C:sizeLine=16777216:=sizeLine_eq
 cases x with
 | non =>
  cases f;have a:k=false:=e;subst a;exact truthy_none ⟨H,I,q⟩
 | bl b =>
  cases f;have a:k=b:=e;subst a;exact wpAny_truthy_bool ⟨H,I,q⟩
 | int i =>
  obtain⟨t,rfl⟩:=f;have a:k=(i != 0):=e;subst a;exact PySem.P.truthy_int ⟨H,I,q⟩
 | str y =>
  obtain⟨t,rfl⟩:=f;obtain⟨z,a⟩:y.length<=sizeLine/\k=((y.length:Int) != 0):=e;subst a;exact PySem.P.truthy_str (by walk_at "o") ⟨H,I.tok _,q⟩
 | byt y =>
  obtain⟨t,rfl⟩:=f;obtain⟨z,a⟩:y.size<=sizeLine/\k=((y.size:Int) != 0):=e;subst a;exact W.truthy_bytes (by walk_at "o") ⟨H,I.tok _,q⟩
 | ref p =>
  cases f;have a:(∃ d,SqL X.K H p d/\k=!d.isEmpty)∨(∃ d,SqT X.K H p d/\k=!d.isEmpty)∨∃ c,H p=some (.dK c)/\k=!c.isEmpty:=e;rcases a with ⟨d,g,a⟩ | ⟨d,g,a⟩ | ⟨c,g,a⟩
  ·subst a
   obtain⟨n,r,l,o⟩:=I.list g;have j:=r.length;exact wpAny_truthy_list l.isList (by simp only[List.size_toArray];walk_at "o") ⟨H,I.tok _,by rw[Zz7 r];exact q⟩
  ·subst a
   obtain⟨n,r,l,o⟩:=I.tuple g;have j:=r.length;exact truthy_tuple l (by simp only[List.size_toArray];walk_at "o") ⟨H,I.tok _,by rw[Zz7 r];exact q⟩
  ·subst a
   obtain⟨o,A,vs,r,m⟩:c.length<=sizeLine/\(p == sysModules)=false/\∃ vs,KV c vs/\s.heap.DictOf (Zj6 X.prog X.w) p vs:=I.hok p _ g;have j:c.length=vs.length:=Paired.length r;exact wpAny_truthy_dict A m (by walk_at "o") ⟨H,I.tok _,by rw[Yt4 r];exact q⟩
 | _=>exact (show False from e).elim
theorem Yb0 (ha:PE X a ta) (he:∀ whole,isTrue a X.env whole=(do let v <- whole;standAt a.pos;holding [v] (truthy v))) :
  PT X a (fun σ H Q=>ta σ H fun x H'=>∃ k,TruV X.K x H' k/\Q k H'):=by
 intro b s σ H Q I h;exact isTrue_plain (thn (ha b s σ H _ I h) fun v s1 ⟨x,H1,I1,r1,q1⟩=>Xs1 b s1 σ H1 x v Q I1 r1 q1) (he _)
theorem Zz3:OpR X (binaryOp .Add) (fun x y H Q=>∃ i j,x=.str i/\y=.str j/\i.length+j.length<=sizeLine/\Q (.str (i++j)) H):=by
 intro d s f H x y v u Q I c b h;obtain⟨i,j,rfl,rfl,e,q⟩:=h;obtain⟨t,rfl⟩:=c;obtain⟨a,rfl⟩:=b;exact add_str (fun a g=>⟨.str (i++j),H,I.tok _,⟨_,rfl⟩,q⟩) e
theorem Yi6 {x:V} {us:List Value} (r:Vals [x] us):∃ u,us=[u]/\RelV x u:=by
 cases r with
 | cons r1 r2=>cases r2;exact⟨_,rfl,r1⟩
theorem Yi5 {x y:V} {us:List Value} (r:Vals [x,y] us):∃ u w',us=[u,w']/\RelV x u/\RelV y w':=by
 cases r with
 | cons r1 r2 =>
  cases r2 with
  | cons r3 r4=>cases r4;exact⟨_,_,rfl,r1,r3⟩
theorem Xd3 (hc:X.calm=true):Zs1 X (.builtin "min") (fun xs H Q=>∃ i j,xs=[.int i,.int j]/\Q (.int (if j < i then j else i)) H):=by
 intro a s b H xs d Q I r h;obtain⟨i,j,rfl,q⟩:=h;obtain⟨u,c,rfl,⟨t,rfl⟩,⟨f,rfl⟩⟩:=Yi5 r;refine min_two_ints (I.ok.hd hc) fun g e k=>⟨_,H,I.kept k,?_,q⟩
 by_cases hj:j < i
 ·rw[if_pos hj,if_pos hj];exact⟨_,rfl⟩
 ·rw[if_neg hj,if_neg hj];exact⟨_,rfl⟩
theorem Xd7:Zs1 X (.type "int") (fun xs H Q=>(∃ i,xs=[.int i]/\Q (.int i) H)∨∃ k,xs=[.bl k]/\Q (.int (if k then 1 else 0)) H):=by
 intro b s c H xs d Q I r h;rcases h with ⟨i,rfl,q⟩ | ⟨k,rfl,q⟩
 ·obtain⟨u,rfl,t,rfl⟩:=Yi6 r
  exact call_int_int ⟨.int i,H,I,⟨_,rfl⟩,q⟩
 ·obtain⟨u,rfl,a⟩:=Yi6 r
  cases a;exact call_int_bool ⟨.int (if k then 1 else 0),H,I.tok _,⟨_,rfl⟩,q⟩
end
structure ObjM (h:Heap) (x dx C:Addr) (mA:Str->Option Value):Prop where
 obj:h.get? x=some (W.instObj C dx)
 ns:h.Ns1 dx mA
 ne:dx≠x
theorem Xa2 {h:Heap} {dx:Addr} {mA:Str->Option Value} (n:h.Ns1 dx mA):∃ od,h.get? dx=some od/\∀ name,W.lookIn name od=some (mA name):=by
 obtain⟨o,es,ep,ho,hd,hk,_,hm⟩:=n;refine⟨o,ho,fun name=>?_⟩;have e:=hm name;unfold nsFind findBy at e;rw[<- Array.find?_toList] at e;unfold W.lookIn;rw[hd];dsimp only
 split
 ·rename_i y q
  rw[q] at e;exact congrArg some e
 ·rename_i q
  rw[q] at e
  have a:es.toList.any (·.refKey)=false:=by
   rw[List.any_eq_false];intro y hy;obtain⟨z,t,hkey⟩:=hk y (Array.mem_toList_iff.mp hy);simp[DictEntry.refKey,hkey]
  have a':¬ es.toList.any (·.refKey)=true:=by rw[a];exact Bool.false_ne_true
  rw[if_neg a'];exact congrArg some e
theorem ObjM.look {h:Heap} {x dx C:Addr} {mA:Str->Option Value} (I:ObjM h x dx C mA):∃ od,W.InstAt h x (W.instObj C dx) C (some od)/\∀ name,W.lookIn name od=some (mA name) :=
 let ⟨od,ho,hl⟩:=Xa2 I.ns
 ⟨od,⟨I.obj,rfl,rfl,ho⟩,hl⟩
theorem RelO.some_of {v:V} {o:Option Value} (r:RelO (some v) o):∃ u,o=some u/\RelV v u:=by
 cases o with
 | none=>exact (show False from r).elim
 | some u=>exact⟨u,rfl,r⟩
section
variable {P:Program} {w:World} {H H':Hp} {h h':Heap} {a C dx:Addr} {fs fs':List (Str×V)}
theorem Xq0 (hok:HOk P w H h) (e:H a=some (.ins C dx fs)):∃ mA,ObjM h a dx C mA/\(∀ f,RelO (fs.lookup f) (mA f))/\PySem.Within mA (fs.map (·.1))/\fs.length<=1000/\H dx=some (.own a):=by
 obtain⟨d,z,c,b,mA,n,r,q⟩:=(show ObjOk P w H h a (.ins C dx fs) from hok a _ e);exact⟨mA,⟨b,n,c⟩,r,q,z,d⟩
end
structure Cls (K:W.Frag) (C:Addr):Prop where
 pg:W.plainGet K C Str.empty=true
 hd:W.hasDictIn K C=true
 po:W.plainOver K C=true
 sa:W.findIn K (.ref C) "__setattr__"=some (some (.builtin "object.__setattr__"))
theorem Cls.get {K:W.Frag} {C:Addr} (c:Cls K C) (f:Str):W.plainGet K C f=true:=c.pg
section
variable {X:Cx} {pins:List (Addr×Obj)} {σ:St} {H:Hp} {s:Shared} {a C dx:Addr} {fs:List (Str×V)} {f:Str} {v:V} {A:Around} {E:Value->Shared->Prop}
theorem Xr3 {prog:Program} {w:World} {env:Env} {e:Expr} {f:Str} {pos:Pos} {s:Shared} {Q:Value->Shared->Prop} (hb:attributeBase e f env (eval e env)=eval e env)
  (h:wpAny (model prog w) A (eval e env) (fun o s₁=>wpAny (model prog w) A (getAttr o f true) Q E s₁) E s):wpAny (model prog w) A (eval (.Attribute e f pos) env) Q E s :=
 Attribute_any_ h (by rw[arm_eval_Attribute,hb])
end
section
variable {X:Cx} {pins:List (Addr×Obj)} {σ:St} {H:Hp} {s:Shared} {A:Around} {E:Value->Shared->Prop} {Q:Value->Shared->Prop} {c:Value} {b:Bool}
inductive TyOf (K:W.Frag) (H:Hp):V->Value->Prop where
 | non:TyOf K H .non (.type "NoneType")
 | bl (x:Bool):TyOf K H (.bl x) (.type "bool")
 | int (i:Int):TyOf K H (.int i) (.type "int")
 | str (x:Str):TyOf K H (.str x) (.type "str")
 | flt (x:UInt64):TyOf K H (.flt x) (.type "float")
 | lst {a:Addr} {xs:List V} (e:H a=some (.lst xs)):TyOf K H (.ref a) (.type "list")
 | frz {a:Addr} {o:Obj} {xs:List V} (e:H a=some (.frz o (.lst xs))):TyOf K H (.ref a) (.type "list")
 | tup {a:Addr} {xs:List V} (e:H a=some (.tup xs)):TyOf K H (.ref a) (.type "tuple")
 | dK {a:Addr} {kvs:List (Key×V)} (e:H a=some (.dK kvs)):TyOf K H (.ref a) (.type "dict")
 | dT {a:Addr} {kvs:List (List Key×V)} (e:H a=some (.dT kvs)):TyOf K H (.ref a) (.type "dict")
 | ins {a C dx:Addr} {fs:List (Str×V)} (e:H a=some (.ins C dx fs)) (cl:Cls K C) (ha:W.findIn K (.ref C) "__class__"=some (some (.builtin "object.__class__")))
   (hn:W.specialIn K (.builtin "object.__class__") "__get__"=some (some (.builtin "getset_descriptor.__get__"))) (htk:W.takesIn K (.builtin "object.__class__")=some true)
   (hm:W.mroIn K C (.type "object")=some true):TyOf K H (.ref a) (.ref C)
theorem Xb2 {x:V} {u t:Value} (I:Inv X pins σ H s) (rx:RelV x u) (ty:TyOf X.K H x t) (e:W.kitOne X.K t c=some b) (h:∀ tk,Q (.bool b) { s with toks:=tk }) :
  wpAny (model X.prog X.w) A (call (.builtin "isinstance") [u,c]) Q E s:=by
 cases ty with
 | non=>cases (show u=Value.none from rx);exact W.kia_one W.kitx_none I.kIn True.intro e (fun z=>nomatch z) h
 | bl y=>cases (show u=Value.bool y from rx);exact W.kia_one W.kitx_bool I.kIn True.intro e (fun z=>nomatch z) h
 | int i=>obtain⟨t,q⟩:=(show ∃ t,u=Value.int i t from rx);cases q;exact W.kia_one W.kitx_int I.kIn True.intro e (fun z=>nomatch z) h
 | str y=>obtain⟨t,q⟩:=(show ∃ t,u=Value.str y t from rx);cases q;exact W.kia_one W.kitx_str I.kIn True.intro e (fun z=>nomatch z) h
 | flt y=>obtain⟨t,q⟩:=(show ∃ t,u=Value.float y t from rx);cases q;exact W.kia_one W.kitx_float I.kIn True.intro e (fun z=>nomatch z) h
 | @lst a f ea =>
  cases (show u=Value.ref a from rx);obtain⟨_,_,n,_,d⟩:=(show ObjOk X.prog X.w H s.heap a (.lst f) from I.hok a _ ea);exact W.kia_one W.kitx_list I.kIn ⟨_,d,rfl⟩ e (fun z=>nomatch z) h
 | @frz a ob f ea =>
  cases (show u=Value.ref a from rx);obtain⟨_,_,_,n,_,d⟩:=(show ObjOk X.prog X.w H s.heap a (.frz ob (.lst f)) from I.hok a _ ea);exact W.kia_one W.kitx_list I.kIn ⟨_,d,rfl⟩ e (fun z=>nomatch z) h
 | @tup a f ea =>
  cases (show u=Value.ref a from rx);obtain⟨_,_,_,p⟩:=(show ObjOk X.prog X.w H s.heap a (.tup f) from I.hok a _ ea);obtain⟨o,d,g,_⟩:=p;exact W.kia_one W.kitx_tuple I.kIn ⟨o,d,g⟩ e (fun z=>nomatch z) h
 | @dK a kvs ea =>
  cases (show u=Value.ref a from rx);obtain⟨_,_,l,_,p⟩:=(show ObjOk X.prog X.w H s.heap a (.dK kvs) from I.hok a _ ea);obtain⟨o,j,k,d,g,_⟩:=p;exact W.kia_one W.kitx_dict I.kIn ⟨o,d,g.1⟩ e (fun z=>nomatch z) h
 | @dT a kvs ea =>
  cases (show u=Value.ref a from rx);obtain⟨_,_,f,_,o,j,k,d,g,_⟩:=(show ObjOk X.prog X.w H s.heap a (.dT kvs) from I.hok a _ ea);exact W.kia_one W.kitx_dict I.kIn ⟨o,d,g.1⟩ e (fun z=>nomatch z) h
 | @ins a C dx fs ea cl ha hn htk hm =>
  cases (show u=Value.ref a from rx);obtain⟨r,O,_⟩:=Xq0 I.hok ea;obtain⟨m,J,_⟩:=O.look;exact W.kia_one (W.kitx_own (cl.get _) cl.hd ha hn htk hm) I.kIn J e (fun z=>nomatch z) h
end
structure Room (k:Nat) (A:Around):Prop where
 hd:A.handled=none
 dp:A.depth+3*k+5 < recursionLimit
 un:A.units+16*k+200 < cLine
theorem Room.mono {j k:Nat} {A:Around} (r:Room k A) (h:j<=k):Room j A:=⟨r.hd,by have:=r.dp;walk_at "o",by have:=r.un;walk_at "o"⟩
theorem Room.deeper {k:Nat} {A:Around} (r:Room (k+1) A) (env:Env):Room k (A.deeper env) :=
 ⟨r.hd,by have:=r.dp;show A.depth+1+3*k+5 < _;walk_at "o",by have:=r.un;show A.units+3+16*k+200 < _;walk_at "o"⟩
theorem Yt1 {A:Around} {C:Addr} {us:List Value} {kw:List (Str×Value)}:(A.under (.builtin "type.__call__" ⟨.ref C :: us,kw⟩)).depth=A.depth+1:=by
 first | rfl | simp[Around.under,Code.weight,Code.isCreation,Code.isGuard,Code.isCaller,Code.frames,Code.isFrame,guardIds]
theorem Yt0 {A:Around} {C:Addr} {us:List Value} {kw:List (Str×Value)}:(A.under (.builtin "type.__call__" ⟨.ref C :: us,kw⟩)).units=A.units+1:=by
 first | rfl | simp[Around.under,Code.cUnits,Code.frames,Code.isFrame]
theorem Room.make {k:Nat} {A:Around} (r:Room (k+1) A) (C:Addr) (us:List Value) (kw:List (Str×Value)):Room k (A.under (.builtin "type.__call__" ⟨.ref C :: us,kw⟩)) :=
 ⟨r.hd,by have:=r.dp;rw[Yt1];walk_at "o",by have:=r.un;rw[Yt0];walk_at "o"⟩
theorem Room.depth {k:Nat} {A:Around} (r:Room k A):A.depth < recursionLimit:=by have:=r.dp;walk_at "o"
theorem Room.units {k:Nat} {A:Around} (r:Room k A):A.units+64 < cLine:=by have:=r.un;walk_at "o"
def tNil:TA:=fun _ H Q=>Q [] H
def Ye5 (ta:TE) (tr:TA):TA:=fun σ H Q=>ta σ H fun x H1=>tr σ H1 fun xs H2=>Q (x :: xs) H2
section
variable {X:Cx} {e:Expr} {es:List Expr} {te:TE} {t:TA} {pos:Pos}
theorem Za2:PA X [] tNil:=fun _ _ _ _ H Q I h=>Calls.spliced_nil ⟨[],H,I,.nil,h⟩
theorem Za0 (ha:PE X e te) (hr:PA X es t) (hs:starEach (e :: es) X.env=(false,eval e X.env) :: starEach es X.env:=by rfl):PA X (e :: es) (Ye5 te t):=by
 intro b a s c H Q I h;rw[hs];show wpAny _ _ (spliced ((false,eval e X.env) :: backTo b (starEach es X.env))) _ _ s;refine Calls.spliced_cons (thn (ha a s c H _ I h) fun u s1 zq=>?_);obtain⟨x,H1,I1,r1,q1⟩:=zq;exact thn (hr b a s1 c H1 _ I1 q1) fun us s2 ⟨xs,H2,I2,r2,q2⟩=>⟨x :: xs,H2,I2,.cons r1 r2,q2⟩
def tTup (t:TA):TE:=fun σ H Q=>t σ H fun xs H1=>xs.length<=sizeLine/\∀ p,H1 p=none->Q (.ref p) (upd H1 p (.tup xs))
def tLst (t:TA):TE:=fun σ H Q=>t σ H fun xs H1=>xs.length<=sizeLine/\∀ p,H1 p=none->Q (.ref p) (upd H1 p (.lst xs))
theorem Zb3 {x1} (h:PA X es t):PE X (.Tuple es x1 pos) (tTup t):=by
 intro a s c H Q I d;refine wpAny_Tuple_spliced (thn (h pos a s c H _ I d) fun us s1 ⟨xs,H1,I1,r,z,q⟩=>⟨by rw[<- r.length];exact z,?_⟩);have f:H1 s1.heap.objs.size=none:=I1.hok.fresh (Nat.le_refl _);refine⟨.ref s1.heap.objs.size,upd H1 s1.heap.objs.size (.tup xs),I1.laid (t':=s1.toks) (fun b u e=>Heap.get?_push_of_some _ e) (Nat.le_refl _) ?_,rfl,q _ f⟩;exact⟨z,us,r,⟨_,Heap.get?_push_size _ rfl,rfl,_,rfl⟩⟩
theorem Zb5 (h:PA X es t):PE X (.List es pos) (tLst t):=by
 intro a s c H Q I d;refine wpAny_List_spliced (thn (h pos a s c H _ I d) fun us s1 ⟨xs,H1,I1,r,z,q⟩=>⟨by rw[<- r.length];exact z,?_⟩);have f:H1 s1.heap.objs.size=none:=I1.hok.fresh (Nat.le_refl _);refine⟨.ref s1.heap.objs.size,upd H1 s1.heap.objs.size (.lst xs),I1.laid (t':=s1.toks) (fun b u e=>Heap.get?_push_of_some _ e) (Nat.le_refl _) ?_,rfl,q _ f⟩;exact⟨z,us,0,r,Heap.get?_push_size _ rfl⟩
end
noncomputable abbrev Sp:=List V->Hp->VK->XK->Prop
noncomputable abbrev CXT:=List Env->Hp->Shared->XK->Value->Shared->Prop
structure Env0 (P:Program) (w:World) (K:W.Frag) (mg:Str->Option Value) (base:Heap) (A:Around) (outer:List Env) (s:Shared) (H:Hp):Prop where
 frames:A.frames=some outer
 mod:Mod K mg base
 bs:∀ b o,base.get? b=some o->s.heap.get? b=some o/\H b=none
 bsz:base.objs.size<=s.heap.objs.size
 funs:s.heap.FunFrames base outer
 frf:∀ b∈frs outer,H b=none
 hok:HOk P w H s.heap
 bare:AllBare s.gens
def CE (outer:List Env) (P:Program) (w:World) (H:Hp) (s:Shared) (Q:VK) (u:Value) (s':Shared):Prop :=
 ∃ v H',s'.os=s.os/\AllBare s'.gens/\Un (frs outer) [] H H' s.heap s'.heap/\HOk P w H' s'.heap/\RelV v u/\Q v H'
def CR (CX:CXT) (outer:List Env) (P:Program) (w:World) (H:Hp) (s:Shared) (Q:VK) (E:XK) (r:Result) (s':Shared):Prop :=
 match r with
 | .ok (.ret u)=>CE outer P w H s Q u s'
 | .ok _=>False
 | .error e=>CX outer H s E e s'
structure FnOk (P:Program) (w:World) (K:W.Frag) (mg:Str->Option Value) (base:Heap) (CX:CXT) (k:Nat) (f:Addr) (fd:FuncData) (ps:List Str) (sp:Sp):Prop where
 len:∀ vs H Q E,sp vs H Q E->vs.length=ps.length
 run:∀ (A:Around) (outer:List Env) (s:Shared) (H:Hp) (args:Args) (us:List Value) (vs:List V) (Q:VK) (E:XK),Room k A->Env0 P w K mg base A outer s H->BindsTo s fd args (ps.zip us)->Vals vs us->sp vs H Q E ->
  codeAny (model P w) A (.call (.ref f) args) (CR CX outer P w H s Q E) s
theorem FnOk.mono {P:Program} {w:World} {K:W.Frag} {mg:Str->Option Value} {base:Heap} {CX:CXT} {j k:Nat} {f:Addr} {fd:FuncData} {ps:List Str} {sp:Sp} (F:FnOk P w K mg base CX j f fd ps sp) (h:j<=k) :
  FnOk P w K mg base CX k f fd ps sp:=⟨F.len,fun A a s H b d c Q E e=>F.run A a s H b d c Q E (e.mono h)⟩
theorem Env0.make {P:Program} {w:World} {K:W.Frag} {mg:Str->Option Value} {base:Heap} {A:Around} {outer:List Env} {s:Shared} {H:Hp} (e:Env0 P w K mg base A outer s H) (C:Addr) (us:List Value) (kw:List (Str×Value)) :
  Env0 P w K mg base (A.under (.builtin "type.__call__" ⟨.ref C :: us,kw⟩)) outer s H:=⟨by first | exact e.frames | (simpa [Around.under,Code.envs,Code.isFrame,pushEnvs] using e.frames),e.mod,e.bs,e.bsz,e.funs,e.frf,e.hok,e.bare⟩
section
variable {X:Cx} {pins:List (Addr×Obj)} {σ:St} {H:Hp} {s s':Shared}
theorem Inv.env0 (I:Inv X pins σ H s):Env0 X.prog X.w X.K X.mg X.base X.A X.stack s H :=
 ⟨I.ok.frames,I.ok.mod,I.bs,Nat.le_trans I.ok.bsz I.sz,I.stack,I.stkFree,I.hok,I.bare⟩
theorem Inv.after {Q:VK} {u:Value} (I:Inv X pins σ H s) (h:CE X.stack X.prog X.w H s Q u s'):EP X pins σ Q u s':=by
 obtain⟨v,j,os,a,f,e,r,q⟩:=h;obtain⟨i,g,d,t,c⟩:=s';obtain rfl:c=s.os:=os;exact⟨v,j,I.call (h':=i) (g':=g) (d':=d) (t':=t) (ch:=[]) f e a (fun b z=>absurd z (by simp)),r,q⟩
end
def Zv7 (sp:Sp) (dvs:List V) (E:XK) (t:TA):TE:=fun σ H Q=>t σ H fun vs H1=>sp (vs++dvs) H1 Q E
def Binds (K:W.Frag) (fd:FuncData) (ps:List Str) (ds:List Value):Prop :=
 ∀ (s:Shared) (us:List Value),K.In s.heap->(us++ds).length=ps.length->BindsTo s fd ⟨us,[]⟩ (ps.zip (us++ds))
theorem Binds.all {K:W.Frag} {fd:FuncData} {ps:List Str} (h:∀ us:List Value,us.length=ps.length->bindArgs fd ⟨us,[]⟩=pure (ps.zip us)):Binds K fd ps []:=fun s us _ a=>by
 rw[List.append_nil] at a ⊢;exact .of_eq (h us a)
def Yr2 (CX:CXT) (X:Cx) (E:XK):Prop:=∀ (pins:List (Addr×Obj)) (σ:St) (H:Hp) (s:Shared) (e:Value) (s':Shared),Inv X pins σ H s->CX X.stack H s E e s'->X.xe e s'
section
variable {X:Cx} {CX:CXT} {k:Nat} {f C:Addr} {fd:FuncData} {ps:List Str} {sp:Sp} {dvs:List V} {ds:List Value} {E:XK} {x m:Str} {p pos apos:Pos} {e o:Expr} {es:List Expr} {ta:TE} {t:TA}
theorem Xk7 {pins:List (Addr×Obj)} {σ:St} {H:Hp} {s:Shared} {Q:VK} {us:List Value} {vs:List V} (F:FnOk X.prog X.w X.K X.mg X.base CX k f fd ps sp) (hr:Room k X.A) (hb:Binds X.K fd ps ds) (hd:Vals dvs ds) (hx:Yr2 CX X E)
  (I:Inv X pins σ H s) (r:Vals vs us) (h:sp (vs++dvs) H Q E):wpAny (model X.prog X.w) X.A (call (.ref f) us) (EP X pins σ Q) X.xe s:=by
 have b:Vals (vs++dvs) (us++ds):=r.append hd
 have d:(us++ds).length=ps.length:=by rw[<- b.length];exact F.len _ _ _ _ h
 refine wpAny_call (codeAny_mono (F.run X.A X.stack s H ⟨us,[]⟩ (us++ds) (vs++dvs) Q E hr I.env0 (hb s us I.kIn d) b h) fun r c a=>?_)
 cases r with
 | error e=>exact hx pins σ H s e c I a
 | ok fl =>
  cases fl with
  | ret u=>exact I.after a
  | next=>exact False.elim a
  | brk=>exact False.elim a
  | cont=>exact False.elim a
theorem Zl1 (F:FnOk X.prog X.w X.K X.mg X.base CX k f fd ps sp) (hr:Room k X.A) (hg:Gl X x) (hm:X.mg x=some (.ref f)) (hk:W.keepIn X.K (.ref f)=true) (hb:Binds X.K fd ps ds) (hd:Vals dvs ds) (hx:Yr2 CX X E)
  (ha:PA X (e :: es) t) (hdb:(x == ("__debug__":Str))=false:=by decide) (he:starEach (e :: es) X.env=(false,eval e X.env) :: starEach es X.env:=by rfl) (hpl:(backTo pos (starEach es X.env)).any (·.1)=false:=by rfl) :
  PE X (.Call (.Name x p) (e :: es) [] pos) (Zv7 sp dvs E t):=by
 intro a s b H Q I h;refine wpAny_Call_Name_kw (Zj7 I hg hm ?_ hdb);refine W.callWith_K (h₀:=X.base) I.ok.mod.kin hk (thn (ha pos a s b H _ I h) fun us s1 ⟨vs,H1,I1,r,q⟩=>⟨I1.kIn,?_⟩) he hpl;exact Xk7 F hr hb hd hx I1 r q
end
structure FnScope (N P:List Str) (sc:Scope):Prop where
 kind:sc.kind=.function
 co:sc.isCoroutine=false
 gen:sc.isGenerator=false
 nd:N.Nodup
 pre:N.take P.length=P
 par:∀ x∈P,sc.names.lookup x=some .local∨sc.names.lookup x=some .cell
 nofree:∀ y∈sc.names,y.2≠.free
theorem Yh7 {kindOf:Str->Option NameKind} {x:Str}:∀ {binds:List (Str×Value)} {m:Str->Option Value},(∀ v,(x,v) ∉ binds)->bindL kindOf binds m x=m x
 | [],_,_=>rfl
 | (n,v) :: r,m,h=>by
  unfold bindL;rw[Yh7 fun w hw=>h w (List.mem_cons_of_mem _ hw)]
  split
  ·have:x≠n:=by rintro rfl;exact h v List.mem_cons_self
   simp[this]
  ·rfl
theorem Yh9 {kindOf:Str->Option NameKind} {x:Str}:∀ {binds:List (Str×Value)} {m:Str->Option Value},(∀ v,(x,v) ∉ binds)->bindC kindOf binds m x=m x
 | [],_,_=>rfl
 | (n,v) :: r,m,h=>by
  unfold bindC;rw[Yh9 fun w hw=>h w (List.mem_cons_of_mem _ hw)]
  split
  ·rfl
  ·have:x≠n:=by rintro rfl;exact h v List.mem_cons_self
   simp[this]
theorem Yh8 {kindOf:Str->Option NameKind} {x:Str} {v:Value}:∀ {P:List Str} {vs:List Value} {i:Nat} {m:Str->Option Value},P.Nodup->P[i]?=some x->vs[i]?=some v->kindOf x=some .local ->
  bindL kindOf (P.zip vs) m x=some v
 | [],_,_,_,_,h,_,_=>by simp at h
 | _ :: _,[],_,_,_,_,h,_=>by simp at h
 | p :: P,w :: vs,0,m,nd,h1,h2,hk=>by
  simp at h1 h2;subst h1;subst h2;show bindL kindOf ((p,w) :: P.zip vs) m p=_;unfold bindL;rw[Yh7 fun v hv=>(List.nodup_cons.mp nd).1 (List.of_mem_zip hv).1,if_pos hk];simp
 | p :: P,w :: vs,i+1,m,nd,h1,h2,hk=>by
  show bindL kindOf ((p,w) :: P.zip vs) m x=_;unfold bindL;exact Yh8 (i:=i) (List.nodup_cons.mp nd).2 (by simpa using h1) (by simpa using h2) hk
theorem Yi0 {kindOf:Str->Option NameKind} {x:Str} {v:Value}:∀ {P:List Str} {vs:List Value} {i:Nat} {m:Str->Option Value},P.Nodup->P[i]?=some x->vs[i]?=some v->kindOf x≠some .local ->
  bindC kindOf (P.zip vs) m x=some v
 | [],_,_,_,_,h,_,_=>by simp at h
 | _ :: _,[],_,_,_,_,h,_=>by simp at h
 | p :: P,w :: vs,0,m,nd,h1,h2,hk=>by
  simp at h1 h2;subst h1;subst h2;show bindC kindOf ((p,w) :: P.zip vs) m p=_;unfold bindC;rw[Yh9 fun v hv=>(List.nodup_cons.mp nd).1 (List.of_mem_zip hv).1,if_neg hk];simp
 | p :: P,w :: vs,i+1,m,nd,h1,h2,hk=>by
  show bindC kindOf ((p,w) :: P.zip vs) m x=_;unfold bindC;exact Yi0 (i:=i) (List.nodup_cons.mp nd).2 (by simpa using h1) (by simpa using h2) hk
noncomputable def start (N:List Str) (vs:List V):St:=vs.map some++List.replicate (N.length - vs.length) none
noncomputable def cxOf (CX:CXT) (P:Program) (w:World) (K:W.Frag) (mg:Str->Option Value) (base:Heap) (N:List Str) (qual:Str) (scope:Scope) (f:Addr) (cd:Value) (A:Around) (outer:List Env) (s:Shared) (H:Hp) (E:XK):Cx where
 prog:=P
 w:=w
 K:=K
 mg:=mg
 base:=base
 A:=A.deeper (envOfC qual scope s.heap.objs.size f cd)
 N:=N
 s₀:=s
 H₀:=H
 env:=envOfC qual scope s.heap.objs.size f cd
 outer:=outer
 stack:=envOfC qual scope s.heap.objs.size f cd :: outer
 ex:=[]
 calm:=true
 fn:=fun _=>true
 pn:=[]
 xe:=fun e s'=>wpAny (model P w) (A.deeper (envOfC qual scope s.heap.objs.size f cd)) (leaving (envOfC qual scope s.heap.objs.size f cd) e) (fun _ s''=>CX outer H s E e s'') (fun e' s''=>CX outer H s E e' s'') s'
theorem Yq9 {sc:Scope} {n:Nat} {x:Str} (h:sc.names.lookup x=some .cell):∃ c,(cellsFrom n sc.names []).lookup x=some c:=by
 have q:=W.cellsFrom_some sc.names n [] (.inl h);exact Option.isSome_iff_exists.mp q
theorem Yg7 {CX:CXT} {P:Program} {w:World} {K:W.Frag} {mg:Str->Option Value} {base:Heap} {N ps:List Str} {qual:Str} {scope:Scope} {f:Addr} {cd:Value} {A:Around} {outer:List Env} {s s1:Shared} {H:Hp} {E:XK} {us:List Value} {vs:List V}
  (S:FnScope N ps scope) (hd:A.handled=none) (e0:Env0 P w K mg base A outer s H) (hl:vs.length=ps.length) (r:Vals vs us)
  (x:InCallC s s.heap.objs.size (bindL (envOfC qual scope s.heap.objs.size f cd).kindOf (ps.zip us) fun _=>none) (cellsFrom (s.heap.objs.size+1) scope.names []) (bindC (envOfC qual scope s.heap.objs.size f cd).kindOf (ps.zip us) fun _=>none) s1) :
  Inv (cxOf CX P w K mg base N qual scope f cd A outer s H E) [] (start N vs) H s1:=by
 have G:ps.length<=N.length:=by have:=congrArg List.length S.pre;rw[List.length_take] at this;walk_at "o"
 obtain⟨o,I,rfl,C⟩:=x.done;have j:∀ b:Addr,b ∉ (cxOf CX P w K mg base N qual scope f cd A outer s H E).ex:=fun b z=>absurd (show b∈([]:List Addr) from z) (by simp)
 refine⟨⟨e0.mod,S.kind,rfl,rfl,Nat.le_refl _,fun y z c o d=>?_,fun y g=>?_,fun y c _ h=>?_,fun _=>hd,Around.frames_deeper e0.frames,.inr ⟨rfl,rfl⟩,fun b z=>absurd z (j b),e0.bs,e0.bsz,fun b _ _=>j b,fun b z=>absurd z (j b),e0.funs,e0.frf⟩,
  rfl,e0.bare,Un.kept C,⟨_,x.toInCall.ns,fun i y v o d J=>?_⟩,fun y c h=>⟨_,x.cell y c h⟩,e0.hok.fresh (Nat.le_refl _),fun y c h=>?_,fun p l=>absurd (show p∈([]:List (Addr×Obj)) from l) (by simp),e0.hok.kept C,?_⟩
 ·exact name_of_addr x.apart (PySem.mem_of_lookup o) (PySem.mem_of_lookup d)
 ·have g:scope.names.lookup y=some .cell∨scope.names.lookup y=some .free:=g
  rcases g with g | g
  ·exact Yq9 g
  ·exact absurd rfl (S.nofree _ (PySem.mem_of_lookup g))
 ·exact Nat.le_of_lt (x.above y c (PySem.mem_of_lookup h))
 ·have m:i < vs.length:=by
   unfold start at d
   by_cases m:i < vs.length
   ·exact m
   ·rw[List.getElem?_append_right (by simpa using m)] at d
    rw[List.getElem?_replicate] at d
    split at d<;>cases d
  have F:vs[i]?=some v:=by
   unfold start at d;rw[List.getElem?_append_left (by simpa using m),List.getElem?_map] at d
   cases e:vs[i]? with
   | none=>rw[e] at d;cases d
   | some a=>rw[e] at d;cases d;rfl
  obtain⟨u,B,D⟩:=r.get F
  have l:ps[i]?=some y:=by
   rw[<- S.pre,List.getElem?_take_of_lt (by walk_at "o")];exact o
  have t:ps.Nodup:=by rw[<- S.pre];exact S.nd.sublist (List.take_sublist _ _)
  refine⟨u,D,?_⟩;rcases S.par y (List.mem_of_getElem? l) with k | k
  ·exact .inl ⟨k,Yh8 t l B k⟩
  ·obtain⟨c,e⟩:=Yq9 (n:=s.heap.objs.size+1) k
   refine .inr ⟨.inl k,c,e,?_⟩;have q:=x.cell y c e;rw[Yi0 t l B (by show scope.names.lookup y≠_;rw[k];decide)] at q;exact q
 ·exact e0.hok.fresh (Nat.le_of_lt (x.above y c (PySem.mem_of_lookup h)))
 ·unfold start
  show _=N.length;rw[List.length_append,List.length_map,List.length_replicate];walk_at "o"
theorem fn_of {CX:CXT} {P:Program} {w:World} {K:W.Frag} {mg:Str->Option Value} {base:Heap} {k:Nat} {f:Addr} {name qual:Str} {params:Arguments} {body:List Stmt} {scope:Scope} {dV kV doc pm cdv ct oc:Value} {an od:Option Addr}
  {osl:Array (Option Value)} {N ps:List Str} {sp:Sp} (lk:K.lookup f=some ⟨oc,od,.func (W.fnOf name qual params body scope dV kV doc pm an cdv ct),osl⟩) (hcd:W.codeIn K cdv qual=true) (S:FnScope N ps scope)
  (len:∀ vs H Q E,sp vs H Q E->vs.length=ps.length)
  (hbody:∀ (A:Around) (outer:List Env) (s:Shared) (H:Hp) (vs:List V) (Q:VK) (E:XK),Room k (A.deeper (envOfC qual scope s.heap.objs.size f cdv))->sp vs H Q E ->
   ∃ t,PSs (cxOf CX P w K mg base N qual scope f cdv A outer s H E) body t/\t { nx:=fun _ H'=>Q .non H',rt:=Q } (start N vs) H) :
  FnOk P w K mg base CX (k+1) f (W.fnOf name qual params body scope dV kV doc pm an cdv ct) ps sp:=by
 refine⟨len,fun A outer s H M z vs Q E l d G r h=>?_⟩;have D:=len _ _ _ _ h;have p:K.In s.heap:=d.mod.kin.keeps fun b o e=>(d.bs b o e).1;have m:s.heap.NoLimit:=d.mod.nolimit.keeps fun b o e=>(d.bs b o e).1
 have g:∀ y∈ps.zip z,scope.names.lookup y.1=some .local∨(scope.names.lookup y.1=some .cell/\((cellsFrom (s.heap.objs.size+1) scope.names []).lookup y.1).isSome=true):=fun⟨n,v⟩ hy=>by
  rcases S.par n (List.of_mem_zip hy).1 with q | q
  ·exact .inl q
  ·exact .inr ⟨q,W.cellsFrom_some _ _ _ (.inl q)⟩
 refine codeAny_call_function l.depth (p _ _ lk) rfl S.co S.gen rfl (W.codeRec_of p hcd) (G _ _ _ _ ?_);refine wpAny_newFunctionEnv_cells S.kind g fun O F s1 x=>?_;subst F;refine⟨m.keeps x.toInCall.keep,codeAny_func ?_⟩;obtain⟨t,B,C⟩:=hbody A outer s H vs Q E (l.deeper _) h;have I:Inv (cxOf CX P w K mg base N qual scope f cdv A outer s H E) [] (start N vs) H s1:=Yg7 S l.hd d D r x;refine wpAny_mono (B [] s1 (start N vs) H _ I C) (fun L s' c=>?_) fun e s' c=>c
 have i:∀ {a:St} {H':Hp} {v:V} {u:Value},Inv (cxOf CX P w K mg base N qual scope f cdv A outer s H E) [] a H' s'->RelV v u->Q v H'->CE outer P w H s Q u s' :=
  fun {a H' v u} J j q=>⟨v,H',J.os,J.bare,J.base,J.hok,j,q⟩
 cases L with
 | ret u =>
  obtain⟨v,a,H',J,j,q⟩:=c;exact i J j q
 | next =>
  obtain⟨a,H',J,q⟩:=c;exact i (v:=V.non) (u:=Value.none) J rfl q
 | brk =>
  obtain⟨_,_,_,q⟩:=c;exact False.elim q
 | cont =>
  obtain⟨_,_,_,q⟩:=c;exact False.elim q
section
variable {X:Cx} {x:Str} {p pos:Pos} {e:Expr} {es:List Expr} {t:TA} {id T:String} {r:List V->Hp->VK->Prop}
def tCB (r:List V->Hp->VK->Prop) (t:TA):TE:=fun σ H Q=>t σ H fun vs H1=>r vs H1 Q
theorem Zc1 (hc:Zs1 X (.builtin id) r) (hg:Gl X x) (hm:X.mg x=none) (hv:bootBuiltins x=some (.builtin id)) (ha:PA X (e :: es) t) (hn:x≠"__name__":=by decide) (hdb:(x == ("__debug__":Str))=false:=by decide)
  (he:starEach (e :: es) X.env=(false,eval e X.env) :: starEach es X.env:=by rfl) (hpl:(backTo pos (starEach es X.env)).any (·.1)=false:=by rfl):PE X (.Call (.Name x p) (e :: es) [] pos) (tCB r t):=by
 intro a s b H Q I h;refine wpAny_Call_Name_kw (Zx2 I hg hm hv ?_ hn hdb);exact PyProof.Rows.callWith_builtin1 (thn (ha pos a s b H _ I h) fun us s1 ⟨vs,H1,I1,r1,q1⟩=>hc a s1 b H1 vs us Q I1 r1 q1) he hpl
theorem Zg3 (hc:Zs1 X (.type T) r) (hg:Gl X x) (hm:X.mg x=none) (hv:bootBuiltins x=some (.type T)) (ha:PA X (e :: es) t) (hn:x≠"__name__":=by decide) (hdb:(x == ("__debug__":Str))=false:=by decide)
  (he:starEach (e :: es) X.env=(false,eval e X.env) :: starEach es X.env:=by rfl) (hpl:(backTo pos (starEach es X.env)).any (·.1)=false:=by rfl):PE X (.Call (.Name x p) (e :: es) [] pos) (tCB r t):=by
 intro a s b H Q I h;refine wpAny_Call_Name_kw (Zx2 I hg hm hv ?_ hn hdb);exact PyProof.Rows.callWith_type1 (thn (ha pos a s b H _ I h) fun us s1 ⟨vs,H1,I1,r1,q1⟩=>hc a s1 b H1 vs us Q I1 r1 q1) he hpl
end
end L2
namespace HT
open PySem PyProof.Rows
section
variable {prog:Program} {w:World} {A:Around} {E:Value->Shared->Prop} {s:Shared}
noncomputable def sIx (n d:Nat):Option Int->Nat
 | none=>d
 | some v=>if v < 0 then (v+(n:Int)).toNat else min v.toNat n
theorem We0 (n d:Nat):sIx n d none=d:=rfl
theorem Xu5 (n d:Nat) (hd:d<=n) (o:Option Int):sIx n d o<=n:=by
 cases o with
 | none=>exact hd
 | some v =>
  show (if v < 0 then (v+(n:Int)).toNat else min v.toNat n)<=n
  by_cases hv:v < 0
  ·rw[if_pos hv];walk_at "o"
  ·rw[if_neg hv];exact Nat.min_le_right _ _
theorem Xc9 (v:Int) (n d:Nat):(if v < 0 then max (v+(n:Int)) 0 else min v (n:Int))=((sIx n d (some v):Nat):Int):=by
 show (if v < 0 then max (v+(n:Int)) 0 else min v (n:Int))=(((if v < 0 then (v+(n:Int)).toNat else min v.toNat n):Nat):Int)
 by_cases hv:v < 0
 ·simp only[if_pos hv];walk_at "o"
 ·simp only[if_neg hv];walk_at "o"
theorem Yu3 (lo hi:Option Int) (n:Nat):Builtin.Slice.sliceAdjust lo hi 1 (n:Int)=(((sIx n 0 lo:Nat):Int),((sIx n n hi:Nat):Int)):=by
 have a:¬ ((1:Int) < 0):=by walk_at "o"
 unfold Builtin.Slice.sliceAdjust;simp only[a,if_false];refine Prod.ext ?_ ?_
 ·cases lo with
  | none=>rfl
  | some v=>exact Xc9 v n 0
 ·cases hi with
  | none=>rfl
  | some v=>exact Xc9 v n n
theorem Ys2 (i j:Nat):Builtin.Slice.slicePlaces (i:Int) (j:Int) 1=j - i:=by
 unfold Builtin.Slice.slicePlaces
 have a:(1:Int) > 0:=by walk_at "o"
 simp only[a,if_true,Int.ediv_one]
 split<;>walk_at "o"
theorem Zz0 {v:Value} {o:Option Int} {Q:Option Int->Shared->Prop} (p:IsPart v o) (h:Q o s):wpAny (model prog w) A (Builtin.Slice.slicePartIndex v) Q E s:=by
 cases p with
 | none=>exact slicePart_none h
 | int i t=>exact slicePart_int h
theorem Zt5 {sl:Addr} {vl vu:Value} {lo hi:Option Int} {n:Nat} {Q:Int×Int×Nat->Shared->Prop} (hs:s.heap.IsSliceOf sl vl vu .none) (pl:IsPart vl lo) (pu:IsPart vu hi)
  (h:Q (((sIx n 0 lo:Nat):Int),1,sIx n n hi - sIx n 0 lo) s):wpAny (model prog w) A (Builtin.Slice.sliceApplied (.ref sl) (pure (n:Int))) Q E s:=by
 obtain⟨d,a,c,b⟩:=id hs;unfold Builtin.Slice.sliceApplied Builtin.Slice.sliceFields;refine wpAny_bind (wpAny_bind (wpAny_field a b (x:=vl) rfl (wpAny_bind (wpAny_field a b (x:=vu) rfl (wpAny_bind (wpAny_field a b (x:=.none) rfl (wpAny_pure ?_)))))));refine wpAny_bind (slicePart_none ?_);show wpAny _ _ (if ((1:Int) == 0)=true then _ else _) _ _ s;rw[if_neg (by decide)];refine wpAny_bind (Zz0 pl (wpAny_bind (Zz0 pu (wpAny_bind (wpAny_pure ?_)))));show wpAny _ _ (match Builtin.Slice.sliceAdjust lo hi 1 (n:Int) with | (lo,hi)=>pure (lo,(1:Int),Builtin.Slice.slicePlaces lo hi 1)) _ _ s;rw[Yu3 lo hi n];show wpAny _ _ (pure (((sIx n 0 lo:Nat):Int),(1:Int),Builtin.Slice.slicePlaces ((sIx n 0 lo:Nat):Int) ((sIx n n hi:Nat):Int) 1)) _ _ s;rw[Ys2];exact wpAny_pure h
theorem Xh0 (xs:Array Value) (i k:Nat):((List.range k).filterMap fun (m:Nat)=>xs[((i:Int)+(m:Int)*1).toNat]?).toArray=((xs.toList.drop i).take k).toArray:=by
 have e:(fun (m:Nat)=>xs[((i:Int)+(m:Int)*1).toNat]?)=fun m=>xs[i+m]?:=by
  funext m
  have:((i:Int)+(m:Int)*1).toNat=i+m:=by walk_at "o"
  rw[this]
 rw[e];have:=pick_run xs i k;rw[List.filterMap_map] at this;have a:((fun x=>xs[x]?) ∘ fun x=>i+x)=fun m=>xs[i+m]?:=rfl;rw[a] at this;rw[this]
theorem getItem_tuple_cut {t sl:Addr} {items:Array Value} {vl vu:Value} {lo hi:Option Int} {Q:Value->Shared->Prop} (ht:IsTup s.heap t items) (hs:s.heap.IsSliceOf sl vl vu .none) (pl:IsPart vl lo) (pu:IsPart vu hi)
  (hw:¬ (sIx items.size 0 lo=0/\sIx items.size items.size hi=items.size))
  (h:Q (.ref s.heap.objs.size) { s with heap:=s.heap.push { cls:=.type "tuple",data:=.seq ((items.toList.drop (sIx items.size 0 lo)).take (sIx items.size items.size hi - sIx items.size 0 lo)).toArray } })
  (hsz:items.size<=sizeLine):wpAny (model prog w) A (getItem (.ref t) (.ref sl)) Q E s:=by
 have a:sizeOk (.seq ((items.toList.drop (sIx items.size 0 lo)).take (sIx items.size items.size hi - sIx items.size 0 lo)).toArray):=by
  show ((items.toList.drop (sIx items.size 0 lo)).take (sIx items.size items.size hi - sIx items.size 0 lo)).toArray.size<=sizeLine;rw[List.size_toArray,List.length_take,List.length_drop,Array.length_toList];walk_at "o"
 have k:sIx items.size items.size hi<=items.size:=Xu5 _ _ (Nat.le_refl _) hi;obtain⟨f,b,d,g⟩:=id hs;have e:s.TypeIs (.ref sl) "slice":=⟨f,b,d⟩;unfold getItem
 try with_reducible refine wpAny_holding ?_
 first | refine wpAny_bind (wpAny_pure ?_) | skip
 refine wpAny_bind (wpAny_sequenceKey ht.typeIs (by decide) ?_)
 refine wpAny_bind (wpAny_callSpecial?_slot (name:=Str.ofString "__getitem__") ht.typeIs PyProof.Rows.slot_tuple_getitem
  (wpAny_call_entry PyProof.Rows.slot_tuple_getitem ht.typeIs entry_tuple_getitem ?_ (args_tuple_getitem _ _)))
 show wpAny _ _ (Builtin.Tuple.tupleItemsOf (.ref t) >>= _) _ _ s;refine wpAny_bind (tupleItemsOf_ ht ?_);refine wpAny_bind (wpAny_typeOf e ?_);rw[if_pos (by decide)];refine wpAny_bind (Zt5 hs pl pu ?_)
 have c:¬ ((((sIx items.size 0 lo:Nat):Int) == 0&&(1:Int) == 1&&(sIx items.size items.size hi - sIx items.size 0 lo) == items.size)=true):=by
  intro q;rw[Bool.and_eq_true,Bool.and_eq_true] at q;have j:((sIx items.size 0 lo:Nat):Int)=0:=eq_of_beq q.1.1;have i:sIx items.size items.size hi - sIx items.size 0 lo=items.size:=eq_of_beq q.2;exact hw ⟨by walk_at "o",by walk_at "o"⟩
 show wpAny _ _ (if (((sIx items.size 0 lo:Nat):Int) == 0&&(1:Int) == 1&&(sIx items.size items.size hi - sIx items.size 0 lo) == items.size)=true then _ else _) _ _ s;rw[if_neg c,Xh0]
 first
  | exact wpAny_bind (m:=Builtin.Tuple.tupleExact _) (wpAny_newObj_type (wpAny_pure ⟨_,rfl,wpAny_pure h⟩) a)
  | exact wpAny_bind (m:=Builtin.Tuple.tupleExact _) (wpAny_newObj_type (wpAny_bind (wpAny_pure (wpAny_pure ⟨_,rfl,wpAny_pure h⟩))) a)
  | exact wpAny_bind (wpAny_bind (m:=Builtin.Tuple.tupleExact _) (wpAny_newObj_type (wpAny_pure (wpAny_pure ⟨_,rfl,wpAny_pure h⟩)) a))
  | exact wpAny_bind (wpAny_bind (m:=Builtin.Tuple.tupleExact _) (wpAny_newObj_type (wpAny_pure ⟨_,rfl,wpAny_pure h⟩) a))
end
end HT
namespace L2
open PySem PySem.Spec PyProof.Rows
noncomputable abbrev TO:=St->Hp->(Option Int->Hp->Prop)->Prop
def PO (X:Cx) (e:Option Expr) (t:TO):Prop :=
 ∀ (pins:List (Addr×Obj)) (s:Shared) (σ:St) (H:Hp) (Q:Option Int->Hp->Prop),Inv X pins σ H s->t σ H Q ->
  wpAny (model X.prog X.w) X.A (evalPart e X.env) (fun u s'=>∃ o H',Inv X pins σ H' s'/\IsPart u o/\Q o H') X.xe s
noncomputable def Zp6:TO:=fun _ H Q=>Q none H
noncomputable def Yi8 (t:TE):TO:=fun σ H Q=>t σ H fun x H1=>∃ i,x=.int i/\Q (some i) H1
section
variable {X:Cx} {e:Expr} {te:TE} {lo hi:Option Expr} {tl th:TO} {pos p2:Pos}
theorem Zf4:PO X none Zp6:=by
 intro a s b H Q I h;rw[evalPart_none];exact wpAny_pure ⟨none,H,I,.none,h⟩
theorem Zf3 (h:PE X e te):PO X (some e) (Yi8 te):=by
 intro a s b H Q I c;rw[evalPart_some];refine thn (h a s b H _ I c) fun u s1 zq=>?_;obtain⟨x,H1,I1,r1,q1⟩:=zq;obtain⟨i,rfl,q⟩:=q1;obtain⟨t,rfl⟩:=r1;exact⟨some i,H1,I1,.int i t,q⟩
def SlR (X:Cx) (r:V->Option Int->Option Int->Hp->VK->Prop):Prop :=
 ∀ (pins:List (Addr×Obj)) (s:Shared) (σ:St) (H:Hp) (x:V) (v vl vu:Value) (lo hi:Option Int) (sl:Addr) (Q:VK),Inv X pins σ H s->RelV x v->s.heap.IsSliceOf sl vl vu .none->IsPart vl lo->IsPart vu hi->r x lo hi H Q ->
  ∃ T id,typeLookup (.type T) "__getitem__"=pure (some (.builtin id))/\s.TypeIs v T/\wpAny (model X.prog X.w) X.A (getItem v (.ref sl)) (EP X pins σ Q) X.xe s
def tSl (r:V->Option Int->Option Int->Hp->VK->Prop) (te:TE) (tl th:TO):TE:=fun σ H Q=>te σ H fun x H1=>tl σ H1 fun l H2=>th σ H2 fun u H3=>r x l u H3 Q
theorem Ze5 {r:V->Option Int->Option Int->Hp->VK->Prop} (hr:SlR X r) (he:PE X e te) (hl:PO X lo tl) (hu:PO X hi th):PE X (.Subscript e (.Slice lo hi none p2) pos) (tSl r te tl th):=by
 intro a s c H Q I h;refine Subscript_ (thn (he a s c H _ I h) fun v s1 zq=>?_);obtain⟨x,H1,I1,r1,q1⟩:=zq;refine wpAny_Slice (thn (hl a s1 c H1 _ I1 q1) fun vl s2 ⟨l,H2,I2,pl,q2⟩=>thn (hu a s2 c H2 _ I2 q2) fun vu s3 zq=>?_);obtain⟨u,H3,I3,pu,q3⟩:=zq;rw[evalPart_none];refine wpAny_pure ?_;have i:Inv X a c H3 { s3 with heap:=s3.heap.push { cls:=.type "slice",data:=.fields #[vl,vu,.none] } }:=I3.kept (t':=s3.toks) fun b j q=>Heap.get?_push_of_some _ q;obtain⟨T,id,g,d,f⟩:=hr a { s3 with heap:=s3.heap.push { cls:=.type "slice",data:=.fields #[vl,vu,.none] } } c H3 x v vl vu l u s3.heap.objs.size Q i r1 (Heap.IsSliceOf.new ..) pl pu q3;show wpAny (model X.prog X.w) X.A (subscriptTail e (.Slice lo hi none p2) v (.ref s3.heap.objs.size)) (EP X a c Q) X.xe { s3 with heap:=s3.heap.push { cls:=.type "slice",data:=.fields #[vl,vu,.none] } };exact tail_any (ops:=[.ref s3.heap.objs.size,v]) d g f (by with_unfolding_all rfl)
noncomputable def cutV (xs:List V) (lo hi:Option Int):List V:=(xs.drop (HT.sIx xs.length 0 lo)).take (HT.sIx xs.length xs.length hi - HT.sIx xs.length 0 lo)
theorem Zy0 (xs:List V) (lo hi:Option Int):(cutV xs lo hi).length<=xs.length:=by
 unfold cutV;rw[List.length_take,List.length_drop];walk_at "o"
def rSlT (K:W.Frag):V->Option Int->Option Int->Hp->VK->Prop:=fun x lo hi H Q=>∃ a xs,x=.ref a/\SqT K H a xs /\
 ¬ (HT.sIx xs.length 0 lo=0/\HT.sIx xs.length xs.length hi=xs.length)/\∀ p,H p=none->Q (.ref p) (upd H p (.tup (cutV xs lo hi)))
theorem Xk5:SlR X (rSlT X.K):=by
 intro n s w H x v z y e f A Q I k u m l h;obtain⟨a,c,rfl,p,t,q⟩:=h;cases k;obtain⟨g,r,j,i⟩:=I.tuple p
 have d:g.toArray.size=c.length:=by rw[List.size_toArray];exact r.length.symm
 refine⟨"tuple",_,PyProof.Rows.slot_tuple_getitem.lookup,j.typeIs,?_⟩;refine HT.getItem_tuple_cut j u m l (by rw[d];exact t) ?_ (by rw[d];exact i);rw[d];refine⟨.ref s.heap.objs.size,_,I.laid (t':=s.toks) (o:=.tup (cutV c e f)) (fun b B q=>Heap.get?_push_of_some _ q) (Nat.le_refl _) ?_,rfl,q _ (I.hok.fresh (Nat.le_refl _))⟩;exact⟨Nat.le_trans (Zy0 c e f) i,_,(r.drop (HT.sIx c.length 0 e)).take (HT.sIx c.length c.length f - HT.sIx c.length 0 e),IsTup.new _ _⟩
end
noncomputable def ixN (n:Nat) (i:Int):Option Nat:=if 0<=i then (if i < n then some i.toNat else none) else if -(n:Int)<=i then some (i+n).toNat else none
noncomputable def atI {α:Type} (xs:List α) (i:Int):Option α:=(ixN xs.length i).bind fun j=>xs[j]?
theorem Xp8 {n:Nat} {i:Int} {j:Nat} (h:ixN n i=some j):seqIndex? i n=some j/\j < n/\-(n:Int)<=i/\i < n:=by
 unfold ixN at h
 by_cases h0:0<=i
 ·rw[if_pos h0] at h
  by_cases h1:i < n
  ·rw[if_pos h1] at h
   have e:i.toNat=j:=Option.some.inj h;exact⟨by rw[seqIndex_of h0 h1,e],by walk_at "o",by walk_at "o",h1⟩
  ·rw[if_neg h1] at h;cases h
 ·rw[if_neg h0] at h
  by_cases h1:-(n:Int)<=i
  ·rw[if_pos h1] at h
   have e:(i+n).toNat=j:=Option.some.inj h;exact⟨by rw[seqIndex_neg (by walk_at "o") h1,e],by walk_at "o",h1,by walk_at "o"⟩
  ·rw[if_neg h1] at h;cases h
theorem Ym5 {α:Type} {xs:List α} {i:Int} {v:α} (h:atI xs i=some v):∃ j,seqIndex? i xs.length=some j/\xs[j]?=some v/\j < xs.length/\-(xs.length:Int)<=i/\i < xs.length:=by
 unfold atI at h
 cases e:ixN xs.length i with
 | none=>rw[e] at h;cases h
 | some j =>
  rw[e] at h;obtain⟨d,c,b,a⟩:=Xp8 e;exact⟨j,d,h,c,b,a⟩
theorem Zd5 {α:Type} {xs:List α} {j:Nat} {v:α} (h:xs[j]?=some v):atI xs (j:Int)=some v:=by
 have a:j < xs.length:=(List.getElem?_eq_some_iff.mp h).1
 have e:ixN xs.length (j:Int)=some j:=by
  unfold ixN;rw[if_pos (by walk_at "o"),if_pos (by walk_at "o")];simp
 unfold atI;rw[e];exact h
def Ym8 (b:Expr):Prop:=∀ o i,subscripted b false o i=operate [o,i] (getItem o i)
def IxR (X:Cx) (r:R2):Prop :=
 ∀ (value slice:Expr) (pins:List (Addr×Obj)) (s:Shared) (σ:St) (H:Hp) (x y:V) (v u:Value) (Q:VK),Inv X pins σ H s->RelV x v->RelV y u->r x y H Q ->
  subscripted slice false v u=operate [v,u] (getItem v u)->wpAny (model X.prog X.w) X.A (subscriptTail value slice v u) (EP X pins σ Q) X.xe s
def MtR (X:Cx) (id:String) (r:V->List V->Hp->VK->Prop):Prop :=
 ∀ (pins:List (Addr×Obj)) (s:Shared) (σ:St) (H:Hp) (x:V) (xs:List V) (v:Value) (us:List Value) (Q:VK),Inv X pins σ H s->RelV x v->Vals xs us->r x xs H Q ->
  wpAny (model X.prog X.w) X.A (call (.builtin id) (v :: us)) (EP X pins σ Q) X.xe s
section
variable {X:Cx} {a b:Expr} {ta tb:TE} {pos:Pos}
theorem Zq4 {r:R2} (hr:IxR X r) (ha:PE X a ta) (hb:PE X b tb) (hs:Ym8 b):PE X (.Subscript a b pos) (tOp r ta tb):=by
 intro c s d H Q I h;exact Subscript_ (binT ha hb I h fun v u e x y j i g f q=>hr a b c e d j x y v u Q i g f q (hs _ _))
def rIxL (K:W.Frag):R2:=fun x y H Q=>∃ p xs i v,x=.ref p/\y=.int i/\SqL K H p xs/\atI xs i=some v/\Q v H
def rIxT (K:W.Frag):R2:=fun x y H Q=>∃ p xs i v,x=.ref p/\y=.int i/\SqT K H p xs/\atI xs i=some v/\Q v H
def rIxS:R2:=fun x y H Q=>∃ z i c,x=.str z/\y=.int i/\z.length<=sizeLine/\atI z.cps.toList i=some c/\Q (.str ⟨#[c]⟩) H
theorem Xb1:IxR X (rIxL X.K):=by
 intro n o a s f H x y v u Q I C B h l;obtain⟨p,N,i,z,rfl,rfl,D,G,q⟩:=h;cases C;obtain⟨t,rfl⟩:=B;obtain⟨k,r,d,O⟩:=I.list D;obtain⟨j,b,M,S,L,J⟩:=Ym5 G;obtain⟨w,m,g⟩:=r.get M;have F:=r.length;have R:=Yg2;have c:EP X a f Q w s:=⟨z,H,I,g,q⟩
 by_cases h0:0<=i
 ·have e:i.toNat=j:=by
   rw[seqIndex_of h0 J] at b;exact Option.some.inj b
  exact item_listR d.isList h0 (by walk_at "o") (by rw[e];simpa using m) c l
 ·have e:(i+(k.toArray.size:Int)).toNat=j:=by
   rw[seqIndex_neg (by walk_at "o") L] at b;rw[List.size_toArray,<- F];exact Option.some.inj b
  exact subscriptTail_builtinR (x:=w) d.isList.typeIs slot_list_getitem.lookup
   (wpAny_getItem_list_neg (Q:=fun r A=>r=w/\EP X a f Q r A) d.isList (by walk_at "o") (by rw[List.size_toArray]<;>walk_at "o") (by walk_at "o") (by rw[e];simpa using m) ⟨rfl,c⟩) l
theorem Xl3:IxR X (rIxT X.K):=by
 intro f g a s b H x y v u Q I m l h n;obtain⟨p,J,i,z,rfl,rfl,o,B,q⟩:=h;cases m;obtain⟨t,rfl⟩:=l;obtain⟨G,r,d,L⟩:=I.tuple o;obtain⟨j,D,C,R,O,N⟩:=Ym5 B;obtain⟨w,F,c⟩:=r.get C;have A:=r.length;have M:=Yg2;have e:EP X a b Q w s:=⟨z,H,I,c,q⟩;exact subscriptTail_builtinR (x:=w) d.typeIs slot_tuple_getitem.lookup
  (getItem_tuple (j:=j) (Q:=fun r k=>r=w/\EP X a b Q r k) d (by walk_at "o") (by walk_at "o") (by rw[List.size_toArray,<- A];exact D) (by simpa using F) ⟨rfl,e⟩) n
theorem Xl4:IxR X rIxS:=by
 intro b d g s A H x y v u Q I f e h k;obtain⟨z,i,c,rfl,rfl,C,m,q⟩:=h;obtain⟨t,rfl⟩:=f;obtain⟨B,rfl⟩:=e;obtain⟨j,a,p,F,o,n⟩:=Ym5 m
 have l:z.cps.toList.length=z.length:=by simp[Str.length]
 rw[l] at a o n;have D:=Yg2
 exact tail_any (typeIs_str s z t) slot_str_getitem.lookup (getItem_str (c:=c) (by
  have w:decide (i < -(2 ^ 63:Int))=false:=decide_eq_false (by walk_at "o");have r:decide (i ≥ 2 ^ 63)=false:=decide_eq_false (by walk_at "o")
  rw[w,r,Bool.or_false]) (by rw[a];simpa using p) ⟨.str ⟨#[c]⟩,H,I.tok _,⟨_,rfl⟩,q⟩) k
theorem Yf5 (lo hi:Option Int) (n:Nat):(sliceBounds lo hi none n).1=((HT.sIx n 0 lo:Nat):Int)/\(sliceBounds lo hi none n).2.1=((HT.sIx n n hi:Nat):Int)/\(sliceBounds lo hi none n).2.2=1:=by
 refine⟨?_,?_,rfl⟩
 ·cases lo with
  | none=>simp[sliceBounds,HT.sIx]
  | some i =>
   simp only[sliceBounds,HT.sIx,Option.getD_none,show (1:Int) > 0 by decide,if_true]
   by_cases h:i < 0
   ·simp only[h,if_true]<;>walk_at "o"
   ·simp only[h,if_false]<;>walk_at "o"
 ·cases hi with
  | none=>simp[sliceBounds,HT.sIx]
  | some i =>
   simp only[sliceBounds,HT.sIx,Option.getD_none,show (1:Int) > 0 by decide,if_true]
   by_cases h:i < 0
   ·simp only[h,if_true]<;>walk_at "o"
   ·simp only[h,if_false]<;>walk_at "o"
theorem Ya7 (its:List Value) (lo hi:Option Int):slicePick its.toArray lo hi none=((its.drop (HT.sIx its.length 0 lo)).take (HT.sIx its.length its.length hi - HT.sIx its.length 0 lo)).toArray:=by
 obtain⟨c,b,a⟩:=Yf5 lo hi its.toArray.size;unfold slicePick;rw[c,b,a]
 simp only[sliceRange_one,pick_run,List.size_toArray]<;>rfl
def rSlL (K:W.Frag):V->Option Int->Option Int->Hp->VK->Prop:=fun x lo hi H Q=>∃ a xs,x=.ref a/\SqL K H a xs/\∀ p,H p=none->Q (.ref p) (upd H p (.lst (cutV xs lo hi)))
theorem Zh8:SlR X (rSlL X.K):=by
 intro l s u H x v y w d f z Q I i p k j h;obtain⟨a,c,rfl,n,q⟩:=h;cases i;obtain⟨t,r,g,m⟩:=I.list n;have e:=r.length;refine⟨"list",_,slot_list_getitem.lookup,g.isList.typeIs,?_⟩;refine wpAny_getItem_list_slice g.isList p k j .none (by simp) ?_ (by rw[List.size_toArray]<;>walk_at "o");rw[Ya7,<- e];refine⟨.ref s.heap.objs.size,_,I.laid (t':=s.toks) (o:=.lst (cutV c d f)) (fun b A q=>Heap.get?_push_of_some _ q) (Nat.le_refl _) ?_,rfl,q _ (I.hok.fresh (Nat.le_refl _))⟩;exact⟨Nat.le_trans (Zy0 c d f) m,_,0,(r.drop (HT.sIx c.length 0 d)).take (HT.sIx c.length c.length f - HT.sIx c.length 0 d),Heap.get?_push_size _ rfl⟩
noncomputable def Yh0:V->Bool
 | .non=>true
 | .bl _=>true
 | .int _=>true
 | .str _=>true
 | _=>false
noncomputable def eqV:V->V->Bool
 | .non,.non=>true
 | .bl a,.bl b=>a == b
 | .bl a,.int b=>(if a then 1 else 0) == b
 | .int a,.bl b=>a == (if b then 1 else 0)
 | .int a,.int b=>a == b
 | .str a,.str b=>a == b
 | _,_=>false
theorem Wd1 {A:Around} {s:Shared} {y x:V} {u v:Value} (ry:RelV y u) (rx:RelV x v) (fy:Yh0 y=true) (fx:Yh0 x=true):SeqAt.EqAt A s u v (eqV y x):=by
 cases y with
 | non =>
  cases ry
  cases x with
  | non=>cases rx;exact SeqAt.EqAt.same _
  | bl b=>cases rx;exact SeqAt.EqAt.none_bool b
  | int b=>obtain⟨t,rfl⟩:=rx;exact SeqAt.EqAt.none_int b t
  | str b=>obtain⟨t,rfl⟩:=rx;exact SeqAt.EqAt.none_str b t
  | _=>exact absurd (show false=true from fx) Bool.false_ne_true
 | bl a =>
  cases ry
  cases x with
  | non=>cases rx;exact SeqAt.EqAt.bool_none a
  | bl b=>cases rx;exact SeqAt.EqAt.bool_bool a b
  | int b=>obtain⟨t,rfl⟩:=rx;exact SeqAt.EqAt.bool_int a b t
  | str b=>obtain⟨t,rfl⟩:=rx;exact SeqAt.EqAt.bool_str a b t
  | _=>exact absurd (show false=true from fx) Bool.false_ne_true
 | int a =>
  obtain⟨c,rfl⟩:=ry
  cases x with
  | non=>cases rx;exact SeqAt.EqAt.int_none a c
  | bl b=>cases rx;exact SeqAt.EqAt.int_bool a c b
  | int b=>obtain⟨t,rfl⟩:=rx;exact SeqAt.EqAt.int_int a c b t
  | str b=>obtain⟨t,rfl⟩:=rx;exact SeqAt.EqAt.int_str a c b t
  | _=>exact absurd (show false=true from fx) Bool.false_ne_true
 | str a =>
  obtain⟨c,rfl⟩:=ry
  cases x with
  | non=>cases rx;exact SeqAt.EqAt.str_none a c
  | bl b=>cases rx;exact SeqAt.EqAt.str_bool a c b
  | int b=>obtain⟨t,rfl⟩:=rx;exact SeqAt.EqAt.str_int a c b t
  | str b=>obtain⟨t,rfl⟩:=rx;exact SeqAt.EqAt.str_str a c b t
  | _=>exact absurd (show false=true from fx) Bool.false_ne_true
 | _=>exact absurd (show false=true from fy) Bool.false_ne_true
noncomputable def eqU (x:V) (u:Value):Bool:=match u with
 | .none=>eqV .non x
 | .bool b=>eqV (.bl b) x
 | .int i _=>eqV (.int i) x
 | .str z _=>eqV (.str z) x
 | _=>false
theorem Xl8 {x y:V} {u:Value} (r:RelV y u) (f:Yh0 y=true):eqU x u=eqV y x:=by
 cases y with
 | non=>cases r;rfl
 | bl b=>cases r;rfl
 | int i=>obtain⟨t,rfl⟩:=r;rfl
 | str z=>obtain⟨t,rfl⟩:=r;rfl
 | _=>exact absurd (show false=true from f) Bool.false_ne_true
theorem Ym6 {x:V}:∀ {xs:List V} {us:List Value},Vals xs us->xs.all Yh0=true->us.any (eqU x)=xs.any fun y=>eqV y x
 | _,_,.nil,_=>rfl
 | y :: xs,u :: us,.cons r t,f=>by
  rw[List.all_cons,Bool.and_eq_true] at f;rw[List.any_cons,List.any_cons,Xl8 r f.1,Ym6 t f.2]
theorem Yb9 {A:Around} {s:Shared} {x:V} {v:Value} (rx:RelV x v) (fx:Yh0 x=true):∀ {xs:List V} {us:List Value},Vals xs us->xs.all Yh0=true->∀ u∈us,SeqAt.EqAt A s u v (eqU x u)
 | _,_,.nil,_=>fun u hu=>by cases hu
 | y :: xs,u :: us,.cons r t,f=>fun u' hu=>by
  rw[List.all_cons,Bool.and_eq_true] at f;rcases List.mem_cons.mp hu with rfl | hu
  ·rw[Xl8 r f.1];exact Wd1 r rx f.1 fx
  ·exact Yb9 rx fx t f.2 u' hu
noncomputable def inV (x:V) (xs:List V):Bool:=xs.any fun y=>eqV y x
def rIn (K:W.Frag) (neg:Bool):R2:=fun x y H Q=>∃ p xs,y=.ref p/\(SqL K H p xs∨SqT K H p xs)/\Yh0 x=true/\xs.all Yh0=true/\Q (.bl (if neg then !inV x xs else inV x xs)) H
theorem Zw8:OpR X (compareOp .In) (rIn X.K false):=by
 intro j s l H x y v u Q I f i h;obtain⟨p,m,rfl,b,g,c,q⟩:=h;cases i;rcases b with b | b
 ·obtain⟨a,r,d,k⟩:=I.list b
  refine SeqAt.in_listAt (eqU x) d.isList (fun w e=>Yb9 f g r c w (by simpa using e)) ⟨.bl _,H,I,rfl,?_⟩;rw[show a.toArray.any (eqU x)=a.any (eqU x) by simp,Ym6 r c];exact q
 ·obtain⟨a,r,d,k⟩:=I.tuple b
  refine SeqAt.in_tupleAt (eqU x) d (fun w e=>Yb9 f g r c w (by simpa using e)) ⟨.bl _,H,I,rfl,?_⟩;rw[show a.toArray.any (eqU x)=a.any (eqU x) by simp,Ym6 r c];exact q
theorem Zb8:Zs1 X (.builtin "len") (fun xs H Q=>∃ p ys,xs=[.ref p]/\(SqL X.K H p ys∨SqT X.K H p ys)/\Q (.int ys.length) H):=by
 intro g s j H xs k Q I r h;obtain⟨p,ys,rfl,b,q⟩:=h;obtain⟨u,rfl,f⟩:=Yi6 r;cases f;have l:=Yg2;rcases b with b | b
 ·obtain⟨e,c,d,i⟩:=I.list b
  have a:=c.length;exact Calls.call_len_list d.isList (by simp only[List.size_toArray]<;>walk_at "o") ⟨.int ys.length,H,I.tok _,⟨s.toks+1,by rw[List.size_toArray,a]⟩,q⟩
 ·obtain⟨e,c,d,i⟩:=I.tuple b
  have a:=c.length;exact len_tuple d (by simp only[List.size_toArray]<;>walk_at "o") ⟨.int ys.length,H,I.tok _,⟨s.toks+1,by rw[List.size_toArray,a]⟩,q⟩
theorem Zf0:Zs1 X (.type "list") (fun xs H Q=>∃ p ys,xs=[.ref p]/\(SqL X.K H p ys∨SqT X.K H p ys)/\∀ l,H l=none->Q (.ref l) (upd H l (.lst ys))):=by
 intro t s A H xs C Q I r h;obtain⟨p,ys,rfl,j,q⟩:=h;obtain⟨u,rfl,B⟩:=Yi6 r;cases B
 have k:∀ (a:List Value),Vals ys a->ys.length<=sizeLine->∀ (c:Heap) (f:Nat),(∀ b o',s.heap.get? b=some o'->c.get? b=some o') ->
   c.get? s.heap.objs.size=some { cls:=.type "list",dict:=none,data:=.seq a.toArray f,slots:=#[] }->EP X t A Q (.ref s.heap.objs.size) { s with heap:=c }:=fun a d i c f g e =>
  ⟨.ref s.heap.objs.size,_,I.laid (t':=s.toks) g (Nat.le_refl _) (show ObjOk X.prog X.w _ c _ (.lst ys) from ⟨i,a,f,d,e⟩),rfl,q _ (I.hok.fresh (Nat.le_refl _))⟩
 rcases j with j | j
 ·obtain⟨a,d,m,i⟩:=I.list j
  have x:=d.length;obtain⟨o,v,z,n,y⟩:=m.isList;exact call_list_seq p (.inl rfl) v z y (fun c f g e=>k a d i c f g e) (by simp only[List.size_toArray]<;>walk_at "o")
 ·obtain⟨a,d,m,i⟩:=I.tuple j
  have x:=d.length;obtain⟨o,v,z,n,y⟩:=m;exact call_list_seq p (.inr rfl) v z y (fun c f g e=>k a d i c f g e) (by simp only[List.size_toArray]<;>walk_at "o")
def tyV (K:W.Frag) (T:String) (x:V) (H:Hp):Prop:=match x with
 | .str _=>T="str"
 | .int _=>T="int"
 | .ref p=>(T="list"/\∃ xs,SqL K H p xs)∨(T="tuple"/\∃ o,K.lookup p=some o/\o.cls=.type "tuple"/\o.dict=none) ∨
   (T="dict"/\((∃ kvs,H p=some (.dK kvs))∨∃ kvs,H p=some (.dT kvs)))∨(T="set"/\∃ S n,H p=some (.set S n))
 | _=>False
theorem Xk3 {pins:List (Addr×Obj)} {σ:St} {H:Hp} {s:Shared} {T:String} {x:V} {v:Value} (I:Inv X pins σ H s) (r:RelV x v) (ty:tyV X.K T x H) :
  s.TypeIs v T/\∀ a,v=.ref a->∃ ob,s.heap.get? a=some ob/\ob.dict=none:=by
 cases x with
 | str z =>
  obtain⟨t,rfl⟩:=r;cases (show T="str" from ty);exact⟨typeIs_str s z t,fun _ e=>nomatch e⟩
 | int i =>
  obtain⟨t,rfl⟩:=r;cases (show T="int" from ty);exact⟨typeIs_int s i t,fun _ e=>nomatch e⟩
 | ref p =>
  cases r;rcases ty with ⟨rfl,m,j⟩ | ⟨rfl,o,b,k,d⟩ | ⟨rfl,b⟩ | ⟨rfl,S,n,b⟩
  ·obtain⟨l,_,g,_⟩:=I.list j
   refine⟨g.isList.typeIs,fun a e=>?_⟩;cases e;obtain⟨o,n,e,c,d,_⟩:=g;exact⟨o,e,d⟩
  ·refine⟨⟨o,I.kIn p o b,k⟩,fun a e=>?_⟩
   cases e;exact⟨o,I.kIn _ o b,d⟩
  ·have z:∃ o,s.heap.get? p=some o/\o.ExactDict:=by
    rcases b with ⟨h,b⟩ | ⟨h,b⟩
    ·obtain⟨_,_,_,_,o,_,_,e,ex,_⟩:=I.hok p _ b
     exact⟨o,e,ex⟩
    ·obtain⟨_,_,_,_,o,_,_,e,ex,_⟩:=I.hok p _ b
     exact⟨o,e,ex⟩
   obtain⟨o,e,ex⟩:=z;refine⟨⟨o,e,ex.1⟩,fun a f=>?_⟩;cases f;exact⟨o,e,ex.2.1⟩
  ·obtain⟨o,_,_,_,e,ex,_⟩:=I.hok p _ b
   refine⟨⟨o,e,ex.1⟩,fun a f=>?_⟩;cases f;exact⟨o,e,ex.2.1⟩
 | _=>exact False.elim ty
def tBM0 (K:W.Frag) (T:String) (r:V->List V->Hp->VK->Prop) (to:TE):TE:=fun σ H Q=>to σ H fun x H1=>tyV K T x H1/\r x [] H1 Q
def tBM (K:W.Frag) (T:String) (r:V->List V->Hp->VK->Prop) (to:TE) (t:TA):TE:=fun σ H Q=>to σ H fun x H1=>tyV K T x H1/\t σ H1 fun xs H2=>r x xs H2 Q
variable {o e:Expr} {es:List Expr} {to:TE} {t:TA} {name:Str} {apos cpos:Pos} {T id:String} {r:V->List V->Hp->VK->Prop}
theorem Xv2 (pa:PlainAttrs T) (slot:Slot T name id) (hty:typeOf (.builtin id)=pure (.type "method_descriptor")) (hm:MtR X id r) (ho:PE X o to)
  (hbase:attributeBase o name X.env (eval o X.env)=eval o X.env:=by rfl) (hline:(apos.endLine == cpos.line)=true:=by rfl):PE X (.Call (.Attribute o name apos) [] [] cpos) (tBM0 X.K T r to):=by
 intro a s b H Q I h;refine wpAny_Call_method0_late hbase hline (thn (ho a s b H _ I h) fun v s1 zq=>?_);obtain⟨x,H1,I1,r1,ty,q1⟩:=zq;obtain⟨d,c⟩:=Xk3 I1 r1 ty;exact⟨T,id,pa,slot,hty,d,c,Calls.callWith_builtin rfl (PySem.evalArgs_none (hm a s1 b H1 x [] v [] Q I1 r1 .nil q1))⟩
theorem Yk5 (pa:PlainAttrs T) (slot:Slot T name id) (hty:typeOf (.builtin id)=pure (.type "method_descriptor")) (hm:MtR X id r) (ho:PE X o to) (ha:PA X (e :: es) t)
  (hbase:attributeBase o name X.env (eval o X.env)=eval o X.env:=by rfl)
  (hfew:((backTo cpos (starEach (e :: es) X.env)).all (fun x=>!x.1)&&(backToKw cpos (keywordEach [] X.env)).all (fun x=>x.1.isSome)
   && decide ((e :: es).length+([]:List Keyword).length+(if ([]:List Keyword).isEmpty then 0 else 1) < 30))=true:=by rfl)
  (hline:(apos.endLine == cpos.line)=true:=by rfl) (hs:starEach (e :: es) X.env=(false,eval e X.env) :: starEach es X.env:=by rfl) (hplain:(backTo cpos (starEach es X.env)).any (·.1)=false:=by rfl) :
  PE X (.Call (.Attribute o name apos) (e :: es) [] cpos) (tBM X.K T r to t):=by
 intro a s b H Q I h;refine wpAny_Call_method_late hbase hfew hline rfl (thn (ho a s b H _ I h) fun v s1 zq=>?_);obtain⟨x,H1,I1,r1,ty,q1⟩:=zq;obtain⟨f,d⟩:=Xk3 I1 r1 ty;refine⟨T,id,pa,slot,hty,f,d,?_⟩;have c:=ha cpos a s1 b H1 _ I1 q1;rw[hs] at c ⊢;refine Calls.callWith_builtin (by show (false||(backTo cpos (starEach es X.env)).any (·.1))=false;rw[hplain]<;>rfl) (Calls.evalArgs_plain ?_);exact thn c fun us s2 ⟨vs,H2,I2,r2,q2⟩=>hm a s2 b H2 x vs v us Q I2 r1 r2 q2
end
def MtM (X:Cx) (id:String) (r:V->List V->Hp->VK->Prop):Prop :=
 ∀ (pins:List (Addr×Obj)) (s:Shared) (σ:St) (H:Hp) (x:V) (xs:List V) (v:Value) (us:List Value) (Q:VK),Inv X pins σ H s->RelV x v->Vals xs us->r x xs H Q ->
  wpAny (model X.prog X.w) X.A (call (.builtin id) (v :: us)) (EP X pins σ Q) X.xe s
theorem Vals.one:∀ {x:V} {us:List Value},Vals [x] us->∃ u,us=[u]/\RelV x u
 | _,_,.cons r .nil=>⟨_,rfl,r⟩
theorem Vals.zero:∀ {us:List Value},Vals [] us->us=[]
 | _,.nil=>rfl
theorem Vals.dropLast {xs:List V} {us:List Value} (h:Vals xs us):Vals xs.dropLast us.dropLast:=by
 induction h with
 | nil=>exact .nil
 | cons r t ih =>
  cases t with
  | nil=>exact .nil
  | cons q t'=>exact .cons r ih
theorem Yt7 {α:Type} (l:List α):l.eraseIdx (l.length - 1)=l.dropLast:=by
 induction l with
 | nil=>rfl
 | cons a r ih =>
  cases r with
  | nil=>rfl
  | cons b r =>
   have e:(a :: b :: r).length - 1=((b :: r).length - 1)+1:=by
    have d:(a :: b :: r).length=r.length+2:=rfl;have c:(b :: r).length=r.length+1:=rfl;walk_at "o"
   rw[e,List.eraseIdx_cons_succ,ih]
   all_goals rfl
section
variable {X:Cx} {pins:List (Addr×Obj)} {σ:St} {H:Hp} {s:Shared} {l b:Addr} {xs ys zs:List V}
theorem Inv.lset {its its':List Value} {n:Nat} {f:Array Value->Array Value} {t':Nat} (I:Inv X pins σ H s) (hH:H l=some (.lst xs))
  (e:s.heap.get? l=some { cls:=.type "list",data:=.seq its.toArray n }) (hf:f its.toArray=its'.toArray) (hv:Vals ys its') (hz:ys.length<=sizeLine) :
  Inv X pins σ (upd H l (.lst ys)) { s with heap:=s.heap.update l (Obj.mapSeq f),toks:=t' }:=by
 have q:=PySem.IsL.update e f;rw[hf] at q;refine I.write (x:=l) (e:=l) (by rw[hH];exact trivial) (.inl rfl) (fun c u b a=>(Heap.get?_update_other s.heap (Obj.mapSeq f) (Ne.symm b)).trans a) ⟨_,q⟩ ?_;exact⟨hz,its',_,hv,q⟩
theorem Inv.lnew {its:List Value} {t':Nat} (I:Inv X pins σ H s) (hv:Vals ys its) (hz:ys.length<=sizeLine) :
  Inv X pins σ (upd H s.heap.objs.size (.lst ys)) { s with heap:=s.heap.push { cls:=.type "list",data:=.seq its.toArray },toks:=t' } :=
 I.laid (fun _ _ q=>Heap.get?_push_of_some _ q) (Nat.le_refl _) ⟨hz,its,0,hv,Heap.get?_push_size _ rfl⟩
theorem Inv.fresh (I:Inv X pins σ H s):H s.heap.objs.size=none:=I.hok.fresh (Nat.le_refl _)
theorem Inv.lstM (I:Inv X pins σ H s) (hH:H l=some (.lst xs)):xs.length<=sizeLine/\∃ (its:List Value) (n:Nat),Vals xs its/\xs.length=its.length/\s.heap.get? l=some { cls:=.type "list",data:=.seq its.toArray n }:=by
 obtain⟨z,its,n,r,e⟩:=I.hok l _ hH;exact⟨z,its,n,r,r.length,e⟩
end
section
variable {X:Cx}
def Zq1:V->List V->Hp->VK->Prop:=fun x vs H Q=>∃ l xs y,x=.ref l/\vs=[y]/\H l=some (.lst xs)/\xs.length < sizeLine/\Q .non (upd H l (.lst (xs++[y])))
theorem Zj5:MtM X "list.append" Zq1:=by
 intro g s i H x k v m Q I c d h;obtain⟨l,j,y,rfl,rfl,b,o,q⟩:=h;cases c;obtain⟨u,rfl,f⟩:=d.one;obtain⟨z,a,n,r,p,e⟩:=I.lstM b;refine call_meets F.slot_list_append ⟨_,e,rfl⟩ F.entry_list_append (F.args_list_append_2 _ _) (PySem.list_append l a.toArray n u (by rw[List.size_toArray];walk_at "o")) ⟨e,?_⟩;refine⟨.non,_,I.lset (its':=a++[u]) b e (by simp) (r.append (.cons f .nil)) ?_,rfl,q⟩;rw[List.length_append,List.length_singleton];walk_at "o"
def rPop:V->List V->Hp->VK->Prop:=fun x vs H Q=>∃ l xs y,x=.ref l/\vs=[]/\H l=some (.lst xs)/\xs[xs.length - 1]?=some y/\Q y (upd H l (.lst xs.dropLast))
theorem Wb4:MtM X "list.pop" rPop:=by
 intro j s p H x w v A Q I f g h;obtain⟨l,t,y,rfl,rfl,d,k,q⟩:=h;cases f;have c:=g.zero;subst c;obtain⟨z,a,n,r,o,e⟩:=I.lstM d;obtain⟨u,m,i⟩:=r.get k
 have b:a.toArray[a.toArray.size - 1]?=some u:=by
  show a.toArray[a.length - 1]?=some u;rw[<- Array.getElem?_toList,<- o];exact m
 refine call_meets F.slot_list_pop ⟨_,e,rfl⟩ F.entry_list_pop (F.args_list_pop_1 _) (MeetsSeq.list_pop_last l a.toArray n u b (by rw[List.size_toArray];walk_at "o")) ⟨e,?_⟩;refine⟨y,_,I.lset (its':=a.dropLast) d e ?_ r.dropLast ?_,i,q⟩
 ·show a.toArray.eraseIdxIfInBounds (a.toArray.size - 1)=a.dropLast.toArray
  rw[List.size_toArray,List.eraseIdxIfInBounds_toArray,Yt7]
 ·rw[List.length_dropLast]
  walk_at "o"
def rCat:R2:=fun x y H Q=>∃ l b xs zs,x=.ref l/\y=.ref b/\H l=some (.lst xs)/\H b=some (.lst zs)/\xs.length+zs.length<=sizeLine/\∀ p,H p=none->Q (.ref p) (upd H p (.lst (xs++zs)))
theorem Ze4:OpR X (binaryOp .Add) rCat:=by
 intro i s t H x y v u Q I f d h;obtain⟨l,b,B,w,rfl,rfl,j,k,D,q⟩:=h;cases f;cases d;obtain⟨z,c,n,r,F,e⟩:=I.lstM j;obtain⟨A,a,C,g,p,o⟩:=I.lstM k;refine PySem.P.add_list e o ?_ (by rw[List.size_toArray,List.size_toArray];walk_at "o")
 have m:c.toArray++a.toArray=(c++a).toArray:=by simp
 rw[m];exact⟨.ref _,_,I.lnew (t':=s.toks) (r.append g) (by rw[List.length_append];walk_at "o"),rfl,q _ I.fresh⟩
end
end L2
namespace Att
open PySem PySem.W PySem.Calls PyProof.Rows
theorem Zx5 {P:Params} {h:Heap}:∀ (ns:List Int) (vs:List Value),WellAll P h vs (ns.map WData.int)->IntsAre vs ns:=by
 intro ns
 induction ns with
 | nil =>
  intro vs w;rw[List.map_nil] at w;cases w;exact .nil
 | cons n ns ih =>
  intro vs w;rw[List.map_cons] at w
  cases w with
  | cons a b =>
   cases a;exact .cons _ _ (ih _ b)
theorem Yw8 {l:OpenLaw} {n:Nat} (hn:l.most=some n) {P:Params} {h:Heap} {args:List WData} {vals:List Value}
  (hpre:l.row.toRowW.claim.pre args=true) (hwl:WellAll P h vals args) :
  ∃ a vs ns,vals=[Value.ref a]/\args=[WData.list (ns.map WData.int)]/\h.get? a=some { cls:=.type "list",data:=.seq vs.toArray }/\IntsAre vs ns/\ns.length<=n:=by
 have f:WShape.hasAll [] args [.list .int]=true:=(pre_splitW hpre).1;have g:l.pre.holds [] { args:=args }=true:=(pre_splitW hpre).2;obtain⟨d,r,rfl,m,k⟩:=hasAllW_cons f;obtain rfl:=hasAllW_nil k;obtain⟨o,rfl,j⟩:=hasW_list m;obtain⟨ns,rfl⟩:=items_int j
 have e:ns.length<=n:=by
  unfold OpenLaw.pre at g
  have c:(WTm.not (.lt (.lit (.int (n:Int))) (.len (.arg 0)))).holds [] { args:=[.list (ns.map .int)] }=true:=by
   have c:=(holds_andW g).1;rw[hn] at c;exact c
  have b:=condW_of c (w_not (w_lt w_lit (w_len_list (w_arg rfl))));rw[List.length_map] at b;refine Nat.le_of_not_lt fun q=>?_
  have i:(n:Int) < ((ns.length:Nat):Int):=by walk_at "o"
  first
   | (rw[decide_eq_true i] at b;exact absurd b (by decide))
   | (simp at b;walk_at "o")
 cases hwl with
 | cons w1 w2 =>
  cases w2
  cases w1 with
  | list ho hall=>exact⟨_,_,ns,rfl,rfl,ho,Zx5 ns _ hall,e⟩
theorem Yx5 (l:OpenLaw) (args:List WData):l.row.toRowW.claim.post args (.bool true) args=true :=
 postW_of (r:=l.row.toRowW) (X:=(true == true))
  (show WShape.has [] (.bool true) .bool=true by first | rfl | decide | simp[WShape.has,WShape.arms,WShape.armsAll])
  (show (WTm.eq .res (.lit (.bool true))).value [] { args:=args,res:=some (.bool true),after:=args }=some (.bool (true == true)) from w_eq_bool (w_res rfl) w_lit) rfl
theorem attach_call {l:OpenLaw} {n:Nat} {q:Program} {loose:List Str} {XP:(Str->Option Value)->Heap->Prop} {YP:World->Heap->Prop} {d:DefRec}
  (hn:l.most=some n) (hdf:d.params.defaults=[])
  (call:∀ (w:World) (s₀ s₁:Shared) (mg mb:Str->Option Value) (fa:Addr) (o:Obj) (pm cd doc:Value) (a:Addr) (vs:List Value) (ns:List Int),
   Ground q loose [] XP w s₀ mg mb s₁.heap->YP w s₁.heap ->
   s₁.heap.get? fa=some o->o.data=.func (docDef d.name d.params d.body d.scope pm cd doc)->s₁.heap.CodeRec cd d.name->mg d.name=some (.ref fa) ->
   s₁.heap.get? a=some { cls:=.type "list",data:=.seq vs.toArray }->IntsAre vs ns->ns.length<=n->s₁.gens=#[] ->
   codeAny (model l.prog w) callerA (.call (.ref fa) ⟨[.ref a],[]⟩) (fun r s'=>r=.ok (.ret (.bool true))/\OldK s₁.heap s'.heap/\s'.os=s₁.os/\AllBare s'.gens) s₁) :
  WalkO q loose XP YP l.row.toRowW d [] (fun f vs=>PySem.call f vs):=by
 intro w s₀ s₁ mg mb G Y fa o pm cd doc D p u z j k i y F m L c x I h J;obtain rfl:D=.none:=Dflts.none k hdf;obtain rfl:p=.none:=Dflts.noKw k;obtain⟨a,vs,ns,rfl,rfl,e,b,g⟩:=Yw8 hn c h;refine enter_call (codeAny_mono (call w s₀ s₁ mg mb fa o pm cd doc a vs ns G Y u (fd_plain z) j i e b g y) fun r s' t=>?_);obtain⟨rfl,C,B,A⟩:=t;exact⟨.inl ⟨.bool true,.bool true,[],rfl,fun _=>rfl,.bool true,Yx5 l _,fun _=>⟨List.Pairwise.nil,fun _ v=>(nomatch v)⟩⟩,C,B,A⟩
section
variable {prog:Program} {w:World} {A:Around} {E:Value->Shared->Prop} {s:Shared} {K:Frag}
noncomputable def noObjs (h:Heap):Heap:={ h with objs:=#[] }
theorem Zs7 (h:Heap) (b:Addr):(noObjs h).get? b=none:=by
 cases e:(noObjs h).get? b with
 | none=>rfl
 | some o=>exact absurd (Heap.lt_size e) (Nat.not_lt_zero _)
noncomputable def ledger (h:Heap) (L d:Addr):List (Addr×Obj):=(List.range h.objs.size).filterMap fun a=>if a=L∨a=d then none else (h.get? a).map fun o=>(a,o)
theorem mem_ledger {h:Heap} {L d a:Addr} {o:Obj}:(a,o)∈ledger h L d↔a≠L/\a≠d/\h.get? a=some o:=by
 unfold ledger;rw[List.mem_filterMap];constructor
 ·rintro⟨b,_,e⟩
  split at e
  ·cases e
  ·rename_i hb
   obtain⟨o',ho,e'⟩:=Option.map_eq_some_iff.mp e;cases e';exact⟨fun q=>hb (.inl q),fun q=>hb (.inr q),ho⟩
 ·rintro⟨n1,n2,ho⟩
  refine⟨a,List.mem_range.mpr (Heap.lt_size ho),?_⟩
  rw[if_neg (show ¬ (a=L∨a=d) from fun q=>q.elim n1 n2),ho]<;>rfl
theorem news_ledger {h:Heap} {L d:Addr} {od:Obj} (hne:d≠L) (ho:h.get? d=some od):News (noObjs h) L h ([]++(d,od) :: ledger h L d):=by
 rintro⟨a,o⟩ b;rcases List.mem_cons.mp b with e | b
 ·cases e
  exact⟨ho,hne,Zs7 _ _⟩
 ·obtain⟨c,f,e⟩:=mem_ledger.mp b
  exact⟨e,c,Zs7 _ _⟩
theorem fr_all {h:Heap} {L:Addr} {m:Str->Option Value} (n:h.Ns L m):Fr (noObjs h) L h m :=
 ⟨n,fun b o e=>(by rw[Zs7] at e;cases e),Nat.zero_le _⟩
end
end Att
namespace L2
open PySem PySem.Spec PyProof.Rows
theorem Yd4:∀ {vs:List Value} {ns:List Int},IntsAre vs ns->Vals (ns.map V.int) vs
 | _,_,.nil=>.nil
 | _,_,.cons n t h=>.cons ⟨t,rfl⟩ (Yd4 h)
def Only (H:Hp):Prop:=∀ b,H b=none∨∃ o xs,H b=some (.frz o (.lst xs))
theorem Xi1 {P:Program} {w:World} {K:W.Frag} {mg mb:Str->Option Value} {CX:CXT} {k:Nat} {fa a:Addr} {fd:FuncData} {x:Str} {sp:Sp} {s₁:Shared} {vs:List Value} {ns:List Int}
  (KX:K.In s₁.heap) (hns:s₁.heap.Ns mainGlobals mg) (hb:s₁.heap.Ns builtinsNs mb) (hbb:∀ x:Str,x≠"__name__"->mb x=bootBuiltins x) (hlim:s₁.heap.NoLimit) (hg:s₁.gens=#[])
  (ha:s₁.heap.get? a=some { cls:=.type "list",data:=.seq vs.toArray }) (hi:IntsAre vs ns) (hl:ns.length<=sizeLine) (hr:Room k callerA)
  (F:∀ base:Heap,K.In base->base.Ns mainGlobals mg->FnOk P w K mg base CX k fa fd [x] sp) (hbind:∀ (s:Shared) (u:Value),BindsTo s fd ⟨[u],[]⟩ [(x,u)])
  (hsp:∀ H:Hp,Only H->SqL K H a (ns.map V.int)->sp [.ref a] H (fun v _=>v=.bl true) fun _ _ _=>False)
  (hCX:∀ H e s',CX [] H s₁ (fun _ _ _=>False) e s'->False) :
  codeAny (model P w) callerA (.call (.ref fa) ⟨[.ref a],[]⟩) (fun r s'=>r=.ok (.ret (.bool true))/\OldK s₁.heap s'.heap/\s'.os=s₁.os/\AllBare s'.gens) s₁:=by
 have C:=Yd4 hi;have p:=hi.length
 have i:∀ H:Hp,Only H->SqL K H a (ns.map V.int)->HOk P w H s₁.heap->(∀ b,H b≠none->b=a)->(H a≠none->K.lookup a=none) ->
   codeAny (model P w) callerA (.call (.ref fa) ⟨[.ref a],[]⟩) (fun r s'=>r=.ok (.ret (.bool true))/\OldK s₁.heap s'.heap/\s'.os=s₁.os/\AllBare s'.gens) s₁:=by
  intro H G S j I U;have c:∀ {b:Addr} {o:Obj},s₁.heap.get? b=some o->H b=none->(hidT s₁.heap H).get? b=some o:=fun e n=>Xi6 e n
  have D:∀ {b:Addr} {o:Obj} {es:Array DictEntry} {ep:Nat},s₁.heap.get? b=some o->o.data=.dict es ep->H b=none:=fun {b o es ep} e d=>by
   cases q:H b with
   | none=>rfl
   | some u =>
    have y:b=a:=I b (by rw[q];simp);subst y;rw[ha] at e;cases e;have Z:Data.seq vs.toArray _=Data.dict es ep:=d;cases Z
  have f:∀ {b:Addr} {m:Str->Option Value},s₁.heap.Ns b m->(hidT s₁.heap H).Ns b m:=fun {b m} ⟨o,es,ep,e,d,r⟩=>⟨o,es,ep,c e (D e d),d,r⟩
  have l:K.In (hidT s₁.heap H):=fun b o e=>c (KX b o e) (by
   cases q:H b with
   | none=>rfl
   | some u =>
    have y:b=a:=I b (by rw[q];simp);subst y
    rw[U (by rw[q];simp)] at e;cases e)
  have T:Mod K mg (hidT s₁.heap H):=⟨l,f hns,⟨mb,f hb,hbb⟩,let ⟨mc,h1,h2⟩:=hlim;⟨mc,f h1,h2⟩⟩;have Y:Env0 P w K mg (hidT s₁.heap H) callerA [] s₁ H:=⟨rfl,T,fun b o e=>Xo8 e,Nat.le_of_eq (Xb5 _ _),trivial,fun b hb=>absurd (show b∈([]:List Addr) from hb) (by simp),j,.of_eq hg⟩;refine codeAny_mono ((F _ l (f hns)).run callerA [] s₁ H ⟨[.ref a],[]⟩ [.ref a] [.ref a] _ _ hr Y (hbind s₁ (.ref a)) (.cons rfl .nil) (hsp H G S)) fun r s' h=>?_
  cases r with
  | error e=>exact (hCX H e s' h).elim
  | ok fl =>
   cases fl with
   | next=>exact False.elim h
   | brk=>exact False.elim h
   | cont=>exact False.elim h
   | ret u =>
    obtain⟨v,H',O,A,B,t,M,q⟩:=h;have N:v=.bl true:=q;subst N;obtain rfl:u=Value.bool true:=M;refine⟨rfl,OldK.of_keep fun b o e=>?_,O,A⟩
    cases q:H b with
    | none=>exact B.keep b o e q (by intro z;exact absurd (show b∈([]:List Addr) from z) (by simp)) (by simp)
    | some u =>
     rcases G b with z | ⟨R,xs,z⟩
     ·rw[q] at z;cases z
     ·have L:=B.frzs b R _ z
      obtain⟨J,_⟩:=j b _ z;obtain⟨X,_⟩:=t b _ L;rw[e] at J;cases J;exact X
 cases hk:K.lookup a with
 | some o =>
  have e:=KX a o hk;rw[ha] at e;cases e;refine i (fun _=>none) (fun _=>.inl rfl) (.inr ⟨_,vs.toArray,_,hk,rfl,rfl,rfl,by rw[List.size_toArray,p];exact hl,by simpa using C⟩) (fun b u z=>by have g:(none:Option HO)=some u:=z;cases g) (fun b z=>absurd rfl z) fun z=>absurd rfl z
 | none =>
  refine i (fun b=>if b=a then some (.frz { cls:=.type "list",data:=.seq vs.toArray } (.lst (ns.map V.int))) else none) (fun b=>?_) (.inl (.inr ⟨{ cls:=.type "list",data:=.seq vs.toArray },if_pos rfl⟩)) (fun b u z=>?_) (fun b z=>?_) fun _=>hk
  ·by_cases hb:b=a
   ·exact .inr ⟨_,_,if_pos hb⟩
   ·exact .inl (if_neg hb)
  ·by_cases hb:b=a
   ·have g:=(if_pos hb).symm.trans z
    cases g;subst hb;exact⟨ha,by rw[List.length_map];exact hl,vs,_,C,ha⟩
   ·have g:=(if_neg hb).symm.trans z
    cases g
  ·by_cases hb:b=a
   ·exact hb
   ·exact absurd (if_neg hb) z
noncomputable def Yc6 (s:Stmt) (j:Nat):Stmt:=match s with
 | .ClassDef _ _ _ body _ _ _ _ _ _ _=>body.getD j (.Pass ⟨0,0,0,0⟩)
 | _=>.Pass ⟨0,0,0,0⟩
noncomputable def Zf6 (s:Stmt):Arguments:=match s with
 | .FunctionDef _ a _ _ _ _ _ _ _ _=>a
 | _=>{ posonlyargs:=[],args:=[],vararg:=none,kwonlyargs:=[],kw_defaults:=[],kwarg:=none,defaults:=[] }
noncomputable def Ze0 (s:Stmt):List Stmt:=match s with
 | .FunctionDef _ _ b _ _ _ _ _ _ _=>b
 | _=>[]
noncomputable def Za8 (s:Stmt):Scope:=match s with
 | .FunctionDef _ _ _ _ _ _ sc _ _ _=>sc
 | _=>{ kind:=.function,names:=[],isGenerator:=false,isCoroutine:=false }
noncomputable abbrev CX0:CXT:=fun _ _ _ _ _ _=>False
abbrev E0:XK:=fun _ _ _=>False
theorem Zy7 {X:Cx}:Yr2 CX0 X E0:=fun _ _ _ _ _ _ _ h=>h.elim
structure Fun (K:W.Frag) (x qual:Str) (st:Stmt) (f:Addr) (fd:FuncData):Prop where
 ex:∃ (oc:Value) (od:Option Addr) (kV doc pm:Value) (an:Option Addr) (cdv ct:Value) (osl:Array (Option Value)),
  fd=W.fnOf x qual (Zf6 st) (Ze0 st) (Za8 st) .none kV doc pm an cdv ct/\K.lookup f=some ⟨oc,od,.func fd,osl⟩/\W.codeIn K cdv qual=true
 kp:W.keepIn K (.ref f)=true
section
variable {P:Program} {w:World} {K:W.Frag} {mg:Str->Option Value} {base:Heap}
theorem Fun.ok {x qual:Str} {st:Stmt} {f:Addr} {fd:FuncData} {N ps:List Str} {k:Nat} {sp:Sp} (F:Fun K x qual st f fd) (S:FnScope N ps (Za8 st)) (len:∀ vs H Q E,sp vs H Q E->vs.length=ps.length)
  (hbody:∀ (cdv:Value) (A:Around) (outer:List Env) (s:Shared) (H:Hp) (vs:List V) (Q:VK) (E:XK),Room k (A.deeper (envOfC qual (Za8 st) s.heap.objs.size f cdv))->sp vs H Q E ->
   ∃ t,PSs (cxOf CX0 P w K mg base N qual (Za8 st) f cdv A outer s H E).nox (Ze0 st) t/\t { nx:=fun _ H'=>Q .non H',rt:=Q } (start N vs) H):FnOk P w K mg base CX0 (k+1) f fd ps sp:=by
 obtain⟨l,j,m,g,i,o,cdv,n,e,rfl,c,b⟩:=F.ex;refine fn_of c b S len fun A outer s H vs Q E d a=>?_;obtain⟨t,h,q⟩:=hbody cdv A outer s H vs Q E d a;exact⟨t,h.nox,q⟩
theorem Fun.binds {x qual:Str} {st:Stmt} {f:Addr} {fd:FuncData} {ps:List Str} (F:Fun K x qual st f fd)
  (h:∀ (kV doc pm:Value) (an:Option Addr) (cdv ct:Value) (us:List Value),us.length=ps.length->bindArgs (W.fnOf x qual (Zf6 st) (Ze0 st) (Za8 st) .none kV doc pm an cdv ct) ⟨us,[]⟩=pure (ps.zip us)):Binds K fd ps []:=by
 obtain⟨d,c,kV,doc,pm,an,cdv,ct,a,rfl,e,b⟩:=F.ex;exact .all (h kV doc pm an cdv ct)
theorem Xb8 {x qual:Str} {st:Stmt} {f:Addr} {oc:Value} {od an:Option Addr} {osl:Array (Option Value)} {kV doc pm cdv ct:Value} (l:K.lookup f=some ⟨oc,od,.func (W.fnOf x qual (Zf6 st) (Ze0 st) (Za8 st) .none kV doc pm an cdv ct),osl⟩)
  (c:W.codeIn K cdv qual=true) (k:W.keepIn K (.ref f)=true):Fun K x qual st f (W.fnOf x qual (Zf6 st) (Ze0 st) (Za8 st) .none kV doc pm an cdv ct):=⟨⟨oc,od,kV,doc,pm,an,cdv,ct,osl,rfl,l,c⟩,k⟩
end
theorem Wf9 {A:Around} {k:Nat} (hr:Room k A):A.units+1 < cLine:=Nat.lt_of_le_of_lt (Nat.add_le_add_left (by decide:1<=64) _) hr.units
theorem Zb0 {n:Nat} (h:n<=1000):n < sizeLine:=Nat.lt_of_le_of_lt h (by decide)
section
variable {X:Cx}
theorem pv (i:Nat) {x:Str} {pos:Pos} (hN:X.N[i]?=some x:=by rfl) (hv:Vis X.env.scope x:=by first | exact Or.inl rfl | exact Or.inr (Or.inl rfl) | exact Or.inr (Or.inr rfl)) (hd:(x == ("__debug__":Str))=false:=by decide)
  (hcd:(x == ("__classdict__":Str))=false:=by decide):PE X (.Name x pos) (tVar i):=Yx9 hN hv hd hcd
end
theorem ite2 {c A B:Prop} [Decidable c] (h1:c->A) (h2:¬ c->B):if c then A else B:=by
 by_cases h:c
 ·rw[if_pos h]
  exact h1 h
 ·rw[if_neg h]
  exact h2 h
def Same (H H':Hp):Prop:=∀ b o,H b=some o->H' b=some o
theorem Same.refl (H:Hp):Same H H:=fun _ _ h=>h
theorem Same.trans {H H1 H2:Hp} (a:Same H H1) (b:Same H1 H2):Same H H2:=fun c o h=>b c o (a c o h)
theorem Same.free {H H':Hp} (e:Same H H') {l:Addr} (h:H' l=Option.none):H l=Option.none:=by
 cases q:H l with
 | none=>rfl
 | some o =>
  rw[e l o q] at h;cases h
theorem Same.seq {K:W.Frag} {H H':Hp} {a:Addr} {xs:List V} (e:Same H H') (h:SqL K H a xs):SqL K H' a xs:=by
 rcases h with (h | ⟨o,h⟩) | h
 ·exact .inl (.inl (e _ _ h))
 ·exact .inl (.inr ⟨o,e _ _ h⟩)
 ·exact .inr h
section
variable {κ:Type} [DecidableEq κ]
noncomputable def valV (kvs:List (κ×V)) (k:κ):Option V:=(kvs.find? fun kv=>decide (kv.1=k)).map (·.2)
theorem Xf0 {p:κ×V} {r:List (κ×V)} {k:κ} (e:p.1=k):valV (p :: r) k=some p.2:=by simp[valV,List.find?_cons,e]
theorem Xf1 {p:κ×V} {r:List (κ×V)} {k:κ} (e:¬ p.1=k):valV (p :: r) k=valV r k:=by simp[valV,List.find?_cons,e]
theorem RelO.isSome_eq {o:Option V} {u:Option Value} (r:RelO o u):o.isSome=u.isSome:=by
 cases o with
 | none=>cases u with
  | none=>rfl
  | some _=>exact (show False from r).elim
 | some _=>cases u with
  | none=>exact (show False from r).elim
  | some _=>rfl
theorem KV.val {kvs:List (κ×V)} {vs:List (κ×Value)} (r:KV kvs vs) (k:κ):RelO (valV kvs k) (valueAt vs k):=by
 unfold KV at r
 induction r with
 | nil=>exact True.intro
 | @cons p q ps qs h t ih =>
  obtain⟨c,d⟩:=h
  by_cases e:p.1=k
  ·have a:q.1=k:=c.symm.trans e
   have b:valueAt (q :: qs) k=some q.2:=by simp[valueAt,List.find?_cons,a]
   rw[Xf0 e,b];exact d
  ·have a:¬ q.1=k:=fun z=>e (c.trans z)
   have b:valueAt (q :: qs) k=valueAt qs k:=by simp[valueAt,List.find?_cons,a]
   rw[Xf1 e,b];exact ih
end
theorem Wc6 {P:Program} {w:World} {k:Key} {u:Value} (r:RelV (kV k) u):(Zj6 P w).is k u=true:=by
 cases k with
 | inl i=>obtain⟨t,e⟩:=(show ∃ t,u=Value.int i t from r);subst e;exact Yl2 P w i t
 | inr x=>obtain⟨t,e⟩:=(show ∃ t,u=Value.str x t from r);subst e;exact Zx0 P w x t
section
variable {X:Cx} {pins:List (Addr×Obj)} {σ:St} {H:Hp} {s:Shared} {a:Addr} {y v:V} {u r:Value} {o:Option V} {A:Around} {E:Value->Shared->Prop}
theorem Inv.big (I:Inv X pins σ H s):sysModules < s.heap.objs.size:=by
 have h:mainGlobals < s.heap.objs.size:=(I.mod.glob.keeps I.bk).lt;exact Nat.lt_trans (by decide) h
end
def NoSl (i:Expr):Prop:=∀ ov iv,subscripted i false ov iv=operate [ov,iv] (getItem ov iv)
theorem Xn2 {prog:Program} {w:World} {A:Around} {E:Value->Shared->Prop} {s:Shared} {env:Env} {value slice:Expr} {pos:Pos} {T id:String} {Q:Value->Shared->Prop}
  (hl:typeLookup (.type T) "__getitem__"=pure (some (.builtin id))) (hs:NoSl slice)
  (h:wpAny (model prog w) A (eval value env) (fun o s₁=>wpAny (model prog w) A (eval slice env) (fun i s₂=>s₂.TypeIs o T/\wpAny (model prog w) A (getItem o i) Q E s₂) E s₁) E s) :
  wpAny (model prog w) A (eval (.Subscript value slice pos) env) Q E s:=by
 refine Subscript_ (wpAny_mono h (fun o s₁ h₁=>wpAny_mono h₁ (fun i s₂ h₂=>?_) fun _ _ x=>x) fun _ _ x=>x);obtain⟨b,h₂⟩:=h₂;unfold subscriptTail;refine wpAny_bind ?_;rw[getitemInPython_of_ne b.not_modules];refine wpAny_bind (wpAny_specialOf b hl ?_)
 have a:wpAny (model prog w) A (subscripted slice false o i) (fun r s₃=>wpAny (model prog w) A (letTemporaryGo value o r >>= fun _=>pure r) Q E s₃) E s₂:=by
  rw[hs o i];exact wpAny_operating (wpAny_mono h₂ (fun r s₃ h₃=>wpAny_bind (wpAny_letTemporaryGo (wpAny_pure h₃))) fun _ _ x=>x)
 first
  | exact wpAny_pure (wpAny_bind a)
  | exact wpAny_bind (wpAny_pure (wpAny_bind a))
  | exact wpAny_bind a
end L2
set_option maxHeartbeats 4000000
namespace L2
open PySem PySem.Spec PyProof.Rows
section
variable {X:Cx}
inductive TyX (K:W.Frag) (H:Hp):V->Value->Prop where
 | of {x:V} {t:Value} (h:TyOf K H x t):TyX K H x t
 | tupK {a:Addr} {xs:List V} (h:SqT K H a xs):TyX K H (.ref a) (.type "tuple")
 | lstK {a:Addr} {xs:List V} (h:SqL K H a xs):TyX K H (.ref a) (.type "list")
def rIsi (K:W.Frag):List V->Hp->VK->Prop:=fun xs H Q=>∃ x T t b,xs=[x,.ty T]/\TyX K H x t/\W.kitOne K t (.type T)=some b/\Q (.bl b) H
theorem Yd1:Zs1 X (.builtin "isinstance") (rIsi X.K):=by
 intro p s v H j w Q I r h;obtain⟨x,T,t,b,rfl,l,e,q⟩:=h;obtain⟨u,c,rfl,f,m⟩:=Yi5 r;cases (show c=Value.type T from m)
 cases l with
 | of h=>exact Xb2 I f h e fun d=>⟨.bl b,H,I.tok d,rfl,q⟩
 | @tupK a j h =>
  cases (show u=Value.ref a from f);obtain⟨k,_,⟨o,i,g,_⟩,_⟩:=I.tuple h;exact W.kia_one W.kitx_tuple I.kIn ⟨o,i,g⟩ e (fun z=>nomatch z) fun d=>⟨.bl b,H,I.tok d,rfl,q⟩
 | @lstK a j h =>
  cases (show u=Value.ref a from f);obtain⟨k,_,⟨o,n,i,g,_⟩,_⟩:=I.list h;exact W.kia_one W.kitx_list I.kIn ⟨o,i,g⟩ e (fun z=>nomatch z) fun d=>⟨.bl b,H,I.tok d,rfl,q⟩
theorem Xi2 (K:W.Frag) (T:String):W.kitOne K (.type T) (.type T)=some true:=by
 unfold W.kitOne;rw[if_pos (beq_self_eq_true _)]
def Yj7:R2:=fun x y H Q=>∃ z n,x=.str z/\y=.int n/\z.length<=1000/\-1000<=n/\n<=1000/\Q (.str (Txt.mul z n)) H
theorem Yl1 {z:Str} {n:Int} (h1:z.length<=1000) (h2:-1000<=n) (h3:n<=1000):MulOk z n:=by
 refine⟨?_,fun d c=>?_,fun d c=>?_⟩
 ·have a:¬ n < -(2 ^ 63:Int):=by walk_at "o"
  have b:¬ n ≥ 2 ^ 63:=by walk_at "o"
  rw[decide_eq_false a,decide_eq_false b];rfl
 ·have:(1000:Int)<=(2 ^ 63 - 1) / n:=by
   rw[Int.le_ediv_iff_mul_le (by walk_at "o")];walk_at "o"
  walk_at "o"
 ·have:z.length*n.toNat<=1000*1000:=Nat.mul_le_mul h1 (by walk_at "o")
  unfold Builtin.Str.tooLong;rw[decide_eq_false];have e:=sizeLine_eq
  first | walk_at "o" | (simp at *;walk_at "o")
theorem Xo6:OpR X (binaryOp .Mult) Yj7:=by
 intro d s i H x y v u Q I c b h;obtain⟨z,n,rfl,rfl,g,f,e,q⟩:=h;obtain⟨t,rfl⟩:=c;obtain⟨a,rfl⟩:=b;exact SB.mul (Yl1 g f e) fun a k=>⟨.str _,H,I.tok k,⟨_,rfl⟩,q⟩
def rSlS:V->Option Int->Option Int->Hp->VK->Prop:=fun x lo hi H Q=>∃ z,x=.str z/\z.length<=sizeLine/\Q (.str (Txt.slice z lo hi)) H
theorem Yy4 {v:Value} {o:Option Int} (p:IsPart v o):∃ l:Option (Int×Tok),v=partValue l/\l.map (·.1)=o:=by
 cases p with
 | none=>exact⟨none,rfl,rfl⟩
 | int i t=>exact⟨some (i,t),rfl,rfl⟩
theorem Xk6:SlR X rSlS:=by
 intro f s j H x v n m r w p Q I c i e d h;obtain⟨z,rfl,g,q⟩:=h;obtain⟨t,rfl⟩:=c;obtain⟨l,rfl,b⟩:=Yy4 e;obtain⟨u,rfl,a⟩:=Yy4 d;refine⟨"str",_,F.slot_str_getitem.lookup,typeIs_str _ _ _,wpAny_getItem_str_slice (l:=l) (u:=u) (st:=none) i rfl ?_⟩;refine post_val_or_str ⟨?_,fun o k=>?_⟩
 ·subst b;subst a
  exact Nat.le_trans (Txt.slice_le z _ _) g
 ·subst b;subst a
  exact⟨.str _,H,I.tok k,⟨_,rfl⟩,q⟩
theorem Zo6:∀ {ys:List Str} {us:List Value},Vals (ys.map V.str) us->StrsAre us ys
 | [],_,r=>by cases r;exact .nil
 | y :: ys,_,r=>by
  cases r with
  | cons h t =>
   obtain⟨tk,rfl⟩:=h;exact .cons _ _ (Zo6 t)
def Yj9 (K:W.Frag):V->List V->Hp->VK->Prop:=fun x vs H Q=>∃ sep l ys,x=.str sep/\vs=[.ref l]/\SqL K H l (ys.map V.str)/\(ys.map (·.length)).sum+ys.length*sep.length<=16777216/\Q (.str (Txt.join sep ys)) H
theorem Xp0:MtM X "str.join" (Yj9 X.K):=by
 intro d s m H x o v p Q I a b h;obtain⟨i,l,n,rfl,rfl,f,e,q⟩:=h;obtain⟨t,rfl⟩:=a;obtain⟨u,rfl,c⟩:=b.one;cases c;obtain⟨j,r,g,_⟩:=I.list f;exact join_list g.isList (Zo6 (by simpa using r)) e fun w k=>⟨.str _,H,I.tok k,⟨_,rfl⟩,q⟩
noncomputable abbrev TF:=Str->St->Hp->VK->Prop
def PF (X:Cx) (es:List Expr) (t:TF):Prop :=
 ∀ (out:Str) (pins:List (Addr×Obj)) (s:Shared) (σ:St) (H:Hp) (Q:VK),Inv X pins σ H s->t out σ H Q->wpAny (model X.prog X.w) X.A (joinParts out (evalEach es X.env)) (EP X pins σ Q) X.xe s
def tF0:TF:=fun out _ H Q=>out.length<=sizeLine/\Q (.str out) H
def tFc (x:Str) (t:TF):TF:=fun out σ H Q=>(out++x).length<=sizeLine/\t (out++x) σ H Q
def tFv (te:TE) (t:TF):TF:=fun out σ H Q=>te σ H fun v H1=>∃ y,v=.str y/\y.length<=sizeLine/\(out++y).length<=sizeLine/\t (out++y) σ H1 Q
theorem Yo8:PF X [] tF0:=fun a b s c H Q I h=>joinParts_nil ⟨.str a,H,I.tok _,⟨_,rfl⟩,h.2⟩ h.1
theorem Zw3 {x:Str} {j:Nat} {pos:Pos} {es:List Expr} {t:TF} (h:PF X es t) (hs:evalEach (.Constant (.str x) j pos :: es) X.env=eval (.Constant (.str x) j pos) X.env :: evalEach es X.env:=by rfl):PF X (.Constant (.str x) j pos :: es) (tFc x t):=by
 intro d a s c H Q I b;rw[hs];refine joinParts_cons (Calls.Constant_str ?_);exact⟨b.1,h _ a _ c H Q (I.tok _) b.2⟩
theorem Xl0 {e:Expr} {te:TE} {pos:Pos} {es:List Expr} {t:TF} (he:PE X e te) (h:PF X es t) (hs:evalEach (.FormattedValue e (-1) none pos :: es) X.env=eval (.FormattedValue e (-1) none pos) X.env :: evalEach es X.env:=by rfl):PF X (.FormattedValue e (-1) none pos :: es) (tFv te t):=by
 intro g a s b H Q I f;rw[hs];refine joinParts_cons (FormattedValue_plain (thn (he a s b H _ I f) fun v s1 zq=>?_));obtain⟨x,H1,I1,r1,q1⟩:=zq;obtain⟨y,rfl,d,c,q⟩:=q1;obtain⟨i,rfl⟩:=r1;exact formatField_str (fun j k=>⟨c,h _ a _ b H1 Q (I1.tok k) q⟩) d
def tFs (t:TF):TE:=fun σ H Q=>t Str.empty σ H Q
theorem Yb3 {e1 e2:Expr} {es:List Expr} {t:TF} {pos:Pos} (h:PF X (e1 :: e2 :: es) t) (hs:evalEach (e1 :: e2 :: es) X.env=eval e1 X.env :: eval e2 X.env :: evalEach es X.env:=by rfl):PE X (.JoinedStr (e1 :: e2 :: es) pos) (tFs t):=by
 intro a s b H Q I c;refine JoinedStr_many ?_;rw[<- hs];exact h _ a s b H Q I c
end
mutual
def Dn (K:W.Frag) (H:Hp):V->PyData->Prop
 | v,.none=>v=.non
 | v,.bool b=>v=.bl b
 | v,.int i=>v=.int i
 | v,.str x=>v=.str x
 | v,.list ds=>∃ a xs,v=.ref a/\SqL K H a xs/\DnAll K H xs ds
 | v,.tuple ds=>∃ a xs,v=.ref a/\SqT K H a xs/\DnAll K H xs ds
 | _,.dict _=>False
def DnAll (K:W.Frag) (H:Hp):List V->List PyData->Prop
 | xs,[]=>xs=[]
 | xs,d :: ds=>∃ x r,xs=x :: r/\Dn K H x d/\DnAll K H r ds
end
def KeepT (K:W.Frag) (H H':Hp):Prop:=∀ a xs,SqT K H a xs->SqT K H' a xs
mutual
noncomputable def noList:PyData->Bool
 | .list _=>false
 | .tuple ds=>noLists ds
 | .dict _=>false
 | _=>true
noncomputable def noLists:List PyData->Bool
 | []=>true
 | d :: ds=>noList d&&noLists ds
end
mutual
theorem Dn.keepT {K:W.Frag} {H H':Hp} (k:KeepT K H H'):∀ {d:PyData} {v:V},noList d=true->Dn K H v d->Dn K H' v d
 | .none,v,_,h=>by rw[Dn] at h ⊢;exact h
 | .bool _,v,_,h=>by rw[Dn] at h ⊢;exact h
 | .int _,v,_,h=>by rw[Dn] at h ⊢;exact h
 | .str _,v,_,h=>by rw[Dn] at h ⊢;exact h
 | .list _,v,n,h=>by rw[noList] at n;cases n
 | .dict _,v,n,h=>by rw[noList] at n;cases n
 | .tuple ds,v,n,h=>by
  rw[Dn] at h ⊢;rw[noList] at n;obtain⟨a,xs,e,hs,hd⟩:=h;exact⟨a,xs,e,k a xs hs,DnAll.keepT k n hd⟩
theorem DnAll.keepT {K:W.Frag} {H H':Hp} (k:KeepT K H H'):∀ {ds:List PyData} {xs:List V},noLists ds=true->DnAll K H xs ds->DnAll K H' xs ds
 | [],xs,_,h=>by rw[DnAll] at h ⊢;exact h
 | d :: ds,xs,n,h=>by
  rw[DnAll] at h ⊢;rw[noLists,Bool.and_eq_true] at n;obtain⟨x,r,e,h1,h2⟩:=h;exact⟨x,r,e,Dn.keepT k n.1 h1,DnAll.keepT k n.2 h2⟩
end
section
variable {X:Cx} {pins:List (Addr×Obj)} {σ:St} {H:Hp} {s:Shared}
mutual
theorem Dn.reads (I:Inv X pins σ H s):∀ {d:PyData} {v:V} {u:Value},Dn X.K H v d->RelV v u->∃ as,Reads s.heap u d as
 | .none,v,u,h,r=>by rw[Dn] at h;subst h;cases (show u=Value.none from r);exact⟨_,.none⟩
 | .bool b,v,u,h,r=>by rw[Dn] at h;subst h;cases (show u=Value.bool b from r);exact⟨_,.bool b⟩
 | .int i,v,u,h,r=>by rw[Dn] at h;subst h;obtain⟨t,rfl⟩:=r;exact⟨_,.int i t⟩
 | .str x,v,u,h,r=>by rw[Dn] at h;subst h;obtain⟨t,rfl⟩:=r;exact⟨_,.str x t⟩
 | .dict _,v,u,h,r=>by rw[Dn] at h;exact h.elim
 | .list ds,v,u,h,r=>by
  rw[Dn] at h;obtain⟨a,xs,rfl,hs,hd⟩:=h;cases (show u=Value.ref a from r);obtain⟨its,rv,⟨o,n,h1,h2,_,h3⟩,_⟩:=I.list hs;obtain⟨as,q⟩:=DnAll.reads I hd rv;exact⟨_,.list h1 h2 h3 (by simpa using q)⟩
 | .tuple ds,v,u,h,r=>by
  rw[Dn] at h;obtain⟨a,xs,rfl,hs,hd⟩:=h;cases (show u=Value.ref a from r);obtain⟨its,rv,⟨o,h1,h2,n,h3⟩,_⟩:=I.tuple hs;obtain⟨as,q⟩:=DnAll.reads I hd rv;exact⟨_,.tuple h1 h2 h3 (by simpa using q)⟩
theorem DnAll.reads (I:Inv X pins σ H s):∀ {ds:List PyData} {xs:List V} {us:List Value},DnAll X.K H xs ds->Vals xs us->∃ as,ReadsAll s.heap us ds as
 | [],xs,us,h,r=>by rw[DnAll] at h;subst h;cases r;exact⟨_,.nil⟩
 | d :: ds,xs,us,h,r=>by
  rw[DnAll] at h;obtain⟨x,r',rfl,h1,h2⟩:=h
  cases r with
  | cons r1 r2 =>
   obtain⟨as,q1⟩:=Dn.reads I h1 r1;obtain⟨bs,q2⟩:=DnAll.reads I h2 r2;exact⟨_,.cons q1 q2⟩
end
end
section
variable {X:Cx}
def rEqD (K:W.Frag) (neg:Bool):R2:=fun x y H Q=>∃ d e,Dn K H x d/\Dn K H y e/\d.canLay0=true/\e.canLay0=true/\min d.depth e.depth<=150/\Q (.bl (if neg then !PyData.eqv d e else PyData.eqv d e)) H
theorem Yf7 (hu:X.A.units+150 < cLine):OpR X (compareOp .Eq) (rEqD X.K false):=by
 intro g s m H x y v u Q I b a h;obtain⟨d,e,l,k,j,i,n,q⟩:=h;obtain⟨p,f⟩:=l.reads I b;obtain⟨o,c⟩:=k.reads I a;exact W.cmp_ofEq (SeqAt.rcAt_reads f c j i (by walk_at "o") _ _ _ _ ⟨.bl _,H,I,rfl,q⟩)
theorem Zo3 (hu:X.A.units+150 < cLine):OpR X (compareOp .NotEq) (rEqD X.K true):=by
 intro g s m H x y v u Q I b a h;obtain⟨d,e,l,k,j,i,n,q⟩:=h;obtain⟨p,f⟩:=l.reads I b;obtain⟨o,c⟩:=k.reads I a;exact W.cmp_ofNotEq (SeqAt.rcNeAt_reads f c j i (by walk_at "o") _ _ _ _ ⟨.bl _,H,I,rfl,q⟩)
end
theorem Ze1 {A:Around} {k:Nat} (hr:Room k A):A.units+150 < cLine:=by have:=hr.un;walk_at "o"
noncomputable def blk (X:Cx) (N':List Str) (scope:Scope) (cl:List (Str×Addr)) (s:Shared) (H:Hp) (C:Addr) (ex:List Addr):Cx where
 prog:=X.prog
 w:=X.w
 K:=X.K
 mg:=X.mg
 base:=X.base
 A:=X.A
 N:=N'
 s₀:=s
 H₀:=H
 env:=compEnvC scope cl C X.env
 outer:=X.stack
 stack:=X.stack
 ex:=ex
 fn:=fun _=>false
 calm:=X.calm
 pn:=[]
 xe:=fun _ _=>False
structure BlkOk (X:Cx) (scope:Scope) (cl:List (Str×Addr)) (N':List Str) (nt:Nat) (ci:List Nat):Prop where
 clos:closureFor scope X.env=pure cl
 cell:∀ y∈scope.names,y.2≠.cell
 kind:scope.kind=.function
 names:∀ y∈scope.names,y.2=.local->scope.names.lookup y.1=some .local
 sub:∀ x c,cl.lookup x=some c->X.env.cells.lookup x=some c
 has:∀ x,((relabel scope X.env).names.lookup x=some .cell∨(relabel scope X.env).names.lookup x=some .free)->∃ c,cl.lookup x=some c
 len:N'.length=nt+ci.length
 cap:∀ (j i:Nat),ci[j]?=some i->∃ x,N'[nt+j]?=some x/\X.N[i]?=some x/\X.env.scope.names.lookup x=some .cell/\((relabel scope X.env).names.lookup x=some .cell∨(relabel scope X.env).names.lookup x=some .free)
noncomputable def capt (nt:Nat) (ci:List Nat) (σ:St):St:=List.replicate nt none++ci.map fun i=>(σ[i]?).join
section
variable {X:Cx} {scope:Scope} {cl:List (Str×Addr)} {N':List Str} {nt:Nat} {ci:List Nat} {pins:List (Addr×Obj)} {σ:St} {H:Hp} {s:Shared}
theorem Xe1 (B:BlkOk X scope cl N' nt ci) (I:Inv X pins σ H s) {fp:List Addr} (hf:∀ b∈fp,FpOk X pins H b) (ho:∀ b∈fp,∃ o,s.heap.get? b=some o) {C acc:Addr} {h1:Heap} {tk:Nat}
    (hacc:acc=s.heap.objs.size) (hC:C=s.heap.objs.size+1) (k:∀ b u,s.heap.get? b=some u->h1.get? b=some u) (ns:h1.Ns C fun _=>none) (ha:h1.get? acc=some { cls:=.type "list",data:=.seq #[] }) :
    Inv (blk X N' scope cl s H C fp) [] (capt nt ci σ) (upd H acc (.lst [])) { s with heap:=h1,toks:=tk }:=by
  have hn:H acc=none:=I.hok.fresh (by rw[hacc];exact Nat.le_refl _);have M:H C=none:=I.hok.fresh (by rw[hC];exact Nat.le_succ _)
  have n:∀ x c,cl.lookup x=some c->c < s.heap.objs.size:=fun x c e=>by
    obtain⟨v,q⟩:=I.cell x c (B.sub x c e);exact q.lt
  refine⟨⟨I.ok.mod,B.kind,I.ok.glob,I.ok.blt,?_,fun x y c L f=>I.ok.inj x y c (B.sub _ _ L) (B.sub _ _ f),fun x Y=>B.has x Y,fun x c (z:false=true)=>Bool.noConfusion z,fun hc=>I.ok.hd hc,I.ok.frames,.inl rfl,fun b g=>?_,I.bs,?_,fun b o e g=>?_,fun b g=>?_,I.stack,fun b g=>I.stkFree b g⟩,
    rfl,I.bare,Un.laid (a:=acc) (o:=.lst []) k (by rw[hacc];exact Nat.le_refl _) hn,⟨_,ns,fun i x v L f e3=>?_⟩,fun x c e=>?_,?_,fun x c e=>?_,fun p Z=>absurd (show p∈([]:List (Addr×Obj)) from Z) (by simp),I.hok.laid k (by rw[hacc];exact Nat.le_refl _) ⟨Nat.zero_le _,[],0,.nil,ha⟩,?_⟩
  · show s.heap.objs.size<=C
    rw[hC];exact Nat.le_succ _
  · obtain⟨O,G,F,D,A,N⟩:=hf b g
    obtain⟨o,e⟩:=ho b g;refine⟨?_,fun x c e'=>A x c (B.sub x c e')⟩;show b≠C;rw[hC];exact Nat.ne_of_lt (Nat.lt_succ_of_lt (Heap.lt_size e))
  · exact Nat.le_trans I.ok.bsz I.sz
  · obtain⟨O,G,F,D,A,N⟩:=hf b g
    rcases D with z | z
    · exact I.ok.noex b o e z
    · exact absurd (Nat.lt_of_lt_of_le (Heap.lt_size e) (Nat.le_trans I.ok.bsz z)) (Nat.lt_irrefl _)
  · intro z
    obtain⟨O,G,F,D,A,N⟩:=hf b g;rcases List.mem_cons.mp (I.stkSub b z) with y | y
    · exact G y
    · exact F y
  ·
    obtain⟨m,hm,hl⟩:=I.loc;unfold capt at f
    by_cases hi:i < nt
    · rw[List.getElem?_append_left (by simpa using hi),List.getElem?_replicate] at f
      split at f<;>cases f
    · rw[List.getElem?_append_right (by simpa using hi),List.length_replicate,List.getElem?_map] at f
      cases q:ci[i - nt]? with
      | none=>rw[q] at f;cases f
      | some j =>
        rw[q] at f;have h:(σ[j]?).join=some v:=Option.some.inj f;obtain⟨y,U,a2,T,S⟩:=B.cap _ j q
        have ei:nt+(i - nt)=i:=by walk_at "o"
        rw[ei,show N'[i]?=some x from L] at U;cases U
        have J:σ[j]?=some (some v):=by
          cases z:σ[j]? with
          | none=>rw[z] at h;cases h
          | some w=>rw[z] at h;exact congrArg some h
        obtain⟨u,r,l⟩:=hl j x v a2 J (.inr (.inl T));refine⟨u,r,.inr ⟨S,?_⟩⟩;rcases l with ⟨W,_⟩ | ⟨_,c,c1,c2⟩
        · have t:X.env.scope.names.lookup x=some .local:=W
          rw[T] at t;cases t
        · obtain⟨c',R⟩:=B.has x S
          have:=B.sub x c' R;rw[c1] at this;cases this;exact⟨c,R,let ⟨o,e,d⟩:=c2;⟨o,k _ _ e,d⟩⟩
  · obtain⟨v,q⟩:=I.cell x c (B.sub x c e)
    exact⟨v,let ⟨o,e,d⟩:=q;⟨o,k _ _ e,d⟩⟩
  · show upd H acc (.lst []) C=none
    rw[Zc2 (by rw[hacc,hC];exact Nat.succ_ne_self _)];exact M
  · have V:=n x c e
    rw[Zc2 (by rw[hacc];exact Nat.ne_of_lt V)];exact I.freeC x c (B.sub x c e)
  · show (capt nt ci σ).length=N'.length
    unfold capt;rw[List.length_append,List.length_replicate,List.length_map,B.len]
def Wk (σ σ':St):Prop:=σ'.length=σ.length/\∀ (i:Nat) v,σ[i]?=some (some v)->σ'[i]?=some (some v)
theorem Ze9 {σ:St} {i:Nat} {x:V} (h:σ[i]?=some none):Wk σ (σ.set i (some x)):=by
 refine⟨by simp,fun j v e=>?_⟩
 by_cases hj:j=i
 ·subst hj;rw[h] at e;cases e
 ·rw[List.getElem?_set_ne (Ne.symm hj)];exact e
theorem Yv0 {x:V} {r:St}:Wk (none :: r) (some x :: r):=Ze9 (σ:=none :: r) (i:=0) rfl
theorem Wk.trans {σ1 σ2 σ3:St} (a:Wk σ1 σ2) (b:Wk σ2 σ3):Wk σ1 σ3:=⟨b.1.trans a.1,fun i v e=>b.2 i v (a.2 i v e)⟩
theorem Wk.refl (σ:St):Wk σ σ:=⟨rfl,fun _ _ e=>e⟩
def lcW (K:W.Frag) (σ0:St) (J:It) (acc:Addr) (g:TG) (te:TE) (Q:VK) (W:Nat->Nat->List V->Hp->Prop):Prop :=
 ∀ i m ys H2,W i m ys H2->H2 acc=some (.lst ys)/\ys.length < sizeLine/\((J.stop i H2/\Q (.ref acc) H2) ∨
  (J.go i H2/\∀ x H3,J.yld i H2 x H3->g x σ0 H3 fun σ4 H4=>Wk σ0 σ4/\te σ4 H4 fun y H5=>H5 acc=some (.lst ys)/\∃ m',m' < m/\W (i+1) m' (ys++[y]) (upd H5 acc (.lst (ys++[y])))))
def tLC (K:W.Frag) (nt:Nat) (ci:List Nat) (wi:TI) (g:TG) (te:TE):TE:=fun σ H Q=>wi σ H fun J H1=>∀ acc,H1 acc=none->∃ W:Nat->Nat->List V->Hp->Prop,(∃ m,W 0 m [] (upd H1 acc (.lst [])))/\lcW K (capt nt ci σ) J acc g te Q W
theorem Yh4 (elt target iter:Expr) (scope:Scope) (pos:Pos) (it acc:Value) (env:Env) :
  compTurn (.ListComp elt [⟨target,iter,[],0⟩] scope pos) 0 it acc env=(standAt iter.pos >>= fun _=>pyNext it >>= fun r=>match r with
   | none=>pure (.done .next)
   | some v=>letOwnedTupleGo target it v >>= fun _=>assign target env v >>= fun _ =>
    (eval elt env >>= fun x=>call (.builtin "list.append") [acc,x] >>= fun _=>pure ()) >>= fun _ =>
     again (.compLoop (.ListComp elt [⟨target,iter,[],0⟩] scope pos) 0 it acc env)):=by rfl
theorem noE {M:Model} {A:Around} {env:Env} {E:Value->Shared->Prop}:∀ e s,(fun (_:Value) (_:Shared)=>False) e s->notedBy M A env E e s:=fun _ _ z=>z.elim
theorem Xp4 {tg elt iter:Expr} {pos:Pos} {g:TG} {te:TE} {it acc C:Addr} {fp:List Addr} {tn:Nat->Heap->Prop} {J:It} {Q:VK} {s0:Shared} {H0:Hp} {σ0:St} {R:Result->Shared->Prop} {s:Shared} {i0 m0:Nat} {ys0:List V} {H1:Hp} {W:Nat->Nat->List V->Hp->Prop}
  (hc:X.calm=true) (hg:PG (blk X N' scope cl s0 H0 C fp) tg g) (he:PE (blk X N' scope cl s0 H0 C fp) elt te) (T:Turn X.prog X.w X.K tg J fp it tn)
  (hfp:∀ (H':Hp),(∀ b∈fp,H' b=none)->∀ b∈fp,FpOk (blk X N' scope cl s0 H0 C fp) [] H' b) (hW:lcW X.K σ0 J acc g te Q W)
  (hR:∀ s' H',Inv (blk X N' scope cl s0 H0 C fp) [] σ0 H' s'->Q (.ref acc) H'->R (.ok .next) s')
  (I:Inv (blk X N' scope cl s0 H0 C fp) [] σ0 H1 s) (hst:tn i0 s.heap) (hfr:∀ b∈fp,H1 b=none) (w:W i0 m0 ys0 H1) :
  codeAny (model X.prog X.w) X.A (.compLoop (.ListComp elt [⟨tg,iter,[],0⟩] scope pos) 0 (.ref it) (.ref acc) (compEnvC scope cl C X.env)) R s:=by
 refine codeAny_loop rfl (fun n s=>∃ i c a,Inv (blk X N' scope cl s0 H0 C fp) [] σ0 a s/\tn i s.heap/\(∀ b∈fp,a b=none)/\W i n c a) (fun n s G=>?_) m0 ⟨i0,ys0,H1,I,hst,hfr,w⟩;obtain⟨i,c,a,z,j,k,D⟩:=G;show wpAny _ _ ((compTurn (.ListComp elt [⟨tg,iter,[],0⟩] scope pos) 0 (.ref it) (.ref acc) (compEnvC scope cl C X.env)).onRaise (fun x=>do noteFrame x (compEnvC scope cl C X.env);theTreesLotGoes x)) _ _ s;refine wpAny_noted ?_;rw[Yh4];refine wpAny_bind (wpAny_standAt (wpAny_bind ?_));obtain⟨F,p,f⟩:=hW i n c a D;rcases f with ⟨l,q⟩ | ⟨L,m⟩
 ·refine thn (T.done (blk X N' scope cl s0 H0 C fp) rfl rfl rfl hc i [] s σ0 a _ z (hfp a k) j l) fun r s1 zq=>?_;obtain⟨hr,I3⟩:=zq
  subst hr;exact wpAny_pure (hR s1 a I3 q)
 ·refine thn (T.item (blk X N' scope cl s0 H0 C fp) rfl rfl rfl hc i [] s σ0 a _ z (hfp a k) j L) fun r s1 zq=>?_;obtain⟨u,hr,h4⟩:=zq
  subst hr;refine wpAny_bind (thn h4 fun _ s5 zq=>?_);obtain⟨x,H5,I5,r5,y5,st5,fr5⟩:=zq;have t:=I5.pinned (hfp H5 fr5) (T.obj _ _ st5);refine wpAny_bind (wpAny_mono (hg _ s5 σ0 H5 x u _ t r5 (m x H5 y5)) (fun _ s6 ⟨σ6,H6,I6,hw6,q6⟩=>?_) noE);refine wpAny_bind (wpAny_bind (wpAny_mono (he _ s6 σ6 H6 _ I6 q6) (fun v s7 ⟨y,H7,I7,r7,ha7,m',hm',w7⟩=>?_) noE));refine wpAny_bind (wpAny_mono (Zj5 (X:=blk X N' scope cl s0 H0 C fp) _ s7 σ6 H7 (.ref acc) [y] (.ref acc) [v] (fun _ B=>B=upd H7 acc (.lst (c++[y]))) I7 rfl (.cons r7 .nil) ⟨acc,c,y,rfl,rfl,ha7,p,rfl⟩) (fun _ s8 ⟨_,B,I8,_,e8⟩=>?_) noE);subst e8;refine wpAny_pure (wpAny_pure ⟨rfl,m',hm',i+1,c++[y],_,?_,?_,fun b h=>?_,w7⟩)
  ·exact I8.unpinned.weak hw6.1.symm hw6.2
  ·exact T.keep _ _ _ st5 fun b h o e=>(I8.pin (b,o) (List.mem_append_right _ (List.mem_append_right _ (Zj2 h e)))).1
  ·obtain⟨o,e,d⟩:=T.obj _ _ st5 b h
   exact (I8.pin (b,o) (List.mem_append_right _ (List.mem_append_right _ (Zj2 h e)))).2.1
theorem Xa7 {tg elt iter:Expr} {pos pos':Pos} {wi:TI} {g:TG} {te:TE} {use:Option (Value->Sem Unit)} {Q:VK} {Qf:Value->Shared->Prop} (B:BlkOk X scope cl N' nt ci) (hc:X.calm=true) (hi:PI X tg iter wi)
  (hg:∀ s H C ex,PG (blk X N' scope cl s H C ex) tg g) (he:∀ s H C ex,PE (blk X N' scope cl s H C ex) elt te) (hs:∀ x,foldedSetIterable iter X.env x=pure x) (I:Inv X pins σ H s) (h:tLC X.K nt ci wi g te σ H Q)
  (fin:∀ (acc C:Addr) (s':Shared) (H':Hp),Inv X pins σ H' s'->Q (.ref acc) H'->(∃ m,s'.heap.Ns C m)->FpOk X pins H' C->(∃ o,s'.heap.get? C=some o/\∀ v,o.data≠.cell v)->compPost (model X.prog X.w) X.A X.xe use Qf (.ref acc) C (.ok .next) s') :
  wpAny (model X.prog X.w) X.A (comprehension (.ListComp elt [⟨tg,iter,[],0⟩] scope pos) scope X.env pos' (newList []) false (eval iter X.env) use) Qf X.xe s:=by
 refine wpAny_comprehension_free (use:=use) rfl hs B.clos B.kind B.names (thn (hi pins s σ H _ I h) fun v s1 h1=>thn h1 fun q0 a h2=>?_);obtain⟨it,r,tn,J,R,e,n,T,i,t,q2⟩:=h2;subst e;have M:R a.heap.objs.size=none:=n.hok.fresh (Nat.le_refl _);obtain⟨W,⟨m0,Z⟩,hW⟩:=q2 a.heap.objs.size M;refine wpAny_newObj_type (wpAny_newFunctionEnv B.cell (by intro y hy;simp at hy) (fun h₁ hns₁ hsb₁=>?_) B.kind);dsimp only at hns₁ hsb₁ ⊢;have l:(a.heap.push { cls:=.type "list",dict:=none,data:=.seq ([]:List Value).toArray }).objs.size=a.heap.objs.size+1:=Heap.size_push ..;have S:∀ b u,a.heap.get? b=some u->h₁.get? b=some u:=fun b u e=>hsb₁.extBut b u (by rw[l];exact Nat.ne_of_lt (Nat.lt_succ_of_lt (Heap.lt_size e))) (Heap.get?_push_of_some _ (Heap.get?_push_of_some _ e));have a1:h₁.get? a.heap.objs.size=some { cls:=.type "list",data:=.seq #[] }:=hsb₁.extBut _ _ (by rw[l];exact Nat.ne_of_lt (Nat.lt_succ_self _)) (Heap.get?_push_of_some _ (Heap.get?_push_size _ rfl));rw[l] at hns₁ ⊢;have I3:=Xe1 (tk:=a.toks+([]:List (Str×Value)).length) B n t (fun b f=>let ⟨o,e,_⟩:=T.obj _ _ i b f;⟨o,e⟩) rfl rfl S (by simpa using hns₁) a1
 have L:∀ (H':Hp),(∀ b∈r,H' b=none)->∀ b∈r,FpOk (blk X N' scope cl a R (a.heap.objs.size+1) r) [] H' b:=fun H' hn b f=>by
  obtain⟨f0,O,Y,V,N,U⟩:=t b f;obtain⟨o,e,_⟩:=T.obj _ _ i b f;refine⟨hn b f,?_,fun z=>?_,.inl f,fun x c e'=>N x c (B.sub x c e'),fun p hp=>absurd (show p∈([]:List (Addr×Obj)) from hp) (by simp)⟩
  ·exact Nat.ne_of_lt (Nat.lt_succ_of_lt (Heap.lt_size e))
  ·rcases List.mem_cons.mp (n.stkSub b z) with y | y
   ·exact O y
   ·exact Y y
 have G:∀ b∈r,upd R a.heap.objs.size (.lst []) b=none:=fun b f=>by
  obtain⟨o,e,_⟩:=T.obj _ _ i b f;rw[Zc2 (Nat.ne_of_lt (Heap.lt_size e))];exact (t b f).1
 have D:tn 0 h₁:=T.keep _ _ _ i fun b _ o e=>S b o e;have k:codeAny (model X.prog X.w) X.A (.compLoop (.ListComp elt [⟨tg,iter,[],0⟩] scope pos) 0 (.ref it) (.ref a.heap.objs.size) (compEnvC scope cl (a.heap.objs.size+1) X.env))
   (compPost (model X.prog X.w) X.A X.xe use Qf (.ref a.heap.objs.size) (a.heap.objs.size+1)) { a with heap:=h₁,toks:=a.toks+([]:List (Str×Value)).length }:=by
  refine Xp4 (Q:=Q) hc (hg _ _ _ _) (he _ _ _ _) T L hW (fun s' H' j q=>?_) I3 D G Z;have un:=j.base;have ns:=j.loc;have fC:H' (a.heap.objs.size+1)=none:=j.free
  have I4:Inv X pins σ H' s':=n.call' j.os un j.hok j.bare fun b f=>by
   obtain⟨f0,O,Y,V,N,U⟩:=t b f;exact⟨V,O,N,U⟩
  obtain⟨m,hm,_⟩:=ns;have F:s'.heap.Ns (a.heap.objs.size+1) m:=hm;refine fin _ _ s' H' I4 q ⟨m,F⟩ (n.fpOk (Nat.le_succ _) fC) ?_;obtain⟨o,es,ep,e,d,_⟩:=F;exact⟨o,e,fun v z=>by rw[d] at z;cases z⟩
 exact codeAny_compStart_list k (T.self _ _ _ _ _ D k)
theorem Ys3 {tg elt iter:Expr} {pos:Pos} {wi:TI} {g:TG} {te:TE} (B:X.Ok->BlkOk X scope cl N' nt ci) (hc:X.calm=true) (hi:PI X tg iter wi)
  (hg:∀ s H C ex,PG (blk X N' scope cl s H C ex) tg g) (he:∀ s H C ex,PE (blk X N' scope cl s H C ex) elt te) (hs:∀ x,foldedSetIterable iter X.env x=pure x:=by intro _;rfl) :
  PE X (.ListComp elt [⟨tg,iter,[],0⟩] scope pos) (tLC X.K nt ci wi g te):=by
 intro i s w H Q I h;rw[eval_ListComp];refine Xa7 (B I.ok) hc hi hg he hs I h fun c C f v u q a j y=>?_;obtain⟨m,a⟩:=a;obtain⟨t,r,A,p,n,l⟩:=j;exact⟨m,a,fun z d=>⟨.ref c,v,u.turned (t':=f.toks) (fun b o k e=>(d.2 b k).trans e) t r p n l,rfl,q⟩⟩
theorem Yb1 {i:Nat} {x:Str} {tg elt iter:Expr} {pos spos pos':Pos} {wi:TI} {g:TG} {te:TE} (hN:X.N.Nodup) (hi:X.N[i]?=some x) (hx:Loc X.env.scope x) (B:X.Ok->BlkOk X scope cl N' nt ci) (hc:X.calm=true) (hit:PI X tg iter wi)
  (hg:∀ s H C ex,PG (blk X N' scope cl s H C ex) tg g) (he:∀ s H C ex,PE (blk X N' scope cl s H C ex) elt te) (hsw:swapsWith (.ListComp elt [⟨tg,iter,[],0⟩] scope pos) (some (.Name x pos')) spos.line X.env=pure true)
  (hs:∀ x,foldedSetIterable iter X.env x=pure x:=by intro _;rfl) (hf:X.fn x=true∨X.env.scope.names.lookup x=some .local:=by first | exact .inl rfl | exact .inr rfl | assumption) :
  PS X (.Assign [.Name x pos'] (.ListComp elt [⟨tg,iter,[],0⟩] scope pos) spos) (tAsg (tLC X.K nt ci wi g te) (Zx6 i)):=by
 intro a s k H D I h;rw[exec_Assign_Name_used _ _ _ _ hsw];refine wpAny_bind (wpAny_standAt (wpAny_bind ?_));rw[arm_evalThenUse_ListComp];refine wpAny_bind (Xa7 (B I.ok) hc hit hg he hs I h fun c C s' j v q f l A=>?_);obtain⟨t,r,R,O,M,L⟩:=l;obtain⟨m,f⟩:=f;obtain⟨o,e,d⟩:=A
 have W:Inv X (a++[(C,o)]) k j s':=v.pins_of fun p y=>(List.mem_append.mp y).elim (fun z=>v.pin p (List.mem_append_right _ z)) fun z=>by
  have V:p=(C,o):=by simpa using z
  subst V;exact⟨e,t,r,R,d⟩
 refine wpAny_assign_Name (Zm8 W hN hi hx (show RelV (.ref c) (Value.ref c) from rfl) (fun s2 u=>?_) hf);have U:=(u.pin (C,o) (List.mem_append_right _ (List.mem_append_right _ (by simp)))).1;obtain⟨Z,S,T,n,J,G⟩:=f;rw[e] at n;cases n;refine⟨m,⟨o,S,T,U,J,G⟩,fun h' w=>wpAny_pure (wpAny_pure ?_)⟩;have Y:Inv X a (k.set i (some (.ref c))) j s2:=u.unpinned;exact⟨_,j,Y.turned (t':=s2.toks) (fun b o F e=>(w.2 b F).trans e) t r O M L,q⟩
end
noncomputable def Itz (K:W.Frag) (a b:Addr):It :=
  ⟨fun i H=>∃ xs ys x y,SqL K H a xs/\SqL K H b ys/\xs[i]?=some x/\ys[i]?=some y,
   fun i H v H'=>∃ T x y,v=.ref T/\H T=none/\H'=upd H T (.tup [x,y])/\(∀ xs,SqL K H a xs->xs[i]?=some x)/\∀ ys,SqL K H b ys->ys[i]?=some y,
   fun i H=>∃ xs ys,SqL K H a xs/\SqL K H b ys/\(xs.length<=i∨ys.length<=i)⟩
def We4 (z TI TO i1 i2 l1 l2:Addr) (i:Nat) (h:Heap):Prop :=
 IsZip h z TI TO .none/\IsPair h TI (.ref i1) (.ref i2)/\(∃ a b,IsPair h TO a b)/\h.IsListIter i1 l1 i/\h.IsListIter i2 l2 i
theorem Xf3 {P:Program} {w:World} {K:W.Frag} {elts:List Expr} {k0:Nat} {tpos:Pos} (z TI TO i1 i2 l1 l2:Addr) (D:ZipApart z TI TO i1 i2 l1 l2) :
    Turn P w K (.Tuple elts k0 tpos) (Itz K l1 l2) [z,TI,TO,i1,i2] z (We4 z TI TO i1 i2 l1 l2) where
  mem:=by simp
  obj:=fun i h st b hb=>by
    obtain⟨hz,hTI,⟨a,c,hTO⟩,⟨o1,e1,c1,d1⟩,⟨o2,e2,c2,d2⟩⟩:=st;simp only[List.mem_cons,List.not_mem_nil,or_false] at hb;rcases hb with rfl | rfl | rfl | rfl | rfl
    · exact⟨_,hz,fun v q=>by cases q⟩
    · exact⟨_,hTI,fun v q=>by cases q⟩
    · exact⟨_,hTO,fun v q=>by cases q⟩
    · exact⟨o1,e1,fun v q=>by rw[d1] at q;cases q⟩
    · exact⟨o2,e2,fun v q=>by rw[d2] at q;cases q⟩
  keep:=fun i h h' st k=>by
    obtain⟨hz,hTI,⟨a,c,hTO⟩,h1,h2⟩:=st;exact⟨k z (by simp) _ hz,k TI (by simp) _ hTI,⟨a,c,k TO (by simp) _ hTO⟩,h1.at fun o e=>k i1 (by simp) o e,h2.at fun o e=>k i2 (by simp) o e⟩
  item:=by
    intro X hP hw hK hc i pins s σ H E I hf st hg;subst hP hw hK;obtain⟨hz,hTI,⟨a,c,hTO⟩,h1,h2⟩:=st;obtain⟨xs,ys,x,y,q1,q2,hx,hy⟩:=hg;obtain⟨its1,rv1,p1,_⟩:=I.list q1;obtain⟨its2,rv2,p2,_⟩:=I.list q2;obtain⟨u1,hu1,ru1⟩:=rv1.get hx;obtain⟨u2,hu2,ru2⟩:=rv2.get hy;refine wpAny_pyNext_zip_item D hz hTI hTO h1 h2 p1.isList p2.isList (x:=u1) (y:=u2) (by simpa using hu1) (by simpa using hu2) fun h' a1 a2 a3 a4 a5 a6 kk=>?_;have hT:H s.heap.objs.size=none:=I.hok.fresh (Nat.le_refl _)
    have nch:∀ b u,H b=some u->b ∉ [z,TO,i1,i2]:=fun b u e hb=>by
      have hb':b∈[z,TI,TO,i1,i2]:=by
        simp only[List.mem_cons,List.not_mem_nil,or_false] at hb ⊢;rcases hb with q | q | q | q
        · exact .inl q
        · exact .inr (.inr (.inl q))
        · exact .inr (.inr (.inr (.inl q)))
        · exact .inr (.inr (.inr (.inr q)))
      rw[(hf b hb').1] at e;cases e
    have kk':∀ b o,b ∉ [z,TO,i1,i2]->s.heap.get? b=some o->h'.get? b=some o:=fun b o hb e=>by
      simp only[List.mem_cons,List.not_mem_nil,or_false,not_or] at hb;exact kk b o hb.1 hb.2.1 hb.2.2.1 hb.2.2.2 e
    have ltT:∀ b o,s.heap.get? b=some o->b≠s.heap.objs.size:=fun b o e=>Nat.ne_of_lt (Heap.lt_size e)
    have hokT:HOk X.prog X.w (upd H s.heap.objs.size (.tup [x,y])) h':=fun b ob e=>by
      by_cases hb:b=s.heap.objs.size
      · subst hb
        rw[Za3] at e;cases e;exact⟨by show 2<=sizeLine;decide,[u1,u2],.cons ru1 (.cons ru2 .nil),_,a5,rfl,_,rfl⟩
      · rw[Zc2 hb] at e
        refine (I.hok b ob e).stay (fun c v hcv q=>kk' c v ?_ q) (fun c q=>by rw[Zc2 (Zb9 q hT)];exact q) fun c xs q=>by rw[Zc2 (Zb9 q hT)];exact q
        rcases hcv with rfl | hcv
        · exact nch _ _ e
        · exact nch _ _ hcv
    have I1:Inv X pins σ (upd H s.heap.objs.size (.tup [x,y])) { s with heap:=h' }:=by
      refine I.step (g':=s.gens) (d':=s.drawn) (t':=s.toks) (ch:=[z,TO,i1,i2]) (fun b hb=>?_) (fun b o _ _ hb e _=>kk' b o hb e) (fun b o _ _ hb e _=>⟨o.slots,kk' b o hb e⟩) (fun b o _ e n=>by rw[Zc2 (ltT b o e)];exact n) (fun b o hb e=>⟨o,kk' b o hb e⟩)
        (fun b xs q=>by rw[Zc2 (Zb9 q hT)];exact q) (fun b o u q=>by rw[Zc2 (Zb9 q hT)];exact q) (fun b ps q=>⟨#[],by rw[Zc2 (Zb9 q hT),q];simp⟩) (fun m hm=>?_) hokT I.bare
      · have hb':b∈[z,TI,TO,i1,i2]:=by
          simp only[List.mem_cons,List.not_mem_nil,or_false] at hb ⊢;rcases hb with q | q | q | q
          · exact .inl q
          · exact .inr (.inr (.inl q))
          · exact .inr (.inr (.inr (.inl q)))
          · exact .inr (.inr (.inr (.inr q)))
        obtain⟨f0,f1,f2,f3,f4,f5⟩:=hf b hb';exact⟨f3,f1,f4,f5⟩
      · obtain⟨o,es,ep,ho,r⟩:=hm
        refine⟨o,es,ep,kk' _ o ?_ ho,r⟩;simp only[List.mem_cons,List.not_mem_nil,or_false,not_or];exact⟨((hf z (by simp)).2.1).symm,((hf TO (by simp)).2.1).symm,((hf i1 (by simp)).2.1).symm,((hf i2 (by simp)).2.1).symm⟩
    refine⟨_,rfl,wpAny_letOwnedTupleGo_zip a1 fun h'' hz'' sb=>?_⟩;obtain⟨f0,f1,f2,f3,f4,f5⟩:=hf z (by simp)
    have ltz:∀ b∈[z,TI,TO,i1,i2],b≠s.heap.objs.size:=fun b hb=>by
      simp only[List.mem_cons,List.not_mem_nil,or_false] at hb;obtain⟨o1,e1,_⟩:=h1;obtain⟨o2,e2,_⟩:=h2;rcases hb with rfl | rfl | rfl | rfl | rfl
      · exact ltT _ _ hz
      · exact ltT _ _ hTI
      · exact ltT _ _ hTO
      · exact ltT _ _ e1
      · exact ltT _ _ e2
    have fn:∀ b∈[z,TI,TO,i1,i2],upd H s.heap.objs.size (.tup [x,y]) b=none:=fun b hb=>by rw[Zc2 (ltz b hb)];exact (hf b hb).1
    have I2:Inv X pins σ (upd H s.heap.objs.size (.tup [x,y])) { s with heap:=h'' }:=I1.turned (t':=s.toks) (fun b o hb e=>(sb.2 b hb).trans e) (fn z (by simp)) f1 f3 f4 f5;refine⟨.ref s.heap.objs.size,_,I2,rfl,⟨_,x,y,rfl,hT,rfl,fun ys hy'=>by rw[I.list_inj hy' q1];exact hx,fun ys hy'=>by rw[I.list_inj hy' q2];exact hy⟩,⟨hz'',?_,⟨u1,u2,?_⟩,?_,?_⟩,fn⟩
    · exact (sb.2 TI D.TIz).trans (kk' TI _ (by simp only[List.mem_cons,List.not_mem_nil,or_false,not_or];exact⟨D.TIz,D.TITO,D.TIi1,D.TIi2⟩) hTI)
    · exact (sb.2 TO D.TOz).trans a2
    · exact a3.extBut sb.extBut D.i1z
    · exact a4.extBut sb.extBut D.i2z
  done:=by
    intro X hP hw hK hc i pins s σ H E I hf st hg;subst hP hw hK;obtain⟨hz,hTI,⟨a,c,hTO⟩,h1,h2⟩:=st;obtain⟨xs,ys,q1,q2,hend⟩:=hg;obtain⟨its1,rv1,p1,_⟩:=I.list q1;obtain⟨its2,rv2,p2,_⟩:=I.list q2;have e1:=rv1.length;have e2:=rv2.length;refine wpAny_pyNext_zip_end (I.ok.hd hc) D hz hTI hTO h1 h2 p1.isList p2.isList ?_ fun h' kk=>⟨rfl,?_⟩
    · rcases hend with q | q
      · exact .inl (by simp;walk_at "o")
      · exact .inr (by simp;walk_at "o")
    · have nch:∀ b u,H b=some u->b ∉ [z,TO,i1,i2]:=fun b u e hb=>by
        have hb':b∈[z,TI,TO,i1,i2]:=by
          simp only[List.mem_cons,List.not_mem_nil,or_false] at hb ⊢;rcases hb with q | q | q | q
          · exact .inl q
          · exact .inr (.inr (.inl q))
          · exact .inr (.inr (.inr (.inl q)))
          · exact .inr (.inr (.inr (.inr q)))
        rw[(hf b hb').1] at e;cases e
      have kk':∀ b o,b ∉ [z,TO,i1,i2]->s.heap.get? b=some o->h'.get? b=some o:=fun b o hb e=>by
        simp only[List.mem_cons,List.not_mem_nil,or_false,not_or] at hb;exact kk b o hb.1 hb.2.1 hb.2.2.1 hb.2.2.2 e
      have hok':HOk X.prog X.w H h':=fun b ob e=>by
        refine (I.hok b ob e).stay (fun c v hcv q=>kk' c v ?_ q) (fun c q=>q) fun c xs q=>q;rcases hcv with rfl | hcv
        · exact nch _ _ e
        · exact nch _ _ hcv
      refine I.step (g':=s.gens) (d':=s.drawn) (t':=s.toks) (ch:=[z,TO,i1,i2]) (fun b hb=>?_) (fun b o _ _ hb e _=>kk' b o hb e) (fun b o _ _ hb e _=>⟨o.slots,kk' b o hb e⟩) (fun b o _ e n=>n) (fun b o _ e=>?_)
        (fun b xs q=>q) (fun b o u q=>q) (fun b ps q=>⟨#[],by rw[q];simp⟩) (fun m hm=>?_) hok' I.bare
      · have hb':b∈[z,TI,TO,i1,i2]:=by
          simp only[List.mem_cons,List.not_mem_nil,or_false] at hb ⊢;rcases hb with q | q | q | q
          · exact .inl q
          · exact .inr (.inr (.inl q))
          · exact .inr (.inr (.inr (.inl q)))
          · exact .inr (.inr (.inr (.inr q)))
        obtain⟨f0,f1,f2,f3,f4,f5⟩:=hf b hb';exact⟨f3,f1,f4,f5⟩
      · rename_i hb
        exact⟨o,kk' b o hb e⟩
      · obtain⟨o,es,ep,ho,r⟩:=hm
        refine⟨o,es,ep,kk' _ o ?_ ho,r⟩;simp only[List.mem_cons,List.not_mem_nil,or_false,not_or];exact⟨((hf z (by simp)).2.1).symm,((hf TO (by simp)).2.1).symm,((hf i1 (by simp)).2.1).symm,((hf i2 (by simp)).2.1).symm⟩
  self:=fun _ _ _ _ _ st h=>wpAny_pyIter_zip st.1 h
section
variable {X:Cx}
def iZip (K:W.Frag) (ta:TA):TI:=fun σ H R=>ta σ H fun vs H1=>∃ a b,vs=[.ref a,.ref b]/\(∃ xs,SqL K H1 a xs)/\(∃ ys,SqL K H1 b ys)/\R (Itz K a b) H1
theorem Yx7 {a b:Expr} {ta:TA} {p pos:Pos} {elts:List Expr} {k0:Nat} {tpos:Pos} (hg:Gl X "zip") (hm:X.mg "zip"=none) (ha:PA X [a,b] ta) (hs:starEach [a,b] X.env=[(false,eval a X.env),(false,eval b X.env)]:=by rfl) (hs2:starEach [b] X.env=[(false,eval b X.env)]:=by rfl) :
  PI X (.Tuple elts k0 tpos) (.Call (.Name "zip" p) [a,b] [] pos) (iZip X.K ta):=by
 intro c s g H R I h;refine Call_ (Zx2 I hg hm (by first | exact PySem.boot_zip | rfl) (PyProof.Rows.callWith_type1 (thn (ha pos c s g H _ I h) fun us s1 ⟨vs,H1,I1,r1,f⟩=>?_) (by rw[hs,hs2]) (by rw[hs2];rfl)));obtain⟨n,m,e,⟨M,f⟩,⟨L,x⟩,q⟩:=f;subst e;obtain⟨O,N,rfl,j,i⟩:=Yi5 r1;cases j;cases i;obtain⟨z,J,l,_⟩:=I1.list f;obtain⟨y,G,k,_⟩:=I1.list x
 have D:n < s1.heap.objs.size:=by obtain⟨_,e,_⟩:=l.isList;exact Heap.lt_size e
 have C:m < s1.heap.objs.size:=by obtain⟨_,e,_⟩:=k.isList;exact Heap.lt_size e
 refine call_zip_2 l.isList k.isList fun B o w v t r _ A=>wpAny_pyIter_zip o ?_;have F:Inv X c g H1 { s1 with heap:=B }:=I1.kept (t':=s1.toks) A;refine⟨_,_,_,_,H1,rfl,F,Xf3 _ _ _ _ _ n m (zipApart_new D C),⟨o,w,⟨_,_,v⟩,t,r⟩,fun b u=>?_,q⟩
 have d:s1.heap.objs.size<=b:=by
  simp only[List.mem_cons,List.not_mem_nil,or_false] at u
  rcases u with rfl | rfl | rfl | rfl | rfl<;>walk_at "o"
 exact I1.fpOk d (I1.hok.fresh d)
theorem Xq4 {K:W.Frag} {a b:Addr} {xs ys:List V} {g:TG} {tb:TS} {D:Ends} {σ:St} {H:Hp} (Pv:Nat->St->Hp->Prop) (hxy:xs.length=ys.length) (h0:Pv 0 σ H) (hl:∀ i σ H,i<=xs.length->Pv i σ H->SqL K H a xs/\SqL K H b ys)
  (hs:∀ i x y σ H T,xs[i]?=some x->ys[i]?=some y->H T=none->Pv i σ H->g (.ref T) σ (upd H T (.tup [x,y])) fun σ2 H2=>tb { D with nx:=Pv (i+1),ct:=Pv (i+1),bk:=D.nx } σ2 H2) (hd:∀ σ H,Pv xs.length σ H->D.nx σ H) :
  ∃ W:Nat->Nat->St->Hp->Prop,(∃ m,W 0 m σ H)/\∀ i m σ H,W i m σ H ->
   ((Itz K a b).stop i H/\D.nx σ H)∨((Itz K a b).go i H/\∃ N:St->Hp->Prop,(∀ σ' H',N σ' H'->∃ m',m' < m/\W (i+1) m' σ' H')/\∀ x H',(Itz K a b).yld i H x H'->g x σ H' fun σ2 H2=>tb { D with nx:=N,ct:=N,bk:=D.nx } σ2 H2):=by
 refine⟨fun i m σ H=>m=xs.length - i/\i<=xs.length/\Pv i σ H,⟨xs.length,by simp,Nat.zero_le _,h0⟩,?_⟩;rintro i m σ H ⟨rfl,k,p⟩;obtain⟨d,c⟩:=hl i σ H k p
 by_cases hlt:i < xs.length
 ·refine .inr ⟨⟨xs,ys,xs[i],ys[i],d,c,by simp[hlt],by simp[hxy▸hlt]⟩,Pv (i+1),fun σ' H' j=>⟨xs.length - (i+1),by walk_at "o",rfl,hlt,j⟩,fun v H' z=>?_⟩
  obtain⟨T,x,y,rfl,l,rfl,h,f⟩:=z;exact hs i x y σ H T (h xs d) (f ys c) l p
 ·have e:i=xs.length:=by walk_at "o"
  subst e;exact .inl ⟨⟨xs,ys,d,c,.inl (Nat.le_refl _)⟩,hd σ H p⟩
end
end L2
namespace PySem
open Sem (wp)
namespace F
end F
end PySem
namespace L2
open PySem PySem.Spec PyProof.Rows
structure KDict (K:W.Frag) (w:World) (a:Addr) (kvs:List (Str×V)):Prop where
 ex:∃ (o:Obj) (es:Array DictEntry) (ep:Nat),K.lookup a=some o/\o.ExactDict/\o.data=.dict es ep/\Paired (fun (p:Str×V) (e:DictEntry)=>(∃ tk,e.key=.str p.1 tk)/\e.hash=PyData.keyHash w.params p.1/\RelV p.2 e.val) kvs es.toList
 nd:(kvs.map (·.1)).Nodup
 ns:(a == sysModules)=false
noncomputable def kvK (kvs:List (Str×V)):List (Key×V):=kvs.map fun p=>(Sum.inr p.1,p.2)
section
variable {X:Cx} {pins:List (Addr×Obj)} {σ:St} {H:Hp} {s:Shared} {a:Addr} {kvs:List (Str×V)}
theorem Yp9 {P:Program} {w:World}:∀ {kvs:List (Str×V)} {es:List DictEntry},Paired (fun (p:Str×V) (e:DictEntry)=>(∃ tk,e.key=.str p.1 tk)/\e.hash=PyData.keyHash w.params p.1/\RelV p.2 e.val) kvs es ->
  (∀ e∈es,∃ k,(Zj6 P w).is k e.key=true/\e.hash=(Zj6 P w).hash k)/\Pairs (Zj6 P w) es (List.zip (kvs.map fun p=>(Sum.inr p.1:Key)) (es.map (·.val)))/\KV (kvK kvs) (List.zip (kvs.map fun p=>(Sum.inr p.1:Key)) (es.map (·.val)))
 | [],_,r=>by cases r;exact⟨(fun _ h=>(nomatch h)),.nil,.nil⟩
 | p :: kvs,_,r=>by
  cases r with
  | @cons _ e _ es h t =>
   obtain⟨⟨tk,h1⟩,h2,h3⟩:=h;obtain⟨q1,q2,q3⟩:=Yp9 (P:=P) t
   have hi:(Zj6 P w).is (Sum.inr p.1) e.key=true:=by rw[h1];exact Zx0 P w p.1 tk
   refine⟨fun e' he=>?_,.cons hi rfl q2,.cons ⟨rfl,h3⟩ q3⟩;rcases List.mem_cons.mp he with rfl | he
   ·exact⟨Sum.inr p.1,hi,h2⟩
   ·exact q1 e' he
theorem KDict.of (D:KDict X.K X.w a kvs) (I:Inv X pins σ H s):∃ vs,KV (kvK kvs) vs/\s.heap.DictOf (Zj6 X.prog X.w) a vs:=by
 obtain⟨o,f,v,k,ex,d,b⟩:=D.ex;obtain⟨j,i,g⟩:=Yp9 (P:=X.prog) b;refine⟨_,g,o,f,v,I.kIn a o k,ex,d,fun e t=>j e (by simpa using t),i,?_⟩
 have e:(List.zip (kvs.map fun p=>(Sum.inr p.1:Key)) (f.toList.map (·.val))).map (·.1)=kvs.map fun p=>(Sum.inr p.1:Key):=by
  rw[List.map_fst_zip];have:=Paired.length b;simp only[List.length_map];walk_at "o"
 rw[e]
 have c:∀ l:List (Str×V),(l.map (·.1)).Nodup->(l.map fun p=>(Sum.inr p.1:Key)).Nodup:=by
  intro l
  induction l with
  | nil=>intro _;exact List.nodup_nil
  | cons p r ih =>
   intro h;rw[List.map_cons,List.nodup_cons] at h;rw[List.map_cons,List.nodup_cons];refine⟨fun m=>h.1 ?_,ih h.2⟩;obtain⟨q,n,u⟩:=List.mem_map.mp m;exact List.mem_map.mpr ⟨q,n,Sum.inr.inj u⟩
 exact c kvs D.nd
theorem Yn0 (kvs:List (Str×V)) (x:Str):valV (kvK kvs) (Sum.inr x)=kvs.lookup x:=by
 unfold valV kvK
 induction kvs with
 | nil=>rfl
 | cons p r ih =>
  rw[List.map_cons,List.find?_cons];obtain⟨k,v⟩:=p
  by_cases e:k=x
  ·subst e;simp[List.lookup_cons]
  ·have b:¬ (Sum.inr k:Key)=Sum.inr x:=fun q=>e (Sum.inr.inj q)
   have a:(x == k)=false:=beq_eq_false_iff_ne.mpr (Ne.symm e);simp only[decide_eq_false b,List.lookup_cons,a];exact ih
def tKD (kvs:List (Str×V)) (ti:TE):TE:=fun σ H Q=>ti σ H fun y H1=>∃ x v,y=.str x/\kvs.lookup x=some v/\Q v H1
theorem Xh3 {name:Str} {i:Expr} {ti:TE} {p pos:Pos} (D:KDict X.K X.w a kvs) (hg:Gl X name) (hm:X.mg name=some (.ref a)) (hi:PE X i ti) (hs:NoSl i:=by exact fun _ _=>rfl) (hd:(name == ("__debug__":Str))=false:=by decide) :
  PE X (.Subscript (.Name name p) i pos) (tKD kvs ti):=by
 intro b s f H Q I h;refine Xn2 PySem.F.slot_dict_getitem.lookup hs (Zj7 I hg hm (thn (hi b s f H _ I h) fun iv s2 ⟨y,H2,I2,ry,x,v,ey,hl,q2⟩=>?_) hd);subst ey;obtain⟨g,d,e⟩:=D.of I2;obtain⟨l,j,c⟩:=RelO.some_of (v:=v) (o:=valueAt g (Sum.inr x)) (by rw[<- hl,<- Yn0];exact d.val (Sum.inr x));exact⟨e.typeIs,wpAny_getItem_of (Wc6 (k:=Sum.inr x) ry) e.mapOf j ⟨v,H2,I2.tok _,c,q2⟩⟩
def Zp7 (kvs:List (Str×V)) (ti:TE):TE:=fun σ H Q=>ti σ H fun y H1=>∃ x,y=.str x/\Q (.bl (!(kvs.lookup x).isSome)) H1
theorem Yy3 {name:Str} {i:Expr} {ti:TE} {p:Pos} (D:KDict X.K X.w a kvs) (hg:Gl X name) (hm:X.mg name=some (.ref a)) (hi:PE X i ti) (hd:(name == ("__debug__":Str))=false:=by decide) :
  PC X .NotIn i (.Name name p) (Zp7 kvs ti):=by
 intro b s d H Q I h;refine thn (hi b s d H _ I h) fun iv s1 zq=>?_;obtain⟨y,H1,I1,ry,x,ey,q1⟩:=zq;subst ey;refine Zj7 I1 hg hm ?_ hd;obtain⟨f,c,e⟩:=D.of I1;refine wpAny_notIn_of (Wc6 (k:=Sum.inr x) ry) D.ns e.mapOf ?_;rw[<- (c.val (Sum.inr x)).isSome_eq,Yn0];exact⟨.bl _,H1,I1.tok _,rfl,q1⟩
end
section
variable {X:Cx} {scope:Scope} {N':List Str}
theorem Zy6 {scope:Scope} {env:Env} (h:∀ y∈scope.names,y.2≠.free):(relabel scope env).names=scope.names:=by
 unfold relabel;simp only
 have a:∀ l:List (Str×NameKind),(∀ y∈l,y.2≠.free)->l.map (fun (n,k)=>if (k == NameKind.free&&env.scope.kind == .function&&env.kindOf n == some .cell) then (n,NameKind.cell) else (n,k))=l:=by
  intro l
  induction l with
  | nil=>intro _;rfl
  | cons y r ih =>
   intro h;rw[List.map_cons,ih fun z b=>h z (List.mem_cons_of_mem _ b)];obtain⟨n,k⟩:=y
   have:(k == NameKind.free)=false:=by simpa using h (n,k) List.mem_cons_self
   simp[this]
 exact a _ h
theorem blk0 (hc:∀ y∈scope.names,y.2≠.cell) (hf:∀ y∈scope.names,y.2≠.free) (hk:scope.kind=.function) (hn:∀ y∈scope.names,y.2=.local->scope.names.lookup y.1=some .local) (_:X.Ok):BlkOk X scope [] N' N'.length [] where
 clos:=closureFor_none hf
 cell:=hc
 kind:=hk
 names:=hn
 sub:=fun _ _ h=>by cases h
 has:=fun x h=>by
  rw[Zy6 hf] at h;rcases h with h | h
  ·exact absurd rfl (hc _ (PySem.mem_of_lookup h))
  ·exact absurd rfl (hf _ (PySem.mem_of_lookup h))
 len:=by simp
 cap:=fun j i h=>by simp at h
noncomputable def Zy3 (cells:List (Str×Addr)):List (Str×NameKind)->List (Str×Addr)->List (Str×Addr)
 | [],acc=>acc
 | (n,k) :: r,acc=>if k == .free then Zy3 cells r ((n,(cells.lookup n).getD 0) :: acc) else Zy3 cells r acc
theorem Yd0 {env:Env}:∀ (names:List (Str×NameKind)) (acc:List (Str×Addr)),(∀ y∈names,y.2=.free->∃ c,env.cells.lookup y.1=some c) ->
  (forIn names acc fun (x:Str×NameKind) cs=>(match x with | (name,kind)=>if (kind == .free)=true then do let c <- cellOf env name;pure (ForInStep.yield ((name,c) :: cs)) else pure (ForInStep.yield cs):Sem (ForInStep (List (Str×Addr)))))=pure (Zy3 env.cells names acc)
 | [],acc,_=>rfl
 | (n,k) :: r,acc,h=>by
  rw[List.forIn_cons];unfold Zy3
  by_cases hk:(k == NameKind.free)=true
  ·obtain⟨c,hc⟩:=h (n,k) List.mem_cons_self (by simpa using hk)
   have e:cellOf env n=pure c:=by unfold cellOf;rw[show env.cells.lookup n=some c from hc]
   have hc':env.cells.lookup n=some c:=hc;simp only[hk,if_true,e,pure_bind,hc',Option.getD_some];exact Yd0 r _ fun y hy=>h y (List.mem_cons_of_mem _ hy)
  ·simp only[hk,if_false,pure_bind]
   exact Yd0 r acc fun y hy=>h y (List.mem_cons_of_mem _ hy)
theorem Yc9 {scope:Scope} {env:Env} (h:∀ y∈scope.names,y.2=.free->∃ c,env.cells.lookup y.1=some c):closureFor scope env=pure (Zy3 env.cells scope.names []):=by
 unfold closureFor;have e:=Yd0 (env:=env) scope.names [] h;simp only[bind_pure_comp] at e ⊢
 first
  | exact e
  | (rw[e];rfl)
  | (refine Eq.trans ?_ e;rfl)
theorem Zy1 {cells:List (Str×Addr)}:∀ {names:List (Str×NameKind)} {acc:List (Str×Addr)} {x:Str} {c:Addr},(x,c)∈Zy3 cells names acc->(x,c)∈acc∨((x,NameKind.free)∈names/\c=(cells.lookup x).getD 0)
 | [],acc,x,c,h=>.inl h
 | (n,k) :: r,acc,x,c,h=>by
  unfold Zy3 at h
  by_cases hk:(k == NameKind.free)=true
  ·rw[if_pos hk] at h
   have hk':k=.free:=by simpa using hk
   rcases Zy1 h with h | ⟨h1,h2⟩
   ·rcases List.mem_cons.mp h with e | h
    ·cases e
     subst hk';exact .inr ⟨List.mem_cons_self,rfl⟩
    ·exact .inl h
   ·exact .inr ⟨List.mem_cons_of_mem _ h1,h2⟩
  ·rw[if_neg hk] at h
   rcases Zy1 h with h | ⟨h1,h2⟩
   ·exact .inl h
   ·exact .inr ⟨List.mem_cons_of_mem _ h1,h2⟩
theorem Zy2 {cells:List (Str×Addr)}:∀ {names:List (Str×NameKind)} {acc:List (Str×Addr)} {x:Str},(x,NameKind.free)∈names∨(∃ c,(x,c)∈acc)->∃ c,(x,c)∈Zy3 cells names acc
 | [],acc,x,h=>by
  rcases h with h | h
  ·cases h
  ·exact h
 | (n,k) :: r,acc,x,h=>by
  unfold Zy3
  by_cases hk:(k == NameKind.free)=true
  ·rw[if_pos hk]
   refine Zy2 ?_;rcases h with h | ⟨c,h⟩
   ·rcases List.mem_cons.mp h with e | h
    ·cases e
     exact .inr ⟨_,List.mem_cons_self⟩
    ·exact .inl h
   ·exact .inr ⟨c,List.mem_cons_of_mem _ h⟩
  ·rw[if_neg hk]
   refine Zy2 ?_;rcases h with h | h
   ·rcases List.mem_cons.mp h with e | h
    ·cases e
     exact absurd (beq_self_eq_true NameKind.free) hk
    ·exact .inl h
   ·exact .inr h
theorem Yc0 {l:List (Str×Addr)} {x:Str} {c:Addr} (h:(x,c)∈l):∃ c',l.lookup x=some c':=by
 induction l with
 | nil=>cases h
 | cons p r ih =>
  obtain⟨n,a⟩:=p
  by_cases e:(x == n)=true
  ·exact⟨a,by simp[List.lookup_cons,e]⟩
  ·have b:(x == n)=false:=by simpa using e
   rcases List.mem_cons.mp h with h | h
   ·cases h;simp at e
   ·obtain⟨c',q⟩:=ih h
    exact⟨c',by simp only[List.lookup_cons,b];exact q⟩
theorem Zn8 {env:Env}:∀ {names:List (Str×NameKind)} {x:Str} {k:NameKind},(names.map fun (n,k)=>if (k == NameKind.free&&env.scope.kind == .function&&env.kindOf n == some .cell) then (n,NameKind.cell) else (n,k)).lookup x=some k->(k=.cell∨k=.free)->(∀ y∈names,y.2≠.cell)->(x,NameKind.free)∈names
 | [],x,k,h,_,_=>by cases h
 | (n,j) :: r,x,k,h,hk,hc=>by
  rw[List.map_cons] at h
  by_cases e:(x == n)=true
  ·have e':x=n:=by simpa using e
   subst e';have hj:j≠.cell:=hc (x,j) List.mem_cons_self
   by_cases q:(j == NameKind.free&&env.scope.kind == .function&&env.kindOf x == some .cell)=true
   ·have:j=.free:=by
     rw[Bool.and_eq_true,Bool.and_eq_true] at q
     simpa using q.1.1
    subst this;exact List.mem_cons_self
   ·simp only[q,if_false,List.lookup_cons,beq_self_eq_true] at h
    have h':j=k:=by simpa using h
    subst h';rcases hk with z | z
    ·exact absurd z hj
    ·subst z;exact List.mem_cons_self
  ·have e':(x == n)=false:=by simpa using e
   refine List.mem_cons_of_mem _ (Zn8 (env:=env) (k:=k) ?_ hk fun y hy=>hc y (List.mem_cons_of_mem _ hy));have h':List.lookup x ((if (j == NameKind.free&&env.scope.kind == .function&&env.kindOf n == some .cell)=true then (n,NameKind.cell) else (n,j)) :: _)=some k:=h
   by_cases q:(j == NameKind.free&&env.scope.kind == .function&&env.kindOf n == some .cell)=true
   ·rw[if_pos q,List.lookup_cons,e'] at h';exact h'
   ·rw[if_neg q,List.lookup_cons,e'] at h';exact h'
theorem Zn9 {env:Env} {x:Str} (h1:env.scope.kind=.function) (h2:env.kindOf x=some .cell):∀ {names:List (Str×NameKind)},names.lookup x=some .free->(names.map fun (n,k)=>if (k == NameKind.free&&env.scope.kind == .function&&env.kindOf n == some .cell) then (n,NameKind.cell) else (n,k)).lookup x=some .cell
 | [],h=>by cases h
 | (n,j) :: r,h=>by
  rw[List.map_cons]
  by_cases e:(x == n)=true
  ·have e':x=n:=by simpa using e
   subst e';simp only[List.lookup_cons,beq_self_eq_true] at h
   have hj:j=.free:=by simpa using h
   subst hj
   have q:((NameKind.free == NameKind.free)&&env.scope.kind == .function&&env.kindOf x == some .cell)=true:=by rw[h1,h2];rfl
   show List.lookup x ((if ((NameKind.free == NameKind.free)&&env.scope.kind == .function&&env.kindOf x == some .cell)=true then (x,NameKind.cell) else (x,NameKind.free)) :: _)=_;rw[if_pos q,List.lookup_cons,beq_self_eq_true]
  ·have e':(x == n)=false:=by simpa using e
   simp only[List.lookup_cons,e'] at h
   by_cases q:(j == NameKind.free&&env.scope.kind == .function&&env.kindOf n == some .cell)=true
   ·show List.lookup x ((if (j == NameKind.free&&env.scope.kind == .function&&env.kindOf n == some .cell)=true then (n,NameKind.cell) else (n,j)) :: _)=_
    rw[if_pos q,List.lookup_cons,e'];exact Zn9 h1 h2 h
   ·show List.lookup x ((if (j == NameKind.free&&env.scope.kind == .function&&env.kindOf n == some .cell)=true then (n,NameKind.cell) else (n,j)) :: _)=_
    rw[if_neg q,List.lookup_cons,e'];exact Zn9 h1 h2 h
noncomputable def Wd3 (N':List Str) (nt:Nat) (ci:List Nat) (Xn:List Str) (fsc scope:Scope):Bool :=
 (List.range ci.length).all fun j=>match ci[j]?,N'[nt+j]? with
  | some i,some x=>Xn[i]? == some x&&fsc.names.lookup x == some .cell&&scope.names.lookup x == some .free
  | _,_=>false
theorem blkC {nt:Nat} {ci:List Nat} (Xn:List Str) (fsc:Scope) (hN:X.N=Xn) (hs:X.env.scope=fsc) (hc:∀ y∈scope.names,y.2≠.cell) (hk:scope.kind=.function) (hn:∀ y∈scope.names,y.2=.local->scope.names.lookup y.1=some .local)
  (hfr:∀ y∈scope.names,y.2=.free->fsc.names.lookup y.1=some .cell) (hl:N'.length=nt+ci.length) (cap:Wd3 N' nt ci Xn fsc scope=true) (ok:X.Ok):BlkOk X scope (Zy3 X.env.cells scope.names []) N' nt ci:=by
 have d:∀ y∈scope.names,y.2=.free->∃ c,X.env.cells.lookup y.1=some c:=fun y g e=>ok.has y.1 (.inl (by show X.env.scope.names.lookup y.1=_;rw[hs];exact hfr y g e))
 have b:∀ x c,(Zy3 X.env.cells scope.names []).lookup x=some c->X.env.cells.lookup x=some c:=fun x c h=>by
  rcases Zy1 (PySem.mem_of_lookup h) with z | ⟨f,a⟩
  ·cases z
  ·obtain⟨m,e⟩:=d _ f rfl
   rw[show X.env.cells.lookup x=some m from e] at a ⊢;rw[a];rfl
 refine⟨Yc9 d,hc,hk,hn,b,fun x h=>?_,hl,fun j i h=>?_⟩
 ·have k:(x,NameKind.free)∈scope.names:=by
   rcases h with h | h
   ·exact Zn8 h (.inl rfl) hc
   ·exact Zn8 h (.inr rfl) hc
  obtain⟨c,q⟩:=Zy2 (cells:=X.env.cells) (acc:=[]) (.inl k);exact Yc0 q
 ·unfold Wd3 at cap
  rw[List.all_eq_true] at cap;have l:j < ci.length:=(List.getElem?_eq_some_iff.mp h).1;have q:=cap j (List.mem_range.mpr l);rw[h] at q
  cases e:N'[nt+j]? with
  | none=>rw[e] at q;cases q
  | some x =>
   rw[e] at q;simp only[Bool.and_eq_true,beq_iff_eq] at q;refine⟨x,rfl,by rw[hN];exact q.1.1,by rw[hs];exact q.1.2,.inl (Zn9 ok.kind ?_ q.2)⟩;show X.env.scope.names.lookup x=_;rw[hs];exact q.1.2
end
theorem Same.sqt {K:W.Frag} {H H':Hp} {a:Addr} {xs:List V} (e:Same H H') (h:SqT K H a xs):SqT K H' a xs:=by
 rcases h with (h | ⟨o,h⟩) | h
 ·exact .inl (.inl (e _ _ h))
 ·exact .inl (.inr ⟨o,e _ _ h⟩)
 ·exact .inr h
theorem Same.keepT {K:W.Frag} {H H':Hp} (e:Same H H'):KeepT K H H':=fun _ _ h=>e.sqt h
theorem Za1 {H:Hp} {p:Addr} (h:H p=none) (o:HO):Same H (upd H p o):=fun b u q=>by rw[Zc2 (Zb9 q h)];exact q
theorem KeepT.trans {K:W.Frag} {H H1 H2:Hp} (a:KeepT K H H1) (b:KeepT K H1 H2):KeepT K H H2:=fun x c h=>b x c (a x c h)
theorem Zg4 {K:W.Frag} {H:Hp} {l:Addr} {xs:List V} {o:HO} (h:H l=some (.lst xs)):KeepT K H (upd H l o):=fun a c q=>by
 rcases q with (q | ⟨b,q⟩) | q
 ·exact .inl (.inl (by rw[Zc2 (Wb2 q h (by intro z;cases z))];exact q))
 ·exact .inl (.inr ⟨b,by rw[Zc2 (Wb2 q h (by intro z;cases z))];exact q⟩)
 ·exact .inr q
theorem Zj8 {K:W.Frag} {H:Hp} {l:Addr} {o:HO} (h:H l=none):KeepT K H (upd H l o):=(Za1 h o).keepT
theorem Same.write {H0 H:Hp} {l:Addr} {o:HO} (e:Same H0 H) (h:H0 l=none):Same H0 (upd H l o):=fun b u q=>by
 rw[Zc2 (Zb9 q h)];exact e b u q
theorem Ya2 (CX:CXT) (P:Program) (w:World) (K:W.Frag) (mg:Str->Option Value) (base:Heap) (N:List Str) (qual:Str) (scope:Scope) (f:Addr) (cd:Value) (A:Around) (outer:List Env) (s:Shared) (H:Hp) (E:XK):(cxOf CX P w K mg base N qual scope f cd A outer s H E).K=K:=rfl
theorem Yu1 (X:Cx) (N':List Str) (scope:Scope) (cl:List (Str×Addr)) (s:Shared) (H:Hp) (C:Addr) (ex:List Addr):(blk X N' scope cl s H C ex).K=X.K:=rfl
theorem Zu0 (a b:Int):scal (.int a) (.int b)=true:=rfl
theorem Zc7 (a b:Str):scal (.str a) (.str b)=true:=rfl
theorem Yj3 (a b:Bool):scal (.bl a) (.bl b)=true:=rfl
theorem Zk8 {i j:Int} (h1:-(2 ^ 64) < i) (h2:i < 2 ^ 64):CMul i j:=.inl ⟨h1,h2⟩
theorem Zw9 {i j:Int} (h1:-(2 ^ 64) < j) (h2:j < 2 ^ 64):CMul i j:=.inr ⟨h1,h2⟩
theorem Xg5 {t u:TS} {D:Ends} {σ:St} {H:Hp} (R:St->Hp->Prop) (rest:∀ σ' H',R σ' H'->u D σ' H') (first:∀ C:St->Hp->Prop,(∀ σ' H',R σ' H'->C σ' H')->t { D with nx:=C } σ H):tSeq t u D σ H:=first (u D) rest
theorem sqt {t u:TS} {D:Ends} {σ:St} {H:Hp} (R:St->Hp->Prop) (first:∀ C:St->Hp->Prop,(∀ σ' H',R σ' H'->C σ' H')->t { D with nx:=C } σ H) (rest:∀ σ' H',R σ' H'->u D σ' H'):tSeq t u D σ H:=first (u D) rest
theorem Yg5 {K:W.Frag} {σ0:St} {n:Nat} {lo:Int} {acc:Addr} {g:TG} {te:TE} {Q:VK} {H:Hp} (Pv:Nat->List V->Hp->Prop) (h0:Pv 0 [] (upd H acc (.lst []))) (hl:∀ i ys H2,i<=n->Pv i ys H2->H2 acc=some (.lst ys)/\ys.length < sizeLine)
  (hs:∀ i ys H2,i < n->Pv i ys H2->∀ C:VK,(∀ y H5,H5 acc=some (.lst ys)->Pv (i+1) (ys++[y]) (upd H5 acc (.lst (ys++[y])))->C y H5)->g (.int (lo+i)) σ0 H2 fun σ4 H4=>Wk σ0 σ4/\te σ4 H4 C) (hd:∀ ys H2,Pv n ys H2->Q (.ref acc) H2) :
  ∃ W:Nat->Nat->List V->Hp->Prop,(∃ m,W 0 m [] (upd H acc (.lst [])))/\lcW K σ0 (Itr lo n) acc g te Q W:=by
 refine⟨fun i m ys H2=>m=n - i/\i<=n/\Pv i ys H2,⟨n,by simp,Nat.zero_le _,h0⟩,?_⟩;rintro i m ys H2 ⟨rfl,f,p⟩;obtain⟨a,b⟩:=hl i ys H2 f p;refine⟨a,b,?_⟩
 by_cases hlt:i < n
 ·refine .inr ⟨hlt,fun x h y=>?_⟩
  obtain⟨e,y⟩:=y;subst e y;exact hs i ys _ hlt p _ fun v H5 d c=>⟨d,n - (i+1),by walk_at "o",rfl,hlt,c⟩
 ·have e:i=n:=by walk_at "o"
  subst e;exact .inl ⟨Nat.le_refl _,hd ys H2 p⟩
theorem Zu5 {K:W.Frag} {σ0:St} {a:Addr} {xs:List V} {acc:Addr} {g:TG} {te:TE} {Q:VK} {H:Hp} (Pv:Nat->List V->Hp->Prop) (h0:Pv 0 [] (upd H acc (.lst []))) (hl:∀ i ys H2,i<=xs.length->Pv i ys H2->H2 acc=some (.lst ys)/\ys.length < sizeLine/\SqL K H2 a xs)
  (hs:∀ i x ys H2,xs[i]?=some x->Pv i ys H2->∀ C:VK,(∀ y H5,H5 acc=some (.lst ys)->Pv (i+1) (ys++[y]) (upd H5 acc (.lst (ys++[y])))->C y H5)->g x σ0 H2 fun σ4 H4=>Wk σ0 σ4/\te σ4 H4 C) (hd:∀ ys H2,Pv xs.length ys H2->Q (.ref acc) H2) :
  ∃ W:Nat->Nat->List V->Hp->Prop,(∃ m,W 0 m [] (upd H acc (.lst [])))/\lcW K σ0 (Itl K a) acc g te Q W:=by
 refine⟨fun i m ys H2=>m=xs.length - i/\i<=xs.length/\Pv i ys H2,⟨xs.length,by simp,Nat.zero_le _,h0⟩,?_⟩;rintro i m ys H2 ⟨rfl,d,p⟩;obtain⟨h,f,q⟩:=hl i ys H2 d p;refine⟨h,f,?_⟩
 by_cases hlt:i < xs.length
 ·refine .inr ⟨⟨xs,xs[i],q,by simp[hlt]⟩,fun x j y=>?_⟩
  obtain⟨e,y⟩:=y;subst e;exact hs i x ys _ (y xs q) p _ fun v H5 c b=>⟨c,xs.length - (i+1),by walk_at "o",rfl,hlt,b⟩
 ·have e:i=xs.length:=by walk_at "o"
  subst e;exact .inl ⟨⟨xs,q,Nat.le_refl _⟩,hd ys H2 p⟩
theorem Xn3 {x y:Str} (h:x.cps.toList=y.cps.toList):x=y:=by
 obtain⟨a⟩:=x;obtain⟨b⟩:=y
 have:a=b:=by simpa using congrArg List.toArray h
 rw[this]
theorem Zp1 (x y:Str):(x++y).cps.toList=x.cps.toList++y.cps.toList:=by
 show (x.cps++y.cps).toList=_;simp
theorem Yl6 (x:Str):x.length=x.cps.toList.length:=by simp[Str.length]
theorem Xi3:∀ ys:List Str,(Txt.join Str.empty ys).cps.toList=(ys.map fun y=>y.cps.toList).flatten:=by
 intro ys;show (Builtin.Str.glued Str.empty ys).cps.toList=_;rw[StrLaws.glued_eq_join]
 induction ys with
 | nil=>rfl
 | cons y r ih =>
  cases r with
  | nil=>simp[Str.join]
  | cons z r =>
   show (y++Str.empty++Str.join Str.empty (z :: r)).cps.toList=_;rw[Zp1,Zp1,ih];simp[Str.empty]
theorem Yf4 (x:Str) (a b:Nat) (hab:a<=b) (hb:b<=x.length):(Txt.slice x (some (a:Int)) (some (b:Int))).cps.toList=(x.cps.toList.drop a).take (b - a):=by
 have e:Txt.slice x (some (a:Int)) (some (b:Int))=StrLaws.sliceText x (some (a:Int)) (some (b:Int)):=rfl;rw[e,StrLaws.sliceText_nat x hab hb]
end L2
namespace Ken
open PySem L2
theorem Zd2:bootBuiltins "len"=some (.builtin "len"):=by decide +kernel
theorem Ze3:bootBuiltins "isinstance"=some (.builtin "isinstance"):=by decide +kernel
theorem Xj8:bootBuiltins "max"=some (.builtin "max"):=by decide +kernel
theorem Xj7:bootBuiltins "min"=some (.builtin "min"):=by decide +kernel
theorem Ym4:bootBuiltins "sorted"=some (.builtin "sorted"):=by decide +kernel
theorem Zu8:bootBuiltins "all"=some (.builtin "all"):=by decide +kernel
theorem Xj9:bootBuiltins "int"=some (.type "int"):=by decide +kernel
theorem Zy4:bootBuiltins "bool"=some (.type "bool"):=by decide +kernel
theorem Zh5:bootBuiltins "list"=some (.type "list"):=by decide +kernel
inductive Kd where
 | both | one | thn
 deriving DecidableEq
noncomputable def Kd.str:Kd->Str
 | .both=>"both"
 | .one=>"one"
 | .thn=>"then"
inductive Tm where
 | low
 | ltr (w:Str)
 | nd (k:Kd) (a b:Tm)
 deriving DecidableEq
noncomputable def Tm.data:Tm->PyData
 | .low=>.tuple [.str "low"]
 | .ltr w=>.tuple [.str "letter",.str w]
 | .nd k a b=>.tuple [.str k.str,a.data,b.data]
noncomputable def Tm.parts:Tm->Nat
 | .low=>1
 | .ltr _=>1
 | .nd _ a b=>1+a.parts+b.parts
noncomputable def Tm.deep:Tm->Nat
 | .low=>1
 | .ltr _=>1
 | .nd _ a b=>1+max a.deep b.deep
theorem Tm.parts_pos:∀ t:Tm,1<=t.parts
 | .low=>Nat.le_refl _
 | .ltr _=>Nat.le_refl _
 | .nd _ a b=>by show 1<=1+a.parts+b.parts;walk_at "o"
def Word (x:Str):Prop:=1<=x.cps.toList.length/\x.cps.toList.length<=8/\∀ c∈x.cps.toList,97<=c/\c<=122
theorem Word.strOk {x:Str} (h:Word x):PySem.PyData.strOk x=true:=by
 unfold PySem.PyData.strOk;rw[Array.all_eq_true_iff_forall_mem];intro c a;have:=h.2.2 c (by simpa using a);exact decide_eq_true (by walk_at "o")
def Tm.ok:Tm->Prop
 | .low=>True
 | .ltr w=>Word w
 | .nd _ a b=>a.ok/\b.ok
abbrev IsT (K:W.Frag) (H:Hp) (v:V) (t:Tm):Prop:=Dn K H v t.data
theorem Tm.noList:∀ t:Tm,L2.noList t.data=true
 | .low=>rfl
 | .ltr _=>rfl
 | .nd k a b=>by
  show (true&&(L2.noList a.data&&(L2.noList b.data&&true)))=true;rw[a.noList,b.noList];rfl
theorem Tm.lay:∀ t:Tm,t.ok->t.data.canLay0=true
 | .low,_=>by
  show (PySem.PyData.strOk "low"&&true)=true;decide +kernel
 | .ltr w,h=>by
  show (PySem.PyData.strOk "letter"&&(PySem.PyData.strOk w&&true))=true;rw[Word.strOk h];decide +kernel
 | .nd k a b,h=>by
  show (PySem.PyData.strOk k.str&&(a.data.canLay0&&(b.data.canLay0&&true)))=true;rw[a.lay h.1,b.lay h.2]
  cases k<;>decide +kernel
theorem Tm.depth:∀ t:Tm,t.data.depth=t.deep
 | .low=>rfl
 | .ltr _=>rfl
 | .nd k a b=>by
  show max 0 (max a.data.depth (max b.data.depth 0))+1=1+max a.deep b.deep;rw[a.depth,b.depth];walk_at "o"
section
variable {K:W.Frag} {H H':Hp} {v:V}
theorem IsT.keep {t:Tm} (h:IsT K H v t) (k:KeepT K H H'):IsT K H' v t:=Dn.keepT k t.noList h
theorem isT_low:IsT K H v .low↔∃ a,v=.ref a/\SqT K H a [.str "low"]:=by
 show Dn K H v (.tuple [.str "low"])↔_;rw[Dn];constructor
 ·rintro⟨a,f,rfl,b,c⟩
  rw[DnAll] at c;obtain⟨x,r,rfl,e,d⟩:=c;rw[Dn] at e;rw[DnAll] at d;subst e;subst d;exact⟨a,rfl,b⟩
 ·rintro⟨a,rfl,b⟩
  refine⟨a,_,rfl,b,?_⟩;rw[DnAll];exact⟨_,_,rfl,by rw[Dn],by rw[DnAll]⟩
theorem isT_ltr {w:Str}:IsT K H v (.ltr w)↔∃ a,v=.ref a/\SqT K H a [.str "letter",.str w]:=by
 show Dn K H v (.tuple [.str "letter",.str w])↔_;rw[Dn];constructor
 ·rintro⟨a,h,rfl,b,c⟩
  rw[DnAll] at c;obtain⟨x,r,rfl,g,f⟩:=c;rw[DnAll] at f;obtain⟨y,r,rfl,e,d⟩:=f;rw[Dn] at g e;rw[DnAll] at d;subst g;subst e;subst d;exact⟨a,rfl,b⟩
 ·rintro⟨a,rfl,b⟩
  refine⟨a,_,rfl,b,?_⟩;rw[DnAll];refine⟨_,_,rfl,by rw[Dn],?_⟩;rw[DnAll];exact⟨_,_,rfl,by rw[Dn],by rw[DnAll]⟩
theorem isT_nd {k:Kd} {a b:Tm}:IsT K H v (.nd k a b)↔∃ p x y,v=.ref p/\SqT K H p [.str k.str,x,y]/\IsT K H x a/\IsT K H y b:=by
 show Dn K H v (.tuple [.str k.str,a.data,b.data])↔_;rw[Dn];constructor
 ·rintro⟨p,l,rfl,e,f⟩
  rw[DnAll] at f;obtain⟨x,r,rfl,d,c⟩:=f;rw[DnAll] at c;obtain⟨y,r,rfl,j,h⟩:=c;rw[DnAll] at h;obtain⟨z,r,rfl,i,g⟩:=h;rw[Dn] at d;rw[DnAll] at g;subst d;subst g;exact⟨p,y,z,rfl,e,j,i⟩
 ·rintro⟨p,x,y,rfl,e,d,c⟩
  refine⟨p,_,rfl,e,?_⟩;rw[DnAll];refine⟨_,_,rfl,by rw[Dn],?_⟩;rw[DnAll];refine⟨_,_,rfl,d,?_⟩;rw[DnAll];exact⟨_,_,rfl,c,by rw[DnAll]⟩
end
theorem Xq6 (a b c d e f:PyData):PyData.eqvAll [a,b,c] [d,e,f]=(PyData.eqv a d&&(PyData.eqv b e&&PyData.eqv c f)):=by
 simp[PyData.eqvAll]
theorem Kd.str_inj {a b:Kd} (h:a.str=b.str):a=b:=by
 cases a<;>cases b<;>first | rfl | exact absurd h (by decide)
theorem Tm.eqv:∀ s t:Tm,PyData.eqv s.data t.data=decide (s=t)
 | .low,.low=>by decide
 | .low,.ltr w=>by
  show PyData.eqvAll [.str "low"] [.str "letter",.str w]=_;simp[PyData.eqvAll]
 | .low,.nd k a b=>by
  show PyData.eqvAll [.str "low"] [.str k.str,a.data,b.data]=_;simp[PyData.eqvAll]
 | .ltr w,.low=>by
  show PyData.eqvAll [.str "letter",.str w] [.str "low"]=_;simp[PyData.eqvAll]
 | .ltr w,.ltr v=>by
  show (PyData.eqv (.str "letter") (.str "letter")&&(PyData.eqv (.str w) (.str v)&&true))=_;simp[PyData.eqv];rfl
 | .ltr w,.nd k a b=>by
  show PyData.eqvAll [.str "letter",.str w] [.str k.str,a.data,b.data]=_;simp[PyData.eqvAll]
 | .nd k a b,.low=>by
  show PyData.eqvAll [.str k.str,a.data,b.data] [.str "low"]=_;simp[PyData.eqvAll]
 | .nd k a b,.ltr w=>by
  show PyData.eqvAll [.str k.str,a.data,b.data] [.str "letter",.str w]=_;simp[PyData.eqvAll]
 | .nd k a b,.nd l c d=>by
  show PyData.eqvAll [.str k.str,a.data,b.data] [.str l.str,c.data,d.data]=_;rw[Xq6,a.eqv c,b.eqv d]
  have e:PyData.eqv (.str k.str) (.str l.str)=decide (k=l):=by
   show (k.str == l.str)=_
   by_cases h:k=l
   ·subst h;simp
   ·have:¬ k.str=l.str:=fun z=>h (Kd.str_inj z)
    rw[decide_eq_false h];exact beq_eq_false_iff_ne.mpr this
  rw[e]
  by_cases h1:k=l<;>by_cases h2:a=c<;>by_cases h3:b=d<;>simp[h1,h2,h3]
noncomputable def mix (c k:Int):Int:=((c+1)*(48271+118*k) % 2147483629 / 977*16807+(c+1)*(48271+118*k) % 2147483629*(k*k+7)+k) % 2147483587
theorem Zm2 (c k:Int):0<=mix c k:=by unfold mix;exact Int.emod_nonneg _ (by decide)
def Zp4:Sp:=fun vs H Q _=>∃ c k:Int,vs=[.int c,.int k]/\0<=k/\k<=100000/\Q (.int (mix c k)) H
noncomputable def cellOf (ns:List Int) (k:Int):Int:=mix (if k < (ns.length:Int) then (ns[k.toNat]?.getD 0) % 2147483647 else 0) (k+101)
theorem Xd1 (ns:List Int) (k:Int):0<=cellOf ns k:=Zm2 _ _
def Yj2 (K:W.Frag):Sp:=fun vs H Q _=>∃ (a:Addr) (ns:List Int) (k:Int),vs=[.ref a,.int k]/\SqL K H a (ns.map V.int)/\ns.length<=63/\0<=k/\k<=1000/\Q (.int (cellOf ns k)) H
def Yi1 (ws:List Str):Prop:=2<=ws.length/\ws.length<=6/\∀ w∈ws,Word w
def Tm.inW (ws:List Str):Tm->Prop
 | .low=>True
 | .ltr w=>w∈ws
 | .nd _ a b=>a.inW ws/\b.inW ws
theorem Tm.inW.ok {ws:List Str} (hw:∀ w∈ws,Word w):∀ {t:Tm},t.inW ws->t.ok
 | .low,_=>trivial
 | .ltr w,h=>hw w h
 | .nd _ a b,h=>⟨Tm.inW.ok hw h.1,Tm.inW.ok hw h.2⟩
def Made (K:W.Frag) (H:Hp) (ws:List Str) (p d:Nat) (r:V) (t:Tm):Prop:=IsT K H r t/\t.inW ws/\t.parts<=p/\t.deep<=d
theorem Made.mono {K:W.Frag} {H H':Hp} {ws:List Str} {p d p' d':Nat} {r:V} {t:Tm} (h:Made K H ws p d r t) (k:KeepT K H H') (hp:p<=p') (hd:d<=d'):Made K H' ws p' d' r t :=
 ⟨h.1.keep k,h.2.1,Nat.le_trans h.2.2.1 hp,Nat.le_trans h.2.2.2 hd⟩
section
variable {K:W.Frag} {H:Hp} {p:Addr}
theorem Yp3 (ws:List Str) (hp:H p=none):Made K (upd H p (.tup [.str "low"])) ws 1 1 (.ref p) .low :=
 ⟨isT_low.mpr ⟨p,rfl,.inl (.inl Za3)⟩,trivial,Nat.le_refl _,Nat.le_refl _⟩
theorem Xh9 {ws:List Str} {w:Str} (hw:w∈ws) (hp:H p=none):Made K (upd H p (.tup [.str "letter",.str w])) ws 1 1 (.ref p) (.ltr w) :=
 ⟨isT_ltr.mpr ⟨p,rfl,.inl (.inl Za3)⟩,hw,Nat.le_refl _,Nat.le_refl _⟩
theorem Yz8 {ws:List Str} {k:Kd} {x y:V} {a b:Tm} {pa da pb db:Nat} (ha:Made K H ws pa da x a) (hb:Made K H ws pb db y b) (hp:H p=none) :
  Made K (upd H p (.tup [.str k.str,x,y])) ws (1+pa+pb) (1+max da db) (.ref p) (.nd k a b):=by
 refine⟨isT_nd.mpr ⟨p,x,y,rfl,.inl (.inl Za3),ha.1.keep (Zj8 hp),hb.1.keep (Zj8 hp)⟩,⟨ha.2.1,hb.2.1⟩,?_,?_⟩
 ·show 1+a.parts+b.parts<=_
  have:=ha.2.2.1;have:=hb.2.2.1;walk_at "o"
 ·show 1+max a.deep b.deep<=_
  have:=ha.2.2.2;have:=hb.2.2.2;walk_at "o"
end
theorem Zo5 {α:Type} {xs:List α} {i:Int} (h0:0<=i) (h1:i < (xs.length:Int)):∃ v,v∈xs/\atI xs i=some v:=by
 obtain⟨j,rfl⟩:=Int.eq_ofNat_of_zero_le h0
 have a:j < xs.length:=by walk_at "o"
 exact⟨xs[j],List.getElem_mem a,Zd5 (List.getElem?_eq_getElem a)⟩
theorem small1M {n:Nat} (h:n<=1000000):n < sizeLine:=Nat.lt_of_le_of_lt h (by rw[sizeLine_eq];decide)
theorem isT_tup {K:W.Frag} {H:Hp} {v:V} {t:Tm} (h:IsT K H v t):∃ a xs,v=.ref a/\SqT K H a xs:=by
 cases t with
 | low=>obtain⟨a,rfl,b⟩:=isT_low.mp h;exact⟨a,_,rfl,b⟩
 | ltr w=>obtain⟨a,rfl,b⟩:=isT_ltr.mp h;exact⟨a,_,rfl,b⟩
 | nd k x y=>obtain⟨a,d,c,rfl,b,_,_⟩:=isT_nd.mp h;exact⟨a,_,rfl,b⟩
theorem Zn2 {ds:List PyData} (h:∀ d∈ds,d.canLay0=true):(PyData.list ds).canLay0=true:=by
 show PyData.canLayAll0 ds=true
 induction ds with
 | nil=>rfl
 | cons d ds ih =>
  show (d.canLay0&&PyData.canLayAll0 ds)=true;rw[h d List.mem_cons_self,ih fun e a=>h e (List.mem_cons_of_mem _ a)];rfl
def Yw2 (K:W.Frag):Sp:=fun vs H Q _=>∃ (a:Addr) (ns:List Int),vs=[.ref a]/\SqL K H a (ns.map V.int)/\ns.length<=63/\∀ H',Q (.bl true) H'
theorem paired_get {α β:Type} {F:α->β->Prop}:∀ {l:List α} {m:List β} {i:Nat} {x:α},Paired F l m->l[i]?=some x->∃ y,m[i]?=some y/\F x y
 | _,_,0,_,.cons h t,e=>by cases e;exact⟨_,rfl,h⟩
 | _,_,i+1,_,.cons h t,e=>paired_get (i:=i) t (by simpa using e)
end Ken
namespace L2
open PySem PySem.Spec PyProof.Rows
theorem Yk4 {X:Cx} {K:W.Frag} {pos:Pos} {es:List Expr} {k:Nat} {t:TGs} {n:Nat} (hc:X.calm=true) (hK:X.K=K) (h:PGs X es t)
  (hn:(assignEach es X.env).length=n) (hst:(assignEach es X.env).findIdx? (·.1)=none):PG X (.Tuple es k pos) (gTup K n t):=hK▸Zo0 hc h hn hst
end L2
namespace Ken
open PySem L2
theorem Zz1 {α β:Type} {F:α->β->Prop}:∀ {l:List α} {m:List β},Paired F l m->Paired F l.reverse m.reverse
 | _,_,.nil=>.nil
 | _,_,.cons h t=>by rw[List.reverse_cons,List.reverse_cons];exact Paired.snoc (Zz1 t) h
theorem Zc8 {α β:Type} {F:α->β->Prop}:∀ {l l':List α} {m m':List β},Paired F l m->Paired F l' m'->Paired F (l++l') (m++m')
 | _,_,_,_,.nil,q=>q
 | _,_,_,_,.cons h t,q=>.cons h (Zc8 t q)
end Ken
namespace L2
open PySem PySem.Spec PyProof.Rows
section
variable {X:Cx}
theorem Zr9 {K:W.Frag} (hK:X.K=K):Zs1 X (.type "list") (fun xs H Q=>∃ p ys,xs=[.ref p]/\(SqL K H p ys∨SqT K H p ys)/\∀ l,H l=none->Q (.ref l) (upd H l (.lst ys))):=hK▸Zf0
theorem Xi4 {K:W.Frag} (hK:X.K=K):IxR X (rIxL K):=hK▸Xb1
theorem Zl2 {K:W.Frag} (hK:X.K=K):IxR X (rIxT K):=hK▸Xl3
end
noncomputable abbrev TK:=St->Hp->(Hp->Prop)->Prop
def Xc7 (σ0:St) (J:It) (g:TG) (tk:TK) (Q:Hp->Prop) (W:Nat->Nat->Hp->Prop):Prop :=
 ∀ i m H2,W i m H2->(J.stop i H2/\Q H2)∨(J.go i H2/\∀ x H3,J.yld i H2 x H3->g x σ0 H3 fun σ4 H4=>Wk σ0 σ4/\tk σ4 H4 fun H5=>∃ m',m' < m/\W (i+1) m' H5)
def PTn (Y:Cx) (body:Sem Unit) (tk:TK):Prop:=∀ (pins:List (Addr×Obj)) (s:Shared) (σ:St) (H:Hp) (N:Hp->Prop),Inv Y pins σ H s->tk σ H N ->
 wpAny (model Y.prog Y.w) Y.A body (fun _ s'=>∃ σ' H',Inv Y pins σ' H' s'/\Wk σ σ'/\N H') Y.xe s
def Yi2 (e:Expr) (d:Nat) (tg:Expr) (p:Pos) (acc:Value) (env:Env) (body:Sem Unit):Prop:=∀ it,compTurn e d it acc env=(standAt p >>= fun _=>pyNext it >>= fun r=>match r with
   | none=>pure (.done .next)
   | some v=>letOwnedTupleGo tg it v >>= fun _=>assign tg env v >>= fun _=>body >>= fun _=>again (.compLoop e d it acc env))
def Xk2 (prog:Program) (w:World) (A:Around) (e:Expr) (d:Nat) (acc:Value) (env:Env):Prop:=∀ it,
 (model prog w).den (.compLoop e d it acc env)=(compTurn e d it acc env).onRaise (fun x=>do noteFrame x env;theTreesLotGoes x)/\A.under (.compLoop e d it acc env)=A /\
 (∃ p,(model prog w).den (.compStart e d it acc env)=(compStart e d it acc env).onRaise (fun x=>do noteFrame x env;standAt p))/\A.under (.compStart e d it acc env)=A
theorem Xc6 {Y:Cx} {e tg:Expr} {d:Nat} {p:Pos} {g:TG} {tk:TK} {it:Addr} {acc:Value} {body:Sem Unit} {fp:List Addr} {tn:Nat->Heap->Prop} {J:It} {Q:Hp->Prop} {σ0:St} {R:Result->Shared->Prop} {s:Shared} {i0 m0:Nat} {H1:Hp} {W:Nat->Nat->Hp->Prop} {pins:List (Addr×Obj)}
  (hc:Y.calm=true) (hxe:Y.xe=fun _ _=>False) (hden:Xk2 Y.prog Y.w Y.A e d acc Y.env) (eq:Yi2 e d tg p acc Y.env body) (hg:PG Y tg g) (hb:PTn Y body tk) (T:Turn Y.prog Y.w Y.K tg J fp it tn)
  (hfp:∀ (H':Hp),(∀ b∈fp,H' b=none)->∀ b∈fp,FpOk Y pins H' b) (hW:Xc7 σ0 J g tk Q W)
  (hR:∀ s' H',Inv Y pins σ0 H' s'->Q H'->R (.ok .next) s')
  (I:Inv Y pins σ0 H1 s) (hst:tn i0 s.heap) (hfr:∀ b∈fp,H1 b=none) (w:W i0 m0 H1) :
  codeAny (model Y.prog Y.w) Y.A (.compLoop e d (.ref it) acc Y.env) R s:=by
 have k:∀ {M:Model} {A:Around} {env:Env} {E:Value->Shared->Prop} (x:Value) (s:Shared),Y.xe x s->notedBy M A env E x s:=fun x s z=>by rw[hxe] at z;exact z.elim
 refine codeAny_loop rfl (fun n s=>∃ i a,Inv Y pins σ0 a s/\tn i s.heap/\(∀ b∈fp,a b=none)/\W i n a) (fun n s v=>?_) m0 ⟨i0,H1,I,hst,hfr,w⟩;obtain⟨i,a,m,c,f,t⟩:=v;rw[(hden (.ref it)).1,(hden (.ref it)).2.1];refine wpAny_noted ?_;rw[eq];refine wpAny_bind (wpAny_standAt (wpAny_bind ?_));rcases hW i n a t with ⟨h,q⟩ | ⟨y,j⟩
 ·refine thn (T.done Y rfl rfl rfl hc i pins s σ0 a _ m (hfp a f) c h) fun r s1 zq=>?_;obtain⟨hr,I3⟩:=zq
  subst hr;exact wpAny_pure (hR s1 a I3 q)
 ·refine thn (T.item Y rfl rfl rfl hc i pins s σ0 a _ m (hfp a f) c y) fun r s1 zq=>?_;obtain⟨u,hr,h4⟩:=zq
  subst hr;refine wpAny_bind (thn h4 fun _ s5 zq=>?_);obtain⟨x,H5,I5,r5,y5,st5,fr5⟩:=zq;have l:=I5.pinned (hfp H5 fr5) (T.obj _ _ st5);refine wpAny_bind (wpAny_mono (hg _ s5 σ0 H5 x u _ l r5 (j x H5 y5)) (fun _ s6 ⟨σ6,H6,I6,hw6,q6⟩=>?_) k);refine wpAny_bind (wpAny_mono (hb _ s6 σ6 H6 _ I6 q6) (fun _ s8 ⟨σ8,H8,I8,hw8,m',hm',w7⟩=>?_) k);refine wpAny_pure ⟨rfl,m',hm',i+1,H8,?_,?_,fun b hb=>?_,w7⟩
  ·have:=hw6.trans hw8
   exact I8.unpinned.weak this.1.symm this.2
  ·exact T.keep _ _ _ st5 fun b hb o e=>(I8.pin (b,o) (List.mem_append_right _ (List.mem_append_right _ (Zj2 hb e)))).1
  ·obtain⟨o,e,B⟩:=T.obj _ _ st5 b hb
   exact (I8.pin (b,o) (List.mem_append_right _ (List.mem_append_right _ (Zj2 hb e)))).2.1
theorem Zo4 {prog:Program} {w:World} {A:Around} {R:Result->Shared->Prop} {s:Shared} {e:Expr} {d:Nat} {g:Comprehension} {it acc:Value} {env:Env} (hden:Xk2 prog w A e d acc env) (hcl:(clausesOf e)[d]?=some g) (ha:g.is_async=0)
  (h0:codeAny (model prog w) A (.compLoop e d it acc env) R s)
  (h:wpAny (model prog w) A (pyIter it) (fun it' s'=>codeAny (model prog w) A (.compLoop e d it' acc env) R s') (notedBy (model prog w) A env fun x s'=>R (.error x) s') s) :
  codeAny (model prog w) A (.compStart e d it acc env) R s:=by
 refine codeAny_of_tree ?_;obtain⟨p,b⟩:=(hden it).2.2.1;rw[b,(hden it).2.2.2];refine wpAny_notedAt ?_;unfold compStart;rw[hcl]
 have c:((some g).elim false fun x=>x.is_async != 0)=false:=by show (g.is_async != 0)=false;rw[ha];rfl
 rw[c,if_neg Bool.false_ne_true];refine wpAny_bind (wpAny_askSetting ?_);refine wpAny_ite ?_
 split
 ·exact wpAny_pure ⟨rfl,h0⟩
 ·refine wpAny_bind (wpAny_rule (wpAny_bind (wpAny_standAt (wpAny_bind (wpAny_mono h (fun it' s' a=>wpAny_pure ⟨rfl,a⟩) fun _ _ z=>z)))))
theorem Wd2 {prog:Program} {w:World} {A:Around} {elt:Expr} {gens:List Comprehension} {scope:Scope} {pos:Pos} {d:Nat} {acc:Value} {env:Env}:Xk2 prog w A (.ListComp elt gens scope pos) d acc env:=fun a=>⟨rfl,rfl,⟨_,rfl⟩,rfl⟩
noncomputable def Xq8 (elt:Expr) (acc:Value) (env:Env):Sem Unit:=eval elt env >>= fun x=>call (.builtin "list.append") [acc,x] >>= fun _=>pure ()
noncomputable def Wg2 (elt:Expr) (acc:Value) (env:Env):Sem Unit:=eval elt env >>= fun v=>standAt elt.pos >>= fun _=>call (.builtin "set.add") [acc,v] >>= fun _=>pure ()
noncomputable def Wg3 (k v:Expr) (d:Addr) (env:Env):Sem Unit:=eval k env >>= fun kv=>holding [kv] (eval v env) >>= fun vv=>standAt { line:=k.pos.line,col:=k.pos.col,endLine:=v.pos.endLine,endCol:=v.pos.endCol } >>= fun _=>holding [kv,vv] (dictSet d kv vv)
noncomputable def Xm9 (c:Expr) (env:Env) (body:Sem Unit):Sem Unit:=PySem.isTrue c env (eval c env) >>= fun ok=>if ok=true then body else pure ()
noncomputable def Wf6 (e:Expr) (d:Nat) (iter:Expr) (acc:Value) (env:Env):Sem Unit:=eval iter env >>= fun x=>standAt iter.pos >>= fun _=>foldedSetIterable iter env x >>= fun x=>holding [x] (pyIter x) >>= fun it=>runOwn (.compStart e d it acc env) env >>= fun _=>pure ()
theorem Zh0 {elt tg iter c tg2 iter2:Expr} {scope:Scope} {pos:Pos} {acc:Value} {env:Env}:Yi2 (.ListComp elt [⟨tg,iter,[c],0⟩] scope pos) 0 tg iter.pos acc env (Xm9 c env (Xq8 elt acc env)):=fun b=>by
  simp only[compTurn,Xm9,Xq8,Wg2,Wg3,Wf6,List.getElem?_cons_zero,List.getElem?_cons_succ,List.getElem?_nil,List.forIn_cons,List.forIn_nil,bind_assoc,pure_bind,if_true,bne_self_eq_false,Bool.false_eq_true,if_false,Nat.zero_add,Nat.reduceAdd];refine bind_congr fun _=>bind_congr fun r=>?_
  cases r with
  | none=>rfl
  | some v =>
    refine bind_congr fun _=>bind_congr fun _=>?_
    first
      | rfl
      | (refine bind_congr fun a => ?_
         cases a<;>simp)
      | simp
def kApp (te:TE) (acc:Addr):TK:=fun σ H N=>te σ H fun y H5=>∃ ys,H5 acc=some (.lst ys)/\ys.length < sizeLine/\N (upd H5 acc (.lst (ys++[y])))
def Yc3 (tc:TT) (tk:TK):TK:=fun σ H N=>tc σ H fun b H1=>if b=true then tk σ H1 N else N H1
section
variable {Y:Cx}
theorem Zf2 {elt:Expr} {te:TE} {acc:Addr} (he:PE Y elt te):PTn Y (Xq8 elt (.ref acc) Y.env) (kApp te acc):=by
 intro a s b H N I h;refine wpAny_bind (thn (he a s b H _ I h) fun v s7 zq=>?_);obtain⟨y,H7,I7,r7,ys,ha7,hlen,n⟩:=zq;refine wpAny_bind (thn (Zj5 (X:=Y) a s7 b H7 (.ref acc) [y] (.ref acc) [v] (fun _ c=>c=upd H7 acc (.lst (ys++[y]))) I7 rfl (.cons r7 .nil) ⟨acc,ys,y,rfl,rfl,ha7,hlen,rfl⟩) fun _ s8 zq=>?_);obtain⟨_,c,I8,_,e8⟩:=zq;subst e8;exact wpAny_pure ⟨b,_,I8,Wk.refl _,n⟩
theorem Zh2 {c:Expr} {tc:TT} {body:Sem Unit} {tk:TK} (ht:PT Y c tc) (hb:PTn Y body tk):PTn Y (Xm9 c Y.env body) (Yc3 tc tk):=by
 intro a s d H N I h;refine wpAny_bind (thn (ht a s d H _ I h) fun b s1 zq=>?_);obtain⟨H1,I1,q1⟩:=zq
 cases b with
 | true =>
  rw[if_pos rfl] at q1 ⊢;exact hb a s1 d H1 N I1 q1
 | false =>
  rw[if_neg Bool.false_ne_true] at q1 ⊢;exact wpAny_pure ⟨d,H1,I1,Wk.refl _,q1⟩
end
def Ya5 (nt:Nat) (ci:List Nat) (wi:TI) (g:TG) (tk:Addr->TK) (o0:HO):TE:=fun σ H Q=>wi σ H fun J H1=>∀ acc,H1 acc=none->∃ W:Nat->Nat->Hp->Prop,(∃ m,W 0 m (upd H1 acc o0))/\Xc7 (capt nt ci σ) J g (tk acc) (fun H2=>Q (.ref acc) H2) W
section
variable {X:Cx} {scope:Scope} {cl:List (Str×Addr)} {N':List Str} {nt:Nat} {ci:List Nat} {pins:List (Addr×Obj)} {σ:St} {H:Hp} {s:Shared}
theorem Yu0 {o0:HO} (B:BlkOk X scope cl N' nt ci) (I:Inv X pins σ H s) {fp:List Addr} (hf:∀ b∈fp,FpOk X pins H b) (ho:∀ b∈fp,∃ o,s.heap.get? b=some o) {C acc:Addr} {h1:Heap} {tk:Nat}
    (hacc:acc=s.heap.objs.size) (hC:C=s.heap.objs.size+1) (k:∀ b u,s.heap.get? b=some u->h1.get? b=some u) (ns:h1.Ns C fun _=>none) (ha:ObjOk X.prog X.w (upd H acc o0) h1 acc o0) :
    Inv (blk X N' scope cl s H C fp) [] (capt nt ci σ) (upd H acc o0) { s with heap:=h1,toks:=tk }:=by
  have hn:H acc=none:=I.hok.fresh (by rw[hacc];exact Nat.le_refl _);have M:H C=none:=I.hok.fresh (by rw[hC];exact Nat.le_succ _)
  have n:∀ x c,cl.lookup x=some c->c < s.heap.objs.size:=fun x c e=>by
    obtain⟨v,q⟩:=I.cell x c (B.sub x c e);exact q.lt
  refine⟨⟨I.ok.mod,B.kind,I.ok.glob,I.ok.blt,?_,fun x y c L f=>I.ok.inj x y c (B.sub _ _ L) (B.sub _ _ f),fun x Y=>B.has x Y,fun x c (z:false=true)=>Bool.noConfusion z,fun hc=>I.ok.hd hc,I.ok.frames,.inl rfl,fun b g=>?_,I.bs,?_,fun b o e g=>?_,fun b g=>?_,I.stack,fun b g=>I.stkFree b g⟩,
    rfl,I.bare,Un.laid (a:=acc) (o:=o0) k (by rw[hacc];exact Nat.le_refl _) hn,⟨_,ns,fun i x v L f e3=>?_⟩,fun x c e=>?_,?_,fun x c e=>?_,fun p Z=>absurd (show p∈([]:List (Addr×Obj)) from Z) (by simp),I.hok.laid k (by rw[hacc];exact Nat.le_refl _) ha,?_⟩
  · show s.heap.objs.size<=C
    rw[hC];exact Nat.le_succ _
  · obtain⟨O,G,F,D,A,N⟩:=hf b g
    obtain⟨o,e⟩:=ho b g;refine⟨?_,fun x c e'=>A x c (B.sub x c e')⟩;show b≠C;rw[hC];exact Nat.ne_of_lt (Nat.lt_succ_of_lt (Heap.lt_size e))
  · exact Nat.le_trans I.ok.bsz I.sz
  · obtain⟨O,G,F,D,A,N⟩:=hf b g
    rcases D with z | z
    · exact I.ok.noex b o e z
    · exact absurd (Nat.lt_of_lt_of_le (Heap.lt_size e) (Nat.le_trans I.ok.bsz z)) (Nat.lt_irrefl _)
  · intro z
    obtain⟨O,G,F,D,A,N⟩:=hf b g;rcases List.mem_cons.mp (I.stkSub b z) with y | y
    · exact G y
    · exact F y
  ·
    obtain⟨m,hm,hl⟩:=I.loc;unfold capt at f
    by_cases hi:i < nt
    · rw[List.getElem?_append_left (by simpa using hi),List.getElem?_replicate] at f
      split at f<;>cases f
    · rw[List.getElem?_append_right (by simpa using hi),List.length_replicate,List.getElem?_map] at f
      cases q:ci[i - nt]? with
      | none=>rw[q] at f;cases f
      | some j =>
        rw[q] at f;have h:(σ[j]?).join=some v:=Option.some.inj f;obtain⟨y,U,a2,T,S⟩:=B.cap _ j q
        have ei:nt+(i - nt)=i:=by walk_at "o"
        rw[ei,show N'[i]?=some x from L] at U;cases U
        have J:σ[j]?=some (some v):=by
          cases z:σ[j]? with
          | none=>rw[z] at h;cases h
          | some w=>rw[z] at h;exact congrArg some h
        obtain⟨u,r,l⟩:=hl j x v a2 J (.inr (.inl T));refine⟨u,r,.inr ⟨S,?_⟩⟩;rcases l with ⟨W,_⟩ | ⟨_,c,c1,c2⟩
        · have t:X.env.scope.names.lookup x=some .local:=W
          rw[T] at t;cases t
        · obtain⟨c',R⟩:=B.has x S
          have:=B.sub x c' R;rw[c1] at this;cases this;exact⟨c,R,let ⟨o,e,d⟩:=c2;⟨o,k _ _ e,d⟩⟩
  · obtain⟨v,q⟩:=I.cell x c (B.sub x c e)
    exact⟨v,let ⟨o,e,d⟩:=q;⟨o,k _ _ e,d⟩⟩
  · show upd H acc o0 C=none
    rw[Zc2 (by rw[hacc,hC];exact Nat.succ_ne_self _)];exact M
  · have V:=n x c e
    rw[Zc2 (by rw[hacc];exact Nat.ne_of_lt V)];exact I.freeC x c (B.sub x c e)
  · show (capt nt ci σ).length=N'.length
    unfold capt;rw[List.length_append,List.length_replicate,List.length_map,B.len]
theorem Xd0 {e:Expr} {gs:List Comprehension} {ifs:List Expr} {body:Addr->Env->Sem Unit} {newAcc:Sem Value} {ob:Obj} {o0:HO} {p0:Pos} {tk:Addr->TK} {tg iter:Expr} {pos':Pos} {wi:TI} {g:TG} {use:Option (Value->Sem Unit)} {Q:VK} {Qf:Value->Shared->Prop} (B:BlkOk X scope cl N' nt ci) (hc:X.calm=true) (hi:PI X tg iter wi)
  (hg:∀ s H C ex,PG (blk X N' scope cl s H C ex) tg g) (hcl:clausesOf e=⟨tg,iter,ifs,0⟩ :: gs) (hden:∀ acc env,Xk2 X.prog X.w X.A e 0 acc env) (htn:∀ a env,Yi2 e 0 tg p0 (.ref a) env (body a env))
  (hb:∀ s H C ex a,PTn (blk X N' scope cl s H C ex) (body a (blk X N' scope cl s H C ex).env) (tk a)) (hnew:∀ {M:Model} {A:Around} {E:Value->Shared->Prop} {s:Shared} {Q:Value->Shared->Prop},Q (.ref s.heap.objs.size) { s with heap:=s.heap.push ob }->wpAny M A newAcc Q E s)
  (hfree:ob.isFreed=false) (hobj:∀ (H:Hp) (h:Heap) (a:Addr),h.get? a=some ob->sysModules < a->ObjOk X.prog X.w (upd H a o0) h a o0) (hs:∀ x,foldedSetIterable iter X.env x=pure x) (I:Inv X pins σ H s) (h:Ya5 nt ci wi g tk o0 σ H Q)
  (fin:∀ (acc C:Addr) (s':Shared) (H':Hp),Inv X pins σ H' s'->Q (.ref acc) H'->(∃ m,s'.heap.Ns C m)->FpOk X pins H' C->(∃ o,s'.heap.get? C=some o/\∀ v,o.data≠.cell v)->compPost (model X.prog X.w) X.A X.xe use Qf (.ref acc) C (.ok .next) s') :
  wpAny (model X.prog X.w) X.A (comprehension e scope X.env pos' newAcc false (eval iter X.env) use) Qf X.xe s:=by
 refine wpAny_comprehension_free (use:=use) hcl hs B.clos B.kind B.names (thn (hi pins s σ H _ I h) fun v s1 h1=>thn h1 fun q0 f h2=>?_);obtain⟨it,r,tn,J,D,e,j,T,i,t,q2⟩:=h2;subst e;have R:D f.heap.objs.size=none:=j.hok.fresh (Nat.le_refl _);obtain⟨W,⟨m0,w0⟩,hW⟩:=q2 f.heap.objs.size R;refine hnew (wpAny_newFunctionEnv B.cell (by intro y hy;simp at hy) (fun h₁ hns₁ hsb₁=>?_) B.kind);dsimp only at hns₁ hsb₁ ⊢;have n:(f.heap.push ob).objs.size=f.heap.objs.size+1:=Heap.size_push ..;have V:∀ b u,f.heap.get? b=some u->h₁.get? b=some u:=fun b u e=>hsb₁.extBut b u (by rw[n];exact Nat.ne_of_lt (Nat.lt_succ_of_lt (Heap.lt_size e))) (Heap.get?_push_of_some _ (Heap.get?_push_of_some _ e));have a1:h₁.get? f.heap.objs.size=some ob:=hsb₁.extBut _ _ (by rw[n];exact Nat.ne_of_lt (Nat.lt_succ_self _)) (Heap.get?_push_of_some _ (Heap.get?_push_size _ hfree));rw[n] at hns₁ ⊢;have L:sysModules < f.heap.objs.size:=j.big;have I3:=Yu0 (o0:=o0) (tk:=f.toks+([]:List (Str×Value)).length) B j t (fun b hb=>let ⟨o,e,_⟩:=T.obj _ _ i b hb;⟨o,e⟩) rfl rfl V (by simpa using hns₁) (hobj _ _ _ a1 L)
 have O:∀ (H':Hp),(∀ b∈r,H' b=none)->∀ b∈r,FpOk (blk X N' scope cl f D (f.heap.objs.size+1) r) [] H' b:=fun H' hn b hb=>by
  obtain⟨f0,U,f3,f4,S,Z⟩:=t b hb;obtain⟨o,e,_⟩:=T.obj _ _ i b hb;refine⟨hn b hb,?_,fun z=>?_,.inl hb,fun x c e'=>S x c (B.sub x c e'),fun p hp=>absurd (show p∈([]:List (Addr×Obj)) from hp) (by simp)⟩
  ·exact Nat.ne_of_lt (Nat.lt_succ_of_lt (Heap.lt_size e))
  ·rcases List.mem_cons.mp (j.stkSub b z) with y | y
   ·exact U y
   ·exact f3 y
 have N:∀ b∈r,upd D f.heap.objs.size o0 b=none:=fun b hb=>by
  obtain⟨o,e,_⟩:=T.obj _ _ i b hb;rw[Zc2 (Nat.ne_of_lt (Heap.lt_size e))];exact (t b hb).1
 have F:tn 0 h₁:=T.keep _ _ _ i fun b _ o e=>V b o e;have l:codeAny (model X.prog X.w) X.A (.compLoop e 0 (.ref it) (.ref f.heap.objs.size) (compEnvC scope cl (f.heap.objs.size+1) X.env))
   (compPost (model X.prog X.w) X.A X.xe use Qf (.ref f.heap.objs.size) (f.heap.objs.size+1)) { f with heap:=h₁,toks:=f.toks+([]:List (Str×Value)).length }:=by
  refine Xc6 (Y:=blk X N' scope cl f D (f.heap.objs.size+1) r) (Q:=fun H'=>Q (.ref f.heap.objs.size) H') hc rfl (hden _ _) (htn _ _) (hg _ _ _ _) (hb _ _ _ _ _) T O hW (fun s' H' k q=>?_) I3 F N w0;have un:=k.base;have ns:=k.loc;have fC:H' (f.heap.objs.size+1)=none:=k.free
  have I4:Inv X pins σ H' s':=j.call' k.os un k.hok k.bare fun b hb=>by
   obtain⟨f0,U,f3,f4,S,Z⟩:=t b hb;exact⟨f4,U,S,Z⟩
  obtain⟨m,hm,_⟩:=ns;have G:s'.heap.Ns (f.heap.objs.size+1) m:=hm;refine fin _ _ s' H' I4 q ⟨m,G⟩ (j.fpOk (Nat.le_succ _) fC) ?_;obtain⟨o,es,ep,e,d,_⟩:=G;exact⟨o,e,fun v z=>by rw[d] at z;cases z⟩
 exact Zo4 (hden _ _) (by rw[hcl];rfl) rfl l (T.self _ _ _ _ _ F l)
theorem Xa1 {P:Program} {w:World} (H:Hp) (h:Heap) (a:Addr) (e:h.get? a=some { cls:=.type "list",dict:=none,data:=.seq ([]:List Value).toArray }) (_:sysModules < a):ObjOk P w (upd H a (.lst [])) h a (.lst []):=⟨Nat.zero_le _,[],0,.nil,e⟩
theorem Zt1 {elt tg iter:Expr} {ifs:List Expr} {gs:List Comprehension} {pos p0:Pos} {wi:TI} {g:TG} {tk:Addr->TK} {body:Addr->Env->Sem Unit} (B:X.Ok->BlkOk X scope cl N' nt ci) (hc:X.calm=true) (hi:PI X tg iter wi)
  (hg:∀ s H C ex,PG (blk X N' scope cl s H C ex) tg g) (htn:∀ a env,Yi2 (.ListComp elt (⟨tg,iter,ifs,0⟩ :: gs) scope pos) 0 tg p0 (.ref a) env (body a env))
  (hb:∀ s H C ex a,PTn (blk X N' scope cl s H C ex) (body a (blk X N' scope cl s H C ex).env) (tk a)) (hs:∀ x,foldedSetIterable iter X.env x=pure x:=by intro _;rfl) :
  PE X (.ListComp elt (⟨tg,iter,ifs,0⟩ :: gs) scope pos) (Ya5 nt ci wi g tk (.lst [])):=by
 intro j s w H Q I h;rw[eval_ListComp];refine Xd0 (B I.ok) hc hi hg rfl (fun _ _=>Wd2) htn hb (fun h=>wpAny_newObj_type h) rfl Xa1 hs I h fun d C i v u q c k y=>?_;obtain⟨m,c⟩:=c;obtain⟨t,r,A,p,n,l⟩:=k;exact⟨m,c,fun z f=>⟨.ref d,v,u.turned (t':=i.toks) (fun b o hb e=>(f.2 b hb).trans e) t r p n l,rfl,q⟩⟩
theorem Zl9 {i:Nat} {x:Str} {elt tg iter:Expr} {ifs:List Expr} {gs:List Comprehension} {pos spos pos' p0:Pos} {wi:TI} {g:TG} {tk:Addr->TK} {body:Addr->Env->Sem Unit} (hN:X.N.Nodup) (hi:X.N[i]?=some x) (hx:Loc X.env.scope x) (B:X.Ok->BlkOk X scope cl N' nt ci) (hc:X.calm=true) (hit:PI X tg iter wi)
  (hg:∀ s H C ex,PG (blk X N' scope cl s H C ex) tg g) (htn:∀ a env,Yi2 (.ListComp elt (⟨tg,iter,ifs,0⟩ :: gs) scope pos) 0 tg p0 (.ref a) env (body a env))
  (hb:∀ s H C ex a,PTn (blk X N' scope cl s H C ex) (body a (blk X N' scope cl s H C ex).env) (tk a)) (hsw:swapsWith (.ListComp elt (⟨tg,iter,ifs,0⟩ :: gs) scope pos) (some (.Name x pos')) spos.line X.env=pure true)
  (hs:∀ x,foldedSetIterable iter X.env x=pure x:=by intro _;rfl) (hf:X.fn x=true∨X.env.scope.names.lookup x=some .local:=by first | exact .inl rfl | exact .inr rfl | assumption) :
  PS X (.Assign [.Name x pos'] (.ListComp elt (⟨tg,iter,ifs,0⟩ :: gs) scope pos) spos) (tAsg (Ya5 nt ci wi g tk (.lst [])) (Zx6 i)):=by
 intro c s l H D I h;rw[exec_Assign_Name_used _ _ _ _ hsw];refine wpAny_bind (wpAny_standAt (wpAny_bind ?_));rw[arm_evalThenUse_ListComp];refine wpAny_bind (Xd0 (B I.ok) hc hit hg rfl (fun _ _=>Wd2) htn hb (fun h=>wpAny_newObj_type h) rfl Xa1 hs I h fun f C s' k w q j n F=>?_);obtain⟨u,t,R,O,M,L⟩:=n;obtain⟨m,j⟩:=j;obtain⟨o,e,d⟩:=F
 have W:Inv X (c++[(C,o)]) l k s':=w.pins_of fun p A=>(List.mem_append.mp A).elim (fun z=>w.pin p (List.mem_append_right _ z)) fun z=>by
  have V:p=(C,o):=by simpa using z
  subst V;exact⟨e,u,t,R,d⟩
 refine wpAny_assign_Name (Zm8 W hN hi hx (show RelV (.ref f) (Value.ref f) from rfl) (fun s2 v=>?_) hf);have U:=(v.pin (C,o) (List.mem_append_right _ (List.mem_append_right _ (by simp)))).1;obtain⟨Z,S,T,r,J,G⟩:=j;rw[e] at r;cases r;refine⟨m,⟨o,S,T,U,J,G⟩,fun h' y=>wpAny_pure (wpAny_pure ?_)⟩;have Y:Inv X c (l.set i (some (.ref f))) k s2:=v.unpinned;exact⟨_,k,Y.turned (t':=s2.toks) (fun b o hb e=>(y.2 b hb).trans e) u t O M L,q⟩
end
end L2
namespace Ken
open PySem L2
noncomputable abbrev gd (p:Array Nat) (k:Nat):Nat:=p.getD k 0
theorem Xq3 {p:Array Nat} {k x:Nat} (h:p[k]?=some x):gd p k=x:=by simp[gd,Array.getD_eq_getD_getElem?,h]
structure PermOk (n:Nat) (p:Array Nat):Prop where
 size:p.size=n
 low:∀ k,k < n->gd p k < n
 inj:∀ i j,i < n->j < n->gd p i=gd p j->i=j
theorem Zg2 {n:Nat} {p:Array Nat} (h:p.Perm (List.range n).toArray):PermOk n p:=by
 have b:p.size=n:=by have:=h.size_eq;simpa using this
 have c:p.toList.Perm (List.range n):=by simpa using (Array.perm_iff_toList_perm.mp h)
 have d:p.toList.Nodup:=c.nodup_iff.mpr List.nodup_range
 have g:∀ k (a:k < n),gd p k=p.toList[k]'(by simp[b,a]):=fun k a=>by
  have:k < p.size:=by walk_at "o"
  exact Xq3 (by simp[this])
 refine⟨b,fun k a=>?_,fun i j l f e=>?_⟩
 ·rw[g k a]
  have:p.toList[k]'(by simp[b,a])∈List.range n:=c.mem_iff.mp (List.getElem_mem _)
  simpa using this
 ·rw[g i l,g j f] at e
  exact (List.getElem_inj d).mp e
section
variable {n:Nat} {lt:Nat->Nat->Bool} {cmp:Nat->Nat->(Bool->Shared->Prop)->Shared->Prop} {S:Shared->Prop}
def Asks (n:Nat) (lt:Nat->Nat->Bool) (S:Shared->Prop) (cmp:Nat->Nat->(Bool->Shared->Prop)->Shared->Prop):Prop :=
 ∀ i j (C:Bool->Shared->Prop) s,i < n->j < n->i≠j->S s->(∀ s',S s'->C (lt i j) s')->cmp i j C s
theorem Ya8 {p:Array Nat} {m k:Nat} (hm:m<=p.size):gd (W.kas_rev p 0 m) k=if k < m then gd p (m - 1 - k) else gd p k:=by
 have h:=PyProof.Rows.getElem?_mirror_all (xs:=p) (i:=0) (j:=m) hm k;unfold W.kas_rev
 by_cases hk:k < m
 ·rw[if_pos ⟨Nat.zero_le _,hk⟩] at h
  rw[if_pos hk];simp only[gd,Array.getD_eq_getD_getElem?,h]
  congr 2
  walk_at "o"
 ·rw[if_neg (fun z=>hk z.2)] at h
  rw[if_neg hk];simp only[gd,Array.getD_eq_getD_getElem?,h]
theorem Xd9 {p:Array Nat} {k m i:Nat} (hk:k < p.size) (hm:m<=k):gd (PyProof.Rows.bubble p k (k - m)) i=if i=m then gd p k else if m < i/\i<=k then gd p (i - 1) else gd p i:=by
 have h:=PyProof.Rows.getElem?_bubble (xs:=p) (src:=k) hk (k - m) (by walk_at "o") i
 have e:k - (k - m)=m:=by walk_at "o"
 rw[e] at h;simp only[gd,Array.getD_eq_getD_getElem?,h]
 split
 ·rfl
 ·split<;>rfl
end
end Ken
namespace L2
open PySem PySem.Spec PyProof.Rows
theorem Ys0 {prog:Program} {w:World} {A:Around} {E:Value->Shared->Prop} {s:Shared} {a:Addr} {vs:List Value} {n:Nat} {Q:Value->Shared->Prop} (h2:vs.length < 2) (ho:s.heap.get? a=some (seqObj "list" vs.toArray n))
  (h:Q .none { s with heap:=sortedHeap s.heap a vs vs.toArray }):wpAny (model prog w) A (call (.builtin "list.sort") [.ref a]) Q E s:=by
 refine wpAny_call_entry slot_list_sort ⟨_,ho,rfl⟩ entry_list_sort ?_ (args_list_sort (.ref a));rw[list_sort_plain];have j:=Heap.lt_size ho;refine wpAny_bind (listItems_at ho rfl (wpAny_bind (listUpdate_at ho rfl ?_)));obtain⟨d,c⟩:∃ d,(s.heap.update a (Obj.mapSeq fun _=>#[])).get? a=some (seqObj "list" #[] d):=⟨_,get?_update_seq ho fun _=>#[]⟩;refine wpAny_bind (seqEpoch_at c rfl (wpAny_bind (wpAny_newTuple (wpAny_bind (wpAny_newList (wpAny_holding ?_))))));have b:(((s.heap.update a (Obj.mapSeq fun _=>#[])).push (seqObj "tuple" vs.toArray 0)).push (seqObj "list" #[] 0)).get? a=some (seqObj "list" #[] d):=Heap.get?_push_of_some _ (Heap.get?_push_of_some _ c)
 have f:vs.toArray.size < 2:=by simpa using h2
 simp only[if_pos f];refine wpAny_bind (wpAny_pure ?_);rw[StateT.run_pure];refine wpAny_bind (wpAny_pure ?_);dsimp only
 have e:Array.map (fun x=>x.snd) (arrOf (SortSt.mk' general' (vs.toArray.zip vs.toArray) #[] 7 none))=vs.toArray:=by
  show Array.map (fun x=>x.snd) (vs.toArray.zip vs.toArray)=vs.toArray;apply Array.ext';simp[List.map_snd_zip]
 have i:(Array.map (fun x=>x.snd) (arrOf (SortSt.mk' general' (vs.toArray.zip vs.toArray) #[] 7 none))).size<=sizeLine+1:=by
  rw[e]
  have:vs.toArray.size=vs.length:=by simp
  rw[this];exact Nat.le_trans (Nat.le_of_lt h2) (by decide)
 refine wpAny_bind (seqEpoch_at b rfl (wpAny_bind (listUpdate_at b rfl ?_ (hsz2:=i))))
 have g:Q .none { s with heap:=sortedHeap s.heap a vs (Array.map (fun x=>x.snd) (arrOf (SortSt.mk' general' (vs.toArray.zip vs.toArray) #[] 7 none))) }:=by rw[e];exact h
 rw[if_neg (by simp)];exact wpAny_pure ⟨_,rfl,g⟩
noncomputable def sLt (x y:Str):Bool:=decide (x.cps.toList < y.cps.toList)
theorem Xn6 (x:Str):sLt x x=false:=decide_eq_false (List.lt_irrefl _)
theorem Yx1 {x y z:Str} (h:sLt x y=true) (g:sLt y z=true):sLt x z=true:=decide_eq_true (List.lt_trans (of_decide_eq_true h) (of_decide_eq_true g))
theorem Xg6 {x y:Str} (h:sLt x y=true):sLt y x=false:=decide_eq_false (List.lt_asymm (of_decide_eq_true h))
theorem Xn5 {x y:Str} (h:x≠y):sLt x y=true∨sLt y x=true:=by
 rcases Std.lt_trichotomy x.cps.toList y.cps.toList with z | z | z
 ·exact .inl (decide_eq_true z)
 ·exact absurd (Xn3 z) h
 ·exact .inr (decide_eq_true z)
noncomputable def lexT:List Str->List Str->Bool
 | [],[]=>false
 | [],_ :: _=>true
 | _ :: _,[]=>false
 | x :: xs,y :: ys=>if x=y then lexT xs ys else sLt x y
theorem Zi1:∀ {a b c:List Str},lexT a b=true->lexT b c=true->lexT a c=true
 | [],[],c,h,_=>by cases h
 | [],_ :: _,[],_,g=>by cases g
 | [],_ :: _,_ :: _,_,_=>rfl
 | _ :: _,[],c,h,_=>by cases h
 | _ :: _,_ :: _,[],_,g=>by cases g
 | x :: a,y :: b,z :: c,h,g=>by
  unfold lexT at h g ⊢
  by_cases e1:x=y
  ·subst e1
   rw[if_pos rfl] at h
   by_cases e2:x=z
   ·rw[if_pos e2] at g ⊢
    exact Zi1 h g
   ·rw[if_neg e2] at g ⊢
    exact g
  ·rw[if_neg e1] at h
   by_cases e2:y=z
   ·subst e2
    rw[if_neg e1];exact h
   ·rw[if_neg e2] at g
    have hz:=Yx1 h g
    have e3:x≠z:=fun q=>by rw[q,Xn6] at hz;cases hz
    rw[if_neg e3];exact hz
theorem Zm3:∀ {a b:List Str},lexT a b=true->lexT b a=false
 | [],[],h=>by cases h
 | [],_ :: _,_=>rfl
 | _ :: _,[],h=>by cases h
 | x :: a,y :: b,h=>by
  unfold lexT at h ⊢
  by_cases e1:x=y
  ·rw[if_pos e1] at h
   rw[if_pos e1.symm];exact Zm3 h
  ·rw[if_neg e1] at h
   rw[if_neg fun z=>e1 z.symm];exact Xg6 h
theorem Yc1:∀ {a b:List Str},a≠b->lexT a b=true∨lexT b a=true
 | [],[],h=>absurd rfl h
 | [],_ :: _,_=>.inl rfl
 | _ :: _,[],_=>.inr rfl
 | x :: a,y :: b,h=>by
  unfold lexT
  by_cases e1:x=y
  ·rw[if_pos e1,if_pos e1.symm]
   exact Yc1 fun z=>h (by rw[e1,z])
  ·rw[if_neg e1,if_neg fun z=>e1 z.symm]
   exact Xn5 e1
noncomputable def lexF (fin:Bool):List Str->List Str->Bool
 | x :: xs,y :: ys=>if x=y then lexF fin xs ys else sLt x y
 | _,_=>fin
theorem Yg3:∀ (a b:List Str),lexF (decide (a.length < b.length)) a b=lexT a b
 | [],[]=>rfl
 | [],_ :: _=>by simp[lexF,lexT]
 | _ :: _,[]=>by simp[lexF,lexT]
 | x :: a,y :: b=>by
  unfold lexF lexT;rw[<- Yg3 a b]
  have:decide ((x :: a).length < (y :: b).length)=decide (a.length < b.length):=by simp
  rw[this]
section
variable {X:Cx}
theorem Yz2 {P:Program} {w:World} {H:Hp} {h:Heap} {a:Addr} {o:HO} (x:ObjOk P w H h a o):∃ ob,h.get? a=some ob:=by
 cases o with
 | lst xs=>obtain⟨_,_,_,_,e⟩:=x;exact⟨_,e⟩
 | tup xs=>obtain⟨_,_,_,p,e,_⟩:=x;exact⟨_,e⟩
 | dK kvs=>obtain⟨_,_,_,_,o,_,_,e,_⟩:=x;exact⟨_,e⟩
 | dT kvs=>obtain⟨_,_,_,_,o,_,_,e,_⟩:=x;exact⟨_,e⟩
 | set S n=>obtain⟨o,_,_,_,e,_⟩:=x;exact⟨_,e⟩
 | ins C dx fs=>obtain⟨_,_,_,e,_⟩:=x;exact⟨_,e⟩
 | own y=>obtain⟨_,e⟩:=x;exact⟨_,e⟩
 | xd fs=>obtain⟨_,⟨_,_,_,e,_⟩,_⟩:=x;exact⟨_,e⟩
 | rng lo hi=>obtain⟨_,_,_,e⟩:=x;exact⟨_,e⟩
 | frz ob u=>obtain⟨e,_⟩:=x;exact⟨_,e⟩
 | tbl ps=>exact⟨_,show h.get? a=some _ from x⟩
 | met f y=>exact⟨_,show h.get? a=some _ from x⟩
 | ext φ=>obtain⟨_,⟨_,e⟩,_⟩:=x;exact⟨_,e⟩
theorem Xh1 {α:Type} {l:List α} {d:α} {p:Array Nat} (h:p.Perm (List.range l.length).toArray):List.Perm (p.toList.map fun i=>l.getD i d) l:=by
 have c:p.toList.Perm (List.range l.length):=by simpa using (Array.perm_iff_toList_perm.mp h)
 have a:=c.map fun i=>l.getD i d
 have b:(List.range l.length).map (fun i=>l.getD i d)=l:=by
  apply List.ext_getElem?;intro j;rw[List.getElem?_map]
  by_cases hj:j < l.length
  ·rw[List.getElem?_range hj];simp[hj]
  ·rw[List.getElem?_eq_none (by simpa using hj),List.getElem?_eq_none (by walk_at "o")];rfl
 rw[b] at a;exact a
theorem Zw4 {α β:Type} {F:α->β->Prop} {l:List α} {m:List β} {da:α} {db:β} (h:Paired F l m):∀ {is:List Nat},(∀ i∈is,i < l.length)->Paired F (is.map fun i=>l.getD i da) (is.map fun i=>m.getD i db)
 | [],_=>.nil
 | i :: is,hs=>by
  refine .cons ?_ (Zw4 h fun j hj=>hs j (List.mem_cons_of_mem _ hj));have hi:=hs i List.mem_cons_self;obtain⟨y,e,q⟩:=Ken.paired_get h (List.getElem?_eq_getElem hi)
  have e1:l.getD i da=l[i]:=by simp[hi]
  have e2:m.getD i db=y:=by simp[e]
  show F (l.getD i da) (m.getD i db);rw[e1,e2];exact q
theorem Xb3 {pins:List (Addr×Obj)} {σ:St} {H:Hp} {s:Shared} {h2:Heap} {D:Addr} {o0:HO} {tk:Nat} {m:Str->Option Value} (I:Inv X pins σ H s) (hm:s.heap.Ns X.env.locals m) (hk:∀ b o,b≠X.env.locals->s.heap.get? b=some o->h2.get? b=some o) (hn:h2.Ns X.env.locals m) (hD:s.heap.get? D=none)
  (hob:ObjOk X.prog X.w (upd H D o0) h2 D o0):Inv X pins σ (upd H D o0) { s with heap:=h2,toks:=tk }/\H D=none:=by
 have j:H D=none:=by
  cases e:H D with
  | none=>rfl
  | some f =>
   obtain⟨o,h⟩:∃ o,s.heap.get? D=some o:=Yz2 (I.hok D f e);rw[hD] at h;cases h
 have p:∀ b o,s.heap.get? b=some o->b≠D:=fun b o e z=>by subst z;rw[hD] at e;cases e
 have a:∀ b u,H b=some u->b≠D:=fun b u e=>Zb9 e j;refine⟨?_,j⟩;refine I.step (g':=s.gens) (d':=s.drawn) (t':=tk) (ch:=[]) (fun _ z=>nomatch z) (fun b o g _ _ e _=>hk b o g e) (fun b o g _ _ e _=>⟨o.slots,hk b o g e⟩) (fun b o _ e n=>by rw[Zc2 (p b o e)];exact n) (fun b o _ e=>?_)
  (fun b k q=>by rw[Zc2 (a _ _ q)];exact q) (fun b o u q=>by rw[Zc2 (a _ _ q)];exact q) (fun b r q=>⟨#[],by rw[Zc2 (a _ _ q),q];simp⟩) (fun t i=>?_) (fun b f e=>?_) I.bare
 ·by_cases hb:b=X.env.locals
  ·subst hb
   obtain⟨l,x,y,q,_⟩:=hn;exact⟨l,q⟩
  ·exact⟨o,hk b o hb e⟩
 ·rw[i.eq_nsMap,<- hm.eq_nsMap];exact hn
 ·by_cases hb:b=D
  ·subst hb
   rw[Za3] at e;cases e;exact hob
  ·rw[Zc2 hb] at e
   refine (I.hok b f e).stay (fun c v d q=>hk c v ?_ q) (fun c q=>by rw[Zc2 (a _ _ q)];exact q) fun c k q=>by rw[Zc2 (a _ _ q)];exact q
   rcases d with rfl | d
   ·exact Zb9 e I.free
   ·exact Zb9 d I.free
end
theorem Yh3 {K:W.Frag} {a:Addr} {xs:List V} {σ0:St} {g:TG} {tk:TK} {Q:Hp->Prop} {H:Hp} (Pv:Nat->Hp->Prop) (h0:Pv 0 H) (hl:∀ i H,i<=xs.length->Pv i H->SqL K H a xs)
  (hs:∀ i x H (N:Hp->Prop),xs[i]?=some x->Pv i H->(∀ H',Pv (i+1) H'->N H')->g x σ0 H fun σ4 H4=>Wk σ0 σ4/\tk σ4 H4 N) (hd:∀ H,Pv xs.length H->Q H) :
  ∃ W:Nat->Nat->Hp->Prop,(∃ m,W 0 m H)/\Xc7 σ0 (Itl K a) g tk Q W:=by
 refine⟨fun i m H=>m=xs.length - i/\i<=xs.length/\Pv i H,⟨xs.length,by simp,Nat.zero_le _,h0⟩,?_⟩;rintro i m H ⟨rfl,c,p⟩;have q:=hl i H c p
 by_cases hlt:i < xs.length
 ·refine .inr ⟨⟨xs,xs[i],q,by simp[hlt]⟩,fun x H' y=>?_⟩
  obtain⟨e,y⟩:=y;subst e;exact hs i x H' _ (y xs q) p fun d b=>⟨xs.length - (i+1),by walk_at "o",rfl,hlt,b⟩
 ·have e:i=xs.length:=by walk_at "o"
  subst e;exact .inl ⟨⟨xs,q,Nat.le_refl _⟩,hd _ p⟩
end L2
namespace Ken
open PySem L2
noncomputable def Tm.pre:Tm->List Tm
 | .low=>[.low]
 | .ltr w=>[.ltr w]
 | .nd k a b=>.nd k a b :: (a.pre++b.pre)
noncomputable def Tm.own:Tm->List Str
 | .low=>["low"]
 | .ltr w=>["letter",w]
 | .nd k _ _=>[k.str]
noncomputable def Tm.spell (t:Tm):List Str:=t.pre.flatMap Tm.own
theorem Zc3 (k:Kd) (a b:Tm):(Tm.nd k a b).spell=k.str :: (a.spell++b.spell):=by
 show (Tm.nd k a b :: (a.pre++b.pre)).flatMap Tm.own=_;rw[List.flatMap_cons,List.flatMap_append];rfl
theorem Zv8:∀ {s t:Tm} {l m:List Str},s.spell++l=t.spell++m->s=t/\l=m
 | .low,.low,l,m,h=>⟨rfl,by have:=List.cons.inj (show ("low":Str) :: l=("low":Str) :: m from h);exact this.2⟩
 | .low,.ltr w,l,m,h=>absurd (List.cons.inj (show ("low":Str) :: l=("letter":Str) :: (w :: m) from h)).1 (by decide)
 | .low,.nd k a b,l,m,h=>by
  rw[Zc3] at h;exact absurd (List.cons.inj (show ("low":Str) :: l=k.str :: ((a.spell++b.spell)++m) from h)).1 (by cases k<;>decide)
 | .ltr w,.low,l,m,h=>absurd (List.cons.inj (show ("letter":Str) :: (w :: l)=("low":Str) :: m from h)).1 (by decide)
 | .ltr w,.ltr v,l,m,h=>by
  have h1:=(List.cons.inj (show ("letter":Str) :: (w :: l)=("letter":Str) :: (v :: m) from h)).2;obtain⟨e1,e2⟩:=List.cons.inj h1;exact⟨by rw[e1],e2⟩
 | .ltr w,.nd k a b,l,m,h=>by
  rw[Zc3] at h;exact absurd (List.cons.inj (show ("letter":Str) :: (w :: l)=k.str :: ((a.spell++b.spell)++m) from h)).1 (by cases k<;>decide)
 | .nd k a b,.low,l,m,h=>by
  rw[Zc3] at h;exact absurd (List.cons.inj (show k.str :: ((a.spell++b.spell)++l)=("low":Str) :: m from h)).1 (by cases k<;>decide)
 | .nd k a b,.ltr w,l,m,h=>by
  rw[Zc3] at h;exact absurd (List.cons.inj (show k.str :: ((a.spell++b.spell)++l)=("letter":Str) :: (w :: m) from h)).1 (by cases k<;>decide)
 | .nd k a b,.nd k' c d,l,m,h=>by
  rw[Zc3,Zc3] at h;obtain⟨e1,e2⟩:=List.cons.inj (show k.str :: ((a.spell++b.spell)++l)=k'.str :: ((c.spell++d.spell)++m) from h);rw[List.append_assoc,List.append_assoc] at e2;obtain⟨f1,f2⟩:=Zv8 e2;obtain⟨g1,g2⟩:=Zv8 f2;exact⟨by rw[Kd.str_inj e1,f1,g1],g2⟩
theorem Ye6 {s t:Tm} (h:s.spell=t.spell):s=t:=(Zv8 (l:=[]) (m:=[]) (by rw[h])).1
theorem Za7 {K:W.Frag} {H H':Hp} (k:KeepT K H H') {us:List V} {ts:List Tm} (h:Paired (IsT K H) us ts):Paired (IsT K H') us ts:=Paired.mapP h fun _ _ z=>z.keep k
def Zd7 (os:List Tm):Prop:=os.Pairwise fun a b=>lexT a.spell b.spell=true
end Ken
namespace L2
open PySem PySem.Spec PyProof.Rows
noncomputable def Itv (K:W.Frag) (a:Addr) (n:Nat):It :=
 ⟨fun i H=>i < n/\∃ xs x,SqL K H a xs/\xs[n - 1 - i]?=some x,fun i H x H'=>H'=H/\∀ xs,SqL K H a xs->xs[n - 1 - i]?=some x,fun i _=>i=n⟩
theorem Xf4 {P:Program} {w:World} {K:W.Frag} {tg:Expr} (a it:Addr) (n:Nat):Turn P w K tg (Itv K a n) [it] it (fun i h=>h.IsRevIter it a ((n:Int) - 1 - (i:Int))) where
  mem:=by simp
  obj:=fun i h f b g=>by
    have e:b=it:=by simpa using g
    subst e;obtain⟨o,e,c,d⟩:=f;exact⟨o,e,fun v z=>by rw[d] at z;cases z⟩
  keep:=fun i h q f k=>f.at fun o e=>k it (by simp) o e
  item:=by
    intro X y r A R i l s L H E I m f t;subst y r A;obtain⟨hi,xs,x,N,M⟩:=t;obtain⟨q0,U,p,hz⟩:=I.list N;obtain⟨u,Z,V⟩:=U.get M;obtain⟨G,F,f2,D,C,B⟩:=m it (by simp)
    have J:(n:Int) - 1 - (i:Int)=((n - 1 - i:Nat):Int):=by walk_at "o"
    rw[J] at f;refine wpAny_pyNext_rev_item f p.isList (x:=u) (by simpa using Z) fun q j T=>?_;have I1:Inv X l L H { s with heap:=q }:=I.turned (t':=s.toks) (fun b o g e=>(T.2 b g).trans e) G F D C B
    have S:((n - 1 - i:Nat):Int) - 1=(n:Int) - 1 - ((i+1:Nat):Int):=by walk_at "o"
    rw[S] at j;obtain⟨o,e,c,d⟩:=id j;exact⟨u,rfl,Xq2 (s:={ s with heap:=q }) e c d (by decide) ⟨x,H,I1,V,⟨rfl,fun ys Y=>by rw[I.list_inj Y N];exact M⟩,j,fun b g=>(m b g).1⟩⟩
  done:=by
    intro X y r A R i l s L H E I m f t;subst y r A;have O:i=n:=t;subst O;obtain⟨G,F,f2,D,C,B⟩:=m it (by simp)
    have J:(i:Int) - 1 - (i:Int)=-1:=by walk_at "o"
    rw[J] at f;exact wpAny_pyNext_rev_end (I.ok.hd R) f fun q eb=>⟨rfl,I.turned (t':=s.toks) (fun b o g e=>eb b o g e) G F D C B⟩
  self:=fun _ _ _ _ _ f h=>wpAny_pyIter_revIter f h
def iRev (K:W.Frag) (ta:TA):TI:=fun σ H R=>ta σ H fun vs H1=>∃ a xs,vs=[.ref a]/\SqL K H1 a xs/\R (Itv K a xs.length) H1
section
variable {X:Cx}
theorem Xv0 {tg e:Expr} {ta:TA} {p pos:Pos} (hg:Gl X "reversed") (hm:X.mg "reversed"=none) (ha:PA X [e] ta) (hs:starEach [e] X.env=[(false,eval e X.env)]:=by rfl) :
  PI X tg (.Call (.Name "reversed" p) [e] [] pos) (iRev X.K ta):=by
 intro c s i H R I h;refine Call_ (Zx2 I hg hm (by first | exact PySem.boot_reversed | rfl) (PyProof.Rows.callWith_type1 (thn (ha pos c s i H _ I h) fun us s1 ⟨vs,H1,I1,r1,f⟩=>?_) (by rw[hs];rfl) rfl));obtain⟨l,j,e,f,q⟩:=f;subst e;obtain⟨v,rfl,m⟩:=r1.one;cases m;obtain⟨a,k,r,_⟩:=I1.list f;have t:=k.length;refine call_reversed_list r.isList ?_;have d:Heap.IsRevIter (s1.heap.push (revObj l ((a.toArray.size:Int) - 1))) s1.heap.objs.size l ((a.toArray.size:Int) - 1):=⟨_,Heap.get?_push_size _ rfl,rfl,rfl⟩;refine wpAny_pyIter_revIter d ?_;have n:Inv X c i H1 { s1 with heap:=s1.heap.push (revObj l ((a.toArray.size:Int) - 1)) }:=I1.kept (t':=s1.toks) fun b o e=>Heap.get?_push_of_some _ e
 have g:((a.toArray.size:Nat):Int) - 1=(j.length:Int) - 1 - ((0:Nat):Int):=by rw[List.size_toArray];walk_at "o"
 rw[g] at d;rw[g] at n;rw[g];refine⟨_,_,_,_,H1,rfl,n,Xf4 l _ j.length,d,fun b u=>?_,q⟩
 have e:b=s1.heap.objs.size:=by simpa using u
 subst e;exact I1.fpOk (Nat.le_refl _) (I1.hok.fresh (Nat.le_refl _))
end
def Zv6 (i:Nat) (f:Addr) (t:TE):TE:=fun σ H Q=>σ[i]?=some (some (.ref f))/\t σ H Q
section
variable {X:Cx}
theorem Xh6 {k:Nat} {CX:CXT} {E:XK} {f:Addr} {fd:FuncData} {ps:List Str} {sp:Sp} {ds:List Value} {dvs:List V} {x:Str} {p pos:Pos} {e:Expr} {es:List Expr} {t:TA} {i:Nat} (F:FnOk X.prog X.w X.K X.mg X.base CX k f fd ps sp) (hr:Room k X.A) (hN:X.N[i]?=some x) (hv:Vis X.env.scope x) (hk:W.keepIn X.K (.ref f)=true) (hb:Binds X.K fd ps ds) (hd:Vals dvs ds) (hx:Yr2 CX X E)
  (ha:PA X (e :: es) t) (hdb:(x == ("__debug__":Str))=false:=by decide) (hcd:(x == ("__classdict__":Str))=false:=by decide) (he:starEach (e :: es) X.env=(false,eval e X.env) :: starEach es X.env:=by rfl) (hpl:(backTo pos (starEach es X.env)).any (·.1)=false:=by rfl) :
  PE X (.Call (.Name x p) (e :: es) [] pos) (Zv6 i f (Zv7 sp dvs E t)):=by
 intro a s b H Q I h;obtain⟨g,d⟩:=h;refine wpAny_Call_Name_kw ?_;refine thn (Yx9 (X:=X) (i:=i) hN hv hdb hcd a s b H (fun v c=>v=.ref f/\c=H) I ⟨_,g,rfl,rfl⟩) fun v s0 zq=>?_;obtain⟨y,H0,I0,r0,e1,e2⟩:=zq;subst e1;subst e2;cases (show v=Value.ref f from r0);refine W.callWith_K (h₀:=X.base) I0.ok.mod.kin hk (thn (ha pos a s0 b H0 _ I0 d) fun us s1 ⟨vs,c,I1,r,q⟩=>⟨I1.kIn,?_⟩) he hpl;exact Xk7 F hr hb hd hx I1 r q
end
end L2
namespace Ken
open PySem L2
theorem Zi7:∀ {os ts:List Tm},os.Nodup->(∀ t∈os,t∈ts)->os.length<=ts.length
 | [],_,_,_=>Nat.zero_le _
 | o :: os,ts,hn,h=>by
  obtain⟨l,r,rfl⟩:=List.append_of_mem (h o List.mem_cons_self);have h1:=List.nodup_cons.mp hn
  have:=Zi7 (ts:=l++r) h1.2 fun t ht=>by
   have:=h t (List.mem_cons_of_mem _ ht);rcases List.mem_append.mp this with z | z
   ·exact List.mem_append_left _ z
   ·rcases List.mem_cons.mp z with z | z
    ·exact absurd (z▸ht) h1.1
    ·exact List.mem_append_right _ z
  rw[List.length_append] at this;rw[List.length_cons,List.length_append,List.length_cons];walk_at "o"
end Ken
namespace L2
open PySem PySem.Spec PyProof.Rows
end L2
namespace Ken
open PySem L2
end Ken
namespace L2
open PySem PySem.Spec PyProof.Rows
end L2
namespace Hd
open PySem PySem.W PySem.Calls PyProof.Rows
noncomputable abbrev pos0:Pos:=⟨0,0,0,0⟩
noncomputable def o11:Obj:={ cls:=.type "tuple",data:=.seq #[] }
noncomputable def o12:Obj:={ cls:=.none,data:=.fields #[] }
noncomputable def o13:Obj:={ cls:=.type "code",data:=.fields #[.str (Str.ofString "<module>") 182,.str (Str.ofString "<module>") 183,.str (Str.ofString "/claim/cut.py") 184,.int 1 0,.int 0 0,.int 0 0,.int 0 0,.int 0 0,.ref 11,.bool false,.int 181 0,.ref 12,.none,.none,.none,.none,.int 185 0,.int 1 0,.str (Str.ofString "/claim/cut.py") 186] }
noncomputable def o14:Obj:={ cls:=.type "frame",slots:=#[some (.ref 13),some (.ref 3),some (.ref 3),none,some (.str (Str.ofString "__main__") 164),none,some (.ref 0)] }
noncomputable def We5 (P:Params):BT :=
 (.node (boot_o_0 P) (.node (boot_o_1 P) (.node (boot_o_3 P) (.node (boot_o_7 P) .nil .nil) (.node o11 .nil .nil)) (.node (boot_o_5 P) (.node (boot_o_9 P) .nil .nil) (.node o13 .nil .nil))) (.node (boot_o_2 P) (.node (boot_o_4 P) (.node (boot_o_8 P) .nil .nil) (.node o12 .nil .nil)) (.node (boot_o_6 P) (.node (boot_o_10 P) .nil .nil) (.node o14 .nil .nil))))
noncomputable abbrev annB:Option Value:=some (.ref 6)
noncomputable def Xj1 (p:Program):Env:={ scope:=p.main.scope,locals:=mainNs,globals:=mainNs,cells:=[],code:=.ref 13,frame:=some 14 }
noncomputable def Zr8 (p:Program):Code:=.body (behindTheImports p) (Xj1 p)
noncomputable def SB (w:World) (os:OsState):SharedT:=⟨We5 w.params,15,{},#[],{},187,os⟩
noncomputable def S0 (w:World) (os:OsState):Shared:=⟨boot_heap w.params,Array.mk [],boot_drawn,boot_toks,os⟩
noncomputable def pre (p:Program) (w:World) (os:OsState):=topGo treeTable p w 11 annB 12 (S0 w os) (topStub p)
noncomputable def preTo (p:Program) (w:World) (os:OsState):Option (Shared×Thread):=some ((SB w os).abs,⟨denote treeTable (Zr8 p),Zr8 p,pos0,[topFrame pos0]⟩)
noncomputable def blk (p:Program) (w:World) (os:OsState):=segRun treeTable p w 11 annB 1 1 (SB w os).abs (blockOf (behindTheImports p) (Xj1 p) (Zr8 p) pos0 [topFrame pos0])
noncomputable def blkTo (p:Program) (w:World) (os:OsState):Option (Flow×Shared×Code×Pos):=some (.next,(SB w os).abs,Zr8 p,pos0)
noncomputable def run (p:Program) (n:Nat) (w:World) (os:OsState):=segRunT treeTable p w 11 annB 1 n (SB w os) (piecesOf (behindTheImports p) (Xj1 p) (Zr8 p) pos0 [topFrame pos0])
noncomputable def fin (p:Program) (e:Pos) (w:World) (x:SharedT):Option Shared:=topRun treeTable p w 11 annB 2 x.abs ⟨doneF .next,Zr8 p,e,[topFrame pos0]⟩
noncomputable def kept (p:Program) (w:World) (s:Shared):Bool:=staticsOk (importedModules p.main.body) (boot_heap w.params) s.heap&&namesBound p s.heap&&gensDone s&&laidKept (boot_heap w.params) s.heap
noncomputable def ev {α:Type} (p q:Program) (loose:List Str) (lv:List (Str×WData)) (Yf:Shared->α) (n:Nat) (e:Pos) (w:World) (os:OsState) :=
 (run p n w os).map fun x=>(x.1,x.2.2,(fin p e w x.2.1).map fun s=>(kept p w s,openSeen q loose (importedModules p.main.body) (fun s=>xlAt q lv s&&recOk [] s) true s,Yf s))
noncomputable def evTo {α:Type} (p q:Program) (loose:List Str) (Ya:World->α) (e:Pos) (w:World) :=
 some (Flow.next,(Zr8 p,e),some (true,(expectedOf q,bltViewBooted,true,true,pinGoodD (drecsOf q),
  plainGoodE q (looseW q loose),plainGoodD q loose,wideGood q,clsGoodW q loose),Ya w))
theorem Xr5 (w:World) (os:OsState):((S0 w os).heap.isNs mainGlobals&&(S0 w os).gens.size == 0)=true/\(S0 w os).heap.objs.size=11/\(S0 w os).heap.nsMap mainGlobals "__annotations__"=annB:=by
 refine⟨?_,?_,?_⟩<;>kernel_rfl
theorem left {α:Type} {p q:Program} {loose:List Str} {lv:List (Str×WData)} {Yf:Shared->α} {Ya:World->α} {N n:Nat} {e:Pos}
  (ho:opening p=plainProg p.main.scope.names) (hN:Nat.ble 600 N=true) (hf:∀ s,fenceModules? p s=some s)
  (h1:∀ w,(fun os=>pre p w os)=fun os=>preTo p w os) (h2:∀ w,(fun os=>blk p w os)=fun os=>blkTo p w os)
  (h3:∀ w,(fun os=>ev p q loose lv Yf n e w os)=fun _=>evTo p q loose Ya e w) (hl:Nat.ble (12+(1+(n+2))) N=true) :
  LeftO p q loose (fun s=>xlAt q lv s&&recOk [] s) Yf Ya N:=fun w=>by
 obtain⟨s,C,D⟩:=Option.map_eq_some_iff.mp (boot_open ho hN hf w);obtain⟨A,B,G,m,os⟩:=s;have a:=Xr5 w os
 obtain⟨rfl,rfl,rfl,rfl⟩:A=boot_heap w.params/\B=Array.mk []/\G=boot_drawn/\m=boot_toks:=by
  have:=D;simp only[Prod.mk.injEq] at this;exact this
 obtain⟨x,ex,b⟩:=Option.map_eq_some_iff.mp (congrFun (h3 w) os);obtain⟨f,I,c,J⟩:=x;have k:=(Prod.mk.inj b).1;have j:=(Prod.mk.inj (Prod.mk.inj b).2).1;have i:=(Prod.mk.inj (Prod.mk.inj b).2).2;dsimp only at k j i;subst k;cases j;obtain⟨s1,F,d⟩:=Option.map_eq_some_iff.mp i;have g:topRun treeTable p w 11 annB (n+2) (SB w os).abs (restOf (behindTheImports p++[]) (Xj1 p) (Zr8 p) pos0 [topFrame pos0])=some s1:=piece_app (segRun_of ex) (piece_nil F);rw[List.append_nil] at g;have r:=piece_block (congrFun (h2 w) os) g;have u:=go_top (congrFun (h1 w) os) r;have h:=topRun_mono (N - (12+(1+(n+2)))) _ _ _ _ u;rw[show 12+(1+(n+2))+(N - (12+(1+(n+2))))=N by have:=Nat.le_of_ble_eq_true hl;walk_at "o"] at h;have z:=(Prod.mk.inj d).1;have y:=(Prod.mk.inj (Prod.mk.inj d).2).1;have v:=(Prod.mk.inj (Prod.mk.inj d).2).2
 have t:topFrom treeTable p w N (S0 w os)=some s1:=by
  unfold topFrom;rw[a.1,a.2.1,a.2.2];dsimp only;rw[h,Option.bind_some];have l:(staticsOk (importedModules p.main.body) (S0 w os).heap s1.heap&&namesBound p s1.heap&&gensDone s1&&laidKept (S0 w os).heap s1.heap)=true:=z;rw[l]
 unfold openEnds;rw[C,Option.bind_some];have o:=congrArg (Option.map fun s=>(openSeen q loose (importedModules p.main.body) (fun s=>xlAt q lv s&&recOk [] s) true s,Yf s)) t;exact o.trans (congrArg some (Prod.ext y v))
theorem pre_self:@pre=@pre:=rfl
theorem preTo_self:@preTo=@preTo:=rfl
theorem blk_self:@blk=@blk:=rfl
theorem blkTo_self:@blkTo=@blkTo:=rfl
theorem Wg1:@ev=@ev:=rfl
theorem Wd0:@evTo=@evTo:=rfl
end Hd
name_quick hdPre for Hd.pre by Hd.pre_self
name_quick hdPreTo for Hd.preTo by Hd.preTo_self
name_quick hdBlk for Hd.blk by Hd.blk_self
name_quick hdBlkTo for Hd.blkTo by Hd.blkTo_self
namespace Hd
open PySem PySem.W PySem.Calls PyProof.Rows
noncomputable def evA (p:Program) (n:Nat) (e:Pos) (w:World) (os:OsState):=(run p n w os).map fun x=>(x.1,x.2.2,(fin p e w x.2.1).map fun s=>kept p w s)
noncomputable def evATo (p:Program) (e:Pos):=some (Flow.next,(Zr8 p,e),some true)
noncomputable def Xs4 (p q:Program) (loose:List Str) (lv:List (Str×WData)) (s:Shared):=((openSeen q loose (importedModules p.main.body) (fun s=>xlAt q lv s&&recOk [] s) true s).1,(openSeen q loose (importedModules p.main.body) (fun s=>xlAt q lv s&&recOk [] s) true s).2.1,(openSeen q loose (importedModules p.main.body) (fun s=>xlAt q lv s&&recOk [] s) true s).2.2.1)
noncomputable def Xs3 (p q:Program) (loose:List Str) (lv:List (Str×WData)) (s:Shared):=(openSeen q loose (importedModules p.main.body) (fun s=>xlAt q lv s&&recOk [] s) true s).2.2.2
noncomputable def evB (p q:Program) (loose:List Str) (lv:List (Str×WData)) (n:Nat) (e:Pos) (w:World) (os:OsState):=(run p n w os).map fun x=>(fin p e w x.2.1).map fun s=>Xs4 p q loose lv s
noncomputable def evBTo (q:Program):=some (some (expectedOf q,bltViewBooted,true))
noncomputable def evD (p q:Program) (loose:List Str) (lv:List (Str×WData)) (n:Nat) (e:Pos) (w:World) (os:OsState):=(run p n w os).map fun x=>(fin p e w x.2.1).map fun s=>Xs3 p q loose lv s
noncomputable def evDTo (q:Program) (loose:List Str):=some (some (true,pinGoodD (drecsOf q),plainGoodE q (looseW q loose),plainGoodD q loose,wideGood q,clsGoodW q loose))
noncomputable def evC {α:Type} (p:Program) (Yf:Shared->α) (n:Nat) (e:Pos) (w:World) (os:OsState):=(run p n w os).map fun x=>(fin p e w x.2.1).map fun s=>Yf s
noncomputable def evCTo {α:Type} (Ya:World->α) (w:World):=some (some (Ya w))
theorem ev_of {α:Type} {p q:Program} {loose:List Str} {lv:List (Str×WData)} {Yf:Shared->α} {Ya:World->α} {n:Nat} {e:Pos} {w:World}
  (hA:(fun os=>evA p n e w os)=fun _=>evATo p e) (hB:(fun os=>evB p q loose lv n e w os)=fun _=>evBTo q) (hD:(fun os=>evD p q loose lv n e w os)=fun _=>evDTo q loose) (hC:(fun os=>evC p Yf n e w os)=fun _=>evCTo Ya w) :
  (fun os=>ev p q loose lv Yf n e w os)=fun _=>evTo p q loose Ya e w:=by
 funext os
 have a:=congrFun hA os;have b:=congrFun hB os;have c:=congrFun hC os;have d:=congrFun hD os;unfold evD evDTo at d;unfold evA evATo at a;unfold evB evBTo at b;unfold evC evCTo at c;unfold ev evTo
 cases hr:run p n w os with
 | none=>rw[hr] at a;cases a
 | some x =>
  rw[hr] at a b c d;have a:=Option.some.inj a;have b:=Option.some.inj b;have c:=Option.some.inj c;have d:=Option.some.inj d;dsimp only at a b c d;obtain⟨k,h⟩:=Prod.mk.inj a;obtain⟨h,f⟩:=Prod.mk.inj h;show some (x.1,x.2.2,_)=_
  cases hf:fin p e w x.2.1 with
  | none=>rw[hf] at f;cases f
  | some s =>
   rw[hf] at f b c d;have f:=Option.some.inj f;have b:=Option.some.inj b;have c:=Option.some.inj c;have d:=Option.some.inj d;dsimp only at f b c d;unfold Xs4 at b;unfold Xs3 at d;obtain⟨j,g⟩:=Prod.mk.inj b;obtain⟨g,i⟩:=Prod.mk.inj g;have o:openSeen q loose (importedModules p.main.body) (fun s=>xlAt q lv s&&recOk [] s) true s=(expectedOf q,bltViewBooted,true,true,pinGoodD (drecsOf q),plainGoodE q (looseW q loose),plainGoodD q loose,wideGood q,clsGoodW q loose):=Prod.ext j (Prod.ext g (Prod.ext i d));rw[k,h];show some (_,_,some (kept p w s,_,_))=_;rw[f,o,c]
theorem evA_self:@evA=@evA:=rfl
theorem evB_self:@evB=@evB:=rfl
theorem evD_self:@evD=@evD:=rfl
theorem evDTo_self:@evDTo=@evDTo:=rfl
theorem evC_self:@evC=@evC:=rfl
end Hd
name_quick hdEvA for Hd.evA by Hd.evA_self
name_quick hdEvB for Hd.evB by Hd.evB_self
name_quick hdEvD for Hd.evD by Hd.evD_self
name_quick hdEvDTo for Hd.evDTo by Hd.evDTo_self
name_quick hdEvC for Hd.evC by Hd.evC_self
namespace Hd
open PySem PySem.W PySem.Calls PyProof.Rows L2
noncomputable def pick (h:Heap) (as:List Addr):Frag:=as.filterMap fun a=>(h.get? a).map fun o=>(a,o)
theorem Yx6 (h:Heap):∀ as:List Addr,(pick h as).In h
 | []=>fun _ _ e=>by cases e
 | b :: as=>fun a o e=>by
  have ih:=Yx6 h as a o;have e':List.lookup a (pick h (b :: as))=some o:=e;unfold pick at e';rw[List.filterMap_cons] at e'
  cases z:h.get? b with
  | none=>rw[z] at e';exact ih e'
  | some u =>
   rw[z] at e';dsimp only[Option.map] at e';rw[List.lookup_cons] at e'
   split at e'
   ·rename_i hb
    have:=eq_of_beq hb;subst this;cases e';exact z
   ·exact ih e'
noncomputable def stAt (p:Program) (i:Nat):Stmt:=p.main.body.getD i (.Pass ⟨0,0,0,0⟩)
noncomputable def nm:Stmt->Str
 | .FunctionDef n _ _ _ _ _ _ _ _ _=>n
 | .ClassDef n _ _ _ _ _ _ _ _ _ _=>n
 | .Assign [.Name n _] _ _=>n
 | _=>Str.empty
noncomputable def Xc5:PySem.Expr->Str
 | .Constant (.str s) _ _=>s
 | .Name n _=>n
 | _=>Str.empty
noncomputable def Yn2:Stmt->List Str
 | .Assign _ (.Tuple es _ _) _=>es.map Xc5
 | _=>[]
noncomputable def Zg8:Stmt->List (Str×Str)
 | .Assign _ (.Dict ks vs _) _=>List.zip (ks.map fun k=>match k with | some e=>Xc5 e | none=>Str.empty) (vs.map Xc5)
 | _=>[]
structure Ask where
 fns:List Nat
 tups:List Nat
 kfs:List Nat
 kds:List Nat
 bl:List Str
noncomputable abbrev FnD:=Str×Str×Arguments×FuncBody×Scope×Addr×List (Str×Addr)×Value×Addr×Bool
noncomputable def fnD (K:Frag) (fd:FuncData):FnD:=(fd.name,fd.qualname,fd.params,fd.body,fd.scope,fd.globals,fd.closure,fd.defaults,fd.builtins,codeIn K fd.code fd.qualname)
noncomputable def Zs4 (K:Frag) (x:Str):Option (Addr×Obj):=match nsIn K mainGlobals x with
 | some (some (.ref f))=>(K.lookup f).map fun o=>(f,o)
 | _=>none
noncomputable def Zx7 (K:Frag) (x:Str):Option FnD:=match Zs4 K x with
 | some (_,⟨_,_,.func fd,_⟩)=>some (fnD K fd)
 | _=>none
noncomputable def Ya0 (st:Stmt):Option FnD:=some (nm st,nm st,Zf6 st,.stmts (Ze0 st),Za8 st,mainGlobals,[],.none,builtinsNs,true)
theorem Yx2 {K:Frag} {x:Str} {r:Addr×Obj} (e:Zs4 K x=some r):nsIn K mainGlobals x=some (some (.ref r.1))/\K.lookup r.1=some r.2:=by
 unfold Zs4 at e
 split at e
 ·rename_i f hf
  obtain⟨o,e1,e2⟩:=Option.map_eq_some_iff.mp e;subst e2;exact⟨hf,e1⟩
 ·cases e
theorem fn_of {K:Frag} {st:Stmt} (e:Zx7 K (nm st)=Ya0 st):∃ (f:Addr) (oc:Value) (od:Option Addr) (sl:Array (Option Value)) (kV dc pm:Value) (an:Option Addr) (cd ct:Value),
  nsIn K mainGlobals (nm st)=some (some (.ref f))/\K.lookup f=some ⟨oc,od,.func (fnOf (nm st) (nm st) (Zf6 st) (Ze0 st) (Za8 st) .none kV dc pm an cd ct),sl⟩/\codeIn K cd (nm st)=true/\keepIn K (.ref f)=true:=by
 unfold Zx7 at e
 split at e
 ·rename_i f oc od fd sl h
  obtain⟨h1,h2⟩:=Yx2 h;dsimp only at h1 h2;obtain⟨a1,a2,a3,a4,a5,a6,a7,a8,a9,a10,a11,a12,a13,a14,a15⟩:=fd;have e:=Option.some.inj e;simp only[fnD,Prod.mk.injEq] at e;obtain⟨rfl,rfl,rfl,rfl,rfl,rfl,rfl,rfl,rfl,hc⟩:=e;refine⟨f,oc,od,sl,_,_,_,_,_,_,h1,h2,hc,?_⟩;show (match K.lookup f with | some ⟨_,_,.func _,_⟩=>true | some ⟨_,_,.cls _,_⟩=>specialIn K (.ref f) "__call__" == some (some (.builtin "type.__call__")) | _=>false)=true;rw[h2]
 ·cases e
noncomputable def Yj1:Value->Option Str
 | .str s _=>some s
 | _=>none
theorem Yn5 {v:Value} {s:Str} (e:Yj1 v=some s):∃ t,v=.str s t:=by
 unfold Yj1 at e
 split at e
 ·cases e;exact⟨_,rfl⟩
 ·cases e
noncomputable def Zs2 (K:Frag) (x:Str):Option (Value×List (Option Str)):=match Zs4 K x with
 | some (_,⟨c,_,.seq vs _,_⟩)=>some (c,vs.toList.map Yj1)
 | _=>none
noncomputable def Zv0 (st:Stmt):Option (Value×List (Option Str)):=some (.type "tuple",(Yn2 st).map some)
theorem Yd3:∀ {l:List Str} {vs:List Value},vs.map Yj1=l.map some->Vals (l.map V.str) vs
 | [],[],_=>.nil
 | [],_ :: _,e=>by cases e
 | _ :: _,[],e=>by cases e
 | s :: l,v :: vs,e=>by
  have e1:=(List.cons.inj e).1;have e2:=(List.cons.inj e).2;exact .cons (Yn5 e1) (Yd3 e2)
theorem Xs0 {K:Frag} {st:Stmt} (e:Zs2 K (nm st)=Zv0 st) (hl:(Yn2 st).length<=sizeLine):∃ a:Addr,nsIn K mainGlobals (nm st)=some (some (.ref a))/\∀ H,SqT K H a ((Yn2 st).map V.str):=by
 unfold Zs2 at e
 split at e
 ·rename_i a c od vs n sl h
  obtain⟨h1,h2⟩:=Yx2 h;have e:=Option.some.inj e;obtain⟨rfl,e2⟩:=Prod.mk.inj e;refine⟨a,h1,fun H=>.inr ⟨_,_,_,h2,rfl,rfl,?_,Yd3 e2⟩⟩;have:=congrArg List.length e2;rw[List.length_map,List.length_map,Array.length_toList] at this;rw[this];exact hl
 ·cases e
noncomputable abbrev DiD:=Value×Option Addr×Array (Option Value)×Bool×Nat×List (Int×Option Str×Bool)
noncomputable def Xp7 (K:Frag) (e:DictEntry) (kf:Str×Str):Int×Option Str×Bool:=(e.hash,Yj1 e.key,nsIn K mainGlobals kf.2 == some (some e.val))
noncomputable def Zz5 (K:Frag) (x:Str) (kfs:List (Str×Str)):Option DiD:=match Zs4 K x with
 | some (a,⟨c,od,.dict es _,sl⟩)=>some (c,od,sl,a == sysModules,es.toList.length,List.zipWith (Xp7 K) es.toList kfs)
 | _=>none
noncomputable def Yg6 (P:Params) (kfs:List (Str×Str)):Option DiD:=some (.type "dict",none,#[],false,kfs.length,kfs.map fun kf=>(PyData.keyHash P kf.1,some kf.1,true))
theorem Yp8 {K:Frag} {w:World}:∀ {kfs:List (Str×Str)} {es:List DictEntry} {fs:List Addr},es.length=kfs.length->List.zipWith (Xp7 K) es kfs=kfs.map (fun kf=>(PyData.keyHash w.params kf.1,some kf.1,true)) ->
  Paired (fun (kf:Str×Str) (f:Addr)=>nsIn K mainGlobals kf.2=some (some (.ref f))) kfs fs ->
  Paired (fun (p:Str×V) (e:DictEntry)=>(∃ tk,e.key=.str p.1 tk)/\e.hash=PyData.keyHash w.params p.1/\RelV p.2 e.val) (List.zipWith (fun kf f=>(kf.1,V.ref f)) kfs fs) es
 | [],[],_,_,_,r=>by cases r;exact .nil
 | [],_ :: _,_,h,_,_=>by cases h
 | _ :: _,[],_,h,_,_=>by cases h
 | kf :: kfs,e :: es,_,h,q,r=>by
  cases r with
  | @cons _ f _ fs h1 t =>
   have q1:=(List.cons.inj q).1;have q2:=(List.cons.inj q).2;simp only[Xp7,Prod.mk.injEq] at q1;obtain⟨q3,q4,q5⟩:=q1;have q6:=eq_of_beq q5;rw[h1] at q6;refine .cons ⟨Yn5 q4,q3,?_⟩ (Yp8 (Nat.succ.inj h) q2 t);have:e.val=.ref f:=(Option.some.inj (Option.some.inj q6)).symm;rw[this];exact rfl
theorem Wf7 {K:Frag} {w:World} {st:Stmt} (e:Zz5 K (nm st) (Zg8 st)=Yg6 w.params (Zg8 st)) (fs:List Addr) (hf:Paired (fun (kf:Str×Str) (f:Addr)=>nsIn K mainGlobals kf.2=some (some (.ref f))) (Zg8 st) fs)
  (nd:((List.zipWith (fun kf f=>(kf.1,V.ref f)) (Zg8 st) fs).map (·.1)).Nodup):∃ a:Addr,nsIn K mainGlobals (nm st)=some (some (.ref a))/\KDict K w a (List.zipWith (fun kf f=>(kf.1,V.ref f)) (Zg8 st) fs):=by
 unfold Zz5 at e
 split at e
 ·rename_i a c od es n sl h
  obtain⟨h1,h2⟩:=Yx2 h;have e:=Option.some.inj e;simp only[Prod.mk.injEq] at e;obtain⟨rfl,rfl,rfl,e4,e5,e6⟩:=e;exact⟨a,h1,⟨_,es,n,h2,⟨rfl,rfl,rfl⟩,rfl,Yp8 e5 e6 hf⟩,nd,e4⟩
 ·cases e
noncomputable abbrev DsD:=Value×Option Addr×Array (Option Value)×Bool×List (Int×Option Str×Option Str)
noncomputable def Wc5 (K:Frag) (x:Str):Option DsD:=match Zs4 K x with
 | some (a,⟨c,od,.dict es _,sl⟩)=>some (c,od,sl,a == sysModules,es.toList.map fun e=>(e.hash,Yj1 e.key,Yj1 e.val))
 | _=>none
noncomputable def Wc4 (P:Params) (kvs:List (Str×Str)):Option DsD:=some (.type "dict",none,#[],false,kvs.map fun kv=>(PyData.keyHash P kv.1,some kv.1,some kv.2))
noncomputable abbrev Obs:=List (Option FnD)×List (Option (Value×List (Option Str)))×List (Option DiD)×List (Option DsD)×List (Option (Option Value))
noncomputable def obsK (p:Program) (A:Ask) (K:Frag):Obs :=
 (A.fns.map fun i=>Zx7 K (nm (stAt p i)),A.tups.map fun i=>Zs2 K (nm (stAt p i)),A.kfs.map fun i=>Zz5 K (nm (stAt p i)) (Zg8 (stAt p i)),A.kds.map fun i=>Wc5 K (nm (stAt p i)),A.bl.map fun x=>nsIn K mainGlobals x)
noncomputable def valK (p:Program) (A:Ask) (P:Params):Obs :=
 (A.fns.map fun i=>Ya0 (stAt p i),A.tups.map fun i=>Zv0 (stAt p i),A.kfs.map fun i=>Yg6 P (Zg8 (stAt p i)),A.kds.map fun i=>Wc4 P (Zg8 (stAt p i)),A.bl.map fun _=>some none)
noncomputable def Wg6 (p:Program) (A:Ask) (h:Heap):List Addr :=
 mainGlobals :: (A.fns++A.tups++A.kfs++A.kds).flatMap fun i=>match nsIn (pick h [mainGlobals]) mainGlobals (nm (stAt p i)) with
  | some (some (.ref a))=>a :: (match h.get? a with
   | some ⟨_,_,.func fd,_⟩=>(match fd.code with | .ref c=>[c] | _=>[])
   | _=>[])
  | _=>[]
theorem Yg1 {α β:Type} {f g:α->β} {l:List α} (e:l.map f=l.map g) {a:α} (h:a∈l):f a=g a:=List.map_inj_left.mp e a h
section
variable {p:Program} {A:Ask} {K:Frag} {P:Params} (e:obsK p A K=valK p A P)
theorem e_fn (e:obsK p A K=valK p A P) {i:Nat} (h:i∈A.fns):Zx7 K (nm (stAt p i))=Ya0 (stAt p i):=Yg1 (f:=fun i=>Zx7 K (nm (stAt p i))) (g:=fun i=>Ya0 (stAt p i)) (Prod.mk.inj e).1 h
theorem e_tup (e:obsK p A K=valK p A P) {i:Nat} (h:i∈A.tups):Zs2 K (nm (stAt p i))=Zv0 (stAt p i):=Yg1 (f:=fun i=>Zs2 K (nm (stAt p i))) (g:=fun i=>Zv0 (stAt p i)) (Prod.mk.inj (Prod.mk.inj e).2).1 h
theorem e_kf (e:obsK p A K=valK p A P) {i:Nat} (h:i∈A.kfs):Zz5 K (nm (stAt p i)) (Zg8 (stAt p i))=Yg6 P (Zg8 (stAt p i)) :=
 Yg1 (f:=fun i=>Zz5 K (nm (stAt p i)) (Zg8 (stAt p i))) (g:=fun i=>Yg6 P (Zg8 (stAt p i))) (Prod.mk.inj (Prod.mk.inj (Prod.mk.inj e).2).2).1 h
theorem e_bl (e:obsK p A K=valK p A P) {x:Str} (h:x∈A.bl):nsIn K mainGlobals x=some none :=
 Yg1 (f:=fun x=>nsIn K mainGlobals x) (g:=fun _=>some none) (Prod.mk.inj (Prod.mk.inj (Prod.mk.inj (Prod.mk.inj e).2).2).2).2 h
end
open PySem.Spec
noncomputable def posOf:Stmt->Pos
 | .FunctionDef _ _ _ _ _ _ _ _ _ p=>p
 | _=>⟨0,0,0,0⟩
def FnF (K:Frag) (x:Str) (st:Stmt):Prop:=∃ (f:Addr) (oc:Value) (od:Option Addr) (sl:Array (Option Value)) (kV dc pm:Value) (an:Option Addr) (cd ct:Value),
 nsIn K mainGlobals x=some (some (.ref f))/\K.lookup f=some ⟨oc,od,.func (fnOf x x (Zf6 st) (Ze0 st) (Za8 st) .none kV dc pm an cd ct),sl⟩/\codeIn K cd x=true/\keepIn K (.ref f)=true
theorem fn_ofx {K:Frag} {x:Str} {st:Stmt} (hx:nm st=x) (e:Zx7 K (nm st)=Ya0 st):FnF K x st:=hx▸fn_of e
def FunF (K:Frag) (x:Str) (st:Stmt):Prop:=∃ (f:Addr) (fd:FuncData),nsIn K mainGlobals x=some (some (.ref f))/\Fun K x x st f fd
theorem Xb7 {K:Frag} {x:Str} {st:Stmt} (hx:nm st=x) (e:Zx7 K (nm st)=Ya0 st):FunF K x st:=by
 obtain⟨f,h,g,b,i,j,d,o,n,m,a,l,c,k⟩:=fn_ofx hx e;exact⟨f,_,a,Xb8 l c k⟩
def TupF (K:Frag) (x:Str) (l:List Str):Prop:=∃ a:Addr,nsIn K mainGlobals x=some (some (.ref a))/\∀ H,SqT K H a (l.map V.str)
theorem tup_ofx {K:Frag} {x:Str} {st:Stmt} {l:List Str} (hx:nm st=x) (hl:Yn2 st=l) (hz:l.length<=sizeLine) (e:Zs2 K (nm st)=Zv0 st):TupF K x l:=by
 subst hx hl;exact Xs0 e hz
def KfF (K:Frag) (w:World) (x:Str) (l:List (Str×V)):Prop:=∃ a:Addr,nsIn K mainGlobals x=some (some (.ref a))/\KDict K w a l
theorem kf_ofx {K:Frag} {w:World} {x:Str} {st:Stmt} {l:List (Str×Str)} (fs:List Addr) (hx:nm st=x) (hl:Zg8 st=l) (hf:Paired (fun (kf:Str×Str) (f:Addr)=>nsIn K mainGlobals kf.2=some (some (.ref f))) l fs)
  (nd:((List.zipWith (fun kf f=>(kf.1,V.ref f)) l fs).map (·.1)).Nodup) (e:Zz5 K (nm st) (Zg8 st)=Yg6 w.params (Zg8 st)):KfF K w x (List.zipWith (fun kf f=>(kf.1,V.ref f)) l fs):=by
 subst hx hl;exact Wf7 e fs hf nd
end Hd
namespace L2
open PySem PySem.Spec PyProof.Rows Ken
theorem Xe0:∀ {bs:List Bool} {us:List Value},Vals (bs.map V.bl) us->us=bs.map Value.bool
 | [],us,h=>by cases h;rfl
 | b :: bs,us,h=>by
  cases h with
  | cons r t =>
   have r:_=Value.bool b:=r;rw[r,Xe0 t];rfl
theorem Xe3:∀ (bs:List Bool) (f:Nat->Bool),(∀ i b,bs[i]?=some b->f i=b)->(List.range bs.length).all f=bs.all id:=fun bs f h=>by
 rw[Bool.eq_iff_iff,List.all_eq_true,List.all_eq_true];constructor
 ·intro g b d
  obtain⟨i,a,e⟩:=List.getElem_of_mem d;have:=g i (List.mem_range.mpr a);rw[h i b (by rw[List.getElem?_eq_getElem a,e])] at this;exact this
 ·intro g i a
  have c:=List.mem_range.mp a;rw[h i bs[i] (List.getElem?_eq_getElem c)];exact g _ (List.getElem_mem c)
section
variable {X:Cx}
theorem Zs0 (hc:X.calm=true):Zs1 X (.builtin "all") (fun vs H Q=>∃ (a:Addr) (bs:List Bool),vs=[.ref a]/\SqL X.K H a (bs.map V.bl)/\Q (.bl (bs.all id)) H):=by
 intro x s G H J L Q I r h;obtain⟨a,bs,rfl,C,q⟩:=h;obtain⟨u,rfl,t⟩:=Yi6 r;cases t;obtain⟨d,n,p,M⟩:=I.list C;have l:=Xe0 n;have g:s.heap.IsList a d.toArray:=p.isList
 have k:a≠s.heap.objs.size:=by obtain⟨o,e,_⟩:=g;exact Nat.ne_of_lt (Heap.lt_size e)
 have W:=Walks.list (prog:=X.prog) (w:=X.w) (A:=X.A.in1) (I.ok.hd hc) s.heap.objs.size a k d.toArray;refine call_all_walk (wpAny_pyIter_list g ?_);refine⟨s.heap.objs.size,_,_,_,_,_,fun i=>(bs[i]?).getD true,rfl,W,⟨⟨_,Heap.get?_push_size _ rfl,rfl,rfl⟩,g.at fun o e=>Heap.get?_push_of_some _ e⟩,fun i v s' F N c f=>?_,fun D m z=>?_⟩
 ·have f:F ((bs[i]?).getD true) s':=f
  have c:d.toArray[i]?=some v:=c;rw[l] at c;simp only[List.getElem?_toArray,List.getElem?_map] at c
  cases e:bs[i]? with
  | none=>rw[e] at c;cases c
  | some b =>
   rw[e] at c f;cases c;exact wpAny_truthy_bool f
 ·have y:∀ b o,s.heap.get? b=some o->D.get? b=some o:=fun b o e=>z b o (fun B=>absurd (Heap.lt_size e) ((List.mem_singleton.mp B)▸Nat.lt_irrefl _)) (Heap.get?_push_of_some _ e)
  have j:d.toArray.size=bs.length:=by rw[l];simp
  rw[j,Xe3 bs _ fun i b e=>by rw[e];rfl];exact⟨.bl (bs.all id),H,I.kept (t':=m) y,rfl,q⟩
end
theorem Zm6 (CX:CXT) (P:Program) (w:World) (K:W.Frag) (mg:Str->Option Value) (base:Heap) (N:List Str) (qual:Str) (scope:Scope) (f:Addr) (cd:Value) (A:Around) (outer:List Env) (s:Shared) (H:Hp) (E:XK):(cxOf CX P w K mg base N qual scope f cd A outer s H E).prog=P:=rfl
theorem Ya1 (CX:CXT) (P:Program) (w:World) (K:W.Frag) (mg:Str->Option Value) (base:Heap) (N:List Str) (qual:Str) (scope:Scope) (f:Addr) (cd:Value) (A:Around) (outer:List Env) (s:Shared) (H:Hp) (E:XK):(cxOf CX P w K mg base N qual scope f cd A outer s H E).w=w:=rfl
theorem Zp2 (X:Cx) (N':List Str) (scope:Scope) (cl:List (Str×Addr)) (s:Shared) (H:Hp) (C:Addr) (ex:List Addr):(blk X N' scope cl s H C ex).prog=X.prog:=rfl
theorem Yt9 (X:Cx) (N':List Str) (scope:Scope) (cl:List (Str×Addr)) (s:Shared) (H:Hp) (C:Addr) (ex:List Addr):(blk X N' scope cl s H C ex).w=X.w:=rfl
end L2
namespace Ken
open PySem L2 PyProof.Rows
end Ken
namespace L2
open PySem PySem.Spec PyProof.Rows Ken
noncomputable def ExcO (e:Addr) (C:Value) (dd T:Option Addr):HO:=.ext fun h=>∃ vs sl,h.get? e=some ⟨C,dd,.fields vs,sl⟩/\vs.size=6/\vs[1]?=some (T.elim Value.none Value.ref)
noncomputable def TbO (t:Addr) (fl:Value):HO:=.ext fun h=>∃ c d ts sl,h.get? t=some ⟨c,d,.fields ts,sl⟩/\ts[3]?=some fl
section
variable {P:Program} {w:World} {H:Hp} {h:Heap} {e t:Addr} {C fl:Value} {dd T:Option Addr}
theorem Zj0 (hok:HOk P w H h) (q:H e=some (ExcO e C dd T)):∃ vs sl,h.get? e=some ⟨C,dd,.fields vs,sl⟩/\vs.size=6/\vs[1]?=some (T.elim Value.none Value.ref):=(hok e _ q).1
theorem Yh1 (z:∃ vs sl,h.get? e=some ⟨C,dd,.fields vs,sl⟩/\vs.size=6/\vs[1]?=some (T.elim Value.none Value.ref)):ObjOk P w H h e (ExcO e C dd T) :=
 ⟨z,let ⟨_,_,q,_⟩:=z;⟨_,q⟩,fun _ _ ⟨vs,sl,a,b⟩ k=>⟨vs,sl,k _ a,b⟩⟩
theorem Yv7 (hok:HOk P w H h) (q:H t=some (TbO t fl)):∃ c d ts sl,h.get? t=some ⟨c,d,.fields ts,sl⟩/\ts[3]?=some fl:=(hok t _ q).1
theorem Xf7 (z:∃ c d ts sl,h.get? t=some ⟨c,d,.fields ts,sl⟩/\ts[3]?=some fl):ObjOk P w H h t (TbO t fl) :=
 ⟨z,let ⟨_,_,_,_,q,_⟩:=z;⟨_,q⟩,fun _ _ ⟨c,d,ts,sl,a,b⟩ k=>⟨c,d,ts,sl,k _ a,b⟩⟩
end
def Xr6 (fl:Value) (H:Hp) (e:Addr) (C:Value) (dd T:Option Addr):Prop:=H e=some (ExcO e C dd T)/\∀ t,T=some t->t≠e/\H t=some (TbO t fl)
noncomputable abbrev FlyT:=Xr6 .none
def XStep (e:Addr) (T:Option Addr) (H:Hp) (T':Option Addr) (H':Hp):Prop :=
 (∀ b o,H b=some o->b≠e->T≠some b->H' b=some o)/\∀ t,T'=some t->t≠e/\(T=some t∨H t=none)
theorem XStep.refl {e:Addr} {T:Option Addr} {H:Hp} (h:∀ t,T=some t->t≠e):XStep e T H T H:=⟨fun _ _ q _ _=>q,fun t q=>⟨h t q,.inl q⟩⟩
theorem XStep.trans {e:Addr} {T T' T'':Option Addr} {H H' H'':Hp} (a:XStep e T H T' H') (b:XStep e T' H' T'' H''):XStep e T H T'' H'':=by
 refine⟨fun c o q f d=>b.1 c o (a.1 c o q f d) f fun z=>?_,fun t q=>⟨(b.2 t q).1,?_⟩⟩
 ·rcases (a.2 c z).2 with y | y
  ·exact d y
  ·rw[q] at y;cases y
 ·rcases (b.2 t q).2 with z | z
  ·exact (a.2 t z).2
  ·by_cases hT:T=some t
   ·exact .inl hT
   ·cases e1:H t with
    | none=>exact .inr rfl
    | some o=>rw[a.1 t o e1 (b.2 t q).1 hT] at z;cases z
section
variable {X:Cx} {pins:List (Addr×Obj)} {σ:St} {H:Hp} {s:Shared} {M:Model} {A:Around} {E:Value->Shared->Prop} {e L:Addr} {C:Value} {dd T:Option Addr}
theorem Inv.noted {s':Shared} {t:Addr} {fl:Value} (I:Inv X pins σ H s) (F:FlyT H e C dd T) (hos:s'.os=s.os) (hg:s'.gens=s.gens)
  (hn:s.heap.objs.size<=t)
  (keep:∀ b o,s.heap.get? b=some o->b ∉ frs X.stack->b≠e->T≠some b->s'.heap.get? b=some o)
  (slot:∀ b o,s.heap.get? b=some o->b∈frs X.stack->∃ sl,s'.heap.get? b=some { o with slots:=sl })
  (old:∀ b,T=some b->∃ c d ts sl,s'.heap.get? b=some ⟨c,d,.fields ts,sl⟩/\ts[3]?=some Value.none)
  (exc:∃ vs sl,s'.heap.get? e=some ⟨C,dd,.fields vs,sl⟩/\vs.size=6/\vs[1]?=some (Value.ref t))
  (tb:∃ c d ts sl,s'.heap.get? t=some ⟨c,d,.fields ts,sl⟩/\ts[3]?=some fl) :
  Inv X pins σ (upd (upd H t (TbO t fl)) e (ExcO e C dd (some t))) s':=by
 have i:H t=none:=I.hok.fresh hn;have r:e≠t:=Zb9 F.1 i
 have p:e ∉ frs X.stack:=fun z=>by have:=I.stkFree e z;rw[F.1] at this;cases this
 have f:∀ b o,H b=some o->(∀ φ,o≠.ext φ)->b≠e/\b≠t/\T≠some b:=fun b o q n=>by
  refine⟨fun z=>?_,Zb9 q i,fun z=>?_⟩
  ·subst z;rw[F.1] at q;cases q;exact n _ rfl
  ·have:=(F.2 b z).2;rw[q] at this;cases this;exact n _ rfl
 have h:∀ b o,H b=some o->b≠e->upd (upd H t (TbO t fl)) e (ExcO e C dd (some t)) b=some o:=fun b o q n=>by
  rw[Zc2 n,Zc2 (Zb9 q i)];exact q
 have k:∀ b,H b=none->b≠t->upd (upd H t (TbO t fl)) e (ExcO e C dd (some t)) b=none:=fun b q n=>by
  rw[Zc2 (Zb9 F.1 q).symm,Zc2 n];exact q
 refine I.call' (ch:=[]) hos ⟨fun b o q n g _=>?_,fun b o q n g _=>slot b o q g,fun b o q n _=>k b n (Nat.ne_of_lt (Nat.lt_of_lt_of_le (Heap.lt_size q) hn)),fun b o q _=>?_,fun b m q=>h b _ q (f b _ q fun φ z=>nomatch z).1,fun b o u q=>h b _ q (f b _ q fun φ z=>nomatch z).1,
  fun b v q=>⟨#[],by rw[h b _ q (f b _ q fun φ z=>nomatch z).1];simp⟩⟩ (fun b o q=>?_) (by rw[hg];exact I.bare) (fun b z=>nomatch z)
 ·exact keep b o q g (Zb9 F.1 n).symm fun z=>by have:=(F.2 b z).2;rw[n] at this;cases this
 ·by_cases g:b∈frs X.stack
  ·obtain⟨sl,z⟩:=slot b o q g;exact⟨_,z⟩
  ·by_cases he:b=e
   ·subst he;obtain⟨_,_,z,_⟩:=exc;exact⟨_,z⟩
   ·by_cases hT:T=some b
    ·obtain⟨_,_,_,_,z,_⟩:=old b hT;exact⟨_,z⟩
    ·exact⟨o,keep b o q g he hT⟩
 ·by_cases he:b=e
  ·subst he;rw[Za3] at q;cases q;exact Yh1 exc
  ·rw[Zc2 he] at q
   by_cases ht:b=t
   ·subst ht;rw[Za3] at q;cases q;exact Xf7 tb
   ·rw[Zc2 ht] at q
    by_cases hT:T=some b
    ·have l:=(F.2 b hT).2
     rw[q] at l;cases l;exact Xf7 (old b hT)
    ·refine (I.hok b o q).stay (fun c u a z=>keep c u z ?_ ?_ ?_) (fun c z=>h c _ z (f c _ z fun φ y=>nomatch y).1) fun c m z=>h c _ z (f c _ z fun φ y=>nomatch y).1
     ·intro y
      have j:=I.stkFree c y;rcases a with a | a
      ·subst a;rw[q] at j;cases j
      ·rw[a] at j;cases j
     ·rcases a with a | a
      ·rw[a];exact he
      ·exact (f c _ a fun φ y=>nomatch y).1
     ·rcases a with a | a
      ·rw[a];exact hT
      ·exact (f c _ a fun φ y=>nomatch y).2.2
theorem Yq6 {head:Value} {hadNext:Bool} {Q:Unit->Shared->Prop} (I:Inv X pins σ H s) (F:FlyT H e C dd T) (hA:A.frames=some X.stack) (hst:X.stack=X.env :: X.outer) (hf:X.env.frame=some L)
  (h:∀ s' t,H t=none->Inv X pins σ (upd (upd H t (TbO t (rawInt L))) e (ExcO e C dd (some t))) s'->Q () s') :
  wpAny M A (do let a <- frameOf X.env;let pl <- entryPlaceOf L hadNext;let b <- EntryCells.newEntry head a .none (rawInt L) .none pl;setField (.ref e) 1 b) Q E s:=by
 obtain⟨n,p,D,m,G⟩:=Zj0 I.hok F.1
 have l:e ∉ frs X.stack:=fun z=>by have:=I.stkFree e z;rw[F.1] at this;cases this
 have w:=I.stack;rw[hst] at w hA;refine wpAny_bind (wpAny_frameOf_fun hA w hf fun h₁ hs₁=>?_);refine wpAny_bind (wpAny_entryPlaceOf fun pl r=>?_);unfold EntryCells.newEntry newFields;refine wpAny_bind (wpAny_newObj_type ?_ (r.sizeOk5 _ _ _ _ _));have i:∀ b,b ∉ frs X.stack->h₁.get? b=s.heap.get? b:=fun b f=>hs₁.2.1 b (by rw[hst] at f;exact f);have he₁:h₁.get? e=some ⟨C,dd,.fields n,p⟩:=(i e l).trans D;have he₂:=Heap.get?_push_of_some (h:=h₁) { cls:=.type "traceback",dict:=none,data:=.fields ([head,.ref L,.none,rawInt L,.none]++(if pl.isEmpty then List.replicate 6 Value.none else pl)).toArray } he₁;refine wpAny_setField he₂ rfl (by rw[m];decide) ?_;have v:h₁.objs.size≠e:=Nat.ne_of_gt (Heap.lt_size he₁);have k:s.heap.objs.size<=h₁.objs.size:=Nat.le_of_eq hs₁.1.symm;refine h _ h₁.objs.size (I.hok.fresh k) (Inv.noted I F rfl rfl k (fun b o q f u j=>?_) (fun b o q f=>?_) (fun b j=>?_) ?_ ?_)
 ·show (Heap.update _ e _).get? b=some o
  rw[Heap.get?_update_other _ _ (Ne.symm u)];exact Heap.get?_push_of_some _ ((i b f).trans q)
 ·obtain⟨g,z⟩:=hs₁.2.2 b o q
  refine⟨g,?_⟩;show (Heap.update _ e _).get? b=_;rw[Heap.get?_update_other _ _ (fun y=>l (by rw[y];exact f))];exact Heap.get?_push_of_some _ z
 ·obtain⟨c,d,B,g,z,x⟩:=Yv7 I.hok (F.2 b j).2
  have f:b ∉ frs X.stack:=fun y=>by have:=I.stkFree b y;rw[(F.2 b j).2] at this;cases this
  refine⟨c,d,B,g,?_,x⟩;show (Heap.update _ e _).get? b=_;rw[Heap.get?_update_other _ _ (Ne.symm (F.2 b j).1)];exact Heap.get?_push_of_some _ ((i b f).trans z)
 ·refine⟨n.setIfInBounds 1 (.ref h₁.objs.size),p,?_,by simp[m],by simp[m]⟩
  show (Heap.update _ e _).get? e=_;rw[Heap.get?_update_self _ he₂ rfl];rfl
 ·exact⟨_,_,_,_,(Heap.get?_update_other _ _ (Ne.symm v)).trans (Heap.get?_push_size h₁ rfl),by simp⟩
theorem Yk6 {Q:Unit->Shared->Prop} (I:Inv X pins σ H s) (F:FlyT H e C dd T) (hA:A.frames=some X.stack) (hst:X.stack=X.env :: X.outer) (hf:X.env.frame=some L)
  (h:∀ s' H' t,Inv X pins σ H' s'->Xr6 (rawInt L) H' e C dd (some t)->XStep e T H (some t) H'->Q () s'):wpAny M A (noteFrame (.ref e) X.env) Q E s:=by
 obtain⟨y,B,r,G,v⟩:=Zj0 I.hok F.1
 have f:∀ s' t,H t=none->Inv X pins σ (upd (upd H t (TbO t (rawInt L))) e (ExcO e C dd (some t))) s'->Q () s':=fun s' t j J=>by
  have a:e≠t:=Zb9 F.1 j;refine h s' _ t J ⟨Za3,fun u q=>?_⟩ ⟨fun b o q p D=>?_,fun u q=>?_⟩
  ·cases q;exact⟨a.symm,by rw[Zc2 a.symm,Za3]⟩
  ·rw[Zc2 p,Zc2 (Zb9 q j)];exact q
  ·cases q;exact⟨a.symm,.inr j⟩
 unfold noteFrame;simp only[hf];refine wpAny_bind (wpAny_field r rfl v ?_)
 cases hT:T with
 | none =>
  subst hT;rw[if_neg (by decide)];exact Yq6 I F hA hst hf f
 | some t =>
  subst hT;obtain⟨w,i⟩:=F.2 t rfl;obtain⟨c,d,m,k,z,g⟩:=Yv7 I.hok i;rw[if_pos (show ((Option.some t).elim Value.none Value.ref != Value.none)=true from by simp)];refine wpAny_bind (wpAny_field z rfl g ?_);rw[if_neg (by simp[rawInt])];refine wpAny_bind (wpAny_setField z rfl (Array.getElem?_eq_some_iff.mp g).1 ?_);refine Yq6 (T:=some t) ?_ F hA hst hf f;have l:=I.write (o:=TbO t .none) (h':=s.heap.update t (Obj.mapFields (·.setIfInBounds 3 .none))) (x:=t) (e:=t) (t':=s.toks) (by rw[i];trivial) (.inl rfl) (fun b u n q=>by rw[Heap.get?_update_other _ _ (Ne.symm n)];exact q)
   ⟨_,Heap.get?_update_self _ z rfl⟩ (Xf7 ⟨c,d,m.setIfInBounds 3 .none,k,by rw[Heap.get?_update_self _ z rfl];rfl,by simp[(Array.getElem?_eq_some_iff.mp g).1]⟩)
  have:upd H t (TbO t .none)=H:=by
   funext b
   by_cases hb:b=t
   ·subst hb;rw[Za3,i]
   ·rw[Zc2 hb]
  rw[this] at l;exact l
theorem Zx3 {Q:Unit->Shared->Prop} {fl:Value} (I:Inv X pins σ H s) (F:Xr6 fl H e C dd T)
  (h:∀ s' H',Inv X pins σ H' s'->FlyT H' e C dd T->XStep e T H T H'->Q () s'):wpAny M A (setFlight (.ref e) none) Q E s:=by
 obtain⟨r,v,l,B,m⟩:=Zj0 I.hok F.1;unfold setFlight;refine wpAny_bind (wpAny_field l rfl m ?_)
 cases hT:T with
 | none =>
  subst hT;rw[if_neg (by decide)];exact wpAny_pure (h s H I ⟨F.1,fun t q=>nomatch q⟩ (XStep.refl fun t q=>nomatch q))
 | some t =>
  subst hT;obtain⟨a,i⟩:=F.2 t rfl;obtain⟨c,d,j,g,z,f⟩:=Yv7 I.hok i;rw[if_pos (show ((Option.some t).elim Value.none Value.ref != Value.none)=true from by simp)];refine wpAny_setField z rfl (Array.getElem?_eq_some_iff.mp f).1 ?_;have p:=I.write (o:=TbO t .none) (h':=s.heap.update t (Obj.mapFields (·.setIfInBounds 3 .none))) (x:=t) (e:=t) (t':=s.toks) (by rw[i];trivial) (.inl rfl) (fun b u n q=>by rw[Heap.get?_update_other _ _ (Ne.symm n)];exact q)
   ⟨_,Heap.get?_update_self _ z rfl⟩ (Xf7 ⟨c,d,j.setIfInBounds 3 .none,g,by rw[Heap.get?_update_self _ z rfl];rfl,by simp[(Array.getElem?_eq_some_iff.mp f).1]⟩)
  refine h _ _ p ⟨by rw[Zc2 (Ne.symm a)];exact F.1,fun u q=>?_⟩ ⟨fun b o q w k=>?_,fun u q=>?_⟩
  ·cases q;exact⟨a,Za3⟩
  ·rw[Zc2 (fun y=>k (by rw[y]))];exact q
  ·cases q;exact⟨a,.inl rfl⟩
end
noncomputable def CXe (P:Program) (w:World):CXT:=fun outer H s E e s'=>∃ ea C dd T H',e=.ref ea/\s'.os=s.os/\AllBare s'.gens/\Un (frs outer) [] H H' s.heap s'.heap/\HOk P w H' s'.heap/\FlyT H' ea C dd T /\
 ∀ T'' H'',XStep ea T H' T'' H''->FlyT H'' ea C dd T''->E (.ref ea) dd H''
def XOk (X:Cx) (E:XK):Prop:=∀ (pins:List (Addr×Obj)) (σ:St) (H:Hp) (s:Shared) (ea:Addr) (C:Value) (dd T:Option Addr),Inv X pins σ H s->FlyT H ea C dd T ->
 (∀ T'' H'',XStep ea T H T'' H''->FlyT H'' ea C dd T''->E (.ref ea) dd H'')->X.xe (.ref ea) s
theorem Xi0 {X:Cx} {pins:List (Addr×Obj)} {σ:St} {H:Hp} {s:Shared} {M:Model} {A:Around} {E:Value->Shared->Prop} {e L:Addr} {C:Value} {dd T:Option Addr} {Q:Unit->Shared->Prop}
  (I:Inv X pins σ H s) (F:FlyT H e C dd T) (hA:A.frames=some X.stack) (hst:X.stack=X.env :: X.outer) (hf:X.env.frame=some L)
  (h:∀ s' H' T',Inv X pins σ H' s'->FlyT H' e C dd T'->XStep e T H T' H'->Q () s'):wpAny M A (leaving X.env (.ref e)) Q E s:=by
 unfold leaving;exact wpAny_bind (Yk6 I F hA hst hf fun k l t f j c=>Zx3 f j fun a g d i b=>h a g _ d i (c.trans b))
theorem Zq6 {P:Program} {w:World} {K:W.Frag} {mg:Str->Option Value} {base:Heap} {N:List Str} {qual:Str} {scope:Scope} {f:Addr} {cd:Value} {A:Around} {outer:List Env} {s:Shared} {H:Hp} {E:XK} :
  XOk (cxOf (CXe P w) P w K mg base N qual scope f cd A outer s H E) E:=by
 intro d m p o e C g T I F h;refine Xi0 (X:=cxOf (CXe P w) P w K mg base N qual scope f cd A outer s H E) (L:=s.heap.objs.size) I F I.ok.frames rfl rfl fun n k i a l j=>?_;exact⟨e,C,g,i,k,rfl,a.os,a.bare,a.base,a.hok,l,fun b c S F=>h b c (j.trans S) F⟩
noncomputable abbrev bmV:List Value:=[.type "ValueError",.type "Exception",.type "BaseException",.type "object"]
def IsXC (h:Heap) (C:Addr) (bm:List Value) (mN:Str->Option Value):Prop:=∃ nm q N bs hdct sn sub ab col dd k0 k1 k2 k3 k5,h.get? C=some (excClassObj nm q C N bs bm hdct sn sub ab col dd k0 k1 k2 k3 k5 "ValueError.__new__")/\h.Ns N mN/\OwnTail h bmV bm
def XCls (K:W.Frag) (C:Addr):Prop:=∀ h,K.In h->∃ bm mN,IsXC h C bm mN/\mN "__init__"=none
theorem IsXC.keeps {h h':Heap} {C:Addr} {bm:List Value} {mN:Str->Option Value} (x:IsXC h C bm mN) (k:∀ b o,h.get? b=some o->h'.get? b=some o):IsXC h' C bm mN :=
 let ⟨nm,q,N,bs,hdct,sn,sub,ab,col,dd,k0,k1,k2,k3,k5,a,b,c⟩:=x
 ⟨nm,q,N,bs,hdct,sn,sub,ab,col,dd,k0,k1,k2,k3,k5,k _ _ a,b.keeps k,c.keeps k⟩
section
variable {P:Program} {w:World} {H:Hp} {h h':Heap} {a:Addr} {o:HO}
theorem ObjOk.obj (x:ObjOk P w H h a o):∃ ob,h.get? a=some ob:=by
 cases o with
 | lst xs=>obtain⟨_,_,_,_,e⟩:=x;exact⟨_,e⟩
 | tup xs=>obtain⟨_,_,_,o,e,_⟩:=x;exact⟨_,e⟩
 | dK kvs=>obtain⟨_,_,_,_,o,_,_,e,_⟩:=x;exact⟨_,e⟩
 | dT kvs=>obtain⟨_,_,_,_,o,_,_,e,_⟩:=x;exact⟨_,e⟩
 | set S n=>obtain⟨o,_,_,_,e,_⟩:=x;exact⟨_,e⟩
 | ins C dx fs=>obtain⟨_,_,_,e,_⟩:=x;exact⟨_,e⟩
 | own y=>exact x
 | xd fs=>obtain⟨_,⟨_,_,_,e,_⟩,_⟩:=x;exact⟨_,e⟩
 | rng lo hi=>obtain⟨_,_,_,e⟩:=x;exact⟨_,e⟩
 | frz ob u=>obtain⟨e,_⟩:=x;exact⟨_,e⟩
 | tbl ps=>exact⟨_,x⟩
 | met f y=>exact⟨_,x⟩
 | ext φ=>exact x.2.1
theorem HOk.newAt (x:HOk P w H h) (n:h.get? a=none):H a=none:=by
 cases q:H a with
 | none=>rfl
 | some u =>
  obtain⟨b,z⟩:=(x a u q).obj;rw[n] at z;cases z
theorem Inv.laidN {X:Cx} {pins:List (Addr×Obj)} {σ:St} {s:Shared} {t':Nat} (I:Inv X pins σ H s) (k:∀ b u,s.heap.get? b=some u->h'.get? b=some u) (hn:s.heap.get? a=none) (new:ObjOk X.prog X.w (upd H a o) h' a o) :
  Inv X pins σ (upd H a o) { s with heap:=h',toks:=t' }:=by
 have f:=I.hok.newAt hn
 have d:∀ b u,H b=some u->upd H a o b=some u:=fun b u q=>by rw[Zc2 (Zb9 q f)];exact q
 refine I.un ⟨fun b u q _ _ _=>k b u q,fun b u q _ _ _=>⟨u.slots,k b u q⟩,fun b u q n _=>?_,fun b u q _=>⟨u,k b u q⟩,fun b e q=>d _ _ q,fun b u e q=>d _ _ q,fun b g q=>⟨#[],by rw[d _ _ q];simp⟩⟩ fun b u q=>?_
 ·rw[Zc2 (fun z=>by subst z;rw[hn] at q;cases q)];exact n
 ·by_cases hb:b=a
  ·subst hb;rw[Za3] at q;cases q;exact new
  ·rw[Zc2 hb] at q
   exact (I.hok b u q).stay (fun c v _ z=>k c v z) (fun c z=>d _ _ z) fun c e z=>d _ _ z
end
theorem IsXC.base {h:Heap} {C:Addr} {bm:List Value} {mN:Str->Option Value} (x:IsXC h C bm mN):bm.contains (.type "BaseException")=true:=by
 obtain⟨_,_,_,_,_,_,_,_,_,_,_,_,_,_,_,_,_,c⟩:=x;exact c.hasType rfl
theorem Xm5 {K:W.Frag} {C N:Addr} {nm q:Str} {bs bm:List Value} {hdct:Bool} {sn:List Str} {sub:List Value} {ab:Bool} {col:Option Bool} {dd:Option Addr} {k0 k1 k2 k3 k5:Option Value}
  (l:K.lookup C=some (excClassObj nm q C N bs bm hdct sn sub ab col dd k0 k1 k2 k3 k5 "ValueError.__new__")) (t:W.tailIn K bmV bm=true) (n:W.nsOkIn K N=true) (i:W.nsIn K N "__init__"=some none):XCls K C:=fun h X =>
 ⟨bm,h.nsMap N,⟨nm,q,N,bs,hdct,sn,sub,ab,col,dd,k0,k1,k2,k3,k5,X _ _ l,.of_isNs (W.isNs_of_in X n),W.tail_of_in X t⟩,W.nsMap_none_of_in X n i⟩
def Xtd (H:Hp) (e:Addr) (C:Value) (dd:Option Addr) (H':Hp):Prop:=H e=none/\Same H H'/\∃ T,FlyT H' e C dd T
theorem Yf8 {G H:Hp} {e:Addr} (s:Same G H) (x:H e=none):G e=none:=by
 cases q:G e with
 | none=>rfl
 | some o =>
  have:=s _ _ q;rw[x] at this;cases this
theorem Xtd.mono {G H H':Hp} {e:Addr} {C:Value} {dd:Option Addr} (s:Same G H) (x:Xtd H e C dd H'):Xtd G e C dd H':=⟨Yf8 s x.1,fun b o q=>x.2.1 b o (s b o q),x.2.2⟩
theorem Xtd.step {G H H':Hp} {e:Addr} {C:Value} {dd T T':Option Addr} (n:G e=none) (nt:∀ t,T=some t->G t=none) (s:Same G H) (S:XStep e T H T' H') (F:FlyT H' e C dd T'):Xtd G e C dd H' :=
 ⟨n,fun b o q=>S.1 b o (s b o q) (Zb9 q n) (fun z=>by rw[nt b z] at q;cases q),T',F⟩
def Ye3 (E:XK) (C:Addr) (t:TA):TS:=fun _ σ H=>t σ H fun vs H1=>vs.length<=sizeLine/\∀ e H',Xtd H1 e (.ref C) none H'->E (.ref e) none H'
section
variable {X:Cx} {E:XK} {x:Str} {C:Addr} {np cpos pos:Pos} {e:Expr} {es:List Expr} {t:TA}
theorem Yb2 (hx:XOk X E) (hc:X.calm=true) (hg:Gl X x) (hm:X.mg x=some (.ref C)) (hC:XCls X.K C) (ha:PA X (e :: es) t) (hdb:(x == ("__debug__":Str))=false:=by decide)
  (hs:starEach (e :: es) X.env=(false,eval e X.env) :: starEach es X.env:=by rfl) (hpl:(backTo cpos (starEach es X.env)).any (·.1)=false:=by rfl) :
  PS X (.Raise (some (.Call (.Name x np) (e :: es) [] cpos)) none pos) (Ye3 E C t):=by
 intro a s f H D I h;obtain⟨bm,mN,j,g⟩:=hC X.base I.ok.mod.kin;obtain⟨nm,q,N,bs,hdct,sn,sub,ab,col,dd,k0,k1,k2,k3,k5,u,p,n⟩:=id j;refine wpAny_Raise_call_subT F.excBase_ValueError (C:=C) (nm:=nm) (q:=q) (N:=N) (bs:=bs) (bm:=bm) (hdct:=hdct) (sn:=sn) (sub:=sub) (ab:=ab) (col:=col) (dd:=dd) (k0:=k0) (k1:=k1) (k2:=k2) (k3:=k3) (k5:=k5) (mN:=mN)
  j.base (I.ok.hd hc) (by rw[hs];exact hpl) g (Zj7 I hg hm ⟨rfl,?_⟩ hdb)
 rw[hs];refine PySem.Calls.evalArgs_plain ?_;have c:=ha cpos a s f H _ I h;rw[hs] at c;refine thn c fun us s1 ⟨vs,H1,I1,r,hl,q1⟩=>⟨rfl,by rw[<- r.length];exact hl,I1.bk _ _ u,p.keeps I1.bk,n.keeps I1.bk,fun A d m=>?_⟩;obtain⟨w,l,_,y⟩:=m.there;have J:=I1.laidN (o:=ExcO d (.ref C) none none) (t':=s1.toks) m.keeps m.new (Yh1 ⟨_,_,l,rfl,rfl⟩);have i:=I1.hok.newAt m.new;refine hx a f _ _ d (.ref C) none none J ⟨Za3,fun t q=>nomatch q⟩ fun v k S F=>q1 d k ?_;exact Xtd.step (T:=none) i (fun t z=>nomatch z) (fun b o q=>by rw[Zc2 (Zb9 q i)];exact q) S F
end
noncomputable abbrev Cx.hand (X:Cx) (ea:Addr):Cx:={ X with A:=X.A.mark (some (.ref ea)),calm:=false,xe:=fun _ _=>False }
section
variable {X:Cx} {pins:List (Addr×Obj)} {σ:St} {H:Hp} {s:Shared} {ea:Addr}
theorem Inv.hand (I:Inv X pins σ H s) (ea:Addr):Inv (X.hand ea) pins σ H s :=
 ⟨⟨I.ok.mod,I.ok.kind,I.ok.glob,I.ok.blt,I.ok.above,I.ok.inj,I.ok.has,I.ok.cab,(fun z=>nomatch z),I.ok.frames,I.ok.stk,I.ok.exf,I.ok.bs,I.ok.bsz,I.ok.noex,I.ok.exfs,I.ok.funs,I.ok.frf⟩,I.os,I.bare,I.base,I.loc,I.cell,I.free,I.freeC,I.pin,I.hok,I.len⟩
theorem Inv.unhand (hd:X.calm=true->X.A.handled=none) (I:Inv (X.hand ea) pins σ H s):Inv X pins σ H s :=
 ⟨⟨I.ok.mod,I.ok.kind,I.ok.glob,I.ok.blt,I.ok.above,I.ok.inj,I.ok.has,I.ok.cab,hd,I.ok.frames,I.ok.stk,I.ok.exf,I.ok.bs,I.ok.bsz,I.ok.noex,I.ok.exfs,I.ok.funs,I.ok.frf⟩,I.os,I.bare,I.base,I.loc,I.cell,I.free,I.freeC,I.pin,I.hok,I.len⟩
theorem Yv2 {M:Model} {A:Around} {E:Value->Shared->Prop} {i:Nat} {x:Str} {v:V} {pos:Pos} {Q:Unit->Shared->Prop} (I:Inv X pins σ H s) (hN:X.N.Nodup) (hi:X.N[i]?=some x) (hx:X.env.scope.names.lookup x=some .local) (hv:σ[i]?=some (some v))
  (h:∀ s',Inv X pins (σ.set i none) H s'->Q () s'):wpAny M A (unbindBehindTheSuite X.env x pos) Q E s:=by
 obtain⟨m,hn,G⟩:=id I.loc;obtain⟨u,ru,W⟩:=G i x v hi hv (.inl hx)
 have hm:m x=some u:=by
  rcases W with ⟨_,z⟩ | ⟨z,_⟩
  ·exact z
  ·have f:X.env.kindOf x=some .local:=hx
   rw[f] at z;rcases z with z | z<;>cases z
 unfold unbindBehindTheSuite;refine wpAny_onRaise (wpAny_mono (wpAny_unbindName_local (E:=fun _ _=>False) hx hn hm (by rw[I.ok.kind];rfl) fun h' u' F hs=>?_) (fun _ _ q=>q) fun _ _ z=>False.elim z);refine h _ ?_;have a:∀ b o,b≠X.env.locals->s.heap.get? b=some o->h'.get? b=some o:=fun b o n q=>(hs.2 b n).trans q;have g:∀ b o,X.s₀.heap.get? b=some o->b≠X.env.locals:=fun b o e=>Nat.ne_of_lt (Nat.lt_of_lt_of_le (Heap.lt_size e) I.ok.above)
 have r:∀ b o,H b=some o->b≠X.env.locals:=fun b o e z=>by rw[z,I.free] at e;cases e
 refine⟨I.ok,I.os,I.bare,⟨fun b o e n C hx=>a b o (g b o e) (I.base.keep b o e n C hx),fun b o e n C hx=>?_,I.base.free,fun b o e hx=>?_,I.base.tups,I.base.frzs,I.base.tbls⟩,⟨_,F,fun j y w k l e3=>?_⟩,fun y c e=>?_,I.free,I.freeC,fun p hp=>?_,fun b o e=>?_,by rw[List.length_set];exact I.len⟩
 ·obtain⟨O,z⟩:=I.base.slot b o e n C hx
  exact⟨O,a b _ (g b o e) z⟩
 ·obtain⟨S,z⟩:=I.base.there b o e hx
  exact⟨S,a b _ (g b o e) z⟩
 ·have J:j≠i:=fun z=>by
   subst z;rw[List.getElem?_set_self (by rw[I.len];exact (List.getElem?_eq_some_iff.mp k).1)] at l;cases l
  rw[List.getElem?_set_ne (Ne.symm J)] at l;obtain⟨L,R,Y⟩:=G j y w k l e3;have Z:y≠x:=fun z=>J (Yb7 hN (by rw[<- z];exact k) hi);refine⟨L,R,?_⟩;rcases Y with ⟨d,f⟩ | ⟨d,c,f,o,B,t⟩
  ·exact .inl ⟨d,(if_neg Z).trans f⟩
  ·exact .inr ⟨d,c,f,o,a c o (I.cne y c f) B,t⟩
 ·obtain⟨w,o,B,t⟩:=I.cell y c e
  exact⟨w,o,a c o (I.cne y c e) B,t⟩
 ·obtain⟨k,U,D,T,d1⟩:=I.pin p hp
  exact⟨a _ _ D k,U,D,T,d1⟩
 ·refine (I.hok b o e).stay (fun c w hc z=>a c w ?_ z) (fun _ z=>z) fun _ _ z=>z
  rcases hc with d | d
  ·rw[d];exact r b o e
  ·exact r c _ d
end
def Fell (X:Cx) (pins:List (Addr×Obj)) (σ:St) (E:XK) (x:Value) (s':Shared):Prop:=∃ ea C dd T H',x=.ref ea/\Inv X pins σ H' s'/\FlyT H' ea C dd T/\∀ T'' H'',XStep ea T H' T'' H''->FlyT H'' ea C dd T''->E (.ref ea) dd H''
def PX (X:Cx) (e:Expr) (t:XK->TE):Prop:=∀ (pins:List (Addr×Obj)) (s:Shared) (σ:St) (H:Hp) (Q:VK) (E:XK),Inv X pins σ H s->t E σ H Q->wpAny (model X.prog X.w) X.A (eval e X.env) (EP X pins σ Q) (Fell X pins σ E) s
section
variable {X:Cx} {k:Nat} {f:Addr} {fd:FuncData} {ps:List Str} {sp:Sp} {dvs:List V} {ds:List Value} {x:Str} {p pos:Pos} {e:Expr} {es:List Expr} {t:TA}
theorem Yx4 (F:FnOk X.prog X.w X.K X.mg X.base (CXe X.prog X.w) k f fd ps sp) (hr:Room k X.A) (hg:Gl X x) (hm:X.mg x=some (.ref f)) (hk:W.keepIn X.K (.ref f)=true) (hb:Binds X.K fd ps ds) (hd:Vals dvs ds)
  (ha:PA X.nox (e :: es) t) (hdb:(x == ("__debug__":Str))=false:=by decide) (he:starEach (e :: es) X.env=(false,eval e X.env) :: starEach es X.env:=by rfl) (hpl:(backTo pos (starEach es X.env)).any (·.1)=false:=by rfl) :
  PX X (.Call (.Name x p) (e :: es) [] pos) (fun E=>Zv7 sp dvs E t):=by
 intro d s i H Q E I h;refine wpAny_Call_Name_kw (Zj7 I hg hm ?_ hdb);refine W.callWith_K (h₀:=X.base) I.ok.mod.kin hk (wpAny_mono (ha pos d s i H _ (I.wish _) h) (fun us s1 ⟨vs,H1,I1',r,q⟩=>⟨I1'.unwish.kIn,?_⟩) fun _ _ z=>False.elim z) he hpl;have c:=I1'.unwish;have g:Vals (vs++dvs) (us++ds):=r.append hd
 have m:(us++ds).length=ps.length:=by rw[<- g.length];exact F.len _ _ _ _ q
 refine wpAny_call (codeAny_mono (F.run X.A X.stack s1 H1 ⟨us,[]⟩ (us++ds) (vs++dvs) Q E hr c.env0 (hb s1 us c.kIn m) g q) fun r y a=>?_)
 cases r with
 | error e =>
  obtain⟨n,C,o,T,v,rfl,l,hg,j,hk,F,q⟩:=a;exact⟨n,C,o,T,v,rfl,c.call' (ch:=[]) l j hk hg (fun b z=>nomatch z),F,q⟩
 | ok fl =>
  cases fl with
  | ret u=>exact c.after a
  | next=>exact False.elim a
  | brk=>exact False.elim a
  | cont=>exact False.elim a
end
def Zn7 (C:Addr) (i:Nat) (ts:TS) (D:Ends) (σ:St):XK:=fun e dd H'=>∃ ea T,e=.ref ea/\FlyT H' ea (.ref C) dd T /\
 ts { nx:=fun σ' H''=>D.nx (σ'.set i none) H'',rt:=D.rt,bk:=fun σ' H''=>D.bk (σ'.set i none) H'',ct:=fun σ' H''=>D.ct (σ'.set i none) H'' } (σ.set i (some (.ref ea))) H'
def Ye4 (C:Addr) (ts:TS) (D:Ends) (σ:St):XK:=fun e dd H'=>∃ ea T,e=.ref ea/\FlyT H' ea (.ref C) dd T/\ts D σ H'
theorem Xb9 {P:Program} {w:World} {H:Hp} {h:Heap} {e:Addr} {C C':Value} {dd dd' T T':Option Addr} (hok:HOk P w H h) (a:FlyT H e C dd T) (b:FlyT H e C' dd' T'):C=C':=by
 obtain⟨_,_,z,_⟩:=Zj0 hok a.1;obtain⟨_,_,y,_⟩:=Zj0 hok b.1;rw[z] at y;injection y with y;injection y
section
variable {X:Cx} {pins:List (Addr×Obj)} {σ:St} {H:Hp} {s:Shared} {ea L C:Addr} {dd T:Option Addr} {D:Ends} {c n:Str} {cp hpos:Pos} {b₀:Stmt} {suite:List Stmt} {i:Nat} {ts:TS} {bm:List Value} {mN:Str->Option Value} {x:Value}
theorem Xd2 (hc:X.calm=true) (hst:X.stack=X.env :: X.outer) (hf:X.env.frame=some L) (hg:Gl X c) (hm:X.mg c=some (.ref C)) (hC:IsXC X.base C bm mN) (hN:X.N.Nodup) (hi:X.N[i]?=some n) (hx:X.env.scope.names.lookup n=some .local)
  (hs:∀ ea,PSs (X.hand ea) (b₀ :: suite) ts) (Fl:Fell X pins σ (Zn7 C i ts D σ) x s) (hdb:(c == ("__debug__":Str))=false:=by decide) :
  wpAny (model X.prog X.w) X.A (noteFrame x X.env) (fun _ s₂=>wpAny (model X.prog X.w) X.A (setFlight x none) (fun _ s₃=>wpAny (model X.prog X.w) X.A (handleBy x X.env [.ExceptHandler (some (.Name c cp)) (some n) (b₀ :: suite) hpos]) (SP X pins D) X.xe s₃) X.xe s₂) X.xe s:=by
 obtain⟨ea,C',dd,T,H',rfl,I,Fy,q⟩:=Fl;have hd:=I.ok.hd;refine Yk6 I Fy I.ok.frames hst hf fun s1 H1 t1 I1 F1 O=>Zx3 I1 F1 fun Z H2 o t M=>?_;refine wpAny_handleBy_cons (codeAny_handlers_test (Zj7 (X:=X.hand ea) (o.hand ea) hg hm ?_ hdb)) (fun z=>nomatch z);obtain⟨G,T',B,V,F⟩:=q _ H2 (O.trans M) t;cases B;obtain rfl:C'=Value.ref C:=Xb9 o.hok t V;obtain⟨nm,qn,N,bs,q0,sn,q1,ab,q4,q2,k0,k1,k2,k3,k5,c1,c2,c3⟩:=(hC.keeps o.bk);obtain⟨vs,sl,he,_⟩:=Zj0 o.hok t.1;obtain⟨hh,g,d,tk,os⟩:=Z;refine wpAny_excMatches_sub_self c1 he rfl hC.base (codeAny_handlers_suite_as ?_);refine Zx3 (o.hand ea) t fun s3 S I3 U S3=>?_;obtain⟨G,T',B,V,F⟩:=q _ S ((O.trans M).trans S3) U;cases B;refine Zm8 (X:=X.hand ea) I3 hN hi (.inl hx) (v:=.ref ea) rfl (fun Y I4=>?_) (.inr hx);refine wpAny_mono (hs ea pins Y _ S _ I4 F) (fun f s5 p=>?_) fun _ _ z=>False.elim z
 have m:∀ {a:St} {l:Hp} {Q:Flow->Shared->Prop},Inv (X.hand ea) pins a l s5->(∀ e,Inv X pins (a.set i none) l e->Q f e)->wpAny (model X.prog X.w) X.A (do bindName X.env n .none;unbindBehindTheSuite X.env n hpos) (fun _ e=>Q f e) X.xe s5:=by
  intro a l Q J k;refine wpAny_bind (wpAny_bindName (Zm8 (J.unhand hd) hN hi (.inl hx) (v:=.non) rfl (fun e h=>?_) (.inr hx)))
  have y:i < a.length:=by rw[J.len];exact (List.getElem?_eq_some_iff.mp hi).1
  refine Yv2 h hN hi hx (by rw[List.getElem?_set_self y]) fun W R=>k W ?_;rw[List.set_set] at R;exact R
 cases f with
 | next=>obtain⟨a,l,J,j⟩:=p;exact m (Q:=SP X pins D) J fun e h=>⟨_,_,h,j⟩
 | brk=>obtain⟨a,l,J,j⟩:=p;exact m (Q:=SP X pins D) J fun e h=>⟨_,_,h,j⟩
 | cont=>obtain⟨a,l,J,j⟩:=p;exact m (Q:=SP X pins D) J fun e h=>⟨_,_,h,j⟩
 | ret u=>obtain⟨v,a,l,J,r,j⟩:=p;exact m (Q:=SP X pins D) J fun e h=>⟨v,_,_,h,r,j⟩
theorem Xj6 (hc:X.calm=true) (hst:X.stack=X.env :: X.outer) (hf:X.env.frame=some L) (hg:Gl X c) (hm:X.mg c=some (.ref C)) (hC:IsXC X.base C bm mN)
  (hs:∀ ea,PSs (X.hand ea) (b₀ :: suite) ts) (Fl:Fell X pins σ (Ye4 C ts D σ) x s) (hdb:(c == ("__debug__":Str))=false:=by decide) :
  wpAny (model X.prog X.w) X.A (noteFrame x X.env) (fun _ s₂=>wpAny (model X.prog X.w) X.A (setFlight x none) (fun _ s₃=>wpAny (model X.prog X.w) X.A (handleBy x X.env [.ExceptHandler (some (.Name c cp)) none (b₀ :: suite) hpos]) (SP X pins D) X.xe s₃) X.xe s₂) X.xe s:=by
 obtain⟨ea,C',dd,T,H',rfl,I,Fy,q⟩:=Fl;have i:=I.ok.hd;refine Yk6 I Fy I.ok.frames hst hf fun s1 H1 t1 Y F1 t=>Zx3 Y F1 fun M Z h k p=>?_;refine wpAny_handleBy_cons (codeAny_handlers_test (Zj7 (X:=X.hand ea) (h.hand ea) hg hm ?_ hdb)) (fun z=>nomatch z);obtain⟨o,U,l,F,n⟩:=q _ Z (t.trans p) k;cases l;obtain rfl:C'=Value.ref C:=Xb9 h.hok k F;obtain⟨nm,qn,N,bs,R,sn,q0,ab,q2,q1,k0,k1,k2,k3,k5,S,c2,c3⟩:=(hC.keeps h.bk);obtain⟨vs,sl,O,_⟩:=Zj0 h.hok k.1;obtain⟨hh,g,d,tk,os⟩:=M;refine wpAny_excMatches_sub_self S O rfl hC.base (codeAny_handlers_suite ?_);refine Zx3 (h.hand ea) k fun G y W B V=>?_;obtain⟨o,U,l,F,n⟩:=q _ y ((t.trans p).trans V) B;cases l;refine wpAny_mono (hs ea pins G _ y _ W n) (fun f s5 j=>?_) fun _ _ z=>False.elim z
 cases f with
 | next=>obtain⟨e,m,J,a⟩:=j;exact⟨_,_,J.unhand i,a⟩
 | brk=>obtain⟨e,m,J,a⟩:=j;exact⟨_,_,J.unhand i,a⟩
 | cont=>obtain⟨e,m,J,a⟩:=j;exact⟨_,_,J.unhand i,a⟩
 | ret u=>obtain⟨v,e,m,J,r,a⟩:=j;exact⟨v,_,_,J.unhand i,r,a⟩
end
def Ye1 (te:XK->TE) (j:Nat) (C:Addr) (i:Nat) (ts:TS):TS:=fun D σ H=>te (Zn7 C i ts D σ) σ H fun v H1=>D.nx (σ.set j (some v)) H1
def Yv8 (te:XK->TE) (C:Addr) (ts:TS):TS:=fun D σ H=>te (Ye4 C ts D σ) σ H D.rt
def XC (K:W.Frag) (C:Addr):Prop:=∀ h,K.In h->∃ bm mN,IsXC h C bm mN
theorem XCls.xc {K:W.Frag} {C:Addr} (x:XCls K C):XC K C:=fun h X=>let ⟨bm,mN,a,_⟩:=x h X;⟨bm,mN,a⟩
section
variable {X:Cx} {C:Addr} {c n x:Str} {cp hpos pos apos xp:Pos} {b₀:Stmt} {suite:List Stmt} {i j:Nat} {ts:TS} {e:Expr} {te:XK->TE} {L:Addr}
theorem Xg9 (hc:X.calm=true) (hst:X.stack=X.env :: X.outer) (hf:X.env.frame=some X.env.locals) (hg:Gl X c) (hm:X.mg c=some (.ref C)) (hC:XC X.K C) (hN:X.N.Nodup) (hj:X.N[j]?=some x) (hl:Loc X.env.scope x) (hi:X.N[i]?=some n) (hx:X.env.scope.names.lookup n=some .local)
  (he:PX X e te) (hs:∀ ea,PSs (X.hand ea) (b₀ :: suite) ts) (hw:swapsWith e (some (.Name x xp)) apos.line X.env=pure false:=by rfl) (hfn:X.fn x=true∨X.env.scope.names.lookup x=some .local:=by first | exact .inl rfl | exact .inr rfl | assumption) (hdb:(c == ("__debug__":Str))=false:=by decide) :
  PS X (.Try [.Assign [.Name x xp] e apos] [.ExceptHandler (some (.Name c cp)) (some n) (b₀ :: suite) hpos] [] [] pos) (Ye1 te j C i ts):=by
 intro a s d H D I h;obtain⟨p,o,g⟩:=hC X.base I.ok.mod.kin;refine wpAny_Try_except (wpAny_execs_cons (wpAny_Assign_Name (wpAny_mono (he a s d H _ _ I h) (fun v f ⟨y,H1,I1,r1,q1⟩=>?_) fun y f l=>Xd2 hc hst hf hg hm g hN hi hx hs l hdb) hw));exact Zm8 I1 hN hj hl r1 (fun m k=>wpAny_execs_nil (wpAny_execs_nil ⟨_,H1,k,q1⟩)) hfn
theorem Xo0 (hc:X.calm=true) (hst:X.stack=X.env :: X.outer) (hf:X.env.frame=some X.env.locals) (hg:Gl X c) (hm:X.mg c=some (.ref C)) (hC:XC X.K C)
  (he:PX X e te) (hs:∀ ea,PSs (X.hand ea) (b₀ :: suite) ts) (hdb:(c == ("__debug__":Str))=false:=by decide) :
  PS X (.Try [.Return (some e) apos] [.ExceptHandler (some (.Name c cp)) none (b₀ :: suite) hpos] [] [] pos) (Yv8 te C ts):=by
 intro a s d H D I h;obtain⟨k,j,g⟩:=hC X.base I.ok.mod.kin;exact wpAny_Try_except (wpAny_execs_cons (wpAny_Return_some (wpAny_mono (he a s d H _ _ I h) (fun v f ⟨y,H1,I1,r1,q1⟩=>⟨y,d,H1,I1,r1,q1⟩) fun y f i=>Xj6 hc hst hf hg hm g hs i hdb)))
end
open PySem.W
section
variable {prog:Program} {w:World} {A:Around} {E:Value->Shared->Prop} {s:Shared} {K:W.Frag} {x C:Addr} {ox:Obj} {od:Option Obj} {nm:Str} {tk:Tok}
structure XGet (K:W.Frag) (C:Addr):Prop where
 ga:findIn K (.ref C) "__getattribute__"=some (some (.builtin "BaseException.__getattribute__"))
 gt:findIn K (.ref C) "__getattr__"=some none
 mb:mroIn K C (.type "BaseException")=some true
theorem Yu6 {R:Result->Shared->Prop} (X:K.In s.heap) (I:W.InstAt s.heap x ox C od) (G:XGet K C)
  (h:wpAny (model prog w) A.in1 (Builtin.«object.__getattribute__» ⟨[.ref x,.str nm tk],[]⟩) (fun fin s'=>match fin with | .done (.ret v)=>R (.ok (.ret v)) s' | _=>False) (fun _ _=>False) s) :
  codeAny (model prog w) A (.call (.builtin "BaseException.__getattribute__") ⟨[.ref x,.str nm tk],[]⟩) R s:=by
 refine codeAny_call_builtin PySem.F.attrBase_ValueError.ga.plain PySem.F.entry_bexc_ga ?_
 have e:builtinKind "BaseException.__getattribute__"=some .slot:=by decide +kernel
 have a:splitId "BaseException.__getattribute__"=some ("BaseException","__getattribute__"):=by decide +kernel
 have f:=PySem.F.args_bexc_ga (.ref x) (.str nm tk);obtain⟨b,g,d,t,c⟩:=s;have k:=I.type (M:=model prog w);have j:=looks_mroIn (M:=model prog w) X G.mb;have i:Looks (model prog w) b (isInstance (.ref x) (.type "BaseException")) true:=k.andThen j;simp only[checkBuiltinCall,e,a];refine wpAny_bind (i.at ?_);simp only[Bool.not_true,Bool.false_eq_true,if_false];refine wpAny_mono (Q:=fun _ s'=>s'=⟨b,g,d,t,c⟩) (E:=fun _ _=>False) ?_ (fun _ s' z=>?_) fun _ _ z=>False.elim z
 ·have:=f
  repeat (any_goals (first | assumption | rfl | wp_step))
 ·subst z
  refine wpAny_mono h (fun fin s' z=>?_) fun _ _ z=>False.elim z
  rcases fin with (_ | _ | _ | _) | _<;>first | exact z | exact False.elim z
theorem Yu7 {fill expr:Bool} {Q:Value->Shared->Prop} (X:K.In s.heap) (I:W.InstAt s.heap x ox C od) (G:XGet K C)
  (h:wpAny (model prog w) A.in1 (Builtin.«object.__getattribute__» ⟨[.ref x,.str nm tk],[]⟩) (fun fin s'=>match fin with | .done (.ret v)=>wpAny (model prog w) A (handedOut v) Q E s' | _=>False) (fun _ _=>False) s) :
  wpAny (model prog w) A (getAttrBy (.ref x) (.str nm tk) fill expr) Q E s:=by
 obtain⟨f,g,d,t,e⟩:=s;have c:=I.type (M:=model prog w);have b:=looks_findIn (M:=model prog w) X G.ga;have a:=looks_findIn (M:=model prog w) X G.gt;unfold getAttrBy;refine wpAny_holding (wpAny_bind (c.at (wpAny_bind (b.at ?_))));dsimp only;rw[if_neg (by rw[show (Value.builtin "BaseException.__getattribute__" == Value.builtin "object.__getattribute__")=false from by decide];simp)];unfold getAttrByItsOwn hookBefore;rw[if_pos (show onTheHeap (.ref C)=true from rfl)];refine wpAny_bind (a.at (wpAny_bind (wpAny_attempt (wpAny_holding ?_))));unfold callGetattribute boundAndCalled;rw[if_neg (by cases expr<;>decide)];refine wpAny_bind (wpAny_of_eq (PySem.F.attrBase_ValueError.ga.bind (.ref x)) ?_);refine wpAny_call (Yu6 X I G (wpAny_mono h (fun fin s' z=>?_) fun _ _ z=>z))
 rcases fin with (_ | _ | _ | _) | _<;>first | exact z | exact False.elim z
theorem Yr4 {Q:Option Value->Shared->Prop} (X:K.In s.heap) (I:W.InstAt s.heap x ox C od) (G:XGet K C) (hf:findObj K C od "__class__"=some (.bind (.builtin "getset_descriptor.__get__") (.builtin "object.__class__"))) (hm:mroIn K C (.type "object")=some true)
  (h:Q (some (.ref C)) { s with toks:=s.toks+1 }):wpAny (model prog w) A (getAttr? (.ref x) "__class__") Q E s:=by
 obtain⟨b,g,d,t,a⟩:=s;unfold getAttr? getAttrBy?;refine wpAny_bind (wpAny_mkText (wpAny_bind (wpAny_attempt (Yu7 (s:=⟨b,g,d,t+1,a⟩) X I G ?_))));have e:=I.type (M:=model prog w);have c:=looks_find (M:=model prog w) X I hf;unfold Builtin.«object.__getattribute__»;refine wpAny_bind (wpAny_pure (wpAny_bind (wpAny_pure (wpAny_bind (e.at (wpAny_bind (c.at ?_)))))));dsimp only;unfold Builtin.ObjectAttr.bindTo;refine wpAny_bind (wpAny_holding (wpAny_call (class_get (s:=⟨b,g,d,t+1,a⟩) (ox:=ox) (od:=od) X I hm ?_)));exact wpAny_pure (handed_on rfl (wpAny_pure h))
theorem Xe6 {expr:Bool} {v:Value} {Q:Value->Shared->Prop} (X:K.In s.heap) (I:W.InstAt s.heap x ox C od) (G:XGet K C) (hf:findObj K C od nm=some (.value v)) (hv:handedIn v=true)
  (h:Q v { s with toks:=s.toks+1 }):wpAny (model prog w) A (getAttr (.ref x) nm expr) Q E s:=by
 obtain⟨b,g,d,t,a⟩:=s;unfold getAttr;refine wpAny_bind (wpAny_mkText (Yu7 (s:=⟨b,g,d,t+1,a⟩) X I G ?_));have e:=I.type (M:=model prog w);have c:=looks_find (M:=model prog w) X I hf;unfold Builtin.«object.__getattribute__»;refine wpAny_bind (wpAny_pure (wpAny_bind (wpAny_pure (wpAny_bind (e.at (wpAny_bind (c.at ?_)))))));exact wpAny_pure (handed_on hv h)
end
section
variable {P:Program} {w:World} {K:W.Frag} {mg:Str->Option Value} {base:Heap}
theorem Fun.okX {x qual:Str} {st:Stmt} {f:Addr} {fd:FuncData} {N ps:List Str} {k:Nat} {sp:Sp} (F:Fun K x qual st f fd) (S:FnScope N ps (Za8 st)) (len:∀ vs H Q E,sp vs H Q E->vs.length=ps.length)
  (hbody:∀ (cdv:Value) (A:Around) (outer:List Env) (s:Shared) (H:Hp) (vs:List V) (Q:VK) (E:XK),Room k (A.deeper (envOfC qual (Za8 st) s.heap.objs.size f cdv))->sp vs H Q E ->
   ∃ t,PSs (cxOf (CXe P w) P w K mg base N qual (Za8 st) f cdv A outer s H E) (Ze0 st) t/\t { nx:=fun _ H'=>Q .non H',rt:=Q } (start N vs) H):FnOk P w K mg base (CXe P w) (k+1) f fd ps sp:=by
 obtain⟨j,i,l,g,h,n,cdv,m,e,rfl,c,b⟩:=F.ex;exact fn_of c b S len fun A outer s H vs Q E d a=>hbody cdv A outer s H vs Q E d a
structure RoomH (k:Nat) (A:Around):Prop where
 dp:A.depth+3*k+5 < recursionLimit
 un:A.units+16*k+200 < cLine
theorem RoomH.of {k:Nat} {A:Around} (r:Room k A) (e:Option Value):RoomH k (A.mark e):=⟨r.dp,r.un⟩
theorem RoomH.deeper {k:Nat} {A:Around} (r:RoomH (k+1) A) (env:Env):RoomH k (A.deeper env) :=
 ⟨by have:=r.dp;show A.depth+1+3*k+5 < _;walk_at "o",by have:=r.un;show A.units+3+16*k+200 < _;walk_at "o"⟩
def CRh (outer:List Env) (P:Program) (w:World) (H:Hp) (s:Shared) (Q:VK) (r:Result) (s':Shared):Prop:=match r with
 | .ok (.ret u)=>CE outer P w H s Q u s'
 | _=>False
structure FnOkH (P:Program) (w:World) (K:W.Frag) (mg:Str->Option Value) (base:Heap) (k:Nat) (f:Addr) (fd:FuncData) (ps:List Str) (sp:Sp):Prop where
 len:∀ vs H Q E,sp vs H Q E->vs.length=ps.length
 run:∀ (A:Around) (outer:List Env) (s:Shared) (H:Hp) (args:Args) (us:List Value) (vs:List V) (Q:VK) (E:XK),RoomH k A->Env0 P w K mg base A outer s H->BindsTo s fd args (ps.zip us)->Vals vs us->sp vs H Q E ->
  codeAny (model P w) A (.call (.ref f) args) (CRh outer P w H s Q) s
noncomputable def cxH (P:Program) (w:World) (K:W.Frag) (mg:Str->Option Value) (base:Heap) (N:List Str) (qual:Str) (scope:Scope) (f:Addr) (cd:Value) (A:Around) (outer:List Env) (s:Shared) (H:Hp):Cx :=
 { cxOf CX0 P w K mg base N qual scope f cd A outer s H E0 with calm:=false,xe:=fun _ _=>False }
theorem Yt5 {N ps:List Str} {qual:Str} {scope:Scope} {f:Addr} {cd:Value} {A:Around} {outer:List Env} {s s1:Shared} {H:Hp} {us:List Value} {vs:List V}
  (S:FnScope N ps scope) (e0:Env0 P w K mg base A outer s H) (hl:vs.length=ps.length) (r:Vals vs us)
  (x:InCallC s s.heap.objs.size (bindL (envOfC qual scope s.heap.objs.size f cd).kindOf (ps.zip us) fun _=>none) (cellsFrom (s.heap.objs.size+1) scope.names []) (bindC (envOfC qual scope s.heap.objs.size f cd).kindOf (ps.zip us) fun _=>none) s1) :
  Inv (cxH P w K mg base N qual scope f cd A outer s H) [] (start N vs) H s1:=by
 have a:Env0 P w K mg base { A with handled:=none } outer s H:=⟨e0.frames,e0.mod,e0.bs,e0.bsz,e0.funs,e0.frf,e0.hok,e0.bare⟩;have I:=Yg7 (CX:=CX0) (E:=E0) (A:={ A with handled:=none }) S rfl a hl r x;exact⟨⟨I.ok.mod,I.ok.kind,I.ok.glob,I.ok.blt,I.ok.above,I.ok.inj,I.ok.has,I.ok.cab,(fun z=>nomatch z),Around.frames_deeper e0.frames,I.ok.stk,I.ok.exf,I.ok.bs,I.ok.bsz,I.ok.noex,I.ok.exfs,I.ok.funs,I.ok.frf⟩,I.os,I.bare,I.base,I.loc,I.cell,I.free,I.freeC,I.pin,I.hok,I.len⟩
theorem Fun.okH {x qual:Str} {st:Stmt} {f:Addr} {fd:FuncData} {N ps:List Str} {k:Nat} {sp:Sp} (Fu:Fun K x qual st f fd) (S:FnScope N ps (Za8 st)) (len:∀ vs H Q E,sp vs H Q E->vs.length=ps.length)
  (hbody:∀ (cdv:Value) (A:Around) (outer:List Env) (s:Shared) (H:Hp) (vs:List V) (Q:VK) (E:XK),RoomH k (A.deeper (envOfC qual (Za8 st) s.heap.objs.size f cdv))->sp vs H Q E ->
   ∃ t,PSs (cxH P w K mg base N qual (Za8 st) f cdv A outer s H) (Ze0 st) t/\t { nx:=fun _ H'=>Q .non H',rt:=Q } (start N vs) H):FnOkH P w K mg base (k+1) f fd ps sp:=by
 obtain⟨oc,od,kV,Y,Z,an,cdv,ct,U,rfl,D,p⟩:=Fu.ex;refine⟨len,fun A outer s H T B vs Q E m d O r h=>?_⟩;have L:=len _ _ _ _ h;have z:K.In s.heap:=d.mod.kin.keeps fun b o e=>(d.bs b o e).1;have l:s.heap.NoLimit:=d.mod.nolimit.keeps fun b o e=>(d.bs b o e).1
 have g:∀ y∈ps.zip B,(Za8 st).names.lookup y.1=some .local∨((Za8 st).names.lookup y.1=some .cell/\((cellsFrom (s.heap.objs.size+1) (Za8 st).names []).lookup y.1).isSome=true):=fun⟨n,v⟩ hy=>by
  rcases S.par n (List.of_mem_zip hy).1 with q | q
  ·exact .inl q
  ·exact .inr ⟨q,W.cellsFrom_some _ _ _ (.inl q)⟩
 refine codeAny_call_function (by have:=m.dp;walk_at "o") (z _ _ D) rfl S.co S.gen rfl (W.codeRec_of z p) (O _ _ _ _ ?_);refine wpAny_newFunctionEnv_cells S.kind g fun X M C x=>?_;subst M;refine⟨l.keeps x.toInCall.keep,codeAny_func ?_⟩;obtain⟨t,F,G⟩:=hbody cdv A outer s H vs Q E (m.deeper _) h;have I:=Yt5 (P:=P) (w:=w) (K:=K) (mg:=mg) (base:=base) (f:=f) S d L r x;refine wpAny_mono (F [] C (start N vs) H _ I G) (fun R s' c=>?_) fun e s' c=>False.elim c
 have i:∀ {a:St} {H':Hp} {v:V} {u:Value},Inv (cxH P w K mg base N qual (Za8 st) f cdv A outer s H) [] a H' s'->RelV v u->Q v H'->CE outer P w H s Q u s' :=
  fun {a H' v u} J j q=>⟨v,H',J.os,J.bare,J.base,J.hok,j,q⟩
 cases R with
 | ret u=>obtain⟨v,a,H',J,j,q⟩:=c;exact i J j q
 | next=>obtain⟨a,H',J,q⟩:=c;exact i (v:=V.non) (u:=Value.none) J rfl q
 | brk=>obtain⟨_,_,_,q⟩:=c;exact False.elim q
 | cont=>obtain⟨_,_,_,q⟩:=c;exact False.elim q
end
section
variable {X:Cx} {k:Nat} {f:Addr} {fd:FuncData} {ps:List Str} {sp:Sp} {dvs:List V} {ds:List Value} {x:Str} {p pos:Pos} {e:Expr} {es:List Expr} {t:TA}
theorem Xh7 (F:FnOkH X.prog X.w X.K X.mg X.base k f fd ps sp) (hr:RoomH k X.A) (hg:Gl X x) (hm:X.mg x=some (.ref f)) (hk:W.keepIn X.K (.ref f)=true) (hb:Binds X.K fd ps ds) (hd:Vals dvs ds)
  (ha:PA X (e :: es) t) (hdb:(x == ("__debug__":Str))=false:=by decide) (he:starEach (e :: es) X.env=(false,eval e X.env) :: starEach es X.env:=by rfl) (hpl:(backTo pos (starEach es X.env)).any (·.1)=false:=by rfl) :
  PE X (.Call (.Name x p) (e :: es) [] pos) (Zv7 sp dvs E0 t):=by
 intro a s d H Q I h;refine wpAny_Call_Name_kw (Zj7 I hg hm ?_ hdb);refine W.callWith_K (h₀:=X.base) I.ok.mod.kin hk (thn (ha pos a s d H _ I h) fun us s1 ⟨vs,H1,I1,r,q⟩=>⟨I1.kIn,?_⟩) he hpl;have b:Vals (vs++dvs) (us++ds):=r.append hd
 have g:(us++ds).length=ps.length:=by rw[<- b.length];exact F.len _ _ _ _ q
 refine wpAny_call (codeAny_mono (F.run X.A X.stack s1 H1 ⟨us,[]⟩ (us++ds) (vs++dvs) Q E0 hr I1.env0 (hb s1 us I1.kIn g) b q) fun r i c=>?_)
 rcases r with _ | (_ | _ | _ | u)<;>first | exact False.elim c | exact I1.after c
end
structure XIsi (K:W.Frag) (C:Addr):Prop extends XGet K C where
 cls:(clsIn K C).isSome=true
 ca:findIn K (.ref C) "__class__"=some (some (.builtin "object.__class__"))
 mo:mroIn K C (.type "object")=some true
theorem Yn1:pureOf (fastBuiltinType "object.__class__")=some (.type "getset_descriptor"):=by kernel_rfl
theorem Xg3 (K:W.Frag):specialIn K (.builtin "object.__class__") "__get__"=some (some (.builtin "getset_descriptor.__get__")):=by
 show (pureOf (fastBuiltinType "object.__class__")).bind _=_;rw[Yn1];show fastLookup "getset_descriptor" "__get__"=_
 kernel_rfl
theorem Xf6 (K:W.Frag):takesIn K (.builtin "object.__class__")=some true:=by
 have e:specialIn K (.builtin "object.__class__") "__set__"=some (some (.builtin "getset_descriptor.__set__")):=by
  show (pureOf (fastBuiltinType "object.__class__")).bind _=_;rw[Yn1];show fastLookup "getset_descriptor" "__set__"=_
  kernel_rfl
 unfold takesIn;rw[e]
def XObj (x C:Addr) (h:Heap):Prop:=∃ ox od,W.InstAt h x ox C od
theorem Yc2 {K:W.Frag} {x C:Addr} (Z:XIsi K C):KitX K (.ref x) (.ref C) (XObj x C):=by
 obtain⟨cd,hcd⟩:=Option.isSome_iff_exists.mp Z.cls
 have hl:∃ c d sl,K.lookup C=some ⟨c,d,.cls cd,sl⟩:=by
  unfold clsIn at hcd
  split at hcd
  ·rename_i q;cases hcd;exact⟨_,_,_,q⟩
  ·cases hcd
 obtain⟨c,d,sl,hl⟩:=hl;refine⟨fun M h _ ⟨_,_,I⟩=>I.type,fun M h X _ A Q E s k q=>?_,fun h tp dd its n sl' X htp=>?_,fun {prog w A E Q s} X ⟨ox,od,I⟩ k=>Yr4 X I Z.toXGet ?_ Z.mo k⟩
 ·unfold isType loadHead
  exact wpAny_bind (wpAny_loadPart (k _ _ (X _ _ hl)) (wpAny_pure q))
 ·refine Bool.eq_false_iff.mpr fun q=>?_
  have e:C=tp:=Value.ref.inj (beq_iff_eq.mp q);subst e;have z:=(X _ _ hl).symm.trans htp;cases z
 ·unfold findObj
  rw[hcd,Option.bind_some,Z.ca,Option.bind_some];simp[Xg3 K,Xf6 K]
def Xe5 (H:Hp) (dd:Option Addr):Prop:=∀ d,dd=some d->∃ fs,H d=some (.xd fs)
theorem Yi3 {P:Program} {w:World} {H:Hp} {h:Heap} {e C:Addr} {dd T:Option Addr} (hok:HOk P w H h) (F:H e=some (ExcO e (.ref C) dd T)) (D:Xe5 H dd):XObj e C h:=by
 obtain⟨a,b,z,_⟩:=Zj0 hok F
 cases dd with
 | none=>exact⟨_,none,z,rfl,rfl,trivial⟩
 | some d =>
  obtain⟨c,q⟩:=D d rfl;obtain⟨o,y⟩:=(hok d _ q).obj;exact⟨_,some o,z,rfl,rfl,y⟩
def Yk1 (K:W.Frag):List V->Hp->VK->Prop:=fun xs H Q=>∃ e C dd T C' b,xs=[.ref e,.ref C']/\H e=some (ExcO e (.ref C) dd T)/\Xe5 H dd/\XIsi K C/\kitOne K (.ref C) (.ref C')=some b/\Q (.bl b) H
def Yk2 (K:W.Frag):List V->Hp->VK->Prop:=fun xs H Q=>∃ e C dd T n b,xs=[.ref e,.ty n]/\H e=some (ExcO e (.ref C) dd T)/\Xe5 H dd/\XIsi K C/\kitOne K (.ref C) (.type n)=some b/\Q (.bl b) H
def Yk0 (K:W.Frag):List V->Hp->VK->Prop:=fun xs H Q=>∃ e C dd T t,∃ (cs:List Addr) (b:Bool),xs=[.ref e,.ref t]/\H e=some (ExcO e (.ref C) dd T)/\Xe5 H dd/\XIsi K C/\H t=some (.tup (cs.map V.ref))/\kitAny K (.ref C) (cs.map Value.ref)=some b/\Q (.bl b) H
theorem Ym9:∀ {cs:List Addr} {us:List Value},Vals (cs.map V.ref) us->us=cs.map Value.ref
 | [],_,.nil=>rfl
 | _ :: _,_,.cons r t=>by rw[Ym9 t];cases (show _=Value.ref _ from r);rfl
section
variable {X:Cx}
theorem Xd5:Zs1 X (.builtin "isinstance") (Yk1 X.K):=by
 intro g s m H n o Q I r h;obtain⟨e,C,p,T,l,b,rfl,j,k,Z,i,q⟩:=h;obtain⟨u,c,rfl,d,f⟩:=Yi5 r;cases (show u=Value.ref e from d);cases (show c=Value.ref l from f);exact W.kia_one (Yc2 Z) I.kIn (Yi3 I.hok j k) i (fun z=>nomatch z) fun a=>⟨.bl b,H,I.tok a,rfl,q⟩
theorem Xd6:Zs1 X (.builtin "isinstance") (Yk2 X.K):=by
 intro g s m H n o Q I r h;obtain⟨e,C,p,T,l,b,rfl,j,k,Z,i,q⟩:=h;obtain⟨u,c,rfl,d,f⟩:=Yi5 r;cases (show u=Value.ref e from d);cases (show c=Value.type l from f);exact W.kia_one (Yc2 Z) I.kIn (Yi3 I.hok j k) i (fun z=>nomatch z) fun a=>⟨.bl b,H,I.tok a,rfl,q⟩
theorem Yh6:Zs1 X (.builtin "isinstance") (Yk0 X.K):=by
 intro l s F H G J Q I r h;obtain⟨e,C,N,T,t,y,b,rfl,v,x,Z,m,p,q⟩:=h;obtain⟨u,c,rfl,i,k⟩:=Yi5 r;cases (show u=Value.ref e from i);cases (show c=Value.ref t from k);obtain⟨_,D,j,o,f,d,n,a⟩:=(show ObjOk X.prog X.w H s.heap t (.tup (y.map V.ref)) from I.hok t _ m);obtain⟨M,L,B,A⟩:=o;dsimp only at d a;subst d a;rw[Ym9 j] at f;exact W.kia_tup (Yc2 Z) I.kIn (Yi3 I.hok v x) f p (fun z=>nomatch z) fun g=>⟨.bl b,H,I.tok g,rfl,q⟩
end
section
variable {X:Cx}
def tFr (te:TE) (t:TF):TF:=fun out σ H Q=>te σ H fun v H1=>∃ y,v=.str y/\(reprText y).length<=sizeLine/\(out++reprText y).length<=sizeLine/\t (out++reprText y) σ H1 Q
theorem Xo2 {e:Expr} {te:TE} {pos:Pos} {es:List Expr} {t:TF} (he:PE X e te) (h:PF X es t) (hs:evalEach (.FormattedValue e 114 none pos :: es) X.env=eval (.FormattedValue e 114 none pos) X.env :: evalEach es X.env:=by rfl):PF X (.FormattedValue e 114 none pos :: es) (tFr te t):=by
 intro g a s b H Q I f;rw[hs];refine joinParts_cons (wpAny_FormattedValue_repr (thn (he a s b H _ I f) fun v s1 zq=>?_));obtain⟨x,H1,I1,r1,q1⟩:=zq;obtain⟨y,rfl,c,d,q⟩:=q1;obtain⟨i,rfl⟩:=r1;refine wpAny_pyReprObj_str ?_ c;exact formatField_str (fun j k=>⟨d,h _ a _ b H1 Q (I1.tok k) q⟩) c
theorem Zz8 (X:Cx) (ea:Addr):(X.hand ea).K=X.K:=rfl
theorem Ys6 (X:Cx):X.nox.K=X.K:=rfl
theorem Zs8 (CX:CXT) (P:Program) (w:World) (K:W.Frag) (mg:Str->Option Value) (base:Heap) (N:List Str) (qual:Str) (scope:Scope) (f:Addr) (cd:Value) (A:Around) (outer:List Env) (s:Shared) (H:Hp) (E:XK):(cxOf CX P w K mg base N qual scope f cd A outer s H E).K=K:=rfl
theorem Yt8 (P:Program) (w:World) (K:W.Frag) (mg:Str->Option Value) (base:Heap) (N:List Str) (qual:Str) (scope:Scope) (f:Addr) (cd:Value) (A:Around) (outer:List Env) (s:Shared) (H:Hp):(cxH P w K mg base N qual scope f cd A outer s H).K=K:=rfl
end
end L2
namespace Ken
open PySem
theorem Zy5:bootBuiltins "ValueError"=some (.type "ValueError"):=PyProof.Rows.Boot.«ValueError»
end Ken
namespace L2
open PySem PySem.Spec PyProof.Rows PySem.W
section
variable {X:Cx} {pins:List (Addr×Obj)} {σ:St} {H:Hp} {s:Shared} {e t:Addr} {C:Value} {dd T dd' T':Option Addr} {ot:HO}
theorem Inv.besides {s':Shared} (I:Inv X pins σ H s) (Fe:H e=some (ExcO e C dd T)) (hos:s'.os=s.os) (hg:s'.gens=s.gens) (hn:s.heap.get? t=none)
  (keep:∀ b o,s.heap.get? b=some o->b≠e->s'.heap.get? b=some o)
  (exc:∃ vs sl,s'.heap.get? e=some ⟨C,dd',.fields vs,sl⟩/\vs.size=6/\vs[1]?=some (T'.elim Value.none Value.ref))
  (new:∀ G,ObjOk X.prog X.w G s'.heap t ot):Inv X pins σ (upd (upd H t ot) e (ExcO e C dd' T')) s':=by
 have h:H t=none:=I.hok.newAt hn
 have a:∀ b o,H b=some o->(∀ φ,o≠.ext φ)->b≠e:=fun b o q n z=>by subst z;rw[Fe] at q;cases q;exact n _ rfl
 have d:∀ b o,H b=some o->b≠e->upd (upd H t ot) e (ExcO e C dd' T') b=some o:=fun b o q n=>by rw[Zc2 n,Zc2 (Zb9 q h)];exact q
 have g:∀ b o,s.heap.get? b=some o->H b=none->s'.heap.get? b=some o:=fun b o q n=>keep b o q fun z=>by rw[z,Fe] at n;cases n
 refine I.call' (ch:=[]) hos ⟨fun b o q n _ _=>g b o q n,fun b o q n _ _=>⟨o.slots,g b o q n⟩,fun b o q n _=>?_,fun b o q _=>?_,fun b i q=>d b _ q (a b _ q fun φ z=>nomatch z),fun b o u q=>d b _ q (a b _ q fun φ z=>nomatch z),
  fun b j q=>⟨#[],by rw[d b _ q (a b _ q fun φ z=>nomatch z)];simp⟩⟩ (fun b o q=>?_) (by rw[hg];exact I.bare) (fun b z=>nomatch z)
 ·rw[Zc2 (Zb9 Fe n).symm,Zc2 (fun z=>by rw[z,hn] at q;cases q)];exact n
 ·by_cases hb:b=e
  ·subst hb;obtain⟨_,_,z,_⟩:=exc;exact⟨_,z⟩
  ·exact⟨o,keep b o q hb⟩
 ·by_cases hb:b=e
  ·subst hb;rw[Za3] at q;cases q;exact Yh1 exc
  ·rw[Zc2 hb] at q
   by_cases ht:b=t
   ·subst ht;rw[Za3] at q;cases q;exact new _
   ·rw[Zc2 ht] at q
    refine (I.hok b o q).stay (fun c u f z=>keep c u z ?_) (fun c z=>d c _ z (a c _ z fun φ y=>nomatch y)) fun c i z=>d c _ z (a c _ z fun φ y=>nomatch y);rcases f with f | f
    ·rw[f];exact hb
    ·exact a c _ f fun φ y=>nomatch y
end
structure XSet (K:W.Frag) (C:Addr) (nm:Str):Prop where
 sa:findIn K (.ref C) "__setattr__"=some (some (.builtin "object.__setattr__"))
 na:findIn K (.ref C) nm=some none
 hd:hasDictIn K C=true
 mo:mroIn K C (.type "object")=some true
theorem Yj4 {h:Heap} {bm:List Value} (T:OwnTail h bmV bm) (self:Value):refuseLoop self "__setattr__" bm=pure ():=by
 induction T with
 | base=>exact PySem.F.store_ValueError.passes self
 | own _ _ _ _ ih=>rw[refuseLoop_ref];exact ih
section
variable {prog:Program} {w:World} {A:Around} {E:Value->Shared->Prop} {s:Shared} {K:W.Frag} {x C:Addr} {nm:Str} {tk:Tok} {v:Value} {vs:Array Value} {sl:Array (Option Value)} {bm:List Value} {mN:Str->Option Value}
theorem Yu4 {R:Result->Shared->Prop} (X:K.In s.heap) (hx:s.heap.get? x=some ⟨.ref C,none,.fields vs,sl⟩) (S:XSet K C nm) (hC:IsXC s.heap C bm mN)
  (h:∀ h' tk',h'.Ns1 s.heap.objs.size (fun y=>if y=nm then some v else none)->(∀ b o,b≠x->s.heap.get? b=some o->h'.get? b=some o)->h'.get? x=some ⟨.ref C,some s.heap.objs.size,.fields vs,sl⟩->R (.ok (.ret .none)) { s with heap:=h',toks:=tk' }) :
  codeAny (model prog w) A (.call (.builtin "object.__setattr__") ⟨[.ref x,.str nm tk,v],[]⟩) R s:=by
 have I:W.InstAt s.heap x ⟨.ref C,none,.fields vs,sl⟩ C none:=⟨hx,rfl,rfl,trivial⟩;obtain⟨a,g,d,t,L⟩:=s;have j:=I.type (M:=model prog w);have L1:=looks_mroIn (M:=model prog w) X S.mo;have L2:=looks_findIn (M:=model prog w) X S.na;obtain⟨cd,D,i⟩:=any_some S.hd;have LC:=looks_clsIn (M:=model prog w) X D;have LI:Looks (model prog w) a (isInstance (.ref x) (.type "object")) true:=j.andThen L1;have T:=PySem.F.store_ValueError.kind;have n:=PySem.F.store_ValueError.split;have ha:=PySem.F.store_ValueError.args (.ref x) (.str nm tk) v;refine codeAny_call_builtin PySem.F.store_ValueError.slot.plain PySem.F.entry_object_sa ?_;simp only[checkBuiltinCall,T,n];refine wpAny_bind (LI.at ?_);simp only[Bool.not_true,Bool.false_eq_true,if_false];refine wpAny_mono (Q:=fun _ l=>l=⟨a,g,d,t,L⟩) (E:=fun _ _=>False) ?_ (fun _ l z=>?_) fun _ _ z=>False.elim z
 ·repeat (any_goals (first | assumption | rfl | wp_step))
 subst z;obtain⟨q1,q',N,bs,J,sn,q0,ab,q4,dd,k0,k1,k2,k3,k5,Z,c2,Y⟩:=hC;unfold Builtin.«object.__setattr__»;simp only[List.isEmpty_nil,Bool.not_true,Bool.false_eq_true,if_false];rw[refuse_eq];refine wpAny_bind (wpAny_bind (j.at (wpAny_bind (wpAny_mroOf_exc Z ?_))));rw[refuseLoop_ref,Yj4 Y];refine wpAny_pure (wpAny_bind (wpAny_pure (wpAny_bind (j.at (wpAny_bind (L2.at (wpAny_bind (wpAny_pure ?_))))))));show wpAny _ _ (Builtin.ObjectAttr.storeInOwnDict _ _ _ _ _ _) _ _ _;unfold Builtin.ObjectAttr.storeInOwnDict;refine wpAny_bind (wpAny_pure ?_);rw[if_neg (by simp)];refine wpAny_bind ?_;show wpAny _ _ (instanceDict x true) _ _ _;unfold instanceDict;refine wpAny_bind (wpAny_loadPart hx ?_);dsimp only;refine wpAny_bind (LC.at ?_);rw[i];simp only[Bool.not_true,Bool.false_eq_true,if_false];rw[if_neg (by simp[typeHasDict])];have k:x≠a.objs.size:=Nat.ne_of_lt (Heap.lt_size hx);have c:=Heap.get?_push_of_some (h:=a) { cls:=.type "dict",data:=.dict #[] } hx;have m:=Heap.get?_update_self (fun o:Obj=>{ o with dict:=some a.objs.size }) c rfl
 have B:((a.push { cls:=.type "dict",data:=.dict #[] }).update x fun o=>{ o with dict:=some a.objs.size }).get? a.objs.size=some { cls:=.type "dict",data:=.dict #[] }:=by
  rw[Heap.get?_update_other _ _ k];exact Heap.get?_push_size a rfl
 refine wpAny_bind (wpAny_alloc (wpAny_bind (wpAny_update c ?_)));show wpAny _ _ (pure (some a.objs.size)) _ _ _;refine wpAny_pure ?_;show wpAny _ _ (Builtin.ObjectAttr.storeInDict a.objs.size (.str nm tk) nm v) _ _ _;unfold Builtin.ObjectAttr.storeInDict;have O:Heap.Ns1 ((a.push { cls:=.type "dict",data:=.dict #[] }).update x fun o=>{ o with dict:=some a.objs.size }) a.objs.size (fun _=>none):=Heap.Ns1.of_empty ⟨_,#[],_,B,rfl,(fun e U=>absurd U (by simp)),fun _=>rfl⟩;refine wpAny_bind (wpAny_pure (wpAny_bind (wpAny_nsSet1 O fun h' f p=>?_)));obtain⟨oD,q2,q3,r,u,G⟩:=f.count (Within.cons nm v Within.nil);refine wpAny_bind (wpAny_lookBehind r ?_ (wpAny_pure ?_))
 ·rw[u]
  exact pastItsLine_dict (Nat.le_trans G (by show 1<=sizeLine+1;decide))
 refine h h' _ f (fun b o V q=>?_) ?_
 ·rw[p.2 b (Nat.ne_of_lt (Heap.lt_size q))]
  exact (Heap.get?_update_other _ _ (Ne.symm V)).trans (Heap.get?_push_of_some _ q)
 ·rw[p.2 x k]
  exact m
end
section
variable {X:Cx} {pins:List (Addr×Obj)} {σ:St} {H:Hp} {s:Shared} {e C:Addr} {T:Option Addr} {nm:Str} {y:V} {v:Value} {E:Value->Shared->Prop} {Q:Unit->Shared->Prop}
theorem Xm1 (I:Inv X pins σ H s) (Fe:H e=some (ExcO e (.ref C) none T)) (S:XSet X.K C nm) (hC:XC X.K C) (rv:RelV y v)
  (h:∀ d s',H d=none->d≠e->Inv X pins σ (upd (upd H d (.xd [(nm,y)])) e (ExcO e (.ref C) (some d) T)) s'->Q () s'):wpAny (model X.prog X.w) X.A (setAttr (.ref e) nm v) Q E s:=by
 obtain⟨c,g,a,l,t⟩:=Zj0 I.hok Fe;obtain⟨D,z,r⟩:=hC s.heap I.kIn;have u:W.InstAt s.heap e ⟨.ref C,none,.fields c,g⟩ C none:=⟨a,rfl,rfl,trivial⟩;refine W.set_plain I.kIn u S.sa (Yu4 (s:={ s with toks:=s.toks+1 }) I.kIn a S r fun B x m n j=>?_);have i:s.heap.get? s.heap.objs.size=none:=Heap.get?_none_of_le (Nat.le_refl _);have k:s.heap.objs.size≠e:=Nat.ne_of_gt (Heap.lt_size a);refine h s.heap.objs.size _ (I.hok.newAt i) k (Inv.besides I Fe rfl rfl i (fun b o q p=>n b o p q) ⟨c,g,j,l,t⟩ fun G=>?_);refine⟨_,m,fun f=>?_⟩
 by_cases hf:f=nm
 ·subst hf
  rw[show ([(f,y)]:List (Str×V)).lookup f=some y by simp,if_pos rfl];exact rv
 ·rw[show ([(nm,y)]:List (Str×V)).lookup f=none by simp[List.lookup_cons,beq_eq_false_iff_ne.mpr hf],if_neg hf]
  trivial
def Yx0 (C:Addr) (ta tv:TE) (nm:Str):TS:=fun D σ H=>tv σ H fun y H1=>ta σ H1 fun x H2=>∃ e T,x=.ref e/\H2 e=some (ExcO e (.ref C) none T)/\∀ d,H2 d=none->d≠e->D.nx σ (upd (upd H2 d (.xd [(nm,y)])) e (ExcO e (.ref C) (some d) T))
theorem Xn9 {o value:Expr} {ta tv:TE} {pos' pos:Pos} (S:XSet X.K C nm) (hC:XC X.K C) (ha:PE X o ta) (hv:PE X value tv) (hs:swapsWith value (some (.Attribute o nm pos')) pos.line X.env=pure false:=by rfl) :
  PS X (.Assign [.Attribute o nm pos'] value pos) (Yx0 C ta tv nm):=by
 intro a s b H D I h;refine plainObj_wpAny_Assign_Attribute (thn (hv a s b H _ I h) fun u s1 ⟨y,H1,I1,ry,q⟩=>thn (ha a s1 b H1 _ I1 q) fun ov s2 ⟨x,H2,I2,rx,e,T,ex,ee,q2⟩=>?_) hs;subst ex;cases (show ov=Value.ref e from rx);exact Xm1 I2 ee S hC ry fun d i f c g=>⟨b,_,g,q2 d f c⟩
def Yd9 (K:W.Frag) (ta:TE) (nm:Str):TE:=fun σ H Q=>ta σ H fun x H1=>∃ e C d T fs y,x=.ref e/\H1 e=some (ExcO e (.ref C) (some d) T)/\H1 d=some (.xd fs)/\XGet K C/\findIn K (.ref C) nm=some none/\hasDictIn K C=true/\fs.lookup nm=some y/\Q y H1
end
section
variable {prog:Program} {w:World} {A:Around} {E:Value->Shared->Prop} {h:Heap} {g:Array GenState} {d:Drawn} {t:Nat} {os:OsState} {C fI:Addr} {oI:Obj} {bm:List Value} {mN:Str->Option Value} {us:List Value}
theorem Yz9 {Q:Fin->Shared->Prop} (hX:IsXC h C bm mN) (hi:mN "__init__"=some (.ref fI)) (hf:h.get? fI=some oI) (hc:oI.cls=.type "function") (hl:us.length<=sizeLine)
  (hq:∀ h' e,Heap.MadeExcOf h h' e (.ref C) us->wpAny (model prog w) A (call (.ref fI) (.ref e :: us)) (fun r s'=>r=.none/\Q (.done (.ret (.ref e))) s') E ⟨h',g,d,t,os⟩) :
  wpAny (model prog w) A (Builtin.«type.__call__» ⟨.ref C :: us,[]⟩) Q E ⟨h,g,d,t,os⟩:=by
 obtain⟨G,q,N,S,u,D,y,U,B,R,O,M,L,J,I,c,x,k⟩:=hX;have f:=PySem.F.excBase_ValueError
 repeat first | (with_reducible refine wpAny_loadPart_at c ?_) | (with_reducible refine wpAny_madeBy_exc c ?_) | wp_step
 refine codeAny_call_builtin_code (Code.quiet_builtin _ f.quiet) (wpAny_check_new_subT f k c (codeAny_exc_new_subT f k c ?_ hl));show wpAny _ _ _ _ _ _;have a:∀ b o,h.get? b=some o->((h.push { cls:=.type "tuple",data:=.seq us.toArray }).push { cls:=.ref C,data:=.fields #[.ref h.objs.size,.none,.none,.none,.bool false,.none] }).get? b=some o:=fun b o z=>Heap.get?_push_of_some _ (Heap.get?_push_of_some _ z)
 have i:((h.push { cls:=.type "tuple",data:=.seq us.toArray }).push { cls:=.ref C,data:=.fields #[.ref h.objs.size,.none,.none,.none,.bool false,.none] }).get? (h.objs.size+1)=some { cls:=.ref C,data:=.fields #[.ref h.objs.size,.none,.none,.none,.bool false,.none] }:=by heap_get
 have l:((h.push { cls:=.type "tuple",data:=.seq us.toArray }).push { cls:=.ref C,data:=.fields #[.ref h.objs.size,.none,.none,.none,.bool false,.none] }).get? h.objs.size=some { cls:=.type "tuple",data:=.seq us.toArray }:=Heap.get?_push_of_some _ (Heap.get?_push_at rfl rfl)
 have v:(Value.ref C :: bm).contains (.ref C)=true:=by simp
 have j:=a _ _ c;have p:=x.keeps a;have n:=k.keeps a;have m:=a _ _ hf;generalize ((h.push { cls:=.type "tuple",data:=.seq us.toArray }).push { cls:=.ref C,data:=.fields #[.ref h.objs.size,.none,.none,.none,.bool false,.none] })=h2 at a i l j p n m ⊢;unfold isInstance
 repeat first | (with_reducible refine wpAny_loadPart_at i ?_) | (with_reducible refine wpAny_isSubtype_exc j ?_;rw[v]) | wp_step
 show wpAny _ _ (typeLookup (.ref C) _) _ _ _;refine wpAny_typeLookup_tail j p n f.mroIs f.init.lookup ?_;rw[hi];refine wpAny_holding (wpAny_bind ?_);unfold bindSpecial;refine wpAny_bind (wpAny_typeOf (T:="function") ⟨_,m,hc⟩ ?_);rw[if_pos (by decide)];refine wpAny_pure (wpAny_bind (wpAny_mono (hq h2 (h.objs.size+1) ⟨a,Heap.get?_none_of_le (Nat.le_succ _),h.objs.size,i,Heap.get?_none_of_le (Nat.le_refl _),l⟩) (fun r s' s=>?_) fun _ _ z=>z));obtain⟨rfl,z⟩:=s
 wp_walk
 exact z
theorem Xd8 {Q:Value->Shared->Prop} (hX:IsXC h C bm mN) (hi:mN "__init__"=some (.ref fI)) (hf:h.get? fI=some oI) (hc:oI.cls=.type "function") (hl:us.length<=sizeLine)
  (hq:∀ h' e,Heap.MadeExcOf h h' e (.ref C) us->wpAny (model prog w) (A.under (.builtin "type.__call__" ⟨.ref C :: us,[]⟩)) (call (.ref fI) (.ref e :: us)) (fun r s'=>r=.none/\Q (.ref e) s') E ⟨h',g,d,t,os⟩) :
  wpAny (model prog w) A (call (.ref C) us) Q E ⟨h,g,d,t,os⟩:=by
 obtain⟨k,q,N,B,c,j,f,D,i,x,p,o,n,m,l,a,z,y⟩:=id hX;have v:=tc_lookup;have u:=tc_bind (.ref C);have s:(⟨h,g,d,t,os⟩:Shared).TypeIs (.ref C) "type":=⟨_,a,rfl⟩;refine wpAny_call (codeAny_of_tree (show wpAny _ _ (callAny (.ref C) _) _ _ _ from ?_))
 repeat any_goals (first | assumption | (with_reducible refine wpAny_loadPart_at a ?_) | wp_step)
 exact⟨rfl,codeAny_call_builtin_at (Code.quiet_builtin _ (by decide +kernel)) entry_typeCall (wpAny_check_type_call_sub a (Yz9 hX hi hf hc hl fun h' e b=>hq h' e b))⟩
theorem Yj5 {M:Model} {env:Env} {x:Sem Value} {s:Shared} {Q:Flow->Shared->Prop} (hh:A.handled=none)
  (hx:wpAny M A x (fun v s₁=>∃ e C bm mN dd vs sl,v=.ref e/\IsXC s₁.heap C bm mN/\s₁.heap.get? e=some ⟨.ref C,dd,.fields vs,sl⟩/\vs[1]?=some Value.none/\E (.ref e) s₁) E s):wpAny M A (raiseStmt env (some x) none) Q E s:=by
 unfold raiseStmt;refine wpAny_bind (wpAny_mono hx (fun v s₁ z=>?_) fun _ _ z=>z);obtain⟨e,C,bm,mN,dd,vs,sl,rfl,b,a,j,i⟩:=z
 have h:(Value.ref C :: bm).contains (.type "BaseException")=true:=by rw[List.contains_cons,b.base,Bool.or_true]
 obtain⟨r,q,N,I,f,o,k,J,m,l,B,y,w,u,t,c,G,F⟩:=b;obtain⟨D,g,d,n,p⟩:=s₁
 repeat first | (with_reducible refine wpAny_loadPart_at a ?_) | (with_reducible refine wpAny_loadPart_at c ?_) | (with_reducible refine wpAny_isSubtype_exc c ?_;rw[h]) | (with_reducible refine wpAny_field a rfl j ?_) | wp_step
 exact wpAny_raiseNew_none hh i
end
def XClsI (K:W.Frag) (C f:Addr):Prop:=(∀ h,K.In h->∃ bm mN,IsXC h C bm mN/\mN "__init__"=some (.ref f))/\∃ o,K.lookup f=some o/\o.cls=.type "function"
theorem XClsI.xc {K:W.Frag} {C f:Addr} (x:XClsI K C f):XC K C:=fun h X=>let ⟨bm,mN,a,_⟩:=x.1 h X;⟨bm,mN,a⟩
theorem Wf5 {K:W.Frag} {h:Heap} {N:Addr} {m:Str->Option Value} {n:Str} {v:Value} (X:K.In h) (G:h.Ns N m) (e:nsIn K N n=some (some v)):m n=some v:=by
 obtain⟨o,es,ep,ho,hd,_,hf⟩:=G;unfold nsIn at e
 split at e
 ·rename_i q
  have z:=X _ _ q;rw[ho] at z;cases z;cases hd
  split at e
  ·rename_i he
   rw[<- hf];unfold nsFind findBy;rw[<- Array.find?_toList,he];cases e;rfl
  ·split at e<;>cases e
 ·cases e
theorem Xe7 {K:W.Frag} {C N f:Addr} {nm q:Str} {bs bm:List Value} {hdct:Bool} {sn:List Str} {sub:List Value} {ab:Bool} {col:Option Bool} {dd:Option Addr} {k0 k1 k2 k3 k5:Option Value} {of:Obj}
  (l:K.lookup C=some (excClassObj nm q C N bs bm hdct sn sub ab col dd k0 k1 k2 k3 k5 "ValueError.__new__")) (t:tailIn K bmV bm=true) (n:nsOkIn K N=true) (i:nsIn K N "__init__"=some (some (.ref f))) (lf:K.lookup f=some of) (cf:of.cls=.type "function"):XClsI K C f :=
 ⟨fun h X=>⟨bm,h.nsMap N,⟨nm,q,N,bs,hdct,sn,sub,ab,col,dd,k0,k1,k2,k3,k5,X _ _ l,.of_isNs (isNs_of_in X n),tail_of_in X t⟩,Wf5 X (.of_isNs (isNs_of_in X n)) i⟩,of,lf,cf⟩
section
variable {X:Cx} {E:XK} {x:Str} {C f:Addr} {np cpos pos:Pos} {e:Expr} {es:List Expr} {t:TA} {k:Nat} {fd:FuncData} {ps:List Str} {sp:Sp}
def Zv3 (E:XK) (C:Addr) (sp:Sp) (t:TA):TS:=fun _ σ H=>t σ H fun vs H1=>vs.length<=sizeLine/\∀ ea,H1 ea=none->sp (.ref ea :: vs) (upd H1 ea (ExcO ea (.ref C) none none))
 (fun r H2=>r=.non/\∃ dd,H2 ea=some (ExcO ea (.ref C) dd none)/\(∀ d,dd=some d->d≠ea)/\Same H1 H2/\∀ H',Xtd H1 ea (.ref C) dd H'->(∀ d o,dd=some d->H2 d=some o->H' d=some o)->E (.ref ea) dd H') E0
theorem Yf6 (F:FnOk X.prog X.w X.K X.mg X.base CX0 k f fd ps sp) (hr:Room (k+1) X.A) (hb:Binds X.K fd ps []) (hx:XOk X E) (hc:X.calm=true) (hg:Gl X x) (hm:X.mg x=some (.ref C)) (hC:XClsI X.K C f) (ha:PA X (e :: es) t) (hdb:(x == ("__debug__":Str))=false:=by decide)
  (hs:starEach (e :: es) X.env=(false,eval e X.env) :: starEach es X.env:=by rfl) (hpl:(backTo cpos (starEach es X.env)).any (·.1)=false:=by rfl) :
  PS X (.Raise (some (.Call (.Name x np) (e :: es) [] cpos)) none pos) (Zv3 E C sp t):=by
 intro b s G H D I h;obtain⟨bm,mN,hI,Z⟩:=hC.1 X.base I.ok.mod.kin;obtain⟨of,lf,cf⟩:=hC.2;rw[arm_exec_Raise];simp only[evalOpt,Option.map];refine wpAny_bind (wpAny_standAt (Yj5 (I.ok.hd hc) (wpAny_bind (wpAny_mono (wpAny_Call_ofName (Zj7 I hg hm ?_ hdb)) (fun v s₃ h₃=>wpAny_bind (wpAny_standAt (wpAny_pure h₃))) fun _ _ x=>x))));unfold callWith;have i:=ha cpos b s G H _ I h;rw[hs] at i ⊢;refine wpAny_bind (wpAny_holding (PySem.Calls.evalArgs_plain (thn i fun us s1 ⟨vs,H1,I1,r,hl,q1⟩=>wpAny_bind (wpAny_standAt ?_))));have j:=hI.keeps I1.bk;obtain⟨nm,q,N,bs,q6,sn,q7,ab,q8,dd,k0,k1,k2,k3,k5,c1,c2,c3⟩:=id j;obtain⟨hp,g,d,tk,os⟩:=s1;have p:((backTo cpos ((false,eval e X.env) :: starEach es X.env)).any (·.1))=false:=hpl;simp only[p,List.any_nil,Bool.or_false];refine wpAny_bind (wpAny_keeperOf_exc c1 ?_);rw[List.nil_append];refine wpAny_bind (Xd8 j Z (I1.kIn _ _ lf) cf (by rw[<- r.length];exact hl) fun h' a m=>?_);obtain⟨t0,he,_,ht⟩:=m.there;have hn:=I1.hok.newAt m.new;have J:=I1.laidN (o:=ExcO a (.ref C) none none) (t':=tk) m.keeps m.new (Yh1 ⟨_,_,he,rfl,rfl⟩);have W:=q1 a hn;have U:Vals (V.ref a :: vs) (Value.ref a :: us):=.cons rfl r
 have y:(Value.ref a :: us).length=ps.length:=by rw[<- U.length];exact F.len _ _ _ _ W
 have c:=hb _ (Value.ref a :: us) J.kIn (by rw[List.append_nil];exact y);rw[List.append_nil] at c;refine wpAny_call (codeAny_mono (F.run _ X.stack _ _ ⟨Value.ref a :: us,[]⟩ (Value.ref a :: us) (V.ref a :: vs) _ E0 (hr.make C us []) (J.env0.make C us []) c U W) fun r' s' Y=>?_)
 rcases r' with _ | (_ | _ | _ | u)<;>try exact False.elim Y
 obtain⟨v2,H2,B,R,rfl,n,l,q3,O,qE⟩:=J.after Y;refine⟨R,wpAny_bind (wpAny_holding (wpAny_point (wpAny_pure ?_)))⟩;obtain⟨L,M,q0,_,q4⟩:=Zj0 B.hok l;refine⟨a,C,bm,mN,n,L,M,rfl,hI.keeps B.bk,q0,q4,?_⟩;refine hx b G H2 s' a (.ref C) n none B ⟨l,fun t z=>nomatch z⟩ fun q9 q5 S Fy=>qE q5 (Xtd.step (T:=none) hn (fun t z=>nomatch z) O S Fy) fun d o hd ho=>S.1 d o ho (q3 d hd) fun z=>nomatch z
end
section
variable {X:Cx} {C:Addr} {nm:Str} {o:Expr} {ta:TE} {pos:Pos}
theorem Xo5 (ha:PE X o ta) (hb:attributeBase o nm X.env (eval o X.env)=eval o X.env:=by rfl):PE X (.Attribute o nm pos) (Yd9 X.K ta nm):=by
 intro g s n H Q I h;refine Xr3 hb (thn (ha g s n H _ I h) fun u s1 zq=>?_);obtain⟨x,H1,I1,rx,e,C,d,T,fs,y,ex,he,hd,G,hf,hD,hl,q⟩:=zq;subst ex;cases (show u=Value.ref e from rx);obtain⟨p,r,z,_⟩:=Zj0 I1.hok he;obtain⟨j,⟨c,m,U,L,J,S,R,F⟩,D⟩:=(show ObjOk X.prog X.w H1 s1.heap d (.xd fs) from I1.hok d _ hd);have b:=D nm;rw[hl] at b
 obtain⟨v,t,f⟩:∃ v,j nm=some v/\RelV y v:=by
  cases hm:j nm with
  | none=>rw[hm] at b;exact b.elim
  | some v=>rw[hm] at b;exact⟨v,rfl,b⟩
 obtain⟨M,l,i⟩:=any_some hD
 have B:lookIn nm c=some (some v):=by
  have a:=F nm;rw[t] at a;unfold nsFind findBy at a;unfold lookIn;rw[J];rw[<- Array.find?_toList] at a
  cases hq:m.toList.find? (·.key.isStr nm) with
  | none=>rw[hq] at a;cases a
  | some en =>
   rw[hq] at a;simp only[Option.map_some,Option.some.injEq] at a;subst a;show (match m.toList.find? (·.key.isStr nm) with | some e=>_ | none=>_)=_;rw[hq]
 have k:findObj X.K C (some c) nm=some (.value v):=by
  unfold findObj;rw[l,Option.bind_some,hf,Option.bind_some]
  have A:W.ownOf M (some c) nm=some (some v):=by unfold W.ownOf;rw[if_pos i];exact B
  simp[A]
 have N:W.InstAt s1.heap e ⟨.ref C,some d,.fields p,r⟩ C (some c):=⟨z,rfl,rfl,L⟩;refine Xe6 I1.kIn N G k ?_ ⟨y,H1,I1.tok _,f,q⟩
 cases y<;>first | (cases f;rfl) | (obtain⟨O,rfl⟩:=f;rfl)
end
structure XIni (K:W.Frag) (B:Addr):Prop where
 ga:specialIn K (.ref B) "__getattribute__"=some (some (.builtin "type.__getattribute__"))
 rd:readsIn K B (.type "type")=true
 fi:findCls K (.ref B) (.type "type") "__init__"=some (.val (.builtin "ValueError.__init__"))
def Yi7 (C:Addr) (t:TA):TE:=fun σ H Q=>t σ H fun vs H1=>∃ e v dd T,vs=[.ref e,v]/\H1 e=some (ExcO e (.ref C) dd T)/\Q .non H1
section
variable {X:Cx} {B C:Addr} {x:Str} {np apos pos:Pos} {e1:Expr} {es:List Expr} {t:TA} {pl:Sem Bool}
theorem Xo4 (hB:XIni X.K B) (hg:Gl X x) (hm:X.mg x=some (.ref B)) (hC:XC X.K C) (ha:PA X (e1 :: es) t) (hdb:(x == ("__debug__":Str))=false:=by decide)
  (hs:starEach (e1 :: es) X.env=(false,eval e1 X.env) :: starEach es X.env:=by rfl) (hpl:(backTo pos (starEach es X.env)).any (·.1)=false:=by rfl)
  (ht:eval (.Call (.Attribute (.Name x np) "__init__" apos) (e1 :: es) [] pos) X.env=(do
   let ov <- eval (.Name x np) X.env
   standAt apos.atName
   let (f,first) <- holding [ov] (getMethod ov "__init__" pl)
   callWith pos f first (backTo pos (starEach (e1 :: es) X.env)) (backToKw pos (keywordEach [] X.env))):=by rfl) :
  PE X (.Call (.Attribute (.Name x np) "__init__" apos) (e1 :: es) [] pos) (Yi7 C t):=by
 intro j s y H Q I h;refine W.methodCall_KW (pl:=pl) (Zj7 I hg hm ?_ hdb) ht;refine method_cls I.kIn hB.ga (cls_value I.kIn hB.rd hB.fi (by decide +kernel) ?_);show wpAny _ _ (callWith pos (.builtin "ValueError.__init__") [] (backTo pos (starEach (e1 :: es) X.env)) []) _ _ _;refine callWith_builtin1 (thn (ha pos j _ y H _ (I.tok _) h) fun us s1 ⟨c,H1,I1,r,e,v,dd,T,ev,he,q⟩=>?_) hs hpl;subst ev;obtain⟨A,m,rfl,L,r2⟩:=Yi5 r;cases (show A=Value.ref e from L);obtain⟨c,G,w,p,O⟩:=Zj0 I1.hok he;obtain⟨bm,mN,nm,q',N,bs,M,sn,V,ab,Z,Y,k0,k1,k2,k3,k5,U,c2,S⟩:=hC s1.heap I1.kIn;obtain⟨i,g,d,D,os⟩:=s1;have k:=PySem.F.excBase_ValueError;refine wpAny_call (codeAny_call_builtin k.init.plain k.initEntry (wpAny_check_init_subT k S U w rfl ?_));unfold Builtin.«BaseException.__init__»;dsimp only;rw[if_neg (by simp)];unfold newTuple Builtin.BaseException.bexcPut
 have l:0 < c.size:=by rw[p];decide
 have a:=Heap.get?_push_of_some (h:=i) { cls:=.type "tuple",data:=.seq [m].toArray } w;refine wpAny_bind (wpAny_newObj_type (wpAny_bind (wpAny_bind (wpAny_field a rfl (Array.getElem?_eq_getElem l) (wpAny_bind (wpAny_setField a rfl l ?_))))) (by size_fits));have J:=I1.write (o:=ExcO e (.ref C) dd T) (t':=D) (x:=e) (e:=e) (h':=(i.push { cls:=.type "tuple",data:=.seq [m].toArray }).update e (Obj.mapFields (·.setIfInBounds 0 (.ref i.objs.size)))) (by rw[he];trivial) (.inl rfl)
  (fun b u n z=>by rw[Heap.get?_update_other _ _ (Ne.symm n)];exact Heap.get?_push_of_some _ z) ⟨_,Heap.get?_update_self _ a rfl⟩
  (Yh1 ⟨c.setIfInBounds 0 (.ref i.objs.size),G,by rw[Heap.get?_update_self _ a rfl];rfl,by simp[p],by rw[Array.getElem?_setIfInBounds_ne (by decide)];exact O⟩)
 have R:upd H1 e (ExcO e (.ref C) dd T)=H1:=by
  funext b
  by_cases hb:b=e
  ·subst hb;rw[Za3,he]
  ·rw[Zc2 hb]
 rw[R] at J;generalize c[0]=v0
 cases v0<;>first | exact wpAny_letGo (wpAny_pure ⟨.non,H1,J,rfl,q⟩) | exact wpAny_pure (wpAny_pure ⟨.non,H1,J,rfl,q⟩)
end
open Ken
section
variable {X:Cx}
def tFi (te:TE) (t:TF):TF:=fun out σ H Q=>te σ H fun v H1=>∃ i:Int,v=.int i/\i.natAbs.log2 < 1920/\(out++Str.ofString (toString i)).length<=sizeLine/\t (out++Str.ofString (toString i)) σ H1 Q
theorem Xo3 {e:Expr} {te:TE} {pos:Pos} {es:List Expr} {t:TF} (he:PE X e te) (h:PF X es t) (hs:evalEach (.FormattedValue e (-1) none pos :: es) X.env=eval (.FormattedValue e (-1) none pos) X.env :: evalEach es X.env:=by rfl):PF X (.FormattedValue e (-1) none pos :: es) (tFi te t):=by
 intro g a s b H Q I f;rw[hs];refine joinParts_cons (FormattedValue_plain (thn (he a s b H _ I f) fun v s1 zq=>?_));obtain⟨x,H1,I1,r1,q1⟩:=zq;obtain⟨i,rfl,d,c,q⟩:=q1;obtain⟨j,rfl⟩:=r1;exact wpAny_formatField_int d ⟨c,h _ a _ b H1 Q (I1.tok _) q⟩
end
section
variable {X:Cx} {K:W.Frag}
theorem Xh2 {nm:Str} {o:Expr} {ta:TE} {pos:Pos} (hK:X.K=K) (ha:PE X o ta) (hb:attributeBase o nm X.env (eval o X.env)=eval o X.env:=by rfl):PE X (.Attribute o nm pos) (Yd9 K ta nm):=hK▸Xo5 ha hb
theorem Xo9 {N:Addr} {c:Value} {d:Option Addr} {es:Array DictEntry} {ep:Nat} {sl:Array (Option Value)} (l:K.lookup N=some ⟨c,d,.dict es ep,sl⟩) (h:(es.toList.all fun e=>match e.key with | .str _ _=>true | _=>false)=true):W.nsOkIn K N=true:=by
 unfold W.nsOkIn;rw[l];show (es.all _)=true;rw[<- Array.all_toList];exact h
theorem Yn4 {B N:Addr} {nm q:Str} {bs bm:List Value} {hdct:Bool} {sn:List Str} {sub:List Value} {ab:Bool} {col:Option Bool} {dd:Option Addr} {k0 k1 k2 k3 k5:Option Value} {nw:String}
  (l:K.lookup B=some (excClassObj nm q B N bs bm hdct sn sub ab col dd k0 k1 k2 k3 k5 nw)) (hn:W.nsOkIn K N=true) (hi:W.nsIn K N "__init__"=some none):W.tailIn K bmV (.ref B :: bmV)=true:=by
 rw[W.tailIn.eq_2,l];unfold excClassObj;dsimp only;rw[hn,hi,show W.tailIn K bmV bmV=true by rw[W.tailIn.eq_def];rfl];exact Bool.or_true _
theorem Xj5 {C:Addr} (h:W.hasDictIn K C=true):(W.clsIn K C).isSome=true:=by
 unfold W.hasDictIn at h
 cases e:W.clsIn K C with
 | none=>rw[e] at h;cases h
 | some _=>rfl
end
end L2
namespace Hd
open PySem PySem.W PySem.Calls PySem.Spec PyProof.Rows L2
noncomputable def adr (K:Frag) (x:Str):Addr:=match nsIn K mainGlobals x with
 | some (some (.ref a))=>a
 | _=>0
noncomputable def Xp9 (K:Frag) (x:Str):Bool:=match nsIn K mainGlobals x with
 | some (some (.ref _))=>true
 | _=>false
theorem Wd6 {K:Frag} {x:Str} (h:Xp9 K x=true):nsIn K mainGlobals x=some (some (.ref (adr K x))):=by
 unfold Xp9 at h;unfold adr
 split at h
 ·rename_i a e
  rw[e]
 ·cases h
noncomputable def Zq5 (o:Obj) (C:Addr):Option (List Value×Addr):=match o with
 | ⟨c,_,.cls cd,sl⟩=>(match cd.mro,sl.toList with
  | .ref c1 :: bm,[_,_,_,_,some (.builtin n),_]=>if c=.type "type"/\c1=C/\cd.hasDel=false/\n="ValueError.__new__" then some (bm,cd.ns) else none
  | _,_=>none)
 | _=>none
theorem Yq2 {o:Obj} {C N:Addr} {bm:List Value} (h:Zq5 o C=some (bm,N)):∃ (nm q:Str) (bs:List Value) (hdct:Bool) (sn:List Str) (sub:List Value) (ab:Bool) (col:Option Bool) (dd:Option Addr) (k0 k1 k2 k3 k5:Option Value),
  o=excClassObj nm q C N bs bm hdct sn sub ab col dd k0 k1 k2 k3 k5 "ValueError.__new__":=by
 unfold Zq5 at h
 split at h
 ·rename_i c dd cd sl
  split at h
  ·rename_i c1 bm' k0 k1 k2 k3 n k5 hm hs
   split at h
   ·rename_i hc
    obtain⟨h1,h2,h3,h4⟩:=hc;have h:=Option.some.inj h;obtain⟨e1,e2⟩:=Prod.mk.inj h;obtain⟨nm,bs,mro,ns,q,hd,sn,sub,ab,col,del⟩:=cd;dsimp only at hm h3 e2;subst hm h1 h2 h3 h4 e1 e2;refine⟨nm,q,bs,hd,sn,sub,ab,col,dd,k0,k1,k2,k3,k5,?_⟩;have:sl=#[k0,k1,k2,k3,some (.builtin "ValueError.__new__"),k5]:=Array.toList_inj.mp hs;rw[this]
   ·cases h
  ·cases h
 ·cases h
noncomputable def Ys5 (K:Frag) (N:Addr):Bool:=match K.lookup N with
 | some ⟨_,_,.dict es _,_⟩=>es.toList.all fun e=>match e.key with | .str _ _=>true | _=>false
 | _=>false
theorem Zu1 {K:Frag} {N:Addr} (h:Ys5 K N=true):nsOkIn K N=true:=by
 unfold Ys5 at h
 split at h
 ·rename_i l
  exact Xo9 l h
 ·cases h
noncomputable def Xq5 (K:Frag) (C B:Addr):Bool:=match (K.lookup C).bind (Zq5 · C),(K.lookup B).bind (Zq5 · B) with
 | some (bm,N),some (_,M)=>bm == .ref B :: bmV&&Ys5 K N&&Ys5 K M&&nsIn K N "__init__" == some none&&nsIn K M "__init__" == some none
 | _,_=>false
theorem Xm4 {K:Frag} {C B:Addr} (h:Xq5 K C B=true):XCls K C:=by
 unfold Xq5 at h
 split at h
 ·rename_i bm N bm2 M hC hB
  obtain⟨o,l,f⟩:=Option.bind_eq_some_iff.mp hC;obtain⟨o2,l2,f2⟩:=Option.bind_eq_some_iff.mp hB;simp only[Bool.and_eq_true] at h;obtain⟨⟨⟨⟨h1,h2⟩,h3⟩,h4⟩,h5⟩:=h;have h1:=eq_of_beq h1;have h4:=eq_of_beq h4;have h5:=eq_of_beq h5;subst h1;obtain⟨nm,q,bs,hd,sn,sub,ab,col,dd,k0,k1,k2,k3,k5,rfl⟩:=Yq2 f;obtain⟨nm',q',bs',hd',sn',sub',ab',col',dd',k0',k1',k2',k3',k5',rfl⟩:=Yq2 f2;exact Xm5 l (Yn4 l2 (Zu1 h3) h5) (Zu1 h2) h4
 ·cases h
noncomputable def Xi5 (K:Frag) (C:Addr):Bool:=findIn K (.ref C) "__getattribute__" == some (some (.builtin "BaseException.__getattribute__"))&&findIn K (.ref C) "__getattr__" == some none&&mroIn K C (.type "BaseException") == some true&&hasDictIn K C &&
 findIn K (.ref C) "__class__" == some (some (.builtin "object.__class__"))&&mroIn K C (.type "object") == some true
theorem Yu5 {K:Frag} {C:Addr} (h:Xi5 K C=true):XIsi K C:=by
 unfold Xi5 at h;simp only[Bool.and_eq_true] at h;obtain⟨⟨⟨⟨⟨f,e⟩,d⟩,c⟩,b⟩,a⟩:=h;exact⟨⟨eq_of_beq f,eq_of_beq e,eq_of_beq d⟩,Xj5 c,eq_of_beq b,eq_of_beq a⟩
structure ClsAsk where
 cls:List Nat
 exc:List (Nat×Nat)
 kit:List (Nat×List Nat)
noncomputable def at_ (p:Program) (K:Frag) (i:Nat):Addr:=adr K (nm (stAt p i))
noncomputable def chk (p:Program) (B:ClsAsk) (K:Frag):Bool :=
 (B.cls.all fun i=>Xp9 K (nm (stAt p i)))&&(B.exc.all fun ij=>Xq5 K (at_ p K ij.1) (at_ p K ij.2)&&Xi5 K (at_ p K ij.1)&&kitOne K (.ref (at_ p K ij.1)) (.ref (at_ p K ij.2)) == some true&&kitOne K (.ref (at_ p K ij.1)) (.type "ValueError") == some true) &&
 B.kit.all fun ij=>kitAny K (.ref (at_ p K ij.1)) (ij.2.map fun j=>.ref (at_ p K j)) == some false
section
variable {p:Program} {B:ClsAsk} {K:Frag}
theorem Wg4 (h:chk p B K=true) {i:Nat} (hi:i∈B.cls):nsIn K mainGlobals (nm (stAt p i))=some (some (.ref (at_ p K i))):=by
 unfold chk at h;simp only[Bool.and_eq_true] at h;exact Wd6 (List.all_eq_true.mp h.1.1 i hi)
theorem c_refx {x:Str} (h:chk p B K=true) {i:Nat} (hx:nm (stAt p i)=x) (hi:i∈B.cls):nsIn K mainGlobals x=some (some (.ref (at_ p K i))):=hx▸Wg4 h hi
theorem c_exc (h:chk p B K=true) {ij:Nat×Nat} (hi:ij∈B.exc):XCls K (at_ p K ij.1)/\XIsi K (at_ p K ij.1)/\kitOne K (.ref (at_ p K ij.1)) (.ref (at_ p K ij.2))=some true/\kitOne K (.ref (at_ p K ij.1)) (.type "ValueError")=some true:=by
 unfold chk at h;simp only[Bool.and_eq_true] at h;have:=List.all_eq_true.mp h.1.2 ij hi;simp only[Bool.and_eq_true] at this;obtain⟨⟨⟨d,c⟩,b⟩,a⟩:=this;exact⟨Xm4 d,Yu5 c,eq_of_beq b,eq_of_beq a⟩
theorem c_kit (h:chk p B K=true) {ij:Nat×List Nat} (hi:ij∈B.kit):kitAny K (.ref (at_ p K ij.1)) (ij.2.map fun j=>.ref (at_ p K j))=some false:=by
 unfold chk at h;simp only[Bool.and_eq_true] at h;exact eq_of_beq (List.all_eq_true.mp h.2 ij hi)
end
noncomputable def Wd8 (p:Program) (A:Ask) (B:ClsAsk) (h:Heap):List Addr :=
 Wg6 p A h++B.cls.flatMap fun i=>match nsIn (pick h [mainGlobals]) mainGlobals (nm (stAt p i)) with
  | some (some (.ref a))=>a :: (match h.get? a with
   | some ⟨_,_,.cls cd,_⟩=>[cd.ns]
   | _=>[])
  | _=>[]
noncomputable def nsOf (K:Frag) (C:Addr):Option Addr:=((K.lookup C).bind (Zq5 · C)).map (·.2)
noncomputable def Wc9 (K:Frag) (C:Addr):Option (Addr×Obj):=(nsOf K C).bind fun N=>match nsIn K N "__init__" with
 | some (some (.ref f))=>(K.lookup f).map fun o=>(f,o)
 | _=>none
noncomputable def Yc5 (K:Frag) (C:Addr):Option (Value×FnD):=match Wc9 K C with
 | some (_,⟨c,_,.func fd,_⟩)=>some (c,fnD K fd)
 | _=>none
noncomputable def Yl8 (q:Str) (st:Stmt):Option (Value×FnD):=some (.type "function","__init__",q,Zf6 st,.stmts (Ze0 st),Za8 st,mainGlobals,[],.none,builtinsNs,true)
noncomputable def Xl7 (K:Frag) (C B:Addr):Bool:=match (K.lookup C).bind (Zq5 · C),(K.lookup B).bind (Zq5 · B) with
 | some (bm,N),some (_,M)=>bm == .ref B :: bmV&&Ys5 K N&&Ys5 K M&&nsIn K M "__init__" == some none
 | _,_=>false
noncomputable def Xn4 (K:Frag) (C:Addr) (x:Str):Bool:=findIn K (.ref C) "__setattr__" == some (some (.builtin "object.__setattr__"))&&findIn K (.ref C) x == some none&&hasDictIn K C&&mroIn K C (.type "object") == some true
theorem Xm2 {K:Frag} {C:Addr} {x:Str} (h:Xn4 K C x=true):XSet K C x:=by
 unfold Xn4 at h;simp only[Bool.and_eq_true] at h;obtain⟨⟨⟨d,c⟩,b⟩,a⟩:=h;exact⟨eq_of_beq d,eq_of_beq c,b,eq_of_beq a⟩
noncomputable def fiOk:Option CFound->Bool
 | some (.val (.builtin n))=>n == "ValueError.__init__"
 | _=>false
theorem Wg0 {o:Option CFound} (h:fiOk o=true):o=some (.val (.builtin "ValueError.__init__")):=by
 unfold fiOk at h
 split at h
 ·rw[eq_of_beq h]
 ·cases h
noncomputable def Xq1 (K:Frag) (B:Addr):Bool:=specialIn K (.ref B) "__getattribute__" == some (some (.builtin "type.__getattribute__"))&&readsIn K B (.type "type")&&fiOk (findCls K (.ref B) (.type "type") "__init__")
theorem Xm3 {K:Frag} {B:Addr} (h:Xq1 K B=true):XIni K B:=by
 unfold Xq1 at h;simp only[Bool.and_eq_true] at h;exact⟨eq_of_beq h.1.1,h.1.2,Wg0 h.2⟩
structure IniRow where
 cls:Nat
 bas:Nat
 met:Nat
 qual:Str
 fld:Str
structure IniF (K:Frag) (C B:Addr) (q fld:Str) (st:Stmt) (f:Addr) (fd:FuncData):Prop where
 fn:Fun K "__init__" q st f fd
 xc:XClsI K C f
 isi:XIsi K C
 set:XSet K C fld
 ini:XIni K B
 one:kitOne K (.ref C) (.ref B)=some true
 val:kitOne K (.ref C) (.type "ValueError")=some true
noncomputable def Xb4 (K:Frag) (C B:Addr) (fld:Str):Bool:=Xl7 K C B&&Xi5 K C&&Xn4 K C fld&&Xq1 K B&&kitOne K (.ref C) (.ref B) == some true&&kitOne K (.ref C) (.type "ValueError") == some true
theorem Wc8 {K:Frag} {C B:Addr} {q fld:Str} {st:Stmt} (h:Xb4 K C B fld=true) (e:Yc5 K C=Yl8 q st):∃ f fd,IniF K C B q fld st f fd:=by
 unfold Xb4 at h;simp only[Bool.and_eq_true] at h;obtain⟨⟨⟨⟨⟨h1,h2⟩,h3⟩,h4⟩,h5⟩,h6⟩:=h;unfold Yc5 at e
 split at e
 ·rename_i f oc od fd sl hi
  obtain⟨a1,a2,a3,a4,a5,a6,a7,a8,a9,a10,a11,a12,a13,a14,a15⟩:=fd;have e:=Option.some.inj e;simp only[fnD,Prod.mk.injEq] at e;obtain⟨rfl,rfl,rfl,rfl,rfl,rfl,rfl,rfl,rfl,rfl,hc⟩:=e;unfold Wc9 at hi;obtain⟨N,hN,hi⟩:=Option.bind_eq_some_iff.mp hi
  split at hi
  ·rename_i f' hf
   obtain⟨o,lf,ef⟩:=Option.map_eq_some_iff.mp hi;cases ef;unfold nsOf at hN;obtain⟨⟨bm,N'⟩,hX,rfl⟩:=Option.map_eq_some_iff.mp hN;dsimp only at hf;unfold Xl7 at h1;rw[hX] at h1
   split at h1
   ·rename_i bm1 N1 bm2 M hC hB
    cases hC;obtain⟨o1,l,g⟩:=Option.bind_eq_some_iff.mp hX;obtain⟨o2,l2,g2⟩:=Option.bind_eq_some_iff.mp hB;simp only[Bool.and_eq_true] at h1;obtain⟨⟨⟨j1,j2⟩,j3⟩,j5⟩:=h1;have j1:=eq_of_beq j1;have j5:=eq_of_beq j5;subst j1;obtain⟨nm,q',bs,hd,sn,sub,ab,col,dd,k0,k1,k2,k3,k5,rfl⟩:=Yq2 g;obtain⟨nm',q'',bs',hd',sn',sub',ab',col',dd',k0',k1',k2',k3',k5',rfl⟩:=Yq2 g2
    have kp:keepIn K (.ref f)=true:=by
     show (match K.lookup f with | some ⟨_,_,.func _,_⟩=>true | some ⟨_,_,.cls _,_⟩=>specialIn K (.ref f) "__call__" == some (some (.builtin "type.__call__")) | _=>false)=true;rw[lf]
    exact⟨f,_,Xb8 lf hc kp,Xe7 l (Yn4 l2 (Zu1 j3) j5) (Zu1 j2) hf lf rfl,Yu5 h2,Xm2 h3,Xm3 h4,eq_of_beq h5,eq_of_beq h6⟩
   ·cases h1
  ·cases hi
 ·cases e
noncomputable def Wf8 (K:Frag) (x:Str) (i:Int):Bool:=match nsIn K mainGlobals x with
 | some (some (.int j _))=>decide (j=i)
 | _=>false
structure MoreAsk where
 ini:List IniRow
 nums:List (Str×Int)
noncomputable def chkM (p:Program) (M:MoreAsk) (K:Frag):Bool:=(M.ini.all fun r=>Xb4 K (at_ p K r.cls) (at_ p K r.bas) r.fld)&&M.nums.all fun xi=>Wf8 K xi.1 xi.2
noncomputable def iniK (p:Program) (M:MoreAsk) (K:Frag):List (Option (Value×FnD)):=M.ini.map fun r=>Yc5 K (at_ p K r.cls)
noncomputable def iniV (p:Program) (M:MoreAsk):List (Option (Value×FnD)):=M.ini.map fun r=>Yl8 r.qual (Yc6 (stAt p r.cls) r.met)
theorem m_ini {p:Program} {M:MoreAsk} {K:Frag} (h:chkM p M K=true) (e:iniK p M K=iniV p M) {r:IniRow} (hr:r∈M.ini):∃ f fd,IniF K (at_ p K r.cls) (at_ p K r.bas) r.qual r.fld (Yc6 (stAt p r.cls) r.met) f fd:=by
 unfold chkM at h;rw[Bool.and_eq_true] at h;exact Wc8 (List.all_eq_true.mp h.1 r hr) (Yg1 (f:=fun r:IniRow=>Yc5 K (at_ p K r.cls)) (g:=fun r:IniRow=>Yl8 r.qual (Yc6 (stAt p r.cls) r.met)) e hr)
noncomputable def Wd7 (p:Program) (A:Ask) (B:ClsAsk) (M:MoreAsk) (h:Heap):List Addr :=
 cStatics :: Wd8 p A B h++M.ini.flatMap fun r=>match nsIn (pick h [mainGlobals]) mainGlobals (nm (stAt p r.cls)) with
  | some (some (.ref a))=>(match h.get? a with
   | some ⟨_,_,.cls cd,_⟩=>(match nsIn (pick h [cd.ns]) cd.ns "__init__" with
    | some (some (.ref f))=>f :: (match h.get? f with
     | some ⟨_,_,.func fd,_⟩=>(match fd.code with | .ref c=>[c] | _=>[])
     | _=>[])
    | _=>[])
   | _=>[])
  | _=>[]
noncomputable abbrev Obs3:=Obs×Bool×List (Option (Value×FnD))×Bool
noncomputable def Wf4 (p:Program) (A:Ask) (B:ClsAsk) (M:MoreAsk) (K:Frag):Obs3:=(obsK p A K,chk p B K,iniK p M K,chkM p M K)
noncomputable def obs3 (p:Program) (A:Ask) (B:ClsAsk) (M:MoreAsk) (s:Shared):Obs3:=Wf4 p A B M (pick s.heap (Wd7 p A B M s.heap))
noncomputable def val3 (p:Program) (A:Ask) (M:MoreAsk) (w:World):Obs3:=(valK p A w.params,true,iniV p M,true)
noncomputable def hook3 (p:Program) (A:Ask) (B:ClsAsk) (M:MoreAsk):Hook :=
 ⟨Obs3,obs3 p A B M,val3 p A M,fun w h=>∃ K:Frag,K.In h/\obsK p A K=valK p A w.params/\chk p B K=true/\iniK p M K=iniV p M/\chkM p M K=true,
  fun w s e=>⟨_,Yx6 _ _,(Prod.mk.inj e).1,(Prod.mk.inj (Prod.mk.inj e).2).1,(Prod.mk.inj (Prod.mk.inj (Prod.mk.inj e).2).2).1,(Prod.mk.inj (Prod.mk.inj (Prod.mk.inj e).2).2).2⟩,fun w h h' x k=>by
  obtain⟨K,i,e⟩:=x
  exact⟨K,fun a o z=>k _ _ (i a o z),e⟩⟩
theorem walkH3 {l:OpenLaw} {n k:Nat} {q p:Program} {A:Ask} {B:ClsAsk} {M:MoreAsk} {loose:List Str} {XP:(Str->Option Value)->Heap->Prop} {d:DefRec} {CX:CXT} {sp:Frag->Sp} {x:Str}
  (hn:l.most=some n) (hn2:n<=sizeLine) (hdf:d.params.defaults=[]) (hr:Room k callerA)
  (F:∀ (w:World) (mg:Str->Option Value) (fa:Addr) (h:Heap) (K:Frag),K.In h->h.Ns mainGlobals mg->mg d.name=some (.ref fa)->obsK p A K=valK p A w.params->chk p B K=true->iniK p M K=iniV p M->chkM p M K=true ->
   ∃ fd:FuncData,(∀ (s:Shared) (u:Value),BindsTo s fd ⟨[u],[]⟩ [(x,u)])/\∀ base:Heap,K.In base->base.Ns mainGlobals mg->FnOk l.prog w K mg base CX k fa fd [x] (sp K))
  (hsp:∀ (K:Frag) (H:Hp) (a:Addr) (ns:List Int),ns.length<=n->Only H->SqL K H a (ns.map V.int)->sp K [.ref a] H (fun v _=>v=.bl true) fun _ _ _=>False)
  (hCX:∀ (H:Hp) (s:Shared) (e:Value) (s':Shared),CX [] H s (fun _ _ _=>False) e s'->False) :
  WalkO q loose XP (hook3 p A B M).says l.row.toRowW d [] (fun f vs=>PySem.call f vs) :=
 Att.attach_call hn hdf fun w s₀ s₁ mg S fa o R X O a vs ns G Y U W N m j i c t=>by
  obtain⟨K,r,E,D,J,L⟩:=Y;obtain⟨fd,y,I⟩:=F w mg fa _ K r G.T.g m E D J L;exact Xi1 r G.T.g G.T.b G.T.builtins G.T.nolimit t j i (Nat.le_trans c hn2) hr I y (fun H C z=>hsp K H a ns c C z) fun H e s'=>hCX H s₁ e s'
theorem obs3_self:@obs3=@obs3:=rfl
theorem val3_self:@val3=@val3:=rfl
end Hd
name_quick hdObs3 for Hd.obs3 by Hd.obs3_self
name_quick hdVal3 for Hd.val3 by Hd.val3_self
namespace KLaw
noncomputable abbrev pg:=PySem.Challenge.pw_ken_k25_bad_lines
open PySem L2 Ken
noncomputable def ask:Hd.Ask:=⟨[49,50,51,52,16,19,20,21,22,33,24,25,26,27,28,29,30,31,32,34,35,36,37,38,41,42,18,44,45,46,47,53,54,55,56,57,58,59,60,61,62,63,64,65,66,67,68,69,70,71,72,73,74],[15,14,40],[39],[],[Str.ofString "len",Str.ofString "range",Str.ofString "list",Str.ofString "all",Str.ofString "zip",Str.ofString "sorted",Str.ofString "int",Str.ofString "reversed",Str.ofString "isinstance",Str.ofString "bool",Str.ofString "max",Str.ofString "min",Str.ofString "ValueError"]⟩
noncomputable def cask:Hd.ClsAsk:=⟨[1,2,3,4,5,6,7,8,9,10,11,12],[(4,1)],[(5,[8,6,12,4,2]),(5,[7,11,3,9,10])]⟩
noncomputable def mask:Hd.MoreAsk:=⟨[⟨5,1,0,Str.ofString "NoLine.__init__",Str.ofString "line"⟩],[]⟩
noncomputable def q:Program:=W.view pg [1,2,3,4,5,6,7,8,9,10,11,12,14,15,16,18,19,20,21,22,24,25,26,27,28,29,30,31,32,33,34,35,36,37,38,39,40,41,42,44,45,46,47,49,50,51,52,53,54,55,56,57,58,59,60,61,62,63,64,65,66,67,68,69,70,71,72,73,74]
noncomputable def loose:List Str:=[Str.ofString "RULES"]
open PySem.W.Fast
theorem h1 (w:World):(fun os=>Hd.pre pg w os)=fun os=>Hd.preTo pg w os:=by
 rw[hdPre_eq,hdPreTo_eq]
 kernel_rfl
theorem h2 (w:World):(fun os=>Hd.blk pg w os)=fun os=>Hd.blkTo pg w os:=by
 rw[hdBlk_eq,hdBlkTo_eq]
 kernel_rfl
theorem h3fA (w:World):(fun os=>Hd.evA pg 4583 ⟨446,0,459,39⟩ (World.withFollow w "special-get-raises" false) os)=fun _=>Hd.evATo pg ⟨446,0,459,39⟩:=by
 rw[hdEvA_eq]
 kernel_rfl
theorem h3fB (w:World):(fun os=>Hd.evB pg q loose [] 4583 ⟨446,0,459,39⟩ (World.withFollow w "special-get-raises" false) os)=fun _=>Hd.evBTo q:=by
 rw[hdEvB_eq]
 kernel_rfl
theorem h3fD (w:World):(fun os=>Hd.evD pg q loose [] 4583 ⟨446,0,459,39⟩ (World.withFollow w "special-get-raises" false) os)=fun _=>Hd.evDTo q loose:=by
 rw[hdEvD_eq,hdEvDTo_eq]
 kernel_rfl
theorem h3fC (w:World):(fun os=>Hd.evC pg (Hd.obs3 pg ask cask mask) 4583 ⟨446,0,459,39⟩ (World.withFollow w "special-get-raises" false) os)=fun _=>Hd.evCTo (Hd.val3 pg ask mask) (World.withFollow w "special-get-raises" false):=by
 rw[hdEvC_eq,hdObs3_eq,hdVal3_eq]
 kernel_rfl
theorem h3f (w:World):(fun os=>Hd.ev pg q loose [] (Hd.obs3 pg ask cask mask) 4583 ⟨446,0,459,39⟩ (World.withFollow w "special-get-raises" false) os)=fun _=>Hd.evTo pg q loose (Hd.val3 pg ask mask) ⟨446,0,459,39⟩ (World.withFollow w "special-get-raises" false) :=
 Hd.ev_of (h3fA w) (h3fB w) (h3fD w) (h3fC w)
theorem h3tA (w:World):(fun os=>Hd.evA pg 4583 ⟨446,0,459,39⟩ (World.withFollow w "special-get-raises" true) os)=fun _=>Hd.evATo pg ⟨446,0,459,39⟩:=by
 rw[hdEvA_eq]
 kernel_rfl
theorem h3tB (w:World):(fun os=>Hd.evB pg q loose [] 4583 ⟨446,0,459,39⟩ (World.withFollow w "special-get-raises" true) os)=fun _=>Hd.evBTo q:=by
 rw[hdEvB_eq]
 kernel_rfl
theorem h3tD (w:World):(fun os=>Hd.evD pg q loose [] 4583 ⟨446,0,459,39⟩ (World.withFollow w "special-get-raises" true) os)=fun _=>Hd.evDTo q loose:=by
 rw[hdEvD_eq,hdEvDTo_eq]
 kernel_rfl
theorem h3tC (w:World):(fun os=>Hd.evC pg (Hd.obs3 pg ask cask mask) 4583 ⟨446,0,459,39⟩ (World.withFollow w "special-get-raises" true) os)=fun _=>Hd.evCTo (Hd.val3 pg ask mask) (World.withFollow w "special-get-raises" true):=by
 rw[hdEvC_eq,hdObs3_eq,hdVal3_eq]
 kernel_rfl
theorem h3t (w:World):(fun os=>Hd.ev pg q loose [] (Hd.obs3 pg ask cask mask) 4583 ⟨446,0,459,39⟩ (World.withFollow w "special-get-raises" true) os)=fun _=>Hd.evTo pg q loose (Hd.val3 pg ask mask) ⟨446,0,459,39⟩ (World.withFollow w "special-get-raises" true) :=
 Hd.ev_of (h3tA w) (h3tB w) (h3tD w) (h3tC w)
theorem h3 (w:World):(fun os=>Hd.ev pg q loose [] (Hd.obs3 pg ask cask mask) 4583 ⟨446,0,459,39⟩ w os)=fun _=>Hd.evTo pg q loose (Hd.val3 pg ask mask) ⟨446,0,459,39⟩ w :=
 W.byRow2 "special-get-raises" (P:=fun w=>(fun os=>Hd.ev pg q loose [] (Hd.obs3 pg ask cask mask) 4583 ⟨446,0,459,39⟩ w os)=fun _=>Hd.evTo pg q loose (Hd.val3 pg ask mask) ⟨446,0,459,39⟩ w) h3f h3t w
theorem lft:W.LeftO pg q loose (fun s=>W.xlAt q [] s&&W.recOk [] s) (Hd.hook3 pg ask cask mask).obs (Hd.hook3 pg ask cask mask).val 9290 :=
 Hd.left (by kernel_rfl) rfl (fun s=>by kernel_rfl) h1 h2 h3 rfl
end KLaw
namespace Ken
open PySem L2
structure WkOrd (n:Nat) (lt:Nat->Nat->Bool):Prop where
 ntrans:∀ a b c,a < n->b < n->c < n->lt b a=false->lt c b=false->lt c a=false
 asym:∀ a b,a < n->b < n->lt a b=true->lt b a=false
section
variable {n:Nat} {lt:Nat->Nat->Bool} {cmp:Nat->Nat->(Bool->Shared->Prop)->Shared->Prop} {S:Shared->Prop}
def WA (lt:Nat->Nat->Bool) (p:Array Nat) (m:Nat):Prop:=∀ i j,i < j->j < m->lt (gd p j) (gd p i)=false
def WD (lt:Nat->Nat->Bool) (p:Array Nat) (m:Nat):Prop:=∀ i j,i < j->j < m->lt (gd p i) (gd p j)=false
def EqS (lt:Nat->Nat->Bool) (p:Array Nat) (a b:Nat):Prop:=∀ i j,a<=i->i < b->a<=j->j < b->lt (gd p i) (gd p j)=false
theorem irr (O:WkOrd n lt) {a:Nat} (h:a < n):lt a a=false:=by
 cases e:lt a a with
 | false=>rfl
 | true=>have:=O.asym a a h h e;rw[e] at this;exact this
theorem Xm6 (O:WkOrd n lt) {p:Array Nat} (P:PermOk n p) {m:Nat} (h:WA lt p m) (h1:1<=m) (hm:m < n) (hl:lt (gd p m) (gd p (m - 1))=false):WA lt p (m+1):=by
 intro i j a b
 by_cases e:j=m
 ·subst e
  by_cases e2:i=j - 1
  ·subst e2;exact hl
  ·exact O.ntrans _ _ _ (P.low _ (by walk_at "o")) (P.low _ (by walk_at "o")) (P.low _ hm) (h i (j - 1) (by walk_at "o") (by walk_at "o")) hl
 ·exact h i j a (by walk_at "o")
theorem Yv1 (O:WkOrd n lt) {p:Array Nat} (P:PermOk n p) {m:Nat} (h:WD lt p m) (h1:1<=m) (hm:m < n) (hl:lt (gd p (m - 1)) (gd p m)=false):WD lt p (m+1):=by
 intro i j a b
 by_cases e:j=m
 ·subst e
  by_cases e2:i=j - 1
  ·subst e2;exact hl
  ·exact O.ntrans _ _ _ (P.low _ hm) (P.low _ (by walk_at "o")) (P.low _ (by walk_at "o")) hl (h i (j - 1) (by walk_at "o") (by walk_at "o"))
 ·exact h i j a (by walk_at "o")
theorem Yi4 (O:WkOrd n lt) (A:Asks n lt S cmp) {p:Array Nat} (P:PermOk n p) {Q:Nat->Shared->Prop}:∀ (f x:Nat) (s:Shared),1<=x->x+f<=n->WA lt p x->S s ->
  (∀ m s',x<=m->m<=x+f->WA lt p m->(m=x+f∨(m < n/\lt (gd p m) (gd p (m - 1))=true))->S s'->Q m s')->W.KasT.kasWp cmp (W.kas_asc p f x) Q s
 | 0,x,s,h1,h2,ha,hs,q=>by
  rw[W.kas_asc.eq_1,W.KasT.kasWp.eq_1];exact q x s (Nat.le_refl _) (Nat.le_refl _) ha (.inl rfl) hs
 | f+1,x,s,h1,h2,ha,hs,q=>by
  rw[W.kas_asc.eq_2,W.KasT.kasWp.eq_2]
  have hne:gd p x≠gd p (x - 1):=fun z=>by have:=P.inj _ _ (by walk_at "o") (by walk_at "o") z;walk_at "o"
  refine A _ _ _ _ (P.low _ (by walk_at "o")) (P.low _ (by walk_at "o")) hne hs fun s' hs'=>?_
  cases e:lt (gd p x) (gd p (x - 1)) with
  | true =>
   rw[if_pos rfl,W.KasT.kasWp.eq_1];exact q x s' (Nat.le_refl _) (by walk_at "o") ha (.inr ⟨by walk_at "o",e⟩) hs'
  | false =>
   rw[if_neg Bool.false_ne_true];refine Yi4 O A P f (x+1) s' (by walk_at "o") (by walk_at "o") (Xm6 O P ha h1 (by walk_at "o") e) hs' fun m s2 g1 g2 g3 g4 g5=>q m s2 (by walk_at "o") (by walk_at "o") g3 ?_ g5;rcases g4 with g4 | g4
   ·exact .inl (by walk_at "o")
   ·exact .inr g4
theorem Yo3 {p:Array Nat} {a b k:Nat} (hb:b<=p.size):gd (W.kas_rev p a b) k=if a<=k/\k < b then gd p (a+b - 1 - k) else gd p k:=by
 have h:=PyProof.Rows.getElem?_mirror_all (xs:=p) (i:=a) (j:=b) hb k;unfold W.kas_rev
 by_cases hk:a<=k/\k < b
 ·rw[if_pos hk] at h
  rw[if_pos hk];simp only[gd,Array.getD_eq_getD_getElem?,h]
 ·rw[if_neg hk] at h
  rw[if_neg hk];simp only[gd,Array.getD_eq_getD_getElem?,h]
theorem Yw7 {p:Array Nat} {a b m:Nat} (hb:b<=p.size) (hbm:b<=m) (h:WD lt p m) (hE:EqS lt p a b):WD lt (W.kas_rev p a b) m:=by
 intro i j d c;rw[Yo3 hb,Yo3 hb]
 by_cases ci:a<=i/\i < b
 ·rw[if_pos ci]
  by_cases cj:a<=j/\j < b
  ·rw[if_pos cj]
   exact hE _ _ (by walk_at "o") (by walk_at "o") (by walk_at "o") (by walk_at "o")
  ·rw[if_neg cj]
   exact h _ _ (by walk_at "o") c
 ·rw[if_neg ci]
  by_cases cj:a<=j/\j < b
  ·rw[if_pos cj]
   exact h _ _ (by walk_at "o") (by walk_at "o")
  ·rw[if_neg cj]
   exact h _ _ d c
theorem Xu8 {p:Array Nat} {m:Nat} (hm:m<=p.size) (h:WD lt p m):WA lt (W.kas_rev p 0 m) m:=by
 intro i j b a;rw[Ya8 hm,Ya8 hm,if_pos a,if_pos (by walk_at "o")];exact h _ _ (by walk_at "o") (by walk_at "o")
theorem Xq7 (O:WkOrd n lt) {p:Array Nat} (P:PermOk n p) {a x:Nat} (ha:a < x) (hx:x < n) (hE:EqS lt p a x) (h1:lt (gd p x) (gd p (x - 1))=false) (h2:lt (gd p (x - 1)) (gd p x)=false):EqS lt p a (x+1):=by
 intro i j c e b d
 by_cases ei:i=x
 ·by_cases ej:j=x
  ·rw[ei,ej];exact irr O (P.low _ hx)
  ·rw[ei]
   by_cases e3:j=x - 1
   ·rw[e3];exact h1
   ·exact O.ntrans _ _ _ (P.low _ (by walk_at "o")) (P.low _ (by walk_at "o")) (P.low _ hx) (hE (x - 1) j (by walk_at "o") (by walk_at "o") b (by walk_at "o")) h1
 ·by_cases ej:j=x
  ·rw[ej]
   by_cases e3:i=x - 1
   ·rw[e3];exact h2
   ·exact O.ntrans _ _ _ (P.low _ hx) (P.low _ (by walk_at "o")) (P.low _ (by walk_at "o")) h2 (hE i (x - 1) c (by walk_at "o") (by walk_at "o") (by walk_at "o"))
  ·exact hE i j c (by walk_at "o") b (by walk_at "o")
theorem Zt7 (O:WkOrd n lt) (A:Asks n lt S cmp) {Q:Array Nat×Nat×Nat->Shared->Prop}:∀ (f:Nat) (p:Array Nat) (x e:Nat) (s:Shared),p.Perm (List.range n).toArray->e+1<=x->x+f<=n->WD lt p x->EqS lt p (x - (e+1)) x->S s ->
  (∀ p' m e' s',p'.Perm (List.range n).toArray->x<=m->m<=x+f->e'+1<=m->WD lt p' m->EqS lt p' (m - (e'+1)) m->S s'->Q (p',m,e') s')->W.KasT.kasWp cmp (W.kas_desc f p x e) Q s
 | 0,p,x,e,s,hp,h1,h2,hd,hE,hs,q=>by
  rw[W.kas_desc.eq_1,W.KasT.kasWp.eq_1];exact q p x e s hp (Nat.le_refl _) (Nat.le_refl _) h1 hd hE hs
 | f+1,p,x,e,s,hp,h1,h2,hd,hE,hs,q=>by
  have P:=Zg2 hp;rw[W.kas_desc.eq_2,W.KasT.kasWp.eq_2]
  have hne:gd p x≠gd p (x - 1):=fun z=>by have:=P.inj _ _ (by walk_at "o") (by walk_at "o") z;walk_at "o"
  refine A _ _ _ _ (P.low _ (by walk_at "o")) (P.low _ (by walk_at "o")) hne hs fun s' hs'=>?_
  have one:∀ p':Array Nat,PermOk n p'->EqS lt p' (x+1 - (0+1)) (x+1):=fun p' P' i j i1 i2 j1 j2=>by
   have:i=j:=by walk_at "o"
   rw[this];exact irr O (P'.low _ (by walk_at "o"))
  cases ec:lt (gd p x) (gd p (x - 1)) with
  | true =>
   rw[if_pos rfl];have hd1:=Yv1 O P hd (by walk_at "o") (by walk_at "o") (O.asym _ _ (P.low _ (by walk_at "o")) (P.low _ (by walk_at "o")) ec)
   by_cases he:e > 0
   ·rw[if_pos he]
    have hp2:(W.kas_rev p (x - (e+1)) x).Perm (List.range n).toArray:=(PyProof.Rows.mirror_perm _ _ _ _).trans hp;refine Zt7 O A f _ (x+1) 0 s' hp2 (by walk_at "o") (by walk_at "o") (Yw7 (by rw[P.size];walk_at "o") (by walk_at "o") hd1 hE) (one _ (Zg2 hp2)) hs' fun p' m e' s2 g0 g1 g2 g3 g4 g5 g6=>q p' m e' s2 g0 (by walk_at "o") (by walk_at "o") g3 g4 g5 g6
   ·rw[if_neg he]
    refine Zt7 O A f p (x+1) 0 s' hp (by walk_at "o") (by walk_at "o") hd1 (one _ P) hs' fun p' m e' s2 g0 g1 g2 g3 g4 g5 g6=>q p' m e' s2 g0 (by walk_at "o") (by walk_at "o") g3 g4 g5 g6
  | false =>
   rw[if_neg Bool.false_ne_true,W.KasT.kasWp.eq_2];refine A _ _ _ _ (P.low _ (by walk_at "o")) (P.low _ (by walk_at "o")) (Ne.symm hne) hs' fun s2 hs2=>?_
   cases ed:lt (gd p (x - 1)) (gd p x) with
   | true =>
    rw[if_pos rfl,W.KasT.kasWp.eq_1];exact q p x e s2 hp (Nat.le_refl _) (by walk_at "o") h1 hd hE hs2
   | false =>
    rw[if_neg Bool.false_ne_true];have hE1:=Xq7 O P (show x - (e+1) < x by walk_at "o") (by walk_at "o") hE ec ed;refine Zt7 O A f p (x+1) (e+1) s2 hp (by walk_at "o") (by walk_at "o") (Yv1 O P hd (by walk_at "o") (by walk_at "o") ed) (by rw[show x+1 - (e+1+1)=x - (e+1) by walk_at "o"];exact hE1) hs2 fun p' m e' s3 g0 g1 g2 g3 g4 g5 g6=>q p' m e' s3 g0 (by walk_at "o") (by walk_at "o") g3 g4 g5 g6
theorem Zs9 (O:WkOrd n lt) (A:Asks n lt S cmp) {p:Array Nat} (hp:p.Perm (List.range n).toArray) {x:Nat} (h1:1<=x) (hx:x < n) (hd:WD lt p (x+1)) {Q:Nat×Array Nat->Shared->Prop} (s:Shared) (hs:S s)
  (q:∀ m p' s',1<=m->m<=n->p'.Perm (List.range n).toArray->WA lt p' m->S s'->Q (m,p') s'):W.KasT.kasWp cmp (W.kas_descPart x n p) Q s:=by
 have P:=Zg2 hp
 have b:∀ (a:Array Nat) (m:Nat) (s2:Shared),a.Perm (List.range n).toArray->x+1<=m->m<=n->WD lt a m->S s2->W.KasT.kasWp cmp (W.kas_tail3 m n a) Q s2:=fun a m s2 d D C h g=>by
  rw[W.kas_tail3.eq_1,W.KasT.kasWp_bind];have c:(W.kas_rev a 0 m).Perm (List.range n).toArray:=(PyProof.Rows.mirror_perm _ _ _ _).trans d;have B:=Zg2 c;refine Yi4 O A B (n - m) m s2 (by walk_at "o") (by walk_at "o") (Xu8 (by rw[(Zg2 d).size];walk_at "o") h) g fun t r y w v F u=>?_;rw[W.KasT.kasWp.eq_1];exact q t _ r (by walk_at "o") (by walk_at "o") c v u
 unfold W.kas_descPart;rw[W.KasT.kasWp_bind];refine Zt7 O A (n - (x+1)) p (x+1) 0 s hp (by walk_at "o") (by walk_at "o") hd (fun i j I G y w=>?_) hs fun a m e s2 f o L J l z k=>?_
 ·have:i=j:=by walk_at "o"
  rw[this];exact irr O (P.low _ (by walk_at "o"))
 ·by_cases he:e > 0
  ·rw[if_pos (show ((a,m,e):Array Nat×Nat×Nat).2.2 > 0 from he)]
   exact b _ m s2 ((PyProof.Rows.mirror_perm _ _ _ _).trans f) o (by walk_at "o") (Yw7 (show m<=a.size by rw[(Zg2 f).size];walk_at "o") (Nat.le_refl m) l z) k
  ·rw[if_neg (show ¬ ((a,m,e):Array Nat×Nat×Nat).2.2 > 0 from he)]
   exact b a m s2 f o (by walk_at "o") l k
theorem Yu8 (O:WkOrd n lt) (A:Asks n lt S cmp) {p:Array Nat} (hp:p.Perm (List.range n).toArray) (h2:2<=n) {Q:Nat×Array Nat->Shared->Prop} (s:Shared) (hs:S s)
    (q:∀ m p' s',1<=m->m<=n->p'.Perm (List.range n).toArray->WA lt p' m->S s'->Q (m,p') s'):W.KasT.kasWp cmp (W.kas_count n p) Q s:=by
  have P:=Zg2 hp;unfold W.kas_count;rw[W.KasT.kasWp_bind];refine Yi4 O A P (n - 1) 1 s (Nat.le_refl _) (by walk_at "o") (fun i j I h2=>by walk_at "o") hs fun m s' r J a b g=>?_
  by_cases e1:(m == n)=true
  · rw[if_pos e1,W.KasT.kasWp.eq_1]
    exact q m p s' r (by walk_at "o") hp a g
  · rw[if_neg e1]
    have e:m < n:=by
      have:m≠n:=fun z=>e1 (by simp[z]);walk_at "o"
    have f:lt (gd p m) (gd p (m - 1))=true:=by
      rcases b with b | b
      · walk_at "o"
      · exact b.2
    by_cases e2:m > 1
    · rw[if_pos e2,W.KasT.kasWp.eq_2]
      have k:gd p 0≠gd p (m - 1):=fun z=>by have:=P.inj _ _ (by walk_at "o") (by walk_at "o") z;walk_at "o"
      refine A _ _ _ _ (P.low _ (by walk_at "o")) (P.low _ (by walk_at "o")) k g fun h c=>?_
      cases ec:lt (gd p 0) (gd p (m - 1)) with
      | true =>
        rw[if_pos rfl,W.KasT.kasWp.eq_1];exact q m p h r (by walk_at "o") hp a c
      | false =>
        rw[if_neg Bool.false_ne_true]
        have o:EqS lt p 0 m:=fun i j G v F D=>by
          rcases Nat.lt_trichotomy i j with z | z | z
          ·
            have u:lt (gd p 0) (gd p j)=false:=by
              by_cases ej:j=m - 1
              · rw[ej];exact ec
              · exact O.ntrans _ _ _ (P.low _ (by walk_at "o")) (P.low _ (by walk_at "o")) (P.low _ (by walk_at "o")) (a j (m - 1) (by walk_at "o") (by walk_at "o")) ec
            by_cases ei:i=0
            · rw[ei];exact u
            · exact O.ntrans _ _ _ (P.low _ (by walk_at "o")) (P.low _ (by walk_at "o")) (P.low _ (by walk_at "o")) u (by
                have C:lt (gd p i) (gd p 0)=false:=a 0 i (by walk_at "o") (by walk_at "o")
                exact C)
          · rw[z];exact irr O (P.low _ (by walk_at "o"))
          · exact a j i z v
        have d:(W.kas_rev p 0 m).Perm (List.range n).toArray:=(PyProof.Rows.mirror_perm _ _ _ _).trans hp;have L:=Zg2 d;refine Zs9 O A d (by walk_at "o") e ?_ h c q;intro i j l w;rw[Ya8 (by rw[P.size];walk_at "o"),Ya8 (by rw[P.size];walk_at "o"),if_pos (by walk_at "o")]
        by_cases ej:j < m
        · rw[if_pos ej];exact o _ _ (by walk_at "o") (by walk_at "o") (by walk_at "o") (by walk_at "o")
        · rw[if_neg ej]
          have:j=m:=by walk_at "o"
          rw[this];have t:lt (gd p (m - 1)) (gd p m)=false:=O.asym _ _ (P.low _ (by walk_at "o")) (P.low _ (by walk_at "o")) f
          by_cases e9:m - 1 - i=m - 1
          · rw[e9];exact t
          · exact O.ntrans _ _ _ (P.low _ (by walk_at "o")) (P.low _ (by walk_at "o")) (P.low _ (by walk_at "o")) t (o _ _ (by walk_at "o") (by walk_at "o") (by walk_at "o") (by walk_at "o"))
    · rw[if_neg e2]
      have x:m=1:=by walk_at "o"
      subst x;refine Zs9 O A hp (by walk_at "o") e ?_ s' g q;intro i j l w
      have B:i=0:=by walk_at "o"
      have y:j=1:=by walk_at "o"
      subst B y;exact O.asym _ _ (P.low _ (by walk_at "o")) (P.low _ (by walk_at "o")) f
theorem Zu9 (O:WkOrd n lt) (A:Asks n lt S cmp) {p:Array Nat} (P:PermOk n p) {k:Nat} (hk:k < n) (ha:WA lt p k) {Q:Nat->Shared->Prop}:∀ (f l r:Nat) (s:Shared),l<=r->r<=k->r - l<=f->S s ->
  (∀ i,i < l->lt (gd p k) (gd p i)=false)->(∀ i,r<=i->i < k->lt (gd p i) (gd p k)=false) ->
  (∀ m s',m<=k->(∀ i,i < m->lt (gd p k) (gd p i)=false)->(∀ i,m<=i->i < k->lt (gd p i) (gd p k)=false)->S s'->Q m s')->W.KasT.kasWp cmp (W.kas_place p k f l r) Q s
 | 0,l,r,s,h1,h2,h3,hs,g1,g2,q=>by
  rw[W.kas_place.eq_1,W.KasT.kasWp.eq_1]
  have:l=r:=by walk_at "o"
  subst this;exact q l s h2 g1 g2 hs
 | f+1,l,r,s,h1,h2,h3,hs,g1,g2,q=>by
  rw[W.kas_place.eq_2]
  by_cases e:l ≥ r
  ·rw[if_pos e,W.KasT.kasWp.eq_1]
   have:l=r:=by walk_at "o"
   subst this;exact q l s h2 g1 g2 hs
  ·rw[if_neg e,W.KasT.kasWp.eq_2]
   have hne:gd p k≠gd p ((l+r) / 2):=fun z=>by have:=P.inj _ _ (by walk_at "o") (by walk_at "o") z;walk_at "o"
   refine A _ _ _ _ (P.low _ hk) (P.low _ (by walk_at "o")) hne hs fun s' hs'=>?_
   cases ec:lt (gd p k) (gd p ((l+r) / 2)) with
   | true =>
    rw[if_pos rfl];refine Zu9 O A P hk ha f l ((l+r) / 2) s' (by walk_at "o") (by walk_at "o") (by walk_at "o") hs' g1 (fun i i1 i2=>?_) q;have c1:=O.asym _ _ (P.low _ hk) (P.low _ (by walk_at "o")) ec
    by_cases ei:i=(l+r) / 2
    ·rw[ei];exact c1
    ·exact O.ntrans _ _ _ (P.low _ hk) (P.low _ (by walk_at "o")) (P.low _ (by walk_at "o")) c1 (ha _ _ (by walk_at "o") i2)
   | false =>
    rw[if_neg Bool.false_ne_true];refine Zu9 O A P hk ha f ((l+r) / 2+1) r s' (by walk_at "o") h2 (by walk_at "o") hs' (fun i i1=>?_) g2 q
    by_cases ei:i=(l+r) / 2
    ·rw[ei];exact ec
    ·exact O.ntrans _ _ _ (P.low _ (by walk_at "o")) (P.low _ (by walk_at "o")) (P.low _ hk) (ha i _ (by walk_at "o") (by walk_at "o")) ec
theorem Wd4 {p:Array Nat} {k m:Nat} (hk:k < p.size) (hm:m<=k) (ha:WA lt p k) (g1:∀ i,i < m->lt (gd p k) (gd p i)=false) (g2:∀ i,m<=i->i < k->lt (gd p i) (gd p k)=false):WA lt (PyProof.Rows.bubble p k (k - m)) (k+1):=by
 intro i j a b;rw[Xd9 hk hm,Xd9 hk hm]
 by_cases ei:i=m
 ·subst ei
  rw[if_pos rfl,if_neg (by walk_at "o"),if_pos ⟨a,by walk_at "o"⟩];exact g2 _ (by walk_at "o") (by walk_at "o")
 ·rw[if_neg ei]
  by_cases ej:j=m
  ·subst ej
   rw[if_pos rfl,if_neg (by walk_at "o")];exact g1 _ a
  ·rw[if_neg ej]
   by_cases c1:m < i/\i<=k
   ·rw[if_pos c1,if_pos ⟨by walk_at "o",by walk_at "o"⟩]
    exact ha _ _ (by walk_at "o") (by walk_at "o")
   ·rw[if_neg c1]
    by_cases c2:m < j/\j<=k
    ·rw[if_pos c2]
     exact ha _ _ (by walk_at "o") (by walk_at "o")
    ·rw[if_neg c2]
     exact ha _ _ a (by walk_at "o")
theorem Yu9 (O:WkOrd n lt) (A:Asks n lt S cmp) {Q:Array Nat->Shared->Prop}:∀ (f k:Nat) (p:Array Nat) (s:Shared),k+f=n->1<=k->p.Perm (List.range n).toArray->WA lt p k->S s ->
  (∀ p' s',p'.Perm (List.range n).toArray->WA lt p' n->S s'->Q p' s')->W.KasT.kasWp cmp (W.kas_bin f p k) Q s
 | 0,k,p,s,h1,h2,hp,ha,hs,q=>by
  rw[W.kas_bin.eq_1,W.KasT.kasWp.eq_1]
  have:k=n:=by walk_at "o"
  subst this;exact q p s hp ha hs
 | f+1,k,p,s,h1,h2,hp,ha,hs,q=>by
  rw[W.kas_bin.eq_2,W.KasT.kasWp_bind];have P:=Zg2 hp;refine Zu9 O A P (by walk_at "o") ha k 0 k s (Nat.zero_le _) (Nat.le_refl _) (by walk_at "o") hs (fun i hi=>by walk_at "o") (fun i i1 i2=>by walk_at "o") fun m s' hm g1 g2 hs'=>?_;exact Yu9 O A f (k+1) _ s' (by walk_at "o") (by walk_at "o") ((PyProof.Rows.bubble_perm _ _ _).trans hp) (Wd4 (by rw[P.size];walk_at "o") hm ha g1 g2) hs' q
theorem Xe8 (O:WkOrd n lt) (A:Asks n lt S cmp) (h2:2<=n) {Q:Array Nat->Shared->Prop} (s:Shared) (hs:S s)
  (q:∀ p s',p.Perm (List.range n).toArray->WA lt p n->S s'->Q p s'):W.KasT.kasWp cmp (W.kas_sort n) Q s:=by
 unfold W.kas_sort;rw[W.KasT.kasWp_bind];refine Yu8 O A (Array.Perm.refl _) h2 s hs fun m p s' d g c b a=>?_
 by_cases e:m < n
 ·rw[if_pos (show ((m,p):Nat×Array Nat).1 < n from e)]
  show W.KasT.kasWp cmp (W.kas_bin (n - max m 1) p (max m 1)) Q s'
  have f:max m 1=m:=by walk_at "o"
  rw[f];exact Yu9 O A (n - m) m p s' (by walk_at "o") d c b a q
 ·rw[if_neg (show ¬ ((m,p):Nat×Array Nat).1 < n from e),W.KasT.kasWp.eq_1]
  have:m=n:=by walk_at "o"
  subst this;exact q p s' c b a
end
section
variable {X:Cx} {pins:List (Addr×Obj)} {σ:St} {H:Hp} {s:Shared}
theorem isT_inj (I:Inv X pins σ H s):∀ {a b:Tm} {v:V},IsT X.K H v a->IsT X.K H v b->a=b
 | .low,b,v,h,g=>by
  obtain⟨p,rfl,hs⟩:=isT_low.mp h
  cases b with
  | low=>rfl
  | ltr w =>
   obtain⟨q,e,gs⟩:=isT_ltr.mp g;cases e;exact absurd (I.tuple_inj hs gs) (by simp)
  | nd k x y =>
   obtain⟨q,_,_,e,gs,_⟩:=isT_nd.mp g;cases e;exact absurd (I.tuple_inj hs gs) (by simp)
 | .ltr w,b,v,h,g=>by
  obtain⟨p,rfl,hs⟩:=isT_ltr.mp h
  cases b with
  | low =>
   obtain⟨q,e,gs⟩:=isT_low.mp g;cases e;exact absurd (I.tuple_inj hs gs) (by simp)
  | ltr w' =>
   obtain⟨q,e,gs⟩:=isT_ltr.mp g;cases e;have:=I.tuple_inj hs gs;simp only[List.cons.injEq,V.str.injEq,and_true,true_and] at this;rw[this]
  | nd k x y =>
   obtain⟨q,_,_,e,gs,_⟩:=isT_nd.mp g;cases e;exact absurd (I.tuple_inj hs gs) (by simp)
 | .nd k x y,b,v,h,g=>by
  obtain⟨p,vx,vy,rfl,hs,hx,hy⟩:=isT_nd.mp h
  cases b with
  | low =>
   obtain⟨q,e,gs⟩:=isT_low.mp g;cases e;exact absurd (I.tuple_inj hs gs) (by simp)
  | ltr w' =>
   obtain⟨q,e,gs⟩:=isT_ltr.mp g;cases e;exact absurd (I.tuple_inj hs gs) (by simp)
  | nd k' x' y' =>
   obtain⟨q,_,_,e,gs,gx,gy⟩:=isT_nd.mp g;cases e;have:=I.tuple_inj hs gs;simp only[List.cons.injEq,V.str.injEq,and_true] at this;obtain⟨e1,rfl,rfl⟩:=this;rw[Kd.str_inj e1,isT_inj I hx gx,isT_inj I hy gy]
end
theorem Zq7 {K:W.Frag} {H:Hp}:∀ {us:List V} {ts:List Tm},Paired (IsT K H) us ts->DnAll K H us (ts.map Tm.data)
 | _,_,.nil=>by rw[List.map_nil,DnAll]
 | _,_,.cons h t=>by
  rw[List.map_cons,DnAll];exact⟨_,_,rfl,h,Zq7 t⟩
theorem Zm7:∀ {ts:List Tm},(∀ t∈ts,t.ok)->(PyData.list (ts.map Tm.data)).canLay0=true
 | [],_=>rfl
 | t :: ts,h=>by
  have:=Zm7 (ts:=ts) fun s hs=>h s (List.mem_cons_of_mem _ hs);show (t.data.canLay0&&(PyData.list (ts.map Tm.data)).canLay0)=true;rw[t.lay (h t List.mem_cons_self),this];rfl
end Ken
namespace L2
open PySem PySem.Spec PyProof.Rows
section
variable {X:Cx}
def rInT (K:W.Frag) (neg:Bool):R2:=fun x y H Q=>∃ (t:Ken.Tm) (p:Addr) (xs:List V) (ts:List Ken.Tm),Ken.IsT K H x t/\y=.ref p/\SqL K H p xs/\Paired (Ken.IsT K H) xs ts/\t.ok/\(∀ s∈ts,s.ok)/\t.deep<=140/\Q (.bl (if neg then !decide (t∈ts) else decide (t∈ts))) H
theorem Xl2 {pins:List (Addr×Obj)} {σ:St} {H:Hp} {s:Shared} {x:V} {v:Value} {t:Ken.Tm} {xs:List V} {ts:List Ken.Tm} {its:List Value} (hu:X.A.units+150 < cLine) (I:Inv X pins σ H s) (rx:RelV x v) (hT:Ken.IsT X.K H x t) (hP:Paired (Ken.IsT X.K H) xs ts) (r:Vals xs its) (ho:t.ok) (hs:∀ s∈ts,s.ok) (hd:t.deep<=140) :
  ∃ e:Value->Bool,(∀ w∈its,SeqAt.EqAt X.A.in1 s w v (e w))/\its.any e=decide (t∈ts)/\∀ (j:Nat) (w:Value),its[j]?=some w->e w=true->ts[j]?=some t:=by
 classical
 have l1:=Paired.length hP;have l2:=r.length
 have k:∀ (i j:Nat) (w:Value) (a b:Ken.Tm),its[i]?=some w->its[j]?=some w->ts[i]?=some a->ts[j]?=some b->a=b:=by
  intro i j w a b o f O N
  have M:i < xs.length:=by have:=(List.getElem?_eq_some_iff.mp O).1;walk_at "o"
  have c:j < xs.length:=by have:=(List.getElem?_eq_some_iff.mp N).1;walk_at "o"
  obtain⟨a',g,d⟩:=Ken.paired_get hP (List.getElem?_eq_getElem M);obtain⟨b',S,C⟩:=Ken.paired_get hP (List.getElem?_eq_getElem c);obtain⟨T,p,l⟩:=r.get (List.getElem?_eq_getElem M);obtain⟨u2,R,G⟩:=r.get (List.getElem?_eq_getElem c);rw[O] at g;cases g;rw[N] at S;cases S;rw[o] at p;cases p;rw[f] at R;cases R;obtain⟨p1,_,z,_⟩:=Ken.isT_tup d;obtain⟨p2,_,y,_⟩:=Ken.isT_tup C;rw[z] at l d;rw[y] at G C;have B:w=.ref p1:=l;have q:w=.ref p2:=G;rw[B] at q;cases q;exact Ken.isT_inj I d C
 refine⟨fun w=>decide (∃ j:Nat,its[j]?=some w/\ts[j]?=some t),fun w L=>?_,?_,fun j w c Y=>?_⟩
 ·obtain⟨j,c,F⟩:=List.mem_iff_getElem.mp L
  have u:j < xs.length:=by walk_at "o"
  have m:j < ts.length:=by walk_at "o"
  obtain⟨a,g,d⟩:=Ken.paired_get hP (List.getElem?_eq_getElem u);obtain⟨T,p,l⟩:=r.get (List.getElem?_eq_getElem u)
  have D:its[j]?=some w:=by rw[List.getElem?_eq_getElem c,F]
  rw[D] at p;cases p
  have J:decide (∃ j:Nat,its[j]?=some w/\ts[j]?=some t)=decide (a=t):=by
   by_cases h:a=t
   ·rw[decide_eq_true h,decide_eq_true ⟨j,D,by rw[g,h]⟩]
   ·rw[decide_eq_false h,decide_eq_false]
    rintro⟨i,o,f⟩;exact h (k j i w a t D o g f)
  show SeqAt.EqAt X.A.in1 s w v (decide (∃ j:Nat,its[j]?=some w/\ts[j]?=some t));rw[J];obtain⟨p1,_,z,_⟩:=Ken.isT_tup d;obtain⟨p2,_,y,_⟩:=Ken.isT_tup hT;rw[z] at l d;rw[y] at rx hT;have B:w=.ref p1:=l;have q:v=.ref p2:=rx;subst B;subst q
  by_cases h:p1=p2
  ·subst h
   rw[decide_eq_true (Ken.isT_inj I d hT)];exact SeqAt.EqAt.same _
  ·obtain⟨as,W⟩:=Dn.reads I d (show RelV (.ref p1) (.ref p1) from rfl)
   obtain⟨bs,U⟩:=Dn.reads I hT (show RelV (.ref p2) (.ref p2) from rfl);rw[<- Ken.Tm.eqv];have Z:X.A.in1.units=X.A.units+1:=rfl
   have dm:min a.data.depth t.data.depth<=140:=by rw[Ken.Tm.depth,Ken.Tm.depth];walk_at "o"
   exact SeqAt.EqAt.of_refs h (SeqAt.rcAt_reads W U (a.lay (hs a (List.mem_of_getElem? g))) (t.lay ho) (by walk_at "o"))
 ·rw[Bool.eq_iff_iff,List.any_eq_true,decide_eq_true_iff]
  constructor
  ·rintro⟨w,L,h⟩
   obtain⟨j,_,f⟩:=of_decide_eq_true h;exact List.mem_of_getElem? f
  ·intro h
   obtain⟨j,c,F⟩:=List.mem_iff_getElem.mp h
   have n:j < its.length:=by walk_at "o"
   exact⟨its[j],List.getElem_mem n,decide_eq_true ⟨j,List.getElem?_eq_getElem n,by rw[List.getElem?_eq_getElem c,F]⟩⟩
 ·obtain⟨i,o,f⟩:=of_decide_eq_true Y
  have n:j < its.length:=(List.getElem?_eq_some_iff.mp c).1
  have m:j < ts.length:=by walk_at "o"
  rw[List.getElem?_eq_getElem m,k j i w ts[j] t c o (List.getElem?_eq_getElem m) f]
theorem Yy9 (hu:X.A.units+150 < cLine):OpR X (compareOp .In) (rInT X.K false):=by
 intro f s B H x y v u Q I c b h;obtain⟨t,p,C,D,n,rfl,j,o,k,i,m,q⟩:=h;cases b;obtain⟨a,r,d,F⟩:=I.list j;obtain⟨e,l,z,_⟩:=Xl2 hu I c n o r k i m;refine SeqAt.in_listAt e d.isList (fun w g=>l w (by simpa using g)) ⟨.bl _,H,I,rfl,?_⟩;rw[show a.toArray.any e=a.any e by simp,z];exact q
theorem Zw5 (hu:X.A.units+150 < cLine):OpR X (compareOp .NotIn) (rInT X.K true):=by
 intro f s B H x y v u Q I c b h;obtain⟨t,p,C,D,n,rfl,j,o,k,i,m,q⟩:=h;cases b;obtain⟨a,r,d,F⟩:=I.list j;obtain⟨e,l,z,_⟩:=Xl2 hu I c n o r k i m;refine SeqAt.notIn_listAt e d.isList (fun w g=>l w (by simpa using g)) ⟨.bl _,H,I,rfl,?_⟩;rw[show a.toArray.any e=a.any e by simp,z];exact q
end
end L2
namespace PySem.SeqAt
open PySem PySem.MeetsSeq L2 PyProof.Rows
theorem Ya6:∀ {us:List Value} {xs:List Str},StrsAre us xs->us.length=xs.length
 | _,_,.nil=>rfl
 | _,_,.cons _ _ h=>by rw[List.length_cons,List.length_cons,Ya6 h]
theorem Yr7 (l b:Addr) (items items2:Array Value) (n n2:Nat) (dd dd2:Option Addr) (sl sl2:Array (Option Value)) (xs ys:List Str) :
  Meets (Builtin.«tuple.__lt__» ⟨[.ref l,.ref b],[]⟩)
   (fun A R s=>s.heap.get? l=some { cls:=.type "tuple",dict:=dd,data:=.seq items n,slots:=sl }/\s.heap.get? b=some { cls:=.type "tuple",dict:=dd2,data:=.seq items2 n2,slots:=sl2 } /\
    StrsAre items.toList xs/\StrsAre items2.toList ys/\R (.ok (.ret (.bool (lexF (decide (items.size < items2.size)) xs ys)))) s) :=
 .of_wp fun z w A R s h=>by
  obtain⟨t,g,d,q,r⟩:=s;obtain⟨B,D,v,u,h⟩:=h;have F:=AutoSeq1.sub_tuple_tuple
  wp_walk using wpAny_loadPart' B,wpAny_loadPart' D,wpAny_forIn_list _ (fun j b p=>b.1=none/\p=⟨t,g,d,q,r⟩/\∃ o m xs ys,j=List.zip o m/\StrsAre o xs/\StrsAre m ys /\
   R (.ok (.ret (.bool (lexF (decide (items.size < items2.size)) xs ys)))) ⟨t,g,d,q,r⟩) _
  case turn =>
   rintro⟨y,x⟩ j b p ⟨k,rfl,o,m,xs,ys,f,i,e,a⟩
   cases i with
   | nil=>cases f
   | cons x1 t1 i =>
    cases e with
    | nil=>cases f
    | cons y1 u1 e =>
     rw[List.zip_cons_cons] at f;injection f with hyx hrest;injection hyx with e1 e2;subst e1 e2;refine wpAny_bind (wpAny_eqBool_str ?_);unfold lexF at a
     by_cases c:x1=y1
     ·rw[if_pos c] at a
      rw[decide_eq_true c]
      wp_walk
      exact⟨rfl,rfl,_,_,_,_,hrest,i,e,a⟩
     ·rw[if_neg c] at a
      rw[decide_eq_false c];simp only[Bool.not_false,if_true];refine wpAny_bind (wpAny_rule (wpAny_bind (W.cmp_ofLt (P.lt_str ?_))));refine wpAny_bind (wpAny_pure (wpAny_pure (wpAny_pure ⟨_,rfl,?_⟩)));exact a
  case fin =>
   rintro⟨I,G⟩ p ⟨k,rfl,o,m,xs,ys,f,i,e,a⟩;simp only at k;subst k
   have C:lexF (decide (items.size < items2.size)) xs ys=decide (items.size < items2.size):=by
    cases i with
    | nil=>cases e<;>rfl
    | cons x1 t1 i =>
     cases e with
     | nil=>rfl
     | cons y1 u1 e=>cases f
   rw[C] at a
   wp_walk
   exact⟨_,rfl,by simpa [Builtin.Tuple.tupleCompareSizes] using a⟩
  case h =>
   exact⟨rfl,rfl,_,_,_,_,rfl,v,u,h⟩
theorem lt_tupleS {prog:Program} {w:World} {A:Around} {E:Value->Shared->Prop} {s:Shared} {l b:Addr} {items items2:Array Value} {xs ys:List Str} {Q:Value->Shared->Prop} (hl:s.heap.IsTuple l items) (hb:s.heap.IsTuple b items2) (hu:A.units < cLine)
  (h1:StrsAre items.toList xs) (h2:StrsAre items2.toList ys) (h:Q (.bool (lexT xs ys)) s):wpAny (model prog w) A (compareOp .Lt (.ref l) (.ref b)) Q E s:=by
 obtain⟨⟨y,t,u,o⟩,g,j,n,i⟩:=id hl;obtain⟨⟨v,k,m,f⟩,a,d,p,c⟩:=id hb;simp only at j i d c;subst j i d c
 have e:lexF (decide (items.size < items2.size)) xs ys=lexT xs ys:=by
  rw[<- Yg3]
  have r:items.size=xs.length:=by rw[<- Array.length_toList];exact Ya6 h1
  have q:items2.size=ys.length:=by rw[<- Array.length_toList];exact Ya6 h2
  rw[r,q]
 exact richCompare_meets_room (op:=.Lt) ⟨_,g,rfl⟩ ⟨_,a,rfl⟩ F.slot_tuple_lt F.entry_tuple_lt (F.args_tuple_lt_2 _ _) (Yr7 l b items items2 n p t k o f xs ys)
  ⟨g,a,h1,h2,show Value.bool (lexF (decide (items.size < items2.size)) xs ys)≠Value.notImplemented/\Q (.bool (lexF (decide (items.size < items2.size)) xs ys)) s from ⟨(fun x=>nomatch x),by rw[e];exact h⟩⟩ hu
end PySem.SeqAt
namespace L2
open PySem PySem.Spec PyProof.Rows
section
variable {X:Cx}
def rLtS (K:W.Frag):R2:=fun x y H Q=>∃ (p q:Addr) (xs ys:List Str),x=.ref p/\y=.ref q/\SqT K H p (xs.map V.str)/\SqT K H q (ys.map V.str)/\Q (.bl (lexT xs ys)) H
theorem Xv6 (hu:X.A.units < cLine):OpR X (compareOp .Lt) (rLtS X.K):=by
 intro f s m H x y v u Q I c b h;obtain⟨p,q,o,n,rfl,rfl,j,i,k⟩:=h;cases c;cases b;obtain⟨l,r,e,_⟩:=I.tuple j;obtain⟨g,d,a,_⟩:=I.tuple i;exact SeqAt.lt_tupleS e a hu (Zo6 r) (Zo6 d) ⟨.bl _,H,I,rfl,k⟩
end
end L2
namespace Ken
open PySem L2
noncomputable def cmpT (a b:Tm):Int:=if a=b then 0 else if lexT a.spell b.spell=true then -1 else 1
noncomputable def Yg4 (ps:List (Tm×Tm)):List Str:=ps.flatMap fun p=>p.1.spell
noncomputable def Zt0 (ps:List (Tm×Tm)):List Str:=ps.flatMap fun p=>p.2.spell
theorem Zi2 (p:Tm×Tm) (ps:List (Tm×Tm)):Yg4 (p :: ps)=p.1.spell++Yg4 ps:=List.flatMap_cons
theorem Zg6 (p:Tm×Tm) (ps:List (Tm×Tm)):Zt0 (p :: ps)=p.2.spell++Zt0 ps:=List.flatMap_cons
theorem Ze8 (x:Str) (A B:List Str):lexT (x :: A) (x :: B)=lexT A B:=by
 show (if x=x then lexT A B else sLt x x)=_;rw[if_pos rfl]
theorem Zd1 {x y:Str} (h:¬ x=y) (A B:List Str):lexT (x :: A) (y :: B)=sLt x y:=by
 show (if x=y then lexT A B else sLt x y)=_;rw[if_neg h]
def CmpI (a b:Tm) (ps:List (Tm×Tm)):Prop:=lexT a.spell b.spell=lexT (Yg4 ps) (Zt0 ps)/\(a=b↔Yg4 ps=Zt0 ps)
theorem CmpI.start (a b:Tm):CmpI a b [(a,b)]:=by
 unfold CmpI;rw[Zi2,Zg6];show lexT a.spell b.spell=lexT (a.spell++[]) (b.spell++[])/\(a=b↔a.spell++[]=b.spell++[]);rw[List.append_nil,List.append_nil];exact⟨rfl,⟨fun e=>by rw[e],Ye6⟩⟩
theorem CmpI.pair {a b:Tm} {k:Kd} {x y x' y':Tm} {ps:List (Tm×Tm)} (h:CmpI a b ((.nd k x y,.nd k x' y') :: ps)):CmpI a b ((x,x') :: (y,y') :: ps):=by
 unfold CmpI at h ⊢;rw[Zi2,Zg6,Zc3,Zc3,List.cons_append,List.cons_append,Ze8] at h;rw[Zi2,Zg6,Zi2,Zg6,<- List.append_assoc,<- List.append_assoc];refine⟨h.1,h.2.trans ⟨fun e=>(List.cons.inj e).2,fun e=>by rw[e]⟩⟩
theorem CmpI.leaf {a b t:Tm} {ps:List (Tm×Tm)} (h:CmpI a b ((t,t) :: ps)):CmpI a b ps:=by
 unfold CmpI at h ⊢;rw[Zi2,Zg6] at h
 have c:∀ l:List Str,lexT (l++Yg4 ps) (l++Zt0 ps)=lexT (Yg4 ps) (Zt0 ps):=by
  intro l
  induction l with
  | nil=>rfl
  | cons z l ih=>rw[List.cons_append,List.cons_append,Ze8,ih]
 rw[c] at h;exact⟨h.1,h.2.trans ⟨fun e=>List.append_cancel_left e,fun e=>by rw[e]⟩⟩
theorem CmpI.done {a b:Tm} (h:CmpI a b []):cmpT a b=0:=by
 unfold cmpT;rw[if_pos (h.2.mpr rfl)]
theorem CmpI.diff {a b t u:Tm} {x y:Str} {A B:List Str} {ps:List (Tm×Tm)} (h:CmpI a b ((t,u) :: ps)) (ht:t.spell=x :: A) (hu:u.spell=y :: B) (hxy:¬ x=y):cmpT a b=if sLt x y=true then -1 else 1:=by
 unfold CmpI at h;rw[Zi2,Zg6,ht,hu,List.cons_append,List.cons_append,Zd1 hxy] at h;unfold cmpT;rw[if_neg (fun e=>hxy (List.cons.inj (h.2.mp e)).1),h.1]
theorem CmpI.diffW {a b:Tm} {x y:Str} {ps:List (Tm×Tm)} (h:CmpI a b ((.ltr x,.ltr y) :: ps)) (hxy:¬ x=y):cmpT a b=if lexT ["letter",x] ["letter",y]=true then -1 else 1:=by
 unfold CmpI at h;rw[Zi2,Zg6] at h;have d:(Tm.ltr x).spell++Yg4 ps=("letter":Str) :: x :: Yg4 ps:=rfl;have c:(Tm.ltr y).spell++Zt0 ps=("letter":Str) :: y :: Zt0 ps:=rfl;rw[d,c,Ze8,Zd1 hxy] at h;unfold cmpT;rw[if_neg (fun e=>hxy (List.cons.inj (List.cons.inj (h.2.mp e)).2).1),h.1,Ze8,Zd1 hxy]
def IsP (K:W.Frag) (H:Hp) (v:V) (p:Tm×Tm):Prop:=∃ q x y,v=.ref q/\SqT K H q [x,y]/\IsT K H x p.1/\IsT K H y p.2
theorem IsP.keep {K:W.Frag} {H H':Hp} {v:V} {p:Tm×Tm} (h:IsP K H v p) (k:KeepT K H H'):IsP K H' v p:=by
 obtain⟨q,x,y,e,c,b,a⟩:=h;exact⟨q,x,y,e,k _ _ c,b.keep k,a.keep k⟩
def Zh6 (K:W.Frag):Sp:=fun vs H Q _=>∃ (v u:V) (a b:Tm),vs=[v,u]/\IsT K H v a/\IsT K H u b/\a.ok/\b.ok/\a.parts<=400/\∀ H',Same H H'->Q (.int (cmpT a b)) H'
theorem opqC {P:(St->Hp->Prop)->Prop} {I:St->Hp->Prop} (h:∀ N:St->Hp->Prop,(∀ σ' H',I σ' H'->N σ' H')->P N):∃ N:St->Hp->Prop,(∀ σ' H',N σ' H'->I σ' H')/\P N:=⟨I,fun _ _ z=>z,h I fun _ _ z=>z⟩
end Ken
namespace PySem.SeqAt
open PySem PySem.MeetsSeq L2 PyProof.Rows
def LtAt (A:Around) (s:Shared) (y x:Value) (k:Bool):Prop :=
 ∀ (P:Program) (w:World) (E:Value->Shared->Prop) (Q:Value->Shared->Prop),Q (.bool k) s->wpAny (model P w) A (compareOp .Lt y x) Q E s
inductive LexAt (A:Around) (s:Shared) (d:Bool):List Value->List Value->Bool->Prop
 | one (us:List Value):LexAt A s d us [] d
 | two (us:List Value):LexAt A s d [] us d
 | same {u v:Value} {us vs:List Value} {r:Bool} (h:EqAt A.in1 s u v true) (t:LexAt A s d us vs r):LexAt A s d (u :: us) (v :: vs) r
 | diff {u v:Value} {us vs:List Value} {r:Bool} (h:EqAt A.in1 s u v false) (t:LtAt A.in1 s u v r):LexAt A s d (u :: us) (v :: vs) r
theorem Yv4 (l b:Addr) (items items2:Array Value) (n n2:Nat) (dd dd2:Option Addr) (sl sl2:Array (Option Value)) (k:Bool) :
  Meets (Builtin.«tuple.__lt__» ⟨[.ref l,.ref b],[]⟩)
   (fun A R s=>s.heap.get? l=some { cls:=.type "tuple",dict:=dd,data:=.seq items n,slots:=sl }/\s.heap.get? b=some { cls:=.type "tuple",dict:=dd2,data:=.seq items2 n2,slots:=sl2 } /\
    LexAt A s (decide (items.size < items2.size)) items.toList items2.toList k/\R (.ok (.ret (.bool k))) s) :=
 .of_wp fun r w A R s h=>by
  obtain⟨q,g,d,o,p⟩:=s;obtain⟨u,B,z,h⟩:=h;have C:=AutoSeq1.sub_tuple_tuple
  wp_walk using wpAny_loadPart' u,wpAny_loadPart' B,wpAny_forIn_list _ (fun e b j=>b.1=none/\j=⟨q,g,d,o,p⟩/\∃ c i,e=List.zip c i/\LexAt A ⟨q,g,d,o,p⟩ (decide (items.size < items2.size)) c i k) _
  case turn =>
   rintro⟨y,x⟩ e b j ⟨f,rfl,c,i,a,m⟩
   cases m with
   | one c=>rw[List.zip_nil_right] at a;cases a
   | two c=>rw[List.zip_nil_left] at a;cases a
   | same h1 t =>
    rw[List.zip_cons_cons] at a;injection a with hyx hrest;injection hyx with e1 e2;subst e1 e2;refine wpAny_bind (h1 _ _ _ _ ?_)
    wp_walk
    exact⟨rfl,rfl,_,_,hrest,t⟩
   | diff h1 t =>
    rw[List.zip_cons_cons] at a;injection a with hyx hrest;injection hyx with e1 e2;subst e1 e2;refine wpAny_bind (h1 _ _ _ _ ?_);simp only[Bool.not_false,if_true];refine wpAny_bind (wpAny_rule (wpAny_bind (t _ _ _ _ ?_)));refine wpAny_bind (wpAny_pure (wpAny_pure (wpAny_pure ⟨_,rfl,?_⟩)));exact h
  case fin =>
   rintro⟨F,D⟩ j ⟨f,rfl,c,i,a,m⟩;simp only at f;subst f
   have v:k=decide (items.size < items2.size):=by
    cases m with
    | one c=>rfl
    | two c=>rfl
    | same h1 t=>cases a
    | diff h1 t=>cases a
   rw[v] at h
   wp_walk
   exact⟨_,rfl,by simpa [Builtin.Tuple.tupleCompareSizes] using h⟩
  case h=>exact⟨rfl,rfl,_,_,rfl,z⟩
theorem Zx1 {A:Around} {s:Shared} {l b:Addr} {items items2:Array Value} {k:Bool} (hl:s.heap.IsTuple l items) (hb:s.heap.IsTuple b items2) (hu:A.units < cLine)
  (he:LexAt A s (decide (items.size < items2.size)) items.toList items2.toList k):LtAt A s (.ref l) (.ref b) k:=fun P w E Q h=>by
 obtain⟨⟨u,q,r,o⟩,f,i,n,g⟩:=id hl;obtain⟨⟨t,j,m,e⟩,a,d,p,c⟩:=id hb;simp only at i g d c;subst i g d c;exact richCompare_meets_room (op:=.Lt) ⟨_,f,rfl⟩ ⟨_,a,rfl⟩ F.slot_tuple_lt F.entry_tuple_lt (F.args_tuple_lt_2 _ _) (Yv4 l b items items2 n p q j o e k)
  ⟨f,a,he,show Value.bool k≠Value.notImplemented/\Q (.bool k) s from ⟨(fun x=>nomatch x),h⟩⟩ hu
theorem Yp4 {A:Around} {s:Shared} {x y:Str} {t u:Tok}:LtAt A s (.str x t) (.str y u) (sLt x y):=fun _ _ _ _ h=>W.cmp_ofLt (P.lt_str h)
theorem Zu6 {A:Around} {s:Shared} {x y:Str} {t u:Tok}:EqAt A s (.str x t) (.str y u) (decide (x=y)):=fun P w E Q h=>wpAny_eqBool_str h
end PySem.SeqAt
namespace Ken
open PySem L2 PySem.SeqAt
theorem Zu4 (l:List Str) (A B:List Str):lexT (l++A) (l++B)=lexT A B:=by
 induction l with
 | nil=>rfl
 | cons z l ih=>rw[List.cons_append,List.cons_append,Ze8,ih]
theorem Zt4 (k:Kd):¬ k.str=("low":Str):=by cases k<;>decide
theorem Zt3 (k:Kd):¬ k.str=("letter":Str):=by cases k<;>decide
theorem Zr6:∀ {a b:Tm} (A B:List Str),a≠b->lexT (a.spell++A) (b.spell++B)=lexT a.spell b.spell
 | .low,.low,A,B,h=>absurd rfl h
 | .low,.ltr y,A,B,h=>by show lexT ("low" :: _) ("letter" :: _)=lexT ("low" :: _) ("letter" :: _);rw[Zd1 (by decide),Zd1 (by decide)]
 | .low,.nd k c d,A,B,h=>by
  rw[Zc3];show lexT ("low" :: _) (k.str :: _)=lexT ("low" :: _) (k.str :: _);rw[Zd1 (Ne.symm (Zt4 k)),Zd1 (Ne.symm (Zt4 k))]
 | .ltr x,.low,A,B,h=>by show lexT ("letter" :: _) ("low" :: _)=lexT ("letter" :: _) ("low" :: _);rw[Zd1 (by decide),Zd1 (by decide)]
 | .ltr x,.ltr y,A,B,h=>by
  have hxy:¬ x=y:=fun z=>h (by rw[z]);show lexT ("letter" :: x :: _) ("letter" :: y :: _)=lexT ("letter" :: x :: _) ("letter" :: y :: _);rw[Ze8,Ze8,Zd1 hxy,Zd1 hxy]
 | .ltr x,.nd k c d,A,B,h=>by
  rw[Zc3];show lexT ("letter" :: _) (k.str :: _)=lexT ("letter" :: _) (k.str :: _);rw[Zd1 (Ne.symm (Zt3 k)),Zd1 (Ne.symm (Zt3 k))]
 | .nd k a b,.low,A,B,h=>by
  rw[Zc3];show lexT (k.str :: _) ("low" :: _)=lexT (k.str :: _) ("low" :: _);rw[Zd1 (Zt4 k),Zd1 (Zt4 k)]
 | .nd k a b,.ltr y,A,B,h=>by
  rw[Zc3];show lexT (k.str :: _) ("letter" :: _)=lexT (k.str :: _) ("letter" :: _);rw[Zd1 (Zt3 k),Zd1 (Zt3 k)]
 | .nd k a b,.nd k' c d,A,B,h=>by
  rw[Zc3,Zc3,List.cons_append,List.cons_append]
  by_cases hk:k.str=k'.str
  ·rw[hk,Ze8,Ze8,List.append_assoc,List.append_assoc]
   by_cases hac:a=c
   ·subst hac
    have hbd:b≠d:=fun z=>h (by rw[z,Kd.str_inj hk]);rw[Zu4,Zu4,Zr6 A B hbd]
   ·rw[Zr6 _ _ hac,Zr6 _ _ hac]
  ·rw[Zd1 hk,Zd1 hk]
section
variable {X:Cx} {pins:List (Addr×Obj)} {σ:St} {H:Hp} {s:Shared}
theorem Xj0 (I:Inv X pins σ H s) {a b:Tm} {va vb:V} {ua ub:Value} {A:Around} (ha:IsT X.K H va a) (hb:IsT X.K H vb b) (ra:RelV va ua) (rb:RelV vb ub) (oa:a.ok) (ob:b.ok) (hu:A.units+a.deep < cLine):EqAt A s ua ub (decide (a=b)):=by
 obtain⟨p1,_,d,_⟩:=isT_tup ha;obtain⟨p2,_,c,_⟩:=isT_tup hb;rw[d] at ra ha;rw[c] at rb hb;have f:ua=.ref p1:=ra;have e:ub=.ref p2:=rb;subst f e
 by_cases h:p1=p2
 ·subst h
  rw[decide_eq_true (isT_inj I ha hb)];exact EqAt.same _
 ·obtain⟨l,i⟩:=Dn.reads I ha (show RelV (.ref p1) (.ref p1) from rfl)
  obtain⟨k,g⟩:=Dn.reads I hb (show RelV (.ref p2) (.ref p2) from rfl);rw[<- Tm.eqv]
  have j:min a.data.depth b.data.depth<=a.deep:=by rw[Tm.depth,Tm.depth];walk_at "o"
  exact EqAt.of_refs h (rcAt_reads i g (a.lay oa) (b.lay ob) (by walk_at "o"))
theorem Wb8 (I:Inv X pins σ H s) {A:Around} {p q:Addr} {x y:Str} {xs ys:List V} (h1:SqT X.K H p (.str x :: xs)) (h2:SqT X.K H q (.str y :: ys)) (hxy:¬ x=y) (hu:A.units+2 < cLine):LtAt A s (.ref p) (.ref q) (sLt x y):=by
 obtain⟨g,r,d,_⟩:=I.tuple h1;obtain⟨f,c,a,_⟩:=I.tuple h2;refine Zx1 d a (by walk_at "o") ?_
 cases r with
 | cons r0 rr =>
  cases c with
  | cons r0' rr' =>
   obtain⟨t,rfl⟩:=r0;obtain⟨b,rfl⟩:=r0';have e:=Zu6 (A:=A.in1) (s:=s) (x:=x) (y:=y) (t:=t) (u:=b);rw[decide_eq_false hxy] at e;exact .diff e Yp4
theorem Xl5 {K:W.Frag} {v:V} {t:Tm} (h:IsT K H v t):∃ p x xs A,v=.ref p/\SqT K H p (.str x :: xs)/\t.spell=x :: A:=by
 cases t with
 | low=>obtain⟨p,e,c⟩:=isT_low.mp h;exact⟨p,_,_,[],e,c,rfl⟩
 | ltr y=>obtain⟨p,e,c⟩:=isT_ltr.mp h;exact⟨p,_,_,[y],e,c,rfl⟩
 | nd k a b=>obtain⟨p,x,y,e,c,_⟩:=isT_nd.mp h;exact⟨p,_,_,_,e,c,Zc3 k a b⟩
theorem Yl3 (I:Inv X pins σ H s) {a b:Tm} {va vb:V} {ua ub:Value} {A:Around} (ha:IsT X.K H va a) (hb:IsT X.K H vb b) (ra:RelV va ua) (rb:RelV vb ub) (hu:A.units+2 < cLine) (hn:∀ x A B,a.spell=x :: A->¬ b.spell=x :: B):LtAt A s ua ub (lexT a.spell b.spell):=by
 obtain⟨p,x,k,i,rfl,g,e⟩:=Xl5 ha;obtain⟨q,y,j,h,rfl,f,d⟩:=Xl5 hb;cases ra;cases rb;have c:¬ x=y:=fun z=>hn x i h e (z▸d);rw[e,d,Zd1 c];exact Wb8 I g f c hu
theorem Ym2 {x y:Str} {A0 B0:List Str} {l m:List Str} (e1:l=x :: A0) (e2:m=y :: B0) (h:¬ x=y):∀ z A B,l=z :: A->¬ m=z :: B:=fun z A B b a=>h ((List.cons.inj (e1.symm.trans b)).1.trans (List.cons.inj (e2.symm.trans a)).1.symm)
theorem Wb7 (I:Inv X pins σ H s) {A:Around} {p q:Addr} {x y:Str} (h1:SqT X.K H p [.str "letter",.str x]) (h2:SqT X.K H q [.str "letter",.str y]) (hxy:¬ x=y) (hu:A.units+2 < cLine):LtAt A s (.ref p) (.ref q) (sLt x y):=by
 obtain⟨j,r,h,_⟩:=I.tuple h1;obtain⟨i,g,b,_⟩:=I.tuple h2;refine Zx1 h b (by walk_at "o") ?_
 cases r with
 | cons r0 rr =>
  cases g with
  | cons r0' rr' =>
   cases rr with
   | cons r1 rr =>
    cases rr' with
    | cons r1' rr' =>
     obtain⟨t,rfl⟩:=r0;obtain⟨f,rfl⟩:=r0';obtain⟨d,rfl⟩:=r1;obtain⟨a,rfl⟩:=r1';have c:=Zu6 (A:=A.in1) (s:=s) (x:="letter") (y:="letter") (t:=t) (u:=f);have e:=Zu6 (A:=A.in1) (s:=s) (x:=x) (y:=y) (t:=d) (u:=a);rw[decide_eq_true rfl] at c;rw[decide_eq_false hxy] at e;exact .same c (.diff e Yp4)
theorem Wb5 (I:Inv X pins σ H s):∀ (a:Tm) {b:Tm} {va vb:V} {ua ub:Value} {A:Around},IsT X.K H va a->IsT X.K H vb b->RelV va ua->RelV vb ub->a.ok->b.ok->a≠b->A.units+a.deep+2 < cLine->LtAt A s ua ub (lexT a.spell b.spell):=by
 intro a
 induction a with
 | low =>
  intro b va vb ua ub A h g f e m l j i
  have i:A.units+2 < cLine:=by walk_at "o"
  cases b with
  | low=>exact absurd rfl j
  | ltr y=>exact Yl3 I h g f e i (Ym2 rfl rfl (by decide))
  | nd k c d=>exact Yl3 I h g f e i (Ym2 rfl (Zc3 k c d) (Ne.symm (Zt4 k)))
 | ltr x =>
  intro b va vb ua ub A h g f e m l j i
  have i:A.units+2 < cLine:=by walk_at "o"
  cases b with
  | low=>exact Yl3 I h g f e i (Ym2 rfl rfl (by decide))
  | ltr y =>
   obtain⟨p,rfl,F⟩:=isT_ltr.mp h;obtain⟨q,rfl,o⟩:=isT_ltr.mp g;cases f;cases e;have B:¬ x=y:=fun z=>j (by rw[z]);rw[show lexT (Tm.ltr x).spell (Tm.ltr y).spell=sLt x y from (Ze8 _ _ _).trans (Zd1 B _ _)];exact Wb7 I F o B i
  | nd k c d=>exact Yl3 I h g f e i (Ym2 rfl (Zc3 k c d) (Ne.symm (Zt3 k)))
 | nd k a1 b1 ih1 ih2 =>
  intro b va vb ua ub A h g f e m l j i;have du:(Tm.nd k a1 b1).deep=1+max a1.deep b1.deep:=rfl
  have n:A.units+2 < cLine:=by walk_at "o"
  cases b with
  | low=>exact Yl3 I h g f e n (Ym2 (Zc3 k a1 b1) rfl (Zt4 k))
  | ltr y=>exact Yl3 I h g f e n (Ym2 (Zc3 k a1 b1) rfl (Zt3 k))
  | nd k' a2 b2 =>
   by_cases hk:k.str=k'.str
   ·obtain⟨p,vx,Z,rfl,F,L,J⟩:=isT_nd.mp h
    obtain⟨q,W,U,rfl,o,C,w⟩:=isT_nd.mp g;cases f;cases e;have iu:A.in1.units=A.units+1:=rfl;obtain⟨Y,r,S,_⟩:=I.tuple F;obtain⟨T,R,G,_⟩:=I.tuple o;refine Zx1 S G (by walk_at "o") ?_;rw[Zc3,Zc3,hk,Ze8]
    cases r with
    | cons r0 rr =>
     cases R with
     | cons r0' rr' =>
      cases rr with
      | cons r1 rr =>
       cases rr' with
       | cons r1' rr' =>
        cases rr with
        | cons r2 rr =>
         cases rr' with
         | cons r2' rr' =>
          obtain⟨t,rfl⟩:=r0;obtain⟨O,rfl⟩:=r0';have N:=Zu6 (A:=A.in1) (s:=s) (x:=k.str) (y:=k'.str) (t:=t) (u:=O);rw[decide_eq_true hk] at N;refine .same N ?_;have v:=Xj0 (A:=A.in1) I L C r1 r1' m.1 l.1 (by walk_at "o")
          by_cases hac:a1=a2
          ·rw[decide_eq_true hac] at v
           refine .same v ?_;have D:b1≠b2:=fun z=>j (by rw[z,hac,Kd.str_inj hk]);have M:=Xj0 (A:=A.in1) I J w r2 r2' m.2 l.2 (by walk_at "o");rw[decide_eq_false D] at M;rw[hac,Zu4];exact .diff M (ih2 J w r2 r2' m.2 l.2 D (by walk_at "o"))
          ·rw[decide_eq_false hac] at v
           rw[Zr6 _ _ hac];exact .diff v (ih1 L C r1 r1' m.1 l.1 hac (by walk_at "o"))
   ·exact Yl3 I h g f e n (Ym2 (Zc3 k a1 b1) (Zc3 k' a2 b2) hk)
theorem Wb6 (I:Inv X pins σ H s):∀ {a b:Tm} {va vb:V} {ua ub:Value} {A:Around},IsT X.K H va a->IsT X.K H vb b->RelV va ua->RelV vb ub->a.ok->b.ok->a≠b->A.units+a.deep+2 < cLine->LtAt A s ua ub (lexT a.spell b.spell):=fun {a}=>Wb5 I a
end
end Ken
namespace L2
open PySem PySem.Spec PyProof.Rows
end L2
namespace Ken
open PySem L2 PyProof.Rows PySem.SeqAt
section
variable {X:Cx}
theorem Xb0 {pins:List (Addr×Obj)} {σ:L2.St} {H:Hp} {s:Shared} {A:Around} (I:Inv X pins σ H s) {a b:Tm} {p q:Addr} (ha:IsT X.K H (.ref p) a) (hb:IsT X.K H (.ref q) b) (oa:a.ok) (ob:b.ok) (hu:A.units+a.deep+4 < cLine) {Q:Bool->Shared->Prop} (hq:Q (lexT a.spell b.spell) s) :
  ∃ ox oy xs ys n k,s.heap.get? p=some ox/\ox.data=.seq xs n/\s.heap.get? q=some oy/\oy.data=.seq ys k/\W.KatLex X.prog X.w A true (decide (xs.size < ys.size)) Q (xs.toList.zip ys.toList) 0 s:=by
 have Z:∀ l:List Str,lexT l l=false:=fun l=>by
  cases e:lexT l l with
  | false=>rfl
  | true=>have:=Zm3 e;rw[e] at this;exact this
 have m:∀ {p:Addr} {xs:List V},SqT X.K H p xs->∃ q0 o n,Vals xs q0/\s.heap.get? p=some o/\o.data=.seq q0.toArray n:=fun {p xs} h=>by
  obtain⟨q0,r,⟨o,h1,h2,n,h3⟩,_⟩:=I.tuple h;exact⟨q0,o,n,r,h1,h3⟩
 have F:∀ {x y:Str} {xs ys:List V} {us vs:List Value} {fin:Bool},Vals (.str x :: xs) us->Vals (.str y :: ys) vs->(¬ x=y->Q (sLt x y) s)->(x=y->∀ (R O:List Value),Vals xs R->Vals ys O->W.KatLex X.prog X.w A true fin Q (R.zip O) 1 s)->W.KatLex X.prog X.w A true fin Q (us.zip vs) 0 s:=fun {x y xs ys us vs fin} t g h1 h2=>by
  cases t with
  | cons a1 Y =>
   cases g with
   | cons a2 U =>
    obtain⟨tx,rfl⟩:=a1;obtain⟨ty,rfl⟩:=a2;refine W.kat_cons (wpAny_eqBool_str ?_);refine W.kat_go (fun e=>W.kat_yes (h2 (of_decide_eq_true e) _ _ Y U)) (fun e=>W.kat_no ?_);exact oneLt_str (h1 (of_decide_eq_false e))
 have D:∀ {x y:Str} {xs ys:List V} {us vs:List Value} {fin:Bool} {A1 B1:List Str},a.spell=x :: A1->b.spell=y :: B1->¬ x=y->Vals (.str x :: xs) us->Vals (.str y :: ys) vs->W.KatLex X.prog X.w A true fin Q (us.zip vs) 0 s:=fun {x y xs ys us vs fin A1 B1} e1 j hxy t g=>by
  refine F t g (fun _=>?_) (fun z=>absurd z hxy);rw[e1,j,Zd1 hxy] at hq;exact hq
 cases a with
 | low =>
  obtain⟨p',e1,T⟩:=isT_low.mp ha;cases e1;obtain⟨L,G,J,t,N,M⟩:=m T
  cases b with
  | low =>
   obtain⟨S,j,f⟩:=isT_low.mp hb;cases j;obtain⟨i,u,v,g,C,B⟩:=m f;refine⟨G,u,_,_,J,v,N,M,C,B,?_⟩;refine F t g (fun z=>absurd rfl z) (fun _ R O Y U=>?_);cases Y;cases U;refine W.kat_nil ?_;have l1:=t.length;have l2:=g.length;have:decide (L.toArray.size < i.toArray.size)=false:=decide_eq_false (by simp at l1 l2 ⊢;walk_at "o");rw[this];rw[Z] at hq;exact hq
  | ltr y =>
   obtain⟨S,j,f⟩:=isT_ltr.mp hb;cases j;obtain⟨i,u,v,g,C,B⟩:=m f;exact⟨G,u,_,_,J,v,N,M,C,B,by simpa using D (fin:=_) (A1:=[]) (B1:=[y]) rfl rfl (by decide) t g⟩
  | nd k c d =>
   obtain⟨S,vx,vy,j,f,_⟩:=isT_nd.mp hb;cases j;obtain⟨i,u,v,g,C,B⟩:=m f;exact⟨G,u,_,_,J,v,N,M,C,B,by simpa using D (fin:=_) (A1:=[]) rfl (Zc3 k c d) (fun z=>Zt4 k z.symm) t g⟩
 | ltr x =>
  obtain⟨p',e1,T⟩:=isT_ltr.mp ha;cases e1;obtain⟨L,G,J,t,N,M⟩:=m T
  cases b with
  | low =>
   obtain⟨S,j,f⟩:=isT_low.mp hb;cases j;obtain⟨i,u,v,g,C,B⟩:=m f;exact⟨G,u,_,_,J,v,N,M,C,B,by simpa using D (fin:=_) (A1:=[x]) (B1:=[]) rfl rfl (by decide) t g⟩
  | ltr y =>
   obtain⟨S,j,f⟩:=isT_ltr.mp hb;cases j;obtain⟨i,u,v,g,C,B⟩:=m f;refine⟨G,u,_,_,J,v,N,M,C,B,?_⟩;have l1:=t.length;have l2:=g.length;have hf:decide (L.toArray.size < i.toArray.size)=false:=decide_eq_false (by simp at l1 l2 ⊢;walk_at "o");rw[hf];refine F t g (fun z=>absurd rfl z) (fun _ R O Y U=>?_)
   cases Y with
   | cons a1 u1 =>
    cases U with
    | cons a2 u2 =>
     obtain⟨tx,rfl⟩:=a1;obtain⟨ty,rfl⟩:=a2;cases u1;cases u2;have e0:lexT (Tm.ltr x).spell (Tm.ltr y).spell=lexT [x] [y]:=Ze8 "letter" [x] [y];rw[e0] at hq;refine W.kat_cons (wpAny_eqBool_str ?_);refine W.kat_go (fun e=>W.kat_yes (W.kat_nil ?_)) (fun e=>W.kat_no ?_)
     ·have:=of_decide_eq_true e
      rw[this,Z] at hq;exact hq
     ·rw[Zd1 (of_decide_eq_false e)] at hq
      exact W.kat_one _ _ (P.lt_str hq)
  | nd k c d =>
   obtain⟨S,vx,vy,j,f,_⟩:=isT_nd.mp hb;cases j;obtain⟨i,u,v,g,C,B⟩:=m f;exact⟨G,u,_,_,J,v,N,M,C,B,by simpa using D (fin:=_) (A1:=[x]) rfl (Zc3 k c d) (fun z=>Zt3 k z.symm) t g⟩
 | nd k c d =>
  obtain⟨p',vx,vy,e1,T,q4,q2⟩:=isT_nd.mp ha;cases e1;obtain⟨L,G,J,t,N,M⟩:=m T
  cases b with
  | low =>
   obtain⟨S,j,f⟩:=isT_low.mp hb;cases j;obtain⟨i,u,v,g,C,B⟩:=m f;exact⟨G,u,_,_,J,v,N,M,C,B,by simpa using D (fin:=_) (B1:=[]) (Zc3 k c d) rfl (Zt4 k) t g⟩
  | ltr y =>
   obtain⟨S,j,f⟩:=isT_ltr.mp hb;cases j;obtain⟨i,u,v,g,C,B⟩:=m f;exact⟨G,u,_,_,J,v,N,M,C,B,by simpa using D (fin:=_) (B1:=[y]) (Zc3 k c d) rfl (Zt3 k) t g⟩
  | nd k' c' d' =>
   obtain⟨S,wx,wy,j,f,q3,q1⟩:=isT_nd.mp hb;cases j;obtain⟨i,u,v,g,C,B⟩:=m f;refine⟨G,u,_,_,J,v,N,M,C,B,?_⟩;have l1:=t.length;have l2:=g.length;have hf:decide (L.toArray.size < i.toArray.size)=false:=decide_eq_false (by simp at l1 l2 ⊢;walk_at "o");rw[hf];have dp:(Tm.nd k c d).deep=1+max c.deep d.deep:=rfl;refine F t g (fun z=>?_) (fun ek R O Y U=>?_)
   ·rw[Zc3,Zc3,Zd1 z] at hq
    exact hq
   ·have q6:k=k':=by cases k<;>cases k'<;>first | rfl | (exact absurd ek (by decide))
    subst q6;rw[Zc3,Zc3,Ze8] at hq
    cases Y with
    | cons a1 u1 =>
     cases U with
     | cons a2 u2 =>
      refine W.kat_cons (Xj0 I q4 q3 a1 a2 oa.1 ob.1 (by walk_at "o") X.prog X.w _ _ ?_);refine W.kat_go (fun e=>W.kat_yes ?_) (fun e=>W.kat_no (W.kat_one _ _ ?_))
      ·have ec:c=c':=of_decide_eq_true e
       subst ec;rw[Zu4] at hq
       cases u1 with
       | cons a3 u3 =>
        cases u2 with
        | cons a4 u4 =>
         cases u3;cases u4;refine W.kat_cons (Xj0 I q2 q1 a3 a4 oa.2 ob.2 (by walk_at "o") X.prog X.w _ _ ?_);refine W.kat_go (fun e=>W.kat_yes (W.kat_nil ?_)) (fun e=>W.kat_no (W.kat_one _ _ ?_))
         ·have ed:d=d':=of_decide_eq_true e
          subst ed;rw[Z] at hq;exact hq
         ·exact Wb6 I q2 q1 a3 a4 oa.2 ob.2 (of_decide_eq_false e) (by walk_at "o") X.prog X.w _ _ hq
      ·have q5:c≠c':=of_decide_eq_false e
       rw[Zr6 _ _ q5] at hq;exact Wb6 I q4 q3 a1 a2 oa.1 ob.1 q5 (by walk_at "o") X.prog X.w _ _ hq
theorem Zx4 {K:W.Frag} {H:Hp} {v:V} {t:Tm} (h:IsT K H v t):∃ p x xs,v=.ref p/\SqT K H p (.str x :: xs):=by
 cases t with
 | low=>obtain⟨p,e,c⟩:=isT_low.mp h;exact⟨p,_,_,e,c⟩
 | ltr y=>obtain⟨p,e,c⟩:=isT_ltr.mp h;exact⟨p,_,_,e,c⟩
 | nd k a b=>obtain⟨p,x,y,e,c,_⟩:=isT_nd.mp h;exact⟨p,_,_,e,c⟩
theorem Zz6 {pins:List (Addr×Obj)} {σ:L2.St} {H:Hp} {s:Shared} (I:Inv X pins σ H s):∀ {us:List V} {ts:List Tm} {vs:List Value},Paired (IsT X.K H) us ts->Vals us vs->∃ fs,W.KatTups s.heap vs fs/\fs.length=vs.length/\∀ v∈fs,∃ x t,v=.str x t
 | _,_,_,.nil,.nil=>⟨[],W.KatTups.nil,rfl,by simp⟩
 | _,_,_,.cons hv t,.cons r rr=>by
  obtain⟨p,x,xs,rfl,hs⟩:=Zx4 hv;cases r;obtain⟨its,rv,⟨o,h1,h2,n,h3⟩,_⟩:=I.tuple hs;obtain⟨fs,g1,g2,g3⟩:=Zz6 I t rr
  cases rv with
  | cons a1 t1 =>
   obtain⟨tk,rfl⟩:=a1;refine⟨.str x tk :: fs,W.KatTups.cons h1 h2 h3 (by simp) g1,by rw[List.length_cons,List.length_cons,g2],fun v hv=>?_⟩;rcases List.mem_cons.mp hv with rfl | hv
   ·exact⟨_,_,rfl⟩
   ·exact g3 v hv
theorem Yq0 {us:List V} {vs:List Value} (h:Vals us vs) {i:Nat} (hi:i < us.length):RelV (us.getD i .non) (vs.getD i .none):=by
 obtain⟨u,a,r⟩:=h.get (List.getElem?_eq_getElem hi)
 have c:us.getD i .non=us[i]:=by simp[hi]
 have b:vs.getD i .none=u:=by simp[a]
 rw[c,b];exact r
theorem Yh5 (hc:X.calm=true) (hu:X.A.units+150 < cLine):Zs1 X (.builtin "sorted") (fun xs H Q=>∃ (a:Addr) (us:List V) (ts:List Tm),xs=[.ref a]/\H a=some (.lst us)/\Paired (IsT X.K H) us ts/\(∀ t∈ts,t.ok/\t.deep<=120)/\ts.length < 64 /\
    ∀ (l:Addr) (ws:List V) (os:List Tm),H l=none->Paired (IsT X.K H) ws os->List.Perm os ts->os.Pairwise (fun a b=>lexT b.spell a.spell=false)->Q (.ref l) (upd H l (.lst ws))):=by
  intro j8 s σ H xs v2 Q I r h;obtain⟨a,us,ts,rfl,ha,hT,q0,y5,q⟩:=h;obtain⟨u,rfl,ru⟩:=Yi6 r;cases ru;have lu:=Paired.length hT;obtain⟨hz,d,n0,U,ho⟩:ObjOk X.prog X.w H s.heap a (.lst us):=I.hok a _ ha;have lv:=U.length;obtain⟨m,hm,v1⟩:=I.loc;have y3:a≠X.env.locals:=Zb9 ha I.free;have hl:s.heap.IsList a d.toArray:=⟨_,ho,rfl,_,rfl⟩
  have F:∀ (f:Heap) (D c:Nat) (tk:Nat) (ws:List V) (os:List Tm) (R:List Value),(∀ b ob,b≠X.env.locals->s.heap.get? b=some ob->f.get? b=some ob)->f.Ns X.env.locals m->s.heap.get? D=none->f.get? D=some (W.listOf R.toArray c)->Vals ws R->ws.length=us.length->Paired (IsT X.K H) ws os->List.Perm os ts->os.Pairwise (fun a b=>lexT b.spell a.spell=false)->EP X j8 σ Q (.ref D) { s with heap:=f,toks:=tk }:=by
    intro f D c tk ws os R z9 z8 o y1 hv v3 Z z7 z6;have lw:ws.length<=sizeLine:=Nat.le_trans (show ws.length<=64 by walk_at "o") (by decide);obtain⟨I2,q4⟩:=Xb3 (o0:=.lst ws) (tk:=tk) I hm z9 z8 o ⟨lw,_,c,hv,y1⟩;exact⟨.ref D,_,I2,rfl,q D ws os q4 Z z7 z6⟩
  by_cases f:d.length < 2
  ·
    refine Calls.call_function_entry kind_sorted plain_sorted entry_sorted (args_sorted1 (.ref a)) ?_;show wpAny _ _ (pure () >>= _) _ _ _
    have Y:d.length<=sizeLine:=by rw[<- lv,lu];exact Nat.le_trans (Nat.le_of_lt y5) (by decide)
    refine wpAny_bind (wpAny_pure (wpAny_bind (collect_list hl ?_ Y)));generalize hA:((s.heap.push (seqObj "list" #[] 0)).update s.heap.objs.size (Obj.mapSeq fun x=>x++d.toArray))=hB
    have kB:∀ b ob,s.heap.get? b=some ob->hB.get? b=some ob:=fun b ob e=>by
      rw[<- hA,Heap.get?_update_other _ _ (Ne.symm (Nat.ne_of_lt (Heap.lt_size e)))];exact Heap.get?_push_of_some _ e
    have sB:s.heap.objs.size < hB.objs.size:=by
      rw[<- hA,Heap.size_update,Heap.size_push];exact Nat.lt_succ_self _
    refine wpAny_bind (wpAny_newList ?_ Y);have q9:(hB.push (seqObj "list" d.toArray 0)).get? hB.objs.size=some (seqObj "list" d.toArray 0):=Heap.get?_push_size _ rfl;refine wpAny_bind (wpAny_holding (Ys0 f q9 ?_));obtain⟨N,y2⟩:=sortedHeap_at (out:=d.toArray) q9
    have q6:∀ b ob,s.heap.get? b=some ob->(sortedHeap (hB.push (seqObj "list" d.toArray 0)) hB.objs.size d d.toArray).get? b=some ob:=fun b ob e=>by
      have B:=kB b ob e;rw[sortedHeap_old (Nat.ne_of_lt (Heap.lt_size B)) (by rw[Heap.size_push];exact Nat.lt_succ_of_lt (Heap.lt_size B))];exact Heap.get?_push_of_some _ B
    refine wpAny_pure ⟨_,rfl,?_⟩
    have o:s.heap.get? hB.objs.size=none:=by
      cases e:s.heap.get? hB.objs.size with
      | none=>rfl
      | some ob=>exact absurd (Heap.lt_size e) (Nat.not_lt.mpr (Nat.le_of_lt sB))
    refine F _ hB.objs.size N s.toks us ts d (fun b ob _ e=>q6 b ob e) ?_ o y2 U rfl hT (List.Perm.refl _) ?_
    · obtain⟨o',y8,y9,q1,q2⟩:=hm
      exact⟨o',y8,y9,q6 _ _ q1,q2⟩
    · have l2:ts.length < 2:=by walk_at "o"
      cases ts with
      | nil=>exact .nil
      | cons x l =>
        cases l with
        | nil=>exact List.pairwise_singleton _ _
        | cons y l=>exact absurd l2 (by rw[List.length_cons,List.length_cons];walk_at "o")
  · have N0:=Att.news_ledger (L:=X.env.locals) y3 ho
    have q8:∀ b ob,b≠X.env.locals->s.heap.get? b=some ob->(b,ob)∈([]++(a,({ cls:=.type "list",data:=.seq d.toArray n0 }:Obj)) :: Att.ledger s.heap X.env.locals a):=fun b ob B e=>by
      by_cases hba:b=a
      · subst hba;rw[ho] at e;cases e;exact List.mem_cons_self
      · exact List.mem_cons_of_mem _ (Att.mem_ledger.mpr ⟨B,hba,e⟩)
    refine W.kat_sorted (Att.fr_all hm) N0 hl (by walk_at "o") (by walk_at "o") fun D N h' F' N' q3=>?_;have y4:D≠X.env.locals:=(N' _ List.mem_cons_self).2.1;have y0:h'.get? D=some (seqObj "list" #[] N):=(N' _ List.mem_cons_self).1
    have o:s.heap.get? D=none:=by
      cases e:s.heap.get? D with
      | none=>rfl
      | some ob=>exact absurd (q3 _ (q8 D ob y4 e)) (Nat.lt_irrefl _)
    have q7:∀ {f:Heap} {ob:Obj},News (Att.noObjs s.heap) X.env.locals f ((D,ob) :: ([]++(a,({ cls:=.type "list",data:=.seq d.toArray n0 }:Obj)) :: Att.ledger s.heap X.env.locals a))->∀ b ob',b≠X.env.locals->s.heap.get? b=some ob'->f.get? b=some ob':=fun N2 b ob' B e=>(N2 (b,ob') (List.mem_cons_of_mem _ (q8 b ob' B e))).1;obtain⟨I2,q4⟩:=Xb3 (o0:=.lst []) (tk:=s.toks) I hm (q7 N') F'.ns o ⟨Nat.zero_le _,[],N,.nil,y0⟩;have j6:Paired (IsT X.K (upd H D (.lst []))) us ts:=Paired.mapP hT fun _ _ z=>z.keep (Zj8 q4);obtain⟨fs,g1,g2,g3⟩:=Zz6 I2 j6 U;refine W.kat_kind (T:=.type "str") g1 (by walk_at "o") (fun v hv=>?_) (by decide) ?_
    · obtain⟨x,t,rfl⟩:=g3 v hv
      exact fun A Q E s _ q=>wpAny_pure q
    have q5:∀ i,i < d.length->IsT X.K (upd H D (.lst [])) (us.getD i .non) (ts.getD i .low)/\RelV (us.getD i .non) (d.getD i .none)/\ts.getD i .low∈ts:=fun i g=>by
      obtain⟨t,e,z⟩:=paired_get j6 (List.getElem?_eq_getElem (show i < us.length by walk_at "o"))
      have N:us.getD i .non=us[i]:=by simp[show i < us.length by walk_at "o"]
      have e2:ts.getD i .low=t:=by simp[e]
      refine⟨by rw[N,e2];exact z,Yq0 U (by walk_at "o"),by rw[e2];exact List.mem_of_getElem? e⟩
    have O:WkOrd d.length (fun i j=>lexT (ts.getD i .low).spell (ts.getD j .low).spell):=by
      refine⟨fun x y z _ _ _ M f=>?_,fun x y _ _ h=>Zm3 h⟩;show lexT (ts.getD z .low).spell (ts.getD x .low).spell=false
      replace M:lexT (ts.getD y .low).spell (ts.getD x .low).spell=false:=M
      replace f:lexT (ts.getD z .low).spell (ts.getD y .low).spell=false:=f
      cases e:lexT (ts.getD z .low).spell (ts.getD x .low).spell with
      | false=>rfl
      | true =>
        exfalso
        by_cases exy:(ts.getD x .low).spell=(ts.getD y .low).spell
        · rw[exy] at e;rw[e] at f;cases f
        · rcases Yc1 exy with w | w
          · have:=Zi1 e w
            rw[this] at f;cases f
          · rw[w] at M;cases M
    refine Xe8 O (S:=fun s'=>s'={ s with heap:=h' }) (fun i j C s' g J j4 hs hC=>?_) (by walk_at "o") _ rfl fun p s' Z j9 hs=>?_
    · subst hs
      obtain⟨i1,i2,i3⟩:=q5 i g;obtain⟨j1,j2,j3⟩:=q5 j J;unfold W.kas_ask;obtain⟨pi,_,_,ei,_⟩:=Zx4 i1;obtain⟨pj,_,_,ej,_⟩:=Zx4 j1;rw[ei] at i1 i2;rw[ej] at j1 j2;have ri:d.getD i .none=.ref pi:=i2;have rj:d.getD j .none=.ref pj:=j2;rw[ri,rj]
      obtain⟨ox,oy,xs,ys,n,k,z1,z2,z3,z4,z5⟩:=Xb0 (A:=X.A.in1.in1) I2 i1 j1 (q0 _ i3).1 (q0 _ j3).1 (by
        have:=(q0 _ i3).2;show X.A.units+1+1+_+4 < cLine
        walk_at "o") (Q:=C) (hC _ rfl)
      exact W.kat_lt z1 z2 z3 z4 z5
    · subst hs
      have P:=Zg2 Z
      have pl:∀ i∈p.toList,i < d.length:=fun i g=>by
        have M:p.toList.Perm (List.range d.length):=by simpa using (Array.perm_iff_toList_perm.mp Z)
        simpa using M.mem_iff.mp g
      refine W.KasFin.intro F' N' (W.UpdF.head (fun x hx=>Nat.ne_of_lt (q3 x hx))) fun y6 c v0 j7=>?_
      have z0:Vals (p.toList.map fun i=>us.getD i .non) (p.toList.map fun i=>d.getD i .none):=by
        have y7:∀ G:List Nat,(∀ i∈G,i < us.length)->Vals (G.map fun i=>us.getD i .non) (G.map fun i=>d.getD i .none):=by
          intro G
          induction G with
          | nil=>intro _;exact .nil
          | cons i G ih=>intro h;exact .cons (Yq0 U (h i List.mem_cons_self)) (ih fun j J=>h j (List.mem_cons_of_mem _ J))
        exact y7 _ fun i g=>by have:=pl i g;walk_at "o"
      refine F y6 D c s.toks _ (p.toList.map fun i=>ts.getD i .low) _ (q7 j7) v0.ns o (j7 _ List.mem_cons_self).1 z0 ?_ (Zw4 hT fun i g=>by have:=pl i g;walk_at "o") ?_ ?_
      · rw[List.length_map,Array.length_toList,P.size];walk_at "o"
      · refine Xh1 ?_
        rw[show ts.length=d.length by walk_at "o"];exact Z
      · rw[List.pairwise_iff_getElem]
        intro i j g J j4;rw[List.length_map,Array.length_toList,P.size] at g J;have:=j9 i j j4 (by walk_at "o")
        have j5:i < p.size:=by rw[P.size];exact g
        have j0:j < p.size:=by rw[P.size];exact J
        have gi:gd p i=p.toList[i]'(by rw[Array.length_toList];exact j5):=Xq3 (by simp[j5]);have gj:gd p j=p.toList[j]'(by rw[Array.length_toList];exact j0):=Xq3 (by simp[j0]);rw[gi,gj] at this
        simpa using this
end
theorem Xj3 {xs:List V} (h:1<=xs.length):cutV xs none (some (-1))=xs.dropLast:=by
 show List.take ((if (-1:Int) < 0 then ((-1:Int)+(xs.length:Int)).toNat else min (-1:Int).toNat xs.length) - 0) (List.drop 0 xs)=_;rw[if_pos (by decide),List.drop_zero,List.dropLast_eq_take]
 congr 1
 walk_at "o"
theorem Yq7 {xs:List V} (h:1<=xs.length):cutV xs (some 1) none=xs.tail:=by
 show List.take (xs.length - (if (1:Int) < 0 then ((1:Int)+(xs.length:Int)).toNat else min (1:Int).toNat xs.length)) (List.drop (if (1:Int) < 0 then ((1:Int)+(xs.length:Int)).toNat else min (1:Int).toNat xs.length) xs)=_;rw[if_neg (by decide)]
 have:min (1:Int).toNat xs.length=1:=by
  show min 1 xs.length=1;walk_at "o"
 rw[this,List.drop_one,List.take_of_length_le (by rw[List.length_tail];walk_at "o")]
theorem Zi4:∀ {ds:List PyData},(∀ d∈ds,PyData.eqv d d=true)->PyData.eqvAll ds ds=true
 | [],_=>rfl
 | d :: ds,h=>by
  show (PyData.eqv d d&&PyData.eqvAll ds ds)=true;rw[h d List.mem_cons_self,Zi4 fun e he=>h e (List.mem_cons_of_mem _ he)];rfl
theorem Xg1 (x:Str):PyData.eqv (.str x) (.str x)=true:=by show (x == x)=true;simp
theorem Zp0 {ds:List PyData} {n:Nat} (h:∀ d∈ds,d.depth<=n):(PyData.list ds).depth<=n+1:=by
 show PyData.depthAll ds+1<=n+1
 have:PyData.depthAll ds<=n:=by
  induction ds with
  | nil=>exact Nat.zero_le _
  | cons d ds ih =>
   show max d.depth (PyData.depthAll ds)<=n;exact Nat.max_le.mpr ⟨h d List.mem_cons_self,ih fun e a=>h e (List.mem_cons_of_mem _ a)⟩
 walk_at "o"
end Ken
namespace L2
open PySem PySem.Spec PyProof.Rows
end L2
namespace Ken
open PySem L2
end Ken
namespace L2
open PySem PySem.Spec PyProof.Rows
end L2
namespace Ken
open PySem L2
theorem Zn6 {α:Type} {l:List α} {i:Nat} {x:α} (h:l[i]?=some x):l.take (i+1)=l.take i++[x]:=by
 rw[List.take_add_one,h];rfl
end Ken
namespace L2
open PySem
theorem Xp5 {K:W.Frag} {σ0:St} {a:Addr} {xs:List V} {acc:Addr} {g:TG} {te:TE} {Q:VK} {H:Hp} (Pv:Nat->List V->Hp->Prop) (h0:Pv 0 [] (upd H acc (.lst []))) (hl:∀ i ys H2,i<=xs.length->Pv i ys H2->H2 acc=some (.lst ys)/\ys.length < sizeLine/\SqL K H2 a xs)
  (hs:∀ i x ys H2,i < xs.length->xs[xs.length - 1 - i]?=some x->Pv i ys H2->∀ C:VK,(∀ y H5,H5 acc=some (.lst ys)->Pv (i+1) (ys++[y]) (upd H5 acc (.lst (ys++[y])))->C y H5)->g x σ0 H2 fun σ4 H4=>Wk σ0 σ4/\te σ4 H4 C) (hd:∀ ys H2,Pv xs.length ys H2->Q (.ref acc) H2) :
  ∃ W:Nat->Nat->List V->Hp->Prop,(∃ m,W 0 m [] (upd H acc (.lst [])))/\lcW K σ0 (Itv K a xs.length) acc g te Q W:=by
 refine⟨fun i m ys H2=>m=xs.length - i/\i<=xs.length/\Pv i ys H2,⟨xs.length,by simp,Nat.zero_le _,h0⟩,?_⟩;rintro i m ys H2 ⟨rfl,c,p⟩;obtain⟨h,f,q⟩:=hl i ys H2 c p;refine⟨h,f,?_⟩
 by_cases hlt:i < xs.length
 ·refine .inr ⟨⟨hlt,xs,xs[xs.length - 1 - i],q,List.getElem?_eq_getElem (by walk_at "o")⟩,fun x j y=>?_⟩
  obtain⟨e,y⟩:=y;subst e;exact hs i x ys j hlt (y xs q) p _ fun y H5 d b=>⟨d,xs.length - (i+1),by walk_at "o",rfl,hlt,b⟩
 ·have e:i=xs.length:=by walk_at "o"
  subst e;exact .inl ⟨rfl,hd _ _ p⟩
end L2
namespace Ken
open PySem L2
theorem Zu7 {xs:List V} {i:Nat} (h:i<=xs.length):cutV xs none (some (i:Int))=xs.take i:=by
 show List.take ((if (i:Int) < 0 then ((i:Int)+(xs.length:Int)).toNat else min (i:Int).toNat xs.length) - 0) (List.drop 0 xs)=_;rw[if_neg (by walk_at "o"),List.drop_zero]
 congr 1
 walk_at "o"
theorem Zi0 {α β:Type} {F:α->β->Prop}:∀ {l:List α} {m:List β},Paired F l m->∀ n,Paired F (l.take n) (m.take n)
 | _,_,.nil,n=>by rw[List.take_nil,List.take_nil];exact .nil
 | _,_,.cons h t,0=>by rw[List.take_zero,List.take_zero];exact .nil
 | _,_,.cons h t,n+1=>by rw[List.take_succ_cons,List.take_succ_cons];exact .cons h (Zi0 t n)
theorem Xf5 (ts:List Tm):PyData.eqv (.list (ts.map Tm.data)) (.list (ts.map Tm.data))=true:=Zi4 fun d a=>by
 obtain⟨x,_,rfl⟩:=List.mem_map.mp a;rw[Tm.eqv];exact decide_eq_true rfl
theorem Yd8 {ts:List Tm} {n:Nat} (h:∀ t∈ts,t.deep<=n):(PyData.list (ts.map Tm.data)).depth<=n+1:=Zp0 fun d b=>by
 obtain⟨x,a,rfl⟩:=List.mem_map.mp b;rw[Tm.depth];exact h x a
end Ken
namespace L2
open PySem PySem.Spec PyProof.Rows
section
variable {X:Cx}
def Zq0:V->List V->Hp->VK->Prop:=fun x vs H Q=>∃ (l:Addr) (xs:List V) (k:Nat) (y:V),x=.ref l/\vs=[.int (k:Nat),y]/\H l=some (.lst xs)/\k<=xs.length/\xs.length < 1000000/\Q .non (upd H l (.lst (xs.take k++y :: xs.drop k)))
theorem Yz7:MtM X "list.insert" Zq0:=by
 intro pins s σ H x vs v us Q I rx rv h;obtain⟨l,xs,k,y,rfl,rfl,hH,hk,hz,q⟩:=h;cases rx
 cases rv with
 | cons r1 rr =>
  cases rr with
  | cons r2 rr =>
   cases rr;obtain⟨t,rfl⟩:=r1;rename_i u2;obtain⟨z,its,n,r,hl,e⟩:=I.lstM hH;obtain⟨kk,hkk⟩:∃ kk:Int,((k:Nat):Int)=kk:=⟨_,rfl⟩;rw[hkk]
   have hfit:¬ (!Builtin.List.listFitsIndex kk)=true:=by
    have h1:(-(2 ^ 63:Int)<=kk):=by walk_at "o"
    have h2:kk < 2 ^ 63:=by walk_at "o"
    have h3:Builtin.List.listFitsIndex kk=true:=by
     show (decide _&&decide _)=true;rw[decide_eq_true h1,decide_eq_true h2];rfl
    rw[h3];decide
   have mt:=AutoSeq1.list_insert_list_int_val_1 l its.toArray n kk t u2 hfit (Nat.le_trans (Nat.le_of_eq (by rw[List.size_toArray,hl])) z);refine call_meets F.slot_list_insert ⟨_,e,rfl⟩ F.entry_list_insert (F.args_list_insert_3 _ _ _) mt ⟨e,?_⟩;refine⟨.non,_,I.lset (its':=its.take k++u2 :: its.drop k) hH e ?_ ((r.take k).append (.cons r2 (r.drop k))) ?_,rfl,q⟩
   ·show ((its.toArray.extract 0 (if kk < 0 then (kk+(its.toArray.size:Int)).toNat else min kk.toNat its.toArray.size)).push u2++its.toArray.extract (if kk < 0 then (kk+(its.toArray.size:Int)).toNat else min kk.toNat its.toArray.size))=_
    rw[if_neg (by walk_at "o"),show min kk.toNat its.toArray.size=k by rw[List.size_toArray];walk_at "o"];apply Array.ext';rw[Array.toList_append,Array.toList_push,Array.toList_extract,Array.toList_extract,List.append_assoc];simp[List.extract]
    try rw[List.take_of_length_le (by rw[List.length_drop];exact Nat.le_refl _)]
   ·rw[List.length_append,List.length_cons,List.length_take,List.length_drop]
    exact Nat.le_of_lt (Ken.small1M (by walk_at "o"))
end
end L2
namespace Ken
open PySem L2
open PyProof.Rows
theorem Zt2 {α β:Type} {F:α->β->Prop}:∀ {l:List α} {m:List β} {y:β},Paired F l (m++[y])->∃ l' x,l=l'++[x]/\Paired F l' m/\F x y
 | _,[],_,h=>by
  cases h with
  | cons hx t=>cases t;exact⟨[],_,rfl,.nil,hx⟩
 | _,z :: m,_,h=>by
  cases h with
  | cons hx t =>
   obtain⟨l',x,rfl,h1,h2⟩:=Zt2 t;exact⟨_ :: l',x,rfl,.cons hx h1,h2⟩
theorem Xc3 (xs:List V):cutV xs none (some (-1))=xs.dropLast:=by
 cases xs with
 | nil=>rfl
 | cons x r=>exact Xj3 (by rw[List.length_cons];walk_at "o")
theorem Xr9 {α:Type} [DecidableEq α] {lt:α->α->Bool} (asym:∀ a b,lt a b=true->lt b a=false):∀ {l m:List α},l.Pairwise (fun a b=>lt a b=true)->m.Pairwise (fun a b=>lt a b=true)->(∀ x,x∈l↔x∈m)->l=m
 | [],m,_,_,h=>by
  cases m with
  | nil=>rfl
  | cons y m=>exact absurd ((h y).mpr List.mem_cons_self) (by simp)
 | x :: l,[],_,_,h=>absurd ((h x).mp List.mem_cons_self) (by simp)
 | x :: l,y :: m,hl,hm,h=>by
  rw[List.pairwise_cons] at hl hm
  have e:x=y:=by
   by_cases e:x=y
   ·exact e
   have h1:x∈m:=((List.mem_cons.mp ((h x).mp List.mem_cons_self)).resolve_left e);have h2:y∈l:=((List.mem_cons.mp ((h y).mpr List.mem_cons_self)).resolve_left fun z=>e z.symm);have a1:=hm.1 x h1;have a2:=asym _ _ (hl.1 y h2);rw[a1] at a2;cases a2
  subst e
  have nx:∀ {k:List α},(∀ a∈k,lt x a=true)->x ∉ k:=fun hk z=>by
   have a1:=hk x z;have a2:=asym _ _ a1;rw[a1] at a2;cases a2
  rw[Xr9 asym hl.2 hm.2 fun z=>⟨fun hz=>((List.mem_cons.mp ((h z).mp (List.mem_cons_of_mem _ hz))).resolve_left fun e=>nx hl.1 (e▸hz)),fun hz=>((List.mem_cons.mp ((h z).mpr (List.mem_cons_of_mem _ hz))).resolve_left fun e=>nx hm.1 (e▸hz))⟩]
theorem Xr8 {l m:List Tm} (hl:Zd7 l) (hm:Zd7 m) (h:∀ x,x∈l↔x∈m):l=m:=by
 unfold Zd7 at hl hm;exact Xr9 (lt:=fun a b=>lexT a.spell b.spell) (fun a b z=>Zm3 z) hl hm h
end Ken
namespace L2
open PySem PySem.Spec PyProof.Rows Ken
end L2
namespace Ken
open PySem L2
noncomputable abbrev ltT (a b:Tm):Bool:=lexT a.spell b.spell
theorem Yl5 (a:Tm):ltT a a=false:=by
 cases e:ltT a a with
 | false=>rfl
 | true=>have:=Zm3 e;unfold ltT at e;rw[e] at this;exact this
theorem Yl4 {a b:Tm} (h:a≠b):ltT a b=true∨ltT b a=true:=Yc1 fun z=>h (Ye6 z)
theorem Xc8 (a b:Tm):cmpT a b < 0↔ltT a b=true:=by
 unfold cmpT
 by_cases e:a=b
 ·rw[if_pos e,e]
  constructor
  ·intro h;walk_at "o"
  ·intro h;rw[Yl5] at h;cases h
 ·rw[if_neg e]
  cases h:lexT a.spell b.spell with
  | true=>rw[if_pos rfl];exact⟨fun _=>h,fun _=>by decide⟩
  | false=>rw[if_neg (by decide)];exact⟨fun z=>absurd z (by decide),fun z=>by unfold ltT at z;rw[h] at z;cases z⟩
theorem Ya3 (a b:Tm):cmpT a b=0↔a=b:=by
 unfold cmpT
 by_cases e:a=b
 ·rw[if_pos e];exact⟨fun _=>e,fun _=>rfl⟩
 ·rw[if_neg e]
  refine⟨fun z=>?_,fun z=>absurd z e⟩
  split at z<;>walk_at "o"
noncomputable def insT (t:Tm):List Tm->List Tm
 | []=>[t]
 | x :: l=>if t=x then x :: l else if ltT t x=true then t :: x :: l else x :: insT t l
theorem mem_insT {t x:Tm}:∀ {l:List Tm},x∈insT t l↔x=t∨x∈l
 | []=>by simp[insT]
 | y :: l=>by
  unfold insT
  by_cases e:t=y
  ·rw[if_pos e,e]
   simp
  ·rw[if_neg e]
   by_cases h:ltT t y=true
   ·rw[if_pos h];simp
   ·rw[if_neg h,List.mem_cons,mem_insT,List.mem_cons]
    constructor
    ·rintro (z | z | z)
     ·exact .inr (.inl z)
     ·exact .inl z
     ·exact .inr (.inr z)
    ·rintro (z | z | z)
     ·exact .inr (.inl z)
     ·exact .inl z
     ·exact .inr (.inr z)
theorem Zw2 {t:Tm}:∀ {l:List Tm},Zd7 l->Zd7 (insT t l)
 | [],_=>List.pairwise_singleton _ _
 | y :: l,h=>by
  have h':=List.pairwise_cons.mp h;unfold insT
  by_cases e:t=y
  ·rw[if_pos e];exact h
  ·rw[if_neg e]
   by_cases hl:ltT t y=true
   ·rw[if_pos hl]
    refine List.pairwise_cons.mpr ⟨fun x hx=>?_,h⟩;rcases List.mem_cons.mp hx with z | z
    ·rw[z];exact hl
    ·exact Zi1 hl (h'.1 x z)
   ·rw[if_neg hl]
    refine List.pairwise_cons.mpr ⟨fun x hx=>?_,Zw2 h'.2⟩;rcases mem_insT.mp hx with z | z
    ·rw[z];exact (Yl4 e).resolve_left hl
    ·exact h'.1 x z
noncomputable def norm (l:List Tm):List Tm:=l.foldr insT []
theorem mem_norm {l:List Tm} {x:Tm}:x∈norm l↔x∈l:=by
 unfold norm
 induction l with
 | nil=>simp
 | cons y l ih=>rw[List.foldr_cons,mem_insT,ih,List.mem_cons]
theorem Zc9 (l:List Tm):Zd7 (norm l):=by
 unfold norm
 induction l with
 | nil=>exact .nil
 | cons y l ih=>rw[List.foldr_cons];exact Zw2 ih
theorem Zm1 {os l:List Tm} (h:Zd7 os) (hm:∀ x,x∈os↔x∈l):os=norm l:=Xr8 h (Zc9 l) fun x=>by rw[hm x,mem_norm]
theorem Ys7 {l m:List Tm} (h:∀ x,x∈l↔x∈m):norm l=norm m:=Zm1 (Zc9 l) fun x=>by rw[mem_norm];exact h x
theorem Zo8 {l:List Tm} (h:Zd7 l):l.Nodup:=by
 have c:l.Pairwise (fun a b=>lexT a.spell b.spell=true):=h;refine c.imp fun {a b} h z=>?_;have:=Yl5 b;unfold ltT at this;rw[z,this] at h;cases h
noncomputable def rem (ws:List Tm) (o:Tm):List Tm:=ws.filter fun x=>decide (x≠o)
theorem mem_rem {ws:List Tm} {o x:Tm}:x∈rem ws o↔x∈ws/\x≠o:=by unfold rem;rw[List.mem_filter,decide_eq_true_iff]
theorem Zl5 {ws:List Tm} {o:Tm} (h:Zd7 ws):Zd7 (rem ws o):=List.Pairwise.filter _ h
noncomputable def plc (ws:List Tm) (t:Tm):Nat:=(ws.filter fun x=>ltT x t).length
theorem Zr4 {t:Tm}:∀ {ws:List Tm},Zd7 ws->(∀ i x,i < plc ws t->ws[i]?=some x->ltT x t=true)/\(∀ i x,plc ws t<=i->ws[i]?=some x->ltT x t=false)/\plc ws t<=ws.length
 | [],_=>⟨fun i x h=>absurd h (Nat.not_lt_zero _),fun i x _ h=>by simp at h,Nat.le_refl _⟩
 | y :: l,h=>by
  have h':=List.pairwise_cons.mp h;obtain⟨g1,g2,g3⟩:=Zr4 (t:=t) h'.2
  cases e:ltT y t with
  | true =>
   have ep:plc (y :: l) t=plc l t+1:=by unfold plc;rw[List.filter_cons,if_pos e];rfl
   rw[ep];refine⟨fun i x hi hx=>?_,fun i x hi hx=>?_,by rw[List.length_cons];walk_at "o"⟩
   ·cases i with
    | zero=>cases hx;exact e
    | succ i=>exact g1 i x (by walk_at "o") hx
   ·cases i with
    | zero=>walk_at "o"
    | succ i=>exact g2 i x (by walk_at "o") hx
  | false =>
   have all:∀ x∈y :: l,ltT x t=false:=fun x hx=>by
    rcases List.mem_cons.mp hx with z | z
    ·rw[z];exact e
    ·cases e2:ltT x t with
     | false=>rfl
     | true=>have:=Zi1 (h'.1 x z) e2;unfold ltT at e;rw[this] at e;cases e
   have ep:plc (y :: l) t=0:=by
    unfold plc;rw[List.length_eq_zero_iff,List.filter_eq_nil_iff]
    exact fun x hx=>by rw[all x hx];decide
   rw[ep];exact⟨fun i x hi=>absurd hi (Nat.not_lt_zero _),fun i x _ hx=>all x (List.mem_of_getElem? hx),Nat.zero_le _⟩
theorem Xk9 {ws:List Tm} {t:Tm} {m:Nat} (h:Zd7 ws) (hm:m<=ws.length) (h1:∀ i x,i < m->ws[i]?=some x->ltT x t=true) (h2:∀ i x,m<=i->ws[i]?=some x->ltT x t=false):plc ws t=m:=by
 obtain⟨d,c,e⟩:=Zr4 (t:=t) h;rcases Nat.lt_trichotomy (plc ws t) m with z | z | z
 ·have a:plc ws t < ws.length:=by walk_at "o"
  have b:=h1 _ _ z (List.getElem?_eq_getElem a);rw[c _ _ (Nat.le_refl _) (List.getElem?_eq_getElem a)] at b;cases b
 ·exact z
 ·have a:m < ws.length:=by walk_at "o"
  have b:=d _ _ z (List.getElem?_eq_getElem a);rw[h2 _ _ (Nat.le_refl _) (List.getElem?_eq_getElem a)] at b;cases b
theorem Zq3 {ws:List Tm} {t:Tm} (h:Zd7 ws):t∈ws↔ws[plc ws t]?=some t:=by
 refine⟨fun g=>?_,fun z=>List.mem_of_getElem? z⟩;obtain⟨i,c,e⟩:=List.getElem_of_mem g;have:plc ws t=i:=Xk9 h (by walk_at "o") (fun j x f b=>?_) (fun j x f b=>?_)
 ·rw[this,List.getElem?_eq_getElem c,e]
 ·obtain⟨d,a⟩:=List.getElem?_eq_some_iff.mp b
  have:=List.pairwise_iff_getElem.mp h j i d c f;rw[a,e] at this;exact this
 ·obtain⟨d,a⟩:=List.getElem?_eq_some_iff.mp b
  rcases Nat.lt_or_ge i j with z | z
  ·have:=List.pairwise_iff_getElem.mp h i j c d z
   rw[a,e] at this;exact Zm3 this
  ·have:j=i:=by walk_at "o"
   subst this;rw[e] at a;rw[<- a];exact Yl5 _
theorem Xq9 {ws:List Tm} {t:Tm} (h:Zd7 ws) (hm:t∈ws):ws.take (plc ws t)++ws.drop (plc ws t+1)=rem ws t:=by
 have j:=(Zq3 h).mp hm;obtain⟨i,e⟩:=List.getElem?_eq_some_iff.mp j
 have c:(ws.take (plc ws t)++ws.drop (plc ws t+1)).Sublist ws:=by
  conv=>rhs;rw[<- List.take_append_drop (plc ws t) ws]
  refine List.Sublist.append_left ?_ _;rw[List.drop_eq_getElem_cons i];exact List.sublist_cons_self _ _
 refine Xr8 (List.Pairwise.sublist c h) (Zl5 h) fun x=>?_
 have f:ws=ws.take (plc ws t)++t :: ws.drop (plc ws t+1):=by
  conv=>lhs;rw[<- List.take_append_drop (plc ws t) ws,List.drop_eq_getElem_cons i,e]
 have d:=Zo8 h;rw[f] at d;have b:=List.nodup_append.mp d;rw[mem_rem];constructor
 ·intro a
  refine⟨c.subset a,fun z=>?_⟩;subst z;rcases List.mem_append.mp a with y | y
  ·exact b.2.2 x y x List.mem_cons_self rfl
  ·exact (List.nodup_cons.mp b.2.1).1 y
 ·rintro⟨a,g⟩
  rw[f] at a;rcases List.mem_append.mp a with y | y
  ·exact List.mem_append_left _ y
  ·rcases List.mem_cons.mp y with z | z
   ·exact absurd z g
   ·exact List.mem_append_right _ z
theorem Wc7 {ws:List Tm} {t:Tm} (h:Zd7 ws) (hm:¬ t∈ws):Zd7 (ws.take (plc ws t)++t :: ws.drop (plc ws t)):=by
 obtain⟨m,l,n⟩:=Zr4 (t:=t) h
 have k:(ws.take (plc ws t)++ws.drop (plc ws t)).Pairwise (fun a b=>lexT a.spell b.spell=true):=by rw[List.take_append_drop];exact h
 have d:=List.pairwise_append.mp k
 have left:∀ x∈ws.take (plc ws t),ltT x t=true:=fun x c=>by
  obtain⟨i,f,e⟩:=List.getElem_of_mem c;rw[List.length_take] at f;exact m i x (by walk_at "o") (by rw[List.getElem_take] at e;rw[List.getElem?_eq_getElem (by walk_at "o"),e])
 have right:∀ x∈ws.drop (plc ws t),ltT t x=true:=fun x c=>by
  obtain⟨i,f,e⟩:=List.getElem_of_mem c;rw[List.length_drop] at f;rw[List.getElem_drop] at e;have:=l (plc ws t+i) x (by walk_at "o") (by rw[List.getElem?_eq_getElem (by walk_at "o"),e]);have g:t≠x:=fun z=>hm (by rw[z,<- e];exact List.getElem_mem _);rcases Yl4 g with y | y
  ·exact y
  ·rw[this] at y;cases y
 refine List.pairwise_append.mpr ⟨d.1,List.pairwise_cons.mpr ⟨fun x c=>right x c,d.2.1⟩,fun x c y j=>?_⟩;rcases List.mem_cons.mp j with z | z
 ·rw[z];exact left x c
 ·exact d.2.2 x c y z
inductive Rl where
 | wish | low | both | first | second | thn | parts | cases | known | curried | either | idle | chain | use
 deriving DecidableEq
noncomputable def Rl.str:Rl->Str
 | .wish=>"wish" | .low=>"low" | .both=>"both" | .first=>"first" | .second=>"second" | .thn=>"then" | .parts=>"parts" | .cases=>"cases" | .known=>"known" | .curried=>"curried" | .either=>"either" | .idle=>"idle" | .chain=>"chain" | .use=>"use"
noncomputable abbrev Nd:=List Tm×Tm
noncomputable def Zp3 (ws:List Tm) (g:Tm):Rl->Option (List Nd)
 | .wish=>if g∈ws then some [] else none
 | .low=>if Tm.low∈ws then some [] else none
 | .both=>match g with
  | .nd .both a b=>some [(ws,a),(ws,b)]
  | _=>none
 | .first=>match g with
  | .nd .one a _=>some [(ws,a)]
  | _=>none
 | .second=>match g with
  | .nd .one _ b=>some [(ws,b)]
  | _=>none
 | .thn=>match g with
  | .nd .thn a b=>some [(norm (ws++[a]),b)]
  | _=>none
 | _=>none
noncomputable def Zn5 (ws:List Tm) (g o:Tm):Rl->Option (List Nd)
 | .parts=>match o with
  | .nd .both a b=>some [(norm (rem ws o++[a,b]),g)]
  | _=>none
 | .cases=>match o with
  | .nd .one a b=>some [(norm (rem ws o++[a]),g),(norm (rem ws o++[b]),g)]
  | _=>none
 | .known=>match o with
  | .nd .thn a b=>if a∈ws then some [(norm (rem ws o++[b]),g)] else none
  | _=>none
 | .curried=>match o with
  | .nd .thn (.nd .both a b) c=>some [(norm (rem ws o++[.nd .thn a (.nd .thn b c)]),g)]
  | _=>none
 | .either=>match o with
  | .nd .thn (.nd .one a b) c=>some [(norm (rem ws o++[.nd .thn a c,.nd .thn b c]),g)]
  | _=>none
 | .idle=>match o with
  | .nd .thn .low _=>some [(norm (rem ws o),g)]
  | _=>none
 | .chain=>match o with
  | .nd .thn (.nd .thn a b) c=>some [(norm (rem ws o++[.nd .thn b c]),.nd .thn a b),(norm (rem ws o++[c]),g)]
  | _=>none
 | .use=>match o with
  | .nd .thn a b=>some [(ws,a),(norm (ws++[b]),g)]
  | _=>none
 | _=>none
structure IsW (K:W.Frag) (H:Hp) (a:Addr) (ws:List Tm):Prop where
 at_:∃ us,H a=some (.lst us)/\Paired (IsT K H) us ws
 rise:Zd7 ws
theorem IsW.keep {K:W.Frag} {H H':Hp} (e:Same H H') {a:Addr} {ws:List Tm} (h:IsW K H a ws):IsW K H' a ws:=by
 obtain⟨⟨b,f,d⟩,c⟩:=h;exact⟨⟨b,e _ _ f,Paired.mapP d fun _ _ z=>z.keep e.keepT⟩,c⟩
def Okw (ws:List Tm):Prop:=∀ t∈ws,t.ok/\t.parts<=100
def Zt9 (K:W.Frag):Sp:=fun vs H Q _=>∃ (a:Addr) (v:V) (ws:List Tm) (t:Tm),vs=[.ref a,v]/\IsW K H a ws/\IsT K H v t/\Okw ws/\t.ok/\ws.length<=1000 /\
 ∀ H',Same H H'->Q (.int (plc ws t:Nat)) H'
def Zo7 (K:W.Frag):Sp:=fun vs H Q _=>∃ (a:Addr) (v:V) (ws:List Tm) (t:Tm),vs=[.ref a,v]/\IsW K H a ws/\IsT K H v t/\Okw ws/\t.ok/\ws.length<=1000 /\
 ∀ H',Same H H'->Q (.bl (decide (t∈ws))) H'
def Zg9 (K:W.Frag):Sp:=fun vs H Q _=>∃ (a:Addr) (v:V) (ws:List Tm) (t:Tm),vs=[.ref a,v]/\IsW K H a ws/\IsT K H v t/\Okw ws/\t∈ws/\ws.length<=1000 /\
 ∀ (r:Addr) (H':Hp),Same H H'->H r=none->IsW K H' r (rem ws t)->Q (.ref r) H'
def Zm9 (K:W.Frag):Sp:=fun vs H Q _=>∃ (a b:Addr) (ws:List Tm) (us:List V) (ts:List Tm),vs=[.ref a,.ref b]/\IsW K H a ws/\H b=some (.lst us)/\Paired (IsT K H) us ts/\Okw ws/\Okw ts/\ws.length+ts.length<=1000 /\
 ∀ (r:Addr) (H':Hp),Same H H'->H r=none->IsW K H' r (norm (ws++ts))->Q (.ref r) H'
theorem Zn1 {K:W.Frag} {H:Hp} {v:V} {t:Tm} (h:IsT K H v t):∃ p x xs A,v=.ref p/\SqT K H p (.str x :: xs)/\t.spell=x :: A:=by
 cases t with
 | low=>obtain⟨p,e,c⟩:=isT_low.mp h;exact⟨p,_,_,[],e,c,rfl⟩
 | ltr y=>obtain⟨p,e,c⟩:=isT_ltr.mp h;exact⟨p,_,_,[y],e,c,rfl⟩
 | nd k a b=>obtain⟨p,x,y,e,c,_⟩:=isT_nd.mp h;exact⟨p,_,_,_,e,c,Zc3 k a b⟩
noncomputable def sumF (ps:List (Tm×Tm)):Nat:=(ps.map fun p=>p.1.parts).sum
theorem Zh1 (p:Tm×Tm) (ps:List (Tm×Tm)):sumF (p :: ps)=p.1.parts+sumF ps:=by unfold sumF;rw[List.map_cons,List.sum_cons]
theorem Yp6:∀ ps:List (Tm×Tm),ps.length<=sumF ps
 | []=>Nat.le_refl _
 | p :: ps=>by rw[Zh1,List.length_cons];have:=Yp6 ps;have:=p.1.parts_pos;walk_at "o"
theorem at0 (x:V) (xs:List V):atI (x :: xs) 0=some x:=show atI (x :: xs) ((0:Nat):Int)=some x from Zd5 rfl
noncomputable abbrev ONd:=Addr×Nd
def IsNdO (K:W.Frag) (H:Hp) (v:V) (o:ONd):Prop:=∃ p gv,v=.ref p/\SqT K H p [.ref o.1,gv]/\IsW K H o.1 o.2.1/\IsT K H gv o.2.2
theorem IsNdO.keep {K:W.Frag} {H H':Hp} (e:Same H H') {v:V} {o:ONd} (h:IsNdO K H v o):IsNdO K H' v o:=by
 obtain⟨p,d,f,c,b,a⟩:=h;exact⟨p,d,f,e.sqt c,b.keep e,a.keep e.keepT⟩
def IsNds (K:W.Frag) (H:Hp) (na:Addr) (os:List ONd):Prop:=∃ vs,H na=some (.lst vs)/\Paired (IsNdO K H) vs os
theorem IsNds.keep {K:W.Frag} {H H':Hp} (e:Same H H') {na:Addr} {os:List ONd} (h:IsNds K H na os):IsNds K H' na os:=by
 obtain⟨a,c,b⟩:=h;exact⟨a,e _ _ c,Paired.mapP b fun _ _ z=>z.keep e⟩
def NdsQ (K:W.Frag) (H:Hp) (Q:VK) (nds:List Nd):Prop:=∀ (na:Addr) (H':Hp) (os:List ONd),Same H H'->H na=none->IsNds K H' na os->os.map (·.2)=nds->(∀ o∈os,H o.1=none)->(na :: os.map (·.1)).Nodup->Q (.ref na) H'
theorem Yp1 {K:W.Frag} {H H1:Hp} {Q:VK} (q:NdsQ K H Q []) (e:Same H H1) {na:Addr} (hna:H1 na=none):Q (.ref na) (upd H1 na (.lst [])) :=
 q na _ [] (e.trans (Za1 hna _)) (e.free hna) ⟨[],Za3,.nil⟩ rfl (fun _ h=>by simp at h) (by simp)
theorem Zk6 {K:W.Frag} {H H1:Hp} {Q:VK} {ws:List Tm} {g:Tm} (q:NdsQ K H Q [(ws,g)]) (e:Same H H1) {wl p na:Addr} {gv:V} (hw:IsW K H1 wl ws) (fw:H wl=none) (hg:IsT K H1 gv g) (hp:H1 p=none) (hna:upd H1 p (.tup [.ref wl,gv]) na=none) :
  Q (.ref na) (upd (upd H1 p (.tup [.ref wl,gv])) na (.lst [.ref p])):=by
 have a:=Za1 hp (HO.tup [.ref wl,gv]);have b:=Za1 hna (HO.lst [.ref p]);have S:=a.trans b;refine q na _ [(wl,ws,g)] (e.trans S) ((e.trans a).free hna) ⟨_,Za3,.cons ⟨p,gv,rfl,b.sqt (.inl (.inl Za3)),hw.keep S,hg.keep S.keepT⟩ .nil⟩ rfl (fun o h=>by rw[List.mem_singleton.mp h];exact fw) ?_
 have:na≠wl:=fun z=>by
  obtain⟨⟨d,c,_⟩,_⟩:=hw.keep a;rw[z,c] at hna;cases hna
 simp[this]
theorem Zu2 {K:W.Frag} {H H1 H2:Hp} {Q:VK} {ws ws':List Tm} {g g':Tm} (q:NdsQ K H Q [(ws,g),(ws',g')]) (e:Same H H1) {wl wl' p p' na:Addr} {gv gv':V} (hw:IsW K H1 wl ws) (fw:H wl=none) (hg:IsT K H1 gv g) (hp:H1 p=none)
  (e2:Same (upd H1 p (.tup [.ref wl,gv])) H2) (hw':IsW K H2 wl' ws') (fw':upd H1 p (.tup [.ref wl,gv]) wl'=none) (hg':IsT K H2 gv' g') (hp':H2 p'=none) (hna:upd H2 p' (.tup [.ref wl',gv']) na=none) :
  Q (.ref na) (upd (upd H2 p' (.tup [.ref wl',gv'])) na (.lst [.ref p,.ref p'])):=by
 have a:=Za1 hp (HO.tup [.ref wl,gv]);have d:=Za1 hp' (HO.tup [.ref wl',gv']);have j:=Za1 hna (HO.lst [.ref p,.ref p']);have c:=d.trans j;have f:=e2.trans c;have S:=a.trans f;have n:=(e.trans a).free fw';refine q na _ [(wl,ws,g),(wl',ws',g')] (e.trans S) ((e.trans (a.trans (e2.trans d))).free hna) ⟨_,Za3,.cons ⟨p,gv,rfl,f.sqt (.inl (.inl Za3)),hw.keep S,hg.keep S.keepT⟩ (.cons ⟨p',gv',rfl,j.sqt (.inl (.inl Za3)),hw'.keep c,hg'.keep c.keepT⟩ .nil)⟩ rfl (fun o h=>?_) ?_
 ·rcases List.mem_cons.mp h with z | z
  ·rw[z];exact fw
  ·rw[List.mem_singleton.mp z];exact n
 ·have m:na≠wl:=fun z=>by
   obtain⟨⟨i,b,_⟩,_⟩:=hw.keep (a.trans (e2.trans d));rw[z,b] at hna;cases hna
  have l:na≠wl':=fun z=>by
   obtain⟨⟨i,b,_⟩,_⟩:=hw'.keep d;rw[z,b] at hna;cases hna
  have k:wl≠wl':=fun z=>by
   obtain⟨⟨i,b,_⟩,_⟩:=hw.keep a;rw[<- z,b] at fw';cases fw'
  simp[m,l,k]
noncomputable def Xh8 (r:Rl) (ws:List Tm) (g:Tm) (on:Option Tm):Option (List Nd):=match on with
 | none=>Zp3 ws g r
 | some o=>Zn5 ws g o r
def OnV (K:W.Frag) (H:Hp) (ws:List Tm) (v:V):Option Tm->Prop
 | none=>v=.non
 | some o=>IsT K H v o/\o∈ws
noncomputable def Rl.noOn:Rl->Bool
 | .wish | .low | .both | .first | .second | .thn=>true
 | _=>false
def Zp9 (K:W.Frag) (r:Rl):Sp:=fun vs H Q _=>∃ (wa:Addr) (gv ov:V) (ws:List Tm) (g:Tm) (on:Option Tm),vs=[.ref wa,gv,ov]/\IsW K H wa ws/\IsT K H gv g/\OnV K H ws ov on/\r.noOn=on.isNone/\Okw ws/\g.ok/\g.parts<=100/\ws.length<=900 /\
 (Xh8 r ws g on=none->∀ H',Same H H'->Q .non H')/\(∀ nds,Xh8 r ws g on=some nds->NdsQ K H Q nds)
def Zw1 (K:W.Frag):Sp:=fun vs H Q _=>∃ (v:V) (t:Tm) (x:Str),vs=[v,.str x]/\IsT K H v t/\Q (.bl (match t with
 | .nd .thn a _=>decide (a.spell.head?=some x)
 | _=>false)) H
end Ken
namespace L2
open PySem PySem.Spec PyProof.Rows
section
variable {X:Cx}
def Zv5 {ι:Type} (i:Nat) (f:ι->Addr) (sp:ι->Sp) (t:TA):TE:=fun σ H Q=>∃ r,σ[i]?=some (some (.ref (f r)))/\t σ H fun vs H1=>sp r vs H1 Q (fun _ _ _=>False)
theorem Xh5 {ι:Type} {k:Nat} {f:ι->Addr} {fd:ι->FuncData} {ps:List Str} {sp:ι->Sp} {x:Str} {p pos:Pos} {e:Expr} {es:List Expr} {t:TA} {i:Nat} (F:∀ r,FnOk X.prog X.w X.K X.mg X.base (fun _ _ _ _ _ _=>False) k (f r) (fd r) ps (sp r)) (hr:Room k X.A) (hN:X.N[i]?=some x) (hk:∀ r,W.keepIn X.K (.ref (f r))=true) (hb:∀ r,Binds X.K (fd r) ps [])
  (ha:PA X (e :: es) t) (hv:Vis X.env.scope x:=by first | exact .inl rfl | exact .inr (.inl rfl) | exact .inr (.inr rfl)) (hdb:(x == ("__debug__":Str))=false:=by decide) (hcd:(x == ("__classdict__":Str))=false:=by decide) (he:starEach (e :: es) X.env=(false,eval e X.env) :: starEach es X.env:=by rfl) (hpl:(backTo pos (starEach es X.env)).any (·.1)=false:=by rfl) :
  PE X (.Call (.Name x p) (e :: es) [] pos) (Zv5 i f sp t):=by
 intro a s b H Q I h;obtain⟨r,g,d⟩:=h;refine Xh6 (F r) hr hN hv (hk r) (hb r) .nil (E:=fun _ _ _=>False) (fun a b H s e l _ z=>z.elim) ha hdb hcd he hpl a s b H Q I ⟨g,?_⟩;show t b H fun c j=>sp r (c++[]) j Q _;simp only[List.append_nil];exact d
end
end L2
namespace Ken
open PySem L2
theorem Yw9 {H H':Hp} (e:Same H H') {a:Addr} (h:H a≠none):H' a≠none:=by
 cases z:H a with
 | none=>exact absurd z h
 | some o=>rw[e a o z];exact fun y=>nomatch y
noncomputable def all14:List Rl:=[.wish,.low,.both,.first,.second,.thn,.parts,.cases,.known,.curried,.either,.idle,.chain,.use]
theorem Yb6 {l:List Tm}:(norm l).length<=l.length:=Zi7 (Zo8 (Zc9 _)) fun _ h=>mem_norm.mp h
theorem Zs3 {ws:List Tm} {o:Tm} (hn:ws.Nodup) (h:o∈ws):(rem ws o).length+1<=ws.length:=by
 have:(o :: rem ws o).length<=ws.length:=Zi7 (List.nodup_cons.mpr ⟨fun z=>(mem_rem.mp z).2 rfl,hn.filter _⟩) fun x a=>(List.mem_cons.mp a).elim (fun z=>z▸h) fun z=>(mem_rem.mp z).1;rw[List.length_cons] at this;exact this
structure NdOk (ws:List Tm) (n:Nd):Prop where
 ok:Okw n.1
 gok:n.2.ok/\n.2.parts<=100
 rise:Zd7 n.1
 len:n.1.length<=ws.length+1
theorem Yz3 {r:Rl} {ws:List Tm} {g:Tm} {on:Option Tm} {nds:List Nd} (hs:Zd7 ws) (hok:Okw ws) (gk:g.ok/\g.parts<=100) (hon:∀ o,on=some o->o∈ws) (h:Xh8 r ws g on=some nds):∀ n∈nds,NdOk ws n:=by
 have hnd:=Zo8 hs;have pl:∀ {t:Tm},t.ok/\t.parts<=100->NdOk ws (ws,t):=fun ht=>⟨hok,ht,hs,Nat.le_succ _⟩
 have kid:∀ {k:Kd} {a b:Tm},(Tm.nd k a b).ok/\(Tm.nd k a b).parts<=100->(a.ok/\a.parts<=100)/\(b.ok/\b.parts<=100):=fun {k a b} ht=>by
  have h1:1+a.parts+b.parts<=100:=ht.2;exact⟨⟨ht.1.1,by walk_at "o"⟩,⟨ht.1.2,by walk_at "o"⟩⟩
 have nm:∀ {l:List Tm} {t:Tm},(∀ x∈l,x.ok/\x.parts<=100)->l.length<=ws.length+1->t.ok/\t.parts<=100->NdOk ws (norm l,t):=fun hl hlen ht=>⟨fun x hx=>hl x (mem_norm.mp hx),ht,Zc9 _,Nat.le_trans Yb6 hlen⟩
 cases on with
 | none =>
  have h':Zp3 ws g r=some nds:=h
  cases r with
  | wish=>simp only[Zp3] at h';split at h'<;>cases h';intro n hn;simp at hn
  | low=>simp only[Zp3] at h';split at h'<;>cases h';intro n hn;simp at hn
  | both =>
   simp only[Zp3] at h'
   split at h'
   ·cases h'
    intro n hn;rcases List.mem_cons.mp hn with z | z
    ·rw[z];exact pl (kid gk).1
    ·rw[List.mem_singleton.mp z];exact pl (kid gk).2
   ·cases h'
  | first =>
   simp only[Zp3] at h'
   split at h'
   ·cases h';intro n hn;rw[List.mem_singleton.mp hn];exact pl (kid gk).1
   ·cases h'
  | second =>
   simp only[Zp3] at h'
   split at h'
   ·cases h';intro n hn;rw[List.mem_singleton.mp hn];exact pl (kid gk).2
   ·cases h'
  | thn =>
   simp only[Zp3] at h'
   split at h'
   ·cases h';intro n hn;rw[List.mem_singleton.mp hn]
    refine nm (fun x hx=>?_) (by rw[List.length_append];exact Nat.le_refl _) (kid gk).2;rcases List.mem_append.mp hx with z | z
    ·exact hok x z
    ·rw[List.mem_singleton.mp z];exact (kid gk).1
   ·cases h'
  | _=>cases h'
 | some o =>
  have ho:=hon o rfl;have oo:=hok o ho;have hl:=Zs3 hnd ho;have h':Zn5 ws g o r=some nds:=h
  have one:∀ {x t:Tm},x.ok/\x.parts<=100->t.ok/\t.parts<=100->NdOk ws (norm (rem ws o++[x]),t):=fun {x t} hx ht=>nm (fun y hy=>by
   rcases List.mem_append.mp hy with z | z
   ·exact hok y (mem_rem.mp z).1
   ·rw[List.mem_singleton.mp z];exact hx) (by rw[List.length_append];show _+1<=_;walk_at "o") ht
  have two:∀ {x y t:Tm},x.ok/\x.parts<=100->y.ok/\y.parts<=100->t.ok/\t.parts<=100->NdOk ws (norm (rem ws o++[x,y]),t):=fun {x y t} hx hy ht=>nm (fun w hw=>by
   rcases List.mem_append.mp hw with z | z
   ·exact hok w (mem_rem.mp z).1
   ·rcases List.mem_cons.mp z with z | z
    ·rw[z];exact hx
    ·rw[List.mem_singleton.mp z];exact hy) (by rw[List.length_append];show _+2<=_;walk_at "o") ht
  cases r with
  | parts =>
   simp only[Zn5] at h'
   split at h'
   ·cases h';intro n hn;rw[List.mem_singleton.mp hn];exact two (kid oo).1 (kid oo).2 gk
   ·cases h'
  | cases =>
   simp only[Zn5] at h'
   split at h'
   ·cases h'
    intro n hn;rcases List.mem_cons.mp hn with z | z
    ·rw[z];exact one (kid oo).1 gk
    ·rw[List.mem_singleton.mp z];exact one (kid oo).2 gk
   ·cases h'
  | known =>
   simp only[Zn5] at h'
   split at h'
   ·split at h'
    ·cases h';intro n hn;rw[List.mem_singleton.mp hn];exact one (kid oo).2 gk
    ·cases h'
   ·cases h'
  | curried =>
   simp only[Zn5] at h'
   split at h'
   ·rename_i x y c
    cases h';intro n hn;rw[List.mem_singleton.mp hn];have h1:1+(1+x.parts+y.parts)+c.parts<=100:=oo.2;exact one ⟨⟨oo.1.1.1,oo.1.1.2,oo.1.2⟩,by show 1+x.parts+(1+y.parts+c.parts)<=100;walk_at "o"⟩ gk
   ·cases h'
  | either =>
   simp only[Zn5] at h'
   split at h'
   ·rename_i x y c
    cases h';intro n hn;rw[List.mem_singleton.mp hn];have h1:1+(1+x.parts+y.parts)+c.parts<=100:=oo.2;exact two ⟨⟨oo.1.1.1,oo.1.2⟩,by show 1+x.parts+c.parts<=100;walk_at "o"⟩ ⟨⟨oo.1.1.2,oo.1.2⟩,by show 1+y.parts+c.parts<=100;walk_at "o"⟩ gk
   ·cases h'
  | idle =>
   simp only[Zn5] at h'
   split at h'
   ·cases h';intro n hn;rw[List.mem_singleton.mp hn]
    exact nm (fun x hx=>hok x (mem_rem.mp hx).1) (by walk_at "o") gk
   ·cases h'
  | chain =>
   simp only[Zn5] at h'
   split at h'
   ·rename_i x y c
    cases h';have h1:1+(1+x.parts+y.parts)+c.parts<=100:=oo.2;intro n hn;rcases List.mem_cons.mp hn with z | z
    ·rw[z];exact one ⟨⟨oo.1.1.2,oo.1.2⟩,by show 1+y.parts+c.parts<=100;walk_at "o"⟩ ⟨oo.1.1,by show 1+x.parts+y.parts<=100;walk_at "o"⟩
    ·rw[List.mem_singleton.mp z];exact one (kid oo).2 gk
   ·cases h'
  | use =>
   simp only[Zn5] at h'
   split at h'
   ·rename_i a b
    cases h';intro n hn;rcases List.mem_cons.mp hn with z | z
    ·rw[z];exact pl (kid oo).1
    ·rw[List.mem_singleton.mp z]
     refine nm (fun x hx=>?_) (by rw[List.length_append];exact Nat.le_refl _) gk;rcases List.mem_append.mp hx with z | z
     ·exact hok x z
     ·rw[List.mem_singleton.mp z];exact (kid oo).2
   ·cases h'
  | _=>cases h'
noncomputable def onD:Option Tm->PyData
 | none=>.none
 | some o=>o.data
end Ken
namespace L2
open PySem PySem.Spec PyProof.Rows
end L2
namespace Ken
open PySem L2
theorem Zc5:∀ t:Tm,t.deep<=t.parts
 | .low=>Nat.le_refl _
 | .ltr _=>Nat.le_refl _
 | .nd _ a b=>by
  have:=Zc5 a;have:=Zc5 b;show 1+max a.deep b.deep<=1+a.parts+b.parts;walk_at "o"
def Zi5 (K:W.Frag):Sp:=fun vs H Q _=>∃ (a:Addr) (us:List V) (ts:List Tm),vs=[.ref a]/\H a=some (.lst us)/\Paired (IsT K H) us ts/\Okw ts/\ts.length < 64 /\
 ∀ (r:Addr) (H':Hp),Same H H'->H r=none->IsW K H' r (norm ts)->Q (.ref r) H'
def Zh7 (K:W.Frag):Sp:=fun vs H Q _=>∃ (a b:Addr) (ov:V) (o:Tm) (ws:List Tm) (us:List V) (ts:List Tm),vs=[.ref a,ov,.ref b]/\IsW K H a ws/\IsT K H ov o/\o.ok/\o.parts<=100/\H b=some (.lst us)/\Paired (IsT K H) us ts/\Okw ws/\Okw ts/\ws.length+ts.length < 64 /\
 ∀ (r:Addr) (H':Hp),Same H H'->H r=none->IsW K H' r (norm (rem ws o++ts))->Q (.ref r) H'
theorem Xj2 (xs:List V):cutV xs (some (-1)) none=xs.drop (xs.length - 1):=by
 show List.take (xs.length - (if (-1:Int) < 0 then ((-1:Int)+(xs.length:Int)).toNat else min (-1:Int).toNat xs.length)) (List.drop (if (-1:Int) < 0 then ((-1:Int)+(xs.length:Int)).toNat else min (-1:Int).toNat xs.length) xs)=_;rw[if_pos (by decide),show ((-1:Int)+(xs.length:Int)).toNat=xs.length - 1 by walk_at "o"];exact List.take_of_length_le (by rw[List.length_drop];exact Nat.le_refl _)
theorem mem_last {fs:List Tm} {t:Tm}:t∈fs.drop (fs.length - 1)↔fs.getLast?=some t:=by
 rcases List.eq_nil_or_concat fs with h | ⟨l,x,rfl⟩
 ·subst h;simp
 ·rw[List.concat_eq_append,List.length_append,List.length_singleton,Nat.add_sub_cancel,List.drop_left,List.getLast?_append]
  simp;exact eq_comm
theorem Xp6 {fs:List Tm} (h:Zd7 fs) {y l:Tm} (hy:y∈fs) (hl:fs.getLast?=some l):y=l∨ltT y l=true:=by
 rcases List.eq_nil_or_concat fs with e | ⟨m,x,rfl⟩
 ·subst e;simp at hy
 ·rw[List.concat_eq_append] at *
  rw[List.getLast?_append] at hl
  have:x=l:=by simpa using hl
  subst this;rcases List.mem_append.mp hy with z | z
  ·exact .inr ((List.pairwise_append.mp h).2.2 y z x (List.mem_singleton.mpr rfl))
  ·exact .inl (List.mem_singleton.mp z)
def Wd9 (K:W.Frag) (d:Addr) (H:Hp) (v:V) (n:Nd):Prop:=∃ p wl gv,v=.ref p/\SqT K H p [.ref wl,gv]/\IsW K H wl n.1/\IsT K H gv n.2/\wl≠d
def Yr3 (K:W.Frag) (d:Addr) (H:Hp) (v:V) (ns:List Nd):Prop:=∃ na vs,v=.ref na/\H na=some (.lst vs)/\Paired (Wd9 K d H) vs ns/\na≠d
theorem Yl0 {H H1:Hp} (e:Same H H1) {a d:Addr} (hd:H d≠none) (ha:H1 a=none):a≠d:=fun z=>Yw9 e hd (z▸ha)
theorem Yp2 {K:W.Frag} {H H1:Hp} {wa na:Addr} (e:Same H H1) (hna:H1 na=none):∀ d,d≠wa->H d≠none->Yr3 K d (upd H1 na (.lst [])) (.ref na) []:=fun d _ a=>⟨na,[],rfl,Za3,.nil,Yl0 e a hna⟩
theorem Zk7 {K:W.Frag} {H H1:Hp} {ws:List Tm} {g:Tm} {wa wl p na:Addr} {gv:V} (e:Same H H1) (hw:IsW K H1 wl ws) (hg:IsT K H1 gv g) (hp:H1 p=none) (hna:upd H1 p (.tup [.ref wl,gv]) na=none) (fw:wl=wa∨H wl=none):∀ d,d≠wa->H d≠none->Yr3 K d (upd (upd H1 p (.tup [.ref wl,gv])) na (.lst [.ref p])) (.ref na) [(ws,g)]:=fun d c f=>by
 have b:=Za1 hp (HO.tup [.ref wl,gv]);have a:=Za1 hna (HO.lst [.ref p]);have S:=b.trans a;exact⟨na,_,rfl,Za3,.cons ⟨p,wl,gv,rfl,a.sqt (.inl (.inl Za3)),hw.keep S,hg.keep S.keepT,fun z=>fw.elim (fun y=>c (z.symm.trans y)) fun y=>f (z▸y)⟩ .nil,Yl0 (e.trans b) f hna⟩
theorem Zu3 {K:W.Frag} {H H1 H2:Hp} {ws ws':List Tm} {g g':Tm} {wa wl wl' p p' na:Addr} {gv gv':V} (e:Same H H1) (hw:IsW K H1 wl ws) (hg:IsT K H1 gv g) (hp:H1 p=none) (e2:Same (upd H1 p (.tup [.ref wl,gv])) H2) (hw':IsW K H2 wl' ws') (hg':IsT K H2 gv' g') (hp':H2 p'=none) (hna:upd H2 p' (.tup [.ref wl',gv']) na=none) (fw:wl=wa∨H wl=none) (fw':wl'=wa∨H wl'=none) :
  ∀ d,d≠wa->H d≠none->Yr3 K d (upd (upd H2 p' (.tup [.ref wl',gv'])) na (.lst [.ref p,.ref p'])) (.ref na) [(ws,g),(ws',g')]:=fun d b f=>by
 have j:=Za1 hp (HO.tup [.ref wl,gv]);have i:=Za1 hp' (HO.tup [.ref wl',gv']);have h:=Za1 hna (HO.lst [.ref p,.ref p']);have a:=i.trans h;have c:=e2.trans a;have S:=j.trans c;exact⟨na,_,rfl,Za3,.cons ⟨p,wl,gv,rfl,c.sqt (.inl (.inl Za3)),hw.keep S,hg.keep S.keepT,fun z=>fw.elim (fun y=>b (z.symm.trans y)) fun y=>f (z▸y)⟩ (.cons ⟨p',wl',gv',rfl,h.sqt (.inl (.inl Za3)),hw'.keep a,hg'.keep a.keepT,fun z=>fw'.elim (fun y=>b (z.symm.trans y)) fun y=>f (z▸y)⟩ .nil),Yl0 (((e.trans j).trans e2).trans i) f hna⟩
end Ken
namespace L2
open PySem PySem.Spec PyProof.Rows
section
variable {X:Cx}
theorem Zj3 {K:W.Frag} (e:X.K=K) (hu:X.A.units+150 < cLine):OpR X (compareOp .NotEq) (rEqD K true):=e▸Zo3 hu
end
end L2
namespace Ken
open PySem L2
theorem We6 (r:Rl):(r.str=Str.ofString "wish")=(r=.wish):=by cases r<;>first | exact propext ⟨fun _=>rfl,fun _=>rfl⟩ | exact propext ⟨fun h=>absurd h (by decide),fun h=>nomatch h⟩
theorem Wh0 (r:Rl):(r.str=Str.ofString "low")=(r=.low):=by cases r<;>first | exact propext ⟨fun _=>rfl,fun _=>rfl⟩ | exact propext ⟨fun h=>absurd h (by decide),fun h=>nomatch h⟩
theorem We8 (r:Rl):(r.str=Str.ofString "both")=(r=.both):=by cases r<;>first | exact propext ⟨fun _=>rfl,fun _=>rfl⟩ | exact propext ⟨fun h=>absurd h (by decide),fun h=>nomatch h⟩
theorem We2 (r:Rl):(r.str=Str.ofString "first")=(r=.first):=by cases r<;>first | exact propext ⟨fun _=>rfl,fun _=>rfl⟩ | exact propext ⟨fun h=>absurd h (by decide),fun h=>nomatch h⟩
theorem Xu6 (r:Rl):(r.str=Str.ofString "second")=(r=.second):=by cases r<;>first | exact propext ⟨fun _=>rfl,fun _=>rfl⟩ | exact propext ⟨fun h=>absurd h (by decide),fun h=>nomatch h⟩
theorem Wg9 (r:Rl):(r.str=Str.ofString "then")=(r=.thn):=by cases r<;>first | exact propext ⟨fun _=>rfl,fun _=>rfl⟩ | exact propext ⟨fun h=>absurd h (by decide),fun h=>nomatch h⟩
theorem Xg7 (r:Rl):(r.str=Str.ofString "parts")=(r=.parts):=by cases r<;>first | exact propext ⟨fun _=>rfl,fun _=>rfl⟩ | exact propext ⟨fun h=>absurd h (by decide),fun h=>nomatch h⟩
theorem Xg8 (r:Rl):(r.str=Str.ofString "cases")=(r=.cases):=by cases r<;>first | exact propext ⟨fun _=>rfl,fun _=>rfl⟩ | exact propext ⟨fun h=>absurd h (by decide),fun h=>nomatch h⟩
theorem We1 (r:Rl):(r.str=Str.ofString "known")=(r=.known):=by cases r<;>first | exact propext ⟨fun _=>rfl,fun _=>rfl⟩ | exact propext ⟨fun h=>absurd h (by decide),fun h=>nomatch h⟩
theorem Xr7 (r:Rl):(r.str=Str.ofString "curried")=(r=.curried):=by cases r<;>first | exact propext ⟨fun _=>rfl,fun _=>rfl⟩ | exact propext ⟨fun h=>absurd h (by decide),fun h=>nomatch h⟩
theorem Xu7 (r:Rl):(r.str=Str.ofString "either")=(r=.either):=by cases r<;>first | exact propext ⟨fun _=>rfl,fun _=>rfl⟩ | exact propext ⟨fun h=>absurd h (by decide),fun h=>nomatch h⟩
theorem We7 (r:Rl):(r.str=Str.ofString "idle")=(r=.idle):=by cases r<;>first | exact propext ⟨fun _=>rfl,fun _=>rfl⟩ | exact propext ⟨fun h=>absurd h (by decide),fun h=>nomatch h⟩
theorem We3 (r:Rl):(r.str=Str.ofString "chain")=(r=.chain):=by cases r<;>first | exact propext ⟨fun _=>rfl,fun _=>rfl⟩ | exact propext ⟨fun h=>absurd h (by decide),fun h=>nomatch h⟩
theorem Wg8 (r:Rl):(r.str=Str.ofString "use")=(r=.use):=by cases r<;>first | exact propext ⟨fun _=>rfl,fun _=>rfl⟩ | exact propext ⟨fun h=>absurd h (by decide),fun h=>nomatch h⟩
theorem Zk9 (kk:Kd) {K:W.Frag} {H:Hp} {v:V} {g:Tm} (h:IsT K H v g):(∃ a b p x y,g=.nd kk a b/\v=.ref p/\SqT K H p [.str kk.str,x,y]/\IsT K H x a/\IsT K H y b)∨(∃ p x xs,v=.ref p/\SqT K H p (.str x :: xs)/\x≠kk.str/\∀ a b,g≠.nd kk a b):=by
 cases g with
 | low =>
  obtain⟨p,rfl,c⟩:=isT_low.mp h;exact .inr ⟨p,_,_,rfl,c,by cases kk<;>decide,fun _ _ z=>nomatch z⟩
 | ltr y =>
  obtain⟨p,rfl,c⟩:=isT_ltr.mp h;exact .inr ⟨p,_,_,rfl,c,by cases kk<;>decide,fun _ _ z=>nomatch z⟩
 | nd k a b =>
  obtain⟨p,x,y,rfl,c,f,d⟩:=isT_nd.mp h
  by_cases e:k=kk
  ·subst e;exact .inl ⟨a,b,p,x,y,rfl,rfl,c,f,d⟩
  ·exact .inr ⟨p,_,_,rfl,c,by revert e;cases k<;>cases kk<;>decide,fun _ _ z=>by cases z;exact e rfl⟩
theorem Ys9 {ws:List Tm} {g:Tm} (h:∀ a b,g≠.nd .both a b):Zp3 ws g .both=none:=by
 cases g with
 | nd k a b=>cases k<;>first | rfl | exact absurd rfl (h _ _)
 | _=>rfl
theorem Yk9 {ws:List Tm} {g:Tm} (h:∀ a b,g≠.nd .one a b):Zp3 ws g .first=none:=by
 cases g with
 | nd k a b=>cases k<;>first | rfl | exact absurd rfl (h _ _)
 | _=>rfl
theorem Yg0 {ws:List Tm} {g:Tm} (h:∀ a b,g≠.nd .one a b):Zp3 ws g .second=none:=by
 cases g with
 | nd k a b=>cases k<;>first | rfl | exact absurd rfl (h _ _)
 | _=>rfl
theorem Yz6 {ws:List Tm} {g:Tm} (h:∀ a b,g≠.nd .thn a b):Zp3 ws g .thn=none:=by
 cases g with
 | nd k a b=>cases k<;>first | rfl | exact absurd rfl (h _ _)
 | _=>rfl
theorem Ys8 {ws:List Tm} {g a b:Tm} (h:a≠.low):Zn5 ws g (.nd .thn a b) .idle=none:=by
 cases a with
 | low=>exact absurd rfl h
 | _=>rfl
theorem Yb8 {ws:List Tm} {g a b:Tm} (h:∀ c d,a≠.nd .both c d):Zn5 ws g (.nd .thn a b) .curried=none:=by
 cases a with
 | nd k c d=>cases k<;>first | rfl | exact absurd rfl (h _ _)
 | _=>rfl
theorem Yf9 {ws:List Tm} {g a b:Tm} (h:∀ c d,a≠.nd .one c d):Zn5 ws g (.nd .thn a b) .either=none:=by
 cases a with
 | nd k c d=>cases k<;>first | rfl | exact absurd rfl (h _ _)
 | _=>rfl
theorem Yk8 {ws:List Tm} {g a b:Tm} (h:∀ c d,a≠.nd .thn c d):Zn5 ws g (.nd .thn a b) .chain=none:=by
 cases a with
 | nd k c d=>cases k<;>first | rfl | exact absurd rfl (h _ _)
 | _=>rfl
end Ken
namespace L2
open PySem PySem.Spec PyProof.Rows
end L2
namespace Ken
open PySem L2
def Ye7 (K:W.Frag):Sp:=fun vs H Q _=>∃ (c:Int) (wa:Addr) (ws:List Str),vs=[.int c,.ref wa]/\0<=c/\SqL K H wa (ws.map V.str)/\Yi1 ws/\∀ (v:V) (H':Hp) (t:Tm),Same H H'->IsT K H' v t->t.ok->t.parts<=11->Q v H'
noncomputable def badN:List Str:=["cut","","Wish","wishes"]
def RIs (x:Str):Option Rl->Prop
 | some r=>x=r.str
 | none=>x∈badN
theorem Xe2 {x:Str} (h:x∈badN) (r:Rl):(x=r.str)=False:=by
 refine eq_false fun e=>?_;subst e;revert h
 cases r<;>decide
theorem Xr1 {x:Str} (h:x∈badN):(reprText x).length<=100:=by
 revert x;decide +kernel
theorem Xr2 {x:Str} (h:x∈badN):inV (.str x) [.str "first",.str "second"]=false:=by
 revert x;decide +kernel
noncomputable def Zz4 (ws:List Tm) (g:Tm):Option Rl->Option (List Nd)
 | some r=>Zp3 ws g r
 | none=>none
noncomputable def Zn4 (ws:List Tm) (g o:Tm):Option Rl->Option (List Nd)
 | some r=>Zn5 ws g o r
 | none=>none
noncomputable def Zj4 (R:Option Rl) (ws:List Tm) (g:Tm):Option Tm->Option (List Nd)
 | none=>Zz4 ws g R
 | some o=>if o∈ws then Zn4 ws g o R else none
def NdsL (K:W.Frag) (H:Hp) (Q:VK) (wa:Addr) (x:Option (List Nd)):Prop:=(x=none->∀ H',Same H H'->Q .non H')/\(∀ nds,x=some nds->∀ (v:V) (H':Hp),Same H H'->(∀ d,d≠wa->H d≠none->Yr3 K d H' v nds)->Q v H')
def Zy9 (K:W.Frag):Sp:=fun vs H Q _=>∃ (x:Str) (R:Option Rl) (wa:Addr) (gv:V) (ws:List Tm) (g:Tm),vs=[.str x,.ref wa,gv]/\RIs x R/\IsW K H wa ws/\IsT K H gv g/\Okw ws/\g.ok/\g.parts<=100/\ws.length<=60/\NdsL K H Q wa (Zz4 ws g R)
def Zp8 (K:W.Frag):Sp:=fun vs H Q _=>∃ (x:Str) (R:Option Rl) (wa:Addr) (gv av bv ov:V) (ws:List Tm) (g a b:Tm),vs=[.str x,.ref wa,gv,av,bv,ov]/\RIs x R/\IsW K H wa ws/\IsT K H gv g/\IsT K H av a/\IsT K H bv b/\IsT K H ov (.nd .thn a b)/\Tm.nd .thn a b∈ws/\Okw ws/\g.ok/\g.parts<=100/\ws.length<=60/\NdsL K H Q wa (Zn4 ws g (.nd .thn a b) R)
def OnX (K:W.Frag) (H:Hp) (v:V):Option Tm->Prop
 | none=>v=.non
 | some o=>IsT K H v o/\o.ok/\o.parts<=100
theorem OnX.keep {K:W.Frag} {H H':Hp} (e:KeepT K H H') {v:V} {on:Option Tm} (h:OnX K H v on):OnX K H' v on:=by
 cases on with
 | none=>exact h
 | some o=>exact⟨h.1.keep e,h.2⟩
def Ye9 (K:W.Frag):Sp:=fun vs H Q _=>∃ (x:Str) (R:Option Rl) (wa:Addr) (gv ov:V) (ws:List Tm) (g:Tm) (on:Option Tm),vs=[.str x,.ref wa,gv,ov]/\RIs x R/\IsW K H wa ws/\IsT K H gv g/\OnX K H ov on/\Okw ws/\g.ok/\g.parts<=100/\ws.length<=60/\NdsL K H Q wa (Zj4 R ws g on)
noncomputable def Yb5 (R:Rl) (ws:List Tm):Option Tm->Bool
 | none=>R.noOn
 | some o=>!R.noOn&&decide (o∈ws)
def Yn7 (K:W.Frag):Sp:=fun vs H Q _=>∃ (r:Rl) (wa:Addr) (ov:V) (ws:List Tm) (on:Option Tm),vs=[.str r.str,.ref wa,ov]/\IsW K H wa ws/\OnX K H ov on/\Okw ws/\ws.length<=1000/\∀ H',Same H H'->Q (.bl (Yb5 r ws on)) H'
def Yn6 (K:W.Frag) (C:Addr):Sp:=fun vs H Q E=>∃ (x:Str) (R:Option Rl) (wa:Addr) (gv ov:V) (ws:List Tm) (g:Tm) (on:Option Tm),vs=[.str x,.ref wa,gv,ov]/\RIs x R/\IsW K H wa ws/\IsT K H gv g/\OnX K H ov on/\Okw ws/\g.ok/\g.parts<=100/\ws.length<=900 /\
 (Zj4 R ws g on=none->∀ e H',Xtd H e (.ref C) none H'->E (.ref e) none H')/\(∀ nds,Zj4 R ws g on=some nds->NdsQ K H Q nds)
theorem Yz5 {r:Rl} {ws:List Tm} {g:Tm} {on:Option Tm} (h:Yb5 r ws on=true):Zj4 (some r) ws g on=Xh8 r ws g on/\r.noOn=on.isNone/\∀ o,on=some o->o∈ws:=by
 cases on with
 | none=>exact⟨rfl,h,fun o z=>nomatch z⟩
 | some o =>
  have b:=Bool.and_eq_true_iff.mp (show (!r.noOn&&decide (o∈ws))=true from h);have a:o∈ws:=of_decide_eq_true b.2;refine⟨by show (if o∈ws then _ else _)=_;rw[if_pos a];rfl,by have:=b.1;revert this;cases r.noOn<;>simp,fun c z=>by cases z;exact a⟩
theorem Yk7 {r:Rl} {ws:List Tm} {g:Tm} {on:Option Tm} (h:Yb5 r ws on=false):Zj4 (some r) ws g on=none:=by
 cases on with
 | none =>
  show Zp3 ws g r=none;revert h
  cases r<;>intro h<;>first | rfl | cases h
 | some o =>
  show (if o∈ws then Zn5 ws g o r else none)=none
  by_cases hin:o∈ws
  ·rw[if_pos hin]
   revert h;show (!r.noOn&&decide (o∈ws))=false->_;rw[decide_eq_true hin]
   cases r<;>intro h<;>first | rfl | cases h
  ·rw[if_neg hin]
theorem Zk5 {α β:Type} {F:α->β->Prop}:∀ {l:List α} {m:List β} (n:Nat),Paired F l m->Paired F (l.drop n) (m.drop n)
 | _,_,0,h=>h
 | _,_,_+1,.nil=>.nil
 | _,_,n+1,.cons _ t=>Zk5 n t
theorem Xc4 (xs:List V) (j:Nat):cutV xs (some ((j:Int)+1)) none=xs.drop (j+1):=by
 have e:HT.sIx xs.length 0 (some ((j:Int)+1))=min (j+1) xs.length:=by
  unfold HT.sIx;simp only
  split
  ·walk_at "o"
  ·walk_at "o"
 unfold cutV;rw[e,show HT.sIx xs.length xs.length none=xs.length from rfl];rcases Nat.le_total (j+1) xs.length with h | h
 ·rw[Nat.min_eq_left h]
  exact List.take_of_length_le (by rw[List.length_drop];exact Nat.le_refl _)
 ·rw[Nat.min_eq_right h,Nat.sub_self,List.drop_eq_nil_of_le (Nat.le_refl _),List.drop_eq_nil_of_le h]
  rfl
theorem rx {x:Str} {R:Option Rl} (h:RIs x R) (r:Rl):(x=r.str)=(R=some r):=by
 cases R with
 | none=>rw[Xe2 h r];exact (eq_false (fun z=>nomatch z)).symm
 | some r' =>
  obtain rfl:x=r'.str:=h
  cases r<;>cases r'<;>first | exact propext ⟨fun _=>rfl,fun _=>rfl⟩ | exact propext ⟨fun h=>absurd h (by decide),fun h=>nomatch h⟩
end Ken
namespace L2
open PySem PySem.Spec PyProof.Rows
end L2
namespace Ken
open PySem L2
end Ken
namespace L2
open PySem PySem.Spec PyProof.Rows
open Ken
section
variable {X:Cx}
def Yj8 (K:W.Frag):List V->Hp->VK->Prop:=fun vs H Q=>∃ (a:Addr) (ns:List Int),vs=[.ref a]/\SqL K H a (ns.map V.int)/\ns≠[]/\∀ m,m∈ns->(∀ n∈ns,n<=m)->Q (.int m) H
theorem Xl6:∀ {ns:List Int} {us:List Value},Vals (ns.map V.int) us->∃ xs:List (Int×Tok),us=xs.map (fun p=>Value.int p.1 p.2)/\xs.map (·.1)=ns
 | [],_,r=>by cases r;exact⟨[],rfl,rfl⟩
 | n :: ns,_,r=>by
  cases r with
  | cons h t =>
   obtain⟨tk,rfl⟩:=h;obtain⟨xs,rfl,e⟩:=Xl6 t;exact⟨(n,tk) :: xs,rfl,by rw[List.map_cons,e]⟩
theorem Xd4 (hc:X.calm=true):Zs1 X (.builtin "max") (Yj8 X.K):=by
 intro A s G H J L Q I r h;obtain⟨a,N,rfl,B,m,q⟩:=h;obtain⟨u,rfl,y⟩:=Yi6 r;cases y;obtain⟨F,x,z,O⟩:=I.list B;obtain⟨xs,rfl,ex⟩:=Xl6 x
 have C:intItems xs.toArray=(xs.map (fun p=>Value.int p.1 p.2)).toArray:=by simp[intItems]
 have c:0 < xs.length:=by
  cases xs with
  | nil=>exact absurd ex.symm m
  | cons _ _=>exact Nat.succ_pos _
 refine max_intList (xs:=xs.toArray) (I.ok.hd hc) (by rw[C];exact z.isList) (by simpa using c) fun v R M g k=>?_;obtain⟨t,rfl⟩:=intItems_at g;obtain⟨D,w⟩:=argBest_gt (numAt xs.toArray) (xs.toArray.size - 1)
 have l:xs.toArray.size=xs.length:=by simp
 rw[l] at D w g ⊢;have f:∀ i,i < xs.length->∃ p∈xs,numAt xs.toArray i=p.1:=fun i b=>⟨xs[i],List.getElem_mem b,by simp[numAt,b]⟩;refine⟨.int _,H,I.kept k,⟨_,rfl⟩,q _ ?_ ?_⟩
 ·obtain⟨p,d,e⟩:=f (argBest (fun i j=>decide (numAt xs.toArray i > numAt xs.toArray j)) (xs.length - 1)) (by walk_at "o")
  rw[e,<- ex];exact List.mem_map_of_mem d
 ·intro n o
  rw[<- ex] at o;obtain⟨p,d,rfl⟩:=List.mem_map.mp o;obtain⟨i,b,rfl⟩:=List.getElem_of_mem d;have:=w i (by walk_at "o")
  have e:numAt xs.toArray i=xs[i].1:=by simp[numAt,b]
  rw[e] at this;exact this
end
end L2
namespace Ken
open PySem L2
structure Ln where
 x:Str
 R:Option Rl
 ws:List Tm
 g:Tm
 on:Option Tm
 ls:List Int
def IsLn (K:W.Frag) (H:Hp) (v:V) (l:Ln):Prop:=∃ (p wa la:Addr) (gv ov:V) (us:List V),v=.ref p/\SqT K H p [.str l.x,.ref wa,gv,ov,.ref la]/\H wa=some (.lst us)/\Paired (IsT K H) us l.ws/\IsT K H gv l.g/\OnX K H ov l.on/\H la=some (.lst (l.ls.map V.int))
theorem IsLn.keep {K:W.Frag} {H H':Hp} (e:Same H H') {v:V} {l:Ln} (h:IsLn K H v l):IsLn K H' v l:=by
 obtain⟨p,a,d,n,c,b,rfl,m,k,j,i,g,f⟩:=h;exact⟨p,a,d,n,c,b,rfl,e.sqt m,e _ _ k,Za7 e.keepT j,i.keep e.keepT,g.keep e.keepT,e _ _ f⟩
def IsLnF (K:W.Frag) (H0 H:Hp) (v:V) (l:Ln):Prop:=∃ (p wa la:Addr) (gv ov:V) (us:List V),v=.ref p/\SqT K H p [.str l.x,.ref wa,gv,ov,.ref la]/\H wa=some (.lst us)/\Paired (IsT K H) us l.ws/\IsT K H gv l.g/\OnX K H ov l.on/\H la=some (.lst (l.ls.map V.int))/\H0 wa=none/\H0 la=none
theorem IsLnF.ln {K:W.Frag} {H0 H:Hp} {v:V} {l:Ln} (h:IsLnF K H0 H v l):IsLn K H v l:=by
 obtain⟨p,a,d,m,c,b,rfl,k,j,i,g,f,e,_,_⟩:=h;exact⟨p,a,d,m,c,b,rfl,k,j,i,g,f,e⟩
theorem IsLnF.keep {K:W.Frag} {H0 H H':Hp} (e:Same H H') {v:V} {l:Ln} (h:IsLnF K H0 H v l):IsLnF K H0 H' v l:=by
 obtain⟨p,a,g,q,c,b,rfl,o,n,m,k,j,i,f,d⟩:=h;exact⟨p,a,g,q,c,b,rfl,e.sqt o,e _ _ n,Za7 e.keepT m,k.keep e.keepT,j.keep e.keepT,e _ _ i,f,d⟩
theorem IsLnF.mono {K:W.Frag} {H0 H1 H:Hp} (e:Same H0 H1) {v:V} {l:Ln} (h:IsLnF K H1 H v l):IsLnF K H0 H v l:=by
 obtain⟨p,a,g,q,c,b,rfl,o,n,m,k,j,i,f,d⟩:=h;exact⟨p,a,g,q,c,b,rfl,o,n,m,k,j,i,e.free f,e.free d⟩
abbrev IsLns (K:W.Frag) (H:Hp):List V->List Ln->Prop:=Paired (IsLn K H)
theorem IsLns.keep {K:W.Frag} {H H':Hp} (e:Same H H') {vs:List V} {L:List Ln} (h:IsLns K H vs L):IsLns K H' vs L:=Paired.mapP h fun _ _ q=>q.keep e
structure OkLn (l:Ln):Prop where
 r:RIs l.x l.R
 w:Okw l.ws
 wl:l.ws.length<=60
 g:l.g.ok
 gp:l.g.parts<=100
 ll:l.ls.length<=100
noncomputable def adjB:List Tm->Bool
 | a :: b :: r=>decide (cmpT a b < 0)&&adjB (b :: r)
 | _=>true
theorem adjB_iff:∀ {ws:List Tm},adjB ws=true↔Zd7 ws
 | []=>⟨fun _=>.nil,fun _=>rfl⟩
 | [a]=>⟨fun _=>List.pairwise_singleton _ _,fun _=>rfl⟩
 | a :: b :: r=>by
  show (decide (cmpT a b < 0)&&adjB (b :: r))=true↔_;rw[Bool.and_eq_true,decide_eq_true_iff,adjB_iff,Xc8];constructor
  ·rintro⟨h1,h2⟩
   refine List.pairwise_cons.mpr ⟨fun x hx=>?_,h2⟩;rcases List.mem_cons.mp hx with z | z
   ·rw[z];exact h1
   ·exact Zi1 h1 ((List.pairwise_cons.mp h2).1 x z)
  ·intro h
   have h':=List.pairwise_cons.mp h;exact⟨h'.1 b List.mem_cons_self,h'.2⟩
theorem Yr1:∀ (ws:List Tm),(List.zipWith (fun a b=>decide (cmpT a b < 0)) ws ws.tail).all id=adjB ws
 | []=>rfl
 | [_]=>rfl
 | a :: b :: r=>by
  show (decide (cmpT a b < 0)&&(List.zipWith (fun a b=>decide (cmpT a b < 0)) (b :: r) (b :: r).tail).all id)=_;rw[Yr1 (b :: r)];rfl
noncomputable def Zt6 (m:Ln) (ws:List Tm) (nd:Nd):Bool:=decide (m.g=nd.2)&&m.ws.all fun t=>decide (t∈nd.1)||decide (t∈ws)
noncomputable def Zk2 (L:List Ln) (ws:List Tm) (j:Int) (nd:Nd):Bool:=match L[j.toNat]? with
 | none=>false
 | some m=>Zt6 m ws nd
noncomputable def Zi3 (L:List Ln) (i:Nat) (l:Ln):Bool:=adjB l.ws&&match Zj4 l.R l.ws l.g l.on with
 | none=>false
 | some nds=>decide (nds.length=l.ls.length)&&((l.ls.all fun j=>decide (0<=j)&&decide (j < (i:Int)))&&(List.zipWith (Zk2 L l.ws) l.ls nds).all id)
noncomputable def Zk1 (L:List Ln) (i:Nat):Bool:=match L[i]? with
 | none=>false
 | some l=>Zi3 L i l
theorem Yp0 {R:Option Rl} {ws:List Tm} {g:Tm} {on:Option Tm} {nds:List Nd} (hs:Zd7 ws) (hok:Okw ws) (gk:g.ok/\g.parts<=100) (h:Zj4 R ws g on=some nds):∀ n∈nds,NdOk ws n:=by
 cases R with
 | none =>
  cases on with
  | none=>cases h
  | some o =>
   have a:(if o∈ws then Zn4 ws g o none else none)=some nds:=h
   split at a<;>cases a
 | some r =>
  cases on with
  | none=>exact Yz3 (r:=r) (on:=none) hs hok gk (fun o z=>nomatch z) h
  | some o =>
   have a:(if o∈ws then Zn4 ws g o (some r) else none)=some nds:=h
   by_cases hin:o∈ws
   ·rw[if_pos hin] at a
    exact Yz3 (r:=r) (on:=some o) hs hok gk (fun b z=>by cases z;exact hin) a
   ·rw[if_neg hin] at a;cases a
def Yw6 (K:W.Frag):Sp:=fun vs H Q _=>∃ (a:Addr) (us:List V) (ts:List Tm),vs=[.ref a]/\H a=some (.lst us)/\Paired (IsT K H) us ts/\Okw ts/\ts.length<=900/\∀ H',Same H H'->Q (.bl (adjB ts)) H'
def Xk4 (K:W.Frag):Sp:=fun vs H Q _=>∃ (v:V) (l:Ln),vs=[v]/\IsLn K H v l/\OkLn l/\Zd7 l.ws/\(Zj4 l.R l.ws l.g l.on=none->∀ H',Same H H'->Q .non H')/\(∀ nds,Zj4 l.R l.ws l.g l.on=some nds->NdsQ K H Q nds)
def Zq9 (K:W.Frag):Sp:=fun vs H Q _=>∃ (v nv:V) (wa:Addr) (m:Ln) (ws:List Tm) (o:ONd),vs=[v,.ref wa,nv]/\IsLn K H v m/\OkLn m/\IsW K H wa ws/\Okw ws/\ws.length<=900/\IsNdO K H nv o/\Okw o.2.1/\o.2.1.length<=900/\o.2.2.ok/\∀ H',Same H H'->Q (.bl (Zt6 m ws o.2)) H'
def Zr0 (K:W.Frag):Sp:=fun vs H Q _=>∃ (a:Addr) (us:List V) (L:List Ln) (i:Nat),vs=[.ref a,.int (i:Nat)]/\H a=some (.lst us)/\IsLns K H us L/\(∀ l∈L,OkLn l)/\i < L.length/\L.length<=200/\∀ H',Same H H'->Q (.bl (Zk1 L i)) H'
def Zl4 (K:W.Frag) (n:Nat):Sp:=fun vs H Q _=>∃ (v:V) (t:Tm),vs=[v]/\IsT K H v t/\t.deep < n/\∀ H',Same H H'->Q (.int (t.parts:Nat)) H'
def Zw0 (K:W.Frag):Sp:=fun vs H Q _=>∃ (a:Addr) (c:Int) (ov:V) (us:List V) (ts:List Tm) (o:Tm),vs=[.ref a,.int c,ov]/\H a=some (.lst us)/\Paired (IsT K H) us ts/\Okw ts/\IsT K H ov o /\
 ∀ (r:V) (t:Tm) (H':Hp),Same H H'->IsT K H' r t->(t=o∨t∈ts)->Q r H'
noncomputable def Zj9:Tm->Str
 | .low=>"low"
 | .ltr _=>"letter"
 | .nd k _ _=>k.str
theorem Zm4 {K:W.Frag} {H:Hp} {v:V} {t:Tm} (h:IsT K H v t):∃ p xs,v=.ref p/\SqT K H p (.str (Zj9 t) :: xs):=by
 cases t with
 | low=>obtain⟨p,rfl,c⟩:=isT_low.mp h;exact⟨p,_,rfl,c⟩
 | ltr y=>obtain⟨p,rfl,c⟩:=isT_ltr.mp h;exact⟨p,_,rfl,c⟩
 | nd k a b=>obtain⟨p,x,y,rfl,c,_⟩:=isT_nd.mp h;exact⟨p,_,rfl,c⟩
theorem Zm5 {t:Tm} (h:Zj9 t="then"):∃ a b,t=.nd .thn a b:=by
 cases t with
 | low=>exact absurd h (by decide)
 | ltr y=>exact absurd (show ("letter":Str)="then" from h) (by decide)
 | nd k a b =>
  have c:k.str="then":=h
  cases k with
  | thn=>exact⟨a,b,rfl⟩
  | both=>exact absurd c (by decide)
  | one=>exact absurd c (by decide)
theorem Yt6 {t:Tm} (h:Zj9 t="both"):∃ a b,t=.nd .both a b:=by
 cases t with
 | low=>exact absurd h (by decide)
 | ltr y=>exact absurd (show ("letter":Str)="both" from h) (by decide)
 | nd k a b =>
  have c:k.str="both":=h
  cases k with
  | both=>exact⟨a,b,rfl⟩
  | thn=>exact absurd c (by decide)
  | one=>exact absurd c (by decide)
def Zz9 (on:Option Tm) (x:Str) (l:Ln):Prop:=match on with
 | some t=>l.g=t
 | none=>Zj9 l.g=x
def Yn8 (K:W.Frag):Sp:=fun vs H Q _=>∃ (a:Addr) (us:List V) (L:List Ln) (st:Int) (gv:V) (on:Option Tm) (x:Str),vs=[.ref a,.int st,gv,.str x]/\H a=some (.lst us)/\IsLns K H us L/\(∀ l∈L,OkLn l)/\L.length<=200/\OnX K H gv on /\
 ((∀ l∈L,¬ Zz9 on x l)->∀ H',Same H H'->Q .non H')/\(∀ n l,L[n]?=some l->Zz9 on x l->∀ H',Same H H'->Q (.int (n:Nat)) H')
structure OkL9 (l:Ln):Prop where
 ok:OkLn l
 w9:l.ws.length<=9
 w40:∀ t∈l.ws,t.parts<=40
 g40:l.g.parts<=40
structure GL (L:List Ln):Prop where
 good:∀ i,i < L.length->Zk1 L i=true
 ok:∀ l∈L,OkL9 l
 len:L.length<=150
structure NewL (L:List Ln) (l:Ln):Prop where
 ok:OkLn l
 good:Zi3 L L.length l=true
def S40 (t:Tm):Prop:=t.ok/\t.parts<=40
def Yf1 (K:W.Frag):Sp:=fun vs H Q _=>∃ (a:Addr) (us:List V) (L:List Ln) (c:Int) (i j:Nat) (ev:V) (ex:Tm),vs=[.ref a,.int c,.int (i:Nat),.int (j:Nat),ev]/\H a=some (.lst us)/\IsLns K H us L/\GL L/\i < L.length/\j < L.length/\IsT K H ev ex/\S40 ex /\
 ∀ (v:V) (l:Ln) (H':Hp),Same H H'->IsLnF K H H' v l->NewL L l->Q v H'
def Yw4 (K:W.Frag):Sp:=fun vs H Q _=>∃ (a:Addr) (us:List V) (L:List Ln) (c:Int) (i:Nat) (v1 v2 ev:V) (o1 o2 ex:Tm),vs=[.ref a,.int c,.int (i:Nat),v1,v2,ev]/\H a=some (.lst us)/\IsLns K H us L/\GL L/\i < L.length/\IsT K H v1 o1/\IsT K H v2 o2/\IsT K H ev ex/\S40 o1/\S40 o2/\ex.ok/\ex.parts<=3 /\
 ∀ (v:V) (l:Ln) (H':Hp),Same H H'->IsLnF K H H' v l->NewL L l->Q v H'
def Yo0 (K:W.Frag):Sp:=fun vs H Q _=>∃ (a:Addr) (us:List V) (L:List Ln) (c:Int) (i j:Nat) (v1 ev:V) (o1 ex:Tm),vs=[.ref a,.int c,.int (i:Nat),.int (j:Nat),v1,ev]/\H a=some (.lst us)/\IsLns K H us L/\GL L/\i < L.length/\j < L.length/\IsT K H v1 o1/\IsT K H ev ex/\S40 o1/\S40 ex /\
 ∀ (v:V) (l:Ln) (H':Hp),Same H H'->IsLnF K H H' v l->NewL L l->Q v H'
def Yw1 (K:W.Frag):Sp:=fun vs H Q _=>∃ (a wa:Addr) (us:List V) (L:List Ln) (c:Int) (ws:List Str),vs=[.ref a,.int c,.ref wa]/\H a=some (.lst us)/\IsLns K H us L/\GL L/\L≠[]/\0<=c/\SqL K H wa (ws.map V.str)/\Yi1 ws /\
 ∀ (v:V) (l:Ln) (H':Hp),Same H H'->IsLnF K H H' v l->NewL L l->OkL9 l->Q v H'
def Yo1 (K:W.Frag):Sp:=fun vs H Q _=>∃ (a wa:Addr) (ns:List Int) (st most:Int) (ws:List Str),vs=[.ref a,.int st,.int most,.ref wa]/\SqL K H a (ns.map V.int)/\ns.length<=63/\0<=st/\st<=10/\0<=most/\most<=60/\SqL K H wa (ws.map V.str)/\Yi1 ws /\
 ∀ (r:Addr) (us:List V) (L:List Ln) (H':Hp),Same H H'->H r=none->H' r=some (.lst us)->IsLns K H' us L->GL L->L≠[]->Q (.ref r) H'
def Yn9 (K:W.Frag):Sp:=fun vs H Q _=>∃ (a:Addr) (us:List V) (L:List Ln),vs=[.ref a]/\H a=some (.lst us)/\IsLns K H us L/\(∀ l∈L,OkLn l)/\L.length<=200 /\
 ∀ (r:Addr) (ys:List V) (H':Hp),Same H H'->H r=none->H' r=some (.lst ys)->IsLns K H' ys L->Q (.ref r) H'
theorem Yr8 {α:Type} {l:List α} {i:Nat} {t:α} (h:l[i]?=some t):l.take (i+1)=l.take i++[t]:=by rw[List.take_succ,h];rfl
theorem Xa6 {L M:List Ln} {ws:List Tm} {j:Int} {nd:Nd} (h:j.toNat < L.length):Zk2 (L++M) ws j nd=Zk2 L ws j nd:=by unfold Zk2;rw[List.getElem?_append_left h]
theorem Yg8 {L M:List Ln} {i:Nat} {l:Ln} (hi:i<=L.length):Zi3 (L++M) i l=Zi3 L i l:=by
 unfold Zi3
 congr 1
 cases Zj4 l.R l.ws l.g l.on with
 | none=>rfl
 | some nds =>
  dsimp only
  congr 1
  by_cases h:(l.ls.all fun j=>decide (0<=j)&&decide (j < (i:Int)))=true
  ·rw[h,Bool.true_and,Bool.true_and]
   have c:∀ (a:List Int) (nds:List Nd),(a.all fun j=>decide (0<=j)&&decide (j < (i:Int)))=true->List.zipWith (Zk2 (L++M) l.ws) a nds=List.zipWith (Zk2 L l.ws) a nds:=by
    intro a
    induction a with
    | nil=>intro nds _;rfl
    | cons j a ih =>
     intro nds b;rw[List.all_cons,Bool.and_eq_true,Bool.and_eq_true,decide_eq_true_iff,decide_eq_true_iff] at b
     cases nds with
     | nil=>rfl
     | cons nd nds =>
      rw[List.zipWith_cons_cons,List.zipWith_cons_cons,ih nds b.2,Xa6 (by walk_at "o")]
   rw[c _ _ h]
  ·rw[show (l.ls.all fun j=>decide (0<=j)&&decide (j < (i:Int)))=false by simpa using h];rfl
theorem Xa5 {L M:List Ln} {i:Nat} (h:i < L.length):Zk1 (L++M) i=Zk1 L i:=by
 unfold Zk1;rw[List.getElem?_append_left h,List.getElem?_eq_getElem h];exact Yg8 (Nat.le_of_lt h)
theorem GL.snoc {L:List Ln} {l:Ln} (G:GL L) (h:NewL L l) (h9:OkL9 l) (hl:L.length < 150):GL (L++[l]):=by
 refine⟨fun i b=>?_,fun m a=>?_,by rw[List.length_append,List.length_singleton];walk_at "o"⟩
 ·rw[List.length_append,List.length_singleton] at b
  rcases Nat.lt_or_ge i L.length with z | z
  ·rw[Xa5 z];exact G.good i z
  ·have:i=L.length:=by walk_at "o"
   subst this;unfold Zk1;rw[List.getElem?_append_right (Nat.le_refl _),Nat.sub_self];show Zi3 (L++[l]) L.length l=true;rw[Yg8 (Nat.le_refl _)];exact h.good
 ·rcases List.mem_append.mp a with z | z
  ·exact G.ok m z
  ·rw[List.mem_singleton.mp z];exact h9
theorem Yp7 {K:W.Frag} {σ0:St} {a b:Addr} {xs ys:List V} {acc:Addr} {g:TG} {te:TE} {Q:VK} {H:Hp} (Pv:Nat->List V->Hp->Prop) (n:Nat) (hn:n=min xs.length ys.length) (h0:Pv 0 [] (upd H acc (.lst []))) (hl:∀ i zs H2,i<=n->Pv i zs H2->H2 acc=some (.lst zs)/\zs.length < sizeLine/\SqL K H2 a xs/\SqL K H2 b ys)
  (hs:∀ i x y zs H2 T,xs[i]?=some x->ys[i]?=some y->H2 T=none->Pv i zs H2->∀ C:VK,(∀ v H5,H5 acc=some (.lst zs)->Pv (i+1) (zs++[v]) (upd H5 acc (.lst (zs++[v])))->C v H5)->g (.ref T) σ0 (upd H2 T (.tup [x,y])) fun σ4 H4=>Wk σ0 σ4/\te σ4 H4 C) (hd:∀ zs H2,Pv n zs H2->Q (.ref acc) H2) :
  ∃ W:Nat->Nat->List V->Hp->Prop,(∃ m,W 0 m [] (upd H acc (.lst [])))/\lcW K σ0 (Itz K a b) acc g te Q W:=by
 refine⟨fun i m zs H2=>m=n - i/\i<=n/\Pv i zs H2,⟨n,by simp,Nat.zero_le _,h0⟩,?_⟩;rintro i m zs H2 ⟨rfl,j,p⟩;obtain⟨r,q,h,f⟩:=hl i zs H2 j p;refine⟨r,q,?_⟩
 by_cases hlt:i < n
 ·have o:i < xs.length:=by walk_at "o"
  have l:i < ys.length:=by walk_at "o"
  refine .inr ⟨⟨xs,ys,xs[i],ys[i],h,f,List.getElem?_eq_getElem o,List.getElem?_eq_getElem l⟩,fun v s z=>?_⟩;obtain⟨T,x,y,rfl,k,rfl,d,c⟩:=z;exact hs i x y zs _ T (d xs h) (c ys f) k p _ fun v H5 d c=>⟨d,n - (i+1),by walk_at "o",rfl,hlt,c⟩
 ·have e:i=n:=by walk_at "o"
  subst e;exact .inl ⟨⟨xs,ys,h,f,by walk_at "o"⟩,hd zs H2 p⟩
end Ken
namespace L2
open PySem
end L2
namespace Ken
open PySem L2
noncomputable def Yt2:Tm->Bool
 | .nd _ _ b=>decide (Zj9 b="then")
 | _=>false
theorem Zf9 {K:W.Frag} {H:Hp} {p wa la:Addr} {gv ov:V} {x:Str} {R:Option Rl} {ws:List Tm} {g:Tm} {on:Option Tm} {ls:List Int} (hp:H p=none) (hw:IsW K H wa ws) (hg:IsT K H gv g) (ho:OnX K H ov on) (hl:H la=some (.lst (ls.map V.int))) {H0:Hp} (fw:H0 wa=none) (fl:H0 la=none) :
  IsLnF K H0 (upd H p (.tup [.str x,.ref wa,gv,ov,.ref la])) (.ref p) ⟨x,R,ws,g,on,ls⟩:=by
 have s:=Za1 hp (HO.tup [.str x,.ref wa,gv,ov,.ref la]);obtain⟨⟨a,c,b⟩,_⟩:=hw;exact⟨p,wa,la,gv,ov,a,rfl,.inl (.inl Za3),s _ _ c,Za7 s.keepT b,hg.keep s.keepT,ho.keep s.keepT,s _ _ hl,fw,fl⟩
def IsLnN (K:W.Frag) (d:Addr) (H:Hp) (v:V) (l:Ln):Prop:=∃ (p wa la:Addr) (gv ov:V) (us:List V),v=.ref p/\SqT K H p [.str l.x,.ref wa,gv,ov,.ref la]/\H wa=some (.lst us)/\Paired (IsT K H) us l.ws/\IsT K H gv l.g/\OnX K H ov l.on/\H la=some (.lst (l.ls.map V.int))/\wa≠d/\la≠d
theorem IsLnN.ln {K:W.Frag} {d:Addr} {H:Hp} {v:V} {l:Ln} (h:IsLnN K d H v l):IsLn K H v l:=by
 obtain⟨p,a,e,n,c,b,rfl,m,k,j,i,g,f,_,_⟩:=h;exact⟨p,a,e,n,c,b,rfl,m,k,j,i,g,f⟩
theorem IsLnN.keep {K:W.Frag} {d:Addr} {H H':Hp} (e:Same H H') {v:V} {l:Ln} (h:IsLnN K d H v l):IsLnN K d H' v l:=by
 obtain⟨p,a,i,r,c,b,rfl,q,o,n,m,k,j,g,f⟩:=h;exact⟨p,a,i,r,c,b,rfl,e.sqt q,e _ _ o,Za7 e.keepT n,m.keep e.keepT,k.keep e.keepT,e _ _ j,g,f⟩
theorem IsLnN.write {K:W.Frag} {d:Addr} {H:Hp} {xs ys:List V} {v:V} {l:Ln} (hd:H d=some (.lst xs)) (h:IsLnN K d H v l):IsLnN K d (upd H d (.lst ys)) v l:=by
 obtain⟨p,e,i,r,g,f,rfl,q,o,n,m,k,j,c,b⟩:=h;have a:KeepT K H (upd H d (.lst ys)):=Zg4 hd;exact⟨p,e,i,r,g,f,rfl,a _ _ q,by rw[Zc2 c];exact o,Za7 a n,m.keep a,k.keep a,by rw[Zc2 b];exact j,c,b⟩
theorem IsLn.n {K:W.Frag} {d:Addr} {H0 H:Hp} {v:V} {l:Ln} (e:Same H0 H) (hd:H0 d=none) (h:IsLn K H0 v l):IsLnN K d H v l:=by
 obtain⟨p,c,i,q,g,f,rfl,o,b,m,k,j,a⟩:=h;exact⟨p,c,i,q,g,f,rfl,e.sqt o,e _ _ b,Za7 e.keepT m,k.keep e.keepT,j.keep e.keepT,e _ _ a,Zb9 b hd,Zb9 a hd⟩
theorem IsLnF.n {K:W.Frag} {d:Addr} {H0 H:Hp} {o:HO} {v:V} {l:Ln} (h:IsLnF K H0 H v l) (hd:H0 d=some o):IsLnN K d H v l:=by
 obtain⟨p,a,g,s,c,b,rfl,r,q,m,k,j,i,f,e⟩:=h;exact⟨p,a,g,s,c,b,rfl,r,q,m,k,j,i,Ne.symm (Zb9 hd f),Ne.symm (Zb9 hd e)⟩
theorem Zh4 {K:W.Frag} {H0:Hp} {p1:Addr} {us vs:List V} {ts rs:List Tm} {Q:VK} (hp1:H0 p1=none) (hU:Paired (IsT K H0) us ts) (hV:Paired (IsT K H0) vs rs) (ok1:Okw ts) (ok2:Okw rs) (hl:ts.length+rs.length < 64)
  (q:∀ (r:Addr) (H':Hp),Same H0 H'->H0 r=none->IsW K H' r (norm (ts++rs))->Q (.ref r) H'):Zi5 K [.ref p1] (upd H0 p1 (.lst (us++vs))) Q E0:=by
 have s:=Za1 hp1 (HO.lst (us++vs));exact⟨p1,_,ts++rs,rfl,Za3,Zc8 (Za7 s.keepT hU) (Za7 s.keepT hV),fun t b=>(List.mem_append.mp b).elim (ok1 t) (ok2 t),by rw[List.length_append];exact hl,fun r H' e c a=>q r H' (s.trans e) (s.free c) a⟩
theorem Zf7 {K:W.Frag} {a acc:Addr} {us:List V} {ws:List Tm} {σ0:St} {tk:TK} {Q:Hp->Prop} {H:Hp} (f:Tm->Bool) (ha:H a=some (.lst us)) (hU:Paired (IsT K H) us ws) (hl:ws.length<=100) (hacc:H acc=none)
  (hw:∀ v,Wk σ0 (σ0.set 0 (some v)))
  (ht:∀ (v:V) (t:Tm) (H':Hp) (ys:List V) (N:Hp->Prop),t∈ws->Same H H'->IsT K H' v t->H' acc=some (.lst ys)->ys.length < 100 ->
   (f t=true->∀ H'',Same H' H''->H'' acc=some (.lst ys)->N (upd H'' acc (.lst (ys++[v]))))->(f t=false->∀ H'',Same H' H''->N H'')->tk (σ0.set 0 (some v)) H' N)
  (hd:∀ (H':Hp) (ys:List V),Same H H'->H' acc=some (.lst ys)->Paired (IsT K H') ys (ws.filter f)->Q H') :
  ∃ W:Nat->Nat->Hp->Prop,(∃ m,W 0 m (upd H acc (.lst [])))/\Xc7 σ0 (Itl K a) (Zx6 0) tk Q W:=by
 have l:us.length=ws.length:=Paired.length hU;refine Yh3 (xs:=us) (fun i H'=>Same H H'/\∃ ys,H' acc=some (.lst ys)/\Paired (IsT K H') ys ((ws.take i).filter f)) ⟨Za1 hacc _,[],Za3,.nil⟩ (fun i H' _ ⟨e,_⟩=>SqL.of (e _ _ ha)) (fun i v H' N hv ⟨e,ys,h,hP⟩ hN=>?_) (fun H' ⟨e,ys,h,hP⟩=>?_)
 ·obtain⟨t,c,j⟩:=paired_get hU hv
  have r:i < ws.length:=(List.getElem?_eq_some_iff.mp c).1
  have k:(ws.take (i+1)).filter f=(ws.take i).filter f++[t].filter f:=by rw[Zn6 c,List.filter_append]
  have p:=Paired.length hP
  have q:((ws.take i).filter f).length<=i:=by
   have o:=List.length_filter_le f (ws.take i);rw[List.length_take] at o;walk_at "o"
  show Wk σ0 (σ0.set 0 (some v))/\tk (σ0.set 0 (some v)) H' N;refine⟨hw v,ht v t H' ys N (List.mem_of_getElem? c) e (j.keep e.keepT) h (by walk_at "o") (fun d H'' b n=>hN _ ⟨(e.trans b).write hacc,_,Za3,?_⟩) (fun d H'' b=>hN _ ⟨e.trans b,ys,b _ _ h,?_⟩)⟩
  ·have g:KeepT K H'' (upd H'' acc (.lst (ys++[v]))):=Zg4 n
   rw[k,show [t].filter f=[t] by simp[d]];exact Zc8 (Za7 (b.keepT.trans g) hP) (.cons ((j.keep (e.trans b).keepT).keep g) .nil)
  ·rw[k,show [t].filter f=[] by simp[d],List.append_nil]
   exact Za7 b.keepT hP
 ·rw[l,List.take_length] at hP
  exact hd H' ys e h hP
theorem Ym3 {K:W.Frag} {a acc:Addr} {us:List V} {ws:List Tm} {xv:V} {o:Tm} {Q:Hp->Prop} {H:Hp} (ha:H a=some (.lst us)) (hU:Paired (IsT K H) us ws) (hl:ws.length<=100) (hacc:H acc=none) (hok:Okw ws) (hx:IsT K H xv o) (ook:o.ok)
  (hd:∀ (H':Hp) (ys:List V),Same H H'->H' acc=some (.lst ys)->Paired (IsT K H') ys (rem ws o)->Q H') :
  ∃ W:Nat->Nat->Hp->Prop,(∃ m,W 0 m (upd H acc (.lst [])))/\Xc7 [none,some xv] (Itl K a) (Zx6 0) (Yc3 (Zv2 (tOp (rEqD K true) (tVar 0) (tVar 1))) (kApp (tVar 0) acc)) Q W:=by
 refine Zf7 (fun t=>decide (t≠o)) ha hU hl hacc (fun d=>Ze9 (i:=0) rfl) (fun d t H' ys N c e k h j f g=>?_) hd;have b:=hok t c;simp only[Yc3,kApp,Zv2,tB,tOp,tVar,rEqD,List.set_cons_zero,List.getElem?_cons_zero,List.getElem?_cons_succ,Option.some.injEq,Option.join_some,exists_eq_left',exists_eq_left,V.bl.injEq,exists_and_left,and_assoc];refine⟨t.data,k,o.data,hx.keep e.keepT,t.lay b.1,o.lay ook,Nat.le_trans (Nat.min_le_left _ _) (by rw[Tm.depth];have:=b.2;have:=Zc5 t;walk_at "o"),?_⟩;rw[Tm.eqv]
 by_cases hto:t=o
 ·rw[if_neg (by rw[if_pos trivial,decide_eq_true hto];exact Bool.false_ne_true)]
  exact g (decide_eq_false (fun z=>z hto)) _ (Same.refl _)
 ·rw[if_pos (by rw[if_pos trivial,decide_eq_false hto];rfl)]
  exact⟨ys,h,Zb0 (by walk_at "o"),f (decide_eq_true hto) _ (Same.refl _) h⟩
theorem Yc7 {L:List Ln} {i:Nat} {l:Ln} {nds:List Nd} (hs:Zd7 l.ws) (hx:Zj4 l.R l.ws l.g l.on=some nds) (hl:nds.length=l.ls.length) (hb:∀ (k:Nat) (j:Int) (nd:Nd),l.ls[k]?=some j->nds[k]?=some nd->∃ (n:Nat) (m:Ln),j=(n:Int)/\n < i/\L[n]?=some m/\m.g=nd.2/\∀ t∈m.ws,t∈nd.1∨t∈l.ws):Zi3 L i l=true:=by
 unfold Zi3;rw[adjB_iff.mpr hs,hx];show (decide (nds.length=l.ls.length)&&((l.ls.all fun j=>decide (0<=j)&&decide (j < (i:Int)))&&(List.zipWith (Zk2 L l.ws) l.ls nds).all id))=true
 have a:∀ (k:Nat) (j:Int),l.ls[k]?=some j->∃ nd,nds[k]?=some nd:=fun k j h=>by
  have:k < l.ls.length:=(List.getElem?_eq_some_iff.mp h).1;exact⟨_,List.getElem?_eq_getElem (show k < nds.length by walk_at "o")⟩
 rw[decide_eq_true hl,Bool.true_and,Bool.and_eq_true,List.all_eq_true,List.all_eq_true];refine⟨fun j v=>?_,fun b o=>?_⟩
 ·obtain⟨k,c,e⟩:=List.getElem_of_mem v
  have p:l.ls[k]?=some j:=by rw[List.getElem?_eq_getElem c,e]
  obtain⟨nd,x⟩:=a k j p;obtain⟨n,m,rfl,s,_⟩:=hb k j nd p x;rw[Bool.and_eq_true,decide_eq_true_iff,decide_eq_true_iff];walk_at "o"
 ·obtain⟨k,c,e⟩:=List.getElem_of_mem o
  rw[List.getElem_zipWith] at e;rw[List.length_zipWith] at c
  have f:k < l.ls.length:=by walk_at "o"
  have d:k < nds.length:=by walk_at "o"
  obtain⟨n,m,y,s,u,w,q⟩:=hb k _ _ (List.getElem?_eq_getElem f) (List.getElem?_eq_getElem d);rw[<- e,y];show Zk2 L l.ws (n:Int) nds[k]=true;unfold Zk2;rw[Int.toNat_natCast,u];show Zt6 m l.ws nds[k]=true;unfold Zt6;rw[decide_eq_true w,Bool.true_and,List.all_eq_true];intro t r;rcases q t r with z | z
  ·rw[decide_eq_true z];rfl
  ·rw[decide_eq_true z,Bool.or_true]
theorem Xi8 {L:List Ln} {i:Nat} {l:Ln} (hs:Zd7 l.ws) (hx:Zj4 l.R l.ws l.g l.on=some []) (hl:l.ls=[]):Zi3 L i l=true:=Yc7 hs hx (by rw[hl];rfl) fun k j a _ h=>by simp at h
theorem Yg9 {L:List Ln} {i n:Nat} {l m:Ln} {nd:Nd} (hs:Zd7 l.ws) (hx:Zj4 l.R l.ws l.g l.on=some [nd]) (hl:l.ls=[(n:Int)]) (hn:n < i) (hm:L[n]?=some m) (hg:m.g=nd.2) (hw:∀ t∈m.ws,t∈nd.1∨t∈l.ws):Zi3 L i l=true:=Yc7 hs hx (by rw[hl];rfl) fun k j c a b=>by
 rw[hl] at a
 match k,a,b with
 | 0,a,b=>cases a;cases b;exact⟨n,m,rfl,hn,hm,hg,hw⟩
 | k+1,a,_=>simp at a
theorem Xi7 {L:List Ln} {i n n':Nat} {l m m':Ln} {nd nd':Nd} (hs:Zd7 l.ws) (hx:Zj4 l.R l.ws l.g l.on=some [nd,nd']) (hl:l.ls=[(n:Int),(n':Int)]) (hn:n < i) (hm:L[n]?=some m) (hg:m.g=nd.2) (hw:∀ t∈m.ws,t∈nd.1∨t∈l.ws)
  (hn':n' < i) (hm':L[n']?=some m') (hg':m'.g=nd'.2) (hw':∀ t∈m'.ws,t∈nd'.1∨t∈l.ws):Zi3 L i l=true:=Yc7 hs hx (by rw[hl];rfl) fun k j c a b=>by
 rw[hl] at a
 match k,a,b with
 | 0,a,b=>cases a;cases b;exact⟨n,m,rfl,hn,hm,hg,hw⟩
 | 1,a,b=>cases a;cases b;exact⟨n',m',rfl,hn',hm',hg',hw'⟩
 | k+2,a,_=>simp at a
theorem OkL9.s40 {l:Ln} (h:OkL9 l):∀ t∈l.ws,S40 t:=fun t a=>⟨(h.ok.w t a).1,h.w40 t a⟩
theorem GL.sorted {L:List Ln} (G:GL L) {i:Nat} {l:Ln} (h:L[i]?=some l):Zd7 l.ws:=by
 have:=G.good i (List.getElem?_eq_some_iff.mp h).1;unfold Zk1 at this;rw[h] at this;have a:Zi3 L i l=true:=this;unfold Zi3 at a;exact adjB_iff.mp (Bool.and_eq_true_iff.mp a).1
theorem Zg7 {l m:List Tm} (h:Okw l) (h2:Okw m):Okw (l++m):=fun t a=>(List.mem_append.mp a).elim (h t) (h2 t)
theorem Zf5 {t:Tm} (h1:t.ok) (h2:t.parts<=100):Okw [t]:=fun x a=>by rw[List.mem_singleton.mp a];exact⟨h1,h2⟩
theorem S40.w {t:Tm} (h:S40 t):Okw [t]:=Zf5 h.1 (by have:=h.2;walk_at "o")
theorem Zf8 {l m:List Tm} {t:Tm} (h:t∈l):t∈norm (l++m):=mem_norm.mpr (List.mem_append.mpr (.inl h))
theorem Zd8 {l m:List Tm} {t:Tm} (h:t∈m):t∈norm (l++m):=mem_norm.mpr (List.mem_append.mpr (.inr h))
theorem Zd9 (l m:List Tm):(norm (l++m)).length<=l.length+m.length:=by have:=Yb6 (l:=l++m);rw[List.length_append] at this;exact this
theorem Zg5 {l:List Tm} (h:Okw l):Okw (norm l):=fun t a=>h t (mem_norm.mp a)
theorem Yz4 {R:Option Rl} {ws:List Tm} {g:Tm} {on:Option Tm} {nds:List Nd} (h:Zj4 R ws g on=some nds):nds.length<=2:=by
 cases R with
 | none =>
  cases on with
  | none=>cases h
  | some o =>
   have a:(if o∈ws then Zn4 ws g o none else none)=some nds:=h
   split at a<;>cases a
 | some r =>
  cases on with
  | none =>
   have a:Zp3 ws g r=some nds:=h;unfold Zp3 at a
   repeat' split at a
   all_goals first | cases a | skip
   all_goals simp
  | some o =>
   have a:(if o∈ws then Zn5 ws g o r else none)=some nds:=h
   by_cases hin:o∈ws
   ·rw[if_pos hin] at a
    unfold Zn5 at a
    repeat' split at a
    all_goals first | cases a | skip
    all_goals simp
   ·rw[if_neg hin] at a;cases a
noncomputable def lnD (l:Ln):PyData:=.tuple [.str l.x,.list (l.ws.map Tm.data),l.g.data,onD l.on,.list (l.ls.map PyData.int)]
theorem Yc4 {K:W.Frag} {H:Hp}:∀ ns:List Int,DnAll K H (ns.map V.int) (ns.map PyData.int)
 | []=>by show DnAll K H [] [];rw[DnAll]
 | n :: ns=>by
  show DnAll K H (V.int n :: ns.map V.int) (PyData.int n :: ns.map PyData.int);rw[DnAll];exact⟨_,_,rfl,by rw[Dn],Yc4 ns⟩
theorem IsLn.dn {K:W.Frag} {H:Hp} {v:V} {l:Ln} (h:IsLn K H v l):Dn K H v (lnD l):=by
 obtain⟨p,c,f,n,e,d,rfl,m,k,j,i,a,g⟩:=h;unfold lnD;rw[Dn];refine⟨p,_,rfl,m,?_⟩;rw[DnAll];refine⟨_,_,rfl,by rw[Dn],?_⟩;rw[DnAll];refine⟨_,_,rfl,?_,?_⟩
 ·rw[Dn];exact⟨c,d,rfl,SqL.of k,Zq7 j⟩
 rw[DnAll];refine⟨_,_,rfl,i,?_⟩;rw[DnAll];refine⟨_,_,rfl,?_,?_⟩
 ·cases ho:l.on with
  | none=>rw[ho] at a;have b:e=.non:=a;subst b;show Dn K H .non .none;rw[Dn]
  | some o=>rw[ho] at a;exact a.1
 rw[DnAll];refine⟨_,_,rfl,?_,by rw[DnAll]⟩;rw[Dn];exact⟨f,_,rfl,SqL.of g,Yc4 _⟩
theorem Xa3 {K:W.Frag} {H:Hp}:∀ {us:List V} {L:List Ln},IsLns K H us L->DnAll K H us (L.map lnD)
 | _,_,.nil=>by show DnAll K H [] [];rw[DnAll]
 | _,_,.cons h t=>by
  rw[List.map_cons,DnAll];exact⟨_,_,rfl,h.dn,Xa3 t⟩
theorem Xn8 {x:Str} {R:Option Rl} (h:RIs x R):(PyData.str x).canLay0=true:=by
 cases R with
 | some r=>have b:x=r.str:=h;subst b;cases r<;>decide +kernel
 | none =>
  have a:∀ x∈badN,(PyData.str x).canLay0=true:=by decide +kernel
  exact a x h
theorem Xa4 {K:W.Frag} {H:Hp} {us:List V} {L:List Ln} (h:IsLns K H us L) (ok:∀ l∈L,OkLn l):(PyData.list (L.map lnD)).depth<=103:=Zp0 (n:=102) fun d a=>by
 obtain⟨l,k,rfl⟩:=List.mem_map.mp a;have b:=ok l k;obtain⟨i,s,e⟩:=List.getElem_of_mem k;have z:=Paired.length h;obtain⟨B,c,q⟩:=paired_get h (List.getElem?_eq_getElem (show i < us.length by walk_at "o"));rw[List.getElem?_eq_getElem s,e] at c;cases c;obtain⟨p,v,A,J,y,u,_,I,G,F,D,m,C⟩:=q;show (PyData.tuple [.str l.x,.list (l.ws.map Tm.data),l.g.data,onD l.on,.list (l.ls.map PyData.int)]).depth<=102;have j:∀ f:List PyData,(∀ d∈f,d.depth<=101)->(PyData.tuple f).depth<=102:=fun f h=>Zp0 (n:=101) h;refine j _ fun d a=>?_;simp only[List.mem_cons,List.not_mem_nil,or_false] at a;rcases a with rfl | rfl | rfl | rfl | rfl
 ·exact Nat.zero_le _
 ·exact Yd8 fun t r=>by have:=(b.w t r).2;have:=Zc5 t;walk_at "o"
 ·rw[Tm.depth];have:=b.gp;have:=Zc5 l.g;walk_at "o"
 ·cases ho:l.on with
  | none=>exact Nat.zero_le _
  | some o=>rw[ho] at m;show o.data.depth<=101;rw[Tm.depth];have:=m.2.2;have:=Zc5 o;walk_at "o"
 ·exact Nat.le_trans (Zp0 (n:=0) fun d a=>by obtain⟨n,_,rfl⟩:=List.mem_map.mp a;exact Nat.le_refl _) (by decide)
theorem Wb9 {K:W.Frag} {H:Hp} {v:V} {l:Ln} (h:IsLn K H v l) (ok:OkLn l):(lnD l).canLay0=true:=by
 obtain⟨p,k,s,C,q,m,rfl,B,A,z,y,a,u⟩:=h;have j:(PyData.list (l.ws.map Tm.data)).canLay0=true:=Zm7 fun t b=>(ok.w t b).1;have i:=l.g.lay ok.g
 have f:(onD l.on).canLay0=true:=by
  cases ho:l.on with
  | none=>rfl
  | some o=>rw[ho] at a;exact o.lay a.2.1
 have e:(PyData.list (l.ls.map PyData.int)).canLay0=true:=Zn2 fun d c=>by obtain⟨n,_,rfl⟩:=List.mem_map.mp c;rfl
 show ((PyData.str l.x).canLay0&&((PyData.list (l.ws.map Tm.data)).canLay0&&(l.g.data.canLay0&&((onD l.on).canLay0&&((PyData.list (l.ls.map PyData.int)).canLay0&&true)))))=true;rw[Xn8 ok.r,j,i,f,e];rfl
theorem Xp1 {K:W.Frag} {H:Hp} {us:List V} {L:List Ln} (h:IsLns K H us L) (ok:∀ l∈L,OkLn l):(PyData.list (L.map lnD)).canLay0=true:=Zn2 fun d f=>by
 obtain⟨l,e,rfl⟩:=List.mem_map.mp f;obtain⟨i,b,rfl⟩:=List.getElem_of_mem e;have g:=Paired.length h;obtain⟨j,a,c⟩:=paired_get h (List.getElem?_eq_getElem (show i < us.length by walk_at "o"));rw[List.getElem?_eq_getElem b] at a;cases a;exact Wb9 c (ok _ (List.getElem_mem b))
theorem Xp2 (l:Ln):PyData.eqv (lnD l) (lnD l)=true:=by
 refine Zi4 (ds:=[.str l.x,.list (l.ws.map Tm.data),l.g.data,onD l.on,.list (l.ls.map PyData.int)]) fun d a=>?_;simp only[List.mem_cons,List.not_mem_nil,or_false] at a;rcases a with rfl | rfl | rfl | rfl | rfl
 ·exact Xg1 _
 ·exact Xf5 _
 ·rw[Tm.eqv];exact decide_eq_true rfl
 ·cases l.on with
  | none=>rfl
  | some o=>show PyData.eqv o.data o.data=true;rw[Tm.eqv];exact decide_eq_true rfl
 ·refine Zi4 fun d a=>?_
  obtain⟨n,_,rfl⟩:=List.mem_map.mp a;show ((n:Int) == n)=true;simp
theorem Yp5 (L:List Ln):PyData.eqv (.list (L.map lnD)) (.list (L.map lnD))=true:=Zi4 fun d a=>by
 obtain⟨l,_,rfl⟩:=List.mem_map.mp a;exact Xp2 l
end Ken
namespace L2
open PySem PySem.Spec PyProof.Rows
section
variable {X:Cx} {tg:Expr}
def Yj6:R2:=fun x y H Q=>∃ c,y=.bl c/\(∃ b,x=.bl b)/\Q (.bl (!decide (x=.bl c))) H
theorem Yy7:OpR X (compareOp .IsNot) Yj6:=by
 intro e s f H x y v u Q I d a h;obtain⟨c,rfl,⟨b,rfl⟩,q⟩:=h;cases (show u=Value.bool c from a);cases (show v=Value.bool b from d);refine wpAny_pure ⟨.bl (!decide (V.bl b=V.bl c)),H,I,?_,q⟩;show Value.bool (Value.bool b != Value.bool c)=Value.bool (!decide (V.bl b=V.bl c))
 cases b<;>cases c<;>rfl
end
end L2
namespace Ken
open PySem L2 PyProof.Rows
theorem Zx9 {xs:List V} {i:Nat} (h:i<=xs.length):cutV xs (some (i:Int)) none=xs.drop i:=by
 show List.take (xs.length - (if ((i:Nat):Int) < 0 then (((i:Nat):Int)+(xs.length:Int)).toNat else min ((i:Nat):Int).toNat xs.length)) (List.drop (if ((i:Nat):Int) < 0 then (((i:Nat):Int)+(xs.length:Int)).toNat else min ((i:Nat):Int).toNat xs.length) xs)=_;rw[if_neg (by walk_at "o"),show min ((i:Nat):Int).toNat xs.length=i by walk_at "o",List.take_of_length_le (by rw[List.length_drop];walk_at "o")]
theorem Yq8 {xs:List V} {i:Nat} (h:i < xs.length):cutV xs (some ((i:Int)+1)) none=xs.drop (i+1):=by
 have:=Zx9 (xs:=xs) (i:=i+1) (by walk_at "o");rw[show (((i+1:Nat)):Int)=(i:Int)+1 by walk_at "o"] at this;exact this
end Ken
namespace L2
open PySem
theorem Zz2 {X:Cx} {K:W.Frag} (e:X.K=K) (hu:X.A.units+150 < cLine):OpR X (compareOp .NotIn) (rInT K true):=e▸Zw5 hu
end L2
namespace Ken
open PySem L2
def Xm0 (C:Addr) (H:Hp) (E:XK) (n:Nat):Prop:=∀ e d H',Xtd H e (.ref C) (some d) H'->H' d=some (.xd [("line",.int (n:Nat))])->E (.ref e) (some d) H'
def Zv9 (C:Addr):Sp:=fun vs H Q _=>∃ (e:Addr) (i:Nat) (T:Option Addr),vs=[.ref e,.int (i:Nat)]/\i<=5000/\H e=some (ExcO e (.ref C) none T)/\∀ d,H d=none->d≠e->Q .non (upd (upd H d (.xd [("line",.int (i:Nat))])) e (ExcO e (.ref C) (some d) T))
theorem Xk8 {C ea:Addr} {n:Nat} {H:Hp} {E:XK} (hn:n<=5000) (hea:H ea=none) (q:Xm0 C H E n) :
  Zv9 C [.ref ea,.int (n:Nat)] (upd H ea (ExcO ea (.ref C) none none)) (fun r H2=>r=V.non/\∃ dd,H2 ea=some (ExcO ea (.ref C) dd none)/\(∀ d:Addr,dd=some d->d≠ea)/\Same H H2/\∀ H':Hp,Xtd H ea (.ref C) dd H'->(∀ (d:Addr) (o:HO),dd=some d->H2 d=some o->H' d=some o)->E (.ref ea) dd H') E0 :=
 ⟨ea,n,none,rfl,hn,Za3,fun d f a=>⟨rfl,some d,Za3,fun g e=>by cases e;exact a,((Za1 hea _).trans (Za1 f _)).write hea,fun H' b c=>q ea d H' b (c d _ rfl (by rw[Zc2 a,Za3]))⟩⟩
noncomputable def dueF (L:List Ln):Option Nat:=(List.range L.length).find? fun i=>!Zk1 L i
noncomputable def badL (L:List Ln):Option Nat:=if L=[] then some 0 else dueF L
theorem Zx8 {L:List Ln} (h:∀ i,i < L.length->Zk1 L i=true):dueF L=none:=by
 unfold dueF;rw[List.find?_eq_none];intro i a;rw[h i (List.mem_range.mp a)];decide
theorem Yh2 {L:List Ln} {n:Nat} (hn:n < L.length) (hb:Zk1 L n=false) (h:∀ i,i < n->Zk1 L i=true):dueF L=some n:=by
 unfold dueF;rw[List.find?_range_eq_some];exact⟨by rw[hb];rfl,List.mem_range.mpr hn,fun i a=>by rw[h i a];rfl⟩
def Yf0 (K:W.Frag) (C:Addr):Sp:=fun vs H Q E=>∃ (a:Addr) (us:List V) (L:List Ln),vs=[.ref a]/\H a=some (.lst us)/\IsLns K H us L/\(∀ l∈L,OkLn l)/\L.length<=200 /\
 (badL L=none->∀ H',Same H H'->Q (.bl true) H')/\(∀ n,badL L=some n->∀ H1,Same H H1->Xm0 C H1 E n)
def Wg7 (K:W.Frag) (H:Hp) (v:V) (n:Nat):Prop:=∃ p,v=.ref p/\SqT K H p [.str "bad",.int (n:Nat)]
def Yd2 (K:W.Frag) (H:Hp) (v:V):Option Nat->Prop
 | none=>v=.bl true
 | some n=>Wg7 K H v n
def Yw3 (K:W.Frag):Sp:=fun vs H Q _=>∃ (a:Addr) (us:List V) (L:List Ln),vs=[.ref a]/\H a=some (.lst us)/\IsLns K H us L/\(∀ l∈L,OkLn l)/\L.length<=200 /\
 ∀ (v:V) (H':Hp),Same H H'->Yd2 K H' v (dueF L)->Q v H'
def Yw5 (K:W.Frag):Sp:=fun vs H Q _=>∃ (a:Addr) (us:List V) (L:List Ln),vs=[.ref a]/\H a=some (.lst us)/\IsLns K H us L/\(∀ l∈L,OkLn l)/\L.length<=200 /\
 ∀ (v:V) (H':Hp),Same H H'->Yd2 K H' v (badL L)->Q v H'
def Yf2 (C:Addr):Sp:=fun vs H Q _=>∃ (e d:Addr) (T:Option Addr) (n:Nat),vs=[.ref e]/\H e=some (ExcO e (.ref C) (some d) T)/\H d=some (.xd [("line",.int (n:Nat))])/\∀ H',Same H H'->Q (.bl true) H'
structure OkS (n:Nat) (l:Ln):Prop where
 ok:OkLn l
 wl:l.ws.length<=10+3*n
 ll:l.ls.length<=10+3*n
theorem OkS.up {n:Nat} {l:Ln} (h:OkS n l):OkS (n+1) l:=⟨h.ok,by have:=h.wl;walk_at "o",by have:=h.ll;walk_at "o"⟩
def Ye8 (K:W.Frag):Sp:=fun vs H Q _=>∃ (a wa:Addr) (us:List V) (L:List Ln) (c:Int) (ws:List Str) (n:Nat),vs=[.ref a,.int c,.ref wa]/\H a=some (.lst us)/\IsLns K H us L/\(∀ l∈L,OkS n l)/\L≠[]/\L.length<=150/\n<=10/\0<=c/\SqL K H wa (ws.map V.str)/\Yi1 ws /\
 ∀ (r:Addr) (ys:List V) (M:List Ln) (H':Hp),Same H H'->H' r=some (.lst ys)->IsLns K H' ys M->(∀ l∈M,OkS (n+1) l)->M≠[]->M.length<=150->Q (.ref r) H'
structure SpL (K:W.Frag) (n b:Nat) (H H':Hp) (x:Str) (wv:Addr) (gv ov:V) (lv:Addr) (R:Option Rl) (us:List V) (ts:List Tm) (g:Tm) (on:Option Tm) (ls:List Int):Prop where
 e:Same H H'
 r:RIs x R
 h:H' wv=some (.lst us)
 p:Paired (IsT K H') us ts
 w:Okw ts
 wl:ts.length<=10+3*n+b
 t:IsT K H' gv g
 go:g.ok
 gp:g.parts<=100
 o:OnX K H' ov on
 l:H' lv=some (.lst (ls.map V.int))
 ll:ls.length<=10+3*n+b
theorem SpL.up {K:W.Frag} {n b:Nat} {H H':Hp} {x:Str} {wv:Addr} {gv ov:V} {lv:Addr} {R:Option Rl} {us:List V} {ts:List Tm} {g:Tm} {on:Option Tm} {ls:List Int} (h:SpL K n b H H' x wv gv ov lv R us ts g on ls):SpL K n (b+1) H H' x wv gv ov lv R us ts g on ls:=⟨h.e,h.r,h.h,h.p,h.w,Nat.le_trans h.wl (by walk_at "o"),h.t,h.go,h.gp,h.o,h.l,Nat.le_trans h.ll (by walk_at "o")⟩
theorem SpL.keep {K:W.Frag} {n b:Nat} {H H' H'':Hp} (s:Same H' H'') {x:Str} {wv:Addr} {gv ov:V} {lv:Addr} {R:Option Rl} {us:List V} {ts:List Tm} {g:Tm} {on:Option Tm} {ls:List Int} (h:SpL K n b H H' x wv gv ov lv R us ts g on ls):SpL K n b H H'' x wv gv ov lv R us ts g on ls:=⟨h.e.trans s,h.r,s _ _ h.h,Za7 s.keepT h.p,h.w,h.wl,h.t.keep s.keepT,h.go,h.gp,h.o.keep s.keepT,s _ _ h.l,h.ll⟩
def SpE (K:W.Frag) (n b:Nat) (H H':Hp) (x:Str) (wv:Addr) (gv ov:V) (lv:Addr):Prop:=∃ R us ts g on ls,SpL K n b H H' x wv gv ov lv R us ts g on ls
theorem SpE.up {K:W.Frag} {n b:Nat} {H H':Hp} {x:Str} {wv:Addr} {gv ov:V} {lv:Addr} (h:SpE K n b H H' x wv gv ov lv):SpE K n (b+1) H H' x wv gv ov lv:=by
 obtain⟨R,a,c,g,d,e,h⟩:=h;exact⟨R,a,c,g,d,e,h.up⟩
theorem SpL.wish {K:W.Frag} {n b b':Nat} {H H' H'':Hp} (s:Same H' H'') {x:Str} {wv wv':Addr} {gv ov:V} {lv:Addr} {R:Option Rl} {us us':List V} {ts ts':List Tm} {g:Tm} {on:Option Tm} {ls:List Int} (h:SpL K n b H H' x wv gv ov lv R us ts g on ls) (h1:H'' wv'=some (.lst us')) (h2:Paired (IsT K H'') us' ts') (h3:Okw ts') (h4:ts'.length<=10+3*n+b') (hb:b<=b'):SpE K n b' H H'' x wv' gv ov lv:=⟨R,us',ts',g,on,ls,h.e.trans s,h.r,h1,h2,h3,h4,h.t.keep s.keepT,h.go,h.gp,h.o.keep s.keepT,s _ _ h.l,Nat.le_trans h.ll (by walk_at "o")⟩
theorem SpL.lean {K:W.Frag} {n b b':Nat} {H H' H'':Hp} (s:Same H' H'') {x:Str} {wv:Addr} {gv ov:V} {lv lv':Addr} {R:Option Rl} {us:List V} {ts:List Tm} {g:Tm} {on:Option Tm} {ls ls':List Int} (h:SpL K n b H H' x wv gv ov lv R us ts g on ls) (h1:H'' lv'=some (.lst (ls'.map V.int))) (h4:ls'.length<=10+3*n+b') (hb:b<=b'):SpE K n b' H H'' x wv gv ov lv':=⟨R,us,ts,g,on,ls',h.e.trans s,h.r,s _ _ h.h,Za7 s.keepT h.p,h.w,Nat.le_trans h.wl (by walk_at "o"),h.t.keep s.keepT,h.go,h.gp,h.o.keep s.keepT,h1,h4⟩
theorem Yq5 (ts:List Tm):PyData.eqv (.list (ts.map Tm.data)) (.list [])=ts.isEmpty:=by
 cases ts<;>rfl
theorem Yq4 (ls:List Int):PyData.eqv (.list (ls.map PyData.int)) (.list [])=ls.isEmpty:=by
 cases ls<;>rfl
theorem Yc8 (ls:List Int) (h:ls≠[]):∃ ls':List Int,cutV (ls.map V.int) (some 1) none=ls'.map V.int/\ls'.length+1=ls.length:=by
 cases ls with
 | nil=>exact absurd rfl h
 | cons a ls=>exact⟨ls,(Zx9 (xs:=V.int a :: ls.map V.int) (i:=1) (by rw[List.length_cons];walk_at "o")).trans rfl,rfl⟩
theorem Zr7 (ls:List Int):cutV (ls.map V.int) none (some (-1))=ls.dropLast.map V.int:=by rw[Xc3,List.map_dropLast]
theorem Wd5 {α:Type} {xs:List α} {i:Nat} (h:i < xs.length):atI xs (i:Int)=some xs[i]:=Zd5 (List.getElem?_eq_getElem h)
end Ken
namespace Ken
noncomputable def Xo1 {α:Type} (a0 a1 a2 a3 a4 a5 a6 a7 a8 a9 aa ab ac ad:α):Rl->α
 | .wish=>a0 | .low=>a1 | .both=>a2 | .first=>a3 | .second=>a4 | .thn=>a5 | .parts=>a6 | .cases=>a7 | .known=>a8 | .curried=>a9 | .either=>aa | .idle=>ab | .chain=>ac | .use=>ad
@[elab_as_elim] theorem len1 {α:Type} {P:List α->Prop} {us:List α} (h:us.length=1) (k:∀ a0,P [a0]):P us:=match us,h with | [_],_=>k _
@[elab_as_elim] theorem len2 {α:Type} {P:List α->Prop} {us:List α} (h:us.length=2) (k:∀ a0 a1,P [a0,a1]):P us:=match us,h with | [_,_],_=>k _ _
@[elab_as_elim] theorem len3 {α:Type} {P:List α->Prop} {us:List α} (h:us.length=3) (k:∀ a0 a1 a2,P [a0,a1,a2]):P us:=match us,h with | [_,_,_],_=>k _ _ _
@[elab_as_elim] theorem len4 {α:Type} {P:List α->Prop} {us:List α} (h:us.length=4) (k:∀ a0 a1 a2 a3,P [a0,a1,a2,a3]):P us:=match us,h with | [_,_,_,_],_=>k _ _ _ _
@[elab_as_elim] theorem len5 {α:Type} {P:List α->Prop} {us:List α} (h:us.length=5) (k:∀ a0 a1 a2 a3 a4,P [a0,a1,a2,a3,a4]):P us:=match us,h with | [_,_,_,_,_],_=>k _ _ _ _ _
@[elab_as_elim] theorem len6 {α:Type} {P:List α->Prop} {us:List α} (h:us.length=6) (k:∀ a0 a1 a2 a3 a4 a5,P [a0,a1,a2,a3,a4,a5]):P us:=match us,h with | [_,_,_,_,_,_],_=>k _ _ _ _ _ _
end Ken
namespace L2
open PySem PySem.Spec PyProof.Rows
structure Cl (P:Program) (w:World) (K:W.Frag) (mg:Str->Option Value) (base:Heap) (k:Nat) (x:Str) (ps:List Str) (sp:Sp):Prop where
 ex:∃ (f:Addr) (fd:FuncData),FnOk P w K mg base CX0 k f fd ps sp/\mg x=some (.ref f)/\W.keepIn K (.ref f)=true/\Binds K fd ps []
structure Df (K:W.Frag) (mg:Str->Option Value) (x:Str) (st:Stmt) (ps:List Str):Prop where
 ex:∃ (f:Addr) (fd:FuncData),mg x=some (.ref f)/\Fun K x x st f fd/\W.keepIn K (.ref f)=true/\Binds K fd ps []
section
variable {P:Program} {w:World} {K:W.Frag} {mg:Str->Option Value} {base:Heap} {j k:Nat} {x:Str} {ps:List Str} {sp:Sp}
theorem Cl.of {f:Addr} {fd:FuncData} (G:FnOk P w K mg base CX0 k f fd ps sp) (m:mg x=some (.ref f)) (kp:W.keepIn K (.ref f)=true) (b:Binds K fd ps []):Cl P w K mg base k x ps sp:=⟨⟨f,fd,G,m,kp,b⟩⟩
theorem Cl.up (C:Cl P w K mg base j x ps sp) (h:j<=k):Cl P w K mg base k x ps sp:=by
 obtain⟨f,a,G,r⟩:=C.ex;exact⟨⟨f,a,G.mono h,r⟩⟩
theorem Df.ok {st:Stmt} {N:List Str} (D:Df K mg x st ps) (S:FnScope N ps (Za8 st)) (len:∀ vs H Q E,sp vs H Q E->vs.length=ps.length)
  (hbody:∀ (f:Addr) (cdv:Value) (A:Around) (outer:List Env) (s:Shared) (H:Hp) (vs:List V) (Q:VK) (E:XK),Room k (A.deeper (envOfC x (Za8 st) s.heap.objs.size f cdv))->sp vs H Q E ->
   ∃ t,PSs (cxOf CX0 P w K mg base N x (Za8 st) f cdv A outer s H E).nox (Ze0 st) t/\t { nx:=fun _ H'=>Q .non H',rt:=Q } (start N vs) H):Cl P w K mg base (k+1) x ps sp:=by
 obtain⟨f,c,m,F,a,b⟩:=D.ex;exact⟨⟨f,c,F.ok S len (hbody f),m,a,b⟩⟩
end
section
variable {X:Cx}
theorem Zb7 {k:Nat} {x:Str} {ps:List Str} {sp:Sp} {e:Expr} {es:List Expr} {t:TA} {p pos:Pos} (C:Cl X.prog X.w X.K X.mg X.base k x ps sp) (hr:Room k X.A) (ha:PA X (e :: es) t) (hg:Gl X x:=by exact rfl)
  (hdb:(x == ("__debug__":Str))=false:=by decide) (he:starEach (e :: es) X.env=(false,eval e X.env) :: starEach es X.env:=by rfl) (hpl:(backTo pos (starEach es X.env)).any (·.1)=false:=by rfl) :
  PE X (.Call (.Name x p) (e :: es) [] pos) (Zv7 sp [] E0 t):=by
 obtain⟨f,c,G,m,a,b⟩:=C.ex;exact Zl1 G hr hg m a b .nil Zy7 ha hdb he hpl
theorem pxt {a b:Expr} {ta tb:TE} {pos:Pos} (ha:PE X a ta) (hb:PE X b tb) (hs:Ym8 b:=by exact fun _ _=>rfl):PE X (.Subscript a b pos) (tOp (rIxT X.K) ta tb):=Zq4 Xl3 ha hb hs
theorem pxl {a b:Expr} {ta tb:TE} {pos:Pos} (ha:PE X a ta) (hb:PE X b tb) (hs:Ym8 b:=by exact fun _ _=>rfl):PE X (.Subscript a b pos) (tOp (rIxL X.K) ta tb):=Zq4 Xb1 ha hb hs
theorem pst (i:Nat) {x:Str} {e:Expr} {te:TE} {pos' pos:Pos} (hN:X.N.Nodup) (he:PE X e te) (hi:X.N[i]?=some x:=by exact rfl) (hx:Loc X.env.scope x:=by exact Or.inl rfl) (hs:swapsWith e (some (.Name x pos')) pos.line X.env=pure false:=by rfl) (hf:X.fn x=true∨X.env.scope.names.lookup x=some .local:=by first | exact .inl rfl | exact .inr rfl | assumption) :
  PS X (.Assign [.Name x pos'] e pos) (tAsg te (Zx6 i)):=Zg1 hN hi hx he hs hf
theorem ptc {a b:Expr} {ta tb:TE} {pos:Pos} {op:CmpOp} {r:R2} (ho:OpR X (compareOp op) r) (ha:PE X a ta) (hb:PE X b tb) (h:op≠.In:=by decide) (h2:op≠.NotIn:=by decide):PT X (.Compare a [op] [b] pos) (Zv2 (tOp r ta tb)):=Yk3 ho ha hb (Zn3 _ h h2)
end
theorem scm {N ps:List Str} {sc:Scope} (h:(decide (sc.kind=.function)&&(!sc.isCoroutine&&(!sc.isGenerator&&(decide N.Nodup&&(decide (N.take ps.length=ps)&&(ps.all (fun x=>decide (sc.names.lookup x=some .local∨sc.names.lookup x=some .cell))&&sc.names.all fun y=>decide (y.2≠.free)))))))=true):FnScope N ps sc:=by
 simp only[Bool.and_eq_true,decide_eq_true_eq,List.all_eq_true,Bool.not_eq_true'] at h;exact⟨h.1,h.2.1,h.2.2.1,h.2.2.2.1,h.2.2.2.2.1,h.2.2.2.2.2.1,h.2.2.2.2.2.2⟩
end L2
namespace Hd
open PySem PySem.W PySem.Calls PySem.Spec PyProof.Rows L2
section
variable {p:Program} {A:Ask} {K:Frag} {P:Params} {h:Heap} {mg:Str->Option Value} {x a b c d e f g:Str}
theorem df {ps:List Str} (X:K.In h) (G:h.Ns mainGlobals mg) (E:obsK p A K=valK p A P) (i:Nat) (hx:nm (stAt p i)=x) (hi:i∈A.fns)
  (hb:∀ kV dc pm an cd ct (us:List Value),us.length=ps.length->bindArgs (fnOf x x (Zf6 (stAt p i)) (Ze0 (stAt p i)) (Za8 (stAt p i)) .none kV dc pm an cd ct) ⟨us,[]⟩=pure (ps.zip us)):Df K mg x (stAt p i) ps:=by
 obtain⟨f,b,a,F⟩:=Xb7 hx (e_fn E hi);exact⟨⟨f,b,mg_of X G a,F,F.kp,F.binds hb⟩⟩
theorem nsx {f:Addr} (X:K.In h) (G:h.Ns mainGlobals mg) (E:obsK p A K=valK p A P) (i:Nat) (m:mg x=some (.ref f)) (hx:nm (stAt p i)=x:=by kernel_rfl) (hi:i∈A.fns:=by decide):nsIn K mainGlobals x=some (some (.ref f)):=by
 obtain⟨c,b,a,F⟩:=Xb7 hx (e_fn E hi);have e:=(mg_of X G a).symm.trans m;cases e;exact a
theorem lS {α:Type} {n:Nat} {us:List α} (h:us.length=n+1):∃ u t,us=u :: t/\t.length=n:=by
 cases us with
 | nil=>cases h
 | cons u t=>exact⟨u,t,rfl,Nat.succ.inj h⟩
theorem df1 (X:K.In h) (G:h.Ns mainGlobals mg) (E:obsK p A K=valK p A P) (i:Nat) (hx:nm (stAt p i)=x:=by kernel_rfl) (hi:i∈A.fns:=by decide)
  (hb:∀ kV dc pm an cd ct u1,bindArgs (fnOf x x (Zf6 (stAt p i)) (Ze0 (stAt p i)) (Za8 (stAt p i)) .none kV dc pm an cd ct) ⟨[u1],[]⟩=pure [(a,u1)]:=by intros;rfl):Df K mg x (stAt p i) [a] :=
 df X G E i hx hi fun kV dc pm an cd ct e c=>by
  obtain⟨u,d,rfl,b⟩:=lS c;cases List.length_eq_zero_iff.mp b;exact hb kV dc pm an cd ct u
theorem df2 (X:K.In h) (G:h.Ns mainGlobals mg) (E:obsK p A K=valK p A P) (i:Nat) (hx:nm (stAt p i)=x:=by kernel_rfl) (hi:i∈A.fns:=by decide)
  (hb:∀ kV dc pm an cd ct u1 u2,bindArgs (fnOf x x (Zf6 (stAt p i)) (Ze0 (stAt p i)) (Za8 (stAt p i)) .none kV dc pm an cd ct) ⟨[u1,u2],[]⟩=pure [(a,u1),(b,u2)]:=by intros;rfl):Df K mg x (stAt p i) [a,b] :=
 df X G E i hx hi fun kV dc pm an cd ct j e=>by
  obtain⟨u,g,rfl,d⟩:=lS e;obtain⟨v,f,rfl,c⟩:=lS d;cases List.length_eq_zero_iff.mp c;exact hb kV dc pm an cd ct u v
theorem df3 (X:K.In h) (G:h.Ns mainGlobals mg) (E:obsK p A K=valK p A P) (i:Nat) (hx:nm (stAt p i)=x:=by kernel_rfl) (hi:i∈A.fns:=by decide)
  (hb:∀ kV dc pm an cd ct u1 u2 u3,bindArgs (fnOf x x (Zf6 (stAt p i)) (Ze0 (stAt p i)) (Za8 (stAt p i)) .none kV dc pm an cd ct) ⟨[u1,u2,u3],[]⟩=pure [(a,u1),(b,u2),(c,u3)]:=by intros;rfl):Df K mg x (stAt p i) [a,b,c] :=
 df X G E i hx hi fun kV dc pm an cd ct m g=>by
  obtain⟨u,l,rfl,f⟩:=lS g;obtain⟨v,k,rfl,e⟩:=lS f;obtain⟨w,j,rfl,d⟩:=lS e;cases List.length_eq_zero_iff.mp d;exact hb kV dc pm an cd ct u v w
theorem df4 (X:K.In h) (G:h.Ns mainGlobals mg) (E:obsK p A K=valK p A P) (i:Nat) (hx:nm (stAt p i)=x:=by kernel_rfl) (hi:i∈A.fns:=by decide)
  (hb:∀ kV dc pm an cd ct u1 u2 u3 u4,bindArgs (fnOf x x (Zf6 (stAt p i)) (Ze0 (stAt p i)) (Za8 (stAt p i)) .none kV dc pm an cd ct) ⟨[u1,u2,u3,u4],[]⟩=pure [(a,u1),(b,u2),(c,u3),(d,u4)]:=by intros;rfl):Df K mg x (stAt p i) [a,b,c,d] :=
 df X G E i hx hi fun kV dc pm an cd ct q k=>by
  obtain⟨u,o,rfl,j⟩:=lS k;obtain⟨v,n,rfl,g⟩:=lS j;obtain⟨w,m,rfl,f⟩:=lS g;obtain⟨y,l,rfl,e⟩:=lS f;cases List.length_eq_zero_iff.mp e;exact hb kV dc pm an cd ct u v w y
theorem df5 (X:K.In h) (G:h.Ns mainGlobals mg) (E:obsK p A K=valK p A P) (i:Nat) (hx:nm (stAt p i)=x:=by kernel_rfl) (hi:i∈A.fns:=by decide)
  (hb:∀ kV dc pm an cd ct u1 u2 u3 u4 u5,bindArgs (fnOf x x (Zf6 (stAt p i)) (Ze0 (stAt p i)) (Za8 (stAt p i)) .none kV dc pm an cd ct) ⟨[u1,u2,u3,u4,u5],[]⟩=pure [(a,u1),(b,u2),(c,u3),(d,u4),(e,u5)]:=by intros;rfl):Df K mg x (stAt p i) [a,b,c,d,e] :=
 df X G E i hx hi fun kV dc pm an cd ct t m=>by
  obtain⟨u,s,rfl,l⟩:=lS m;obtain⟨v,r,rfl,k⟩:=lS l;obtain⟨w,q,rfl,j⟩:=lS k;obtain⟨y,o,rfl,g⟩:=lS j;obtain⟨z,n,rfl,f⟩:=lS g;cases List.length_eq_zero_iff.mp f;exact hb kV dc pm an cd ct u v w y z
theorem df6 (X:K.In h) (G:h.Ns mainGlobals mg) (E:obsK p A K=valK p A P) (i:Nat) (hx:nm (stAt p i)=x:=by kernel_rfl) (hi:i∈A.fns:=by decide)
  (hb:∀ kV dc pm an cd ct u1 u2 u3 u4 u5 u6,bindArgs (fnOf x x (Zf6 (stAt p i)) (Ze0 (stAt p i)) (Za8 (stAt p i)) .none kV dc pm an cd ct) ⟨[u1,u2,u3,u4,u5,u6],[]⟩=pure [(a,u1),(b,u2),(c,u3),(d,u4),(e,u5),(f,u6)]:=by intros;rfl):Df K mg x (stAt p i) [a,b,c,d,e,f] :=
 df X G E i hx hi fun kV dc pm an cd ct F o=>by
  obtain⟨u,D,rfl,n⟩:=lS o;obtain⟨v,C,rfl,m⟩:=lS n;obtain⟨w,B,rfl,l⟩:=lS m;obtain⟨y,t,rfl,k⟩:=lS l;obtain⟨z,s,rfl,j⟩:=lS k;obtain⟨q,r,rfl,g⟩:=lS j;cases List.length_eq_zero_iff.mp g;exact hb kV dc pm an cd ct u v w y z q
end
end Hd
namespace L2
open PySem PySem.Spec PyProof.Rows
def varM:Option (Option V)->Hp->VK->Prop
 | some (some v),H,Q=>Q v H
 | _,_,_=>False
def Ye0 (i:Nat):TE:=fun σ H Q=>varM σ[i]? H Q
theorem Zl3 {v:V} {H:Hp} {Q:VK}:varM (some (some v)) H Q=Q v H:=rfl
theorem Xm7 {o:Option (Option V)} {H:Hp} {Q:VK}:varM o H Q=∃ v,o=some (some v)/\Q v H:=propext ⟨fun h=>by
 unfold varM at h
 split at h
 ·exact⟨_,rfl,h⟩
 ·exact h.elim,fun⟨v,e,h⟩=>by rw[e];exact h⟩
theorem Xf8:Ye0=tVar:=by
 funext i σ H Q
 exact Xm7
def bM:V->Hp->(Bool->Hp->Prop)->Prop
 | .bl c,H,Q=>Q c H
 | _,_,_=>False
theorem Yu2 {c:Bool} {H:Hp} {Q:Bool->Hp->Prop}:bM (.bl c) H Q=Q c H:=rfl
theorem Xk0 {x:V} {H:Hp} {Q:Bool->Hp->Prop}:bM x H Q=∃ k,x=.bl k/\Q k H:=propext ⟨fun h=>by
 unfold bM at h
 split at h
 ·exact⟨_,rfl,h⟩
 ·exact h.elim,fun⟨v,e,h⟩=>by rw[e];exact h⟩
def Zq8 (t:TE):TT:=fun σ H Q=>t σ H fun x H1=>bM x H1 Q
theorem Ye2:Zq8=Zv2:=by
 funext t σ H Q
 show t σ H (fun x a=>bM x a Q)=t σ H _
 congr 1
 funext x a
 exact Xk0
def rI0M (g:Int->Int->V):R2
 | .int i,.int j,H,Q=>Q (g i j) H
 | _,_,_,_=>False
theorem Zo9 {g:Int->Int->V} {i j:Int} {H:Hp} {Q:VK}:rI0M g (.int i) (.int j) H Q=Q (g i j) H:=rfl
theorem Ya9 {g:Int->Int->V} {x y:V} {H:Hp} {Q:VK}:rI0M g x y H Q=∃ i j,x=.int i/\y=.int j/\Q (g i j) H:=propext ⟨fun h=>by
 unfold rI0M at h
 split at h
 ·exact⟨_,_,rfl,rfl,h⟩
 ·exact h.elim,fun⟨i,j,e,f,h⟩=>by rw[e,f];exact h⟩
theorem Zs6:rI0M=rI0:=by
 funext g x y H Q
 exact Ya9
def rIM (C:Int->Int->Prop) (g:Int->Int->V):R2
 | .int i,.int j,H,Q=>C i j/\Q (g i j) H
 | _,_,_,_=>False
theorem Zs5 {C:Int->Int->Prop} {g:Int->Int->V} {i j:Int} {H:Hp} {Q:VK}:rIM C g (.int i) (.int j) H Q=(C i j/\Q (g i j) H):=rfl
theorem Yo5 {C:Int->Int->Prop} {g:Int->Int->V} {x y:V} {H:Hp} {Q:VK}:rIM C g x y H Q=∃ i j,x=.int i/\y=.int j/\C i j/\Q (g i j) H:=propext ⟨fun h=>by
 unfold rIM at h
 split at h
 ·exact⟨_,_,rfl,rfl,h⟩
 ·exact h.elim,fun⟨i,j,e,f,h⟩=>by rw[e,f];exact h⟩
theorem Yx3:rIM=rI:=by
 funext C g x y H Q
 exact Yo5
section
variable {X:Cx}
theorem pvM (i:Nat) {x:Str} {pos:Pos} (hN:X.N[i]?=some x:=by rfl) (hv:Vis X.env.scope x:=by first | exact Or.inl rfl | exact Or.inr (Or.inl rfl) | exact Or.inr (Or.inr rfl)) (hd:(x == ("__debug__":Str))=false:=by decide)
  (hcd:(x == ("__classdict__":Str))=false:=by decide):PE X (.Name x pos) (Ye0 i):=Xf8▸Yx9 hN hv hd hcd
theorem ptcM {a b:Expr} {ta tb:TE} {pos:Pos} {op:CmpOp} {r:R2} (ho:OpR X (compareOp op) r) (ha:PE X a ta) (hb:PE X b tb) (h:op≠.In:=by decide) (h2:op≠.NotIn:=by decide):PT X (.Compare a [op] [b] pos) (Zq8 (tOp r ta tb)):=Ye2▸Yk3 ho ha hb (Zn3 _ h h2)
theorem Zi6 {a b:Expr} {ta tb:TE} {pos:Pos} {op:CmpOp} {r:R2} (ho:OpR X (compareOp op) r) (ha:PE X a ta) (hb:PE X b tb) (hm:behindInMarks op b=false):PT X (.Compare a [op] [b] pos) (Zq8 (tOp r ta tb)):=Ye2▸Yk3 ho ha hb hm
theorem Zd3:OpR X (binaryOp .Add) (rI0M fun i j=>.int (i+j)):=Zs6▸Xv9
theorem Zo2:OpR X (binaryOp .Sub) (rI0M fun i j=>.int (i - j)):=Zs6▸Xv3
theorem Zi9:OpR X (binaryOp .Mult) (rIM CMul fun i j=>.int (i*j)):=Yx3▸Xv4
theorem Zd0:OpR X (binaryOp .FloorDiv) (rIM CDiv fun i j=>.int (i / j)):=Yx3▸Xo7
theorem Zc6:OpR X (binaryOp .Mod) (rIM (fun _ j=>0 < j) fun i j=>.int (i % j)):=Yx3▸Xv5
theorem Zm0:OpR X (compareOp .Lt) (rI0M fun i j=>.bl (decide (i < j))):=Zs6▸Wf0
theorem Xv7:OpR X (compareOp .LtE) (rI0M fun i j=>.bl (decide (i<=j))):=Zs6▸Wf1
theorem Xl1:OpR X (compareOp .Gt) (rI0M fun i j=>.bl (decide (j < i))):=Zs6▸Wf2
theorem Xv8:OpR X (compareOp .GtE) (rI0M fun i j=>.bl (decide (j<=i))):=Zs6▸Wf3
end
section
variable {α β:Type} {a b:α} {l m:List α} {n:Nat}
theorem zmc {f:α->β}:(a :: l).map f=f a :: l.map f:=rfl
theorem zmn {f:α->β}:([]:List α).map f=[]:=rfl
theorem zlc:(a :: l).length=l.length+1:=rfl
theorem zln:([]:List α).length=0:=rfl
theorem zca:(a :: l)++m=a :: (l++m):=rfl
theorem zna:[]++m=m:=rfl
theorem zrs:List.replicate (n+1) a=a :: List.replicate n a:=rfl
theorem zrz:List.replicate 0 a=[]:=rfl
theorem zg0:(a :: l)[0]?=some a:=rfl
theorem zgs:(a :: l)[n+1]?=l[n]?:=rfl
theorem zgn:([]:List α)[n]?=none:=rfl
theorem zs0:(a :: l).set 0 b=b :: l:=rfl
theorem zss:(a :: l).set (n+1) b=a :: l.set n b:=rfl
theorem zjs {x:Option α}:(some x).join=x:=rfl
theorem zjn:(none:Option (Option α)).join=none:=rfl
end
end L2
namespace KLaw
open PySem L2 Ken
local macro_rules | `(tactic| walk_at "1")=>`(tactic| ((try dsimp only[Zv3,Yd9,Yx0,Yi7,tFi,Yj8,Yj6,Ye3,Ye1,Yv8,Zn7,Ye4,tFr,Yk1,Yk2,Yk0,Zv5,Zq0,tIf,rInT,iRev,Zv6,Ya5,Yc3,kApp,tSeq,tAsg,Zx6,tVar,tC,tOp,rI0,rI,rU,tUn,tRet,tIfS,Zv2,tB,Yv9,Ye5,tNil,tCB,Zv7,tTup,tLst,Xn1,tAnd,tOr,tNot,Yj0,tOrV,Yi9,tBM,tBM0,Zq1,rPop,rIxL,rIxT,rIxS,rCat,rEq,rNe,Yj7,tSl,rSlL,rSlS,Yi8,Zp6,Yj9,tFs,tFv,tFc,tF0,tKD,rIsi,rEqD,Zv4,rIn,Zp7,gTup,Xb6,gNil,Ym0,Yl9,Ym1,iZip,L2.start,capt,zmc,zmn,zlc,zln,zca,zna,zrs,zrz,Nat.reduceAdd,Nat.reduceSub,Nat.add_zero,Nat.sub_zero,zg0,zgs,zgn,zs0,zss,zjs,zjn,Ya2,Zs8,Yt8,Zz8,Ys6,Zm6,Ya1,Zp2,Yt9,Yu1,Ye0,Zl3,Zq8,Yu2,Zo9,Zs5]);(try simp only[Zv3,Yd9,Yx0,Yi7,tFi,Yj8,Yj6,Ye3,Ye1,Yv8,Zn7,Ye4,tFr,Yk1,Yk2,Yk0,Zv5,Zq0,tIf,rInT,iRev,Zv6,Ya5,Yc3,kApp,tSeq,tAsg,Zx6,tVar,tC,tOp,rI0,rI,rU,tUn,tRet,tIfS,Zv2,tB,Yv9,Ye5,tNil,tCB,Zv7,tTup,tLst,Xn1,tAnd,tOr,tNot,Yj0,tOrV,Yi9,tBM,tBM0,Zq1,rPop,rIxL,rIxT,rIxS,rCat,rEq,rNe,Yj7,tSl,rSlL,rSlS,Yi8,Zp6,Yj9,tFs,tFv,tFc,tF0,tKD,rIsi,rEqD,Zv4,rIn,Zp7,gTup,Xb6,gNil,Ym0,Yl9,Ym1,iZip,L2.start,capt,zmc,zmn,zlc,zln,zca,zna,zrs,zrz,Nat.reduceAdd,Nat.reduceSub,Nat.add_zero,Nat.sub_zero,zg0,zgs,zgn,zs0,zss,zjs,zjn,Ya2,Zs8,Yt8,Zz8,Ys6,Zm6,Ya1,Zp2,Yt9,Yu1,Ye0,Zl3,Zq8,Yu2,Zo9,Zs5,List.append_nil,Nat.zero_add,Option.some.injEq,V.int.injEq,V.str.injEq,V.ref.injEq,V.bl.injEq,V.ty.injEq,List.cons.injEq,and_true,true_and,exists_eq_left',exists_eq_left,exists_and_left,exists_eq,exists_eq',and_assoc,Zu0,Zc7,Yj3,decide_eq_true_eq,Xk0,Ya9,Yo5])))
local macro_rules | `(tactic| walk_at "2")=>`(tactic| ((try dsimp only[Zv3,Yd9,Yx0,Yi7,tFi,Yj8,Yj6,Ye3,Ye1,Yv8,Zn7,Ye4,tFr,Yk1,Yk2,Yk0,Zv5,Zq0,tIf,rInT,iRev,Zv6,Ya5,Yc3,kApp,tFor,tLC,tVar,tC,tOp,rI0,rI,rU,tUn,Zv2,tB,Ye5,tNil,tCB,Zv7,tTup,tLst,tAnd,tOr,tNot,Yj0,tOrV,Yi9,tBM,tBM0,Zq1,rPop,rIxL,rIxT,rIxS,rCat,rEq,rNe,Yj7,tSl,rSlL,rSlS,Yi8,Zp6,Yj9,tFs,tFv,tFc,tF0,tKD,rIsi,rEqD,Zv4,rIn,Zp7,Ym0,Yl9,Ym1,iZip,L2.start,capt,zmc,zmn,zlc,zln,zca,zna,zrs,zrz,Nat.reduceAdd,Nat.reduceSub,Nat.add_zero,Nat.sub_zero,zg0,zgs,zgn,zs0,zss,zjs,zjn,Ya2,Zs8,Yt8,Zz8,Ys6,Zm6,Ya1,Zp2,Yt9,Yu1,Ye0,Zl3,Zq8,Yu2,Zo9,Zs5]);(try simp only[Zv3,Yd9,Yx0,Yi7,tFi,Yj8,Yj6,Ye3,Ye1,Yv8,Zn7,Ye4,tFr,Yk1,Yk2,Yk0,Zv5,Zq0,tIf,rInT,iRev,Zv6,Ya5,Yc3,kApp,tFor,tLC,tVar,tC,tOp,rI0,rI,rU,tUn,Zv2,tB,Ye5,tNil,tCB,Zv7,tTup,tLst,tAnd,tOr,tNot,Yj0,tOrV,Yi9,tBM,tBM0,Zq1,rPop,rIxL,rIxT,rIxS,rCat,rEq,rNe,Yj7,tSl,rSlL,rSlS,Yi8,Zp6,Yj9,tFs,tFv,tFc,tF0,tKD,rIsi,rEqD,Zv4,rIn,Zp7,Ym0,Yl9,Ym1,iZip,L2.start,capt,zmc,zmn,zlc,zln,zca,zna,zrs,zrz,Nat.reduceAdd,Nat.reduceSub,Nat.add_zero,Nat.sub_zero,zg0,zgs,zgn,zs0,zss,zjs,zjn,Ya2,Zs8,Yt8,Zz8,Ys6,Zm6,Ya1,Zp2,Yt9,Yu1,Ye0,Zl3,Zq8,Yu2,Zo9,Zs5,List.append_nil,Nat.zero_add,Option.some.injEq,V.int.injEq,V.str.injEq,V.ref.injEq,V.bl.injEq,V.ty.injEq,List.cons.injEq,and_true,true_and,exists_eq_left',exists_eq_left,exists_and_left,exists_eq,exists_eq',and_assoc,Zu0,Zc7,Yj3,decide_eq_true_eq,Xk0,Ya9,Yo5])))
local macro_rules | `(tactic| walk_at "3")=>`(tactic| ((try dsimp only[Yd9,Yi7,tFi,Yj8,Yj6,Zn7,Ye4,tFr,Yk1,Yk2,Yk0,Zv5,Zq0,tIf,rInT,iRev,Zv6,Ya5,Yc3,kApp,Zx6,tVar,tC,tOp,rI0,rI,rU,tUn,tIfS,Zv2,tB,Yv9,Ye5,tNil,tCB,Zv7,tTup,tLst,tAnd,tOr,tNot,Yj0,tOrV,Yi9,tBM,tBM0,Zq1,rPop,rIxL,rIxT,rIxS,rCat,rEq,rNe,Yj7,tSl,rSlL,rSlS,Yi8,Zp6,Yj9,tFs,tFv,tFc,tF0,tKD,rIsi,rEqD,Zv4,rIn,Zp7,gTup,Xb6,gNil,Ym0,Yl9,Ym1,iZip,L2.start,capt,zmc,zmn,zlc,zln,zca,zna,zrs,zrz,Nat.reduceAdd,Nat.reduceSub,Nat.add_zero,Nat.sub_zero,zg0,zgs,zgn,zs0,zss,zjs,zjn,Ya2,Zs8,Yt8,Zz8,Ys6,Zm6,Ya1,Zp2,Yt9,Yu1,Ye0,Zl3,Zq8,Yu2,Zo9,Zs5]);(try simp only[Yd9,Yi7,tFi,Yj8,Yj6,Zn7,Ye4,tFr,Yk1,Yk2,Yk0,Zv5,Zq0,tIf,rInT,iRev,Zv6,Ya5,Yc3,kApp,Zx6,tVar,tC,tOp,rI0,rI,rU,tUn,tIfS,Zv2,tB,Yv9,Ye5,tNil,tCB,Zv7,tTup,tLst,tAnd,tOr,tNot,Yj0,tOrV,Yi9,tBM,tBM0,Zq1,rPop,rIxL,rIxT,rIxS,rCat,rEq,rNe,Yj7,tSl,rSlL,rSlS,Yi8,Zp6,Yj9,tFs,tFv,tFc,tF0,tKD,rIsi,rEqD,Zv4,rIn,Zp7,gTup,Xb6,gNil,Ym0,Yl9,Ym1,iZip,L2.start,capt,zmc,zmn,zlc,zln,zca,zna,zrs,zrz,Nat.reduceAdd,Nat.reduceSub,Nat.add_zero,Nat.sub_zero,zg0,zgs,zgn,zs0,zss,zjs,zjn,Ya2,Zs8,Yt8,Zz8,Ys6,Zm6,Ya1,Zp2,Yt9,Yu1,Ye0,Zl3,Zq8,Yu2,Zo9,Zs5,List.append_nil,Nat.zero_add,Option.some.injEq,V.int.injEq,V.str.injEq,V.ref.injEq,V.bl.injEq,V.ty.injEq,List.cons.injEq,and_true,true_and,exists_eq_left',exists_eq_left,exists_and_left,exists_eq,exists_eq',and_assoc,Zu0,Zc7,Yj3,decide_eq_true_eq,Xk0,Ya9,Yo5])))
noncomputable def top (i:Nat):Stmt:=pg.main.body.getD i (.Pass ⟨0,0,0,0⟩)
theorem sc_ap0:FnScope ["_law_cell_here","_law_k","_law_first"] ["_law_cell_here","_law_k"] (Za8 (top 49)):=scm (by decide +kernel)
theorem sc_ag0:FnScope ["_law_script","_law_k","_law_cell_here"] ["_law_script","_law_k"] (Za8 (top 50)):=scm (by decide +kernel)
theorem sc_ay0:FnScope ["_law_cell_here","_law_small","_law_size","_law_at","_law_stem","_law_signs","_law_first","_law_found_here","_law_k","_law_sign"] ["_law_cell_here"] (Za8 (top 51)):=scm (by decide +kernel)
section
variable {P:Program} {w:World} {K:W.Frag} {mg:Str->Option Value} {base:Heap}
theorem Yz0 {k:Nat} {f_ap0:Addr} {fd_ap0:FuncData} (F_ap0:Fun K "_law_mix" "_law_mix" (top 49) f_ap0 fd_ap0):FnOk P w K mg base CX0 (k+1) f_ap0 fd_ap0 ["_law_cell_here","_law_k"] Zp4:=by
 refine F_ap0.ok sc_ap0 (fun a H Q E h=>?_) (fun _ A _ s H a Q E b h=>?_)
 ·obtain⟨c,k,rfl,_⟩:=h
  rfl
 obtain⟨c,k,rfl,e,d,q⟩:=h
 refine⟨_,(Za4 (pst 2 sc_ap0.nd (Zb4 Zc6 (Zb4 Zi9 (Zb4 Zd3 (pvM 0) Za5) (Zb4 Zd3 Za5 (Zb4 Zi9 Za5 (pvM 1)))) Za5))
 (Za6 (Zb1 (Zb4 Zc6 (Zb4 Zd3 (Zb4 Zd3 (Zb4 Zi9 (Zb4 Zd0 (pvM 2) Za5) Za5) (Zb4 Zi9 (pvM 2) (Zb4 Zd3 (Zb4 Zi9 (pvM 1) (pvM 1)) Za5))) (pvM 1)) Za5)))),?_⟩
 walk_at "1";have g:0<=(c+1)*(48271+118*k) % 2147483629:=Int.emod_nonneg _ (by decide);have f:(c+1)*(48271+118*k) % 2147483629 < 2147483629:=Int.emod_lt_of_pos _ (by decide);refine⟨Zk8 (by decide) (by decide),Zw9 (by walk_at "o") (by walk_at "o"),by decide,⟨by decide,by decide⟩,Zw9 (by decide) (by decide),Zk8 (by walk_at "o") (by walk_at "o"),Zk8 (by walk_at "o") (by walk_at "o"),by decide,?_⟩;exact q
theorem Wa5 {k:Nat} (F_ag0:Df K mg "_law_cell" (top 50) ["_law_script","_law_k"]) (C__law_mix:Cl P w K mg base k "_law_mix" ["_law_cell_here","_law_k"] (Zp4)) (m_len:mg "len"=none):Cl P w K mg base (k+1) "_law_cell" ["_law_script","_law_k"] (Yj2 K):=by
 refine F_ag0.ok sc_ag0 (fun g H Q E h=>?_) (fun _ _ A _ s H g Q E i h=>?_)
 ·obtain⟨a,b,k,rfl,_⟩:=h
  rfl
 obtain⟨a,b,j,rfl,f,m,o,n,q⟩:=h
 refine⟨_,(Za4 (pst 2 sc_ag0.nd Za5)
 (Za4 (Zc4 (ptcM (Zm0) (pvM 1) (Zc1 Zb8 (by exact rfl) m_len Zd2 (Za0 (pvM 0) Za2)))
  (Za6 (pst 2 sc_ag0.nd (Zb4 Zc6 (pxl (pvM 0) (pvM 1)) Za5)))
  Zb2)
 (Za6 (Zb1 (Zb7 C__law_mix i (Za0 (pvM 2) (Za0 (Zb4 Zd3 (pvM 1) Za5) Za2))))))),?_⟩
 walk_at "1";refine⟨_,.inl f,?_⟩;rw[List.length_map];have e:cellOf b j=mix (if j < (b.length:Int) then (b[j.toNat]?.getD 0) % 2147483647 else 0) (j+101):=rfl;refine ite2 (fun c=>?_) (fun c=>?_)
 ·rw[if_pos c] at e
  have d:j.toNat < b.length:=by walk_at "o"
  refine⟨_,f,V.int (b[j.toNat]),?_,_,rfl,by decide,?_⟩
  ·have l:j=((j.toNat:Nat):Int):=by walk_at "o"
   have q:atI (b.map V.int) ((j.toNat:Nat):Int)=some (.int b[j.toNat]):=Zd5 (by rw[List.getElem?_map,List.getElem?_eq_getElem d]<;>rfl);rw[<- l] at q;exact q
  ·rw[List.getElem?_eq_getElem d] at e
   rw[e] at q;exact⟨_,_,rfl,by walk_at "o",by walk_at "o",q⟩
 ·rw[if_neg c] at e
  rw[e] at q;exact⟨_,_,rfl,by walk_at "o",by walk_at "o",q⟩
theorem sc_bq0:FnScope ["one","other","waiting","first","second"] ["one","other"] (Za8 (top 16)):=scm (by decide +kernel)
theorem Xx0 {k:Nat} (F_bq0:Df K mg "compared" (top 16) ["one","other"]) {aPAIRED:Addr} (m_PAIRED:mg "PAIRED"=some (.ref aPAIRED)) (t_PAIRED:∀ H,SqT K H aPAIRED [.str "both",.str "one",.str "then"]):Cl P w K mg base (k+1) "compared" ["one","other"] (Zh6 K):=by
 refine F_bq0.ok sc_bq0 (fun vs H Q E h=>?_) (fun _ _ A _ s H vs Q E hr h=>?_)
 ·obtain⟨v,u,a,b,rfl,_⟩:=h
  rfl
 obtain⟨v,u,a,b,rfl,hv,hu,oa,ob,G,q⟩:=h
 refine⟨_,(Za4 (pst 2 sc_bq0.nd (Zb5 (Za0 (Zb3 (Za0 (pvM 0) (Za0 (pvM 1) Za2))) Za2)))
 (Za4 (Yo6 PassesOwn.never (Yb0 (pvM 2) (fun _=>rfl))
  (Za4 (Zr3 (Xv2 F.plainAttrs_list F.slot_list_pop F.type_list_pop Wb4 (pvM 2)) (Zo0 rfl (Zc0 (Zb6 (i:=3) sc_bq0.nd rfl (Or.inl rfl)) (Zc0 (Zb6 (i:=4) sc_bq0.nd rfl (Or.inl rfl)) Zh9))))
 (Za4 (Zc4 (ptcM (Zw6) (pxt (pvM 3) Za5) (pxt (pvM 4) Za5))
  (Za6 (Zb1 (Zk4 (ptcM (Yy8) (pxt (pvM 3) Za5) (pxt (pvM 4) Za5)) (Yy0 Yd5 Za5) Za5)))
  Zb2)
 (Za6 (Zc4 (Zi6 (Zw8) (pxt (pvM 3) Za5) (Zh3 (v:=.ref aPAIRED) (by exact rfl) m_PAIRED (by exact rfl)) (by with_unfolding_all rfl))
  (Za4 (Zq2 (Yk5 F.plainAttrs_list F.slot_list_append F.type_list_append Zj5 (pvM 2) (Za0 (Zb3 (Za0 (pxt (pvM 3) Za5) (Za0 (pxt (pvM 4) Za5) Za2))) Za2)))
 (Za6 (Zq2 (Yk5 F.plainAttrs_list F.slot_list_append F.type_list_append Zj5 (pvM 2) (Za0 (Zb3 (Za0 (pxt (pvM 3) Za5) (Za0 (pxt (pvM 4) Za5) Za2))) Za2)))))
  (Za6 (Zc4 (ptcM (Zo3 (Ze1 hr)) (pvM 3) (pvM 4))
  (Za6 (Zb1 (Zk4 (ptcM (Xv6 (Nat.lt_of_succ_lt (Wf9 hr))) (pvM 3) (pvM 4)) (Yy0 Yd5 Za5) Za5)))
  Zb2)))))))
 (Za6 (Zb1 Za5)))),?_⟩
 refine sqt (fun f o=>∃ l z,f=[some v,some u,some (.ref l),none,none]/\Same H o/\H l=none/\o l=some (.lst [z])/\IsP K o z (a,b)) ?_ ?_
 ·intro C hC
  walk_at "1";refine⟨by decide,fun p G=>⟨by decide,fun J j5=>?_⟩⟩;have s1:=Za1 G (HO.tup [v,u]);have Z:=Za1 j5 (HO.lst [V.ref p]);have S:=s1.trans Z;exact hC _ _ ⟨J,.ref p,rfl,S,s1.free j5,Za3,p,v,u,rfl,Z.sqt (.inl (.inl Za3)),hv.keep S.keepT,hu.keep S.keepT⟩
 rintro y2 H1 ⟨l,z,rfl,e1,f1,h1,hz⟩;refine sqt (fun f o=>Same H o/\CmpI a b []) ?_ ?_
 ·intro C hC
  refine⟨fun m f o=>∃ (x3 x4:Option V) (zs:List V) (c:List (Tm×Tm)),m=sumF c/\f=[some v,some u,some (.ref l),x3,x4]/\Same H o/\o l=some (.lst zs)/\Paired (IsP K o) zs c.reverse/\CmpI a b c/\(∀ p∈c,p.1.ok/\p.2.ok)/\sumF c<=400,
   ⟨_,none,none,[z],[(a,b)],rfl,rfl,e1,h1,.cons hz .nil,CmpI.start a b,fun p G=>by rw[List.mem_singleton.mp G];exact⟨oa,ob⟩,?_⟩,?_⟩
  ·rw[Zh1];show a.parts+0<=400;walk_at "o"
  rintro m y0 H2 ⟨x3,x4,zs,c,rfl,rfl,e2,h2,q3,hI,j6,q4⟩;refine⟨!zs.isEmpty,.inl ⟨zs,SqL.of h2,rfl⟩,?_⟩;show (if _=true then _ else _)
  cases c with
  | nil =>
   cases q3;rw[if_neg (by decide)];exact hC _ _ ⟨e2,hI⟩
  | cons pr c =>
  obtain⟨Y,X⟩:=pr;rw[List.reverse_cons] at q3;obtain⟨n,z',rfl,M,q',xv,yv,rfl,j4,hx,hy⟩:=Zt2 q3;rw[if_pos (by cases n<;>rfl)];refine opqC fun N hN=>?_;have lz:=Paired.length M;rw[List.length_reverse] at lz;rw[Zh1] at q4;have y5:=Yp6 c;have j:=j6 (Y,X) List.mem_cons_self;have q6:∀ p∈c,p.1.ok/\p.2.ok:=fun p G=>j6 p (List.mem_cons_of_mem _ G);refine sqt (fun f O=>f=[some v,some u,some (.ref l),some xv,some yv]/\Same H O/\IsT K O xv Y/\IsT K O yv X/\O l=some (.lst n)/\Paired (IsP K O) n c.reverse) ?_ ?_
  ·intro C' j0
   have k1:KeepT K H2 (upd H2 l (.lst n)):=Zg4 h2;walk_at "1";refine⟨.inl ⟨rfl,_,SqL.of h2⟩,_,h2,.ref q',by simp,?_⟩;rw[List.dropLast_concat];exact⟨q',rfl,_,k1 _ _ j4,rfl,_,_,rfl,_,_,rfl,rfl,j0 _ _ ⟨rfl,e2.write f1,hx.keep k1,hy.keep k1,Za3,Paired.mapP M fun _ _ z=>z.keep k1⟩⟩
  clear j4 hx hy M;rintro z9 O ⟨rfl,e3,D,B,q9,q2⟩;obtain⟨J,c1,y4,A1,rfl,q5,r⟩:=Zn1 D;obtain⟨p2,c2,y3,A2,rfl,j3,d⟩:=Zn1 B;refine sqt (fun f o=>f=[some v,some u,some (.ref l),some (.ref J),some (.ref p2)]/\o=O/\c1=c2) ?_ ?_
  ·intro C' j0
   walk_at "1";refine⟨_,q5,_,at0 _ _,_,j3,_,at0 _ _,rfl,?_⟩
   by_cases hc:c1=c2
   ·rw[if_neg (by simpa using hc)]
    exact j0 _ _ ⟨rfl,rfl,hc⟩
   ·rw[if_pos (by simpa using hc)]
    refine⟨_,q5,_,at0 _ _,_,j3,_,at0 _ _,c1,rfl,c2,rfl,?_⟩;have hd:=hI.diff r d hc;have g:=q _ e3;rw[hd] at g
    by_cases hh:c1.cps.toList < c2.cps.toList
    ·rw[if_pos hh]
     rw[if_pos (show sLt c1 c2=true from decide_eq_true hh)] at g;exact g
    ·rw[if_neg hh]
     rw[if_neg (show ¬ sLt c1 c2=true from fun z=>hh (of_decide_eq_true z))] at g;exact g
  rintro z8 H4 ⟨rfl,rfl,hc⟩
  ·subst hc
   have q1:Y=X->N [some v,some u,some (.ref l),some (.ref J),some (.ref p2)] H4:=fun e=>by
    subst e;have:=Y.parts_pos;exact hN _ _ ⟨sumF c,by rw[Zh1];show _ < Y.parts+_;walk_at "o",some (.ref J),some (.ref p2),n,c,rfl,rfl,e3,q9,q2,hI.leaf,q6,by walk_at "o"⟩
   walk_at "3";refine⟨_,q5,_,at0 _ _,_,.inr (t_PAIRED H4),rfl,rfl,?_⟩;rw[if_neg Bool.false_ne_true]
   cases Y with
   | low =>
    cases r;rw[if_neg (by decide)]
    cases X with
    | low =>
     refine⟨_,D,_,B,Tm.lay .low trivial,Tm.lay .low trivial,by decide,?_⟩;rw[if_pos trivial,Tm.eqv,decide_eq_true rfl,if_neg (by decide)];exact q1 rfl
    | ltr y=>cases d
    | nd kd x y=>rw[Zc3] at d;cases kd<;>cases d
   | ltr x1 =>
    cases r;rw[if_neg (by decide)]
    cases X with
    | low=>cases d
    | ltr y1 =>
     refine⟨_,D,_,B,Tm.lay _ j.1,Tm.lay _ j.2,by show min 1 1<=150;decide,?_⟩;rw[if_pos trivial,Tm.eqv]
     by_cases exy:x1=y1
     ·subst exy
      rw[decide_eq_true rfl,if_neg (by decide)];exact q1 rfl
     ·rw[decide_eq_false (fun z=>exy (by cases z;rfl)),if_pos (by decide)]
      obtain⟨r1,j2,W⟩:=isT_ltr.mp D;obtain⟨r2,j1,U⟩:=isT_ltr.mp B;cases j2;cases j1;have hd:=hI.diffW exy;have g:=q _ e3;walk_at "1";refine⟨J,p2,["letter",x1],["letter",y1],rfl,rfl,W,U,_,rfl,?_⟩;rw[hd] at g
      cases hh:lexT ["letter",x1] ["letter",y1] with
      | true=>rw[hh,if_pos rfl] at g;rw[if_pos rfl];exact g
      | false=>rw[hh,if_neg (by decide)] at g;rw[if_neg (by decide)];exact g
    | nd kd x y=>rw[Zc3] at d;cases kd<;>cases d
   | nd kd x y =>
    rw[Zc3] at r;cases r;rw[if_pos (by cases kd<;>decide)]
    cases X with
    | low=>cases kd<;>cases d
    | ltr y1=>cases kd<;>cases d
    | nd kd' x' y' =>
     rw[Zc3] at d
     have ek:kd=kd':=by
      have:=(List.cons.inj d).1
      cases kd<;>cases kd'<;>first | rfl | (exact absurd this (by decide))
     subst ek;obtain⟨r1,va,vb,j2,W,z5,z3⟩:=isT_nd.mp D;obtain⟨r2,T,R,j1,U,z4,z2⟩:=isT_nd.mp B;cases j2;cases j1;have pn:(Tm.nd kd x y).parts=1+x.parts+y.parts:=rfl;rw[pn] at q4;refine sqt (fun f I=>∃ L,f=[some v,some u,some (.ref l),some (.ref J),some (.ref p2)]/\Same H I/\KeepT K H4 I/\I l=some (.lst (n++[.ref L]))/\SqT K I L [vb,R]) ?_ ?_
     ·intro C2 z7
      walk_at "1";refine⟨.inl ⟨rfl,_,SqL.of q9⟩,_,W,vb,rfl,_,U,R,rfl,by decide,fun L z1=>?_⟩;have s1:=Za1 z1 (HO.tup [vb,R]);have q8:=s1 _ _ q9;exact⟨_,q8,small1M (by walk_at "o"),z7 _ _ ⟨L,rfl,(e3.trans s1).write f1,s1.keepT.trans (Zg4 q8),Za3,Zg4 q8 _ _ (.inl (.inl Za3))⟩⟩
     rintro j8 I ⟨L,rfl,e5,k5,j7,j9⟩;walk_at "1";refine⟨.inl ⟨rfl,_,SqL.of j7⟩,_,k5 _ _ W,va,rfl,_,k5 _ _ U,T,rfl,by decide,fun n2 z0=>?_⟩;have Z:=Za1 z0 (HO.tup [va,T]);have q7:=Z _ _ j7;have k7:KeepT K I (upd (upd I n2 (HO.tup [va,T])) l (HO.lst (n++[V.ref L]++[V.ref n2]))):=Z.keepT.trans (Zg4 q7);have t:=k5.trans k7;refine⟨_,q7,small1M (by rw[List.length_append,List.length_singleton];walk_at "o"),hN _ _ ⟨sumF ((x,x') :: (y,y') :: c),?_,_,_,_,(x,x') :: (y,y') :: c,rfl,rfl,(e5.trans Z).write f1,Za3,?_,hI.pair,fun p G=>?_,?_⟩⟩
     ·rw[Zh1,Zh1,Zh1];show x.parts+(y.parts+sumF c) < (1+x.parts+y.parts)+sumF c;walk_at "o"
     ·rw[List.reverse_cons,List.reverse_cons]
      exact Zc8 (Zc8 (Paired.mapP q2 fun _ _ z=>z.keep t) (.cons ⟨L,vb,R,rfl,k7 _ _ j9,z3.keep t,z2.keep t⟩ .nil)) (.cons ⟨n2,va,T,rfl,Zg4 q7 _ _ (.inl (.inl Za3)),z5.keep t,z4.keep t⟩ .nil)
     ·rcases List.mem_cons.mp G with z | z
      ·rw[z];exact⟨j.1.1,j.2.1⟩
      ·rcases List.mem_cons.mp z with z | z
       ·rw[z];exact⟨j.1.2,j.2.2⟩
       ·exact q6 p z
     ·rw[Zh1,Zh1];show x.parts+(y.parts+sumF c)<=400;walk_at "o"
 rintro j8 I ⟨e5,z6⟩;walk_at "1";have g:=q _ e5;rw[z6.done] at g;exact g
theorem sc_by0:FnScope ["wishes","statement","least","most","half"] ["wishes","statement"] (Za8 (top 19)):=scm (by decide +kernel)
theorem sc_az0:FnScope ["wishes","statement","at"] ["wishes","statement"] (Za8 (top 20)):=scm (by decide +kernel)
theorem sc_ca0:FnScope ["wishes","statement","at"] ["wishes","statement"] (Za8 (top 21)):=scm (by decide +kernel)
theorem sc_bv0:FnScope ["wishes","some","told","statement","at"] ["wishes","some"] (Za8 (top 22)):=scm (by decide +kernel)
theorem Xj4 {xs:List V} {i:Nat} (h:i+1<=xs.length):cutV xs (some ((i:Int)+1)) none=xs.drop (i+1):=by
 have e:((i:Int)+1)=((i+1:Nat):Int):=by walk_at "o"
 rw[e];show List.take (xs.length - (if ((i+1:Nat):Int) < 0 then (((i+1:Nat):Int)+(xs.length:Int)).toNat else min ((i+1:Nat):Int).toNat xs.length)) (List.drop (if ((i+1:Nat):Int) < 0 then (((i+1:Nat):Int)+(xs.length:Int)).toNat else min ((i+1:Nat):Int).toNat xs.length) xs)=_;rw[if_neg (by walk_at "o"),Int.toNat_natCast,Nat.min_eq_left h];exact List.take_of_length_le (by rw[List.length_drop];exact Nat.le_refl _)
theorem Zn0 {α β:Type} {F:α->β->Prop}:∀ {l:List α} {m:List β},Paired F l m->∀ n,Paired F (l.drop n) (m.drop n)
 | _,_,.nil,n=>by rw[List.drop_nil,List.drop_nil];exact .nil
 | _,_,.cons h t,0=>.cons h t
 | _,_,.cons h t,n+1=>Zn0 t n
theorem Xw2 {k:Nat} (F_by0:Df K mg "place" (top 19) ["wishes","statement"]) (C_compared:Cl P w K mg base k "compared" ["one","other"] (Zh6 K)) (m_len:mg "len"=none):Cl P w K mg base (k+1) "place" ["wishes","statement"] (Zt9 K):=by
 refine F_by0.ok sc_by0 (fun U H Q E h=>?_) (fun _ _ A _ s H U Q E X h=>?_)
 ·obtain⟨a,v,g,t,rfl,_⟩:=h
  rfl
 obtain⟨a,v,g,t,rfl,Y,Z,n,W,hl,q⟩:=h
 refine⟨_,(Za4 (pst 2 sc_by0.nd Za5)
 (Za4 (pst 3 sc_by0.nd (Zc1 Zb8 (by exact rfl) m_len Zd2 (Za0 (pvM 0) Za2)))
 (Za4 (Yo6 PassesOwn.never (ptcM (Zm0) (pvM 2) (pvM 3))
  (Za4 (pst 4 sc_by0.nd (Zb4 Zd0 (Zb4 Zd3 (pvM 2) (pvM 3)) Za5))
 (Za6 (Zc4 (ptcM (Zm0) (Zb7 C_compared X (Za0 (pxl (pvM 0) (pvM 4)) (Za0 (pvM 1) Za2))) Za5)
  (Za6 (pst 2 sc_by0.nd (Zb4 Zd3 (pvM 4) Za5)))
  (Za6 (pst 3 sc_by0.nd (pvM 4)))))))
 (Za6 (Zb1 (pvM 2)))))),?_⟩
 walk_at "1";obtain⟨⟨j,L,M⟩,o⟩:=Y;have lu:=Paired.length M;refine⟨j,.inl (SqL.of L),?_⟩
 refine⟨fun m l T=>∃ (b hi:Nat) (C:Option V),m=hi - b/\l=[some (.ref a),some v,some (.int (b:Nat)),some (.int (hi:Nat)),C]/\Same H T/\b<=hi/\hi<=g.length/\(∀ i x,i < b->g[i]?=some x->ltT x t=true)/\(∀ i x,hi<=i->g[i]?=some x->ltT x t=false),
  ⟨_,0,j.length,none,rfl,rfl,Same.refl _,Nat.zero_le _,by walk_at "o",fun i x h=>absurd h (Nat.not_lt_zero _),fun i x h e=>absurd (List.getElem?_eq_some_iff.mp e).1 (by walk_at "o")⟩,?_⟩
 rintro m q1 H1 ⟨b,hi,C,rfl,rfl,f,h1,N,R,O⟩;walk_at "1"
 by_cases hlt:b < hi
 ·rw[if_pos (by walk_at "o")]
  refine⟨_,fun l T z=>z,?_⟩
  have eh:((b:Int)+(hi:Int)) / 2=(((b+hi) / 2:Nat):Int):=by walk_at "o"
  have J:(b+hi) / 2 < j.length:=by walk_at "o"
  obtain⟨x,e,G⟩:=paired_get M (List.getElem?_eq_getElem J);have F:=List.mem_of_getElem? e;refine⟨⟨by decide,by decide⟩,?_⟩;rw[eh];refine⟨j,SqL.of (f _ _ L),_,Zd5 (List.getElem?_eq_getElem J),_,v,x,t,rfl,G.keep f.keepT,Z.keep f.keepT,(n x F).1,W,by have:=(n x F).2;walk_at "o",fun H2 S=>⟨_,rfl,?_⟩⟩
  by_cases hc:cmpT x t < 0
  ·rw[if_pos hc]
   have c:=(Xc8 x t).mp hc;refine⟨hi - ((b+hi) / 2+1),by walk_at "o",(b+hi) / 2+1,hi,rfl,_,by rfl,f.trans S,by walk_at "o",N,fun i y I d=>?_,O⟩;obtain⟨B,r⟩:=List.getElem?_eq_some_iff.mp d;obtain⟨u,p⟩:=List.getElem?_eq_some_iff.mp e
   by_cases ei:i=(b+hi) / 2
   ·subst ei;rw[e] at d;cases d;exact c
   ·have:=List.pairwise_iff_getElem.mp o i ((b+hi) / 2) B u (by walk_at "o")
    rw[r,p] at this;exact Zi1 this c
  ·rw[if_neg hc]
   have c:ltT x t=false:=by
    cases z:ltT x t with
    | false=>rfl
    | true=>exact absurd ((Xc8 x t).mpr z) hc
   refine⟨(b+hi) / 2 - b,by walk_at "o",b,(b+hi) / 2,rfl,_,rfl,f.trans S,by walk_at "o",by walk_at "o",R,fun i y I d=>?_⟩;obtain⟨B,r⟩:=List.getElem?_eq_some_iff.mp d;obtain⟨u,p⟩:=List.getElem?_eq_some_iff.mp e
   by_cases ei:i=(b+hi) / 2
   ·subst ei;rw[e] at d;cases d;exact c
   ·have:=List.pairwise_iff_getElem.mp o ((b+hi) / 2) i u B (by walk_at "o")
    rw[r,p] at this
    cases z:ltT y t with
    | false=>rfl
    | true=>have w:=Zi1 this z;unfold ltT at c;rw[w] at c;cases c
 ·rw[if_neg (by walk_at "o")]
  have:b=hi:=by walk_at "o"
  subst this;have ep:=Xk9 (t:=t) o N R O;have D:=q _ f;rw[ep] at D;exact D
theorem Xy7 {k:Nat} (F_az0:Df K mg "among" (top 20) ["wishes","statement"]) (C_place:Cl P w K mg base k "place" ["wishes","statement"] (Zt9 K)) (C_compared:Cl P w K mg base k "compared" ["one","other"] (Zh6 K)) (m_len:mg "len"=none):Cl P w K mg base (k+1) "among" ["wishes","statement"] (Zo7 K):=by
 refine F_az0.ok sc_az0 (fun y H Q E h=>?_) (fun _ _ A _ s H y Q E m h=>?_)
 ·obtain⟨a,v,ws,t,rfl,_⟩:=h
  rfl
 obtain⟨a,v,ws,t,rfl,o,r,d,l,C,q⟩:=h
 refine⟨_,(Za4 (pst 2 sc_az0.nd (Zb7 C_place m (Za0 (pvM 0) (Za0 (pvM 1) Za2))))
 (Za6 (Zb1 (Yy2 (Zl0 (Zm0) (pvM 2) (Zc1 Zb8 (by exact rfl) m_len Zd2 (Za0 (pvM 0) Za2)) (Zn3 _)) (Yo9 (Zl0 (Zd6) (Zb7 C_compared m (Za0 (pxl (pvM 0) (pvM 2)) (Za0 (pvM 1) Za2))) Za5 (Zn3 _))))))),?_⟩
 walk_at "1";refine⟨a,v,ws,t,rfl,o,r,d,l,C,fun M b=>?_⟩;obtain⟨⟨e,n,p⟩,f⟩:=o;have B:=Paired.length p;obtain⟨J,I,G⟩:=Zr4 (t:=t) f;refine⟨e,.inl (SqL.of (b _ _ n)),_,rfl,?_⟩
 by_cases hlt:plc ws t < e.length
 ·rw[if_pos (by walk_at "o")]
  obtain⟨x,j,i⟩:=paired_get p (List.getElem?_eq_getElem hlt);have g:=List.mem_of_getElem? j;refine⟨e,_,rfl,SqL.of (b _ _ n),_,Zd5 (List.getElem?_eq_getElem hlt),_,v,x,t,rfl,i.keep b.keepT,r.keep b.keepT,(d x g).1,l,by have:=(d x g).2;walk_at "o",fun L F=>⟨rfl,?_⟩⟩;have c:=q _ (b.trans F)
  have D:decide (t∈ws)=decide (V.int (cmpT x t)=V.int 0):=by
   refine decide_eq_decide.mpr ?_;rw[Zq3 f,j];constructor
   ·intro z;cases z;rw[(Ya3 t t).mpr rfl]
   ·intro z
    have u:cmpT x t=0:=by injection z
    rw[(Ya3 x t).mp u]
  rw[D] at c;exact c
 ·rw[if_neg (by walk_at "o")]
  have c:=q _ b
  have:¬ t∈ws:=fun z=>by
   have:=(Zq3 f).mp z;exact hlt (by rw[B];exact (List.getElem?_eq_some_iff.mp this).1)
  rw[decide_eq_false this] at c;exact c
theorem Xw0 {k:Nat} (F_ca0:Df K mg "without" (top 21) ["wishes","statement"]) (C_place:Cl P w K mg base k "place" ["wishes","statement"] (Zt9 K)):Cl P w K mg base (k+1) "without" ["wishes","statement"] (Zg9 K):=by
 refine F_ca0.ok sc_ca0 (fun C H Q E h=>?_) (fun _ _ A _ s H C Q E I h=>?_)
 ·obtain⟨a,v,b,t,rfl,_⟩:=h
  rfl
 obtain⟨a,v,b,t,rfl,x,M,i,l,L,q⟩:=h
 refine⟨_,(Za4 (pst 2 sc_ca0.nd (Zb7 C_place I (Za0 (pvM 0) (Za0 (pvM 1) Za2))))
 (Za6 (Zb1 (Zb4 Ze4 (Ze5 Zh8 (pvM 0) Zf4 (Zf3 (pvM 2))) (Ze5 Zh8 (pvM 0) (Zf3 (Zb4 Zd3 (pvM 2) Za5)) Zf4))))),?_⟩
 walk_at "1";refine⟨a,v,b,t,rfl,x,M,i,(i t l).1,L,fun N e=>⟨_,rfl,?_⟩⟩;obtain⟨⟨c,u,m⟩,n⟩:=x;have R:=Paired.length m;have J:=(Zq3 n).mp l;have O:=(List.getElem?_eq_some_iff.mp J).1;refine⟨c,SqL.of (e _ _ u),fun p g=>⟨_,rfl,c,?_,fun G r=>?_⟩⟩
 ·exact SqL.of ((e.trans (Za1 g _)) _ _ u)
 have o:=Za1 g (HO.lst (cutV c none (some ((plc b t:Nat):Int))));have j:=Za1 r (HO.lst (cutV c (some ((plc b t:Nat)+1:Int)) none));have B:cutV c none (some ((plc b t:Nat):Int))=c.take (plc b t):=Zu7 (by walk_at "o");have y:cutV c (some (((plc b t:Nat):Int)+1)) none=c.drop (plc b t+1):=Xj4 (by walk_at "o");refine⟨_,j _ _ Za3,_,Za3,?_,fun F f=>?_⟩
 ·rw[B,y,List.length_take,List.length_drop];exact Nat.le_of_lt (small1M (by walk_at "o"))
 have D:=Za1 f (HO.lst (cutV c none (some ((plc b t:Nat):Int))++cutV c (some (((plc b t:Nat):Int)+1)) none));have S:=e.trans (o.trans (j.trans D));refine q _ _ S ((e.trans (o.trans j)).free f) ⟨⟨_,Za3,?_⟩,Zl5 n⟩;have d:=S.keepT (K:=K);revert d;generalize upd (upd (upd N p _) G _) F _=Hf;intro d;rw[B,y,<- Xq9 n l];exact Zc8 (Zi0 (Paired.mapP m fun _ _ z=>z.keep d) _) (Zn0 (Paired.mapP m fun _ _ z=>z.keep d) _)
theorem Xw5 {k:Nat} (F_bv0:Df K mg "more" (top 22) ["wishes","some"]) (C_place:Cl P w K mg base k "place" ["wishes","statement"] (Zt9 K)) (C_compared:Cl P w K mg base k "compared" ["one","other"] (Zh6 K)) (m_list:mg "list"=none) (m_len:mg "len"=none):Cl P w K mg base (k+1) "more" ["wishes","some"] (Zm9 K):=by
 refine F_bv0.ok sc_bv0 (fun d H Q E h=>?_) (fun _ _ A _ s H d Q E hr h=>?_)
 ·obtain⟨a,b,ws,us,c,rfl,_⟩:=h
  rfl
 obtain⟨a,b,ws,us,c,rfl,hW,hb,hT,q2,B,hl,q⟩:=h
 refine⟨_,(Za4 (pst 2 sc_bv0.nd (Zg3 Zf0 (by exact rfl) m_list Zh5 (Za0 (pvM 0) Za2)))
 (Za4 (Zp5 PassesOwn.never rfl (Ze7 (pvM 1)) (Zb6 (i:=3) sc_bv0.nd rfl (Or.inl rfl))
  (Za4 (pst 4 sc_bv0.nd (Zb7 C_place hr (Za0 (pvM 2) (Za0 (pvM 3) Za2))))
 (Za6 (Zc4 ((Zr2 (ptcM (Zd6) (pvM 4) (Zc1 Zb8 (by exact rfl) m_len Zd2 (Za0 (pvM 2) Za2))) (Zl7 (ptcM (Zw6) (Zb7 C_compared hr (Za0 (pxl (pvM 2) (pvM 4)) (Za0 (pvM 3) Za2))) Za5)))).pt
  (Za6 (Zq2 (Yk5 F.plainAttrs_list F.slot_list_insert F.type_list_insert Yz7 (pvM 2) (Za0 (pvM 4) (Za0 (pvM 3) Za2)))))
  Zb2))))
 (Za6 (Zb1 (pvM 2))))),?_⟩
 refine sqt (fun j g=>∃ l,j=[some (.ref a),some (.ref b),some (.ref l),none,none]/\Same H g/\H l=none/\IsW K g l ws) ?_ ?_
 ·intro C X
  walk_at "1";obtain⟨⟨d,ha,I⟩,p⟩:=hW;exact⟨d,.inl (SqL.of ha),fun l J=>X _ _ ⟨l,rfl,Za1 J _,J,⟨_,Za3,Paired.mapP I fun _ _ z=>z.keep (Zj8 J)⟩,p⟩⟩
 rintro q8 H1 ⟨l,rfl,e1,f1,q5⟩;refine sqt (fun j g=>∃ u r,j=[some (.ref a),some (.ref b),some (.ref l),u,r]/\Same H g/\IsW K g l (norm (ws++c))) ?_ ?_
 ·intro C X
  walk_at "2";have lt:=Paired.length hT;refine⟨⟨_,SqL.of (e1 _ _ hb)⟩,?_⟩
  refine Yq1 (D:={ nx:=C,rt:=Q }) (xs:=us) (fun i j g=>∃ (u r:Option V),j=[some (.ref a),some (.ref b),some (.ref l),u,r]/\Same H g/\IsW K g l (norm (ws++c.take i))) ⟨none,none,rfl,e1,by
    have:norm (ws++c.take 0)=ws:=(Zm1 hW.rise fun x=>by simp).symm
    rw[this];exact q5⟩ (fun i j g _ ⟨_,_,_,e,_⟩=>SqL.of (e _ _ hb)) (fun i x j g hx hp=>?_) (fun j g ⟨u,r,g1,g2,Y⟩=>X _ _ ⟨u,r,g1,g2,by rw[lt,List.take_length] at Y;exact Y⟩)
  obtain⟨u,r,rfl,e,O⟩:=hp;obtain⟨t,T,q1⟩:=paired_get hT hx;have mt:=List.mem_of_getElem? T
  have W:Okw (norm (ws++c.take i)):=fun s U=>by
   rcases List.mem_append.mp (mem_norm.mp U) with z | z
   ·exact q2 s z
   ·exact B s (List.mem_of_mem_take z)
  have q3:(norm (ws++c.take i)).length<=1000:=by
   refine Nat.le_trans (Zi7 (Zo8 (Zc9 _)) (fun s U=>mem_norm.mp U)) ?_;rw[List.length_append,List.length_take];walk_at "o"
  obtain⟨⟨d,hv,I⟩,p⟩:=id O;have lv:=Paired.length I;obtain⟨g1,g2,Y⟩:=Zr4 (t:=t) p;have v:=q1.keep e.keepT;walk_at "1";refine⟨l,x,_,t,rfl,O,v,W,(B t mt).1,q3,fun H2 m=>?_⟩
  have q6:∀ f,Same H f->f l=some (.lst d)->KeepT K g f->t∈norm (ws++c.take i)->Same H f/\IsW K f l (norm (ws++c.take (i+1))):=fun f a1 a2 a3 a4=>by
   have:norm (ws++c.take (i+1))=norm (ws++c.take i):=Ys7 fun s=>by
    rw[Zn6 T,<- List.append_assoc,List.mem_append,List.mem_singleton];exact⟨fun z=>z.elim id fun z=>by rw[z];exact mem_norm.mp a4,.inl⟩
   rw[this];exact⟨a1,⟨d,a2,Paired.mapP I fun _ _ z=>z.keep a3⟩,p⟩
  have n:=m _ _ hv
  have M:∀ f,Same H f->f l=some (.lst d)->KeepT K g f->¬ t∈norm (ws++c.take i)->Same H (upd f l (HO.lst (d.take (plc (norm (ws++c.take i)) t)++x :: d.drop (plc (norm (ws++c.take i)) t))))/\IsW K (upd f l (HO.lst (d.take (plc (norm (ws++c.take i)) t)++x :: d.drop (plc (norm (ws++c.take i)) t)))) l (norm (ws++c.take (i+1))):=fun f a1 a2 a3 a4=>by
   have k3:=a3.trans (Zg4 (K:=K) (o:=HO.lst (d.take (plc (norm (ws++c.take i)) t)++x :: d.drop (plc (norm (ws++c.take i)) t))) a2);have R:=Paired.mapP I fun _ _ z=>z.keep k3
   have eN:(norm (ws++c.take i)).take (plc (norm (ws++c.take i)) t)++t :: (norm (ws++c.take i)).drop (plc (norm (ws++c.take i)) t)=norm (ws++c.take (i+1)):=Zm1 (Wc7 p a4) fun s=>by
    rw[Zn6 T,<- List.append_assoc,List.mem_append,List.mem_cons,List.mem_append,List.mem_singleton,<- mem_norm (l:=ws++c.take i)]
    conv=>rhs;rw[<- List.take_append_drop (plc (norm (ws++c.take i)) t) (norm (ws++c.take i)),List.mem_append]
    constructor
    ·rintro (z | z | z)
     ·exact .inl (.inl z)
     ·exact .inr z
     ·exact .inl (.inr z)
    ·rintro ((z | z) | z)
     ·exact .inl z
     ·exact .inr (.inr z)
     ·exact .inr (.inl z)
   refine⟨a1.write f1,⟨_,Za3,?_⟩,Zc9 _⟩;rw[<- eN];exact Zc8 (Zi0 R _) (.cons (v.keep k3) (Zn0 R _))
  show ∃ x_2,_;refine⟨d,.inl (SqL.of n),rfl,?_⟩
  by_cases hend:plc (norm (ws++c.take i)) t=d.length
  ·rw[if_pos (by rw[hend]),if_pos trivial]
   refine⟨.inl ⟨rfl,_,SqL.of n⟩,d,_,rfl,n,by walk_at "o",by walk_at "o",M H2 (e.trans m) n m.keepT fun z=>?_⟩;have:=(List.getElem?_eq_some_iff.mp ((Zq3 p).mp z)).1;walk_at "o"
  ·have N:plc (norm (ws++c.take i)) t < d.length:=by walk_at "o"
   rw[if_neg (fun z=>hend (by injection z with z;walk_at "o"))];obtain⟨y,S,q0⟩:=paired_get I (List.getElem?_eq_getElem N);have my:=List.mem_of_getElem? S;refine⟨d,_,rfl,SqL.of n,_,Zd5 (List.getElem?_eq_getElem N),_,x,y,t,rfl,q0.keep m.keepT,v.keep m.keepT,(W y my).1,(B t mt).1,by have:=(W y my).2;walk_at "o",fun f L=>⟨rfl,?_⟩⟩;have G:=L _ _ n
   by_cases hyt:y=t
   ·have Z:=(Ya3 y t).mpr hyt
    rw[Z,if_neg (by decide)];exact q6 f (e.trans (m.trans L)) G (m.trans L).keepT ((Zq3 p).mpr (by rw[S,hyt]))
   ·have Z:¬ cmpT y t=0:=fun z=>hyt ((Ya3 y t).mp z)
    rw[if_pos (by
     have:¬ V.int (cmpT y t)=V.int 0:=fun z=>Z (by injection z)
     rw[decide_eq_false this];rfl)]
    refine⟨.inl ⟨rfl,_,SqL.of G⟩,d,_,rfl,G,by walk_at "o",by walk_at "o",M f (e.trans (m.trans L)) G (m.trans L).keepT fun z=>?_⟩;have:=(Zq3 p).mp z;rw[S] at this;cases this;exact hyt rfl
 rintro q7 H2 ⟨u,r,rfl,m,q4⟩;walk_at "1";exact q _ _ m f1 q4
theorem sc_aw0:FnScope ["_law_cell_here","_law_many","_law_words_here","_law_form","_law_first","_law_one"] ["_law_cell_here","_law_many","_law_words_here"] (Za8 (top 52)):=scm (by decide +kernel)
def Zk3 (K:W.Frag) (n:Nat):Sp:=fun vs H Q _=>∃ (c many:Int) (wa:Addr) (ws:List Str),vs=[.int c,.int many,.ref wa]/\0<=c/\1<=many/\many<=61/\(many.toNat+1) / 2<=n/\SqL K H wa (ws.map V.str)/\Yi1 ws /\
 ∀ (r:V) (H':Hp) (t:Tm),Same H H'->Made K H' ws many.toNat ((many.toNat+1) / 2) r t->Q r H'
theorem Xk1 {c:Int} (h0:0<=c) (h1:c < 5):(∃ kd:Kd,atI [V.str "both",V.str "one",V.str "then",V.str "then",V.str "not"] c=some (.str kd.str))∨atI [V.str "both",V.str "one",V.str "then",V.str "then",V.str "not"] c=some (.str "not"):=by
 have:c=0∨c=1∨c=2∨c=3∨c=4:=by walk_at "o"
 rcases this with rfl | rfl | rfl | rfl | rfl
 ·exact .inl ⟨.both,rfl⟩
 ·exact .inl ⟨.one,rfl⟩
 ·exact .inl ⟨.thn,rfl⟩
 ·exact .inl ⟨.thn,rfl⟩
 ·exact .inr rfl
theorem Xz0 {k n:Nat} {f_aw0:Addr} {fd_aw0:FuncData} (F_aw0:Fun K "_law_statement" "_law_statement" (top 52) f_aw0 fd_aw0) (G_aw0:FnOk P w K mg base CX0 k f_aw0 fd_aw0 ["_law_cell_here","_law_many","_law_words_here"] (Zk3 K n)) (m_aw0:mg "_law_statement"=some (.ref f_aw0)) (k_aw0:W.keepIn K (.ref f_aw0)=true) (b_aw0:Binds K fd_aw0 ["_law_cell_here","_law_many","_law_words_here"] []) {f_ap0:Addr} {fd_ap0:FuncData} (G_ap0:FnOk P w K mg base CX0 k f_ap0 fd_ap0 ["_law_cell_here","_law_k"] (Zp4)) (m_ap0:mg "_law_mix"=some (.ref f_ap0)) (k_ap0:W.keepIn K (.ref f_ap0)=true) (b_ap0:Binds K fd_ap0 ["_law_cell_here","_law_k"] []) (m_len:mg "len"=none):FnOk P w K mg base CX0 (k+1) f_aw0 fd_aw0 ["_law_cell_here","_law_many","_law_words_here"] (Zk3 K (n+1)):=by
 refine F_aw0.ok sc_aw0 (fun L H Q E h=>?_) (fun _ A _ s H L Q E m h=>?_)
 ·obtain⟨c,f,u,d,rfl,_⟩:=h
  rfl
 obtain⟨c,f,u,d,rfl,q0,h0,h1,hn,t,B,q⟩:=h
 refine⟨_,(Za4 (Zc4 (ptcM (Zm0) (pvM 1) Za5)
  (Za4 (Zc4 (ptcM (Zd6) (Zb4 Zc6 (pvM 0) Za5) Za5)
  (Za6 (Zb1 (Zb3 (Za0 Za9 Za2))))
  Zb2)
 (Za6 (Zb1 (Zb3 (Za0 Za9 (Za0 (pxl (pvM 2) (Zb4 Zc6 (Zb4 Zd0 (pvM 0) Za5) (Zc1 Zb8 (by exact rfl) m_len Zd2 (Za0 (pvM 2) Za2)))) Za2))))))
  Zb2)
 (Za4 (pst 3 sc_aw0.nd (pxl (Zb5 (Za0 Za9 (Za0 Za9 (Za0 Za9 (Za0 Za9 (Za0 Za9 Za2)))))) (Zb4 Zc6 (pvM 0) Za5)))
 (Za4 (Zc4 (ptcM (Zd6) (pvM 3) Za9)
  (Za6 (Zb1 (Zb3 (Za0 Za9 (Za0 (Zl1 G_aw0 m (by exact rfl) m_aw0 k_aw0 b_aw0 .nil Zy7 (Za0 (Zl1 G_ap0 m (by exact rfl) m_ap0 k_ap0 b_ap0 .nil Zy7 (Za0 (pvM 0) (Za0 Za5 Za2))) (Za0 (Zb4 Zo2 (pvM 1) Za5) (Za0 (pvM 2) Za2)))) (Za0 (Zb3 (Za0 Za9 Za2)) Za2))))))
  Zb2)
 (Za4 (pst 4 sc_aw0.nd (Zb4 Zd3 Za5 (Zb4 Zi9 (Zb4 Zc6 (Zb4 Zd0 (pvM 0) Za5) (Zb4 Zd0 (Zb4 Zo2 (pvM 1) Za5) Za5)) Za5)))
 (Za4 (pst 5 sc_aw0.nd (Zl1 G_aw0 m (by exact rfl) m_aw0 k_aw0 b_aw0 .nil Zy7 (Za0 (Zl1 G_ap0 m (by exact rfl) m_ap0 k_ap0 b_ap0 .nil Zy7 (Za0 (pvM 0) (Za0 Za5 Za2))) (Za0 (pvM 4) (Za0 (pvM 2) Za2)))))
 (Za6 (Zb1 (Zb3 (Za0 (pvM 3) (Za0 (pvM 5) (Za0 (Zl1 G_aw0 m (by exact rfl) m_aw0 k_aw0 b_aw0 .nil Zy7 (Za0 (Zl1 G_ap0 m (by exact rfl) m_ap0 k_ap0 b_ap0 .nil Zy7 (Za0 (pvM 0) (Za0 Za5 Za2))) (Za0 (Zb4 Zo2 (Zb4 Zo2 (pvM 1) Za5) (pvM 4)) (Za0 (pvM 2) Za2)))) Za2))))))))))),?_⟩
 have h2:=B.1
 have F:((d.map V.str).length:Int)=d.length:=by rw[List.length_map]
 walk_at "1";refine ite2 (fun S=>?_) (fun S=>?_)
 ·refine⟨by decide,ite2 (fun _=>?_) (fun _=>?_)⟩
  ·exact⟨by decide,fun p l=>q _ _ _ (Za1 l _) ((Yp3 d l).mono (fun _ _ z=>z) (by walk_at "o") (by walk_at "o"))⟩
  ·refine⟨⟨by decide,by decide⟩,_,.inl t,by rw[F];walk_at "o",_,t,?_⟩
   rw[F];obtain⟨v,R,e⟩:=Zo5 (xs:=d.map V.str) (i:=c / 6 % (d.length:Int)) (Int.emod_nonneg _ (by walk_at "o")) (by rw[F];exact Int.emod_lt_of_pos _ (by walk_at "o"));obtain⟨x,O,rfl⟩:=List.mem_map.mp R;exact⟨_,e,by decide,fun p l=>q _ _ _ (Za1 l _) ((Xh9 O l).mono (fun _ _ z=>z) (by walk_at "o") (by walk_at "o"))⟩
 ·refine⟨by decide,fun p l=>⟨by decide,_,SqL.of Za3,?_⟩⟩
  have Y:=Int.emod_nonneg c (show (5:Int)≠0 by decide);have X:=Int.emod_lt_of_pos c (show (0:Int) < 5 by decide);have o:Same H (upd H p (.lst [V.str "both",V.str "one",V.str "then",V.str "then",V.str "not"])):=Za1 l _;generalize upd H p (.lst [V.str "both",V.str "one",V.str "then",V.str "then",V.str "not"])=H1 at o ⊢;rcases Xk1 Y X with ⟨I,G⟩ | G
  ·refine⟨_,G,rfl,?_⟩
   rw[if_neg (by cases I<;>decide)];have U:=Int.emod_nonneg (c / 5) (show (f - 1) / 2≠0 by walk_at "o");have T:=Int.emod_lt_of_pos (c / 5) (show 0 < (f - 1) / 2 by walk_at "o");refine⟨⟨by decide,by decide⟩,⟨by decide,by decide⟩,by walk_at "o",Zw9 (by decide) (by decide),_,_,rfl,by decide,by decide,?_⟩;generalize c / 5 % ((f - 1) / 2)=j at U T ⊢;refine⟨_,_,u,d,rfl,Zm2 _ _,by walk_at "o",by walk_at "o",by walk_at "o",o.seq t,B,fun x Z a C D=>?_⟩;refine⟨_,_,rfl,by decide,by decide,?_⟩;refine⟨_,_,u,d,rfl,Zm2 _ _,by walk_at "o",by walk_at "o",by walk_at "o",(o.trans C).seq t,B,fun y H3 b J N=>?_⟩;refine⟨by decide,fun M g=>q _ _ _ (((o.trans C).trans J).trans (Za1 g _)) ((Yz8 (k:=I) (D.mono J.keepT (Nat.le_refl _) (Nat.le_refl _)) N g).mono (fun _ _ z=>z) (by walk_at "o") (by walk_at "o"))⟩
  ·refine⟨_,G,rfl,?_⟩
   rw[if_pos rfl];refine⟨_,_,rfl,by decide,by decide,?_⟩;refine⟨_,_,u,d,rfl,Zm2 _ _,by walk_at "o",by walk_at "o",by walk_at "o",o.seq t,B,fun x Z a C D=>?_⟩;refine⟨by decide,fun p2 r=>⟨by decide,fun M g=>?_⟩⟩;exact q _ _ _ (((o.trans C).trans (Za1 r _)).trans (Za1 g _)) ((Yz8 (k:=.thn) (D.mono (Zj8 r) (Nat.le_refl _) (Nat.le_refl _)) (Yp3 d r) g).mono (fun _ _ z=>z) (by walk_at "o") (by walk_at "o"))
theorem sc_as0:FnScope ["_law_some","_law_found_here","_law_one"] ["_law_some"] (Za8 (top 54)):=scm (by decide +kernel)
theorem Xu3:FnScope ["_law_wishes","_law_on","_law_more"] ["_law_wishes","_law_on","_law_more"] (Za8 (top 56)):=scm (by decide +kernel)
theorem Xz4 {k:Nat} (F_as0:Df K mg "_law_once" (top 54) ["_law_some"]) (m_sorted:mg "sorted"=none):Cl P w K mg base (k+1) "_law_once" ["_law_some"] (Zi5 K):=by
 refine F_as0.ok sc_as0 (fun g H Q E h=>?_) (fun _ _ A _ s H g Q E hr h=>?_)
 ·obtain⟨a,us,ts,rfl,_⟩:=h
  rfl
 obtain⟨a,us,ts,rfl,ha,hT,T,hl,q⟩:=h
 refine⟨_,(Za4 (pst 1 sc_as0.nd (Zb5 Za2))
 (Za4 (Zp5 PassesOwn.never rfl (Ze7 (Zc1 (Yh5 rfl (Ze1 hr)) (by exact rfl) m_sorted Ym4 (Za0 (pvM 0) Za2))) (Zb6 (i:=2) sc_as0.nd rfl (Or.inl rfl))
  (Za6 (Zc4 (Zi6 (Zw5 (Ze1 hr)) (pvM 2) (Ze5 Zh8 (pvM 1) (Zf3 (Yy0 Yd5 Za5)) Zf4) (by with_unfolding_all rfl))
  (Za6 (Zq2 (Yk5 F.plainAttrs_list F.slot_list_append F.type_list_append Zj5 (pvM 1) (Za0 (pvM 2) Za2))))
  Zb2)))
 (Za6 (Zb1 (pvM 1))))),?_⟩
 refine sqt (fun j f=>∃ d,j=[some (.ref a),some (.ref d),none]/\Same H f/\H d=none/\f d=some (.lst [])) ?_ ?_
 ·intro C hC
  walk_at "1";exact⟨by decide,fun p L=>hC _ _ ⟨p,rfl,Za1 L _,L,Za3⟩⟩
 rintro j1 H1 ⟨d,rfl,e1,f1,h1⟩;refine sqt (fun j f=>∃ B,j=[some (.ref a),some (.ref d),B]/\Same H f/\IsW K f d (norm ts)) ?_ ?_
 ·intro C hC
  walk_at "2";have q9:Paired (IsT K H1) us ts:=Paired.mapP hT fun _ _ z=>z.keep e1.keepT;refine⟨us,e1 _ _ ha,ts,q9,fun t u=>⟨(T t u).1,by have:=(T t u).2;have:=Zc5 t;walk_at "o"⟩,hl,fun l X m n q1 R q6=>⟨⟨_,SqL.of Za3⟩,?_⟩⟩;have s1:=Za1 n (HO.lst X)
  have q4:l≠d:=fun z=>by rw[z,h1] at n;cases n
  have lw:=Paired.length q1;have lo:m.length=ts.length:=R.length_eq;have S:∀ t∈m,t.ok/\t.parts<=100:=fun t u=>T t (R.mem_iff.mp u);refine Yq1 (D:={ nx:=C,rt:=Q }) (xs:=X) (fun i j f=>∃ (B:Option V) (g:List V) (c:List Tm),j=[some (.ref a),some (.ref d),B]/\Same H f/\KeepT K (upd H1 l (HO.lst X)) f/\f l=some (.lst X)/\f d=some (.lst g)/\Paired (IsT K f) g c/\Zd7 c/\(∀ x,x∈c↔x∈m.take i)/\c.getLast?=(m.take i).getLast?/\c.length<=i) ⟨none,[],[],rfl,e1.trans s1,fun _ _ z=>z,Za3,s1 _ _ h1,.nil,.nil,fun x=>by simp,by simp,Nat.le_refl _⟩ (fun i j f _ ⟨_,_,_,_,_,_,h,_⟩=>SqL.of h) (fun i v j f hv L=>?_) (fun j f ⟨B,g,c,g1,g2,g3,g4,g5,g6,g7,g8,g9,g10⟩=>hC _ _ ⟨B,g1,g2,?_⟩)
  ·obtain⟨B,g,c,rfl,e,kk,q7,hd,hV,hS,U,Z,j2⟩:=L
   obtain⟨t,u,q5⟩:=paired_get q1 hv;have N:IsT K f v t:=(q5.keep s1.keepT).keep kk;have mt:=List.mem_of_getElem? u;have hi:i < m.length:=(List.getElem?_eq_some_iff.mp u).1;have lv:=Paired.length hV;walk_at "1";refine⟨g,SqL.of hd,fun p L=>?_⟩;rw[Xj2];have r:=Za1 L (HO.lst (g.drop (g.length - 1)));have I:=r _ _ hd;have q3:=r _ _ q7;have q0:=kk.trans r.keepT;have Y:m.take (i+1)=m.take i++[t]:=Zn6 u
   have q2:(m.take (i+1)).getLast?=some t:=by rw[Y,List.getLast?_append];simp
   have W:=Za7 r.keepT hV;refine⟨t,N.keep r.keepT,_,SqL.of Za3,c.drop (c.length - 1),lv▸Zn0 W (g.length - 1),(S t mt).1,fun s hs=>(S s (List.mem_of_mem_take ((U s).mp (List.mem_of_mem_drop hs)))).1,by have:=(S t mt).2;have:=Zc5 t;walk_at "o",?_⟩
   by_cases hin:c.getLast?=some t
   ·have G:t∈c.drop (c.length - 1):=mem_last.mpr hin
    rw[if_neg (by rw[if_pos trivial,decide_eq_true G];exact Bool.false_ne_true)];refine⟨e.trans r,q0,q3,g,I,c,W,hS,fun x=>?_,by rw[hin,q2],by walk_at "o"⟩;rw[U x,Y,List.mem_append,List.mem_singleton];exact⟨.inl,fun h=>h.elim id fun z=>z▸(U t).mp (List.mem_of_mem_drop G)⟩
   ·have G:¬ t∈c.drop (c.length - 1):=fun z=>hin (mem_last.mp z)
    rw[if_pos (by rw[if_pos trivial,decide_eq_false G];rfl)];have M:KeepT K _ _:=Zg4 (K:=K) (o:=HO.lst (g++[v])) I;refine⟨.inl ⟨rfl,_,SqL.of I⟩,g,I,Zb0 (by walk_at "o"),(e.trans r).write f1,q0.trans M,by rw[Zc2 q4];exact q3,_,Za3,c++[t],Zc8 (Za7 M W) (.cons ((N.keep r.keepT).keep M) .nil),?_,fun x=>?_,?_,by rw[List.length_append,List.length_singleton];walk_at "o"⟩
    ·have wk:∀ y∈m.take i,ltT t y=false:=fun y J=>by
      have O:List.Pairwise (fun a b=>ltT b a=false) (m.take (i+1)):=q6.sublist (List.take_sublist _ _);rw[Y] at O;exact (List.pairwise_append.mp O).2.2 y J t (List.mem_singleton.mpr rfl)
     refine List.pairwise_append.mpr ⟨hS,List.pairwise_singleton _ _,fun y J z hz=>?_⟩;rw[List.mem_singleton.mp hz]
     by_cases hyt:y=t
     ·subst hyt
      obtain⟨l',n⟩:∃ l',c.getLast?=some l':=by
       cases hg:c.getLast? with
       | none=>rw[List.getLast?_eq_none_iff.mp hg] at J;cases J
       | some l'=>exact⟨l',rfl⟩
      have ml:l'∈m.take i:=List.mem_of_getLast? (Z▸n);rcases Xp6 hS J n with z | z
      ·exact absurd (z▸n) hin
      ·rw[wk l' ml] at z;cases z
     ·exact (Yl4 hyt).elim id fun z=>by rw[wk y ((U y).mp J)] at z;cases z
    ·rw[List.mem_append,U x,Y,List.mem_append]
    ·rw[q2,List.getLast?_append];simp
  ·have q8:c=norm ts:=Zm1 g7 fun x=>by rw[g8 x,lw,List.take_length,R.mem_iff]
   rw[<- q8];exact⟨⟨g,g5,g6⟩,g7⟩
 rintro j0 H2 ⟨B,rfl,e2,hW⟩;walk_at "1";exact q _ _ e2 f1 hW
theorem Wa4 {k:Nat} (F_ah0:Df K mg "_law_changed" (top 56) ["_law_wishes","_law_on","_law_more"]) (C__law_once:Cl P w K mg base k "_law_once" ["_law_some"] (Zi5 K)):Cl P w K mg base (k+1) "_law_changed" ["_law_wishes","_law_on","_law_more"] (Zh7 K):=by
 refine F_ah0.ok Xu3 (fun O H Q E h=>?_) (fun _ _ A _ s H O Q E m h=>?_)
 ·obtain⟨a,b,R,o,c,y,C,rfl,_⟩:=h
  rfl
 obtain⟨a,b,R,o,c,y,C,rfl,Y,Z,D,op,X,J,g,B,hl,q⟩:=h;refine⟨_,(Za6 (Zb1 (Zb7 C__law_once m (Za0 (Zb4 Ze4 (Zt1 (blkC (N':=["_law_wish_here","_law_on"]) (nt:=1) (ci:=[1]) ["_law_wishes","_law_on","_law_more"] (Za8 (top 56)) rfl rfl (by decide +kernel) rfl (by decide +kernel) (by decide +kernel) rfl (by decide +kernel)) rfl (Ze7 (pvM 0)) (fun _ _ _ _=>(Zb6 (i:=0) (show (["_law_wish_here","_law_on"]:List Str).Nodup from by decide +kernel) rfl (Or.inl rfl))) (fun _ _=>Zh0 (tg2:=(.Name "" ⟨0,0,0,0⟩)) (iter2:=(.Name "" ⟨0,0,0,0⟩))) (fun _ _ _ _ _=>(Zh2 (ptcM (Zj3 (K:=K) rfl (Ze1 m)) (pvM 0) (pvM 1)) (Zf2 (pvM 0))))) (pvM 2)) Za2)))),?_⟩;walk_at "1";obtain⟨⟨as,G,L⟩,hS⟩:=Y;have U:=Paired.length L;refine⟨⟨_,SqL.of G⟩,fun x j=>?_⟩;refine Yh3 (xs:=as) (fun i d=>Same H d/\∃ ys,d x=some (.lst ys)/\Paired (IsT K d) ys (rem (c.take i) o)) ⟨Za1 j _,[],Za3,.nil⟩ (fun i d _ ⟨e,_⟩=>SqL.of (e _ _ G)) (fun i v d N hv ⟨e,ys,h,hP⟩ hN=>?_) (fun d ⟨e,ys,h,hP⟩=>?_)
 ·obtain⟨t,f,I⟩:=paired_get L hv
  have u:=I.keep (K:=K) e.keepT;have n:=List.mem_of_getElem? f;have hi:i < c.length:=(List.getElem?_eq_some_iff.mp f).1
  have M:rem (c.take (i+1)) o=rem (c.take i) o++rem [t] o:=by rw[Zn6 f];unfold rem;rw[List.filter_append]
  have T:(rem (c.take i) o).length<=i:=by
   have h1:(rem (c.take i) o).length<=(c.take i).length:=List.length_filter_le _ _;rw[List.length_take] at h1;walk_at "o"
  have S:=Paired.length hP;walk_at "1";refine⟨Ze9 (i:=0) rfl,t.data,u,o.data,Z.keep e.keepT,t.lay (g t n).1,o.lay D,by rw[Tm.depth];have:=(g t n).2;have:=Zc5 t;walk_at "o",?_⟩;rw[Tm.eqv]
  by_cases hto:t=o
  ·rw[if_neg (by rw[if_pos trivial,decide_eq_true hto];exact Bool.false_ne_true)]
   refine hN _ ⟨e,ys,h,?_⟩;rw[M,show rem [t] o=[] by unfold rem;simp[hto],List.append_nil];exact hP
  ·rw[if_pos (by rw[if_pos trivial,decide_eq_false hto];rfl)]
   have F:KeepT K d (upd d x (.lst (ys++[v]))):=Zg4 h;refine⟨ys,h,Zb0 (by walk_at "o"),hN _ ⟨e.write j,_,Za3,?_⟩⟩;rw[M,show rem [t] o=[t] by unfold rem;simp[hto]];exact Zc8 (Za7 F hP) (.cons (u.keep F) .nil)
 ·rw[U,List.take_length] at hP
  have lt:=Paired.length J;have S:=Paired.length hP;have T:(rem c o).length<=c.length:=List.length_filter_le _ _;refine⟨ys,h,y,e _ _ X,Nat.le_of_lt (Zb0 (by walk_at "o")),fun p W=>?_⟩;have l:=Za1 W (HO.lst (ys++y));refine⟨p,_,rem c o++C,rfl,Za3,Zc8 (Za7 l.keepT hP) (Za7 (e.trans l).keepT J),fun t f=>(List.mem_append.mp f).elim (fun z=>g t (mem_rem.mp z).1) (B t),by rw[List.length_append];walk_at "o",fun r H2 e2 m V=>q r H2 ((e.trans l).trans e2) (((e.trans l)).free m) V⟩
def Ltrs (z:Str) (n:Nat):Prop:=z.cps.toList.length=n/\∀ c∈z.cps.toList,97<=c/\c<=122
theorem Yo2:∀ c∈("abcdefghijklmnopqrstuvwxyz":Str).cps.toList,97<=c/\c<=122:=by decide +kernel
theorem Yf3:("abcdefghijklmnopqrstuvwxyz":Str).cps.toList.length=26:=by decide +kernel
theorem Xg4 (x:Str) (a:Nat) (ha:a<=x.length):(Txt.slice x none (some (a:Int))).cps.toList=x.cps.toList.take a:=by
 have:=Yf4 x 0 a (Nat.zero_le _) ha
 have e:Txt.slice x none (some (a:Int))=Txt.slice x (some ((0:Nat):Int)) (some (a:Int)):=by
  unfold Txt.slice Builtin.Str.strSliceIndices
  have b:max (0:Int) (min 0 (x.length:Int))=0:=by walk_at "o"
  simp[b]
 rw[e,this];simp
theorem Ys1 (x:Str) (a:Nat) (ha:a<=x.length):(Txt.slice x (some (a:Int)) none).cps.toList=x.cps.toList.drop a:=by
 have:=Yf4 x a x.length ha (Nat.le_refl _)
 have e:Txt.slice x (some (a:Int)) none=Txt.slice x (some (a:Int)) (some (x.length:Int)):=by
  unfold Txt.slice Builtin.Str.strSliceIndices
  have b:max (0:Int) (min (if (x.length:Int) < 0 then (x.length:Int)+x.length else x.length) x.length)=x.length:=by split<;>walk_at "o"
  simp[b]
 rw[e,this];rw[List.take_of_length_le];rw[List.length_drop,<- Yl6];walk_at "o"
theorem Xe9 {z:Str} {n a d:Nat} (h:Ltrs z n) (hn:n<=8) (ha:a < n) (h1:97<=d) (h2:d<=122):Word (Txt.slice z none (some (a:Int))++(⟨#[d]⟩:Str)++Txt.slice z (some ((a:Int)+1)) none):=by
 have g:z.length=n:=by rw[Yl6];exact h.1
 have e:((a:Int)+1)=((a+1:Nat):Int):=by walk_at "o"
 unfold Word;rw[Zp1,Zp1,e,Xg4 z a (by walk_at "o"),Ys1 z (a+1) (by walk_at "o")];have f:=h.1;refine⟨?_,?_,fun c b=>?_⟩
 ·simp only[List.length_append,List.length_take,List.length_drop,List.length_cons,List.length_nil];walk_at "o"
 ·simp only[List.length_append,List.length_take,List.length_drop,List.length_cons,List.length_nil];walk_at "o"
 ·simp only[List.mem_append,List.mem_cons,List.not_mem_nil,or_false] at b
  rcases b with (b | rfl) | b
  ·exact h.2 c (List.mem_of_mem_take b)
  ·exact⟨h1,h2⟩
  ·exact h.2 c (List.mem_of_mem_drop b)
theorem Xa0 {ds:List Nat} (h:∀ d∈ds,97<=d/\d<=122):Ltrs (Txt.join "" (ds.map fun d=>(⟨#[d]⟩:Str))) ds.length:=by
 have e:(Txt.join "" (ds.map fun d=>(⟨#[d]⟩:Str))).cps.toList=ds:=by
  rw[show ("":Str)=Str.empty from rfl,Xi3,List.map_map];clear h
  induction ds with
  | nil=>rfl
  | cons d ds ih=>rw[List.map_cons,List.flatten_cons,ih];rfl
 unfold Ltrs;rw[e];exact⟨rfl,h⟩
theorem Xf9 (ds:List Nat):((ds.map fun d=>(⟨#[d]⟩:Str)).map (·.length)).sum=ds.length:=by
 rw[List.map_map]
 induction ds with
 | nil=>rfl
 | cons d ds ih=>rw[List.map_cons,List.sum_cons,ih,List.length_cons];show 1+_=_;walk_at "o"
def Zy8:Sp:=fun vs H Q _=>∃ c:Int,vs=[.int c]/\0<=c/\∀ (r:Addr) (H':Hp) (ws:List Str),Same H H'->H r=none->H' r=some (.lst (ws.map V.str))->Yi1 ws->Q (.ref r) H'
theorem Xy8 {k:Nat} (F_ay0:Df K mg "_law_words" (top 51) ["_law_cell_here"]) (C__law_mix:Cl P w K mg base k "_law_mix" ["_law_cell_here","_law_k"] (Zp4)) (m_range:mg "range"=none):Cl P w K mg base (k+1) "_law_words" ["_law_cell_here"] Zy8:=by
 refine F_ay0.ok sc_ay0 (fun vs H Q E h=>?_) (fun _ _ A _ s H vs Q E hr h=>?_)
 ·obtain⟨c,rfl,_⟩:=h
  rfl
 obtain⟨c,rfl,q9,q⟩:=h
 refine⟨_,(Za4 (Zg1 (i:=1) sc_ay0.nd rfl (Or.inr rfl) Za9)
 (Za4 (pst 2 sc_ay0.nd (Zb4 Zd3 Za5 (Zb4 Zc6 (pvM 0) Za5)))
 (Za4 (pst 3 sc_ay0.nd (Zb4 Zc6 (Zb4 Zd0 (pvM 0) Za5) (pvM 2)))
 (Za4 (pst 4 sc_ay0.nd (Zb4 Xo6 Za9 (pvM 2)))
 (Za4 (Zc4 (ptcM (Zd6) (Zb4 Zc6 (Zb4 Zd0 (pvM 0) Za5) Za5) Za5)
  (Za4 (Yb1 (i:=5) sc_ay0.nd rfl (Or.inl rfl) (blkC (N':=["_law_k","_law_small","_law_cell_here"]) (nt:=1) (ci:=[1,0]) ["_law_cell_here","_law_small","_law_size","_law_at","_law_stem","_law_signs","_law_first","_law_found_here","_law_k","_law_sign"] (Za8 (top 51)) rfl rfl (by decide +kernel) rfl (by decide +kernel) (by decide +kernel) rfl (by decide +kernel)) rfl (Zi8 rfl m_range (Za0 (pvM 2) Za2)) (fun _ _ _ _=>(Zb6 (i:=0) (show (["_law_k","_law_small","_law_cell_here"]:List Str).Nodup from by decide +kernel) rfl (Or.inl rfl))) (fun _ _ _ _=>(Zq4 Xl4 (pvM 1) (Zb4 Zc6 (Zb7 C__law_mix hr (Za0 (pvM 2) (Za0 (Zb4 Zd3 Za5 (pvM 0)) Za2))) Za5) (fun _ _=>rfl))) rfl)
 (Za6 (pst 4 sc_ay0.nd (Yk5 F.plainAttrs_str F.slot_str_join F.type_str_join Xp0 Za9 (Za0 (pvM 5) Za2)))))
  Zb2)
 (Za4 (pst 6 sc_ay0.nd (Zb4 Zc6 (Zb4 Zd0 (pvM 0) Za5) Za5))
 (Za4 (pst 7 sc_ay0.nd (Zb5 Za2))
 (Za4 (Zp5 PassesOwn.never rfl (Zi8 rfl m_range (Za0 (Zb4 Zd3 Za5 (Zb4 Zc6 (Zb4 Zd0 (pvM 0) Za5) Za5)) Za2)) (Zb6 (i:=8) sc_ay0.nd rfl (Or.inl rfl))
  (Za4 (pst 9 sc_ay0.nd (Zq4 Xl4 (pvM 1) (Zb4 Zc6 (Zb4 Zd3 (pvM 6) (Zb4 Zi9 Za5 (pvM 8))) Za5) (fun _ _=>rfl)))
 (Za6 (Zq2 (Yk5 F.plainAttrs_list F.slot_list_append F.type_list_append Zj5 (pvM 7) (Za0 (Zb4 Zz3 (Zb4 Zz3 (Ze5 Xk6 (pvM 4) Zf4 (Zf3 (pvM 3))) (pvM 9)) (Ze5 Xk6 (pvM 4) (Zf3 (Zb4 Zd3 (pvM 3) Za5)) Zf4)) Za2))))))
 (Za6 (Zb1 (pvM 7))))))))))),?_⟩
 have s0:=Int.emod_nonneg c (show (8:Int)≠0 by decide);have s1:=Int.emod_lt_of_pos c (show (0:Int) < 8 by decide);have a0:=Int.emod_nonneg (c / 8) (show 1+c % 8≠0 by walk_at "o");have a1:=Int.emod_lt_of_pos (c / 8) (show 0 < 1+c % 8 by walk_at "o");refine sqt (fun a b=>a=[some (.int c),some (.str "abcdefghijklmnopqrstuvwxyz"),none,none,none,none,none,none,none,none]/\b=H) ?_ ?_
 ·intro C g
  walk_at "1";exact g _ _ ⟨rfl,rfl⟩
 rintro q8 H1 ⟨rfl,rfl⟩;refine sqt (fun a b=>a=[some (.int c),some (.str "abcdefghijklmnopqrstuvwxyz"),some (.int (1+c % 8)),none,none,none,none,none,none,none]/\b=H1) ?_ ?_
 ·intro C g
  walk_at "1";exact⟨by decide,g _ _ ⟨rfl,rfl⟩⟩
 rintro q7 H2 ⟨rfl,rfl⟩;refine sqt (fun a b=>a=[some (.int c),some (.str "abcdefghijklmnopqrstuvwxyz"),some (.int (1+c % 8)),some (.int (c / 8 % (1+c % 8))),none,none,none,none,none,none]/\b=H2) ?_ ?_
 ·intro C g
  walk_at "1";exact⟨⟨by decide,by decide⟩,by walk_at "o",g _ _ ⟨rfl,rfl⟩⟩
 generalize ea:c / 8 % (1+c % 8)=at' at a0 a1;generalize es:1+c % 8=size at a1;obtain⟨o,rfl⟩:=Int.eq_ofNat_of_zero_le a0
 have z1:1<=size:=by walk_at "o"
 have z8:size<=8:=by walk_at "o"
 rintro q6 H3 ⟨rfl,rfl⟩;refine sqt (fun a b=>a=[some (.int c),some (.str "abcdefghijklmnopqrstuvwxyz"),some (.int size),some (.int (o:Int)),some (.str (Txt.mul "k" size)),none,none,none,none,none]/\b=H3) ?_ ?_
 ·intro C g
  walk_at "1";exact⟨by decide,by walk_at "o",by walk_at "o",g _ _ ⟨rfl,rfl⟩⟩
 rintro q5 v ⟨rfl,rfl⟩
 have hk:Ltrs (Txt.mul "k" size) size.toNat:=by
  unfold Ltrs;rw[show ("k":Str)=⟨#[107]⟩ from rfl,PyProof.Rows.mul_one_list];exact⟨List.length_replicate,fun d J=>by rw[List.mem_replicate] at J;walk_at "o"⟩
 refine sqt (fun a b=>∃ z t,a=[some (.int c),some (.str "abcdefghijklmnopqrstuvwxyz"),some (.int size),some (.int (o:Int)),some (.str z),t,none,none,none,none]/\Same v b/\Ltrs z size.toNat) ?_ ?_
 ·intro C g
  walk_at "1";refine⟨⟨by decide,by decide⟩,by decide,ite2 (fun _=>?_) (fun _=>g _ _ ⟨_,_,rfl,Same.refl _,hk⟩)⟩;unfold tLC;walk_at "1";refine⟨by walk_at "o",by walk_at "o",fun q0 T=>?_⟩;refine Yg5 (n:=size.toNat) (lo:=0) (fun i B u=>u=upd v q0 (.lst B)/\∃ m:List Nat,B=(m.map fun d=>(⟨#[d]⟩:Str)).map V.str/\m.length=i/\∀ x∈m,97<=x/\x<=122) ⟨rfl,[],rfl,rfl,by simp⟩ (fun i B u L ⟨e,m,e2,e3,_⟩=>?_) (fun i B u L ⟨e,m,e2,e3,e4⟩ C' hC'=>?_) (fun B u ⟨e,m,e2,e3,e4⟩=>?_)
  ·subst e;subst e2
   refine⟨Za3,?_⟩;rw[List.length_map,List.length_map,e3];exact Zb0 (by walk_at "o")
  ·subst e;subst e2
   walk_at "1";have N:=Int.emod_nonneg (mix c (60+(0+(i:Int)))) (show (26:Int)≠0 by decide);have M:=Int.emod_lt_of_pos (mix c (60+(0+(i:Int)))) (show (0:Int) < 26 by decide);obtain⟨d,J,U⟩:=Zo5 (xs:=("abcdefghijklmnopqrstuvwxyz":Str).cps.toList) (i:=mix c (60+(0+(i:Int))) % 26) N (by rw[Yf3];exact M);refine⟨Yv0,c,_,rfl,by walk_at "o",by walk_at "o",_,rfl,by decide,by decide,d,U,?_⟩;refine hC' _ _ Za3 ⟨by rw[Xm8],m++[d],by rw[List.map_append,List.map_append];rfl,by rw[List.length_append,e3];rfl,fun x O=>?_⟩;rcases List.mem_append.mp O with z | z
   ·exact e4 x z
   ·have z':x=d:=by simpa using z
    rw[z'];exact Yo2 d J
  ·subst e;subst e2
   walk_at "1";have R:=Xf9 m;refine⟨rfl,_,SqL.of Za3,?_,g _ _ ⟨_,_,rfl,Za1 T _,?_⟩⟩
   ·rw[R,List.length_map,show Str.length ""=0 from rfl,e3];walk_at "o"
   ·have:=Xa0 e4
    rw[e3] at this;exact this
 rintro q4 u ⟨z,t,rfl,Z,X⟩;refine sqt (fun a b=>∃ f:Int,0<=f/\a=[some (.int c),some (.str "abcdefghijklmnopqrstuvwxyz"),some (.int size),some (.int (o:Int)),some (.str z),t,some (.int f),none,none,none]/\b=u) ?_ ?_
 ·intro C g
  walk_at "1";exact⟨⟨by decide,by decide⟩,by decide,g _ _ ⟨_,Int.emod_nonneg _ (by decide),rfl,rfl⟩⟩
 rintro q3 H6 ⟨f,hf,rfl,rfl⟩;refine sqt (fun a b=>∃ l,a=[some (.int c),some (.str "abcdefghijklmnopqrstuvwxyz"),some (.int size),some (.int (o:Int)),some (.str z),t,some (.int f),some (.ref l),none,none]/\Same v b/\v l=none/\b l=some (.lst [])) ?_ ?_
 ·intro C g
  walk_at "1";exact⟨by decide,fun l I=>g _ _ ⟨l,rfl,Z.trans (Za1 I _),Z.free I,Za3⟩⟩
 rintro q2 H7 ⟨l,rfl,e7,Y,h7⟩;refine sqt (fun a b=>∃ r p j,a=[some (.int c),some (.str "abcdefghijklmnopqrstuvwxyz"),some (.int size),some (.int (o:Int)),some (.str z),t,some (.int f),some (.ref l),r,p]/\Same v b/\b l=some (.lst (j.map V.str))/\Yi1 j) ?_ ?_
 ·intro C g
  walk_at "2";have b0:=Int.emod_nonneg (c / 4096) (show (3:Int)≠0 by decide);have b1:=Int.emod_lt_of_pos (c / 4096) (show (0:Int) < 3 by decide);refine⟨⟨by decide,by decide⟩,by decide,by walk_at "o",by walk_at "o",?_⟩;refine Zk0 (D:={ nx:=C,rt:=Q }) (n:=(2+c / 4096 % 3).toNat) (lo:=0) (fun i a b=>∃ r p j,a=[some (.int c),some (.str "abcdefghijklmnopqrstuvwxyz"),some (.int size),some (.int (o:Int)),some (.str z),t,some (.int f),some (.ref l),r,p]/\Same v b/\b l=some (.lst (j.map V.str))/\j.length=i/\∀ w∈j,Word w) ⟨none,none,[],rfl,e7,h7,rfl,by simp⟩ (fun i a b L S=>?_) (fun a b S=>?_)
  ·obtain⟨r,p,j,rfl,e,h,I,G⟩:=S
   walk_at "1";have N:=Int.emod_nonneg (f+7*(0+(i:Int))) (show (26:Int)≠0 by decide);have M:=Int.emod_lt_of_pos (f+7*(0+(i:Int))) (show (0:Int) < 26 by decide);obtain⟨d,J,U⟩:=Zo5 (xs:=("abcdefghijklmnopqrstuvwxyz":Str).cps.toList) (i:=(f+7*(0+(i:Int))) % 26) N (by rw[Yf3];exact M)
   have zl:z.length<=8:=by rw[Yl6,X.1];walk_at "o"
   have W:=fun lo L=>Nat.le_trans (Txt.slice_le z lo L) zl;have l1:=W none (some (o:Int));have l2:=W (some ((o:Int)+1)) none;have l3:(⟨#[d]⟩:Str).length=1:=rfl
   have l4:(Txt.slice z none (some (o:Int))++(⟨#[d]⟩:Str)).length<=9:=by rw[strLen_append];walk_at "o"
   refine⟨Zk8 (by decide) (by decide),by decide,by decide,d,U,.inl ⟨rfl,_,SqL.of h⟩,Nat.le_of_lt (Zb0 (by walk_at "o")),Nat.le_of_lt (Zb0 (by walk_at "o")),Nat.le_of_lt (Zb0 (by walk_at "o")),Nat.le_of_lt (Zb0 (by walk_at "o")),_,h,Zb0 (by rw[List.length_map];walk_at "o"),e.write Y,j++[Txt.slice z none (some (o:Int))++(⟨#[d]⟩:Str)++Txt.slice z (some ((o:Int)+1)) none],by rw[Za3,List.map_append];rfl,by rw[List.length_append,I];rfl,fun x O=>?_⟩;rcases List.mem_append.mp O with y | y
   ·exact G x y
   ·have y':=List.mem_singleton.mp y
    rw[y'];have m:=Yo2 d J;exact Xe9 X (by walk_at "o") (by walk_at "o") m.1 m.2
  ·obtain⟨r,p,j,rfl,e,h,I,G⟩:=S
   exact g _ _ ⟨r,p,j,rfl,e,h,by walk_at "o",by walk_at "o",G⟩
 rintro q1 H8 ⟨r,p,j,rfl,e8,h8,G⟩;walk_at "1";exact q _ _ _ e8 Y h8 G
theorem sc_bu0:FnScope ["_law_script","_law_words_here","_law_lines","_law_spoiled_here","_law_k","_law_due_here","_law_turn","_law_found_here"] ["_law_script"] (Za8 (top 74)):=scm (by decide +kernel)
noncomputable def Zv1:Option Nat->PyData
 | none=>.bool true
 | some n=>.tuple [.str "bad",.int (n:Nat)]
theorem Yd7 {K:W.Frag} {H H':Hp} (e:Same H H') {v:V} {o:Option Nat} (h:Yd2 K H v o):Yd2 K H' v o:=by
 cases o with
 | none=>exact h
 | some n=>obtain⟨p,b,a⟩:=h;exact⟨p,b,e.sqt a⟩
theorem Ya4 {K:W.Frag} {H:Hp} {v:V} {o:Option Nat} (h:Yd2 K H v o):Dn K H v (Zv1 o):=by
 cases o with
 | none=>obtain rfl:v=.bl true:=h;unfold Zv1;rw[Dn]
 | some n =>
  obtain⟨p,rfl,a⟩:=h;unfold Zv1;rw[Dn];refine⟨p,_,rfl,a,?_⟩;rw[DnAll];refine⟨_,_,rfl,by rw[Dn],?_⟩;rw[DnAll];refine⟨_,_,rfl,by rw[Dn],?_⟩;rw[DnAll]
theorem Zt8 (o:Option Nat):(Zv1 o).canLay0=true:=by
 cases o with
 | none=>rfl
 | some n =>
  show (PyData.tuple [.str "bad",.int (n:Nat)]).canLay0=true;show ((PyData.str "bad").canLay0&&((PyData.int (n:Nat)).canLay0&&true))=true;rw[show (PyData.str "bad").canLay0=true by decide +kernel];rfl
theorem Yn3 (o:Option Nat):(Zv1 o).depth<=150:=by
 cases o with
 | none=>exact Nat.zero_le _
 | some n=>exact Nat.le_trans (Nat.le_refl 1) (by decide)
theorem Yd6 (o:Option Nat):PyData.eqv (Zv1 o) (Zv1 o)=true:=by
  cases o with
  | none=>rfl
  | some n => refine Zi4 (ds := [.str "bad", .int (n : Nat)]) fun d hd => ?_
              simp only[List.mem_cons,List.not_mem_nil,or_false] at hd;rcases hd with rfl | rfl
              · decide
              · show (decide _:Bool)=true;exact decide_eq_true rfl
theorem Yv5 {K:W.Frag} {H:Hp} {v:V} {o:Option Nat} (h:Yd2 K H v o):∃ c,TyX K H v c/\W.kitOne K c (.type "bool")=some o.isNone:=by
 cases o with
 | none=>obtain rfl:v=.bl true:=h;exact⟨_,.of (.bl _),Xi2 K "bool"⟩
 | some n =>
  obtain⟨p,rfl,a⟩:=h;exact⟨_,.tupK a,rfl⟩
theorem Xw6 {k:Nat} {f_bu0:Addr} {fd_bu0:FuncData} (F_bu0:Fun K "law" "law" (top 74) f_bu0 fd_bu0) (C__law_words:Cl P w K mg base k "_law_words" ["_law_cell_here"] (Zy8)) (C__law_cell:Cl P w K mg base k "_law_cell" ["_law_script","_law_k"] (Yj2 K)) (C__law_built:Cl P w K mg base k "_law_built" ["_law_script","_law_start","_law_most","_law_words_here"] (Yo1 K)) (C__law_mix:Cl P w K mg base k "_law_mix" ["_law_cell_here","_law_k"] (Zp4)) (C__law_spoiled:Cl P w K mg base k "_law_spoiled" ["_law_lines","_law_cell_here","_law_words_here"] (Ye8 K)) (C__law_due:Cl P w K mg base k "_law_due" ["_law_lines"] (Yw3 K)) (C__law_asked:Cl P w K mg base k "_law_asked" ["_law_lines"] (Yw5 K)) (m_range:mg "range"=none) (m_isinstance:mg "isinstance"=none) (m_bool:mg "bool"=none):FnOk P w K mg base CX0 (k+1) f_bu0 fd_bu0 ["_law_script"] (Yw2 K):=by
 refine F_bu0.ok sc_bu0 (fun vs H Q E h=>?_) (fun _ A _ s H vs Q E j h=>?_)
 ·obtain⟨a,I,rfl,_⟩:=h
  rfl
 obtain⟨a,I,rfl,hS,m,q⟩:=h
 refine⟨_,(Za4 (pst 1 sc_bu0.nd (Zb7 C__law_words j (Za0 (Zb7 C__law_cell j (Za0 (pvM 0) (Za0 Za5 Za2))) Za2)))
 (Za4 (pst 2 sc_bu0.nd (Zb7 C__law_built j (Za0 (pvM 0) (Za0 Za5 (Za0 Za5 (Za0 (pvM 1) Za2))))))
 (Za4 (pst 3 sc_bu0.nd (pvM 2))
 (Za4 (Zp5 PassesOwn.never rfl (Zi8 rfl m_range (Za0 (Zb4 Zc6 (Zb4 Zd0 (Zb7 C__law_cell j (Za0 (pvM 0) (Za0 Za5 Za2))) Za5) Za5) Za2)) (Zb6 (i:=4) sc_bu0.nd rfl (Or.inl rfl))
  (Za6 (pst 3 sc_bu0.nd (Zb7 C__law_spoiled j (Za0 (pvM 3) (Za0 (Zb7 C__law_mix j (Za0 (Zb7 C__law_cell j (Za0 (pvM 0) (Za0 Za5 Za2))) (Za0 (Zb4 Zd3 Za5 (pvM 4)) Za2))) (Za0 (pvM 1) Za2)))))))
 (Za4 (pst 5 sc_bu0.nd (Zb7 C__law_due j (Za0 (pvM 3) Za2)))
 (Za4 (Zp5 PassesOwn.never rfl (Zi8 rfl m_range (Za0 Za5 Za2)) (Zb6 (i:=6) sc_bu0.nd rfl (Or.inl rfl))
  (Za4 (pst 7 sc_bu0.nd (Zb7 C__law_asked j (Za0 (pvM 3) Za2)))
 (Za4 (Zc4 ((Zr2 (ptcM (Zo3 (Ze1 j)) (pvM 7) (pvM 5)) (Zl7 (ptcM (Zw6) (Zc1 Yd1 (by exact rfl) m_isinstance Ze3 (Za0 (pvM 7) (Za0 (Yb4 (v:=.ty "bool") (by exact rfl) m_bool Zy4 (by exact rfl)) Za2))) (Zc1 Yd1 (by exact rfl) m_isinstance Ze3 (Za0 (pvM 5) (Za0 (Yb4 (v:=.ty "bool") (by exact rfl) m_bool Zy4 (by exact rfl)) Za2))))))).pt
  (Za6 (Zb1 Zo1))
  Zb2)
 (Za6 (Zc4 (ptcM (Yy7) (Zb7 C__law_asked j (Za0 (pvM 2) Za2)) Zo1)
  (Za6 (Zb1 Zo1))
  Zb2)))))
 (Za6 (Zb1 (Zl0 (Yf7 (Ze1 j)) (Zb7 C__law_asked j (Za0 (Zb5 Za2) Za2)) (Zb3 (Za0 Za9 (Za0 Za5 Za2))) (Zn3 _)))))))))),?_⟩
 refine sqt (fun c b=>∃ f B,c=[some (.ref a),some (.ref f),none,none,none,none,none,none]/\Same H b/\b f=some (.lst (B.map V.str))/\Yi1 B) ?_ ?_
 ·intro C x
  walk_at "1";exact⟨a,I,0,rfl,hS,m,by decide,by decide,_,rfl,Xd1 _ _,fun r b B e fr h hw=>x _ _ ⟨r,B,rfl,e,h,hw⟩⟩
 rintro z8 H1 ⟨f,B,rfl,e1,h1,hw⟩;refine sqt (fun c b=>∃ u F L,c=[some (.ref a),some (.ref f),some (.ref u),none,none,none,none,none]/\Same H b/\b f=some (.lst (B.map V.str))/\b u=some (.lst F)/\IsLns K b F L/\GL L/\L≠[]) ?_ ?_
 ·intro C x
  walk_at "1";exact⟨a,f,I,1,31,B,rfl,e1.seq hS,m,by decide,by decide,by decide,by decide,SqL.of h1,hw,fun r F L b e fr h Y G X=>x _ _ ⟨r,F,L,rfl,e1.trans e,e _ _ h1,h,Y,G,X⟩⟩
 rintro z0 H2 ⟨u,F,L,rfl,e2,q3,h2,Y,G,X⟩;have lu:F.length=L.length:=Paired.length Y;have q2:=G.len;have q8:∀ l∈L,OkLn l:=fun l m=>(G.ok l m).ok
 have q7:∀ l∈L,OkS 0 l:=fun l m=>by
  have o:=G.ok l m;refine⟨o.ok,by have:=o.w9;walk_at "o",?_⟩;obtain⟨i,hi,rfl⟩:=List.getElem_of_mem m;have g:=G.good i hi;unfold Zk1 at g;rw[List.getElem?_eq_getElem hi] at g;unfold Zi3 at g;dsimp only at g
  cases hX:Zj4 L[i].R L[i].ws L[i].g L[i].on with
  | none=>rw[hX,Bool.and_false] at g;cases g
  | some nds =>
   rw[hX] at g;dsimp only at g;rw[Bool.and_eq_true,Bool.and_eq_true,decide_eq_true_iff] at g;have:=Yz4 hX;walk_at "o"
 refine sqt (fun c b=>c=[some (.ref a),some (.ref f),some (.ref u),some (.ref u),none,none,none,none]/\b=H2) ?_ ?_
 ·intro C x
  walk_at "1";exact x _ _ ⟨rfl,rfl⟩
 rintro j9 H3 ⟨rfl,rfl⟩;have c0:=Int.emod_nonneg (cellOf I 0 / 7) (show (4:Int)≠0 by decide);have c1:=Int.emod_lt_of_pos (cellOf I 0 / 7) (show (0:Int) < 4 by decide);refine sqt (fun c b=>∃ d t M y,c=[some (.ref a),some (.ref f),some (.ref u),some (.ref d),y,none,none,none]/\Same H3 b/\b d=some (.lst t)/\IsLns K b t M/\(∀ l∈M,OkLn l)/\M≠[]/\M.length<=150) ?_ ?_
 ·intro C x
  walk_at "2";refine⟨a,I,0,rfl,e2.seq hS,m,by decide,by decide,_,rfl,⟨by decide,by decide⟩,by decide,by walk_at "o",by walk_at "o",?_⟩;refine Zk0 (D:={ nx:=C,rt:=Q }) (n:=(cellOf I 0 / 7 % 4).toNat) (lo:=0) (fun i c b=>∃ d t M y,c=[some (.ref a),some (.ref f),some (.ref u),some (.ref d),y,none,none,none]/\Same H3 b/\b d=some (.lst t)/\IsLns K b t M/\(∀ l∈M,OkS i l)/\M≠[]/\M.length<=150) ⟨u,F,L,none,rfl,Same.refl _,h2,Y,q7,X,q2⟩ (fun i c b j2 hp=>?_) (fun c b ⟨d,t,M,y,z1,z2,z3,z4,z5,z6,z7⟩=>x _ _ ⟨d,t,M,y,z1,z2,z3,z4,fun l m=>(z5 l m).ok,z6,z7⟩);obtain⟨d,t,M,y,rfl,e,h,hM,U,T,lM⟩:=hp;walk_at "1";exact⟨a,I,0,rfl,(e2.trans e).seq hS,m,by decide,by decide,_,_,rfl,by walk_at "o",by walk_at "o",d,f,t,M,_,B,i,rfl,h,hM,U,T,lM,by walk_at "o",Zm2 _ _,SqL.of (e _ _ q3),hw,fun r q5 M' j5 Z h' j3 q1 q4 q9=>⟨r,rfl,e.trans Z,q5,h',M',j3,q1,q4,q9⟩⟩
 rintro j8 H4 ⟨d,t,M,y,rfl,e4,h4,hM,U,T,lM⟩;have eb:badL M=dueF M:=if_neg T;refine sqt (fun c b=>∃ dv,c=[some (.ref a),some (.ref f),some (.ref u),some (.ref d),y,some dv,none,none]/\Same H4 b/\Yd2 K b dv (dueF M)) ?_ ?_
 ·intro C x
  walk_at "1";exact⟨d,t,M,rfl,h4,hM,U,by walk_at "o",fun v b e O=>x _ _ ⟨v,rfl,e,O⟩⟩
 rintro j7 H5 ⟨dv,rfl,e5,hd⟩;refine sqt (fun c b=>∃ N J,c=[some (.ref a),some (.ref f),some (.ref u),some (.ref d),y,some dv,N,J]) ?_ ?_
 ·intro C x
  walk_at "2";refine⟨by decide,by decide,?_⟩;refine Zk0 (D:={ nx:=C,rt:=Q }) (n:=((2:Int)).toNat) (lo:=0) (fun i c b=>∃ N J,c=[some (.ref a),some (.ref f),some (.ref u),some (.ref d),y,some dv,N,J]/\Same H5 b) ⟨none,none,rfl,Same.refl _⟩ (fun i c b j2 hp=>?_) (fun c b ⟨N,J,z,_⟩=>x _ _ ⟨N,J,z⟩);obtain⟨N,J,rfl,e⟩:=hp;have q6:=G.good
  have nb:badL L=none:=by unfold badL;rw[if_neg X];exact Zx8 q6
  walk_at "1";refine⟨d,t,M,rfl,(e5.trans e) _ _ h4,IsLns.keep (e5.trans e) hM,U,by walk_at "o",fun v j5 Z O=>?_⟩;rw[eb] at O;have q0:=Yd7 (e.trans Z) hd;refine⟨Zv1 (dueF M),Ya4 O,Zv1 (dueF M),Ya4 q0,Zt8 _,Zt8 _,Nat.le_trans (Nat.min_le_left _ _) (Yn3 _),?_⟩;rw[if_neg (by rw[if_pos trivial,Yd6];exact Bool.false_ne_true)];obtain⟨c1,t1,k1⟩:=Yv5 O;obtain⟨c2,t2,k2⟩:=Yv5 q0;refine⟨c1,t1,_,k1,c2,t2,_,k2,?_⟩;rw[if_neg (by rw[decide_eq_true rfl];decide)];have S:=(e4.trans e5).trans (e.trans Z);refine⟨u,F,L,rfl,S _ _ h2,IsLns.keep S Y,q8,by walk_at "o",fun v2 z9 j4 W=>?_⟩;rw[nb] at W;obtain rfl:v2=.bl true:=W;refine⟨⟨_,rfl⟩,?_⟩;rw[if_neg (by decide)];exact (e.trans Z).trans j4
 rintro j6 H6 ⟨N,J,rfl⟩;walk_at "1";refine⟨by decide,fun p hp=>⟨p,[],[],rfl,Za3,.nil,fun l m=>(by cases m),by decide,fun v b e O=>⟨by decide,fun p2 j1=>?_⟩⟩⟩;have j0:Yd2 K b v (some 0):=O;have s2:=Za1 j1 (HO.tup [V.str (Str.ofString "bad"),V.int 0]);have W:Yd2 K (upd b p2 (HO.tup [V.str (Str.ofString "bad"),V.int 0])) (.ref p2) (some 0):=⟨p2,rfl,.inl (.inl Za3)⟩;refine⟨Zv1 (some 0),Ya4 (Yd7 s2 j0),Zv1 (some 0),Ya4 W,Zt8 _,Zt8 _,Nat.le_trans (Nat.min_le_left _ _) (Yn3 _),?_⟩;rw[if_neg Bool.false_ne_true,Yd6];exact q _
theorem Xs7:FnScope ["wishes","goal","on"] ["wishes","goal","on"] (Za8 (top 24)):=scm (by decide +kernel)
theorem Xt2:FnScope ["wishes","goal","on"] ["wishes","goal","on"] (Za8 (top 25)):=scm (by decide +kernel)
theorem Xt6:FnScope ["wishes","goal","on"] ["wishes","goal","on"] (Za8 (top 26)):=scm (by decide +kernel)
theorem Xt5:FnScope ["wishes","goal","on"] ["wishes","goal","on"] (Za8 (top 27)):=scm (by decide +kernel)
theorem Xt0:FnScope ["wishes","goal","on"] ["wishes","goal","on"] (Za8 (top 28)):=scm (by decide +kernel)
theorem Xs9:FnScope ["wishes","goal","on"] ["wishes","goal","on"] (Za8 (top 29)):=scm (by decide +kernel)
theorem Xt1:FnScope ["wishes","goal","on"] ["wishes","goal","on"] (Za8 (top 30)):=scm (by decide +kernel)
theorem sc_bc0:FnScope ["wishes","goal","on","others"] ["wishes","goal","on"] (Za8 (top 31)):=scm (by decide +kernel)
theorem Xt3:FnScope ["wishes","goal","on"] ["wishes","goal","on"] (Za8 (top 32)):=scm (by decide +kernel)
theorem sc_be0:FnScope ["wishes","goal","on","one","other"] ["wishes","goal","on"] (Za8 (top 34)):=scm (by decide +kernel)
theorem sc_bf0:FnScope ["wishes","goal","on","one","other"] ["wishes","goal","on"] (Za8 (top 35)):=scm (by decide +kernel)
theorem Xt4:FnScope ["wishes","goal","on"] ["wishes","goal","on"] (Za8 (top 36)):=scm (by decide +kernel)
theorem sc_bd0:FnScope ["wishes","goal","on","others"] ["wishes","goal","on"] (Za8 (top 37)):=scm (by decide +kernel)
theorem Xs8:FnScope ["wishes","goal","on"] ["wishes","goal","on"] (Za8 (top 38)):=scm (by decide +kernel)
theorem Xs5:FnScope ["on","kind"] ["on","kind"] (Za8 (top 33)):=scm (by decide +kernel)
theorem Yl7 (kk:Kd) (o:Tm):(∃ x y c,o=.nd .thn (.nd kk x y) c)∨((match o with | .nd .thn a _=>decide (a.spell.head?=some kk.str) | _=>false)=false/\∀ x y c,o≠.nd .thn (.nd kk x y) c):=by
 cases o with
 | low=>exact .inr ⟨rfl,fun _ _ _ z=>nomatch z⟩
 | ltr y=>exact .inr ⟨rfl,fun _ _ _ z=>nomatch z⟩
 | nd k a c =>
  cases k with
  | both=>exact .inr ⟨rfl,fun _ _ _ z=>nomatch z⟩
  | one=>exact .inr ⟨rfl,fun _ _ _ z=>nomatch z⟩
  | thn =>
   cases a with
   | low=>exact .inr ⟨by show decide (some ("low":Str)=some kk.str)=false;cases kk<;>decide,fun _ _ _ z=>nomatch z⟩
   | ltr y=>exact .inr ⟨by show decide (some ("letter":Str)=some kk.str)=false;cases kk<;>decide,fun _ _ _ z=>nomatch z⟩
   | nd k2 x y =>
    by_cases e:k2=kk
    ·subst e
     exact .inl ⟨x,y,c,rfl⟩
    ·refine .inr ⟨?_,fun d b f z=>e (by cases z;rfl)⟩
     show decide ((Tm.nd k2 x y).spell.head?=some kk.str)=false;rw[Zc3];show decide (some k2.str=some kk.str)=false;revert e
     cases k2<;>cases kk<;>first | (intro z;exact absurd rfl z) | (intro _;decide)
theorem Xw7 {k:Nat} (F_bt0:Df K mg "is_if" (top 33) ["on","kind"]):Cl P w K mg base (k+1) "is_if" ["on","kind"] (Zw1 K):=by
 refine F_bt0.ok Xs5 (fun i H Q E h=>?_) (fun _ _ A _ s H i Q E C h=>?_)
 ·obtain⟨v,t,x,rfl,_⟩:=h
  rfl
 obtain⟨v,t,x,rfl,e,q⟩:=h;refine⟨_,(Za6 (Zb1 (Yy2 (Zl0 (Zd6) (pxt (pvM 0) Za5) Za9 (Zn3 _)) (Yo9 (Zl0 (Zd6) (pxt (pxt (pvM 0) Za5) Za5) (pvM 1) (Zn3 _)))))),?_⟩;walk_at "1"
 cases t with
 | low =>
  obtain⟨p,rfl,d⟩:=isT_low.mp e;refine⟨p,rfl,_,d,_,rfl,rfl,?_⟩;rw[if_neg (by decide)];exact q
 | ltr y =>
  obtain⟨p,rfl,d⟩:=isT_ltr.mp e;refine⟨p,rfl,_,d,_,rfl,rfl,?_⟩;rw[if_neg (by decide)];exact q
 | nd kd a b =>
  obtain⟨p,u,r,rfl,d,m,B⟩:=isT_nd.mp e;refine⟨p,rfl,_,d,_,rfl,rfl,?_⟩
  cases kd with
  | both=>rw[if_neg (by decide)];exact q
  | one=>rw[if_neg (by decide)];exact q
  | thn =>
   rw[if_pos (by rfl)];obtain⟨l,c,o,n,rfl,g,j⟩:=Zn1 m;refine⟨p,rfl,_,d,_,rfl,l,rfl,_,g,_,at0 _ _,rfl,?_⟩;have f:Q (.bl (decide (a.spell.head?=some x))) H:=q;rw[j] at f;have:decide (V.str c=V.str x)=decide ((c :: n).head?=some x):=decide_eq_decide.mpr ⟨fun z=>by cases z;rfl,fun z=>by cases z;rfl⟩;rw[this];exact f
theorem Xx2 {k:Nat} {f_bo0:Addr} {fd_bo0:FuncData} (F_bo0:Fun K "by_wish" "by_wish" (top 24) f_bo0 fd_bo0) (C_among:Cl P w K mg base k "among" ["wishes","statement"] (Zo7 K)):FnOk P w K mg base CX0 (k+1) f_bo0 fd_bo0 ["wishes","goal","on"] (Zp9 K .wish):=by
 refine F_bo0.ok Xs7 (fun l H Q E h=>?_) (fun _ A _ s H l Q E q h=>?_)
 ·obtain⟨c,i,p,a,g,b,rfl,_⟩:=h
  rfl
 obtain⟨c,i,p,a,g,b,rfl,t,u,y,r,d,j,z,x,n,m⟩:=h;refine⟨_,(Za6 (Zb1 (Zk4 (Zj1 (Zb7 C_among q (Za0 (pvM 0) (Za0 (pvM 1) Za2)))) (Zb5 Za2) Zd4))),?_⟩;walk_at "1"
 obtain rfl:b=none:=by cases b with
  | none=>rfl
  | some o=>cases r
 refine⟨c,i,a,g,rfl,t,u,d,j,by walk_at "o",fun B e=>⟨_,rfl,?_⟩⟩
 by_cases h:g∈a
 ·rw[decide_eq_true h,if_pos rfl]
  exact⟨by decide,fun v f=>Yp1 (m [] (if_pos h)) e f⟩
 ·rw[decide_eq_false h,if_neg (by decide)]
  exact n (if_neg h) _ e
theorem Xx7 {k:Nat} {f_bj0:Addr} {fd_bj0:FuncData} (F_bj0:Fun K "by_low" "by_low" (top 25) f_bj0 fd_bj0) (C_among:Cl P w K mg base k "among" ["wishes","statement"] (Zo7 K)) {aLOW:Addr} (m_LOW:mg "LOW"=some (.ref aLOW)) (t_LOW:∀ H,SqT K H aLOW [.str "low"]):FnOk P w K mg base CX0 (k+1) f_bj0 fd_bj0 ["wishes","goal","on"] (Zp9 K .low):=by
 refine F_bj0.ok Xt2 (fun i H Q E h=>?_) (fun _ A _ s H i Q E n h=>?_)
 ·obtain⟨c,r,m,a,g,b,rfl,_⟩:=h
  rfl
 obtain⟨c,r,m,a,g,b,rfl,q,y,z,p,d,t,B,x,l,j⟩:=h;refine⟨_,(Za6 (Zb1 (Zk4 (Zj1 (Zb7 C_among n (Za0 (pvM 0) (Za0 (Zh3 (v:=.ref aLOW) (by exact rfl) m_LOW (by exact rfl)) Za2)))) (Zb5 Za2) Zd4))),?_⟩;walk_at "1"
 obtain rfl:b=none:=by cases b with
  | none=>rfl
  | some o=>cases p
 refine⟨c,.ref aLOW,a,.low,rfl,q,isT_low.mpr ⟨aLOW,rfl,t_LOW H⟩,d,trivial,by walk_at "o",fun C e=>⟨_,rfl,?_⟩⟩
 by_cases h:Tm.low∈a
 ·rw[decide_eq_true h,if_pos rfl]
  exact⟨by decide,fun u f=>Yp1 (j [] (if_pos h)) e f⟩
 ·rw[decide_eq_false h,if_neg (by decide)]
  exact l (if_neg h) _ e
theorem Xy5 {k:Nat} {f_bb0:Addr} {fd_bb0:FuncData} (F_bb0:Fun K "by_both" "by_both" (top 26) f_bb0 fd_bb0) (m_list:mg "list"=none):FnOk P w K mg base CX0 (k+1) f_bb0 fd_bb0 ["wishes","goal","on"] (Zp9 K .both):=by
 refine F_bb0.ok Xt6 (fun O H Q E h=>?_) (fun _ A _ s H O Q E hr h=>?_)
 ·obtain⟨L,gv,W,ws,g,m,rfl,_⟩:=h
  rfl
 obtain⟨L,gv,W,ws,g,m,rfl,hW,F,hO,Z,q0,I,gp,hl,T,S⟩:=h
 refine⟨_,(Za4 (Zc4 (ptcM (Zw6) (pxt (pvM 1) Za5) Za9)
  (Za6 (Zb1 Zd4))
  Zb2)
 (Za6 (Zb1 (Zb5 (Za0 (Zb3 (Za0 (Zg3 Zf0 (by exact rfl) m_list Zh5 (Za0 (pvM 0) Za2)) (Za0 (pxt (pvM 1) Za5) Za2))) (Za0 (Zb3 (Za0 (Zg3 Zf0 (by exact rfl) m_list Zh5 (Za0 (pvM 0) Za2)) (Za0 (pxt (pvM 1) Za5) Za2))) Za2)))))),?_⟩
 walk_at "1"
 obtain rfl:m=none:=by cases m with
  | none=>rfl
  | some o=>cases Z
 rcases Zk9 .both F with ⟨a,b,p,q,vy,rfl,rfl,e,Y,X⟩ | ⟨p,x,xs,rfl,e,y,v⟩
 ·have gk:=I
  have pp:1+a.parts+b.parts<=100:=gp;refine⟨p,rfl,_,e,_,rfl,rfl,?_⟩;rw[if_neg (by decide)];obtain⟨⟨c,C,D⟩,G⟩:=id hW;refine⟨c,.inl (SqL.of C),fun l j=>?_⟩;have d:=Za1 j (HO.lst c);have N:IsW K (upd H l (.lst c)) l ws:=⟨⟨c,Za3,Paired.mapP D fun _ _ z=>z.keep d.keepT⟩,G⟩;refine⟨p,rfl,_,d.sqt e,_,rfl,by decide,fun U f=>?_⟩;have R:=Za1 f (HO.tup [V.ref l,q]);have J:=d.trans R;refine⟨c,.inl (SqL.of (J _ _ C)),fun t i=>?_⟩;have r:=Za1 i (HO.lst c);have n:=J.trans r;have M:IsW K (upd (upd (upd H l (.lst c)) U (.tup [.ref l,q])) t (.lst c)) t ws:=⟨⟨c,Za3,Paired.mapP D fun _ _ z=>z.keep n.keepT⟩,G⟩;refine⟨p,rfl,_,n.sqt e,_,rfl,by decide,fun p2 u=>⟨by decide,fun na B=>?_⟩⟩;exact Zu2 (S _ rfl) d N j (Y.keep d.keepT) f r M i (X.keep n.keepT) u B
 ·refine⟨p,rfl,_,e,_,at0 _ _,Zc7 _ _,?_⟩
  rw[if_pos (by rw[decide_eq_false (fun z=>y (by cases z;rfl))];rfl)];refine T ?_ _ (Same.refl _);clear F
  cases g with
  | nd k a b=>cases k<;>first | rfl | exact absurd rfl (v _ _)
  | _=>rfl
theorem Xy0 {k:Nat} {f_bg0:Addr} {fd_bg0:FuncData} (F_bg0:Fun K "by_first" "by_first" (top 27) f_bg0 fd_bg0) (m_list:mg "list"=none):FnOk P w K mg base CX0 (k+1) f_bg0 fd_bg0 ["wishes","goal","on"] (Zp9 K .first):=by
 refine F_bg0.ok Xt5 (fun y H Q E h=>?_) (fun _ A _ s H y Q E Z h=>?_)
 ·obtain⟨u,N,D,ws,g,i,rfl,_⟩:=h
  rfl
 obtain⟨u,N,D,ws,g,i,rfl,J,r,hO,G,R,t,O,hl,C,B⟩:=h;refine⟨_,(Za6 (Zb1 (Zk4 (ptcM (Zd6) (pxt (pvM 1) Za5) Za9) (Zb5 (Za0 (Zb3 (Za0 (Zg3 Zf0 (by exact rfl) m_list Zh5 (Za0 (pvM 0) Za2)) (Za0 (pxt (pvM 1) Za5) Za2))) Za2)) Zd4))),?_⟩;walk_at "1"
 obtain rfl:i=none:=by cases i with
  | none=>rfl
  | some o=>cases G
 rcases Zk9 .one r with ⟨a,b,p,U,T,rfl,rfl,e,F,Y⟩ | ⟨p,x,S,rfl,e,n,m⟩
 ·have gk:=t
  have V:1+a.parts+b.parts<=100:=O;refine⟨p,rfl,_,e,_,rfl,rfl,?_⟩;rw[if_pos (by rfl)];obtain⟨⟨c,I,L⟩,M⟩:=id J;refine⟨c,.inl (SqL.of I),fun l f=>?_⟩;have d:=Za1 f (HO.lst c);have v:IsW K (upd H l (.lst c)) l ws:=⟨⟨c,Za3,Paired.mapP L fun _ _ z=>z.keep d.keepT⟩,M⟩;refine⟨p,rfl,_,d.sqt e,_,rfl,by decide,fun W j=>⟨by decide,fun X q=>?_⟩⟩;exact Zk6 (B _ rfl) d v f (F.keep d.keepT) j q
 ·refine⟨p,rfl,_,e,_,at0 _ _,Zc7 _ _,?_⟩
  rw[if_neg (fun z=>n (by cases z;rfl))];refine C ?_ _ (Same.refl _);clear r
  cases g with
  | nd k a b=>cases k<;>first | rfl | exact absurd rfl (m _ _)
  | _=>rfl
theorem Xx5 {k:Nat} {f_bl0:Addr} {fd_bl0:FuncData} (F_bl0:Fun K "by_second" "by_second" (top 28) f_bl0 fd_bl0) (m_list:mg "list"=none):FnOk P w K mg base CX0 (k+1) f_bl0 fd_bl0 ["wishes","goal","on"] (Zp9 K .second):=by
 refine F_bl0.ok Xt0 (fun y H Q E h=>?_) (fun _ A _ s H y Q E Z h=>?_)
 ·obtain⟨u,N,D,ws,g,i,rfl,_⟩:=h
  rfl
 obtain⟨u,N,D,ws,g,i,rfl,J,r,hO,G,R,t,O,hl,C,B⟩:=h;refine⟨_,(Za6 (Zb1 (Zk4 (ptcM (Zd6) (pxt (pvM 1) Za5) Za9) (Zb5 (Za0 (Zb3 (Za0 (Zg3 Zf0 (by exact rfl) m_list Zh5 (Za0 (pvM 0) Za2)) (Za0 (pxt (pvM 1) Za5) Za2))) Za2)) Zd4))),?_⟩;walk_at "1"
 obtain rfl:i=none:=by cases i with
  | none=>rfl
  | some o=>cases G
 rcases Zk9 .one r with ⟨a,b,p,U,T,rfl,rfl,e,Y,F⟩ | ⟨p,x,S,rfl,e,n,m⟩
 ·have gk:=t
  have V:1+a.parts+b.parts<=100:=O;refine⟨p,rfl,_,e,_,rfl,rfl,?_⟩;rw[if_pos (by rfl)];obtain⟨⟨c,I,L⟩,M⟩:=id J;refine⟨c,.inl (SqL.of I),fun l f=>?_⟩;have d:=Za1 f (HO.lst c);have v:IsW K (upd H l (.lst c)) l ws:=⟨⟨c,Za3,Paired.mapP L fun _ _ z=>z.keep d.keepT⟩,M⟩;refine⟨p,rfl,_,d.sqt e,_,rfl,by decide,fun W j=>⟨by decide,fun X q=>?_⟩⟩;exact Zk6 (B _ rfl) d v f (F.keep d.keepT) j q
 ·refine⟨p,rfl,_,e,_,at0 _ _,Zc7 _ _,?_⟩
  rw[if_neg (fun z=>n (by cases z;rfl))];refine C ?_ _ (Same.refl _);clear r
  cases g with
  | nd k a b=>cases k<;>first | rfl | exact absurd rfl (m _ _)
  | _=>rfl
theorem Xx4 {k:Nat} {f_bm0:Addr} {fd_bm0:FuncData} (F_bm0:Fun K "by_then" "by_then" (top 29) f_bm0 fd_bm0) (C_more:Cl P w K mg base k "more" ["wishes","some"] (Zm9 K)):FnOk P w K mg base CX0 (k+1) f_bm0 fd_bm0 ["wishes","goal","on"] (Zp9 K .thn):=by
 refine F_bm0.ok Xs9 (fun I H Q E h=>?_) (fun _ A _ s H I Q E S h=>?_)
 ·obtain⟨m,V,M,i,g,j,rfl,_⟩:=h
  rfl
 obtain⟨m,V,M,i,g,j,rfl,U,F,hO,T,v,G,W,hl,L,J⟩:=h;refine⟨_,(Za6 (Zb1 (Zk4 (ptcM (Zd6) (pxt (pvM 1) Za5) Za9) (Zb5 (Za0 (Zb3 (Za0 (Zb7 C_more S (Za0 (pvM 0) (Za0 (Zb5 (Za0 (pxt (pvM 1) Za5) Za2)) Za2))) (Za0 (pxt (pvM 1) Za5) Za2))) Za2)) Zd4))),?_⟩;walk_at "1"
 obtain rfl:j=none:=by cases j with
  | none=>rfl
  | some o=>cases T
 rcases Zk9 .thn F with ⟨a,b,p,n,Z,rfl,rfl,c,O,N⟩ | ⟨p,x,Y,rfl,c,B,y⟩
 ·have X:=G
  have pp:1+a.parts+b.parts<=100:=W;refine⟨p,rfl,_,c,_,rfl,rfl,?_⟩;rw[if_pos (by rfl)];refine⟨p,rfl,_,c,_,rfl,by decide,fun l D=>?_⟩;have d:=Za1 D (HO.lst [n]);refine⟨m,l,i,[n],[a],rfl,U.keep d,Za3,.cons (O.keep d.keepT) .nil,v,fun t R=>by rw[List.mem_singleton.mp R];exact⟨X.1,by walk_at "o"⟩,by show i.length+1<=1000;walk_at "o",fun r H1 e f q=>?_⟩;have E:=d.trans e;refine⟨p,rfl,_,E.sqt c,_,rfl,by decide,fun p1 u=>⟨by decide,fun na C=>?_⟩⟩;exact Zk6 (J _ rfl) E q (d.free f) (N.keep E.keepT) u C
 ·refine⟨p,rfl,_,c,_,at0 _ _,Zc7 _ _,?_⟩
  rw[if_neg (fun z=>B (by cases z;rfl))];refine L ?_ _ (Same.refl _);clear F
  cases g with
  | nd k a b=>cases k<;>first | rfl | exact absurd rfl (y _ _)
  | _=>rfl
theorem Xx6 {k:Nat} {f_bk0:Addr} {fd_bk0:FuncData} (F_bk0:Fun K "by_parts" "by_parts" (top 30) f_bk0 fd_bk0) (C_more:Cl P w K mg base k "more" ["wishes","some"] (Zm9 K)) (C_without:Cl P w K mg base k "without" ["wishes","statement"] (Zg9 K)):FnOk P w K mg base CX0 (k+1) f_bk0 fd_bk0 ["wishes","goal","on"] (Zp9 K .parts):=by
 refine F_bk0.ok Xt1 (fun V H Q E h=>?_) (fun _ A _ s H V Q E L h=>?_)
 ·obtain⟨B,gv,Y,j,g,q,rfl,_⟩:=h
  rfl
 obtain⟨B,gv,Y,j,g,q,rfl,hW,hT,hO,hn,d,q0,gp,hl,X,W⟩:=h
 refine⟨_,(Za4 (Zc4 (ptcM (Zw6) (pxt (pvM 2) Za5) Za9)
  (Za6 (Zb1 Zd4))
  Zb2)
 (Za6 (Zb1 (Zb5 (Za0 (Zb3 (Za0 (Zb7 C_more L (Za0 (Zb7 C_without L (Za0 (pvM 0) (Za0 (pvM 2) Za2))) (Za0 (Zb5 (Za0 (pxt (pvM 2) Za5) (Za0 (pxt (pvM 2) Za5) Za2))) Za2))) (Za0 (pvM 1) Za2))) Za2))))),?_⟩
 walk_at "1"
 obtain⟨o,rfl⟩:∃ o,q=some o:=by cases q with
  | none=>cases hn
  | some o=>exact⟨o,rfl⟩
 obtain⟨v,u⟩:=hO;have n:=d o u;have G:(rem j o).length<=900:=Nat.le_trans (List.length_filter_le _ _) hl;have m:Okw (rem j o):=fun t y=>d t (mem_rem.mp y).1;rcases Zk9 .both v with ⟨a,b,p,D,C,rfl,rfl,c,hx,Z⟩ | ⟨p,x,xs,rfl,c,O,N⟩
 ·have T:=n.1
  have pp:1+a.parts+b.parts<=100:=n.2;refine⟨p,rfl,_,c,_,rfl,rfl,?_⟩;rw[if_neg (by decide)];refine⟨B,.ref p,j,_,rfl,hW,v,d,u,by walk_at "o",fun r H1 e f J=>?_⟩;refine⟨p,rfl,_,e.sqt c,_,rfl,p,rfl,_,e.sqt c,_,rfl,by decide,fun l S=>?_⟩;have F:=Za1 S (HO.lst [D,C]);have i:=e.trans F;refine⟨r,l,_,[D,C],[a,b],rfl,J.keep F,Za3,.cons (hx.keep i.keepT) (.cons (Z.keep i.keepT) .nil),m,fun t y=>?_,by show _+2<=1000;walk_at "o",fun r2 H2 U f2 I=>⟨by decide,fun p1 M=>⟨by decide,fun na R=>?_⟩⟩⟩
  ·rcases List.mem_cons.mp y with z | z
   ·rw[z];exact⟨T.1,by walk_at "o"⟩
   ·rw[List.mem_singleton.mp z];exact⟨T.2,by walk_at "o"⟩
  ·exact Zk6 (W _ rfl) (i.trans U) I (i.free f2) (hT.keep (i.trans U).keepT) M R
 ·refine⟨p,rfl,_,c,_,at0 _ _,Zc7 _ _,?_⟩
  rw[if_pos (by rw[decide_eq_false (fun z=>O (by cases z;rfl))];rfl)];refine X ?_ _ (Same.refl _);clear v u n G m
  cases o with
  | nd k a b=>cases k<;>first | rfl | exact absurd rfl (N _ _)
  | _=>rfl
theorem Xy4 {k:Nat} {f_bc0:Addr} {fd_bc0:FuncData} (F_bc0:Fun K "by_cases" "by_cases" (top 31) f_bc0 fd_bc0) (C_more:Cl P w K mg base k "more" ["wishes","some"] (Zm9 K)) (C_without:Cl P w K mg base k "without" ["wishes","statement"] (Zg9 K)):FnOk P w K mg base CX0 (k+1) f_bc0 fd_bc0 ["wishes","goal","on"] (Zp9 K .cases):=by
 refine F_bc0.ok sc_bc0 (fun vs H Q E h=>?_) (fun _ A _ s H vs Q E F h=>?_)
 ·obtain⟨J,gv,ov,m,g,B,rfl,_⟩:=h
  rfl
 obtain⟨J,gv,ov,m,g,B,rfl,hW,hT,hO,hn,j,q0,gp,hl,q1,q2⟩:=h
 refine⟨_,(Za4 (Zc4 (ptcM (Zw6) (pxt (pvM 2) Za5) Za9)
  (Za6 (Zb1 Zd4))
  Zb2)
 (Za4 (pst 3 sc_bc0.nd (Zb7 C_without F (Za0 (pvM 0) (Za0 (pvM 2) Za2))))
 (Za6 (Zb1 (Zb5 (Za0 (Zb3 (Za0 (Zb7 C_more F (Za0 (pvM 3) (Za0 (Zb5 (Za0 (pxt (pvM 2) Za5) Za2)) Za2))) (Za0 (pvM 1) Za2))) (Za0 (Zb3 (Za0 (Zb7 C_more F (Za0 (pvM 3) (Za0 (Zb5 (Za0 (pxt (pvM 2) Za5) Za2)) Za2))) (Za0 (pvM 1) Za2))) Za2))))))),?_⟩
 walk_at "1"
 obtain⟨o,rfl⟩:∃ o,B=some o:=by cases B with
  | none=>cases hn
  | some o=>exact⟨o,rfl⟩
 obtain⟨D,C⟩:=hO;have y:=j o C;have O:(rem m o).length<=900:=Nat.le_trans (List.length_filter_le _ _) hl;have c:Okw (rem m o):=fun t d=>j t (mem_rem.mp d).1;rcases Zk9 .one D with ⟨a,b,p,M,L,rfl,rfl,i,hx,hy⟩ | ⟨p,x,xs,rfl,i,W,U⟩
 ·have gk:=y.1
  have pp:1+a.parts+b.parts<=100:=y.2;refine⟨p,rfl,_,i,_,rfl,rfl,?_⟩;rw[if_neg (by decide)];refine⟨J,.ref p,m,_,rfl,hW,D,j,C,by walk_at "o",fun r H1 e f q=>?_⟩;refine⟨p,rfl,_,e.sqt i,_,rfl,by decide,fun l Z=>?_⟩;have v:=Za1 Z (HO.lst [M]);have I:=e.trans v;refine⟨r,l,_,[M],[a],rfl,q.keep v,Za3,.cons (hx.keep I.keepT) .nil,c,fun t d=>by rw[List.mem_singleton.mp d];exact⟨gk.1,by walk_at "o"⟩,by show _+1<=1000;walk_at "o",fun r2 H2 e2 f2 S=>⟨by decide,fun p1 u=>?_⟩⟩;have G:=I.trans e2;have N:=Za1 u (HO.tup [V.ref r2,gv]);have E3:=G.trans N;refine⟨p,rfl,_,E3.sqt i,_,rfl,by decide,fun l2 Y=>?_⟩;have n:=Za1 Y (HO.lst [L]);have E4:=E3.trans n;refine⟨r,l2,_,[L],[b],rfl,q.keep (v.trans (e2.trans (N.trans n))),Za3,.cons (hy.keep E4.keepT) .nil,c,fun t d=>by rw[List.mem_singleton.mp d];exact⟨gk.2,by walk_at "o"⟩,by show _+1<=1000;walk_at "o",fun r3 H5 e5 f5 R=>⟨by decide,fun p2 T=>⟨by decide,fun na X=>?_⟩⟩⟩;exact Zu2 (q2 _ rfl) G S (I.free f2) (hT.keep G.keepT) u (n.trans e5) R (n.free f5) (hT.keep (E4.trans e5).keepT) T X
 ·refine⟨p,rfl,_,i,_,at0 _ _,Zc7 _ _,?_⟩
  rw[if_pos (by rw[decide_eq_false (fun z=>W (by cases z;rfl))];rfl)];refine q1 ?_ _ (Same.refl _);clear D C y O c
  cases o with
  | nd k a b=>cases k<;>first | rfl | exact absurd rfl (U _ _)
  | _=>rfl
theorem Xx8 {k:Nat} {f_bi0:Addr} {fd_bi0:FuncData} (F_bi0:Fun K "by_known" "by_known" (top 32) f_bi0 fd_bi0) (C_among:Cl P w K mg base k "among" ["wishes","statement"] (Zo7 K)) (C_more:Cl P w K mg base k "more" ["wishes","some"] (Zm9 K)) (C_without:Cl P w K mg base k "without" ["wishes","statement"] (Zg9 K)):FnOk P w K mg base CX0 (k+1) f_bi0 fd_bi0 ["wishes","goal","on"] (Zp9 K .known):=by
 refine F_bi0.ok Xt3 (fun Y H Q E h=>?_) (fun _ A _ s H Y Q E D h=>?_)
 ·obtain⟨q,gv,ov,d,g,v,rfl,_⟩:=h
  rfl
 obtain⟨q,gv,ov,d,g,v,rfl,U,hT,hO,hn,c,q0,gp,hl,I,Z⟩:=h
 refine⟨_,(Za4 (Zc4 ((Zr2 (ptcM (Zw6) (pxt (pvM 2) Za5) Za9) (Zl7 (Zl8 (Zj1 (Zb7 C_among D (Za0 (pvM 0) (Za0 (pxt (pvM 2) Za5) Za2)))))))).pt
  (Za6 (Zb1 Zd4))
  Zb2)
 (Za6 (Zb1 (Zb5 (Za0 (Zb3 (Za0 (Zb7 C_more D (Za0 (Zb7 C_without D (Za0 (pvM 0) (Za0 (pvM 2) Za2))) (Za0 (Zb5 (Za0 (pxt (pvM 2) Za5) Za2)) Za2))) (Za0 (pvM 1) Za2))) Za2))))),?_⟩
 walk_at "1"
 obtain⟨o,rfl⟩:∃ o,v=some o:=by cases v with
  | none=>cases hn
  | some o=>exact⟨o,rfl⟩
 obtain⟨B,y⟩:=hO;have u:=c o y;have J:(rem d o).length<=900:=Nat.le_trans (List.length_filter_le _ _) hl;have n:Okw (rem d o):=fun t C=>c t (mem_rem.mp C).1;rcases Zk9 .thn B with ⟨a,b,p,X,F,rfl,rfl,i,hx,hy⟩ | ⟨p,x,xs,rfl,i,R,O⟩
 ·have V:=u.1
  have pp:1+a.parts+b.parts<=100:=u.2;refine⟨p,rfl,_,i,_,rfl,rfl,?_⟩;rw[if_neg (by decide)];refine⟨p,rfl,_,i,_,rfl,q,X,d,a,rfl,U,hx,c,V.1,by walk_at "o",fun H0 j=>⟨_,rfl,?_⟩⟩
  by_cases ha:a∈d
  ·rw[decide_eq_true ha,if_neg (by decide)]
   refine⟨q,.ref p,d,_,rfl,U.keep j,B.keep j.keepT,c,y,by walk_at "o",fun r H1 e1 f M=>?_⟩;have e:=j.trans e1;refine⟨p,rfl,_,e.sqt i,_,rfl,by decide,fun l T=>?_⟩;have G:=Za1 T (HO.lst [F]);have m:=e.trans G;refine⟨r,l,_,[F],[b],rfl,M.keep G,Za3,.cons (hy.keep m.keepT) .nil,n,fun t C=>by rw[List.mem_singleton.mp C];exact⟨V.2,by walk_at "o"⟩,by show _+1<=1000;walk_at "o",fun r2 H2 W f2 L=>⟨by decide,fun p1 N=>⟨by decide,fun na S=>?_⟩⟩⟩;exact Zk6 (Z _ (if_pos ha)) (m.trans W) L (m.free f2) (hT.keep (m.trans W).keepT) N S
  ·rw[decide_eq_false ha,if_pos (by decide)]
   exact I (if_neg ha) _ j
 ·refine⟨p,rfl,_,i,_,at0 _ _,Zc7 _ _,?_⟩
  rw[if_pos (by rw[decide_eq_false (fun z=>R (by cases z;rfl))];rfl)];rw[if_pos trivial];refine I ?_ _ (Same.refl _);clear B y u J n
  cases o with
  | nd k a b=>cases k<;>first | rfl | exact absurd rfl (O _ _)
  | _=>rfl
theorem Xy2 {k:Nat} {f_be0:Addr} {fd_be0:FuncData} (F_be0:Fun K "by_curried" "by_curried" (top 34) f_be0 fd_be0) (C_is_if:Cl P w K mg base k "is_if" ["on","kind"] (Zw1 K)) (C_more:Cl P w K mg base k "more" ["wishes","some"] (Zm9 K)) (C_without:Cl P w K mg base k "without" ["wishes","statement"] (Zg9 K)):FnOk P w K mg base CX0 (k+1) f_be0 fd_be0 ["wishes","goal","on"] (Zp9 K .curried):=by
 refine F_be0.ok sc_be0 (fun vs H Q E h=>?_) (fun _ A _ s H vs Q E L h=>?_)
 ·obtain⟨N,gv,S,n,g,D,rfl,_⟩:=h
  rfl
 obtain⟨N,gv,S,n,g,D,rfl,hW,hT,hO,hn,m,q8,gp,hl,q1,q2⟩:=h
 refine⟨_,(Za4 (Zc4 (Zl8 (Zj1 (Zb7 C_is_if L (Za0 (pvM 2) (Za0 Za9 Za2)))))
  (Za6 (Zb1 Zd4))
  Zb2)
 (Za4 (Zr3 (Ze5 Xk5 (pxt (pvM 2) Za5) (Zf3 Za5) Zf4) (Zo0 rfl (Zc0 (Zb6 (i:=3) sc_be0.nd rfl (Or.inl rfl)) (Zc0 (Zb6 (i:=4) sc_be0.nd rfl (Or.inl rfl)) Zh9))))
 (Za6 (Zb1 (Zb5 (Za0 (Zb3 (Za0 (Zb7 C_more L (Za0 (Zb7 C_without L (Za0 (pvM 0) (Za0 (pvM 2) Za2))) (Za0 (Zb5 (Za0 (Zb3 (Za0 Za9 (Za0 (pvM 3) (Za0 (Zb3 (Za0 Za9 (Za0 (pvM 4) (Za0 (pxt (pvM 2) Za5) Za2)))) Za2)))) Za2)) Za2))) (Za0 (pvM 1) Za2))) Za2)))))),?_⟩
 walk_at "1"
 obtain⟨o,rfl⟩:∃ o,D=some o:=by cases D with
  | none=>cases hn
  | some o=>exact⟨o,rfl⟩
 obtain⟨u,F⟩:=hO;have C:=m o F;have T:(rem n o).length<=900:=Nat.le_trans (List.length_filter_le _ _) hl;have v:Okw (rem n o):=fun t J=>m t (mem_rem.mp J).1;refine⟨S,o,_,rfl,u,_,rfl,?_⟩;rcases Yl7 .both o with ⟨x,y,c,rfl⟩ | ⟨hf,q3⟩
 ·obtain⟨p,va,O,rfl,W,ha,hc⟩:=isT_nd.mp u
  have M:=C.1;have pp:1+(1+x.parts+y.parts)+c.parts<=100:=C.2;obtain⟨p2,d,b,rfl,U,hx,hy⟩:=isT_nd.mp ha;rw[if_neg (by show ¬ (!decide (some ("both":Str)=some ("both":Str)))=true;decide)];refine⟨p,rfl,_,W,_,rfl,p2,_,rfl,U,fun z=>absurd z.1 (show ¬ (HT.sIx 3 0 (some 1)=0) by decide),fun p3 Z=>?_⟩;have q:=Za1 Z (HO.tup (cutV [V.str Kd.both.str,d,b] (some 1) none));have ct:cutV [V.str Kd.both.str,d,b] (some 1) none=[d,b]:=Yq7 (by exact Nat.le_add_left _ _);refine⟨p3,rfl,_,.inl (.inl Za3),by rw[ct];rfl,d,[b],ct,b,[],rfl,rfl,?_⟩;refine⟨N,.ref p,n,_,rfl,hW.keep q,u.keep q.keepT,m,F,by walk_at "o",fun r H1 e1 f Y=>?_⟩;have e:=q.trans e1;have fr:=q.free f;refine⟨p,rfl,_,e.sqt W,_,rfl,by decide,fun I q6=>⟨by decide,fun G q5=>⟨by decide,fun l q7=>?_⟩⟩⟩;have t1:=Za1 q6 (HO.tup [V.str (Str.ofString "then"),b,O]);have R:=Za1 q5 (HO.tup [V.str (Str.ofString "then"),d,V.ref I]);have B:=Za1 q7 (HO.lst [V.ref G]);have T3:=t1.trans (R.trans B);have j:=e.trans T3;refine⟨r,l,_,[V.ref G],[.nd .thn x (.nd .thn y c)],rfl,Y.keep T3,Za3,.cons (isT_nd.mpr ⟨G,d,.ref I,rfl,B.sqt (.inl (.inl Za3)),hx.keep j.keepT,isT_nd.mpr ⟨I,b,O,rfl,(R.trans B).sqt (.inl (.inl Za3)),hy.keep j.keepT,hc.keep j.keepT⟩⟩) .nil,v,fun t J=>by rw[List.mem_singleton.mp J];exact⟨⟨M.1.1,M.1.2,M.2⟩,by show 1+x.parts+(1+y.parts+c.parts)<=100;walk_at "o"⟩,by show _+1<=1000;walk_at "o",fun r2 H2 e2 f2 X=>⟨by decide,fun p1 q0=>⟨by decide,fun na q4=>?_⟩⟩⟩;exact Zk6 (q2 _ rfl) (j.trans e2) X (j.free f2) (hT.keep (j.trans e2).keepT) q0 q4
 ·refine (if_pos (show (!_)=true from congrArg (!·) hf)).mpr (q1 ?_ _ (Same.refl _))
  clear u F C T v hf
  cases o with
  | nd k a c =>
   cases k with
   | thn =>
    cases a with
    | nd k2 x y=>cases k2<;>first | rfl | exact absurd rfl (q3 _ _ _)
    | _=>rfl
   | _=>rfl
  | _=>rfl
theorem Xy1 {k:Nat} {f_bf0:Addr} {fd_bf0:FuncData} (F_bf0:Fun K "by_either" "by_either" (top 35) f_bf0 fd_bf0) (C_is_if:Cl P w K mg base k "is_if" ["on","kind"] (Zw1 K)) (C_more:Cl P w K mg base k "more" ["wishes","some"] (Zm9 K)) (C_without:Cl P w K mg base k "without" ["wishes","statement"] (Zg9 K)):FnOk P w K mg base CX0 (k+1) f_bf0 fd_bf0 ["wishes","goal","on"] (Zp9 K .either):=by
 refine F_bf0.ok sc_bf0 (fun vs H Q E h=>?_) (fun _ A _ s H vs Q E O h=>?_)
 ·obtain⟨R,gv,U,n,g,G,rfl,_⟩:=h
  rfl
 obtain⟨R,gv,U,n,g,G,rfl,hW,hT,hO,hn,m,q9,gp,hl,q1,q2⟩:=h
 refine⟨_,(Za4 (Zc4 (Zl8 (Zj1 (Zb7 C_is_if O (Za0 (pvM 2) (Za0 Za9 Za2)))))
  (Za6 (Zb1 Zd4))
  Zb2)
 (Za4 (Zr3 (Ze5 Xk5 (pxt (pvM 2) Za5) (Zf3 Za5) Zf4) (Zo0 rfl (Zc0 (Zb6 (i:=3) sc_bf0.nd rfl (Or.inl rfl)) (Zc0 (Zb6 (i:=4) sc_bf0.nd rfl (Or.inl rfl)) Zh9))))
 (Za6 (Zb1 (Zb5 (Za0 (Zb3 (Za0 (Zb7 C_more O (Za0 (Zb7 C_without O (Za0 (pvM 0) (Za0 (pvM 2) Za2))) (Za0 (Zb5 (Za0 (Zb3 (Za0 Za9 (Za0 (pvM 3) (Za0 (pxt (pvM 2) Za5) Za2)))) (Za0 (Zb3 (Za0 Za9 (Za0 (pvM 4) (Za0 (pxt (pvM 2) Za5) Za2)))) Za2))) Za2))) (Za0 (pvM 1) Za2))) Za2)))))),?_⟩
 walk_at "1"
 obtain⟨o,rfl⟩:∃ o,G=some o:=by cases G with
  | none=>cases hn
  | some o=>exact⟨o,rfl⟩
 obtain⟨v,I⟩:=hO;have F:=m o I;have W:(rem n o).length<=900:=Nat.le_trans (List.length_filter_le _ _) hl;have C:Okw (rem n o):=fun t M=>m t (mem_rem.mp M).1;refine⟨U,o,_,rfl,v,_,rfl,?_⟩;rcases Yl7 .one o with ⟨x,y,c,rfl⟩ | ⟨hf,q4⟩
 ·obtain⟨p,va,q,rfl,N,ha,hc⟩:=isT_nd.mp v
  have B:=F.1;have pp:1+(1+x.parts+y.parts)+c.parts<=100:=F.2;obtain⟨p2,j,b,rfl,X,hx,hy⟩:=isT_nd.mp ha;rw[if_neg (by show ¬ (!decide (some ("one":Str)=some ("one":Str)))=true;decide)];refine⟨p,rfl,_,N,_,rfl,p2,_,rfl,X,fun z=>absurd z.1 (show ¬ (HT.sIx 3 0 (some 1)=0) by decide),fun p3 q0=>?_⟩;have u:=Za1 q0 (HO.tup (cutV [V.str Kd.one.str,j,b] (some 1) none));have ct:cutV [V.str Kd.one.str,j,b] (some 1) none=[j,b]:=Yq7 (by exact Nat.le_add_left _ _);refine⟨p3,rfl,_,.inl (.inl Za3),by rw[ct];rfl,j,[b],ct,b,[],rfl,rfl,?_⟩;refine⟨R,.ref p,n,_,rfl,hW.keep u,v.keep u.keepT,m,I,by walk_at "o",fun r H1 e1 f Z=>?_⟩;have e:=u.trans e1;have fr:=u.free f;refine⟨p,rfl,_,e.sqt N,_,rfl,by decide,fun L q7=>?_⟩;have T:=Za1 q7 (HO.tup [V.str (Str.ofString "then"),j,q]);refine⟨p,rfl,_,(e.trans T).sqt N,_,rfl,by decide,fun J q6=>⟨by decide,fun l q8=>?_⟩⟩;have S:=Za1 q6 (HO.tup [V.str (Str.ofString "then"),b,q]);have D:=Za1 q8 (HO.lst [V.ref L,V.ref J]);have T3:=T.trans (S.trans D);have d:=e.trans T3;refine⟨r,l,_,[V.ref L,V.ref J],[.nd .thn x c,.nd .thn y c],rfl,Z.keep T3,Za3,.cons (isT_nd.mpr ⟨L,j,q,rfl,(S.trans D).sqt (.inl (.inl Za3)),hx.keep d.keepT,hc.keep d.keepT⟩) (.cons (isT_nd.mpr ⟨J,b,q,rfl,D.sqt (.inl (.inl Za3)),hy.keep d.keepT,hc.keep d.keepT⟩) .nil),C,fun t M=>?_,by show _+2<=1000;walk_at "o",fun r2 H2 e2 f2 Y=>⟨by decide,fun p1 q3=>⟨by decide,fun na q5=>?_⟩⟩⟩
  ·rcases List.mem_cons.mp M with z | z
   ·rw[z];exact⟨⟨B.1.1,B.2⟩,by show 1+x.parts+c.parts<=100;walk_at "o"⟩
   ·rw[List.mem_singleton.mp z];exact⟨⟨B.1.2,B.2⟩,by show 1+y.parts+c.parts<=100;walk_at "o"⟩
  ·exact Zk6 (q2 _ rfl) (d.trans e2) Y (d.free f2) (hT.keep (d.trans e2).keepT) q3 q5
 ·refine (if_pos (show (!_)=true from congrArg (!·) hf)).mpr (q1 ?_ _ (Same.refl _))
  clear v I F W C hf
  cases o with
  | nd k a c =>
   cases k with
   | thn =>
    cases a with
    | nd k2 x y=>cases k2<;>first | rfl | exact absurd rfl (q4 _ _ _)
    | _=>rfl
   | _=>rfl
  | _=>rfl
theorem Xx9 {k:Nat} {f_bh0:Addr} {fd_bh0:FuncData} (F_bh0:Fun K "by_idle" "by_idle" (top 36) f_bh0 fd_bh0) (C_is_if:Cl P w K mg base k "is_if" ["on","kind"] (Zw1 K)) (C_without:Cl P w K mg base k "without" ["wishes","statement"] (Zg9 K)):FnOk P w K mg base CX0 (k+1) f_bh0 fd_bh0 ["wishes","goal","on"] (Zp9 K .idle):=by
 refine F_bh0.ok Xt4 (fun D H Q E h=>?_) (fun _ A _ s H D Q E v h=>?_)
 ·obtain⟨n,O,q,d,g,l,rfl,_⟩:=h
  rfl
 obtain⟨n,O,q,d,g,l,rfl,C,M,N,J,i,U,gp,L,b,F⟩:=h;refine⟨_,(Za6 (Zb1 (Zk4 (Zj1 (Zb7 C_is_if v (Za0 (pvM 2) (Za0 Za9 Za2)))) (Zb5 (Za0 (Zb3 (Za0 (Zb7 C_without v (Za0 (pvM 0) (Za0 (pvM 2) Za2))) (Za0 (pvM 1) Za2))) Za2)) Zd4))),?_⟩;walk_at "1"
 obtain⟨o,rfl⟩:∃ o,l=some o:=by cases l with
  | none=>cases J
  | some o=>exact⟨o,rfl⟩
 obtain⟨m,u⟩:=N;have G:=i o u;have S:(rem d o).length<=900:=Nat.le_trans (List.length_filter_le _ _) L;have T:Okw (rem d o):=fun t I=>i t (mem_rem.mp I).1;refine⟨q,o,_,rfl,m,_,rfl,?_⟩
 cases o with
 | low=>rw[if_neg (by show ¬ false=true;decide)];exact b rfl _ (Same.refl _)
 | ltr y=>rw[if_neg (by show ¬ false=true;decide)];exact b rfl _ (Same.refl _)
 | nd kd a c =>
  cases kd with
  | both=>rw[if_neg (by show ¬ false=true;decide)];exact b rfl _ (Same.refl _)
  | one=>rw[if_neg (by show ¬ false=true;decide)];exact b rfl _ (Same.refl _)
  | thn =>
   obtain⟨p,W,V,rfl,Z,ha,hc⟩:=isT_nd.mp m;have gk:=G.1
   cases a with
   | low =>
    rw[if_pos (by show decide (some ("low":Str)=some ("low":Str))=true;decide)];refine⟨n,.ref p,d,_,rfl,C,m,i,u,by walk_at "o",fun r H1 e f j=>⟨by decide,fun X z=>⟨by decide,fun Y B=>?_⟩⟩⟩;have R:rem d (.nd .thn .low c)=norm (rem d (.nd .thn .low c)):=Zm1 (Zl5 C.rise) fun _=>Iff.rfl;rw[R] at j;exact Zk6 (F _ rfl) e j f (M.keep e.keepT) z B
   | ltr y=>rw[if_neg (by show ¬ decide (some ("letter":Str)=some ("low":Str))=true;decide)];exact b rfl _ (Same.refl _)
   | nd kd2 x y =>
    cases kd2 with
    | both=>rw[if_neg (by show ¬ decide (some ("both":Str)=some ("low":Str))=true;decide)];exact b rfl _ (Same.refl _)
    | one=>rw[if_neg (by show ¬ decide (some ("one":Str)=some ("low":Str))=true;decide)];exact b rfl _ (Same.refl _)
    | thn=>rw[if_neg (by show ¬ decide (some ("then":Str)=some ("low":Str))=true;decide)];exact b rfl _ (Same.refl _)
theorem Xy3 {k:Nat} {f_bd0:Addr} {fd_bd0:FuncData} (F_bd0:Fun K "by_chain" "by_chain" (top 37) f_bd0 fd_bd0) (C_is_if:Cl P w K mg base k "is_if" ["on","kind"] (Zw1 K)) (C_more:Cl P w K mg base k "more" ["wishes","some"] (Zm9 K)) (C_without:Cl P w K mg base k "without" ["wishes","statement"] (Zg9 K)):FnOk P w K mg base CX0 (k+1) f_bd0 fd_bd0 ["wishes","goal","on"] (Zp9 K .chain):=by
 refine F_bd0.ok sc_bd0 (fun vs H Q E h=>?_) (fun _ A _ s H vs Q E v h=>?_)
 ·obtain⟨N,gv,U,j,g,G,rfl,_⟩:=h
  rfl
 obtain⟨N,gv,U,j,g,G,rfl,hW,hT,hO,hn,i,q8,gp,hl,q1,q2⟩:=h
 refine⟨_,(Za4 (Zc4 (Zl8 (Zj1 (Zb7 C_is_if v (Za0 (pvM 2) (Za0 Za9 Za2)))))
  (Za6 (Zb1 Zd4))
  Zb2)
 (Za4 (pst 3 sc_bd0.nd (Zb7 C_without v (Za0 (pvM 0) (Za0 (pvM 2) Za2))))
 (Za6 (Zb1 (Zb5 (Za0 (Zb3 (Za0 (Zb7 C_more v (Za0 (pvM 3) (Za0 (Zb5 (Za0 (Zb3 (Za0 Za9 (Za0 (pxt (pxt (pvM 2) Za5) Za5) (Za0 (pxt (pvM 2) Za5) Za2)))) Za2)) Za2))) (Za0 (pxt (pvM 2) Za5) Za2))) (Za0 (Zb3 (Za0 (Zb7 C_more v (Za0 (pvM 3) (Za0 (Zb5 (Za0 (pxt (pvM 2) Za5) Za2)) Za2))) (Za0 (pvM 1) Za2))) Za2))))))),?_⟩
 walk_at "1"
 obtain⟨o,rfl⟩:∃ o,G=some o:=by cases G with
  | none=>cases hn
  | some o=>exact⟨o,rfl⟩
 obtain⟨q,I⟩:=hO;have F:=i o I;have W:(rem j o).length<=900:=Nat.le_trans (List.length_filter_le _ _) hl;have b:Okw (rem j o):=fun t d=>i t (mem_rem.mp d).1;refine⟨U,o,_,rfl,q,_,rfl,?_⟩;rcases Yl7 .thn o with ⟨x,y,c,rfl⟩ | ⟨hf,q3⟩
 ·obtain⟨p,va,m,rfl,u,ha,hc⟩:=isT_nd.mp q
  have L:=F.1;have pp:1+(1+x.parts+y.parts)+c.parts<=100:=F.2;obtain⟨T,vx,O,rfl,X,hx,hy⟩:=isT_nd.mp ha;rw[if_neg (by show ¬ (!decide (some ("then":Str)=some ("then":Str)))=true;decide)];refine⟨N,.ref p,j,_,rfl,hW,q,i,I,by walk_at "o",fun r H1 e f C=>?_⟩;refine⟨p,rfl,_,e.sqt u,_,rfl,T,rfl,_,e.sqt X,_,rfl,p,rfl,_,e.sqt u,_,rfl,by decide,fun J q5=>⟨by decide,fun l q7=>?_⟩⟩;have t1:=Za1 q5 (HO.tup [V.str (Str.ofString "then"),O,m]);have R:=Za1 q7 (HO.lst [V.ref J]);have M:=t1.trans R;have B:=e.trans M;refine⟨r,l,_,[V.ref J],[.nd .thn y c],rfl,C.keep M,Za3,.cons (isT_nd.mpr ⟨J,O,m,rfl,R.sqt (.inl (.inl Za3)),hy.keep B.keepT,hc.keep B.keepT⟩) .nil,b,fun t d=>by rw[List.mem_singleton.mp d];exact⟨⟨L.1.2,L.2⟩,by show 1+y.parts+c.parts<=100;walk_at "o"⟩,by show _+1<=1000;walk_at "o",fun r2 H2 e2 f2 Z=>?_⟩;have z:=B.trans e2;refine⟨p,rfl,_,z.sqt u,_,rfl,by decide,fun p1 D=>?_⟩;have S:=Za1 D (HO.tup [V.ref r2,V.ref T]);have E3:=z.trans S;refine⟨p,rfl,_,E3.sqt u,_,rfl,by decide,fun l2 q6=>?_⟩;have n:=Za1 q6 (HO.lst [m]);have E4:=E3.trans n;refine⟨r,l2,_,[m],[c],rfl,C.keep (M.trans (e2.trans (S.trans n))),Za3,.cons (hc.keep E4.keepT) .nil,b,fun t d=>by rw[List.mem_singleton.mp d];exact⟨L.2,by walk_at "o"⟩,by show _+1<=1000;walk_at "o",fun r3 H5 e5 f5 Y=>⟨by decide,fun p4 q0=>⟨by decide,fun na q4=>?_⟩⟩⟩;exact Zu2 (q2 _ rfl) z Z (B.free f2) (ha.keep z.keepT) D (n.trans e5) Y (n.free f5) (hT.keep (E4.trans e5).keepT) q0 q4
 ·refine (if_pos (show (!_)=true from congrArg (!·) hf)).mpr (q1 ?_ _ (Same.refl _))
  clear q I F W b hf
  cases o with
  | nd k a c =>
   cases k with
   | thn =>
    cases a with
    | nd k2 x y=>cases k2<;>first | rfl | exact absurd rfl (q3 _ _ _)
    | _=>rfl
   | _=>rfl
  | _=>rfl
theorem Xx3 {k:Nat} {f_bn0:Addr} {fd_bn0:FuncData} (F_bn0:Fun K "by_use" "by_use" (top 38) f_bn0 fd_bn0) (C_more:Cl P w K mg base k "more" ["wishes","some"] (Zm9 K)) (m_list:mg "list"=none):FnOk P w K mg base CX0 (k+1) f_bn0 fd_bn0 ["wishes","goal","on"] (Zp9 K .use):=by
 refine F_bn0.ok Xs8 (fun W H Q E h=>?_) (fun _ A _ s H W Q E hr h=>?_)
 ·obtain⟨v,gv,ov,ws,g,q,rfl,_⟩:=h
  rfl
 obtain⟨v,gv,ov,ws,g,q,rfl,O,hT,hO,hn,e,q0,gp,hl,Z,Y⟩:=h
 refine⟨_,(Za4 (Zc4 (ptcM (Zw6) (pxt (pvM 2) Za5) Za9)
  (Za6 (Zb1 Zd4))
  Zb2)
 (Za6 (Zb1 (Zb5 (Za0 (Zb3 (Za0 (Zg3 Zf0 (by exact rfl) m_list Zh5 (Za0 (pvM 0) Za2)) (Za0 (pxt (pvM 2) Za5) Za2))) (Za0 (Zb3 (Za0 (Zb7 C_more hr (Za0 (pvM 0) (Za0 (Zb5 (Za0 (pxt (pvM 2) Za5) Za2)) Za2))) (Za0 (pvM 1) Za2))) Za2)))))),?_⟩
 walk_at "1"
 obtain⟨o,rfl⟩:∃ o,q=some o:=by cases q with
  | none=>cases hn
  | some o=>exact⟨o,rfl⟩
 obtain⟨F,C⟩:=hO;have n:=e o C;have B:(rem ws o).length<=900:=Nat.le_trans (List.length_filter_le _ _) hl;have D:Okw (rem ws o):=fun t r=>e t (mem_rem.mp r).1;rcases Zk9 .thn F with ⟨a,b,p,U,y,rfl,rfl,d,hx,hy⟩ | ⟨p,x,xs,rfl,d,L,J⟩
 ·have gk:=n.1
  have pp:1+a.parts+b.parts<=100:=n.2;refine⟨p,rfl,_,d,_,rfl,rfl,?_⟩;rw[if_neg (by decide)];obtain⟨⟨f,ha,hU⟩,hR⟩:=id O;refine⟨f,.inl (SqL.of ha),fun l j=>?_⟩;have c:=Za1 j (HO.lst f);have T:IsW K (upd H l (.lst f)) l ws:=⟨⟨f,Za3,Paired.mapP hU fun _ _ z=>z.keep c.keepT⟩,hR⟩;refine⟨p,rfl,_,c.sqt d,_,rfl,by decide,fun p1 i=>?_⟩;have X:=Za1 i (HO.tup [V.ref l,U]);have S:=c.trans X;refine⟨p,rfl,_,S.sqt d,_,rfl,by decide,fun l2 N=>?_⟩;have m:=Za1 N (HO.lst [y]);have u:=S.trans m;refine⟨v,l2,ws,[y],[b],rfl,O.keep u,Za3,.cons (hy.keep u.keepT) .nil,e,fun t r=>by rw[List.mem_singleton.mp r];exact⟨gk.2,by walk_at "o"⟩,by show ws.length+1<=1000;walk_at "o",fun r2 H2 R f2 G=>⟨by decide,fun p2 I=>⟨by decide,fun na M=>?_⟩⟩⟩;exact Zu2 (Y _ rfl) c T j (hx.keep c.keepT) i (m.trans R) G (m.free f2) (hT.keep (u.trans R).keepT) I M
 ·refine⟨p,rfl,_,d,_,at0 _ _,Zc7 _ _,?_⟩
  rw[if_pos (by rw[decide_eq_false (fun z=>L (by cases z;rfl))];rfl)];refine Z ?_ _ (Same.refl _);clear F C n B D
  cases o with
  | nd k a b=>cases k<;>first | rfl | exact absurd rfl (J _ _)
  | _=>rfl
theorem Xs6:FnScope ["rule","wishes","on"] ["rule","wishes","on"] (Za8 (top 41)):=scm (by decide +kernel)
theorem sc_bx0:FnScope ["rule","wishes","goal","on","deed","needed"] ["rule","wishes","goal","on"] (Za8 (top 42)):=scm (by decide +kernel)
noncomputable def tblR (fR:Rl->Addr):List (Str×V):=all14.map fun r=>(r.str,V.ref (fR r))
theorem Yv6 (fR:Rl->Addr) (r:Rl):(tblR fR).lookup r.str=some (V.ref (fR r)):=by cases r<;>rfl
theorem Xn0 {fR:Rl->Addr} {x:Str} (h:x∈badN):(tblR fR).lookup x=none:=by
 unfold badN at h;simp only[List.mem_cons,List.not_mem_nil,or_false] at h
 rcases h with rfl | rfl | rfl | rfl<;>rfl
theorem Xp3 (r:Rl):r.str.length<=10:=by cases r<;>decide
theorem Xw9 {k:Nat} (F_br0:Df K mg "has_on" (top 41) ["rule","wishes","on"]) (C_among:Cl P w K mg base k "among" ["wishes","statement"] (Zo7 K)) {aWITHOUT_ON:Addr} (m_WITHOUT_ON:mg "WITHOUT_ON"=some (.ref aWITHOUT_ON)) (t_WITHOUT_ON:∀ H,SqT K H aWITHOUT_ON [.str "wish",.str "low",.str "both",.str "first",.str "second",.str "then"]):Cl P w K mg base (k+1) "has_on" ["rule","wishes","on"] (Yn7 K):=by
 refine F_br0.ok Xs6 (fun m H Q E h=>?_) (fun _ _ A _ s H m Q E n h=>?_)
 ·obtain⟨r,i,b,a,g,rfl,_⟩:=h
  rfl
 obtain⟨r,i,b,a,g,rfl,u,c,j,t,q⟩:=h
 refine⟨_,(Za4 (Zc4 (Zi6 (Zw8) (pvM 0) (Zh3 (v:=.ref aWITHOUT_ON) (by exact rfl) m_WITHOUT_ON (by exact rfl)) (by with_unfolding_all rfl))
  (Za6 (Zb1 (Zl0 (Zw7) (pvM 2) Zd4 (Zn3 _))))
  Zb2)
 (Za6 (Zb1 (Yy2 (Zl0 (Yy6) (pvM 2) Zd4 (Zn3 _)) (Yo9 (Zb7 C_among n (Za0 (pvM 1) (Za0 (pvM 2) Za2)))))))),?_⟩
 walk_at "1";refine⟨_,.inr (t_WITHOUT_ON H),rfl,rfl,?_⟩;rw[if_neg Bool.false_ne_true]
 by_cases hno:r.noOn=true
 ·rw[if_pos (by revert hno;cases r<;>decide)]
  cases g with
  | none =>
   cases (show b=V.non from c);have:=q H (Same.refl _);rw[show Yb5 r a none=true from hno] at this;exact this
  | some o =>
   have d:b≠.non:=fun z=>by have:=c.1;rw[z] at this;obtain⟨p,x,l,A,e,_⟩:=Zn1 this;cases e
   have:=q H (Same.refl _);rw[show Yb5 r a (some o)=false by show (!r.noOn&&_)=false;rw[hno];rfl] at this;rw[decide_eq_false d];exact this
 ·rw[if_neg (by revert hno;cases r<;>decide)]
  have f:r.noOn=false:=by cases h:r.noOn with | false=>rfl | true=>exact absurd h hno
  cases g with
  | none =>
   cases (show b=V.non from c);rw[if_neg (by decide)];have:=q H (Same.refl _);rw[show Yb5 r a none=false from f] at this;exact this
  | some o =>
   have d:b≠.non:=fun z=>by have:=c.1;rw[z] at this;obtain⟨p,x,l,A,e,_⟩:=Zn1 this;cases e
   rw[if_pos (by rw[decide_eq_false d];rfl)];refine⟨i,b,a,o,rfl,u,c.1,j,c.2.1,t,fun y e=>?_⟩;have:=q y e;rw[show Yb5 r a (some o)=decide (o∈a) by show (!r.noOn&&_)=_;rw[f];rfl] at this;exact this
theorem Xw3 {k:Nat} {fR:Rl->Addr} {fdR:Rl->FuncData} {f_bx0:Addr} {fd_bx0:FuncData} (F_bx0:Fun K "needs" "needs" (top 42) f_bx0 fd_bx0) (C_has_on:Cl P w K mg base k "has_on" ["rule","wishes","on"] (Yn7 K)) {aRULES aNoRule:Addr} (m_RULES:mg "RULES"=some (.ref aRULES)) (D_RULES:KDict K w aRULES (tblR fR)) (m_NoRule:mg "NoRule"=some (.ref aNoRule)) (x_NoRule:XCls K aNoRule)
  (G_RULES:∀ r,FnOk P w K mg base CX0 k (fR r) (fdR r) ["wishes","goal","on"] (Zp9 K r)) (k_RULES:∀ r,W.keepIn K (.ref (fR r))=true) (b_RULES:∀ r,Binds K (fdR r) ["wishes","goal","on"] []):FnOk P w K mg base (CXe P w) (k+1) f_bx0 fd_bx0 ["rule","wishes","goal","on"] (Yn6 K aNoRule):=by
 refine F_bx0.okX sc_bx0 (fun Y H Q E h=>?_) (fun _ A _ s H Y Q E M h=>?_)
 ·obtain⟨x,R,f,p,j,l,g,c,rfl,_⟩:=h
  rfl
 obtain⟨x,R,f,p,j,l,g,c,rfl,D,S,hT,F,v,T,gp,hl,q,I⟩:=h
 refine⟨_,(Za4 (Zc4 (Xu9 (Yy3 D_RULES rfl m_RULES (pvM 0)) (by with_unfolding_all rfl))
  (Za6 (Yb2 Zq6 rfl (by exact rfl) m_NoRule x_NoRule (Za0 (Yb3 (Xo2 (pvM 0) (Zw3 Yo8))) Za2)))
  Zb2)
 (Za4 (Zc4 (Zl8 (Zj1 (Zb7 C_has_on M (Za0 (pvM 0) (Za0 (pvM 1) (Za0 (pvM 3) Za2))))))
  (Za6 (Yb2 Zq6 rfl (by exact rfl) m_NoRule x_NoRule (Za0 (Yb3 (Zw3 (Xl0 (pvM 0) (Zw3 Yo8)))) Za2)))
  Zb2)
 (Za4 (pst 4 sc_bx0.nd (Xh3 D_RULES rfl m_RULES (pvM 0)))
 (Za4 (pst 5 sc_bx0.nd (Xh5 (i:=4) G_RULES M rfl k_RULES b_RULES (Za0 (pvM 1) (Za0 (pvM 2) (Za0 (pvM 3) Za2)))))
 (Za4 (Zc4 (ptcM (Zw7) (pvM 5) Zd4)
  (Za6 (Yb2 Zq6 rfl (by exact rfl) m_NoRule x_NoRule (Za0 (Yb3 (Zw3 (Xl0 (pvM 0) (Zw3 Yo8)))) Za2)))
  Zb2)
 (Za6 (Zb1 (pvM 5)))))))),?_⟩
 cases R with
 | none =>
  walk_at "1";rw[Xn0 D];have h1:=Xr1 D
  have h2:Str.length (Str.empty++reprText x)<=200:=by rw[Str.length_append];show 0+_<=_;walk_at "o"
  have h3:Str.length (Str.empty++reprText x++Str.ofString " is no rule")<=200:=by rw[Str.length_append,Str.length_append];show 0+_+11<=_;walk_at "o"
  rw[if_pos (by rfl)];exact⟨Nat.le_of_lt (Zb0 (by walk_at "o")),Nat.le_of_lt (Zb0 (by walk_at "o")),Nat.le_of_lt (Zb0 (by walk_at "o")),Nat.le_of_lt (Zb0 (by walk_at "o")),by decide,fun e a m=>q (by cases c with | none=>rfl | some o=>exact ite_self none) e a m⟩
 | some r =>
  obtain rfl:x=r.str:=D;have lr:=Xp3 r;refine sqt (fun b a=>b=[some (.str r.str),some (.ref f),some p,some j,none,none]/\Same H a) ?_ ?_
  ·intro C n
   walk_at "1";rw[Yv6,if_neg (by simp)];exact n _ _ ⟨rfl,Same.refl _⟩
  rintro q4 H1 ⟨rfl,u⟩;refine sqt (fun b a=>b=[some (.str r.str),some (.ref f),some p,some j,none,none]/\Same H a/\Yb5 r l c=true) ?_ ?_
  ·intro C n
   walk_at "1";refine⟨r,f,j,l,c,rfl,S.keep u,F.keep u.keepT,v,by walk_at "o",fun a e=>⟨_,rfl,?_⟩⟩
   cases t:Yb5 r l c with
   | true =>
    rw[if_neg (by decide)];exact n _ _ ⟨rfl,u.trans e,t⟩
   | false =>
    rw[if_pos (by decide)];refine⟨by decide,Nat.le_of_lt (Zb0 (by walk_at "o")),by cases r<;>decide,by cases r<;>decide,by cases r<;>decide,by decide,fun G X m=>?_⟩;exact q (Yk7 t) G X (m.mono (u.trans e))
  rintro q3 H2 ⟨rfl,e2,t⟩;obtain⟨n1,n2,n3⟩:=Yz5 (g:=g) t;rw[n1] at q I;refine sqt (fun b a=>b=[some (.str r.str),some (.ref f),some p,some j,some (.ref (fR r)),none]/\Same H a) ?_ ?_
  ·intro C n
   walk_at "1";exact⟨_,Yv6 fR r,n _ _ ⟨rfl,e2⟩⟩
  rintro q2 X ⟨rfl,d⟩;walk_at "1";refine⟨r,rfl,f,p,j,l,g,c,rfl,S.keep d,hT.keep d.keepT,?_,n2,v,T,gp,hl,fun hn a e=>?_,fun J hs L a Z e U y B O N=>?_⟩
  ·cases c with
   | none=>exact F
   | some o=>exact⟨F.1.keep d.keepT,n3 o rfl⟩
  ·show if V.non=V.non then _ else _
   rw[if_pos rfl];exact⟨by decide,Nat.le_of_lt (Zb0 (by walk_at "o")),by cases r<;>decide,by cases r<;>decide,by cases r<;>decide,by decide,fun G H4 m=>q hn G H4 (m.mono (d.trans e))⟩
  ·show if V.ref L=V.non then _ else _
   rw[if_neg (fun z=>nomatch z)];exact I J hs L a Z (d.trans e) (d.free U) y B (fun o ho=>d.free (O o ho)) N
theorem Xt7:FnScope ["some"] ["some"] (Za8 (top 18)):=scm (by decide +kernel)
theorem sc_bw0:FnScope ["line","rule","wishes","goal","on","leans"] ["line"] (Za8 (top 44)):=scm (by decide +kernel)
theorem sc_bz0:FnScope ["leaned","wishes","need","needed_wishes","needed_goal"] ["leaned","wishes","need"] (Za8 (top 45)):=scm (by decide +kernel)
theorem Xy6 {k:Nat} (F_ba0:Df K mg "are_wishes" (top 18) ["some"]) (C_compared:Cl P w K mg base k "compared" ["one","other"] (Zh6 K)) (m_all:mg "all"=none) (m_zip:mg "zip"=none):Cl P w K mg base (k+1) "are_wishes" ["some"] (Yw6 K):=by
 refine F_ba0.ok Xt7 (fun R H Q E h=>?_) (fun _ _ A _ s H R Q E S h=>?_)
 ·obtain⟨a,c,d,rfl,_⟩:=h
  rfl
 obtain⟨a,c,d,rfl,B,N,r,Y,q⟩:=h;refine⟨_,(Za6 (Zb1 (Zc1 (Zs0 rfl) (by exact rfl) m_all Zu8 (Za0 (Ys3 (blk0 (N':=["one","other"]) (by decide +kernel) (by decide +kernel) rfl (by decide +kernel)) rfl (Yx7 rfl m_zip (Za0 (pvM 0) (Za0 (Ze5 Zh8 (pvM 0) (Zf3 Za5) Zf4) Za2))) (fun _ _ _ _=>(Yk4 (K:=K) (n:=2) rfl rfl (Zc0 (Zb6 (i:=0) (show (["one","other"]:List Str).Nodup from by decide +kernel) rfl (Or.inl rfl)) (Zc0 (Zb6 (i:=1) (show (["one","other"]:List Str).Nodup from by decide +kernel) rfl (Or.inl rfl)) Zh9)) rfl rfl)) (fun _ _ _ _=>(Zl0 (Zm0) (Zb7 C_compared S (Za0 (pvM 0) (Za0 (pvM 1) Za2))) Za5 (Zn3 _)))) Za2)))),?_⟩;unfold tRet tLC;walk_at "1";have X:c.length=d.length:=Paired.length N;refine⟨c,SqL.of B,fun p U=>?_⟩;have W:cutV c (some 1) none=c.drop 1:=Xc4 c 0;rw[W];have j:=Za1 U (HO.lst (c.drop 1));refine⟨⟨_,SqL.of (j _ _ B)⟩,⟨_,SqL.of Za3⟩,fun z f=>?_⟩;have l:=Za7 j.keepT N;have v:=j _ _ B;have o:upd H p (HO.lst (c.drop 1)) p=some (.lst (c.drop 1)):=Za3;generalize upd H p (HO.lst (c.drop 1))=H1 at j l v o f ⊢;refine Yp7 (xs:=c) (ys:=c.drop 1) (fun i ys g=>Same H1 g/\g z=some (.lst ys)/\ys=((List.zipWith (fun a b=>decide (cmpT a b < 0)) d d.tail).take i).map V.bl) (d.length - 1) (by rw[List.length_drop];walk_at "o") ⟨Za1 f _,Za3,by simp⟩ (fun i ys g hi ⟨e,h,hy⟩=>⟨h,?_,SqL.of (e _ _ v),SqL.of (e _ _ o)⟩) (fun i x y ys g T hx hy hT0 ⟨e,h,hz⟩ C' hC'=>?_) (fun ys g ⟨e,h,hy⟩=>?_)
 ·rw[hy,List.length_map,List.length_take]
  exact small1M (by walk_at "o")
 ·rw[List.getElem?_drop] at hy
  obtain⟨t,L,I⟩:=paired_get l hx;obtain⟨u,J,G⟩:=paired_get l hy;have m:=r t (List.mem_of_getElem? L);have D:=r u (List.mem_of_getElem? J);have C:Same H1 (upd g T (.tup [x,y])):=e.trans (Za1 hT0 _);walk_at "1";refine⟨_,.inl (.inl Za3),rfl,_,_,rfl,_,_,rfl,rfl,Wk.trans (Ze9 (i:=0) rfl) (Ze9 (i:=1) rfl),x,y,t,u,rfl,I.keep C.keepT,G.keep C.keepT,m.1,D.1,by have:=m.2;walk_at "o",fun Z O=>⟨_,rfl,hC' _ _ (O _ _ ((Za1 hT0 _) _ _ h)) ⟨(C.trans O).write f,Za3,?_⟩⟩⟩
  have F:(List.zipWith (fun a b=>decide (cmpT a b < 0)) d d.tail)[i]?=some (decide (cmpT t u < 0)):=by
   rw[List.getElem?_zipWith,L,List.getElem?_tail,show i+1=1+i by walk_at "o",J]
  rw[hz,List.take_succ,F,List.map_append];rfl
 ·have M:(List.zipWith (fun a b=>decide (cmpT a b < 0)) d d.tail).length=d.length - 1:=by rw[List.length_zipWith,List.length_tail];walk_at "o"
  rw[<- M,List.take_length] at hy;refine⟨z,rfl,List.zipWith (fun a b=>decide (cmpT a b < 0)) d d.tail,SqL.of (by rw[h,hy]),?_⟩;rw[Yr1];exact q _ (j.trans e)
theorem Xw4 {k:Nat} (F_bw0:Df K mg "needed_by" (top 44) ["line"]) {aNoRule:Addr} {f_bx0:Addr} {fd_bx0:FuncData} (G_bx0:FnOk P w K mg base (CXe P w) k f_bx0 fd_bx0 ["rule","wishes","goal","on"] (Yn6 K aNoRule)) (m_bx0:mg "needs"=some (.ref f_bx0)) (k_bx0:W.keepIn K (.ref f_bx0)=true) (b_bx0:Binds K fd_bx0 ["rule","wishes","goal","on"] []) (m_NoRule:mg "NoRule"=some (.ref aNoRule)) (xc_NoRule:XC K aNoRule):Cl P w K mg base (k+1) "needed_by" ["line"] (Xk4 K):=by
 refine F_bw0.ok sc_bw0 (fun d H Q E h=>?_) (fun _ _ A _ s H d Q E q h=>?_)
 ·obtain⟨v,l,rfl,_⟩:=h
  rfl
 obtain⟨v,l,rfl,u,a,o,m,j⟩:=h
 refine⟨_,(Za4 (Zr3 (pvM 0) (Zo0 rfl (Zc0 (Zb6 (i:=1) sc_bw0.nd rfl (Or.inl rfl)) (Zc0 (Zb6 (i:=2) sc_bw0.nd rfl (Or.inl rfl)) (Zc0 (Zb6 (i:=3) sc_bw0.nd rfl (Or.inl rfl)) (Zc0 (Zb6 (i:=4) sc_bw0.nd rfl (Or.inl rfl)) (Zc0 (Zb6 (i:=5) sc_bw0.nd rfl (Or.inl rfl)) Zh9)))))))
 (Za6 (Xo0 rfl rfl rfl (by exact rfl) m_NoRule xc_NoRule (Yx4 G_bx0 q (by exact rfl) m_bx0 k_bx0 b_bx0 .nil (Za0 (pvM 1) (Za0 (pvM 2) (Za0 (pvM 3) (Za0 (pvM 4) Za2)))))
  (fun L=>(Za6 (Zb1 Zd4)))))),?_⟩
 obtain⟨p,c,I,G,n,f,rfl,F,D,C,B,z,J⟩:=u;walk_at "1";refine⟨_,F,rfl,_,_,rfl,_,_,rfl,_,_,rfl,_,_,rfl,_,_,rfl,rfl,l.x,l.R,c,G,n,l.ws,l.g,l.on,rfl,a.r,⟨⟨f,D,C⟩,o⟩,B,z,a.w,a.g,a.gp,by have:=a.wl;walk_at "o",fun t e M b=>?_,j⟩;obtain⟨T,y⟩:=b.2.2;exact⟨e,T,rfl,y,m t _ b.2.1⟩
theorem Xw1 {k:Nat} (F_bz0:Df K mg "serves" (top 45) ["leaned","wishes","need"]) (C_compared:Cl P w K mg base k "compared" ["one","other"] (Zh6 K)) (C_among:Cl P w K mg base k "among" ["wishes","statement"] (Zo7 K)) (m_all:mg "all"=none):Cl P w K mg base (k+1) "serves" ["leaned","wishes","need"] (Zq9 K):=by
 refine F_bz0.ok sc_bz0 (fun vs H Q E h=>?_) (fun _ _ A _ s H vs Q E S h=>?_)
 ·obtain⟨v,R,G,m,n,o,rfl,_⟩:=h
  rfl
 obtain⟨v,R,G,m,n,o,rfl,Z,j,hW,Y,hl,hN,U,ln,go,q⟩:=h
 refine⟨_,(Za4 (Zr3 (pvM 2) (Zo0 rfl (Zc0 (Zb6 (i:=3) sc_bz0.nd rfl (Or.inr rfl)) (Zc0 (Zb6 (i:=4) sc_bz0.nd rfl (Or.inl rfl)) Zh9))))
 (Za4 (Zc4 (ptcM (Zw6) (Zb7 C_compared S (Za0 (pxt (pvM 0) Za5) (Za0 (pvM 4) Za2))) Za5)
  (Za6 (Zb1 Zo1))
  Zb2)
 (Za6 (Zb1 (Zc1 (Zs0 rfl) (by exact rfl) m_all Zu8 (Za0 (Ys3 (blkC (N':=["wish","needed_wishes","wishes"]) (nt:=1) (ci:=[3,1]) ["leaned","wishes","need","needed_wishes","needed_goal"] (Za8 (top 45)) rfl rfl (by decide +kernel) rfl (by decide +kernel) (by decide +kernel) rfl (by decide +kernel)) rfl (Ze7 (pxt (pvM 0) Za5)) (fun _ _ _ _=>(Zb6 (i:=0) (show (["wish","needed_wishes","wishes"]:List Str).Nodup from by decide +kernel) rfl (Or.inl rfl))) (fun _ _ _ _=>(We9 (Zb7 C_among S (Za0 (pvM 1) (Za0 (pvM 0) Za2))) (Yo9 (Zb7 C_among S (Za0 (pvM 2) (Za0 (pvM 0) Za2))))))) Za2)))))),?_⟩
 refine sqt (fun r a=>∃ d,r=[some v,some (.ref G),some R,some (.ref o.1),some d]/\IsW K H o.1 o.2.1/\IsT K H d o.2.2/\a=H) ?_ ?_
 ·intro C T
  obtain⟨p,d,rfl,F,D,B⟩:=hN;walk_at "1";exact⟨_,F,rfl,_,_,rfl,_,_,rfl,rfl,T _ _ ⟨d,rfl,D,B,rfl⟩⟩
 rintro q4 H1 ⟨d,rfl,W,q2,rfl⟩;refine sqt (fun r a=>r=[some v,some (.ref G),some R,some (.ref o.1),some d]/\Same H1 a/\m.g=o.2.2) ?_ ?_
 ·intro C T
  obtain⟨p,J,la,N,ov,I,rfl,F,D,B,h4,h5,h6⟩:=Z;walk_at "1";refine⟨_,F,_,rfl,N,d,m.g,o.2.2,rfl,h4,q2,j.g,go,by have:=j.gp;walk_at "o",fun a e=>⟨Zu0 _ _,?_⟩⟩
  by_cases hc:m.g=o.2.2
  ·rw[decide_eq_true (by rw[(Ya3 m.g o.2.2).mpr hc]),if_neg (by decide)]
   exact T _ _ ⟨rfl,e,hc⟩
  ·rw[decide_eq_false (fun z=>hc ((Ya3 _ _).mp (V.int.inj z))),if_pos (by rfl)]
   have:=q _ e;unfold Zt6 at this;rw[decide_eq_false hc] at this;exact this
 rintro q3 H2 ⟨rfl,c,q1⟩;obtain⟨p,J,la,N,ov,I,rfl,F,D,B,h4,h5,h6⟩:=Z;unfold tRet tLC;walk_at "1";have lu:I.length=m.ws.length:=Paired.length B;refine⟨_,c.sqt F,_,rfl,J,rfl,⟨_,SqL.of (c _ _ D)⟩,fun O y=>?_⟩;refine Zu5 (xs:=I) (fun i u a=>Same H2 a/\a O=some (.lst u)/\u=((m.ws.map fun t=>decide (t∈o.2.1)||decide (t∈n)).take i).map V.bl) ⟨Za1 y _,Za3,by simp⟩ (fun i u a hi ⟨e,h,hy⟩=>⟨h,?_,SqL.of ((c.trans e) _ _ D)⟩) (fun i x u a hx ⟨e,h,hy⟩ C' hC'=>?_) (fun u a ⟨e,h,hy⟩=>?_)
 ·rw[hy,List.length_map,List.length_take,List.length_map]
  exact small1M (by have:=j.wl;walk_at "o")
 ·obtain⟨t,X,M⟩:=paired_get B hx
  have L:=j.w t (List.mem_of_getElem? X);have l:∀ (b:Bool) (H5:Hp),(decide (t∈o.2.1)||decide (t∈n))=b->Same a H5->C' (.bl b) H5:=fun b H5 hb f=>hC' _ _ (f _ _ h) ⟨(e.trans f).write y,Za3,by rw[hy,List.take_succ,List.getElem?_map,X,List.map_append,<- hb];rfl⟩;walk_at "1";refine⟨Ze9 (i:=0) rfl,o.1,x,o.2.1,t,rfl,W.keep (c.trans e),M.keep (c.trans e).keepT,U,L.1,by walk_at "o",fun H5 f=>⟨_,rfl,?_⟩⟩
  by_cases hc:t∈o.2.1
  ·rw[decide_eq_true hc,if_pos rfl]
   exact l true H5 (by rw[decide_eq_true hc];rfl) f
  ·rw[decide_eq_false hc,if_neg (by decide)]
   refine⟨G,x,n,t,rfl,hW.keep ((c.trans e).trans f),M.keep ((c.trans e).trans f).keepT,Y,L.1,by walk_at "o",fun H6 e6=>l _ H6 (by rw[decide_eq_false hc];rfl) (f.trans e6)⟩
 ·have q0:(m.ws.map fun t=>decide (t∈o.2.1)||decide (t∈n)).length=I.length:=by rw[List.length_map,lu]
  rw[<- q0,List.take_length] at hy;refine⟨O,rfl,m.ws.map fun t=>decide (t∈o.2.1)||decide (t∈n),SqL.of (by rw[h,hy]),?_⟩;have:=q _ (c.trans e);unfold Zt6 at this;rw[decide_eq_true q1,Bool.true_and] at this;rw[List.all_map];exact this
theorem sc_bs0:FnScope ["lines","number","rule","wishes","goal","on","leans","needed"] ["lines","number"] (Za8 (top 46)):=scm (by decide +kernel)
theorem Xw8 {k:Nat} {f_bs0:Addr} {fd_bs0:FuncData} (F_bs0:Fun K "is_good" "is_good" (top 46) f_bs0 fd_bs0) (C_are_wishes:Cl P w K mg base k "are_wishes" ["some"] (Yw6 K)) (C_needed_by:Cl P w K mg base k "needed_by" ["line"] (Xk4 K)) (C_serves:Cl P w K mg base k "serves" ["leaned","wishes","need"] (Zq9 K)) (m_len:mg "len"=none) (m_all:mg "all"=none) (m_zip:mg "zip"=none):FnOk P w K mg base CX0 (k+1) f_bs0 fd_bs0 ["lines","number"] (Zr0 K):=by
 refine F_bs0.ok sc_bs0 (fun vs H Q E h=>?_) (fun _ A _ s H vs Q E hr h=>?_)
 ·obtain⟨a,D,L,i,rfl,_⟩:=h
  rfl
 obtain⟨a,D,L,i,rfl,ha,hL,q8,hi,hn,q⟩:=h;have lu:D.length=L.length:=Paired.length hL
 have q2:i < D.length:=by walk_at "o"
 obtain⟨l,hl,q7⟩:=paired_get hL (List.getElem?_eq_getElem q2);have d:=q8 l (List.mem_of_getElem? hl)
 have eg:Zk1 L i=Zi3 L i l:=by unfold Zk1;rw[hl]
 rw[eg] at q;have j2:=q7;obtain⟨p,N,la,gv,Z,ys,hv,h1,h2,h3,h4,h5,h6⟩:=q7
 refine⟨_,(Za4 (Zr3 (pxl (pvM 0) (pvM 1)) (Zo0 rfl (Zc0 (Zb6 (i:=2) sc_bs0.nd rfl (Or.inl rfl)) (Zc0 (Zb6 (i:=3) sc_bs0.nd rfl (Or.inr rfl)) (Zc0 (Zb6 (i:=4) sc_bs0.nd rfl (Or.inl rfl)) (Zc0 (Zb6 (i:=5) sc_bs0.nd rfl (Or.inl rfl)) (Zc0 (Zb6 (i:=6) sc_bs0.nd rfl (Or.inl rfl)) Zh9)))))))
 (Za4 (Zc4 (Zl8 (Zj1 (Zb7 C_are_wishes hr (Za0 (pvM 3) Za2))))
  (Za6 (Zb1 Zo1))
  Zb2)
 (Za4 (pst 7 sc_bs0.nd (Zb7 C_needed_by hr (Za0 (pxl (pvM 0) (pvM 1)) Za2)))
 (Za4 (Zc4 ((Zr2 (ptcM (Zw7) (pvM 7) Zd4) (Zl7 (ptcM (Zw6) (Zc1 Zb8 (by exact rfl) m_len Zd2 (Za0 (pvM 7) Za2)) (Zc1 Zb8 (by exact rfl) m_len Zd2 (Za0 (pvM 6) Za2)))))).pt
  (Za6 (Zb1 Zo1))
  Zb2)
 (Za4 (Zc4 (Zl8 (Yb0 (Zc1 (Zs0 rfl) (by exact rfl) m_all Zu8 (Za0 (Ys3 (blkC (N':=["lean","number"]) (nt:=1) (ci:=[1]) ["lines","number","rule","wishes","goal","on","leans","needed"] (Za8 (top 46)) rfl rfl (by decide +kernel) rfl (by decide +kernel) (by decide +kernel) rfl (by decide +kernel)) rfl (Ze7 (pvM 6)) (fun _ _ _ _=>(Zb6 (i:=0) (show (["lean","number"]:List Str).Nodup from by decide +kernel) rfl (Or.inl rfl))) (fun _ _ _ _=>(Xh4 (Xv7) (Zm0) Za5 (pvM 0) (pvM 1)))) Za2)) (fun _=>rfl)))
  (Za6 (Zb1 Zo1))
  Zb2)
 (Za6 (Zb1 (Zc1 (Zs0 rfl) (by exact rfl) m_all Zu8 (Za0 (Ys3 (blkC (N':=["lean","need","wishes","lines"]) (nt:=2) (ci:=[3,0]) ["lines","number","rule","wishes","goal","on","leans","needed"] (Za8 (top 46)) rfl rfl (by decide +kernel) rfl (by decide +kernel) (by decide +kernel) rfl (by decide +kernel)) rfl (Yx7 rfl m_zip (Za0 (pvM 6) (Za0 (pvM 7) Za2))) (fun _ _ _ _=>(Yk4 (K:=K) (n:=2) rfl rfl (Zc0 (Zb6 (i:=0) (show (["lean","need","wishes","lines"]:List Str).Nodup from by decide +kernel) rfl (Or.inl rfl)) (Zc0 (Zb6 (i:=1) (show (["lean","need","wishes","lines"]:List Str).Nodup from by decide +kernel) rfl (Or.inl rfl)) Zh9)) rfl rfl)) (fun _ _ _ _=>(Zb7 C_serves hr (Za0 (Zq4 (Xi4 (K:=K) rfl) (pvM 3) (pvM 0) (fun _ _=>rfl)) (Za0 (pvM 2) (Za0 (pvM 1) Za2)))))) Za2))))))))),?_⟩
 refine sqt (fun r H'=>r=[some (.ref a),some (.int (i:Nat)),some (.str l.x),some (.ref N),some gv,some Z,some (.ref la),none]/\H'=H) ?_ ?_
 ·intro C F
  walk_at "1";exact⟨D,SqL.of ha,_,Zd5 (List.getElem?_eq_getElem q2),p,hv,_,h1,rfl,_,_,rfl,_,_,rfl,_,_,rfl,_,_,rfl,_,_,rfl,rfl,F _ _ ⟨rfl,rfl⟩⟩
 rintro z3 H1 ⟨rfl,rfl⟩;refine sqt (fun r H'=>r=[some (.ref a),some (.int (i:Nat)),some (.str l.x),some (.ref N),some gv,some Z,some (.ref la),none]/\Same H1 H'/\adjB l.ws=true) ?_ ?_
 ·intro C F
  walk_at "1";refine⟨N,ys,l.ws,rfl,h2,h3,d.w,by have:=d.wl;walk_at "o",fun H' e=>⟨_,rfl,?_⟩⟩
  cases hb:adjB l.ws with
  | true =>
   rw[if_neg (by decide)];exact F _ _ ⟨rfl,e,hb⟩
  | false =>
   rw[if_pos (by decide)];have:=q _ e;unfold Zi3 at this;rw[hb] at this;exact this
 rintro z2 H2 ⟨rfl,e2,f⟩;refine sqt (fun r H'=>∃ nv,r=[some (.ref a),some (.int (i:Nat)),some (.str l.x),some (.ref N),some gv,some Z,some (.ref la),some nv]/\Same H1 H'/\((Zj4 l.R l.ws l.g l.on=none/\nv=.non)∨∃ c t u,Zj4 l.R l.ws l.g l.on=some c/\nv=.ref t/\IsNds K H' t u/\u.map (·.2)=c)) ?_ ?_
 ·intro C F
  walk_at "1";refine⟨D,SqL.of (e2 _ _ ha),_,Zd5 (List.getElem?_eq_getElem q2),D[i],l,rfl,j2.keep e2,d,adjB_iff.mp f,fun hn H' e=>F _ _ ⟨_,rfl,e2.trans e,.inl ⟨hn,rfl⟩⟩,fun c hn t H' u e fr h he _ _=>F _ _ ⟨_,rfl,e2.trans e,.inr ⟨c,t,u,hn,rfl,h,he⟩⟩⟩
 rintro z1 H3 ⟨nv,rfl,Y,q5⟩;refine sqt (fun r H'=>H'=H3/\∃ c t u,Zj4 l.R l.ws l.g l.on=some c/\c.length=l.ls.length/\r=[some (.ref a),some (.int (i:Nat)),some (.str l.x),some (.ref N),some gv,some Z,some (.ref la),some (.ref t)]/\IsNds K H' t u/\u.map (·.2)=c) ?_ ?_
 ·intro C F
  walk_at "1";rcases q5 with ⟨j7,rfl⟩ | ⟨c,t,u,W,rfl,q4,G⟩
  ·rw[if_pos rfl,if_pos trivial]
   have:=q _ Y;unfold Zi3 at this;rw[f,j7] at this;exact this
  ·obtain⟨J,I,hZ⟩:=q4
   have lz:J.length=c.length:=by rw[<- G,List.length_map];exact Paired.length hZ
   rw[if_neg (fun z=>nomatch z)];refine⟨t,rfl,J,.inl (SqL.of I),_,.inl (SqL.of (Y _ _ h6)),?_⟩;rw[List.length_map]
   by_cases hc:c.length=l.ls.length
   ·rw[decide_eq_true (show ((J.length:Nat):Int)=((l.ls.length:Nat):Int) by walk_at "o"),if_neg (by decide)]
    exact F _ _ ⟨rfl,c,t,u,W,hc,rfl,⟨J,I,hZ⟩,G⟩
   ·rw[decide_eq_false (show ¬ ((J.length:Nat):Int)=((l.ls.length:Nat):Int) by walk_at "o"),if_pos (by rfl)]
    have:=q _ Y;unfold Zi3 at this;rw[f,W] at this;dsimp only at this;rw[decide_eq_false hc] at this;exact this
 rintro z0 H4 ⟨rfl,c,t,u,W,v,rfl,q4,G⟩;refine sqt (fun r H'=>Same H1 H'/\r=[some (.ref a),some (.int (i:Nat)),some (.str l.x),some (.ref N),some gv,some Z,some (.ref la),some (.ref t)]/\IsNds K H' t u/\(l.ls.all fun j=>decide (0<=j)&&decide (j < (i:Int)))=true) ?_ ?_
 ·intro C F
  unfold tLC;walk_at "1";refine⟨⟨_,SqL.of (Y _ _ h6)⟩,fun M B=>?_⟩;refine Zu5 (xs:=l.ls.map V.int) (fun j ys H'=>Same H4 H'/\H' M=some (.lst ys)/\ys=((l.ls.map fun j=>decide (0<=j)&&decide (j < (i:Int))).take j).map V.bl) ⟨Za1 B _,Za3,by simp⟩ (fun j ys H' hi ⟨e,h,hy⟩=>⟨h,?_,SqL.of ((Y.trans e) _ _ h6)⟩) (fun j x ys H' hx ⟨e,h,hy⟩ C' hC'=>?_) (fun ys H' ⟨e,h,hy⟩=>?_)
  ·rw[hy,List.length_map,List.length_take,List.length_map]
   exact small1M (by have:=d.ll;walk_at "o")
  ·rw[List.getElem?_map] at hx
   cases I:l.ls[j]? with
   | none=>rw[I] at hx;cases hx
   | some z =>
   rw[I] at hx;cases hx;have U:∀ b:Bool,(decide (0<=z)&&decide (z < (i:Int)))=b->C' (.bl b) H':=fun b hb=>hC' _ _ h ⟨e.write B,Za3,by rw[hy,List.take_succ,List.getElem?_map,I,List.map_append,<- hb];rfl⟩;walk_at "1";refine⟨Ze9 (i:=0) rfl,?_⟩
   by_cases hc:(0:Int)<=z
   ·rw[if_pos hc]
    exact U _ (by rw[decide_eq_true hc];rfl)
   ·rw[if_neg hc]
    exact U _ (by rw[decide_eq_false hc];rfl)
  ·have q1:(l.ls.map fun j=>decide (0<=j)&&decide (j < (i:Int))).length=(l.ls.map V.int).length:=by rw[List.length_map,List.length_map]
   rw[<- q1,List.take_length] at hy;refine⟨M,rfl,l.ls.map fun j=>decide (0<=j)&&decide (j < (i:Int)),SqL.of (by rw[h,hy]),_,rfl,?_⟩;rw[List.all_map];have S:=Y.trans e
   by_cases hc:(l.ls.all fun j=>decide (0<=j)&&decide (j < (i:Int)))=true
   ·rw[if_neg (by rw[show (l.ls.all (id ∘ fun j=>decide (0<=j)&&decide (j < (i:Int))))=true from hc];decide)]
    exact F _ _ ⟨S,rfl,q4.keep e,hc⟩
   ·have j1:(l.ls.all fun j=>decide (0<=j)&&decide (j < (i:Int)))=false:=by simpa using hc
    rw[if_pos (by rw[show (l.ls.all (id ∘ fun j=>decide (0<=j)&&decide (j < (i:Int))))=false from j1];rfl)];have:=q _ S;unfold Zi3 at this;rw[f,W] at this;dsimp only at this;rw[decide_eq_true v,j1] at this;exact this
 rintro j9 H5 ⟨O,rfl,j8,q3⟩;unfold tRet tLC;walk_at "1";obtain⟨J,I,hZ⟩:=j8
 have lz:J.length=l.ls.length:=by rw[<- v,<- G,List.length_map];exact Paired.length hZ
 have lo:u.length=l.ls.length:=by rw[<- v,<- G,List.length_map]
 have j6:=Yp0 (adjB_iff.mp f) d.w ⟨d.g,d.gp⟩ W;refine⟨⟨_,SqL.of (O _ _ h6)⟩,⟨_,SqL.of I⟩,fun M B=>?_⟩;refine Yp7 (xs:=l.ls.map V.int) (ys:=J) (fun j ys H'=>Same H5 H'/\H' M=some (.lst ys)/\ys=((List.zipWith (Zk2 L l.ws) l.ls c).take j).map V.bl) l.ls.length (by rw[List.length_map];walk_at "o") ⟨Za1 B _,Za3,by simp⟩ (fun j ys H' hi ⟨e,h,hy⟩=>⟨h,?_,SqL.of ((O.trans e) _ _ h6),SqL.of (e _ _ I)⟩) (fun j x y ys H' T hx hy hT0 ⟨e,h,hzz⟩ C' hC'=>?_) (fun ys H' ⟨e,h,hy⟩=>?_)
 ·rw[hy,List.length_map,List.length_take]
  exact small1M (by have:=d.ll;walk_at "o")
 ·rw[List.getElem?_map] at hx
  cases hj:l.ls[j]? with
  | none=>rw[hj] at hx;cases hx
  | some z =>
  rw[hj] at hx;cases hx;obtain⟨o,ho,j4⟩:=paired_get hZ hy;have q6:=List.all_eq_true.mp q3 z (List.mem_of_getElem? hj);simp only[Bool.and_eq_true,decide_eq_true_eq] at q6;obtain⟨n,rfl⟩:=Int.eq_ofNat_of_zero_le q6.1
  have q9:n < D.length:=by walk_at "o"
  obtain⟨m,hm,j5⟩:=paired_get hL (List.getElem?_eq_getElem q9)
  have j0:c[j]?=some o.2:=by rw[<- G,List.getElem?_map,ho];rfl
  have q0:=j6 o.2 (List.mem_of_getElem? j0);have X:Same H5 (upd H' T (.tup [V.int (n:Nat),y])):=e.trans (Za1 hT0 _);walk_at "1";refine⟨_,.inl (.inl Za3),rfl,_,_,rfl,_,_,rfl,rfl,Wk.trans (Ze9 (i:=0) rfl) (Ze9 (i:=1) rfl),D,_,rfl,SqL.of ((O.trans X) _ _ ha),D[n],Zd5 (List.getElem?_eq_getElem q9),D[n],y,N,m,l.ws,o,rfl,j5.keep (O.trans X),q8 m (List.mem_of_getElem? hm),⟨⟨_,(O.trans X) _ _ h2,Za7 (O.trans X).keepT h3⟩,adjB_iff.mp f⟩,d.w,by have:=d.wl;walk_at "o",j4.keep X,q0.ok,by have:=q0.len;have:=d.wl;walk_at "o",q0.gok.1,fun H6 e6=>hC' _ _ (e6 _ _ ((Za1 hT0 _) _ _ h)) ⟨(X.trans e6).write B,Za3,?_⟩⟩
  have j3:(List.zipWith (Zk2 L l.ws) l.ls c)[j]?=some (Zt6 m l.ws o.2):=by
   rw[List.getElem?_zipWith,hj,j0];show some (Zk2 L l.ws ((n:Nat):Int) o.2)=_;unfold Zk2;rw[Int.toNat_natCast,hm]
  rw[hzz,List.take_succ,j3,List.map_append];rfl
 ·have q1:(List.zipWith (Zk2 L l.ws) l.ls c).length=l.ls.length:=by rw[List.length_zipWith,v];walk_at "o"
  rw[<- q1,List.take_length] at hy;refine⟨M,rfl,List.zipWith (Zk2 L l.ws) l.ls c,SqL.of (by rw[h,hy]),?_⟩;have:=q _ (O.trans e);unfold Zi3 at this;rw[f,W] at this;dsimp only at this;rw[decide_eq_true v,q3] at this;exact this
noncomputable abbrev Zl6:Stmt:=Yc6 (top 5) 0
theorem Zr1:FnScope ["self","line"] ["self","line"] (Za8 Zl6):=scm (by decide +kernel)
theorem sc_bp0:FnScope ["lines","number"] ["lines"] (Za8 (top 47)):=scm (by decide +kernel)
theorem Yr5 (i:Nat) (h:i<=5000):(Str.ofString "line ").length+(Str.ofString (toString ((i:Nat):Int))).length+(Str.ofString " is no good one").length<=100:=by
 have c:(Str.ofString (toString ((i:Nat):Int))).length<=10:=W.KT.len_num (by walk_at "o") (Int.lt_of_le_of_lt (show ((i:Nat):Int)<=5000 by walk_at "o") (by decide))
 have b:(Str.ofString "line ").length=5:=by decide +kernel
 have a:(Str.ofString " is no good one").length=15:=by decide +kernel
 walk_at "o"
theorem Xf2 (i:Nat) (h:i<=5000):((i:Nat):Int).natAbs.log2 < 1920:=by
 have:((i:Nat):Int).natAbs=i:=rfl;rw[this]
 by_cases h0:i=0
 ·subst h0;decide
 ·rw[Nat.log2_lt h0]
  exact Nat.lt_of_le_of_lt h (by decide)
theorem Zr5 {k:Nat} {f_NoLine___init__:Addr} {fd_NoLine___init__:FuncData} (F_NoLine___init__:Fun K "__init__" "NoLine.__init__" Zl6 f_NoLine___init__ fd_NoLine___init__) {aKenError aNoLine:Addr} (m_KenError:mg "KenError"=some (.ref aKenError)) (xi_KenError:XIni K aKenError) (xc_NoLine:XC K aNoLine) (xs_NoLine:XSet K aNoLine "line"):FnOk P w K mg base CX0 (k+1) f_NoLine___init__ fd_NoLine___init__ ["self","line"] (Zv9 aNoLine):=by
 refine F_NoLine___init__.ok Zr1 (fun c H Q E h=>?_) (fun _ A _ s H c Q E f h=>?_)
 ·obtain⟨e,i,T,rfl,_⟩:=h
  rfl
 obtain⟨e,i,T,rfl,a,b,q⟩:=h
 refine⟨_,(Za4 (Zq2 (Xo4 (C:=aNoLine) xi_KenError (by exact rfl) m_KenError xc_NoLine (Za0 (pvM 0) (Za0 (Yb3 (Zw3 (Xo3 (pvM 1) (Zw3 Yo8)))) Za2))))
 (Za6 (Xn9 xs_NoLine xc_NoLine (pvM 0) (pvM 1)))),?_⟩
 have m:=Yr5 i a;have d:=Xf2 i a;walk_at "1"
 have l:(Str.empty++Str.ofString "line ").length<=100:=by rw[Str.length_append];show 0+_<=_;walk_at "o"
 have j:(Str.empty++Str.ofString "line "++Str.ofString (toString ((i:Nat):Int))).length<=100:=by rw[Str.length_append,Str.length_append];show 0+_+_<=_;walk_at "o"
 have g:(Str.empty++Str.ofString "line "++Str.ofString (toString ((i:Nat):Int))++Str.ofString " is no good one").length<=100:=by rw[Str.length_append,Str.length_append,Str.length_append];show 0+_+_+_<=_;walk_at "o"
 exact⟨Nat.le_of_lt (Zb0 (by walk_at "o")),d,Nat.le_of_lt (Zb0 (by walk_at "o")),Nat.le_of_lt (Zb0 (by walk_at "o")),Nat.le_of_lt (Zb0 (by walk_at "o")),_,_,b,T,b,q⟩
theorem Xx1 {k:Nat} {f_bp0:Addr} {fd_bp0:FuncData} (F_bp0:Fun K "check" "check" (top 47) f_bp0 fd_bp0) {f_bs0:Addr} {fd_bs0:FuncData} (G_bs0:FnOk P w K mg base CX0 (k+1) f_bs0 fd_bs0 ["lines","number"] (Zr0 K)) (m_bs0:mg "is_good"=some (.ref f_bs0)) (k_bs0:W.keepIn K (.ref f_bs0)=true) (b_bs0:Binds K fd_bs0 ["lines","number"] []) {aNoLine:Addr} (m_NoLine:mg "NoLine"=some (.ref aNoLine)) {f_NoLine___init__:Addr} {fd_NoLine___init__:FuncData} (G_NoLine___init__:FnOk P w K mg base CX0 k f_NoLine___init__ fd_NoLine___init__ ["self","line"] (Zv9 aNoLine)) (b_NoLine___init__:Binds K fd_NoLine___init__ ["self","line"] []) (x_NoLine:XClsI K aNoLine f_NoLine___init__) (m_range:mg "range"=none) (m_len:mg "len"=none):FnOk P w K mg base (CXe P w) (k+1+1) f_bp0 fd_bp0 ["lines"] (Yf0 K aNoLine):=by
 refine F_bp0.okX sc_bp0 (fun M H Q E h=>?_) (fun _ A _ s H M Q E p h=>?_)
 ·obtain⟨a,c,L,rfl,_⟩:=h
  rfl
 obtain⟨a,c,L,rfl,u,I,y,O,q,m⟩:=h;have x:c.length=L.length:=Paired.length I
 refine⟨_,(Za4 (Zc4 (Zl8 (Yb0 (pvM 0) (fun _=>rfl)))
  (Za6 (Yf6 G_NoLine___init__ p b_NoLine___init__ Zq6 rfl (by exact rfl) m_NoLine x_NoLine (Za0 Za5 Za2)))
  Zb2)
 (Za4 (Zp5 PassesOwn.leaving rfl (Zi8 rfl m_range (Za0 (Zc1 Zb8 (by exact rfl) m_len Zd2 (Za0 (pvM 0) Za2)) Za2)) (Zb6 (i:=1) sc_bp0.nd rfl (Or.inl rfl))
  (Za6 (Zc4 (Zl8 (Zj1 (Zl1 G_bs0 p (by exact rfl) m_bs0 k_bs0 b_bs0 .nil Zy7 (Za0 (pvM 0) (Za0 (pvM 1) Za2)))))
  (Za6 (Yf6 G_NoLine___init__ p b_NoLine___init__ Zq6 rfl (by exact rfl) m_NoLine x_NoLine (Za0 (pvM 1) Za2)))
  Zb2)))
 (Za6 (Zb1 Zo1)))),?_⟩
 refine sqt (fun b f=>b=[some (.ref a),none]/\f=H/\L≠[]) ?_ ?_
 ·intro C v
  walk_at "1";refine⟨_,.inl ⟨c,SqL.of u,rfl⟩,?_⟩
  by_cases hz:L=[]
  ·have o:c.isEmpty=true:=by
    have:c=[]:=List.eq_nil_of_length_eq_zero (by rw[x,hz];rfl);rw[this];rfl
   rw[o,if_pos (by decide)];exact⟨by decide,fun S g=>Xk8 (n:=0) (by decide) g (m 0 (if_pos hz) _ (Same.refl _))⟩
  ·have o:c.isEmpty=false:=by cases c with
    | nil=>exact absurd (List.eq_nil_of_length_eq_zero x.symm) hz
    | cons _ _=>rfl
   rw[o,if_neg (by decide)];exact v _ _ ⟨rfl,rfl,hz⟩
 rintro V J ⟨rfl,rfl,B⟩;have R:badL L=dueF L:=if_neg B;rw[R] at q m;refine sqt (fun b f=>∃ d,b=[some (.ref a),d]/\Same J f/\∀ j,j < L.length->Zk1 L j=true) ?_ ?_
 ·intro C v
  walk_at "2";refine⟨_,.inl (SqL.of u),by walk_at "o",by walk_at "o",?_⟩;refine Zk0 (D:={ nx:=C,rt:=Q }) (n:=((c.length:Nat):Int).toNat) (lo:=0) (fun i b f=>∃ d,b=[some (.ref a),d]/\Same J f/\∀ j,j < i->Zk1 L j=true) ⟨none,rfl,Same.refl _,fun j r=>absurd r (Nat.not_lt_zero _)⟩ (fun i b f X N=>?_) (fun b f ⟨d,h1,h2,h3⟩=>v _ _ ⟨d,h1,h2,fun j r=>h3 j (by walk_at "o")⟩);obtain⟨d,rfl,e,G⟩:=N;walk_at "1";rw[show (0:Int)+(i:Int)=((i:Nat):Int) by walk_at "o"]
  have F:i < L.length:=by walk_at "o"
  refine⟨a,c,L,i,rfl,e _ _ u,IsLns.keep e I,y,F,O,fun T l=>⟨_,rfl,?_⟩⟩
  cases hg:Zk1 L i with
  | true =>
   rw[if_neg (by decide)];refine⟨e.trans l,fun j r=>?_⟩;rcases Nat.lt_or_ge j i with z | z
   ·exact G j z
   ·rw[show j=i by walk_at "o"];exact hg
  | false =>
   rw[if_pos (by decide)];exact⟨by decide,fun S g=>Xk8 (n:=i) (by walk_at "o") g (m i (Yh2 F hg G) _ (e.trans l))⟩
 rintro U T ⟨d,rfl,l,t⟩;walk_at "1";exact q (Zx8 t) _ l
theorem Xu1:FnScope ["_law_line","_law_wishes","_law_need"] ["_law_line","_law_wishes","_law_need"] (Za8 (top 60)):=scm (by decide +kernel)
theorem sc_an0:FnScope ["_law_lines","_law_k","_law_rule","_law_wishes","_law_goal","_law_on","_law_leans","_law_told","_law_lean","_law_need"] ["_law_lines","_law_k"] (Za8 (top 61)):=scm (by decide +kernel)
theorem Xi9 (ts:List Tm):PyData.eqv (.list (ts.map Tm.data)) (.list [])=ts.isEmpty:=by
 cases ts<;>rfl
theorem Yr0 (ns ws:List Tm):∀ ts:List Tm,(ts.all fun t=>decide (t∈ns)||decide (t∈ws))=(ts.filter fun t=>!decide (t∈ns)&&!decide (t∈ws)).isEmpty
 | []=>rfl
 | t :: ts=>by
  rw[List.all_cons,List.filter_cons,Yr0 ns ws ts]
  cases decide (t∈ns)<;>cases decide (t∈ws)<;>simp
theorem Wa2 {k:Nat} (F_aj0:Df K mg "_law_does" (top 60) ["_law_line","_law_wishes","_law_need"]):Cl P w K mg base (k+1) "_law_does" ["_law_line","_law_wishes","_law_need"] (Zq9 K):=by
 refine F_aj0.ok Xu1 (fun X H Q E h=>?_) (fun _ _ A _ s H X Q E d h=>?_)
 ·obtain⟨v,nv,x,m,b,o,rfl,_⟩:=h
  rfl
 obtain⟨v,nv,x,m,b,o,rfl,hv,a,hW,y,lw,hN,z,ln,O,q⟩:=h
 refine⟨_,(Za4 (Zc4 (ptcM (Zo3 (Ze1 d)) (pxt (pvM 0) Za5) (pxt (pvM 2) Za5))
  (Za6 (Zb1 Zo1))
  Zb2)
 (Za6 (Zb1 (Zl0 (Yf7 (Ze1 d)) (Zt1 (blkC (N':=["_law_wish_here","_law_wishes","_law_need"]) (nt:=1) (ci:=[1,2]) ["_law_line","_law_wishes","_law_need"] (Za8 (top 60)) rfl rfl (by decide +kernel) rfl (by decide +kernel) (by decide +kernel) rfl (by decide +kernel)) rfl (Ze7 (pxt (pvM 0) Za5)) (fun _ _ _ _=>(Zb6 (i:=0) (show (["_law_wish_here","_law_wishes","_law_need"]:List Str).Nodup from by decide +kernel) rfl (Or.inl rfl))) (fun _ _=>Zh0 (tg2:=(.Name "" ⟨0,0,0,0⟩)) (iter2:=(.Name "" ⟨0,0,0,0⟩))) (fun _ _ _ _ _=>(Zh2 (PW.pt (Zg0 (Zi6 (Zz2 (K:=K) rfl (Ze1 d)) (pvM 0) (Zq4 (Zl2 (K:=K) rfl) (pvM 2) Za5 (fun _ _=>rfl)) (by with_unfolding_all rfl)) (Ze6 (Zi6 (Zz2 (K:=K) rfl (Ze1 d)) (pvM 0) (pvM 1) (by with_unfolding_all rfl))))) (Zf2 (pvM 0))))) (Zb5 Za2) (Zn3 _))))),?_⟩
 obtain⟨p,U,la,gv,ov,us,rfl,M,L,h3,h4,h5,h6⟩:=hv;obtain⟨Z,gn,rfl,B,n2,n3⟩:=hN;refine sqt (fun u r=>u=[some (.ref p),some (.ref x),some (.ref Z)]/\r=H/\m.g=o.2.2) ?_ ?_
 ·intro C hC
  walk_at "1";refine⟨_,M,_,rfl,_,B,_,rfl,m.g.data,h4,o.2.2.data,n3,m.g.lay a.g,o.2.2.lay O,Nat.le_trans (Nat.min_le_left _ _) (by rw[Tm.depth];have:=a.gp;have:=Zc5 m.g;walk_at "o"),?_⟩;rw[Tm.eqv]
  by_cases hc:m.g=o.2.2
  ·rw[if_neg (by rw[if_pos trivial,decide_eq_true hc];exact Bool.false_ne_true)]
   exact hC _ _ ⟨rfl,rfl,hc⟩
  ·rw[if_pos (by rw[if_pos trivial,decide_eq_false hc];rfl)]
   have:=q _ (Same.refl _);unfold Zt6 at this;rw[decide_eq_false hc] at this;exact this
 rintro q1 H1 ⟨rfl,rfl,hg⟩;obtain⟨⟨T,W,V⟩,w3⟩:=hW;obtain⟨⟨ks,k1,k2⟩,k3⟩:=n2;have lu:=a.wl;walk_at "1";refine⟨_,M,_,rfl,U,rfl,⟨_,SqL.of L⟩,fun S n=>?_⟩;refine Zf7 (fun t=>!decide (t∈o.2.1)&&!decide (t∈b)) L h3 (by walk_at "o") n (fun Y=>Ze9 (i:=0) rfl) (fun Y t r f N F e J h q0 D I=>?_) (fun r f e h hP=>?_)
 ·have c:=a.w t F
  have R:t.deep<=140:=by have:=c.2;have:=Zc5 t;walk_at "o"
  walk_at "1";refine⟨_,e.sqt B,_,rfl,t,J,o.1,rfl,ks,SqL.of (e _ _ k1),o.2.1,Za7 e.keepT k2,c.1,fun s l=>(z s l).1,R,?_⟩
  by_cases hc:t∈o.2.1
  ·rw[if_neg (by rw[if_pos trivial,decide_eq_true hc];exact Bool.false_ne_true),if_neg Bool.false_ne_true]
   exact I (by rw[decide_eq_true hc];rfl) _ (Same.refl _)
  ·rw[if_pos (by rw[if_pos trivial,decide_eq_false hc];rfl)]
   refine⟨t,J,T,SqL.of (e _ _ W),b,Za7 e.keepT V,c.1,fun s l=>(y s l).1,R,?_⟩
   by_cases hc2:t∈b
   ·rw[if_neg (by rw[if_pos trivial,decide_eq_true hc2];exact Bool.false_ne_true)]
    exact I (by rw[decide_eq_false hc,decide_eq_true hc2];rfl) _ (Same.refl _)
   ·rw[if_pos (by rw[if_pos trivial,decide_eq_false hc2];rfl)]
    exact⟨f,h,Zb0 (by walk_at "o"),D (by rw[decide_eq_false hc,decide_eq_false hc2];rfl) _ (Same.refl _) h⟩
 ·refine⟨by decide,fun p2 G=>?_⟩
  have j:=Za1 G (HO.lst []);refine⟨.list ((m.ws.filter fun t=>!decide (t∈o.2.1)&&!decide (t∈b)).map Tm.data),?_,.list [],?_,Zm7 fun t ht=>(a.w t (List.mem_filter.mp ht).1).1,rfl,Nat.le_trans (Nat.min_le_right _ _) (by decide),?_⟩
  ·rw[Dn];exact⟨S,f,rfl,SqL.of (j _ _ h),Zq7 (Za7 j.keepT hP)⟩
  ·rw[Dn];exact⟨p2,[],rfl,SqL.of Za3,by rw[DnAll]⟩
  rw[if_neg Bool.false_ne_true];have:=q _ (e.trans j)
  have eb:Zt6 m b o.2=PyData.eqv (.list ((m.ws.filter fun t=>!decide (t∈o.2.1)&&!decide (t∈b)).map Tm.data)) (.list []):=by
   unfold Zt6;rw[decide_eq_true hg,Bool.true_and,Xi9];exact Yr0 _ _ _
  rw[<- eb];exact this
theorem Wb3 {K:W.Frag} {d:Addr} {H:Hp} {vs:List V} {ns:List Nd} (h:Paired (Wd9 K d H) vs ns):∃ os:List ONd,Paired (IsNdO K H) vs os/\os.map (·.2)=ns:=by
 induction h with
 | nil=>exact⟨[],.nil,rfl⟩
 | cons h t ih =>
  obtain⟨os,c,b⟩:=ih;obtain⟨p,a,f,e,j,i,g,_⟩:=h;exact⟨(a,_) :: os,.cons ⟨p,f,e,j,i,g⟩ c,by rw[List.map_cons,b]⟩
theorem Yq3:∀ (ts us:List Tm),PyData.eqv (.list (ts.map Tm.data)) (.list (us.map Tm.data))=decide (ts=us)
 | [],[]=>rfl
 | [],_ :: _=>rfl
 | _ :: _,[]=>rfl
 | t :: ts,u :: us=>by
  have ih:=Yq3 ts us;have e:PyData.eqv (.list ((t :: ts).map Tm.data)) (.list ((u :: us).map Tm.data))=(PyData.eqv t.data u.data&&PyData.eqv (.list (ts.map Tm.data)) (.list (us.map Tm.data))):=rfl;rw[e,ih,Tm.eqv]
  by_cases h1:t=u
  ·by_cases h2:ts=us
   ·rw[decide_eq_true h1,decide_eq_true h2,decide_eq_true (by rw[h1,h2])];rfl
   ·rw[decide_eq_false h2,decide_eq_false (fun z=>h2 (List.cons.inj z).2),Bool.and_false]
  ·rw[decide_eq_false h1,decide_eq_false (fun z=>h1 (List.cons.inj z).1),Bool.false_and]
theorem Xz8 {k:Nat} (F_an0:Df K mg "_law_good" (top 61) ["_law_lines","_law_k"]) (C__law_once:Cl P w K mg base k "_law_once" ["_law_some"] (Zi5 K)) (C__law_needs:Cl P w K mg base k "_law_needs" ["_law_rule","_law_wishes","_law_goal","_law_on"] (Ye9 K)) (C__law_does:Cl P w K mg base k "_law_does" ["_law_line","_law_wishes","_law_need"] (Zq9 K)) (m_len:mg "len"=none) (m_zip:mg "zip"=none):Cl P w K mg base (k+1) "_law_good" ["_law_lines","_law_k"] (Zr0 K):=by
 refine F_an0.ok sc_an0 (fun vs H Q E h=>?_) (fun _ _ A _ s H vs Q E hr h=>?_)
 ·obtain⟨a,U,L,i,rfl,_⟩:=h
  rfl
 obtain⟨a,U,L,i,rfl,ha,hL,j0,hi,I,q⟩:=h;have lu:U.length=L.length:=Paired.length hL
 have j3:i < U.length:=by walk_at "o"
 obtain⟨l,hl,q9⟩:=paired_get hL (List.getElem?_eq_getElem j3);have f:=j0 l (List.mem_of_getElem? hl)
 have eg:Zk1 L i=Zi3 L i l:=by unfold Zk1;rw[hl]
 rw[eg] at q;have z6:=q9;obtain⟨p,G,la,gv,Z,ys,hv,h1,h2,h3,h4,h5,h6⟩:=q9
 refine⟨_,(Za4 (Zr3 (pxl (pvM 0) (pvM 1)) (Zo0 rfl (Zc0 (Zb6 (i:=2) sc_an0.nd rfl (Or.inl rfl)) (Zc0 (Zb6 (i:=3) sc_an0.nd rfl (Or.inl rfl)) (Zc0 (Zb6 (i:=4) sc_an0.nd rfl (Or.inl rfl)) (Zc0 (Zb6 (i:=5) sc_an0.nd rfl (Or.inl rfl)) (Zc0 (Zb6 (i:=6) sc_an0.nd rfl (Or.inl rfl)) Zh9)))))))
 (Za4 (Zc4 (ptcM (Zo3 (Ze1 hr)) (pvM 3) (Zb7 C__law_once hr (Za0 (pvM 3) Za2)))
  (Za6 (Zb1 Zo1))
  Zb2)
 (Za4 (pst 7 sc_an0.nd (Zb7 C__law_needs hr (Za0 (pvM 2) (Za0 (pvM 3) (Za0 (pvM 4) (Za0 (pvM 5) Za2))))))
 (Za4 (Zc4 ((Zr2 (ptcM (Zw7) (pvM 7) Zd4) (Zl7 (ptcM (Zw6) (Zc1 Zb8 (by exact rfl) m_len Zd2 (Za0 (pvM 7) Za2)) (Zc1 Zb8 (by exact rfl) m_len Zd2 (Za0 (pvM 6) Za2)))))).pt
  (Za6 (Zb1 Zo1))
  Zb2)
 (Za4 (Zp5 PassesOwn.never rfl (Yx7 rfl m_zip (Za0 (pvM 6) (Za0 (pvM 7) Za2))) (Zo0 rfl (Zc0 (Zb6 (i:=8) sc_an0.nd rfl (Or.inl rfl)) (Zc0 (Zb6 (i:=9) sc_an0.nd rfl (Or.inl rfl)) Zh9)))
  (Za6 (Zc4 ((Zr2 (ptcM (Zm0) (pvM 8) Za5) (Zr2 (ptcM (Xv8) (pvM 8) (pvM 1)) (Zl7 (Zl8 (Zj1 (Zb7 C__law_does hr (Za0 (pxl (pvM 0) (pvM 8)) (Za0 (pvM 3) (Za0 (pvM 9) Za2)))))))))).pt
  (Za6 (Zb1 Zo1))
  Zb2)))
 (Za6 (Zb1 Zo1))))))),?_⟩
 refine sqt (fun u H'=>u=[some (.ref a),some (.int (i:Nat)),some (.str l.x),some (.ref G),some gv,some Z,some (.ref la),none,none,none]/\H'=H) ?_ ?_
 ·intro C N
  walk_at "1";exact⟨U,SqL.of ha,_,Zd5 (List.getElem?_eq_getElem j3),p,hv,_,h1,rfl,_,_,rfl,_,_,rfl,_,_,rfl,_,_,rfl,_,_,rfl,rfl,N _ _ ⟨rfl,rfl⟩⟩
 rintro y1 H1 ⟨rfl,rfl⟩;refine sqt (fun u H'=>u=[some (.ref a),some (.int (i:Nat)),some (.str l.x),some (.ref G),some gv,some Z,some (.ref la),none,none,none]/\Same H1 H'/\adjB l.ws=true/\∃ d,d≠G/\H' d≠none) ?_ ?_
 ·intro C N
  have dw:(PyData.list (l.ws.map Tm.data)).depth<=141:=Yd8 (n:=140) fun t ht=>by have:=(f.w t ht).2;have:=Zc5 t;walk_at "o"
  walk_at "1";refine⟨G,ys,l.ws,rfl,h2,h3,f.w,by have:=f.wl;walk_at "o",fun r H' e fr hw=>?_⟩;obtain⟨⟨J,z1,z2⟩,z3⟩:=hw;refine⟨.list (l.ws.map Tm.data),?_,.list ((norm l.ws).map Tm.data),?_,Zm7 fun t ht=>(f.w t ht).1,Zm7 fun t ht=>(f.w t (mem_norm.mp ht)).1,Nat.le_trans (Nat.min_le_left _ _) (by walk_at "o"),?_⟩
  ·rw[Dn];exact⟨G,ys,rfl,SqL.of (e _ _ h2),Zq7 (Za7 e.keepT h3)⟩
  ·rw[Dn];exact⟨r,J,rfl,SqL.of z1,Zq7 z2⟩
  rw[Yq3]
  by_cases O:l.ws=norm l.ws
  ·rw[if_neg (by rw[if_pos trivial,decide_eq_true O];exact Bool.false_ne_true)]
   exact N _ _ ⟨rfl,e,adjB_iff.mpr (by rw[O];exact Zc9 _),r,(fun z=>by rw[z,h2] at fr;cases fr),by rw[z1];intro z;cases z⟩
  ·rw[if_pos (by rw[if_pos trivial,decide_eq_false O];rfl)]
   have:=q _ e;unfold Zi3 at this
   have hb:adjB l.ws=false:=by
    cases h:adjB l.ws with
    | false=>rfl
    | true=>exact absurd (Zm1 (adjB_iff.mp h) fun _=>Iff.rfl) O
   rw[hb] at this;exact this
 rintro y0 H2 ⟨rfl,e2,B,d0,d1,d2⟩;refine sqt (fun u H'=>∃ nv,u=[some (.ref a),some (.int (i:Nat)),some (.str l.x),some (.ref G),some gv,some Z,some (.ref la),some nv,none,none]/\Same H1 H'/\((Zj4 l.R l.ws l.g l.on=none/\nv=.non)∨∃ c F M,Zj4 l.R l.ws l.g l.on=some c/\nv=.ref F/\IsNds K H' F M/\M.map (·.2)=c)) ?_ ?_
 ·intro C N
  walk_at "1";refine⟨l.x,l.R,G,gv,Z,l.ws,l.g,l.on,rfl,f.r,⟨⟨ys,e2 _ _ h2,Za7 e2.keepT h3⟩,adjB_iff.mp B⟩,h4.keep e2.keepT,h5.keep e2.keepT,f.w,f.g,f.gp,f.wl,fun I H' e=>N _ _ ⟨_,rfl,e2.trans e,.inl ⟨I,rfl⟩⟩,fun c I v H' e hA=>?_⟩;obtain⟨F,vs,rfl,z1,z2,_⟩:=hA d0 d1 d2;obtain⟨M,z3,z4⟩:=Wb3 z2;exact N _ _ ⟨_,rfl,e2.trans e,.inr ⟨c,F,M,I,rfl,⟨vs,z1,z3⟩,z4⟩⟩
 rintro z9 H3 ⟨nv,rfl,S,q7⟩;refine sqt (fun u H'=>H'=H3/\∃ c F M,Zj4 l.R l.ws l.g l.on=some c/\c.length=l.ls.length/\u=[some (.ref a),some (.int (i:Nat)),some (.str l.x),some (.ref G),some gv,some Z,some (.ref la),some (.ref F),none,none]/\IsNds K H' F M/\M.map (·.2)=c) ?_ ?_
 ·intro C N
  walk_at "1";rcases q7 with ⟨z0,rfl⟩ | ⟨c,F,M,hX,rfl,q5,W⟩
  ·rw[if_pos rfl,if_pos trivial]
   have:=q _ S;unfold Zi3 at this;rw[B,z0] at this;exact this
  ·obtain⟨J,hz,hZ⟩:=q5
   have lz:J.length=c.length:=by rw[<- W,List.length_map];exact Paired.length hZ
   rw[if_neg (fun z=>nomatch z)];refine⟨F,rfl,J,.inl (SqL.of hz),_,.inl (SqL.of (S _ _ h6)),?_⟩;rw[List.length_map]
   by_cases O:c.length=l.ls.length
   ·rw[decide_eq_true (show ((J.length:Nat):Int)=((l.ls.length:Nat):Int) by walk_at "o"),if_neg (by decide)]
    exact N _ _ ⟨rfl,c,F,M,hX,O,rfl,⟨J,hz,hZ⟩,W⟩
   ·rw[decide_eq_false (show ¬ ((J.length:Nat):Int)=((l.ls.length:Nat):Int) by walk_at "o"),if_pos (by rfl)]
    have:=q _ S;unfold Zi3 at this;rw[B,hX] at this;dsimp only at this;rw[decide_eq_false O] at this;exact this
 rintro z8 H4 ⟨rfl,c,F,M,hX,q0,rfl,q5,W⟩;refine sqt (fun u H'=>∃ Y X,u=[some (.ref a),some (.int (i:Nat)),some (.str l.x),some (.ref G),some gv,some Z,some (.ref la),some (.ref F),Y,X]/\Same H1 H'/\(l.ls.all fun j=>decide (0<=j)&&decide (j < (i:Int)))=true/\(List.zipWith (Zk2 L l.ws) l.ls c).all id=true) ?_ ?_
 ·intro C N
  walk_at "2";obtain⟨J,hz,hZ⟩:=q5
  have lz:J.length=l.ls.length:=by rw[<- q0,<- W,List.length_map];exact Paired.length hZ
  have j9:=Yp0 (adjB_iff.mp B) f.w ⟨f.g,f.gp⟩ hX
  have j4:∀ H',Same H1 H'->((l.ls.all fun j=>decide (0<=j)&&decide (j < (i:Int)))&&(List.zipWith (Zk2 L l.ws) l.ls c).all id)=false->Q (.bl false) H':=fun H' e hb=>by
   have:=q _ e;unfold Zi3 at this;rw[B,hX] at this;dsimp only at this;rw[decide_eq_true q0,hb] at this;exact this
  refine⟨⟨_,SqL.of (S _ _ h6)⟩,⟨_,SqL.of hz⟩,?_⟩;refine Xq4 (D:={ nx:=C,rt:=Q }) (xs:=l.ls.map V.int) (ys:=J) (fun j u H'=>∃ Y X,u=[some (.ref a),some (.int (i:Nat)),some (.str l.x),some (.ref G),some gv,some Z,some (.ref la),some (.ref F),Y,X]/\Same H4 H'/\∀ n,n < j->∀ y nd,l.ls[n]?=some y->c[n]?=some nd->0<=y/\y < (i:Int)/\Zk2 L l.ws y nd=true) (by rw[List.length_map];walk_at "o") ⟨none,none,rfl,Same.refl _,fun n I=>absurd I (Nat.not_lt_zero _)⟩ (fun j u H' _ ⟨_,_,_,e,_⟩=>⟨SqL.of ((S.trans e) _ _ h6),SqL.of (e _ _ hz)⟩) (fun j x y u H' T hx hy z5 hp=>?_) (fun u H' ⟨Y,X,z1,z2,z3⟩=>N _ _ ⟨Y,X,z1,S.trans z2,?_,?_⟩)
  ·obtain⟨Y,X,rfl,e,hb⟩:=hp
   rw[List.getElem?_map] at hx
   cases hj:l.ls[j]? with
   | none=>rw[hj] at hx;cases hx
   | some z =>
   rw[hj] at hx;cases hx;obtain⟨o,ho,j7⟩:=paired_get hZ hy
   have q3:c[j]?=some o.2:=by rw[<- W,List.getElem?_map,ho];rfl
   have q2:=j9 o.2 (List.mem_of_getElem? q3);have eT:Same H4 (upd H' T (.tup [V.int z,y])):=e.trans (Za1 z5 _)
   have q6:∀ H'',Same H4 H''->¬ (0<=z/\z < (i:Int))->Q (.bl false) H'':=fun H'' e' O=>j4 _ (S.trans e') (by
    have:(l.ls.all fun j=>decide (0<=j)&&decide (j < (i:Int)))=false:=by
     rw[List.all_eq_false];exact⟨z,List.mem_of_getElem? hj,by simpa using O⟩
    rw[this];rfl)
   walk_at "1";refine⟨_,.inl (.inl Za3),rfl,_,_,rfl,_,_,rfl,rfl,z,rfl,?_⟩
   by_cases c1:z < 0
   ·rw[if_pos c1,if_pos trivial]
    exact q6 _ eT fun h=>by walk_at "o"
   rw[if_neg c1];refine⟨z,rfl,?_⟩
   by_cases c2:(i:Int)<=z
   ·rw[if_pos c2,if_pos trivial]
    exact q6 _ eT fun h=>by walk_at "o"
   rw[if_neg c2];obtain⟨n,rfl⟩:=Int.eq_ofNat_of_zero_le (show 0<=z by walk_at "o")
   have j1:n < U.length:=by walk_at "o"
   obtain⟨m,hm,j8⟩:=paired_get hL (List.getElem?_eq_getElem j1);have q1:=S.trans eT;refine⟨U,_,rfl,SqL.of (q1 _ _ ha),U[n],Zd5 (List.getElem?_eq_getElem j1),U[n],y,G,m,l.ws,o,rfl,j8.keep q1,j0 m (List.mem_of_getElem? hm),⟨⟨_,q1 _ _ h2,Za7 q1.keepT h3⟩,adjB_iff.mp B⟩,f.w,by have:=f.wl;walk_at "o",j7.keep eT,q2.ok,by have:=q2.len;have:=f.wl;walk_at "o",q2.gok.1,fun H6 e6=>⟨_,rfl,?_⟩⟩
   have q8:Zk2 L l.ws ((n:Nat):Int) o.2=Zt6 m l.ws o.2:=by
    unfold Zk2;rw[Int.toNat_natCast,hm]
   cases hs:Zt6 m l.ws o.2 with
   | true =>
    rw[if_neg (by decide)];refine⟨eT.trans e6,fun n' y2 y' j6 g1 g2=>?_⟩;rcases Nat.lt_or_ge n' j with zz | zz
    ·exact hb n' zz y' j6 g1 g2
    ·have en:n'=j:=by walk_at "o"
     subst en;rw[hj] at g1;rw[q3] at g2;cases g1;cases g2;exact⟨by walk_at "o",by walk_at "o",by rw[q8,hs]⟩
   | false =>
    rw[if_pos (by decide)];refine j4 _ ((S.trans eT).trans e6) ?_
    have:(List.zipWith (Zk2 L l.ws) l.ls c).all id=false:=by
     rw[List.all_eq_false];refine⟨false,List.mem_of_getElem? (i:=j) ?_,by decide⟩;rw[List.getElem?_zipWith,hj,q3];show some (Zk2 L l.ws ((n:Nat):Int) o.2)=_;rw[q8,hs]
    rw[this,Bool.and_false]
  ·rw[List.all_eq_true]
   intro y hy;obtain⟨n,I,rfl⟩:=List.getElem_of_mem hy
   have q4:n < c.length:=by walk_at "o"
   have:=z3 n (by rw[List.length_map];exact I) _ _ (List.getElem?_eq_getElem I) (List.getElem?_eq_getElem q4);rw[decide_eq_true this.1,decide_eq_true this.2.1];rfl
  ·rw[List.all_eq_true]
   intro b hb;obtain⟨n,I,rfl⟩:=List.getElem_of_mem hb;rw[List.length_zipWith] at I
   have j2:n < l.ls.length:=by walk_at "o"
   have q4:n < c.length:=by walk_at "o"
   have:=z3 n (by rw[List.length_map];exact j2) _ _ (List.getElem?_eq_getElem j2) (List.getElem?_eq_getElem q4);rw[List.getElem_zipWith];exact this.2.2
 rintro z7 H5 ⟨Y,X,rfl,e5,j5,hz⟩;walk_at "1";have:=q _ e5;unfold Zi3 at this;rw[B,hX] at this;dsimp only at this;rw[decide_eq_true q0,j5,hz] at this;exact this
theorem sc_ak0:FnScope ["_law_lines","_law_k"] ["_law_lines"] (Za8 (top 73)):=scm (by decide +kernel)
theorem Xu4:FnScope ["_law_error"] ["_law_error"] (Za8 (top 71)):=scm (by decide +kernel)
theorem Wa1 {k:Nat} (F_ak0:Df K mg "_law_due" (top 73) ["_law_lines"]) (C__law_good:Cl P w K mg base k "_law_good" ["_law_lines","_law_k"] (Zr0 K)) (m_range:mg "range"=none) (m_len:mg "len"=none):Cl P w K mg base (k+1) "_law_due" ["_law_lines"] (Yw3 K):=by
 refine F_ak0.ok sc_ak0 (fun y H Q E h=>?_) (fun _ _ A _ s H y Q E B h=>?_)
 ·obtain⟨a,f,L,rfl,_⟩:=h
  rfl
 obtain⟨a,f,L,rfl,v,x,r,F,q⟩:=h;have N:f.length=L.length:=Paired.length x
 refine⟨_,(Za4 (Zp5 PassesOwn.never rfl (Zi8 rfl m_range (Za0 (Zc1 Zb8 (by exact rfl) m_len Zd2 (Za0 (pvM 0) Za2)) Za2)) (Zb6 (i:=1) sc_ak0.nd rfl (Or.inl rfl))
  (Za6 (Zc4 (Zl8 (Zj1 (Zb7 C__law_good B (Za0 (pvM 0) (Za0 (pvM 1) Za2)))))
  (Za6 (Zb1 (Zb3 (Za0 Za9 (Za0 (pvM 1) Za2)))))
  Zb2)))
 (Za6 (Zb1 Zo1))),?_⟩
 refine sqt (fun b d=>∃ c,b=[some (.ref a),c]/\Same H d/\∀ j,j < L.length->Zk1 L j=true) ?_ ?_
 ·intro C G
  walk_at "2";refine⟨_,.inl (SqL.of v),by walk_at "o",by walk_at "o",?_⟩;refine Zk0 (D:={ nx:=C,rt:=Q }) (n:=((f.length:Nat):Int).toNat) (lo:=0) (fun i b d=>∃ c,b=[some (.ref a),c]/\Same H d/\∀ j,j < i->Zk1 L j=true) ⟨none,rfl,Same.refl _,fun j m=>absurd m (Nat.not_lt_zero _)⟩ (fun i b d M l=>?_) (fun b d ⟨c,h1,h2,h3⟩=>G _ _ ⟨c,h1,h2,fun j m=>h3 j (by walk_at "o")⟩);obtain⟨c,rfl,e,u⟩:=l;walk_at "1";rw[show (0:Int)+(i:Int)=((i:Nat):Int) by walk_at "o"]
  have t:i < L.length:=by walk_at "o"
  refine⟨a,f,L,i,rfl,e _ _ v,IsLns.keep e x,r,t,F,fun I g=>⟨_,rfl,?_⟩⟩
  cases hg:Zk1 L i with
  | true =>
   rw[if_neg (by decide)];refine⟨e.trans g,fun j m=>?_⟩;rcases Nat.lt_or_ge j i with z | z
   ·exact u j z
   ·rw[show j=i by walk_at "o"];exact hg
  | false =>
   rw[if_pos (by decide)];refine⟨by decide,fun p l=>q _ _ ((e.trans g).trans (Za1 l _)) ?_⟩;rw[Yh2 t hg u];exact⟨p,rfl,.inl (.inl Za3)⟩
 rintro J I ⟨c,rfl,g,o⟩;walk_at "1";refine q _ _ g ?_;rw[Zx8 o];rfl
theorem Wb1 {k:Nat} {f_aa0:Addr} {fd_aa0:FuncData} (F_aa0:Fun K "_law_alone" "_law_alone" (top 71) f_aa0 fd_aa0) {aNoRule aKenError aLarge aNoKind aNoLine aNoRow aNoText aNoTurning aNoWish aNoWorlds aNotShown aTwice:Addr} (z_NoLine:XIsi K aNoLine) (m_KenError:mg "KenError"=some (.ref aKenError)) (m_Large:mg "Large"=some (.ref aLarge)) (m_NoKind:mg "NoKind"=some (.ref aNoKind)) (m_NoRule:mg "NoRule"=some (.ref aNoRule)) (m_NoRow:mg "NoRow"=some (.ref aNoRow)) (m_NoText:mg "NoText"=some (.ref aNoText)) (m_NoTurning:mg "NoTurning"=some (.ref aNoTurning)) (m_NoWish:mg "NoWish"=some (.ref aNoWish)) (m_NoWorlds:mg "NoWorlds"=some (.ref aNoWorlds)) (m_NotShown:mg "NotShown"=some (.ref aNotShown)) (m_Twice:mg "Twice"=some (.ref aTwice))
  (i_1:W.kitOne K (.ref aNoLine) (.ref aKenError)=some true) (i_2:W.kitOne K (.ref aNoLine) (.type "ValueError")=some true) (i_3:W.kitAny K (.ref aNoLine) [.ref aLarge,.ref aNoKind,.ref aNoRow,.ref aNoRule,.ref aNoText]=some false) (i_4:W.kitAny K (.ref aNoLine) [.ref aNoTurning,.ref aNoWish,.ref aNoWorlds,.ref aNotShown,.ref aTwice]=some false) (m_isinstance:mg "isinstance"=none) (m_ValueError:mg "ValueError"=none):FnOkH P w K mg base (k+1) f_aa0 fd_aa0 ["_law_error"] (Yf2 aNoLine):=by
 refine F_aa0.okH Xu4 (fun i H Q E h=>?_) (fun _ A _ s H i Q E o h=>?_)
 ·obtain⟨e,d,T,n,rfl,_⟩:=h
  rfl
 obtain⟨e,d,T,n,rfl,a,l,q⟩:=h
 refine⟨_,(Za4 (Zc4 ((Zr2 (Zl8 (Zj1 (Zc1 Xd5 (by exact rfl) m_isinstance Ze3 (Za0 (pvM 0) (Za0 (Zh3 (v:=.ref aKenError) (by exact rfl) m_KenError (by exact rfl)) Za2))))) (Zl7 (Zl8 (Zj1 (Zc1 Xd6 (by exact rfl) m_isinstance Ze3 (Za0 (pvM 0) (Za0 (Yb4 (v:=.ty "ValueError") (by exact rfl) m_ValueError Zy5 (by exact rfl)) Za2)))))))).pt
  (Za6 (Zb1 Zo1))
  Zb2)
 (Za4 (Zc4 (Zj1 (Zc1 Yh6 (by exact rfl) m_isinstance Ze3 (Za0 (pvM 0) (Za0 (Zb3 (Za0 (Zh3 (v:=.ref aLarge) (by exact rfl) m_Large (by exact rfl)) (Za0 (Zh3 (v:=.ref aNoKind) (by exact rfl) m_NoKind (by exact rfl)) (Za0 (Zh3 (v:=.ref aNoRow) (by exact rfl) m_NoRow (by exact rfl)) (Za0 (Zh3 (v:=.ref aNoRule) (by exact rfl) m_NoRule (by exact rfl)) (Za0 (Zh3 (v:=.ref aNoText) (by exact rfl) m_NoText (by exact rfl)) Za2)))))) Za2))))
  (Za6 (Zb1 Zo1))
  Zb2)
 (Za6 (Zb1 (Xv1 (Zc1 Yh6 (by exact rfl) m_isinstance Ze3 (Za0 (pvM 0) (Za0 (Zb3 (Za0 (Zh3 (v:=.ref aNoTurning) (by exact rfl) m_NoTurning (by exact rfl)) (Za0 (Zh3 (v:=.ref aNoWish) (by exact rfl) m_NoWish (by exact rfl)) (Za0 (Zh3 (v:=.ref aNoWorlds) (by exact rfl) m_NoWorlds (by exact rfl)) (Za0 (Zh3 (v:=.ref aNotShown) (by exact rfl) m_NotShown (by exact rfl)) (Za0 (Zh3 (v:=.ref aTwice) (by exact rfl) m_Twice (by exact rfl)) Za2)))))) Za2)))))))),?_⟩
 have D:∀ f:Hp,Same H f->Xe5 f (some d):=fun f s r z=>by cases z;exact⟨_,s _ _ l⟩
 walk_at "1";refine⟨aNoLine,some d,T,a,D _ (Same.refl _),z_NoLine,true,i_1,?_⟩;rw[if_neg (by decide)];refine⟨aNoLine,some d,T,a,D _ (Same.refl _),z_NoLine,true,i_2,?_⟩;rw[if_neg (by decide)];refine⟨by decide,fun p j=>?_⟩;have c:=Za1 j (HO.tup [V.ref aLarge,V.ref aNoKind,V.ref aNoRow,V.ref aNoRule,V.ref aNoText]);refine⟨aNoLine,some d,T,c _ _ a,D _ c,z_NoLine,[aLarge,aNoKind,aNoRow,aNoRule,aNoText],Za3,false,i_3,?_⟩;rw[if_neg (by decide)];refine⟨by decide,fun m g=>?_⟩;have b:=c.trans (Za1 g (HO.tup [V.ref aNoTurning,V.ref aNoWish,V.ref aNoWorlds,V.ref aNotShown,V.ref aTwice]));exact⟨aNoLine,some d,T,b _ _ a,D _ b,z_NoLine,[aNoTurning,aNoWish,aNoWorlds,aNotShown,aTwice],Za3,false,i_4,q _ b⟩
theorem sc_ab0:FnScope ["_law_lines","_law_handed","_law_found_here","_law_told","_law_error"] ["_law_lines"] (Za8 (top 72)):=scm (by decide +kernel)
theorem Wb0 {k:Nat} (F_ab0:Df K mg "_law_asked" (top 72) ["_law_lines"]) (C__law_copy:Cl P w K mg base k "_law_copy" ["_law_lines"] (Yn9 K)) {aNoLine:Addr} {f_bp0:Addr} {fd_bp0:FuncData} (G_bp0:FnOk P w K mg base (CXe P w) k f_bp0 fd_bp0 ["lines"] (Yf0 K aNoLine)) (m_bp0:mg "check"=some (.ref f_bp0)) (k_bp0:W.keepIn K (.ref f_bp0)=true) (b_bp0:Binds K fd_bp0 ["lines"] []) {f_aa0:Addr} {fd_aa0:FuncData} (H__law_alone:FnOkH P w K mg base k f_aa0 fd_aa0 ["_law_error"] (Yf2 aNoLine)) (m_aa0:mg "_law_alone"=some (.ref f_aa0)) (k_aa0:W.keepIn K (.ref f_aa0)=true) (b_aa0:Binds K fd_aa0 ["_law_error"] []) (m_NoLine:mg "NoLine"=some (.ref aNoLine)) (xc_NoLine:XC K aNoLine) (z_NoLine:XIsi K aNoLine) (w_NoLine:W.findIn K (.ref aNoLine) "line"=some none) (d_NoLine:W.hasDictIn K aNoLine=true) (m_isinstance:mg "isinstance"=none) (m_bool:mg "bool"=none):Cl P w K mg base (k+1) "_law_asked" ["_law_lines"] (Yw5 K):=by
 refine F_ab0.ok sc_ab0 (fun vs H Q E h=>?_) (fun _ _ A _ s H vs Q E D h=>?_)
 ·obtain⟨a,N,L,rfl,_⟩:=h
  rfl
 obtain⟨a,N,L,rfl,Z,hL,u,Y,q⟩:=h
 refine⟨_,(Za4 (pst 1 sc_ab0.nd (Zb7 C__law_copy D (Za0 (pvM 0) Za2)))
 (Za4 (pst 2 sc_ab0.nd Zd4)
 (Za4 (pst 3 sc_ab0.nd Zd4)
 (Za4 (Xg9 (j:=2) (i:=4) rfl rfl rfl (by exact rfl) m_NoLine xc_NoLine sc_ab0.nd rfl (Or.inl rfl) rfl rfl (Yx4 G_bp0 D (by exact rfl) m_bp0 k_bp0 b_bp0 .nil (Za0 (pvM 1) Za2))
  (fun ea=>(Za6 (pst 3 sc_ab0.nd (Zb3 (Za0 (Xh2 (K:=K) rfl (pvM 4)) (Za0 (Xh7 H__law_alone (RoomH.of D _) (by exact rfl) m_aa0 k_aa0 b_aa0 .nil (Za0 (pvM 4) Za2)) Za2)))))))
 (Za4 (Zc4 (ptcM (Zo3 (Ze1 D)) (pvM 1) (pvM 0))
  (Za6 (Zb1 Zd4))
  Zb2)
 (Za4 (Zc4 (ptcM (Zw7) (pvM 3) Zd4)
  (Za6 (Zb1 (pvM 2)))
  Zb2)
 (Za4 (Zc4 ((Zr2 (Zj1 (Zc1 Yd1 (by exact rfl) m_isinstance Ze3 (Za0 (pxt (pvM 3) Za5) (Za0 (Yb4 (v:=.ty "bool") (by exact rfl) m_bool Zy4 (by exact rfl)) Za2)))) (Zl7 (ptcM (Yy7) (pxt (pvM 3) Za5) Zo1)))).pt
  (Za6 (Zb1 Zd4))
  Zb2)
 (Za6 (Zb1 (Zb3 (Za0 Za9 (Za0 (pxt (pvM 3) Za5) Za2)))))))))))),?_⟩
 refine sqt (fun c b=>∃ g m,c=[some (.ref a),some (.ref g),none,none,none]/\Same H b/\b g=some (.lst m)/\IsLns K b m L) ?_ ?_
 ·intro C f
  walk_at "1";exact⟨a,N,L,rfl,Z,hL,u,Y,fun r m b e fr h hy=>f _ _ ⟨r,m,rfl,e,h,hy⟩⟩
 rintro q4 H1 ⟨g,m,rfl,I,h1,F⟩;have o:=Xp1 F u;have M:min (PyData.list (L.map lnD)).depth (PyData.list (L.map lnD)).depth<=150:=Nat.le_trans (Nat.min_le_left _ _) (Nat.le_trans (Xa4 F u) (by decide))
 have B:∀ b:Hp,Same H1 b->Dn K b (.ref g) (.list (L.map lnD))/\Dn K b (.ref a) (.list (L.map lnD)):=fun b e=>by
  constructor
  ·rw[Dn];exact⟨g,m,rfl,SqL.of (e _ _ h1),Xa3 (IsLns.keep e F)⟩
  ·rw[Dn];exact⟨a,N,rfl,SqL.of ((I.trans e) _ _ Z),Xa3 (IsLns.keep (I.trans e) hL)⟩
 refine sqt (fun c b=>c=[some (.ref a),some (.ref g),some .non,none,none]/\b=H1) ?_ ?_
 ·intro C f
  walk_at "1";exact f _ _ ⟨rfl,rfl⟩
 rintro q3 H2 ⟨rfl,rfl⟩;refine sqt (fun c b=>c=[some (.ref a),some (.ref g),some .non,some .non,none]/\b=H2) ?_ ?_
 ·intro C f
  walk_at "1";exact f _ _ ⟨rfl,rfl⟩
 rintro q2 H3 ⟨rfl,rfl⟩;refine sqt (fun c b=>Same H3 b/\((badL L=none/\c=[some (.ref a),some (.ref g),some (.bl true),some .non,none])∨∃ n t,badL L=some n/\c=[some (.ref a),some (.ref g),some .non,some (.ref t),none]/\SqT K b t [.int (n:Nat),.bl true])) ?_ ?_
 ·intro C f
  walk_at "1";refine⟨g,m,L,rfl,h1,F,u,Y,fun l b e=>f _ _ ⟨e,.inl ⟨l,rfl⟩⟩,fun n l Hm em e d b X J=>?_⟩;obtain⟨T,O⟩:=X.2.2;refine⟨e,T,rfl,O,?_⟩;walk_at "1";refine⟨aNoLine,d,T,O.1,_,J,z_NoLine.toXGet,w_NoLine,d_NoLine,.int (n:Nat),rfl,e,d,T,n,rfl,O.1,J,fun q5 q0=>⟨by decide,fun t y=>?_⟩⟩;exact f _ _ ⟨((em.trans X.2.1).trans q0).trans (Za1 y _),.inr ⟨n,t,l,rfl,.inl (.inl Za3)⟩⟩
 rintro V U ⟨G,x⟩;refine sqt (fun c b=>c=V/\b=U) ?_ ?_
 ·intro C f
  rcases x with ⟨l,rfl⟩ | ⟨n,t,l,rfl,y⟩
  ·walk_at "1"
   obtain⟨S,R⟩:=B U G;refine⟨_,S,_,R,o,o,M,?_⟩;rw[if_neg (by rw[if_pos trivial,Yp5];exact Bool.false_ne_true)];exact f _ _ ⟨rfl,rfl⟩
  ·walk_at "1"
   obtain⟨S,R⟩:=B U G;refine⟨_,S,_,R,o,o,M,?_⟩;rw[if_neg (by rw[if_pos trivial,Yp5];exact Bool.false_ne_true)];exact f _ _ ⟨rfl,rfl⟩
 rintro q1 H5 ⟨rfl,rfl⟩;rcases x with ⟨l,rfl⟩ | ⟨n,t,l,rfl,y⟩
 ·walk_at "1"
  rw[if_pos trivial];exact q _ _ (I.trans G) (by rw[l];rfl)
 ·walk_at "1"
  rw[if_neg (fun z=>nomatch z)];refine⟨_,y,_,rfl,_,.of (.int _),_,show W.kitOne K (.type "int") (.type "bool")=some false from rfl,?_⟩;rw[if_neg Bool.false_ne_true];refine⟨_,y,_,rfl,⟨_,rfl⟩,?_⟩;rw[if_neg (by decide)];refine⟨_,y,_,rfl,by decide,fun p hp=>q _ _ ((I.trans G).trans (Za1 hp _)) ?_⟩;rw[l];exact⟨p,rfl,.inl (.inl Za3)⟩
theorem Xt9:FnScope ["_law_statement_here"] ["_law_statement_here"] (Za8 (top 53)):=scm (by decide +kernel)
theorem Xt8:FnScope ["_law_some","_law_cell_here","_law_other"] ["_law_some","_law_cell_here","_law_other"] (Za8 (top 62)):=scm (by decide +kernel)
theorem sc_al0:FnScope ["_law_lines","_law_start","_law_goal","_law_form","_law_k","_law_at"] ["_law_lines","_law_start","_law_goal","_law_form"] (Za8 (top 63)):=scm (by decide +kernel)
theorem Xz3 {k n:Nat} {f_at0:Addr} {fd_at0:FuncData} (F_at0:Fun K "_law_parts" "_law_parts" (top 53) f_at0 fd_at0) (G_at0:FnOk P w K mg base CX0 k f_at0 fd_at0 ["_law_statement_here"] (Zl4 K n)) (m_at0:mg "_law_parts"=some (.ref f_at0)) (k_at0:W.keepIn K (.ref f_at0)=true) (b_at0:Binds K fd_at0 ["_law_statement_here"] []) (m_len:mg "len"=none):FnOk P w K mg base CX0 (k+1) f_at0 fd_at0 ["_law_statement_here"] (Zl4 K (n+1)):=by
 refine F_at0.ok Xt9 (fun g H Q E h=>?_) (fun _ A _ s H g Q E f h=>?_)
 ·obtain⟨v,t,rfl,_⟩:=h
  rfl
 obtain⟨v,t,rfl,b,r,q⟩:=h
 refine⟨_,(Za4 (Zc4 (ptcM (Zm0) (Zc1 Zb8 (by exact rfl) m_len Zd2 (Za0 (pvM 0) Za2)) Za5)
  (Za6 (Zb1 Za5))
  Zb2)
 (Za6 (Zb1 (Zb4 Zd3 (Zb4 Zd3 Za5 (Zl1 G_at0 f (by exact rfl) m_at0 k_at0 b_at0 .nil Zy7 (Za0 (pxt (pvM 0) Za5) Za2))) (Zl1 G_at0 f (by exact rfl) m_at0 k_at0 b_at0 .nil Zy7 (Za0 (pxt (pvM 0) Za5) Za2)))))),?_⟩
 walk_at "1"
 cases t with
 | low =>
  obtain⟨p,rfl,a⟩:=isT_low.mp b;refine⟨p,rfl,_,.inr a,?_⟩;rw[if_pos (by decide)];exact q _ (Same.refl _)
 | ltr y =>
  obtain⟨p,rfl,a⟩:=isT_ltr.mp b;refine⟨p,rfl,_,.inr a,?_⟩;rw[if_pos (by show (2:Int) < 3;decide)];exact q _ (Same.refl _)
 | nd kk c d =>
  obtain⟨p,x,y,rfl,a,j,i⟩:=isT_nd.mp b
  have o:1+max c.deep d.deep<=n:=by have:(Tm.nd kk c d).deep=1+max c.deep d.deep:=rfl;walk_at "o"
  refine⟨p,rfl,_,.inr a,?_⟩;rw[if_neg (by show ¬ (3:Int) < 3;decide)];refine⟨p,rfl,_,a,_,rfl,x,c,rfl,j,by walk_at "o",fun z e=>⟨_,rfl,p,rfl,_,e.sqt a,_,rfl,y,d,rfl,i.keep e.keepT,by walk_at "o",fun u m=>?_⟩⟩;have:=q _ (e.trans m)
  have l:(((Tm.nd kk c d).parts:Nat):Int)=1+(c.parts:Int)+(d.parts:Int):=by
   show (((1+c.parts+d.parts:Nat)):Int)=_;walk_at "o"
  rw[l] at this;exact⟨_,rfl,this⟩
theorem Ys4 {f:Addr} {fd:FuncData} {ps:List Str} {k:Nat}:FnOk P w K mg base CX0 k f fd ps (Zl4 K 0):=by
 have b:∀ a H Q E,¬ Zl4 K 0 a H Q E:=fun a H Q E h=>by
  obtain⟨v,t,_,_,e,_⟩:=h;walk_at "o"
 exact⟨fun a H Q E h=>absurd h (b a H Q E),fun A _ s H c d a Q E _ _ _ _ h=>absurd h (b a H Q E)⟩
theorem Xe4 {f_at0:Addr} {fd_at0:FuncData} (F_at0:Fun K "_law_parts" "_law_parts" (top 53) f_at0 fd_at0) (m_at0:mg "_law_parts"=some (.ref f_at0)) (b_at0:Binds K fd_at0 ["_law_statement_here"] []) (m_len:mg "len"=none) :
  ∀ n:Nat,FnOk P w K mg base CX0 (n+1) f_at0 fd_at0 ["_law_statement_here"] (Zl4 K n)
 | 0=>Ys4
 | n+1=>Xz3 F_at0 (Xe4 F_at0 m_at0 b_at0 m_len n) m_at0 F_at0.kp b_at0 m_len
theorem Xz2 {k:Nat} (F_au0:Df K mg "_law_pick" (top 62) ["_law_some","_law_cell_here","_law_other"]) (m_len:mg "len"=none):Cl P w K mg base (k+1) "_law_pick" ["_law_some","_law_cell_here","_law_other"] (Zw0 K):=by
 refine F_au0.ok Xt8 (fun z H Q E h=>?_) (fun _ _ A _ s H z Q E G h=>?_)
 ·obtain⟨a,c,B,b,e,o,rfl,_⟩:=h
  rfl
 obtain⟨a,c,B,b,e,o,rfl,M,y,r,u,q⟩:=h
 refine⟨_,(Za4 (Zc4 ((Zr2 (ptcM (Yf7 (Ze1 G)) (pvM 0) (Zb5 Za2)) (Zl7 (ptcM (Zd6) (Zb4 Zc6 (pvM 1) Za5) Za5)))).pt
  (Za6 (Zb1 (pvM 2)))
  Zb2)
 (Za6 (Zb1 (pxl (pvM 0) (Zb4 Zc6 (Zb4 Zd0 (pvM 1) Za5) (Zc1 Zb8 (by exact rfl) m_len Zd2 (Za0 (pvM 0) Za2))))))),?_⟩
 walk_at "1";have C:b.length=e.length:=Paired.length y;refine⟨by decide,fun p J=>?_⟩;have d:=Za1 J (HO.lst []);have g:=Za7 d.keepT y;have f:=d _ _ M;have m:upd H p (HO.lst []) p=some (.lst []):=Za3;have n:∀ t∈e,t.ok:=fun t h=>(r t h).1;generalize upd H p (HO.lst [])=H1 at d g f m ⊢;refine⟨.list (e.map Tm.data),?_,.list [],?_,Zm7 n,rfl,Nat.le_trans (Nat.min_le_right _ _) (by decide),?_⟩
 ·rw[Dn];exact⟨a,b,rfl,SqL.of f,Zq7 g⟩
 ·rw[Dn];exact⟨p,[],rfl,SqL.of m,by rw[DnAll]⟩
 rw[if_neg Bool.false_ne_true]
 cases e with
 | nil =>
  rw[if_pos (by rfl),if_pos trivial];exact q _ _ _ d (u.keep d.keepT) (.inl rfl)
 | cons t0 e =>
  rw[if_neg (show ¬ (PyData.eqv (.list ((t0 :: e).map Tm.data)) (.list []))=true from Bool.false_ne_true)];refine⟨by decide,ite2 (fun _=>q _ _ _ d (u.keep d.keepT) (.inl rfl)) fun _=>?_⟩
  have I:0 < b.length:=by rw[C];exact Nat.succ_pos _
  obtain⟨v,D,x⟩:=Zo5 (xs:=b) (i:=c / 4 % ((b.length:Nat):Int)) (Int.emod_nonneg _ (by walk_at "o")) (Int.emod_lt_of_pos _ (by walk_at "o"));obtain⟨j,L,N⟩:=List.getElem_of_mem D;obtain⟨t,F,l⟩:=paired_get g (List.getElem?_eq_getElem L);rw[N] at l;exact⟨⟨by decide,by decide⟩,b,.inl (SqL.of f),by walk_at "o",b,SqL.of f,v,x,q _ _ _ d l (.inr (List.mem_of_getElem? F))⟩
theorem Wa0 {k:Nat} (F_al0:Df K mg "_law_found" (top 63) ["_law_lines","_law_start","_law_goal","_law_form"]) (m_range:mg "range"=none) (m_len:mg "len"=none):Cl P w K mg base (k+1) "_law_found" ["_law_lines","_law_start","_law_goal","_law_form"] (Yn8 K):=by
 refine F_al0.ok sc_al0 (fun vs H Q E h=>?_) (fun _ _ A _ s H vs Q E hr h=>?_)
 ·obtain⟨a,c,L,b,N,u,x,rfl,_⟩:=h
  rfl
 obtain⟨a,c,L,b,N,u,x,rfl,M,hL,Z,hn,hO,q0,W⟩:=h
 refine⟨_,(Za4 (Zp5 PassesOwn.never rfl (Zi8 rfl m_range (Za0 (Zc1 Zb8 (by exact rfl) m_len Zd2 (Za0 (pvM 0) Za2)) Za2)) (Zb6 (i:=4) sc_al0.nd rfl (Or.inl rfl))
  (Za4 (pst 5 sc_al0.nd (Zb4 Zc6 (Zb4 Zd3 (pvM 1) (pvM 4)) (Zc1 Zb8 (by exact rfl) m_len Zd2 (Za0 (pvM 0) Za2))))
 (Za6 (Zc4 ((Zr2 (ptcM (Yf7 (Ze1 hr)) (pxt (pxl (pvM 0) (pvM 5)) Za5) (pvM 2)) (Zl7 ((Zg0 (ptcM (Zw7) (pvM 2) Zd4) (Ze6 (ptcM (Zd6) (pxt (pxt (pxl (pvM 0) (pvM 5)) Za5) Za5) (pvM 3))))).pt))).pt
  (Za6 (Zb1 (pvM 5)))
  Zb2))))
 (Za6 (Zb1 Zd4))),?_⟩
 have lu:c.length=L.length:=Paired.length hL;refine sqt (fun d y=>Same H y/\(∃ F B,d=[some (.ref a),some (.int b),some N,some (.str x),F,B])/\∀ l∈L,¬ Zz9 u x l) ?_ ?_
 ·intro C hC
  walk_at "2";refine⟨c,.inl (SqL.of M),by walk_at "o",by walk_at "o",?_⟩;refine Zk0 (D:={ nx:=C,rt:=Q }) (n:=((c.length:Nat):Int).toNat) (lo:=0) (fun i d y=>Same H y/\(∃ F B,d=[some (.ref a),some (.int b),some N,some (.str x),F,B])/\∀ (j:Nat) l,j < i->L[((b+(j:Int)) % (L.length:Int)).toNat]?=some l->¬ Zz9 u x l) ⟨Same.refl _,⟨none,none,rfl⟩,fun j l o=>absurd o (Nat.not_lt_zero _)⟩ (fun i d y q5 hp=>?_) (fun d y ⟨O,h2,h3⟩=>hC _ _ ⟨O,h2,fun l v=>?_⟩)
  rotate_left
  ·obtain⟨j,o,rfl⟩:=List.getElem_of_mem v
   have T:(L.length:Int)≠0:=by walk_at "o"
   have U:=Int.emod_nonneg ((j:Int) - b) T;have m1:=Int.emod_lt_of_pos ((j:Int) - b) (show 0 < (L.length:Int) by walk_at "o");refine h3 (((j:Int) - b) % (L.length:Int)).toNat _ (by walk_at "o") ?_
   have e:(b+(((((j:Int) - b) % (L.length:Int)).toNat:Nat):Int)) % (L.length:Int)=(j:Int):=by
    rw[Int.toNat_of_nonneg U,Int.add_emod,Int.emod_emod_of_dvd _ (Int.dvd_refl _),<- Int.add_emod,show b+((j:Int) - b)=(j:Int) by walk_at "o"];exact Int.emod_eq_of_lt (by walk_at "o") (by walk_at "o")
   rw[e,Int.toNat_natCast];exact List.getElem?_eq_getElem o
  obtain⟨e,⟨F,B,rfl⟩,I⟩:=hp
  have T:(L.length:Int)≠0:=by walk_at "o"
  have U:=Int.emod_nonneg (b+(i:Int)) T;have m1:=Int.emod_lt_of_pos (b+(i:Int)) (show 0 < (L.length:Int) by walk_at "o");obtain⟨m,hm⟩:=Int.eq_ofNat_of_zero_le U
  have r:m < c.length:=by walk_at "o"
  obtain⟨l,v,X⟩:=paired_get hL (List.getElem?_eq_getElem r);have G:=Z l (List.mem_of_getElem? v)
  have J:∀ l',¬ Zz9 u x l->∀ (j:Nat),j < i+1->L[((b+(j:Int)) % (L.length:Int)).toNat]?=some l'->¬ Zz9 u x l':=fun l' hf j o q=>by
   rcases Nat.lt_or_ge j i with h | h
   ·exact I j l' h q
   ·have:j=i:=by walk_at "o"
    subst this;rw[hm,Int.toNat_natCast,v] at q;cases q;exact hf
  obtain⟨p,wa,la,q6,ov,ys,Y,O,h2,h3,h4,h5,h6⟩:=X;walk_at "1";refine⟨c,.inl (SqL.of (e _ _ M)),by walk_at "o",?_⟩;rw[show b+(0+(i:Int))=b+(i:Int) by walk_at "o",show ((c.length:Nat):Int)=(L.length:Int) by walk_at "o",hm];have ig:∀ {R:Prop},(SqL K y a c/\atI c ((m:Nat):Int)=some c[m]->R)->R:=fun f=>f ⟨SqL.of (e _ _ M),Zd5 (List.getElem?_eq_getElem r)⟩;refine⟨c,SqL.of (e _ _ M),c[m],Zd5 (List.getElem?_eq_getElem r),p,Y,_,e.sqt O,_,rfl,l.g.data,h4.keep e.keepT,?_⟩
  cases u with
  | some t =>
   obtain⟨S,o2,o3⟩:=hO;refine⟨t.data,S.keep e.keepT,l.g.lay G.g,t.lay o2,Nat.le_trans (Nat.min_le_left _ _) (by rw[Tm.depth];have:=G.gp;have:=Zc5 l.g;walk_at "o"),?_⟩;rw[if_neg Bool.false_ne_true,Tm.eqv]
   by_cases hc:l.g=t
   ·rw[if_pos (decide_eq_true hc),if_pos trivial]
    exact W m l v hc _ e
   ·rw[if_neg (by rw[decide_eq_false hc];exact Bool.false_ne_true)]
    have gn:N≠.non:=fun z=>by rw[z] at S;obtain⟨p,x,xs,A,e,_⟩:=Zn1 S;cases e
    rw[if_neg gn,if_neg Bool.false_ne_true];exact⟨e,fun j l' o q=>J l' hc j o q⟩
  | none =>
   have q2:N=.non:=hO;subst q2;refine⟨.none,by rw[Dn],l.g.lay G.g,rfl,Nat.le_trans (Nat.min_le_right _ _) (by decide),?_⟩
   have en:l.g.data.eqv .none=false:=by cases l.g<;>rfl
   rw[if_neg Bool.false_ne_true,en,if_neg Bool.false_ne_true,if_pos rfl];obtain⟨p2,q4,e2,h7⟩:=Zm4 (h4.keep e.keepT);refine⟨c,SqL.of (e _ _ M),c[m],Zd5 (List.getElem?_eq_getElem r),p,Y,_,e.sqt O,_,rfl,p2,e2,_,h7,_,at0 _ _,Zc7 _ _,?_⟩
   by_cases hc:Zj9 l.g=x
   ·rw[if_pos (by rw[hc])]
    exact W m l v hc _ e
   ·rw[if_neg (fun z=>hc (V.str.inj z))]
    exact⟨e,fun j l' o q=>J l' hc j o q⟩
 rintro q3 H1 ⟨e1,⟨F,B,rfl⟩,I⟩;walk_at "1";exact q0 I _ e1
theorem sc_ad0:FnScope ["_law_lines","_law_cell_here","_law_here","_law_there","_law_extra","_law_wishes","_law_goal","_law_form","_law_some","_law_one"] ["_law_lines","_law_cell_here","_law_here","_law_there","_law_extra"] (Za8 (top 64)):=scm (by decide +kernel)
theorem Wa8 {k:Nat} (F_ad0:Df K mg "_law_by_goal" (top 64) ["_law_lines","_law_cell_here","_law_here","_law_there","_law_extra"]) (C__law_once:Cl P w K mg base k "_law_once" ["_law_some"] (Zi5 K)) (C__law_pick:Cl P w K mg base k "_law_pick" ["_law_some","_law_cell_here","_law_other"] (Zw0 K)) (m_len:mg "len"=none) (m_list:mg "list"=none):Cl P w K mg base (k+1) "_law_by_goal" ["_law_lines","_law_cell_here","_law_here","_law_there","_law_extra"] (Yf1 K):=by
 refine F_ad0.ok sc_ad0 (fun vs H Q E h=>?_) (fun _ _ A _ s H vs Q E hr h=>?_)
 ·obtain⟨a,us,L,c,i,j,D,ex,rfl,_⟩:=h
  rfl
 obtain⟨a,us,L,c,i,j,D,ex,rfl,ha,hL,G,hi,hj,hE,O,q⟩:=h
 refine⟨_,(Za4 (pst 5 sc_ad0.nd (pxt (pxl (pvM 0) (pvM 2)) Za5))
 (Za4 (pst 6 sc_ad0.nd (pxt (pxl (pvM 0) (pvM 2)) Za5))
 (Za4 (pst 7 sc_ad0.nd (Zb4 Zc6 (pvM 1) Za5))
 (Za4 (Zc4 (ptcM (Zd6) (pvM 7) Za5)
  (Za4 (pst 8 sc_ad0.nd (Zb7 C__law_once hr (Za0 (Zb4 Ze4 (pvM 5) (Zb5 (Za0 (pvM 4) Za2))) Za2)))
 (Za6 (Zb1 (Zb3 (Za0 Za9 (Za0 (pvM 8) (Za0 (pxl (pvM 8) (Zb4 Zc6 (Zb4 Zd0 (pvM 1) Za5) (Zc1 Zb8 (by exact rfl) m_len Zd2 (Za0 (pvM 8) Za2)))) (Za0 Zd4 (Za0 (Zb5 Za2) Za2)))))))))
  Zb2)
 (Za4 (Zc4 (ptcM (Zd6) (pvM 7) Za5)
  (Za6 (Zb1 (Zb3 (Za0 Za9 (Za0 (Zb7 C__law_once hr (Za0 (Zb4 Ze4 (pvM 5) (Zb5 (Za0 (Zb3 (Za0 Za9 Za2)) Za2))) Za2)) (Za0 (pvM 4) (Za0 Zd4 (Za0 (Zb5 Za2) Za2))))))))
  Zb2)
 (Za4 (Zc4 (ptcM (Zd6) (pvM 7) Za5)
  (Za6 (Zb1 (Zb3 (Za0 Za9 (Za0 (Zb7 C__law_once hr (Za0 (Zb4 Ze4 (pvM 5) (pxt (pxl (pvM 0) (pvM 3)) Za5)) Za2)) (Za0 (Zb3 (Za0 Za9 (Za0 (pvM 6) (Za0 (pxt (pxl (pvM 0) (pvM 3)) Za5) Za2)))) (Za0 Zd4 (Za0 (Zb5 (Za0 (pvM 2) (Za0 (pvM 3) Za2))) Za2))))))))
  Zb2)
 (Za4 (Zc4 (ptcM (Zd6) (pvM 7) Za5)
  (Za6 (Zb1 (Zb3 (Za0 Za9 (Za0 (Zg3 Zf0 (by exact rfl) m_list Zh5 (Za0 (pvM 5) Za2)) (Za0 (Zb3 (Za0 Za9 (Za0 (pvM 6) (Za0 (pvM 4) Za2)))) (Za0 Zd4 (Za0 (Zb5 (Za0 (pvM 2) Za2)) Za2))))))))
  Zb2)
 (Za4 (Zc4 (ptcM (Zd6) (pvM 7) Za5)
  (Za6 (Zb1 (Zb3 (Za0 Za9 (Za0 (Zb7 C__law_once hr (Za0 (Zb4 Ze4 (pvM 5) (Zb5 (Za0 (pvM 4) Za2))) Za2)) (Za0 (Zb3 (Za0 Za9 (Za0 (pvM 4) (Za0 (pvM 6) Za2)))) (Za0 Zd4 (Za0 (Zb5 (Za0 (pvM 2) Za2)) Za2))))))))
  Zb2)
 (Za4 (Zg1 (i:=9) sc_ad0.nd rfl (Or.inr rfl) (Zb7 C__law_pick hr (Za0 (pvM 5) (Za0 (Zb4 Zd0 (pvM 1) Za5) (Za0 (pvM 4) Za2)))))
 (Za6 (Zb1 (Zb3 (Za0 Za9 (Za0 (Zt1 (blkC (N':=["_law_wish_here","_law_one"]) (nt:=1) (ci:=[9]) ["_law_lines","_law_cell_here","_law_here","_law_there","_law_extra","_law_wishes","_law_goal","_law_form","_law_some","_law_one"] (Za8 (top 64)) rfl rfl (by decide +kernel) rfl (by decide +kernel) (by decide +kernel) rfl (by decide +kernel)) rfl (Ze7 (pvM 5)) (fun _ _ _ _=>(Zb6 (i:=0) (show (["_law_wish_here","_law_one"]:List Str).Nodup from by decide +kernel) rfl (Or.inl rfl))) (fun _ _=>Zh0 (tg2:=(.Name "" ⟨0,0,0,0⟩)) (iter2:=(.Name "" ⟨0,0,0,0⟩))) (fun _ _ _ _ _=>(Zh2 (ptcM (Zj3 (K:=K) rfl (Ze1 hr)) (pvM 0) (pvM 1)) (Zf2 (pvM 0))))) (Za0 (Zb3 (Za0 Za9 (Za0 (pvM 9) (Za0 (pvM 6) Za2)))) (Za0 Zd4 (Za0 (Zb5 (Za0 (pvM 2) Za2)) Za2))))))))))))))))),?_⟩
 have lu:us.length=L.length:=Paired.length hL
 have q5:i < us.length:=by walk_at "o"
 have q4:j < us.length:=by walk_at "o"
 obtain⟨b,X,z5⟩:=paired_get hL (List.getElem?_eq_getElem q5);obtain⟨lj,j8,z4⟩:=paired_get hL (List.getElem?_eq_getElem q4);have d:=G.ok b (List.mem_of_getElem? X);have q0:=G.ok lj (List.mem_of_getElem? j8);obtain⟨pi,wi,ai,y,oi,U,z0,i1,i2,i3,i4,i5,i6⟩:=z5;obtain⟨pj,wj,aj,gj,oj,yj,j9,j1,j2,j3,j4,j5,j6⟩:=z4;have v3:U.length=b.ws.length:=Paired.length i3;have v2:yj.length=lj.ws.length:=Paired.length j3;have w9:=d.w9;have v1:=q0.w9;refine sqt (fun n f=>n=[some (.ref a),some (.int c),some (.int (i:Nat)),some (.int (j:Nat)),some D,some (.ref wi),none,none,none,none]/\f=H) ?_ ?_
 ·intro C M
  walk_at "1";exact⟨us,SqL.of ha,_,Zd5 (List.getElem?_eq_getElem q5),pi,z0,_,i1,_,rfl,M _ _ ⟨rfl,rfl⟩⟩
 rintro v0 H1 ⟨rfl,rfl⟩;refine sqt (fun n f=>n=[some (.ref a),some (.int c),some (.int (i:Nat)),some (.int (j:Nat)),some D,some (.ref wi),some y,none,none,none]/\f=H1) ?_ ?_
 ·intro C M
  walk_at "1";exact⟨us,SqL.of ha,_,Zd5 (List.getElem?_eq_getElem q5),pi,z0,_,i1,_,rfl,M _ _ ⟨rfl,rfl⟩⟩
 rintro y9 H2 ⟨rfl,rfl⟩;refine sqt (fun n f=>n=[some (.ref a),some (.int c),some (.int (i:Nat)),some (.int (j:Nat)),some D,some (.ref wi),some y,some (.int (c % 6)),none,none]/\f=H2) ?_ ?_
 ·intro C M
  walk_at "1";exact⟨by decide,M _ _ ⟨rfl,rfl⟩⟩
 rintro y8 H3 ⟨rfl,rfl⟩;refine sqt (fun n f=>n=[some (.ref a),some (.int c),some (.int (i:Nat)),some (.int (j:Nat)),some D,some (.ref wi),some y,some (.int (c % 6)),none,none]/\f=H3) ?_ ?_
 ·intro C M
  walk_at "1";refine ite2 (fun _=>?_) (fun _=>M _ _ ⟨rfl,rfl⟩);refine⟨by decide,fun p hp=>?_⟩;have B:=Za1 hp (HO.lst [D]);refine⟨U,B _ _ i2,_,Za3,Nat.le_of_lt (Zb0 (by show U.length+1<=1000;walk_at "o")),fun p1 Z=>Zh4 Z (Za7 B.keepT i3) (.cons (hE.keep B.keepT) .nil) d.ok.w O.w (by show b.ws.length+1 < 64;walk_at "o") fun r f e fr Y=>?_⟩;obtain⟨⟨zs,z1,z2⟩,zS⟩:=Y;have S:=B.trans e;have lz:zs.length=(norm (b.ws++[ex])).length:=Paired.length z2
  have ne:0 < zs.length:=by rw[lz];exact List.length_pos_of_mem (Zd8 (List.mem_singleton.mpr rfl))
  obtain⟨v,hv,z8⟩:=Zo5 (xs:=zs) (i:=c / 6 % ((zs.length:Nat):Int)) (Int.emod_nonneg _ (by walk_at "o")) (Int.emod_lt_of_pos _ (by walk_at "o"));obtain⟨jx,z7,z9⟩:=List.getElem_of_mem hv;obtain⟨t,I,j7⟩:=paired_get z2 (List.getElem?_eq_getElem z7);rw[z9] at j7;have q1:=List.mem_of_getElem? I;have W:Okw (norm (b.ws++[ex])):=Zg5 (Zg7 d.ok.w O.w);refine⟨⟨by decide,by decide⟩,r,rfl,zs,.inl (SqL.of z1),by walk_at "o",r,rfl,zs,SqL.of z1,v,z8,by decide,fun F x=>⟨by decide,fun p3 u=>?_⟩⟩;have m:=Za1 x (HO.lst []);exact q _ _ _ ((S.trans m).trans (Za1 u _)) (Zf9 (R:=some .wish) (on:=none) (ls:=[]) u (IsW.keep m ⟨⟨zs,z1,z2⟩,zS⟩) (j7.keep m.keepT) rfl Za3 (B.free fr) (S.free x)) ⟨⟨rfl,W,by have:=Zd9 b.ws [ex];rw[List.length_singleton] at this;show (norm (b.ws++[ex])).length<=60;walk_at "o",(W t q1).1,(W t q1).2,Nat.zero_le _⟩,Xi8 (Zc9 _) (by show (if t∈norm (b.ws++[ex]) then _ else _)=_;rw[if_pos q1]) rfl⟩
 rintro y7 H4 ⟨rfl,rfl⟩;refine sqt (fun n f=>n=[some (.ref a),some (.int c),some (.int (i:Nat)),some (.int (j:Nat)),some D,some (.ref wi),some y,some (.int (c % 6)),none,none]/\f=H4) ?_ ?_
 ·intro C M
  walk_at "1";refine ite2 (fun _=>?_) (fun _=>M _ _ ⟨rfl,rfl⟩);refine⟨by decide,fun p0 z6=>⟨by decide,fun p hp=>?_⟩⟩;have s0:=Za1 z6 (HO.tup [V.str "low"]);have z3:IsT K (upd H4 p0 (HO.tup [V.str "low"])) (.ref p0) .low:=isT_low.mpr ⟨p0,rfl,.inl (.inl Za3)⟩;have q9:=Za1 hp (HO.lst [V.ref p0]);have B:=s0.trans q9;have q3:Okw [Tm.low]:=Zf5 trivial (by decide);refine⟨U,B _ _ i2,_,Za3,Nat.le_of_lt (Zb0 (by show U.length+1<=1000;walk_at "o")),fun p1 Z=>Zh4 Z (Za7 B.keepT i3) (.cons (z3.keep q9.keepT) .nil) d.ok.w q3 (by show b.ws.length+1 < 64;walk_at "o") fun r f e fr Y=>?_⟩;have S:=B.trans e;have W:Okw (norm (b.ws++[Tm.low])):=Zg5 (Zg7 d.ok.w q3);refine⟨by decide,fun F x=>⟨by decide,fun p3 u=>?_⟩⟩;have m:=Za1 x (HO.lst []);exact q _ _ _ ((S.trans m).trans (Za1 u _)) (Zf9 (R:=some .low) (on:=none) (ls:=[]) u (Y.keep m) (hE.keep (S.trans m).keepT) rfl Za3 (B.free fr) (S.free x)) ⟨⟨rfl,W,by have:=Zd9 b.ws [Tm.low];rw[List.length_singleton] at this;show (norm (b.ws++[Tm.low])).length<=60;walk_at "o",O.1,by have:=O.2;show ex.parts<=100;walk_at "o",Nat.zero_le _⟩,Xi8 (Zc9 _) (by show (if Tm.low∈norm (b.ws++[Tm.low]) then _ else _)=_;rw[if_pos (Zd8 (List.mem_singleton.mpr rfl))]) rfl⟩
 rintro y6 H5 ⟨rfl,rfl⟩;refine sqt (fun n f=>n=[some (.ref a),some (.int c),some (.int (i:Nat)),some (.int (j:Nat)),some D,some (.ref wi),some y,some (.int (c % 6)),none,none]/\f=H5) ?_ ?_
 ·intro C M
  walk_at "1";refine ite2 (fun _=>?_) (fun _=>M _ _ ⟨rfl,rfl⟩);refine⟨us,SqL.of ha,_,Zd5 (List.getElem?_eq_getElem q4),pj,j9,_,j1,_,rfl,wj,rfl,U,i2,yj,j2,Nat.le_of_lt (Zb0 (by walk_at "o")),fun p1 Z=>Zh4 Z i3 j3 d.ok.w q0.ok.w (by walk_at "o") fun r f S fr Y=>?_⟩;have W:Okw (norm (b.ws++lj.ws)):=Zg5 (Zg7 d.ok.w q0.ok.w);refine⟨us,SqL.of (S _ _ ha),_,Zd5 (List.getElem?_eq_getElem q4),pj,j9,_,S.sqt j1,_,rfl,by decide,fun F x=>⟨by decide,fun p3 u=>⟨by decide,fun p4 J=>?_⟩⟩⟩;have m:=Za1 x (HO.tup [V.str "both",y,gj]);have T:=Za1 u (HO.lst [V.int (i:Nat),V.int (j:Nat)]);have hb:IsT K (upd f F (HO.tup [V.str "both",y,gj])) (.ref F) (.nd .both b.g lj.g):=isT_nd.mpr ⟨F,y,gj,rfl,.inl (.inl Za3),i4.keep (S.trans m).keepT,j4.keep (S.trans m).keepT⟩;have q8:=d.g40;have q7:=q0.g40;exact q _ _ _ (((S.trans m).trans T).trans (Za1 J _)) (Zf9 (R:=some .both) (on:=none) (ls:=[(i:Int),(j:Int)]) J (Y.keep (m.trans T)) (hb.keep T.keepT) rfl Za3 fr ((S.trans m).free u)) ⟨⟨rfl,W,by have:=Zd9 b.ws lj.ws;show (norm (b.ws++lj.ws)).length<=60;walk_at "o",⟨d.ok.g,q0.ok.g⟩,by show 1+b.g.parts+lj.g.parts<=100;walk_at "o",by show 2<=100;decide⟩,Xi7 (Zc9 _) rfl rfl hi X rfl (fun t I=>.inl (Zf8 I)) hj j8 rfl (fun t I=>.inl (Zd8 I))⟩
 rintro y5 H6 ⟨rfl,rfl⟩;refine sqt (fun n f=>n=[some (.ref a),some (.int c),some (.int (i:Nat)),some (.int (j:Nat)),some D,some (.ref wi),some y,some (.int (c % 6)),none,none]/\f=H6) ?_ ?_
 ·intro C M
  walk_at "1";refine ite2 (fun _=>?_) (fun _=>M _ _ ⟨rfl,rfl⟩);refine⟨U,.inl (SqL.of i2),fun l hl=>⟨by decide,fun F x=>⟨by decide,fun p3 u=>⟨by decide,fun p4 J=>?_⟩⟩⟩⟩;have B:=Za1 hl (HO.lst U);have m:=Za1 x (HO.tup [V.str "one",y,D]);have T:=Za1 u (HO.lst [V.int (i:Nat)]);have S:=B.trans m;have hb:IsT K (upd (upd H6 l (HO.lst U)) F (HO.tup [V.str "one",y,D])) (.ref F) (.nd .one b.g ex):=isT_nd.mpr ⟨F,y,D,rfl,.inl (.inl Za3),i4.keep S.keepT,hE.keep S.keepT⟩;have Y:IsW K (upd H6 l (HO.lst U)) l b.ws:=⟨⟨U,Za3,Za7 B.keepT i3⟩,G.sorted X⟩;have q8:=d.g40;have q7:=O.2;exact q _ _ _ ((S.trans T).trans (Za1 J _)) (Zf9 (R:=some .first) (on:=none) (ls:=[(i:Int)]) J (Y.keep (m.trans T)) (hb.keep T.keepT) rfl Za3 hl (S.free u)) ⟨⟨rfl,d.ok.w,d.ok.wl,⟨d.ok.g,O.1⟩,by show 1+b.g.parts+ex.parts<=100;walk_at "o",by show 1<=100;decide⟩,Yg9 (show Zd7 b.ws from G.sorted X) rfl rfl hi X rfl (fun t I=>.inl I)⟩
 rintro y4 H7 ⟨rfl,rfl⟩;refine sqt (fun n f=>n=[some (.ref a),some (.int c),some (.int (i:Nat)),some (.int (j:Nat)),some D,some (.ref wi),some y,some (.int (c % 6)),none,none]/\f=H7) ?_ ?_
 ·intro C M
  walk_at "1";refine ite2 (fun _=>?_) (fun _=>M _ _ ⟨rfl,rfl⟩);refine⟨by decide,fun p hp=>?_⟩;have B:=Za1 hp (HO.lst [D]);refine⟨U,B _ _ i2,_,Za3,Nat.le_of_lt (Zb0 (by show U.length+1<=1000;walk_at "o")),fun p1 Z=>Zh4 Z (Za7 B.keepT i3) (.cons (hE.keep B.keepT) .nil) d.ok.w O.w (by show b.ws.length+1 < 64;walk_at "o") fun r f e fr Y=>⟨by decide,fun F x=>⟨by decide,fun p3 u=>⟨by decide,fun p4 J=>?_⟩⟩⟩⟩;have S:=B.trans e;have W:Okw (norm (b.ws++[ex])):=Zg5 (Zg7 d.ok.w O.w);have m:=Za1 x (HO.tup [V.str "one",D,y]);have T:=Za1 u (HO.lst [V.int (i:Nat)]);have hb:IsT K (upd f F (HO.tup [V.str "one",D,y])) (.ref F) (.nd .one ex b.g):=isT_nd.mpr ⟨F,D,y,rfl,.inl (.inl Za3),hE.keep (S.trans m).keepT,i4.keep (S.trans m).keepT⟩;have q8:=d.g40;have q7:=O.2;exact q _ _ _ (((S.trans m).trans T).trans (Za1 J _)) (Zf9 (R:=some .second) (on:=none) (ls:=[(i:Int)]) J (Y.keep (m.trans T)) (hb.keep T.keepT) rfl Za3 (B.free fr) ((S.trans m).free u)) ⟨⟨rfl,W,by have:=Zd9 b.ws [ex];rw[List.length_singleton] at this;show (norm (b.ws++[ex])).length<=60;walk_at "o",⟨O.1,d.ok.g⟩,by show 1+ex.parts+b.g.parts<=100;walk_at "o",by show 1<=100;decide⟩,Yg9 (Zc9 _) rfl rfl hi X rfl (fun t I=>.inl (Zf8 I))⟩
 rintro y3 H8 ⟨rfl,rfl⟩;refine sqt (fun n f=>∃ v o,n=[some (.ref a),some (.int c),some (.int (i:Nat)),some (.int (j:Nat)),some D,some (.ref wi),some y,some (.int (c % 6)),none,some v]/\Same H8 f/\IsT K f v o/\S40 o) ?_ ?_
 ·intro C M
  walk_at "1";refine⟨⟨by decide,by decide⟩,wi,_,D,U,b.ws,ex,rfl,i2,i3,d.ok.w,hE,fun r t f e hr I=>M _ _ ⟨r,t,rfl,e,hr,?_⟩⟩;rcases I with rfl | I
  ·exact O
  ·exact d.s40 t I
 rintro y2 H9 ⟨v,o,rfl,e9,hv,q2⟩;walk_at "1";refine⟨⟨_,SqL.of (e9 _ _ i2)⟩,fun y0 q6=>?_⟩;refine Zf7 (fun t=>decide (t≠o)) (e9 _ _ i2) (Za7 e9.keepT i3) (by walk_at "o") q6 (fun v'=>Ze9 (i:=0) rfl) (fun v' t f ys N q1 e hT h y1 hy hn=>?_) (fun f ys e h hP=>?_)
 ·walk_at "1"
  have j0:=d.ok.w t q1;refine⟨t.data,hT,o.data,hv.keep e.keepT,t.lay j0.1,o.lay q2.1,Nat.le_trans (Nat.min_le_left _ _) (by rw[Tm.depth];have:=j0.2;have:=Zc5 t;walk_at "o"),?_⟩;rw[Tm.eqv]
  by_cases hto:t=o
  ·rw[if_neg (by rw[if_pos trivial,decide_eq_true hto];exact Bool.false_ne_true)]
   exact hn (decide_eq_false (fun z=>z hto)) _ (Same.refl _)
  ·rw[if_pos (by rw[if_pos trivial,decide_eq_false hto];rfl)]
   exact⟨ys,h,Zb0 (by walk_at "o"),hy (decide_eq_true hto) _ (Same.refl _) h⟩
 ·refine⟨by decide,fun F x=>⟨by decide,fun p3 u=>⟨by decide,fun p4 J=>?_⟩⟩⟩
  have S:=e9.trans e;have m:=Za1 x (HO.tup [V.str "then",v,y]);have T:=Za1 u (HO.lst [V.int (i:Nat)]);have hb:IsT K (upd f F (HO.tup [V.str "then",v,y])) (.ref F) (.nd .thn o b.g):=isT_nd.mpr ⟨F,v,y,rfl,.inl (.inl Za3),hv.keep (e.trans m).keepT,i4.keep (S.trans m).keepT⟩;have Y:IsW K f y0 (rem b.ws o):=⟨⟨ys,h,hP⟩,Zl5 (G.sorted X)⟩;have q8:=d.g40;have q7:=q2.2;have lr:(rem b.ws o).length<=b.ws.length:=List.length_filter_le _ _
  exact q _ _ _ (((S.trans m).trans T).trans (Za1 J _)) (Zf9 (R:=some .thn) (on:=none) (ls:=[(i:Int)]) J (Y.keep (m.trans T)) (hb.keep T.keepT) rfl Za3 (e9.free q6) ((S.trans m).free u)) ⟨⟨rfl,fun t I=>d.ok.w t (mem_rem.mp I).1,by show (rem b.ws o).length<=60;walk_at "o",⟨q2.1,d.ok.g⟩,by show 1+o.parts+b.g.parts<=100;walk_at "o",by show 1<=100;decide⟩,Yg9 (show Zd7 (rem b.ws o) from Zl5 (G.sorted X)) rfl rfl hi X rfl (fun t I=>by
   by_cases hto:t=o
   ·exact .inl (Zd8 (List.mem_singleton.mpr hto))
   ·exact .inr (mem_rem.mpr ⟨I,hto⟩))⟩
theorem sc_ae0:FnScope ["_law_lines","_law_cell_here","_law_here","_law_one","_law_other","_law_extra","_law_wishes","_law_goal","_law_form","_law_on","_law_first","_law_some","_law_longer","_law_second","_law_kept"] ["_law_lines","_law_cell_here","_law_here","_law_one","_law_other","_law_extra"] (Za8 (top 65)):=scm (by decide +kernel)
theorem Wa7 {k:Nat} (F_ae0:Df K mg "_law_by_if" (top 65) ["_law_lines","_law_cell_here","_law_here","_law_one","_law_other","_law_extra"]) (C__law_pick:Cl P w K mg base k "_law_pick" ["_law_some","_law_cell_here","_law_other"] (Zw0 K)) (C__law_once:Cl P w K mg base k "_law_once" ["_law_some"] (Zi5 K)) (C__law_changed:Cl P w K mg base k "_law_changed" ["_law_wishes","_law_on","_law_more"] (Zh7 K)) (m_len:mg "len"=none):Cl P w K mg base (k+1) "_law_by_if" ["_law_lines","_law_cell_here","_law_here","_law_one","_law_other","_law_extra"] (Yw4 K):=by
 refine F_ae0.ok sc_ae0 (fun vs H Q E h=>?_) (fun _ _ A _ s H vs Q E hr h=>?_)
 ·obtain⟨a,us,L,c,i,J,F,M,o1,D,ex,rfl,_⟩:=h
  rfl
 obtain⟨a,us,L,c,i,J,F,M,o1,D,ex,rfl,ha,hL,G,hi,h1,h2,hE,k1,k2,y8,exp,q⟩:=h
 refine⟨_,(Za4 (pst 6 sc_ae0.nd (pxt (pxl (pvM 0) (pvM 2)) Za5))
 (Za4 (pst 7 sc_ae0.nd (pxt (pxl (pvM 0) (pvM 2)) Za5))
 (Za4 (pst 8 sc_ae0.nd (Zb4 Zc6 (pvM 1) Za5))
 (Za4 (Zc4 (ptcM (Zd6) (pvM 8) Za5)
  (Za4 (Zg1 (i:=9) sc_ae0.nd rfl (Or.inr rfl) (Zb7 C__law_pick hr (Za0 (Zt1 (blk0 (N':=["_law_wish_here"]) (by decide +kernel) (by decide +kernel) rfl (by decide +kernel)) rfl (Ze7 (pvM 6)) (fun _ _ _ _=>(Zb6 (i:=0) (show (["_law_wish_here"]:List Str).Nodup from by decide +kernel) rfl (Or.inl rfl))) (fun _ _=>Zh0 (tg2:=(.Name "" ⟨0,0,0,0⟩)) (iter2:=(.Name "" ⟨0,0,0,0⟩))) (fun _ _ _ _ _=>(Zh2 (ptcM (Zd6) (Zq4 (Zl2 (K:=K) rfl) (pvM 0) Za5 (fun _ _=>rfl)) Za9) (Zf2 (pvM 0))))) (Za0 (Zb4 Zd0 (pvM 1) Za5) (Za0 (Zb3 (Za0 Za9 (Za0 (pvM 3) (Za0 (pvM 4) Za2)))) Za2)))))
 (Za4 (Zc4 (ptcM (Zd6) (Zb4 Zc6 (Zb4 Zd0 (pvM 1) Za5) Za5) Za5)
  (Za6 (Zg1 (i:=9) sc_ae0.nd rfl (Or.inr rfl) (Zb3 (Za0 Za9 (Za0 (pvM 3) (Za0 (pvM 4) Za2))))))
  Zb2)
 (Za6 (Zb1 (Zb3 (Za0 Za9 (Za0 (Zb7 C__law_once hr (Za0 (Zb4 Ze4 (Zt1 (blkC (N':=["_law_wish_here","_law_on"]) (nt:=1) (ci:=[9]) ["_law_lines","_law_cell_here","_law_here","_law_one","_law_other","_law_extra","_law_wishes","_law_goal","_law_form","_law_on","_law_first","_law_some","_law_longer","_law_second","_law_kept"] (Za8 (top 65)) rfl rfl (by decide +kernel) rfl (by decide +kernel) (by decide +kernel) rfl (by decide +kernel)) rfl (Ze7 (pvM 6)) (fun _ _ _ _=>(Zb6 (i:=0) (show (["_law_wish_here","_law_on"]:List Str).Nodup from by decide +kernel) rfl (Or.inl rfl))) (fun _ _=>Zh0 (tg2:=(.Name "" ⟨0,0,0,0⟩)) (iter2:=(.Name "" ⟨0,0,0,0⟩))) (fun _ _ _ _ _=>(Zh2 (ptcM (Zj3 (K:=K) rfl (Ze1 hr)) (pvM 0) (Zq4 (Zl2 (K:=K) rfl) (pvM 1) Za5 (fun _ _=>rfl))) (Zf2 (pvM 0))))) (Zb5 (Za0 (pxt (pvM 9) Za5) (Za0 (pvM 9) Za2)))) Za2)) (Za0 (pvM 7) (Za0 (pvM 9) (Za0 (Zb5 (Za0 (pvM 2) Za2)) Za2))))))))))
  Zb2)
 (Za4 (Zc4 (ptcM (Zd6) (pvM 8) Za5)
  (Za4 (Zg1 (i:=9) sc_ae0.nd rfl (Or.inr rfl) (Zb3 (Za0 Za9 (Za0 (Zb3 (Za0 Za9 Za2)) (Za0 (pvM 5) Za2)))))
 (Za6 (Zb1 (Zb3 (Za0 Za9 (Za0 (Zb7 C__law_once hr (Za0 (Zb4 Ze4 (pvM 6) (Zb5 (Za0 (pvM 9) Za2))) Za2)) (Za0 (pvM 7) (Za0 (pvM 9) (Za0 (Zb5 (Za0 (pvM 2) Za2)) Za2)))))))))
  Zb2)
 (Za4 (Zg1 (i:=10) sc_ae0.nd rfl (Or.inr rfl) (Zb3 (Za0 Za9 (Za0 (pvM 3) (Za0 (Zb3 (Za0 Za9 (Za0 (pvM 4) (Za0 (pvM 5) Za2)))) Za2)))))
 (Za4 (Zl9 (i:=11) sc_ae0.nd rfl (Or.inl rfl) (blk0 (N':=["_law_wish_here"]) (by decide +kernel) (by decide +kernel) rfl (by decide +kernel)) rfl (Ze7 (pvM 6)) (fun _ _ _ _=>(Zb6 (i:=0) (show (["_law_wish_here"]:List Str).Nodup from by decide +kernel) rfl (Or.inl rfl))) (fun _ _=>Zh0 (tg2:=(.Name "" ⟨0,0,0,0⟩)) (iter2:=(.Name "" ⟨0,0,0,0⟩))) (fun _ _ _ _ _=>(Zh2 (ptcM (Zd6) (Zq4 (Zl2 (K:=K) rfl) (pvM 0) Za5 (fun _ _=>rfl)) Za9) (Zf2 (pvM 0)))) rfl)
 (Za4 (Zc4 (ptcM (Zd6) (pvM 8) Za5)
  (Za4 (Zl9 (i:=12) sc_ae0.nd rfl (Or.inl rfl) (blk0 (N':=["_law_wish_here"]) (by decide +kernel) (by decide +kernel) rfl (by decide +kernel)) rfl (Ze7 (pvM 11)) (fun _ _ _ _=>(Zb6 (i:=0) (show (["_law_wish_here"]:List Str).Nodup from by decide +kernel) rfl (Or.inl rfl))) (fun _ _=>Zh0 (tg2:=(.Name "" ⟨0,0,0,0⟩)) (iter2:=(.Name "" ⟨0,0,0,0⟩))) (fun _ _ _ _ _=>(Zh2 (ptcM (Zd6) (Zq4 (Zl2 (K:=K) rfl) (Zq4 (Zl2 (K:=K) rfl) (pvM 0) Za5 (fun _ _=>rfl)) Za5 (fun _ _=>rfl)) Za9) (Zf2 (pvM 0)))) rfl)
 (Za4 (Zc4 (ptcM (Zo3 (Ze1 hr)) (pvM 12) (Zb5 Za2))
  (Za6 (Zg1 (i:=10) sc_ae0.nd rfl (Or.inr rfl) (pxl (pvM 12) (Zb4 Zc6 (Zb4 Zd0 (pvM 1) Za5) (Zc1 Zb8 (by exact rfl) m_len Zd2 (Za0 (pvM 12) Za2))))))
  Zb2)
 (Za4 (Zg1 (i:=9) sc_ae0.nd rfl (Or.inr rfl) (Zb3 (Za0 Za9 (Za0 (Zb3 (Za0 Za9 (Za0 (pxt (pvM 10) Za5) (Za0 (pxt (pxt (pvM 10) Za5) Za5) Za2)))) (Za0 (pxt (pxt (pvM 10) Za5) Za5) Za2)))))
 (Za6 (Zb1 (Zb3 (Za0 Za9 (Za0 (Zb7 C__law_changed hr (Za0 (pvM 6) (Za0 (pvM 10) (Za0 (Zb5 (Za0 (pvM 9) Za2)) Za2)))) (Za0 (pvM 7) (Za0 (pvM 9) (Za0 (Zb5 (Za0 (pvM 2) Za2)) Za2)))))))))))
  Zb2)
 (Za4 (Zg1 (i:=10) sc_ae0.nd rfl (Or.inr rfl) (Zb7 C__law_pick hr (Za0 (pvM 11) (Za0 (Zb4 Zd0 (pvM 1) Za5) (Za0 (Zb3 (Za0 Za9 (Za0 (pvM 3) (Za0 (pvM 5) Za2)))) Za2)))))
 (Za4 (Zg1 (i:=13) sc_ae0.nd rfl (Or.inr rfl) (Zb3 (Za0 Za9 (Za0 (pvM 4) (Za0 (pxt (pvM 10) Za5) Za2)))))
 (Za4 (Zg1 (i:=9) sc_ae0.nd rfl (Or.inr rfl) (Zb3 (Za0 Za9 (Za0 (Zb3 (Za0 Za9 (Za0 (pxt (pvM 10) Za5) (Za0 (pvM 4) Za2)))) (Za0 (pxt (pvM 10) Za5) Za2)))))
 (Za4 (Zl9 (i:=14) sc_ae0.nd rfl (Or.inl rfl) (blkC (N':=["_law_wish_here","_law_first","_law_second"]) (nt:=1) (ci:=[10,13]) ["_law_lines","_law_cell_here","_law_here","_law_one","_law_other","_law_extra","_law_wishes","_law_goal","_law_form","_law_on","_law_first","_law_some","_law_longer","_law_second","_law_kept"] (Za8 (top 65)) rfl rfl (by decide +kernel) rfl (by decide +kernel) (by decide +kernel) rfl (by decide +kernel)) rfl (Ze7 (pvM 6)) (fun _ _ _ _=>(Zb6 (i:=0) (show (["_law_wish_here","_law_first","_law_second"]:List Str).Nodup from by decide +kernel) rfl (Or.inl rfl))) (fun _ _=>Zh0 (tg2:=(.Name "" ⟨0,0,0,0⟩)) (iter2:=(.Name "" ⟨0,0,0,0⟩))) (fun _ _ _ _ _=>(Zh2 ((Zg0 (ptcM (Zj3 (K:=K) rfl (Ze1 hr)) (pvM 0) (pvM 1)) (Ze6 (ptcM (Zj3 (K:=K) rfl (Ze1 hr)) (pvM 0) (pvM 2))))).pt (Zf2 (pvM 0)))) rfl)
 (Za6 (Zb1 (Zb3 (Za0 Za9 (Za0 (Zb7 C__law_once hr (Za0 (Zb4 Ze4 (pvM 14) (Zb5 (Za0 (pvM 9) Za2))) Za2)) (Za0 (pvM 7) (Za0 (pvM 9) (Za0 (Zb5 (Za0 (pvM 2) Za2)) Za2)))))))))))))))))))),?_⟩
 have lu:us.length=L.length:=Paired.length hL
 have y6:i < us.length:=by walk_at "o"
 obtain⟨o,j4,hvi⟩:=paired_get hL (List.getElem?_eq_getElem y6);have n:=G.ok o (List.mem_of_getElem? j4);obtain⟨pi,Z,ai,gi,oi,yi,evi,i1,i2,i3,i4,i5,i6⟩:=hvi;have lyi:yi.length=o.ws.length:=Paired.length i3;have w9:=n.w9;have srt:=G.sorted j4;have gp1:=n.g40;refine sqt (fun m f=>m=[some (.ref a),some (.int c),some (.int (i:Nat)),some J,some F,some M,some (.ref Z),none,none,none,none,none,none,none,none]/\f=H) ?_ ?_
 ·intro C B
  walk_at "1";exact⟨us,SqL.of ha,_,Zd5 (List.getElem?_eq_getElem y6),pi,evi,_,i1,_,rfl,B _ _ ⟨rfl,rfl⟩⟩
 rintro σ1 H1 ⟨rfl,rfl⟩;refine sqt (fun m f=>m=[some (.ref a),some (.int c),some (.int (i:Nat)),some J,some F,some M,some (.ref Z),some gi,none,none,none,none,none,none,none]/\f=H1) ?_ ?_
 ·intro C B
  walk_at "1";exact⟨us,SqL.of ha,_,Zd5 (List.getElem?_eq_getElem y6),pi,evi,_,i1,_,rfl,B _ _ ⟨rfl,rfl⟩⟩
 rintro σ2 H2 ⟨rfl,rfl⟩;refine sqt (fun m f=>m=[some (.ref a),some (.int c),some (.int (i:Nat)),some J,some F,some M,some (.ref Z),some gi,some (.int (c % 4)),none,none,none,none,none,none]/\f=H2) ?_ ?_
 ·intro C B
  walk_at "1";exact⟨by decide,B _ _ ⟨rfl,rfl⟩⟩
 rintro σ3 H3 ⟨rfl,rfl⟩;have thenT:∀ (f:Hp) (v:V) (t:Tm),IsT K f v t->∃ p xs,v=.ref p/\SqT K f p (.str (Zj9 t) :: xs):=fun _ _ _ h=>Zm4 h;refine sqt (fun m f=>m=[some (.ref a),some (.int c),some (.int (i:Nat)),some J,some F,some M,some (.ref Z),some gi,some (.int (c % 4)),none,none,none,none,none,none]/\f=H3) ?_ ?_
 ·intro C B
  walk_at "3";refine ite2 (fun _=>?_) (fun _=>B _ _ ⟨rfl,rfl⟩);refine sqt (fun m f=>∃ X b d,m=[some (.ref a),some (.int c),some (.int (i:Nat)),some J,some F,some M,some (.ref Z),some gi,some (.int (c % 4)),some X,none,none,none,none,none]/\Same H3 f/\IsT K f X (.nd .thn b d)/\(Tm.nd .thn b d).ok/\(Tm.nd .thn b d).parts<=81) ?_ ?_
  ·intro C B
   walk_at "1";refine⟨⟨_,SqL.of i2⟩,fun q6 Y=>?_⟩;refine Zf7 (fun t=>decide (Zj9 t="then")) i2 i3 (by walk_at "o") Y (fun v'=>Ze9 (i:=0) rfl) (fun v' t f W N j0 e hT h j6 hy hn=>?_) (fun f W e h hP=>?_)
   ·walk_at "1"
    obtain⟨p,xs,rfl,hs⟩:=Zm4 hT;refine⟨p,rfl,_,hs,_,at0 _ _,Zc7 _ _,?_⟩
    by_cases hc:Zj9 t="then"
    ·rw[if_pos (by rw[hc])]
     exact⟨W,h,Zb0 (by walk_at "o"),hy (decide_eq_true hc) _ (Same.refl _) h⟩
    ·rw[if_neg (fun z=>hc (V.str.inj z))]
     exact hn (decide_eq_false hc) _ (Same.refl _)
   ·refine⟨⟨by decide,by decide⟩,by decide,fun p hp=>?_⟩
    have l:=Za1 hp (HO.tup [V.str "then",J,F]);have S:=e.trans l;have hd:IsT K (upd f p (HO.tup [V.str "then",J,F])) (.ref p) (.nd .thn o1 D):=isT_nd.mpr ⟨p,J,F,rfl,.inl (.inl Za3),h1.keep S.keepT,h2.keep S.keepT⟩;refine⟨q6,_,.ref p,W,_,.nd .thn o1 D,rfl,l _ _ h,Za7 l.keepT hP,fun t I=>n.ok.w t (List.mem_filter.mp I).1,hd,fun r t H'' e2 hr I=>?_⟩;rcases I with rfl | I
    ·exact B _ _ ⟨r,o1,D,rfl,S.trans e2,hr,⟨k1.1,k2.1⟩,by have:=k1.2;have:=k2.2;show 1+o1.parts+D.parts<=81;walk_at "o"⟩
    ·obtain⟨hm,hh⟩:=List.mem_filter.mp I
     obtain⟨b,d,rfl⟩:=Zm5 (of_decide_eq_true hh);exact B _ _ ⟨r,b,d,rfl,S.trans e2,hr,(n.ok.w _ hm).1,by have:=n.w40 _ hm;walk_at "o"⟩
  rintro σ4 H4 ⟨X,b,d,rfl,e4,q0,j2,z6⟩;refine sqt (fun m f=>∃ X b d,m=[some (.ref a),some (.int c),some (.int (i:Nat)),some J,some F,some M,some (.ref Z),some gi,some (.int (c % 4)),some X,none,none,none,none,none]/\Same H3 f/\IsT K f X (.nd .thn b d)/\(Tm.nd .thn b d).ok/\(Tm.nd .thn b d).parts<=81) ?_ ?_
  ·intro C B
   walk_at "1";refine⟨⟨by decide,by decide⟩,by decide,ite2 (fun _=>⟨by decide,fun p hp=>?_⟩) (fun _=>B _ _ ⟨X,b,d,rfl,e4,q0,j2,z6⟩)⟩;have l:=Za1 hp (HO.tup [V.str "then",J,F]);have S:=e4.trans l;exact B _ _ ⟨_,o1,D,rfl,S,isT_nd.mpr ⟨p,J,F,rfl,.inl (.inl Za3),h1.keep S.keepT,h2.keep S.keepT⟩,⟨k1.1,k2.1⟩,by have:=k1.2;have:=k2.2;show 1+o1.parts+D.parts<=81;walk_at "o"⟩
  rintro σ5 H5 ⟨X,b,d,rfl,e5,q0,j2,z6⟩;obtain⟨p,x,y,rfl,hs,hx,hy⟩:=isT_nd.mp q0;walk_at "1";refine⟨⟨_,SqL.of (e5 _ _ i2)⟩,fun q6 Y=>?_⟩;refine Zf7 (fun t=>decide (t≠d)) (e5 _ _ i2) (Za7 e5.keepT i3) (by walk_at "o") Y (fun v'=>Ze9 (i:=0) rfl) (fun v' t f W N j0 e hT h j6 y0 hn=>?_) (fun f W e h hP=>?_)
  ·walk_at "1"
   have j3:=n.ok.w t j0;refine⟨_,e.sqt hs,_,rfl,t.data,hT,d.data,hy.keep e.keepT,t.lay j3.1,d.lay j2.2,Nat.le_trans (Nat.min_le_left _ _) (by rw[Tm.depth];have:=j3.2;have:=Zc5 t;walk_at "o"),?_⟩;rw[Tm.eqv]
   by_cases hto:t=d
   ·rw[if_neg (by rw[if_pos trivial,decide_eq_true hto];exact Bool.false_ne_true)]
    exact hn (decide_eq_false (fun z=>z hto)) _ (Same.refl _)
   ·rw[if_pos (by rw[if_pos trivial,decide_eq_false hto];rfl)]
    exact⟨W,h,Zb0 (by walk_at "o"),y0 (decide_eq_true hto) _ (Same.refl _) h⟩
  ·have lys:W.length=(rem o.ws d).length:=Paired.length hP
   have lr:(rem o.ws d).length<=o.ws.length:=List.length_filter_le _ _;have pp:1+b.parts+d.parts<=81:=z6;refine⟨_,e.sqt hs,_,rfl,by decide,fun p1 q5=>?_⟩;have l:=Za1 q5 (HO.lst [x,V.ref p]);have S:=(e5.trans e).trans l
   have z7:Okw [b,.nd .thn b d]:=fun t I=>by
    rcases List.mem_cons.mp I with rfl | I
    ·exact⟨j2.1,by walk_at "o"⟩
    ·rw[List.mem_singleton.mp I];exact⟨j2,by walk_at "o"⟩
   have q8:Okw (rem o.ws d):=fun t I=>n.ok.w t (mem_rem.mp I).1;refine⟨W,l _ _ h,_,Za3,Nat.le_of_lt (Zb0 (by show W.length+2<=1000;walk_at "o")),fun p2 y3=>Zh4 y3 (Za7 l.keepT hP) (.cons (hx.keep (e.trans l).keepT) (.cons (q0.keep (e.trans l).keepT) .nil)) q8 z7 (by show (rem o.ws d).length+2 < 64;walk_at "o") fun r H6 e6 fr hw=>⟨by decide,fun p3 T=>⟨by decide,fun p4 U=>?_⟩⟩⟩;have O:=Za1 T (HO.lst [V.int (i:Nat)]);have SS:=(S.trans e6).trans O;have q9:Okw (norm (rem o.ws d++[b,.nd .thn b d])):=Zg5 (Zg7 q8 z7);have v5:Tm.nd .thn b d∈norm (rem o.ws d++[b,.nd .thn b d]):=Zd8 (by simp);have b_in:b∈norm (rem o.ws d++[b,.nd .thn b d]):=Zd8 (by simp)
   exact q _ _ _ (SS.trans (Za1 U _)) (Zf9 (R:=some .known) (on:=some (.nd .thn b d)) (ls:=[(i:Int)]) U (hw.keep O) (i4.keep SS.keepT) ⟨q0.keep (((e.trans l).trans e6).trans O).keepT,j2,by walk_at "o"⟩ Za3 (S.free fr) ((S.trans e6).free T)) ⟨⟨rfl,q9,by have:=Zd9 (rem o.ws d) [b,.nd .thn b d];rw[show [b,Tm.nd .thn b d].length=2 from rfl] at this;show (norm (rem o.ws d++[b,.nd .thn b d])).length<=60;walk_at "o",n.ok.g,n.ok.gp,by show 1<=100;decide⟩,Yg9 (Zc9 _) (by
    show (if Tm.nd .thn b d∈norm (rem o.ws d++[b,.nd .thn b d]) then (if b∈norm (rem o.ws d++[b,.nd .thn b d]) then some [_] else none) else none)=_
    rw[if_pos v5,if_pos b_in]) rfl hi j4 rfl (fun t I=>by
    by_cases htd:t=d
    ·exact .inl (Zd8 (List.mem_singleton.mpr htd))
    ·exact .inr (Zf8 (mem_rem.mpr ⟨I,htd⟩)))⟩
 rintro σ4 H4 ⟨rfl,rfl⟩;refine sqt (fun m f=>m=[some (.ref a),some (.int c),some (.int (i:Nat)),some J,some F,some M,some (.ref Z),some gi,some (.int (c % 4)),none,none,none,none,none,none]/\f=H4) ?_ ?_
 ·intro C B
  walk_at "1";refine ite2 (fun _=>?_) (fun _=>B _ _ ⟨rfl,rfl⟩);refine⟨by decide,fun p0 hp0=>⟨by decide,fun p hp=>⟨by decide,fun p1 q5=>?_⟩⟩⟩;have s0:=Za1 hp0 (HO.tup [V.str "low"]);have hlow:IsT K (upd H4 p0 (HO.tup [V.str "low"])) (.ref p0) .low:=isT_low.mpr ⟨p0,rfl,.inl (.inl Za3)⟩;have l:=Za1 hp (HO.tup [V.str "then",V.ref p0,M]);have v8:IsT K (upd (upd H4 p0 (HO.tup [V.str "low"])) p (HO.tup [V.str "then",V.ref p0,M])) (.ref p) (.nd .thn .low ex):=isT_nd.mpr ⟨p,_,M,rfl,.inl (.inl Za3),hlow.keep l.keepT,hE.keep (s0.trans l).keepT⟩;have O:=Za1 q5 (HO.lst [V.ref p]);have S:=(s0.trans l).trans O;have z2:(Tm.nd .thn .low ex).ok:=⟨trivial,y8⟩
  have z5:(Tm.nd .thn .low ex).parts<=100:=by show 1+1+ex.parts<=100;walk_at "o"
  refine⟨yi,S _ _ i2,_,Za3,Nat.le_of_lt (Zb0 (by show yi.length+1<=1000;walk_at "o")),fun p2 y3=>Zh4 y3 (Za7 S.keepT i3) (.cons (v8.keep O.keepT) .nil) n.ok.w (Zf5 z2 z5) (by show o.ws.length+1 < 64;walk_at "o") fun r f e fr hw=>⟨by decide,fun p3 T=>⟨by decide,fun p4 U=>?_⟩⟩⟩;have s3:=Za1 T (HO.lst [V.int (i:Nat)]);have SS:=(S.trans e).trans s3;have q9:Okw (norm (o.ws++[.nd .thn .low ex])):=Zg5 (Zg7 n.ok.w (Zf5 z2 z5))
  exact q _ _ _ (SS.trans (Za1 U _)) (Zf9 (R:=some .idle) (on:=some (.nd .thn .low ex)) (ls:=[(i:Int)]) U (hw.keep s3) (i4.keep SS.keepT) ⟨v8.keep ((O.trans e).trans s3).keepT,z2,z5⟩ Za3 (S.free fr) ((S.trans e).free T)) ⟨⟨rfl,q9,by have:=Zd9 o.ws [.nd .thn .low ex];rw[List.length_singleton] at this;show (norm (o.ws++[.nd .thn .low ex])).length<=60;walk_at "o",n.ok.g,n.ok.gp,by show 1<=100;decide⟩,Yg9 (Zc9 _) (by
   show (if Tm.nd .thn .low ex∈norm (o.ws++[.nd .thn .low ex]) then some [_] else none)=_
   rw[if_pos (Zd8 (List.mem_singleton.mpr rfl))]) rfl hi j4 rfl (fun t I=>.inr (Zf8 I))⟩
 rintro σ5 H5 ⟨rfl,rfl⟩;refine sqt (fun m f=>∃ fv,m=[some (.ref a),some (.int c),some (.int (i:Nat)),some J,some F,some M,some (.ref Z),some gi,some (.int (c % 4)),none,some fv,none,none,none,none]/\Same H5 f/\IsT K f fv (.nd .thn o1 (.nd .thn D ex))) ?_ ?_
 ·intro C B
  walk_at "1";refine⟨by decide,fun p hp=>⟨by decide,fun p1 q5=>?_⟩⟩;have s0:=Za1 hp (HO.tup [V.str "then",F,M]);have l:=Za1 q5 (HO.tup [V.str "then",J,V.ref p]);have hin:IsT K (upd H5 p (HO.tup [V.str "then",F,M])) (.ref p) (.nd .thn D ex):=isT_nd.mpr ⟨p,F,M,rfl,.inl (.inl Za3),h2.keep s0.keepT,hE.keep s0.keepT⟩;exact B _ _ ⟨_,rfl,s0.trans l,isT_nd.mpr ⟨p1,J,_,rfl,.inl (.inl Za3),h1.keep (s0.trans l).keepT,hin.keep l.keepT⟩⟩
 rintro σ6 H6 ⟨fv,rfl,e6,hf6⟩;refine sqt (fun m f=>∃ sa j8,m=[some (.ref a),some (.int c),some (.int (i:Nat)),some J,some F,some M,some (.ref Z),some gi,some (.int (c % 4)),none,some fv,some (.ref sa),none,none,none]/\Same H5 f/\IsT K f fv (.nd .thn o1 (.nd .thn D ex))/\f sa=some (.lst j8)/\Paired (IsT K f) j8 (o.ws.filter fun t=>decide (Zj9 t="then"))) ?_ ?_
 ·intro C B
  walk_at "1";refine⟨⟨_,SqL.of (e6 _ _ i2)⟩,fun q6 Y=>?_⟩;refine Zf7 (fun t=>decide (Zj9 t="then")) (e6 _ _ i2) (Za7 e6.keepT i3) (by walk_at "o") Y (fun v'=>Ze9 (i:=0) rfl) (fun v' t f W N j0 e hT h j6 hy hn=>?_) (fun f W e h hP=>?_)
  ·walk_at "1"
   obtain⟨p,xs,rfl,hs⟩:=Zm4 hT;refine⟨p,rfl,_,hs,_,at0 _ _,Zc7 _ _,?_⟩
   by_cases hc:Zj9 t="then"
   ·rw[if_pos (by rw[hc])]
    exact⟨W,h,Zb0 (by walk_at "o"),hy (decide_eq_true hc) _ (Same.refl _) h⟩
   ·rw[if_neg (fun z=>hc (V.str.inj z))]
    exact hn (decide_eq_false hc) _ (Same.refl _)
  ·exact B _ _ ⟨q6,W,rfl,e6.trans e,hf6.keep e.keepT,h,hP⟩
 rintro σ7 H7 ⟨sa,j8,rfl,e7,hf7,y1,z3⟩;have lsus:j8.length=(o.ws.filter fun t=>decide (Zj9 t="then")).length:=Paired.length z3;have lflt:(o.ws.filter fun t=>decide (Zj9 t="then")).length<=o.ws.length:=List.length_filter_le _ _;refine sqt (fun m f=>m=[some (.ref a),some (.int c),some (.int (i:Nat)),some J,some F,some M,some (.ref Z),some gi,some (.int (c % 4)),none,some fv,some (.ref sa),none,none,none]/\f=H7) ?_ ?_
 ·intro C B
  walk_at "3";refine ite2 (fun _=>?_) (fun _=>B _ _ ⟨rfl,rfl⟩);refine sqt (fun m f=>∃ la q1,m=[some (.ref a),some (.int c),some (.int (i:Nat)),some J,some F,some M,some (.ref Z),some gi,some (.int (c % 4)),none,some fv,some (.ref sa),some (.ref la),none,none]/\Same H5 f/\IsT K f fv (.nd .thn o1 (.nd .thn D ex))/\f la=some (.lst q1)/\Paired (IsT K f) q1 ((o.ws.filter fun t=>decide (Zj9 t="then")).filter Yt2)) ?_ ?_
  ·intro C B
   walk_at "1";refine⟨⟨_,SqL.of y1⟩,fun q6 Y=>?_⟩;refine Zf7 Yt2 y1 z3 (by walk_at "o") Y (fun v'=>Ze9 (i:=0) rfl) (fun v' t f W N j0 e hT h j6 hy hn=>?_) (fun f W e h hP=>?_)
   ·obtain⟨b,d,rfl⟩:=Zm5 (of_decide_eq_true (List.mem_filter.mp j0).2)
    obtain⟨p,x,y,rfl,hs,hx,z9⟩:=isT_nd.mp hT;obtain⟨p2,xs,rfl,z4⟩:=Zm4 z9;walk_at "1";refine⟨_,hs,_,rfl,p2,rfl,_,z4,_,at0 _ _,Zc7 _ _,?_⟩
    by_cases hc:Zj9 d="then"
    ·rw[if_pos (by rw[hc])]
     exact⟨W,h,Zb0 (by walk_at "o"),hy (decide_eq_true hc) _ (Same.refl _) h⟩
    ·rw[if_neg (fun z=>hc (V.str.inj z))]
     exact hn (decide_eq_false hc) _ (Same.refl _)
   ·exact B _ _ ⟨q6,W,rfl,e7.trans e,hf7.keep e.keepT,h,hP⟩
  rintro σ8 H8 ⟨la,q1,rfl,e8,hf8,hla,y4⟩;refine sqt (fun m f=>∃ fv b d g,m=[some (.ref a),some (.int c),some (.int (i:Nat)),some J,some F,some M,some (.ref Z),some gi,some (.int (c % 4)),none,some fv,some (.ref sa),some (.ref la),none,none]/\Same H5 f/\IsT K f fv (.nd .thn b (.nd .thn d g))/\(Tm.nd .thn b (.nd .thn d g)).ok/\(Tm.nd .thn b (.nd .thn d g)).parts<=85) ?_ ?_
  ·intro C B
   walk_at "1";refine⟨by decide,fun p hp=>?_⟩;have sp:=Za1 hp (HO.lst []);have j5:=Za7 sp.keepT y4;have j7:=sp _ _ hla;have q5:upd H8 p (HO.lst []) p=some (.lst []):=Za3;have oke:∀ t∈(o.ws.filter fun t=>decide (Zj9 t="then")).filter Yt2,t.ok:=fun t h=>(n.ok.w t (List.mem_filter.mp (List.mem_filter.mp h).1).1).1;have S:=e8.trans sp;generalize upd H8 p (HO.lst [])=H9 at sp j5 j7 q5 S ⊢;refine⟨.list (((o.ws.filter fun t=>decide (Zj9 t="then")).filter Yt2).map Tm.data),?_,.list [],?_,Zm7 oke,rfl,Nat.le_trans (Nat.min_le_right _ _) (by decide),?_⟩
   ·rw[Dn];exact⟨la,q1,rfl,SqL.of j7,Zq7 j5⟩
   ·rw[Dn];exact⟨p,[],rfl,SqL.of q5,by rw[DnAll]⟩
   rw[if_pos trivial];have z8:q1.length=((o.ws.filter fun t=>decide (Zj9 t="then")).filter Yt2).length:=Paired.length y4
   cases hcs:(o.ws.filter fun t=>decide (Zj9 t="then")).filter Yt2 with
   | nil =>
    rw[if_neg (by decide)];exact B _ _ ⟨fv,o1,D,ex,rfl,S,hf8.keep sp.keepT,⟨k1.1,k2.1,y8⟩,by have:=k1.2;have:=k2.2;show 1+o1.parts+(1+D.parts+ex.parts)<=85;walk_at "o"⟩
   | cons t0 ts =>
    rw[if_pos (by rfl)];rw[hcs] at z8
    have hpos:0 < q1.length:=by rw[z8];exact Nat.succ_pos _
    obtain⟨v,hv,hat⟩:=Zo5 (xs:=q1) (i:=c / 4 % ((q1.length:Nat):Int)) (Int.emod_nonneg _ (by walk_at "o")) (Int.emod_lt_of_pos _ (by walk_at "o"));obtain⟨j,hj,ej⟩:=List.getElem_of_mem hv;obtain⟨t,I,v6⟩:=paired_get j5 (List.getElem?_eq_getElem hj);rw[ej] at v6;obtain⟨hm1,hm2⟩:=List.mem_filter.mp (List.mem_of_getElem? I);obtain⟨v9,hm4⟩:=List.mem_filter.mp hm1;obtain⟨b,d,rfl⟩:=Zm5 (of_decide_eq_true hm4);obtain⟨d,g,rfl⟩:=Zm5 (of_decide_eq_true (show decide (Zj9 d="then")=true from hm2));refine⟨⟨by decide,by decide⟩,q1,.inl (SqL.of j7),by walk_at "o",q1,SqL.of j7,v,hat,B _ _ ⟨v,b,d,g,rfl,S,v6,(n.ok.w _ v9).1,by have:=n.w40 _ v9;walk_at "o"⟩⟩
  rintro σ9 H9 ⟨fv,b,d,g,rfl,e9,hf,q3,y7⟩;obtain⟨p,x,y,rfl,hs,hx,hy⟩:=isT_nd.mp hf;obtain⟨p2,x2,y2,rfl,z4,hx2,z9⟩:=isT_nd.mp hy;have fp2:1+b.parts+(1+d.parts+g.parts)<=85:=y7;refine sqt (fun m f=>∃ X,m=[some (.ref a),some (.int c),some (.int (i:Nat)),some J,some F,some M,some (.ref Z),some gi,some (.int (c % 4)),some X,some (.ref p),some (.ref sa),some (.ref la),none,none]/\Same H9 f/\IsT K f X (.nd .thn (.nd .both b d) g)) ?_ ?_
  ·intro C B
   walk_at "1";refine⟨_,hs,_,rfl,_,hs,_,rfl,p2,rfl,_,z4,_,rfl,by decide,fun p3 T=>?_⟩;have l:=Za1 T (HO.tup [V.str "both",x,x2]);have hb:IsT K (upd H9 p3 (HO.tup [V.str "both",x,x2])) (.ref p3) (.nd .both b d):=isT_nd.mpr ⟨p3,x,x2,rfl,.inl (.inl Za3),hx.keep l.keepT,hx2.keep l.keepT⟩;refine⟨_,l.sqt hs,_,rfl,p2,rfl,_,l.sqt z4,_,rfl,by decide,fun p4 U=>?_⟩;have O:=Za1 U (HO.tup [V.str "then",V.ref p3,y2]);exact B _ _ ⟨_,rfl,l.trans O,isT_nd.mpr ⟨p4,_,y2,rfl,.inl (.inl Za3),hb.keep O.keepT,z9.keep (l.trans O).keepT⟩⟩
  rintro σ10 H10 ⟨X,rfl,q4,q0⟩;have z1:=e9.trans q4;have q2:(Tm.nd .thn (.nd .both b d) g).ok:=⟨⟨q3.1,q3.2.1⟩,q3.2.2⟩
  have q7:(Tm.nd .thn (.nd .both b d) g).parts<=100:=by show 1+(1+b.parts+d.parts)+g.parts<=100;walk_at "o"
  walk_at "1";refine⟨by decide,fun p3 T=>?_⟩;have l:=Za1 T (HO.lst [X]);refine⟨Z,p3,.ref p,.nd .thn b (.nd .thn d g),o.ws,[X],[.nd .thn (.nd .both b d) g],rfl,⟨⟨yi,(z1.trans l) _ _ i2,Za7 (z1.trans l).keepT i3⟩,srt⟩,hf.keep (q4.trans l).keepT,q3,by walk_at "o",Za3,.cons (q0.keep l.keepT) .nil,n.ok.w,Zf5 q2 q7,by show o.ws.length+1 < 64;walk_at "o",fun r H11 j1 fr hw=>⟨by decide,fun p4 U=>⟨by decide,fun p5 z0=>?_⟩⟩⟩;have O:=Za1 U (HO.lst [V.int (i:Nat)]);have SS:=((z1.trans l).trans j1).trans O;have q8:Okw (rem o.ws (.nd .thn b (.nd .thn d g))):=fun t I=>n.ok.w t (mem_rem.mp I).1;have lr:(rem o.ws (.nd .thn b (.nd .thn d g))).length<=o.ws.length:=List.length_filter_le _ _;have q9:=Zg5 (Zg7 q8 (Zf5 q2 q7))
  exact q _ _ _ (SS.trans (Za1 z0 _)) (Zf9 (R:=some .curried) (on:=some (.nd .thn (.nd .both b d) g)) (ls:=[(i:Int)]) z0 (hw.keep O) (i4.keep SS.keepT) ⟨q0.keep ((l.trans j1).trans O).keepT,q2,q7⟩ Za3 ((z1.trans l).free fr) (((z1.trans l).trans j1).free U)) ⟨⟨rfl,q9,by have:=Zd9 (rem o.ws (.nd .thn b (.nd .thn d g))) [.nd .thn (.nd .both b d) g];rw[List.length_singleton] at this;show (norm (rem o.ws (.nd .thn b (.nd .thn d g))++[.nd .thn (.nd .both b d) g])).length<=60;walk_at "o",n.ok.g,n.ok.gp,by show 1<=100;decide⟩,Yg9 (Zc9 _) (by
   show (if Tm.nd .thn (.nd .both b d) g∈norm (rem o.ws (.nd .thn b (.nd .thn d g))++[.nd .thn (.nd .both b d) g]) then some [_] else none)=_
   rw[if_pos (Zd8 (List.mem_singleton.mpr rfl))]) rfl hi j4 rfl (fun t I=>by
   by_cases htd:t=.nd .thn b (.nd .thn d g)
   ·exact .inl (Zd8 (List.mem_singleton.mpr htd))
   ·exact .inr (Zf8 (mem_rem.mpr ⟨I,htd⟩)))⟩
 rintro σ8 H8 ⟨rfl,rfl⟩;clear hf7;refine sqt (fun m f=>∃ fv b d,m=[some (.ref a),some (.int c),some (.int (i:Nat)),some J,some F,some M,some (.ref Z),some gi,some (.int (c % 4)),none,some fv,some (.ref sa),none,none,none]/\Same H5 f/\IsT K f fv (.nd .thn b d)/\(Tm.nd .thn b d).ok/\(Tm.nd .thn b d).parts<=44) ?_ ?_
 ·intro C B
  walk_at "1";refine⟨⟨by decide,by decide⟩,by decide,fun p hp=>?_⟩;have l:=Za1 hp (HO.tup [V.str "then",J,M]);have S:=e7.trans l;have hd:IsT K (upd H8 p (HO.tup [V.str "then",J,M])) (.ref p) (.nd .thn o1 ex):=isT_nd.mpr ⟨p,J,M,rfl,.inl (.inl Za3),h1.keep S.keepT,hE.keep S.keepT⟩;refine⟨sa,_,.ref p,j8,_,.nd .thn o1 ex,rfl,l _ _ y1,Za7 l.keepT z3,fun t I=>n.ok.w t (List.mem_filter.mp I).1,hd,fun r t H'' e2 hr I=>?_⟩;rcases I with rfl | I
  ·exact B _ _ ⟨r,o1,ex,rfl,S.trans e2,hr,⟨k1.1,y8⟩,by have:=k1.2;show 1+o1.parts+ex.parts<=44;walk_at "o"⟩
  ·obtain⟨hm,hh⟩:=List.mem_filter.mp I
   obtain⟨b,d,rfl⟩:=Zm5 (of_decide_eq_true hh);exact B _ _ ⟨r,b,d,rfl,S.trans e2,hr,(n.ok.w _ hm).1,by have:=n.w40 _ hm;walk_at "o"⟩
 rintro σ9 H9 ⟨fv,b,d,rfl,e9,hf,q3,y7⟩;obtain⟨p,x,y,rfl,hs,hx,hy⟩:=isT_nd.mp hf;have fp2:1+b.parts+d.parts<=44:=y7;have kp2:=k2.2;refine sqt (fun m f=>∃ sv,m=[some (.ref a),some (.int c),some (.int (i:Nat)),some J,some F,some M,some (.ref Z),some gi,some (.int (c % 4)),none,some (.ref p),some (.ref sa),none,some sv,none]/\Same H9 f/\IsT K f sv (.nd .thn D d)) ?_ ?_
 ·intro C B
  walk_at "1";refine⟨_,hs,_,rfl,by decide,fun p3 T=>?_⟩;have l:=Za1 T (HO.tup [V.str "then",F,y]);exact B _ _ ⟨_,rfl,l,isT_nd.mpr ⟨p3,F,y,rfl,.inl (.inl Za3),h2.keep (e9.trans l).keepT,hy.keep l.keepT⟩⟩
 rintro σ10 H10 ⟨sv,rfl,q4,hsv⟩;refine sqt (fun m f=>∃ X,m=[some (.ref a),some (.int c),some (.int (i:Nat)),some J,some F,some M,some (.ref Z),some gi,some (.int (c % 4)),some X,some (.ref p),some (.ref sa),none,some sv,none]/\Same H9 f/\IsT K f sv (.nd .thn D d)/\IsT K f X (.nd .thn (.nd .one b D) d)) ?_ ?_
 ·intro C B
  walk_at "1";refine⟨_,q4.sqt hs,_,rfl,by decide,fun p3 T=>?_⟩;have l:=Za1 T (HO.tup [V.str "one",x,F]);have hb:IsT K (upd H10 p3 (HO.tup [V.str "one",x,F])) (.ref p3) (.nd .one b D):=isT_nd.mpr ⟨p3,x,F,rfl,.inl (.inl Za3),hx.keep (q4.trans l).keepT,h2.keep ((e9.trans q4).trans l).keepT⟩;refine⟨_,(q4.trans l).sqt hs,_,rfl,by decide,fun p4 U=>?_⟩;have O:=Za1 U (HO.tup [V.str "then",V.ref p3,y]);exact B _ _ ⟨_,rfl,(q4.trans l).trans O,hsv.keep (l.trans O).keepT,isT_nd.mpr ⟨p4,_,y,rfl,.inl (.inl Za3),hb.keep O.keepT,hy.keep ((q4.trans l).trans O).keepT⟩⟩
 rintro σ11 H11 ⟨X,rfl,j1,hsv1,q0⟩;have v4:(Tm.nd .thn D d).ok:=⟨k2.1,q3.2⟩;have q2:(Tm.nd .thn (.nd .one b D) d).ok:=⟨⟨q3.1,k2.1⟩,q3.2⟩
 have q7:(Tm.nd .thn (.nd .one b D) d).parts<=100:=by show 1+(1+b.parts+D.parts)+d.parts<=100;walk_at "o"
 refine sqt (fun m f=>∃ ka j9,m=[some (.ref a),some (.int c),some (.int (i:Nat)),some J,some F,some M,some (.ref Z),some gi,some (.int (c % 4)),some X,some (.ref p),some (.ref sa),none,some sv,some (.ref ka)]/\Same H11 f/\f ka=some (.lst j9)/\Paired (IsT K f) j9 (o.ws.filter fun t=>decide (t≠.nd .thn b d)&&decide (t≠.nd .thn D d))) ?_ ?_
 ·intro C B
  walk_at "1";have S:=e9.trans j1;refine⟨⟨_,SqL.of (S _ _ i2)⟩,fun q6 Y=>?_⟩;refine Zf7 (fun t=>decide (t≠.nd .thn b d)&&decide (t≠.nd .thn D d)) (S _ _ i2) (Za7 S.keepT i3) (by walk_at "o") Y (fun v'=>Ze9 (i:=0) rfl) (fun v' t f W N j0 e hT h j6 y0 hn=>?_) (fun f W e h hP=>?_)
  ·walk_at "1"
   have j3:=n.ok.w t j0;have dep:∀ u:Tm,min t.data.depth u.data.depth<=150:=fun u=>Nat.le_trans (Nat.min_le_left _ _) (by rw[Tm.depth];have:=j3.2;have:=Zc5 t;walk_at "o");refine⟨t.data,hT,(Tm.nd .thn b d).data,hf.keep (j1.trans e).keepT,t.lay j3.1,Tm.lay _ q3,dep _,?_⟩;rw[Tm.eqv]
   by_cases hto:t=.nd .thn b d
   ·rw[if_neg (by rw[if_pos trivial,decide_eq_true hto];exact Bool.false_ne_true),if_neg Bool.false_ne_true]
    exact hn (by rw[decide_eq_false (fun z=>z hto)];rfl) _ (Same.refl _)
   ·rw[if_pos (by rw[if_pos trivial,decide_eq_false hto];rfl)]
    refine⟨t.data,hT,(Tm.nd .thn D d).data,hsv1.keep e.keepT,t.lay j3.1,Tm.lay _ v4,dep _,?_⟩;rw[Tm.eqv]
    by_cases hto2:t=.nd .thn D d
    ·rw[if_neg (by rw[if_pos trivial,decide_eq_true hto2];exact Bool.false_ne_true)]
     exact hn (by rw[decide_eq_true hto,Bool.true_and];exact decide_eq_false (fun z=>z hto2)) _ (Same.refl _)
    ·rw[if_pos (by rw[if_pos trivial,decide_eq_false hto2];rfl)]
     exact⟨W,h,Zb0 (by walk_at "o"),y0 (by rw[decide_eq_true hto,decide_eq_true hto2];rfl) _ (Same.refl _) h⟩
  ·exact B _ _ ⟨q6,W,rfl,e,h,hP⟩
 rintro σ12 H12 ⟨ka,j9,rfl,v0,hka,y5⟩;have v3:=(e9.trans j1).trans v0;have q8:Okw (o.ws.filter fun t=>decide (t≠.nd .thn b d)&&decide (t≠.nd .thn D d)):=fun t I=>n.ok.w t (List.mem_filter.mp I).1;have lr:(o.ws.filter fun t=>decide (t≠.nd .thn b d)&&decide (t≠.nd .thn D d)).length<=o.ws.length:=List.length_filter_le _ _;have lkus:=Paired.length y5;walk_at "1";refine⟨by decide,fun p3 T=>?_⟩;have l:=Za1 T (HO.lst [X]);refine⟨j9,l _ _ hka,_,Za3,Nat.le_of_lt (Zb0 (by show j9.length+1<=1000;walk_at "o")),fun p4 U=>Zh4 U (Za7 l.keepT y5) (.cons (q0.keep (v0.trans l).keepT) .nil) q8 (Zf5 q2 q7) (by rw[List.length_singleton];walk_at "o") fun r H13 y9 fr hw=>⟨by decide,fun p5 z0=>⟨by decide,fun p6 v7=>?_⟩⟩⟩;have O:=Za1 z0 (HO.lst [V.int (i:Nat)]);have SS:=((v3.trans l).trans y9).trans O;have q9:=Zg5 (Zg7 q8 (Zf5 q2 q7))
 exact q _ _ _ (SS.trans (Za1 v7 _)) (Zf9 (R:=some .either) (on:=some (.nd .thn (.nd .one b D) d)) (ls:=[(i:Int)]) v7 (hw.keep O) (i4.keep SS.keepT) ⟨q0.keep (((v0.trans l).trans y9).trans O).keepT,q2,q7⟩ Za3 ((v3.trans l).free fr) (((v3.trans l).trans y9).free z0)) ⟨⟨rfl,q9,by have:=Zd9 (o.ws.filter fun t=>decide (t≠.nd .thn b d)&&decide (t≠.nd .thn D d)) [.nd .thn (.nd .one b D) d];rw[List.length_singleton] at this;exact Nat.le_trans this (by walk_at "o"),n.ok.g,n.ok.gp,by show 1<=100;decide⟩,Yg9 (Zc9 _) (by
  show (if Tm.nd .thn (.nd .one b D) d∈norm (_++[.nd .thn (.nd .one b D) d]) then some [_] else none)=_
  rw[if_pos (Zd8 (List.mem_singleton.mpr rfl))]) rfl hi j4 rfl (fun t I=>by
  by_cases ht1:t=.nd .thn b d
  ·exact .inl (Zd8 (by rw[ht1];simp))
  ·by_cases ht2:t=.nd .thn D d
   ·exact .inl (Zd8 (by rw[ht2];simp))
   ·exact .inr (Zf8 (List.mem_filter.mpr ⟨I,by rw[decide_eq_true ht1,decide_eq_true ht2];rfl⟩)))⟩
theorem sc_af0:FnScope ["_law_lines","_law_cell_here","_law_here","_law_there","_law_one","_law_extra","_law_wishes","_law_goal","_law_form","_law_other","_law_on","_law_kept","_law_more","_law_first","_law_told","_law_less"] ["_law_lines","_law_cell_here","_law_here","_law_there","_law_one","_law_extra"] (Za8 (top 66)):=scm (by decide +kernel)
theorem Wa6 {k:Nat} (F_af0:Df K mg "_law_by_two" (top 66) ["_law_lines","_law_cell_here","_law_here","_law_there","_law_one","_law_extra"]) (C__law_pick:Cl P w K mg base k "_law_pick" ["_law_some","_law_cell_here","_law_other"] (Zw0 K)) (C__law_found:Cl P w K mg base k "_law_found" ["_law_lines","_law_start","_law_goal","_law_form"] (Yn8 K)) (C__law_once:Cl P w K mg base k "_law_once" ["_law_some"] (Zi5 K)):Cl P w K mg base (k+1) "_law_by_two" ["_law_lines","_law_cell_here","_law_here","_law_there","_law_one","_law_extra"] (Yo0 K):=by
 refine F_af0.ok sc_af0 (fun vs H Q E h=>?_) (fun _ _ A _ s H vs Q E W h=>?_)
 ·obtain⟨a,us,L,c,i,j,O,U,o1,ex,rfl,_⟩:=h
  rfl
 obtain⟨a,us,L,c,i,j,O,U,o1,ex,rfl,ha,hL,G,hi,hj,h1,hE,k1,exk,q⟩:=h
 refine⟨_,(Za4 (pst 6 sc_af0.nd (pxt (pxl (pv 0) (pv 2)) Za5))
 (Za4 (pst 7 sc_af0.nd (pxt (pxl (pv 0) (pv 2)) Za5))
 (Za4 (pst 8 sc_af0.nd (Zb4 Zc6 (pv 1) Za5))
 (Za4 (Zc4 (ptc (Zd6) (pv 8) Za5)
  (Za4 (Zg1 (i:=9) sc_af0.nd rfl (Or.inr rfl) (Zb7 C__law_pick W (Za0 (pv 6) (Za0 (Zb4 Zd0 (pv 1) Za5) (Za0 (pv 5) Za2)))))
 (Za4 (Zg1 (i:=10) sc_af0.nd rfl (Or.inr rfl) (Zb7 C__law_pick W (Za0 (Zt1 (blk0 (N':=["_law_wish_here"]) (by decide +kernel) (by decide +kernel) rfl (by decide +kernel)) rfl (Ze7 (pv 6)) (fun _ _ _ _=>(Zb6 (i:=0) (show (["_law_wish_here"]:List Str).Nodup from by decide +kernel) rfl (Or.inl rfl))) (fun _ _=>Zh0 (tg2:=(.Name "" ⟨0,0,0,0⟩)) (iter2:=(.Name "" ⟨0,0,0,0⟩))) (fun _ _ _ _ _=>(Zh2 (ptc (Zd6) (Zq4 (Zl2 (K:=K) rfl) (pv 0) Za5 (fun _ _=>rfl)) Za9) (Zf2 (pv 0))))) (Za0 (Zb4 Zd0 (pv 1) Za5) (Za0 (Zb3 (Za0 Za9 (Za0 (pv 4) (Za0 (pv 9) Za2)))) Za2)))))
 (Za4 (Zl9 (i:=11) sc_af0.nd rfl (Or.inl rfl) (blkC (N':=["_law_wish_here","_law_on"]) (nt:=1) (ci:=[10]) ["_law_lines","_law_cell_here","_law_here","_law_there","_law_one","_law_extra","_law_wishes","_law_goal","_law_form","_law_other","_law_on","_law_kept","_law_more","_law_first","_law_told","_law_less"] (Za8 (top 66)) rfl rfl (by decide +kernel) rfl (by decide +kernel) (by decide +kernel) rfl (by decide +kernel)) rfl (Ze7 (pv 6)) (fun _ _ _ _=>(Zb6 (i:=0) (show (["_law_wish_here","_law_on"]:List Str).Nodup from by decide +kernel) rfl (Or.inl rfl))) (fun _ _=>Zh0 (tg2:=(.Name "" ⟨0,0,0,0⟩)) (iter2:=(.Name "" ⟨0,0,0,0⟩))) (fun _ _ _ _ _=>(Zh2 ((Zg0 (ptc (Zj3 (K:=K) rfl (Ze1 W)) (pv 0) (Zq4 (Zl2 (K:=K) rfl) (pv 1) Za5 (fun _ _=>rfl))) (Ze6 (ptc (Zj3 (K:=K) rfl (Ze1 W)) (pv 0) (Zq4 (Zl2 (K:=K) rfl) (pv 1) Za5 (fun _ _=>rfl)))))).pt (Zf2 (pv 0)))) rfl)
 (Za6 (Zb1 (Zb3 (Za0 Za9 (Za0 (Zb7 C__law_once W (Za0 (Zb4 Ze4 (pv 11) (Zb5 (Za0 (pv 10) Za2))) Za2)) (Za0 (pv 7) (Za0 (pv 10) (Za0 (Zb5 (Za0 (pv 2) Za2)) Za2)))))))))))
  Zb2)
 (Za4 (Zc4 (ptc (Zd6) (pv 8) Za5)
  (Za4 (pst 3 sc_af0.nd (Zb7 C__law_found W (Za0 (pv 0) (Za0 (pv 3) (Za0 (pv 7) (Za0 Za9 Za2))))))
 (Za4 (pst 12 sc_af0.nd (pxt (pxl (pv 0) (pv 3)) Za5))
 (Za4 (Zg1 (i:=9) sc_af0.nd rfl (Or.inr rfl) (Zb7 C__law_pick W (Za0 (pv 12) (Za0 (Zb4 Zd0 (pv 1) Za5) (Za0 (pv 5) Za2)))))
 (Za4 (Zg1 (i:=10) sc_af0.nd rfl (Or.inr rfl) (Zb3 (Za0 Za9 (Za0 (pv 4) (Za0 (pv 9) Za2)))))
 (Za4 (pst 11 sc_af0.nd (Zb4 Ze4 (Zt1 (blkC (N':=["_law_wish_here","_law_one"]) (nt:=1) (ci:=[4]) ["_law_lines","_law_cell_here","_law_here","_law_there","_law_one","_law_extra","_law_wishes","_law_goal","_law_form","_law_other","_law_on","_law_kept","_law_more","_law_first","_law_told","_law_less"] (Za8 (top 66)) rfl rfl (by decide +kernel) rfl (by decide +kernel) (by decide +kernel) rfl (by decide +kernel)) rfl (Ze7 (pv 6)) (fun _ _ _ _=>(Zb6 (i:=0) (show (["_law_wish_here","_law_one"]:List Str).Nodup from by decide +kernel) rfl (Or.inl rfl))) (fun _ _=>Zh0 (tg2:=(.Name "" ⟨0,0,0,0⟩)) (iter2:=(.Name "" ⟨0,0,0,0⟩))) (fun _ _ _ _ _=>(Zh2 (ptc (Zj3 (K:=K) rfl (Ze1 W)) (pv 0) (pv 1)) (Zf2 (pv 0))))) (Zt1 (blkC (N':=["_law_wish_here","_law_other"]) (nt:=1) (ci:=[9]) ["_law_lines","_law_cell_here","_law_here","_law_there","_law_one","_law_extra","_law_wishes","_law_goal","_law_form","_law_other","_law_on","_law_kept","_law_more","_law_first","_law_told","_law_less"] (Za8 (top 66)) rfl rfl (by decide +kernel) rfl (by decide +kernel) (by decide +kernel) rfl (by decide +kernel)) rfl (Ze7 (pv 12)) (fun _ _ _ _=>(Zb6 (i:=0) (show (["_law_wish_here","_law_other"]:List Str).Nodup from by decide +kernel) rfl (Or.inl rfl))) (fun _ _=>Zh0 (tg2:=(.Name "" ⟨0,0,0,0⟩)) (iter2:=(.Name "" ⟨0,0,0,0⟩))) (fun _ _ _ _ _=>(Zh2 (ptc (Zj3 (K:=K) rfl (Ze1 W)) (pv 0) (pv 1)) (Zf2 (pv 0)))))))
 (Za6 (Zb1 (Zb3 (Za0 Za9 (Za0 (Zb7 C__law_once W (Za0 (Zb4 Ze4 (pv 11) (Zb5 (Za0 (pv 10) Za2))) Za2)) (Za0 (pv 7) (Za0 (pv 10) (Za0 (Zb5 (Za0 (pv 2) (Za0 (pv 3) Za2))) Za2)))))))))))))
  Zb2)
 (Za4 (pst 12 sc_af0.nd (pxt (pxl (pv 0) (pv 3)) Za5))
 (Za4 (Zg1 (i:=9) sc_af0.nd rfl (Or.inr rfl) (Zb7 C__law_pick W (Za0 (pv 12) (Za0 (Zb4 Zd0 (pv 1) Za5) (Za0 (pv 5) Za2)))))
 (Za4 (Zl9 (i:=11) sc_af0.nd rfl (Or.inl rfl) (blkC (N':=["_law_wish_here","_law_other"]) (nt:=1) (ci:=[9]) ["_law_lines","_law_cell_here","_law_here","_law_there","_law_one","_law_extra","_law_wishes","_law_goal","_law_form","_law_other","_law_on","_law_kept","_law_more","_law_first","_law_told","_law_less"] (Za8 (top 66)) rfl rfl (by decide +kernel) rfl (by decide +kernel) (by decide +kernel) rfl (by decide +kernel)) rfl (Ze7 (pv 12)) (fun _ _ _ _=>(Zb6 (i:=0) (show (["_law_wish_here","_law_other"]:List Str).Nodup from by decide +kernel) rfl (Or.inl rfl))) (fun _ _=>Zh0 (tg2:=(.Name "" ⟨0,0,0,0⟩)) (iter2:=(.Name "" ⟨0,0,0,0⟩))) (fun _ _ _ _ _=>(Zh2 (ptc (Zj3 (K:=K) rfl (Ze1 W)) (pv 0) (pv 1)) (Zf2 (pv 0)))) rfl)
 (Za4 (pst 13 sc_af0.nd (Zb7 C__law_found W (Za0 (pv 0) (Za0 (pv 2) (Za0 Zd4 (Za0 Za9 Za2))))))
 (Za4 (Zc4 ((Zg0 (ptc (Zd6) (pv 8) Za5) (Ze6 (ptc (Yy6) (pv 13) Zd4)))).pt
  (Za4 (Zg1 (i:=14) sc_af0.nd rfl (Or.inr rfl) (pxt (pxl (pv 0) (pv 13)) Za5))
 (Za4 (Zg1 (i:=10) sc_af0.nd rfl (Or.inr rfl) (Zb3 (Za0 Za9 (Za0 (pv 14) (Za0 (pv 9) Za2)))))
 (Za4 (Zl9 (i:=15) sc_af0.nd rfl (Or.inl rfl) (blkC (N':=["_law_wish_here","_law_other","_law_told"]) (nt:=1) (ci:=[9,14]) ["_law_lines","_law_cell_here","_law_here","_law_there","_law_one","_law_extra","_law_wishes","_law_goal","_law_form","_law_other","_law_on","_law_kept","_law_more","_law_first","_law_told","_law_less"] (Za8 (top 66)) rfl rfl (by decide +kernel) rfl (by decide +kernel) (by decide +kernel) rfl (by decide +kernel)) rfl (Ze7 (pxt (pxl (pv 0) (pv 13)) Za5)) (fun _ _ _ _=>(Zb6 (i:=0) (show (["_law_wish_here","_law_other","_law_told"]:List Str).Nodup from by decide +kernel) rfl (Or.inl rfl))) (fun _ _=>Zh0 (tg2:=(.Name "" ⟨0,0,0,0⟩)) (iter2:=(.Name "" ⟨0,0,0,0⟩))) (fun _ _ _ _ _=>(Zh2 (ptc (Zj3 (K:=K) rfl (Ze1 W)) (pv 0) (Zb3 (Za0 Za9 (Za0 (Zq4 (Zl2 (K:=K) rfl) (pv 2) Za5 (fun _ _=>rfl)) (Za0 (pv 1) Za2))))) (Zf2 (pv 0)))) rfl)
 (Za6 (Zb1 (Zb3 (Za0 Za9 (Za0 (Zb7 C__law_once W (Za0 (Zb4 Ze4 (Zb4 Ze4 (pv 15) (pv 11)) (Zb5 (Za0 (pv 10) Za2))) Za2)) (Za0 (pxt (pxl (pv 0) (pv 3)) Za5) (Za0 (pv 10) (Za0 (Zb5 (Za0 (pv 13) (Za0 (pv 3) Za2))) Za2)))))))))))
  Zb2)
 (Za4 (Zg1 (i:=10) sc_af0.nd rfl (Or.inr rfl) (Zb3 (Za0 Za9 (Za0 (pv 7) (Za0 (pv 9) Za2)))))
 (Za6 (Zb1 (Zb3 (Za0 Za9 (Za0 (Zb7 C__law_once W (Za0 (Zb4 Ze4 (Zb4 Ze4 (pv 6) (pv 11)) (Zb5 (Za0 (pv 10) Za2))) Za2)) (Za0 (pxt (pxl (pv 0) (pv 3)) Za5) (Za0 (pv 10) (Za0 (Zb5 (Za0 (pv 2) (Za0 (pv 3) Za2))) Za2))))))))))))))))))),?_⟩
 have lu:us.length=L.length:=Paired.length hL
 have hiu:i < us.length:=by walk_at "o"
 have y5:j < us.length:=by walk_at "o"
 obtain⟨T,y1,hvi⟩:=paired_get hL (List.getElem?_eq_getElem hiu);obtain⟨lj,v7,hvj⟩:=paired_get hL (List.getElem?_eq_getElem y5);have M:=G.ok T (List.mem_of_getElem? y1);have j7:=G.ok lj (List.mem_of_getElem? v7);obtain⟨pi,Y,ai,X,oi,yi,evi,i1,i2,i3,i4,i5,i6⟩:=hvi;obtain⟨pj,wj,aj,gj,oj,yj,evj,j1,j2,j3,j4,j5,j6⟩:=hvj;have w9:=M.w9;have w9j:=j7.w9;have gp1:=M.g40;have kp1:=k1.2;have y8:∀ l∈L,OkLn l:=fun l hl=>(G.ok l hl).ok;have ln:=G.len;have y7:∀ (l:List Tm) (o:Tm),(rem l o).length<=l.length:=fun l o=>List.length_filter_le _ _;refine sqt (fun v f=>v=[some (.ref a),some (.int c),some (.int (i:Nat)),some (.int (j:Nat)),some O,some U,some (.ref Y),none,none,none,none,none,none,none,none,none]/\f=H) ?_ ?_
 ·intro C D
  walk_at "1";exact⟨us,SqL.of ha,_,Zd5 (List.getElem?_eq_getElem hiu),pi,evi,_,i1,_,rfl,D _ _ ⟨rfl,rfl⟩⟩
 rintro σ1 H1 ⟨rfl,rfl⟩;refine sqt (fun v f=>v=[some (.ref a),some (.int c),some (.int (i:Nat)),some (.int (j:Nat)),some O,some U,some (.ref Y),some X,none,none,none,none,none,none,none,none]/\f=H1) ?_ ?_
 ·intro C D
  walk_at "1";exact⟨us,SqL.of ha,_,Zd5 (List.getElem?_eq_getElem hiu),pi,evi,_,i1,_,rfl,D _ _ ⟨rfl,rfl⟩⟩
 rintro σ2 H2 ⟨rfl,rfl⟩;refine sqt (fun v f=>v=[some (.ref a),some (.int c),some (.int (i:Nat)),some (.int (j:Nat)),some O,some U,some (.ref Y),some X,some (.int (c % 4)),none,none,none,none,none,none,none]/\f=H2) ?_ ?_
 ·intro C D
  walk_at "1";exact⟨by decide,D _ _ ⟨rfl,rfl⟩⟩
 rintro σ3 H3 ⟨rfl,rfl⟩;refine sqt (fun v f=>v=[some (.ref a),some (.int c),some (.int (i:Nat)),some (.int (j:Nat)),some O,some U,some (.ref Y),some X,some (.int (c % 4)),none,none,none,none,none,none,none]/\f=H3) ?_ ?_
 ·intro C D
  walk_at "3";refine ite2 (fun _=>?_) (fun _=>D _ _ ⟨rfl,rfl⟩);refine sqt (fun v f=>∃ I m,v=[some (.ref a),some (.int c),some (.int (i:Nat)),some (.int (j:Nat)),some O,some U,some (.ref Y),some X,some (.int (c % 4)),some I,none,none,none,none,none,none]/\Same H3 f/\IsT K f I m/\S40 m) ?_ ?_
  ·intro C D
   walk_at "1";refine⟨⟨by decide,by decide⟩,Y,_,U,yi,T.ws,ex,rfl,i2,i3,M.ok.w,hE,fun r t f e W F=>D _ _ ⟨r,t,rfl,e,W,?_⟩⟩;rcases F with rfl | F
   ·exact exk
   ·exact M.s40 t F
  rintro σ4 H4 ⟨I,m,rfl,e4,hx4,k2⟩;have kp2:=k2.2;refine sqt (fun v f=>∃ ov b d,v=[some (.ref a),some (.int c),some (.int (i:Nat)),some (.int (j:Nat)),some O,some U,some (.ref Y),some X,some (.int (c % 4)),some I,some ov,none,none,none,none,none]/\Same H3 f/\IsT K f ov (.nd .both b d)/\(Tm.nd .both b d).ok/\(Tm.nd .both b d).parts<=81) ?_ ?_
  ·intro C D
   walk_at "1";refine⟨⟨_,SqL.of (e4 _ _ i2)⟩,fun j9 q6=>?_⟩;refine Zf7 (fun t=>decide (Zj9 t="both")) (e4 _ _ i2) (Za7 e4.keepT i3) (by walk_at "o") q6 (fun v'=>Ze9 (i:=0) rfl) (fun v' t f ys N y2 e hT h v9 hy hn=>?_) (fun f ys e h hP=>?_)
   ·walk_at "1"
    obtain⟨p,xs,rfl,hs⟩:=Zm4 hT;refine⟨p,rfl,_,hs,_,at0 _ _,Zc7 _ _,?_⟩
    by_cases hc:Zj9 t="both"
    ·rw[if_pos (by rw[hc])]
     exact⟨ys,h,Zb0 (by walk_at "o"),hy (decide_eq_true hc) _ (Same.refl _) h⟩
    ·rw[if_neg (fun z=>hc (V.str.inj z))]
     exact hn (decide_eq_false hc) _ (Same.refl _)
   ·refine⟨⟨by decide,by decide⟩,by decide,fun p hp=>?_⟩
    have B:=Za1 hp (HO.tup [V.str "both",O,I]);have S:=(e4.trans e).trans B;have hd:IsT K (upd f p (HO.tup [V.str "both",O,I])) (.ref p) (.nd .both o1 m):=isT_nd.mpr ⟨p,O,I,rfl,.inl (.inl Za3),h1.keep S.keepT,hx4.keep (e.trans B).keepT⟩;refine⟨j9,_,.ref p,ys,_,.nd .both o1 m,rfl,B _ _ h,Za7 B.keepT hP,fun t F=>M.ok.w t (List.mem_filter.mp F).1,hd,fun r t H'' e2 W F=>?_⟩;rcases F with rfl | F
    ·exact D _ _ ⟨r,o1,m,rfl,S.trans e2,W,⟨k1.1,k2.1⟩,by show 1+o1.parts+m.parts<=81;walk_at "o"⟩
    ·obtain⟨hm,hh⟩:=List.mem_filter.mp F
     obtain⟨b,d,rfl⟩:=Yt6 (of_decide_eq_true hh);exact D _ _ ⟨r,b,d,rfl,S.trans e2,W,(M.ok.w _ hm).1,by have:=M.w40 _ hm;walk_at "o"⟩
  rintro σ5 H5 ⟨ov,b,d,rfl,e5,q7,z7,opp⟩;obtain⟨p,x,y,rfl,hs,hx,hy⟩:=isT_nd.mp q7;refine sqt (fun v f=>∃ ka J,v=[some (.ref a),some (.int c),some (.int (i:Nat)),some (.int (j:Nat)),some O,some U,some (.ref Y),some X,some (.int (c % 4)),some I,some (.ref p),some (.ref ka),none,none,none,none]/\Same H5 f/\f ka=some (.lst J)/\Paired (IsT K f) J (T.ws.filter fun t=>decide (t≠b)&&decide (t≠d))) ?_ ?_
  ·intro C D
   walk_at "1";refine⟨⟨_,SqL.of (e5 _ _ i2)⟩,fun j9 q6=>?_⟩;refine Zf7 (fun t=>decide (t≠b)&&decide (t≠d)) (e5 _ _ i2) (Za7 e5.keepT i3) (by walk_at "o") q6 (fun v'=>Ze9 (i:=0) rfl) (fun v' t f ys N y2 e hT h v9 v0 hn=>?_) (fun f ys e h hP=>?_)
   ·walk_at "1"
    have z3:=M.ok.w t y2;have dep:∀ u:Tm,min t.data.depth u.data.depth<=150:=fun u=>Nat.le_trans (Nat.min_le_left _ _) (by rw[Tm.depth];have:=z3.2;have:=Zc5 t;walk_at "o");refine⟨_,e.sqt hs,_,rfl,t.data,hT,b.data,hx.keep e.keepT,t.lay z3.1,b.lay z7.1,dep _,?_⟩;rw[Tm.eqv]
    by_cases hto:t=b
    ·rw[if_neg (by rw[if_pos trivial,decide_eq_true hto];exact Bool.false_ne_true),if_neg Bool.false_ne_true]
     exact hn (by rw[decide_eq_false (fun z=>z hto)];rfl) _ (Same.refl _)
    ·rw[if_pos (by rw[if_pos trivial,decide_eq_false hto];rfl)]
     refine⟨_,e.sqt hs,_,rfl,t.data,hT,d.data,hy.keep e.keepT,t.lay z3.1,d.lay z7.2,dep _,?_⟩;rw[Tm.eqv]
     by_cases hto2:t=d
     ·rw[if_neg (by rw[if_pos trivial,decide_eq_true hto2];exact Bool.false_ne_true)]
      exact hn (by rw[decide_eq_true hto,Bool.true_and];exact decide_eq_false (fun z=>z hto2)) _ (Same.refl _)
     ·rw[if_pos (by rw[if_pos trivial,decide_eq_false hto2];rfl)]
      exact⟨ys,h,Zb0 (by walk_at "o"),v0 (by rw[decide_eq_true hto,decide_eq_true hto2];rfl) _ (Same.refl _) h⟩
   ·exact D _ _ ⟨j9,ys,rfl,e,h,hP⟩
  rintro σ6 H6 ⟨ka,J,rfl,e6,z5,q5⟩;have S6:=e5.trans e6;have q8:Okw (T.ws.filter fun t=>decide (t≠b)&&decide (t≠d)):=fun t F=>M.ok.w t (List.mem_filter.mp F).1;have lr:(T.ws.filter fun t=>decide (t≠b)&&decide (t≠d)).length<=T.ws.length:=List.length_filter_le _ _;have y9:=Paired.length q5
  have Z:(Tm.nd .both b d).parts<=100:=by walk_at "o"
  walk_at "1";refine⟨by decide,fun p3 q1=>?_⟩;have B:=Za1 q1 (HO.lst [V.ref p]);refine⟨J,B _ _ z5,_,Za3,Nat.le_of_lt (Zb0 (by show J.length+1<=1000;walk_at "o")),fun p4 z1=>Zh4 z1 (Za7 B.keepT q5) (.cons (q7.keep (e6.trans B).keepT) .nil) q8 (Zf5 z7 Z) (by rw[List.length_singleton];walk_at "o") fun r H13 q3 fr hw=>⟨by decide,fun p5 j0=>⟨by decide,fun p6 q9=>?_⟩⟩⟩;have s2:=Za1 j0 (HO.lst [V.int (i:Nat)]);have SS:=((S6.trans B).trans q3).trans s2;have z0:=Zg5 (Zg7 q8 (Zf5 z7 Z))
  exact q _ _ _ (SS.trans (Za1 q9 _)) (Zf9 (R:=some .parts) (on:=some (.nd .both b d)) (ls:=[(i:Int)]) q9 (hw.keep s2) (i4.keep SS.keepT) ⟨q7.keep (((e6.trans B).trans q3).trans s2).keepT,z7,Z⟩ Za3 ((S6.trans B).free fr) (((S6.trans B).trans q3).free j0)) ⟨⟨rfl,z0,by have:=Zd9 (T.ws.filter fun t=>decide (t≠b)&&decide (t≠d)) [.nd .both b d];rw[List.length_singleton] at this;exact Nat.le_trans this (by walk_at "o"),M.ok.g,M.ok.gp,by show 1<=100;decide⟩,Yg9 (Zc9 _) (by
   show (if Tm.nd .both b d∈norm (_++[.nd .both b d]) then some [_] else none)=_
   rw[if_pos (Zd8 (List.mem_singleton.mpr rfl))]) rfl hi y1 rfl (fun t F=>by
   by_cases ht1:t=b
   ·exact .inl (Zd8 (by rw[ht1];simp))
   ·by_cases ht2:t=d
    ·exact .inl (Zd8 (by rw[ht2];simp))
    ·exact .inr (Zf8 (List.mem_filter.mpr ⟨F,by rw[decide_eq_true ht1,decide_eq_true ht2];rfl⟩)))⟩
 rintro σ4 H4 ⟨rfl,rfl⟩;refine sqt (fun v f=>v=[some (.ref a),some (.int c),some (.int (i:Nat)),some (.int (j:Nat)),some O,some U,some (.ref Y),some X,some (.int (c % 4)),none,none,none,none,none,none,none]/\f=H4) ?_ ?_
 ·intro C D
  walk_at "3";refine ite2 (fun _=>?_) (fun _=>D _ _ ⟨rfl,rfl⟩);refine sqt (fun v f=>∃ n lm,v=[some (.ref a),some (.int c),some (.int (i:Nat)),some (.int (n:Nat)),some O,some U,some (.ref Y),some X,some (.int (c % 4)),none,none,none,none,none,none,none]/\Same H4 f/\L[n]?=some lm/\lm.g=T.g) ?_ ?_
  ·intro C D
   walk_at "1";exact⟨a,us,L,_,X,some T.g,_,rfl,ha,hL,y8,by walk_at "o",⟨i4,M.ok.g,M.ok.gp⟩,fun hno=>absurd rfl (hno T (List.mem_of_getElem? y1)),fun n l hl hf f e=>D _ _ ⟨n,l,rfl,e,hl,hf⟩⟩
  rintro σ5 H5 ⟨n,lm,rfl,e5,y3,hgm⟩;have v5:n < L.length:=(List.getElem?_eq_some_iff.mp y3).1
  have z4:n < us.length:=by walk_at "o"
  have z8:=G.ok lm (List.mem_of_getElem? y3);obtain⟨lm',v6,hvm⟩:=paired_get hL (List.getElem?_eq_getElem z4);rw[y3] at v6;cases v6;obtain⟨pm,wm,am,gm,om,ym,evm,m1,m2,m3,m4,m5,m6⟩:=hvm;have w9m:=z8.w9;refine sqt (fun v f=>v=[some (.ref a),some (.int c),some (.int (i:Nat)),some (.int (n:Nat)),some O,some U,some (.ref Y),some X,some (.int (c % 4)),none,none,none,some (.ref wm),none,none,none]/\f=H5) ?_ ?_
  ·intro C D
   walk_at "1";exact⟨us,SqL.of (e5 _ _ ha),_,Zd5 (List.getElem?_eq_getElem z4),pm,evm,_,e5.sqt m1,_,rfl,D _ _ ⟨rfl,rfl⟩⟩
  rintro σ6 H6 ⟨rfl,rfl⟩;refine sqt (fun v f=>∃ I m,v=[some (.ref a),some (.int c),some (.int (i:Nat)),some (.int (n:Nat)),some O,some U,some (.ref Y),some X,some (.int (c % 4)),some I,none,none,some (.ref wm),none,none,none]/\Same H4 f/\IsT K f I m/\S40 m) ?_ ?_
  ·intro C D
   walk_at "1";refine⟨⟨by decide,by decide⟩,wm,_,U,ym,lm.ws,ex,rfl,e5 _ _ m2,Za7 e5.keepT m3,z8.ok.w,hE.keep e5.keepT,fun r t f e W F=>D _ _ ⟨r,t,rfl,e5.trans e,W,?_⟩⟩;rcases F with rfl | F
   ·exact exk
   ·exact z8.s40 t F
  rintro σ7 H7 ⟨I,m,rfl,e7,y0,k2⟩;have kp2:=k2.2;refine sqt (fun v f=>∃ ov,v=[some (.ref a),some (.int c),some (.int (i:Nat)),some (.int (n:Nat)),some O,some U,some (.ref Y),some X,some (.int (c % 4)),some I,some ov,none,some (.ref wm),none,none,none]/\Same H7 f/\IsT K f ov (.nd .one o1 m)) ?_ ?_
  ·intro C D
   walk_at "1";refine⟨by decide,fun p3 q1=>?_⟩;have B:=Za1 q1 (HO.tup [V.str "one",O,I]);exact D _ _ ⟨_,rfl,B,isT_nd.mpr ⟨p3,O,I,rfl,.inl (.inl Za3),h1.keep (e7.trans B).keepT,y0.keep B.keepT⟩⟩
  rintro σ8 H8 ⟨ov,rfl,e8,q7⟩;have S8:=e7.trans e8;have q0:(Tm.nd .one o1 m).ok:=⟨k1.1,k2.1⟩
  have Z:(Tm.nd .one o1 m).parts<=100:=by show 1+o1.parts+m.parts<=100;walk_at "o"
  have lr1:=y7 T.ws o1;have lr2:=y7 lm.ws m;refine sqt (fun v f=>∃ ka J,v=[some (.ref a),some (.int c),some (.int (i:Nat)),some (.int (n:Nat)),some O,some U,some (.ref Y),some X,some (.int (c % 4)),some I,some ov,some (.ref ka),some (.ref wm),none,none,none]/\Same H8 f/\f ka=some (.lst J)/\Paired (IsT K f) J (rem T.ws o1++rem lm.ws m)) ?_ ?_
  ·intro C D
   walk_at "1";refine⟨⟨_,SqL.of (S8 _ _ i2)⟩,fun j9 q6=>?_⟩;refine Ym3 (S8 _ _ i2) (Za7 S8.keepT i3) (by walk_at "o") q6 M.ok.w (h1.keep S8.keepT) k1.1 fun f ys e h hP=>?_;refine⟨⟨_,SqL.of ((S8.trans e) _ _ m2)⟩,fun acc2 hacc2=>?_⟩;refine Ym3 ((S8.trans e) _ _ m2) (Za7 (S8.trans e).keepT m3) (by walk_at "o") hacc2 z8.ok.w (y0.keep (e8.trans e).keepT) k2.1 fun H'' ys2 e2 h2 hP2=>?_;have l1:=Paired.length hP;have l2:=Paired.length hP2;refine⟨ys,e2 _ _ h,ys2,h2,Nat.le_of_lt (Zb0 (by walk_at "o")),fun p hp=>?_⟩;have B:=Za1 hp (HO.lst (ys++ys2));exact D _ _ ⟨p,_,rfl,(e.trans e2).trans B,Za3,Zc8 (Za7 (e2.trans B).keepT hP) (Za7 B.keepT hP2)⟩
  rintro σ9 H9 ⟨ka,J,rfl,e9,z5,q5⟩;have y9:=Paired.length q5
  have ll:(rem T.ws o1++rem lm.ws m).length<=18:=by rw[List.length_append];walk_at "o"
  have q8:Okw (rem T.ws o1++rem lm.ws m):=Zg7 (fun t F=>M.ok.w t (mem_rem.mp F).1) (fun t F=>z8.ok.w t (mem_rem.mp F).1);walk_at "1";refine⟨by decide,fun p3 q1=>?_⟩;have B:=Za1 q1 (HO.lst [ov]);refine⟨J,B _ _ z5,_,Za3,Nat.le_of_lt (Zb0 (by show J.length+1<=1000;walk_at "o")),fun p4 z1=>Zh4 z1 (Za7 B.keepT q5) (.cons (q7.keep (e9.trans B).keepT) .nil) q8 (Zf5 q0 Z) (by rw[List.length_singleton];walk_at "o") fun r H13 q3 fr hw=>⟨by decide,fun p5 j0=>⟨by decide,fun p6 q9=>?_⟩⟩⟩;have s2:=Za1 j0 (HO.lst [V.int (i:Nat),V.int (n:Nat)]);have SS:=(((S8.trans e9).trans B).trans q3).trans s2;have z0:=Zg5 (Zg7 q8 (Zf5 q0 Z))
  exact q _ _ _ (SS.trans (Za1 q9 _)) (Zf9 (R:=some .cases) (on:=some (.nd .one o1 m)) (ls:=[(i:Int),(n:Int)]) q9 (hw.keep s2) (i4.keep SS.keepT) ⟨q7.keep (((e9.trans B).trans q3).trans s2).keepT,q0,Z⟩ Za3 (((S8.trans e9).trans B).free fr) ((((S8.trans e9).trans B).trans q3).free j0)) ⟨⟨rfl,z0,by have:=Zd9 (rem T.ws o1++rem lm.ws m) [.nd .one o1 m];rw[List.length_singleton] at this;exact Nat.le_trans this (by walk_at "o"),M.ok.g,M.ok.gp,by show 2<=100;decide⟩,Xi7 (Zc9 _) (by
   show (if Tm.nd .one o1 m∈norm (_++[.nd .one o1 m]) then some [_,_] else none)=_
   rw[if_pos (Zd8 (List.mem_singleton.mpr rfl))]) rfl hi y1 rfl (fun t F=>by
   by_cases ht1:t=o1
   ·exact .inl (Zd8 (List.mem_singleton.mpr ht1))
   ·exact .inr (Zf8 (List.mem_append.mpr (.inl (mem_rem.mpr ⟨F,ht1⟩))))) v5 y3 hgm (fun t F=>by
   by_cases ht1:t=m
   ·exact .inl (Zd8 (List.mem_singleton.mpr ht1))
   ·exact .inr (Zf8 (List.mem_append.mpr (.inr (mem_rem.mpr ⟨F,ht1⟩)))))⟩
 rintro σ5 H5 ⟨rfl,rfl⟩;refine sqt (fun v f=>v=[some (.ref a),some (.int c),some (.int (i:Nat)),some (.int (j:Nat)),some O,some U,some (.ref Y),some X,some (.int (c % 4)),none,none,none,some (.ref wj),none,none,none]/\f=H5) ?_ ?_
 ·intro C D
  walk_at "1";exact⟨us,SqL.of ha,_,Zd5 (List.getElem?_eq_getElem y5),pj,evj,_,j1,_,rfl,D _ _ ⟨rfl,rfl⟩⟩
 rintro σ6 H6 ⟨rfl,rfl⟩;refine sqt (fun v f=>∃ I m,v=[some (.ref a),some (.int c),some (.int (i:Nat)),some (.int (j:Nat)),some O,some U,some (.ref Y),some X,some (.int (c % 4)),some I,none,none,some (.ref wj),none,none,none]/\Same H6 f/\IsT K f I m/\S40 m) ?_ ?_
 ·intro C D
  walk_at "1";refine⟨⟨by decide,by decide⟩,wj,_,U,yj,lj.ws,ex,rfl,j2,j3,j7.ok.w,hE,fun r t f e W F=>D _ _ ⟨r,t,rfl,e,W,?_⟩⟩;rcases F with rfl | F
  ·exact exk
  ·exact j7.s40 t F
 rintro σ7 H7 ⟨I,m,rfl,e7,y0,k2⟩;have kp2:=k2.2;refine sqt (fun v f=>∃ ka J,v=[some (.ref a),some (.int c),some (.int (i:Nat)),some (.int (j:Nat)),some O,some U,some (.ref Y),some X,some (.int (c % 4)),some I,none,some (.ref ka),some (.ref wj),none,none,none]/\Same H6 f/\IsT K f I m/\f ka=some (.lst J)/\Paired (IsT K f) J (rem lj.ws m)) ?_ ?_
 ·intro C D
  walk_at "1";refine⟨⟨_,SqL.of (e7 _ _ j2)⟩,fun j9 q6=>?_⟩;exact Ym3 (e7 _ _ j2) (Za7 e7.keepT j3) (by walk_at "o") q6 j7.ok.w y0 k2.1 fun f ys e h hP=>D _ _ ⟨j9,ys,rfl,e7.trans e,y0.keep e.keepT,h,hP⟩
 rintro σ8 H8 ⟨ka,J,rfl,e8,v2,z5,q5⟩;have lk:=y7 lj.ws m;have y9:=Paired.length q5;have okk:Okw (rem lj.ws m):=fun t F=>j7.ok.w t (mem_rem.mp F).1;refine sqt (fun v f=>∃ fv,v=[some (.ref a),some (.int c),some (.int (i:Nat)),some (.int (j:Nat)),some O,some U,some (.ref Y),some X,some (.int (c % 4)),some I,none,some (.ref ka),some (.ref wj),some fv,none,none]/\Same H8 f/\(fv=.non∨∃ n lf b d,fv=.int (n:Nat)/\L[n]?=some lf/\lf.g=.nd .thn b d)) ?_ ?_
 ·intro C D
  walk_at "1";refine⟨a,us,L,_,.non,none,_,rfl,e8 _ _ ha,IsLns.keep e8 hL,y8,by walk_at "o",rfl,fun _ f e=>D _ _ ⟨_,rfl,e,.inl rfl⟩,fun n l hl hf f e=>?_⟩;obtain⟨b,d,hg⟩:=Zm5 hf;exact D _ _ ⟨_,rfl,e,.inr ⟨n,l,b,d,rfl,hl,hg⟩⟩
 rintro σ9 H9 ⟨fv,rfl,e9,hfv⟩;have S9:=e8.trans e9;refine sqt (fun v f=>v=[some (.ref a),some (.int c),some (.int (i:Nat)),some (.int (j:Nat)),some O,some U,some (.ref Y),some X,some (.int (c % 4)),some I,none,some (.ref ka),some (.ref wj),some fv,none,none]/\f=H9) ?_ ?_
 ·intro C D
  walk_at "3";refine ite2 (fun _=>?_) (fun _=>?_)
  ·rcases hfv with rfl | ⟨n,lf,b,d,rfl,y4,hgf⟩
   ·rw[if_neg (by rw[decide_eq_true rfl];decide)]
    exact D _ _ ⟨rfl,rfl⟩
   rw[if_pos (by rw[decide_eq_false (fun z=>nomatch z)];rfl)];have v5:n < L.length:=(List.getElem?_eq_some_iff.mp y4).1
   have z4:n < us.length:=by walk_at "o"
   have z9:=G.ok lf (List.mem_of_getElem? y4);obtain⟨lf',v8,hvf⟩:=paired_get hL (List.getElem?_eq_getElem z4);rw[y4] at v8;cases v8;obtain⟨pf,wf,af,gf,of,yf,evf,f1,f2,f3,f4,f5,f6⟩:=hvf;have w9f:=z9.w9;have gfp:=z9.g40;have gfo:=z9.ok.g;rw[hgf] at f4 gfp gfo;have gfp2:1+b.parts+d.parts<=40:=gfp;obtain⟨pg,xg,yg,rfl,hsg,hxg,hyg⟩:=isT_nd.mp f4;refine sqt (fun v f=>v=[some (.ref a),some (.int c),some (.int (i:Nat)),some (.int (j:Nat)),some O,some U,some (.ref Y),some X,some (.int (c % 4)),some I,none,some (.ref ka),some (.ref wj),some (.int (n:Nat)),some (.ref pg),none]/\f=H9) ?_ ?_
   ·intro C D
    walk_at "1";exact⟨us,SqL.of (S9 _ _ ha),_,Zd5 (List.getElem?_eq_getElem z4),pf,evf,_,S9.sqt f1,_,rfl,D _ _ ⟨rfl,rfl⟩⟩
   rintro σ10 H10 ⟨rfl,rfl⟩;refine sqt (fun v f=>∃ ov,v=[some (.ref a),some (.int c),some (.int (i:Nat)),some (.int (j:Nat)),some O,some U,some (.ref Y),some X,some (.int (c % 4)),some I,some ov,some (.ref ka),some (.ref wj),some (.int (n:Nat)),some (.ref pg),none]/\Same H10 f/\IsT K f ov (.nd .thn (.nd .thn b d) m)) ?_ ?_
   ·intro C D
    walk_at "1";refine⟨by decide,fun p3 q1=>?_⟩;have B:=Za1 q1 (HO.tup [V.str "then",V.ref pg,I]);exact D _ _ ⟨_,rfl,B,isT_nd.mpr ⟨p3,_,I,rfl,.inl (.inl Za3),f4.keep (S9.trans B).keepT,v2.keep (e9.trans B).keepT⟩⟩
   rintro σ11 H11 ⟨ov,rfl,z6,q7⟩;have q4:=S9.trans z6;have q0:(Tm.nd .thn (.nd .thn b d) m).ok:=⟨gfo,k2.1⟩
   have Z:(Tm.nd .thn (.nd .thn b d) m).parts<=100:=by show 1+(1+b.parts+d.parts)+m.parts<=100;walk_at "o"
   have scok:(Tm.nd .thn d m).ok:=⟨gfo.2,k2.1⟩;refine sqt (fun v f=>∃ sa z2,v=[some (.ref a),some (.int c),some (.int (i:Nat)),some (.int (j:Nat)),some O,some U,some (.ref Y),some X,some (.int (c % 4)),some I,some ov,some (.ref ka),some (.ref wj),some (.int (n:Nat)),some (.ref pg),some (.ref sa)]/\Same H11 f/\f sa=some (.lst z2)/\Paired (IsT K f) z2 (rem lf.ws (.nd .thn d m))) ?_ ?_
   ·intro C D
    walk_at "1";refine⟨us,SqL.of (q4 _ _ ha),_,Zd5 (List.getElem?_eq_getElem z4),pf,evf,_,q4.sqt f1,_,rfl,wf,rfl,⟨_,SqL.of (q4 _ _ f2)⟩,fun j9 q6=>?_⟩;refine Zf7 (fun t=>decide (t≠.nd .thn d m)) (q4 _ _ f2) (Za7 q4.keepT f3) (by walk_at "o") q6 (fun v'=>Ze9 (i:=0) rfl) (fun v' t f ys N y2 e hT h v9 v0 hn=>?_) (fun f ys e h hP=>?_)
    ·walk_at "1"
     have z3:=z9.ok.w t y2;refine⟨_,(q4.trans e).sqt hsg,_,rfl,by decide,fun p3 q1=>?_⟩;have B:=Za1 q1 (HO.tup [V.str "then",yg,I]);have hsec:IsT K (upd f p3 (HO.tup [V.str "then",yg,I])) (.ref p3) (.nd .thn d m):=isT_nd.mpr ⟨p3,yg,I,rfl,.inl (.inl Za3),hyg.keep ((q4.trans e).trans B).keepT,v2.keep (((e9.trans z6).trans e).trans B).keepT⟩;refine⟨t.data,hT.keep B.keepT,(Tm.nd .thn d m).data,hsec,t.lay z3.1,Tm.lay _ scok,Nat.le_trans (Nat.min_le_left _ _) (by rw[Tm.depth];have:=z3.2;have:=Zc5 t;walk_at "o"),?_⟩;rw[Tm.eqv]
     by_cases hto:t=.nd .thn d m
     ·rw[if_neg (by rw[if_pos trivial,decide_eq_true hto];exact Bool.false_ne_true)]
      exact hn (decide_eq_false (fun z=>z hto)) _ B
     ·rw[if_pos (by rw[if_pos trivial,decide_eq_false hto];rfl)]
      exact⟨ys,B _ _ h,Zb0 (by walk_at "o"),v0 (decide_eq_true hto) _ B (B _ _ h)⟩
    ·exact D _ _ ⟨j9,ys,rfl,e,h,hP⟩
   rintro σ12 H12 ⟨sa,z2,rfl,y6,hsa,v3⟩;have S12:=q4.trans y6;have lr1:=y7 lf.ws (.nd .thn d m);have lsus:=Paired.length v3;have q8:Okw (rem lf.ws (.nd .thn d m)++rem lj.ws m):=Zg7 (fun t F=>z9.ok.w t (mem_rem.mp F).1) okk
   have ll:(rem lf.ws (.nd .thn d m)++rem lj.ws m).length<=18:=by rw[List.length_append];walk_at "o"
   have ek:=(e9.trans z6).trans y6;walk_at "1";refine⟨z2,hsa,J,ek _ _ z5,Nat.le_of_lt (Zb0 (by walk_at "o")),fun p2 v4=>⟨by decide,fun p3 q1=>?_⟩⟩;have s0:=Za1 v4 (HO.lst (z2++J));have B:=Za1 q1 (HO.lst [ov]);have q2:=s0.trans B;refine⟨z2++J,B _ _ Za3,_,Za3,Nat.le_of_lt (Zb0 (by rw[List.length_append,List.length_singleton];walk_at "o")),fun p4 z1=>Zh4 z1 (Zc8 (Za7 q2.keepT v3) (Za7 (ek.trans q2).keepT q5)) (.cons (q7.keep (y6.trans q2).keepT) .nil) q8 (Zf5 q0 Z) (by rw[List.length_singleton];walk_at "o") fun r H13 q3 fr hw=>?_⟩;have j8:=(S12.trans q2).trans q3;refine⟨us,SqL.of (j8 _ _ ha),_,Zd5 (List.getElem?_eq_getElem y5),pj,evj,_,j8.sqt j1,_,rfl,by decide,fun p5 j0=>⟨by decide,fun p6 q9=>?_⟩⟩;have s2:=Za1 j0 (HO.lst [V.int (n:Nat),V.int (j:Nat)]);have SS:=j8.trans s2;have z0:=Zg5 (Zg7 q8 (Zf5 q0 Z));have gjp:=j7.ok.gp
   exact q _ _ _ (SS.trans (Za1 q9 _)) (Zf9 (R:=some .chain) (on:=some (.nd .thn (.nd .thn b d) m)) (ls:=[(n:Int),(j:Int)]) q9 (hw.keep s2) (j4.keep SS.keepT) ⟨q7.keep (((y6.trans q2).trans q3).trans s2).keepT,q0,Z⟩ Za3 ((S12.trans q2).free fr) (j8.free j0)) ⟨⟨rfl,z0,by have:=Zd9 (rem lf.ws (.nd .thn d m)++rem lj.ws m) [.nd .thn (.nd .thn b d) m];rw[List.length_singleton] at this;exact Nat.le_trans this (by walk_at "o"),j7.ok.g,gjp,by show 2<=100;decide⟩,Xi7 (Zc9 _) (by
    show (if Tm.nd .thn (.nd .thn b d) m∈norm (_++[.nd .thn (.nd .thn b d) m]) then some [_,_] else none)=_
    rw[if_pos (Zd8 (List.mem_singleton.mpr rfl))]) rfl v5 y4 hgf (fun t F=>by
    by_cases ht1:t=.nd .thn d m
    ·exact .inl (Zd8 (List.mem_singleton.mpr ht1))
    ·exact .inr (Zf8 (List.mem_append.mpr (.inl (mem_rem.mpr ⟨F,ht1⟩))))) hj v7 rfl (fun t F=>by
    by_cases ht1:t=m
    ·exact .inl (Zd8 (List.mem_singleton.mpr ht1))
    ·exact .inr (Zf8 (List.mem_append.mpr (.inr (mem_rem.mpr ⟨F,ht1⟩)))))⟩
  ·rw[if_neg Bool.false_ne_true]
   exact D _ _ ⟨rfl,rfl⟩
 rintro σ10 H10 ⟨rfl,rfl⟩;refine sqt (fun v f=>∃ ov,v=[some (.ref a),some (.int c),some (.int (i:Nat)),some (.int (j:Nat)),some O,some U,some (.ref Y),some X,some (.int (c % 4)),some I,some ov,some (.ref ka),some (.ref wj),some fv,none,none]/\Same H10 f/\IsT K f ov (.nd .thn T.g m)) ?_ ?_
 ·intro C D
  walk_at "1";refine⟨by decide,fun p3 q1=>?_⟩;have B:=Za1 q1 (HO.tup [V.str "then",X,I]);exact D _ _ ⟨_,rfl,B,isT_nd.mpr ⟨p3,X,I,rfl,.inl (.inl Za3),i4.keep (S9.trans B).keepT,v2.keep (e9.trans B).keepT⟩⟩
 rintro σ11 H11 ⟨ov,rfl,z6,q7⟩;have q0:(Tm.nd .thn T.g m).ok:=⟨M.ok.g,k2.1⟩
 have Z:(Tm.nd .thn T.g m).parts<=100:=by show 1+T.g.parts+m.parts<=100;walk_at "o"
 walk_at "1";have q4:=S9.trans z6;have lyi:=Paired.length i3;have q8:Okw (T.ws++rem lj.ws m):=Zg7 M.ok.w okk
 have ll:(T.ws++rem lj.ws m).length<=18:=by rw[List.length_append];walk_at "o"
 have ek:=e9.trans z6;refine⟨yi,q4 _ _ i2,J,ek _ _ z5,Nat.le_of_lt (Zb0 (by walk_at "o")),fun p2 v4=>⟨by decide,fun p3 q1=>?_⟩⟩;have s0:=Za1 v4 (HO.lst (yi++J));have B:=Za1 q1 (HO.lst [ov]);have q2:=s0.trans B;refine⟨yi++J,B _ _ Za3,_,Za3,Nat.le_of_lt (Zb0 (by rw[List.length_append,List.length_singleton];walk_at "o")),fun p4 z1=>Zh4 z1 (Zc8 (Za7 (q4.trans q2).keepT i3) (Za7 (ek.trans q2).keepT q5)) (.cons (q7.keep q2.keepT) .nil) q8 (Zf5 q0 Z) (by rw[List.length_singleton];walk_at "o") fun r H13 q3 fr hw=>?_⟩;have j8:=(q4.trans q2).trans q3;refine⟨us,SqL.of (j8 _ _ ha),_,Zd5 (List.getElem?_eq_getElem y5),pj,evj,_,j8.sqt j1,_,rfl,by decide,fun p5 j0=>⟨by decide,fun p6 q9=>?_⟩⟩;have s2:=Za1 j0 (HO.lst [V.int (i:Nat),V.int (j:Nat)]);have SS:=j8.trans s2;have z0:=Zg5 (Zg7 q8 (Zf5 q0 Z))
 exact q _ _ _ (SS.trans (Za1 q9 _)) (Zf9 (R:=some .use) (on:=some (.nd .thn T.g m)) (ls:=[(i:Int),(j:Int)]) q9 (hw.keep s2) (j4.keep SS.keepT) ⟨q7.keep ((q2.trans q3).trans s2).keepT,q0,Z⟩ Za3 ((q4.trans q2).free fr) (j8.free j0)) ⟨⟨rfl,z0,by have:=Zd9 (T.ws++rem lj.ws m) [.nd .thn T.g m];rw[List.length_singleton] at this;exact Nat.le_trans this (by walk_at "o"),j7.ok.g,j7.ok.gp,by show 2<=100;decide⟩,Xi7 (Zc9 _) (by
  show (if Tm.nd .thn T.g m∈norm (_++[.nd .thn T.g m]) then some [_,_] else none)=_
  rw[if_pos (Zd8 (List.mem_singleton.mpr rfl))]) rfl hi y1 rfl (fun t F=>.inr (Zf8 (List.mem_append.mpr (.inl F)))) hj v7 rfl (fun t F=>by
  by_cases ht1:t=m
  ·exact .inl (Zd8 (List.mem_singleton.mpr ht1))
  ·exact .inr (Zf8 (List.mem_append.mpr (.inr (mem_rem.mpr ⟨F,ht1⟩)))))⟩
theorem sc_ar0:FnScope ["_law_lines","_law_cell_here","_law_words_here","_law_here","_law_there","_law_extra","_law_one","_law_other","_law_form","_law_line","_law_sizes"] ["_law_lines","_law_cell_here","_law_words_here"] (Za8 (top 67)):=scm (by decide +kernel)
theorem Xz5 {k:Nat} (F_ar0:Df K mg "_law_next" (top 67) ["_law_lines","_law_cell_here","_law_words_here"]) (C__law_statement:Cl P w K mg base k "_law_statement" ["_law_cell_here","_law_many","_law_words_here"] (Zk3 K 2)) (C__law_pick:Cl P w K mg base k "_law_pick" ["_law_some","_law_cell_here","_law_other"] (Zw0 K)) (C__law_mix:Cl P w K mg base k "_law_mix" ["_law_cell_here","_law_k"] (Zp4)) (C__law_by_goal:Cl P w K mg base k "_law_by_goal" ["_law_lines","_law_cell_here","_law_here","_law_there","_law_extra"] (Yf1 K)) (C__law_by_if:Cl P w K mg base k "_law_by_if" ["_law_lines","_law_cell_here","_law_here","_law_one","_law_other","_law_extra"] (Yw4 K)) (C__law_by_two:Cl P w K mg base k "_law_by_two" ["_law_lines","_law_cell_here","_law_here","_law_there","_law_one","_law_extra"] (Yo0 K)) (C__law_parts:Cl P w K mg base k "_law_parts" ["_law_statement_here"] (Zl4 K 101)) (m_len:mg "len"=none) (m_max:mg "max"=none):Cl P w K mg base (k+1) "_law_next" ["_law_lines","_law_cell_here","_law_words_here"] (Yw1 K):=by
 refine F_ar0.ok sc_ar0 (fun vs H Q E h=>?_) (fun _ _ A _ s H vs Q E o h=>?_)
 ·obtain⟨a,D,B,L,c,ws,rfl,_⟩:=h
  rfl
 obtain⟨a,D,B,L,c,ws,rfl,W,hL,G,z1,hc,hW,hw,q⟩:=h
 refine⟨_,(Za4 (pst 3 sc_ar0.nd (Zb4 Zc6 (Zb7 C__law_mix o (Za0 (pvM 1) (Za0 Za5 Za2))) (Zc1 Zb8 (by exact rfl) m_len Zd2 (Za0 (pvM 0) Za2))))
 (Za4 (pst 4 sc_ar0.nd (Zb4 Zc6 (Zb7 C__law_mix o (Za0 (pvM 1) (Za0 Za5 Za2))) (Zc1 Zb8 (by exact rfl) m_len Zd2 (Za0 (pvM 0) Za2))))
 (Za4 (pst 5 sc_ar0.nd (Zb7 C__law_statement o (Za0 (Zb7 C__law_mix o (Za0 (pvM 1) (Za0 Za5 Za2))) (Za0 (Zb4 Zd3 Za5 (Zb4 Zi9 Za5 (Zb4 Zc6 (pvM 1) Za5))) (Za0 (pvM 2) Za2)))))
 (Za4 (pst 6 sc_ar0.nd (Zb7 C__law_pick o (Za0 (pxt (pxl (pvM 0) (pvM 3)) Za5) (Za0 (Zb7 C__law_mix o (Za0 (pvM 1) (Za0 Za5 Za2))) (Za0 (pvM 5) Za2)))))
 (Za4 (pst 7 sc_ar0.nd (Zb7 C__law_pick o (Za0 (pxt (pxl (pvM 0) (pvM 3)) Za5) (Za0 (Zb7 C__law_mix o (Za0 (pvM 1) (Za0 Za5 Za2))) (Za0 (Zb7 C__law_statement o (Za0 (Zb7 C__law_mix o (Za0 (pvM 1) (Za0 Za5 Za2))) (Za0 Za5 (Za0 (pvM 2) Za2)))) Za2)))))
 (Za4 (pst 8 sc_ar0.nd (Zb4 Zc6 (Zb4 Zd0 (pvM 1) Za5) Za5))
 (Za4 (Zc4 (ptcM (Zd6) (pvM 8) Za5)
  (Za6 (pst 9 sc_ar0.nd (Zb7 C__law_by_goal o (Za0 (pvM 0) (Za0 (Zb4 Zd0 (pvM 1) Za5) (Za0 (pvM 3) (Za0 (pvM 4) (Za0 (pvM 5) Za2))))))))
  (Za6 (Zc4 (ptcM (Zd6) (pvM 8) Za5)
  (Za6 (pst 9 sc_ar0.nd (Zb7 C__law_by_if o (Za0 (pvM 0) (Za0 (Zb4 Zd0 (pvM 1) Za5) (Za0 (pvM 3) (Za0 (pvM 6) (Za0 (pvM 7) (Za0 (pvM 5) Za2)))))))))
  (Za6 (pst 9 sc_ar0.nd (Zb7 C__law_by_two o (Za0 (pvM 0) (Za0 (Zb4 Zd0 (pvM 1) Za5) (Za0 (pvM 3) (Za0 (pvM 4) (Za0 (pvM 6) (Za0 (pvM 7) Za2))))))))))))
 (Za4 (pst 10 sc_ar0.nd (Zb4 Ze4 (Ys3 (blk0 (N':=["_law_wish_here"]) (by decide +kernel) (by decide +kernel) rfl (by decide +kernel)) rfl (Ze7 (pxt (pvM 9) Za5)) (fun _ _ _ _=>(Zb6 (i:=0) (show (["_law_wish_here"]:List Str).Nodup from by decide +kernel) rfl (Or.inl rfl))) (fun _ _ _ _=>(Zb7 C__law_parts o (Za0 (pvM 0) Za2)))) (Zb5 (Za0 (Zb7 C__law_parts o (Za0 (pxt (pvM 9) Za5) Za2)) Za2))))
 (Za4 (Zc4 ((Zr2 (ptcM (Xl1) (Zc1 Zb8 (by exact rfl) m_len Zd2 (Za0 (pxt (pvM 9) Za5) Za2)) Za5) (Zl7 (ptcM (Xl1) (Zc1 (Xd4 rfl) (by exact rfl) m_max Xj8 (Za0 (pvM 10) Za2)) Za5)))).pt
  (Za6 (Zb1 (Zb3 (Za0 Za9 (Za0 (Zb5 (Za0 (pvM 5) Za2)) (Za0 (pvM 5) (Za0 Zd4 (Za0 (Zb5 Za2) Za2))))))))
  Zb2)
 (Za6 (Zb1 (pvM 9)))))))))))),?_⟩
 have lu:B.length=L.length:=Paired.length hL;have z5:0 < L.length:=List.length_pos_iff.mpr z1
 have q0:∀ m:Int,∃ n:Nat,m % ((B.length:Nat):Int)=(n:Int)/\n < L.length:=fun m=>by
  have m0:=Int.emod_nonneg m (show ((B.length:Nat):Int)≠0 by walk_at "o");have m1:=Int.emod_lt_of_pos m (show 0 < ((B.length:Nat):Int) by walk_at "o");exact⟨(m % ((B.length:Nat):Int)).toNat,by walk_at "o",by walk_at "o"⟩
 obtain⟨i,ei,hi⟩:=q0 (mix c 1);obtain⟨j,ej,hj⟩:=q0 (mix c 2)
 have q2:i < B.length:=by walk_at "o"
 obtain⟨li,z2,j9⟩:=paired_get hL (List.getElem?_eq_getElem q2);have X:=G.ok li (List.mem_of_getElem? z2);obtain⟨pi,wi,ai,gi,oi,yi,j2,i1,i2,i3,i4,i5,i6⟩:=j9;refine sqt (fun d b=>d=[some (.ref a),some (.int c),some (.ref D),some (.int (i:Nat)),none,none,none,none,none,none,none]/\b=H) ?_ ?_
 ·intro C u
  walk_at "1";refine⟨c,1,rfl,by decide,by decide,B,.inl (SqL.of W),_,rfl,by walk_at "o",?_⟩;rw[ei];exact u _ _ ⟨rfl,rfl⟩
 rintro y5 H1 ⟨rfl,rfl⟩;refine sqt (fun d b=>d=[some (.ref a),some (.int c),some (.ref D),some (.int (i:Nat)),some (.int (j:Nat)),none,none,none,none,none,none]/\b=H1) ?_ ?_
 ·intro C u
  walk_at "1";refine⟨c,2,rfl,by decide,by decide,B,.inl (SqL.of W),_,rfl,by walk_at "o",?_⟩;rw[ej];exact u _ _ ⟨rfl,rfl⟩
 rintro y4 H2 ⟨rfl,rfl⟩;refine sqt (fun d b=>∃ y ex,d=[some (.ref a),some (.int c),some (.ref D),some (.int (i:Nat)),some (.int (j:Nat)),some y,none,none,none,none,none]/\Same H2 b/\IsT K b y ex/\ex.ok/\ex.parts<=3) ?_ ?_
 ·intro C u
  walk_at "1";have c0:=Int.emod_nonneg c (show (2:Int)≠0 by decide);have c1:=Int.emod_lt_of_pos c (show (0:Int) < 2 by decide);refine⟨c,3,rfl,by decide,by decide,by decide,.inl ⟨by decide,by decide⟩,_,_,D,ws,rfl,Zm2 _ _,by walk_at "o",by walk_at "o",by walk_at "o",hW,hw,fun r b t e U=>u _ _ ⟨r,t,rfl,e,U.1,U.2.1.ok hw.2.2,by have:=U.2.2.1;walk_at "o"⟩⟩
 rintro y3 H3 ⟨y,ex,rfl,e3,hE,q6,z3⟩;have F:S40 ex:=⟨q6,by walk_at "o"⟩;refine sqt (fun d b=>∃ I o1,d=[some (.ref a),some (.int c),some (.ref D),some (.int (i:Nat)),some (.int (j:Nat)),some y,some I,none,none,none,none]/\Same H3 b/\IsT K b I o1/\S40 o1) ?_ ?_
 ·intro C u
  walk_at "1";refine⟨B,SqL.of (e3 _ _ W),_,Zd5 (List.getElem?_eq_getElem q2),pi,j2,_,e3.sqt i1,_,rfl,c,4,rfl,by decide,by decide,wi,_,y,yi,li.ws,ex,rfl,e3 _ _ i2,Za7 e3.keepT i3,X.ok.w,hE,fun r t b e o z=>u _ _ ⟨r,t,rfl,e,o,?_⟩⟩;rcases z with rfl | z
  ·exact F
  ·exact X.s40 t z
 rintro y2 H4 ⟨I,o1,rfl,e4,h1,k1⟩;refine sqt (fun d b=>∃ M o2,d=[some (.ref a),some (.int c),some (.ref D),some (.int (i:Nat)),some (.int (j:Nat)),some y,some I,some M,none,none,none]/\Same H4 b/\IsT K b M o2/\S40 o2) ?_ ?_
 ·intro C u
  walk_at "1";have S4:=e3.trans e4;refine⟨B,SqL.of (S4 _ _ W),_,Zd5 (List.getElem?_eq_getElem q2),pi,j2,_,S4.sqt i1,_,rfl,c,5,rfl,by decide,by decide,c,6,rfl,by decide,by decide,_,_,D,ws,rfl,Zm2 _ _,by decide,by decide,by decide,S4.seq hW,hw,fun r b t e U=>⟨wi,_,r,yi,li.ws,t,rfl,(S4.trans e) _ _ i2,Za7 (S4.trans e).keepT i3,X.ok.w,U.1,fun r' t' y8 e' o z=>u _ _ ⟨r',t',rfl,e.trans e',o,?_⟩⟩⟩;rcases z with rfl | z
  ·exact⟨U.2.1.ok hw.2.2,by have h:=U.2.2.1;have:(1:Int).toNat=1:=rfl;walk_at "o"⟩
  ·exact X.s40 _ z
 rintro y1 H5 ⟨M,o2,rfl,J,h2,k2⟩;have O:=(e3.trans e4).trans J;refine sqt (fun d b=>d=[some (.ref a),some (.int c),some (.ref D),some (.int (i:Nat)),some (.int (j:Nat)),some y,some I,some M,some (.int (c / 2 % 3)),none,none]/\b=H5) ?_ ?_
 ·intro C u
  walk_at "1";exact⟨⟨by decide,by decide⟩,by decide,u _ _ ⟨rfl,rfl⟩⟩
 rintro y0 H6 ⟨rfl,rfl⟩;refine sqt (fun d b=>∃ lv l,d=[some (.ref a),some (.int c),some (.ref D),some (.int (i:Nat)),some (.int (j:Nat)),some y,some I,some M,some (.int (c / 2 % 3)),some lv,none]/\Same H6 b/\IsLnF K H6 b lv l/\NewL L l) ?_ ?_
 ·intro C u
  walk_at "1";have j0:=hE.keep (e4.trans J).keepT;have j1:=h1.keep J.keepT;refine ite2 (fun _=>⟨⟨by decide,by decide⟩,a,B,L,_,i,j,y,ex,rfl,O _ _ W,IsLns.keep O hL,G,hi,hj,j0,F,fun v l b e hv Z=>u _ _ ⟨v,l,rfl,e,hv,Z⟩⟩) fun _=>ite2 (fun _=>⟨⟨by decide,by decide⟩,a,B,L,_,i,I,M,y,o1,o2,ex,rfl,O _ _ W,IsLns.keep O hL,G,hi,j1,h2,j0,k1,k2,q6,z3,fun v l b e hv Z=>u _ _ ⟨v,l,rfl,e,hv,Z⟩⟩) fun _=>⟨⟨by decide,by decide⟩,a,B,L,_,i,j,I,M,o1,o2,rfl,O _ _ W,IsLns.keep O hL,G,hi,hj,j1,h2,k1,k2,fun v l b e hv Z=>u _ _ ⟨v,l,rfl,e,hv,Z⟩⟩
 rintro z9 H7 ⟨lv,l,rfl,e7,q8,N⟩;have S7:=O.trans e7;have j5:=q8;obtain⟨pl,wl,al,gl,ol,yl,rfl,l1,l2,l3,l4,l5,l6⟩:=q8.ln;have j6:yl.length=l.ws.length:=Paired.length l3;have z4:=N.ok.wl;refine Xg5 (fun d b=>∃ sa,d=[some (.ref a),some (.int c),some (.ref D),some (.int (i:Nat)),some (.int (j:Nat)),some y,some I,some M,some (.int (c / 2 % 3)),some (.ref pl),some (.ref sa)]/\Same H7 b/\b sa=some (.lst (((l.ws++[l.g]).map fun t=>((t.parts:Nat):Int)).map V.int))) ?_ ?_
 rotate_left
 ·intro C u
  walk_at "1";unfold tLC;walk_at "1";refine⟨_,l1,_,rfl,wl,rfl,⟨_,SqL.of l2⟩,fun j3 q4=>?_⟩;refine Zu5 (xs:=yl) (fun n S b=>Same H7 b/\b j3=some (.lst S)/\S=((l.ws.take n).map fun t=>((t.parts:Nat):Int)).map V.int) ⟨Za1 q4 _,Za3,rfl⟩ (fun n S b Z ⟨e,h,hy⟩=>⟨h,?_,SqL.of (e _ _ l2)⟩) (fun n x S b hx ⟨e,h,hy⟩ C' hC'=>?_) (fun S b ⟨e,h,hy⟩=>?_)
  ·rw[hy,List.length_map,List.length_map,List.length_take]
   exact small1M (by walk_at "o")
  ·obtain⟨t,z,j7⟩:=paired_get l3 hx
   have y6:=N.ok.w t (List.mem_of_getElem? z);walk_at "1";refine⟨Ze9 (i:=0) rfl,x,t,rfl,j7.keep e.keepT,by have:=Zc5 t;walk_at "o",fun H5 J=>hC' _ _ (J _ _ h) ⟨(e.trans J).write q4,Za3,?_⟩⟩;rw[hy,List.take_succ,z,List.map_append,List.map_append];rfl
  ·rw[j6,List.take_length] at hy
   refine⟨_,e.sqt l1,_,rfl,gl,l.g,rfl,l4.keep e.keepT,by have:=N.ok.gp;have:=Zc5 l.g;walk_at "o",fun H5 J=>⟨by decide,fun p hp=>?_⟩⟩;have T:=Za1 hp (HO.lst [V.int ((l.g.parts:Nat):Int)])
   have hl:S.length=l.ws.length:=by rw[hy,List.length_map,List.length_map]
   refine⟨j3,rfl,S,(J.trans T) _ _ h,_,Za3,Nat.le_of_lt (Zb0 (by rw[hl,List.length_singleton];walk_at "o")),fun p1 Y=>u _ _ ⟨p1,rfl,((e.trans J).trans T).trans (Za1 Y _),?_⟩⟩;rw[Za3,hy,List.map_append,List.map_append];rfl
 rintro z8 H8 ⟨sa,rfl,e8,z0⟩;have S8:=S7.trans e8;refine sqt (fun d b=>d=[some (.ref a),some (.int c),some (.ref D),some (.int (i:Nat)),some (.int (j:Nat)),some y,some I,some M,some (.int (c / 2 % 3)),some (.ref pl),some (.ref sa)]/\b=H8/\OkL9 l) ?_ ?_
 ·intro C u
  walk_at "1"
  have q5:1<=sizeLine/\∀ p,H8 p=none->0<=sizeLine/\∀ p_1,upd H8 p (HO.lst [y]) p_1=none->5<=sizeLine/\∀ p_2,upd (upd H8 p (HO.lst [y])) p_1 (HO.lst []) p_2=none->Q (V.ref p_2) (upd (upd (upd H8 p (HO.lst [y])) p_1 (HO.lst [])) p_2 (HO.tup [V.str (Str.ofString "wish"),V.ref p,y,V.non,V.ref p_1])):=⟨by decide,fun p hp=>⟨by decide,fun p1 Y=>⟨by decide,fun p2 q7=>by
   have T:=Za1 hp (HO.lst [y]);have s2:=Za1 Y (HO.lst []);have q9:=hE.keep (((e4.trans J).trans e7).trans e8).keepT;have j8:IsW K (upd H8 p (HO.lst [y])) p [ex]:=⟨⟨[y],Za3,.cons (q9.keep T.keepT) .nil⟩,List.pairwise_singleton _ _⟩;have q1:OkLn ⟨"wish",some .wish,[ex],ex,none,[]⟩:=⟨rfl,F.w,by show 1<=60;decide,q6,by show ex.parts<=100;walk_at "o",Nat.zero_le _⟩
   exact q _ _ _ (((S8.trans T).trans s2).trans (Za1 q7 _)) (Zf9 (R:=some .wish) (on:=none) (ls:=[]) q7 (j8.keep s2) (q9.keep (T.trans s2).keepT) rfl Za3 (S8.free hp) ((S8.trans T).free Y)) ⟨q1,Xi8 (List.pairwise_singleton _ _) (by show (if ex∈[ex] then _ else _)=_;rw[if_pos (List.mem_singleton.mpr rfl)]) rfl⟩ ⟨q1,by show 1<=9;decide,fun t z=>by rw[List.mem_singleton.mp z];exact F.2,F.2⟩⟩⟩⟩
  refine⟨_,e8.sqt l1,_,rfl,wl,rfl,yl,.inl (SqL.of (e8 _ _ l2)),ite2 (fun _=>?_) fun y7=>⟨_,SqL.of z0,by simp,fun m hm j4=>ite2 (fun _=>q5) fun z6=>u _ _ ⟨rfl,rfl,?_⟩⟩⟩
  ·rw[if_pos trivial]
   exact q5
  ·have q3:∀ t∈l.ws++[l.g],t.parts<=40:=fun t z=>by
    have:=j4 ((t.parts:Nat):Int) (List.mem_map_of_mem (f:=fun t:Tm=>((t.parts:Nat):Int)) z);walk_at "o"
   exact⟨N.ok,by walk_at "o",fun t z=>q3 t (List.mem_append.mpr (.inl z)),q3 l.g (List.mem_append.mpr (.inr (List.mem_singleton.mpr rfl)))⟩
 rintro z7 H9 ⟨rfl,rfl,h9⟩;walk_at "1";exact q _ l _ S8 ((j5.keep e8).mono O) N h9
theorem sc_ac0:FnScope ["_law_script","_law_start","_law_most","_law_words_here","_law_first","_law_lines","_law_k"] ["_law_script","_law_start","_law_most","_law_words_here"] (Za8 (top 68)):=scm (by decide +kernel)
theorem Xu2:FnScope ["_law_lines"] ["_law_lines"] (Za8 (top 69)):=scm (by decide +kernel)
theorem Wa9 {k:Nat} (F_ac0:Df K mg "_law_built" (top 68) ["_law_script","_law_start","_law_most","_law_words_here"]) (C__law_statement:Cl P w K mg base k "_law_statement" ["_law_cell_here","_law_many","_law_words_here"] (Zk3 K 2)) (C__law_cell:Cl P w K mg base k "_law_cell" ["_law_script","_law_k"] (Yj2 K)) (C__law_next:Cl P w K mg base k "_law_next" ["_law_lines","_law_cell_here","_law_words_here"] (Yw1 K)) (C__law_mix:Cl P w K mg base k "_law_mix" ["_law_cell_here","_law_k"] (Zp4)) (m_range:mg "range"=none) (m_min:mg "min"=none) (m_len:mg "len"=none):Cl P w K mg base (k+1) "_law_built" ["_law_script","_law_start","_law_most","_law_words_here"] (Yo1 K):=by
 refine F_ac0.ok sc_ac0 (fun vs H Q E h=>?_) (fun _ _ A _ s H vs Q E N h=>?_)
 ·obtain⟨a,B,I,o,c,ws,rfl,_⟩:=h
  rfl
 obtain⟨a,B,I,o,c,ws,rfl,hS,Z,s0,s1,m0,m1,hW,hw,q⟩:=h
 refine⟨_,(Za4 (pst 4 sc_ac0.nd (Zb7 C__law_statement N (Za0 (Zb7 C__law_cell N (Za0 (pvM 0) (Za0 (pvM 1) Za2))) (Za0 Za5 (Za0 (pvM 3) Za2)))))
 (Za4 (pst 5 sc_ac0.nd (Zb5 (Za0 (Zb3 (Za0 Za9 (Za0 (Zb5 (Za0 (pvM 4) Za2)) (Za0 (pvM 4) (Za0 Zd4 (Za0 (Zb5 Za2) Za2)))))) Za2)))
 (Za4 (Zp5 PassesOwn.never rfl (Yx8 rfl m_range (Za0 (Zb4 Zd3 (pvM 1) Za5) (Za0 (Zc1 (Xd3 rfl) (by exact rfl) m_min Xj7 (Za0 (Zc1 Zb8 (by exact rfl) m_len Zd2 (Za0 (pvM 0) Za2)) (Za0 (Zb4 Zd3 (pvM 1) (pvM 2)) Za2))) Za2))) (Zb6 (i:=6) sc_ac0.nd rfl (Or.inl rfl))
  (Za6 (Zq2 (Yk5 F.plainAttrs_list F.slot_list_append F.type_list_append Zj5 (pvM 5) (Za0 (Zb7 C__law_next N (Za0 (pvM 5) (Za0 (Zb7 C__law_mix N (Za0 (Zb7 C__law_cell N (Za0 (pvM 0) (Za0 (pvM 6) Za2))) (Za0 (pvM 6) Za2))) (Za0 (pvM 3) Za2)))) Za2)))))
 (Za6 (Zb1 (pvM 5)))))),?_⟩
 refine sqt (fun g d=>∃ u f,g=[some (.ref a),some (.int o),some (.int c),some (.ref B),some u,none,none]/\Same H d/\IsT K d u f/\f.ok/\f.parts<=1) ?_ ?_
 ·intro C W
  walk_at "1";refine⟨a,I,o,rfl,hS,Z,s0,by walk_at "o",_,_,B,ws,rfl,Xd1 _ _,by decide,by decide,by decide,hW,hw,fun r d t e mt=>W _ _ ⟨r,t,rfl,e,mt.1,mt.2.1.ok hw.2.2,by have h:=mt.2.2.1;have:(1:Int).toNat=1:=rfl;walk_at "o"⟩⟩
 rintro q9 H1 ⟨u,f,rfl,e1,hf,q2,fp⟩;refine sqt (fun g d=>∃ m v l,g=[some (.ref a),some (.int o),some (.int c),some (.ref B),some u,some (.ref m),none]/\Same H d/\H m=none/\d m=some (.lst [v])/\IsLnN K m d v l/\GL [l]) ?_ ?_
 ·intro C W
  walk_at "1";refine⟨by decide,fun p Y=>⟨by decide,fun p1 q1=>⟨by decide,fun p2 q0=>⟨by decide,fun p3 O=>?_⟩⟩⟩⟩;have X:=Za1 Y (HO.lst [u]);have t2:=Za1 q1 (HO.lst []);have t3:=Za1 q0 (HO.tup [V.str "wish",V.ref p,u,V.non,V.ref p1]);have t4:=Za1 O (HO.lst [V.ref p2]);have q6:IsW K (upd H1 p (HO.lst [u])) p [f]:=⟨⟨[u],Za3,.cons (hf.keep X.keepT) .nil⟩,List.pairwise_singleton _ _⟩;have S3:=(((e1.trans X).trans t2).trans t3);have T:=Zf9 (x:="wish") (R:=some .wish) (on:=none) (ls:=[]) q0 (q6.keep t2) (hf.keep (X.trans t2).keepT) rfl Za3 (H0:=H) (e1.free Y) ((e1.trans X).free q1);have J:OkLn ⟨"wish",some .wish,[f],f,none,[]⟩:=⟨rfl,Zf5 q2 (by walk_at "o"),by show 1<=60;decide,q2,by show f.parts<=100;walk_at "o",Nat.zero_le _⟩;have gd:Zi3 [] 0 ⟨"wish",some .wish,[f],f,none,[]⟩=true:=Xi8 (List.pairwise_singleton _ _) (by show (if f∈[f] then _ else _)=_;rw[if_pos (List.mem_singleton.mpr rfl)]) rfl;have M:OkL9 ⟨"wish",some .wish,[f],f,none,[]⟩:=⟨J,by show 1<=9;decide,fun t ht=>by rw[List.mem_singleton.mp ht];show f.parts<=40;walk_at "o",by show f.parts<=40;walk_at "o"⟩;exact W _ _ ⟨p3,.ref p2,_,rfl,S3.trans t4,S3.free O,Za3,T.ln.n t4 O,GL.snoc (L:=[]) ⟨fun i hi=>absurd hi (Nat.not_lt_zero _),fun l Z=>(by cases Z),by decide⟩ ⟨J,gd⟩ M (by decide)⟩
 rintro q8 H2 ⟨m,v,l,rfl,e2,f2,h2,T,G⟩;refine sqt (fun g d=>∃ y j L,g=[some (.ref a),some (.int o),some (.int c),some (.ref B),some u,some (.ref m),y]/\Same H d/\d m=some (.lst j)/\IsLns K d j L/\GL L/\L≠[]) ?_ ?_
 ·intro C W
  walk_at "2"
  have hb:∃ b:Int,(if o+c < (((I.map V.int).length:Nat):Int) then o+c else (((I.map V.int).length:Nat):Int))=b/\0<=b/\b<=70:=by
   rw[List.length_map]
   by_cases h:o+c < ((I.length:Nat):Int)
   ·rw[if_pos h];exact⟨_,rfl,by walk_at "o",by walk_at "o"⟩
   ·rw[if_neg h];exact⟨_,rfl,by walk_at "o",by walk_at "o"⟩
  obtain⟨b,eb,b0,b1⟩:=hb;refine⟨_,.inl (e2.seq hS),by walk_at "o",by walk_at "o",?_⟩;rw[eb];refine⟨by walk_at "o",by walk_at "o",?_⟩;refine Zk0 (D:={ nx:=C,rt:=Q }) (n:=(b - (o+1)).toNat) (lo:=o+1) (fun i g d=>∃ y j L,g=[some (.ref a),some (.int o),some (.int c),some (.ref B),some u,some (.ref m),y]/\Same H d/\d m=some (.lst j)/\Paired (IsLnN K m d) j L/\GL L/\L≠[]/\L.length=i+1) ⟨none,[v],[l],rfl,e2,h2,.cons T .nil,G,by simp,rfl⟩ (fun i g d j0 Y=>?_) (fun g d ⟨y,j,L,z1,z2,z3,z4,z5,z6,_⟩=>W _ _ ⟨y,j,L,z1,z2,z3,Paired.mapP z4 fun _ _ z=>z.ln,z5,z6⟩);obtain⟨y,j,L,rfl,e,h,U,GG,S,q3⟩:=Y;have lu:j.length=L.length:=Paired.length U;walk_at "1";refine⟨.inl ⟨rfl,_,SqL.of h⟩,a,I,_,rfl,e.seq hS,Z,by walk_at "o",by walk_at "o",_,_,rfl,by walk_at "o",by walk_at "o",m,B,j,L,_,ws,rfl,h,Paired.mapP U fun _ _ z=>z.ln,GG,S,Zm2 _ _,e.seq hW,hw,fun v l H5 e5 hv q4 M=>?_⟩;have h5:=e5 _ _ h;have q5:Same H (upd H5 m (.lst (j++[v]))):=(e.trans e5).write f2;refine⟨j,h5,small1M (by walk_at "o"),q5,j++[v],Za3,L++[l],?_,GG.snoc q4 M (by walk_at "o"),by simp,by rw[List.length_append,List.length_singleton,q3]⟩;exact Zc8 (Paired.mapP U fun _ _ z=>(z.keep e5).write h5) (.cons ((hv.n h).write h5) .nil)
 rintro q7 H3 ⟨y,j,L,rfl,e3,h3,U,GG,S⟩;walk_at "1";exact q _ _ _ _ e3 f2 h3 U GG S
theorem Wa3 {k:Nat} (F_ai0:Df K mg "_law_copy" (top 69) ["_law_lines"]) (m_list:mg "list"=none):Cl P w K mg base (k+1) "_law_copy" ["_law_lines"] (Yn9 K):=by
 refine F_ai0.ok Xu2 (fun N H Q E h=>?_) (fun _ _ A _ s H N Q E hr h=>?_)
 ·obtain⟨a,r,L,rfl,_⟩:=h
  rfl
 obtain⟨a,r,L,rfl,G,I,q0,hn,q⟩:=h;refine⟨_,(Za6 (Zb1 (Ys3 (blk0 (N':=["_law_rule","_law_wishes","_law_goal","_law_on","_law_leans"]) (by decide +kernel) (by decide +kernel) rfl (by decide +kernel)) rfl (Ze7 (pvM 0)) (fun _ _ _ _=>(Yk4 (K:=K) (n:=5) rfl rfl (Zc0 (Zb6 (i:=0) (show (["_law_rule","_law_wishes","_law_goal","_law_on","_law_leans"]:List Str).Nodup from by decide +kernel) rfl (Or.inl rfl)) (Zc0 (Zb6 (i:=1) (show (["_law_rule","_law_wishes","_law_goal","_law_on","_law_leans"]:List Str).Nodup from by decide +kernel) rfl (Or.inl rfl)) (Zc0 (Zb6 (i:=2) (show (["_law_rule","_law_wishes","_law_goal","_law_on","_law_leans"]:List Str).Nodup from by decide +kernel) rfl (Or.inl rfl)) (Zc0 (Zb6 (i:=3) (show (["_law_rule","_law_wishes","_law_goal","_law_on","_law_leans"]:List Str).Nodup from by decide +kernel) rfl (Or.inl rfl)) (Zc0 (Zb6 (i:=4) (show (["_law_rule","_law_wishes","_law_goal","_law_on","_law_leans"]:List Str).Nodup from by decide +kernel) rfl (Or.inl rfl)) Zh9))))) rfl rfl)) (fun _ _ _ _=>(Zb3 (Za0 (pvM 0) (Za0 (Zg3 (Zr9 (K:=K) rfl) (by exact rfl) m_list Zh5 (Za0 (pvM 1) Za2)) (Za0 (pvM 2) (Za0 (pvM 3) (Za0 (Zg3 (Zr9 (K:=K) rfl) (by exact rfl) m_list Zh5 (Za0 (pvM 4) Za2)) Za2)))))))))),?_⟩;unfold tRet tLC;walk_at "1";have R:r.length=L.length:=Paired.length I;refine⟨⟨_,SqL.of G⟩,fun g b=>?_⟩;refine Zu5 (xs:=r) (fun i d f=>Same H f/\f g=some (.lst d)/\Paired (IsLnN K g f) d (L.take i)) ⟨Za1 b _,Za3,.nil⟩ (fun i d f hi ⟨e,h,hy⟩=>⟨h,?_,SqL.of (e _ _ G)⟩) (fun i x d f hx ⟨e,h,hy⟩ C' hC'=>?_) (fun d f ⟨e,h,hy⟩=>?_)
 ·have:=Paired.length hy
  rw[List.length_take] at this;exact small1M (by walk_at "o")
 ·obtain⟨l,U,D⟩:=paired_get I hx
  obtain⟨p,M,T,J,C,o,rfl,h1,h2,Z,Y,X,W⟩:=D.keep e;walk_at "1";refine⟨_,h1,rfl,_,_,rfl,_,_,rfl,_,_,rfl,_,_,rfl,_,_,rfl,rfl,(((Ze9 (i:=0) rfl).trans (Ze9 (i:=1) rfl)).trans (Ze9 (i:=2) rfl)).trans ((Ze9 (i:=3) rfl).trans (Ze9 (i:=4) rfl)),M,rfl,o,.inl (SqL.of h2),fun B m=>?_⟩;have u:=Za1 m (HO.lst o);refine⟨T,rfl,_,.inl (SqL.of (u _ _ W)),fun y j=>⟨by decide,fun O F=>?_⟩⟩;have v:=Za1 j (HO.lst (l.ls.map V.int));have t:=Za1 F (HO.tup [V.str l.x,V.ref B,J,C,V.ref y]);have S:=(u.trans v).trans t;refine hC' _ _ (S _ _ h) ⟨(e.trans S).write b,Za3,?_⟩;rw[Yr8 U];have c:=S _ _ h;refine Zc8 (Paired.mapP hy fun _ _ z=>(z.keep S).write c) (.cons (IsLnN.write c ?_) .nil);exact⟨O,B,y,J,C,o,rfl,.inl (.inl Za3),(v.trans t) _ _ Za3,Za7 S.keepT Z,Y.keep S.keepT,X.keep S.keepT,t _ _ Za3,Ne.symm (Zb9 h m),Ne.symm (Zb9 (u _ _ h) j)⟩
 ·rw[R,List.take_length] at hy
  exact q g d _ e b h (Paired.mapP hy fun _ _ z=>z.ln)
theorem sc_av0:FnScope ["_law_lines","_law_cell_here","_law_words_here","_law_at","_law_rule","_law_wishes","_law_goal","_law_on","_law_leans","_law_extra","_law_form","_law_some","_law_k"] ["_law_lines","_law_cell_here","_law_words_here"] (Za8 (top 70)):=scm (by decide +kernel)
@[irreducible] noncomputable def esA:List PySem.Expr:=match (Ze0 (top 70)).getD 4 (.Pass ⟨0,0,0,0⟩) with
 | .If _ (.Assign _ (.List es _) _ :: _) _ _=>es
 | _=>[]
@[irreducible] noncomputable def esB:List PySem.Expr:=match (Ze0 (top 70)).getD 4 (.Pass ⟨0,0,0,0⟩) with
 | .If _ [_,.Assign _ (.Subscript (.BinOp _ _ (.List es _) _) _ _) _] _ _=>es
 | _=>[]
noncomputable def Wg5:List Stmt:=(Ze0 (top 70)).take 4++[.If (.Compare (.Name "_law_form" ⟨392,7,392,16⟩) [.Eq] [.Constant (.int 0) 0 ⟨392,20,392,21⟩] ⟨392,7,392,21⟩) [.Assign [.Name "_law_some" ⟨393,8,393,17⟩] (.List esA ⟨393,20,393,118⟩) ⟨393,8,393,118⟩,.Assign [.Name "_law_rule" ⟨394,8,394,17⟩] (.Subscript (.BinOp (.Name "_law_some" ⟨394,21,394,30⟩) .Add (.List esB ⟨394,33,394,72⟩) ⟨394,21,394,72⟩) (.BinOp (.Call (.Name "_law_mix" ⟨394,74,394,82⟩) [.Name "_law_cell_here" ⟨394,83,394,97⟩,.Constant (.int 32) 0 ⟨394,99,394,101⟩] [] ⟨394,74,394,102⟩) .Mod (.Constant (.int 16) 0 ⟨394,105,394,107⟩) ⟨394,74,394,107⟩) ⟨394,20,394,108⟩) ⟨394,8,394,108⟩] [] ⟨392,4,394,108⟩]++(Ze0 (top 70)).drop 5
theorem Xr0:Ze0 (top 70)=Wg5:=by kernel_rfl
def Xg0:List (Str×Nat×Pos)->TA
 | []=>tNil
 | q :: l=>Ye5 (tC (.str q.1)) (Xg0 l)
theorem Yy5 {X:Cx}:∀ l:List (Str×Nat×Pos),PA X (l.map fun q=>Expr.Constant (.str q.1) q.2.1 q.2.2) (Xg0 l)
 | []=>Za2
 | q :: l=>Za0 Za9 (Yy5 l)
theorem Yy1 {X:Cx} {es:List PySem.Expr} {pos:Pos} (l:List (Str×Nat×Pos)) (h:es=l.map fun q=>Expr.Constant (.str q.1) q.2.1 q.2.2):PE X (.List es pos) (tLst (Xg0 l)):=by
 subst h;exact Zb5 (Yy5 l)
theorem Xg2 {K:W.Frag} {n b:Nat} {H H' H'':Hp} (s:Same H' H'') {x x':Str} {wv:Addr} {gv ov:V} {lv:Addr} {R R':Option Rl} {us:List V} {ts:List Tm} {g:Tm} {on:Option Tm} {ls:List Int} (h:SpL K n b H H' x wv gv ov lv R us ts g on ls) (hR:RIs x' R'):SpE K n b H H'' x' wv gv ov lv:=⟨R',us,ts,g,on,ls,{ h.keep s with r:=hR }⟩
theorem Xn7 (i:Int):∃ y R,atI [V.str "wish",.str "low",.str "both",.str "first",.str "second",.str "then",.str "parts",.str "cases",.str "known",.str "curried",.str "either",.str "idle",.str "chain",.str "use",.str "cut",.str "Wish"] (i % 16)=some (V.str y)/\RIs y R:=by
 have b:=Int.emod_nonneg i (show (16:Int)≠0 by decide);have a:=Int.emod_lt_of_pos i (show (0:Int) < 16 by decide);generalize i % 16=m at b a ⊢
 have h:m=0∨m=1∨m=2∨m=3∨m=4∨m=5∨m=6∨m=7∨m=8∨m=9∨m=10∨m=11∨m=12∨m=13∨m=14∨m=15:=by walk_at "o"
 rcases h with rfl | rfl | rfl | rfl | rfl | rfl | rfl | rfl | rfl | rfl | rfl | rfl | rfl | rfl | rfl | rfl
 ·exact⟨_,some .wish,rfl,rfl⟩
 ·exact⟨_,some .low,rfl,rfl⟩
 ·exact⟨_,some .both,rfl,rfl⟩
 ·exact⟨_,some .first,rfl,rfl⟩
 ·exact⟨_,some .second,rfl,rfl⟩
 ·exact⟨_,some .thn,rfl,rfl⟩
 ·exact⟨_,some .parts,rfl,rfl⟩
 ·exact⟨_,some .cases,rfl,rfl⟩
 ·exact⟨_,some .known,rfl,rfl⟩
 ·exact⟨_,some .curried,rfl,rfl⟩
 ·exact⟨_,some .either,rfl,rfl⟩
 ·exact⟨_,some .idle,rfl,rfl⟩
 ·exact⟨_,some .chain,rfl,rfl⟩
 ·exact⟨_,some .use,rfl,rfl⟩
 ·exact⟨_,none,rfl,.head _⟩
 ·exact⟨_,none,rfl,.tail _ (.tail _ (.head _))⟩
set_option maxHeartbeats 20000000 in
theorem Xz1 {k:Nat} (F_av0:Df K mg "_law_spoiled" (top 70) ["_law_lines","_law_cell_here","_law_words_here"]) (C__law_wish:Cl P w K mg base k "_law_wish" ["_law_cell_here","_law_words_here"] (Ye7 K)) (C__law_mix:Cl P w K mg base k "_law_mix" ["_law_cell_here","_law_k"] (Zp4)) (C__law_once:Cl P w K mg base k "_law_once" ["_law_some"] (Zi5 K)) (m_len:mg "len"=none) (m_range:mg "range"=none) (m_reversed:mg "reversed"=none):Cl P w K mg base (k+1) "_law_spoiled" ["_law_lines","_law_cell_here","_law_words_here"] (Ye8 K):=by
 refine F_av0.ok sc_av0 (fun vs H Q E h=>?_) (fun _ _ A _ s H vs Q E hr h=>?_)
 ·obtain⟨a,Y,us,L,c,ws,n,rfl,_⟩:=h
  rfl
 obtain⟨a,Y,us,L,c,ws,n,rfl,ha,hL,j8,v2,l150,hn,hc,y5,hw,q⟩:=h;have lu:us.length=L.length:=Paired.length hL;rw[Xr0]
 refine⟨_,(Za4 (Zg1 (i:=3) sc_av0.nd rfl (Or.inr rfl) (Zb4 Zc6 (Zb4 Zd0 (pvM 1) Za5) (Zc1 Zb8 (by exact rfl) m_len Zd2 (Za0 (pvM 0) Za2))))
 (Za4 (Zr3 (pxl (pvM 0) (pvM 3)) (Zo0 rfl (Zc0 (Zb6 (i:=4) sc_av0.nd rfl (Or.inl rfl)) (Zc0 (Zb6 (i:=5) sc_av0.nd rfl (Or.inl rfl)) (Zc0 (Zb6 (i:=6) sc_av0.nd rfl (Or.inl rfl)) (Zc0 (Zb6 (i:=7) sc_av0.nd rfl (Or.inl rfl)) (Zc0 (Zb6 (i:=8) sc_av0.nd rfl (Or.inl rfl)) Zh9)))))))
 (Za4 (pst 9 sc_av0.nd (Zb7 C__law_wish hr (Za0 (Zb7 C__law_mix hr (Za0 (pvM 1) (Za0 Za5 Za2))) (Za0 (pvM 2) Za2))))
 (Za4 (pst 10 sc_av0.nd (Zb4 Zc6 (pvM 1) Za5))
 (Za4 (Zc4 (ptcM (Zd6) (pvM 10) Za5)
  (Za4 (pst 11 sc_av0.nd (Yy1 [("wish",0,⟨393,21,393,27⟩),("low",0,⟨393,29,393,34⟩),("both",0,⟨393,36,393,42⟩),("first",0,⟨393,44,393,51⟩),("second",0,⟨393,53,393,61⟩),("then",0,⟨393,63,393,69⟩),("parts",0,⟨393,71,393,78⟩),("cases",0,⟨393,80,393,87⟩),("known",0,⟨393,89,393,96⟩),("curried",0,⟨393,98,393,107⟩),("either",0,⟨393,109,393,117⟩)] (by kernel_rfl)))
 (Za6 (pst 4 sc_av0.nd (pxl (Zb4 Ze4 (pvM 11) (Yy1 [("idle",0,⟨394,34,394,40⟩),("chain",0,⟨394,42,394,49⟩),("use",0,⟨394,51,394,56⟩),("cut",0,⟨394,58,394,63⟩),("Wish",0,⟨394,65,394,71⟩)] (by kernel_rfl))) (Zb4 Zc6 (Zb7 C__law_mix hr (Za0 (pvM 1) (Za0 Za5 Za2))) Za5)))))
  Zb2)
 (Za4 (Zc4 (ptcM (Zd6) (pvM 10) Za5)
  (Za6 (pst 6 sc_av0.nd (pvM 9)))
  Zb2)
 (Za4 (Zc4 ((Zg0 (ptcM (Zd6) (pvM 10) Za5) (Ze6 (ptcM (Zo3 (Ze1 hr)) (pvM 5) (Zb5 Za2))))).pt
  (Za4 (pst 12 sc_av0.nd (Zb4 Zc6 (Zb7 C__law_mix hr (Za0 (pvM 1) (Za0 Za5 Za2))) (Zc1 Zb8 (by exact rfl) m_len Zd2 (Za0 (pvM 5) Za2))))
 (Za6 (pst 5 sc_av0.nd (Zb4 Ze4 (Ze5 Zh8 (pvM 5) Zf4 (Zf3 (pvM 12))) (Ze5 Zh8 (pvM 5) (Zf3 (Zb4 Zd3 (pvM 12) Za5)) Zf4)))))
  Zb2)
 (Za4 (Zc4 (ptcM (Zd6) (pvM 10) Za5)
  (Za6 (Yb1 (i:=5) sc_av0.nd rfl (Or.inl rfl) (blk0 (N':=["_law_wish_here"]) (by decide +kernel) (by decide +kernel) rfl (by decide +kernel)) rfl (Xv0 rfl m_reversed (Za0 (pvM 5) Za2)) (fun _ _ _ _=>(Zb6 (i:=0) (show (["_law_wish_here"]:List Str).Nodup from by decide +kernel) rfl (Or.inl rfl))) (fun _ _ _ _=>(pvM 0)) rfl))
  Zb2)
 (Za4 (Zc4 ((Zg0 (ptcM (Zd6) (pvM 10) Za5) (Ze6 (ptcM (Zo3 (Ze1 hr)) (pvM 5) (Zb5 Za2))))).pt
  (Za4 (pst 12 sc_av0.nd (Zb4 Zc6 (Zb7 C__law_mix hr (Za0 (pvM 1) (Za0 Za5 Za2))) (Zc1 Zb8 (by exact rfl) m_len Zd2 (Za0 (pvM 5) Za2))))
 (Za6 (pst 5 sc_av0.nd (Zb4 Ze4 (Zb4 Ze4 (Ze5 Zh8 (pvM 5) Zf4 (Zf3 (pvM 12))) (Zb5 (Za0 (pxl (pvM 5) (pvM 12)) Za2))) (Ze5 Zh8 (pvM 5) (Zf3 (pvM 12)) Zf4)))))
  Zb2)
 (Za4 (Zc4 (ptcM (Zd6) (pvM 10) Za5)
  (Za6 (pst 7 sc_av0.nd (pxl (Zb4 Ze4 (Zb5 (Za0 Zd4 (Za0 (pvM 9) Za2))) (pvM 5)) (Zb4 Zc6 (Zb7 C__law_mix hr (Za0 (pvM 1) (Za0 Za5 Za2))) (Zb4 Zd3 Za5 (Zc1 Zb8 (by exact rfl) m_len Zd2 (Za0 (pvM 5) Za2)))))))
  Zb2)
 (Za4 (Zc4 ((Zg0 (ptcM (Zd6) (pvM 10) Za5) (Ze6 (ptcM (Zo3 (Ze1 hr)) (pvM 8) (Zb5 Za2))))).pt
  (Za6 (pst 8 sc_av0.nd (Zb4 Ze4 (Zb5 (Za0 (pvM 3) Za2)) (Ze5 Zh8 (pvM 8) (Zf3 Za5) Zf4))))
  Zb2)
 (Za4 (Zc4 ((Zg0 (ptcM (Zd6) (pvM 10) Za5) (Ze6 (ptcM (Zo3 (Ze1 hr)) (pvM 8) (Zb5 Za2))))).pt
  (Za6 (pst 8 sc_av0.nd (Zb4 Ze4 (Ze5 Zh8 (pvM 8) Zf4 (Zf3 (Yy0 Yd5 Za5))) (Zb5 (Za0 (Zb4 Zo2 (Zb4 Zo2 Za5 Za5) (Zb4 Zc6 (Zb7 C__law_mix hr (Za0 (pvM 1) (Za0 Za5 Za2))) Za5)) Za2)))))
  Zb2)
 (Za4 (Zc4 (ptcM (Zd6) (pvM 10) Za5)
  (Za6 (pst 8 sc_av0.nd (Zb4 Ze4 (pvM 8) (Zb5 (Za0 (Zb4 Zc6 (Zb7 C__law_mix hr (Za0 (pvM 1) (Za0 Za5 Za2))) (Zb4 Zd3 (pvM 3) Za5)) Za2)))))
  Zb2)
 (Za4 (Zc4 (ptcM (Zd6) (pvM 10) Za5)
  (Za6 (pst 8 sc_av0.nd (Ze5 Zh8 (pvM 8) Zf4 (Zf3 (Yy0 Yd5 Za5)))))
  Zb2)
 (Za4 (Zc4 (ptcM (Zd6) (pvM 10) Za5)
  (Za6 (Yb1 (i:=8) sc_av0.nd rfl (Or.inl rfl) (blkC (N':=["_law_k","_law_cell_here","_law_at"]) (nt:=1) (ci:=[1,3]) ["_law_lines","_law_cell_here","_law_words_here","_law_at","_law_rule","_law_wishes","_law_goal","_law_on","_law_leans","_law_extra","_law_form","_law_some","_law_k"] (Za8 (top 70)) rfl rfl (by decide +kernel) rfl (by decide +kernel) (by decide +kernel) rfl (by decide +kernel)) rfl (Zi8 rfl m_range (Za0 (Zc1 Zb8 (by exact rfl) m_len Zd2 (Za0 (pvM 8) Za2)) Za2)) (fun _ _ _ _=>(Zb6 (i:=0) (show (["_law_k","_law_cell_here","_law_at"]:List Str).Nodup from by decide +kernel) rfl (Or.inl rfl))) (fun _ _ _ _=>(Zb4 Zc6 (Zb7 C__law_mix hr (Za0 (pvM 1) (Za0 (Zb4 Zd3 Za5 (pvM 0)) Za2))) (Zb4 Zd3 (pvM 2) Za5))) rfl))
  Zb2)
 (Za4 (Zc4 (ptcM (Zd6) (pvM 10) Za5)
  (Za6 (pst 5 sc_av0.nd (Zb7 C__law_once hr (Za0 (Zb4 Ze4 (pvM 5) (Zb5 (Za0 (pvM 9) Za2))) Za2))))
  Zb2)
 (Za6 (Zb1 (Zb4 Ze4 (Zb4 Ze4 (Ze5 Zh8 (pvM 0) Zf4 (Zf3 (pvM 3))) (Zb5 (Za0 (Zb3 (Za0 (pvM 4) (Za0 (pvM 5) (Za0 (pvM 6) (Za0 (pvM 7) (Za0 (pvM 8) Za2)))))) Za2))) (Ze5 Zh8 (pvM 0) (Zf3 (Zb4 Zd3 (pvM 3) Za5)) Zf4)))))))))))))))))))),?_⟩
 have hpos:0 < us.length:=by rw[lu];cases L with
  | nil=>exact absurd rfl v2
  | cons _ _=>exact Nat.succ_pos _
 obtain⟨G,v7⟩:=Int.eq_ofNat_of_zero_le (Int.emod_nonneg (c / 12) (show ((us.length:Nat):Int)≠0 by walk_at "o"));have hat2:=Int.emod_lt_of_pos (c / 12) (show (0:Int) < ((us.length:Nat):Int) by walk_at "o")
 have j3:G < us.length:=by walk_at "o"
 obtain⟨l0,v5,y6⟩:=paired_get hL (List.getElem?_eq_getElem j3);have q7:=j8 l0 (List.mem_of_getElem? v5);obtain⟨p0,q9,j1,j2,j0,y3,y9,g1,g2,g3,g4,g5,g6⟩:=y6;have y0:SpL K n 0 H H l0.x q9 j2 j0 j1 l0.R y3 l0.ws l0.g l0.on l0.ls:=⟨Same.refl _,q7.ok.r,g2,g3,q7.ok.w,q7.wl,g4,q7.ok.g,q7.ok.gp,g5,g6,q7.ll⟩;refine sqt (fun N H'=>N=[some (.ref a),some (.int c),some (.ref Y),some (.int (G:Nat)),none,none,none,none,none,none,none,none,none]/\H'=H) ?_ ?_
 ·intro C Z
  walk_at "1";refine⟨⟨by decide,by decide⟩,us,.inl (SqL.of ha),by walk_at "o",?_⟩;rw[v7];exact Z _ _ ⟨rfl,rfl⟩
 rintro σ1 H1 ⟨rfl,rfl⟩;refine sqt (fun N H'=>N=[some (.ref a),some (.int c),some (.ref Y),some (.int (G:Nat)),some (.str l0.x),some (.ref q9),some j2,some j0,some (.ref j1),none,none,none,none]/\H'=H1) ?_ ?_
 ·intro C Z
  walk_at "1";exact⟨us,SqL.of ha,_,Zd5 (List.getElem?_eq_getElem j3),p0,y9,_,g1,rfl,_,_,rfl,_,_,rfl,_,_,rfl,_,_,rfl,_,_,rfl,rfl,Z _ _ ⟨rfl,rfl⟩⟩
 rintro σ2 H2 ⟨rfl,rfl⟩;refine sqt (fun N H'=>∃ T ex,N=[some (.ref a),some (.int c),some (.ref Y),some (.int (G:Nat)),some (.str l0.x),some (.ref q9),some j2,some j0,some (.ref j1),some T,none,none,none]/\Same H2 H'/\IsT K H' T ex/\ex.ok/\ex.parts<=11) ?_ ?_
 ·intro C Z
  walk_at "1";exact⟨c,31,rfl,by decide,by decide,_,Y,ws,rfl,Zm2 _ _,y5,hw,fun v H' t e ht hk hp=>Z _ _ ⟨v,t,rfl,e,ht,hk,hp⟩⟩
 rintro σ3 H3 ⟨T,ex,rfl,e3,q4,j5,exp⟩;refine sqt (fun N H'=>N=[some (.ref a),some (.int c),some (.ref Y),some (.int (G:Nat)),some (.str l0.x),some (.ref q9),some j2,some j0,some (.ref j1),some T,some (.int (c % 12)),none,none]/\H'=H3) ?_ ?_
 ·intro C Z
  walk_at "1";exact⟨by decide,Z _ _ ⟨rfl,rfl⟩⟩
 rintro σ4 H4 ⟨rfl,rfl⟩;obtain⟨f,b,x,u,F,D,B,e4,W,es⟩:∃ (f b:Option V) (x:Str) (u:Addr) (F D:V) (B:Addr),Same H4 H4/\SpE K n 0 H2 H4 x u F D B/\[some (.ref a),some (.int c),some (.ref Y),some (.int (G:Nat)),some (.str l0.x),some (.ref q9),some j2,some j0,some (.ref j1),some T,some (.int (c % 12)),none,none]=[some (.ref a),some (.int c),some (.ref Y),some (.int (G:Nat)),some (.str x),some (.ref u),some F,some D,some (.ref B),some T,some (.int (c % 12)),f,b]:=⟨none,none,_,_,_,_,_,Same.refl _,⟨_,_,_,_,_,_,y0.keep e3⟩,rfl⟩;rw[es];clear es;refine sqt (fun N H'=>∃ f b x u F D B,N=[some (.ref a),some (.int c),some (.ref Y),some (.int (G:Nat)),some (.str x),some (.ref u),some F,some D,some (.ref B),some T,some (.int (c % 12)),f,b]/\Same H4 H'/\SpE K n 0 H2 H' x u F D B) ?_ ?_
 ·intro C Z
  have J:∀ (H':Hp) (f b:Option V) (x:Str) (u:Addr) (F D:V) (B:Addr),Same H4 H'->SpE K n 0 H2 H' x u F D B->C [some (.ref a),some (.int c),some (.ref Y),some (.int (G:Nat)),some (.str x),some (.ref u),some F,some D,some (.ref B),some T,some (.int (c % 12)),f,b] H':=fun H' f b x u F D B e h=>Z _ _ ⟨f,b,x,u,F,D,B,rfl,e,h⟩;have O:=J _ f b x u F D B e4 W;obtain⟨R,m,M,g,on,ls,I⟩:=W;have q1:=q4.keep e4.keepT;have q3:m.length=M.length:=Paired.length I.p;have bw:=I.wl;have bl:=I.ll;walk_at "1";refine ite2 (fun _=>?_) (fun _=>O);simp only[Xg0];walk_at "1";refine⟨by decide,fun p hp=>⟨by decide,fun p1 q0=>⟨_,(Za1 q0 _) _ _ Za3,_,Za3,by decide,fun p2 q2=>?_⟩⟩⟩;refine⟨c,32,rfl,by decide,by decide,_,rfl,by decide,_,SqL.of Za3,?_⟩;obtain⟨y,R',hy,hR⟩:=Xn7 (mix c 32);exact⟨_,hy,J _ _ _ _ _ _ _ _ (e4.trans ((Za1 hp _).trans ((Za1 q0 _).trans (Za1 q2 _)))) (Xg2 ((Za1 hp _).trans ((Za1 q0 _).trans (Za1 q2 _))) I hR)⟩
 rintro σ5 H5 ⟨f,b,x,u,F,D,B,rfl,e5,W⟩;refine sqt (fun N H'=>∃ f b x u F D B,N=[some (.ref a),some (.int c),some (.ref Y),some (.int (G:Nat)),some (.str x),some (.ref u),some F,some D,some (.ref B),some T,some (.int (c % 12)),f,b]/\Same H4 H'/\SpE K n 0 H2 H' x u F D B) ?_ ?_
 ·intro C Z
  have J:∀ (H':Hp) (f b:Option V) (x:Str) (u:Addr) (F D:V) (B:Addr),Same H4 H'->SpE K n 0 H2 H' x u F D B->C [some (.ref a),some (.int c),some (.ref Y),some (.int (G:Nat)),some (.str x),some (.ref u),some F,some D,some (.ref B),some T,some (.int (c % 12)),f,b] H':=fun H' f b x u F D B e h=>Z _ _ ⟨f,b,x,u,F,D,B,rfl,e,h⟩;have O:=J _ f b x u F D B e5 W;obtain⟨R,m,M,g,on,ls,I⟩:=W;have q1:=q4.keep e5.keepT;have q3:m.length=M.length:=Paired.length I.p;have bw:=I.wl;have bl:=I.ll;walk_at "1";exact ite2 (fun _=>J _ _ _ _ _ _ _ _ e5 ⟨R,m,M,ex,on,ls,{ I with t:=q1,go:=j5,gp:=by walk_at "o" }⟩) (fun _=>O)
 rintro σ6 H6 ⟨f,b,x,u,F,D,B,rfl,e6,W⟩;refine sqt (fun N H'=>∃ f b x u F D B,N=[some (.ref a),some (.int c),some (.ref Y),some (.int (G:Nat)),some (.str x),some (.ref u),some F,some D,some (.ref B),some T,some (.int (c % 12)),f,b]/\Same H4 H'/\SpE K n 0 H2 H' x u F D B) ?_ ?_
 ·intro C Z
  have J:∀ (H':Hp) (f b:Option V) (x:Str) (u:Addr) (F D:V) (B:Addr),Same H4 H'->SpE K n 0 H2 H' x u F D B->C [some (.ref a),some (.int c),some (.ref Y),some (.int (G:Nat)),some (.str x),some (.ref u),some F,some D,some (.ref B),some T,some (.int (c % 12)),f,b] H':=fun H' f b x u F D B e h=>Z _ _ ⟨f,b,x,u,F,D,B,rfl,e,h⟩;have O:=J _ f b x u F D B e6 W;obtain⟨R,m,M,g,on,ls,I⟩:=W;have q1:=q4.keep e6.keepT;have q3:m.length=M.length:=Paired.length I.p;have bw:=I.wl;have bl:=I.ll;walk_at "3";refine ite2 (fun _=>⟨by decide,fun p hp=>?_⟩) (fun _=>?_)
  rotate_left
  ·rw[if_neg Bool.false_ne_true];exact O
  have sp:=Za1 hp (HO.lst []);have U:=I.keep sp;refine⟨.list (M.map Tm.data),?_,.list [],?_,Zm7 fun t ht=>(I.w t ht).1,rfl,Nat.le_trans (Nat.min_le_right _ _) (by decide),?_⟩
  ·rw[Dn];exact⟨u,m,rfl,SqL.of U.h,Zq7 U.p⟩
  ·rw[Dn];exact⟨p,[],rfl,SqL.of Za3,by rw[DnAll]⟩
  have eS:=e6.trans sp;generalize upd H6 p (HO.lst [])=Hb at sp U eS ⊢;rw[Yq5]
  cases hz:M.isEmpty with
  | true =>
   rw[if_neg (by decide)];exact J _ _ _ _ _ _ _ _ eS ⟨R,m,M,g,on,ls,U⟩
  | false =>
  rw[if_pos (by rfl)];walk_at "1"
  have h0:0 < m.length:=by rw[q3];cases M with
   | nil=>cases hz
   | cons _ _=>exact Nat.succ_pos _
  obtain⟨X,j9⟩:=Int.eq_ofNat_of_zero_le (Int.emod_nonneg (mix c 33) (show ((m.length:Nat):Int)≠0 by walk_at "o"));have v6:=Int.emod_lt_of_pos (mix c 33) (show (0:Int) < ((m.length:Nat):Int) by walk_at "o")
  have j4:X < m.length:=by walk_at "o"
  refine⟨c,33,rfl,by decide,by decide,m,.inl (SqL.of U.h),_,rfl,by walk_at "o",m,SqL.of U.h,?_⟩;rw[j9,Zu7 (by walk_at "o")];intro p1 q0;have s1:=Za1 q0 (HO.lst (m.take X));refine⟨m,SqL.of (s1 _ _ U.h),?_⟩;rw[Yq8 j4];intro p2 q2;have s2:=Za1 q2 (HO.lst (m.drop (X+1)));refine⟨m.take X,s2 _ _ Za3,m.drop (X+1),Za3,Nat.le_of_lt (Zb0 (by rw[List.length_take,List.length_drop];walk_at "o")),fun p3 q5=>?_⟩;have s3:=Za1 q5 (HO.lst (m.take X++m.drop (X+1)));have S:=(s1.trans s2).trans s3;have I2:=U.keep S;exact J _ _ _ _ _ _ _ _ (eS.trans S) (U.wish S (us':=m.take X++m.drop (X+1)) (ts':=M.take X++M.drop (X+1)) Za3 (Zc8 (Zi0 I2.p X) (Zk5 (X+1) I2.p)) (fun t ht=>I.w t ((List.mem_append.mp ht).elim List.mem_of_mem_take List.mem_of_mem_drop)) (by rw[List.length_append,List.length_take,List.length_drop];walk_at "o") (Nat.le_refl _))
 rintro σ7 H7 ⟨f,b,x,u,F,D,B,rfl,e7,W⟩;refine sqt (fun N H'=>∃ f b x u F D B,N=[some (.ref a),some (.int c),some (.ref Y),some (.int (G:Nat)),some (.str x),some (.ref u),some F,some D,some (.ref B),some T,some (.int (c % 12)),f,b]/\Same H4 H'/\SpE K n 0 H2 H' x u F D B) ?_ ?_
 ·intro C Z
  have J:∀ (H':Hp) (f b:Option V) (x:Str) (u:Addr) (F D:V) (B:Addr),Same H4 H'->SpE K n 0 H2 H' x u F D B->C [some (.ref a),some (.int c),some (.ref Y),some (.int (G:Nat)),some (.str x),some (.ref u),some F,some D,some (.ref B),some T,some (.int (c % 12)),f,b] H':=fun H' f b x u F D B e h=>Z _ _ ⟨f,b,x,u,F,D,B,rfl,e,h⟩;have O:=J _ f b x u F D B e7 W;obtain⟨R,m,M,g,on,ls,I⟩:=W;have q1:=q4.keep e7.keepT;have q3:m.length=M.length:=Paired.length I.p;have bw:=I.wl;have bl:=I.ll;walk_at "1";refine ite2 (fun _=>?_) (fun _=>O);unfold tLC;walk_at "1";refine⟨m,SqL.of I.h,fun z9 q6=>?_⟩;refine Xp5 (xs:=m) (fun i ys H'=>Same H7 H'/\H' z9=some (.lst ys)/\ys=m.reverse.take i) ⟨Za1 q6 _,Za3,rfl⟩ (fun i ys H' hi ⟨e,h,hy⟩=>⟨h,?_,SqL.of (e _ _ I.h)⟩) (fun i x ys H' hi hx ⟨e,h,hy⟩ C' hC'=>?_) (fun ys H' ⟨e,h,hy⟩=>?_)
  ·subst hy
   rw[List.length_take,List.length_reverse];exact Zb0 (by walk_at "o")
  ·walk_at "1"
   refine⟨Yv0,hC' _ _ h ⟨e.write q6,Za3,?_⟩⟩;rw[List.take_add_one,List.getElem?_reverse hi,hx,hy];rfl
  ·rw[<- List.length_reverse,List.take_length] at hy
   subst hy;exact J _ _ _ _ _ _ _ _ (e7.trans e) (I.wish e (us':=m.reverse) (ts':=M.reverse) h (Zz1 (I.keep e).p) (fun t ht=>I.w t (List.mem_reverse.mp ht)) (by rw[List.length_reverse];walk_at "o") (Nat.le_refl _))
 rintro σ8 H8 ⟨f,b,x,u,F,D,B,rfl,e8,W⟩;refine sqt (fun N H'=>∃ f b x u F D B,N=[some (.ref a),some (.int c),some (.ref Y),some (.int (G:Nat)),some (.str x),some (.ref u),some F,some D,some (.ref B),some T,some (.int (c % 12)),f,b]/\Same H4 H'/\SpE K n 1 H2 H' x u F D B) ?_ ?_
 ·intro C Z
  have J:∀ (H':Hp) (f b:Option V) (x:Str) (u:Addr) (F D:V) (B:Addr),Same H4 H'->SpE K n 1 H2 H' x u F D B->C [some (.ref a),some (.int c),some (.ref Y),some (.int (G:Nat)),some (.str x),some (.ref u),some F,some D,some (.ref B),some T,some (.int (c % 12)),f,b] H':=fun H' f b x u F D B e h=>Z _ _ ⟨f,b,x,u,F,D,B,rfl,e,h⟩;have O:=J _ f b x u F D B e8 W.up;obtain⟨R,m,M,g,on,ls,I⟩:=W;have q1:=q4.keep e8.keepT;have q3:m.length=M.length:=Paired.length I.p;have bw:=I.wl;have bl:=I.ll;walk_at "3";refine ite2 (fun _=>⟨by decide,fun p hp=>?_⟩) (fun _=>?_)
  rotate_left
  ·rw[if_neg Bool.false_ne_true];exact O
  have sp:=Za1 hp (HO.lst []);have U:=I.keep sp;refine⟨.list (M.map Tm.data),?_,.list [],?_,Zm7 fun t ht=>(I.w t ht).1,rfl,Nat.le_trans (Nat.min_le_right _ _) (by decide),?_⟩
  ·rw[Dn];exact⟨u,m,rfl,SqL.of U.h,Zq7 U.p⟩
  ·rw[Dn];exact⟨p,[],rfl,SqL.of Za3,by rw[DnAll]⟩
  have eS:=e8.trans sp;generalize upd H8 p (HO.lst [])=Hb at sp U eS ⊢;rw[Yq5]
  cases hz:M.isEmpty with
  | true =>
   rw[if_neg (by decide)];exact J _ _ _ _ _ _ _ _ eS ⟨R,m,M,g,on,ls,U.up⟩
  | false =>
  rw[if_pos (by rfl)];walk_at "1"
  have h0:0 < m.length:=by rw[q3];cases M with
   | nil=>cases hz
   | cons _ _=>exact Nat.succ_pos _
  obtain⟨X,j9⟩:=Int.eq_ofNat_of_zero_le (Int.emod_nonneg (mix c 33) (show ((m.length:Nat):Int)≠0 by walk_at "o"));have v6:=Int.emod_lt_of_pos (mix c 33) (show (0:Int) < ((m.length:Nat):Int) by walk_at "o")
  have j4:X < m.length:=by walk_at "o"
  refine⟨c,33,rfl,by decide,by decide,m,.inl (SqL.of U.h),_,rfl,by walk_at "o",m,SqL.of U.h,?_⟩;rw[j9,Zu7 (by walk_at "o")];intro p1 q0;have s1:=Za1 q0 (HO.lst (m.take X));refine⟨m,SqL.of (s1 _ _ U.h),m[X],Wd5 j4,by decide,fun p2 q2=>?_⟩;have s2:=Za1 q2 (HO.lst [m[X]]);refine⟨m.take X,s2 _ _ Za3,[m[X]],Za3,Nat.le_of_lt (Zb0 (by rw[List.length_take,List.length_singleton];walk_at "o")),fun p3 q5=>?_⟩;have s3:=Za1 q5 (HO.lst (m.take X++[m[X]]));refine⟨m,SqL.of (((s1.trans s2).trans s3) _ _ U.h),?_⟩;rw[Zx9 (by walk_at "o")];intro p4 j7;have s4:=Za1 j7 (HO.lst (m.drop X));refine⟨m.take X++[m[X]],s4 _ _ Za3,m.drop X,Za3,Nat.le_of_lt (Zb0 (by rw[List.length_append,List.length_take,List.length_drop,List.length_singleton];walk_at "o")),fun p5 j6=>?_⟩;have s5:=Za1 j6 (HO.lst (m.take X++[m[X]]++m.drop X));have S:=(((s1.trans s2).trans s3).trans s4).trans s5;have I2:=U.keep S;obtain⟨tk,v0,y7⟩:=paired_get I2.p (List.getElem?_eq_getElem j4);exact J _ _ _ _ _ _ _ _ (eS.trans S) (U.wish S (us':=m.take X++[m[X]]++m.drop X) (ts':=M.take X++[tk]++M.drop X) Za3 (Zc8 (Zc8 (Zi0 I2.p X) (.cons y7 .nil)) (Zk5 X I2.p)) (fun t ht=>I.w t ((List.mem_append.mp ht).elim (fun z=>(List.mem_append.mp z).elim List.mem_of_mem_take fun y=>by rw[List.mem_singleton.mp y];exact List.mem_of_getElem? v0) List.mem_of_mem_drop)) (by rw[List.length_append,List.length_append,List.length_take,List.length_drop,List.length_singleton];walk_at "o") (Nat.le_succ _))
 rintro σ9 H9 ⟨f,b,x,u,F,D,B,rfl,e9,W⟩;refine sqt (fun N H'=>∃ f b x u F D B,N=[some (.ref a),some (.int c),some (.ref Y),some (.int (G:Nat)),some (.str x),some (.ref u),some F,some D,some (.ref B),some T,some (.int (c % 12)),f,b]/\Same H4 H'/\SpE K n 1 H2 H' x u F D B) ?_ ?_
 ·intro C Z
  have J:∀ (H':Hp) (f b:Option V) (x:Str) (u:Addr) (F D:V) (B:Addr),Same H4 H'->SpE K n 1 H2 H' x u F D B->C [some (.ref a),some (.int c),some (.ref Y),some (.int (G:Nat)),some (.str x),some (.ref u),some F,some D,some (.ref B),some T,some (.int (c % 12)),f,b] H':=fun H' f b x u F D B e h=>Z _ _ ⟨f,b,x,u,F,D,B,rfl,e,h⟩;have O:=J _ f b x u F D B e9 W;obtain⟨R,m,M,g,on,ls,I⟩:=W;have q1:=q4.keep e9.keepT;have q3:m.length=M.length:=Paired.length I.p;have bw:=I.wl;have bl:=I.ll;walk_at "1";refine ite2 (fun _=>?_) (fun _=>O);refine⟨by decide,fun p hp=>?_⟩;have s1:=Za1 hp (HO.lst [V.non,T]);refine⟨[V.non,T],Za3,m,s1 _ _ I.h,Nat.le_of_lt (Zb0 (by show 2+m.length<=1000;walk_at "o")),fun p1 q0=>?_⟩;have s2:=Za1 q0 (HO.lst ([V.non,T]++m));have S:=s1.trans s2;have U:=I.keep S;refine⟨c,34,rfl,by decide,by decide,m,.inl (SqL.of U.h),_,rfl,by walk_at "o",[V.non,T]++m,SqL.of Za3,?_⟩;have m0:=Int.emod_nonneg (mix c 34) (show (2:Int)+((m.length:Nat):Int)≠0 by walk_at "o");have m1:=Int.emod_lt_of_pos (mix c 34) (show (0:Int) < 2+((m.length:Nat):Int) by walk_at "o");obtain⟨v,hv,y2⟩:=Zo5 (xs:=[V.non,T]++m) m0 (by rw[List.length_append];show _ < ((2+m.length:Nat):Int);walk_at "o");refine⟨v,y2,?_⟩
  have ho:∃ on',OnX K (upd (upd H9 p (HO.lst [V.non,T])) p1 (HO.lst ([V.non,T]++m))) v on':=by
   rcases List.mem_append.mp hv with z | z
   ·rcases List.mem_cons.mp z with z | z
    ·exact⟨none,z⟩
    ·rw[List.mem_singleton.mp z]
     exact⟨some ex,q1.keep S.keepT,j5,by walk_at "o"⟩
   ·obtain⟨j,hj,rfl⟩:=List.getElem_of_mem z
    obtain⟨tj,v1,y8⟩:=paired_get U.p (List.getElem?_eq_getElem hj);have:=I.w tj (List.mem_of_getElem? v1);exact⟨some tj,y8,this.1,this.2⟩
  obtain⟨on',ho⟩:=ho;exact J _ _ _ _ _ _ _ _ (e9.trans S) ⟨R,m,M,g,on',ls,{ U with o:=ho }⟩
 rintro σ10 H10 ⟨f,b,x,u,F,D,B,rfl,z8,W⟩;refine sqt (fun N H'=>∃ f b x u F D B,N=[some (.ref a),some (.int c),some (.ref Y),some (.int (G:Nat)),some (.str x),some (.ref u),some F,some D,some (.ref B),some T,some (.int (c % 12)),f,b]/\Same H4 H'/\SpE K n 1 H2 H' x u F D B) ?_ ?_
 ·intro C Z
  have J:∀ (H':Hp) (f b:Option V) (x:Str) (u:Addr) (F D:V) (B:Addr),Same H4 H'->SpE K n 1 H2 H' x u F D B->C [some (.ref a),some (.int c),some (.ref Y),some (.int (G:Nat)),some (.str x),some (.ref u),some F,some D,some (.ref B),some T,some (.int (c % 12)),f,b] H':=fun H' f b x u F D B e h=>Z _ _ ⟨f,b,x,u,F,D,B,rfl,e,h⟩;have O:=J _ f b x u F D B z8 W;obtain⟨R,m,M,g,on,ls,I⟩:=W;have q1:=q4.keep z8.keepT;have q3:m.length=M.length:=Paired.length I.p;have bw:=I.wl;have bl:=I.ll;walk_at "3";refine ite2 (fun _=>⟨by decide,fun p hp=>?_⟩) (fun _=>?_)
  rotate_left
  ·rw[if_neg Bool.false_ne_true];exact O
  have sp:=Za1 hp (HO.lst []);have U:=I.keep sp;refine⟨.list (ls.map PyData.int),?_,.list [],?_,Zn2 fun d hd=>(by obtain⟨n,_,rfl⟩:=List.mem_map.mp hd;rfl),rfl,Nat.le_trans (Nat.min_le_right _ _) (by decide),?_⟩
  ·rw[Dn];exact⟨B,_,rfl,SqL.of U.l,Yc4 ls⟩
  ·rw[Dn];exact⟨p,[],rfl,SqL.of Za3,by rw[DnAll]⟩
  have eS:=z8.trans sp;generalize upd H10 p (HO.lst [])=Hb at sp U eS ⊢;rw[Yq4]
  cases hz:ls.isEmpty with
  | true =>
   rw[if_neg (by decide)];exact J _ _ _ _ _ _ _ _ eS ⟨R,m,M,g,on,ls,U⟩
  | false =>
  rw[if_pos (by rfl)];walk_at "1"
  have q8:ls≠[]:=fun z=>by rw[z] at hz;cases hz
  have l1:1<=ls.length:=by cases ls with
   | nil=>exact absurd rfl q8
   | cons _ _=>exact Nat.succ_pos _
  obtain⟨ls',v3,lls⟩:=Yc8 ls q8;refine⟨by decide,fun p1 q0=>?_⟩;have s1:=Za1 q0 (HO.lst [V.int (G:Nat)]);refine⟨_,SqL.of (s1 _ _ U.l),?_⟩;rw[v3];intro p2 q2;have s2:=Za1 q2 (HO.lst (ls'.map V.int));refine⟨_,s2 _ _ Za3,_,Za3,Nat.le_of_lt (Zb0 (by rw[List.length_map,List.length_singleton];walk_at "o")),fun p3 q5=>?_⟩;have s3:=Za1 q5 (HO.lst ([V.int (G:Nat)]++ls'.map V.int));have S:=(s1.trans s2).trans s3;exact J _ _ _ _ _ _ _ _ (eS.trans S) (U.lean S (ls':=(G:Int) :: ls') Za3 (by rw[List.length_cons];walk_at "o") (Nat.le_refl _))
 rintro σ11 H11 ⟨f,b,x,u,F,D,B,rfl,z7,W⟩;refine sqt (fun N H'=>∃ f b x u F D B,N=[some (.ref a),some (.int c),some (.ref Y),some (.int (G:Nat)),some (.str x),some (.ref u),some F,some D,some (.ref B),some T,some (.int (c % 12)),f,b]/\Same H4 H'/\SpE K n 1 H2 H' x u F D B) ?_ ?_
 ·intro C Z
  have J:∀ (H':Hp) (f b:Option V) (x:Str) (u:Addr) (F D:V) (B:Addr),Same H4 H'->SpE K n 1 H2 H' x u F D B->C [some (.ref a),some (.int c),some (.ref Y),some (.int (G:Nat)),some (.str x),some (.ref u),some F,some D,some (.ref B),some T,some (.int (c % 12)),f,b] H':=fun H' f b x u F D B e h=>Z _ _ ⟨f,b,x,u,F,D,B,rfl,e,h⟩;have O:=J _ f b x u F D B z7 W;obtain⟨R,m,M,g,on,ls,I⟩:=W;have q1:=q4.keep z7.keepT;have q3:m.length=M.length:=Paired.length I.p;have bw:=I.wl;have bl:=I.ll;walk_at "3";refine ite2 (fun _=>⟨by decide,fun p hp=>?_⟩) (fun _=>?_)
  rotate_left
  ·rw[if_neg Bool.false_ne_true];exact O
  have sp:=Za1 hp (HO.lst []);have U:=I.keep sp;refine⟨.list (ls.map PyData.int),?_,.list [],?_,Zn2 fun d hd=>(by obtain⟨n,_,rfl⟩:=List.mem_map.mp hd;rfl),rfl,Nat.le_trans (Nat.min_le_right _ _) (by decide),?_⟩
  ·rw[Dn];exact⟨B,_,rfl,SqL.of U.l,Yc4 ls⟩
  ·rw[Dn];exact⟨p,[],rfl,SqL.of Za3,by rw[DnAll]⟩
  have eS:=z7.trans sp;generalize upd H11 p (HO.lst [])=Hb at sp U eS ⊢;rw[Yq4]
  cases hz:ls.isEmpty with
  | true =>
   rw[if_neg (by decide)];exact J _ _ _ _ _ _ _ _ eS ⟨R,m,M,g,on,ls,U⟩
  | false =>
  rw[if_pos (by rfl)];walk_at "1"
  have q8:ls≠[]:=fun z=>by rw[z] at hz;cases hz
  have l1:1<=ls.length:=by cases ls with
   | nil=>exact absurd rfl q8
   | cons _ _=>exact Nat.succ_pos _
  refine⟨_,SqL.of U.l,?_⟩;rw[Zr7];intro p1 q0;have s1:=Za1 q0 (HO.lst (ls.dropLast.map V.int));refine⟨c,35,rfl,by decide,by decide,_,rfl,by decide,by decide,fun p2 q2=>?_⟩;have s2:=Za1 q2 (HO.lst [V.int (0 - 1 - mix c 35 % 3)]);refine⟨_,s2 _ _ Za3,_,Za3,Nat.le_of_lt (Zb0 (by rw[List.length_map,List.length_dropLast,List.length_singleton];walk_at "o")),fun p3 q5=>?_⟩;have s3:=Za1 q5 (HO.lst (ls.dropLast.map V.int++[V.int (0 - 1 - mix c 35 % 3)]));have S:=(s1.trans s2).trans s3;exact J _ _ _ _ _ _ _ _ (eS.trans S) (U.lean S (ls':=ls.dropLast++[0 - 1 - mix c 35 % 3]) (by rw[List.map_append];exact Za3) (by rw[List.length_append,List.length_dropLast,List.length_singleton];walk_at "o") (Nat.le_refl _))
 rintro σ12 H12 ⟨f,b,x,u,F,D,B,rfl,z6,W⟩;refine sqt (fun N H'=>∃ f b x u F D B,N=[some (.ref a),some (.int c),some (.ref Y),some (.int (G:Nat)),some (.str x),some (.ref u),some F,some D,some (.ref B),some T,some (.int (c % 12)),f,b]/\Same H4 H'/\SpE K n 2 H2 H' x u F D B) ?_ ?_
 ·intro C Z
  have J:∀ (H':Hp) (f b:Option V) (x:Str) (u:Addr) (F D:V) (B:Addr),Same H4 H'->SpE K n 2 H2 H' x u F D B->C [some (.ref a),some (.int c),some (.ref Y),some (.int (G:Nat)),some (.str x),some (.ref u),some F,some D,some (.ref B),some T,some (.int (c % 12)),f,b] H':=fun H' f b x u F D B e h=>Z _ _ ⟨f,b,x,u,F,D,B,rfl,e,h⟩;have O:=J _ f b x u F D B z6 W.up;obtain⟨R,m,M,g,on,ls,I⟩:=W;have q1:=q4.keep z6.keepT;have q3:m.length=M.length:=Paired.length I.p;have bw:=I.wl;have bl:=I.ll;walk_at "1";refine ite2 (fun _=>?_) (fun _=>O);refine⟨c,35,rfl,by decide,by decide,_,rfl,by walk_at "o",by decide,fun p hp=>?_⟩;have s1:=Za1 hp (HO.lst [V.int (mix c 35 % ((G:Int)+1))]);refine⟨_,s1 _ _ I.l,_,Za3,Nat.le_of_lt (Zb0 (by rw[List.length_map,List.length_singleton];walk_at "o")),fun p2 q2=>?_⟩;have s2:=Za1 q2 (HO.lst (ls.map V.int++[V.int (mix c 35 % ((G:Int)+1))]));have S:=s1.trans s2;exact J _ _ _ _ _ _ _ _ (z6.trans S) (I.lean S (ls':=ls++[mix c 35 % ((G:Int)+1)]) (by rw[List.map_append];exact Za3) (by rw[List.length_append,List.length_singleton];walk_at "o") (Nat.le_succ _))
 rintro σ13 H13 ⟨f,b,x,u,F,D,B,rfl,z5,W⟩;refine sqt (fun N H'=>∃ f b x u F D B,N=[some (.ref a),some (.int c),some (.ref Y),some (.int (G:Nat)),some (.str x),some (.ref u),some F,some D,some (.ref B),some T,some (.int (c % 12)),f,b]/\Same H4 H'/\SpE K n 2 H2 H' x u F D B) ?_ ?_
 ·intro C Z
  have J:∀ (H':Hp) (f b:Option V) (x:Str) (u:Addr) (F D:V) (B:Addr),Same H4 H'->SpE K n 2 H2 H' x u F D B->C [some (.ref a),some (.int c),some (.ref Y),some (.int (G:Nat)),some (.str x),some (.ref u),some F,some D,some (.ref B),some T,some (.int (c % 12)),f,b] H':=fun H' f b x u F D B e h=>Z _ _ ⟨f,b,x,u,F,D,B,rfl,e,h⟩;have O:=J _ f b x u F D B z5 W;obtain⟨R,m,M,g,on,ls,I⟩:=W;have q1:=q4.keep z5.keepT;have q3:m.length=M.length:=Paired.length I.p;have bw:=I.wl;have bl:=I.ll;walk_at "1";refine ite2 (fun _=>?_) (fun _=>O);refine⟨_,SqL.of I.l,?_⟩;rw[Zr7];intro p1 q0;have s1:=Za1 q0 (HO.lst (ls.dropLast.map V.int));exact J _ _ _ _ _ _ _ _ (z5.trans s1) (I.lean s1 (ls':=ls.dropLast) Za3 (by rw[List.length_dropLast];walk_at "o") (Nat.le_refl _))
 rintro σ14 v9 ⟨f,b,x,u,F,D,B,rfl,z4,W⟩;refine sqt (fun N H'=>∃ f b x u F D B,N=[some (.ref a),some (.int c),some (.ref Y),some (.int (G:Nat)),some (.str x),some (.ref u),some F,some D,some (.ref B),some T,some (.int (c % 12)),f,b]/\Same H4 H'/\SpE K n 2 H2 H' x u F D B) ?_ ?_
 ·intro C Z
  have J:∀ (H':Hp) (f b:Option V) (x:Str) (u:Addr) (F D:V) (B:Addr),Same H4 H'->SpE K n 2 H2 H' x u F D B->C [some (.ref a),some (.int c),some (.ref Y),some (.int (G:Nat)),some (.str x),some (.ref u),some F,some D,some (.ref B),some T,some (.int (c % 12)),f,b] H':=fun H' f b x u F D B e h=>Z _ _ ⟨f,b,x,u,F,D,B,rfl,e,h⟩;have O:=J _ f b x u F D B z4 W;obtain⟨R,m,M,g,on,ls,I⟩:=W;have q1:=q4.keep z4.keepT;have q3:m.length=M.length:=Paired.length I.p;have bw:=I.wl;have bl:=I.ll;walk_at "1";refine ite2 (fun _=>?_) (fun _=>O);unfold tLC;walk_at "1";refine⟨_,.inl (SqL.of I.l),by rw[List.length_map];walk_at "o",by rw[List.length_map];walk_at "o",fun z9 q6=>?_⟩;refine Yg5 (fun i ys H'=>Same v9 H'/\H' z9=some (.lst ys)/\∃ ls':List Int,ys=ls'.map V.int/\ls'.length=i) ⟨Za1 q6 _,Za3,[],rfl,rfl⟩ (fun i ys H' hi ⟨e,h,ls',hy,hl'⟩=>⟨h,?_⟩) (fun i ys H' hi ⟨e,h,ls',hy,hl'⟩ C' hC'=>?_) (fun ys H' ⟨e,h,ls',hy,hl'⟩=>?_)
  ·subst hy
   rw[List.length_map] at hi ⊢;exact small1M (by walk_at "o")
  ·rw[List.length_map] at hi
   walk_at "1";refine⟨Ze9 (i:=0) rfl,c,_,rfl,by walk_at "o",by walk_at "o",_,rfl,by walk_at "o",hC' _ _ h ⟨e.write q6,Za3,ls'++[mix c (36+(0+(i:Int))) % ((G:Int)+2)],by rw[hy,List.map_append];rfl,by rw[List.length_append,List.length_singleton,hl']⟩⟩
  ·subst hy
   rw[List.length_map] at hl';exact J _ _ _ _ _ _ _ _ (z4.trans e) (I.lean e (ls':=ls') h (by walk_at "o") (Nat.le_refl _))
 rintro σ15 H15 ⟨f,b,x,u,F,D,B,rfl,z0,W⟩;refine sqt (fun N H'=>∃ f b x u F D B,N=[some (.ref a),some (.int c),some (.ref Y),some (.int (G:Nat)),some (.str x),some (.ref u),some F,some D,some (.ref B),some T,some (.int (c % 12)),f,b]/\Same H4 H'/\SpE K n 3 H2 H' x u F D B) ?_ ?_
 ·intro C Z
  have J:∀ (H':Hp) (f b:Option V) (x:Str) (u:Addr) (F D:V) (B:Addr),Same H4 H'->SpE K n 3 H2 H' x u F D B->C [some (.ref a),some (.int c),some (.ref Y),some (.int (G:Nat)),some (.str x),some (.ref u),some F,some D,some (.ref B),some T,some (.int (c % 12)),f,b] H':=fun H' f b x u F D B e h=>Z _ _ ⟨f,b,x,u,F,D,B,rfl,e,h⟩;have O:=J _ f b x u F D B z0 W.up;obtain⟨R,m,M,g,on,ls,I⟩:=W;have q1:=q4.keep z0.keepT;have q3:m.length=M.length:=Paired.length I.p;have bw:=I.wl;have bl:=I.ll;walk_at "1";refine ite2 (fun _=>?_) (fun _=>O);refine⟨by decide,fun p hp=>?_⟩;have s1:=Za1 hp (HO.lst [T]);refine⟨_,s1 _ _ I.h,_,Za3,Nat.le_of_lt (Zb0 (by rw[List.length_singleton];walk_at "o")),fun p1 q0=>?_⟩;have s2:=Za1 q0 (HO.lst (m++[T]));have S:=s1.trans s2;have U:=I.keep S;refine⟨p1,m++[T],M++[ex],rfl,Za3,Zc8 U.p (.cons (q1.keep S.keepT) .nil),fun t ht=>(List.mem_append.mp ht).elim (I.w t) (fun z=>by rw[List.mem_singleton.mp z];exact⟨j5,by walk_at "o"⟩),by rw[List.length_append,List.length_singleton];walk_at "o",fun r H' e fr hW=>?_⟩;obtain⟨⟨zs,z1,z2⟩,z3⟩:=hW;refine J _ _ _ _ _ _ _ _ ((z0.trans S).trans e) (U.wish e (us':=zs) (ts':=norm (M++[ex])) z1 z2 (fun t ht=>(List.mem_append.mp (mem_norm.mp ht)).elim (I.w t) (fun z=>by rw[List.mem_singleton.mp z];exact⟨j5,by walk_at "o"⟩)) (by have:=Yb6 (l:=M++[ex]);rw[List.length_append,List.length_singleton] at this;walk_at "o") (Nat.le_succ _))
 rintro σ16 v8 ⟨f,b,x,u,F,D,B,rfl,e16,W⟩;obtain⟨R,m,M,g,on,ls,I⟩:=W;have bw:=I.wl;have bl:=I.ll;walk_at "1";refine⟨us,SqL.of (I.e _ _ ha),?_⟩;rw[Zu7 (by walk_at "o")];intro p hp;have s1:=Za1 hp (HO.lst (us.take G));refine⟨by decide,fun p1 q0=>⟨by decide,fun p2 q2=>?_⟩⟩;have s2:=Za1 q0 (HO.tup [V.str x,V.ref u,F,D,V.ref B]);have s3:=Za1 q2 (HO.lst [V.ref p1]);refine⟨us.take G,(s2.trans s3) _ _ Za3,[.ref p1],Za3,Nat.le_of_lt (Zb0 (by rw[List.length_take,List.length_singleton];walk_at "o")),fun p3 q5=>?_⟩;have s4:=Za1 q5 (HO.lst (us.take G++[V.ref p1]));have S4:=((s1.trans s2).trans s3).trans s4;refine⟨us,SqL.of ((I.e.trans S4) _ _ ha),?_⟩;rw[Yq8 j3];intro p4 j7;have s5:=Za1 j7 (HO.lst (us.drop (G+1)));refine⟨us.take G++[.ref p1],s5 _ _ Za3,us.drop (G+1),Za3,Nat.le_of_lt (Zb0 (by rw[List.length_append,List.length_take,List.length_drop,List.length_singleton];walk_at "o")),fun p5 j6=>?_⟩;have s6:=Za1 j6 (HO.lst (us.take G++[V.ref p1]++us.drop (G+1)));have S:=(S4.trans s5).trans s6;have I2:=I.keep S;have v4:IsLn K (upd (upd (upd (upd (upd (upd v8 p (HO.lst (us.take G))) p1 (HO.tup [V.str x,V.ref u,F,D,V.ref B])) p2 (HO.lst [V.ref p1])) p3 (HO.lst (us.take G++[V.ref p1]))) p4 (HO.lst (us.drop (G+1)))) p5 (HO.lst (us.take G++[V.ref p1]++us.drop (G+1)))) (.ref p1) ⟨x,R,M,g,on,ls⟩:=⟨p1,u,B,F,D,m,rfl,.inl (.inl ((((s3.trans s4).trans s5).trans s6) _ _ Za3)),I2.h,I2.p,I2.t,I2.o,I2.l⟩;have y4:OkS (n+1) ⟨x,R,M,g,on,ls⟩:=⟨⟨I.r,I.w,by show M.length<=60;walk_at "o",I.go,I.gp,by show ls.length<=100;walk_at "o"⟩,by show M.length<=10+3*(n+1);walk_at "o",by show ls.length<=10+3*(n+1);walk_at "o"⟩;have y1:IsLns K _ us L:=IsLns.keep (I.e.trans S) hL;exact q p5 _ (L.take G++[⟨x,R,M,g,on,ls⟩]++L.drop (G+1)) _ (I.e.trans S) Za3 (Zc8 (Zc8 (Zi0 y1 G) (.cons v4 .nil)) (Zk5 (G+1) y1)) (fun l hl=>(List.mem_append.mp hl).elim (fun z=>(List.mem_append.mp z).elim (fun y=>(j8 l (List.mem_of_mem_take y)).up) fun y=>by rw[List.mem_singleton.mp y];exact y4) fun z=>(j8 l (List.mem_of_mem_drop z)).up) (by simp) (by rw[List.length_append,List.length_append,List.length_take,List.length_drop,List.length_singleton];walk_at "o")
theorem sc_ax0:FnScope ["_law_cell_here","_law_words_here","_law_one","_law_other","_law_last","_law_form"] ["_law_cell_here","_law_words_here"] (Za8 (top 55)):=scm (by decide +kernel)
theorem Xy9 {k:Nat} (F_ax0:Df K mg "_law_wish" (top 55) ["_law_cell_here","_law_words_here"]) (C__law_statement:Cl P w K mg base k "_law_statement" ["_law_cell_here","_law_many","_law_words_here"] (Zk3 K 32)) (C__law_mix:Cl P w K mg base k "_law_mix" ["_law_cell_here","_law_k"] (Zp4)):Cl P w K mg base (k+1) "_law_wish" ["_law_cell_here","_law_words_here"] (Ye7 K):=by
 refine F_ax0.ok sc_ax0 (fun vs H Q E h=>?_) (fun _ _ A _ s H vs Q E T h=>?_)
 ·obtain⟨c,N,ws,rfl,_⟩:=h
  rfl
 obtain⟨c,N,ws,rfl,hc,hW,R,q⟩:=h
 refine⟨_,(Za4 (pst 2 sc_ax0.nd (Zb7 C__law_statement T (Za0 (Zb7 C__law_mix T (Za0 (pvM 0) (Za0 Za5 Za2))) (Za0 (Zb4 Zd3 Za5 (Zb4 Zi9 Za5 (Zb4 Zc6 (Zb4 Zd0 (pvM 0) Za5) Za5))) (Za0 (pvM 1) Za2)))))
 (Za4 (pst 3 sc_ax0.nd (Zb7 C__law_statement T (Za0 (Zb7 C__law_mix T (Za0 (pvM 0) (Za0 Za5 Za2))) (Za0 (Zb4 Zd3 Za5 (Zb4 Zi9 Za5 (Zb4 Zc6 (Zb4 Zd0 (pvM 0) Za5) Za5))) (Za0 (pvM 1) Za2)))))
 (Za4 (pst 4 sc_ax0.nd (Zb7 C__law_statement T (Za0 (Zb7 C__law_mix T (Za0 (pvM 0) (Za0 Za5 Za2))) (Za0 (Zb4 Zd3 Za5 (Zb4 Zi9 Za5 (Zb4 Zc6 (Zb4 Zd0 (pvM 0) Za5) Za5))) (Za0 (pvM 1) Za2)))))
 (Za4 (pst 5 sc_ax0.nd (Zb4 Zc6 (pvM 0) Za5))
 (Za4 (Zc4 (ptcM (Zm0) (pvM 5) Za5)
  (Za6 (Zb1 (pxl (Zb5 (Za0 (pvM 2) (Za0 (Zb3 (Za0 Za9 (Za0 (pvM 2) (Za0 (pvM 3) Za2)))) (Za0 (Zb3 (Za0 Za9 (Za0 (pvM 2) (Za0 (pvM 3) Za2)))) Za2)))) (pvM 5))))
  Zb2)
 (Za4 (Zc4 (ptcM (Zm0) (pvM 5) Za5)
  (Za6 (Zb1 (Zb3 (Za0 Za9 (Za0 (pxl (Zb5 (Za0 (pvM 2) (Za0 (Zb3 (Za0 Za9 (Za0 (pvM 2) (Za0 (pvM 3) Za2)))) Za2))) (Zb4 Zo2 (pvM 5) Za5)) (Za0 (pvM 4) Za2))))))
  Zb2)
 (Za4 (Zc4 (ptcM (Zm0) (pvM 5) Za5)
  (Za6 (Zb1 (Zb3 (Za0 Za9 (Za0 (pxl (Zb5 (Za0 (Zb3 (Za0 Za9 (Za0 (pvM 2) (Za0 (pvM 3) Za2)))) (Za0 (Zb3 (Za0 Za9 Za2)) (Za0 (Zb3 (Za0 Za9 (Za0 (pvM 2) (Za0 (pvM 3) Za2)))) Za2)))) (Zb4 Zo2 (pvM 5) Za5)) (Za0 (pvM 4) Za2))))))
  Zb2)
 (Za6 (Zb1 (Zb7 C__law_statement T (Za0 (Zb7 C__law_mix T (Za0 (pvM 0) (Za0 Za5 Za2))) (Za0 (Zb4 Zd3 Za5 (Zb4 Zi9 Za5 (Zb4 Zc6 (Zb4 Zd0 (pvM 0) Za5) Za5))) (Za0 (pvM 1) Za2))))))))))))),?_⟩
 have b0:=Int.emod_nonneg (c / 9) (show (2:Int)≠0 by decide);have b1:=Int.emod_lt_of_pos (c / 9) (show (0:Int) < 2 by decide);have c0:=Int.emod_nonneg (c / 18) (show (2:Int)≠0 by decide);have c1:=Int.emod_lt_of_pos (c / 18) (show (0:Int) < 2 by decide);have d0:=Int.emod_nonneg (c / 36) (show (2:Int)≠0 by decide);have d1:=Int.emod_lt_of_pos (c / 36) (show (0:Int) < 2 by decide);have f0:=Int.emod_nonneg c (show (9:Int)≠0 by decide);have f1:=Int.emod_lt_of_pos c (show (0:Int) < 9 by decide);have g0:=Int.emod_nonneg (c / 9) (show (5:Int)≠0 by decide);have g1:=Int.emod_lt_of_pos (c / 9) (show (0:Int) < 5 by decide);refine sqt (fun M d=>∃ v t,M=[some (.int c),some (.ref N),some v,none,none,none]/\Same H d/\IsT K d v t/\t.ok/\t.parts<=3) ?_ ?_
 ·intro C hC
  walk_at "1";exact⟨_,_,rfl,by decide,by decide,⟨by decide,by decide⟩,by decide,Zk8 (by decide) (by decide),_,_,N,ws,rfl,Zm2 _ _,by walk_at "o",by walk_at "o",by walk_at "o",hW,R,fun u d t e m=>hC _ _ ⟨u,t,rfl,e,m.1,m.2.1.ok R.2.2,by have:=m.2.2.1;walk_at "o"⟩⟩
 rintro q6 H1 ⟨f,r,rfl,e1,m1,Z,p1⟩;refine sqt (fun M d=>∃ v t,M=[some (.int c),some (.ref N),some f,some v,none,none]/\Same H1 d/\IsT K d v t/\t.ok/\t.parts<=3) ?_ ?_
 ·intro C hC
  walk_at "1";exact⟨_,_,rfl,by decide,by decide,⟨by decide,by decide⟩,by decide,Zk8 (by decide) (by decide),_,_,N,ws,rfl,Zm2 _ _,by walk_at "o",by walk_at "o",by walk_at "o",e1.seq hW,R,fun u d t e m=>hC _ _ ⟨u,t,rfl,e,m.1,m.2.1.ok R.2.2,by have:=m.2.2.1;walk_at "o"⟩⟩
 rintro q5 H2 ⟨o,I,rfl,e2,m2,k2,p2⟩;refine sqt (fun M d=>∃ v t,M=[some (.int c),some (.ref N),some f,some o,some v,none]/\Same H2 d/\IsT K d v t/\t.ok/\t.parts<=3) ?_ ?_
 ·intro C hC
  walk_at "1";exact⟨_,_,rfl,by decide,by decide,⟨by decide,by decide⟩,by decide,Zk8 (by decide) (by decide),_,_,N,ws,rfl,Zm2 _ _,by walk_at "o",by walk_at "o",by walk_at "o",(e1.trans e2).seq hW,R,fun u d t e m=>hC _ _ ⟨u,t,rfl,e,m.1,m.2.1.ok R.2.2,by have:=m.2.2.1;walk_at "o"⟩⟩
 rintro q4 H3 ⟨v3,t3,rfl,e3,m3,k3,p3⟩;have E3:=(e1.trans e2).trans e3;have W:=m1.keep (K:=K) (e2.trans e3).keepT;have n2:=m2.keep (K:=K) e3.keepT
 have U:∀ (d:Hp) (xs:List V) (ts:List Tm) (i:Int),Paired (IsT K d) xs ts->0<=i->i < xs.length->∃ v t,atI xs i=some v/\IsT K d v t/\t∈ts:=fun d xs ts i hP h0 h1=>by
  obtain⟨v,hv,ev⟩:=Zo5 (xs:=xs) (i:=i) h0 h1;obtain⟨j,hj,rfl⟩:=List.mem_iff_getElem.mp hv;obtain⟨t,et,q2⟩:=paired_get hP (List.getElem?_eq_getElem hj);exact⟨_,t,ev,q2,List.mem_of_getElem? et⟩
 have X:∀ (d:Hp) (Y:Kd) (p:Addr) (x y:V) (a b:Tm),d p=none->IsT K d x a->IsT K d y b->IsT K (upd d p (HO.tup [.str Y.str,x,y])) (.ref p) (.nd Y a b):=fun d Y p x y a b G hx hy=>isT_nd.mpr ⟨p,x,y,rfl,.inl (.inl Za3),hx.keep (Zj8 G),hy.keep (Zj8 G)⟩;have D:∀ (Y:Kd) {a b:Tm} {n m:Nat},(a.ok/\a.parts<=n)->(b.ok/\b.parts<=m)->(Tm.nd Y a b).ok/\(Tm.nd Y a b).parts<=1+n+m:=fun Y {a b n m} ha hb=>⟨⟨ha.1,hb.1⟩,by show 1+a.parts+b.parts<=_;walk_at "o"⟩;walk_at "1";refine⟨by decide,?_⟩
 by_cases z3:c % 9 < 3
 ·rw[if_pos z3]
  refine⟨by decide,fun p G=>⟨by decide,fun g L=>⟨by decide,fun J F=>?_⟩⟩⟩;have B:=Za1 G (HO.tup [V.str (Str.ofString "both"),f,o]);have l:=Za1 L (HO.tup [V.str (Str.ofString "one"),f,o]);have O:=Za1 F (HO.lst [f,V.ref p,V.ref g]);have a1:=X _ .both p f o r I G W n2;have a2:=X _ .one g f o r I L (W.keep B.keepT) (n2.keep B.keepT);obtain⟨v,t,ev,hv,mt⟩:=U _ [f,.ref p,.ref g] [r,.nd .both r I,.nd .one r I] (c % 9) (.cons (W.keep ((B.trans l).trans O).keepT) (.cons (a1.keep (l.trans O).keepT) (.cons (a2.keep O.keepT) .nil))) f0 z3
  have tk:t.ok/\t.parts<=7:=by
   rcases List.mem_cons.mp mt with z | z
   ·rw[z];exact⟨Z,by walk_at "o"⟩
   ·rcases List.mem_cons.mp z with z | z
    ·rw[z];exact D .both ⟨Z,p1⟩ ⟨k2,p2⟩
    ·rw[List.mem_singleton.mp z];exact D .one ⟨Z,p1⟩ ⟨k2,p2⟩
  exact⟨_,SqL.of Za3,v,ev,q v _ t (((E3.trans B).trans l).trans O) hv tk.1 (by have:=tk.2;walk_at "o")⟩
 rw[if_neg z3]
 by_cases z5:c % 9 < 5
 ·rw[if_pos z5]
  refine⟨by decide,fun p G=>⟨by decide,fun g L=>?_⟩⟩;have B:=Za1 G (HO.tup [V.str (Str.ofString "both"),f,o]);have l:=Za1 L (HO.lst [f,V.ref p]);have a1:=X _ .both p f o r I G W n2;obtain⟨v,t,ev,hv,mt⟩:=U _ [f,.ref p] [r,.nd .both r I] (c % 9 - 3) (.cons (W.keep (B.trans l).keepT) (.cons (a1.keep l.keepT) .nil)) (by walk_at "o") (by show c % 9 - 3 < 2;walk_at "o")
  have tk:t.ok/\t.parts<=7:=by
   rcases List.mem_cons.mp mt with z | z
   ·rw[z];exact⟨Z,by walk_at "o"⟩
   ·rw[List.mem_singleton.mp z];exact D .both ⟨Z,p1⟩ ⟨k2,p2⟩
  refine⟨_,SqL.of Za3,v,ev,by decide,fun J F=>?_⟩;have a3:=X _ .thn J v v3 t t3 F hv (m3.keep (B.trans l).keepT);have:=D .thn tk ⟨k3,p3⟩;exact q _ _ _ (((E3.trans B).trans l).trans (Za1 F _)) a3 this.1 this.2
 rw[if_neg z5]
 by_cases z8:c % 9 < 8
 ·rw[if_pos z8]
  refine⟨by decide,fun p G=>⟨by decide,fun g L=>⟨by decide,fun J F=>⟨by decide,fun q7 q3=>?_⟩⟩⟩⟩;have B:=Za1 G (HO.tup [V.str (Str.ofString "one"),f,o]);have l:=Za1 L (HO.tup [V.str (Str.ofString "low")]);have O:=Za1 F (HO.tup [V.str (Str.ofString "then"),f,o]);have s4:=Za1 q3 (HO.lst [V.ref p,V.ref g,V.ref J]);have a1:=X _ .one p f o r I G W n2;have a2:IsT K (upd (upd H3 p (HO.tup [V.str (Str.ofString "one"),f,o])) g (HO.tup [V.str (Str.ofString "low")])) (.ref g) .low:=isT_low.mpr ⟨g,rfl,.inl (.inl Za3)⟩;have a3:=X _ .thn J f o r I F (W.keep (B.trans l).keepT) (n2.keep (B.trans l).keepT);obtain⟨v,t,ev,hv,mt⟩:=U _ [.ref p,.ref g,.ref J] [.nd .one r I,.low,.nd .thn r I] (c % 9 - 5) (.cons (a1.keep ((l.trans O).trans s4).keepT) (.cons (a2.keep (O.trans s4).keepT) (.cons (a3.keep s4.keepT) .nil))) (by walk_at "o") (by show c % 9 - 5 < 3;walk_at "o")
  have tk:t.ok/\t.parts<=7:=by
   rcases List.mem_cons.mp mt with z | z
   ·rw[z];exact D .one ⟨Z,p1⟩ ⟨k2,p2⟩
   ·rcases List.mem_cons.mp z with z | z
    ·rw[z];exact⟨trivial,by decide⟩
    ·rw[List.mem_singleton.mp z];exact D .thn ⟨Z,p1⟩ ⟨k2,p2⟩
  refine⟨_,SqL.of Za3,v,ev,by decide,fun q1 q0=>?_⟩;have S:=((B.trans l).trans O).trans s4;have a5:=X _ .thn q1 v v3 t t3 q0 hv (m3.keep S.keepT);have:=D .thn tk ⟨k3,p3⟩;exact q _ _ _ ((E3.trans S).trans (Za1 q0 _)) a5 this.1 this.2
 rw[if_neg z8];exact⟨_,_,rfl,by decide,by decide,⟨by decide,by decide⟩,by decide,Zk8 (by decide) (by decide),_,_,N,ws,rfl,Zm2 _ _,by walk_at "o",by walk_at "o",by walk_at "o",E3.seq hW,R,fun u d t e m=>q u d t (E3.trans e) m.1 (m.2.1.ok R.2.2) (by have:=m.2.2.1;walk_at "o")⟩
theorem Xu0:FnScope ["_law_rule","_law_wishes","_law_goal"] ["_law_rule","_law_wishes","_law_goal"] (Za8 (top 57)):=scm (by decide +kernel)
theorem Xz9 {k:Nat} (F_am0:Df K mg "_law_goal_needs" (top 57) ["_law_rule","_law_wishes","_law_goal"]) (C__law_once:Cl P w K mg base k "_law_once" ["_law_some"] (Zi5 K)) (m_int:mg "int"=none):Cl P w K mg base (k+1) "_law_goal_needs" ["_law_rule","_law_wishes","_law_goal"] (Zy9 K):=by
 refine F_am0.ok Xu0 (fun vs H Q E h=>?_) (fun _ _ A _ s H vs Q E W h=>?_)
 ·obtain⟨x,R,m,Z,ws,g,rfl,_⟩:=h
  rfl
 obtain⟨x,R,m,Z,ws,g,rfl,q,M,hT,q3,q4,gp,hl,q0,B⟩:=h
 refine⟨_,(Za4 (Zc4 ((Zr2 ((Zg0 (ptcM (Zd6) (pvM 0) Za9) (Ze6 (Zi6 (Yy9 (Ze1 W)) (pvM 2) (pvM 1) (by with_unfolding_all rfl))))).pt (Zl7 ((Zg0 (ptcM (Zd6) (pvM 0) Za9) (Ze6 (Zi6 (Yy9 (Ze1 W)) (Zb3 (Za0 Za9 Za2)) (pvM 1) (by with_unfolding_all rfl))))).pt))).pt
  (Za6 (Zb1 (Zb5 Za2)))
  Zb2)
 (Za4 (Zc4 ((Zg0 (ptcM (Zd6) (pvM 0) Za9) (Ze6 (ptcM (Zd6) (pxt (pvM 2) Za5) Za9)))).pt
  (Za6 (Zb1 (Zb5 (Za0 (Zb3 (Za0 (pvM 1) (Za0 (pxt (pvM 2) Za5) Za2))) (Za0 (Zb3 (Za0 (pvM 1) (Za0 (pxt (pvM 2) Za5) Za2))) Za2)))))
  Zb2)
 (Za4 (Zc4 ((Zg0 (Zi6 (Zw8) (pvM 0) (Zb5 (Za0 Za9 (Za0 Za9 Za2))) (by with_unfolding_all rfl)) (Ze6 (ptcM (Zd6) (pxt (pvM 2) Za5) Za9)))).pt
  (Za6 (Zb1 (Zb5 (Za0 (Zb3 (Za0 (pvM 1) (Za0 (pxt (pvM 2) (Zb4 Zd3 Za5 (Zg3 Xd7 (by exact rfl) m_int Xj9 (Za0 (Zl0 (Zd6) (pvM 0) Za9 (Zn3 _)) Za2)))) Za2))) Za2))))
  Zb2)
 (Za4 (Zc4 ((Zg0 (ptcM (Zd6) (pvM 0) Za9) (Ze6 (ptcM (Zd6) (pxt (pvM 2) Za5) Za9)))).pt
  (Za6 (Zb1 (Zb5 (Za0 (Zb3 (Za0 (Zb7 C__law_once W (Za0 (Zb4 Ze4 (pvM 1) (Zb5 (Za0 (pxt (pvM 2) Za5) Za2))) Za2)) (Za0 (pxt (pvM 2) Za5) Za2))) Za2))))
  Zb2)
 (Za6 (Zb1 Zd4)))))),?_⟩
 obtain⟨⟨J,hu,Y⟩,hS⟩:=M
 have gd:g.deep<=140:=by have:=Zc5 g;walk_at "o"
 have X:∀ s∈ws,s.ok:=fun s e=>(q3 s e).1;have M:IsW K H m ws:=⟨⟨J,hu,Y⟩,hS⟩;refine sqt (fun l G=>l=[some (.str x),some (.ref m),some Z]/\Same H G/\(R=some .wish∨R=some .low->Zz4 ws g R=none)) ?_ ?_
 ·intro C j
  walk_at "1";simp only[show (x=Str.ofString "wish")=(R=some .wish) from rx q .wish,show (x=Str.ofString "low")=(R=some .low) from rx q .low,reduceCtorEq,if_true,if_false];refine ite2 (fun c=>?_) (fun c=>?_)
  ·subst c
   refine⟨g,hT,J,SqL.of hu,ws,Y,q4,X,gd,?_⟩
   by_cases hin:g∈ws
   ·rw[if_pos (decide_eq_true hin)]
    exact⟨by decide,fun p D=>B [] (by show (if g∈ws then _ else _)=_;rw[if_pos hin]) _ _ (Za1 D _) (Yp2 (Same.refl _) D)⟩
   ·rw[if_neg (by rw[decide_eq_false hin];exact Bool.false_ne_true),if_neg (by decide)]
    exact j _ _ ⟨rfl,Same.refl _,fun _=>by show (if g∈ws then _ else _)=_;rw[if_neg hin]⟩
  ·refine ite2 (fun c2=>?_) (fun c2=>j _ _ ⟨rfl,Same.refl _,fun z=>z.elim (fun y=>absurd y c) fun y=>absurd y c2⟩)
   subst c2;refine⟨by decide,fun p D=>?_⟩;have d:=Za1 D (HO.tup [V.str (Str.ofString "low")]);refine⟨.low,isT_low.mpr ⟨p,rfl,.inl (.inl Za3)⟩,J,SqL.of (d _ _ hu),ws,Za7 d.keepT Y,trivial,X,by decide,?_⟩
   by_cases hin:Tm.low∈ws
   ·rw[if_pos (decide_eq_true hin)]
    exact⟨by decide,fun p D=>B [] (by show (if Tm.low∈ws then _ else _)=_;rw[if_pos hin]) _ _ (d.trans (Za1 D _)) (Yp2 d D)⟩
   ·rw[if_neg (by rw[decide_eq_false hin];exact Bool.false_ne_true)]
    exact j _ _ ⟨rfl,d,fun _=>by show (if Tm.low∈ws then _ else _)=_;rw[if_neg hin]⟩
 rintro q9 H1 ⟨rfl,F,n1⟩;refine sqt (fun l G=>l=[some (.str x),some (.ref m),some Z]/\Same H G/\(R=some .both->Zz4 ws g R=none)) ?_ ?_
 ·intro C j
  walk_at "1";simp only[show (x=Str.ofString "both")=(R=some .both) from rx q .both,reduceCtorEq,if_true,if_false];refine ite2 (fun c=>?_) (fun c=>j _ _ ⟨rfl,F,fun y=>absurd y c⟩);subst c;rcases Zk9 .both (hT.keep F.keepT) with ⟨a,b,p,I,vy,rfl,rfl,e,U,O⟩ | ⟨p,c1,xs,rfl,e,v,n⟩
  ·refine⟨p,rfl,_,e,_,rfl,rfl,?_⟩
   rw[if_pos (by rfl)];refine⟨p,rfl,_,e,_,rfl,by decide,fun p1 i=>?_⟩;have d:=Za1 i (HO.tup [V.ref m,I]);refine⟨p,rfl,_,d.sqt e,_,rfl,by decide,fun p2 f=>⟨by decide,fun p3 u=>?_⟩⟩;have L:=Za1 f (HO.tup [V.ref m,vy]);exact B _ rfl _ _ (((F.trans d).trans L).trans (Za1 u _)) (Zu3 F (M.keep F) U i (Same.refl _) (M.keep (F.trans d)) (O.keep d.keepT) f u (.inl rfl) (.inl rfl))
  ·refine⟨p,rfl,_,e,_,at0 _ _,Zc7 _ _,?_⟩
   rw[if_neg (fun z=>v (by cases z;rfl))];exact j _ _ ⟨rfl,F,fun _=>Ys9 n⟩
 rintro q8 H2 ⟨rfl,N,n2⟩;refine sqt (fun l G=>l=[some (.str x),some (.ref m),some Z]/\Same H G/\((R=some .first∨R=some .second)->Zz4 ws g R=none)) ?_ ?_
 ·intro C j
  walk_at "1";simp only[reduceCtorEq,if_true,if_false];refine⟨by decide,fun p0 q5=>⟨_,.inl (SqL.of Za3),rfl,rfl,?_⟩⟩;have o:=N.trans (Za1 q5 (HO.lst [V.str (Str.ofString "first"),V.str (Str.ofString "second")]))
  by_cases hf:R=some .first∨R=some .second
  ·have T:inV (.str x) [.str "first",.str "second"]=true:=by rcases hf with rfl | rfl<;>(obtain rfl:x=_:=q;decide)
   rcases Zk9 .one (hT.keep o.keepT) with ⟨a,b,p,I,vy,rfl,rfl,e,U,O⟩ | ⟨p,c1,xs,rfl,e,v,n⟩
   ·rcases hf with rfl | rfl
    ·rw[if_pos T]
     obtain rfl:x=_:=q;refine⟨p,rfl,_,e,_,rfl,rfl,?_⟩;rw[if_pos (by rfl)];refine .inr ⟨p,rfl,_,e,_,rfl,by decide,fun p1 i=>⟨by decide,fun p2 f=>?_⟩⟩;have d:=Za1 i (HO.tup [V.ref m,I]);exact B _ rfl _ _ ((o.trans d).trans (Za1 f _)) (Zk7 o (M.keep o) U i f (.inl rfl))
    ·rw[if_pos T]
     obtain rfl:x=_:=q;refine⟨p,rfl,_,e,_,rfl,rfl,?_⟩;rw[if_pos (by rfl)];refine .inr ⟨p,rfl,_,e,_,rfl,by decide,fun p1 i=>⟨by decide,fun p2 f=>?_⟩⟩;have d:=Za1 i (HO.tup [V.ref m,vy]);exact B _ rfl _ _ ((o.trans d).trans (Za1 f _)) (Zk7 o (M.keep o) O i f (.inl rfl))
   ·rw[if_pos T]
    refine⟨p,rfl,_,e,_,at0 _ _,Zc7 _ _,?_⟩;rw[if_neg (fun z=>v (by cases z;rfl))];exact j _ _ ⟨rfl,o,fun z=>by rcases z with rfl | rfl;exact Yk9 n;exact Yg0 n⟩
  ·rw[if_neg (by cases R with
    | none=>show ¬ inV (.str x) [.str "first",.str "second"]=true;rw[Xr2 q];exact Bool.false_ne_true
    | some r=>obtain rfl:x=r.str:=q;revert hf;cases r<;>first | (intro z;exact absurd (Or.inl rfl) z) | (intro z;exact absurd (Or.inr rfl) z) | (intro _;decide))]
   exact j _ _ ⟨rfl,o,fun z=>absurd z hf⟩
 rintro q7 H3 ⟨rfl,e3,n3⟩;refine sqt (fun l G=>l=[some (.str x),some (.ref m),some Z]/\Same H G/\(R=some .thn->Zz4 ws g R=none)) ?_ ?_
 ·intro C j
  walk_at "1";simp only[show (x=Str.ofString "then")=(R=some .thn) from rx q .thn,reduceCtorEq,if_true,if_false];refine ite2 (fun c=>?_) (fun c=>j _ _ ⟨rfl,e3,fun y=>absurd y c⟩);subst c;rcases Zk9 .thn (hT.keep e3.keepT) with ⟨a,b,p,I,vy,rfl,rfl,e,U,O⟩ | ⟨p,c1,xs,rfl,e,v,n⟩
  ·refine⟨p,rfl,_,e,_,rfl,rfl,?_⟩
   rw[if_pos (by rfl)];have j0:1+a.parts+b.parts<=100:=gp;refine⟨p,rfl,_,e,_,rfl,by decide,fun p1 i=>?_⟩;have d:=Za1 i (HO.lst [I]);have lu:=Paired.length Y;refine⟨J,(e3.trans d) _ _ hu,_,Za3,Nat.le_of_lt (Zb0 (by show J.length+1<=1000;walk_at "o")),fun p2 f=>?_⟩;have L:=Za1 f (HO.lst (J++[I]));have S:=(e3.trans d).trans L;refine⟨p2,_,ws++[a],rfl,Za3,Zc8 (Za7 S.keepT Y) (.cons (U.keep (d.trans L).keepT) .nil),fun t ht=>(List.mem_append.mp ht).elim (q3 t) fun z=>by rw[List.mem_singleton.mp z];exact⟨q4.1,by walk_at "o"⟩,by rw[List.length_append,List.length_singleton];walk_at "o",fun r H2 N W hw=>⟨p,rfl,_,((d.trans L).trans N).sqt e,_,rfl,by decide,fun p3 u=>⟨by decide,fun p4 q2=>?_⟩⟩⟩;exact B _ rfl _ _ (((S.trans N).trans (Za1 u _)).trans (Za1 q2 _)) (Zk7 (S.trans N) hw (O.keep ((d.trans L).trans N).keepT) u q2 (.inr (S.free W)))
  ·refine⟨p,rfl,_,e,_,at0 _ _,Zc7 _ _,?_⟩
   rw[if_neg (fun z=>v (by cases z;rfl))];exact j _ _ ⟨rfl,e3,fun _=>Yz6 n⟩
 rintro q6 H4 ⟨rfl,e4,n4⟩;walk_at "1";refine q0 ?_ _ e4;clear q0 B
 cases R with
 | none=>rfl
 | some r=>cases r<;>first | exact n1 (.inl rfl) | exact n1 (.inr rfl) | exact n2 rfl | exact n3 (.inl rfl) | exact n3 (.inr rfl) | exact n4 rfl | rfl
theorem sc_ao0:FnScope ["_law_rule","_law_wishes","_law_goal","_law_one","_law_other","_law_on","_law_first"] ["_law_rule","_law_wishes","_law_goal","_law_one","_law_other","_law_on"] (Za8 (top 58)):=scm (by decide +kernel)
theorem Xz7 {k:Nat} (F_ao0:Df K mg "_law_if_needs" (top 58) ["_law_rule","_law_wishes","_law_goal","_law_one","_law_other","_law_on"]) (C__law_once:Cl P w K mg base k "_law_once" ["_law_some"] (Zi5 K)) (C__law_changed:Cl P w K mg base k "_law_changed" ["_law_wishes","_law_on","_law_more"] (Zh7 K)):Cl P w K mg base (k+1) "_law_if_needs" ["_law_rule","_law_wishes","_law_goal","_law_one","_law_other","_law_on"] (Zp8 K):=by
 refine F_ao0.ok sc_ao0 (fun vs H Q E h=>?_) (fun _ _ A _ s H vs Q E L h=>?_)
 ·obtain⟨x,R,N,gv,av,l,W,ws,g,a,b,rfl,_⟩:=h
  rfl
 obtain⟨x,R,N,gv,av,l,W,ws,g,a,b,rfl,hR,hW,hT,hA,hB,hO,j3,q4,z8,gp,hl,q0,q1⟩:=h
 refine⟨_,(Za4 (Zc4 ((Zg0 (ptcM (Zd6) (pvM 0) Za9) (Ze6 (Zi6 (Yy9 (Ze1 L)) (pvM 3) (pvM 1) (by with_unfolding_all rfl))))).pt
  (Za6 (Zb1 (Zb5 (Za0 (Zb3 (Za0 (Zb7 C__law_changed L (Za0 (pvM 1) (Za0 (pvM 5) (Za0 (Zb5 (Za0 (pvM 4) Za2)) Za2)))) (Za0 (pvM 2) Za2))) Za2))))
  Zb2)
 (Za4 (Zc4 ((Zg0 (ptcM (Zd6) (pvM 0) Za9) (Ze6 (ptcM (Yf7 (Ze1 L)) (pvM 3) (Zb3 (Za0 Za9 Za2)))))).pt
  (Za6 (Zb1 (Zb5 (Za0 (Zb3 (Za0 (Zb7 C__law_changed L (Za0 (pvM 1) (Za0 (pvM 5) (Za0 (Zb5 Za2) Za2)))) (Za0 (pvM 2) Za2))) Za2))))
  Zb2)
 (Za4 (Zc4 (ptcM (Zd6) (pvM 0) Za9)
  (Za6 (Zb1 (Zb5 (Za0 (Zb3 (Za0 (pvM 1) (Za0 (pvM 3) Za2))) (Za0 (Zb3 (Za0 (Zb7 C__law_once L (Za0 (Zb4 Ze4 (pvM 1) (Zb5 (Za0 (pvM 4) Za2))) Za2)) (Za0 (pvM 2) Za2))) Za2)))))
  Zb2)
 (Za4 (Zc4 ((Zg0 (ptcM (Zd6) (pvM 0) Za9) (Ze6 (ptcM (Zd6) (pxt (pvM 3) Za5) Za9)))).pt
  (Za6 (Zb1 (Zb5 (Za0 (Zb3 (Za0 (Zb7 C__law_changed L (Za0 (pvM 1) (Za0 (pvM 5) (Za0 (Zb5 (Za0 (Zb3 (Za0 Za9 (Za0 (pxt (pvM 3) Za5) (Za0 (Zb3 (Za0 Za9 (Za0 (pxt (pvM 3) Za5) (Za0 (pvM 4) Za2)))) Za2)))) Za2)) Za2)))) (Za0 (pvM 2) Za2))) Za2))))
  Zb2)
 (Za4 (Zc4 ((Zg0 (ptcM (Zd6) (pvM 0) Za9) (Ze6 (ptcM (Zd6) (pxt (pvM 3) Za5) Za9)))).pt
  (Za6 (Zb1 (Zb5 (Za0 (Zb3 (Za0 (Zb7 C__law_changed L (Za0 (pvM 1) (Za0 (pvM 5) (Za0 (Zb5 (Za0 (Zb3 (Za0 Za9 (Za0 (pxt (pvM 3) Za5) (Za0 (pvM 4) Za2)))) (Za0 (Zb3 (Za0 Za9 (Za0 (pxt (pvM 3) Za5) (Za0 (pvM 4) Za2)))) Za2))) Za2)))) (Za0 (pvM 2) Za2))) Za2))))
  Zb2)
 (Za4 (Zc4 ((Zg0 (ptcM (Zd6) (pvM 0) Za9) (Ze6 (ptcM (Zd6) (pxt (pvM 3) Za5) Za9)))).pt
  (Za4 (pst 6 sc_ao0.nd (Zb7 C__law_changed L (Za0 (pvM 1) (Za0 (pvM 5) (Za0 (Zb5 (Za0 (Zb3 (Za0 Za9 (Za0 (pxt (pvM 3) Za5) (Za0 (pvM 4) Za2)))) Za2)) Za2)))))
 (Za6 (Zb1 (Zb5 (Za0 (Zb3 (Za0 (pvM 6) (Za0 (pvM 3) Za2))) (Za0 (Zb3 (Za0 (Zb7 C__law_changed L (Za0 (pvM 1) (Za0 (pvM 5) (Za0 (Zb5 (Za0 (pvM 4) Za2)) Za2)))) (Za0 (pvM 2) Za2))) Za2))))))
  Zb2)
 (Za6 (Zb1 Zd4)))))))),?_⟩
 obtain⟨⟨us,q5,hU⟩,hS⟩:=hW;have hW:IsW K H N ws:=⟨⟨us,q5,hU⟩,hS⟩;have ho:=q4 _ j3;have q6:1+a.parts+b.parts<=100:=ho.2;have U:a.ok:=ho.1.1;have T:b.ok:=ho.1.2;have q9:∀ s∈ws,s.ok:=fun s n=>(q4 s n).1
 have O:∀ (H1:Hp) (e1:Same H H1) (pl:Addr) (xs:List V) (ts:List Tm),H1 pl=some (.lst xs)->Paired (IsT K H1) xs ts->Okw ts->ts.length<=2->∀ Q':VK,(∀ r u,Same H1 u->H r=none->IsW K u r (norm (rem ws (.nd .thn a b)++ts))->Q' (.ref r) u)->Zh7 K [.ref N,W,.ref pl] H1 Q' E0:=fun H1 e1 pl xs ts h hP hk z7 Q' qq =>
  ⟨N,pl,W,_,ws,xs,ts,rfl,hW.keep e1,hO.keep e1.keepT,ho.1,ho.2,h,hP,q4,hk,by walk_at "o",fun r u D L G=>qq r u D (e1.free L) G⟩
 refine sqt (fun o u=>o=[some (.str x),some (.ref N),some gv,some av,some l,some W,none]/\Same H u/\(R=some .known->Zn4 ws g (.nd .thn a b) R=none)) ?_ ?_
 ·intro C v
  walk_at "1";simp only[show (x=Str.ofString "known")=(R=some .known) from rx hR .known,reduceCtorEq,if_true,if_false];refine ite2 (fun c=>?_) (fun c=>v _ _ ⟨rfl,Same.refl _,fun y=>absurd y c⟩);subst c;refine⟨a,hA,us,SqL.of q5,ws,hU,U,q9,by have:=Zc5 a;walk_at "o",?_⟩
  by_cases ha:a∈ws
  ·rw[if_pos (decide_eq_true ha)]
   refine⟨by decide,fun p hp=>?_⟩;have e:=Za1 hp (HO.lst [l]);refine O _ e p [l] [b] Za3 (.cons (hB.keep e.keepT) .nil) (fun t J=>by rw[List.mem_singleton.mp J];exact⟨T,by walk_at "o"⟩) (by show 1<=2;decide) _ fun r H2 D X G=>⟨by decide,fun Z i=>⟨by decide,fun p4 f=>?_⟩⟩;have S:=e.trans D;exact q1 _ (by show (if a∈ws then _ else _)=_;rw[if_pos ha]) _ _ ((S.trans (Za1 i _)).trans (Za1 f _)) (Zk7 S G (hT.keep S.keepT) i f (.inr X))
  ·rw[if_neg (by rw[decide_eq_false ha];exact Bool.false_ne_true)]
   exact v _ _ ⟨rfl,Same.refl _,fun _=>by show (if a∈ws then _ else _)=_;rw[if_neg ha]⟩
 rintro z0 H1 ⟨rfl,z1,n1⟩;refine sqt (fun o u=>o=[some (.str x),some (.ref N),some gv,some av,some l,some W,none]/\Same H u/\(R=some .idle->Zn4 ws g (.nd .thn a b) R=none)) ?_ ?_
 ·intro C v
  walk_at "1";simp only[show (x=Str.ofString "idle")=(R=some .idle) from rx hR .idle,reduceCtorEq,if_true,if_false];refine ite2 (fun c=>?_) (fun c=>v _ _ ⟨rfl,z1,fun y=>absurd y c⟩);subst c;refine⟨by decide,fun p hp=>?_⟩;have e:=z1.trans (Za1 hp (HO.tup [V.str (Str.ofString "low")]));refine⟨a.data,hA.keep e.keepT,Tm.low.data,isT_low.mpr ⟨p,rfl,.inl (.inl Za3)⟩,a.lay U,Tm.low.lay trivial,by rw[Tm.depth];have:=Zc5 a;walk_at "o",?_⟩;rw[Tm.eqv]
  by_cases ha:a=.low
  ·subst ha
   rw[if_pos (decide_eq_true rfl)];refine⟨by decide,fun F m=>?_⟩;have j:=e.trans (Za1 m (HO.lst []));refine O _ j F [] [] Za3 .nil (fun t J=>nomatch J) (by show 0<=2;decide) _ fun r H2 D X G=>⟨by decide,fun Z i=>⟨by decide,fun p4 f=>?_⟩⟩;have S:=j.trans D;rw[List.append_nil] at G;exact q1 _ rfl _ _ ((S.trans (Za1 i _)).trans (Za1 f _)) (Zk7 S G (hT.keep S.keepT) i f (.inr X))
  ·rw[if_neg (by rw[decide_eq_false ha];exact Bool.false_ne_true)]
   exact v _ _ ⟨rfl,e,fun _=>Ys8 ha⟩
 rintro j9 H2 ⟨rfl,z2,n2⟩;refine sqt (fun o u=>o=[some (.str x),some (.ref N),some gv,some av,some l,some W,none]/\Same H u/\R≠some .use) ?_ ?_
 ·intro C v
  walk_at "1";simp only[show (x=Str.ofString "use")=(R=some .use) from rx hR .use,reduceCtorEq,if_true,if_false];refine ite2 (fun c=>?_) (fun c=>v _ _ ⟨rfl,z2,c⟩);subst c;have lu:=Paired.length hU;refine⟨by decide,fun B M=>?_⟩;have e:=Za1 M (HO.tup [V.ref N,av]);refine⟨by decide,fun F m=>?_⟩;have j:=Za1 m (HO.lst [l]);refine⟨us,(z2.trans (e.trans j)) _ _ q5,_,Za3,Nat.le_of_lt (Zb0 (by show us.length+1<=1000;walk_at "o")),fun Z i=>?_⟩;have I:=Za1 i (HO.lst (us++[l]));have S:=z2.trans ((e.trans j).trans I);refine⟨Z,_,ws++[b],rfl,Za3,Zc8 (Za7 S.keepT hU) (.cons (hB.keep S.keepT) .nil),fun t J=>(List.mem_append.mp J).elim (q4 t) fun z=>by rw[List.mem_singleton.mp z];exact⟨T,by walk_at "o"⟩,by rw[List.length_append,List.length_singleton];walk_at "o",fun r H2 D L G=>⟨by decide,fun p4 f=>⟨by decide,fun p5 q=>?_⟩⟩⟩;exact q1 _ rfl _ _ (((S.trans D).trans (Za1 f _)).trans (Za1 q _)) (Zu3 z2 (hW.keep z2) (hA.keep z2.keepT) M ((j.trans I).trans D) G (hT.keep (S.trans D).keepT) f q (.inl rfl) (.inr (S.free L)))
 rintro j8 H3 ⟨rfl,z3,hu⟩;have j1:=hB.keep z3.keepT;refine sqt (fun o u=>o=[some (.str x),some (.ref N),some gv,some av,some l,some W,none]/\Same H u/\(R=some .curried->Zn4 ws g (.nd .thn a b) R=none)) ?_ ?_
 ·intro C v
  walk_at "1";simp only[show (x=Str.ofString "curried")=(R=some .curried) from rx hR .curried,reduceCtorEq,if_true,if_false];refine ite2 (fun c=>?_) (fun c=>v _ _ ⟨rfl,z3,fun y=>absurd y c⟩);subst c;rcases Zk9 .both (hA.keep z3.keepT) with ⟨c,d,p,vx,Y,rfl,rfl,n,hx,hy⟩ | ⟨p,c1,xs,rfl,n,q3,q2⟩
  ·refine⟨p,rfl,_,n,_,rfl,rfl,?_⟩
   rw[if_pos (by rfl)];have m:1+(1+c.parts+d.parts)+b.parts<=100:=q6;refine⟨p,rfl,_,n,_,rfl,p,rfl,_,n,_,rfl,by decide,fun B M=>⟨by decide,fun F m=>⟨by decide,fun Z i=>?_⟩⟩⟩;have e:=Za1 M (HO.tup [V.str (Str.ofString "then"),Y,l]);have j:=Za1 m (HO.tup [V.str (Str.ofString "then"),vx,V.ref B]);have I:=Za1 i (HO.lst [V.ref F]);have t1:IsT K _ (.ref B) (.nd .thn d b):=isT_nd.mpr ⟨B,Y,l,rfl,.inl (.inl Za3),hy.keep e.keepT,j1.keep e.keepT⟩;have t2:IsT K _ (.ref F) (.nd .thn c (.nd .thn d b)):=isT_nd.mpr ⟨F,vx,.ref B,rfl,.inl (.inl Za3),hx.keep (e.trans j).keepT,t1.keep j.keepT⟩;refine O _ (z3.trans ((e.trans j).trans I)) Z [.ref F] [.nd .thn c (.nd .thn d b)] Za3 (.cons (t2.keep I.keepT) .nil) (fun t J=>by rw[List.mem_singleton.mp J];exact⟨⟨U.1,U.2,T⟩,by show 1+c.parts+(1+d.parts+b.parts)<=100;walk_at "o"⟩) (by show 1<=2;decide) _ fun r H2 D X G=>⟨by decide,fun p4 f=>⟨by decide,fun p5 q=>?_⟩⟩;have S:=(z3.trans ((e.trans j).trans I)).trans D;exact q1 _ rfl _ _ ((S.trans (Za1 f _)).trans (Za1 q _)) (Zk7 S G (hT.keep S.keepT) f q (.inr X))
  ·refine⟨p,rfl,_,n,_,at0 _ _,Zc7 _ _,?_⟩
   rw[if_neg (fun z=>q3 (by cases z;rfl))];exact v _ _ ⟨rfl,z3,fun _=>Yb8 q2⟩
 rintro j7 H4 ⟨rfl,z4,n4⟩;have q7:=hB.keep z4.keepT;refine sqt (fun o u=>o=[some (.str x),some (.ref N),some gv,some av,some l,some W,none]/\Same H u/\(R=some .either->Zn4 ws g (.nd .thn a b) R=none)) ?_ ?_
 ·intro C v
  walk_at "1";simp only[show (x=Str.ofString "either")=(R=some .either) from rx hR .either,reduceCtorEq,if_true,if_false];refine ite2 (fun c=>?_) (fun c=>v _ _ ⟨rfl,z4,fun y=>absurd y c⟩);subst c;rcases Zk9 .one (hA.keep z4.keepT) with ⟨c,d,p,vx,Y,rfl,rfl,n,hx,hy⟩ | ⟨p,c1,xs,rfl,n,q3,q2⟩
  ·refine⟨p,rfl,_,n,_,rfl,rfl,?_⟩
   rw[if_pos (by rfl)];have m:1+(1+c.parts+d.parts)+b.parts<=100:=q6;refine⟨p,rfl,_,n,_,rfl,by decide,fun B M=>?_⟩;have e:=Za1 M (HO.tup [V.str (Str.ofString "then"),vx,l]);refine⟨p,rfl,_,e.sqt n,_,rfl,by decide,fun F m=>⟨by decide,fun Z i=>?_⟩⟩;have j:=Za1 m (HO.tup [V.str (Str.ofString "then"),Y,l]);have I:=Za1 i (HO.lst [V.ref B,V.ref F]);have t1:IsT K _ (.ref B) (.nd .thn c b):=isT_nd.mpr ⟨B,vx,l,rfl,.inl (.inl Za3),hx.keep e.keepT,q7.keep e.keepT⟩;have t2:IsT K _ (.ref F) (.nd .thn d b):=isT_nd.mpr ⟨F,Y,l,rfl,.inl (.inl Za3),hy.keep (e.trans j).keepT,q7.keep (e.trans j).keepT⟩;refine O _ (z4.trans ((e.trans j).trans I)) Z [.ref B,.ref F] [.nd .thn c b,.nd .thn d b] Za3 (.cons (t1.keep (j.trans I).keepT) (.cons (t2.keep I.keepT) .nil)) (fun t J=>?_) (by show 2<=2;decide) _ fun r H2 D X G=>⟨by decide,fun p4 f=>⟨by decide,fun p5 q=>?_⟩⟩
   ·rcases List.mem_cons.mp J with z | z
    ·rw[z];exact⟨⟨U.1,T⟩,by show 1+c.parts+b.parts<=100;walk_at "o"⟩
    ·rw[List.mem_singleton.mp z];exact⟨⟨U.2,T⟩,by show 1+d.parts+b.parts<=100;walk_at "o"⟩
   have S:=(z4.trans ((e.trans j).trans I)).trans D;exact q1 _ rfl _ _ ((S.trans (Za1 f _)).trans (Za1 q _)) (Zk7 S G (hT.keep S.keepT) f q (.inr X))
  ·refine⟨p,rfl,_,n,_,at0 _ _,Zc7 _ _,?_⟩
   rw[if_neg (fun z=>q3 (by cases z;rfl))];exact v _ _ ⟨rfl,z4,fun _=>Yf9 q2⟩
 rintro j6 H5 ⟨rfl,z5,n5⟩;have j0:=hB.keep z5.keepT;refine sqt (fun o u=>o=[some (.str x),some (.ref N),some gv,some av,some l,some W,none]/\Same H u/\(R=some .chain->Zn4 ws g (.nd .thn a b) R=none)) ?_ ?_
 ·intro C v
  walk_at "1";simp only[show (x=Str.ofString "chain")=(R=some .chain) from rx hR .chain,reduceCtorEq,if_true,if_false];refine ite2 (fun c=>?_) (fun c=>v _ _ ⟨rfl,z5,fun y=>absurd y c⟩);subst c;rcases Zk9 .thn (hA.keep z5.keepT) with ⟨c,d,p,vx,Y,rfl,rfl,n,hx,hy⟩ | ⟨p,c1,xs,rfl,n,q3,q2⟩
  ·refine⟨p,rfl,_,n,_,rfl,rfl,?_⟩
   rw[if_pos (by rfl)];have m:1+(1+c.parts+d.parts)+b.parts<=100:=q6;refine⟨p,rfl,_,n,_,rfl,by decide,fun B M=>⟨by decide,fun F m=>?_⟩⟩;have e:=Za1 M (HO.tup [V.str (Str.ofString "then"),Y,l]);have j:=Za1 m (HO.lst [V.ref B]);have t1:IsT K _ (.ref B) (.nd .thn d b):=isT_nd.mpr ⟨B,Y,l,rfl,.inl (.inl Za3),hy.keep e.keepT,j0.keep e.keepT⟩;refine O _ (z5.trans (e.trans j)) F [.ref B] [.nd .thn d b] Za3 (.cons (t1.keep j.keepT) .nil) (fun t J=>by rw[List.mem_singleton.mp J];exact⟨⟨U.2,T⟩,by show 1+d.parts+b.parts<=100;walk_at "o"⟩) (by show 1<=2;decide) _ fun r H2 D X G=>⟨by decide,fun Z i=>⟨by decide,fun p4 f=>?_⟩⟩;have S2:=(z5.trans (e.trans j)).trans D;have I:=Za1 i (HO.tup [V.ref r,V.ref p]);have s4:=Za1 f (HO.lst [l]);have S4:=(S2.trans I).trans s4;refine O _ S4 p4 [l] [b] Za3 (.cons (hB.keep S4.keepT) .nil) (fun t J=>by rw[List.mem_singleton.mp J];exact⟨T,by walk_at "o"⟩) (by show 1<=2;decide) _ fun r2 H3 e3 j4 j2=>⟨by decide,fun p5 q=>⟨by decide,fun p6 q8=>?_⟩⟩;have S:=S4.trans e3;exact q1 _ rfl _ _ ((S.trans (Za1 q _)).trans (Za1 q8 _)) (Zu3 S2 G (hA.keep S2.keepT) i (s4.trans e3) j2 (hT.keep S.keepT) q q8 (.inr X) (.inr j4))
  ·refine⟨p,rfl,_,n,_,at0 _ _,Zc7 _ _,?_⟩
   rw[if_neg (fun z=>q3 (by cases z;rfl))];exact v _ _ ⟨rfl,z5,fun _=>Yk8 q2⟩
 rintro j5 H6 ⟨rfl,z6,n6⟩;walk_at "1";refine q0 ?_ _ z6;clear q0 q1 O
 cases R with
 | none=>rfl
 | some r=>cases r<;>first | exact n1 rfl | exact n2 rfl | exact n4 rfl | exact n5 rfl | exact n6 rfl | exact absurd rfl hu | rfl
theorem sc_aq0:FnScope ["_law_rule","_law_wishes","_law_goal","_law_on","_law_form","_law_one","_law_other"] ["_law_rule","_law_wishes","_law_goal","_law_on"] (Za8 (top 59)):=scm (by decide +kernel)
theorem Xz6 {k:Nat} (F_aq0:Df K mg "_law_needs" (top 59) ["_law_rule","_law_wishes","_law_goal","_law_on"]) (C__law_goal_needs:Cl P w K mg base k "_law_goal_needs" ["_law_rule","_law_wishes","_law_goal"] (Zy9 K)) (C__law_changed:Cl P w K mg base k "_law_changed" ["_law_wishes","_law_on","_law_more"] (Zh7 K)) (C__law_if_needs:Cl P w K mg base k "_law_if_needs" ["_law_rule","_law_wishes","_law_goal","_law_one","_law_other","_law_on"] (Zp8 K)) (m_len:mg "len"=none):Cl P w K mg base (k+1) "_law_needs" ["_law_rule","_law_wishes","_law_goal","_law_on"] (Ye9 K):=by
 refine F_aq0.ok sc_aq0 (fun vs H Q E h=>?_) (fun _ _ A _ s H vs Q E v h=>?_)
 ·obtain⟨l,R,F,L,ov,ws,g,on,rfl,_⟩:=h
  rfl
 obtain⟨l,R,F,L,ov,ws,g,on,rfl,C,W,X,j,B,q7,gp,hl,q⟩:=h
 refine⟨_,(Za4 (Zc4 (ptcM (Zw7) (pvM 3) Zd4)
  (Za6 (Zb1 (Zb7 C__law_goal_needs v (Za0 (pvM 0) (Za0 (pvM 1) (Za0 (pvM 2) Za2))))))
  Zb2)
 (Za4 (Zc4 ((Zr2 (Zi6 (Zw5 (Ze1 v)) (pvM 3) (pvM 1) (by with_unfolding_all rfl)) (Zl7 (ptcM (Zm0) (Zc1 Zb8 (by exact rfl) m_len Zd2 (Za0 (pvM 3) Za2)) Za5)))).pt
  (Za6 (Zb1 Zd4))
  Zb2)
 (Za4 (Zr3 (pvM 3) (Zo0 rfl (Zc0 (Zb6 (i:=4) sc_aq0.nd rfl (Or.inl rfl)) (Zc0 (Zb6 (i:=5) sc_aq0.nd rfl (Or.inl rfl)) (Zc0 (Zb6 (i:=6) sc_aq0.nd rfl (Or.inl rfl)) Zh9)))))
 (Za4 (Zc4 ((Zg0 (ptcM (Zd6) (pvM 0) Za9) (Ze6 (ptcM (Zd6) (pvM 4) Za9)))).pt
  (Za6 (Zb1 (Zb5 (Za0 (Zb3 (Za0 (Zb7 C__law_changed v (Za0 (pvM 1) (Za0 (pvM 3) (Za0 (Zb5 (Za0 (pvM 5) (Za0 (pvM 6) Za2))) Za2)))) (Za0 (pvM 2) Za2))) Za2))))
  Zb2)
 (Za4 (Zc4 ((Zg0 (ptcM (Zd6) (pvM 0) Za9) (Ze6 (ptcM (Zd6) (pvM 4) Za9)))).pt
  (Za6 (Zb1 (Zb5 (Za0 (Zb3 (Za0 (Zb7 C__law_changed v (Za0 (pvM 1) (Za0 (pvM 3) (Za0 (Zb5 (Za0 (pvM 5) Za2)) Za2)))) (Za0 (pvM 2) Za2))) (Za0 (Zb3 (Za0 (Zb7 C__law_changed v (Za0 (pvM 1) (Za0 (pvM 3) (Za0 (Zb5 (Za0 (pvM 6) Za2)) Za2)))) (Za0 (pvM 2) Za2))) Za2)))))
  Zb2)
 (Za4 (Zc4 (ptcM (Zd6) (pvM 4) Za9)
  (Za6 (Zb1 (Zb7 C__law_if_needs v (Za0 (pvM 0) (Za0 (pvM 1) (Za0 (pvM 2) (Za0 (pvM 5) (Za0 (pvM 6) (Za0 (pvM 3) Za2)))))))))
  Zb2)
 (Za6 (Zb1 Zd4)))))))),?_⟩
 obtain⟨⟨us,q3,hU⟩,hS⟩:=W;have W:IsW K H F ws:=⟨⟨us,q3,hU⟩,hS⟩;have q8:∀ s∈ws,s.ok:=fun s u=>(B s u).1;walk_at "1"
 cases on with
 | none =>
  have eo:ov=.non:=j;subst eo;simp only[if_true];exact⟨l,R,F,L,ws,g,rfl,C,W,X,B,q7,gp,hl,q⟩
 | some o =>
  obtain⟨j,q9,op⟩:=j;rw[if_neg (fun z=>by rw[z] at j;exact (by obtain⟨p,x,N,A,e,_⟩:=Zn1 j;cases e))];refine⟨o,j,us,SqL.of q3,ws,hU,q9,q8,by have:=Zc5 o;walk_at "o",?_⟩
  by_cases hin:o∈ws
  rotate_left
  ·rw[if_pos (by rw[if_pos trivial,decide_eq_false hin];rfl)]
   exact q.1 (if_neg hin) _ (Same.refl _)
  rw[if_neg (by rw[if_pos trivial,decide_eq_true hin];exact Bool.false_ne_true)];have J:=B _ hin
  have q2:∀ (a:Hp) (D:Same H a) (pl:Addr) (N:List V) (M:List Tm),a pl=some (.lst N)->Paired (IsT K a) N M->Okw M->M.length<=2->∀ Q':VK,(∀ r H',Same a H'->H r=none->IsW K H' r (norm (rem ws o++M))->Q' (.ref r) H')->Zh7 K [.ref F,ov,.ref pl] a Q' E0:=fun a D pl N M h hP hk j5 Q' qq =>
   ⟨F,pl,ov,_,ws,N,M,rfl,W.keep D,j.keep D.keepT,J.1,J.2,h,hP,B,hk,by walk_at "o",fun r H' Z v I=>qq r H' Z (D.free v) I⟩
  have eX:Zj4 R ws g (some o)=Zn4 ws g o R:=if_pos hin;rw[eX] at q;obtain⟨G,q1⟩:=q
  cases o with
  | low =>
   obtain⟨p,rfl,u⟩:=isT_low.mp j;refine⟨p,rfl,_,.inr u,?_⟩;rw[if_pos (by decide)];exact G (by cases R with | none=>rfl | some r=>cases r<;>rfl) _ (Same.refl _)
  | ltr y =>
   obtain⟨p,rfl,u⟩:=isT_ltr.mp j;refine⟨p,rfl,_,.inr u,?_⟩;rw[if_pos (by show (2:Int) < 3;decide)];exact G (by cases R with | none=>rfl | some r=>cases r<;>rfl) _ (Same.refl _)
  | nd kk c d =>
   obtain⟨p,x,y,rfl,u,hx,hy⟩:=isT_nd.mp j;have j4:1+c.parts+d.parts<=100:=J.2;refine⟨p,rfl,_,.inr u,?_⟩;rw[if_neg (by show ¬ (3:Int) < 3;decide)];refine⟨p,rfl,_,u,rfl,_,_,rfl,_,_,rfl,_,_,rfl,rfl,?_⟩;have j3:∀ (a:Hp) (m:Addr) (O:List Tm),Same H a->H m=none->IsW K a m O->Zn4 ws g (.nd kk c d) R=some [(O,g)]->2<=sizeLine/\∀ p,a p=none->1<=sizeLine/\∀ p',upd a p (HO.tup [.ref m,L]) p'=none->Q (.ref p') (upd (upd a p (HO.tup [.ref m,L])) p' (HO.lst [.ref p])):=fun a m O D Y I hn=>⟨by decide,fun p hp=>⟨by decide,fun p' q6=>q1 _ hn _ _ ((D.trans (Za1 hp _)).trans (Za1 q6 _)) (Zk7 D I (X.keep D.keepT) hp q6 (.inr Y))⟩⟩
   have T:kk=.thn->Zp8 K [V.str l,V.ref F,L,x,y,V.ref p] H Q E0:=fun z=>by subst z;exact⟨l,R,F,L,x,y,.ref p,ws,g,c,d,rfl,C,W,X,hx,hy,j,hin,B,q7,gp,hl,G,q1⟩
   by_cases b:R=some .parts
   ·subst b
    obtain rfl:l=Str.ofString "parts":=C;rw[if_pos rfl]
    cases kk with
    | both =>
     refine⟨Zc7 _ _,?_⟩;rw[if_pos (by rfl)];refine⟨by decide,fun p1 b=>?_⟩;have n:=Za1 b (HO.lst [x,y]);refine q2 _ n p1 [x,y] [c,d] Za3 (.cons (hx.keep n.keepT) (.cons (hy.keep n.keepT) .nil)) (fun t U=>?_) (by show 2<=2;decide) _ fun m H2 Z Y I=>j3 H2 m _ (n.trans Z) Y I rfl;rcases List.mem_cons.mp U with z | z
     ·rw[z];exact⟨J.1.1,by walk_at "o"⟩
     ·rw[List.mem_singleton.mp z];exact⟨J.1.2,by walk_at "o"⟩
    | one =>
     refine⟨Zc7 _ _,?_⟩;rw[if_neg (by decide),if_neg (by decide),if_neg (by decide)];refine⟨Zc7 _ _,?_⟩;rw[if_neg (by decide)];exact G rfl _ (Same.refl _)
    | thn =>
     refine⟨Zc7 _ _,?_⟩;rw[if_neg (by decide),if_neg (by decide),if_neg (by decide)];refine⟨Zc7 _ _,?_⟩;rw[if_pos (by rfl)];exact T rfl
   have np:¬ (l=Str.ofString "parts"):=fun z=>by
    cases R with
    | none=>have:=Xe2 C .parts;rw[show Rl.str .parts=Str.ofString "parts" from rfl] at this;rw[z] at this;exact this.mp rfl
    | some r=>rw[show l=r.str from C,Xg7] at z;exact b (by rw[z])
   rw[if_neg np,if_neg Bool.false_ne_true]
   by_cases f:R=some .cases
   ·subst f
    obtain rfl:l=Str.ofString "cases":=C;rw[if_pos rfl]
    cases kk with
    | both =>
     refine⟨Zc7 _ _,?_⟩;rw[if_neg (by decide)];refine⟨Zc7 _ _,?_⟩;rw[if_neg (by decide)];exact G rfl _ (Same.refl _)
    | one =>
     refine⟨Zc7 _ _,?_⟩;rw[if_pos (by rfl)];refine⟨by decide,fun p1 b=>?_⟩;have n:=Za1 b (HO.lst [x]);refine q2 _ n p1 [x] [c] Za3 (.cons (hx.keep n.keepT) .nil) (fun t U=>by rw[List.mem_singleton.mp U];exact⟨J.1.1,by walk_at "o"⟩) (by show 1<=2;decide) _ fun m H2 Z Y I=>⟨by decide,fun p2 f=>⟨by decide,fun p3 j1=>?_⟩⟩;have S2:=n.trans Z;have s3:=Za1 f (HO.tup [V.ref m,L]);have s4:=Za1 j1 (HO.lst [y]);have S4:=(S2.trans s3).trans s4;refine q2 _ S4 p3 [y] [d] Za3 (.cons (hy.keep S4.keepT) .nil) (fun t U=>by rw[List.mem_singleton.mp U];exact⟨J.1.2,by walk_at "o"⟩) (by show 1<=2;decide) _ fun r2 H3 e3 j2 j0=>⟨by decide,fun p5 q5=>⟨by decide,fun p6 q4=>?_⟩⟩;have S:=S4.trans e3;exact q1 _ rfl _ _ ((S.trans (Za1 q5 _)).trans (Za1 q4 _)) (Zu3 S2 I (X.keep S2.keepT) f (s4.trans e3) j0 (X.keep S.keepT) q5 q4 (.inr Y) (.inr j2))
    | thn =>
     refine⟨Zc7 _ _,?_⟩;rw[if_neg (by decide)];refine⟨Zc7 _ _,?_⟩;rw[if_pos (by rfl)];exact T rfl
   have np:¬ (l=Str.ofString "cases"):=fun z=>by
    cases R with
    | none=>have:=Xe2 C .cases;rw[show Rl.str .cases=Str.ofString "cases" from rfl] at this;rw[z] at this;exact this.mp rfl
    | some r=>rw[show l=r.str from C,Xg8] at z;exact f (by rw[z])
   rw[if_neg np,if_neg Bool.false_ne_true];refine⟨Zc7 _ _,?_⟩
   cases kk with
   | both =>
    rw[if_neg (by decide)];exact G (by cases R with | none=>rfl | some r=>cases r<;>first | rfl | exact absurd rfl b | exact absurd rfl f) _ (Same.refl _)
   | one =>
    rw[if_neg (by decide)];exact G (by cases R with | none=>rfl | some r=>cases r<;>first | rfl | exact absurd rfl b | exact absurd rfl f) _ (Same.refl _)
   | thn =>
    rw[if_pos (by rfl)];exact T rfl
theorem Yr9 {f:Addr} {fd:FuncData} {ps:List Str} {k:Nat}:FnOk P w K mg base CX0 k f fd ps (Zk3 K 0):=by
 have b:∀ a H Q E,¬ Zk3 K 0 a H Q E:=fun a H Q E h=>by
  obtain⟨c,d,i,g,_,_,m,_,l,_⟩:=h;walk_at "o"
 exact⟨fun a H Q E h=>absurd h (b a H Q E),fun A _ s H e j a Q E _ _ _ _ h=>absurd h (b a H Q E)⟩
theorem Ym7 {f_aw0:Addr} {fd_aw0:FuncData} (F_aw0:Fun K "_law_statement" "_law_statement" (top 52) f_aw0 fd_aw0) (m_aw0:mg "_law_statement"=some (.ref f_aw0)) (b_aw0:Binds K fd_aw0 ["_law_cell_here","_law_many","_law_words_here"] [])
  {f_ap0:Addr}{fd_ap0:FuncData}(G_ap0:∀ k,FnOk P w K mg base CX0 (k+1) f_ap0 fd_ap0 ["_law_cell_here","_law_k"] Zp4)(m_ap0:mg "_law_mix"=some (.ref f_ap0))(k_ap0:W.keepIn K (.ref f_ap0)=true)(b_ap0:Binds K fd_ap0 ["_law_cell_here","_law_k"] [])(m_len:mg "len"=none) :
  ∀ n:Nat,FnOk P w K mg base CX0 (n+1) f_aw0 fd_aw0 ["_law_cell_here","_law_many","_law_words_here"] (Zk3 K n)
 | 0=>Yr9
 | n+1=>Xz0 F_aw0 (Ym7 F_aw0 m_aw0 b_aw0 G_ap0 m_ap0 k_ap0 b_ap0 m_len n) m_aw0 F_aw0.kp b_aw0 (G_ap0 n) m_ap0 k_ap0 b_ap0 m_len
end
theorem Xr4 {l:W.OpenLaw} {w:World} {K:W.Frag} {h:Heap} {mg:Str->Option Value} {fa:Addr} (X:K.In h) (G:h.Ns mainGlobals mg) (hfa:mg "law"=some (.ref fa)) (E:Hd.obsK pg ask K=Hd.valK pg ask w.params) (D:Hd.chk pg cask K=true) (E2:Hd.iniK pg mask K=Hd.iniV pg mask) (D2:Hd.chkM pg mask K=true) :
  ∃ fd:FuncData,(∀ (s:Shared) (v:Value),BindsTo s fd ⟨[v],[]⟩ [("_law_script",v)])/\∀ base:Heap,K.In base->base.Ns mainGlobals mg->FnOk l.prog w K mg base CX0 105 fa fd ["_law_script"] (Yw2 K):=by
 obtain⟨f_ap0,fd_ap0,z6,v9,y0,v8⟩:=(show Df K mg "_law_mix" (top 49) ["_law_cell_here","_law_k"] from Hd.df2 X G E 49).ex;obtain⟨f_aw0,fd_aw0,Y,F_aw0,k_aw0,Z⟩:=(show Df K mg "_law_statement" (top 52) ["_law_cell_here","_law_many","_law_words_here"] from Hd.df3 X G E 52).ex;obtain⟨y4,fd_bo0,m_bo0,F_bo0,k_bo0,b_bo0⟩:=(show Df K mg "by_wish" (top 24) ["wishes","goal","on"] from Hd.df3 X G E 24).ex;obtain⟨y9,fd_bj0,m_bj0,F_bj0,k_bj0,b_bj0⟩:=(show Df K mg "by_low" (top 25) ["wishes","goal","on"] from Hd.df3 X G E 25).ex;obtain⟨v7,fd_bb0,m_bb0,F_bb0,k_bb0,b_bb0⟩:=(show Df K mg "by_both" (top 26) ["wishes","goal","on"] from Hd.df3 X G E 26).ex;obtain⟨v2,fd_bg0,m_bg0,F_bg0,k_bg0,b_bg0⟩:=(show Df K mg "by_first" (top 27) ["wishes","goal","on"] from Hd.df3 X G E 27).ex;obtain⟨y7,fd_bl0,m_bl0,F_bl0,k_bl0,b_bl0⟩:=(show Df K mg "by_second" (top 28) ["wishes","goal","on"] from Hd.df3 X G E 28).ex;obtain⟨y6,fd_bm0,m_bm0,F_bm0,k_bm0,b_bm0⟩:=(show Df K mg "by_then" (top 29) ["wishes","goal","on"] from Hd.df3 X G E 29).ex;obtain⟨y8,fd_bk0,m_bk0,F_bk0,k_bk0,b_bk0⟩:=(show Df K mg "by_parts" (top 30) ["wishes","goal","on"] from Hd.df3 X G E 30).ex;obtain⟨v6,fd_bc0,m_bc0,F_bc0,k_bc0,b_bc0⟩:=(show Df K mg "by_cases" (top 31) ["wishes","goal","on"] from Hd.df3 X G E 31).ex;obtain⟨v0,fd_bi0,m_bi0,F_bi0,k_bi0,b_bi0⟩:=(show Df K mg "by_known" (top 32) ["wishes","goal","on"] from Hd.df3 X G E 32).ex;obtain⟨v4,fd_be0,m_be0,F_be0,k_be0,b_be0⟩:=(show Df K mg "by_curried" (top 34) ["wishes","goal","on"] from Hd.df3 X G E 34).ex;obtain⟨v3,fd_bf0,m_bf0,F_bf0,k_bf0,b_bf0⟩:=(show Df K mg "by_either" (top 35) ["wishes","goal","on"] from Hd.df3 X G E 35).ex;obtain⟨v1,fd_bh0,m_bh0,F_bh0,k_bh0,b_bh0⟩:=(show Df K mg "by_idle" (top 36) ["wishes","goal","on"] from Hd.df3 X G E 36).ex;obtain⟨v5,fd_bd0,m_bd0,F_bd0,k_bd0,b_bd0⟩:=(show Df K mg "by_chain" (top 37) ["wishes","goal","on"] from Hd.df3 X G E 37).ex;obtain⟨y5,fd_bn0,m_bn0,F_bn0,k_bn0,b_bn0⟩:=(show Df K mg "by_use" (top 38) ["wishes","goal","on"] from Hd.df3 X G E 38).ex;obtain⟨f_bx0,fd_bx0,m_bx0,F_bx0,k_bx0,b_bx0⟩:=(show Df K mg "needs" (top 42) ["rule","wishes","goal","on"] from Hd.df4 X G E 42).ex;obtain⟨f_bs0,fd_bs0,m_bs0,F_bs0,k_bs0,b_bs0⟩:=(show Df K mg "is_good" (top 46) ["lines","number"] from Hd.df2 X G E 46).ex;obtain⟨f_bp0,fd_bp0,m_bp0,F_bp0,k_bp0,b_bp0⟩:=(show Df K mg "check" (top 47) ["lines"] from Hd.df1 X G E 47).ex;obtain⟨f_at0,fd_at0,m_at0,F_at0,k_at0,b_at0⟩:=(show Df K mg "_law_parts" (top 53) ["_law_statement_here"] from Hd.df1 X G E 53).ex;obtain⟨f_aa0,fd_aa0,m_aa0,F_aa0,k_aa0,b_aa0⟩:=(show Df K mg "_law_alone" (top 71) ["_law_error"] from Hd.df1 X G E 71).ex;obtain⟨f_bu0,oc_bu0,od_bu0,sl_bu0,kV_bu0,dc_bu0,pm_bu0,an_bu0,cd_bu0,ct_bu0,a_bu0,l_bu0,c_bu0,k_bu0⟩:Hd.FnF K "law" (top 74):=Hd.fn_ofx (by kernel_rfl) (Hd.e_fn E (i:=74) (by decide));have a_bo0:=Hd.nsx X G E 24 m_bo0;have a_bj0:=Hd.nsx X G E 25 m_bj0;have a_bb0:=Hd.nsx X G E 26 m_bb0;have a_bg0:=Hd.nsx X G E 27 m_bg0;have a_bl0:=Hd.nsx X G E 28 m_bl0;have a_bm0:=Hd.nsx X G E 29 m_bm0;have a_bk0:=Hd.nsx X G E 30 m_bk0;have a_bc0:=Hd.nsx X G E 31 m_bc0;have a_bi0:=Hd.nsx X G E 32 m_bi0;have a_be0:=Hd.nsx X G E 34 m_be0;have a_bf0:=Hd.nsx X G E 35 m_bf0;have a_bh0:=Hd.nsx X G E 36 m_bh0;have a_bd0:=Hd.nsx X G E 37 m_bd0;have a_bn0:=Hd.nsx X G E 38 m_bn0;obtain⟨aPAIRED,g_PAIRED,t_PAIRED⟩:Hd.TupF K "PAIRED" ["both","one","then"]:=Hd.tup_ofx (by kernel_rfl) (by kernel_rfl) (by decide) (Hd.e_tup E (i:=15) (by decide));obtain⟨aLOW,g_LOW,t_LOW⟩:Hd.TupF K "LOW" ["low"]:=Hd.tup_ofx (by kernel_rfl) (by kernel_rfl) (by decide) (Hd.e_tup E (i:=14) (by decide));obtain⟨aWITHOUT_ON,q7,q3⟩:Hd.TupF K "WITHOUT_ON" ["wish","low","both","first","second","then"]:=Hd.tup_ofx (by kernel_rfl) (by kernel_rfl) (by decide) (Hd.e_tup E (i:=40) (by decide));obtain⟨aRULES,g_RULES,O⟩:Hd.KfF K w "RULES" _:=Hd.kf_ofx (l:=[("wish","by_wish"),("low","by_low"),("both","by_both"),("first","by_first"),("second","by_second"),("then","by_then"),("parts","by_parts"),("cases","by_cases"),("known","by_known"),("curried","by_curried"),("either","by_either"),("idle","by_idle"),("chain","by_chain"),("use","by_use")]) [y4,y9,v7,v2,y7,y6,y8,v6,v0,v4,v3,v1,v5,y5] (by kernel_rfl) (by kernel_rfl) (.cons a_bo0 (.cons a_bj0 (.cons a_bb0 (.cons a_bg0 (.cons a_bl0 (.cons a_bm0 (.cons a_bk0 (.cons a_bc0 (.cons a_bi0 (.cons a_be0 (.cons a_bf0 (.cons a_bh0 (.cons a_bd0 (.cons a_bn0 (.nil))))))))))))))) (show (["wish","low","both","first","second","then","parts","cases","known","curried","either","idle","chain","use"]:List Str).Nodup by decide) (Hd.e_kf E (i:=39) (by decide));have y3:=Hd.c_refx (x:="KenError") D (i:=1) (by kernel_rfl) (by decide);have g_NoText:=Hd.c_refx (x:="NoText") D (i:=2) (by kernel_rfl) (by decide);have y2:=Hd.c_refx (x:="NoWorlds") D (i:=3) (by kernel_rfl) (by decide);have g_NoRule:=Hd.c_refx (x:="NoRule") D (i:=4) (by kernel_rfl) (by decide);have g_NoLine:=Hd.c_refx (x:="NoLine") D (i:=5) (by kernel_rfl) (by decide);have g_NoKind:=Hd.c_refx (x:="NoKind") D (i:=6) (by kernel_rfl) (by decide);have j7:=Hd.c_refx (x:="NoTurning") D (i:=7) (by kernel_rfl) (by decide);have g_Large:=Hd.c_refx (x:="Large") D (i:=8) (by kernel_rfl) (by decide);have y1:=Hd.c_refx (x:="NotShown") D (i:=9) (by kernel_rfl) (by decide);have g_Twice:=Hd.c_refx (x:="Twice") D (i:=10) (by kernel_rfl) (by decide);have g_NoWish:=Hd.c_refx (x:="NoWish") D (i:=11) (by kernel_rfl) (by decide);have g_NoRow:=Hd.c_refx (x:="NoRow") D (i:=12) (by kernel_rfl) (by decide);obtain⟨f_NoLine___init__,fd_NoLine___init__,a⟩:=Hd.m_ini D2 E2 (r:=⟨5,1,0,Str.ofString "NoLine.__init__",Str.ofString "line"⟩) (.head _);obtain⟨q1,z_NoRule,j_1,j_2⟩:=Hd.c_exc D (ij:=(4,1)) (by decide);have i_3:=Hd.c_kit D (ij:=(5,[8,6,12,4,2])) (by decide);have i_4:=Hd.c_kit D (ij:=(5,[7,11,3,9,10])) (by decide);have b:=W.mg_none_of X G (n:="len") (Hd.e_bl E (.head _));have g:=W.mg_none_of X G (n:="range") (Hd.e_bl E (.tail _ (.head _)));have t:=W.mg_none_of X G (n:="list") (Hd.e_bl E (.tail _ (.tail _ (.head _))));have z7:=W.mg_none_of X G (n:="all") (Hd.e_bl E (.tail _ (.tail _ (.tail _ (.head _)))));have z4:=W.mg_none_of X G (n:="zip") (Hd.e_bl E (.tail _ (.tail _ (.tail _ (.tail _ (.head _))))));have m_sorted:=W.mg_none_of X G (n:="sorted") (Hd.e_bl E (.tail _ (.tail _ (.tail _ (.tail _ (.tail _ (.head _)))))));have m_int:=W.mg_none_of X G (n:="int") (Hd.e_bl E (.tail _ (.tail _ (.tail _ (.tail _ (.tail _ (.tail _ (.head _))))))));have z5:=W.mg_none_of X G (n:="reversed") (Hd.e_bl E (.tail _ (.tail _ (.tail _ (.tail _ (.tail _ (.tail _ (.tail _ (.head _)))))))));have u:=W.mg_none_of X G (n:="isinstance") (Hd.e_bl E (.tail _ (.tail _ (.tail _ (.tail _ (.tail _ (.tail _ (.tail _ (.tail _ (.head _))))))))));have m_bool:=W.mg_none_of X G (n:="bool") (Hd.e_bl E (.tail _ (.tail _ (.tail _ (.tail _ (.tail _ (.tail _ (.tail _ (.tail _ (.tail _ (.head _)))))))))));have m_max:=W.mg_none_of X G (n:="max") (Hd.e_bl E (.tail _ (.tail _ (.tail _ (.tail _ (.tail _ (.tail _ (.tail _ (.tail _ (.tail _ (.tail _ (.head _))))))))))));have m_min:=W.mg_none_of X G (n:="min") (Hd.e_bl E (.tail _ (.tail _ (.tail _ (.tail _ (.tail _ (.tail _ (.tail _ (.tail _ (.tail _ (.tail _ (.tail _ (.head _)))))))))))));have q5:=W.mg_none_of X G (n:="ValueError") (Hd.e_bl E (.tail _ (.tail _ (.tail _ (.tail _ (.tail _ (.tail _ (.tail _ (.tail _ (.tail _ (.tail _ (.tail _ (.tail _ (.head _))))))))))))));cases hfa.symm.trans (W.mg_of X G a_bu0);have F_bu0:=Xb8 (st:=(top 74)) l_bu0 c_bu0 k_bu0;have m_PAIRED:=W.mg_of X G g_PAIRED;have m_LOW:=W.mg_of X G g_LOW;have q4:=W.mg_of X G q7;have m_RULES:=W.mg_of X G g_RULES;have O:KDict K w aRULES (tblR (Xo1 y4 y9 v7 v2 y7 y6 y8 v6 v0 v4 v3 v1 v5 y5)):=O;have M:=W.mg_of X G y3;have m_NoText:=W.mg_of X G g_NoText;have z9:=W.mg_of X G y2;have L:=W.mg_of X G g_NoRule;have q6:=W.mg_of X G g_NoLine;have m_NoKind:=W.mg_of X G g_NoKind;have j6:=W.mg_of X G j7;have m_Large:=W.mg_of X G g_Large;have z8:=W.mg_of X G y1;have m_Twice:=W.mg_of X G g_Twice;have m_NoWish:=W.mg_of X G g_NoWish;have m_NoRow:=W.mg_of X G g_NoRow;have p:=a.fn;have B:=p.binds (ps:=["self","line"]) fun _ _ _ _ _ _ us hl=>Ken.len2 hl (fun _ _=>rfl);have q2:=a.xc;have U:=q2.xc;have q0:=a.isi;have z:=a.set;have j5:=a.ini;have w_NoLine:=z.na;have d_NoLine:=z.hd;have i_1:=a.one;have i_2:=a.val;have xc_NoRule:=q1.xc;refine⟨W.fnOf "law" "law" (Zf6 (top 74)) (Ze0 (top 74)) (Za8 (top 74)) .none kV_bu0 dc_bu0 pm_bu0 an_bu0 cd_bu0 ct_bu0,fun s v=>.of_eq rfl,fun base _ _=>?_⟩;have G_ap0:=Yz0 (P:=l.prog) (w:=w) (mg:=mg) (base:=base) (k:=0) v9;have d:=Cl.of G_ap0 z6 y0 v8;have J:=Wa5 (k:=1) (Hd.df2 X G E 50) (d.up (by decide)) b;have q9:=Xy8 (k:=1) (Hd.df1 X G E 51) (d.up (by decide)) g;have G_aw0:=Ym7 (P:=l.prog) (w:=w) (mg:=mg) (base:=base) F_aw0 Y Z (fun k=>Yz0 v9) z6 y0 v8 b 32;have F:=Ym7 (P:=l.prog) (w:=w) (mg:=mg) (base:=base) F_aw0 Y Z (fun k=>Yz0 v9) z6 y0 v8 b 2;have q:=Cl.of F Y k_aw0 Z;have f:=Xx0 (P:=l.prog) (w:=w) (base:=base) (k:=0) (Hd.df2 X G E 16) m_PAIRED t_PAIRED;have R:=Xw2 (k:=1) (Hd.df2 X G E 19) (f.up (by decide)) b;have y:=Xy7 (k:=2) (Hd.df2 X G E 20) (R.up (by decide)) (f.up (by decide)) b;have e:=Xw0 (k:=2) (Hd.df2 X G E 21) (R.up (by decide));have o:=Xw5 (k:=2) (Hd.df2 X G E 22) (R.up (by decide)) (f.up (by decide)) t b;have A:=Xw7 (P:=l.prog) (w:=w) (base:=base) (k:=0) (Hd.df2 X G E 33);have G_bo0:=Xx2 (k:=3) F_bo0 (y.up (by decide));have G_bj0:=Xx7 (k:=3) F_bj0 (y.up (by decide)) m_LOW t_LOW;have G_bb0:=Xy5 (P:=l.prog) (w:=w) (mg:=mg) (base:=base) (k:=0) F_bb0 t;have G_bg0:=Xy0 (P:=l.prog) (w:=w) (mg:=mg) (base:=base) (k:=0) F_bg0 t;have G_bl0:=Xx5 (P:=l.prog) (w:=w) (mg:=mg) (base:=base) (k:=0) F_bl0 t;have G_bm0:=Xx4 (k:=3) F_bm0 (o.up (by decide));have G_bk0:=Xx6 (k:=3) F_bk0 (o.up (by decide)) (e.up (by decide));have G_bc0:=Xy4 (k:=3) F_bc0 (o.up (by decide)) (e.up (by decide));have G_bi0:=Xx8 (k:=3) F_bi0 (y.up (by decide)) (o.up (by decide)) (e.up (by decide));have G_be0:=Xy2 (k:=3) F_be0 (A.up (by decide)) (o.up (by decide)) (e.up (by decide));have G_bf0:=Xy1 (k:=3) F_bf0 (A.up (by decide)) (o.up (by decide)) (e.up (by decide));have G_bh0:=Xx9 (k:=3) F_bh0 (A.up (by decide)) (e.up (by decide));have G_bd0:=Xy3 (k:=3) F_bd0 (A.up (by decide)) (o.up (by decide)) (e.up (by decide));have G_bn0:=Xx3 (k:=3) F_bn0 (o.up (by decide)) t;have C_has_on:=Xw9 (k:=3) (Hd.df3 X G E 41) (y.up (by decide)) q4 q3;have G_bx0:=Xw3 (k:=4) (fR:=Xo1 y4 y9 v7 v2 y7 y6 y8 v6 v0 v4 v3 v1 v5 y5) (fdR:=Xo1 fd_bo0 fd_bj0 fd_bb0 fd_bg0 fd_bl0 fd_bm0 fd_bk0 fd_bc0 fd_bi0 fd_be0 fd_bf0 fd_bh0 fd_bd0 fd_bn0) F_bx0 (C_has_on.up (by decide)) m_RULES O L q1 (fun r=>match r with | .wish=>G_bo0.mono (by decide) | .low=>G_bj0.mono (by decide) | .both=>G_bb0.mono (by decide) | .first=>G_bg0.mono (by decide) | .second=>G_bl0.mono (by decide) | .thn=>G_bm0.mono (by decide) | .parts=>G_bk0.mono (by decide) | .cases=>G_bc0.mono (by decide) | .known=>G_bi0.mono (by decide) | .curried=>G_be0.mono (by decide) | .either=>G_bf0.mono (by decide) | .idle=>G_bh0.mono (by decide) | .chain=>G_bd0.mono (by decide) | .use=>G_bn0.mono (by decide)) (fun r=>match r with | .wish=>k_bo0 | .low=>k_bj0 | .both=>k_bb0 | .first=>k_bg0 | .second=>k_bl0 | .thn=>k_bm0 | .parts=>k_bk0 | .cases=>k_bc0 | .known=>k_bi0 | .curried=>k_be0 | .either=>k_bf0 | .idle=>k_bh0 | .chain=>k_bd0 | .use=>k_bn0) (fun r=>match r with | .wish=>b_bo0 | .low=>b_bj0 | .both=>b_bb0 | .first=>b_bg0 | .second=>b_bl0 | .thn=>b_bm0 | .parts=>b_bk0 | .cases=>b_bc0 | .known=>b_bi0 | .curried=>b_be0 | .either=>b_bf0 | .idle=>b_bh0 | .chain=>b_bd0 | .use=>b_bn0);have q8:=Xy6 (k:=1) (Hd.df1 X G E 18) (f.up (by decide)) z7 z4;have j8:=Xw4 (P:=l.prog) (w:=w) (base:=base) (k:=5) (Hd.df1 X G E 44) (G_bx0.mono (by decide)) m_bx0 k_bx0 b_bx0 L xc_NoRule;have C_serves:=Xw1 (k:=3) (Hd.df3 X G E 45) (f.up (by decide)) (y.up (by decide)) z7;have G_bs0:=Xw8 (k:=6) F_bs0 (q8.up (by decide)) (j8.up (by decide)) (C_serves.up (by decide)) b z7 z4;have C:=Zr5 (P:=l.prog) (w:=w) (mg:=mg) (base:=base) (k:=0) p M j5 U z;have G_bp0:=Xx1 (P:=l.prog) (w:=w) (mg:=mg) (base:=base) (k:=6) F_bp0 G_bs0 m_bs0 k_bs0 b_bs0 q6 (C.mono (by decide)) B q2 g b;have G_at0:=Xe4 (P:=l.prog) (w:=w) (mg:=mg) (base:=base) F_at0 m_at0 b_at0 b 101;have c:=Xz4 (P:=l.prog) (w:=w) (base:=base) (k:=0) (Hd.df1 X G E 54) m_sorted;have j9:=Xy9 (k:=33) (Hd.df2 X G E 55) (.of (G_aw0.mono (by decide)) Y k_aw0 Z) (d.up (by decide));have j:=Wa4 (k:=1) (Hd.df3 X G E 56) (c.up (by decide));have I:=Xz9 (k:=1) (Hd.df3 X G E 57) (c.up (by decide)) m_int;have N:=Xz7 (k:=2) (Hd.df6 X G E 58) (c.up (by decide)) (j.up (by decide));have j0:=Xz6 (k:=3) (Hd.df4 X G E 59) (I.up (by decide)) (j.up (by decide)) (N.up (by decide)) b;have z2:=Wa2 (P:=l.prog) (w:=w) (base:=base) (k:=0) (Hd.df3 X G E 60);have z1:=Xz8 (k:=4) (Hd.df2 X G E 61) (c.up (by decide)) (j0.up (by decide)) (z2.up (by decide)) b z4;have m:=Xz2 (P:=l.prog) (w:=w) (base:=base) (k:=0) (Hd.df3 X G E 62) b;have j1:=Wa0 (P:=l.prog) (w:=w) (base:=base) (k:=0) (Hd.df4 X G E 63) g b;have T:=Wa8 (k:=1) (Hd.df5 X G E 64) (c.up (by decide)) (m.up (by decide)) b t;have j2:=Wa7 (k:=2) (Hd.df6 X G E 65) (m.up (by decide)) (c.up (by decide)) (j.up (by decide)) b;have V:=Wa6 (k:=1) (Hd.df6 X G E 66) (m.up (by decide)) (j1.up (by decide)) (c.up (by decide));have z0:=Xz5 (k:=102) (Hd.df3 X G E 67) (q.up (by decide)) (m.up (by decide)) (d.up (by decide)) (T.up (by decide)) (j2.up (by decide)) (V.up (by decide)) (.of (G_at0.mono (by decide)) m_at0 k_at0 b_at0) b m_max;have j3:=Wa9 (k:=103) (Hd.df4 X G E 68) (q.up (by decide)) (J.up (by decide)) (z0.up (by decide)) (d.up (by decide)) g m_min b;have z3:=Wa3 (P:=l.prog) (w:=w) (base:=base) (k:=0) (Hd.df1 X G E 69) t;have S:=Xz1 (k:=34) (Hd.df3 X G E 70) (j9.up (by decide)) (d.up (by decide)) (c.up (by decide)) b g z5;have G_aa0:=Wb1 (P:=l.prog) (w:=w) (mg:=mg) (base:=base) (k:=7) F_aa0 q0 M m_Large m_NoKind L m_NoRow m_NoText j6 m_NoWish z9 z8 m_Twice i_1 i_2 i_3 i_4 u q5;have j4:=Wb0 (k:=8) (Hd.df1 X G E 72) (z3.up (by decide)) G_bp0 m_bp0 k_bp0 b_bp0 G_aa0 m_aa0 k_aa0 b_aa0 q6 U q0 w_NoLine d_NoLine u m_bool;have C__law_due:=Wa1 (k:=5) (Hd.df1 X G E 73) (z1.up (by decide)) g b;have G_bu0:=Xw6 (k:=104) F_bu0 (q9.up (by decide)) (J.up (by decide)) (j3.up (by decide)) (d.up (by decide)) (S.up (by decide)) (C__law_due.up (by decide)) (j4.up (by decide)) g u m_bool;exact G_bu0
noncomputable def dLaw:PySem.DefRec:=⟨"law",Zf6 (top 74),Ze0 (top 74),Za8 (top 74),Hd.posOf (top 74)⟩
theorem wlk:W.WalkO q loose (W.XL q []) (Hd.hook3 pg ask cask mask).says (PySem.Challenge.rw_ken_k25_bad_lines).row.toRowW dLaw [] (fun f vs=>PySem.call f vs) :=
 Hd.walkH3 (l:=PySem.Challenge.rw_ken_k25_bad_lines) (n:=63) (k:=105) (x:="_law_script") (CX:=CX0) (sp:=fun K=>Yw2 K) rfl (by decide) rfl ⟨rfl,by decide,by decide⟩ (fun w m o h K g G b E D i j=>Xr4 g G b E D i j)
  (fun _ _ a c d _ e=>⟨a,c,rfl,e,d,fun _=>rfl⟩) fun _ _ _ _ z=>z
end KLaw
open PySem PySem.W PyProof.Rows
set_option maxRecDepth 100000 in
set_option maxHeartbeats 0 in
theorem PySem.Challenge.cw_ken_k25_bad_lines_holds : PySem.Challenge.rw_ken_k25_bad_lines.Holds := by
 refine W.holds_law ws0 fun said=>W.holds_open (q:=KLaw.q) (loose:=KLaw.loose) (XP:=XL KLaw.q []) (d:=KLaw.dLaw) (kwd:=[]) (YP:=(Hd.hook3 KLaw.pg KLaw.ask KLaw.cask KLaw.mask).says)
  KLaw.lft (Hd.hook3 KLaw.pg KLaw.ask KLaw.cask KLaw.mask).of (Hd.hook3 KLaw.pg KLaw.ask KLaw.cask KLaw.mask).keeps
  (fun s e=>xl_of s (Bool.and_eq_true_iff.mp e).1) XL.keeps (by kernel_rfl) (by kernel_rfl) rfl (fun s e=>recFacts_of (Bool.and_eq_true_iff.mp e).2)
  rfl said (by decide +kernel) ⟨rfl,rfl,rfl,rfl,rfl,by decide +kernel⟩ ?hw ?hc
 (case hw=>w_witness2)
 exact KLaw.wlk
