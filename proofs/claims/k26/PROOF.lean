import PyProof.Rows.All
import Wide.All
import OpenK.AllK
import Wide.FinOn
import Lean
import PyProof.EqAt
import PyProof.EqKinds
import PyProof.TupleCall
import PyProof.NeData
import PyProof.P3In
import PyProof.ZipIter
import PyProof.Rows.ZipGen
import KE.KRevIter
import PyProof.CollectIter
import PyProof.ListRange
import PyProof.EnumMake
import PyProof.EnumFor
import PyProof.EnumStmt
import PyProof.Rows.SortStr
import KE.KDictList
import KE.KSortTup
import KE.KSortAsk
import PyProof.SumAny
import PyProof.WalksMore
import KE.KTupSum
import PyProof.FactsAll.set
import PyProof.Rows.Range3
import PyProof.FactsAll.tuple_2
import PyProof.Rows.SetFrom
import PyProof.Rows.SeqMore2
import PyProof.InstStoreFacts
import PyProof.SeqI3
import PyProof.Draws
import KE.KxText
import PySem.Challenge.RW_ken_k26_lines_hold_in_worlds
set_option autoImplicit true
set_option maxRecDepth 100000 in
set_option maxHeartbeats 0 in
theorem ws0:PySem.Challenge.rw_ken_k26_lines_hold_in_worlds.wellSaid=true:=by decide +kernel
variable {A:PySem.Around}{B C I a acc b d f lv na wv:PySem.Addr}{K K':PySem.W.Frag}{M:PySem.Model}{N N' fv hs ps:List PySem.Str}{T T' dd od:Option PySem.Addr}{apos p0 pos pos' tpos:PySem.Pos}{bm its us:List PySem.Value}{body:PySem.Addr->PySem.Env->PySem.Sem Unit}{cd ct doc oc pm u v:PySem.Value}{ci:List Nat}{cl:List (PySem.Str×PySem.Addr)}{ds:List (PySem.Pos×PySem.Str)}{env:PySem.Env}{ep i j k0 nt t':Nat}{es:Array (Int×PySem.Value)}{fp:List PySem.Addr}{h h':PySem.Heap}{lo:Int}{ls:List Int}{mN mg:PySem.Str->Option PySem.Value}{name qual x y:PySem.Str}{o:PySem.Obj}{op:PySem.CmpOp}{osl sl:Array (Option PySem.Value)}{outer:List PySem.Env}{p:Array Nat}{pins:List (PySem.Addr×PySem.Obj)}{s s':PySem.Shared}{scope:PySem.Scope}{st:PySem.Stmt}
open List renaming getElem?_eq_getElem→za,mem_singleton→zb,mem_of_getElem?→yc,length_singleton→zd,mem_append→yd,getElem?_eq_some_iff→ze,length_append→zf,length_map→yh,mem_cons→yk,mem_cons_of_mem→yn,length_take→zq,mem_cons_self→zr,zipWith→zu,length_filter_le→yu,getElem_of_mem→zw,mem_append_right→yw,getElem?_map→zy,replicate→yy,getElem?_append_left→zz,take_length→zaa,append_nil→yaa,map_append→zac,range→yac,mem_filter→yad,length_drop→yae,all_eq_true→yaf,length_zipWith→zag,mem_map→zah,getElem?_append_right→yah,reverse_cons→zai,length_cons→yai,pairwise_singleton→yam,cons_append→yan,append_assoc→zao,nodup_cons→yaq,mem_append_left→zas,pairwise_cons→zat,pairwise_iff_getElem→zau,lookup_cons→yaz,Perm→yba,take_of_length_le→zbb,getElem?_zipWith→zbc,not_mem_nil→ybe,mem_of_mem_take→zbf,mem_of_mem_drop→ybf,map_cons→ybg,take_succ→ybh,lookup→ybi,length_reverse→zbk,getElem_mem→zbm,length_replicate→zbo,lookup_append→ybo,take_append_drop→zbp,pairwise_append→ybq,ext_getElem?→ybt,getElem?_replicate→ybx,getElem?_cons_zero→yby,flatMap_append→ybz,mem_range→zcb,size_toArray→zce,flatMap_cons→ycf,length_dropLast→zcj,dropLast_concat→zck,filterMap_cons→zco,of_mem_zip→ycr,length_pos_of_mem→ycu,getElem?_set_ne→ydb,mem_iff_getElem→zdc,nodup_nil→ydj,drop→zdm
open PySem renaming wpAny_bind→ya,wpAny_pure→ye,Program→zm,mainGlobals→zn,sizeLine→zp,FuncData→yq,starEach→zx,strKind→yag,compareOp→yaj,mem_of_lookup→zak,wpAny_newObj_type→yal,wpAny_holding→yao,wpAny_setState_of→yar,wpAny_setField_rec→yas,wpAny_mono→yat,wpAny_askSetting→zav,bootBuiltins→yav,wpAny_truthy_bool→zaw,foldedSetIterable→yaw,SetTable→ybb,sysModules→zbd,wpAny_standAt→zbg,wpAny_call_entry→ybl,wpAny_Call_Name_kw→zbn,Comprehension→ybn,wpAny_passesOwn→zbr,importedModules→zbv,binaryOp→zbx,wpAny_execs_nil→ycc,wpAny_loadPart_at→zch,pickOrder→ycl,codeAmong→zcm,wpAny_eqBool_str→ycm,NameKind→zcn,wpAny_field→yco,behindInMarks→zcr,assignEach→ycv,sliceBounds→zcw,wpAny_rule→ycw,fastTable_eq_tree→zcx,OsState→ycx,evalEach→zcy,codeAny_mono→ycy,wpAny_execs_cons→zda,wpAny_isInstance→zdb,bindArgs→ydc,setField→zdd,builtinsNs→ydd,swapsWith→zde,codeAny→yde,Arguments→zdf,DictEntry→ydf,wpAny_loadPart'→zdh
open PySem.Heap renaming get?_push_of_some→yb,lt_size→zj,get?_push_size→yt,get?_update_other→zab,get?_update_self→zaf,SameBut→ybm,get?_none_of_le→yci,size_push→zcl
open PySem.Paired renaming length→zc,snoc→zdo
open Bool renaming false_ne_true→zg,and_eq_true→zo,and_eq_true_iff→ycj,or_eq_true→ydg
open PySem.Str renaming ofString→zh,length_append→yax,empty→ybr
open Nat renaming le_trans→zi,le_of_lt→zk,le_refl→yo,lt_of_lt_of_le→zt,ne_of_lt→zv,zero_le→yz,min_le_right→zbe,min_le_left→ybj,lt_succ_of_lt→zbu,min_self→zcd,le_succ→ycp,sub_zero→zcq,succ_pos→ycq,lt_of_le_of_lt→ycs,not_lt_zero→zct,add_zero→ycz,zero_add→ydi
open Int renaming emod_lt_of_pos→yp,emod_nonneg→yr,toNat_natCast→zcg
open Prod.mk renaming inj→yx,injEq→ydo
open Option renaming map_eq_some_iff→yab,bind_eq_some_iff→zbh,isSome_iff_exists→zbs,none_or→ydk
open PySem.F renaming plainAttrs_list→zad,slot_list_append→zam,type_list_append→zaq,store_ValueError→ybv,slot_list_pop→zcs,type_list_pop→ydh
open PySem.PassesOwn renaming never→zae
open PySem.World renaming withFollow→zaj
open PySem.Value renaming none→yak,ref→yay,type→zaz,isStrOf→zbw,str→zdl,bool→ydl,int→zdp
open PyProof.Rows renaming callWith_type1→zal,slot_tuple_getitem→ybs,mirror_perm→ybu,getElem?_mirror_all→zcu,StrsAre→yda,AllBare→ydn
open Option.some renaming inj→zan,injEq→ych
open PySem.NameKind renaming free→zap,cell→zby
open List.cons renaming inj→yap,injEq→yct
open Ne renaming symm→zar
open PySem.PyData renaming eqvAll→yau,eqv→zax,list→zbj,strOk→zcc,keyHash→yck,int→zdn
open Sum renaming inr→zay
open PySem.Builtin.SmallTypes renaming stopIteration→zba
open PySem.W renaming mg_none_of→ybc,keepIn→ybd,kia_one→yca,codeIn→ycn,kas_rev→zcz
open PySem.Txt renaming slice→zbi
open Array renaming getElem?_eq_some_iff→ybk,perm_iff_toList_perm→zci,length_toList→zcp,getElem?_eq_none→zcv
open False renaming elim→zbl
open PySem.Builtin.Slice renaming slicePlaces→ybp,sliceAdjust→zdj
open PySem.Challenge renaming rw_ken_k26_lines_hold_in_worlds→zbq
open PySem.Builtin.List renaming listTooLong→zbt,listExtendWith→zdg
open PySem.Builtin.Range renaming rangeSize→ybw
open PySem.Heap.SameBut renaming update→zbz
open PySem.SetTable renaming grown→ycb,below→zdk
open PySem.W.KasT renaming kasWp→ycd,kasWp_bind→ycg
open True renaming intro→yce
open PySem.Obj renaming mapSeq→zcf
open PySem.Builtin.Str renaming strSliceIndices→zdi
open PySem.Builtin.Frozenset renaming addrOf→ydm
local macro_rules | `(tactic| omega)=>`(tactic| lia)
set_option Elab.async false
set_option linter.all false
set_option maxRecDepth 100000
namespace L2
open PySem PySem.Spec PyProof.Rows
noncomputable abbrev Key:=Sum Int Str
noncomputable def Yz7:Key->Value->Bool
 | .inl k,v=>Value.isInt k v
 | .inr x,v=>zbw x v
noncomputable def keyH (w:World):Key->Int
 | .inl k=>hashInt k
 | .inr x=>hashStr w x
theorem Zf4:∀{k:Key} {v:Value},Yz7 k v=true->(∃i t,k=Sum.inl i/\v=zdp i t)∨(∃x t,k=zay x/\v=zdl x t)
 | .inl i,v,h=>by
  obtain⟨t,e⟩:=Value.isInt_shape h;exact .inl ⟨i,t,rfl,e⟩
 | .inr x,v,h=>by
  obtain⟨t,e⟩:=Value.isStrOf_shape h;exact .inr ⟨x,t,rfl,e⟩
theorem Xk0 (i:Int)(t:Tok):Yz7 (.inl i) (.int i t)=true:=by simp[Yz7,Value.isInt]
theorem Xj9 (x:Str)(t:Tok):Yz7 (.inr x) (.str x t)=true:=by simp[Yz7,zbw]
theorem Wp5 (a b:Int):decide ((Sum.inl a:Key)=Sum.inl b)=(a == b):=by
 grind
theorem Wp2 (a b:Str):decide ((zay a:Key)=zay b)=decide (a=b):=by simp
theorem Wp4 (a:Int)(b:Str):decide ((Sum.inl a:Key)=zay b)=false:=by rfl
theorem Wp3 (a:Str)(b:Int):decide ((zay a:Key)=Sum.inl b)=false:=by rfl
noncomputable def Zg0 (prog:zm)(w:World):PySem.KeyKind prog w Key where
  is:=Yz7
  hash:=keyH w
  inj:=fun v a b ha hb=>by
    rcases Zf4 ha with ⟨i,t,rfl,rfl⟩ | ⟨x,t,rfl,rfl⟩
    · rcases Zf4 hb with ⟨j,u,rfl,e⟩ | ⟨y,u,rfl,e⟩
      · injection e with e1 _;rw[e1]
      · exact nomatch e
    · rcases Zf4 hb with ⟨j,u,rfl,e⟩ | ⟨y,u,rfl,e⟩
      · exact nomatch e
      · injection e with e1 _;rw[e1]
  byValue:=fun k v h=>by
    rcases Zf4 h with ⟨i,t,rfl,rfl⟩ | ⟨x,t,rfl,rfl⟩<;>rfl
  pyHash:=fun hv h=>by
    rcases Zf4 hv with ⟨i,t,rfl,rfl⟩ | ⟨x,t,rfl,rfl⟩
    · exact wpAny_pyHash_int h
    · exact wpAny_pyHash_str h
  eqBool:=fun hu hv h=>by
    rcases Zf4 hu with ⟨i,t,rfl,rfl⟩ | ⟨x,t,rfl,rfl⟩
    · rcases Zf4 hv with ⟨j,u,rfl,rfl⟩ | ⟨y,u,rfl,rfl⟩
      · rw[Wp5] at h;exact wpAny_eqBool_int h
      · rw[Wp4] at h;exact SeqAt.EqAt.int_str i t y u _ _ _ _ h
    · rcases Zf4 hv with ⟨j,u,rfl,rfl⟩ | ⟨y,u,rfl,rfl⟩
      · rw[Wp3] at h;exact SeqAt.EqAt.str_int x t j u _ _ _ _ h
      · rw[Wp2] at h;exact ycm h
  «strs»:=fun k x t v h=>by
    rcases Zf4 h with ⟨i,u,rfl,e⟩ | ⟨y,u,rfl,e⟩
    · exact nomatch e
    · injection e with e1 _
      subst e1
      cases v<;>rfl
theorem Yq3 (prog:zm)(w:World)(i:Int)(t:Tok):(Zg0 prog w).is (.inl i) (.int i t)=true:=Xk0 i t
theorem Yb5 (prog:zm)(w:World)(x:Str)(t:Tok):(Zg0 prog w).is (.inr x) (.str x t)=true:=Xj9 x t
inductive V where
 |non | bl (b:Bool) | int (i:Int) | str (x:Str) | byt (b:Array UInt8) | flt (b:UInt64) | ref (a:Addr) | ty (n:String)
 deriving DecidableEq
def RelV:V->Value->Prop
 | .non,u=>u=yak
 | .bl b,u=>u=ydl b
 | .int i,u=>∃t,u=zdp i t
 | .str x,u=>∃t,u=zdl x t
 | .byt b,u=>∃t,u=Value.bytes b t
 | .flt b,u=>∃t,u=Value.float b t
 | .ref a,u=>u=yay a
 | .ty n,u=>u=zaz n
abbrev Vals:List V->List Value->Prop:=Paired RelV
theorem Vals.length (r:Vals xs us):xs.length=us.length:=zc r
theorem Vals.get:∀{xs:List V} {us:List Value} {i:Nat} {x:V},Vals xs us->xs[i]?=some x->∃u,us[i]?=some u/\RelV x u
 | _,_,_,_,.nil,e=>by simp at e
 | _,_,0,_,.cons r _,e=>by simp at e;subst e;exact⟨_,rfl,r⟩
 | _,_,i+1,x,.cons _ t,e=>by
  obtain⟨u,h1,h2⟩:=Vals.get (i:=i) (x:=x) t (by simpa using e)
  simp_all
theorem Vals.set {x:V}(r:RelV x u):∀{xs:List V} {us:List Value} (i:Nat),Vals xs us->Vals (xs.set i x) (us.set i u)
 | _,_,_,.nil=>.nil
 | _,_,0,.cons _ t=>.cons r t
 | _,_,i+1,.cons q t=>.cons q (Vals.set r i t)
theorem Vals.append:∀{xs ys:List V} {us ws:List Value},Vals xs us->Vals ys ws->Vals (xs++ys) (us++ws)
 | _,_,_,_,.nil,s=>s
 | _,_,_,_,.cons r t,s=>.cons r (Vals.append t s)
theorem Vals.take:∀{xs:List V} {us:List Value} (n:Nat),Vals xs us->Vals (xs.take n) (us.take n)
 | _,_,0,_=>.nil
 | _,_,_+1,.nil=>.nil
 | _,_,n+1,.cons r t=>.cons r (Vals.take n t)
theorem Vals.drop:∀{xs:List V} {us:List Value} (n:Nat),Vals xs us->Vals (xs.drop n) (us.drop n)
 | _,_,0,r=>r
 | _,_,_+1,.nil=>.nil
 | _,_,n+1,.cons _ t=>Vals.drop n t
def RelO:Option V->Option Value->Prop
 |some v,some u=>RelV v u
 |none,none=>True
 | _,_=>False
def KV {κ:Type}:List (κ×V)->List (κ×Value)->Prop:=Paired fun (p:κ×V) (q:κ×Value)=>p.1=q.1/\RelV p.2 q.2
noncomputable def kV:Key->V
 | .inl i=>.int i
 | .inr x=>.str x
inductive HO where
 |lst (xs:List V)
 |tup (xs:List V)
 |dK (kvs:List (Key×V)) | dT (kvs:List (List Key×V))
 |set (S:Int->Bool) (n:Nat)
 |ins (C dx:Addr) (fs:List (Str×V))
 |own (x:Addr)
 |xd (fs:List (Str×V))
 |met (f x:Addr)
 |rng (lo hi:Int)
 |frz (o:Obj) (u:HO)
 |tbl (ps:Array Value)
 |ext (φ:Heap->Prop)
noncomputable abbrev Hp:=Addr->Option HO
noncomputable def upd (H:Hp)(a:Addr)(o:HO):Hp:=fun b=>if b=a then some o else H b
theorem Za1 {o:HO}:upd H a o a=some o:=by unfold upd;simp
theorem Zb3 {o:HO}(h:b≠a):upd H a o b=H b:=by unfold upd;simp_all
theorem Xc1 {o u:HO}:upd (upd H a o) a u=upd H a u:=by
 unfold upd;grind
theorem Wa7 {H:Hp}{o u:HO}(h:H a=some o)(h':H b=some u)(d:o≠u):a≠b:=by
 grind
theorem Za9 {H:Hp}{o:HO}(h:H a=some o)(h':H b=none):a≠b:=by
 grind
section
variable (P:zm)(w:World)
def ObjOk (H:Hp)(h:Heap)(a:Addr):HO->Prop
 | .lst xs=>xs.length<=zp/\∃(its:List Value) (n:Nat),Vals xs its/\h.get? a=some { cls:=.type "list",data:=.seq its.toArray n }
 | .tup xs=>xs.length<=zp/\∃its:List Value,Vals xs its/\IsTup h a its.toArray
 | .dK kvs=>kvs.length<=zp/\(a == zbd)=false/\∃vs,KV kvs vs/\h.DictOf (Zg0 P w) a vs
 | .dT kvs=>kvs.length<=zp/\(a == zbd)=false/\∃xs:List (List Key×Addr×Value),
   Paired (fun (p:List Key×V) (q:List Key×Addr×Value)=>p.1=q.1/\H q.2.1=some (.tup (p.1.map kV))/\RelV p.2 q.2.2) kvs xs /\
   ∃o es ep,h.get? a=some o/\o.ExactDict/\o.data=.dict es ep/\es.toList=xs.map (entryOfKey (tupleKind (Zg0 P w)))/\(xs.map (·.1)).Nodup
 | .set S n=>h.SetOf (intKind P w) a S n
 | .ins C dx fs=>H dx=some (.own a)/\fs.length<=1000/\dx≠a/\h.get? a=some (W.instObj C dx) /\
   ∃mA,h.Ns1 dx mA/\(∀f,RelO (fs.lookup f) (mA f))/\PySem.Within mA (fs.map (·.1))
 | .own _=>∃o,h.get? a=some o
 | .xd fs=>∃mA,h.Ns1 a mA/\∀f,RelO (fs.lookup f) (mA f)
 | .rng lo hi=>∃t u v,h.get? a=some { cls:=.type "range",data:=.fields #[.int lo t,.int hi u,.int 1 v] }
 | .frz o u=>h.get? a=some o/\ObjOk H h a u
 | .tbl ps=>h.get? a=some { cls:=.none,data:=.fields ps }
 | .met f x=>h.get? a=some (W.methodObj (.ref f) (.ref x))
 | .ext φ=>φ h/\(∃o,h.get? a=some o)/\∀h1 h2:Heap,φ h1->(∀o,h1.get? a=some o->h2.get? a=some o)->φ h2
def HOk (H:Hp)(h:Heap):Prop:=∀a o,H a=some o->ObjOk P w H h a o
end
section
variable {P:zm}{w:World}{H H':Hp}{o:HO}
theorem ObjOk.lt (x:ObjOk P w H h a o):a < h.objs.size:=by
 cases o with
 |lst xs=>obtain⟨_,_,_,_,e⟩:=x;exact zj e
 |tup xs=>obtain⟨_,_,_,p⟩:=x;exact p.lt
 |dK kvs=>obtain⟨_,_,_,_,o,_,_,e,_⟩:=x;exact zj e
 |dT kvs=>obtain⟨_,_,_,_,o,_,_,e,_⟩:=x;exact zj e
 |set S n=>obtain⟨o,_,_,_,e,_⟩:=x;exact zj e
 |ins C dx fs=>exact zj x.2.2.2.1
 |own y=>obtain⟨_,e⟩:=x;exact zj e
 |xd fs=>obtain⟨_,⟨_,_,_,e,_⟩,_⟩:=x;exact zj e
 |rng lo hi=>obtain⟨_,_,_,e⟩:=x;exact zj e
 |frz ob u=>exact zj x.1
 |tbl ps=>exact zj (x)
 |met f y=>exact zj (x)
 |ext φ=>obtain⟨_,⟨_,e⟩,_⟩:=x;exact zj e
theorem Paired.mapP :∀{l₁:List α} {l₂:List β},Paired F l₁ l₂->(∀a b,F a b->G a b)->Paired G l₁ l₂
 | _,_,.nil,_=>.nil
 | _,_,.cons r t,f=>.cons (f _ _ r) (Paired.mapP t f)
theorem ObjOk.stay (x:ObjOk P w H h a o)(k:∀b u,(b=a∨H b=some (.own a))->h.get? b=some u->h'.get? b=some u)
  (ho:∀b,H b=some (.own a)->H' b=some (.own a)) (ht:∀b xs,H b=some (.tup xs)->H' b=some (.tup xs)):ObjOk P w H' h' a o:=by
 induction o with
 |lst xs=>obtain⟨z,l,n,r,e⟩:=x;exact⟨z,l,n,r,k _ _ (.inl rfl) e⟩
 |tup xs=>obtain⟨z,l,r,g,e,c⟩:=x;exact⟨z,l,r,g,k _ _ (.inl rfl) e,c⟩
 |dK kvs=>obtain⟨z,y,B,r,g,i,j,e,c⟩:=x;exact⟨z,y,B,r,g,i,j,k _ _ (.inl rfl) e,c⟩
 |dT kvs =>
  obtain⟨z,y,xs,r,g,i,j,e,c⟩:=x;exact⟨z,y,xs,Paired.mapP r fun p q z=>⟨z.1,ht _ _ z.2.1,z.2.2⟩,g,i,j,k _ _ (.inl rfl) e,c⟩
 |set S n=>obtain⟨g,i,j,t,e,c⟩:=x;exact⟨g,i,j,t,k _ _ (.inl rfl) e,c⟩
 |ins C dx fs =>
  obtain⟨d,z,D,e,s,⟨m,i,j,F,c⟩,r⟩:=x;exact⟨ho _ d,z,D,k _ _ (.inl rfl) e,s,⟨m,i,j,k _ _ (.inr d) F,c⟩,r⟩
 |own y=>obtain⟨g,e⟩:=x;exact⟨g,k _ _ (.inl rfl) e⟩
 |xd fs=>obtain⟨s,⟨m,i,j,e,c⟩,r⟩:=x;exact⟨s,⟨m,i,j,k _ _ (.inl rfl) e,c⟩,r⟩
 |rng lo hi=>obtain⟨t,u,v,e⟩:=x;exact⟨t,u,v,k _ _ (.inl rfl) e⟩
 |frz g u ih=>exact⟨k _ _ (.inl rfl) x.1,ih x.2⟩
 |tbl ps =>
  have e  := x;exact k a _ (.inl rfl) e
 |met f y =>
  have e  := x;exact k a _ (.inl rfl) e
 |ext φ=>obtain⟨p,⟨o,e⟩,A⟩:=x;exact⟨A _ _ p fun o q=>k _ _ (.inl rfl) q,⟨o,k _ _ (.inl rfl) e⟩,A⟩
theorem HOk.lt (x:HOk P w H h)(e:H a=some o):a < h.objs.size:=(x a o e).lt
theorem HOk.fresh (x:HOk P w H h)(e:h.objs.size<=a):H a=none:=by
 cases q:H a with
 |none=>rfl
 |some u=>exact absurd (zt (x.lt q) e) (by simp)
theorem HOk.kept (x:HOk P w H h)(k:∀b u,h.get? b=some u->h'.get? b=some u):HOk P w H h':=fun a o e =>
 (x a o e).stay (fun b u _ q=>k b u q) (by simp) fun _ _ q=>q
theorem HOk.laid (x:HOk P w H h)(k:∀b u,h.get? b=some u->h'.get? b=some u)(hp:h.objs.size<=a)(new:ObjOk P w (upd H a o) h' a o):HOk P w (upd H a o) h':=fun b u e=>by
 have d:=x.fresh hp
 by_cases hb:b=a
 ·subst hb;rw[Za1] at e;simp_all
 ·rw[Zb3 hb] at e
  exact (x b u e).stay (fun c v _ q=>k c v q) (fun c q=>by rw[Zb3 (Za9 q d)];exact q) fun c f q=>by rw[Zb3 (Za9 q d)];exact q
end
def Rd (H:Hp)(a:Addr)(u:HO):Prop:=H a=some u∨∃o,H a=some (.frz o u)
theorem Rd.ok {u:HO}(r:Rd H a u)(x:HOk P w H h):ObjOk P w H h a u:=by
 rcases r with r | ⟨o,r⟩
 ·exact x a u r
 ·obtain⟨_,q⟩:=x a _ r
  exact q
def Mut:Option HO->Prop
 |some (.lst _)=>True
 |some (.dK _)=>True
 |some (.dT _)=>True
 |some (.set _ _)=>True
 |some (.ins _ _ _)=>True
 |some (.ext _)=>True
 | _=>False
section
variable {P:zm}{w:World}{H:Hp}{x e:Addr}{o':HO}
theorem HOk.write (ok:HOk P w H h)(mu:Mut (H x))(he:e=x∨H e=some (.own x))(k:∀b u,b≠e->h.get? b=some u->h'.get? b=some u)(heo:∃u,h'.get? e=some u)
  (new:ObjOk P w (upd H x o') h' x o'):HOk P w (upd H x o') h':=fun b u q=>by
 have f:∀c y,H c=some (.own y)->c≠x:=fun c y r z=>by subst z;rw[r] at mu;exact mu
 have d:∀c a,H c=some (.tup a)->c≠x:=fun c a r z=>by subst z;rw[r] at mu;exact mu
 by_cases hb:b=x
 ·subst hb;rw[Za1] at q;simp_all
 ·rw[Zb3 hb] at q
  by_cases hbe:b=e
  ·have g:H b=some (.own x):=by
    grind
   rw[q] at g;cases g;obtain⟨v,i⟩:=heo;exact⟨v,by simp_all⟩
  ·refine (ok b u q).stay (fun c v j r=>k c v ?_ r) (fun c r=>by rw[Zb3 (f c b r)];exact r) fun c a r=>by rw[Zb3 (d c a r)];exact r
   grind
end
structure Un (fs ex:List Addr)(H H':Hp)(h h':Heap):Prop where
 keep:∀b o,h.get? b=some o->H b=none->b ∉ fs->b ∉ ex->h'.get? b=some o
 slot:∀b o,h.get? b=some o->H b=none->b∈fs->b ∉ ex->∃sl,h'.get? b=some { o with slots:=sl }
 free:∀b o,h.get? b=some o->H b=none->b ∉ ex->H' b=none
 there:∀b o,h.get? b=some o->b ∉ ex->∃o',h'.get? b=some o'
 tups:∀b xs,H b=some (.tup xs)->H' b=some (.tup xs)
 frzs:∀b o u,H b=some (.frz o u)->H' b=some (.frz o u)
 tbls:∀b ps,H b=some (.tbl ps)->∃more,H' b=some (.tbl (ps++more))
section
variable {fs fs' ex ex':List Addr}{H H1 H2:Hp}{h1 h2:Heap}{x e:Addr}{o:HO}
theorem Un.any (u:Un fs ex H H1 h h1)(q:h.get? b=some ob)(n:H b=none)(hx:b ∉ ex):∃sl,h1.get? b=some { ob with slots:=sl }:=by
 by_cases hb:b∈fs
 ·exact u.slot b ob q n hb hx
 ·exact⟨ob.slots,u.keep b ob q n hb hx⟩
theorem Un.kept (k:∀b u,h.get? b=some u->h'.get? b=some u):Un fs ex H H h h' :=
 ⟨fun b a q _ _ _=>k b a q,fun b a q _ _ _=>⟨a.slots,k b a q⟩,fun _ _ _ n _=>n,fun b a q _=>⟨a,k b a q⟩,fun _ _ q=>q,fun _ _ _ q=>q,fun _ c q=>(by simp_all)⟩
theorem Un.refl:Un fs ex H H h h:=Un.kept fun _ _ q=>q
theorem Un.laid (k:∀b u,h.get? b=some u->h'.get? b=some u)(hp:h.objs.size<=a)(hn:H a=none):Un fs ex H (upd H a o) h h' where
 keep:=fun b u q _ _ _=>k b u q
 slot:=fun b u q _ _ _=>⟨u.slots,k b u q⟩
 free:=fun b u q n _=>by rw[Zb3 (zv (zt (zj q) hp))];exact n
 there:=fun b u q _=>⟨u,k b u q⟩
 tups:=fun b c q=>by rw[Zb3 (Za9 q hn)];exact q
 frzs:=fun b u c q=>by rw[Zb3 (Za9 q hn)];exact q
 tbls:=fun b d q=>⟨#[],by rw[Zb3 (Za9 q hn),q];simp⟩
theorem Un.write (mu:Mut (H x))(he:e=x∨H e=some (.own x))(k:∀b u,b≠e->h.get? b=some u->h'.get? b=some u)(heo:∃u,h'.get? e=some u):Un fs ex H (upd H x o) h h':=by
 have f:∀b,H b=none->b≠x:=fun b n z=>by subst z;rw[n] at mu;exact mu
 have c:∀b,H b=none->b≠e:=fun b n z=>by
  grind
 have a:∀b u,H b=some u->¬Mut (some u)->b≠x:=fun b u q i z=>by simp_all
 refine⟨fun b u q n _ _=>k b u (c b n) q,fun b u q n _ _=>⟨u.slots,k b u (c b n) q⟩,fun b u q n _=>by rw[Zb3 (f b n)];exact n,fun b u q _=>?_,
  fun b d q=>by rw[Zb3 (a b _ q fun z=>z)];exact q,fun b u d q=>by rw[Zb3 (a b _ q fun z=>z)];exact q,fun b g q=>⟨#[],by rw[Zb3 (a b _ q fun z=>z),q];simp⟩⟩
 grind
end
noncomputable def trk (h:Heap)(H:Hp):List Addr:=(yac h.objs.size).filter fun a=>(H a).isSome
noncomputable def hidT (h:Heap)(H:Hp):Heap:=W.hideAll h (trk h H)
theorem Xl3 (h:Heap)(H:Hp):(hidT h H).objs.size=h.objs.size:=W.hideAll_size _ _
theorem Xs9 (e:h.get? b=some o)(n:H b=none):(hidT h H).get? b=some o :=
 W.hideAll_get _ e fun a=>by
  have q  := (yad.mp a).2
  simp_all
theorem Wa4 (e:(hidT h H).get? b=some o):h.get? b=some o/\H b=none:=by
 have a  := W.of_hideAll _ e;refine⟨a,?_⟩
 cases q:H b with
 |none=>rfl
 |some x =>
  have c:b∈trk h H:=yad.mpr ⟨zcb.mpr (zj a),by simp[q]⟩;have z:(hidT h H).get? b=none:=W.hideAll_none _ c
  grind
structure Mod (K:W.Frag)(mg:Str->Option Value)(base:Heap):Prop where
 kin:K.In base
 glob:base.Ns zn mg
 blt:∃mb,base.Ns ydd mb/\∀x:Str,x≠"__name__"->mb x=yav x
 nolimit:base.NoLimit
structure Cx where
 prog:zm
 w:World
 K:W.Frag
 mg:Str->Option Value
 base:Heap
 A:Around
 N:List Str
 s₀:Shared
 H₀:Hp
 env:Env
 outer:List Env
 stack:List Env
 ex:List Addr
 fn:Str->Bool
 calm:Bool
 pn:List (Addr×Obj)
 xe:Value->Shared->Prop
noncomputable def frs (l:List Env):List Addr:=l.filterMap (·.frame)
noncomputable abbrev Cx.fs (X:Cx):List Addr:=frs X.outer
def Vis (sc:Scope)(x:Str):Prop:=sc.names.lookup x=some .local∨sc.names.lookup x=some .cell∨sc.names.lookup x=some .free
def Loc (sc:Scope)(x:Str):Prop:=sc.names.lookup x=some .local∨sc.names.lookup x=some .cell
def Look (env:Env)(h:Heap)(m:Str->Option Value)(x:Str)(u:Value):Prop :=
 (env.kindOf x=some .local/\m x=some u)∨((env.kindOf x=some .cell∨env.kindOf x=some .free)/\∃c,env.cells.lookup x=some c/\h.IsCell c (some u))
structure Cx.Ok (X:Cx):Prop where
 mod:Mod X.K X.mg X.base
 kind:X.env.scope.kind=.function
 glob:X.env.globals=zn
 blt:X.env.builtins=ydd
 above:X.s₀.heap.objs.size<=X.env.locals
 inj:∀x y c,X.env.cells.lookup x=some c->X.env.cells.lookup y=some c->x=y
 has:∀x,(X.env.kindOf x=some .cell∨X.env.kindOf x=some .free)->∃c,X.env.cells.lookup x=some c
 cab:∀x c,X.fn x=true->X.env.cells.lookup x=some c->X.s₀.heap.objs.size<=c
 hd:X.calm=true->X.A.handled=none
 frames:X.A.frames=some X.stack
 stk:X.stack=X.outer∨(X.stack=X.env::X.outer/\X.env.frame=some X.env.locals)
 exf:∀b∈X.ex,b≠X.env.locals/\∀x c,X.env.cells.lookup x=some c->c≠b
 bs:∀b o,X.base.get? b=some o->X.s₀.heap.get? b=some o/\X.H₀ b=none
 bsz:X.base.objs.size<=X.s₀.heap.objs.size
 noex:∀b o,X.base.get? b=some o->b ∉ X.ex
 exfs:∀b∈X.ex,b ∉ X.fs
 funs:X.s₀.heap.FunFrames X.base X.outer
 frf:∀b∈X.fs,X.H₀ b=none
structure Inv (X:Cx)(pins:List (Addr×Obj))(σ:List (Option V))(H:Hp)(s:Shared):Prop where
 ok:X.Ok
 os:s.os=X.s₀.os
 bare:ydn s.gens
 base:Un X.fs X.ex X.H₀ H X.s₀.heap s.heap
 loc:∃m,s.heap.Ns X.env.locals m/\∀(i:Nat) (x:Str) (v:V),X.N[i]?=some x->σ[i]?=some (some v)->Vis X.env.scope x->∃u,RelV v u/\Look X.env s.heap m x u
 cell:∀x c,X.env.cells.lookup x=some c->∃v,s.heap.IsCell c v
 free:H X.env.locals=none
 freeC:∀x c,X.env.cells.lookup x=some c->H c=none
 pin:∀p∈X.pn++pins,s.heap.get? p.1=some p.2/\H p.1=none/\p.1≠X.env.locals/\p.1 ∉ X.fs/\∀v,p.2.data≠.cell v
 hok:HOk X.prog X.w H s.heap
 len:σ.length=X.N.length
section
variable {X:Cx}{σ:List (Option V)}{H H':Hp}
theorem Cx.Ok.nofr (ok:X.Ok)(e:X.base.get? b=some o):b ∉ X.fs:=fun a=>by
 have:=(ok.funs.mem a).1
 grind
theorem Inv.bs (I:Inv X pins σ H s):∀b o,X.base.get? b=some o->s.heap.get? b=some o/\H b=none:=fun b o e =>
 ⟨I.base.keep b o (I.ok.bs b o e).1 (I.ok.bs b o e).2 (I.ok.nofr e) (I.ok.noex b o e),I.base.free b o (I.ok.bs b o e).1 (I.ok.bs b o e).2 (I.ok.noex b o e)⟩
theorem Inv.bk (I:Inv X pins σ H s):∀b o,X.base.get? b=some o->s.heap.get? b=some o:=fun b o e=>(I.bs b o e).1
theorem Inv.mod (I:Inv X pins σ H s):Mod X.K X.mg X.base:=I.ok.mod
theorem Inv.kIn (I:Inv X pins σ H s):X.K.In s.heap:=I.ok.mod.kin.keeps I.bk
theorem Inv.lt (I:Inv X pins σ H s):X.env.locals < s.heap.objs.size:=let ⟨_,hn,_⟩:=I.loc;hn.lt
theorem Inv.sz (I:Inv X pins σ H s):X.s₀.heap.objs.size<=s.heap.objs.size:=zi I.ok.above (zk I.lt)
theorem Inv.nofs (I:Inv X pins σ H s)(h:s.heap.objs.size<=a):a ∉ X.fs:=fun c=>by
 obtain⟨_,o,b,_⟩:=I.ok.funs.mem c;exact absurd (zt (zj b) (zi I.sz h)) (by simp)
theorem Inv.cne (I:Inv X pins σ H s):∀x c,X.env.cells.lookup x=some c->c≠X.env.locals:=fun x c e z=>by
 obtain⟨v,o,f,g⟩:=I.cell x c e;obtain⟨m,⟨d,h,i,a,b,_⟩,_⟩:=I.loc
 grind
theorem Inv.funs (I:Inv X pins σ H s):s.heap.FunFrames X.base X.outer:=by
 have g:∀(l:List Env),(∀b∈frs l,b∈X.fs)->X.s₀.heap.FunFrames X.base l->s.heap.FunFrames X.base l:=by
  intro l
  induction l with
  |nil=>intro _ _;trivial
  |cons env r ih =>
   intro d k;obtain⟨m,⟨L,o,f,j,i,n⟩,h⟩:=k;have c  := d L (by unfold frs;simp_all);obtain⟨p,e⟩:=I.base.slot L o i (I.ok.frf L c) c fun z=>I.ok.exfs L z c;exact⟨m,⟨L,_,f,j,e,n⟩,ih (fun b a=>d b (by unfold frs;rw[zco,f];exact yn _ a)) h⟩
 exact g _ (fun _ a=>a) I.ok.funs
theorem Inv.stack (I:Inv X pins σ H s):s.heap.FunFrames X.base X.stack:=by
 rcases I.ok.stk with e | ⟨e,b⟩
 ·rw[e];exact I.funs
 ·rw[e]
  obtain⟨m,a,_⟩:=I.loc;exact .cons (by rw[I.ok.kind];decide) b a (yci (zi I.ok.bsz I.ok.above)) I.funs
theorem Inv.stkSub (I:Inv X pins σ H s):∀b∈frs X.stack,b∈X.env.locals::X.fs:=fun b a=>by
 rcases I.ok.stk with e | ⟨e,c⟩
 ·simp_all
 ·rw[e] at a
  unfold frs at a;rw[zco,c] at a;exact a
theorem Inv.stkFree (I:Inv X pins σ H s):∀b∈frs X.stack,H b=none:=fun b a=>by
 rcases yk.mp (I.stkSub b a) with e | a
 ·rw[e];exact I.free
 ·obtain⟨_,o,c,_⟩:=I.ok.funs.mem a
  exact I.base.free b o c (I.ok.frf b a) fun z=>I.ok.exfs b z a
theorem Inv.step {g':Array GenState}{t':Nat}{d':Drawn}{ch:List Addr}(I:Inv X pins σ H s)
  (hch:∀b∈ch,(b∈X.ex∨X.s₀.heap.objs.size<=b)/\b≠X.env.locals/\(∀x c,X.env.cells.lookup x=some c->c≠b)/\∀p∈X.pn++pins,p.1≠b)
  (keep:∀b o,b≠X.env.locals->b ∉ X.fs->b ∉ ch->s.heap.get? b=some o->H b=none->h'.get? b=some o)
  (slot:∀b o,b≠X.env.locals->b∈X.fs->b ∉ ch->s.heap.get? b=some o->H b=none->∃sl,h'.get? b=some { o with slots:=sl }) (free:∀b o,b ∉ ch->s.heap.get? b=some o->H b=none->H' b=none)
  (there:∀b o,b ∉ ch->s.heap.get? b=some o->∃o',h'.get? b=some o')
  (tups:∀b xs,H b=some (.tup xs)->H' b=some (.tup xs)) (frzs:∀b o u,H b=some (.frz o u)->H' b=some (.frz o u)) (tbls:∀b ps,H b=some (.tbl ps)->∃more,H' b=some (.tbl (ps++more)))
  (ns:∀m,s.heap.Ns X.env.locals m->h'.Ns X.env.locals m) (hok:HOk X.prog X.w H' h') (hg:ydn g') :
  Inv X pins σ H' { s with heap:=h',gens:=g',drawn:=d',toks:=t' }:=by
 have A:∀b o,X.s₀.heap.get? b=some o->b≠X.env.locals:=fun b o e=>zv (zt (zj e) I.ok.above)
 have j:∀b o,X.s₀.heap.get? b=some o->b ∉ X.ex->b ∉ ch:=fun b o e a h=>by
  rcases (hch b h).1 with z | z
  ·exact a z
  ·exact absurd (zt (zj e) z) (by simp)
 have t:∀x c,X.env.cells.lookup x=some c->∀v,s.heap.IsCell c v->h'.IsCell c v:=fun x c e v ⟨o,y,B⟩=>by
  have f  := fun z=>(hch c z).2.2.1 x c e rfl
  by_cases hc:c∈X.fs
  ·obtain⟨sl,q⟩:=slot c o (I.cne x c e) hc f y (I.freeC x c e)
   exact⟨_,q,B⟩
  ·exact⟨o,keep c o (I.cne x c e) hc f y (I.freeC x c e),B⟩
 refine⟨I.ok,I.os,hg,⟨fun b o e n h a=>(keep b o (A b o e) h (j b o e a) (I.base.keep b o e n h a) (I.base.free b o e n a)),fun b o e n h a=>?_,fun b o e n a=>?_,fun b o e a=>?_,fun b xs e=>tups b xs (I.base.tups b xs e),fun b o xs e=>frzs b o xs (I.base.frzs b o xs e),fun b ps e=>?_⟩,?_,fun x c e=>?_,?_,fun x c e=>?_,fun p J=>?_,hok,I.len⟩
 ·obtain⟨sl,g⟩:=I.base.slot b o e n h a
  obtain⟨D,C⟩:=slot b _ (A b o e) h (j b o e a) g (I.base.free b o e n a);exact⟨D,C⟩
 ·obtain⟨o',g⟩:=I.base.there b o e a
  exact free b o' (j b o e a) g (I.base.free b o e n a)
 ·obtain⟨o',g⟩:=I.base.there b o e a
  exact there b o' (j b o e a) g
 ·obtain⟨O,g⟩:=I.base.tbls b ps e
  grind
 ·obtain⟨m,L,M⟩:=I.loc
  refine⟨m,ns m L,fun i x v g C N=>?_⟩;obtain⟨u,r,l⟩:=M i x v g C N;refine⟨u,r,?_⟩;rcases l with l | ⟨k,c,e,z⟩
  ·exact .inl l
  ·exact .inr ⟨k,c,e,t x c e _ z⟩
 ·obtain⟨v,z⟩:=I.cell x c e
  exact⟨v,t x c e v z⟩
 ·obtain⟨m,⟨o,_,_,y,_⟩,_⟩:=I.loc
  exact free _ o (fun z=>(hch _ z).2.1 rfl) y I.free
 ·obtain⟨v,o,y,B⟩:=I.cell x c e
  exact free c o (fun z=>(hch c z).2.2.1 x c e rfl) y (I.freeC x c e)
 ·obtain⟨e,n,G,F,d⟩:=I.pin p J
  have f  := fun z=>(hch p.1 z).2.2.2 p J rfl;exact⟨keep p.1 p.2 G F f e n,free p.1 p.2 f e n,G,F,d⟩
theorem Inv.un (I:Inv X pins σ H s)(u:Un X.fs [] H H' s.heap h')(hok:HOk X.prog X.w H' h'):Inv X pins σ H' { s with heap:=h',toks:=t' }:=by
 obtain⟨m,⟨o,q,t,d,r⟩,_⟩:=id I.loc;obtain⟨k,j⟩:=u.any d I.free (by simp)
 exact I.step (ch:=[]) (fun _ z=>nomatch z) (fun b o _ c _ e n=>u.keep b o e n c (by simp)) (fun b o _ c _ e n=>u.slot b o e n c (by simp)) (fun b o _ e n=>u.free b o e n (by simp)) (fun b o _ e=>u.there b o e (by simp)) u.tups u.frzs u.tbls (fun p i=>by
  obtain⟨l,f,g,a,h⟩:=i;rw[d] at a;cases a
  exact⟨_,f,g,j,h⟩) hok I.bare
theorem Inv.call {ch:List Addr}(I:Inv X pins σ H s)(u:Un (frs X.stack) ch H H' s.heap h')(hok:HOk X.prog X.w H' h')(hg:ydn g')(hch:∀b∈ch,(b∈X.ex∨X.s₀.heap.objs.size<=b)/\b≠X.env.locals/\(∀x c,X.env.cells.lookup x=some c->c≠b)/\∀p∈X.pn++pins,p.1≠b):
  Inv X pins σ H' { s with heap:=h',gens:=g',drawn:=d',toks:=t' }:=by
 obtain⟨m,⟨o,y,A,g,r⟩,_⟩:=id I.loc;obtain⟨q,f⟩:=u.any g I.free fun z=>(hch _ z).2.1 rfl
 exact I.step hch (fun b o f l a e n=>u.keep b o e n (fun z=>(yk.mp (I.stkSub b z)).elim f l) a) (fun b o _ _ a e n=>u.any e n a) (fun b o a e n=>u.free b o e n a) (fun b o a e=>u.there b o e a) u.tups u.frzs u.tbls (fun v k=>by
  obtain⟨t,h,i,d,j⟩:=k;rw[g] at d;cases d
  exact⟨_,h,i,f,j⟩) hok hg
theorem Inv.turned (I:Inv X pins σ H s)(k:∀b o,b≠it->s.heap.get? b=some o->h'.get? b=some o)(hn:H it=none)(hL:it≠X.env.locals)(h1:it∈X.ex∨X.s₀.heap.objs.size<=it)(h2:∀x c,X.env.cells.lookup x=some c->c≠it)(h3:∀p∈X.pn++pins,p.1≠it):Inv X pins σ H { s with heap:=h',toks:=t' }:=by
 have d:∀b u,H b=some u->b≠it:=fun b u e z=>by grind
 refine I.step (ch:=[it]) (fun b l=>?_) (fun b o _ _ a e _=>k b o (fun z=>a (by simp[z])) e) (fun b o _ _ a e _=>⟨o.slots,k b o (fun z=>a (by simp[z])) e⟩) (fun _ _ _ _ n=>n)
  (fun b o a e=>⟨o,k b o (fun z=>a (by simp[z])) e⟩) (fun _ _ e=>e) (fun _ _ _ e=>e) (fun b j e=>⟨#[],by simp_all⟩) (fun m g=>?_) (fun b u e=>?_) I.bare
 ·have e:b=it:=by simp_all
  subst e;exact⟨h1,hL,h2,h3⟩
 ·obtain⟨o,h,i,f,r⟩:=g
  exact⟨o,h,i,k _ o (zar hL) f,r⟩
 ·refine (I.hok b u e).stay (fun c v a q=>k c v ?_ q) (fun _ q=>q) fun _ _ q=>q
  rcases a with z | z
  ·rw[z];exact d b u e
  ·exact d c _ z
theorem Inv.tok (I:Inv X pins σ H s)(t:Nat):Inv X pins σ H { s with toks:=t }:=I.un Un.refl I.hok
theorem Inv.kept {t':Nat}(I:Inv X pins σ H s)(k:∀b u,s.heap.get? b=some u->h'.get? b=some u):Inv X pins σ H { s with heap:=h',toks:=t' }:=I.un (Un.kept k) (I.hok.kept k)
theorem Inv.laid {a:Addr}{o:HO}{t':Nat}(I:Inv X pins σ H s)(k:∀b u,s.heap.get? b=some u->h'.get? b=some u)(hp:s.heap.objs.size<=a)(new:ObjOk X.prog X.w (upd H a o) h' a o) :
  Inv X pins σ (upd H a o) { s with heap:=h',toks:=t' }:=I.un (Un.laid k hp (I.hok.fresh hp)) (I.hok.laid k hp new)
theorem Inv.write {x e:Addr}{o:HO}{t':Nat}(I:Inv X pins σ H s)(mu:Mut (H x))(he:e=x∨H e=some (.own x))(k:∀b u,b≠e->s.heap.get? b=some u->h'.get? b=some u)(heo:∃u,h'.get? e=some u)
  (new:ObjOk X.prog X.w (upd H x o) h' x o):Inv X pins σ (upd H x o) { s with heap:=h',toks:=t' }:=I.un (Un.write mu he k heo) (I.hok.write mu he k heo new)
theorem Inv.weak (I:Inv X pins σ H s)(hl:σ'.length=σ.length)(w:∀(i:Nat) v,σ'[i]?=some (some v)->σ[i]?=some (some v)):Inv X pins σ' H s :=
 ⟨I.ok,I.os,I.bare,I.base,let ⟨m,hn,hl'⟩:=I.loc;⟨m,hn,fun i x v c b a=>hl' i x v c (w i v b) a⟩,I.cell,I.free,I.freeC,I.pin,I.hok,hl.trans I.len⟩
theorem Inv.pins_of (I:Inv X pins σ H s)(h:∀p∈pins',s.heap.get? p.1=some p.2/\H p.1=none/\p.1≠X.env.locals/\p.1 ∉ X.fs/\∀v,p.2.data≠.cell v):Inv X pins' σ H s :=
 ⟨I.ok,I.os,I.bare,I.base,I.loc,I.cell,I.free,I.freeC,fun p a=>(yd.mp a).elim (fun z=>I.pin p (zas _ z)) (h p),I.hok,I.len⟩
theorem Yu2 (hN:N.Nodup)(a:N[i]?=some x)(b:N[j]?=some x):i=j:=by
 obtain⟨f,d⟩:=ze.mp a;obtain⟨e,c⟩:=ze.mp b;exact (List.getElem_inj hN).mp (d.trans c.symm)
theorem Xd9 {E:Value->Shared->Prop}{v:V}{Q:Unit->Shared->Prop}(I:Inv X pins σ H s)(hN:X.N.Nodup)(hi:X.N[i]?=some x)(hx:Loc X.env.scope x)(r:RelV v u)(h:∀s',Inv X pins (σ.set i (some v)) H s'->(∃a,ybm a s.heap s'.heap/\(a=X.env.locals∨X.env.cells.lookup x=some a))->Q () s')(hf:X.fn x=true∨X.env.scope.names.lookup x=some .local:=by first | exact .inl rfl | exact .inr rfl | assumption):wpAny M A (storeName X.env x u) Q E s:=by
 obtain⟨m,hn,hl⟩:=id I.loc
 have q0:(X.env.scope.kind == .class||X.env.scope.kind == .module&&X.env.locals != X.env.globals)=false:=by rw[I.ok.kind];rfl
 have F:i < σ.length:=by rw[I.len];exact (ze.mp hi).1
 have J:=I.cne
 have t:∀{a:Addr} {h':Heap},(∃o,s.heap.get? a=some o/\H a=none)->ybm a _ h'->HOk _ X.w H h':=fun {a h'} ha f b ob e=>by
  refine (I.hok b ob e).stay (fun c S l q=>(f.2 c ?_).trans q) (fun _ q=>q) fun _ _ q=>q
  grind
 rcases hx with D | D
 ·refine wpAny_storeName_local D hn (fun h' q3 f=>?_) q0
  obtain⟨oL,_,_,q2,_⟩:=id hn;refine h _ ⟨I.ok,I.os,I.bare,⟨fun b o e n C hx=>((f.2 b (zv (zt (zj e) I.ok.above))).trans (I.base.keep b o e n C hx)),fun b o e n C hx=>?_,I.base.free,fun b o e hx=>?_,I.base.tups,I.base.frzs,I.base.tbls⟩,⟨_,q3,fun j y T g B e3=>?_⟩,fun y c e=>?_,I.free,I.freeC,fun p hp=>?_,t ⟨oL,q2,I.free⟩ f,by simpa using I.len⟩ ⟨_,f,.inl rfl⟩
  ·obtain⟨W,g⟩:=I.base.slot b o e n C hx
   exact⟨W,(f.2 b (zv (zt (zj e) I.ok.above))).trans g⟩
  ·obtain⟨Z,g⟩:=I.base.there b o e hx
   exact⟨Z,(f.2 b (zv (zt (zj e) I.ok.above))).trans g⟩
  ·by_cases hj:j=i
   ·subst hj
    rw[hi] at g;cases g;rw[List.getElem?_set_self F] at B;cases B;exact⟨u,r,.inl ⟨D,by simp⟩⟩
   ·rw[ydb (zar hj)] at B
    obtain⟨U,Y,q⟩:=hl j y T g B e3;refine⟨U,Y,?_⟩;rcases q with ⟨k,e⟩ | ⟨k,c,e,z⟩
    ·refine .inl ⟨k,?_⟩
     have:y≠x:=fun e=>hj (Yu2 hN g (e▸hi))
     simp_all
    ·exact .inr ⟨k,c,e,z.sameBut f (J y c e)⟩
  ·obtain⟨S,z⟩:=I.cell y c e
   exact⟨S,z.sameBut f (J y c e)⟩
  ·obtain⟨e,n,L,nf,d⟩:=I.pin p hp
   exact⟨(f.2 p.1 L).trans e,n,L,nf,d⟩
 ·have G:X.fn x=true:=by
   grind
  obtain⟨c,l⟩:=I.ok.has x (.inl D);obtain⟨S,z⟩:=I.cell x c l;refine wpAny_storeName_cell I.ok.kind D l z fun h' R f=>?_;obtain⟨oc,q1,q4⟩:=id z;refine h { s with heap:=h' } ⟨I.ok,I.os,I.bare,⟨fun b o e n C hx=>((f.2 b (zv (zt (zj e) (I.ok.cab x c G l)))).trans (I.base.keep b o e n C hx)),fun b o e n C hx=>?_,I.base.free,fun b o e hx=>?_,I.base.tups,I.base.frzs,I.base.tbls⟩,⟨m,hn.sameBut f (zar (J x c l)),fun j y T g B e3=>?_⟩,fun y O e=>?_,I.free,I.freeC,fun p hp=>?_,t ⟨oc,q1,I.freeC x c l⟩ f,by simpa using I.len⟩ ⟨c,f,.inr l⟩
  ·obtain⟨W,g⟩:=I.base.slot b o e n C hx
   exact⟨W,(f.2 b (zv (zt (zj e) (I.ok.cab x c G l)))).trans g⟩
  ·obtain⟨Z,g⟩:=I.base.there b o e hx
   exact⟨Z,(f.2 b (zv (zt (zj e) (I.ok.cab x c G l)))).trans g⟩
  ·by_cases hj:j=i
   ·subst hj
    rw[hi] at g;cases g;rw[List.getElem?_set_self F] at B;cases B;exact⟨u,r,.inr ⟨.inl D,c,l,R⟩⟩
   ·rw[ydb (zar hj)] at B
    obtain⟨U,Y,q⟩:=hl j y T g B e3;refine⟨U,Y,?_⟩;rcases q with q | ⟨k,O,e,z'⟩
    ·exact .inl q
    ·refine .inr ⟨k,O,e,z'.sameBut f ?_⟩
     rintro rfl;exact hj (Yu2 hN g (I.ok.inj _ _ _ e l▸hi))
  ·by_cases hcc:O=c
   ·subst hcc;exact⟨_,R⟩
   ·obtain⟨w2,z2⟩:=I.cell y O e
    exact⟨w2,z2.sameBut f hcc⟩
  ·obtain⟨e,n,L,nf,d⟩:=I.pin p hp
   refine⟨(f.2 p.1 ?_).trans e,n,L,nf,d⟩;intro q
   simp_all
theorem Zs3 {E:Value->Shared->Prop}{v:V}{Q:Unit->Shared->Prop}(I:Inv X pins σ H s)(hN:X.N.Nodup)(hi:X.N[i]?=some x)(hx:Loc X.env.scope x)(r:RelV v u)(h:∀s',Inv X pins (σ.set i (some v)) H s'->Q () s')(hf:X.fn x=true∨X.env.scope.names.lookup x=some .local:=by first | exact .inl rfl | exact .inr rfl | assumption):wpAny M A (storeName X.env x u) Q E s :=
 Xd9 I hN hi hx r (fun s' a _=>h s' a) hf
theorem Inv.call' {ch:List Addr}(I:Inv X pins σ H s)(ho:s'.os=s.os)(u:Un (frs X.stack) ch H H' s.heap s'.heap)(hok:HOk X.prog X.w H' s'.heap)(hg:ydn s'.gens)(hch:∀b∈ch,(b∈X.ex∨X.s₀.heap.objs.size<=b)/\b≠X.env.locals/\(∀x c,X.env.cells.lookup x=some c->c≠b)/\∀p∈X.pn++pins,p.1≠b):Inv X pins σ H' s':=by
 obtain⟨f,g,h,a,d⟩:=s';have e  := ho;subst e;exact I.call u hok hg hch
end
noncomputable abbrev XK:=Value->Option Addr->Hp->Prop
noncomputable abbrev St:=List (Option V)
noncomputable abbrev VK:=V->Hp->Prop
noncomputable abbrev TE:=St->Hp->VK->Prop
noncomputable abbrev TT:=St->Hp->(Bool->Hp->Prop)->Prop
noncomputable abbrev TA:=St->Hp->(List V->Hp->Prop)->Prop
structure Ends where
 nx:St->Hp->Prop
 rt:VK
 bk:St->Hp->Prop:=fun _ _=>False
 ct:St->Hp->Prop:=fun _ _=>False
noncomputable abbrev TS:=Ends->St->Hp->Prop
def EP (X:Cx)(pins:List (Addr×Obj))(σ:St)(Q:VK)(u:Value)(s':Shared):Prop:=∃v H',Inv X pins σ H' s'/\RelV v u/\Q v H'
def TP (X:Cx)(pins:List (Addr×Obj))(σ:St)(Q:Bool->Hp->Prop)(b:Bool)(s':Shared):Prop:=∃H',Inv X pins σ H' s'/\Q b H'
def AP (X:Cx)(pins:List (Addr×Obj))(σ:St)(Q:List V->Hp->Prop)(us:List Value)(s':Shared):Prop:=∃vs H',Inv X pins σ H' s'/\Vals vs us/\Q vs H'
def SP (X:Cx)(pins:List (Addr×Obj))(D:Ends)(f:Flow)(s':Shared):Prop :=
 match f with
 | .next=>∃σ' H',Inv X pins σ' H' s'/\D.nx σ' H'
 | .brk=>∃σ' H',Inv X pins σ' H' s'/\D.bk σ' H'
 | .cont=>∃σ' H',Inv X pins σ' H' s'/\D.ct σ' H'
 | .ret u=>∃v σ' H',Inv X pins σ' H' s'/\RelV v u/\D.rt v H'
@[irreducible] def PE (X:Cx)(e:Expr)(t:TE):Prop :=
 ∀(pins:List (Addr×Obj)) (s:Shared) (σ:St) (H:Hp) (Q:VK),Inv X pins σ H s->t σ H Q->wpAny (model X.prog X.w) X.A (eval e X.env) (EP X pins σ Q) X.xe s
@[irreducible] def PT (X:Cx)(e:Expr)(t:TT):Prop :=
 ∀(pins:List (Addr×Obj)) (s:Shared) (σ:St) (H:Hp) (Q:Bool->Hp->Prop),Inv X pins σ H s->t σ H Q->wpAny (model X.prog X.w) X.A (isTrue e X.env (eval e X.env)) (TP X pins σ Q) X.xe s
@[irreducible] def PW (X:Cx)(e:Expr)(t:TT):Prop :=
 ∀(whole:Sem Value) (pins:List (Addr×Obj)) (s:Shared) (σ:St) (H:Hp) (Q:Bool->Hp->Prop),Inv X pins σ H s->t σ H Q->wpAny (model X.prog X.w) X.A (isTrue e X.env whole) (TP X pins σ Q) X.xe s
theorem PW.pt (h:PW X e t):PT X e t:=by with_unfolding_all exact (h _)
@[irreducible] def PA (X:Cx)(es:List Expr)(t:TA):Prop :=
 ∀(pos:Pos) (pins:List (Addr×Obj)) (s:Shared) (σ:St) (H:Hp) (Q:List V->Hp->Prop),Inv X pins σ H s->t σ H Q->wpAny (model X.prog X.w) X.A (spliced (backTo pos (zx es X.env))) (AP X pins σ Q) X.xe s
@[irreducible] def PS (X:Cx)(st:Stmt)(t:TS):Prop :=
 ∀(pins:List (Addr×Obj)) (s:Shared) (σ:St) (H:Hp) (D:Ends),Inv X pins σ H s->t D σ H->wpAny (model X.prog X.w) X.A (exec st X.env) (SP X pins D) X.xe s
@[irreducible] def PSs (X:Cx)(st:List Stmt)(t:TS):Prop :=
 ∀(pins:List (Addr×Obj)) (s:Shared) (σ:St) (H:Hp) (D:Ends),Inv X pins σ H s->t D σ H->wpAny (model X.prog X.w) X.A (execs st X.env) (SP X pins D) X.xe s
theorem thn {Q Q':α->Shared->Prop}(h:wpAny M A t Q E s)(hQ:∀a s,Q a s->Q' a s):wpAny M A t Q' E s:=yat h hQ fun _ _ x=>x
section
variable {X:Cx}
def tVar (i:Nat):TE:=fun σ H Q=>∃v,σ[i]?=some (some v)/\Q v H
def tC (v:V):TE:=fun _ H Q=>Q v H
theorem Xg4 {i:Nat}(hN:X.N[i]?=some x)(hv:Vis X.env.scope x)(hd:(x == ("__debug__":Str))=false:=by decide)(hcd:(x == ("__classdict__":Str))=false:=by decide):PE X (.Name x pos) (tVar i):=by with_unfolding_all
 intro j s g H Q I h;obtain⟨v,e,h⟩:=h;obtain⟨m,k,o⟩:=I.loc;obtain⟨u,r,l⟩:=o i x v hN e hv;have d:EP X _ g Q u s:=⟨v,H,I,r,h⟩;rcases l with ⟨a,n⟩ | ⟨a,c,f,b⟩
 ·exact wpAny_Name (wpAny_loadName_local I.ok.kind a k n d) hd
 ·rcases a with a | a
  ·exact wpAny_Name (wpAny_loadName_cell I.ok.kind a f b d) hd
  ·exact wpAny_Name (wpAny_loadName_free I.ok.kind a f b d hcd) hd
theorem Za5 {i j pos}:PE X (.Constant (.int i) j pos) (tC (.int i)):=by with_unfolding_all exact (fun _ _ _ H _ I h=>wpAny_Constant_int ⟨.int i,H,I.tok _,⟨_,rfl⟩,h⟩)
theorem Zo2 {b j pos}:PE X (.Constant (.bool b) j pos) (tC (.bl b)):=by with_unfolding_all exact (fun _ _ _ H _ I h=>Constant_bool ⟨.bl b,H,I,rfl,h⟩)
theorem Ze3 :PE X (.Constant .none j pos) (tC .non):=by with_unfolding_all exact (fun _ _ _ H _ I h=>Constant_none ⟨.non,H,I,rfl,h⟩)
theorem Zb6 :PE X (.Constant (.str x) j pos) (tC (.str x)):=by with_unfolding_all exact (fun _ _ _ H _ I h=>Calls.Constant_str ⟨.str x,H,I.tok _,⟨_,rfl⟩,h⟩)
def Gl (X:Cx)(x:Str):Prop:=X.env.kindOf x=some .globalImplicit
theorem Zl3 {E:Value->Shared->Prop}{σ:St}{H:Hp}{Q:Value->Shared->Prop}(I:Inv X pins σ H s)(hg:Gl X x)(hm:X.mg x=some u)(h:Q u s)(hd:(x == ("__debug__":Str))=false:=by decide):wpAny (model X.prog X.w) X.A (eval (.Name x pos) X.env) Q E s :=
 Calls.Name_function_global I.ok.kind hg (Calls.loadGlobal_global (by rw[I.ok.glob];exact I.mod.glob.keeps I.bk) hm h) hd
theorem Zt7 {E:Value->Shared->Prop}{σ:St}{H:Hp}{Q:Value->Shared->Prop}(I:Inv X pins σ H s)(hg:Gl X x)(hm:X.mg x=none)(hv:yav x=some u)(h:Q u s)(hn:x≠"__name__":=by decide)(hd:(x == ("__debug__":Str))=false:=by decide):wpAny (model X.prog X.w) X.A (eval (.Name x pos) X.env) Q E s:=by
 obtain⟨c,b,a⟩:=I.mod.blt;exact Calls.Name_function_global I.ok.kind hg (Calls.loadGlobal_builtin (by rw[I.ok.glob];exact I.mod.glob.keeps I.bk) hm (by rw[I.ok.blt];exact b.keeps I.bk) ((a x hn).trans hv) h) hd
theorem Yb0 {v:V}(hg:Gl X x)(hm:X.mg x=some u)(r:RelV v u)(hd:(x == ("__debug__":Str))=false:=by decide):PE X (.Name x pos) (tC v):=by with_unfolding_all exact (fun _ _ _ H _ I h=>Zl3 I hg hm ⟨v,H,I,r,h⟩ hd)
theorem Xg8 {v:V}(hg:Gl X x)(hm:X.mg x=none)(hv:yav x=some u)(r:RelV v u)(hn:x≠"__name__":=by decide)(hd:(x == ("__debug__":Str))=false:=by decide):PE X (.Name x pos) (tC v):=by with_unfolding_all exact (fun _ _ _ H _ I h=>Zt7 I hg hm hv ⟨v,H,I,r,h⟩ hn hd)
variable {a b:Expr}{ta tb:TE}
def PC (X:Cx)(op:CmpOp)(a b:Expr)(t:TE):Prop :=
 ∀(pins:List (Addr×Obj)) (s:Shared) (σ:St) (H:Hp) (Q:VK),Inv X pins σ H s->t σ H Q ->
  wpAny (model X.prog X.w) X.A (eval a X.env) (fun v s₁=>wpAny (model X.prog X.w) X.A (eval b X.env) (fun u s₂=>wpAny (model X.prog X.w) X.A (yaj op v u) (EP X pins σ Q) X.xe s₂) X.xe s₁) X.xe s
def tB (t:TE):TT:=fun σ H Q=>t σ H fun x H1=>∃c,x=.bl c/\Q c H1
theorem Xv4 {t:TE}(h:PC X op a b t)(h1:zcr op b=false:=by first | exact nobehind _ (by decide) (by decide) | rfl):PT X (.Compare a [op] [b] pos) (tB t):=by with_unfolding_all
 intro f s e H Q I g;refine wpAny_isTrue_Compare1 (thn (h _ s e H _ I g) fun v k h1=>thn h1 fun u j i=>thn i fun c s3 ⟨x,H1,I1,r1,q1⟩=>?_) h1;obtain⟨d,rfl,q⟩:=q1;cases r1;exact zaw ⟨H1,I1,q⟩
theorem Zj2 {e:Expr}{t:TE}(h:PE X e t)(he:∀whole,isTrue e X.env whole=(do let v <- whole;standAt e.pos;holding [v] (truthy v)):=by intro _;rfl):PT X e (tB t):=by with_unfolding_all
 intro a s b H Q I c;refine isTrue_plain (thn (h a s b H _ I c) fun v s1 ⟨x,H1,I1,r1,q1⟩=>?_) (he _);obtain⟨d,rfl,q⟩:=q1;cases r1;exact zaw ⟨H1,I1,q⟩
variable {tA tB':TT}{rest:List Expr}
def tAnd (t u:TT):TT:=fun σ H Q=>t σ H fun c H1=>if c=true then u σ H1 Q else Q false H1
def tOr (t u:TT):TT:=fun σ H Q=>t σ H fun c H1=>if c=true then Q true H1 else u σ H1 Q
def tNot (t:TT):TT:=fun σ H Q=>t σ H fun c H1=>Q (!c) H1
theorem Zk9 (ha:PT X a tA):PW X (.BoolOp .And [a] pos) tA:=by with_unfolding_all
 intro f b s d H Q I h;refine isTrue_and (thn (ha b s d H Q I h) fun c g e=>?_)
 cases c with
 |true=>exact isTrue_and_nil e
 |false=>exact e
theorem Ya8 (ha:PT X a tA):PW X (.BoolOp .Or [a] pos) tA:=by with_unfolding_all
 intro f b s d H Q I h;refine isTrue_or (thn (ha b s d H Q I h) fun c g e=>?_)
 cases c with
 |false=>exact isTrue_or_nil e
 |true=>exact e
theorem Zq6 (ha:PT X a tA)(hb:PW X (.BoolOp .And (b::rest) pos) tB'):PW X (.BoolOp .And (a::b::rest) pos) (tAnd tA tB'):=by with_unfolding_all
 intro k d s e H Q I h;refine isTrue_and (thn (ha d s e H _ I h) fun c l j=>?_);obtain⟨i,g,f⟩:=j
 cases c with
 |true=>exact hb k d l e i Q g f
 |false=>exact⟨i,g,f⟩
theorem Yp7 (ha:PT X a tA)(hb:PW X (.BoolOp .Or (b::rest) pos) tB'):PW X (.BoolOp .Or (a::b::rest) pos) (tOr tA tB'):=by with_unfolding_all
 intro k d s e H Q I h;refine isTrue_or (thn (ha d s e H _ I h) fun c l j=>?_);obtain⟨i,g,f⟩:=j
 cases c with
 |true=>exact⟨i,g,f⟩
 |false=>exact hb k d l e i Q g f
theorem Zj7 (ha:PT X a tA):PT X (.UnaryOp .Not a pos) (tNot tA):=by with_unfolding_all
 intro b s d H Q I h;exact isTrue_not (ha b s d H (fun c e=>Q (!c) e) I h)
def Yo4 (ta tb:TE):TE:=fun σ H Q=>ta σ H fun x H1=>∃c,x=.bl c/\if c=true then tb σ H1 Q else Q (.bl false) H1
def tOrV (ta tb:TE):TE:=fun σ H Q=>ta σ H fun x H1=>∃c,x=.bl c/\if c=true then Q (.bl true) H1 else tb σ H1 Q
def Yo2 (ta:TE):TE:=fun σ H Q=>ta σ H fun x H1=>∃c,x=.bl c/\Q (.bl (!c)) H1
theorem Zw1 {op}(h:PE X a t):PE X (.BoolOp op [a] pos) t:=by with_unfolding_all exact (fun b s c H Q I d=>BoolOp_one (h b s c H Q I d))
theorem Yk5 (ha:PE X a ta)(hb:PE X (.BoolOp .And (b::rest) pos) tb):PE X (.BoolOp .And (a::b::rest) pos) (Yo4 ta tb):=by with_unfolding_all
 intro d s f H Q I h;refine BoolOp_and (thn (ha d s f H _ I h) fun v k j=>?_);obtain⟨x,i,g,l,e⟩:=j;obtain⟨c,rfl,e⟩:=e;cases l;refine zaw ?_
 cases c with
 |true=>exact hb d k f i Q g e
 |false=>exact⟨.bl _,i,g,rfl,e⟩
theorem Wa1 (ha:PE X a ta)(hb:PE X (.BoolOp .Or (b::rest) pos) tb):PE X (.BoolOp .Or (a::b::rest) pos) (tOrV ta tb):=by with_unfolding_all
 intro d s f H Q I h;refine BoolOp_or (thn (ha d s f H _ I h) fun v k j=>?_);obtain⟨x,i,g,l,e⟩:=j;obtain⟨c,rfl,e⟩:=e;cases l;refine zaw ?_
 cases c with
 |false=>exact hb d k f i Q g e
 |true=>exact⟨.bl _,i,g,rfl,e⟩
theorem Wi3 (ha:PE X a ta):PE X (.UnaryOp .Not a pos) (Yo2 ta):=by with_unfolding_all
 intro d s e H Q I h;refine UnaryOp_ (thn (ha d s e H _ I h) fun v k f=>?_);obtain⟨x,j,i,g,b⟩:=f;obtain⟨c,rfl,b⟩:=b;cases g;exact not_of (zaw ⟨.bl _,j,i,rfl,b⟩)
def tIf (t:TT)(ta tb:TE):TE:=fun σ H Q=>t σ H fun c H1=>if c=true then ta σ H1 Q else tb σ H1 Q
theorem Zj4 (hc:PT X c tA)(ha:PE X a ta)(hb:PE X b tb):PE X (.IfExp c a b pos) (tIf tA ta tb):=by with_unfolding_all
 intro e s f H Q I h;refine wpAny_IfExp (thn (hc e s f H _ I h) fun d g l=>?_);obtain⟨k,j,i⟩:=l
 cases d with
 |true=>exact ha e g f k Q j i
 |false=>exact hb e g f k Q j i
end
def SqL (K:W.Frag)(H:Hp)(a:Addr)(xs:List V):Prop :=
 Rd H a (.lst xs) ∨
  ∃(o:Obj) (its:Array Value) (n:Nat),K.lookup a=some o/\o.cls=.type "list"/\o.dict=none/\o.data=.seq its n/\its.size<=zp/\Vals xs its.toList
def SqT (K:W.Frag)(H:Hp)(a:Addr)(xs:List V):Prop :=
 Rd H a (.tup xs) ∨
  ∃(o:Obj) (its:Array Value) (n:Nat),K.lookup a=some o/\o.cls=.type "tuple"/\o.data=.seq its n/\its.size<=zp/\Vals xs its.toList
noncomputable def absV:Value->Option V
 | .none=>some .non
 | .bool b=>some (.bl b)
 | .int i _=>some (.int i)
 | .str x _=>some (.str x)
 | .bytes b _=>some (.byt b)
 | .float b _=>some (.flt b)
 | .ref a=>some (.ref a)
 | .type n=>some (.ty n)
 | _=>none
theorem RelV.abs {x:V}(r:RelV x u):absV u=some x:=by
 cases x with
 |non=>cases r;rfl
 |bl _=>cases r;rfl
 |int _=>obtain⟨t,rfl⟩:=r;rfl
 |str _=>obtain⟨t,rfl⟩:=r;rfl
 |byt _=>obtain⟨t,rfl⟩:=r;rfl
 |flt _=>obtain⟨t,rfl⟩:=r;rfl
 |ref _=>cases r;rfl
 |ty _=>cases r;rfl
theorem RelV.inj {x y:V}(r:RelV x u)(q:RelV y u):x=y:=zan (r.abs.symm.trans q.abs)
theorem Vals.inj:∀{xs ys:List V} {us:List Value},Vals xs us->Vals ys us->xs=ys
 | _,_,_,.nil,.nil=>rfl
 | _,_,_,.cons r t,.cons r' t'=>by rw[r.inj r',Vals.inj t t']
section
variable {X:Cx}{σ:St}{H:Hp}{xs ys:List V}
theorem SqL.of (h:H a=some (.lst xs)):SqL K H a xs:=.inl (.inl h)
theorem Inv.list (I:Inv X pins σ H s)(h:SqL X.K H a xs):∃its:List Value,Vals xs its/\PlainL s.heap a its.toArray/\xs.length<=zp:=by
 rcases h with h | ⟨o,its,n,b,d,c,g,f,r⟩
 ·obtain⟨z,its,n,r,e⟩:=h.ok I.hok
  exact⟨its,r,⟨_,n,e,rfl,rfl,rfl⟩,z⟩
 ·refine⟨its.toList,r,⟨o,n,I.kIn a o b,d,c,by omega⟩,?_⟩
  have e:=r.length
  simp_all
theorem Inv.tuple (I:Inv X pins σ H s)(h:SqT X.K H a xs):∃its:List Value,Vals xs its/\IsTup s.heap a its.toArray/\xs.length<=zp:=by
 rcases h with h | ⟨o,its,n,b,c,f,d,r⟩
 ·obtain⟨z,its,r,p⟩:=h.ok I.hok
  exact⟨its,r,p,z⟩
 ·refine⟨its.toList,r,⟨o,I.kIn a o b,c,n,by omega⟩,?_⟩
  have e:=r.length
  simp_all
theorem Inv.list_inj (I:Inv X pins σ H s)(h:SqL X.K H a xs)(h':SqL X.K H a ys):xs=ys:=by
 obtain⟨b,r,⟨o,n,e,_,_,d⟩,_⟩:=I.list h;obtain⟨its',c,⟨f,g,i,_,_,j⟩,_⟩:=I.list h'
 have:b=its':=by grind
 subst this;exact r.inj c
theorem Inv.tuple_inj (I:Inv X pins σ H s)(h:SqT X.K H a xs)(h':SqT X.K H a ys):xs=ys:=by
 obtain⟨b,r,⟨o,e,_,n,d⟩,_⟩:=I.tuple h;obtain⟨its',c,⟨f,i,_,g,j⟩,_⟩:=I.tuple h'
 have:b=its':=by grind
 subst this;exact r.inj c
end
noncomputable abbrev Cx.wish (X:Cx)(E:Value->Shared->Prop):Cx:={ X with xe:=E }
noncomputable abbrev Cx.nox (X:Cx):Cx:=X.wish fun _ _=>False
theorem Cx.Ok.wish {X:Cx}(ok:X.Ok)(E:Value->Shared->Prop):(X.wish E).Ok :=
 ⟨ok.mod,ok.kind,ok.glob,ok.blt,ok.above,ok.inj,ok.has,ok.cab,ok.hd,ok.frames,ok.stk,ok.exf,ok.bs,ok.bsz,ok.noex,ok.exfs,ok.funs,ok.frf⟩
theorem Cx.Ok.unwish {X:Cx}(ok:(X.wish E).Ok):X.Ok :=
 ⟨ok.mod,ok.kind,ok.glob,ok.blt,ok.above,ok.inj,ok.has,ok.cab,ok.hd,ok.frames,ok.stk,ok.exf,ok.bs,ok.bsz,ok.noex,ok.exfs,ok.funs,ok.frf⟩
section
variable {X:Cx}{σ:St}{H:Hp}{E:Value->Shared->Prop}
theorem Inv.wish (I:Inv X pins σ H s)(E:Value->Shared->Prop):Inv (X.wish E) pins σ H s:=⟨I.ok.wish E,I.os,I.bare,I.base,I.loc,I.cell,I.free,I.freeC,I.pin,I.hok,I.len⟩
theorem Inv.unwish (I:Inv (X.wish E) pins σ H s):Inv X pins σ H s:=⟨I.ok.unwish,I.os,I.bare,I.base,I.loc,I.cell,I.free,I.freeC,I.pin,I.hok,I.len⟩
theorem SP.unwish {f:Flow}(h:SP (X.wish E) pins D f s'):SP X pins D f s':=by
 cases f with
 |next=>obtain⟨a,b,I,q⟩:=h;exact⟨a,b,I.unwish,q⟩
 |brk=>obtain⟨a,b,I,q⟩:=h;exact⟨a,b,I.unwish,q⟩
 |cont=>obtain⟨a,b,I,q⟩:=h;exact⟨a,b,I.unwish,q⟩
 |ret u=>obtain⟨v,a,b,I,r,q⟩:=h;exact⟨v,a,b,I.unwish,r,q⟩
theorem PSs.nox {st:List Stmt}(h:PSs X.nox st t):PSs X st t:=by with_unfolding_all exact (fun a s b H D I c =>
 yat (h a s b H D (I.wish _) c) (fun _ _ q=>q.unwish) fun _ _ z=>zbl z)
end
section
variable {X:Cx}{rest:List Stmt}{t u:TS}{e:Expr}{te:TE}
def Xd3:TS:=fun D σ H=>D.nx σ H
def tSeq (t u:TS):TS:=fun D σ H=>t { D with nx:=u D } σ H
theorem Zb4:PSs X [] Xd3:=by with_unfolding_all exact (fun _ _ a H _ I h=>ycc ⟨a,H,I,h⟩)
theorem Za4 (h1:PS X st t)(h2:PSs X rest u):PSs X (st::rest) (tSeq t u):=by with_unfolding_all
 intro a s c H D I h;refine zda (thn (h1 a s c H { D with nx:=u D } I h) fun f d q=>?_)
 cases f with
 |next =>
  obtain⟨b,g,e,q⟩:=q;exact h2 a d b g D e q
 |ret v=>exact q
 |brk=>exact q
 |cont=>exact q
theorem Za7 (h1:PS X st t):PSs X [st] t:=by with_unfolding_all
 intro a s b H D I h;refine zda (thn (h1 a s b H D I h) fun f c q=>?_)
 cases f with
 |next=>exact ycc q
 |ret v=>exact q
 |brk=>exact q
 |cont=>exact q
theorem Inv.quiet {σ:St}(I:Inv X pins σ H s):interactive X.env=false:=by simp[interactive,I.ok.kind]
def Xy6 (te:TE):TS:=fun D σ H=>te σ H fun _ H1=>D.nx σ H1
theorem Zi5 (he:PE X e te)(hs:zde e none pos.line X.env=pure false:=by rfl):PS X (.Expr e pos) (Xy6 te):=by with_unfolding_all
 intro a s b H D I h;exact wpAny_Expr_any (thn (he a s b H _ I h) fun v s1 zZ=>by obtain⟨x,H1,I1,r1,q1⟩:=zZ;exact ⟨b,H1,I1,q1⟩) I.quiet hs
def tRet (te:TE):TS:=fun D σ H=>te σ H D.rt
theorem Zb2 (he:PE X e te):PS X (.Return (some e) pos) (tRet te):=by with_unfolding_all
 intro a s b H D I h;exact wpAny_Return_some (thn (he a s b H _ I h) fun v s1 zZ=>by obtain⟨x,H1,I1,r1,q1⟩:=zZ;exact ⟨x,b,H1,I1,r1,q1⟩)
def tIfS (c:TT)(t u:TS):TS:=fun D σ H=>c σ H fun b H1=>if b=true then t D σ H1 else u D σ H1
theorem Zc7 {a b:List Stmt}(hc:PT X c tc)(ha:PSs X a t)(hb:PSs X b u):PS X (.If c a b pos) (tIfS tc t u):=by with_unfolding_all
 intro e s f H D I h;refine wpAny_If (thn (hc e s f H _ I h) fun d g l=>?_);obtain⟨k,j,i⟩:=l
 cases d with
 |true=>exact ha e g f k D j i
 |false=>exact hb e g f k D j i
end
noncomputable abbrev TG:=V->St->Hp->(St->Hp->Prop)->Prop
noncomputable abbrev TGs:=List V->St->Hp->(St->Hp->Prop)->Prop
@[irreducible] def PG (X:Cx)(target:Expr)(t:TG):Prop :=
 ∀(pins:List (Addr×Obj)) (s:Shared) (σ:St) (H:Hp) (v:V) (u:Value) (Q:St->Hp->Prop),Inv X pins σ H s->RelV v u->t v σ H Q ->
  wpAny (model X.prog X.w) X.A (assign target X.env u) (fun _ s'=>∃σ' H',Inv X pins σ' H' s'/\Q σ' H') X.xe s
@[irreducible] def PGs (X:Cx)(ts:List Expr)(t:TGs):Prop :=
 ∀(pins:List (Addr×Obj)) (s:Shared) (σ:St) (H:Hp) (vs:List V) (us:List Value) (Q:St->Hp->Prop),Inv X pins σ H s->Vals vs us->t vs σ H Q ->
  wpAny (model X.prog X.w) X.A (assignInOrder ((ycv ts X.env).map (·.2)) us) (fun _ s'=>∃σ' H',Inv X pins σ' H' s'/\Q σ' H') X.xe s
noncomputable abbrev TSet:=V->V->V->Hp->(Hp->Prop)->Prop
def PSet (X:Cx)(t:TSet):Prop :=
 ∀(pins:List (Addr×Obj)) (s:Shared) (σ:St) (H:Hp) (o i v:V) (ov iv u:Value) (Q:Hp->Prop),Inv X pins σ H s->RelV o ov->RelV i iv->RelV v u->t o i v H Q ->
  wpAny (model X.prog X.w) X.A (setItem ov iv u) (fun _ s'=>∃H',Inv X pins σ H' s'/\Q H') X.xe s
section
variable {X:Cx}
def Zn5 (i:Nat):TG:=fun v σ H Q=>Q (σ.set i (some v)) H
theorem Yp9 {i:Nat}(hN:X.N.Nodup)(hi:X.N[i]?=some x)(hx:Loc X.env.scope x)(hf:X.fn x=true∨X.env.scope.names.lookup x=some .local:=by first | exact .inl rfl | exact .inr rfl | assumption):PG X (.Name x pos) (Zn5 i):=by with_unfolding_all
 intro a s c H v u Q I r h;exact wpAny_assign_Name (Zs3 I hN hi hx r (fun d b=>⟨_,H,b,h⟩) hf)
def gNil:TGs:=fun vs σ H Q=>vs=[]/\Q σ H
def Xa3 (t:TG)(u:TGs):TGs:=fun vs σ H Q=>∃v r,vs=v::r/\t v σ H fun σ' H'=>u r σ' H' Q
theorem Zf9:PGs X [] gNil:=by with_unfolding_all
 intro b s a H c d Q I r h;obtain⟨e,h⟩:=h;exact assignInOrder_nil ⟨a,H,I,h⟩
theorem Zb9 {e:Expr}{es:List Expr}{t:TG}{u:TGs}(h1:PG X e t)(h2:PGs X es u)
  (hs:(ycv (e::es) X.env).map (·.2)=assign e X.env::(ycv es X.env).map (·.2):=by rfl):PGs X (e::es) (Xa3 t u):=by with_unfolding_all
 intro a s c H l n Q I r h;obtain⟨v,m,i,h⟩:=h;subst i
 cases r with
 |cons r rr =>
  rw[hs];refine assignInOrder_cons (thn (h1 a s c H _ _ _ I r h) fun _ f d=>?_);obtain⟨b,k,j,g⟩:=d;exact h2 a f b k _ _ Q j rr g
def gTup (K:W.Frag)(n:Nat)(t:TGs):TG:=fun v σ H Q=>∃a xs,v=.ref a/\SqT K H a xs/\xs.length=n/\t xs σ H Q
theorem Zo1 {es:List Expr}{k:Nat}{t:TGs}{n:Nat}(hc:X.calm=true)(h:PGs X es t)
  (hn:(ycv es X.env).length=n:=by rfl) (hst:(ycv es X.env).findIdx? (·.1)=none:=by rfl):PG X (.Tuple es k pos) (gTup X.K n t):=by with_unfolding_all
 intro c s f H v u Q I r d;obtain⟨a,g,w,m,p,d⟩:=d;subst w;cases r;obtain⟨y,i,l,z⟩:=I.tuple m;refine assign_Tuple_tuple (I.ok.hd hc) l (by simp[hn,<- p,i.length]) hst fun q j=>?_;have x:Inv X c f H { s with heap:=q }:=I.kept (t':=s.toks) fun b o e=>j b o (zv (zj e)) e;exact h c _ f H g _ Q x (by omega) d
def gSub (to ti:TE)(t:TSet):TG:=fun v σ H Q=>to σ H fun o H1=>ti σ H1 fun i H2=>t o i v H2 fun H3=>Q σ H3
theorem Xv7 {o i:Expr}{to ti:TE}{t:TSet}(ho:PE X o to)(hi:PE X i ti)(hs:PSet X t)
  (ha:∀v,assign (.Subscript o i pos) X.env v=(do
   let ov <- holding [v] (eval o X.env)
   let iv <- holding [v,ov] (eval i X.env)
   standAt pos
   holding [v,ov,iv] (setItem ov iv v)
   release [v,ov,iv] []):=by intro _;rfl):PG X (.Subscript o i pos) (gSub to ti t):=by with_unfolding_all
 intro b s c H v u Q I r h;rw[ha];refine ya (yao (thn (ho b s c H _ I h) fun ov e a=>?_));obtain⟨x,z,p,g,l⟩:=a;refine ya (yao (thn (hi b e c z _ p l) fun iv d a=>?_));obtain⟨y,w,n,f,k⟩:=a;refine ya (zbg (ya (yao (thn (hs _ d c w x y v ov iv u _ n g f r k) fun _ A a=>?_))));obtain⟨q,m,j⟩:=a;exact wpAny_release ⟨c,q,m,j⟩
def tAsg (te:TE)(g:TG):TS:=fun D σ H=>te σ H fun x H1=>g x σ H1 D.nx
theorem Zs8 {tg e:Expr}{te:TE}{g:TG}(he:PE X e te)(hg:PG X tg g)(hs:swapsWithSole [tg] e pos.line X.env=pure false:=by rfl)(hw:swappedStores [tg] e X.env=pure none:=by rfl)
  (h1:(ycv [tg] X.env).map (·.2)=[assign tg X.env]:=by rfl):PS X (.Assign [tg] e pos) (tAsg te g):=by with_unfolding_all
 intro a s b H D I h;refine wpAny_Assign_stores (thn (he a s b H _ I h) fun v s1 ⟨x,H1,I1,r1,q1⟩=>?_) hs hw;rw[h1];exact thn (hg a s1 b H1 x v _ I1 r1 q1) fun _ c q=>q
theorem Zf7 {i:Nat}{e:Expr}{te:TE}(hN:X.N.Nodup)(hi:X.N[i]?=some x)(hx:Loc X.env.scope x)(he:PE X e te)(hs:zde e (some (.Name x pos')) pos.line X.env=pure false:=by rfl)(hf:X.fn x=true∨X.env.scope.names.lookup x=some .local:=by first | exact .inl rfl | exact .inr rfl | assumption):
  PS X (.Assign [.Name x pos'] e pos) (tAsg te (Zn5 i)):=by with_unfolding_all
 intro a s b H D I h;refine wpAny_Assign_Name (thn (he a s b H _ I h) fun v s1 ⟨y,H1,I1,r1,q1⟩=>?_) hs;exact Zs3 I1 hN hi hx r1 (fun d c=>⟨_,H1,c,q1⟩) hf
end
section
variable {X:Cx}
def We9 (c:TT)(tb:TS):TS:=fun D σ H=>∃W:Nat->St->Hp->Prop,(∃m,W m σ H)/\∀m σ H,W m σ H ->
 c σ H fun b H1=>if b=true then ∃N:St->Hp->Prop,(∀σ' H',N σ' H'->∃m',m' < m/\W m' σ' H')/\tb { D with nx:=N,ct:=N,bk:=D.nx } σ H1 else D.nx σ H1
theorem Yg3 {body:List Stmt}(hp:PassesOwn (model X.prog X.w) X.A X.env X.xe)(hc:PT X c tc)(hb:PSs X body tb):PS X (.While c body [] pos) (We9 tc tb):=by with_unfolding_all
 intro d s y H D I h;obtain⟨W,⟨L,C⟩,l⟩:=h;refine wpAny_While (codeAny_whileLoop (fun n J=>∃σ' H',Inv X d σ' H' J/\W n σ' H') ?_ L ⟨y,H,I,C⟩);rintro n G ⟨e,x,M,B⟩;refine zbr hp (thn (hc d G e x _ M (l n e x B)) fun b F z=>?_);obtain⟨u,t,j⟩:=z
 cases b with
 |true =>
  obtain⟨N,r,j⟩:=j;rw[if_pos rfl];refine zbr hp (thn (hb d F e u _ t j) fun f O i=>?_)
  cases f with
  |next =>
   obtain⟨a,g,q,m⟩:=i;obtain⟨o,p,k⟩:=r a g m;exact⟨o,p,a,g,q,k⟩
  |cont =>
   obtain⟨a,g,q,m⟩:=i;obtain⟨o,p,k⟩:=r a g m;exact⟨o,p,a,g,q,k⟩
  |brk=>exact i
  |ret v=>exact i
 |false =>
  exact ycc ⟨e,u,t,j⟩
end
structure It where
 go:Nat->Hp->Prop
 yld:Nat->Hp->V->Hp->Prop
 stop:Nat->Hp->Prop
def FpOk (X:Cx)(pins:List (Addr×Obj))(H:Hp)(b:Addr):Prop :=
 H b=none/\b≠X.env.locals/\b ∉ X.fs/\(b∈X.ex∨X.s₀.heap.objs.size<=b)/\(∀x c,X.env.cells.lookup x=some c->c≠b)/\∀p∈X.pn++pins,p.1≠b
theorem Inv.fpOk {σ:St}(I:Inv X pins σ H s)(hb:s.heap.objs.size<=b)(hn:H' b=none):FpOk X pins H' b:=by
 refine⟨hn,Nat.ne_of_gt (zt I.lt hb),I.nofs hb,.inr (zi I.sz hb),fun x c e z=>?_,fun p a z=>?_⟩
 ·obtain⟨v,q⟩:=I.cell x c e
  exact absurd (zt q.lt (by simp_all)) (Nat.lt_irrefl _)
 ·exact absurd (zt (zj (I.pin p a).1) (by simp_all)) (Nat.lt_irrefl _)
structure Turn (P:zm)(w:World)(K:W.Frag)(tg:Expr)(J:It)(fp:List Addr)(it:Addr)(tn:Nat->Heap->Prop):Prop where
  mem:it∈fp
  obj:∀i h,tn i h->∀b∈fp,∃o,h.get? b=some o/\∀v,o.data≠.cell v
  keep:∀i h h',tn i h->(∀b∈fp,∀o,h.get? b=some o->h'.get? b=some o)->tn i h'
  item:∀(X:Cx),X.prog=P->X.w=w->X.K=K->X.calm=true->∀(i:Nat) (pins:List (Addr×Obj)) (s:Shared) (σ:St) (H:Hp) (E:Value->Shared->Prop),Inv X pins σ H s->(∀b∈fp,FpOk X pins H b)->tn i s.heap->J.go i H ->
    wpAny (model P w) X.A (pyNext (.ref it)) (fun r s1=>∃u,r=some u /\
      wpAny (model P w) X.A (letOwnedTupleGo tg (.ref it) u) (fun _ s2=>∃x H',Inv X pins σ H' s2/\RelV x u/\J.yld i H x H'/\tn (i+1) s2.heap/\∀b∈fp,H' b=none) E s1) E s
  done:∀(X:Cx),X.prog=P->X.w=w->X.K=K->X.calm=true->∀(i:Nat) (pins:List (Addr×Obj)) (s:Shared) (σ:St) (H:Hp) (E:Value->Shared->Prop),Inv X pins σ H s->(∀b∈fp,FpOk X pins H b)->tn i s.heap->J.stop i H ->
    wpAny (model P w) X.A (pyNext (.ref it)) (fun r s1=>r=none/\Inv X pins σ H s1) E s
  self:∀(A:Around) (i:Nat) (s:Shared) (Q:Value->Shared->Prop) (E:Value->Shared->Prop),tn i s.heap->Q (.ref it) s->wpAny (model P w) A (pyIter (.ref it)) Q E s
noncomputable abbrev TI:=St->Hp->(It->Hp->Prop)->Prop
def PIE (X:Cx)(pins:List (Addr×Obj))(σ:St)(tg:Expr)(R:It->Hp->Prop)(itv:Value)(s2:Shared):Prop :=
 ∃(it:Addr) (fp:List Addr) (tn:Nat->Heap->Prop) (J:It) (H':Hp),itv=.ref it/\Inv X pins σ H' s2/\Turn X.prog X.w X.K tg J fp it tn/\tn 0 s2.heap/\(∀b∈fp,FpOk X pins H' b)/\R J H'
@[irreducible] def PI (X:Cx)(tg iter:Expr)(wi:TI):Prop :=
 ∀(pins:List (Addr×Obj)) (s:Shared) (σ:St) (H:Hp) (R:It->Hp->Prop),Inv X pins σ H s->wi σ H R ->
  wpAny (model X.prog X.w) X.A (eval iter X.env) (fun v s1=>wpAny (model X.prog X.w) X.A (pyIter v) (PIE X pins σ tg R) X.xe s1) X.xe s
theorem Xt1 (ho:s.heap.get? it=some o)(hc:o.cls=.type n)(hd:o.data=.fields vs)(hn:["enumerate","zip","dict_itemiterator","dict_reverseitemiterator","odict_iterator","itertools.zip_longest","itertools.pairwise"].contains n=false)(hQ:Q () s):wpAny M A (letOwnedTupleGo tg (.ref it) u) Q E s:=by
  cases tg<;>first
    |exact ye hQ
    | (cases u<;>first
        |exact ye hQ
        | (refine ya (wpAny_load ho ?_)
           rw[hc,hd];show wpAny M A (if _=true then _ else _) Q E s;rw[if_neg (by intro h;rw[hn,Bool.false_and] at h;cases h)]
           exact ye hQ))
noncomputable def Itl (K:W.Frag)(a:Addr):It :=
 ⟨fun i H=>∃xs x,SqL K H a xs/\xs[i]?=some x,fun i H x H'=>H'=H/\∀xs,SqL K H a xs->xs[i]?=some x,fun i H=>∃xs,SqL K H a xs/\xs.length<=i⟩
noncomputable def Itr (lo:Int)(n:Nat):It:=⟨fun i _=>i < n,fun i H x H'=>H'=H/\x=.int (lo+i),fun i _=>n<=i⟩
theorem Xc2 (a it:Addr):Turn P w K tg (Itl K a) [it] it (fun i h=>h.IsListIter it a i) where
  mem:=by simp
  obj:=fun i h f b g=>by
    obtain⟨o,e,c,d⟩:=f
    simp_all
  keep:=fun i h z f k=>f.at fun o e=>k it (by simp) o e
  item:=by
    intro X v r y M i q s G H E I l f t;subst v r y;obtain⟨N,x,j,L⟩:=t;obtain⟨J,n,p,S⟩:=I.list j;obtain⟨u,hu,R⟩:=n.get L;obtain⟨F,D,U,C,B,A⟩:=l it (by simp);refine wpAny_pyNext_list_item f p.isList (x:=u) (by simp_all) fun z m O=>?_;have Y:Inv X _ G H { s with heap:=z }:=I.turned (fun b o g e=>(O.2 b g).trans e) F D C B A;obtain⟨o,e,c,d⟩:=id m;exact⟨u,rfl,Xt1 e c d rfl ⟨x,H,Y,R,⟨rfl,fun Z T=>by rw[I.list_inj T j];omega⟩,m,fun b g=>(l b g).1⟩⟩
  done:=by
    intro X v r y M i q s G H E I l f t;subst v r y;obtain⟨N,j,L⟩:=t;obtain⟨J,n,p,S⟩:=I.list j;obtain⟨F,D,U,C,B,A⟩:=l it (by simp);have hl:=n.length;exact wpAny_pyNext_list_end (I.ok.hd M) f p.isList (by simp_all) fun z V=>⟨rfl,I.turned (fun b o g e=>V b o g e) F D C B A⟩
  self:=fun _ _ _ _ _ f h=>wpAny_pyIter_listiter f h
theorem Yx4 (it:Addr)(lo:Int)(n:Nat):Turn P w K tg (Itr lo n) [it] it (fun i h=>IsRangeIter h it (lo+(i:Nat)*1) ((n:Int) - (i:Nat)) 1) where
  mem:=by simp
  obj:=fun i h a b c=>by
    simp_all
  keep:=fun i h m a k=>k it (by simp) _ a
  item:=by
    intro X A z B l i g s y H E I d a j;subst A z B;obtain⟨x,u,G,r,q,p⟩:=d it (by simp);have W:=Walks.range (prog:=X.prog) (w:=X.w) (I.ok.hd l) it lo 1 n;refine W.item i s _ _ j a fun v m C F f D=>?_;obtain⟨t,rfl⟩:=F;have L:Inv X _ y H { s with heap:=m,toks:=C }:=I.turned (fun b o c e=>D b o (by simp_all) e) x u r q p;refine⟨_,rfl,Xt1 f rfl rfl rfl ⟨.int _,H,L,⟨t,?_⟩,⟨rfl,rfl⟩,f,fun b c=>(d b c).1⟩⟩;simp
  done:=by
    intro X A z B l i g s y H E I d a j;obtain⟨x,u,G,r,q,p⟩:=d it (by simp);exact wpAny_pyNext_range_end (I.ok.hd l) a (by have:n<=i:=j;omega) fun m J=>⟨rfl,I.turned (fun b o c e=>J b o c e) x u r q p⟩
  self:=fun _ _ _ _ _ a h=>wpAny_pyIter_rangeiter a h
section
variable {X:Cx}{tg:Expr}
def Ym0 (K:W.Frag)(tl:TE):TI:=fun σ H R=>tl σ H fun x H1=>∃a,x=.ref a/\(∃xs,SqL K H1 a xs)/\R (Itl K a) H1
theorem Ze4 (hl:PE X l tl):PI X tg l (Ym0 X.K tl):=by with_unfolding_all
 intro f s g H R I h;refine thn (hl f s g H _ I h) fun v d i=>?_;obtain⟨x,n,c,j,k⟩:=i;obtain⟨a,e,⟨t,m⟩,q⟩:=k;subst e;cases j;obtain⟨r,u,p,w⟩:=c.list m;refine wpAny_pyIter_list p.isList ?_;refine⟨d.heap.objs.size,[d.heap.objs.size],_,_,n,rfl,c.kept fun b o e=>yb _ e,Xc2 a _,⟨_,yt _ rfl,rfl,rfl⟩,fun b y=>?_,q⟩
 have e:b=d.heap.objs.size:=by simp_all
 subst e;exact c.fpOk (by simp) (c.hok.fresh (by simp))
theorem Yt6 {σ:St}{t u v:Tok}(I:Inv X pins σ H s)(h1:-(2 ^ 62)<=lo)(h2:lo < 2 ^ 62)(h3:-(2 ^ 62)<=hi)(h4:hi < 2 ^ 62)(q:R (Itr lo (hi - lo).toNat) H):wpAny (model X.prog X.w) X.A (pyIter (.ref s.heap.objs.size)) (PIE X pins σ tg R) E { s with heap:=s.heap.push { cls:=.type "range",data:=.fields #[.int lo t,.int hi u,.int 1 v] },toks:=tk }:=by
 refine wpAny_pyIter_range (IsRange.new ..) (small_one h1 h2 h3 h4) ?_;have a:Inv X _ σ H { s with heap:=s.heap.push { cls:=.type "range",data:=.fields #[.int lo t,.int hi u,.int 1 v] },toks:=tk }:=I.kept fun b o e=>yb _ e
 refine⟨(s.heap.push { cls:=.type "range",data:=.fields #[.int lo t,.int hi u,.int 1 v] }).objs.size,[(s.heap.push { cls:=.type "range",data:=.fields #[.int lo t,.int hi u,.int 1 v] }).objs.size],_,_,H,rfl,
  a.kept fun b o e=>yb _ e,Yx4 _ lo (hi - lo).toNat,?_,fun b f=>?_,q⟩
 ·have d:lo+((0:Nat))*1=lo:=by simp
  have c:(((hi - lo).toNat):Int) - ((0:Nat))=ybw lo hi 1:=by rw[rangeSize_one];split<;>omega
  rw[d,c];exact yt _ rfl
 ·have e:b=(s.heap.push { cls:=.type "range",data:=.fields #[.int lo t,.int hi u,.int 1 v] }).objs.size:=by simp_all
  subst e;exact a.fpOk (yo _) (a.hok.fresh (yo _))
def Yl9 (ta:TA):TI:=fun σ H R=>ta σ H fun vs H1=>∃j:Int,vs=[.int j]/\-(2 ^ 62)<=j/\j < 2 ^ 62/\R (Itr 0 j.toNat) H1
def Yr5 (ta:TA):TI:=fun σ H R=>ta σ H fun vs H1=>∃i j:Int,vs=[.int i,.int j]/\(-(2 ^ 62)<=i/\i < 2 ^ 62/\-(2 ^ 62)<=j/\j < 2 ^ 62)/\R (Itr i (j - i).toNat) H1
theorem Zj1 {a:Expr}{ta:TA}{p:Pos}(hg:Gl X "range")(hm:X.mg "range"=none)(ha:PA X [a] ta)(hs:zx [a] X.env=[(false,eval a X.env)]:=by rfl):PI X tg (.Call (.Name "range" p) [a] [] pos) (Yl9 ta):=by with_unfolding_all
 intro c s d H R I h;refine Call_ (Zt7 I hg hm boot_range (zal (thn (ha pos c s d H _ I h) fun us s1 ⟨vs,H1,I1,r1,b⟩=>?_) hs rfl));obtain⟨j,e,b,f,q⟩:=b;subst e
 cases r1 with
 |cons r rr =>
  cases rr;obtain⟨t,rfl⟩:=r;exact call_range_1 (Yt6 I1 (by omega) (by omega) b f (by simp_all))
theorem Xg2 {a b:Expr}{ta:TA}{p:Pos}(hg:Gl X "range")(hm:X.mg "range"=none)(ha:PA X [a,b] ta)(hs:zx [a,b] X.env=[(false,eval a X.env),(false,eval b X.env)]:=by rfl)(hs2:zx [b] X.env=[(false,eval b X.env)]:=by rfl):
  PI X tg (.Call (.Name "range" p) [a,b] [] pos) (Yr5 ta):=by with_unfolding_all
 intro d s f H R I h;refine Call_ (Zt7 I hg hm boot_range (zal (thn (ha pos d s f H _ I h) fun us s1 ⟨vs,H1,I1,r1,c⟩=>?_) (by simp_all) (by rw[hs2];rfl)));obtain⟨i,j,e,⟨c,l,k,g⟩,q⟩:=c;subst e
 cases r1 with
 |cons r rr =>
  cases rr with
  |cons r' rr =>
   cases rr;obtain⟨t,rfl⟩:=r;obtain⟨m,rfl⟩:=r';exact call_range_2 (Yt6 I1 c l k g q)
def tFor (wi:TI)(g:TG)(tb:TS):TS:=fun D σ H=>wi σ H fun J H1=>∃W:Nat->Nat->St->Hp->Prop,(∃m,W 0 m σ H1)/\∀i m σ H,W i m σ H ->
 (J.stop i H/\D.nx σ H)∨(J.go i H/\∃N:St->Hp->Prop,(∀σ' H',N σ' H'->∃m',m' < m/\W (i+1) m' σ' H')/\∀x H',J.yld i H x H'->g x σ H' fun σ2 H2=>tb { D with nx:=N,ct:=N,bk:=D.nx } σ2 H2)
noncomputable def Yt8 (fp:List Addr)(h:Heap):List (Addr×Obj):=fp.filterMap fun b=>(h.get? b).map fun o=>(b,o)
theorem Zp6 (hb:b∈fp)(e:h.get? b=some o):(b,o)∈Yt8 fp h:=List.mem_filterMap.mpr ⟨b,hb,by simp_all⟩
theorem Xh9 {p:Addr×Obj}(hp:p∈Yt8 fp h):p.1∈fp/\h.get? p.1=some p.2:=by
 obtain⟨b,a,e⟩:=List.mem_filterMap.mp hp
 cases q:h.get? b with
 |none=>simp_all
 |some o =>
  rw[q] at e;have c  := zan e;subst c;exact⟨a,q⟩
theorem Inv.pinned {σ:St}(I:Inv X pins σ H s)(hf:∀b∈fp,FpOk X pins H b)(ho:∀b∈fp,∃o,s.heap.get? b=some o/\∀v,o.data≠.cell v):Inv X (pins++Yt8 fp s.heap) σ H s :=
 I.pins_of fun p f=>(yd.mp f).elim (fun z=>I.pin p (yw _ z)) fun z=>by
  obtain⟨a,e⟩:=Xh9 z;obtain⟨i,h,g,_⟩:=hf p.1 a;obtain⟨o,c,d⟩:=ho p.1 a;rw[e] at c;cases c;exact⟨e,i,h,g,d⟩
theorem Inv.unpinned {σ:St}(I:Inv X (pins++pl) σ H s):Inv X pins σ H s:=I.pins_of fun p a=>I.pin p (yw _ (zas _ a))
theorem Zj3 {iter:Expr}{body:List Stmt}{wi:TI}{g:TG}{tb:TS}(hp:PassesOwn (model X.prog X.w) X.A X.env X.xe)(hc:X.calm=true)(hi:PI X tg iter wi)(hg:PG X tg g)(hb:PSs X body tb)(hs:∀x,yaw iter X.env x=pure x:=by intro _;rfl):PS X (.For tg iter body [] pos) (tFor wi g tb):=by with_unfolding_all
 intro c s V H D I h;refine wpAny_For (thn (hi c s V H _ I h) fun v s1 h1=>thn h1 fun q2 s2 h2=>?_) hs;obtain⟨it,C,Y,J,H2,e,I2,T,Z,f2,W,⟨m0,w0⟩,M⟩:=h2;subst e;have t:∀{H':Hp},(∀b∈C,H' b=none)->∀b∈C,FpOk X c H' b:=fun hn b hb=>⟨hn b hb,(f2 b hb).2⟩;refine codeAny_forLoop_any (fun n s'=>∃i σ' H',Inv X c σ' H' s'/\Y i s'.heap/\(∀b∈C,H' b=none)/\W i n σ' H') ?_ m0 ⟨0,V,H2,I2,Z,fun b hb=>(f2 b hb).1,w0⟩;rintro n s3 ⟨i,l,F,I3,G,L,w3⟩;rcases M i n l F w3 with ⟨O,qn⟩ | ⟨go,N,hN,R⟩
 ·refine zbr hp (thn (T.done X rfl rfl rfl hc i _ s3 l F _ I3 (t L) G O) fun r s4 q=>?_);obtain⟨S,I4⟩:=q
  subst S;exact ycc ⟨l,F,I4,qn⟩
 ·refine zbr hp (thn (T.item X rfl rfl rfl hc i c s3 l F X.xe I3 (t L) G go) fun r s4 q=>?_);obtain⟨u,S,h4⟩:=q
  subst S;refine zbr hp (thn h4 fun _ s5 q=>?_);obtain⟨x,H5,I5,r5,y5,z,q0⟩:=q;have q1:=I5.pinned (t q0) (T.obj _ _ z);refine zbr hp (thn (hg _ s5 l H5 x u _ q1 r5 (R x H5 y5)) fun _ s6 q=>?_);obtain⟨U,H6,I6,q6⟩:=q;refine zbr hp (thn (hb _ s6 U H6 _ I6 q6) fun f s7 p=>?_)
  have y:∀{a:St} {k:Hp},Inv X (c++Yt8 C _) a k s7->N a k->∃m,m < n/\∃i σ' H',Inv X _ σ' H' s7/\Y i _/\(∀b∈C,H' b=none)/\W i m σ' H':=fun {a k} j B=>by
   obtain⟨m',hm,w7⟩:=hN a k B;refine⟨m',hm,i+1,a,k,j.unpinned,T.keep _ _ _ z fun b hb o e=>(j.pin (b,o) (yw _ (yw _ (Zp6 hb e)))).1,fun b hb=>?_,w7⟩;obtain⟨o,e,d⟩:=T.obj _ _ z b hb;exact (j.pin (b,o) (yw _ (yw _ (Zp6 hb e)))).2.1
  cases f with
  |next=>obtain⟨a,k,j,B⟩:=p;exact y j B
  |cont=>obtain⟨a,k,j,B⟩:=p;exact y j B
  |brk=>obtain⟨a,k,j,p⟩:=p;exact⟨a,k,j.unpinned,p⟩
  |ret v=>obtain⟨x7,a,k,j,r7,p⟩:=p;exact⟨x7,a,k,j.unpinned,r7,p⟩
end
theorem Zy7 {xs:List V}{g:TG}{tb:TS}{D:Ends}(Pv:Nat->St->Hp->Prop)(h0:Pv 0 σ H)(hl:∀i σ H,i<=xs.length->Pv i σ H->SqL K H a xs)(hs:∀i x σ H,xs[i]?=some x->Pv i σ H->g x σ H fun σ2 H2=>tb { D with nx:=Pv (i+1),ct:=Pv (i+1),bk:=D.nx } σ2 H2)(hd:∀σ H,Pv xs.length σ H->D.nx σ H):
  ∃W:Nat->Nat->St->Hp->Prop,(∃m,W 0 m σ H)/\∀i m σ H,W i m σ H ->
   ((Itl K a).stop i H/\D.nx σ H)∨((Itl K a).go i H/\∃N:St->Hp->Prop,(∀σ' H',N σ' H'->∃m',m' < m/\W (i+1) m' σ' H')/\∀x H',(Itl K a).yld i H x H'->g x σ H' fun σ2 H2=>tb { D with nx:=N,ct:=N,bk:=D.nx } σ2 H2):=by
 refine⟨fun i m σ H=>m=xs.length - i/\i<=xs.length/\Pv i σ H,⟨xs.length,by simp,yz _,h0⟩,?_⟩;rintro i m σ H ⟨rfl,c,p⟩;have q:=hl i σ H c p
 by_cases hlt:i < xs.length
 ·refine .inr ⟨⟨xs,xs[i],q,by simp⟩,Pv _,fun σ' H' b=>⟨xs.length - _,by omega,rfl,hlt,b⟩,fun x H' y=>?_⟩
  obtain⟨e,y⟩:=y;subst e;exact hs i x σ _ (y xs q) p
 ·have e:i=xs.length:=by omega
  subst e;exact .inl ⟨⟨xs,q,yo _⟩,hd σ H p⟩
theorem Zm1 {lo:Int}{n:Nat}{g:TG}{tb:TS}{D:Ends}(Pv:Nat->St->Hp->Prop)(h0:Pv 0 σ H)
  (hs:∀i σ H,i < n->Pv i σ H->g (.int (lo+i)) σ H fun σ2 H2=>tb { D with nx:=Pv (i+1),ct:=Pv (i+1),bk:=D.nx } σ2 H2) (hd:∀σ H,Pv n σ H->D.nx σ H) :
  ∃W:Nat->Nat->St->Hp->Prop,(∃m,W 0 m σ H)/\∀i m σ H,W i m σ H ->
   ((Itr lo n).stop i H/\D.nx σ H)∨((Itr lo n).go i H/\∃N:St->Hp->Prop,(∀σ' H',N σ' H'->∃m',m' < m/\W (i+1) m' σ' H')/\∀x H',(Itr lo n).yld i H x H'->g x σ H' fun σ2 H2=>tb { D with nx:=N,ct:=N,bk:=D.nx } σ2 H2):=by
 refine⟨fun i m σ H=>m=n - i/\i<=n/\Pv i σ H,⟨n,by simp,yz _,h0⟩,?_⟩;rintro i m σ H ⟨rfl,b,p⟩
 by_cases hlt:i < n
 ·refine .inr ⟨hlt,Pv _,fun σ' H' a=>⟨n - _,by omega,rfl,hlt,a⟩,fun x H' y=>?_⟩
  obtain⟨e,y⟩:=y
  simp_all
 ·have e:i=n:=by omega
  subst e;exact .inl ⟨yo _,hd σ H p⟩
noncomputable abbrev R2:=V->V->Hp->VK->Prop
def OpR (X:Cx)(f:Value->Value->Sem Value)(r:R2):Prop :=
 ∀(pins:List (Addr×Obj)) (s:Shared) (σ:St) (H:Hp) (x y:V) (v u:Value) (Q:VK),Inv X pins σ H s->RelV x v->RelV y u->r x y H Q ->
  wpAny (model X.prog X.w) X.A (f v u) (EP X pins σ Q) X.xe s
def UnR (X:Cx)(f:Value->Sem Value)(r:V->Hp->VK->Prop):Prop :=
 ∀(pins:List (Addr×Obj)) (s:Shared) (σ:St) (H:Hp) (x:V) (v:Value) (Q:VK),Inv X pins σ H s->RelV x v->r x H Q ->
  wpAny (model X.prog X.w) X.A (f v) (EP X pins σ Q) X.xe s
def Zv6 (X:Cx)(f:Value)(r:List V->Hp->VK->Prop):Prop :=
 ∀(pins:List (Addr×Obj)) (s:Shared) (σ:St) (H:Hp) (xs:List V) (us:List Value) (Q:VK),Inv X pins σ H s->Vals xs us->r xs H Q ->
  wpAny (model X.prog X.w) X.A (call f us) (EP X pins σ Q) X.xe s
def TruR (X:Cx)(r:V->Hp->(Bool->Hp->Prop)->Prop):Prop :=
 ∀(pins:List (Addr×Obj)) (s:Shared) (σ:St) (H:Hp) (x:V) (v:Value) (Q:Bool->Hp->Prop),Inv X pins σ H s->RelV x v->r x H Q ->
  wpAny (model X.prog X.w) X.A (truthy v) (TP X pins σ Q) X.xe s
def tOp (r:R2)(ta tb:TE):TE:=fun σ H Q=>ta σ H fun x H1=>tb σ H1 fun y H2=>r x y H2 Q
def tUn (r:V->Hp->VK->Prop)(ta:TE):TE:=fun σ H Q=>ta σ H fun x H1=>r x H1 Q
def rI (C:Int->Int->Prop)(g:Int->Int->V):R2:=fun x y H Q=>∃i j,x=.int i/\y=.int j/\C i j/\Q (g i j) H
def rI0 (g:Int->Int->V):R2:=fun x y H Q=>∃i j,x=.int i/\y=.int j/\Q (g i j) H
def rU (g:Int->V):V->Hp->VK->Prop:=fun x H Q=>∃i,x=.int i/\Q (g i) H
section
variable {X:Cx}{a b c:Expr}{ta tb tc:TE}
theorem binT (ha:PE X a ta)(hb:PE X b tb){σ:St}{R:V->V->Hp->Prop}(I:Inv X pins σ H s)(h:ta σ H fun x H1=>tb σ H1 fun y H2=>R x y H2){f:Value->Value->Sem Value}(hf:∀v u s2 x y H2,Inv X pins σ H2 s2->RelV x v->RelV y u->R x y H2->wpAny (model X.prog X.w) X.A (f v u) Q X.xe s2):
  wpAny (model X.prog X.w) X.A (eval a X.env) (fun v s₁=>wpAny (model X.prog X.w) X.A (eval b X.env) (fun u s₂=>wpAny (model X.prog X.w) X.A (f v u) Q X.xe s₂) X.xe s₁) X.xe s:=by with_unfolding_all
 refine thn (ha pins s σ H _ I h) fun v d c=>?_;obtain⟨x,H1,l,g,j⟩:=c;refine thn (hb pins d σ H1 _ l j) fun u s2 c=>?_;obtain⟨y,H2,k,e,i⟩:=c;exact hf v u s2 x y H2 k g e i
theorem Zb0 {op:Operator}(ho:OpR X (zbx op) r)(ha:PE X a ta)(hb:PE X b tb):PE X (.BinOp a op b pos) (tOp r ta tb):=by with_unfolding_all
 intro g s c H Q I h;exact wpAny_BinOp (binT ha hb I h fun v u d x y j i f e q=>ho _ d c j x y v u Q i f e q)
theorem Yq0 {op:UnaryOp}(ho:UnR X (unaryOp op) r)(ha:PE X a ta):PE X (.UnaryOp op a pos) (tUn r ta):=by with_unfolding_all
 intro b s c H Q I h;exact UnaryOp_ (thn (ha b s c H _ I h) fun v s1 zZ=>by obtain⟨x,H1,I1,r1,q1⟩:=zZ;exact ho b s1 c H1 x v Q I1 r1 q1)
theorem opI {f:Value->Value->Sem Value}{C:Int->Int->Prop}{g:Int->Int->Int}
  (rule:∀(i j:Int) (t u:Tok) (s:Shared) (Q:Value->Shared->Prop) (E:Value->Shared->Prop),C i j->Q (.int (g i j) s.toks) { s with toks:=s.toks+1 }->wpAny (model X.prog X.w) X.A (f (.int i t) (.int j u)) Q E s) :
  OpR X f (rI C fun i j=>.int (g i j)):=by
 intro d s k H x y v u Q I c b h;obtain⟨i,j,rfl,rfl,e,q⟩:=h;obtain⟨t,rfl⟩:=c;obtain⟨a,rfl⟩:=b;exact rule i j t a s _ _ e ⟨.int _,H,I.tok _,⟨_,rfl⟩,q⟩
theorem opI0 {f:Value->Value->Sem Value}{g:Int->Int->Int}
  (rule:∀(i j:Int) (t u:Tok) (s:Shared) (Q:Value->Shared->Prop) (E:Value->Shared->Prop),Q (.int (g i j) s.toks) { s with toks:=s.toks+1 }->wpAny (model X.prog X.w) X.A (f (.int i t) (.int j u)) Q E s) :
  OpR X f (rI0 fun i j=>.int (g i j)):=by
 intro d s e H x y v u Q I c b h;obtain⟨i,j,rfl,rfl,q⟩:=h;obtain⟨t,rfl⟩:=c;obtain⟨a,rfl⟩:=b;exact rule i j t a s _ _ ⟨.int _,H,I.tok _,⟨_,rfl⟩,q⟩
theorem opB0 {f:Value->Value->Sem Value}{g:Int->Int->Bool}
  (rule:∀(i j:Int) (t u:Tok) (s:Shared) (Q:Value->Shared->Prop) (E:Value->Shared->Prop),Q (.bool (g i j)) s->wpAny (model X.prog X.w) X.A (f (.int i t) (.int j u)) Q E s) :
  OpR X f (rI0 fun i j=>.bl (g i j)):=by
 intro d s e H x y v u Q I c b h;obtain⟨i,j,rfl,rfl,q⟩:=h;obtain⟨t,rfl⟩:=c;obtain⟨a,rfl⟩:=b;exact rule i j t a s _ _ ⟨.bl _,H,I,rfl,q⟩
def CDiv (i j:Int):Prop:=0 < j/\j < 1073741824
def CPow (i j:Int):Prop:=0<=j/\j<=1000000/\i.natAbs < 2 ^ 64
def CMul (i j:Int):Prop:=(-(2 ^ 64) < i/\i < 2 ^ 64)∨(-(2 ^ 64) < j/\j < 2 ^ 64)
theorem CMul.ok {i j:Int}(h:CMul i j):IntMulOk i j:=by
 rcases h with ⟨b,a⟩ | ⟨b,a⟩
 ·exact .of_left (intBits_le_64 b a)
 ·exact .of_right (intBits_le_64 b a)
theorem Wj2:OpR X (zbx .Add) (rI0 fun i j=>.int (i+j)):=opI0 fun _ _ _ _ _ _ _ q=>add_int q
theorem Wi6:OpR X (zbx .Sub) (rI0 fun i j=>.int (i - j)):=opI0 fun _ _ _ _ _ _ _ q=>sub_int q
theorem Wi8:OpR X (zbx .Mult) (rI CMul fun i j=>.int (i*j)):=opI fun _ _ _ _ _ _ _ a q=>mul_int q a.ok
theorem Wa3:OpR X (zbx .FloorDiv) (rI CDiv fun i j=>.int (i / j)):=opI fun i j _ _ _ _ _ a q=>by
 have c:(0:Int) < j:=a.1;have b:j < 1073741824:=a.2;exact floordiv_int (by omega) (by rw[Int.fdiv_eq_ediv_of_nonneg i (by omega)];exact q) (.inl (PyProof.noPylong_small (by omega)))
theorem Wi9:OpR X (zbx .Mod) (rI (fun _ j=>0 < j) fun i j=>.int (i % j)):=opI fun i j _ _ _ _ _ a q=>by
 have b:(0:Int) < j:=a;exact mod_int' (by omega) (by rw[Int.fmod_eq_emod_of_nonneg i (by omega)];exact q)
theorem Wi7:OpR X (zbx .LShift) (rI CPow fun i j=>.int (i*2 ^ j.toNat)):=opI fun _ _ _ _ _ _ _ a q=>lshift_int_small a.1 a.2.1 a.2.2 q
theorem unI {f:Value->Sem Value}{g:Int->Int}
  (rule:∀(i:Int) (t:Tok) (s:Shared) (Q:Value->Shared->Prop) (E:Value->Shared->Prop),Q (.int (g i) s.toks) { s with toks:=s.toks+1 }->wpAny (model X.prog X.w) X.A (f (.int i t)) Q E s) :
  UnR X f (rU fun i=>.int (g i)):=by
 intro b s c H x v Q I a h;obtain⟨i,rfl,q⟩:=h;obtain⟨t,rfl⟩:=a;exact rule i t s _ _ ⟨.int _,H,I.tok _,⟨_,rfl⟩,q⟩
theorem Zz6:UnR X (unaryOp .USub) (rU fun i=>.int (-i)):=unI fun _ _ _ _ _ q=>neg_int q
end
noncomputable def scal:V->V->Bool
 | .non,.non=>true | .non,.int _=>true | .int _,.non=>true | .non,.bl _=>true | .bl _,.non=>true | .non,.str _=>true | .str _,.non=>true
 | .int _,.int _=>true | .bl _,.bl _=>true | .str _,.str _=>true | .byt _,.byt _=>true
 | .int _,.str _=>true | .str _,.int _=>true | .bl _,.str _=>true | .str _,.bl _=>true
 | _,_=>false
def rEq:R2:=fun x y H Q=>scal x y=true/\Q (.bl (decide (x=y))) H
def rNe:R2:=fun x y H Q=>scal x y=true/\Q (.bl (!decide (x=y))) H
theorem Xl8 {i j:Int}:decide (V.int i=V.int j)=(i == j):=by
 rw[Bool.eq_iff_iff];simp
theorem Xx0 {i j:Bool}:decide (V.bl i=V.bl j)=(i == j):=by
 rw[Bool.eq_iff_iff];simp
theorem Xl7 {i j:Str}:decide (V.str i=V.str j)=(i == j):=by
 rw[Bool.eq_iff_iff];simp
theorem Xl9 {i j:Array UInt8}:decide (V.byt i=V.byt j)=(i.toList == j.toList):=by
 rw[Bool.eq_iff_iff];simp
section
variable {X:Cx}{a b c:Expr}{ta tb tc:TE}
theorem Ze5 {σ:St}(I:Inv X pins σ H s)(q:Q (.bl k) H)(e:k=k'):EP X pins σ Q (.bool k') s:=by
 subst e;exact⟨.bl k,H,I,rfl,q⟩
theorem Wt4:OpR X (yaj .Eq) rEq:=by
 intro e s f H x y v u Q I d a h;obtain⟨c,q⟩:=h
 cases x with
 |non =>
  cases d
  cases y with
  |non=>cases a;exact PySem.EqNone.eq_none_none (Ze5 I q (by simp))
  |bl j=>cases a;exact PySem.EqNone.eq_none_bool (Ze5 I q (by simp))
  |int j=>obtain⟨b,rfl⟩:=a;exact PySem.EqNone.eq_none_int (Ze5 I q (by simp))
  |str j=>obtain⟨b,rfl⟩:=a;exact PySem.EqNone.eq_none_str (Ze5 I q (by simp))
  | _=>exact absurd (show false=true from c) zg
 |bl i =>
  cases d
  cases y with
  |non=>cases a;exact PySem.EqNone.eq_bool_none (Ze5 I q (by simp))
  |bl j=>cases a;exact eq_bool (Ze5 I q Xx0)
  |str j=>obtain⟨b,rfl⟩:=a;exact PySem.EqMixed.eq_bool_str (Ze5 I q (by simp))
  | _=>exact absurd (show false=true from c) zg
 |int i =>
  obtain⟨t,rfl⟩:=d
  cases y with
  |non=>cases a;exact PySem.EqNone.eq_int_none (Ze5 I q (by simp))
  |int j=>obtain⟨b,rfl⟩:=a;exact eq_int (Ze5 I q Xl8)
  |str j=>obtain⟨b,rfl⟩:=a;exact PySem.EqMixed.eq_int_str (Ze5 I q (by simp))
  | _=>exact absurd (show false=true from c) zg
 |str i =>
  obtain⟨t,rfl⟩:=d
  cases y with
  |non=>cases a;exact PySem.EqNone.eq_str_none (Ze5 I q (by simp))
  |bl j=>cases a;exact PySem.EqMixed.eq_str_bool (Ze5 I q (by simp))
  |int j=>obtain⟨b,rfl⟩:=a;exact PySem.EqMixed.eq_str_int (Ze5 I q (by simp))
  |str j=>obtain⟨b,rfl⟩:=a;exact eq_str (Ze5 I q Xl7)
  | _=>exact absurd (c) zg
 |byt i =>
  obtain⟨t,rfl⟩:=d
  cases y with
  |byt j=>obtain⟨b,rfl⟩:=a;exact W.eq_bytes (Ze5 I q Xl9)
  | _=>exact absurd (c) zg
 | _=>cases y<;>exact absurd (c) zg
theorem Yd0:OpR X (yaj .NotEq) rNe:=by
 intro e s f H x y v u Q I d a h;obtain⟨c,q⟩:=h
 cases x with
 |non =>
  cases d
  cases y with
  |non=>cases a;exact PySem.EqNone.ne_none_none (Ze5 I q (by simp))
  |bl j=>cases a;exact PySem.EqNone.ne_none_bool (Ze5 I q (by simp))
  |int j=>obtain⟨b,rfl⟩:=a;exact PySem.EqNone.ne_none_int (Ze5 I q (by simp))
  |str j=>obtain⟨b,rfl⟩:=a;exact PySem.EqNone.ne_none_str (Ze5 I q (by simp))
  | _=>exact absurd (show false=true from c) zg
 |bl i =>
  cases d
  cases y with
  |non=>cases a;exact PySem.EqNone.ne_bool_none (Ze5 I q (by simp))
  |bl j=>cases a;exact ne_bool (Ze5 I q (congrArg not Xx0))
  |str j=>obtain⟨b,rfl⟩:=a;exact PySem.EqMixed.ne_bool_str (Ze5 I q (by simp))
  | _=>exact absurd (show false=true from c) zg
 |int i =>
  obtain⟨t,rfl⟩:=d
  cases y with
  |non=>cases a;exact PySem.EqNone.ne_int_none (Ze5 I q (by simp))
  |int j=>obtain⟨b,rfl⟩:=a;exact ne_int (Ze5 I q (congrArg not Xl8))
  |str j=>obtain⟨b,rfl⟩:=a;exact PySem.EqMixed.ne_int_str (Ze5 I q (by simp))
  | _=>exact absurd (show false=true from c) zg
 |str i =>
  obtain⟨t,rfl⟩:=d
  cases y with
  |non=>cases a;exact PySem.EqNone.ne_str_none (Ze5 I q (by simp))
  |bl j=>cases a;exact PySem.EqMixed.ne_str_bool (Ze5 I q (by simp))
  |int j=>obtain⟨b,rfl⟩:=a;exact PySem.EqMixed.ne_str_int (Ze5 I q (by simp))
  |str j=>obtain⟨b,rfl⟩:=a;exact ne_str (Ze5 I q (congrArg not Xl7))
  | _=>exact absurd (c) zg
 |byt i =>
  obtain⟨t,rfl⟩:=d
  cases y with
  |byt j=>obtain⟨b,rfl⟩:=a;exact W.ne_bytes (Ze5 I q (congrArg not Xl9))
  | _=>exact absurd (c) zg
 | _=>cases y<;>exact absurd (c) zg
theorem Wt1:OpR X (yaj .Lt) (rI0 fun i j=>.bl (decide (i < j))):=opB0 fun _ _ _ _ _ _ _ q=>lt_int q
theorem Wt2:OpR X (yaj .LtE) (rI0 fun i j=>.bl (decide (i<=j))):=opB0 fun _ _ _ _ _ _ _ q=>le_int q
theorem Wt3:OpR X (yaj .Gt) (rI0 fun i j=>.bl (decide (j < i))):=opB0 fun _ _ _ _ _ _ _ q=>gt_int q
theorem Xh5:OpR X (yaj .Lt) (fun x y H Q=>∃i j,x=.str i/\y=.str j/\Q (.bl (decide (i.cps.toList < j.cps.toList))) H):=by
 intro c s d H x y v u Q I b a h;obtain⟨i,j,rfl,rfl,q⟩:=h;obtain⟨t,rfl⟩:=b;obtain⟨e,rfl⟩:=a;exact lt_str (Ze5 I q rfl)
theorem Yd7:OpR X (yaj .Is) (fun x y H Q=>y=.non/\Q (.bl (decide (x=.non))) H):=by
 intro c s d H x y v u Q I b a h;obtain⟨rfl,q⟩:=h;cases a;refine is_none_gen (Ze5 I q ?_)
 cases x<;>first
  | (rfl)
  | (obtain⟨t,rfl⟩:=b;rfl)
theorem Xh3:OpR X (yaj .IsNot) (fun x y H Q=>y=.non/\Q (.bl (!decide (x=.non))) H):=by
 intro c s d H x y v u Q I b a h;obtain⟨rfl,q⟩:=h;cases a;refine isnot_none_gen (Ze5 I q ?_)
 cases x<;>first
  | (rfl)
  | (obtain⟨t,rfl⟩:=b;rfl)
theorem Zo5 (b:Expr)(h:op≠.In:=by decide)(h2:op≠.NotIn:=by decide):zcr op b=false:=by
 have c:(op == CmpOp.In)=false:=by grind
 have a:(op == CmpOp.NotIn)=false:=by grind
 cases b<;>simp[zcr,c,a]
theorem Zm5 (ho:OpR X (yaj op) r)(ha:PE X a ta)(hb:PE X b tb)(hm:zcr op b=false):PE X (.Compare a [op] [b] pos) (tOp r ta tb):=by with_unfolding_all
 intro g s c H Q I h;exact wpAny_Compare1 (binT ha hb I h fun v u d x y j i f e q=>ho _ d c j x y v u Q i f e q) hm
def Zz9 (t:TE):TT:=fun σ H Q=>t σ H fun x H'=>∃k,x=.bl k/\Q k H'
theorem Yp8 (ho:OpR X (yaj op) r)(ha:PE X a ta)(hb:PE X b tb)(hm:zcr op b=false):PT X (.Compare a [op] [b] pos) (Zz9 (tOp r ta tb)):=by with_unfolding_all
 intro d s f H Q I h
 refine wpAny_isTrue_Compare1 (thn (ha d s f H _ I h) fun v s1 ⟨x,H1,I1,r1,q1⟩=>thn (hb d s1 f H1 _ I1 q1) fun u s2 ⟨y,H2,I2,r2,q2⟩ =>
  thn (ho d s2 f H2 x y v u _ I2 r1 r2 q2) fun c s3 ⟨z,H3,I3,r3,k,e,q3⟩=>?_) hm
 subst e;cases r3;exact zaw ⟨H3,I3,q3⟩
def Ya1 (r r':R2)(ta tb tc:TE):TE:=fun σ H Q=>ta σ H fun x H1=>tb σ H1 fun y H2=>r x y H2 fun z H3=>∃k,z=.bl k /\
 (if k=true then tc σ H3 fun w' H4=>r' y w' H4 Q else Q (.bl false) H3)
theorem Xr6 {op':CmpOp}{r r':R2}(ho:OpR X (yaj op) r)(ho':OpR X (yaj op') r')(ha:PE X a ta)(hb:PE X b tb)(hc:PE X c tc)(hm:lastMarks [op,op'] [b,c]=false:=by with_unfolding_all rfl):PE X (.Compare a [op,op'] [b,c] pos) (Ya1 r r' ta tb tc):=by with_unfolding_all
 intro f s g H Q I h
 refine Compare_chain (thn (ha f s g H _ I h) fun v s1 ⟨x,H1,I1,r1,q1⟩=>chain_link (thn (hb f s1 g H1 _ I1 q1) fun u s2 ⟨y,H2,I2,r2,q2⟩ =>
  thn (ho f s2 g H2 x y v u _ I2 r1 r2 q2) fun d s3 ⟨z,H3,I3,r3,k,e,q3⟩=>?_)) hm
 subst e;cases r3;refine zaw ?_
 cases k with
 |false=>exact ite_ff ⟨.bl _,H3,I3,rfl,q3⟩
 |true=>exact ite_tt (chain_last (thn (hc f s3 g H3 _ I3 q3) fun w' s4 zZ=>by obtain⟨z',H4,I4,r4,q4⟩:=zZ;exact ho' f s4 g H4 y z' u w' Q I4 r2 r4 q4))
def TruV (K:W.Frag)(x:V)(H:Hp)(k:Bool):Prop :=
 match x with
 | .non=>k=false
 | .bl b=>k=b
 | .int i=>k=(i != 0)
 | .str y=>y.length<=zp/\k=((y.length:Int) != 0)
 | .byt y=>y.size<=zp/\k=((y.size:Int) != 0)
 | .ref p=>(∃xs,SqL K H p xs/\k=!xs.isEmpty)∨(∃xs,SqT K H p xs/\k=!xs.isEmpty)∨∃kvs,H p=some (.dK kvs)/\k=!kvs.isEmpty
 | _=>False
theorem Yz9 {vs:List (κ×Value)}(r:KV kvs vs):(!vs.isEmpty)=!kvs.isEmpty:=by
 cases r<;>rfl
theorem Ye4 (r:Vals xs its):(!its.toArray.isEmpty)=!xs.isEmpty:=by
 cases r<;>simp
theorem Ye1:(zp:Nat) < 2 ^ 63:=by decide
theorem We6:TruR X (fun x H Q=>∃k,TruV X.K x H k/\Q k H):=by
 intro u s A H x v Q I c h;obtain⟨k,e,q⟩:=h;have C:=Ye1;have B:zp=16777216:=sizeLine_eq
 cases x with
 |non =>
  cases c;have a:k=false:=e;subst a;exact truthy_none ⟨H,I,q⟩
 |bl b =>
  cases c;have a:k=b:=e;subst a;exact zaw ⟨H,I,q⟩
 |int i =>
  obtain⟨t,rfl⟩:=c;have a  := e;subst a;exact PySem.P.truthy_int ⟨H,I,q⟩
 |str y =>
  obtain⟨t,rfl⟩:=c;obtain⟨w,a⟩:y.length<=zp/\k=_:=e;subst a;exact PySem.P.truthy_str (by omega) ⟨H,I.tok _,q⟩
 |byt y =>
  obtain⟨t,rfl⟩:=c;obtain⟨w,a⟩:y.size<=zp/\k=_:=e;subst a;exact W.truthy_bytes (by omega) ⟨H,I.tok _,q⟩
 |ref p =>
  cases c;have a  := e;rcases a with ⟨o,d,a⟩ | ⟨o,d,a⟩ | ⟨g,d,a⟩
  ·subst a
   obtain⟨l,r,j,n⟩:=I.list d;have f:=r.length;exact wpAny_truthy_list j.isList (by simp only[zce];omega) ⟨H,I.tok _,by rw[Ye4 r];exact q⟩
  ·subst a
   obtain⟨l,r,j,n⟩:=I.tuple d;have f:=r.length;exact truthy_tuple j (by simp only[zce];omega) ⟨H,I.tok _,by rw[Ye4 r];exact q⟩
  ·subst a
   obtain⟨n,z,vs,r,m⟩:g.length<=zp/\_=false/\∃vs,KV g vs/\s.heap.DictOf _ p vs:=I.hok p _ d;have f  := zc r;exact wpAny_truthy_dict z m (by omega) ⟨H,I.tok _,by rw[Yz9 r];exact q⟩
 | _=>exact (e).elim
theorem Zs7 (ha:PE X a ta)(he:∀whole,isTrue a X.env whole=(do let v <- whole;standAt a.pos;holding [v] (truthy v))) :
  PT X a (fun σ H Q=>ta σ H fun x H'=>∃k,TruV X.K x H' k/\Q k H'):=by with_unfolding_all
 intro b s σ H Q I h;exact isTrue_plain (thn (ha b s σ H _ I h) fun v s1 zZ=>by obtain⟨x,H1,I1,r1,q1⟩:=zZ;exact We6 b s1 σ H1 x v Q I1 r1 q1) (he _)
theorem Yd8:OpR X (zbx .Add) (fun x y H Q=>∃i j,x=.str i/\y=.str j/\i.length+j.length<=zp/\Q (.str (i++j)) H):=by
 intro d s f H x y v u Q I c b h;obtain⟨i,j,rfl,rfl,e,q⟩:=h;obtain⟨t,rfl⟩:=c;obtain⟨a,rfl⟩:=b;exact add_str (fun a g=>⟨.str _,H,I.tok _,⟨_,rfl⟩,q⟩) e
theorem Yn9 {x:V}(r:Vals [x] us):∃u,us=[u]/\RelV x u:=by
 cases r with
 |cons r1 r2=>cases r2;exact⟨_,rfl,r1⟩
theorem Xp1 {x y:V}(r:Vals [x,y] us):∃u w',us=[u,w']/\RelV x u/\RelV y w':=by
 cases r with
 |cons r1 r2 =>
  cases r2 with
  |cons r3 r4=>cases r4;exact⟨_,_,rfl,r1,r3⟩
theorem Xn4 (hc:X.calm=true):Zv6 X (.builtin "min") (fun xs H Q=>∃i j,xs=[.int i,.int j]/\Q (.int (if j < i then j else i)) H):=by
 intro a s b H xs d Q I r h;obtain⟨i,j,rfl,q⟩:=h;obtain⟨u,c,rfl,⟨t,rfl⟩,⟨f,rfl⟩⟩:=Xp1 r;refine min_two_ints (I.ok.hd hc) fun g e k=>⟨_,H,I.kept k,?_,q⟩
 by_cases hj:j < i
 ·rw[if_pos hj,if_pos hj];exact⟨_,rfl⟩
 ·rw[if_neg hj,if_neg hj];exact⟨_,rfl⟩
end
structure ObjM (h:Heap)(x dx C:Addr)(mA:Str->Option Value):Prop where
 obj:h.get? x=some (W.instObj C dx)
 ns:h.Ns1 dx mA
 ne:dx≠x
theorem Xj1 (n:h.Ns1 dx mA):∃od,h.get? dx=some od/\∀name,W.lookIn name od=some (mA name):=by
 obtain⟨o,j,k,d,i,g,_,f⟩:=n;refine⟨o,d,fun name=>?_⟩;have e:=f name;unfold nsFind findBy at e;unfold W.lookIn;rw[i];dsimp only
 split
 ·simp_all
 ·have a:j.toList.any (·.refKey)=false:=by
   rw[List.any_eq_false];intro y c;obtain⟨z,t,b⟩:=g y (Array.mem_toList_iff.mp c);simp[ydf.refKey,b]
  grind
theorem ObjM.look {x dx:Addr}(I:ObjM h x dx C mA):∃od,W.InstAt h x (W.instObj C dx) C (some od)/\∀name,W.lookIn name od=some (mA name) :=
 let ⟨od,ho,hl⟩:=Xj1 I.ns
 ⟨od,⟨I.obj,rfl,rfl,ho⟩,hl⟩
theorem RelO.some_of {v:V}{o:Option Value}(r:RelO (some v) o):∃u,o=some u/\RelV v u:=by
 cases o with
 |none=>exact (r).elim
 |some u=>exact⟨u,rfl,r⟩
section
variable {P:zm}{w:World}{H H':Hp}{dx:Addr}{fs fs':List (Str×V)}
theorem Wb8 (hok:HOk P w H h)(e:H a=some (.ins C dx fs)):∃mA,ObjM h a dx C mA/\(∀f,RelO (fs.lookup f) (mA f))/\PySem.Within mA (fs.map (·.1))/\fs.length<=1000/\H dx=some (.own a):=by
 obtain⟨d,z,c,b,mA,n,r,q⟩:=(show ObjOk P w H h a _ from hok a _ e);exact⟨mA,⟨b,n,c⟩,r,q,z,d⟩
end
structure Cls (K:W.Frag)(C:Addr):Prop where
 pg:W.plainGet K C ybr=true
 hd:W.hasDictIn K C=true
 po:W.plainOver K C=true
 sa:W.findIn K (.ref C) "__setattr__"=some (some (.builtin "object.__setattr__"))
theorem Cls.get (c:Cls K C)(f:Str):W.plainGet K C f=true:=c.pg
section
variable {X:Cx}{σ:St}{H:Hp}{E:Value->Shared->Prop}{Q:Value->Shared->Prop}{c:Value}{b:Bool}
inductive TyOf (K:W.Frag)(H:Hp):V->Value->Prop where
 |non:TyOf K H .non (.type "NoneType")
 |bl (x:Bool):TyOf K H (.bl x) (.type "bool")
 |int (i:Int):TyOf K H (.int i) (.type "int")
 |str (x:Str):TyOf K H (.str x) (.type "str")
 |flt (x:UInt64):TyOf K H (.flt x) (.type "float")
 |lst {a:Addr} {xs:List V} (e:H a=some (.lst xs)):TyOf K H (.ref a) (.type "list")
 |frz {a:Addr} {o:Obj} {xs:List V} (e:H a=some (.frz o (.lst xs))):TyOf K H (.ref a) (.type "list")
 |tup {a:Addr} {xs:List V} (e:H a=some (.tup xs)):TyOf K H (.ref a) (.type "tuple")
 |dK {a:Addr} {kvs:List (Key×V)} (e:H a=some (.dK kvs)):TyOf K H (.ref a) (.type "dict")
 |dT {a:Addr} {kvs:List (List Key×V)} (e:H a=some (.dT kvs)):TyOf K H (.ref a) (.type "dict")
 |ins {a C dx:Addr} {fs:List (Str×V)} (e:H a=some (.ins C dx fs)) (cl:Cls K C) (ha:W.findIn K (.ref C) "__class__"=some (some (.builtin "object.__class__")))
   (hn:W.specialIn K (.builtin "object.__class__") "__get__"=some (some (.builtin "getset_descriptor.__get__"))) (htk:W.takesIn K (.builtin "object.__class__")=some true)
   (hm:W.mroIn K C (.type "object")=some true):TyOf K H (.ref a) (.ref C)
theorem Xk5 {x:V}(I:Inv X pins σ H s)(rx:RelV x u)(ty:TyOf X.K H x t)(e:W.kitOne X.K t c=some b)(h:∀tk,Q (.bool b) { s with toks:=tk }):
  wpAny (model X.prog X.w) A (call (.builtin "isinstance") [u,c]) Q E s:=by
 cases ty with
 |non=>cases (rx);exact yca W.kitx_none I.kIn yce e (by simp) h
 |bl y=>cases (rx);exact yca W.kitx_bool I.kIn yce e (by simp) h
 |int i=>obtain⟨t,q⟩:=(rx);cases q;exact yca W.kitx_int I.kIn yce e (by simp) h
 |str y=>obtain⟨t,q⟩:=(rx);cases q;exact yca W.kitx_str I.kIn yce e (by simp) h
 |flt y=>obtain⟨t,q⟩:=(rx);cases q;exact yca W.kitx_float I.kIn yce e (by simp) h
 |@lst a g ea =>
  cases (rx);obtain⟨_,_,n,_,d⟩:=(show ObjOk _ X.w H _ a _ from I.hok a _ ea);exact yca W.kitx_list I.kIn ⟨_,d,rfl⟩ e (by simp) h
 |@frz a ob g ea =>
  cases (rx);obtain⟨_,_,_,n,_,d⟩:=(show ObjOk _ X.w H _ a _ from I.hok a _ ea);exact yca W.kitx_list I.kIn ⟨_,d,rfl⟩ e (by simp) h
 |@tup a g ea =>
  cases (rx);obtain⟨_,_,_,p⟩:=(show ObjOk _ X.w H _ a _ from I.hok a _ ea);obtain⟨o,d,f,_⟩:=p;exact yca W.kitx_tuple I.kIn ⟨o,d,f⟩ e (by simp) h
 |@dK a kvs ea =>
  cases (rx);obtain⟨_,_,l,_,p⟩:=(show ObjOk _ X.w H _ a _ from I.hok a _ ea);obtain⟨o,j,k,d,f,_⟩:=p;exact yca W.kitx_dict I.kIn ⟨o,d,f.1⟩ e (by simp) h
 |@dT a kvs ea =>
  cases (rx);obtain⟨_,_,g,_,o,j,k,d,f,_⟩:=(show ObjOk _ X.w H _ a _ from I.hok a _ ea);exact yca W.kitx_dict I.kIn ⟨o,d,f.1⟩ e (by simp) h
 |@ins a C dx fs ea cl ha hn htk hm =>
  cases (rx);obtain⟨r,O,_⟩:=Wb8 I.hok ea;obtain⟨m,J,_⟩:=O.look;exact yca (W.kitx_own (cl.get _) cl.hd ha hn htk hm) I.kIn J e (by simp) h
end
structure Room (k:Nat)(A:Around):Prop where
 hd:A.handled=none
 dp:A.depth+3*k+5 < recursionLimit
 un:A.units+16*k+200 < cLine
theorem Room.mono (r:Room k A)(h:j<=k):Room j A:=⟨r.hd,by have:=r.dp;omega,by have:=r.un;omega⟩
theorem Room.deeper (r:Room (k+1) A)(env:Env):Room k (A.deeper env) :=
 ⟨r.hd,by have:=r.dp;show A.depth+1+3*k+5 < _;omega,by have:=r.un;show A.units+3+16*k+200 < _;omega⟩
theorem Yz3 :(A.under (.builtin "type.__call__" ⟨.ref C::us,kw⟩)).depth=A.depth+1:=by rfl
theorem Yz2 :(A.under (.builtin "type.__call__" ⟨.ref C::us,kw⟩)).units=A.units+1:=by rfl
theorem Room.make (r:Room (k+1) A)(C:Addr)(us:List Value)(kw:List (Str×Value)):Room k (A.under (.builtin "type.__call__" ⟨.ref C::us,kw⟩)) :=
 ⟨r.hd,by have:=r.dp;rw[Yz3];omega,by have:=r.un;rw[Yz2];omega⟩
theorem Room.depth (r:Room k A):A.depth < recursionLimit:=by have:=r.dp;omega
theorem Room.units (r:Room k A):A.units+64 < cLine:=by have:=r.un;omega
def tNil:TA:=fun _ H Q=>Q [] H
def Yf5 (ta:TE)(tr:TA):TA:=fun σ H Q=>ta σ H fun x H1=>tr σ H1 fun xs H2=>Q (x::xs) H2
section
variable {X:Cx}{e:Expr}{es:List Expr}{te:TE}{t:TA}
theorem Za3:PA X [] tNil:=by with_unfolding_all exact (fun _ _ _ _ H Q I h=>Calls.spliced_nil ⟨[],H,I,.nil,h⟩)
theorem Za0 (ha:PE X e te)(hr:PA X es t)(hs:zx (e::es) X.env=(false,eval e X.env)::zx es X.env:=by rfl):PA X (e::es) (Yf5 te t):=by with_unfolding_all
 intro b a s c H Q I h;rw[hs];show wpAny _ _ (spliced ((false,eval e X.env)::backTo b (zx es X.env))) _ _ s;refine Calls.spliced_cons (thn (ha a s c H _ I h) fun u f d=>?_);obtain⟨x,k,j,g,i⟩:=d;exact thn (hr b a f c k _ j i) fun us s2 zZ=>(by obtain⟨xs,H2,I2,r2,q2⟩:=zZ;exact ⟨x::xs,H2,I2,.cons g r2,q2⟩)
def tTup (t:TA):TE:=fun σ H Q=>t σ H fun xs H1=>xs.length<=zp/\∀p,H1 p=none->Q (.ref p) (upd H1 p (.tup xs))
def tLst (t:TA):TE:=fun σ H Q=>t σ H fun xs H1=>xs.length<=zp/\∀p,H1 p=none->Q (.ref p) (upd H1 p (.lst xs))
theorem Zc0 (h:PA X es t):PE X (.Tuple es x1 pos) (tTup t):=by with_unfolding_all
 intro a s c H Q I d;refine wpAny_Tuple_spliced (thn (h pos a s c H _ I d) fun us s1 ⟨xs,H1,I1,r,z,q⟩=>⟨by rw[<- r.length];exact z,?_⟩);have f:H1 s1.heap.objs.size=none:=I1.hok.fresh (by simp);refine⟨.ref _,upd H1 _ _,I1.laid (fun b u e=>yb _ e) (by simp) ?_,rfl,q _ f⟩;exact⟨z,us,r,⟨_,yt _ rfl,rfl,_,rfl⟩⟩
theorem Zb7 (h:PA X es t):PE X (.List es pos) (tLst t):=by with_unfolding_all
 intro a s c H Q I d;refine wpAny_List_spliced (thn (h pos a s c H _ I d) fun us s1 ⟨xs,H1,I1,r,z,q⟩=>⟨by rw[<- r.length];exact z,?_⟩);have f:H1 s1.heap.objs.size=none:=I1.hok.fresh (by simp);refine⟨.ref _,upd H1 _ _,I1.laid (fun b u e=>yb _ e) (by simp) ?_,rfl,q _ f⟩;exact⟨z,us,0,r,yt _ rfl⟩
end
noncomputable abbrev Sp:=List V->Hp->VK->XK->Prop
noncomputable abbrev CXT:=List Env->Hp->Shared->XK->Value->Shared->Prop
structure Env0 (P:zm)(w:World)(K:W.Frag)(mg:Str->Option Value)(base:Heap)(A:Around)(outer:List Env)(s:Shared)(H:Hp):Prop where
 frames:A.frames=some outer
 mod:Mod K mg base
 bs:∀b o,base.get? b=some o->s.heap.get? b=some o/\H b=none
 bsz:base.objs.size<=s.heap.objs.size
 funs:s.heap.FunFrames base outer
 frf:∀b∈frs outer,H b=none
 hok:HOk P w H s.heap
 bare:ydn s.gens
def CE (outer:List Env)(P:zm)(w:World)(H:Hp)(s:Shared)(Q:VK)(u:Value)(s':Shared):Prop :=
 ∃v H',s'.os=s.os/\ydn s'.gens/\Un (frs outer) [] H H' s.heap s'.heap/\HOk P w H' s'.heap/\RelV v u/\Q v H'
def CR (CX:CXT)(outer:List Env)(P:zm)(w:World)(H:Hp)(s:Shared)(Q:VK)(E:XK)(r:Result)(s':Shared):Prop :=
 match r with
 | .ok (.ret u)=>CE outer P w H s Q u s'
 | .ok _=>False
 | .error e=>CX outer H s E e s'
structure FnOk (P:zm)(w:World)(K:W.Frag)(mg:Str->Option Value)(base:Heap)(CX:CXT)(k:Nat)(f:Addr)(fd:yq)(ps:List Str)(sp:Sp):Prop where
 len:∀vs H Q E,sp vs H Q E->vs.length=ps.length
 run:∀(A:Around) (outer:List Env) (s:Shared) (H:Hp) (args:Args) (us:List Value) (vs:List V) (Q:VK) (E:XK),Room k A->Env0 P w K mg base A outer s H->BindsTo s fd args (ps.zip us)->Vals vs us->sp vs H Q E ->
  yde (model P w) A (.call (.ref f) args) (CR CX outer P w H s Q E) s
theorem FnOk.mono (F:FnOk P w K mg base CX j f fd ps sp)(h:j<=k):
  FnOk P w K mg base CX k f fd ps sp:=⟨F.len,fun A a s H e c b Q E d=>F.run A _ s H _ c b Q E (d.mono h)⟩
theorem Env0.make (e:Env0 P w K mg base A outer s H)(C:Addr)(us:List Value)(kw:List (Str×Value)):
  Env0 P w K mg base (A.under (.builtin "type.__call__" ⟨.ref C::us,kw⟩)) outer s H:=⟨by first | exact e.frames | (simpa [Code.isFrame] using e.frames),e.mod,e.bs,e.bsz,e.funs,e.frf,e.hok,e.bare⟩
section
variable {X:Cx}{σ:St}{H:Hp}
theorem Inv.env0 (I:Inv X pins σ H s):Env0 X.prog X.w X.K X.mg X.base X.A X.stack s H :=
 ⟨I.ok.frames,I.ok.mod,I.bs,zi I.ok.bsz I.sz,I.stack,I.stkFree,I.hok,I.bare⟩
theorem Inv.after (I:Inv X pins σ H s)(h:CE X.stack X.prog X.w H s Q u s'):EP X pins σ Q u s':=by
 obtain⟨v,i,os,a,f,e,r,q⟩:=h;obtain⟨j,g,d,t,c⟩:=s';obtain rfl:c=s.os:=os;exact⟨v,i,I.call f e a fun b z=>absurd z (by simp),r,q⟩
end
def Ya4 (sp:Sp)(dvs:List V)(E:XK)(t:TA):TE:=fun σ H Q=>t σ H fun vs H1=>sp (vs++dvs) H1 Q E
def Binds (K:W.Frag)(fd:yq)(ps:List Str)(ds:List Value):Prop :=
 ∀(s:Shared) (us:List Value),K.In s.heap->(us++ds).length=ps.length->BindsTo s fd ⟨us,[]⟩ (ps.zip (us++ds))
theorem Binds.all (h:∀us:List Value,us.length=ps.length->ydc fd ⟨us,[]⟩=pure (ps.zip us)):Binds K fd ps []:=fun s us _ a=>by
 rw[yaa] at a ⊢;exact .of_eq (h us a)
def Yx1 (CX:CXT)(X:Cx)(E:XK):Prop:=∀(pins:List (Addr×Obj)) (σ:St) (H:Hp) (s:Shared) (e:Value) (s':Shared),Inv X pins σ H s->CX X.stack H s E e s'->X.xe e s'
section
variable {X:Cx}{CX:CXT}{k:Nat}{fd:yq}{sp:Sp}{dvs:List V}{ds:List Value}{E:XK}{m:Str}{p:Pos}{e o:Expr}{es:List Expr}{ta:TE}{t:TA}
theorem Xv2 {σ:St}(F:FnOk X.prog X.w X.K X.mg X.base CX k f fd ps sp)(hr:Room k X.A)(hb:Binds X.K fd ps ds)(hd:Vals dvs ds)(hx:Yx1 CX X E)(I:Inv X pins σ H s)(r:Vals vs us)(h:sp (vs++dvs) H Q E):wpAny (model X.prog X.w) X.A (call (.ref f) us) (EP X pins σ Q) X.xe s:=by
 have a  := r.append hd
 have d:(us++ds).length=ps.length:=by rw[<- a.length];exact F.len _ _ _ _ h
 refine wpAny_call (ycy (F.run X.A _ s H ⟨us,[]⟩ _ _ Q E hr I.env0 (hb s us I.kIn d) a h) fun r c b=>?_)
 cases r with
 |error e=>exact hx _ σ H s e c I b
 |ok fl =>
  cases fl with
  |ret u=>exact I.after b
  |next=>assumption
  |brk=>assumption
  |cont=>assumption
theorem Xg7 (F:FnOk X.prog X.w X.K X.mg X.base CX k f fd ps sp)(hr:Room k X.A)(hg:Gl X x)(hm:X.mg x=some (.ref f))(hk:ybd X.K (.ref f)=true)(hb:Binds X.K fd ps ds)(hd:Vals dvs ds)(hx:Yx1 CX X E)
  (ha:PA X (e::es) t) (hdb:(x == ("__debug__":Str))=false:=by decide) (he:zx (e::es) X.env=(false,eval e X.env)::zx es X.env:=by rfl) (hpl:(backTo pos (zx es X.env)).any (·.1)=false:=by rfl) :
  PE X (.Call (.Name x p) (e::es) [] pos) (Ya4 sp dvs E t):=by with_unfolding_all
 intro a s b H Q I h;refine zbn (Zl3 I hg hm ?_ hdb);refine W.callWith_K (h₀:=X.base) I.ok.mod.kin hk (thn (ha pos a s b H _ I h) fun us s1 ⟨vs,H1,I1,r,q⟩=>⟨I1.kIn,?_⟩) he hpl;exact Xv2 F hr hb hd hx I1 r q
end
structure FnScope (N P:List Str)(sc:Scope):Prop where
 kind:sc.kind=.function
 co:sc.isCoroutine=false
 gen:sc.isGenerator=false
 nd:N.Nodup
 pre:N.take P.length=P
 par:∀x∈P,sc.names.lookup x=some .local∨sc.names.lookup x=some .cell
 nofree:∀y∈sc.names,y.2≠.free
theorem Yn1 {kindOf:Str->Option zcn}:∀{binds:List (Str×Value)} {m:Str->Option Value},(∀v,(x,v) ∉ binds)->bindL kindOf binds m x=m x
 | [],_,_=>rfl
 | (n,v)::r,m,h=>by
  unfold bindL;rw[Yn1 fun w hw=>h w (yn _ hw)]
  split
  ·grind
  ·rfl
theorem Yn3 {kindOf:Str->Option zcn}:∀{binds:List (Str×Value)} {m:Str->Option Value},(∀v,(x,v) ∉ binds)->bindC kindOf binds m x=m x
 | [],_,_=>rfl
 | (n,v)::r,m,h=>by
  unfold bindC;rw[Yn3 fun w hw=>h w (yn _ hw)]
  split
  ·rfl
  grind
theorem Yn2 {kindOf:Str->Option zcn}:∀{P:List Str} {vs:List Value} {i:Nat} {m:Str->Option Value},P.Nodup->P[i]?=some x->vs[i]?=some v->kindOf x=some .local ->
  bindL kindOf (P.zip vs) m x=some v
 | [],_,_,_,_,h,_,_=>by simp at h
 | _::_,[],_,_,_,_,h,_=>by simp at h
 |p::P,w::vs,0,m,nd,h1,h2,hk=>by
  simp at h1 h2;subst h1 h2;show bindL _ ((p,w)::P.zip vs) m p=_;unfold bindL;rw[Yn1 fun v hv=>(yaq.mp nd).1 (ycr hv).1,if_pos hk];simp
 |p::P,w::vs,i+1,m,nd,h1,h2,hk=>by
  show bindL _ ((p,w)::P.zip vs) m x=_;exact Yn2 (yaq.mp nd).2 (by assumption) (by assumption) hk
theorem Yn4 {kindOf:Str->Option zcn}:∀{P:List Str} {vs:List Value} {i:Nat} {m:Str->Option Value},P.Nodup->P[i]?=some x->vs[i]?=some v->kindOf x≠some .local ->
  bindC kindOf (P.zip vs) m x=some v
 | [],_,_,_,_,h,_,_=>by simp at h
 | _::_,[],_,_,_,_,h,_=>by simp at h
 |p::P,w::vs,0,m,nd,h1,h2,hk=>by
  simp at h1 h2;subst h1 h2;show bindC _ ((p,w)::P.zip vs) m p=_;unfold bindC;rw[Yn3 fun v hv=>(yaq.mp nd).1 (ycr hv).1,if_neg hk];simp
 |p::P,w::vs,i+1,m,nd,h1,h2,hk=>by
  show bindC _ ((p,w)::P.zip vs) m x=_;exact Yn4 (yaq.mp nd).2 (by assumption) (by assumption) hk
noncomputable def start (N:List Str)(vs:List V):St:=vs.map some++yy (N.length - vs.length) none
noncomputable def cxOf (CX:CXT)(P:zm)(w:World)(K:W.Frag)(mg:Str->Option Value)(base:Heap)(N:List Str)(qual:Str)(scope:Scope)(f:Addr)(cd:Value)(A:Around)(outer:List Env)(s:Shared)(H:Hp)(E:XK):Cx where
 prog:=P
 w:=w
 K:=K
 mg:=mg
 base:=base
 A:=A.deeper (envOfC qual scope s.heap.objs.size f cd)
 N:=N
 s₀:=s
 H₀:=H
 env:=envOfC qual scope s.heap.objs.size f cd
 outer:=outer
 stack:=envOfC qual scope s.heap.objs.size f cd::outer
 ex:=[]
 calm:=true
 fn:=fun _=>true
 pn:=[]
 xe:=fun e s'=>wpAny (model P w) (A.deeper (envOfC qual scope s.heap.objs.size f cd)) (leaving (envOfC qual scope s.heap.objs.size f cd) e) (fun _ s''=>CX outer H s E e s'') (fun e' s''=>CX outer H s E e' s'') s'
theorem Zz1 {sc:Scope}(h:sc.names.lookup x=some .cell):∃c,(cellsFrom n sc.names []).lookup x=some c:=by
 have q:=W.cellsFrom_some _ n [] (.inl h);exact zbs.mp q
theorem Xk9 (S:FnScope N ps scope)(hd:A.handled=none)(e0:Env0 P w K mg base A outer s H)(hl:vs.length=ps.length)(r:Vals vs us)(x:InCallC s s.heap.objs.size (bindL (envOfC qual scope s.heap.objs.size f cd).kindOf (ps.zip us) fun _=>none) (cellsFrom (s.heap.objs.size+1) scope.names []) (bindC (envOfC qual scope s.heap.objs.size f cd).kindOf (ps.zip us) fun _=>none) s1):
  Inv (cxOf CX P w K mg base N qual scope f cd A outer s H E) [] (start N vs) H s1:=by
 have D:ps.length<=N.length:=by have:=congrArg List.length S.pre;rw[zq] at this;omega
 obtain⟨l,F,rfl,o⟩:=x.done;have d:∀b:Addr,b ∉ (cxOf CX P w K mg base N qual scope f cd A outer s H E).ex:=fun b z=>absurd (show b∈([]:List _) from z) (by simp)
 refine⟨⟨e0.mod,S.kind,rfl,rfl,yo _,fun y z c l a=>?_,fun y g=>?_,fun y c _ h=>?_,fun _=>hd,Around.frames_deeper e0.frames,.inr ⟨rfl,rfl⟩,fun b z=>absurd z (d b),e0.bs,e0.bsz,fun b _ _=>d b,fun b z=>absurd z (d b),e0.funs,e0.frf⟩,
  rfl,e0.bare,Un.kept o,⟨_,x.toInCall.ns,fun i y v l a G=>?_⟩,fun y c h=>⟨_,x.cell y c h⟩,e0.hok.fresh (yo _),fun y c h=>?_,fun p j=>absurd (show p∈([]:List _) from j) (by simp),e0.hok.kept o,?_⟩
 ·exact name_of_addr x.apart (zak l) (zak a)
 ·rcases g with g | g
  ·exact Zz1 g
  ·exact absurd rfl (S.nofree _ (zak g))
 ·exact zk (x.above y c (zak h))
 ·have t:i < vs.length:=by
   unfold start at a
   by_cases t:i < vs.length
   ·omega
   ·rw[yah (by simpa using t)] at a
    rw[ybx] at a
    simp_all
  have C:vs[i]?=some v:=by
   unfold start at a;rw[zz (by simp_all),zy] at a
   simp_all
  obtain⟨u,n,B⟩:=r.get C
  have j:ps[i]?=some y:=by
   rw[<- S.pre,List.getElem?_take_of_lt (by omega)];exact l
  have m:ps.Nodup:=by rw[<- S.pre];exact S.nd.sublist (List.take_sublist _ _)
  refine⟨u,B,?_⟩;rcases S.par y (yc j) with k | k
  ·exact .inl ⟨k,Yn2 m j n k⟩
  ·obtain⟨c,e⟩:=Zz1 k
   refine .inr ⟨.inl k,c,e,?_⟩;have q:=x.cell y c e;rw[Yn4 m j n (by show scope.names.lookup y≠_;simp_all)] at q;exact q
 ·exact e0.hok.fresh (zk (x.above y c (zak h)))
 ·unfold start
  show _=N.length
  simp_all
theorem fn_of {body:List Stmt}{dV kV cdv:Value}(lk:K.lookup f=some ⟨oc,od,.func (W.fnOf name qual params body scope dV kV doc pm an cdv ct),osl⟩)(hcd:ycn K cdv qual=true)(S:FnScope N ps scope)(len:∀vs H Q E,sp vs H Q E->vs.length=ps.length) (hbody:∀(A:Around) (outer:List Env) (s:Shared) (H:Hp) (vs:List V) (Q:VK) (E:XK),Room k (A.deeper (envOfC qual scope s.heap.objs.size f cdv))->sp vs H Q E ->
   ∃t,PSs (cxOf CX P w K mg base N qual scope f cdv A outer s H E) body t/\t { nx:=fun _ H'=>Q .non H',rt:=Q } (start N vs) H):
  FnOk P w K mg base CX (k+1) f (W.fnOf name qual params body scope dV kV doc pm an cdv ct) ps sp:=by with_unfolding_all
 refine⟨len,fun A outer s H M z vs Q E l d G r h=>?_⟩;have D:=len _ _ _ _ h;have p:K.In s.heap:=d.mod.kin.keeps fun b o e=>(d.bs b o e).1;have m:s.heap.NoLimit:=d.mod.nolimit.keeps fun b o e=>(d.bs b o e).1
 have g:∀y∈ps.zip z,scope.names.lookup y.1=some .local∨(scope.names.lookup y.1=some .cell/\((cellsFrom (s.heap.objs.size+1) scope.names []).lookup y.1).isSome=true):=fun⟨n,v⟩ hy=>by
  rcases S.par n (ycr hy).1 with q | q
  ·exact .inl q
  ·exact .inr ⟨q,W.cellsFrom_some _ _ _ (.inl q)⟩
 refine codeAny_call_function l.depth (p _ _ lk) rfl S.co S.gen rfl (W.codeRec_of p hcd) (G _ _ _ _ ?_);refine wpAny_newFunctionEnv_cells S.kind g fun O F s1 x=>?_;subst F;refine⟨m.keeps x.toInCall.keep,codeAny_func ?_⟩;obtain⟨t,B,C⟩:=hbody A outer s H vs Q E (l.deeper _) h;have I:Inv (cxOf CX P w K mg base N qual scope f cdv A outer s H E) [] (start N vs) H s1:=Xk9 S l.hd d D r x;refine yat (B [] s1 (start N vs) H _ I C) (fun L s' c=>?_) fun e s' c=>c
 have i:∀{a:St} {H':Hp} {v:V} {u:Value},Inv (cxOf CX P w K mg base N qual scope f cdv A outer s H E) [] a H' s'->RelV v u->Q v H'->CE _ P w H s Q u s' :=
  fun {a H' v u} J j q=>⟨v,H',J.os,J.bare,J.base,J.hok,j,q⟩
 cases L with
 |ret u =>
  obtain⟨v,a,H',J,j,q⟩:=c;exact i J j q
 |next =>
  obtain⟨a,H',J,q⟩:=c;exact i (v:=V.non) J rfl q
 |brk =>
  obtain⟨_,_,_,q⟩:=c
  simp_all
 |cont =>
  obtain⟨_,_,_,q⟩:=c
  simp_all
section
variable {X:Cx}{p:Pos}{e:Expr}{es:List Expr}{t:TA}{id T:String}{r:List V->Hp->VK->Prop}
def tCB (r:List V->Hp->VK->Prop)(t:TA):TE:=fun σ H Q=>t σ H fun vs H1=>r vs H1 Q
theorem Zc1 (hc:Zv6 X (.builtin id) r)(hg:Gl X x)(hm:X.mg x=none)(hv:yav x=some (.builtin id))(ha:PA X (e::es) t)(hn:x≠"__name__":=by decide)(hdb:(x == ("__debug__":Str))=false:=by decide)
  (he:zx (e::es) X.env=(false,eval e X.env)::zx es X.env:=by rfl) (hpl:(backTo pos (zx es X.env)).any (·.1)=false:=by rfl):PE X (.Call (.Name x p) (e::es) [] pos) (tCB r t):=by with_unfolding_all
 intro a s b H Q I h;refine zbn (Zt7 I hg hm hv ?_ hn hdb);exact PyProof.Rows.callWith_builtin1 (thn (ha pos a s b H _ I h) fun us s1 zZ=>by obtain⟨vs,H1,I1,r1,q1⟩:=zZ;exact hc a s1 b H1 vs us Q I1 r1 q1) he hpl
theorem Zg4 (hc:Zv6 X (.type T) r)(hg:Gl X x)(hm:X.mg x=none)(hv:yav x=some (.type T))(ha:PA X (e::es) t)(hn:x≠"__name__":=by decide)(hdb:(x == ("__debug__":Str))=false:=by decide)
  (he:zx (e::es) X.env=(false,eval e X.env)::zx es X.env:=by rfl) (hpl:(backTo pos (zx es X.env)).any (·.1)=false:=by rfl):PE X (.Call (.Name x p) (e::es) [] pos) (tCB r t):=by with_unfolding_all
 intro a s b H Q I h;refine zbn (Zt7 I hg hm hv ?_ hn hdb);exact zal (thn (ha pos a s b H _ I h) fun us s1 zZ=>by obtain⟨vs,H1,I1,r1,q1⟩:=zZ;exact hc a s1 b H1 vs us Q I1 r1 q1) he hpl
end
end L2
variable {CX:L2.CXT}{D:L2.Ends}{H H' H'' H0 H1 H2:L2.Hp}{X Y:L2.Cx}{frv vs xs ys:List L2.V}{g:L2.TG}{gv ov:L2.V}{kvs:List (List L2.Key×L2.V)}{r:L2.R2}{sp:L2.Sp}{ta tb te:L2.TE}{wi:L2.TI}{σ σ0:L2.St}
namespace HT
open PySem PyProof.Rows
section
variable {prog:zm}{w:World}{E:Value->Shared->Prop}
noncomputable def sIx (n d:Nat):Option Int->Nat
 |none=>d
 |some v=>if v < 0 then (v+(n:Int)).toNat else min v.toNat n
theorem Xn2 (v:Int)(n d:Nat):(if v < 0 then max (v+(n:Int)) 0 else min v (n:Int))=((sIx n d (some v):Nat):Int):=by
 show _=(((if v < 0 then (v+n).toNat else min _ n):Nat):Int)
 by_cases hv:v < 0
 ·simp_all
 ·simp[if_neg hv];omega
theorem Xb1 (lo hi:Option Int)(n:Nat):zdj lo hi 1 (n:Int)=(((sIx n 0 lo:Nat):Int),((sIx n n hi:Nat):Int)):=by
 refine Prod.ext ?_ ?_
 ·cases lo with
  |none=>rfl
  |some v=>exact Xn2 v n 0
 ·cases hi with
  |none=>rfl
  |some v=>exact Xn2 v n n
theorem Yy4 (i j:Nat):ybp (i:Int) (j:Int) 1=j - i:=by
 unfold ybp
 split<;>omega
theorem Yd4 {o:Option Int}(p:IsPart v o)(h:Q o s):wpAny (model prog w) A (Builtin.Slice.slicePartIndex v) Q E s:=by
 cases p with
 |none=>exact slicePart_none h
 |int i t=>exact slicePart_int h
theorem Zx2 {sl:Addr}{lo hi:Option Int}{Q:Int×Int×Nat->Shared->Prop}(hs:s.heap.IsSliceOf sl vl vu .none)(pl:IsPart vl lo)(pu:IsPart vu hi)
  (h:Q (((sIx n 0 lo:Nat):Int),1,sIx n n hi - sIx n 0 lo) s):wpAny (model prog w) A (Builtin.Slice.sliceApplied (.ref sl) (pure (n:Int))) Q E s:=by
 obtain⟨d,a,c,b⟩:=id hs;refine ya (ya (yco a b rfl (ya (yco a b rfl (ya (yco a b rfl (ye ?_)))))));refine ya (slicePart_none ?_);refine ya (Yd4 pl (ya (Yd4 pu (ya (ye ?_)))));show wpAny _ _ (match zdj lo hi 1 _ with | (lo,hi)=>pure (lo,_,ybp lo hi 1)) _ _ s;rw[Xb1 lo hi n];show wpAny _ _ (pure (_,_,ybp _ _ 1)) _ _ s;rw[Yy4];exact ye h
theorem Xr3 (xs:Array Value)(i k:Nat):((yac k).filterMap fun (m:Nat)=>xs[((i:Int)+(m:Int)*1).toNat]?).toArray=((xs.toList.drop i).take k).toArray:=by
 have e:(fun (m:Nat)=>xs[((i:Int)+m*1).toNat]?)=fun m=>xs[i+m]?:=by
  funext m
  have:((i:Int)+m*1).toNat=i+m:=by omega
  rw[this]
 have:=pick_run xs i k;have a:(_ ∘ fun x=>i+x)=fun m=>xs[i+m]?:=rfl
 simp_all
theorem getItem_tuple_cut {t sl:Addr}{lo hi:Option Int}(ht:IsTup s.heap t items)(hs:s.heap.IsSliceOf sl vl vu .none)(pl:IsPart vl lo)(pu:IsPart vu hi)
  (hw:¬(sIx items.size 0 lo=0/\sIx items.size items.size hi=items.size))
  (h:Q (.ref s.heap.objs.size) { s with heap:=s.heap.push { cls:=.type "tuple",data:=.seq ((items.toList.drop (sIx items.size 0 lo)).take (sIx items.size items.size hi - sIx items.size 0 lo)).toArray } })
  (hsz:items.size<=zp):wpAny (model prog w) A (getItem (.ref t) (.ref sl)) Q E s:=by
 have a:sizeOk (.seq ((items.toList.drop (sIx items.size 0 lo)).take (sIx items.size items.size hi - sIx items.size 0 lo)).toArray):=by
  show ((items.toList.drop _).take _).toArray.size<=zp;rw[zce,zq,yae,zcp];omega
 obtain⟨f,b,d,g⟩:=id hs;have e:s.TypeIs (.ref sl) "slice":=⟨f,b,d⟩;unfold getItem
 try with_reducible refine yao ?_
 refine ya (wpAny_sequenceKey ht.typeIs rfl ?_)
 refine ya (wpAny_callSpecial?_slot ht.typeIs ybs
  (ybl ybs ht.typeIs entry_tuple_getitem ?_ (args_tuple_getitem _ _)))
 show wpAny _ _ (Builtin.Tuple.tupleItemsOf _ >>= _) _ _ s;refine ya (tupleItemsOf_ ht (ya (wpAny_typeOf e ?_)));refine ya (Zx2 hs pl pu ?_)
 have c:¬((((sIx items.size 0 lo):Int) == 0&&(1:Int) == 1&&sIx items.size items.size hi - sIx items.size 0 lo == items.size)=true):=by
  simp_all
 show wpAny _ _ (if _=true then _ else _) _ _ s;rw[if_neg c,Xr3]
 first
  |exact ya (yal (ye ⟨_,rfl,ye h⟩) a)
  |exact ya _
  |exact ya _
  |exact ya _
end
end HT
namespace L2
open PySem PySem.Spec PyProof.Rows
noncomputable abbrev TO:=St->Hp->(Option Int->Hp->Prop)->Prop
def PO (X:Cx)(e:Option Expr)(t:TO):Prop :=
 ∀(pins:List (Addr×Obj)) (s:Shared) (σ:St) (H:Hp) (Q:Option Int->Hp->Prop),Inv X pins σ H s->t σ H Q ->
  wpAny (model X.prog X.w) X.A (evalPart e X.env) (fun u s'=>∃o H',Inv X pins σ H' s'/\IsPart u o/\Q o H') X.xe s
noncomputable def Zr0:TO:=fun _ H Q=>Q none H
noncomputable def Yo1 (t:TE):TO:=fun σ H Q=>t σ H fun x H1=>∃i,x=.int i/\Q (some i) H1
section
variable {e:Expr}{lo hi:Option Expr}{tl th:TO}{p2:Pos}
theorem Zg3:PO X none Zr0:=by
 intro a s b H Q I h;exact ye ⟨none,H,I,.none,h⟩
theorem Zg2 (h:PE X e te):PO X (some e) (Yo1 te):=by with_unfolding_all
 intro a s b H Q I g;rw[evalPart_some];refine thn (h a s b H _ I g) fun u l c=>?_;obtain⟨x,k,j,d,f⟩:=c;obtain⟨i,rfl,q⟩:=f;obtain⟨t,rfl⟩:=d;exact⟨some i,k,j,.int i t,q⟩
def SlR (X:Cx)(r:V->Option Int->Option Int->Hp->VK->Prop):Prop :=
 ∀(pins:List (Addr×Obj)) (s:Shared) (σ:St) (H:Hp) (x:V) (v vl vu:Value) (lo hi:Option Int) (sl:Addr) (Q:VK),Inv X pins σ H s->RelV x v->s.heap.IsSliceOf sl vl vu .none->IsPart vl lo->IsPart vu hi->r x lo hi H Q ->
  ∃T id,typeLookup (.type T) "__getitem__"=pure (some (.builtin id))/\s.TypeIs v T/\wpAny (model X.prog X.w) X.A (getItem v (.ref sl)) (EP X pins σ Q) X.xe s
def tSl (r:V->Option Int->Option Int->Hp->VK->Prop)(te:TE)(tl th:TO):TE:=fun σ H Q=>te σ H fun x H1=>tl σ H1 fun l H2=>th σ H2 fun u H3=>r x l u H3 Q
theorem Ze8 {r:V->Option Int->Option Int->Hp->VK->Prop}(hr:SlR X r)(he:PE X e te)(hl:PO X lo tl)(hu:PO X hi th):PE X (.Subscript e (.Slice lo hi none p2) pos) (tSl r te tl th):=by with_unfolding_all
 intro g s a H Q I h;refine Subscript_ (thn (he g s a H _ I h) fun v j d=>?_);obtain⟨x,B,A,k,n⟩:=d;refine wpAny_Slice (thn (hl _ j a B _ A n) fun vl s2 ⟨l,H2,I2,pl,q2⟩=>thn (hu _ s2 a H2 _ I2 q2) fun f c d=>?_);obtain⟨u,i,z,o,m⟩:=d;refine ye ?_;have y:Inv X _ a i { c with heap:=c.heap.push { cls:=.type "slice",data:=.fields #[vl,f,.none] } }:=z.kept fun b C q=>yb _ q;obtain⟨T,id,w,p,t⟩:=hr _ { c with heap:=c.heap.push { cls:=.type "slice",data:=.fields #[vl,f,.none] } } a i x v vl f l u _ Q y k (Heap.IsSliceOf.new ..) pl o m;exact tail_any (ops:=[.ref _,v]) p w t rfl
noncomputable def cutV (xs:List V)(lo hi:Option Int):List V:=(xs.drop (HT.sIx xs.length 0 lo)).take (HT.sIx xs.length xs.length hi - HT.sIx xs.length 0 lo)
theorem Yc3 (xs:List V)(lo hi:Option Int):(cutV xs lo hi).length<=xs.length:=by
 unfold cutV;rw[zq,yae];omega
def rSlT (K:W.Frag):V->Option Int->Option Int->Hp->VK->Prop:=fun x lo hi H Q=>∃a xs,x=.ref a/\SqT K H a xs /\
 ¬(HT.sIx xs.length 0 lo=0/\HT.sIx xs.length xs.length hi=xs.length)/\∀p,H p=none->Q (.ref p) (upd H p (.tup (cutV xs lo hi)))
theorem Xv0:SlR X (rSlT X.K):=by
 intro k s u H x v y w l t z Q I g p j i h;obtain⟨a,d,rfl,n,B,q⟩:=h;cases g;obtain⟨e,r,f,m⟩:=I.tuple n
 have c:e.toArray.size=d.length:=by exact r.length.symm
 refine⟨"tuple",_,ybs.lookup,f.typeIs,?_⟩;refine HT.getItem_tuple_cut f p j i (by rw[c];omega) ?_ (by simp[*]);rw[c];refine⟨.ref _,_,I.laid (o:=.tup _) (fun b A q=>yb _ q) (by simp) ?_,rfl,q _ (I.hok.fresh (by simp))⟩;exact⟨zi (Yc3 d l t) m,_,(r.drop _).take _,IsTup.new _ _⟩
end
noncomputable def ixN (n:Nat)(i:Int):Option Nat:=if 0<=i then (if i < n then some i.toNat else none) else if -(n:Int)<=i then some (i+n).toNat else none
noncomputable def atI {α:Type}(xs:List α)(i:Int):Option α:=(ixN xs.length i).bind fun j=>xs[j]?
theorem Xk3 {i:Int}(h:ixN n i=some j):seqIndex? i n=some j/\j < n/\-(n:Int)<=i/\i < n:=by
 unfold ixN at h
 by_cases h0:0<=i
 ·rw[if_pos h0] at h
  by_cases h1:i < n
  ·rw[if_pos h1] at h
   have e  := zan h;exact⟨by rw[seqIndex_of h0 h1,e],by omega,by omega,h1⟩
  simp_all
 ·rw[if_neg h0] at h
  by_cases h1:-n<=i
  ·rw[if_pos h1] at h
   have e  := zan h;exact⟨by rw[seqIndex_neg (by omega) h1,e],by omega,h1,by omega⟩
  simp_all
theorem Ys2 {xs:List α}{i:Int}{v:α}(h:atI xs i=some v):∃j,seqIndex? i xs.length=some j/\xs[j]?=some v/\j < xs.length/\-(xs.length:Int)<=i/\i < xs.length:=by
 unfold atI at h
 cases e:ixN xs.length i with
 |none=>simp_all
 |some j =>
  rw[e] at h;obtain⟨d,c,b,a⟩:=Xk3 e;exact⟨j,d,h,c,b,a⟩
theorem Zd3 {xs:List α}{v:α}(h:xs[j]?=some v):atI xs (j:Int)=some v:=by
 have a  := (ze.mp h).1
 have e:ixN xs.length j=some j:=by
  unfold ixN
  simp_all
 unfold atI;rw[e];exact h
def Yc5 (b:Expr):Prop:=∀o i,subscripted b false o i=operate [o,i] (getItem o i)
def IxR (X:Cx)(r:R2):Prop :=
 ∀(value slice:Expr) (pins:List (Addr×Obj)) (s:Shared) (σ:St) (H:Hp) (x y:V) (v u:Value) (Q:VK),Inv X pins σ H s->RelV x v->RelV y u->r x y H Q ->
  subscripted slice false v u=operate [v,u] (getItem v u)->wpAny (model X.prog X.w) X.A (subscriptTail value slice v u) (EP X pins σ Q) X.xe s
def MtR (X:Cx)(id:String)(r:V->List V->Hp->VK->Prop):Prop :=
 ∀(pins:List (Addr×Obj)) (s:Shared) (σ:St) (H:Hp) (x:V) (xs:List V) (v:Value) (us:List Value) (Q:VK),Inv X pins σ H s->RelV x v->Vals xs us->r x xs H Q ->
  wpAny (model X.prog X.w) X.A (call (.builtin id) (v::us)) (EP X pins σ Q) X.xe s
section
variable {a b:Expr}
theorem Zn4 (hr:IxR X r)(ha:PE X a ta)(hb:PE X b tb)(hs:Yc5 b):PE X (.Subscript a b pos) (tOp r ta tb):=by with_unfolding_all
 intro g s c H Q I h;exact Subscript_ (binT ha hb I h fun v u d x y j i f e q=>hr a b _ d c j x y v u Q i f e q (hs _ _))
def rIxL (K:W.Frag):R2:=fun x y H Q=>∃p xs i v,x=.ref p/\y=.int i/\SqL K H p xs/\atI xs i=some v/\Q v H
def rIxT (K:W.Frag):R2:=fun x y H Q=>∃p xs i v,x=.ref p/\y=.int i/\SqT K H p xs/\atI xs i=some v/\Q v H
def rIxS:R2:=fun x y H Q=>∃z i c,x=.str z/\y=.int i/\z.length<=zp/\atI z.cps.toList i=some c/\Q (.str ⟨#[c]⟩) H
theorem Xk2:IxR X (rIxL X.K):=by
 intro l m B s c H x y v u Q I A o h f;obtain⟨p,L,i,z,rfl,rfl,C,D,q⟩:=h;cases A;obtain⟨t,rfl⟩:=o;obtain⟨e,r,b,M⟩:=I.list C;obtain⟨j,k,J,R,G,F⟩:=Ys2 D;obtain⟨w,S,d⟩:=r.get J;have O:=r.length;have N:=Ye1;have a:EP X _ c Q w s:=⟨z,H,I,d,q⟩
 by_cases h0:0<=i
 ·have g:i.toNat=j:=by
   rw[seqIndex_of h0 F] at k
   simp_all
  exact item_listR b.isList h0 (by omega) (by simp[*]) a f
 ·have g:(i+e.toArray.size).toNat=j:=by
   rw[seqIndex_neg (by omega) G] at k
   simp_all
  exact subscriptTail_builtinR b.isList.typeIs slot_list_getitem.lookup
   (wpAny_getItem_list_neg (Q:=fun r n=>r=w/\EP X _ c Q r n) b.isList (by omega) (by simp_all) (by omega) (by rw[g];simp[*]) ⟨rfl,a⟩) f
theorem Xw2:IxR X (rIxT X.K):=by
 intro e f m s a H x y v u Q I l k h n;obtain⟨p,D,i,z,rfl,rfl,o,A,q⟩:=h;cases l;obtain⟨t,rfl⟩:=k;obtain⟨C,r,c,F⟩:=I.tuple o;obtain⟨j,O,B,N,M,L⟩:=Ys2 A;obtain⟨w,R,b⟩:=r.get B;have J:=r.length;have G:=Ye1;have d:EP X _ a Q w s:=⟨z,H,I,b,q⟩;exact subscriptTail_builtinR c.typeIs slot_tuple_getitem.lookup
  (getItem_tuple (j:=j) (Q:=fun r g=>r=w/\EP X _ a Q r g) c (by omega) (by omega) (by simp_all) (by simp[*]) ⟨rfl,d⟩) n
theorem Xw3:IxR X rIxS:=by
 intro b d g s A H x y v u Q I f e h k;obtain⟨z,i,c,rfl,rfl,C,m,q⟩:=h;obtain⟨t,rfl⟩:=f;obtain⟨B,rfl⟩:=e;obtain⟨j,a,p,F,o,n⟩:=Ys2 m
 have l:z.cps.toList.length=z.length:=by rfl
 rw[l] at a o n;have D:=Ye1
 exact tail_any (typeIs_str s z t) slot_str_getitem.lookup (getItem_str (c:=c) (by
  have w:decide (i < -(2 ^ 63:Int))=false:=decide_eq_false (by omega);have r:decide (i ≥ 2 ^ 63)=false:=decide_eq_false (by omega)
  rw[w,r,Bool.or_false]) (by rw[a];simpa using p) ⟨.str ⟨#[c]⟩,H,I.tok _,⟨_,rfl⟩,q⟩) k
theorem Yz1 (its:List Value)(n j:Nat)(u:Value):zcf (·.setIfInBounds j u) { cls:=.type "list",data:=.seq its.toArray n }={ cls:=.type "list",data:=.seq (its.set j u).toArray n }:=by
 simp[zcf]
theorem Inv.lst {p:Addr}(I:Inv X pins σ H s)(h:H p=some (.lst xs)) :
  ∃(its:List Value) (n:Nat),Vals xs its/\s.heap.get? p=some { cls:=.type "list",data:=.seq its.toArray n }/\xs.length<=zp:=by
 obtain⟨z,its,n,r,e⟩:=I.hok p _ h;exact⟨its,n,r,e,z⟩
theorem Inv.lstUpd {p:Addr}{f:Obj->Obj}(I:Inv X pins σ H s)(h:H p=some (.lst xs))(ho:s.heap.get? p=some { cls:=.type "list",data:=.seq its.toArray n })(hf:f { cls:=.type "list",data:=.seq its.toArray n }={ cls:=.type "list",data:=.seq its'.toArray n' })(r:Vals ys its')(hz:ys.length<=zp)(t:Nat):
  Inv X pins σ (upd H p (.lst ys)) { s with heap:=s.heap.update p f,toks:=t }:=by
 have e:(s.heap.update p f).get? p=some { cls:=.type "list",data:=.seq its'.toArray n' }:=by
  rw[zaf f ho (by rw[hf]<;>rfl),hf]
 refine I.write (by rw[h];trivial) (.inl rfl) (fun b u a q=>(zab _ _ (zar a)).trans q) ⟨_,e⟩ ?_;exact⟨hz,its',n',r,e⟩
def Yp3:V->V->V->Hp->(Hp->Prop)->Prop:=fun o i v H Q=>∃p xs k j,o=.ref p/\i=.int k/\H p=some (.lst xs)/\ixN xs.length k=some j/\Q (upd H p (.lst (xs.set j v)))
theorem Yt4:PSet X Yp3:=by
 intro x s g H o i v C D u Q I m w l h;obtain⟨p,B,k,j,rfl,rfl,d,y,q⟩:=h;cases m;obtain⟨t,rfl⟩:=w;obtain⟨a,n,r,b,F⟩:=I.lst d;obtain⟨e,L,A,z⟩:=Xk3 y;have J:=r.length;have G:=Ye1
 have f:Inv X _ g _ { s with heap:=s.heap.update p _ } :=
  I.lstUpd d b (Yz1 a n j u) (r.set l j) (by simp_all) _
 by_cases h0:0<=k
 ·have c:k.toNat=j:=by
   rw[seqIndex_of h0 z] at e
   simp_all
  exact W.ki_setAt b h0 (by omega) (by simp_all) (by rw[c];exact⟨_,f,q⟩)
 ·have c:(k+a.toArray.size).toNat=j:=by
   rw[seqIndex_neg (by omega) A] at e
   simp_all
  exact W.ki_setBack b (by omega) (by simp_all) (by omega) (by rw[c];exact⟨_,f,q⟩)
theorem Yj9 (lo hi:Option Int)(n:Nat):(zcw lo hi none n).1=((HT.sIx n 0 lo:Nat):Int)/\(zcw lo hi none n).2.1=((HT.sIx n n hi:Nat):Int)/\(zcw lo hi none n).2.2=1:=by
 refine⟨?_,?_,rfl⟩
 ·cases lo with
  |none=>rfl
  |some i =>
   simp only[zcw,HT.sIx,Option.getD_none,show (1) > 0 by decide]
   by_cases h:i < 0
   ·simp only[h,if_true]<;>omega
   ·simp[h,if_false]<;>omega
 ·cases hi with
  |none=>rfl
  |some i =>
   simp only[zcw,HT.sIx,Option.getD_none,show (1) > 0 by decide]
   by_cases h:i < 0
   ·simp only[h,if_true]<;>omega
   ·simp[h,if_false]<;>omega
theorem Yf7 (its:List Value)(lo hi:Option Int):slicePick its.toArray lo hi none=((its.drop (HT.sIx its.length 0 lo)).take (HT.sIx its.length its.length hi - HT.sIx its.length 0 lo)).toArray:=by
 obtain⟨c,b,a⟩:=Yj9 lo hi _;unfold slicePick;rw[c,b,a]
 simp only[sliceRange_one,pick_run]<;>rfl
def rSlL (K:W.Frag):V->Option Int->Option Int->Hp->VK->Prop:=fun x lo hi H Q=>∃a xs,x=.ref a/\SqL K H a xs/\∀p,H p=none->Q (.ref p) (upd H p (.lst (cutV xs lo hi)))
theorem Zi3:SlR X (rSlL X.K):=by
 intro j s u H x v y w k p z Q I f n i g h;obtain⟨a,e,rfl,m,q⟩:=h;cases f;obtain⟨t,r,d,l⟩:=I.list m;have c:=r.length;refine⟨"list",_,slot_list_getitem.lookup,d.isList.typeIs,?_⟩;refine wpAny_getItem_list_slice d.isList n i g .none (by simp) ?_ (by simp_all);rw[Yf7,<- c];refine⟨.ref _,_,I.laid (o:=.lst _) (fun b A q=>yb _ q) (by simp) ?_,rfl,q _ (I.hok.fresh (by simp))⟩;exact⟨zi (Yc3 e k p) l,_,0,(r.drop _).take _,yt _ rfl⟩
noncomputable def Yi1:V->Bool
 | .non=>true
 | .bl _=>true
 | .int _=>true
 | .str _=>true
 | _=>false
noncomputable def eqV:V->V->Bool
 | .non,.non=>true
 | .bl a,.bl b=>a == b
 | .bl a,.int b=>(if a then 1 else 0) == b
 | .int a,.bl b=>a == (if b then 1 else 0)
 | .int a,.int b=>a == b
 | .str a,.str b=>a == b
 | _,_=>false
theorem Wq4 {y x:V}(ry:RelV y u)(rx:RelV x v)(fy:Yi1 y=true)(fx:Yi1 x=true):SeqAt.EqAt A s u v (eqV y x):=by
 cases y with
 |non =>
  cases ry
  cases x with
  |non=>cases rx;exact SeqAt.EqAt.same _
  |bl b=>cases rx;exact SeqAt.EqAt.none_bool b
  |int b=>obtain⟨t,rfl⟩:=rx;exact SeqAt.EqAt.none_int b t
  |str b=>obtain⟨t,rfl⟩:=rx;exact SeqAt.EqAt.none_str b t
  | _=>exact absurd (show false=true from fx) zg
 |bl a =>
  cases ry
  cases x with
  |non=>cases rx;exact SeqAt.EqAt.bool_none a
  |bl b=>cases rx;exact SeqAt.EqAt.bool_bool a b
  |int b=>obtain⟨t,rfl⟩:=rx;exact SeqAt.EqAt.bool_int a b t
  |str b=>obtain⟨t,rfl⟩:=rx;exact SeqAt.EqAt.bool_str a b t
  | _=>exact absurd (show false=true from fx) zg
 |int a =>
  obtain⟨c,rfl⟩:=ry
  cases x with
  |non=>cases rx;exact SeqAt.EqAt.int_none a c
  |bl b=>cases rx;exact SeqAt.EqAt.int_bool a c b
  |int b=>obtain⟨t,rfl⟩:=rx;exact SeqAt.EqAt.int_int a c b t
  |str b=>obtain⟨t,rfl⟩:=rx;exact SeqAt.EqAt.int_str a c b t
  | _=>exact absurd (fx) zg
 |str a =>
  obtain⟨c,rfl⟩:=ry
  cases x with
  |non=>cases rx;exact SeqAt.EqAt.str_none a c
  |bl b=>cases rx;exact SeqAt.EqAt.str_bool a c b
  |int b=>obtain⟨t,rfl⟩:=rx;exact SeqAt.EqAt.str_int a c b t
  |str b=>obtain⟨t,rfl⟩:=rx;exact SeqAt.EqAt.str_str a c b t
  | _=>exact absurd (fx) zg
 | _=>exact absurd (fy) zg
noncomputable def eqU (x:V)(u:Value):Bool:=match u with
 | .none=>eqV .non x
 | .bool b=>eqV (.bl b) x
 | .int i _=>eqV (.int i) x
 | .str z _=>eqV (.str z) x
 | _=>false
theorem Xw9 {x y:V}(r:RelV y u)(f:Yi1 y=true):eqU x u=eqV y x:=by
 cases y with
 |non=>cases r;rfl
 |bl b=>cases r;rfl
 |int i=>obtain⟨t,rfl⟩:=r;rfl
 |str z=>obtain⟨t,rfl⟩:=r;rfl
 | _=>exact absurd (f) zg
theorem Yc4 {x:V}:∀{xs:List V} {us:List Value},Vals xs us->xs.all Yi1=true->us.any (eqU x)=xs.any fun y=>eqV y x
 | _,_,.nil,_=>rfl
 |y::xs,u::us,.cons r t,f=>by
  rw[List.all_cons,zo] at f;rw[List.any_cons,List.any_cons,Xw9 r f.1,Yc4 t f.2]
theorem Zt4 {x:V}(rx:RelV x v)(fx:Yi1 x=true):∀{xs:List V} {us:List Value},Vals xs us->xs.all Yi1=true->∀u∈us,SeqAt.EqAt A s u v (eqU x u)
 | _,_,.nil,_=>fun u hu=>by grind
 |y::xs,u::us,.cons r t,f=>fun u' hu=>by
  rw[List.all_cons,zo] at f;rcases yk.mp hu with rfl | hu
  ·rw[Xw9 r f.1];exact Wq4 r rx f.1 fx
  ·exact Zt4 rx fx t f.2 u' hu
noncomputable def inV (x:V)(xs:List V):Bool:=xs.any fun y=>eqV y x
def rIn (K:W.Frag)(neg:Bool):R2:=fun x y H Q=>∃p xs,y=.ref p/\(SqL K H p xs∨SqT K H p xs)/\Yi1 x=true/\xs.all Yi1=true/\Q (.bl (if neg then !inV x xs else inV x xs)) H
theorem Zt2:OpR X (yaj .In) (rIn X.K false):=by
 intro i s l H x y v u Q I e g h;obtain⟨p,m,rfl,b,f,c,q⟩:=h;cases g;rcases b with b | b
 ·obtain⟨a,r,d,j⟩:=I.list b
  refine SeqAt.in_listAt _ d.isList (fun w k=>Zt4 e f r c w (by simp_all)) ⟨.bl _,H,I,rfl,?_⟩;rw[show a.toArray.any _=a.any (eqU x) by simp,Yc4 r c];exact q
 ·obtain⟨a,r,d,j⟩:=I.tuple b
  refine SeqAt.in_tupleAt _ d (fun w k=>Zt4 e f r c w (by simp_all)) ⟨.bl _,H,I,rfl,?_⟩;rw[show a.toArray.any _=a.any (eqU x) by simp,Yc4 r c];exact q
theorem Yk6:OpR X (yaj .NotIn) (rIn X.K true):=by
 intro i s l H x y v u Q I e g h;obtain⟨p,m,rfl,b,f,c,q⟩:=h;cases g;rcases b with b | b
 ·obtain⟨a,r,d,j⟩:=I.list b
  refine SeqAt.notIn_listAt _ d.isList (fun w k=>Zt4 e f r c w (by simp_all)) ⟨.bl _,H,I,rfl,?_⟩;rw[show a.toArray.any _=a.any (eqU x) by simp,Yc4 r c];exact q
 ·obtain⟨a,r,d,j⟩:=I.tuple b
  refine SeqAt.notIn_tupleAt _ d (fun w k=>Zt4 e f r c w (by simp_all)) ⟨.bl _,H,I,rfl,?_⟩;rw[show a.toArray.any _=a.any (eqU x) by simp,Yc4 r c];exact q
theorem Zb5:Zv6 X (.builtin "len") (fun xs H Q=>∃p ys,xs=[.ref p]/\(SqL X.K H p ys∨SqT X.K H p ys)/\Q (.int ys.length) H):=by
 intro g s j H xs k Q I r h;obtain⟨p,ys,rfl,a,q⟩:=h;obtain⟨u,rfl,f⟩:=Yn9 r;cases f;have l:=Ye1;rcases a with a | a
 ·obtain⟨e,b,c,i⟩:=I.list a
  have d:=b.length;exact Calls.call_len_list c.isList (by simp only[zce]<;>omega) ⟨.int _,H,I.tok _,⟨s.toks+1,by simp_all⟩,q⟩
 ·obtain⟨e,b,c,i⟩:=I.tuple a
  have d:=b.length;exact len_tuple c (by simp only[zce]<;>omega) ⟨.int _,H,I.tok _,⟨s.toks+1,by simp_all⟩,q⟩
theorem Ze9:Zv6 X (.type "list") (fun xs H Q=>∃p ys,xs=[.ref p]/\(SqL X.K H p ys∨SqT X.K H p ys)/\∀l,H l=none->Q (.ref l) (upd H l (.lst ys))):=by
 intro A s y H xs B Q I r h;obtain⟨p,ys,rfl,i,q⟩:=h;obtain⟨u,rfl,z⟩:=Yn9 r;cases z
 have j:∀(a:List _),Vals ys a->ys.length<=zp->∀(b:Heap) (d:Nat),_ ->
   b.get? s.heap.objs.size=some { cls:=.type "list",dict:=none,data:=.seq _ d,slots:=#[] }->EP X _ y Q _ { s with heap:=b }:=fun a c g b d f e =>
  ⟨.ref _,_,I.laid f (by simp) (show ObjOk _ X.w _ b _ (.lst ys) from ⟨g,a,d,c,e⟩),rfl,q _ (I.hok.fresh (by simp))⟩
 rcases i with i | i
 ·obtain⟨a,c,k,g⟩:=I.list i
  have t:=c.length;obtain⟨o,m,x,n,v⟩:=k.isList;exact call_list_seq p (.inl rfl) m x v (fun b d f e=>j a c g b d f e) (by simp_all)
 ·obtain⟨a,c,k,g⟩:=I.tuple i
  have t:=c.length;obtain⟨o,m,x,n,v⟩:=k;exact call_list_seq p (.inr rfl) m x v (fun b d f e=>j a c g b d f e) (by simp_all)
def tyV (K:W.Frag)(T:String)(x:V)(H:Hp):Prop:=match x with
 | .str _=>T="str"
 | .int _=>T="int"
 | .ref p=>(T="list"/\∃xs,SqL K H p xs)∨(T="tuple"/\∃o,K.lookup p=some o/\o.cls=.type "tuple"/\o.dict=none) ∨
   (T="dict"/\((∃kvs,H p=some (.dK kvs))∨∃kvs,H p=some (.dT kvs)))∨(T="set"/\∃S n,H p=some (.set S n))
 | _=>False
theorem Xu9 {T:String}{x:V}(I:Inv X pins σ H s)(r:RelV x v)(ty:tyV X.K T x H):
  s.TypeIs v T/\∀a,v=.ref a->∃ob,s.heap.get? a=some ob/\ob.dict=none:=by
 cases x with
 |str z =>
  obtain⟨t,rfl⟩:=r;cases (ty);exact⟨typeIs_str s z t,fun _ e=>nomatch e⟩
 |int i =>
  obtain⟨t,rfl⟩:=r;cases (ty);exact⟨typeIs_int s i t,fun _ e=>nomatch e⟩
 |ref p =>
  cases r;rcases ty with ⟨rfl,m,j⟩ | ⟨rfl,o,b,k,d⟩ | ⟨rfl,b⟩ | ⟨rfl,S,n,b⟩
  ·obtain⟨l,_,g,_⟩:=I.list j
   refine⟨g.isList.typeIs,fun a e=>?_⟩;cases e;obtain⟨o,n,e,c,d,_⟩:=g;exact⟨o,e,d⟩
  ·refine⟨⟨o,I.kIn p o b,k⟩,fun a e=>?_⟩
   cases e;exact⟨o,I.kIn _ o b,d⟩
  ·have z:∃o,s.heap.get? p=some o/\o.ExactDict:=by
    rcases b with ⟨h,b⟩ | ⟨h,b⟩
    ·obtain⟨_,_,_,_,o,_,_,e,ex,_⟩:=I.hok p _ b
     exact⟨o,e,ex⟩
    ·obtain⟨_,_,_,_,o,_,_,e,ex,_⟩:=I.hok p _ b
     exact⟨o,e,ex⟩
   obtain⟨o,e,ex⟩:=z;refine⟨⟨o,e,ex.1⟩,fun a f=>?_⟩;cases f;exact⟨o,e,ex.2.1⟩
  ·obtain⟨o,_,_,_,e,ex,_⟩:=I.hok p _ b
   refine⟨⟨o,e,ex.1⟩,fun a f=>?_⟩;cases f;exact⟨o,e,ex.2.1⟩
 | _=>exact zbl ty
def tBM0 (K:W.Frag)(T:String)(r:V->List V->Hp->VK->Prop)(to:TE):TE:=fun σ H Q=>to σ H fun x H1=>tyV K T x H1/\r x [] H1 Q
def tBM (K:W.Frag)(T:String)(r:V->List V->Hp->VK->Prop)(to:TE)(t:TA):TE:=fun σ H Q=>to σ H fun x H1=>tyV K T x H1/\t σ H1 fun xs H2=>r x xs H2 Q
variable {o e:Expr}{es:List Expr}{to:TE}{t:TA}{cpos:Pos}{T id:String}{r:V->List V->Hp->VK->Prop}
theorem Yu0 (pa:PlainAttrs T)(slot:Slot T name id)(hty:typeOf (.builtin id)=pure (.type "method_descriptor"))(hm:MtR X id r)(ho:PE X o to)
  (hbase:attributeBase o name X.env (eval o X.env)=eval o X.env:=by rfl) (hline:(apos.endLine == cpos.line)=true:=by rfl):PE X (.Call (.Attribute o name apos) [] [] cpos) (tBM0 X.K T r to):=by with_unfolding_all
 intro a s b H Q I h;refine wpAny_Call_method0_late hbase hline (thn (ho a s b H _ I h) fun v g e=>?_);obtain⟨x,l,d,c,f,i⟩:=e;obtain⟨k,j⟩:=Xu9 d c f;exact⟨T,id,pa,slot,hty,k,j,Calls.callWith_builtin rfl (PySem.evalArgs_none (hm _ g b l x [] v [] Q d c .nil i))⟩
theorem Zv2 (pa:PlainAttrs T)(slot:Slot T name id)(hty:typeOf (.builtin id)=pure (.type "method_descriptor"))(hm:MtR X id r)(ho:PE X o to)(ha:PA X (e::es) t)
  (hbase:attributeBase o name X.env (eval o X.env)=eval o X.env:=by rfl)
  (hfew:((backTo cpos (zx (e::es) X.env)).all (fun x=>!x.1)&&(backToKw cpos (keywordEach [] X.env)).all (fun x=>x.1.isSome)
   && decide ((e::es).length+([]:List Keyword).length+(if ([]:List Keyword).isEmpty then 0 else 1) < 30))=true:=by rfl)
  (hline:(apos.endLine == cpos.line)=true:=by rfl) (hs:zx (e::es) X.env=(false,eval e X.env)::zx es X.env:=by rfl) (hplain:(backTo cpos (zx es X.env)).any (·.1)=false:=by rfl) :
  PE X (.Call (.Attribute o name apos) (e::es) [] cpos) (tBM X.K T r to t):=by with_unfolding_all
 intro a s b H Q I h;refine wpAny_Call_method_late hbase hfew hline rfl (thn (ho a s b H _ I h) fun v j g=>?_);obtain⟨x,n,f,c,i,k⟩:=g;obtain⟨m,l⟩:=Xu9 f c i;refine⟨T,id,pa,slot,hty,m,l,?_⟩;have d:=ha cpos a j b n _ f k;rw[hs] at d ⊢;refine Calls.callWith_builtin (by assumption) (Calls.evalArgs_plain ?_);exact thn d fun us s2 zZ=>(by obtain⟨vs,H2,I2,r2,q2⟩:=zZ;exact hm _ s2 b H2 x vs v us Q I2 c r2 q2)
end
def MtM (X:Cx)(id:String)(r:V->List V->Hp->VK->Prop):Prop :=
 ∀(pins:List (Addr×Obj)) (s:Shared) (σ:St) (H:Hp) (x:V) (xs:List V) (v:Value) (us:List Value) (Q:VK),Inv X pins σ H s->RelV x v->Vals xs us->r x xs H Q ->
  wpAny (model X.prog X.w) X.A (call (.builtin id) (v::us)) (EP X pins σ Q) X.xe s
theorem Vals.one:∀{x:V} {us:List Value},Vals [x] us->∃u,us=[u]/\RelV x u
 | _,_,.cons r .nil=>⟨_,rfl,r⟩
theorem Vals.zero:∀{us:List Value},Vals [] us->us=[]
 | _,.nil=>rfl
theorem Vals.dropLast (h:Vals xs us):Vals xs.dropLast us.dropLast:=by
 induction h with
 |nil=>exact .nil
 |cons r t ih =>
  cases t with
  |nil=>exact .nil
  |cons q t'=>exact .cons r ih
theorem Vals.reverse (h:Vals xs us):Vals xs.reverse us.reverse:=by
 induction h with
 |nil=>exact .nil
 |cons r t ih=>rw[zai,zai];exact Vals.append ih (.cons r .nil)
theorem Vals.rep (h:Vals xs us):∀k:Nat,Vals (yy k xs).flatten (yy k us).flatten
 | 0=>.nil
 |k+1=>by
  exact Vals.append h (Vals.rep h k)
theorem Ym4 (its:List Value):∀(k:Nat) (acc:List Value),
  List.foldl (fun x1 x2=>x1++x2) acc.toArray (yy k its.toArray)=(acc++(yy k its).flatten).toArray
 | 0,acc=>by simp
 |k+1,acc=>by
  have e:acc.toArray++its.toArray=(acc++its).toArray:=by simp
  have e2:acc++its++(yy k its).flatten=acc++(yy (k+1) its).flatten:=by
   grind
  rw[<- e2,<- Ym4 its k _,<- e,List.replicate_succ,List.foldl_cons]
section
variable {l:Addr}{zs:List V}
theorem Inv.lset {its':List Value}{f:Array Value->Array Value}(I:Inv X pins σ H s)(hH:H l=some (.lst xs))(e:s.heap.get? l=some { cls:=.type "list",data:=.seq its.toArray n })(hf:f its.toArray=its'.toArray)(hv:Vals ys its')(hz:ys.length<=zp):
  Inv X pins σ (upd H l (.lst ys)) { s with heap:=s.heap.update l (zcf f),toks:=t' }:=by
 have q:=PySem.IsL.update e f;rw[hf] at q;refine I.write (by rw[hH];exact trivial) (.inl rfl) (fun c u b a=>(zab _ _ (zar b)).trans a) ⟨_,q⟩ ?_;exact⟨hz,its',_,hv,q⟩
theorem Inv.lnew (I:Inv X pins σ H s)(hv:Vals ys its)(hz:ys.length<=zp):
  Inv X pins σ (upd H s.heap.objs.size (.lst ys)) { s with heap:=s.heap.push { cls:=.type "list",data:=.seq its.toArray },toks:=t' } :=
 I.laid (fun _ _ q=>yb _ q) (by simp) ⟨hz,its,0,hv,yt _ rfl⟩
theorem Inv.fresh (I:Inv X pins σ H s):H s.heap.objs.size=none:=I.hok.fresh (by simp)
theorem Inv.lstM (I:Inv X pins σ H s)(hH:H l=some (.lst xs)):xs.length<=zp/\∃(its:List Value) (n:Nat),Vals xs its/\xs.length=its.length/\s.heap.get? l=some { cls:=.type "list",data:=.seq its.toArray n }:=by
 obtain⟨z,its,n,r,e⟩:=I.hok l _ hH;exact⟨z,its,n,r,r.length,e⟩
theorem Yu1 (h:n<=zp):zbt n=false:=by
 unfold zbt
 simp_all
end
section
def Zr4:V->List V->Hp->VK->Prop:=fun x vs H Q=>∃l xs y,x=.ref l/\vs=[y]/\H l=some (.lst xs)/\xs.length < zp/\Q .non (upd H l (.lst (xs++[y])))
theorem Zg6:MtM X "list.append" Zr4:=by
 intro f s g H x j v k Q I c d h;obtain⟨l,i,y,rfl,rfl,b,o,q⟩:=h;cases c;obtain⟨u,rfl,m⟩:=d.one;obtain⟨z,a,n,r,p,e⟩:=I.lstM b;refine call_meets zam ⟨_,e,rfl⟩ F.entry_list_append (F.args_list_append_2 _ _) (PySem.list_append l _ n u (by simp_all)) ⟨e,?_⟩;refine⟨.non,_,I.lset (its':=a++[u]) b e (by simp) (r.append (by omega)) ?_,rfl,q⟩;rw[zf,zd];omega
def Zr3:V->List V->Hp->VK->Prop:=fun x vs H Q=>∃l b xs zs,x=.ref l/\vs=[.ref b]/\H l=some (.lst xs)/\H b=some (.lst zs)/\xs.length+zs.length<=zp/\Q .non (upd H l (.lst (xs++zs)))
theorem Xi6:MtM X "list.extend" Zr3:=by
 intro o s A H x G v J Q I i j h;obtain⟨l,b,D,B,rfl,rfl,g,t,L,q⟩:=h;cases i;obtain⟨u,rfl,k⟩:=j.one;cases k;obtain⟨z,c,n,r,M,e⟩:=I.lstM g;obtain⟨C,a,p,m,y,w⟩:=I.lstM t
 have f:c.toArray.size+a.toArray.size<=zp:=by simp_all
 have d:¬(!c.toArray.isEmpty&&zbt (c.toArray.size+a.toArray.size))=true:=by
  rw[Yu1 f,Bool.and_false];simp
 refine call_meets F.slot_list_extend ⟨_,e,rfl⟩ F.entry_list_extend (F.args_list_extend_2 _ _)
  (AutoSeq1.list_extend_list_list_0 l _ n b _ p d (by simp_all) (by omega)) ⟨e,w,?_⟩
 refine⟨.non,_,I.lset g e (by simp) (r.append m) ?_,rfl,q⟩;rw[zf];omega
def rPop:V->List V->Hp->VK->Prop:=fun x vs H Q=>∃l xs y,x=.ref l/\vs=[]/\H l=some (.lst xs)/\xs[xs.length - 1]?=some y/\Q y (upd H l (.lst xs.dropLast))
theorem Yu5:MtM X "list.pop" rPop:=by
 intro j s m H x p v t Q I f g h;obtain⟨l,o,y,rfl,rfl,d,k,q⟩:=h;cases f;have c:=g.zero;subst c;obtain⟨z,a,n,r,A,e⟩:=I.lstM d;obtain⟨u,w,i⟩:=r.get k
 have b:a.toArray[a.toArray.size - 1]?=some u:=by
  simp_all
 refine call_meets zcs ⟨_,e,rfl⟩ F.entry_list_pop (F.args_list_pop_1 _) (MeetsSeq.list_pop_last l _ n u b (by simp_all)) ⟨e,?_⟩;refine⟨y,_,I.lset d e ?_ r.dropLast ?_,i,q⟩
 ·simp
 ·rw[zcj]
  omega
def rCat:R2:=fun x y H Q=>∃l b xs zs,x=.ref l/\y=.ref b/\H l=some (.lst xs)/\H b=some (.lst zs)/\xs.length+zs.length<=zp/\∀p,H p=none->Q (.ref p) (upd H p (.lst (xs++zs)))
theorem Zf0:OpR X (zbx .Add) rCat:=by
 intro i s t H x y v u Q I f d h;obtain⟨l,b,B,w,rfl,rfl,j,k,D,q⟩:=h;cases f;cases d;obtain⟨z,c,n,r,F,e⟩:=I.lstM j;obtain⟨A,a,C,g,p,o⟩:=I.lstM k;refine PySem.P.add_list e o ?_ (by simp_all)
 have m:c.toArray++a.toArray=(c++a).toArray:=by simp
 rw[m];exact⟨.ref _,_,I.lnew (r.append g) (by simp_all),rfl,q _ I.fresh⟩
def rRep:R2:=fun x y H Q=>∃l k xs,x=.ref l/\y=.int k/\H l=some (.lst xs)/\-(2 ^ 63)<=k/\k < 2 ^ 63/\xs.length*k.toNat<=zp /\
 ∀p,H p=none->Q (.ref p) (upd H p (.lst (yy k.toNat xs).flatten))
theorem Wb2 {α:Type}(xs:List α)(k:Nat):(yy k xs).flatten.length=k*xs.length:=by simp
theorem Xh2:OpR X (zbx .Mult) rRep:=by
 intro B s L H x y v u Q I A w h;obtain⟨l,k,M,rfl,rfl,C,G,D,N,q⟩:=h;cases A;obtain⟨t,rfl⟩:=w;obtain⟨z,b,n,r,O,e⟩:=I.lstM C
 have i:b.toArray.size*k.toNat<=zp:=by simp_all
 have o:¬b.toArray.size*k.toNat > (2 ^ 63 - 1) / 8:=by
  have:zp<=(2 ^ 63 - 1) / 8:=by decide
  omega
 have j:¬(!Builtin.List.listFitsIndex k)=true:=by
  rw[fitsIndex_both G D];simp
 have c:¬zbt (b.toArray.size*k.toNat)=true:=by
  rw[Yu1 i];simp
 have g:List.foldl (fun f d=>f++d) #[] (yy (if b.toArray.isEmpty=true then 0 else k.toNat) b.toArray)=(yy k.toNat b).flatten.toArray:=by
  have J:∀m:Nat,List.foldl (fun f d=>f++d) #[] (yy m b.toArray)=(yy m b).flatten.toArray:=fun m=>by
   have:=Ym4 b m []
   simp_all
  rw[J]
  cases b with
  |nil=>simp
  |cons a r'=>rfl
 refine wpAny_binaryOp_repeat_ref rfl ⟨_,e,rfl⟩ (fun p=>typeIs_int p k t) noFill_list_mul F.fills_int_mul F.slot_int_rmul repeat_list F.slot_int_index.lookup
  (call_meets F.slot_int_rmul rfl F.entry_int_rmul (F.args_int_rmul_2 _ _) (int___rmul___int_list k t l _ n)
   ⟨e,rfl,⟨_,e,rfl⟩,call_meets F.slot_list_mul ⟨_,e,rfl⟩ F.entry_list_mul (F.args_list_mul_2 _ _) (AutoListH.list___mul___list_int_3 l _ n k t j o c) ⟨e,?_⟩⟩)
 rw[g];exact⟨.ref _,_,I.lnew (r.rep _) (by rw[Wb2,Nat.mul_comm];omega),rfl,q _ I.fresh⟩
end
end L2
namespace Att
open PySem PySem.W PySem.Calls PyProof.Rows
theorem Yb9 :∀(ns:List Int) (vs:List Value),WellAll P h vs (ns.map WData.int)->IntsAre vs ns:=by
 intro ns
 induction ns with
 |nil =>
  intro vs w;cases w;exact .nil
 |cons n ns ih =>
  intro vs w
  cases w with
  |cons a b =>
   cases a;exact .cons _ _ (ih _ b)
theorem Xe7 {l:OpenLaw}(hn:l.most=some n)(hpre:l.row.toRowW.claim.pre args=true)(hwl:WellAll P h vals args):
  ∃a vs ns,vals=[yay a]/\args=[WData.list (ns.map WData.int)]/\h.get? a=some { cls:=.type "list",data:=.seq vs.toArray }/\IntsAre vs ns/\ns.length<=n:=by
 have e  := (pre_splitW hpre).1;have f  := (pre_splitW hpre).2;obtain⟨d,r,rfl,j,i⟩:=hasAllW_cons e;obtain rfl:=hasAllW_nil i;obtain⟨k,rfl,g⟩:=hasW_list j;obtain⟨ns,rfl⟩:=items_int g
 have b:ns.length<=n:=by
  have c  := by
   have c:=(holds_andW f).1;rw[hn] at c;omega
  have m:=condW_of c rfl
  simp_all
 cases hwl with
 |cons w1 w2 =>
  cases w2
  cases w1 with
  |list ho hall=>exact⟨_,_,ns,rfl,rfl,ho,Yb9 ns _ hall,b⟩
theorem Xf9 (l:OpenLaw)(args:List WData):l.row.toRowW.claim.post args (.bool true) args=true :=
 postW_of
  rfl
  (w_eq_bool (w_res rfl) w_lit) rfl
theorem attach_call {l:OpenLaw}{d:DefRec}
  (hn:l.most=some n) (hdf:d.params.defaults=[])
  (call:∀(w:World) (s₀ s₁:Shared) (mg mb:Str->Option Value) (fa:Addr) (o:Obj) (pm cd doc:Value) (a:Addr) (vs:List Value) (ns:List Int),
   Ground q loose [] XP w s₀ mg mb s₁.heap->YP w s₁.heap ->
   s₁.heap.get? fa=some o->o.data=.func (docDef d.name d.params d.body d.scope pm cd doc)->s₁.heap.CodeRec cd d.name->mg d.name=some (.ref fa) ->
   s₁.heap.get? a=some { cls:=.type "list",data:=.seq vs.toArray }->IntsAre vs ns->ns.length<=n->s₁.gens=#[] ->
   yde (model l.prog w) callerA (.call (.ref fa) ⟨[.ref a],[]⟩) (fun r s'=>r=.ok (.ret (.bool true))/\OldK s₁.heap s'.heap/\s'.os=s₁.os/\ydn s'.gens) s₁) :
  WalkO q loose XP YP l.row.toRowW d [] (fun f vs=>PySem.call f vs):=by
 intro w s₀ s₁ mg mb G Y fa o pm cd doc C p u y j k i x D m J c v F h I;obtain rfl:C=.none:=Dflts.none k hdf;obtain rfl:p=.none:=Dflts.noKw k;obtain⟨a,vs,ns,rfl,rfl,e,b,g⟩:=Xe7 hn c h;refine enter_call (ycy (call w _ _ mg mb fa o pm cd doc a vs ns G Y u (fd_plain y) j i e b g x) fun r s' t=>?_);obtain⟨rfl,B,A,z⟩:=t;exact⟨.inl ⟨.bool _,.bool _,[],rfl,fun _=>rfl,.bool _,Xf9 l _,fun _=>(by simp)⟩,B,A,z⟩
section
variable {prog:zm}{w:World}{E:Value->Shared->Prop}
noncomputable def noObjs (h:Heap):Heap:={ h with objs:=#[] }
theorem Yd9 (h:Heap)(b:Addr):(noObjs h).get? b=none:=by rfl
noncomputable def ledger (h:Heap)(L d:Addr):List (Addr×Obj):=(yac h.objs.size).filterMap fun a=>if a=L∨a=d then none else (h.get? a).map fun o=>(a,o)
theorem mem_ledger :(a,o)∈ledger h L d↔a≠L/\a≠d/\h.get? a=some o:=by
 unfold ledger;rw[List.mem_filterMap];constructor
 ·rintro⟨b,_,e⟩
  split at e
  ·cases e
  ·obtain⟨f,c,j⟩:=yab.mp e
   grind
 ·rintro⟨i,g,c⟩
  refine⟨a,zcb.mpr (zj c),?_⟩
  grind
theorem news_ledger {od:Obj}(hne:d≠L)(ho:h.get? d=some od):News (noObjs h) L h ([]++(d,od)::ledger h L d):=by
 rintro⟨a,o⟩ b;rcases yk.mp b with e | b
 ·cases e
  exact⟨ho,hne,Yd9 _ _⟩
 ·obtain⟨c,f,e⟩:=mem_ledger.mp b
  exact⟨e,c,Yd9 _ _⟩
theorem fr_all (n:h.Ns L m):Fr (noObjs h) L h m :=
 ⟨n,fun b o e=>(by cases e),yz _⟩
end
end Att
namespace L2
open PySem PySem.Spec PyProof.Rows
theorem Yj1:∀{vs:List Value} {ns:List Int},IntsAre vs ns->Vals (ns.map V.int) vs
 | _,_,.nil=>.nil
 | _,_,.cons n t h=>.cons ⟨t,rfl⟩ (Yj1 h)
noncomputable def Yr3 (s:Stmt)(j:Nat):Stmt:=match s with
 | .ClassDef _ _ _ body _ _ _ _ _ _ _=>body.getD j (.Pass ⟨0,0,0,0⟩)
 | _=>.Pass ⟨0,0,0,0⟩
noncomputable def Zd8 (s:Stmt):zdf:=match s with
 | .FunctionDef _ a _ _ _ _ _ _ _ _=>a
 | _=>{ posonlyargs:=[],args:=[],vararg:=none,kwonlyargs:=[],kw_defaults:=[],kwarg:=none,defaults:=[] }
noncomputable def Zc6 (s:Stmt):List Stmt:=match s with
 | .FunctionDef _ _ b _ _ _ _ _ _ _=>b
 | _=>[]
noncomputable def Za6 (s:Stmt):Scope:=match s with
 | .FunctionDef _ _ _ _ _ _ sc _ _ _=>sc
 | _=>{ kind:=.function,names:=[],isGenerator:=false,isCoroutine:=false }
noncomputable abbrev CX0:CXT:=fun _ _ _ _ _ _=>False
abbrev E0:XK:=fun _ _ _=>False
theorem Xr9:Yx1 CX0 X E0:=fun _ _ _ _ _ _ _ h=>h.elim
structure Fun (K:W.Frag)(x qual:Str)(st:Stmt)(f:Addr)(fd:yq):Prop where
 ex:∃(oc:Value) (od:Option Addr) (kV doc pm:Value) (an:Option Addr) (cdv ct:Value) (osl:Array (Option Value)),
  fd=W.fnOf x qual (Zd8 st) (Zc6 st) (Za6 st) .none kV doc pm an cdv ct/\K.lookup f=some ⟨oc,od,.func fd,osl⟩/\ycn K cdv qual=true
 kp:ybd K (.ref f)=true
section
variable {P:zm}{w:World}{base:Heap}
theorem Fun.ok (F:Fun K x qual st f fd)(S:FnScope N ps (Za6 st))(len:∀vs H Q E,sp vs H Q E->vs.length=ps.length) (hbody:∀(cdv:Value) (A:Around) (outer:List Env) (s:Shared) (H:Hp) (vs:List V) (Q:VK) (E:XK),Room k (A.deeper (envOfC qual (Za6 st) s.heap.objs.size f cdv))->sp vs H Q E ->
   ∃t,PSs (cxOf CX0 P w K mg base N qual (Za6 st) f cdv A outer s H E).nox (Zc6 st) t/\t { nx:=fun _ H'=>Q .non H',rt:=Q } (start N vs) H):FnOk P w K mg base CX0 (k+1) f fd ps sp:=by
 obtain⟨l,j,m,g,i,o,cdv,n,e,rfl,c,b⟩:=F.ex;refine fn_of c b S len fun A outer s H vs Q E d a=>?_;obtain⟨t,h,q⟩:=hbody cdv A _ s H vs Q E d a;exact⟨t,h.nox,q⟩
theorem Fun.okG {fd:yq}{k:Nat}(F:Fun K x qual st f fd)(S:FnScope N ps (Za6 st))(hbody:∀(cdv:Value) (A:Around) (outer:List Env) (s:Shared) (H:Hp) (vs:List V) (Q:VK) (E:XK),Room k (A.deeper (envOfC qual (Za6 st) s.heap.objs.size f cdv))->sp vs H Q E->∀G:List V->Prop,(∀us:List V,(∃t,PSs (cxOf CX0 P w K mg base N qual (Za6 st) f cdv A outer s H E).nox (Zc6 st) t/\t { nx:=fun _ H'=>Q .non H',rt:=Q } (start N us) H)->G us)->G vs)(len:∀vs H Q E,sp vs H Q E->vs.length=ps.length:=by intro _ _ _ _ h;first | (cases h;subst_vars;rfl) | (repeat (first | (obtain⟨rfl,_⟩:=h;rfl) | obtain⟨_,h⟩:=h))):FnOk P w K mg base CX0 (k+1) f fd ps sp :=
 F.ok S len fun cdv A outer s H vs Q E a h=>hbody cdv A outer s H vs Q E a h (fun us=>∃t,PSs (cxOf CX0 P w K mg base N qual (Za6 st) f cdv A outer s H E).nox (Zc6 st) t/\t { nx:=fun _ H'=>Q .non H',rt:=Q } (start N us) H) fun _ z=>z
theorem Fun.binds {ps:List Str}(F:Fun K x qual st f fd)(h:∀(kV doc pm:Value) (an:Option Addr) (cdv ct:Value) (us:List Value),us.length=ps.length->ydc (W.fnOf x qual (Zd8 st) (Zc6 st) (Za6 st) .none kV doc pm an cdv ct) ⟨us,[]⟩=pure (ps.zip us)):Binds K fd ps []:=by
 obtain⟨d,c,kV,doc,pm,an,cdv,ct,a,rfl,e,b⟩:=F.ex;exact .all (h kV doc pm an cdv ct)
theorem Yv7 {st:Stmt}{kV cdv:Value}(l:K.lookup f=some ⟨oc,od,.func (W.fnOf x qual (Zd8 st) (Zc6 st) (Za6 st) .none kV doc pm an cdv ct),osl⟩)(c:ycn K cdv qual=true)(k:ybd K (.ref f)=true):Fun K x qual st f (W.fnOf x qual (Zd8 st) (Zc6 st) (Za6 st) .none kV doc pm an cdv ct):=⟨⟨oc,od,kV,doc,pm,an,cdv,ct,osl,rfl,l,c⟩,k⟩
end
theorem Xl2 (hr:Room k A):A.units+1 < cLine:=ycs (by simp) hr.units
theorem Zb1 (h:n<=1000):n < zp:=ycs h (by decide)
section
theorem pv (i:Nat)(hN:X.N[i]?=some x:=by rfl)(hv:Vis X.env.scope x:=by first | exact Or.inl rfl | exact Or.inr (Or.inl rfl) | exact Or.inr (Or.inr rfl))(hd:(x == ("__debug__":Str))=false:=by decide)(hcd:(x == ("__classdict__":Str))=false:=by decide):PE X (.Name x pos) (tVar i):=Xg4 hN hv hd hcd
end
theorem ite2 {c A B:Prop}[Decidable c](h1:c->A)(h2:¬c->B):if c then A else B:=by grind
def Same (H H':Hp):Prop:=∀b o,H b=some o->H' b=some o
theorem Same.refl (H:Hp):Same H H:=fun _ _ h=>h
theorem Same.trans (a:Same H H1)(b:Same H1 H2):Same H H2:=fun c o h=>b c o (a c o h)
theorem Same.free (e:Same H H')(h:H' l=Option.none):H l=Option.none:=by
 cases q:H l with
 |none=>rfl
 |some o =>
  rw[e l o q] at h;cases h
theorem Same.seq (e:Same H H')(h:SqL K H a xs):SqL K H' a xs:=by
 rcases h with (h | ⟨o,h⟩) | h
 ·exact .inl (.inl (e _ _ h))
 ·exact .inl (.inr ⟨o,e _ _ h⟩)
 ·exact .inr h
section
variable {κ:Type}[DecidableEq κ]
noncomputable def valV (kvs:List (κ×V))(k:κ):Option V:=(kvs.find? fun kv=>decide (kv.1=k)).map (·.2)
noncomputable def putK (kvs:List (κ×V))(k:κ)(v:V):List (κ×V) :=
 if (kvs.any fun kv=>decide (kv.1=k))=true then kvs.map (fun kv=>if kv.1=k then (kv.1,v) else kv) else kvs++[(k,v)]
theorem Zh5 {p:κ×V}{r:List (κ×V)}(e:p.1=k):valV (p::r) k=some p.2:=by simp[valV,e]
theorem Zh6 {p:κ×V}{r:List (κ×V)}(e:¬p.1=k):valV (p::r) k=valV r k:=by simp[valV,e]
theorem Zx8 (k:κ):∀kvs:List (κ×V),(kvs.any fun kv=>decide (kv.1=k))=(valV kvs k).isSome
 | []=>rfl
 |p::r=>by
  rw[List.any_cons]
  by_cases e:p.1=k
  ·simp[Zh5 e,decide_eq_true e,Bool.true_or,Option.isSome_some]
  ·rw[Zh6 e,decide_eq_false e,Bool.false_or];exact Zx8 k r
theorem Ys6 (k j:κ)(y:V):∀kvs:List (κ×V),valV (kvs.map fun kv=>if kv.1=k then (kv.1,y) else kv) j=(valV kvs j).map fun x=>if j=k then y else x
 | []=>rfl
 |p::r=>by
  have ih:=Ys6 k j y r;rw[ybg]
  by_cases h:p.1=k
  ·rw[if_pos h]
   by_cases e:p.1=j
   ·rw[Zh5 (p:=(p.1,y)) e,Zh5 e,Option.map_some,if_pos (e.symm.trans h)]
   ·rw[Zh6 (p:=(p.1,y)) e,Zh6 e,ih]
  ·rw[if_neg h]
   by_cases e:p.1=j
   ·rw[Zh5 e,Zh5 e,Option.map_some,if_neg fun z=>h (e.trans z)]
   ·rw[Zh6 e,Zh6 e,ih]
theorem Yj2 (k j:κ)(y:V):∀kvs:List (κ×V),valV kvs k=none->valV (kvs++[(k,y)]) j=if j=k then some y else valV kvs j
 | [],_=>by
  by_cases e:k=j
  ·rw[if_pos e.symm];exact Zh5 e
  ·rw[if_neg fun z=>e z.symm];exact Zh6 e
 |p::r,hn=>by
  rw[yan]
  have hk:¬p.1=k:=fun z=>by rw[Zh5 z] at hn;cases hn
  rw[Zh6 hk] at hn;have ih:=Yj2 k j y r hn
  by_cases e:p.1=j
  ·rw[Zh5 e,Zh5 e,if_neg fun z=>hk (e.trans z)]
  ·rw[Zh6 e,Zh6 e,ih]
theorem Yf2 (kvs:List (κ×V))(k j:κ)(y:V):valV (putK kvs k y) j=if j=k then some y else valV kvs j:=by
 unfold putK
 by_cases a:(kvs.any fun b=>decide (b.1=k))=true
 ·rw[if_pos a,Ys6]
  rw[Zx8] at a
  by_cases e:j=k
  ·obtain⟨x,c⟩:=zbs.mp a
   grind
  simp_all
 ·rw[if_neg a]
  refine Yj2 k j y kvs ?_;rw[Zx8] at a
  simp_all
theorem Zr6 (kvs:List (κ×V))(k:κ)(v:V):(putK kvs k v).length<=kvs.length+1:=by
 unfold putK
 split
 ·simp
 simp
theorem RelO.isSome_eq {o:Option V}{u:Option Value}(r:RelO o u):o.isSome=u.isSome:=by
 cases o with
 |none=>cases u with
  |none=>rfl
  |some _=>exact (r).elim
 |some _=>cases u with
  |none=>exact (r).elim
  |some _=>rfl
theorem KV.val {kvs:List (κ×V)}{vs:List (κ×Value)}(r:KV kvs vs)(k:κ):RelO (valV kvs k) (valueAt vs k):=by
 induction r with
 |nil=>exact yce
 |@cons p q ps qs h t ih =>
  obtain⟨c,d⟩:=h
  by_cases e:p.1=k
  ·have a  := c.symm.trans e
   have b:valueAt (q::qs) k=some q.2:=by simp[valueAt,a]
   rw[Zh5 e,b];exact d
  ·have a:¬q.1=k:=fun z=>e (c.trans z)
   have b:valueAt (q::qs) k=valueAt qs k:=by simp[valueAt,a]
   rw[Zh6 e,b];omega
theorem KV.any {kvs:List (κ×V)}{vs:List (κ×Value)}(r:KV kvs vs)(k:κ):(kvs.any fun kv=>decide (kv.1=k))=vs.any fun kv=>decide (kv.1=k):=by
 induction r with
 |nil=>rfl
 |cons h t ih=>simp_all
theorem KV.repl {kvs:List (κ×V)}{vs:List (κ×Value)}(r:KV kvs vs)(k:κ){y:V}(ry:RelV y u):
  KV (kvs.map fun kv=>if kv.1=k then (kv.1,y) else kv) (vs.map fun kv=>if kv.1=k then (kv.1,u) else kv):=by
 unfold KV at r ⊢
 induction r with
 |nil=>exact .nil
 |@cons p q ps qs h t ih =>
  rw[ybg,ybg];refine .cons ?_ ih;obtain⟨b,a⟩:=h
  by_cases e:p.1=k
  ·simp_all
  simp_all
theorem KV.put {kvs:List (κ×V)}{vs:List (κ×Value)}(r:KV kvs vs)(k:κ){y:V}(ry:RelV y u):KV (putK kvs k y) (stored vs k u):=by
 unfold putK stored;rw[r.any k]
 by_cases e:(vs.any fun a=>decide (a.1=k))=true
 ·rw[if_pos e,if_pos e];exact r.repl k ry
 ·rw[if_neg e,if_neg e];exact zdo r ⟨rfl,ry⟩
theorem KV.length {kvs:List (κ×V)}{vs:List (κ×Value)}(r:KV kvs vs):kvs.length=vs.length:=zc r
end
theorem Yz8 {k:Key}(r:RelV (kV k) u):(Zg0 P w).is k u=true:=by
 cases k with
 |inl i=>obtain⟨t,e⟩:=(r);subst e;exact Yq3 P w i t
 |inr x=>obtain⟨t,e⟩:=(r);subst e;exact Yb5 P w x t
theorem Yl7 :∀{ks:List Key} {us:List Value},Vals (ks.map kV) us->ItemsAre (Zg0 P w) ks us
 | [],_,r=>by cases r;exact .nil
 |k::ks,_,r=>by
  cases r with
  |cons h t=>exact .cons (Yz8 h) (Yl7 t)
abbrev KT (H:Hp):List (List Key×V)->List (List Key×Addr×Value)->Prop:=Paired fun p q=>p.1=q.1/\H q.2.1=some (.tup (p.1.map kV))/\RelV p.2 q.2.2
theorem KT.val {xs:List (List Key×Addr×Value)}(r:KT H kvs xs)(k:List Key):RelO (valV kvs k) ((atKey xs k).map (·.2)):=by
 induction r with
 |nil=>exact yce
 |@cons p q ps qs h t ih =>
  obtain⟨c,_,d⟩:=h
  by_cases e:p.1=k
  ·have a  := c.symm.trans e
   have b:atKey (q::qs) k=some q.2:=by simp[atKey,a]
   rw[Zh5 e,b];exact d
  ·have a:¬q.1=k:=fun z=>e (c.trans z)
   have b:atKey (q::qs) k=atKey qs k:=by simp[atKey,a]
   rw[Zh6 e,b];omega
theorem KT.repl {xs:List (List Key×Addr×Value)}(r:KT H kvs xs)(k:List Key){y:V}(ry:RelV y u):
  KT H (kvs.map fun kv=>if kv.1=k then (kv.1,y) else kv) (xs.map (putAt k u)):=by
 induction r with
 |nil=>exact .nil
 |@cons p q ps qs h t ih =>
  rw[ybg,ybg];refine .cons ?_ ih;obtain⟨a,b,c⟩:=h;unfold putAt
  by_cases e:p.1=k
  ·rw[if_pos e,if_pos (a.symm.trans e)];exact⟨a,b,ry⟩
  ·rw[if_neg e,if_neg fun z=>e (a.trans z)];exact⟨a,b,c⟩
theorem KT.put {xs:List (List Key×Addr×Value)}(r:KT H kvs xs)(k:List Key){y:V}(hb:H b=some (.tup (k.map kV)))(ry:RelV y u):
  KT H (putK kvs k y) (storedH xs k b u):=by
 have e:(kvs.any fun a=>decide (a.1=k))=(atKey xs k).isSome:=by
  rw[Zx8,(r.val k).isSome_eq,Option.isSome_map]
 unfold putK storedH;rw[e]
 by_cases q:(atKey xs k).isSome=true
 ·rw[if_pos q,if_pos q];exact r.repl k ry
 ·rw[if_neg q,if_neg q];exact zdo r ⟨rfl,hb,ry⟩
theorem KT.keeps {xs:List (List Key×Addr×Value)}(r:KT H kvs xs)(ht:∀b ys,H b=some (.tup ys)->H' b=some (.tup ys)):KT H' kvs xs :=
 Paired.mapP r fun _ _ z=>⟨z.1,ht _ _ z.2.1,z.2.2⟩
section
variable {P:zm}{w:World}
theorem Wh7 {u:HO}(ok:HOk P w H h)(e:Rd H a u):ObjOk P w H h a u:=e.ok ok
theorem Xt8 {kvs:List (Key×V)}(ok:HOk P w H h)(e:Rd H a (.dK kvs)):kvs.length<=zp/\(a == zbd)=false/\∃vs,KV kvs vs/\h.DictOf (Zg0 P w) a vs :=
 Wh7 ok e
theorem Wu2 {kvs:List (Key×V)}(ok:HOk P w H h)(e:H a=some (.dK kvs)):kvs.length<=zp/\(a == zbd)=false/\∃vs,KV kvs vs/\h.DictOf (Zg0 P w) a vs:=Xt8 ok (.inl e)
theorem Yv4 (ok:HOk P w H h)(e:H a=some (.tup (ks.map kV))):(tupleKind (Zg0 P w)).is h ks a:=by
 obtain⟨_,b,r,o,f,d,n,c⟩:=(show ObjOk P w H h a _ from ok a _ e);exact⟨o,b.toArray,n,f,d,c,by simpa using Yl7 r⟩
theorem Xt7 (ok:HOk P w H h)(e:Rd H a (.dT kvs)):kvs.length<=zp/\(a == zbd)=false /\
  ∃xs,KT H kvs xs/\h.DictOfH (tupleKind (Zg0 P w)) a xs:=by
 obtain⟨z,y,xs,r,o,k,n,j,i,g,f,d⟩:=(show ObjOk P w H h a _ from Wh7 ok e);refine⟨z,y,xs,r,o,k,n,j,i,g,f,fun x b=>?_,d⟩
 have c:∀{l:List _} {m:List _},KT H l m->∀x∈m,(tupleKind (Zg0 P w)).is h x.1 x.2.1:=by
  intro l m q
  induction q with
  |nil=>simp
  |@cons p q ps qs hq t ih =>
   intro x b;rcases yk.mp b with e | b
   ·exact Yv4 ok (by simp_all)
   ·exact ih x b
 exact c r x b
theorem Wu1 (ok:HOk P w H h)(e:H a=some (.dT kvs)):kvs.length<=zp/\(a == zbd)=false /\
  ∃xs,KT H kvs xs/\h.DictOfH (tupleKind (Zg0 P w)) a xs:=Xt7 ok (.inl e)
end
def DGet (H:Hp)(a:Addr)(y:V)(r:Option V):Prop :=
 (∃kvs k,Rd H a (.dK kvs)/\y=kV k/\r=valV kvs k)∨∃kvs k b,Rd H a (.dT kvs)/\y=.ref b/\H b=some (.tup (k.map kV))/\r=valV kvs k
def DPut (H:Hp)(a:Addr)(y v:V)(H':Hp):Prop :=
 (∃kvs k,H a=some (.dK kvs)/\y=kV k/\kvs.length < zp/\H'=upd H a (.dK (putK kvs k v))) ∨
 ∃kvs k b,H a=some (.dT kvs)/\y=.ref b/\H b=some (.tup (k.map kV))/\kvs.length < zp/\H'=upd H a (.dT (putK kvs k v))
theorem DGet.k {kvs:List (Key×V)}{k:Key}(e:H a=some (.dK kvs)):DGet H a (kV k) (valV kvs k):=.inl ⟨kvs,k,.inl e,rfl,rfl⟩
theorem DPut.k {kvs:List (Key×V)}{k:Key}{v:V}(e:H a=some (.dK kvs))(hl:kvs.length < zp):DPut H a (kV k) v (upd H a (.dK (putK kvs k v))):=.inl ⟨kvs,k,e,rfl,hl,rfl⟩
section
variable {y v:V}{r:Value}{o:Option V}{E:Value->Shared->Prop}
theorem Inv.big (I:Inv X pins σ H s):zbd < s.heap.objs.size:=by
 have h  := (I.mod.glob.keeps I.bk).lt;exact Nat.lt_trans (by decide) h
theorem Xm1 (hu:A.units+1 < cLine)(I:Inv X pins σ H s)(g:DGet H a y (some v))(ry:RelV y u)(h:∀w' s',Inv X pins σ H s'->RelV v w'->Q w' s') :
  wpAny (model X.prog X.w) A (getItem (.ref a) u) Q E s:=by
 rcases g with ⟨m,k,e,i,l⟩ | ⟨m,k,b,e,i,x,l⟩
 ·subst i
  obtain⟨z,t,B,d,j⟩:=Xt8 I.hok e;obtain⟨w',f,c⟩:=RelO.some_of (by rw[l];exact d.val k);exact wpAny_getItem_of (Yz8 ry) j.mapOf f (h w' _ (I.tok _) c)
 ·subst i
  cases (ry);obtain⟨z,t,q,d,j⟩:=Xt7 I.hok e;obtain⟨w',f,c⟩:=RelO.some_of (o:=(atKey q k).map (·.2)) (by rw[l];exact d.val k);obtain⟨p,r,n⟩:=yab.mp f;refine wpAny_getItem_heap (by assumption) (Yv4 I.hok x) j r ?_;rw[n];exact h w' _ (I.tok _) c
theorem d_in (hu:A.units+1 < cLine)(I:Inv X pins σ H s)(g:DGet H a y o)(ry:RelV y u)(h:∀s',Inv X pins σ H s'->Q (.bool o.isSome) s') :
  wpAny (model X.prog X.w) A (yaj .In u (.ref a)) Q E s:=by
 rcases g with ⟨j,k,e,f,l⟩ | ⟨j,k,b,e,f,m,l⟩
 ·subst f
  obtain⟨z,d,p,c,i⟩:=Xt8 I.hok e;refine wpAny_in_of (Yz8 ry) d i.mapOf ?_;rw[<- (c.val k).isSome_eq,<- l];exact h _ (I.tok _)
 ·subst f
  cases (ry);obtain⟨z,d,n,c,i⟩:=Xt7 I.hok e;refine wpAny_in_heap (by assumption) (Yv4 I.hok m) d i ?_;have q:=(c.val k).isSome_eq;rw[Option.isSome_map] at q;rw[<- q,<- l];exact h _ (I.tok _)
theorem Xm0 (I:Inv X pins σ H s)(mu:Mut (H a))(hs:ybm a s.heap h')(he:∃q,h'.get? a=some q)(new:ObjOk X.prog X.w (upd H a ob) h' a ob):
  Inv X pins σ (upd H a ob) { s with heap:=h',toks:=t' } :=
 I.write mu (.inl rfl) (fun b q c z=>(hs.2 b c).trans z) he new
theorem Wq6 {kvs:List (Key×V)}{vs:List (Key×Value)}(z:kvs.length<=zp)(hd:(a == zbd)=false)(rel:KV kvs vs)(dd:h'.DictOf (Zg0 P w) a vs):
  ObjOk P w H' h' a (.dK kvs):=⟨z,hd,vs,rel,dd⟩
end
def NoSl (i:Expr):Prop:=∀ov iv,subscripted i false ov iv=operate [ov,iv] (getItem ov iv)
theorem Xd6 {T id:String}(hl:typeLookup (.type T) "__getitem__"=pure (some (.builtin id)))(hs:NoSl slice)(h:wpAny (model prog w) A (eval value env) (fun o s₁=>wpAny (model prog w) A (eval slice env) (fun i s₂=>s₂.TypeIs o T/\wpAny (model prog w) A (getItem o i) Q E s₂) E s₁) E s):
  wpAny (model prog w) A (eval (.Subscript value slice pos) env) Q E s:=by
 refine Subscript_ (yat h (fun o s₁ h₁=>yat h₁ (fun i s₂ h₂=>?_) fun _ _ x=>x) fun _ _ x=>x);obtain⟨b,h₂⟩:=h₂;refine ya ?_;refine ya (wpAny_specialOf b hl ?_)
 have a:wpAny (model prog w) A (subscripted slice false o i) (fun r s₃=>wpAny (model prog w) A (letTemporaryGo value o r >>= fun _=>pure r) Q E s₃) E s₂:=by
  rw[hs o i];exact wpAny_operating (yat h₂ (fun r s₃ h₃=>ya (wpAny_letTemporaryGo (ye h₃))) fun _ _ x=>x)
 first
  |exact ye (ya a)
  |exact ya _
  |exact ya a
theorem Yr8 {y:V}{o:Option V}(I:Inv X pins σ H s)(g:DGet H a y o):s.TypeIs (.ref a) "dict":=by
 rcases g with ⟨d,k,e,_,_⟩ | ⟨d,k,b,e,_,_,_⟩
 ·obtain⟨_,_,h,_,c⟩:=Xt8 I.hok e
  exact c.typeIs
 ·obtain⟨_,_,f,_,c⟩:=Xt7 I.hok e
  exact c.typeIs
def Yo3 (td ty:TE):TE:=fun σ H Q=>td σ H fun x H1=>ty σ H1 fun y H2=>∃a v,x=.ref a/\DGet H2 a y (some v)/\Q v H2
def tDIn (ty td:TE):TE:=fun σ H Q=>ty σ H fun y H1=>td σ H1 fun x H2=>∃a o,x=.ref a/\DGet H2 a y o/\Q (.bl o.isSome) H2
section
variable {o i e value:Expr}{td ty tv:TE}
theorem Xg6 (hu:X.A.units+1 < cLine)(ho:PE X o td)(hi:PE X i ty)(hs:NoSl i):PE X (.Subscript o i pos) (Yo3 td ty):=by with_unfolding_all
 intro b s c H Q I h;refine Xd6 PySem.F.slot_dict_getitem.lookup hs (thn (ho b s c H _ I h) fun u s1 ⟨x,H1,I1,rx,q1⟩=>thn (hi b s1 c H1 _ I1 q1) fun r q f=>?_);obtain⟨y,m,e,j,a,v,ex,g,k⟩:=f;subst ex;obtain rfl:u=yay a:=rx;exact⟨Yr8 e g,Xm1 hu e g j fun n p l d=>⟨v,m,l,d,k⟩⟩
theorem Wi5 (hu:X.A.units+1 < cLine)(hi:PE X i ty)(ho:PE X o td):PC X .In i o (tDIn ty td):=by with_unfolding_all
 intro b s c H Q I h;refine thn (hi b s c H _ I h) fun iv s1 ⟨y,H1,I1,ry,q1⟩=>thn (ho b s1 c H1 _ I1 q1) fun u n d=>?_;obtain⟨x,l,k,e,a,p,ex,g,f⟩:=d;subst ex;obtain rfl:u=yay a:=e;exact d_in hu k g ry fun m j=>⟨.bl _,l,j,rfl,f⟩
end
section
variable {κ:Type}[DecidableEq κ]
theorem Wa8:∀{l:List κ} {k:κ},l.Nodup->¬k∈l->(l++[k]).Nodup
 | [],k,_,_=>by simp
 |a::r,k,h,hk=>by
  grind
end
end L2
set_option maxHeartbeats 4000000
namespace L2
open PySem PySem.Spec PyProof.Rows
section
inductive TyX (K:W.Frag)(H:Hp):V->Value->Prop where
 |of {x:V} {t:Value} (h:TyOf K H x t):TyX K H x t
 |tupK {a:Addr} {xs:List V} (h:SqT K H a xs):TyX K H (.ref a) (.type "tuple")
 |lstK {a:Addr} {xs:List V} (h:SqL K H a xs):TyX K H (.ref a) (.type "list")
def rIsi (K:W.Frag):List V->Hp->VK->Prop:=fun xs H Q=>∃x T t b,xs=[x,.ty T]/\TyX K H x t/\W.kitOne K t (.type T)=some b/\Q (.bl b) H
theorem Yw8:Zv6 X (.builtin "isinstance") (rIsi X.K):=by
 intro p s v H j w Q I r h;obtain⟨x,T,t,b,rfl,l,e,q⟩:=h;obtain⟨u,c,rfl,f,m⟩:=Xp1 r;cases (m)
 cases l with
 |of h=>exact Xk5 I f h e fun d=>⟨.bl b,H,I.tok d,rfl,q⟩
 |@tupK a j h =>
  cases (f);obtain⟨k,_,⟨o,i,g,_⟩,_⟩:=I.tuple h;exact yca W.kitx_tuple I.kIn ⟨o,i,g⟩ e (by simp) fun d=>⟨.bl b,H,I.tok d,rfl,q⟩
 |@lstK a j h =>
  cases (f);obtain⟨k,_,⟨o,n,i,g,_⟩,_⟩:=I.list h;exact yca W.kitx_list I.kIn ⟨o,i,g⟩ e (by simp) fun d=>⟨.bl b,H,I.tok d,rfl,q⟩
theorem Yv1 (K:W.Frag)(T:String):W.kitOne K (.type T) (.type T)=some true:=by
 unfold W.kitOne;simp
def Yp4:R2:=fun x y H Q=>∃z n,x=.str z/\y=.int n/\z.length<=1000/\-1000<=n/\n<=1000/\Q (.str (Txt.mul z n)) H
theorem Yq2 (h1:z.length<=1000)(h2:-1000<=n)(h3:n<=1000):MulOk z n:=by
 refine⟨?_,fun c b=>?_,fun c b=>?_⟩
 ·have a:¬n < -(2 ^ 63):=by omega
  rw[decide_eq_false a,decide_eq_false (by omega)];rfl
 ·have:(1000)<=(2 ^ 63 - 1) / n:=by
   rw[Int.le_ediv_iff_mul_le (by omega)];omega
  omega
 ·have:z.length*n.toNat<=1000*1000:=Nat.mul_le_mul h1 (by omega)
  unfold Builtin.Str.tooLong;rw[decide_eq_false];have e:=sizeLine_eq;omega
theorem Wa2:OpR X (zbx .Mult) Yp4:=by
 intro d s i H x y v u Q I c b h;obtain⟨z,n,rfl,rfl,g,f,e,q⟩:=h;obtain⟨t,rfl⟩:=c;obtain⟨a,rfl⟩:=b;exact SB.mul (Yq2 g f e) fun a k=>⟨.str _,H,I.tok k,⟨_,rfl⟩,q⟩
def rSlS:V->Option Int->Option Int->Hp->VK->Prop:=fun x lo hi H Q=>∃z,x=.str z/\z.length<=zp/\Q (.str (zbi z lo hi)) H
theorem Xh0 {o:Option Int}(p:IsPart v o):∃l:Option (Int×Tok),v=partValue l/\l.map (·.1)=o:=by
 cases p with
 |none=>exact⟨none,rfl,rfl⟩
 |int i t=>exact⟨some (i,t),rfl,rfl⟩
theorem Xv1:SlR X rSlS:=by
 intro d s j H x v n m r w p Q I a f c b h;obtain⟨z,rfl,e,q⟩:=h;obtain⟨t,rfl⟩:=a;obtain⟨l,rfl,i⟩:=Xh0 c;obtain⟨u,rfl,g⟩:=Xh0 b;refine⟨"str",_,F.slot_str_getitem.lookup,typeIs_str _ _ _,wpAny_getItem_str_slice (st:=none) f rfl ?_⟩;refine post_val_or_str ⟨?_,fun o k=>?_⟩
 ·exact zi (Txt.slice_le z _ _) e
 ·subst i g
  exact⟨.str _,H,I.tok k,⟨_,rfl⟩,q⟩
theorem Xr2 (its:List Value):slicePick its.toArray none none (some (-1))=its.reverse.toArray:=by
 unfold slicePick
 have e:zcw none none (some (-1)) its.toArray.size=((its.length:Int) - 1,-1,-1):=by
  simp[zcw]
 rw[e]
 have r:sliceRange ((its.length:Int) - 1) (-1) (-1)=(yac its.length).map fun k=>its.length - 1 - k:=by
  unfold sliceRange
  have c:(if (-1:Int) > 0 then (if ((its.length:Int) - 1) < -1 then (-1 - ((its.length:Int) - 1)+-1 - 1) / -1 else 0) else (if ((its.length:Int) - 1) > -1 then (((its.length:Int) - 1) - -1 - -1 - 1) / (- -1) else 0)).toNat=its.length:=by
   rw[if_neg (by decide)]
   by_cases h:((its.length:Int) - 1) > -1
   ·rw[if_pos h]
    have:(((its.length:Int) - 1) - -1 - -1 - 1) / (- -1)=its.length:=by
     have:(- (-1:Int))=1:=rfl;rw[this,Int.ediv_one];omega
    rw[this];simp
   ·rw[if_neg h];simp;omega
  show (yac (if (-1:Int) > 0 then (if _ < -1 then _ / -1 else 0) else _).toNat).map _=_;rw[c];apply List.map_congr_left;omega
 rw[r,List.filterMap_map]
 congr 1
 apply ybt;intro i
 have o:(yac its.length).filterMap ((its.toArray[·]?) ∘ fun k=>its.length - 1 - k)=its.reverse:=by
  have d:∀(n:Nat) (f:Nat->Option _) (g:Nat->Value),(∀k,k < n->f k=some (g k))->(yac n).filterMap f=(yac n).map g:=by
   intro n f g q
   have m:∀l:List Nat,(∀k∈l,f k=some (g k))->l.filterMap f=l.map g:=by
    intro l
    induction l with
    |nil=>intro _;rfl
    |cons k l ih =>
     intro h;rw[zco,h k zr,ybg,ih fun j p=>h j (yn _ p)]
   exact m _ fun k a=>q k (by simp_all)
  rw[d _ _ (fun k=>its.reverse.getD k .none) (fun k a=>by
   simp[a])]
  apply List.ext_getElem
  ·simp
  ·intro k b s
   simp at b;simp[b]
 rw[o]
def tRev (K:W.Frag)(te ts:TE):TE:=fun σ H Q=>te σ H fun x H1=>ts σ H1 fun y H2=>∃a xs,x=.ref a/\y=.int (-1)/\SqL K H2 a xs/\∀p,H2 p=none->Q (.ref p) (upd H2 p (.lst xs.reverse))
theorem Wi2 {e st:Expr}(he:PE X e te)(hst:PE X st ts):PE X (.Subscript e (.Slice none none (some st) p2) pos) (tRev X.K te ts):=by with_unfolding_all
 intro c s d H Q I h;refine Subscript_ (thn (he c s d H _ I h) fun v k f=>?_);obtain⟨x,D,B,m,p⟩:=f;refine wpAny_Slice ?_;rw[evalPart_none,evalPart_some];refine ye (ye (thn (hst c k d D _ B p) fun J i f=>?_));obtain⟨y,C,A,l,n⟩:=f;obtain⟨a,G,rfl,rfl,w,q⟩:=n;cases m;obtain⟨t,rfl⟩:=l;have g:Inv X _ d C { i with heap:=i.heap.push { cls:=.type "slice",data:=.fields #[.none,.none,.int (-1) t] } }:=A.kept fun b u q=>yb _ q;obtain⟨F,r,j,L⟩:=g.list w;have z:=r.length;refine tail_any (ops:=[.ref a,.ref _]) j.isList.typeIs slot_list_getitem.lookup ?_ rfl;refine wpAny_getItem_list_slice j.isList (Heap.IsSliceOf.new ..) .none .none (.int _ _) (by simp) ?_ (by simp_all);rw[Xr2];refine⟨.ref _,_,g.laid (o:=.lst _) (fun b u q=>yb _ q) (yo _) ?_,rfl,q _ (g.hok.fresh (yo _))⟩;exact⟨by simp_all,_,0,r.reverse,yt _ rfl⟩
theorem Zl5:∀{ys:List Str} {us:List Value},Vals (ys.map V.str) us->yda us ys
 | [],_,r=>by cases r;exact .nil
 |y::ys,_,r=>by
  cases r with
  |cons h t =>
   obtain⟨tk,rfl⟩:=h;exact .cons _ _ (Zl5 t)
def Yp6 (K:W.Frag):V->List V->Hp->VK->Prop:=fun x vs H Q=>∃sep l ys,x=.str sep/\vs=[.ref l]/\SqL K H l (ys.map V.str)/\(ys.map (·.length)).sum+ys.length*sep.length<=16777216/\Q (.str (Txt.join sep ys)) H
theorem Wa9:MtM X "str.join" (Yp6 X.K):=by
 intro d s m H x o v p Q I a b h;obtain⟨i,l,n,rfl,rfl,f,e,q⟩:=h;obtain⟨t,rfl⟩:=a;obtain⟨u,rfl,c⟩:=b.one;cases c;obtain⟨j,r,g,_⟩:=I.list f;exact join_list g.isList (Zl5 (by omega)) e fun w k=>⟨.str _,H,I.tok k,⟨_,rfl⟩,q⟩
noncomputable abbrev TF:=Str->St->Hp->VK->Prop
def PF (X:Cx)(es:List Expr)(t:TF):Prop :=
 ∀(out:Str) (pins:List (Addr×Obj)) (s:Shared) (σ:St) (H:Hp) (Q:VK),Inv X pins σ H s->t out σ H Q->wpAny (model X.prog X.w) X.A (joinParts out (zcy es X.env)) (EP X pins σ Q) X.xe s
def tF0:TF:=fun out _ H Q=>out.length<=zp/\Q (.str out) H
def tFc (x:Str)(t:TF):TF:=fun out σ H Q=>(out++x).length<=zp/\t (out++x) σ H Q
def tFv (te:TE)(t:TF):TF:=fun out σ H Q=>te σ H fun v H1=>∃y,v=.str y/\y.length<=zp/\(out++y).length<=zp/\t (out++y) σ H1 Q
theorem Yt9:PF X [] tF0:=fun a b s c H Q I h=>joinParts_nil ⟨.str a,H,I.tok _,⟨_,rfl⟩,h.2⟩ h.1
theorem Ya9 {es:List Expr}{t:TF}(h:PF X es t)(hs:zcy (.Constant (.str x) j pos::es) X.env=eval (.Constant (.str x) j pos) X.env::zcy es X.env:=by rfl):PF X (.Constant (.str x) j pos::es) (tFc x t):=by
 intro d c s b H Q I a;refine joinParts_cons (Calls.Constant_str ?_);exact⟨a.1,h _ _ _ b H Q (I.tok _) a.2⟩
theorem Xv8 {e:Expr}{es:List Expr}{t:TF}(he:PE X e te)(h:PF X es t)(hs:zcy (.FormattedValue e (-1) none pos::es) X.env=eval (.FormattedValue e (-1) none pos) X.env::zcy es X.env:=by rfl):PF X (.FormattedValue e (-1) none pos::es) (tFv te t):=by with_unfolding_all
 intro n a s b H Q I j;rw[hs];refine joinParts_cons (FormattedValue_plain (thn (he a s b H _ I j) fun v r c=>?_));obtain⟨x,m,l,d,f⟩:=c;obtain⟨y,rfl,i,g,q⟩:=f;obtain⟨o,rfl⟩:=d;exact formatField_str (fun p k=>⟨g,h _ _ _ b m Q (l.tok k) q⟩) i
def tFs (t:TF):TE:=fun σ H Q=>t ybr σ H Q
theorem Yg6 {e1 e2:Expr}{es:List Expr}{t:TF}(h:PF X (e1::e2::es) t)(hs:zcy (e1::e2::es) X.env=eval e1 X.env::eval e2 X.env::zcy es X.env:=by rfl):PE X (.JoinedStr (e1::e2::es) pos) (tFs t):=by with_unfolding_all
 intro b s a H Q I c;exact h _ _ s a H Q I c
end
mutual
def Dn (K:W.Frag)(H:Hp):V->PyData->Prop
 |v,.none=>v=.non
 |v,.bool b=>v=.bl b
 |v,.int i=>v=.int i
 |v,.str x=>v=.str x
 |v,.list ds=>∃a xs,v=.ref a/\SqL K H a xs/\DnAll K H xs ds
 |v,.tuple ds=>∃a xs,v=.ref a/\SqT K H a xs/\DnAll K H xs ds
 | _,.dict _=>False
def DnAll (K:W.Frag)(H:Hp):List V->List PyData->Prop
 |xs,[]=>xs=[]
 |xs,d::ds=>∃x r,xs=x::r/\Dn K H x d/\DnAll K H r ds
end
def KeepT (K:W.Frag)(H H':Hp):Prop:=∀a xs,SqT K H a xs->SqT K H' a xs
mutual
noncomputable def noList:PyData->Bool
 | .list _=>false
 | .tuple ds=>noLists ds
 | .dict _=>false
 | _=>true
noncomputable def noLists:List PyData->Bool
 | []=>true
 |d::ds=>noList d&&noLists ds
end
mutual
theorem Dn.keepT {K:W.Frag}(k:KeepT K H H'):∀{d:PyData} {v:V},noList d=true->Dn K H v d->Dn K H' v d
 | .none,v,_,h=>by rw[Dn] at h ⊢;exact h
 | .bool _,v,_,h=>by rw[Dn] at h ⊢;exact h
 | .int _,v,_,h=>by rw[Dn] at h ⊢;exact h
 | .str _,v,_,h=>by rw[Dn] at h ⊢;exact h
 | .list _,v,n,h=>by rw[noList] at n;cases n
 | .dict _,v,n,h=>by rw[noList] at n;cases n
 | .tuple ds,v,n,h=>by
  rw[Dn] at h ⊢;rw[noList] at n;obtain⟨a,xs,e,hs,hd⟩:=h;exact⟨a,xs,e,k a xs hs,DnAll.keepT k n hd⟩
theorem DnAll.keepT {K:W.Frag}(k:KeepT K H H'):∀{ds:List PyData} {xs:List V},noLists ds=true->DnAll K H xs ds->DnAll K H' xs ds
 | [],xs,_,h=>by rw[DnAll] at h ⊢;exact h
 |d::ds,xs,n,h=>by
  rw[DnAll] at h ⊢;rw[noLists,zo] at n;obtain⟨x,r,e,h1,h2⟩:=h;exact⟨x,r,e,Dn.keepT k n.1 h1,DnAll.keepT k n.2 h2⟩
end
section
mutual
theorem Dn.reads (I:Inv X pins σ H s):∀{d:PyData} {v:V} {u:Value},Dn X.K H v d->RelV v u->∃as,Reads s.heap u d as
 | .none,v,u,h,r=>by rw[Dn] at h;subst h;cases (show u=yak from r);exact⟨_,.none⟩
 | .bool b,v,u,h,r=>by rw[Dn] at h;subst h;cases (show u=ydl b from r);exact⟨_,.bool b⟩
 | .int i,v,u,h,r=>by rw[Dn] at h;subst h;obtain⟨t,rfl⟩:=r;exact⟨_,.int i t⟩
 | .str x,v,u,h,r=>by rw[Dn] at h;subst h;obtain⟨t,rfl⟩:=r;exact⟨_,.str x t⟩
 | .dict _,v,u,h,r=>by rw[Dn] at h;exact h.elim
 | .list ds,v,u,h,r=>by
  rw[Dn] at h;obtain⟨a,xs,rfl,hs,hd⟩:=h;cases (show u=yay a from r);obtain⟨its,rv,⟨o,n,h1,h2,_,h3⟩,_⟩:=I.list hs;obtain⟨as,q⟩:=DnAll.reads I hd rv;exact⟨_,.list h1 h2 h3 (by simpa using q)⟩
 | .tuple ds,v,u,h,r=>by
  rw[Dn] at h;obtain⟨a,xs,rfl,hs,hd⟩:=h;cases (show u=yay a from r);obtain⟨its,rv,⟨o,h1,h2,n,h3⟩,_⟩:=I.tuple hs;obtain⟨as,q⟩:=DnAll.reads I hd rv;exact⟨_,.tuple h1 h2 h3 (by simpa using q)⟩
theorem DnAll.reads (I:Inv X pins σ H s):∀{ds:List PyData} {xs:List V} {us:List Value},DnAll X.K H xs ds->Vals xs us->∃as,ReadsAll s.heap us ds as
 | [],xs,us,h,r=>by rw[DnAll] at h;subst h;cases r;exact⟨_,.nil⟩
 |d::ds,xs,us,h,r=>by
  rw[DnAll] at h;obtain⟨x,r',rfl,h1,h2⟩:=h
  cases r with
  |cons r1 r2 =>
   obtain⟨as,q1⟩:=Dn.reads I h1 r1;obtain⟨bs,q2⟩:=DnAll.reads I h2 r2;exact⟨_,.cons q1 q2⟩
end
end
section
def rEqD (K:W.Frag)(neg:Bool):R2:=fun x y H Q=>∃d e,Dn K H x d/\Dn K H y e/\d.canLay0=true/\e.canLay0=true/\min d.depth e.depth<=150/\Q (.bl (if neg then !PyData.eqv d e else zax d e)) H
theorem Xh7 (hu:X.A.units+150 < cLine):OpR X (yaj .Eq) (rEqD X.K false):=by
 intro g s m H x y v u Q I b a h;obtain⟨d,e,l,k,j,i,n,q⟩:=h;obtain⟨p,f⟩:=l.reads I b;obtain⟨o,c⟩:=k.reads I a;exact W.cmp_ofEq (SeqAt.rcAt_reads f c j i (by omega) _ _ _ _ ⟨.bl _,H,I,rfl,q⟩)
theorem Zw3 (hu:X.A.units+150 < cLine):OpR X (yaj .NotEq) (rEqD X.K true):=by
 intro g s m H x y v u Q I b a h;obtain⟨d,e,l,k,j,i,n,q⟩:=h;obtain⟨p,f⟩:=l.reads I b;obtain⟨o,c⟩:=k.reads I a;exact W.cmp_ofNotEq (SeqAt.rcNeAt_reads f c j i (by omega) _ _ _ _ ⟨.bl _,H,I,rfl,q⟩)
end
theorem Zg7 (hr:Room k A):A.units+150 < cLine:=by have:=hr.un;omega
noncomputable def blk (X:Cx)(N':List Str)(scope:Scope)(cl:List (Str×Addr))(s:Shared)(H:Hp)(C:Addr)(ex:List Addr):Cx where
 prog:=X.prog
 w:=X.w
 K:=X.K
 mg:=X.mg
 base:=X.base
 A:=X.A
 N:=N'
 s₀:=s
 H₀:=H
 env:=compEnvC scope cl C X.env
 outer:=X.stack
 stack:=X.stack
 ex:=ex
 fn:=fun _=>false
 calm:=X.calm
 pn:=[]
 xe:=fun _ _=>False
structure BlkOk (X:Cx)(scope:Scope)(cl:List (Str×Addr))(N':List Str)(nt:Nat)(ci:List Nat):Prop where
 clos:closureFor scope X.env=pure cl
 cell:∀y∈scope.names,y.2≠.cell
 kind:scope.kind=.function
 names:∀y∈scope.names,y.2=.local->scope.names.lookup y.1=some .local
 sub:∀x c,cl.lookup x=some c->X.env.cells.lookup x=some c
 has:∀x,((relabel scope X.env).names.lookup x=some .cell∨(relabel scope X.env).names.lookup x=some .free)->∃c,cl.lookup x=some c
 len:N'.length=nt+ci.length
 cap:∀(j i:Nat),ci[j]?=some i->∃x,N'[nt+j]?=some x/\X.N[i]?=some x/\X.env.scope.names.lookup x=some .cell/\((relabel scope X.env).names.lookup x=some .cell∨(relabel scope X.env).names.lookup x=some .free)
noncomputable def capt (nt:Nat)(ci:List Nat)(σ:St):St:=yy nt none++ci.map fun i=>(σ[i]?).join
section
def Wk (σ σ':St):Prop:=σ'.length=σ.length/\∀(i:Nat) v,σ[i]?=some (some v)->σ'[i]?=some (some v)
theorem Ze2 {i:Nat}{x:V}(h:σ[i]?=some none):Wk σ (σ.set i (some x)):=by
 refine⟨by simp,fun j v e=>?_⟩
 by_cases hj:j=i
 ·grind
 ·rw[ydb (zar hj)];exact e
theorem Zz5 {x:V}{r:St}:Wk (none::r) (some x::r):=Ze2 (i:=0) rfl
theorem Wk.trans (a:Wk σ1 σ2)(b:Wk σ2 σ3):Wk σ1 σ3:=⟨b.1.trans a.1,fun i v e=>b.2 i v (a.2 i v e)⟩
theorem Wk.refl (σ:St):Wk σ σ:=⟨rfl,fun _ _ e=>e⟩
def lcW (K:W.Frag)(σ0:St)(J:It)(acc:Addr)(g:TG)(te:TE)(Q:VK)(W:Nat->Nat->List V->Hp->Prop):Prop :=
 ∀i m ys H2,W i m ys H2->H2 acc=some (.lst ys)/\ys.length < zp/\((J.stop i H2/\Q (.ref acc) H2) ∨
  (J.go i H2/\∀x H3,J.yld i H2 x H3->g x σ0 H3 fun σ4 H4=>Wk σ0 σ4/\te σ4 H4 fun y H5=>H5 acc=some (.lst ys)/\∃m',m' < m/\W (i+1) m' (ys++[y]) (upd H5 acc (.lst (ys++[y])))))
def tLC (K:W.Frag)(nt:Nat)(ci:List Nat)(wi:TI)(g:TG)(te:TE):TE:=fun σ H Q=>wi σ H fun J H1=>∀acc,H1 acc=none->∃W:Nat->Nat->List V->Hp->Prop,(∃m,W 0 m [] (upd H1 acc (.lst [])))/\lcW K (capt nt ci σ) J acc g te Q W
end
noncomputable def Itz (K:W.Frag)(a b:Addr):It :=
  ⟨fun i H=>∃xs ys x y,SqL K H a xs/\SqL K H b ys/\xs[i]?=some x/\ys[i]?=some y,
   fun i H v H'=>∃T x y,v=.ref T/\H T=none/\H'=upd H T (.tup [x,y])/\(∀xs,SqL K H a xs->xs[i]?=some x)/\∀ys,SqL K H b ys->ys[i]?=some y,
   fun i H=>∃xs ys,SqL K H a xs/\SqL K H b ys/\(xs.length<=i∨ys.length<=i)⟩
def Ws4 (z TI TO i1 i2 l1 l2:Addr)(i:Nat)(h:Heap):Prop :=
 IsZip h z TI TO .none/\IsPair h TI (.ref i1) (.ref i2)/\(∃a b,IsPair h TO a b)/\h.IsListIter i1 l1 i/\h.IsListIter i2 l2 i
theorem Xp3 (z TI TO i1 i2 l1 l2:Addr)(D:ZipApart z TI TO i1 i2 l1 l2):
    Turn P w K (.Tuple elts k0 tpos) (Itz K l1 l2) [z,TI,TO,i1,i2] z (Ws4 z TI TO i1 i2 l1 l2) where
  mem:=by simp
  obj:=fun i h st b hb=>by
    obtain⟨hz,hTI,⟨a,c,hTO⟩,⟨o1,e1,c1,d1⟩,⟨o2,e2,c2,d2⟩⟩:=st
    grind
  keep:=fun i h h' st k=>by
    obtain⟨hz,hTI,⟨a,c,hTO⟩,h1,h2⟩:=st;exact⟨k z (by simp) _ hz,k TI (by simp) _ hTI,⟨a,c,k TO (by simp) _ hTO⟩,h1.at fun o e=>k i1 (by simp) o e,h2.at fun o e=>k i2 (by simp) o e⟩
  item:=by
    intro X hP hw hK hc i pins s σ H E I hf st hg;subst hP hw hK;obtain⟨hz,hTI,⟨a,c,hTO⟩,h1,h2⟩:=st;obtain⟨xs,ys,x,y,q1,q2,hx,hy⟩:=hg;obtain⟨its1,rv1,p1,_⟩:=I.list q1;obtain⟨its2,rv2,p2,_⟩:=I.list q2;obtain⟨u1,hu1,ru1⟩:=rv1.get hx;obtain⟨u2,hu2,ru2⟩:=rv2.get hy;refine wpAny_pyNext_zip_item D hz hTI hTO h1 h2 p1.isList p2.isList (x:=u1) (y:=u2) (by simpa using hu1) (by simpa using hu2) fun h' a1 a2 a3 a4 a5 a6 kk=>?_;have hT:H s.heap.objs.size=none:=I.hok.fresh (yo _)
    have nch:∀b u,H b=some u->b ∉ [z,TO,i1,i2]:=fun b u e hb=>by
      have hb':b∈[z,TI,TO,i1,i2]:=by
        simp only[yk,ybe,or_false] at hb ⊢
        grind
      rw[(hf b hb').1] at e;cases e
    have kk':∀b o,b ∉ [z,TO,i1,i2]->s.heap.get? b=some o->h'.get? b=some o:=fun b o hb e=>by
      simp_all
    have ltT:∀b o,s.heap.get? b=some o->b≠s.heap.objs.size:=fun b o e=>zv (zj e)
    have hokT:HOk X.prog X.w (upd H s.heap.objs.size (.tup [x,y])) h':=fun b ob e=>by
      by_cases hb:b=s.heap.objs.size
      · subst hb
        rw[Za1] at e;cases e;exact⟨by show 2<=zp;decide,[u1,u2],.cons ru1 (.cons ru2 .nil),_,a5,rfl,_,rfl⟩
      · rw[Zb3 hb] at e
        refine (I.hok b ob e).stay (fun c v hcv q=>kk' c v ?_ q) (fun c q=>by rw[Zb3 (Za9 q hT)];exact q) fun c xs q=>by rw[Zb3 (Za9 q hT)];exact q
        rcases hcv with rfl | hcv
        · exact nch _ _ e
        · exact nch _ _ hcv
    have I1:Inv X pins σ (upd H s.heap.objs.size (.tup [x,y])) { s with heap:=h' }:=by
      refine I.step (g':=s.gens) (d':=s.drawn) (t':=s.toks) (ch:=[z,TO,i1,i2]) (fun b hb=>?_) (fun b o _ _ hb e _=>kk' b o hb e) (fun b o _ _ hb e _=>⟨o.slots,kk' b o hb e⟩) (fun b o _ e n=>by rw[Zb3 (ltT b o e)];exact n) (fun b o hb e=>⟨o,kk' b o hb e⟩)
        (fun b xs q=>by rw[Zb3 (Za9 q hT)];exact q) (fun b o u q=>by rw[Zb3 (Za9 q hT)];exact q) (fun b ps q=>⟨#[],by rw[Zb3 (Za9 q hT),q];simp⟩) (fun m hm=>?_) hokT I.bare
      · have hb':b∈[z,TI,TO,i1,i2]:=by
          grind
        obtain⟨f0,f1,f2,f3,f4,f5⟩:=hf b hb';exact⟨f3,f1,f4,f5⟩
      · obtain⟨o,es,ep,ho,r⟩:=hm
        refine⟨o,es,ep,kk' _ o ?_ ho,r⟩;simp;exact⟨(hf z (by simp)).2.1.symm,(hf TO (by simp)).2.1.symm,(hf i1 (by simp)).2.1.symm,(hf i2 (by simp)).2.1.symm⟩
    refine⟨_,rfl,wpAny_letOwnedTupleGo_zip a1 fun h'' hz'' sb=>?_⟩;obtain⟨f0,f1,f2,f3,f4,f5⟩:=hf z (by simp)
    have ltz:∀b∈[z,TI,TO,i1,i2],b≠s.heap.objs.size:=fun b hb=>by
      simp at hb;obtain⟨o1,e1,_⟩:=h1;obtain⟨o2,e2,_⟩:=h2;rcases hb with rfl | rfl | rfl | rfl | rfl
      · exact ltT _ _ hz
      · exact ltT _ _ hTI
      · exact ltT _ _ hTO
      · exact ltT _ _ e1
      · exact ltT _ _ e2
    have fn:∀b∈[z,TI,TO,i1,i2],upd H _ (.tup [x,y]) b=none:=fun b hb=>by rw[Zb3 (ltz b hb)];exact (hf b hb).1
    have I2:Inv X _ σ _ { s with heap:=h'' }:=I1.turned (fun b o hb e=>(sb.2 b hb).trans e) (fn z (by simp)) f1 f3 f4 f5;refine⟨.ref _,_,I2,rfl,⟨_,x,y,rfl,hT,rfl,fun ys hy'=>by rw[I.list_inj hy' q1];exact hx,fun ys hy'=>by rw[I.list_inj hy' q2];exact hy⟩,⟨hz'',?_,⟨u1,u2,?_⟩,?_,?_⟩,fn⟩
    · exact (sb.2 TI D.TIz).trans (kk' TI _ (by simp;exact⟨D.TIz,D.TITO,D.TIi1,D.TIi2⟩) hTI)
    · exact (sb.2 TO D.TOz).trans a2
    · exact a3.extBut sb.extBut D.i1z
    · exact a4.extBut sb.extBut D.i2z
  done:=by
    intro X hP hw hK hc i pins s σ H E I hf st hg;subst hP hw hK;obtain⟨hz,hTI,⟨a,c,hTO⟩,h1,h2⟩:=st;obtain⟨xs,ys,q1,q2,hend⟩:=hg;obtain⟨its1,rv1,p1,_⟩:=I.list q1;obtain⟨its2,rv2,p2,_⟩:=I.list q2;have e1:=rv1.length;have e2:=rv2.length;refine wpAny_pyNext_zip_end (I.ok.hd hc) D hz hTI hTO h1 h2 p1.isList p2.isList ?_ fun h' kk=>⟨rfl,?_⟩
    · rcases hend with q | q
      · exact .inl (by simp;omega)
      · exact .inr (by simp;omega)
    · have nch:∀b u,H b=some u->b ∉ [z,TO,i1,i2]:=fun b u e hb=>by
        have hb':b∈[z,TI,TO,i1,i2]:=by
          grind
        rw[(hf b hb').1] at e;cases e
      have kk':∀b o,b ∉ [z,TO,i1,i2]->s.heap.get? b=some o->h'.get? b=some o:=fun b o hb e=>by
        simp_all
      have hok'  := fun b ob e=>by
        refine (I.hok b ob e).stay (fun c v hcv q=>kk' c v ?_ q) (fun c q=>q) fun c xs q=>q;rcases hcv with rfl | hcv
        · exact nch _ _ e
        · exact nch _ _ hcv
      refine I.step (fun b hb=>?_) (fun b o _ _ hb e _=>kk' b o hb e) (fun b o _ _ hb e _=>⟨o.slots,kk' b o hb e⟩) (fun b o _ e n=>n) (fun b o _ e=>?_)
        (fun b xs q=>q) (fun b o u q=>q) (fun b ps q=>(by simp_all)) (fun m hm=>?_) hok' I.bare
      · have hb':b∈[z,TI,TO,i1,i2]:=by
          grind
        obtain⟨f0,f1,f2,f3,f4,f5⟩:=hf b hb';exact⟨f3,f1,f4,f5⟩
      · rename_i hb
        exact⟨o,kk' b o hb e⟩
      · obtain⟨o,es,ep,ho,r⟩:=hm
        refine⟨o,es,ep,kk' _ o ?_ ho,r⟩;simp;exact⟨(hf z (by simp)).2.1.symm,(hf TO (by simp)).2.1.symm,(hf i1 (by simp)).2.1.symm,(hf i2 (by simp)).2.1.symm⟩
  self:=fun _ _ _ _ _ st h=>wpAny_pyIter_zip st.1 h
section
def iZip (K:W.Frag)(ta:TA):TI:=fun σ H R=>ta σ H fun vs H1=>∃a b,vs=[.ref a,.ref b]/\(∃xs,SqL K H1 a xs)/\(∃ys,SqL K H1 b ys)/\R (Itz K a b) H1
theorem Yd5 {a b:Expr}{ta:TA}{p:Pos}{elts:List Expr}(hg:Gl X "zip")(hm:X.mg "zip"=none)(ha:PA X [a,b] ta)(hs:zx [a,b] X.env=[(false,eval a X.env),(false,eval b X.env)]:=by rfl)(hs2:zx [b] X.env=[(false,eval b X.env)]:=by rfl):
  PI X (.Tuple elts k0 tpos) (.Call (.Name "zip" p) [a,b] [] pos) (iZip X.K ta):=by with_unfolding_all
 intro f s g H R I h;refine Call_ (Zt7 I hg hm (by rfl) (zal (thn (ha pos f s g H _ I h) fun us s1 ⟨vs,H1,I1,r1,d⟩=>?_) (by simp_all) (by rw[hs2];rfl)));obtain⟨n,m,e,⟨M,d⟩,⟨L,x⟩,q⟩:=d;subst e;obtain⟨O,N,rfl,j,i⟩:=Xp1 r1;cases j;cases i;obtain⟨z,J,l,_⟩:=I1.list d;obtain⟨y,G,k,_⟩:=I1.list x
 have D:n < s1.heap.objs.size:=by obtain⟨_,e,_⟩:=l.isList;exact zj e
 have C:m < s1.heap.objs.size:=by obtain⟨_,e,_⟩:=k.isList;exact zj e
 refine call_zip_2 l.isList k.isList fun B o w v t r _ A=>wpAny_pyIter_zip o ?_;have F:Inv X _ g H1 { s1 with heap:=B }:=I1.kept A;refine⟨_,_,_,_,H1,rfl,F,Xp3 _ _ _ _ _ n m (zipApart_new D C),⟨o,w,⟨_,_,v⟩,t,r⟩,fun b u=>?_,q⟩
 have c:s1.heap.objs.size<=b:=by
  simp at u
  rcases u with rfl | rfl | rfl | rfl | rfl<;>omega
 exact I1.fpOk c (I1.hok.fresh c)
end
end L2
namespace PySem
open Sem (wp)
namespace F
end F
end PySem
namespace L2
open PySem PySem.Spec PyProof.Rows
structure KDict (K:W.Frag)(w:World)(a:Addr)(kvs:List (Str×V)):Prop where
 ex:∃(o:Obj) (es:Array ydf) (ep:Nat),K.lookup a=some o/\o.ExactDict/\o.data=.dict es ep/\Paired (fun (p:Str×V) (e:ydf)=>(∃tk,e.key=.str p.1 tk)/\e.hash=yck w.params p.1/\RelV p.2 e.val) kvs es.toList
 nd:(kvs.map (·.1)).Nodup
 ns:(a == zbd)=false
noncomputable def kvK (kvs:List (Str×V)):List (Key×V):=kvs.map fun p=>(zay p.1,p.2)
section
variable {kvs:List (Str×V)}
theorem Yv5 :∀{kvs:List (Str×V)} {es:List ydf},Paired (fun (p:Str×V) (e:ydf)=>(∃tk,e.key=.str p.1 tk)/\e.hash=yck w.params p.1/\RelV p.2 e.val) kvs es ->
  (∀e∈es,∃k,(Zg0 P w).is k e.key=true/\e.hash=(Zg0 P w).hash k)/\Pairs (Zg0 P w) es (List.zip (kvs.map fun p=>(zay p.1:Key)) (es.map (·.val)))/\KV (kvK kvs) (List.zip (kvs.map fun p=>(zay p.1:Key)) (es.map (·.val)))
 | [],_,r=>by cases r;exact⟨(fun _ h=>nomatch h),.nil,.nil⟩
 |p::kvs,_,r=>by
  cases r with
  |@cons _ e _ es h t =>
   obtain⟨⟨tk,h1⟩,h2,h3⟩:=h;obtain⟨q1,q2,q3⟩:=Yv5 t
   have hi:(Zg0 P w).is (zay p.1) e.key=true:=by rw[h1];exact Yb5 P w p.1 tk
   refine⟨fun e' he=>?_,.cons hi rfl q2,.cons ⟨rfl,h3⟩ q3⟩;rcases yk.mp he with rfl | he
   ·exact⟨zay p.1,hi,h2⟩
   ·exact q1 e' he
theorem KDict.of (D:KDict X.K X.w a kvs)(I:Inv X pins σ H s):∃vs,KV (kvK kvs) vs/\s.heap.DictOf (Zg0 X.prog X.w) a vs:=by
 obtain⟨o,f,k,j,ex,d,b⟩:=D.ex;obtain⟨i,h,g⟩:=Yv5 b;refine⟨_,g,o,f,k,I.kIn a o j,ex,d,fun e m=>i e (by simp_all),h,?_⟩
 have e:(List.zip (kvs.map fun p=>(zay p.1:Key)) (f.toList.map (·.val))).map (·.1)=kvs.map fun p=>(zay p.1):=by
  rw[List.map_fst_zip];have:=zc b
  simp_all
 rw[e]
 have c:∀l:List (Str×V),(l.map (·.1)).Nodup->(l.map fun p=>(zay p.1:Key)).Nodup:=by
  grind
 exact c kvs D.nd
theorem Ys7 (kvs:List (Str×V))(x:Str):valV (kvK kvs) (zay x)=kvs.lookup x:=by
 unfold valV kvK
 induction kvs with
 |nil=>rfl
 |cons p r ih =>
  grind
def tKD (kvs:List (Str×V))(ti:TE):TE:=fun σ H Q=>ti σ H fun y H1=>∃x v,y=.str x/\kvs.lookup x=some v/\Q v H1
theorem Xr5 {i:Expr}{ti:TE}{p:Pos}(D:KDict X.K X.w a kvs)(hg:Gl X name)(hm:X.mg name=some (.ref a))(hi:PE X i ti)(hs:NoSl i:=by exact fun _ _=>rfl)(hd:(name == ("__debug__":Str))=false:=by decide):
  PE X (.Subscript (.Name name p) i pos) (tKD kvs ti):=by with_unfolding_all
 intro b s f H Q I h;refine Xd6 PySem.F.slot_dict_getitem.lookup hs (Zl3 I hg hm (thn (hi b s f H _ I h) fun iv s2 ⟨y,H2,I2,ry,x,v,ey,hl,q2⟩=>?_) hd);subst ey;obtain⟨g,d,e⟩:=D.of I2;obtain⟨l,j,c⟩:=RelO.some_of (o:=valueAt g _) (by rw[<- hl,<- Ys7];exact d.val (zay x));exact⟨e.typeIs,wpAny_getItem_of (Yz8 (k:=zay x) ry) e.mapOf j ⟨v,H2,I2.tok _,c,q2⟩⟩
def Zr1 (kvs:List (Str×V))(ti:TE):TE:=fun σ H Q=>ti σ H fun y H1=>∃x,y=.str x/\Q (.bl (!(kvs.lookup x).isSome)) H1
theorem Xg9 {i:Expr}{ti:TE}{p:Pos}(D:KDict X.K X.w a kvs)(hg:Gl X name)(hm:X.mg name=some (.ref a))(hi:PE X i ti)(hd:(name == ("__debug__":Str))=false:=by decide):
  PC X .NotIn i (.Name name p) (Zr1 kvs ti):=by with_unfolding_all
 intro b s e H Q I h;refine thn (hi b s e H _ I h) fun r q f=>?_;obtain⟨y,n,c,g,x,l,j⟩:=f;subst l;refine Zl3 c hg hm ?_ hd;obtain⟨o,d,m⟩:=D.of c;refine wpAny_notIn_of (Yz8 (k:=zay x) g) D.ns m.mapOf ?_;rw[<- (d.val _).isSome_eq,Ys7];exact⟨.bl _,n,c.tok _,rfl,j⟩
end
section
theorem Yc8 (h:∀y∈scope.names,y.2≠.free):(relabel scope env).names=scope.names:=by
 have a:∀l:List (Str×zcn),(∀y∈l,y.2≠.free)->l.map (fun (n,k)=>if k == zap&&env.scope.kind == .function&&env.kindOf n == some .cell then (n,zby) else (n,k))=l:=by
  intro l
  induction l with
  |nil=>intro _;rfl
  |cons y r ih =>
   intro h
   simp_all
 exact a _ h
theorem blk0 (hc:∀y∈scope.names,y.2≠.cell)(hf:∀y∈scope.names,y.2≠.free)(hk:scope.kind=.function)(hn:∀y∈scope.names,y.2=.local->scope.names.lookup y.1=some .local)(_:X.Ok):BlkOk X scope [] N' N'.length [] where
 clos:=closureFor_none hf
 cell:=hc
 kind:=hk
 names:=hn
 sub:=fun _ _ h=>by cases h
 has:=fun x h=>by
  rw[Yc8 hf] at h;rcases h with h | h
  ·exact absurd rfl (hc _ (zak h))
  ·exact absurd rfl (hf _ (zak h))
 len:=by simp
 cap:=fun j i h=>by simp at h
noncomputable def Zn1 (cells:List (Str×Addr)):List (Str×zcn)->List (Str×Addr)->List (Str×Addr)
 | [],acc=>acc
 | (n,k)::r,acc=>if k == .free then Zn1 cells r ((n,(cells.lookup n).getD 0)::acc) else Zn1 cells r acc
theorem Yi6:∀(names:List (Str×zcn)) (acc:List (Str×Addr)),(∀y∈names,y.2=.free->∃c,env.cells.lookup y.1=some c) ->
  (forIn names acc fun (x:Str×zcn) cs=>(match x with | (name,kind)=>if (kind == .free)=true then do let c <- cellOf env name;pure (ForInStep.yield ((name,c)::cs)) else pure (ForInStep.yield cs):Sem (ForInStep (List (Str×Addr)))))=pure (Zn1 env.cells names acc)
 | [],acc,_=>rfl
 | (n,k)::r,acc,h=>by
  rw[List.forIn_cons];unfold Zn1
  by_cases hk:(k == zap)=true
  ·obtain⟨c,hc⟩:=h (n,k) zr (by simpa using hk)
   have e:cellOf env n=pure c:=by unfold cellOf;simp_all
   have hc'  := hc;simp only[hk,e,hc'];exact Yi6 r _ fun y hy=>h y (yn _ hy)
  ·simp only[hk,if_false]
   exact Yi6 r acc fun y hy=>h y (yn _ hy)
theorem Zn0 (h:∀y∈scope.names,y.2=.free->∃c,env.cells.lookup y.1=some c):closureFor scope env=pure (Zn1 env.cells scope.names []):=by
 unfold closureFor;have e:=Yi6 _ [] h
 simp_all
theorem Zu2 :∀{names:List (Str×zcn)} {acc:List (Str×Addr)} {x:Str} {c:Addr},(x,c)∈Zn1 cells names acc->(x,c)∈acc∨((x,zap)∈names/\c=(cells.lookup x).getD 0)
 | [],acc,x,c,h=>.inl h
 | (n,k)::r,acc,x,c,h=>by
  unfold Zn1 at h
  by_cases hk:(k == zap)=true
  ·rw[if_pos hk] at h
   rcases Zu2 h with h | ⟨h1,h2⟩
   ·grind
   ·exact .inr ⟨yn _ h1,h2⟩
  ·rw[if_neg hk] at h
   rcases Zu2 h with h | ⟨h1,h2⟩
   ·exact .inl h
   ·exact .inr ⟨yn _ h1,h2⟩
theorem Zu3 :∀{names:List (Str×zcn)} {acc:List (Str×Addr)} {x:Str},(x,zap)∈names∨(∃c,(x,c)∈acc)->∃c,(x,c)∈Zn1 cells names acc
 | [],acc,x,h=>by
  rcases h with h | h
  ·cases h
  ·exact h
 | (n,k)::r,acc,x,h=>by
  unfold Zn1
  by_cases hk:(k == zap)=true
  ·rw[if_pos hk]
   refine Zu3 ?_
   grind
  ·rw[if_neg hk]
   refine Zu3 ?_
   grind
theorem Zt5 {l:List (Str×Addr)}(h:(x,c)∈l):∃c',l.lookup x=some c':=by
 induction l with
 |nil=>cases h
 |cons p r ih =>
  obtain⟨n,a⟩:=p
  by_cases e:(x == n)=true
  ·simp_all
  grind
theorem Zn8 {env:Env}:∀{names:List (Str×zcn)} {x:Str} {k:zcn},(names.map fun (n,k)=>if (k == zap&&env.scope.kind == .function&&env.kindOf n == some .cell) then (n,zby) else (n,k)).lookup x=some k->(k=.cell∨k=.free)->(∀y∈names,y.2≠.cell)->(x,zap)∈names
 | [],x,k,h,_,_=>by cases h
 | (n,j)::r,x,k,h,hk,hc=>by
  by_cases e:(x == n)=true
  ·grind
  ·have e':(x == n)=false:=by simp_all
   refine yn _ (Zn8 (env:=env) ?_ hk fun y hy=>hc y (yn _ hy));have h':ybi x ((if _=true then (n,zby) else (n,j))::_)=some k:=h
   by_cases q:(j == zap&&env.scope.kind == .function&&env.kindOf n == some .cell)=true
   ·rw[if_pos q,yaz,e'] at h';omega
   ·rw[if_neg q,yaz,e'] at h';omega
theorem Zn9 (h1:env.scope.kind=.function)(h2:env.kindOf x=some .cell):∀{names:List (Str×zcn)},names.lookup x=some .free->(names.map fun (n,k)=>if (k == zap&&env.scope.kind == .function&&env.kindOf n == some .cell) then (n,zby) else (n,k)).lookup x=some .cell
 | [],h=>by cases h
 | (n,j)::r,h=>by
  by_cases e:(x == n)=true
  ·grind
  ·have e':(x == n)=false:=by simp_all
   simp[yaz,e'] at h
   by_cases q:(j == zap&&env.scope.kind == .function&&env.kindOf n == some .cell)=true
   ·show ybi x ((if _=true then (n,zby) else (n,j))::_)=_
    rw[if_pos q,yaz,e'];exact Zn9 h1 h2 h
   ·show ybi x ((if _=true then (n,zby) else (n,j))::_)=_
    rw[if_neg q,yaz,e'];exact Zn9 h1 h2 h
noncomputable def Wd3 (N':List Str)(nt:Nat)(ci:List Nat)(Xn:List Str)(fsc scope:Scope):Bool :=
 (yac ci.length).all fun j=>match ci[j]?,N'[nt+j]? with
  |some i,some x=>Xn[i]? == some x&&fsc.names.lookup x == some .cell&&scope.names.lookup x == some .free
  | _,_=>false
theorem blkC (Xn:List Str)(fsc:Scope)(hN:X.N=Xn)(hs:X.env.scope=fsc)(hc:∀y∈scope.names,y.2≠.cell)(hk:scope.kind=.function)(hn:∀y∈scope.names,y.2=.local->scope.names.lookup y.1=some .local)(hfr:∀y∈scope.names,y.2=.free->fsc.names.lookup y.1=some .cell)(hl:N'.length=nt+ci.length)(cap:Wd3 N' nt ci Xn fsc scope=true)(ok:X.Ok):BlkOk X scope (Zn1 X.env.cells scope.names []) N' nt ci:=by
 have g:∀y∈scope.names,y.2=.free->∃c,X.env.cells.lookup y.1=some c:=fun y b e=>ok.has y.1 (.inl (by show X.env.scope.names.lookup y.1=_;rw[hs];exact hfr y b e))
 have a:∀x c,(Zn1 X.env.cells scope.names []).lookup x=some c->X.env.cells.lookup x=some c:=fun x c h=>by
  rcases Zu2 (zak h) with z | ⟨l,k⟩
  ·cases z
  grind
 refine⟨Zn0 g,hc,hk,hn,a,fun x h=>?_,hl,fun j i h=>?_⟩
 ·have d:(x,zap)∈scope.names:=by
   rcases h with h | h
   ·exact Zn8 h (.inl rfl) hc
   ·exact Zn8 h (.inr rfl) hc
  obtain⟨c,q⟩:=Zu3 (.inl d);exact Zt5 q
 ·unfold Wd3 at cap
  rw[yaf] at cap;have f  := (ze.mp h).1;have q:=cap j (zcb.mpr f);rw[h] at q
  cases e:N'[nt+j]? with
  |none=>simp_all
  |some x =>
   rw[e] at q;simp at q;refine⟨x,rfl,by simp_all,by simp_all,.inl (Zn9 ok.kind ?_ q.2)⟩;show X.env.scope.names.lookup x=_
   simp_all
theorem blkD {nt:Nat}{ci:List Nat}(Xn:List Str)(fsc:Scope)(hN:X.N=Xn:=by rfl)(hs:X.env.scope=fsc:=by rfl)(hc:∀y∈scope.names,y.2≠.cell:=by decide +kernel)(hk:scope.kind=.function:=by rfl)(hn:∀y∈scope.names,y.2=.local->scope.names.lookup y.1=some .local:=by decide +kernel)
  (hfr:∀y∈scope.names,y.2=.free->fsc.names.lookup y.1=some .cell:=by decide +kernel) (hl:N'.length=nt+ci.length:=by rfl) (cap:Wd3 N' nt ci Xn fsc scope=true:=by decide +kernel) (ok:X.Ok):BlkOk X scope (Zn1 X.env.cells scope.names []) N' nt ci:=blkC Xn fsc hN hs hc hk hn hfr hl cap ok
end
theorem Same.sqt (e:Same H H')(h:SqT K H a xs):SqT K H' a xs:=by
 rcases h with (h | ⟨o,h⟩) | h
 ·exact .inl (.inl (e _ _ h))
 ·exact .inl (.inr ⟨o,e _ _ h⟩)
 ·exact .inr h
theorem Same.keepT {K:W.Frag}(e:Same H H'):KeepT K H H':=fun _ _ h=>e.sqt h
theorem Za2 {p:Addr}(h:H p=none)(o:HO):Same H (upd H p o):=fun b u q=>by rw[Zb3 (Za9 q h)];exact q
theorem KeepT.trans (a:KeepT K H H1)(b:KeepT K H1 H2):KeepT K H H2:=fun x c h=>b x c (a x c h)
theorem Ze0 {K:W.Frag}{o:HO}(h:H l=some (.lst xs)):KeepT K H (upd H l o):=fun a c q=>by
 rcases q with (q | ⟨b,q⟩) | q
 ·exact .inl (.inl (by rw[Zb3 (Wa7 q h (by simp))];exact q))
 ·exact .inl (.inr ⟨b,by rw[Zb3 (Wa7 q h (by simp))];exact q⟩)
 ·exact .inr q
theorem Zf3 {o:HO}(h:H l=none):KeepT K H (upd H l o):=(Za2 h o).keepT
theorem Same.write {o:HO}(e:Same H0 H)(h:H0 l=none):Same H0 (upd H l o):=fun b u q=>by
 rw[Zb3 (Za9 q h)];exact e b u q
theorem Zw9 (CX:CXT)(P:zm)(w:World)(K:W.Frag)(mg:Str->Option Value)(base:Heap)(N:List Str)(qual:Str)(scope:Scope)(f:Addr)(cd:Value)(A:Around)(outer:List Env)(s:Shared)(H:Hp)(E:XK):(cxOf CX P w K mg base N qual scope f cd A outer s H E).K=K:=rfl
theorem Xa9 (X:Cx)(N':List Str)(scope:Scope)(cl:List (Str×Addr))(s:Shared)(H:Hp)(C:Addr)(ex:List Addr):(blk X N' scope cl s H C ex).K=X.K:=rfl
theorem Zs5 (a b:Int):scal (.int a) (.int b)=true:=rfl
theorem Ze6 (a b:Str):scal (.str a) (.str b)=true:=rfl
theorem Yp0 (a b:Bool):scal (.bl a) (.bl b)=true:=rfl
theorem Zj5 {i j:Int}(h1:-(2 ^ 64) < i)(h2:i < 2 ^ 64):CMul i j:=.inl ⟨h1,h2⟩
theorem Yb4 {i j:Int}(h1:-(2 ^ 64) < j)(h2:j < 2 ^ 64):CMul i j:=.inr ⟨h1,h2⟩
theorem Xq6 {t u:TS}(R:St->Hp->Prop)(rest:∀σ' H',R σ' H'->u D σ' H')(first:∀C:St->Hp->Prop,(∀σ' H',R σ' H'->C σ' H')->t { D with nx:=C } σ H):tSeq t u D σ H:=first _ rest
theorem sqt {t u:TS}(R:St->Hp->Prop)(first:∀C:St->Hp->Prop,(∀σ' H',R σ' H'->C σ' H')->t { D with nx:=C } σ H)(rest:∀σ' H',R σ' H'->u D σ' H'):tSeq t u D σ H:=first _ rest
theorem sqk {t u:TS}(P:(St->Hp->Prop)->Prop)(first:∀C:St->Hp->Prop,P C->t { D with nx:=C } σ H)(rest:P (u D)):tSeq t u D σ H:=first (u D) rest
theorem sqh {t u:TS}(P:(St->Hp->Prop)->Prop)(first:∀C:St->Hp->Prop,P C->t { D with nx:=C } σ H)(rest:∀U:St->Hp->Prop,(∀σ H,u D σ H->U σ H)->P U):tSeq t u D σ H:=first (u D) (rest _ fun _ _ z=>z)
theorem Yl2 {n:Nat}{lo:Int}(Pv:Nat->List V->Hp->Prop)(h0:Pv 0 [] (upd H acc (.lst [])))(hl:∀i ys H2,i<=n->Pv i ys H2->H2 acc=some (.lst ys)/\ys.length < zp)(hs:∀i ys H2,i < n->Pv i ys H2->∀C:VK,(∀y H5,H5 acc=some (.lst ys)->Pv (i+1) (ys++[y]) (upd H5 acc (.lst (ys++[y])))->C y H5)->g (.int (lo+i)) σ0 H2 fun σ4 H4=>Wk σ0 σ4/\te σ4 H4 C)(hd:∀ys H2,Pv n ys H2->Q (.ref acc) H2):
  ∃W:Nat->Nat->List V->Hp->Prop,(∃m,W 0 m [] (upd H acc (.lst [])))/\lcW K σ0 (Itr lo n) acc g te Q W:=by
 refine⟨fun i m ys H2=>m=n - i/\i<=n/\Pv i ys H2,⟨n,by simp,yz _,h0⟩,?_⟩;rintro i m ys H2 ⟨rfl,f,p⟩;obtain⟨a,b⟩:=hl i ys H2 f p;refine⟨a,b,?_⟩
 by_cases hlt:i < n
 ·refine .inr ⟨hlt,fun x h y=>?_⟩
  obtain⟨e,y⟩:=y;subst e y;exact hs i ys _ hlt p _ fun v H5 d c=>⟨d,n - _,by omega,rfl,hlt,c⟩
 ·have e:i=n:=by omega
  subst e;exact .inl ⟨yo _,hd ys H2 p⟩
theorem Zt8 {xs:List V}(Pv:Nat->List V->Hp->Prop)(h0:Pv 0 [] (upd H acc (.lst [])))(hl:∀i ys H2,i<=xs.length->Pv i ys H2->H2 acc=some (.lst ys)/\ys.length < zp/\SqL K H2 a xs)(hs:∀i x ys H2,xs[i]?=some x->Pv i ys H2->∀C:VK,(∀y H5,H5 acc=some (.lst ys)->Pv (i+1) (ys++[y]) (upd H5 acc (.lst (ys++[y])))->C y H5)->g x σ0 H2 fun σ4 H4=>Wk σ0 σ4/\te σ4 H4 C)(hd:∀ys H2,Pv xs.length ys H2->Q (.ref acc) H2):
  ∃W:Nat->Nat->List V->Hp->Prop,(∃m,W 0 m [] (upd H acc (.lst [])))/\lcW K σ0 (Itl K a) acc g te Q W:=by
 refine⟨fun i m ys H2=>m=xs.length - i/\i<=xs.length/\Pv i ys H2,⟨xs.length,by simp,yz _,h0⟩,?_⟩;rintro i m ys H2 ⟨rfl,d,p⟩;obtain⟨h,f,q⟩:=hl i ys H2 d p;refine⟨h,f,?_⟩
 by_cases hlt:i < xs.length
 ·refine .inr ⟨⟨xs,xs[i],q,by simp⟩,fun x j y=>?_⟩
  obtain⟨e,y⟩:=y;subst e;exact hs i x ys _ (y xs q) p _ fun v H5 c b=>⟨c,xs.length - _,by omega,rfl,hlt,b⟩
 ·have e:i=xs.length:=by omega
  subst e;exact .inl ⟨⟨xs,q,yo _⟩,hd ys H2 p⟩
theorem Xy7 (h:x.cps.toList=y.cps.toList):x=y:=by
 obtain⟨a⟩:=x
 simp_all
theorem Zq0 (x y:Str):(x++y).cps.toList=x.cps.toList++y.cps.toList:=by
 show (x.cps++y.cps).toList=_;simp
theorem Yq7 (x:Str):x.length=x.cps.toList.length:=by rfl
theorem Xs5:∀ys:List Str,(Txt.join ybr ys).cps.toList=(ys.map fun y=>y.cps.toList).flatten:=by
 intro ys;show (Builtin.Str.glued _ ys).cps.toList=_;rw[StrLaws.glued_eq_join]
 induction ys with
 |nil=>rfl
 |cons y r ih =>
  cases r with
  |nil=>simp[Str.join]
  |cons z r =>
   show (y++ybr++Str.join _ _).cps.toList=_;rw[Zq0,Zq0,ih];simp[ybr]
theorem Yj8 (x:Str)(a b:Nat)(hab:a<=b)(hb:b<=x.length):(zbi x (some (a:Int)) (some (b:Int))).cps.toList=(x.cps.toList.drop a).take (b - a):=by
 have e:zbi x (some a) (some b)=StrLaws.sliceText x _ _:=rfl;rw[e,StrLaws.sliceText_nat x hab hb]
end L2
namespace Ken
open PySem L2
theorem Zc9:yav "len"=some (.builtin "len"):=by rfl
theorem Zo7:yav "isinstance"=some (.builtin "isinstance"):=by rfl
theorem Xu5:yav "max"=some (.builtin "max"):=by rfl
theorem Xu4:yav "min"=some (.builtin "min"):=by rfl
theorem Zr8:yav "sorted"=some (.builtin "sorted"):=by rfl
theorem Zz2:yav "all"=some (.builtin "all"):=by rfl
theorem Xn9:yav "bool"=some (.type "bool"):=by rfl
theorem Zf8:yav "list"=some (.type "list"):=by rfl
inductive Kd where
 |both | one | thn
 deriving DecidableEq
noncomputable def Kd.str:Kd->Str
 | .both=>"both"
 | .one=>"one"
 | .thn=>"then"
inductive Tm where
 |low
 |ltr (w:Str)
 |nd (k:Kd) (a b:Tm)
 deriving DecidableEq
noncomputable def Tm.data:Tm->PyData
 | .low=>.tuple [.str "low"]
 | .ltr w=>.tuple [.str "letter",.str w]
 | .nd k a b=>.tuple [.str k.str,a.data,b.data]
noncomputable def Tm.parts:Tm->Nat
 | .low=>1
 | .ltr _=>1
 | .nd _ a b=>1+a.parts+b.parts
noncomputable def Tm.deep:Tm->Nat
 | .low=>1
 | .ltr _=>1
 | .nd _ a b=>1+max a.deep b.deep
theorem Tm.parts_pos:∀t:Tm,1<=t.parts
 | .low=>yo _
 | .ltr _=>yo _
 | .nd _ a b=>by show 1<=1+a.parts+b.parts;omega
def Word (x:Str):Prop:=1<=x.cps.toList.length/\x.cps.toList.length<=8/\∀c∈x.cps.toList,97<=c/\c<=122
theorem Word.strOk (h:Word x):zcc x=true:=by
 unfold zcc;rw[Array.all_eq_true_iff_forall_mem];intro c a;have:=h.2.2 c (by simp_all);exact decide_eq_true (by omega)
def Tm.ok:Tm->Prop
 | .low=>True
 | .ltr w=>Word w
 | .nd _ a b=>a.ok/\b.ok
abbrev IsT (K:W.Frag)(H:Hp)(v:V)(t:Tm):Prop:=Dn K H v t.data
theorem Tm.noList:∀t:Tm,L2.noList t.data=true
 | .low=>rfl
 | .ltr _=>rfl
 | .nd k a b=>by
  show (true&&(L2.noList _&&(L2.noList _&&true)))=true;rw[a.noList,b.noList];rfl
theorem Tm.lay:∀t:Tm,t.ok->t.data.canLay0=true
 | .low,_=>by
  decide +kernel
 | .ltr w,h=>by
  show (zcc "letter"&&(zcc w&&true))=true;rw[Word.strOk h];decide +kernel
 | .nd k a b,h=>by
  show (zcc _&&(a.data.canLay0&&(b.data.canLay0&&true)))=true;rw[a.lay h.1,b.lay h.2]
  cases k<;>decide +kernel
theorem Tm.depth:∀t:Tm,t.data.depth=t.deep
 | .low=>rfl
 | .ltr _=>rfl
 | .nd k a b=>by
  show max 0 (max _ (max _ 0))+1=1+max _ _;rw[a.depth,b.depth];omega
section
variable {v:V}
theorem IsT.keep (h:IsT K H v t)(k:KeepT K H H'):IsT K H' v t:=Dn.keepT k t.noList h
theorem isT_low:IsT K H v .low↔∃a,v=.ref a/\SqT K H a [.str "low"]:=by
 constructor
 ·rintro⟨a,f,rfl,b,c⟩
  obtain⟨x,r,rfl,e,d⟩:=c;rw[Dn] at e;rw[DnAll] at d
  simp_all
 ·rintro⟨a,rfl,b⟩
  refine⟨a,_,rfl,b,?_⟩;exact⟨_,_,rfl,by rw[Dn],by rfl⟩
theorem isT_ltr :IsT K H v (.ltr w)↔∃a,v=.ref a/\SqT K H a [.str "letter",.str w]:=by
 constructor
 ·rintro⟨a,h,rfl,b,c⟩
  obtain⟨x,r,rfl,g,f⟩:=c;obtain⟨y,r,rfl,e,d⟩:=f;rw[Dn] at g e;rw[DnAll] at d
  simp_all
 ·rintro⟨a,rfl,b⟩
  refine⟨a,_,rfl,b,?_⟩;refine⟨_,_,rfl,by rw[Dn],?_⟩;exact⟨_,_,rfl,by rw[Dn],by rfl⟩
theorem isT_nd {a b:Tm}:IsT K H v (.nd k a b)↔∃p x y,v=.ref p/\SqT K H p [.str k.str,x,y]/\IsT K H x a/\IsT K H y b:=by
 constructor
 ·rintro⟨p,l,rfl,c,f⟩
  obtain⟨x,r,rfl,e,d⟩:=f;obtain⟨y,r,rfl,j,i⟩:=d;obtain⟨z,r,rfl,h,g⟩:=i;subst e g;exact⟨p,y,z,rfl,c,j,h⟩
 ·rintro⟨p,x,y,rfl,c,e,d⟩
  refine⟨p,_,rfl,c,?_⟩;refine⟨_,_,rfl,by rw[Dn],?_⟩;refine⟨_,_,rfl,e,?_⟩;exact⟨_,_,rfl,d,by rfl⟩
end
theorem Wc7 (a b c d e f:PyData):yau [a,b,c] [d,e,f]=(zax a d&&(zax b e&&zax c f)):=by
 simp[yau]
theorem Kd.str_inj {a b:Kd}(h:a.str=b.str):a=b:=by
 cases a<;>cases b<;>first | rfl | exact absurd h (by decide)
theorem Tm.eqv:∀s t:Tm,zax s.data t.data=decide (s=t)
 | .low,.low=>by decide
 | .low,.ltr w=>by
  rfl
 | .low,.nd k a b=>by
  show yau [.str "low"] [.str _,a.data,b.data]=_;simp[yau]
 | .ltr w,.low=>by
  rfl
 | .ltr w,.ltr v=>by
  show (zax (.str "letter") (.str "letter")&&(zax _ _&&true))=_;simp;rfl
 | .ltr w,.nd k a b=>by
  show yau [.str "letter",.str w] [.str _,a.data,b.data]=_;simp[yau]
 | .nd k a b,.low=>by
  show yau [.str _,a.data,b.data] [.str "low"]=_;simp[yau]
 | .nd k a b,.ltr w=>by
  show yau [.str _,a.data,b.data] [.str "letter",.str w]=_;simp[yau]
 | .nd k a b,.nd l c d=>by
  show yau [.str _,a.data,b.data] [.str _,c.data,d.data]=_;rw[Wc7,a.eqv c,b.eqv d]
  have e:zax (.str k.str) (.str l.str)=decide (k=l):=by
   show (k.str == l.str)=_
   by_cases h:k=l
   ·simp_all
   ·have  := fun z=>h (Kd.str_inj z)
    grind
  grind
noncomputable def mix (c k:Int):Int:=((c+1)*(48271+118*k) % 2147483629 / 977*16807+(c+1)*(48271+118*k) % 2147483629*(k*k+7)+k) % 2147483587
theorem Zk1 (c k:Int):0<=mix c k:=by exact yr _ (by decide)
inductive sp_mix:Sp
 |mk {vs H Q E:_} (c k:Int):vs=[.int c,.int k]->0<=k->k<=100000->Q (.int (mix c k)) H->sp_mix vs H Q E
noncomputable def cellOf (ns:List Int)(k:Int):Int:=mix (if k < (ns.length:Int) then (ns[k.toNat]?.getD 0) % 2147483647 else 0) (k+101)
theorem Xn3 (ns:List Int)(k:Int):0<=cellOf ns k:=Zk1 _ _
inductive sp_cell (K:W.Frag):Sp
 |mk {vs H Q E:_} (a:Addr) (ns:List Int) (k:Int):vs=[.ref a,.int k]->SqL K H a (ns.map V.int)->ns.length<=63->0<=k->k<=1000->Q (.int (cellOf ns k)) H->sp_cell K vs H Q E
def Yi8 (ws:List Str):Prop:=2<=ws.length/\ws.length<=6/\∀w∈ws,Word w
def Tm.inW (ws:List Str):Tm->Prop
 | .low=>True
 | .ltr w=>w∈ws
 | .nd _ a b=>a.inW ws/\b.inW ws
theorem Tm.inW.ok (hw:∀w∈ws,Word w):∀{t:Tm},t.inW ws->t.ok
 | .low,_=>trivial
 | .ltr w,h=>hw w h
 | .nd _ a b,h=>⟨Tm.inW.ok hw h.1,Tm.inW.ok hw h.2⟩
def Made (K:W.Frag)(H:Hp)(ws:List Str)(p d:Nat)(r:V)(t:Tm):Prop:=IsT K H r t/\t.inW ws/\t.parts<=p/\t.deep<=d
theorem Made.mono {p d p' d':Nat}{r:V}(h:Made K H ws p d r t)(k:KeepT K H H')(hp:p<=p')(hd:d<=d'):Made K H' ws p' d' r t :=
 ⟨h.1.keep k,h.2.1,zi h.2.2.1 hp,zi h.2.2.2 hd⟩
section
variable {p:Addr}
theorem Yu6 (ws:List Str)(hp:H p=none):Made K (upd H p (.tup [.str "low"])) ws 1 1 (.ref p) .low :=
 ⟨isT_low.mpr ⟨p,rfl,.inl (.inl Za1)⟩,trivial,yo _,yo _⟩
theorem Xs2 (hw:w∈ws)(hp:H p=none):Made K (upd H p (.tup [.str "letter",.str w])) ws 1 1 (.ref p) (.ltr w) :=
 ⟨isT_ltr.mpr ⟨p,rfl,.inl (.inl Za1)⟩,hw,yo _,yo _⟩
theorem Xi7 {k:Kd}{x y:V}{a b:Tm}(ha:Made K H ws pa da x a)(hb:Made K H ws pb db y b)(hp:H p=none) :
  Made K (upd H p (.tup [.str k.str,x,y])) ws (1+pa+pb) (1+max da db) (.ref p) (.nd k a b):=by
 refine⟨isT_nd.mpr ⟨p,x,y,rfl,.inl (.inl Za1),ha.1.keep (Zf3 hp),hb.1.keep (Zf3 hp)⟩,⟨ha.2.1,hb.2.1⟩,?_,?_⟩
 ·show 1+a.parts+b.parts<=_
  have:=ha.2.2.1;have:=hb.2.2.1;omega
 ·show 1+max _ _<=_
  have:=ha.2.2.2;have:=hb.2.2.2;omega
end
theorem Zo8 {xs:List α}{i:Int}(h0:0<=i)(h1:i < (xs.length:Int)):∃v,v∈xs/\atI xs i=some v:=by
 obtain⟨j,rfl⟩:=Int.eq_ofNat_of_zero_le h0
 have a:j < xs.length:=by omega
 exact⟨xs[j],zbm a,Zd3 (by simp)⟩
theorem small1M (h:n<=1000000):n < zp:=ycs h (by decide)
theorem isT_tup {v:V}(h:IsT K H v t):∃a xs,v=.ref a/\SqT K H a xs:=by
 cases t with
 |low=>obtain⟨a,rfl,b⟩:=isT_low.mp h;exact⟨a,_,rfl,b⟩
 |ltr w=>obtain⟨a,rfl,b⟩:=isT_ltr.mp h;exact⟨a,_,rfl,b⟩
 |nd k x y=>obtain⟨a,d,c,rfl,b,_,_⟩:=isT_nd.mp h;exact⟨a,_,rfl,b⟩
theorem Zn2 {ds:List PyData}(h:∀d∈ds,d.canLay0=true):(zbj ds).canLay0=true:=by
 show PyData.canLayAll0 ds=true
 induction ds with
 |nil=>rfl
 |cons d ds ih =>
  show (d.canLay0&&PyData.canLayAll0 ds)=true;rw[h d zr,ih fun e a=>h e (yn _ a)];rfl
theorem paired_get :∀{l:List α} {m:List β} {i:Nat} {x:α},Paired F l m->l[i]?=some x->∃y,m[i]?=some y/\F x y
 | _,_,0,_,.cons h t,e=>by cases e;exact⟨_,rfl,h⟩
 | _,_,i+1,_,.cons h t,e=>paired_get (i:=i) t (by assumption)
end Ken
variable {l m ts:List Ken.Tm}{on:Option Ken.Tm}{t:Ken.Tm}
namespace L2
open PySem PySem.Spec PyProof.Rows
noncomputable def Ite (K:W.Frag)(l:Addr):It :=
  ⟨fun i H=>∃xs x,SqL K H l xs/\xs[i]?=some x,
   fun i H v H'=>∃T x,v=.ref T/\H T=none/\H'=upd H T (.tup [.int i,x])/\∀xs,SqL K H l xs->xs[i]?=some x,
   fun i H=>∃xs,SqL K H l xs/\xs.length<=i⟩
def enSt (e it l:Addr)(i:Nat)(h:Heap):Prop:=(∃old,IsEnum h e it i old)/\h.IsListIter it l i
theorem Xc3 (e it l:Addr)(hne:e≠it):
    Turn P w K (.Tuple elts k0 tpos) (Ite K l) [e,it] e (enSt e it l) where
  mem:=by simp
  obj:=fun i h d b a=>by
    obtain⟨⟨g,f⟩,⟨o1,e1,c1,d1⟩⟩:=d
    grind
  keep:=fun i h h' d k=>by
    obtain⟨⟨g,f⟩,y⟩:=d;exact⟨⟨g,k e (by simp) _ f⟩,y.at fun o q=>k it (by simp) o q⟩
  item:=by
    intro X hP V hK hc i B s O H E I p d Z;subst hP V hK;obtain⟨⟨g,f⟩,y⟩:=d;obtain⟨R,x,M,hx⟩:=Z;obtain⟨U,z,T,_⟩:=I.list M;obtain⟨S,q7,q0⟩:=z.get hx;refine wpAny_pyNext_enum_item f y T.isList (x:=S) (by simp_all) hne fun h' a1 a2 a5 a6 kk=>?_;have t:H s.heap.objs.size=none:=I.hok.fresh (by simp)
    have N:∀b u,H b=some u->b ∉ [e,it]:=fun b u q a=>by rw[(p b a).1] at q;cases q
    have j:∀b o,b ∉ [e,it]->s.heap.get? b=some o->h'.get? b=some o:=fun b o a q=>by
      simp_all
    have C:∀b o,s.heap.get? b=some o->b≠s.heap.objs.size:=fun b o q=>zv (zj q)
    have Y:HOk _ X.w (upd H _ (.tup [.int i,x])) h':=fun b ob q=>by
      by_cases a:b=s.heap.objs.size
      · subst a
        rw[Za1] at q;cases q;exact⟨by show 2<=zp;decide,[.int i _,S],.cons ⟨_,rfl⟩ (.cons q0 .nil),_,a5,rfl,_,rfl⟩
      · rw[Zb3 a] at q
        refine (I.hok b ob q).stay (fun c v D A=>j c v ?_ A) (fun c A=>by rw[Zb3 (Za9 A t)];omega) fun c R A=>by rw[Zb3 (Za9 A t)];omega
        rcases D with rfl | D
        · exact N _ _ q
        · exact N _ _ D
    have I1:Inv X B O (upd H s.heap.objs.size (.tup [.int i,x])) { s with heap:=h',toks:=s.toks+1 }:=by
      refine I.step (fun b a=>?_) (fun b o _ _ a q _=>j b o a q) (fun b o _ _ a q _=>⟨o.slots,j b o a q⟩) (fun b o _ q n=>by rw[Zb3 (C b o q)];exact n) (fun b o a q=>⟨o,j b o a q⟩)
        (fun b R q=>by rw[Zb3 (Za9 q t)];exact q) (fun b o u q=>by rw[Zb3 (Za9 q t)];exact q) (fun b ps q=>⟨#[],by rw[Zb3 (Za9 q t),q];simp⟩) (fun m hm=>?_) Y I.bare
      · obtain⟨f0,L,f2,J,G,F⟩:=p b a
        exact⟨J,L,G,F⟩
      · obtain⟨o,es,ep,ho,r⟩:=hm
        refine⟨o,es,ep,j _ o ?_ ho,r⟩;simp;exact⟨(p e (by simp)).2.1.symm,(p it (by simp)).2.1.symm⟩
    refine⟨_,rfl,wpAny_letOwnedTupleGo_enum a1 fun q4 q5 sb=>?_⟩;obtain⟨f0,L,f2,J,G,F⟩:=p e (by simp)
    have q2:∀b∈[e,it],b≠s.heap.objs.size:=fun b a=>by
      simp at a;obtain⟨o1,e1,_⟩:=y;rcases a with rfl | rfl
      · exact C _ _ f
      · exact C _ _ e1
    have fn:∀b∈[e,it],upd H _ (.tup [.int i,x]) b=none:=fun b a=>by rw[Zb3 (q2 b a)];exact (p b a).1
    have I2:Inv X _ O _ { s with heap:=q4,toks:=s.toks+1 }:=I1.turned (fun b o a q=>(sb.2 b a).trans q) (fn e (by simp)) L J G F;refine⟨.ref _,_,I2,rfl,⟨_,x,rfl,t,rfl,fun ys q3=>by rw[I.list_inj q3 M];omega⟩,⟨⟨S,?_⟩,?_⟩,fn⟩
    · assumption
    · exact a2.extBut sb.extBut (zar hne)
  done:=by
    intro X hP V hK hc i B s O H E I p d Z;subst hP V hK;obtain⟨⟨g,f⟩,y⟩:=d;obtain⟨R,M,q6⟩:=Z;obtain⟨U,z,T,_⟩:=I.list M;have e1:=z.length;refine wpAny_pyNext_enum_end (I.ok.hd hc) f y T.isList (by simp_all) fun h' eb=>⟨rfl,?_⟩;obtain⟨f0,L,f2,J,G,F⟩:=p it (by simp);exact I.turned (fun b o a q=>eb b o a q) f0 L J G F
  self:=fun _ _ _ _ _ d h=>by
    obtain⟨⟨g,f⟩,_⟩:=d;exact wpAny_pyIter_enum f h
section
def Ym1 (K:W.Frag)(ta:TA):TI:=fun σ H R=>ta σ H fun vs H1=>∃a,vs=[.ref a]/\(∃xs,SqL K H1 a xs)/\R (Ite K a) H1
theorem Xg3 {a:Expr}{ta:TA}{p:Pos}{elts:List Expr}(hg:Gl X "enumerate")(hm:X.mg "enumerate"=none)(ha:PA X [a] ta)(hs:zx [a] X.env=[(false,eval a X.env)]:=by rfl):
  PI X (.Tuple elts k0 tpos) (.Call (.Name "enumerate" p) [a] [] pos) (Ym1 X.K ta):=by with_unfolding_all
 intro f s g H R I h;refine Call_ (Zt7 I hg hm (by rfl) (zal (thn (ha pos f s g H _ I h) fun us s1 ⟨vs,H1,I1,r1,d⟩=>?_) (by assumption) rfl));obtain⟨l,e,⟨w,d⟩,q⟩:=d;subst e;obtain⟨x,rfl,i⟩:=r1.one;cases i;obtain⟨n,v,m,_⟩:=I1.list d;refine call_enumerate_list m.isList fun t j r _ o=>wpAny_pyIter_enum j ?_;have u:Inv X _ g H1 { s1 with heap:=t }:=I1.kept o;refine⟨_,_,_,_,H1,rfl,u,Xc3 _ _ l (Nat.succ_ne_self _),⟨⟨_,j⟩,r⟩,fun b k=>?_,q⟩
 have c:s1.heap.objs.size<=b:=by
  simp at k
  rcases k with rfl | rfl<;>omega
 exact I1.fpOk c (I1.hok.fresh c)
end
theorem Yv8 {K:W.Frag}{xs:List V}{tb:TS}{D:Ends}(Pv:Nat->St->Hp->Prop)(h0:Pv 0 σ H)(hl:∀i σ H,i<=xs.length->Pv i σ H->SqL K H a xs)(hs:∀i x σ H T,xs[i]?=some x->H T=none->Pv i σ H->g (.ref T) σ (upd H T (.tup [.int i,x])) fun σ2 H2=>tb { D with nx:=Pv (i+1),ct:=Pv (i+1),bk:=D.nx } σ2 H2)(hd:∀σ H,Pv xs.length σ H->D.nx σ H):
  ∃W:Nat->Nat->St->Hp->Prop,(∃m,W 0 m σ H)/\∀i m σ H,W i m σ H ->
   ((Ite K a).stop i H/\D.nx σ H)∨((Ite K a).go i H/\∃N:St->Hp->Prop,(∀σ' H',N σ' H'->∃m',m' < m/\W (i+1) m' σ' H')/\∀x H',(Ite K a).yld i H x H'->g x σ H' fun σ2 H2=>tb { D with nx:=N,ct:=N,bk:=D.nx } σ2 H2):=by
 refine⟨fun i m σ H=>m=xs.length - i/\i<=xs.length/\Pv i σ H,⟨xs.length,by simp,yz _,h0⟩,?_⟩;rintro i m σ H ⟨rfl,f,p⟩;have b:=hl i σ H f p
 by_cases hlt:i < xs.length
 ·refine .inr ⟨⟨xs,xs[i],b,by simp⟩,Pv _,fun σ' H' d=>⟨xs.length - _,by omega,rfl,hlt,d⟩,fun v H' z=>?_⟩
  obtain⟨T,x,rfl,h,rfl,c⟩:=z;exact hs i x σ H T (c xs b) h p
 ·have e:i=xs.length:=by omega
  subst e;exact .inl ⟨⟨xs,b,yo _⟩,hd σ H p⟩
theorem Zo0 {K:W.Frag}{es:List Expr}{t:TGs}{n:Nat}(hc:X.calm=true)(hK:X.K=K)(h:PGs X es t)(hn:(ycv es X.env).length=n)(hst:(ycv es X.env).findIdx? (·.1)=none):PG X (.Tuple es k pos) (gTup K n t):=hK▸Zo1 hc h hn hst
end L2
namespace Ken
open PySem L2
theorem Yd6 :∀{l:List α} {m:List β},Paired F l m->Paired F l.reverse m.reverse
 | _,_,.nil=>.nil
 | _,_,.cons h t=>by rw[zai,zai];exact zdo (Yd6 t) h
theorem Zc4 :∀{l l':List α} {m m':List β},Paired F l m->Paired F l' m'->Paired F (l++l') (m++m')
 | _,_,_,_,.nil,q=>q
 | _,_,_,_,.cons h t,q=>.cons h (Zc4 t q)
end Ken
namespace L2
open PySem PySem.Spec PyProof.Rows
section
theorem Zn6:∀{us:List Value} {ys:List Str},yda us ys->Vals (ys.map V.str) us
 | _,_,.nil=>.nil
 | _,_,.cons _ _ t=>.cons ⟨_,rfl⟩ (Zn6 t)
theorem Zx6:Zv6 X (.builtin "sorted") (fun xs H Q=>∃a ys,xs=[.ref a]/\SqL X.K H a (ys.map V.str)/\ys.length < 64/\∀l ys',H l=none->yba ys' ys->sortedS ys'=true->Q (.ref l) (upd H l (.lst (ys'.map V.str)))):=by
 intro n s y H xs z Q I r h;obtain⟨a,ys,rfl,p,A,q⟩:=h;obtain⟨u,rfl,k⟩:=Yn9 r;cases k;obtain⟨i,g,m,_⟩:=I.list p;have d:=g.length;rw[yh] at d;refine sorted_strs m.isList (Zl5 g) (by omega) fun c f v j t=>?_;obtain⟨e,B⟩:=sortedAll_at _ i c;have x:=j.length_eq;refine⟨.ref _,_,I.laid (fun b o q=>sortedAll_old q) (ycp _) (show ObjOk _ X.w _ _ _ (.lst _) from ⟨?_,c.toList,e,Zn6 v,by omega⟩),rfl,q _ f (I.hok.fresh (ycp _)) j t⟩
 simp_all
theorem Zn3 {K:W.Frag}(hK:X.K=K):Zv6 X (.type "list") (fun xs H Q=>∃p ys,xs=[.ref p]/\(SqL K H p ys∨SqT K H p ys)/\∀l,H l=none->Q (.ref l) (upd H l (.lst ys))):=hK▸Ze9
theorem Yi7 {K:W.Frag}(hK:X.K=K):Zv6 X (.builtin "len") (fun xs H Q=>∃p ys,xs=[.ref p]/\(SqL K H p ys∨SqT K H p ys)/\Q (.int ys.length) H):=hK▸Zb5
theorem Yh6 {K:W.Frag}(hK:X.K=K):IxR X (rIxL K):=hK▸Xk2
theorem Zk3 {K:W.Frag}(hK:X.K=K):IxR X (rIxT K):=hK▸Xw2
end
end L2
namespace Ken
open PySem L2
theorem Zm8 {α:Type}[DecidableEq α]:∀{l m:List α},l.Nodup->(∀x∈l,x∈m)->l.length<=m.length
 | [],m,_,_=>yz _
 |x::l,m,hn,hs=>by
  have hx:=hs x zr;have hn':=yaq.mp hn
  have:l.length<=(m.erase x).length:=Zm8 hn'.2 fun y hy=>by
   grind
  rw[List.length_erase_of_mem hx] at this;have  := ycu hx;rw[yai];omega
noncomputable abbrev Wd:=Option Nat×List Str
noncomputable def bV:Option Nat->V
 |none=>.non
 |some j=>.int (j:Nat)
def AtW (K:W.Frag)(H:Hp)(v:V)(x:Wd):Prop:=∃p q,v=.ref p/\SqT K H p [bV x.1,.ref q]/\H q=some (.lst (x.2.map V.str))
theorem AtW.keep {K:W.Frag}(e:Same H H'){v:V}{x:Wd}(h:AtW K H v x):AtW K H' v x:=by
 obtain⟨p,q,rfl,b,a⟩:=h;exact⟨p,q,rfl,e.sqt b,e _ _ a⟩
abbrev AtWs (K:W.Frag)(H:Hp):List V->List Wd->Prop:=Paired (AtW K H)
theorem AtWs.keep {K:W.Frag}(e:Same H H')(h:AtWs K H vs ws):AtWs K H' vs ws:=Paired.mapP h fun _ _ q=>q.keep e
def Zq4 (ws:List Wd):Prop:=∀k x,ws[k]?=some x->(k=0->x.1=none)/\(0 < k->∃j,x.1=some j/\j < k)
def inWs (us:List Str)(ws:List Wd):Prop:=∀x∈ws,x.2.Nodup/\∀y∈x.2,y∈us
noncomputable def bef (ws:List Wd)(n:Nat):Option Nat:=(ws[n]?).bind (·.1)
def AtWn (K:W.Frag)(H:Hp)(acc:Addr)(v:V)(x:Wd):Prop:=∃p q,q≠acc/\v=.ref p/\SqT K H p [bV x.1,.ref q]/\H q=some (.lst (x.2.map V.str))
theorem AtWn.at {v:V}{x:Wd}(h:AtWn K H acc v x):AtW K H v x:=by
 obtain⟨p,q,_,e,b,a⟩:=h;exact⟨p,q,e,b,a⟩
theorem AtWn.keep {K:W.Frag}(e:Same H H'){v:V}{x:Wd}(h:AtWn K H acc v x):AtWn K H' acc v x:=by
 obtain⟨p,q,n,rfl,b,a⟩:=h;exact⟨p,q,n,rfl,e.sqt b,e _ _ a⟩
theorem AtWn.write {o:HO}(ha:H acc=some (.lst ys)){v:V}{x:Wd}(h:AtWn K H acc v x):AtWn K (upd H acc o) acc v x:=by
 obtain⟨p,q,n,rfl,a,b⟩:=h;exact⟨p,q,n,rfl,Ze0 ha _ _ a,by rw[Zb3 n];omega⟩
theorem Wc0 (L:List Str)(z:Str):inV (.str z) (L.map V.str)=decide (z∈L):=by
 unfold inV
 induction L with
 |nil=>rfl
 |cons n L ih =>
  have e:eqV (.str n) (.str z)=decide _:=rfl
  grind
theorem Xd8 (L:List Str):(L.map V.str).all Yi1=true:=by
 rw[yaf];intro v a;obtain⟨n,_,rfl⟩:=zah.mp a;rfl
theorem Xu0 (h:1<=xs.length):cutV xs none (some (-1))=xs.dropLast:=by
 show List.take ((if (-1) < 0 then ((-1)+_).toNat else min (-1).toNat xs.length) - 0) (zdm 0 xs)=_;rw[if_pos (by decide),List.drop_zero,List.dropLast_eq_take]
 congr 1
 omega
theorem Yw4 (h:1<=xs.length):cutV xs (some 1) none=xs.tail:=by
 show List.take (xs.length - (if (1:Int) < 0 then ((1:Int)+xs.length).toNat else min (1:Int).toNat _)) (zdm (if (1:Int) < 0 then ((1:Int)+xs.length).toNat else min (1:Int).toNat _) xs)=_;rw[if_neg (by decide)]
 have:min (1:Int).toNat xs.length=1:=by
  simp_all
 rw[this,List.drop_one,zbb (by simp)]
theorem Zk5:∀{ds:List PyData},(∀d∈ds,zax d d=true)->yau ds ds=true
 | [],_=>rfl
 |d::ds,h=>by
  show (zax d d&&yau ds ds)=true;rw[h d zr,Zk5 fun e he=>h e (yn _ he)];rfl
theorem Xq2 (x:Str):zax (.str x) (.str x)=true:=by show (x == x)=true;simp
theorem Zp9 {ds:List PyData}(h:∀d∈ds,d.depth<=n):(zbj ds).depth<=n+1:=by
 show PyData.depthAll ds+1<=n+1
 have:PyData.depthAll ds<=n:=by
  induction ds with
  |nil=>exact yz _
  |cons d ds ih =>
   exact Nat.max_le.mpr ⟨h d zr,ih fun e a=>h e (yn _ a)⟩
 omega
end Ken
variable {ws:List Ken.Wd}
namespace L2
open PySem PySem.Spec PyProof.Rows
noncomputable abbrev TK:=St->Hp->(Hp->Prop)->Prop
def Ys0 (σ0:St)(J:It)(g:TG)(tk:TK)(Q:Hp->Prop)(W:Nat->Nat->Hp->Prop):Prop :=
 ∀i m H2,W i m H2->(J.stop i H2/\Q H2)∨(J.go i H2/\∀x H3,J.yld i H2 x H3->g x σ0 H3 fun σ4 H4=>Wk σ0 σ4/\tk σ4 H4 fun H5=>∃m',m' < m/\W (i+1) m' H5)
def PTn (Y:Cx)(body:Sem Unit)(tk:TK):Prop:=∀(pins:List (Addr×Obj)) (s:Shared) (σ:St) (H:Hp) (N:Hp->Prop),Inv Y pins σ H s->tk σ H N ->
 wpAny (model Y.prog Y.w) Y.A body (fun _ s'=>∃σ' H',Inv Y pins σ' H' s'/\Wk σ σ'/\N H') Y.xe s
def Zq9 (e:Expr)(d:Nat)(tg:Expr)(p:Pos)(acc:Value)(env:Env)(body:Sem Unit):Prop:=∀it,compTurn e d it acc env=(standAt p >>= fun _=>pyNext it >>= fun r=>match r with
   |none=>pure (.done .next)
   |some v=>letOwnedTupleGo tg it v >>= fun _=>assign tg env v >>= fun _=>body >>= fun _=>again (.compLoop e d it acc env))
def Xb2 (prog:zm)(w:World)(A:Around)(e:Expr)(d:Nat)(acc:Value)(env:Env):Prop:=∀it,
 (model prog w).den (.compLoop e d it acc env)=(compTurn e d it acc env).onRaise (fun x=>do noteFrame x env;theTreesLotGoes x)/\A.under (.compLoop e d it acc env)=A /\
 (∃p,(model prog w).den (.compStart e d it acc env)=(compStart e d it acc env).onRaise (fun x=>do noteFrame x env;standAt p))/\A.under (.compStart e d it acc env)=A
theorem Xm6 {Y:Cx}{d:Nat}{p:Pos}{acc:Value}{body:Sem Unit}{Q:Hp->Prop}(hc:Y.calm=true)(hxe:Y.xe=fun _ _=>False)(hden:Xb2 Y.prog Y.w Y.A e d acc Y.env)(eq:Zq9 e d tg p acc Y.env body)(hg:PG Y tg g)(hb:PTn Y body tk)(T:Turn Y.prog Y.w Y.K tg J fp it tn)(hfp:∀(H':Hp),(∀b∈fp,H' b=none)->∀b∈fp,FpOk Y pins H' b)(hW:Ys0 σ0 J g tk Q W)(hR:∀s' H',Inv Y pins σ0 H' s'->Q H'->R (.ok .next) s')(I:Inv Y pins σ0 H1 s)(hst:tn i0 s.heap)(hfr:∀b∈fp,H1 b=none)(w:W i0 m0 H1):
  yde (model Y.prog Y.w) Y.A (.compLoop e d (.ref it) acc Y.env) R s:=by with_unfolding_all
 have y:∀{M:Model} {A:Around} {env:Env} {E:Value->Shared->Prop} (x:Value) (s:Shared),Y.xe x s->notedBy M A env E x s:=fun x s z=>by simp_all
 refine codeAny_loop rfl (fun n s=>∃i a,Inv Y pins σ0 a s/\tn i s.heap/\(∀b∈fp,a b=none)/\W i n a) (fun n s O=>?_) m0 ⟨i0,H1,I,hst,hfr,w⟩;obtain⟨i,a,D,h,j,G⟩:=O;rw[(hden (.ref it)).1,(hden (.ref it)).2.1];refine wpAny_noted ?_;rw[eq];refine ya (zbg (ya ?_));rcases hW i n a G with ⟨k,q⟩ | ⟨U,l⟩
 ·refine thn (T.done Y rfl rfl rfl hc i _ s σ0 a _ D (hfp a j) h k) fun r v c=>?_;obtain⟨m,X⟩:=c
  subst m;exact ye (hR v a X q)
 ·refine thn (T.item Y rfl rfl rfl hc i pins s σ0 a _ D (hfp a j) h U) fun r v c=>?_;obtain⟨u,m,S⟩:=c
  subst m;refine ya (thn S fun _ L c=>?_);obtain⟨x,t,V,N,F,f,B⟩:=c;have C:=V.pinned (hfp t B) (T.obj _ _ f);refine ya (yat (hg _ L σ0 t x u _ C N (l x t F)) (fun _ s6 ⟨σ6,H6,I6,hw6,q6⟩=>?_) y);refine ya (yat (hb _ s6 σ6 H6 _ I6 q6) (fun _ s8 ⟨σ8,H8,I8,hw8,m',hm',w7⟩=>?_) y);refine ye ⟨rfl,m',hm',i+1,H8,?_,(T.keep _ _ _ f fun b hb o e=>(I8.pin (b,o) (yw _ (yw _ (Zp6 hb e)))).1),fun b hb=>?_,w7⟩
  ·have:=hw6.trans hw8
   exact I8.unpinned.weak this.1.symm this.2
  ·obtain⟨o,e,Z⟩:=T.obj _ _ f b hb
   exact (I8.pin (b,o) (yw _ (yw _ (Zp6 hb e)))).2.1
theorem Zo6 {d:Nat}{g:ybn}{it acc:Value}(hden:Xb2 prog w A e d acc env)(hcl:(clausesOf e)[d]?=some g)(ha:g.is_async=0)(h0:yde (model prog w) A (.compLoop e d it acc env) R s)(h:wpAny (model prog w) A (pyIter it) (fun it' s'=>yde (model prog w) A (.compLoop e d it' acc env) R s') (notedBy (model prog w) A env fun x s'=>R (.error x) s') s):
  yde (model prog w) A (.compStart e d it acc env) R s:=by
 refine codeAny_of_tree ?_;obtain⟨p,b⟩:=(hden it).2.2.1;rw[b,(hden it).2.2.2];refine wpAny_notedAt ?_;unfold compStart;rw[hcl]
 have c:(some g).elim false fun x=>x.is_async != 0=false:=by simp_all
 rw[c,if_neg zg];refine ya (zav ?_)
 split
 ·exact ye ⟨rfl,h0⟩
 ·refine ya (ycw (ya (zbg (ya (yat h (fun it' s' a=>ye ⟨rfl,a⟩) fun _ _ z=>z)))))
theorem Wq7 {d:Nat}{acc:Value}:Xb2 prog w A (.ListComp elt gens scope pos) d acc env:=fun a=>⟨rfl,rfl,⟨_,rfl⟩,rfl⟩
theorem Wu3 {d:Nat}{acc:Value}:Xb2 prog w A (.SetComp elt gens scope pos) d acc env:=fun a=>⟨rfl,rfl,⟨_,rfl⟩,rfl⟩
theorem Wu4 {k v:Expr}{d:Nat}{acc:Value}:Xb2 prog w A (.DictComp k v gens scope pos) d acc env:=fun a=>⟨rfl,rfl,⟨_,rfl⟩,rfl⟩
noncomputable def Xt5 (elt:Expr)(acc:Value)(env:Env):Sem Unit:=eval elt env >>= fun x=>call (.builtin "list.append") [acc,x] >>= fun _=>pure ()
noncomputable def Wd0 (elt:Expr)(acc:Value)(env:Env):Sem Unit:=eval elt env >>= fun v=>standAt elt.pos >>= fun _=>call (.builtin "set.add") [acc,v] >>= fun _=>pure ()
noncomputable def Wq5 (k v:Expr)(d:Addr)(env:Env):Sem Unit:=eval k env >>= fun kv=>holding [kv] (eval v env) >>= fun vv=>standAt { line:=k.pos.line,col:=k.pos.col,endLine:=v.pos.endLine,endCol:=v.pos.endCol } >>= fun _=>holding [kv,vv] (dictSet d kv vv)
noncomputable def Xc8 (c:Expr)(env:Env)(body:Sem Unit):Sem Unit:=PySem.isTrue c env (eval c env) >>= fun ok=>if ok=true then body else pure ()
noncomputable def Wv2 (e:Expr)(d:Nat)(iter:Expr)(acc:Value)(env:Env):Sem Unit:=eval iter env >>= fun x=>standAt iter.pos >>= fun _=>yaw iter env x >>= fun x=>holding [x] (pyIter x) >>= fun it=>runOwn (.compStart e d it acc env) env >>= fun _=>pure ()
theorem Xc5 {acc:Value}:Zq9 (.ListComp elt [⟨tg,iter,[],0⟩] scope pos) 0 tg iter.pos acc env (Xt5 elt acc env):=fun a=>by
 rfl
theorem Zh7 {acc:Value}:Zq9 (.ListComp elt [⟨tg,iter,[c],0⟩] scope pos) 0 tg iter.pos acc env (Xc8 c env (Xt5 elt acc env)):=fun b=>by
  simp only[compTurn,Xc8,Xt5,yby,List.forIn_cons,bind_assoc,if_true,ydi];refine bind_congr fun _=>bind_congr fun r=>?_
  cases r with
  |none=>rfl
  |some v =>
    refine bind_congr fun _=>bind_congr fun _=>?_
    first
      |rfl
      | (refine bind_congr fun a => ?_
         cases a<;>simp)
      |simp
theorem Xy2 {acc:Value}:Zq9 (.SetComp elt [⟨tg,iter,[c],0⟩] scope pos) 0 tg iter.pos acc env (Xc8 c env (Wd0 elt acc env)):=fun b=>by
  simp only[compTurn,Xc8,Wd0,yby,List.forIn_cons,bind_assoc,if_true,ydi];refine bind_congr fun _=>bind_congr fun r=>?_
  cases r with
  |none=>rfl
  |some v =>
    refine bind_congr fun _=>bind_congr fun _=>?_
    first
      |rfl
      | (refine bind_congr fun a => ?_
         cases a<;>simp)
      |simp
theorem Xy3 :Zq9 (.DictComp elt iter2 [⟨tg,iter,[],0⟩] scope pos) 0 tg iter.pos (.ref a) env (Wq5 elt iter2 a env):=fun b=>by
 rfl
def kApp (te:TE)(acc:Addr):TK:=fun σ H N=>te σ H fun y H5=>∃ys,H5 acc=some (.lst ys)/\ys.length < zp/\N (upd H5 acc (.lst (ys++[y])))
def Yh5 (tc:TT)(tk:TK):TK:=fun σ H N=>tc σ H fun b H1=>if b=true then tk σ H1 N else N H1
section
theorem Zf1 (he:PE Y elt te):PTn Y (Xt5 elt (.ref acc) Y.env) (kApp te acc):=by with_unfolding_all
 intro c s a H N I h;refine ya (thn (he c s a H _ I h) fun v j b=>?_);obtain⟨y,g,o,k,i,e,d,n⟩:=b;refine ya (thn (Zg6 _ j a g (.ref acc) [y] _ [v] (fun _ f=>f=upd g acc _) o rfl (.cons k .nil) ⟨acc,i,y,rfl,rfl,e,d,rfl⟩) fun _ p b=>?_);obtain⟨_,f,m,_,l⟩:=b;subst l;exact ye ⟨a,_,m,Wk.refl _,n⟩
theorem Zh3 {body:Sem Unit}(ht:PT Y c tc)(hb:PTn Y body tk):PTn Y (Xc8 c Y.env body) (Yh5 tc tk):=by with_unfolding_all
 intro d s a H N I h;refine ya (thn (ht d s a H _ I h) fun b j i=>?_);obtain⟨g,f,e⟩:=i
 cases b with
 |true =>
  exact hb _ j a g N f e
 |false =>
  exact ye ⟨a,g,f,Wk.refl _,e⟩
end
def Yc6 (nt:Nat)(ci:List Nat)(wi:TI)(g:TG)(tk:Addr->TK)(o0:HO):TE:=fun σ H Q=>wi σ H fun J H1=>∀acc,H1 acc=none->∃W:Nat->Nat->Hp->Prop,(∃m,W 0 m (upd H1 acc o0))/\Ys0 (capt nt ci σ) J g (tk acc) (fun H2=>Q (.ref acc) H2) W
def Zv8 (nt:Nat)(ci:List Nat)(wi:TI)(g:TG)(tk:Addr->TK)(o0:Addr->HO):TE:=fun σ H Q=>wi σ H fun J H1=>∀acc,H1 acc=none->∃W:Nat->Nat->Hp->Prop,(∃m,W 0 m (upd H1 acc (o0 acc)))/\Ys0 (capt nt ci σ) J g (tk acc) (fun H2=>Q (.ref acc) H2) W
section
theorem Xa8 {o0:HO}(B:BlkOk X scope cl N' nt ci)(I:Inv X pins σ H s)(hf:∀b∈fp,FpOk X pins H b)(ho:∀b∈fp,∃o,s.heap.get? b=some o)(hacc:acc=s.heap.objs.size)(hC:C=s.heap.objs.size+1)(k:∀b u,s.heap.get? b=some u->h1.get? b=some u)(ns:h1.Ns C fun _=>none)(ha:ObjOk X.prog X.w (upd H acc o0) h1 acc o0):
    Inv (blk X N' scope cl s H C fp) [] (capt nt ci σ) (upd H acc o0) { s with heap:=h1,toks:=tk }:=by
  have U:H acc=none:=I.hok.fresh (by simp_all);have q1:H C=none:=I.hok.fresh (by simp_all)
  have h:∀x c,cl.lookup x=some c->c < s.heap.objs.size:=fun x c e=>by
    obtain⟨v,q⟩:=I.cell x c (B.sub x c e);exact q.lt
  refine⟨⟨I.ok.mod,B.kind,I.ok.glob,I.ok.blt,?_,fun x y c G f=>I.ok.inj x y c (B.sub _ _ G) (B.sub _ _ f),fun x S=>B.has x S,fun x c z=>Bool.noConfusion z,fun W=>I.ok.hd W,I.ok.frames,.inl rfl,fun b a=>?_,I.bs,?_,fun b o e a=>?_,fun b a=>?_,I.stack,fun b a=>I.stkFree b a⟩,
    rfl,I.bare,Un.laid k (by rw[hacc];exact yo _) U,⟨_,ns,fun i x v G f e3=>?_⟩,fun x c e=>?_,?_,fun x c e=>?_,fun p T=>absurd (show p∈([]:List _) from T) (by simp),I.hok.laid k (by simp_all) ha,?_⟩
  · show s.heap.objs.size<=C
    simp_all
  · obtain⟨L,D,A,t,n,J⟩:=hf b a
    obtain⟨o,e⟩:=ho b a;refine⟨?_,fun x c Z=>n x c (B.sub x c Z)⟩;rw[hC];exact zv (zbu (zj e))
  · exact zi I.ok.bsz I.sz
  · obtain⟨L,D,A,t,n,J⟩:=hf b a
    rcases t with z | z
    · exact I.ok.noex b o e z
    · exact absurd (zt (zj e) (zi I.ok.bsz z)) (by simp)
  · intro z
    obtain⟨L,D,A,t,n,J⟩:=hf b a;rcases yk.mp (I.stkSub b z) with y | y
    · exact D y
    · exact A y
  ·
    obtain⟨m,hm,V⟩:=I.loc;unfold capt at f
    by_cases hi:i < nt
    · rw[zz (by simp_all),ybx] at f
      simp_all
    · rw[yah (by simp_all),zbo,zy] at f
      cases q:ci[i - nt]? with
      |none=>simp_all
      |some j =>
        rw[q] at f;have g:(σ[j]?).join=some v:=zan f;obtain⟨y,O,a2,a3,N⟩:=B.cap _ j q
        have Y:nt+(i - nt)=i:=by omega
        rw[Y,show N'[i]?=some x from G] at O;cases O
        have F:σ[j]?=some (some v):=by
          cases z:σ[j]? with
          |none=>rw[z] at g;cases g
          |some w=>rw[z] at g;exact congrArg some g
        obtain⟨u,r,l⟩:=V j x v a2 F (.inr (.inl a3));refine⟨u,r,.inr ⟨N,?_⟩⟩;rcases l with ⟨R,_⟩ | ⟨_,c,c1,c2⟩
        · have q0:X.env.scope.names.lookup x=some .local:=R
          simp_all
        · obtain⟨c',M⟩:=B.has x N
          have:=B.sub x c' M;rw[c1] at this;cases this;exact⟨c,M,let ⟨o,e,d⟩:=c2;⟨o,k _ _ e,d⟩⟩
  · obtain⟨v,q⟩:=I.cell x c (B.sub x c e)
    exact⟨v,let ⟨o,e,d⟩:=q;⟨o,k _ _ e,d⟩⟩
  · show upd H acc o0 C=none
    rw[Zb3 (by simp_all)];omega
  · rw[Zb3 (by rw[hacc];exact zv (h x c e))]
    exact I.freeC x c (B.sub x c e)
  · show (capt nt ci σ).length=N'.length
    unfold capt;rw[zf,zbo,yh,B.len]
theorem Zz0 {o0:Addr->HO}{Q:VK}(B:BlkOk X scope cl N' nt ci)(hc:X.calm=true)(hi:PI X tg iter wi)(hg:∀s H C ex,PG (blk X N' scope cl s H C ex) tg g)(hcl:clausesOf e=⟨tg,iter,ifs,0⟩::gs)(hden:∀acc env,Xb2 X.prog X.w X.A e 0 acc env)(htn:∀a env,Zq9 e 0 tg p0 (.ref a) env (body a env))(hb:∀s H C ex a,PTn (blk X N' scope cl s H C ex) (body a (blk X N' scope cl s H C ex).env) (tk a))(hnew:∀{A:Around} {E:Value->Shared->Prop} {s:Shared} {Q:Value->Shared->Prop},Q (.ref s.heap.objs.size) { s with heap:=s.heap.push ob }->wpAny (model X.prog X.w) A newAcc Q E s)(hfree:ob.isFreed=false)(hobj:∀(H:Hp) (h:Heap) (a:Addr),h.get? a=some ob->zbd < a->ObjOk X.prog X.w (upd H a (o0 a)) h a (o0 a))(hs:∀x,yaw iter X.env x=pure x)(I:Inv X pins σ H s)(h:Zv8 nt ci wi g tk o0 σ H Q)(fin:∀(acc C:Addr) (s':Shared) (H':Hp),Inv X pins σ H' s'->Q (.ref acc) H'->(∃m,s'.heap.Ns C m)->FpOk X pins H' C->(∃o,s'.heap.get? C=some o/\∀v,o.data≠.cell v)->compPost (model X.prog X.w) X.A X.xe use Qf (.ref acc) C (.ok .next) s'):
  wpAny (model X.prog X.w) X.A (comprehension e scope X.env pos' newAcc false (eval iter X.env) use) Qf X.xe s:=by with_unfolding_all
 refine wpAny_comprehension_free (use:=use) hcl hs B.clos B.kind B.names (thn (hi pins s σ H _ I h) fun v s1 h1=>thn h1 fun q0 f h2=>?_);obtain⟨it,n,tn,J,t,e,j,T,i,r,q2⟩:=h2;subst e;have O:t f.heap.objs.size=none:=j.hok.fresh (yo _);obtain⟨W,⟨m0,w0⟩,hW⟩:=q2 f.heap.objs.size O;refine hnew (wpAny_newFunctionEnv B.cell (by simp) (fun h₁ hns₁ hsb₁=>?_) B.kind);dsimp only at hns₁ hsb₁ ⊢;have G:(f.heap.push ob).objs.size=f.heap.objs.size+1:=zcl ..;have U:∀b u,f.heap.get? b=some u->h₁.get? b=some u:=fun b u e=>hsb₁.extBut b u (by rw[G];exact zv (zbu (zj e))) (yb _ (yb _ e));have a1:h₁.get? f.heap.objs.size=some ob:=hsb₁.extBut _ _ (by simp) (yb _ (yt _ hfree));rw[G] at hns₁ ⊢;have L:zbd < f.heap.objs.size:=j.big;have I3:=Xa8 (o0:=o0 f.heap.objs.size) (tk:=f.toks+([]:List (Str×Value)).length) B j r (fun b hb=>let ⟨o,e,_⟩:=T.obj _ _ i b hb;⟨o,e⟩) rfl rfl U (by simp_all) (hobj _ _ _ a1 L)
 have N:∀(H':Hp),(∀b∈n,H' b=none)->∀b∈n,FpOk (blk X N' scope cl f t (f.heap.objs.size+1) n) [] H' b:=fun H' hn b hb=>by
  obtain⟨f0,S,f3,Z,R,V⟩:=r b hb;obtain⟨o,e,_⟩:=T.obj _ _ i b hb;refine⟨hn b hb,?_,fun z=>?_,.inl hb,fun x c e'=>R x c (B.sub x c e'),fun p hp=>absurd (show p∈([]:List _) from hp) (by simp)⟩
  ·exact zv (zbu (zj e))
  ·rcases yk.mp (j.stkSub b z) with y | y
   ·exact S y
   ·exact f3 y
 have M:∀b∈n,upd t _ (o0 f.heap.objs.size) b=none:=fun b hb=>by
  obtain⟨o,e,_⟩:=T.obj _ _ i b hb;rw[Zb3 (zv (zj e))];exact (r b hb).1
 have D  := T.keep _ _ _ i fun b _ o e=>U b o e;have l:yde (model X.prog X.w) X.A (.compLoop e 0 (.ref it) (.ref f.heap.objs.size) (compEnvC scope cl (f.heap.objs.size+1) X.env))
   (compPost (model X.prog X.w) X.A X.xe use Qf (.ref f.heap.objs.size) (f.heap.objs.size+1)) { f with heap:=h₁,toks:=f.toks+([]:List (Str×Value)).length }:=by
  refine Xm6 (Y:=blk X N' _ cl f t _ n) (Q:=fun H'=>Q _ H') hc rfl (hden _ _) (htn _ _) (hg _ _ _ _) (hb _ _ _ _ _) T N hW (fun s' H' k q=>?_) I3 D M w0;have un:=k.base;have ns:=k.loc;have fC  := k.free
  have I4  := j.call' k.os un k.hok k.bare fun b hb=>by
   obtain⟨f0,S,f3,Z,R,V⟩:=r b hb;exact⟨Z,S,R,V⟩
  obtain⟨m,hm,_⟩:=ns;have F:s'.heap.Ns (f.heap.objs.size+1) m:=hm;refine fin _ _ s' H' I4 q ⟨m,F⟩ (j.fpOk (ycp _) fC) ?_;obtain⟨o,es,ep,e,d,_⟩:=F
  simp_all
 exact Zo6 (hden _ _) (by rw[hcl];rfl) rfl l (T.self _ _ _ _ _ D l)
theorem Xj0 (H:Hp)(h:Heap)(a:Addr)(e:h.get? a=some { cls:=.type "list",dict:=none,data:=.seq ([]:List Value).toArray })(_:zbd < a):ObjOk P w (upd H a (.lst [])) h a (.lst []):=⟨yz _,[],0,.nil,e⟩
theorem Zt1 {elt tg iter:Expr}{ifs:List Expr}{gs:List ybn}{tk:Addr->TK}(B:X.Ok->BlkOk X scope cl N' nt ci)(hc:X.calm=true)(hi:PI X tg iter wi)(hg:∀s H C ex,PG (blk X N' scope cl s H C ex) tg g)(htn:∀a env,Zq9 (.ListComp elt (⟨tg,iter,ifs,0⟩::gs) scope pos) 0 tg p0 (.ref a) env (body a env))(hb:∀s H C ex a,PTn (blk X N' scope cl s H C ex) (body a (blk X N' scope cl s H C ex).env) (tk a))(hs:∀x,yaw iter X.env x=pure x:=by intro _;rfl):
  PE X (.ListComp elt (⟨tg,iter,ifs,0⟩::gs) scope pos) (Yc6 nt ci wi g tk (.lst [])):=by with_unfolding_all
 intro i s v H Q I h;refine Zz0 (o0:=fun _=>.lst []) (B I.ok) hc hi hg rfl (fun _ _=>Wq7) htn hb (fun h=>yal h) rfl Xj0 hs I h fun d C w u t q c j y=>?_;obtain⟨m,c⟩:=c;obtain⟨r,p,A,n,l,k⟩:=j;exact⟨m,c,fun z f=>⟨.ref d,u,t.turned (fun b o hb e=>(f.2 b hb).trans e) r p n l k,rfl,q⟩⟩
theorem Zj8 {i:Nat}{elt tg iter:Expr}{ifs:List Expr}{gs:List ybn}{spos:Pos}{tk:Addr->TK}(hN:X.N.Nodup)(hi:X.N[i]?=some x)(hx:Loc X.env.scope x)(B:X.Ok->BlkOk X scope cl N' nt ci)(hc:X.calm=true)(hit:PI X tg iter wi)(hg:∀s H C ex,PG (blk X N' scope cl s H C ex) tg g)(htn:∀a env,Zq9 (.ListComp elt (⟨tg,iter,ifs,0⟩::gs) scope pos) 0 tg p0 (.ref a) env (body a env))(hb:∀s H C ex a,PTn (blk X N' scope cl s H C ex) (body a (blk X N' scope cl s H C ex).env) (tk a))(hsw:zde (.ListComp elt (⟨tg,iter,ifs,0⟩::gs) scope pos) (some (.Name x pos')) spos.line X.env=pure true)(hs:∀x,yaw iter X.env x=pure x:=by intro _;rfl)(hf:X.fn x=true∨X.env.scope.names.lookup x=some .local:=by first | exact .inl rfl | exact .inr rfl | assumption):
  PS X (.Assign [.Name x pos'] (.ListComp elt (⟨tg,iter,ifs,0⟩::gs) scope pos) spos) (tAsg (Yc6 nt ci wi g tk (.lst [])) (Zn5 i)):=by with_unfolding_all
 intro c s j H D I h;rw[exec_Assign_Name_used _ _ _ _ hsw];refine ya (zbg (ya ?_));refine ya (Zz0 (o0:=fun _=>.lst []) (Q:=fun v H1=>Zn5 i v j H1 D.nx) (B I.ok) hc hit hg rfl (fun _ _=>Wq7) htn hb (fun h=>yal h) rfl Xj0 hs I h fun t C s' y w q f k G=>?_);obtain⟨r,n,S,R,O,M⟩:=k;obtain⟨m,f⟩:=f;obtain⟨o,e,d⟩:=G
 have Y:Inv X (c++[(C,o)]) j y s':=w.pins_of fun p F=>(yd.mp F).elim (fun z=>w.pin p (yw _ z)) fun z=>by
  have W:p=(C,o):=by simp_all
  subst W;exact⟨e,r,n,S,d⟩
 refine wpAny_assign_Name (Zs3 Y hN hi hx (show RelV (.ref t) _ from rfl) (fun s2 u=>?_) hf);have V:=(u.pin (C,o) (by simp)).1;obtain⟨o',T,U,l,L,J⟩:=f;rw[e] at l;cases l;refine⟨m,⟨o,T,U,V,L,J⟩,fun h' A=>ye (ye ?_)⟩;have Z  := u.unpinned;exact⟨_,y,Z.turned (fun b o hb e=>(A.2 b hb).trans e) r n R O M,q⟩
theorem PE.weak {t t':TE}(h:PE X e t)(w:∀σ H Q,t' σ H Q->t σ H Q):PE X e t':=by with_unfolding_all exact fun a s σ H Q I z=>h a s σ H Q I (w σ H Q z)
theorem Wi4 {t:TE}(h:PE X e t):PE X e fun σ H Q=>∃R,t σ H R/\∀v H',R v H'->Q v H':=by with_unfolding_all exact fun pins s σ H Q I zZ=>(by obtain⟨R,z,m⟩:=zZ;exact thn (h pins s σ H R I z) fun _ _ zZ=>by obtain⟨x,H1,I1,r1,q1⟩:=zZ;exact ⟨x,H1,I1,r1,m _ _ q1⟩)
theorem Wi1 {t:TG}(h:PG X e t):PG X e fun v σ H Q=>∃R,t v σ H R/\∀σ' H',R σ' H'->Q σ' H':=by with_unfolding_all exact fun pins s σ H v u Q I r zZ=>(by obtain⟨R,z,m⟩:=zZ;exact thn (h pins s σ H v u R I r z) fun _ _ zZ=>by obtain⟨x,H1,I1,q1⟩:=zZ;exact ⟨x,H1,I1,m _ _ q1⟩)
theorem Wi0 {t:TI}(h:PI X tg e t):PI X tg e fun σ H Q=>∃R,t σ H R/\∀J H',R J H'->Q J H':=by with_unfolding_all exact fun pins s σ H Q I zZ=>(by obtain⟨R,z,m⟩:=zZ;exact thn (h pins s σ H R I z) fun _ _ q=>thn q fun _ _ zZ=>by obtain⟨a,b,c,J,H1,x1,x2,x3,x4,x5,q1⟩:=zZ;exact ⟨a,b,c,J,H1,x1,x2,x3,x4,x5,m _ _ q1⟩)
theorem Xj6 (h:tLC K nt ci wi g te σ H Q):
  Yc6 nt ci (fun σ H Q=>∃R,wi σ H R/\∀J H',R J H'->Q J H') (fun v σ H Q=>∃R,g v σ H R/\∀σ' H',R σ' H'->Q σ' H') (kApp fun σ H Q=>∃R,te σ H R/\∀v H',R v H'->Q v H') (.lst []) σ H Q :=
 ⟨_,h,fun J o r d k=>by
  obtain⟨W,⟨m,j⟩,l⟩:=r d k;refine⟨fun i m H=>∃ys,W i m ys H,⟨m,[],j⟩,fun i m H2 ⟨ys,w⟩=>?_⟩;obtain⟨a,b,c⟩:=l i m ys H2 w
  exact c.imp id fun⟨go,y⟩=>⟨go,fun x n f=>⟨_,y x n f,fun σ4 H4 ⟨wk,t⟩=>⟨wk,_,t,fun y H5 zZ=>by obtain⟨e,m',lt,w'⟩:=zZ;exact ⟨ys,e,b,m',lt,_,w'⟩⟩⟩⟩⟩
theorem Yc9 {tg elt iter:Expr}(B:X.Ok->BlkOk X scope cl N' nt ci)(hc:X.calm=true)(hi:PI X tg iter wi)(hg:∀s H C ex,PG (blk X N' scope cl s H C ex) tg g)(he:∀s H C ex,PE (blk X N' scope cl s H C ex) elt te)(hs:∀x,yaw iter X.env x=pure x:=by intro _;rfl):
  PE X (.ListComp elt [⟨tg,iter,[],0⟩] scope pos) (tLC X.K nt ci wi g te) :=
 (Zt1 B hc (Wi0 hi) (fun s H C ex=>Wi1 (hg s H C ex)) (fun _ _=>Xc5) (fun s H C ex a=>Zf1 (Wi4 (he s H C ex))) hs).weak fun _ _ _=>Xj6
theorem Zy1 {i:Nat}{tg elt iter:Expr}{spos:Pos}(hN:X.N.Nodup)(hi:X.N[i]?=some x)(hx:Loc X.env.scope x)(B:X.Ok->BlkOk X scope cl N' nt ci)(hc:X.calm=true)(hit:PI X tg iter wi)(hg:∀s H C ex,PG (blk X N' scope cl s H C ex) tg g)(he:∀s H C ex,PE (blk X N' scope cl s H C ex) elt te)(hsw:zde (.ListComp elt [⟨tg,iter,[],0⟩] scope pos) (some (.Name x pos')) spos.line X.env=pure true)(hs:∀x,yaw iter X.env x=pure x:=by intro _;rfl)(hf:X.fn x=true∨X.env.scope.names.lookup x=some .local:=by first | exact .inl rfl | exact .inr rfl | assumption):
  PS X (.Assign [.Name x pos'] (.ListComp elt [⟨tg,iter,[],0⟩] scope pos) spos) (tAsg (tLC X.K nt ci wi g te) (Zn5 i)):=by
 have h:=Zj8 (tk:=kApp fun b H Q=>∃R,te b H R/\∀v H',R v H'->Q v H') hN hi hx B hc (Wi0 hit) (fun s H C ex=>Wi1 (hg s H C ex)) (fun _ _=>Xc5) (fun s H C ex a=>Zf1 (Wi4 (he s H C ex))) hsw hs hf
 with_unfolding_all exact fun c s b H D I z=>h c s b H D I (Xj6 z)
end
open Ken
theorem Yg8 (t:ybb)(n:Nat):(t.orStandIn n).led=t.led:=by
 unfold ybb.orStandIn;split<;>rfl
theorem Yb3 (t:ybb)(n:Nat)(h:t.plain=false):(t.orStandIn n).plain=false:=by
 unfold ybb.orStandIn;split
 ·exact h
 ·rfl
theorem Yz6 (t:ybb)(es:Array (Int×Value))(h:Int)(x:Value):(layNew t es h x).2.1.led=t.led:=by
 unfold layNew
 split
 ·rw[Yg8];rfl
 ·rfl
theorem Yl3 (t:ybb)(es:Array (Int×Value))(h:Int)(x:Value)(hp:t.plain=false):(layNew t es h x).2.1.plain=false:=by
 unfold layNew
 split
 ·exact Yb3 _ _ hp
 ·rfl
theorem Ye2 {led plain:Bool}{t:ybb}{o:Array Nat}(h:ybb.laid mask finger moves led plain hashes=some (t,o)):t.led=led/\t.plain=plain:=by
 unfold ybb.laid at h
 cases z:ybb.layClean _ _ with
 |none=>rw[z] at h;cases h
 |some ow =>
  rw[z] at h;cases h;simp
theorem Yk2 (t:ybb)(es:Array (Int×Value))(n:Nat):(relayAll t es n).2.1.led=t.led:=by
 unfold relayAll
 split
 ·have f:=Ye2 (by assumption)
  dsimp only
  split
  ·exact f.1
  ·rfl
 ·rfl
theorem Yc7 (t:ybb)(es:Array (Int×Value))(n:Nat)(hp:t.plain=false):(relayAll t es n).2.1.plain=false:=by
 unfold relayAll
 split
 ·have f:=Ye2 (by assumption)
  dsimp only
  split
  ·exact f.2.trans hp
  ·rfl
 ·rfl
def SetAt (P:zm)(w:World)(h:Heap)(a:Addr)(xs:List Str):Prop :=
 ∃o es ep t ys,h.get? a=some o/\o.ExactSet/\o.data=Data.set es ep t/\ElemsOf (yag P w) es.toList/\Paired (fun (e:Int×Value) (x:Str)=>∃tk,e.2=.str x tk) es.toList ys/\yba ys xs/\xs.Nodup/\es.size < scanBound/\t.fits es.size=true /\
  t.led=!(w.params.followText "set-order")/\(t.plain=false∨xs=[])
theorem SetAt.at {xs:List Str}(s:SetAt P w h a xs)(k:∀o,h.get? a=some o->h'.get? a=some o):SetAt P w h' a xs:=by
 obtain⟨o,d,e,t,b,c,r⟩:=s;exact⟨o,d,e,t,b,k o c,r⟩
theorem Yb2 {l l':List α}{m:List β}(p:yba l l')(h:Paired F l m):∃m',yba m m'/\Paired F l' m':=by
 induction p generalizing m with
 |nil=>cases h;exact⟨[],.nil,.nil⟩
 |cons x _ ih =>
  cases h with
  |cons hx t =>
   obtain⟨m',f,c⟩:=ih t;exact⟨_::m',.cons _ f,.cons hx c⟩
 |swap x y l =>
  cases h with
  |cons hx t =>
   cases t with
   |cons hy t=>exact⟨_,.swap _ _ _,.cons hy (.cons hx t)⟩
 |trans _ _ ih1 ih2 =>
  obtain⟨i,e,b⟩:=ih1 h;obtain⟨g,d,a⟩:=ih2 b;exact⟨g,e.trans d,a⟩
section
variable {P:zm}{w:World}{E:Value->Shared->Prop}
theorem Yx0 {g:Bool->Sem Unit}(hg:∀(b:Bool) (s₁:Shared) (Q':Unit->Shared->Prop),Q' () s₁->wpAny (model P w) A (g b) Q' E s₁){t:ybb}(ho:s.heap.get? a=some o)(hx:o.ExactSet)(hd:o.data=.set es ep t){zs ys:List Str}(he:ElemsOf (yag P w) es1.toList)(hp:Paired (fun (e:Int×Value) (x:Str)=>∃tk,e.2=.str x tk) es1.toList ys)(hq:yba ys zs)(hn:zs.Nodup)(hz:es1.size < scanBound)(hf:t2.fits es1.size=true)(hl:t2.led=!(w.params.followText "set-order"))(hpl:t2.plain=false)(hR:∀h',ybm a s.heap h'->SetAt P w h' a zs->R (some true) { s with heap:=h' }):
  wpAny (model P w) A (do
   storeSet a es1 t2
   if (!wasDummy&&t2.tooFull)=true then do
    g (relayAll t2 es1 (ycb es1.size)).2.2
    storeSet a (relayAll t2 es1 (ycb es1.size)).1 (relayAll t2 es1 (ycb es1.size)).2.1
    pure (some true)
   else pure (some true)) R E s:=by
 have j:=SetOf_store ho hx hd he fun k=>by rw[List.any_eq_true] hz hf
 refine ya (wpAny_storeSet_of ho hd ?_ (zi (zk hz) (by decide)))
 split
 ·refine ya (hg _ _ _ ?_)
  have d:=relayAll_perm t2 es1 (ycb es1.size);have i:=relayAll_fits t2 es1 (ycb es1.size);have m:=Yk2 t2 es1 (ycb es1.size);have f:=Yc7 t2 es1 (ycb es1.size) hpl;generalize relayAll t2 es1 _=rr at d i m f;have h:=he.perm d;obtain⟨l,p,n⟩:=Yb2 d.symm hp
  have r  := by have:=d.length_eq;omega
  have c:rr.1.size < scanBound:=by simp_all
  have q:=SetOf_store j.1 hx rfl h fun k=>by rw[List.any_eq_true] c i
  refine ya (wpAny_storeSet_of j.1 rfl (ye ?_) (zi (zk c) (by decide)));refine hR _ ((zbz _ _ _).trans (zbz _ _ _)) ⟨_,rr.1,_,rr.2.1,l,q.1,hx,rfl,h,n,p.symm.trans hq,hn,c,i,m.trans hl,.inl f⟩
 ·refine ye (hR _ (zbz _ _ _) ⟨_,es1,_,t2,ys,j.1,hx,rfl,he,hp,hq,hn,hz,hf,hl,.inl hpl⟩)
theorem Yy2 {xs:List Str}(hs:SetAt P w s.heap a xs)(hz:xs.length+1 < scanBound)(hQ:∀h',ybm a s.heap h'->SetAt P w h' a (if x∈xs then xs else xs++[x])->∀b,Q b { s with heap:=h' }):
  wpAny (model P w) A (setAddHashed a (.str x tk) ((yag P w).hash x)) Q E s:=by
 obtain⟨o,c,ep,t,ys,C,Y,v,N,i,h,h7,h8,X,B,q4⟩:=hs
 have q5:c.size=xs.length:=by have:=zc i;have:=h.length_eq;simp_all
 have J:byScan (.str x tk) c=true:=by
  unfold byScan;rw[zo,zo];refine⟨⟨rfl,decide_eq_true h8⟩,?_⟩;rw[Array.all_eq_true_iff_forall_mem];intro e d;exact (N e (by simp_all)).2
 have U:(yag P w).is x (.str x tk)=true:=by
  show zbw x (.str x tk)=true;simp[zbw]
 unfold setAddHashed;refine yao ?_;rw[setAddHashedIn.eq_def];refine ya (yar C v X ?_);dsimp only;rw[if_pos J];unfold setAddByScan;refine ya (ya (ycw (ya (wpAny_setScan_of U C v X N ?_))))
 have f:∀e∈c.toList,(yag P w).is x e.2=true->x∈xs:=fun e d M=>by
  obtain⟨j,u,rfl⟩:=zw d;obtain⟨y,W,O,Z⟩:=paired_get i (za u);rw[Z] at M
  have q2:x=y:=by
   have M:zbw x (.str y O)=true:=M;exact (show y=x by simpa [zbw] using M).symm
  rw[q2];exact h.mem_iff.mp (yc W)
 have q0:x∈xs->∃e∈c.toList,(yag P w).is x e.2=true:=fun p=>by
  have W:x∈ys:=h.mem_iff.mpr p;obtain⟨j,u,e⟩:=zw W
  have T:j < c.toList.length:=by rw[zc i];omega
  obtain⟨y,S,O,Z⟩:=paired_get i (za T);rw[za u] at S;cases S;refine⟨_,zbm T,?_⟩;rw[Z,e]
  assumption
 cases hf:List.findIdx? (fun e=>(yag P w).is x e.2) c.toList with
 |some j =>
  dsimp only;refine ye (ye ?_)
  have p:x∈xs:=by
   obtain⟨u,hp,_⟩:=List.findIdx?_eq_some_iff_getElem.mp hf;exact f _ (zbm u) hp
  have q:=hQ s.heap (ybm.refl _ _) (by rw[if_pos p];exact⟨o,c,ep,t,ys,C,Y,v,N,i,h,h7,h8,X,B,q4⟩) false;exact q
 |none =>
  dsimp only
  have p:x ∉ xs:=fun z=>by
   grind
  rw[if_neg p] at hQ;have g:=layNew_perm t c ((yag P w).hash x) (.str x tk);have I:=layNew_fits t c ((yag P w).hash x) (.str x tk);have G:=Yz6 t c ((yag P w).hash x) (.str x tk);have R:=Yl3 t c ((yag P w).hash x) (.str x tk);generalize layNew t c ((yag P w).hash x) (.str x tk)=r at g I G R;obtain⟨D,t1,wd,gv⟩:=r;dsimp only at g I G R ⊢
  have L:(c.push ((yag P w).hash x,zdl x tk)).toList=c.toList++[((yag P w).hash x,zdl x tk)]:=by simp
  rw[L] at g
  have V:ElemsOf (yag P w) D.toList:=ElemsOf.perm (l:=c.toList++[((yag P w).hash x,zdl x tk)]) (fun e d=>by
   rcases yd.mp d with d | d
   ·exact N e d
   ·rw[zb.mp d]
    exact⟨⟨x,U,rfl⟩,rfl⟩) g
  have q3:Paired (fun (e:Int×Value) (x:Str)=>∃tk,e.2=.str x tk) (c.toList++[((yag P w).hash x,zdl x tk)]) (ys++[x]):=Zc4 i (.cons ⟨tk,rfl⟩ .nil);obtain⟨q6,p1,q1⟩:=Yb2 g.symm q3
  have q7:D.size=xs.length+1:=by
   have:=g.length_eq
   simp_all
  have nd:(xs++[x]).Nodup:=by
   rw[List.nodup_append]
   grind
  have tl:∀(F:ybb),F.fits D.size=true->F.led=t1.led->F.plain=false->∀h':Heap,ybm a s.heap h'->SetAt P w h' a (xs++[x])->wpAny (model P w) A (pure true:Sem Bool) Q E { s with heap:=h' }:=fun F _ _ _ h' m k=>ye (hQ h' m k true);refine ya ?_;cases gv
  all_goals first | refine ye ?_ | refine ycw ?_
  all_goals (
   by_cases hpl:t1.plain=true
   ·rw[if_pos hpl]
    refine ya (wpAny_of_eq (hashByValue.eq_5 _ _ _) ?_);simp only[Bool.false_eq_true,if_false];refine Yx0 (P:=P) (fun b s₁ Q' n=>by cases b<;>first | exact ye n | exact ycw n) C Y v V q1 (p1.symm.trans (h.append_right _)) nd (by simp_all) (ybb.fits_plain_off I) (G.trans B) rfl fun h' m k=>ye (hQ h' m k _)
   ·rw[if_neg hpl]
    refine Yx0 (fun b s₁ Q' n=>by cases b<;>first | exact ye n | exact ycw n) C Y v V q1 (p1.symm.trans (h.append_right _)) nd (by simp_all) I (G.trans B) (by simpa using hpl) fun h' m k=>ye (hQ h' m k _))
end
noncomputable def setO (P:zm)(w:World)(a:Addr)(xs:List Str):HO:=.ext fun h=>SetAt P w h a xs
theorem Xe3 {xs:List Str}(s:SetAt P w h a xs):ObjOk P w H h a (setO P w a xs):=by
 obtain⟨o,e,f,t,c,b,r⟩:=id s;exact⟨s,⟨o,b⟩,fun b d z k=>SetAt.at z k⟩
theorem Xe4 {xs:List Str}(ok:HOk P w H h)(e:H a=some (setO P w a xs)):SetAt P w h a xs:=(ok a _ e).1
noncomputable def Xe2 (w:World):Obj:={ cls:=.type "set",data:=.set #[] 0 (ybb.fresh 0 0 !(w.params.followText "set-order")) }
theorem Xe5 (e:h.get? a=some (Xe2 w)):SetAt P w h a [] :=
 ⟨_,#[],0,_,[],e,⟨rfl,rfl,rfl⟩,rfl,fun e b=>by simp_all,.nil,.nil,ydj,by decide,rfl,rfl,.inr rfl⟩
section
variable {P:zm}{w:World}{E:Value->Shared->Prop}
theorem Wa6 (h:Q (.ref s.heap.objs.size) { s with heap:=s.heap.push (Xe2 w) }):wpAny (model P w) A (newSet (.type "set")) Q E s:=by
 refine ya (ya (zav (ye ?_)));exact yal h (hd:=by show _<=zp;decide)
theorem Xn7 {xs:List Str}(hs:SetAt P w s.heap a xs)(hz:xs.length+1 < scanBound)(hQ:∀h' tk',ybm a s.heap h'->SetAt P w h' a (if x∈xs then xs else xs++[x])->Q .none { s with heap:=h',toks:=tk' }):
  wpAny (model P w) A (call (.builtin "set.add") [.ref a,.str x tk]) Q E s:=by
 have g:s.TypeIs (.ref a) "set":=by
  obtain⟨o,k,l,t,j,i,h,r⟩:=id hs;exact⟨o,i,h.1⟩
 have c:(yag P w).is x (.str x tk)=true:=by
  show zbw x (.str x tk)=true;simp[zbw]
 refine ybl F.slot_set_add g F.entry_set_add ?_ (F.args_set_add_2 (.ref a) (.str x tk));show wpAny _ _ (Builtin.Frozenset.oneOther "add" { pos:=[.ref a,.str x tk] } >>= _) _ _ _;refine ya ?_;show wpAny _ _ (ydm (.ref a) >>= fun d=>pure (d,zdl x tk)) _ _ _;refine ya (ye (ye ?_));exact ya (yao (ya ((yag P w).pyHash c (Yy2 hs hz fun h' f e b=>ye ⟨_,rfl,hQ h' _ f e⟩))))
end
def kAdd (P:zm)(w:World)(te:TE)(acc:Addr):TK:=fun σ H N=>te σ H fun y H5=>∃x xs,y=.str x/\H5 acc=some (setO P w acc xs)/\xs.length < 4000/\N (upd H5 acc (setO P w acc (if x∈xs then xs else xs++[x])))
theorem Xr0 {P:zm}{w:World}(hP:Y.prog=P)(hw:Y.w=w)(he:PE Y elt te):PTn Y (Wd0 elt (.ref acc) Y.env) (kAdd P w te acc):=by with_unfolding_all
 subst hP hw;intro d s g H N I h;refine ya (thn (he d s g H _ I h) fun v F k=>?_);obtain⟨y,M,j,p,x,C,e,c,f,n⟩:=k;subst e;obtain⟨D,rfl⟩:=p;have l:=Xe4 j.hok c;refine ya (zbg (ya (Xn7 l (zt (Nat.add_lt_add_right f 1) (by decide)) fun G i m a=>ye ?_)));obtain⟨o,J,L,t,B,z,r⟩:=id a;have A:=j.write (o:=setO _ Y.w acc _) (t':=i) (by rw[c];exact yce) (.inl rfl) (fun b u q e=>(m.2 b q).trans e) ⟨o,z⟩ (Xe3 a);exact⟨g,_,A,Wk.refl _,n⟩
section
theorem Wt0 {P:zm}{w:World}{elt tg iter:Expr}{ifs:List Expr}{gs:List ybn}{tk:Addr->TK}(hP:X.prog=P)(hw:X.w=w)(B:X.Ok->BlkOk X scope cl N' nt ci)(hc:X.calm=true)(hi:PI X tg iter wi)(hg:∀s H C ex,PG (blk X N' scope cl s H C ex) tg g)(htn:∀a env,Zq9 (.SetComp elt (⟨tg,iter,ifs,0⟩::gs) scope pos) 0 tg p0 (.ref a) env (body a env))(hb:∀s H C ex a,PTn (blk X N' scope cl s H C ex) (body a (blk X N' scope cl s H C ex).env) (tk a))(hs:∀x,yaw iter X.env x=pure x:=by intro _;rfl):
  PE X (.SetComp elt (⟨tg,iter,ifs,0⟩::gs) scope pos) (Zv8 nt ci wi g tk fun a=>setO P w a []):=by with_unfolding_all
 subst hP hw;intro i s v H Q I h;refine Zz0 (B I.ok) hc hi hg rfl (fun _ _=>Wu3) htn hb (fun h=>Wa6 h) rfl (fun H h a e _=>Xe3 (Xe5 e)) hs I h fun d C y u t q c j z=>?_;obtain⟨m,c⟩:=c;obtain⟨r,p,D,n,l,k⟩:=j;exact⟨m,c,fun A f=>⟨.ref d,u,t.turned (fun b o hb e=>(f.2 b hb).trans e) r p n l k,rfl,q⟩⟩
end
end L2
variable {tk:PySem.Addr->L2.TK}
namespace Ken
open PySem L2
noncomputable abbrev gd (p:Array Nat)(k:Nat):Nat:=p.getD k 0
theorem Wq2 {k x:Nat}(h:p[k]?=some x):gd p k=x:=by simp_all
structure PermOk (n:Nat)(p:Array Nat):Prop where
 size:p.size=n
 low:∀k,k < n->gd p k < n
 inj:∀i j,i < n->j < n->gd p i=gd p j->i=j
theorem Zi0 (h:p.Perm (yac n).toArray):PermOk n p:=by
 have c:p.size=n:=by have:=h.size_eq;simp_all
 have a  := by simpa using zci.mp h
 have d  := a.nodup_iff.mpr List.nodup_range
 have g:∀k (b:k < n),gd p k=p.toList[k]'(by simp_all):=fun k b=>by
  simp_all
 refine⟨c,fun k b=>?_,fun i j l f e=>?_⟩
 ·have:p.toList[k]'(by simp_all)∈yac n:=a.mem_iff.mp (zbm _)
  simp_all
 ·rw[g i l,g j f] at e
  exact (List.getElem_inj d).mp e
section
variable {n:Nat}{lt:Nat->Nat->Bool}{cmp:Nat->Nat->(Bool->Shared->Prop)->Shared->Prop}{S:Shared->Prop}
def Asks (n:Nat)(lt:Nat->Nat->Bool)(S:Shared->Prop)(cmp:Nat->Nat->(Bool->Shared->Prop)->Shared->Prop):Prop :=
 ∀i j (C:Bool->Shared->Prop) s,i < n->j < n->i≠j->S s->(∀s',S s'->C (lt i j) s')->cmp i j C s
theorem Yf9 {m k:Nat}(hm:m<=p.size):gd (zcz p 0 m) k=if k < m then gd p (m - 1 - k) else gd p k:=by
 have h:=zcu (i:=0) hm k;unfold zcz
 by_cases hk:k < m
 ·simp_all
 ·rw[if_neg hk]
  simp_all
theorem Xn8 {k m:Nat}(hk:k < p.size)(hm:m<=k):gd (PyProof.Rows.bubble p k (k - m)) i=if i=m then gd p k else if m < i/\i<=k then gd p (i - 1) else gd p i:=by
 have h:=PyProof.Rows.getElem?_bubble hk (k - m) (by omega) i
 have e:k - (k - m)=m:=by omega
 rw[e] at h;simp only[Array.getD_eq_getD_getElem?,h]
 split
 ·rfl
 ·split<;>rfl
end
end Ken
namespace L2
open PySem PySem.Spec PyProof.Rows
theorem Yx9 {vs:List Value}(h2:vs.length < 2)(ho:s.heap.get? a=some (seqObj "list" vs.toArray n))(h:Q .none { s with heap:=sortedHeap s.heap a vs vs.toArray }):wpAny (model prog w) A (call (.builtin "list.sort") [.ref a]) Q E s:=by
 refine ybl slot_list_sort ⟨_,ho,rfl⟩ entry_list_sort ?_ (args_list_sort (.ref a));rw[list_sort_plain];have g:=zj ho;refine ya (listItems_at ho rfl (ya (listUpdate_at ho rfl ?_)));obtain⟨d,c⟩:∃d,(s.heap.update a (zcf fun _=>#[])).get? a=some (seqObj "list" #[] d):=⟨_,get?_update_seq ho fun _=>#[]⟩;refine ya (seqEpoch_at c rfl (ya (wpAny_newTuple (ya (wpAny_newList (yao ?_))))));have b:(((s.heap.update a (zcf fun _=>#[])).push (seqObj "tuple" vs.toArray 0)).push (seqObj "list" #[] 0)).get? a=some (seqObj "list" #[] d):=yb _ (yb _ c)
 have f:vs.toArray.size < 2:=by omega
 simp only[if_pos f];refine ya (ye ?_);refine ya (ye ?_)
 have e:Array.map (fun x=>x.snd) (arrOf (SortSt.mk' general' (vs.toArray.zip vs.toArray) #[] 7 none))=vs.toArray:=by
  show Array.map _ (vs.toArray.zip _)=vs.toArray;simp[List.map_snd_zip]
 have i:(Array.map (fun x=>x.snd) (arrOf (SortSt.mk' general' (vs.toArray.zip vs.toArray) #[] 7 none))).size<=zp+1:=by
  rw[e];exact zi (zk h2) (by decide)
 refine ya (seqEpoch_at b rfl (ya (listUpdate_at b rfl ?_)));rw[if_neg (by simp)];exact ye ⟨_,rfl,(by rw[e];exact h)⟩
noncomputable def sLt (x y:Str):Bool:=decide (x.cps.toList < y.cps.toList)
theorem Xz0 (x:Str):sLt x x=false:=decide_eq_false (List.lt_irrefl _)
theorem Xf0 (h:sLt x y=true)(g:sLt y z=true):sLt x z=true:=decide_eq_true (List.lt_trans (of_decide_eq_true h) (of_decide_eq_true g))
theorem Xq7 (h:sLt x y=true):sLt y x=false:=decide_eq_false (List.lt_asymm (of_decide_eq_true h))
theorem Xy9 (h:x≠y):sLt x y=true∨sLt y x=true:=by
 rcases Std.lt_trichotomy x.cps.toList _ with z | z | z
 ·exact .inl (decide_eq_true z)
 ·exact absurd (Xy7 z) h
 ·exact .inr (decide_eq_true z)
noncomputable def lexT:List Str->List Str->Bool
 | [],[]=>false
 | [],_::_=>true
 | _::_,[]=>false
 |x::xs,y::ys=>if x=y then lexT xs ys else sLt x y
theorem Zi8:∀{a b c:List Str},lexT a b=true->lexT b c=true->lexT a c=true
 | [],[],c,h,_=>by cases h
 | [],_::_,[],_,g=>by cases g
 | [],_::_,_::_,_,_=>rfl
 | _::_,[],c,h,_=>by cases h
 | _::_,_::_,[],_,g=>by cases g
 |x::a,y::b,z::c,h,g=>by
  unfold lexT at h g ⊢
  by_cases e1:x=y
  ·subst e1
   rw[if_pos rfl] at h
   by_cases e2:x=z
   ·rw[if_pos e2] at g ⊢
    exact Zi8 h g
   grind
  ·rw[if_neg e1] at h
   by_cases e2:y=z
   ·simp_all
   ·rw[if_neg e2] at g
    have hz:=Xf0 h g
    have e3:x≠z:=fun q=>by rw[q,Xz0] at hz;grind
    simp_all
theorem Zl7:∀{a b:List Str},lexT a b=true->lexT b a=false
 | [],[],h=>by cases h
 | [],_::_,_=>rfl
 | _::_,[],h=>by cases h
 |x::a,y::b,h=>by
  unfold lexT at h ⊢
  by_cases e1:x=y
  ·rw[if_pos e1] at h
   rw[if_pos e1.symm];exact Zl7 h
  ·rw[if_neg e1] at h
   rw[if_neg fun z=>e1 z.symm];exact Xq7 h
theorem Yh2:∀{a b:List Str},a≠b->lexT a b=true∨lexT b a=true
 | [],[],h=>absurd rfl h
 | [],_::_,_=>.inl rfl
 | _::_,[],_=>.inr rfl
 |x::a,y::b,h=>by
  unfold lexT
  by_cases e1:x=y
  ·rw[if_pos e1,if_pos e1.symm]
   exact Yh2 fun z=>h (by simp_all)
  ·rw[if_neg e1,if_neg fun z=>e1 z.symm]
   exact Xy9 e1
noncomputable def lexF (fin:Bool):List Str->List Str->Bool
 |x::xs,y::ys=>if x=y then lexF fin xs ys else sLt x y
 | _,_=>fin
theorem Yl0:∀(a b:List Str),lexF (decide (a.length < b.length)) a b=lexT a b
 | [],[]=>rfl
 | [],_::_=>by rfl
 | _::_,[]=>by rfl
 |x::a,y::b=>by
  unfold lexF lexT;rw[<- Yl0 a b];simp
section
theorem Xi0 {o:HO}(x:ObjOk P w H h a o):∃ob,h.get? a=some ob:=by
 cases o with
 |lst xs=>obtain⟨_,_,_,_,e⟩:=x;exact⟨_,e⟩
 |tup xs=>obtain⟨_,_,_,p,e,_⟩:=x;exact⟨_,e⟩
 |dK kvs=>obtain⟨_,_,_,_,o,_,_,e,_⟩:=x;exact⟨_,e⟩
 |dT kvs=>obtain⟨_,_,_,_,o,_,_,e,_⟩:=x;exact⟨_,e⟩
 |set S n=>obtain⟨o,_,_,_,e,_⟩:=x;exact⟨_,e⟩
 |ins C dx fs=>exact⟨_,x.2.2.2.1⟩
 |own y=>assumption
 |xd fs=>obtain⟨_,⟨_,_,_,e,_⟩,_⟩:=x;exact⟨_,e⟩
 |rng lo hi=>obtain⟨_,_,_,e⟩:=x;exact⟨_,e⟩
 |frz ob u=>exact⟨_,x.1⟩
 |tbl ps=>exact⟨_,x⟩
 |met f y=>exact⟨_,x⟩
 |ext φ=>obtain⟨_,⟨_,e⟩,_⟩:=x;exact⟨_,e⟩
theorem Xr4 {α:Type}{l:List α}{d:α}(h:p.Perm (yac l.length).toArray):yba (p.toList.map fun i=>l.getD i d) l:=by
 have c  := by simpa using zci.mp h
 have b:=c.map fun i=>l.getD i d
 have a:(yac l.length).map (fun i=>l.getD i d)=l:=by
  apply ybt;intro j
  by_cases hj:j < l.length
  ·simp_all
  simp_all
 rw[a] at b;omega
theorem Yb1 {l:List α}{m:List β}(h:Paired F l m):∀{is:List Nat},(∀i∈is,i < l.length)->Paired F (is.map fun i=>l.getD i da) (is.map fun i=>m.getD i db)
 | [],_=>.nil
 |i::is,hs=>by
  refine .cons ?_ (Yb1 h fun j hj=>hs j (yn _ hj));have hi:=hs i zr;obtain⟨y,e,q⟩:=Ken.paired_get h (za hi)
  simp_all
theorem Xl0 {D:Addr}{o0:HO}{tk:Nat}{m:Str->Option Value}(I:Inv X pins σ H s)(hm:s.heap.Ns X.env.locals m)(hk:∀b o,b≠X.env.locals->s.heap.get? b=some o->h2.get? b=some o)(hn:h2.Ns X.env.locals m)(hD:s.heap.get? D=none)(hob:ObjOk X.prog X.w (upd H D o0) h2 D o0):Inv X pins σ (upd H D o0) { s with heap:=h2,toks:=tk }/\H D=none:=by
 have i:H D=none:=by
  cases e:H D with
  |none=>rfl
  |some f =>
   obtain⟨o,t⟩:∃o,s.heap.get? D=some o:=Xi0 (I.hok D f e)
   grind
 have l:∀b o,s.heap.get? b=some o->b≠D:=fun b o e z=>by grind
 have a:∀b u,H b=some u->b≠D:=fun b u e=>Za9 e i;refine⟨?_,i⟩;refine I.step (ch:=[]) (fun _ z=>nomatch z) (fun b o g _ _ e _=>hk b o g e) (fun b o g _ _ e _=>⟨o.slots,hk b o g e⟩) (fun b o _ e n=>by rw[Zb3 (l b o e)];exact n) (fun b o _ e=>?_)
  (fun b j q=>by rw[Zb3 (a _ _ q)];exact q) (fun b o u q=>by rw[Zb3 (a _ _ q)];exact q) (fun b p q=>⟨#[],by rw[Zb3 (a _ _ q),q];simp⟩) (fun r h=>?_) (fun b f e=>?_) I.bare
 ·by_cases hb:b=X.env.locals
  ·subst hb
   obtain⟨k,x,y,q,_⟩:=hn;exact⟨k,q⟩
  ·exact⟨o,hk b o hb e⟩
 ·rw[h.eq_nsMap,<- hm.eq_nsMap];omega
 ·by_cases hb:b=D
  ·subst hb
   rw[Za1] at e
   simp_all
  ·rw[Zb3 hb] at e
   refine (I.hok b f e).stay (fun c v d q=>hk c v ?_ q) (fun c q=>by rw[Zb3 (a _ _ q)];exact q) fun c j q=>by rw[Zb3 (a _ _ q)];exact q
   rcases d with rfl | d
   ·exact Za9 e I.free
   ·exact Za9 d I.free
end
section
variable {y v:V}{r:Value}{E:Value->Shared->Prop}
theorem Xm2 (hu:A.units < cLine)(I:Inv X pins σ H s)(g:DPut H a y v H')(ry:RelV y u)(rv:RelV v r)(h:∀s',Inv X pins σ H' s'->Q () s'):
  wpAny (model X.prog X.w) A (dictSet a u r) Q E s:=by
 rcases g with ⟨f,k,e,p,l,t⟩ | ⟨f,k,b,e,p,B,l,t⟩
 ·subst p t
  obtain⟨z,o,D,d,x⟩:=Wu2 I.hok e
  have F:D.length<=zp:=by rw[<- d.length];exact z
  have n:(putK f k v).length<=zp:=by have:=Zr6 f k v;omega
  refine wpAny_dictSet_pairs (Yz8 ry) x fun N i m=>h _ ?_;exact Xm0 I (by rw[e];exact yce) m (let ⟨q,_,_,j,_⟩:=i;⟨q,j⟩) (Wq6 n o (d.put k rv) i)
 ·subst p t
  cases (ry);obtain⟨z,o,C,d,x⟩:=Wu1 I.hok e
  have F:C.length<=zp:=by rw[<- zc d];exact z
  have n:(putK f k v).length<=zp:=by have:=Zr6 f k v;omega
  refine wpAny_dictSet_heap (knd:=tupleKind _) hu (Yv4 I.hok B) x fun N i m=>h _ ?_;obtain⟨q,O,R,j,M,L,J,_,G⟩:=i;refine Xm0 I (by rw[e];exact yce) m ⟨q,j⟩ ⟨n,o,_,(d.put k B rv).keeps fun c T S=>?_,q,O,R,j,M,L,J,G⟩;rw[Zb3 (Wa7 S e (by simp))];omega
end
def kPut (tk tv:TE)(acc:Addr):TK:=fun σ H N=>tk σ H fun y H1=>tv σ H1 fun x H2=>∃H3,DPut H2 acc y x H3/\N H3
section
theorem Xr1 {k v:Expr}{tk tv:TE}(hu:Y.A.units < cLine)(hk:PE Y k tk)(hv:PE Y v tv):PTn Y (Wq5 k v acc Y.env) (kPut tk tv acc):=by with_unfolding_all
 intro a s b H N I h;refine ya (thn (hk a s b H _ I h) fun t d c=>?_);obtain⟨y,o,l,f,i⟩:=c;refine ya (yao (thn (hv a d b o _ l i) fun p q c=>?_));obtain⟨x,w,j,e,u,g,n⟩:=c;exact ya (zbg (yao (Xm2 hu j g f e fun r m=>⟨b,_,m,Wk.refl _,n⟩)))
end
theorem Zu0 {xs:List V}{tk:TK}(Pv:Nat->Hp->Prop)(h0:Pv 0 H)(hl:∀i H,i<=xs.length->Pv i H->SqL K H a xs)(hs:∀i x H (N:Hp->Prop),xs[i]?=some x->Pv i H->(∀H',Pv (i+1) H'->N H')->g x σ0 H fun σ4 H4=>Wk σ0 σ4/\tk σ4 H4 N)(hd:∀H,Pv xs.length H->Q H):
  ∃W:Nat->Nat->Hp->Prop,(∃m,W 0 m H)/\Ys0 σ0 (Itl K a) g tk Q W:=by
 refine⟨fun i m H=>m=xs.length - i/\i<=xs.length/\Pv i H,⟨xs.length,by simp,yz _,h0⟩,?_⟩;rintro i m H ⟨rfl,c,p⟩;have q:=hl i H c p
 by_cases hlt:i < xs.length
 ·refine .inr ⟨⟨xs,xs[i],q,by simp⟩,fun x H' y=>?_⟩
  obtain⟨e,y⟩:=y;subst e;exact hs i x H' _ (y xs q) p fun d b=>⟨xs.length - _,by omega,rfl,hlt,b⟩
 ·have e:i=xs.length:=by omega
  subst e;exact .inl ⟨⟨xs,q,yo _⟩,hd _ p⟩
end L2
namespace Ken
open PySem L2
noncomputable def Tm.kids:Tm->List Tm
 | .nd _ a b=>[a,b]
 | _=>[]
noncomputable def Tm.pre:Tm->List Tm
 | .low=>[.low]
 | .ltr w=>[.ltr w]
 | .nd k a b=>.nd k a b::(a.pre++b.pre)
theorem Tm.pre_len:∀t:Tm,t.pre.length=t.parts
 | .low=>rfl
 | .ltr _=>rfl
 | .nd _ a b=>by
  show (a.pre++b.pre).length+1=1+a.parts+b.parts;rw[zf,a.pre_len,b.pre_len];omega
theorem Tm.pre_eq (t:Tm):t.pre=t::t.kids.flatMap Tm.pre:=by
 cases t with
 |low=>rfl
 |ltr w=>rfl
 |nd k a b=>show _::_=_::(a.pre++_);simp
noncomputable def Tm.own:Tm->List Str
 | .low=>["low"]
 | .ltr w=>["letter",w]
 | .nd k _ _=>[k.str]
noncomputable def Tm.spell (t:Tm):List Str:=t.pre.flatMap Tm.own
theorem Zd9 (k:Kd)(a b:Tm):(Tm.nd k a b).spell=k.str::(a.spell++b.spell):=by
 show (Tm.nd k a b::_).flatMap _=_;rw[ycf,ybz];rfl
theorem Ya5:∀{s t:Tm} {l m:List Str},s.spell++l=t.spell++m->s=t/\l=m
 | .low,.low,l,m,h=>⟨rfl,by simp_all⟩
 | .low,.ltr w,l,m,h=>absurd (yap (h)).1 (by decide)
 | .low,.nd k a b,l,m,h=>by
  exact absurd (yap (show _::l=k.str::_ from h)).1 (by cases k<;>decide)
 | .ltr w,.low,l,m,h=>absurd (yap (h)).1 (by decide)
 | .ltr w,.ltr v,l,m,h=>by
  have h1:=(yap (show _::w::l=_::v::m from h)).2
  grind
 | .ltr w,.nd k a b,l,m,h=>by
  exact absurd (yap (show _::_=k.str::_ from h)).1 (by cases k<;>decide)
 | .nd k a b,.low,l,m,h=>by
  exact absurd (yap (show k.str::_=_::m from h)).1 (by cases k<;>decide)
 | .nd k a b,.ltr w,l,m,h=>by
  exact absurd (yap (show k.str::_=_::_ from h)).1 (by cases k<;>decide)
 | .nd k a b,.nd k' c d,l,m,h=>by
  rw[Zd9,Zd9] at h;obtain⟨e1,e2⟩:=yap (show k.str::(_++l)=k'.str::(_++m) from h);rw[zao,zao] at e2;obtain⟨f1,f2⟩:=Ya5 e2;obtain⟨g1,g2⟩:=Ya5 f2;exact⟨by rw[Kd.str_inj e1,f1,g1],g2⟩
theorem Yj6 {s:Tm}(h:s.spell=t.spell):s=t:=(Ya5 (m:=[]) (by rw[h])).1
theorem Za8 (k:KeepT K H H'){us:List V}(h:Paired (IsT K H) us ts):Paired (IsT K H') us ts:=Paired.mapP h fun _ _ z=>z.keep k
inductive sp_within (K:W.Frag):Sp
 |mk {vs H Q E:_} (v:V) (t:Tm):vs=[v]->IsT K H v t->(∀(r:Addr) (H':Hp) (us:List V),Same H H'->H r=none->H' r=some (.lst us)->Paired (IsT K H') us t.kids->Q (.ref r) H')->sp_within K vs H Q E
inductive sp_pieces (K:W.Frag):Sp
 |mk {vs H Q E:_} (v:V) (t:Tm):vs=[v]->IsT K H v t->t.parts<=400->(∀(r:Addr) (H':Hp) (us:List V),Same H H'->H r=none->H' r=some (.lst us)->Paired (IsT K H') us t.pre->Q (.ref r) H')->sp_pieces K vs H Q E
def Zd7 (os:List Tm):Prop:=os.Pairwise fun a b=>lexT a.spell b.spell=true
end Ken
namespace L2
open PySem PySem.Spec PyProof.Rows
noncomputable def Itv (K:W.Frag)(a:Addr)(n:Nat):It :=
 ⟨fun i H=>i < n/\∃xs x,SqL K H a xs/\xs[n - 1 - i]?=some x,fun i H x H'=>H'=H/\∀xs,SqL K H a xs->xs[n - 1 - i]?=some x,fun i _=>i=n⟩
theorem Xp4 (a it:Addr)(n:Nat):Turn P w K tg (Itv K a n) [it] it (fun i h=>h.IsRevIter it a ((n:Int) - 1 - (i:Int))) where
  mem:=by simp
  obj:=fun i h f b g=>by
    obtain⟨o,e,c,d⟩:=f
    simp_all
  keep:=fun i h r f k=>f.at fun o e=>k it (by simp) o e
  item:=by
    intro X L D M J i m s C H E I l f q;subst L D M;obtain⟨hi,xs,x,F,U⟩:=q;obtain⟨q0,R,p,hz⟩:=I.list F;obtain⟨u,hu,S⟩:=R.get U;obtain⟨A,z,V,y,v,t⟩:=l it (by simp)
    have B:(n:Int) - 1 - i=((n - 1 - i:Nat)):=by omega
    rw[B] at f;refine wpAny_pyNext_rev_item f p.isList (x:=u) (by simp_all) fun r j O=>?_;have Z:Inv X _ C H { s with heap:=r }:=I.turned (fun b o g e=>(O.2 b g).trans e) A z y v t
    have N:((n - 1 - i:Nat)) - 1=n - 1 - ((i+1):Int):=by omega
    rw[N] at j;obtain⟨o,e,c,d⟩:=id j;exact⟨u,rfl,Xt1 e c d rfl ⟨x,H,Z,S,⟨rfl,fun ys T=>by rw[I.list_inj T F];omega⟩,j,fun b g=>(l b g).1⟩⟩
  done:=by
    intro X L D M J i m s C H E I l f q;have G  := q;subst G;obtain⟨A,z,V,y,v,t⟩:=l it (by simp)
    have B:(i:Int) - 1 - i=-1:=by omega
    rw[B] at f;exact wpAny_pyNext_rev_end (I.ok.hd J) f fun r Y=>⟨rfl,I.turned (fun b o g e=>Y b o g e) A z y v t⟩
  self:=fun _ _ _ _ _ f h=>wpAny_pyIter_revIter f h
def iRev (K:W.Frag)(ta:TA):TI:=fun σ H R=>ta σ H fun vs H1=>∃a xs,vs=[.ref a]/\SqL K H1 a xs/\R (Itv K a xs.length) H1
section
theorem Xv6 {tg e:Expr}{ta:TA}{p:Pos}(hg:Gl X "reversed")(hm:X.mg "reversed"=none)(ha:PA X [e] ta)(hs:zx [e] X.env=[(false,eval e X.env)]:=by rfl):
  PI X tg (.Call (.Name "reversed" p) [e] [] pos) (iRev X.K ta):=by with_unfolding_all
 intro f s i H R I h;refine Call_ (Zt7 I hg hm (by rfl) (zal (thn (ha pos f s i H _ I h) fun us s1 ⟨vs,H1,I1,r1,d⟩=>?_) (by assumption) rfl));obtain⟨l,n,e,d,q⟩:=d;subst e;obtain⟨u,rfl,k⟩:=r1.one;cases k;obtain⟨a,j,r,_⟩:=I1.list d;have t:=j.length;refine call_reversed_list r.isList ?_;have c:Heap.IsRevIter (s1.heap.push (revObj l (a.toArray.size - 1))) _ l _:=⟨_,yt _ rfl,rfl,rfl⟩;refine wpAny_pyIter_revIter c ?_;have m:Inv X _ i H1 { s1 with heap:=s1.heap.push (revObj l (a.toArray.size - 1)) }:=I1.kept fun b o e=>yb _ e
 have g:(a.toArray.size:Int) - 1=n.length - 1 - ((0):Int):=by simp_all
 rw[g] at c;rw[g] at m;rw[g];refine⟨_,_,_,_,H1,rfl,m,Xp4 l _ _,c,fun b v=>?_,q⟩
 have e:b=s1.heap.objs.size:=by simp_all
 subst e;exact I1.fpOk (by simp) (I1.hok.fresh (by simp))
end
theorem Wc4 {xs:List V}{tb:TS}{D:Ends}(Pv:Nat->St->Hp->Prop)(h0:Pv 0 σ H)(hl:∀i σ H,i<=xs.length->Pv i σ H->SqL K H a xs)(hs:∀i x σ H,i < xs.length->xs[xs.length - 1 - i]?=some x->Pv i σ H->g x σ H fun σ2 H2=>tb { D with nx:=Pv (i+1),ct:=Pv (i+1),bk:=D.nx } σ2 H2)(hd:∀σ H,Pv xs.length σ H->D.nx σ H):
  ∃W:Nat->Nat->St->Hp->Prop,(∃m,W 0 m σ H)/\∀i m σ H,W i m σ H ->
   ((Itv K a xs.length).stop i H/\D.nx σ H)∨((Itv K a xs.length).go i H/\∃N:St->Hp->Prop,(∀σ' H',N σ' H'->∃m',m' < m/\W (i+1) m' σ' H')/\∀x H',(Itv K a xs.length).yld i H x H'->g x σ H' fun σ2 H2=>tb { D with nx:=N,ct:=N,bk:=D.nx } σ2 H2):=by
 refine⟨fun i m σ H=>m=xs.length - i/\i<=xs.length/\Pv i σ H,⟨xs.length,by simp,yz _,h0⟩,?_⟩;rintro i m σ H ⟨rfl,c,p⟩;have q:=hl i σ H c p
 by_cases hlt:i < xs.length
 ·refine .inr ⟨⟨hlt,xs,xs[xs.length - 1 - i],q,za _⟩,Pv _,fun σ' H' b=>⟨xs.length - _,by omega,rfl,hlt,b⟩,fun x H' y=>?_⟩
  obtain⟨e,y⟩:=y
  simp_all
 ·have e:i=xs.length:=by omega
  subst e;exact .inl ⟨rfl,hd _ _ p⟩
def Ya3 (i:Nat)(f:Addr)(t:TE):TE:=fun σ H Q=>σ[i]?=some (some (.ref f))/\t σ H Q
section
theorem Yg7 {k:Nat}{E:XK}{fd:yq}{ds:List Value}{dvs:List V}{p:Pos}{e:Expr}{es:List Expr}{t:TA}{i:Nat}(F:FnOk X.prog X.w X.K X.mg X.base CX k f fd ps sp)(hr:Room k X.A)(hN:X.N[i]?=some x)(hv:Vis X.env.scope x)(hk:ybd X.K (.ref f)=true)(hb:Binds X.K fd ps ds)(hd:Vals dvs ds)(hx:Yx1 CX X E)(ha:PA X (e::es) t)(hdb:(x == ("__debug__":Str))=false:=by decide)(hcd:(x == ("__classdict__":Str))=false:=by decide)(he:zx (e::es) X.env=(false,eval e X.env)::zx es X.env:=by rfl)(hpl:(backTo pos (zx es X.env)).any (·.1)=false:=by rfl):
  PE X (.Call (.Name x p) (e::es) [] pos) (Ya3 i f (Ya4 sp dvs E t)):=by with_unfolding_all
 intro a s b H Q I h;obtain⟨n,m⟩:=h;refine zbn ?_;refine thn (Xg4 (X:=X) (i:=i) hN hv hdb hcd a s b H (fun v d=>v=.ref f/\d=H) I ⟨_,n,rfl,rfl⟩) fun v j g=>?_;obtain⟨y,z,c,l,u,o⟩:=g;subst u;subst o;cases (show v=yay f from l);refine W.callWith_K (h₀:=X.base) c.ok.mod.kin hk (thn (ha pos a j b z _ c m) fun us s1 ⟨vs,d,I1,r,q⟩=>⟨I1.kIn,?_⟩) he hpl;exact Xv2 F hr hb hd hx I1 r q
end
theorem Xo0:∀{bs:List Bool} {us:List Value},Vals (bs.map V.bl) us->us=bs.map ydl
 | [],us,h=>by cases h;rfl
 |b::bs,us,h=>by
  cases h with
  |cons r t =>
   rw[r,Xo0 t];rfl
theorem Xo2:∀(bs:List Bool) (f:Nat->Bool),(∀i b,bs[i]?=some b->f i=b)->(yac bs.length).all f=bs.all id:=fun bs f h=>by
 rw[Bool.eq_iff_iff,yaf,yaf];constructor
 ·intro g b c
  obtain⟨i,a,e⟩:=zw c;have:=g i (zcb.mpr a);rw[h i b (by simp_all)] at this;exact this
 ·intro g i a
  have d:=zcb.mp a;rw[h i bs[i] (by simp)];exact g _ (by simp)
section
theorem Zu5 (hc:X.calm=true):Zv6 X (.builtin "all") (fun vs H Q=>∃(a:Addr) (bs:List Bool),vs=[.ref a]/\SqL X.K H a (bs.map V.bl)/\Q (.bl (bs.all id)) H):=by
 intro n s D H F G Q I r h;obtain⟨a,bs,rfl,B,q⟩:=h;obtain⟨u,rfl,m⟩:=Yn9 r;cases m;obtain⟨f,l,p,L⟩:=I.list B;have y:=Xo0 l;have g  := p.isList
 have k:a≠s.heap.objs.size:=by obtain⟨o,e,_⟩:=g;exact zv (zj e)
 have W:=Walks.list (prog:=X.prog) (w:=X.w) (A:=X.A.in1) (I.ok.hd hc) _ a k f.toArray;refine call_all_walk (wpAny_pyIter_list g ?_);refine⟨s.heap.objs.size,_,_,_,_,_,fun i=>bs[i]?.getD true,rfl,W,⟨⟨_,yt _ rfl,rfl,rfl⟩,g.at fun o e=>yb _ e⟩,fun i v s' C N c d=>?_,fun M J x=>?_⟩
 ·have d:C (bs[i]?.getD _) s':=d
  rw[y] at c;simp only[List.getElem?_toArray,zy] at c
  cases e:bs[i]? with
  |none=>rw[e] at c;cases c
  |some b =>
   rw[e] at c d;cases c;exact zaw d
 ·have t  := fun b o e=>x b o (fun z=>absurd (zj e) (zb.mp z▸Nat.lt_irrefl _)) (yb _ e)
  have j:f.toArray.size=bs.length:=by simp_all
  rw[j,Xo2 bs _ fun i b e=>by simp_all];exact⟨.bl _,H,I.kept t,rfl,q⟩
end
section
variable {prog:zm}{w:World}{E:Value->Shared->Prop}
theorem Yo7 (hh:A.handled=none)(hE:∀h' e,(∀b o,s.heap.get? b=some o->h'.get? b=some o)->(∃o,h'.get? e=some o/\o.cls=.type "StopIteration")->E (.ref e) { s with heap:=h' }) :
  wpAny (model prog w) A (zba:Sem α) Q E s:=by
 refine ya ?_;refine ya (yal ?_);refine ya (wpAny_of_eq rfl (yal ?_));refine ya (wpAny_handled ?_);rw[hh];exact wpAny_throw (hE _ _ (fun b o e=>yb _ (yb _ e)) ⟨_,yt _ rfl,rfl⟩)
end
open Ken
theorem slot_si_next:Slot "set_iterator" (zh "__next__") "set_iterator.__next__" :=
 Slot.of (owner:="set_iterator") (n:="__next__") rfl (by rfl) (by rfl) (by rfl) (Or.inl (by rfl)) (by rfl) (by decide +kernel)
theorem Yi2:entryFor table "set_iterator.__next__"=some Builtin.«set_iterator.__next__»:=entryFor_of_tree rfl
theorem Yn7 (a:Value):argsOk "set_iterator.__next__" { pos:=[a] }:=by rfl
theorem Yd1:entryFor table "set.__iter__"=some Builtin.«frozenset.__iter__» :=
 entryFor_alias (id':="frozenset.__iter__") (by rw[zcx];rfl) (by rfl) (by decide +kernel) (by rw[zcx];rfl)
theorem Zv9:Slot "set_iterator" (zh "__iter__") "set_iterator.__iter__" :=
 Slot.of (owner:="set_iterator") (n:="__iter__") rfl (by rfl) (by rfl) (by rfl) (Or.inl (by rfl)) (by rfl) (by decide +kernel)
theorem Yi3:entryFor table "set_iterator.__iter__"=some Builtin.«dict_keyiterator.__iter__» :=
 entryFor_alias (id':="dict_keyiterator.__iter__") (by rw[zcx];rfl) (by rfl) (by decide +kernel) (by rw[zcx];rfl)
noncomputable abbrev Zu8 (first:Value)(i:Nat)(a:Addr)(n ep:Nat):Obj:={ cls:=.type "set_iterator",data:=.fields #[first,.int i 0,.ref a,.int n 0,.int ep 0] }
section
variable {P:zm}{w:World}{E:Value->Shared->Prop}
theorem Wd2 {Q:α->Shared->Prop}(hn:n≠0)(h:∀i d,i < n->wpAny (model P w) A (k i) Q E { s with drawn:=d }):wpAny (model P w) A (Sem.choose src n k) Q E s:=by
 intro Γ p hΓ;exact⟨hn,h _ _ (Nat.mod_lt _ (Nat.pos_of_ne_zero hn)) Γ p hΓ⟩
theorem Zs4 {first:Value}{n:Nat}{t:ybb}{Q:Option Value->Shared->Prop}(hI:s.heap.get? I=some (Zu8 first i a es.size ep))(ha:s.heap.get? a=some o)(hd:o.data=.set es ep t)(hf:t.fits es.size=true) (h:wpAny (model P w) A.in1 (match first with
     |zdp slot tok=>do
      let __do_lift <- setNext a slot.toNat i ep
      match __do_lift with
       |some (x,next)=>do
        zdd (.ref I) 0 (rawInt ↑next)
        zdd (.ref I) 1 (rawInt (i+1))
        ret x
       |none=>do
        zdd (.ref I) 2 yak
        zba
     |x=>do
      let __x <- seqItems? first
      match __x with
       |some places =>
        match places[i]? with
        |some (zdp place tok)=>do
         let x <- setNextDrawn a place.toNat ep
         zdd (.ref I) 1 (rawInt (i+1))
         ret x
        |some val=>unsupported "internal:set_iterator"
        |none=>do
         zdd (.ref I) 0 (rawInt 0)
         zdd (.ref I) 2 yak
         zba
       |x=>unsupported "internal:set_iterator")
   (fun fin s'=>∃v,fin=Fin.done (Flow.ret v)/\Q (some v) s') (fun e s'=>wpAny (model P w) A (isInstance e (zaz "StopIteration") >>= fun b=>if b=true then pure none else throw e) Q E s') s):wpAny (model P w) A (pyNext (.ref I)) Q E s:=by
 have c:s.TypeIs (.ref I) "set_iterator":=⟨_,hI,rfl⟩;refine ya (wpAny_attempt (wpAny_callSpecial?_slot c slot_si_next (ybl slot_si_next c Yi2 ?_ (Yn7 _))));show wpAny _ _ (fieldsOf _ >>= _) _ _ _;refine ya (wpAny_fieldsOf hI rfl (ya (wpAny_setEntries_of ha hd hf ?_)));rw[if_neg (by simp)];refine yat h (fun fin s' zZ=>by obtain⟨v,e,q⟩:=zZ;exact ⟨v,e,ye q⟩) fun e s' q=>q
theorem Yf8 {T:Addr}{t:ybb}{places:List Nat}{x:Value}(hI:s.heap.get? I=some (Zu8 (.ref T) i a es.size ep))(ha:s.heap.get? a=some o)(hd:o.data=.set es ep t)(hf:t.fits es.size=true)(hT:s.heap.get? T=some { cls:=.type "tuple",data:=.seq (places.map fun (k:Nat)=>rawInt (k:Int)).toArray })(hp:places[i]?=some pl)(he:es[pl]?=some (hx,x))(hQ:∀h',h'.get? I=some (Zu8 (.ref T) (i+1) a es.size ep)->ybm I s.heap h'->Q (some x) { s with heap:=h' }):wpAny (model P w) A (pyNext (.ref I)) Q E s:=by
 refine Zs4 (n:=es.size) hI ha hd hf ?_;refine ya (wpAny_seqItems hT rfl ?_);dsimp only;rw[show (places.map fun (k:Nat)=>rawInt k).toArray[i]?=some (rawInt pl) from by simp[*]];refine ya ?_;refine ya (yar ha hd hf ?_);dsimp only;rw[if_neg (by simp),zcg,he];exact ye (ya (yas hI (by simp) fun h' b c=>ye ⟨x,rfl,hQ h' b c⟩))
theorem Yk1 {T:Addr}{t:ybb}{places:List Nat}(hh:A.handled=none)(hI:s.heap.get? I=some (Zu8 (.ref T) i a es.size ep))(ha:s.heap.get? a=some o)(hd:o.data=.set es ep t)(hf:t.fits es.size=true)(hT:s.heap.get? T=some { cls:=.type "tuple",data:=.seq (places.map fun (k:Nat)=>rawInt (k:Int)).toArray })(hp:places[i]?=none)(hQ:∀h',Heap.ExtBut I s.heap h'->Q none { s with heap:=h' }):wpAny (model P w) A (pyNext (.ref I)) Q E s:=by
 refine Zs4 (n:=es.size) hI ha hd hf ?_;refine ya (wpAny_seqItems hT rfl ?_);dsimp only;rw[show (places.map fun (k:Nat)=>rawInt k).toArray[i]?=none from by simp[*]];refine ya (yas hI (by simp) fun p g d=>ya (yas g (by simp) fun m l c=>?_));refine Yo7 hh fun h' e k ⟨oe,he,hc⟩=>ya (zdb ⟨oe,he,hc⟩ isSubtype_stop ?_);exact ye (hQ h' fun b h f j=>k b h ((c.2 b f).trans ((d.2 b f).trans j)))
theorem Yk0 {t:ybb}(hb:w.params.followText "set-order"=true)(hI:s.heap.get? I=some (Zu8 (.int 0 0) i a es.size ep))(ha:s.heap.get? a=some o)(hd:o.data=.set es ep t)(hf:t.fits es.size=true)(he:(ycl (w.params.setOrder a ep) es)[i]?=some e)(hQ:∀h',h'.get? I=some (Zu8 (.int 0 0) (i+1) a es.size ep)->ybm I s.heap h'->Q (some e.2) { s with heap:=h' }):wpAny (model P w) A (pyNext (.ref I)) Q E s:=by
 refine Zs4 (n:=es.size) hI ha hd hf ?_;refine ya ?_;refine ya (yar ha hd hf ?_);refine ya (ya (zav (ye ?_)));rw[if_pos (show (model P w).w.params.followText "set-order"=true from hb),if_neg (by simp)];refine ya ?_;refine ya (yar ha hd hf ?_);refine ya (ya (zav (ye ?_)));rw[if_pos (show (model P w).w.params.followText "set-order"=true from hb)];refine ya (zav (ye (ye ?_)));rw[show (ycl ((model P w).w.params.setOrder a ep) es)[i]?=some e from he];exact ya (yas hI (by simp) fun h f c=>ya (yas f (by simp) fun g d b=>ye ⟨_,rfl,hQ g d (c.trans b)⟩))
theorem Yo8 {t:ybb}(hh:A.handled=none)(hb:w.params.followText "set-order"=true)(hI:s.heap.get? I=some (Zu8 (.int 0 0) i a es.size ep))(ha:s.heap.get? a=some o)(hd:o.data=.set es ep t)(hf:t.fits es.size=true)(he:(ycl (w.params.setOrder a ep) es)[i]?=none)(hQ:∀h',Heap.ExtBut I s.heap h'->Q none { s with heap:=h' }):wpAny (model P w) A (pyNext (.ref I)) Q E s:=by
 refine Zs4 (n:=es.size) hI ha hd hf ?_;refine ya ?_;refine ya (yar ha hd hf ?_);refine ya (ya (zav (ye ?_)));rw[if_pos (show (model P w).w.params.followText "set-order"=true from hb),if_neg (by simp)];refine ya ?_;refine ya (yar ha hd hf ?_);refine ya (ya (zav (ye ?_)));rw[if_pos (show (model P w).w.params.followText "set-order"=true from hb)];refine ya (zav (ye (ye ?_)));rw[show (ycl ((model P w).w.params.setOrder a ep) es)[i]?=none from he];refine ya (yas hI (by simp) fun h g c=>?_);refine Yo7 hh fun h' e k ⟨oe,he,hc⟩=>ya (zdb ⟨oe,he,hc⟩ isSubtype_stop ?_);exact ye (hQ h' fun b d hb f=>k b d ((c.2 b hb).trans f))
theorem Yn5 (j k:Nat):zdk #[j] k=if j < k then 1 else 0:=by
 show zdk.go #[j] k 1 0 1=_;rfl
theorem Xe1 {slot:Nat}{t:ybb}{Q:Option Value->Shared->Prop}(hb:w.params.followText "set-order"=false)(hI:s.heap.get? I=some (Zu8 (.int slot 0) i a es.size ep))(ha:s.heap.get? a=some o)(hd:o.data=.set es ep t)(hf:t.fits es.size=true)(hl:t.led=true)(h1:es.size<=1) (h:wpAny (model P w) A.in1 (match (match es[zdk t.place slot]?,t.place[zdk t.place slot]? with
              |some (_,x),some j=>some (x,j+1)
              | _,_=>none) with
              |some (x,next)=>do
                zdd (.ref I) 0 (rawInt ↑(next:Nat))
                zdd (.ref I) 1 (rawInt (i+1))
                ret x
              |none=>do
                zdd (.ref I) 2 yak
                zba)
      (fun fin s'=>∃v,fin=Fin.done (Flow.ret v)/\Q (some v) s') (fun e s'=>wpAny (model P w) A (isInstance e (zaz "StopIteration") >>= fun b=>if b=true then pure none else throw e) Q E s') s):wpAny (model P w) A (pyNext (.ref I)) Q E s:=by
  refine Zs4 (n:=es.size) hI ha hd hf ?_;refine ya ?_;refine ya (yar ha hd hf ?_);refine ya (ya (zav (ye ?_)));rw[if_neg (show ¬_ from fun z=>by rw[show (model P w).w.params.followText "set-order"=false from hb] at z;cases z)]
  split
  · rename_i hz
    have hz:(!t.plain&&decide _)=true:=hz;rw[zo] at hz;have:=of_decide_eq_true hz.2;omega
  refine ya ?_;show wpAny _ _ (if _=true then unsupported "set:maker-not-led" else pure ()) _ _ _;rw[if_neg (by rw[hl];simp)];exact ye (ye h)
theorem Zv1 {α:Type}:∀(l:List α) (i:Nat) (h:i < l.length),yba (l[i]::l.eraseIdx i) l
 | [],i,h=>absurd h (by simp)
 |x::l,0,h=>.refl _
 |x::l,i+1,h=>by
  have ih:=Zv1 l i (by simp_all);exact (yba.swap _ _ _).trans (.cons _ ih)
theorem Ye8 :∀(n:Nat) (xs:List α) {s:Shared} {Q:List α->Shared->Prop},xs.length<=n->(∀ys d,yba ys xs->Q ys { s with drawn:=d })->wpAny (model P w) A (drawOrder n xs) Q E s
 | 0,xs,s,Q,hn,hQ=>by
  have  := List.length_eq_zero_iff.mp (Nat.le_zero.mp hn);subst this;exact ye (hQ [] _ .nil)
 |n+1,[],s,Q,hn,hQ=>by
  exact ye (hQ [] _ .nil)
 |n+1,x::xs,s,Q,hn,hQ=>by
  refine ya (Wd2 (by simp) fun i d hi=>ye ?_);rw[za hi];refine ya (Ye8 n _ (by rw[List.length_eraseIdx_of_lt hi];omega) fun ys d' hp=>ye (hQ _ _ ?_));exact (yba.cons _ hp).trans (Zv1 _ _ hi)
theorem Zl0 (next:Nat->Nat)(xs:Array α):yba (ycl next xs).toList xs.toList:=by
 have c:∀(f k:Nat) (left:List α) (a:Array α),left.length=f->yba (ycl.go next f k left a).toList (a.toList++left):=by
  intro f
  induction f with
  |zero =>
   intro k left a h;rw[List.length_eq_zero_iff.mp h,yaa,pickOrder.go.eq_def]
  |succ f ih =>
   intro k left a h;rw[pickOrder.go.eq_def];dsimp only;have b:next k % left.length < left.length:=Nat.mod_lt _ (by omega);rw[za b];refine (ih _ _ _ (by rw[List.length_eraseIdx_of_lt b];omega)).trans ?_;rw[Array.toList_push,zao];exact yba.append_left _ (Zv1 _ _ b)
 unfold ycl;have:=c xs.size 0 _ #[] rfl
 simp_all
def SiAt (w:World)(I a:Addr)(es:Array (Int×Value))(ep:Nat)(t:ybb)(ord:List Value)(fs:List Addr)(i:Nat)(h:Heap):Prop :=
  (∃o,h.get? a=some o/\o.data=.set es ep t) /\
  ((∃(T : Addr) (places : List Nat), fs = [T] /\ h.get? I = some (Zu8 (.ref T) i a es.size ep) /\ h.get? T = some { cls := .type "tuple", data := .seq (places.map fun (k : Nat) => rawInt (k : Int)).toArray } /\ ord = places.map (fun k => ((es[k]?).getD (0, .none)).2) /\ places.length = es.size /\ ∀k ∈ places, k < es.size) ∨
   (fs=[]/\w.params.followText "set-order"=true/\h.get? I=some (Zu8 (.int 0 0) i a es.size ep)/\ord=(ycl (w.params.setOrder a ep) es).toList.map (·.2)) ∨
   (fs=[]/\w.params.followText "set-order"=false/\es.size<=1/\t.led=true/\ord=es.toList.map (·.2)/\∃slot:Nat,h.get? I=some (Zu8 (.int slot 0) i a es.size ep)/\(i=0->slot=0)/\(i=1->∃j,t.place=#[j]/\slot=j+1)))
theorem SiAt.keep {t:ybb}(x:SiAt w I a es ep t ord fs i h)(k:∀b∈I::a::fs,∀o,h.get? b=some o->h'.get? b=some o):SiAt w I a es ep t ord fs i h':=by
 obtain⟨⟨o,n,m⟩,x⟩:=x;refine⟨⟨o,k a (by simp) o n,m⟩,?_⟩;rcases x with ⟨T,d,e,c,g,r⟩ | ⟨e,b,c,r⟩ | ⟨e,b,z,l,r,f,c,j⟩
 ·exact .inl ⟨T,d,e,k I (by simp) _ c,k T (by simp_all) _ g,r⟩
 ·exact .inr (.inl ⟨e,b,k I (by simp) _ c,r⟩)
 ·exact .inr (.inr ⟨e,b,z,l,r,f,k I (by simp) _ c,j⟩)
theorem Xo1 {α:Type}:∀{x:Array α},x.size=1->∃j,x=#[j]
 | ⟨[j]⟩,_=>⟨j,rfl⟩
theorem Xb8 {I a:Addr}{es:Array (Int×Value)}{ep:Nat}{t:ybb}{ord:List Value}{fs:List Addr}(hh:A.handled=none)(hf:t.fits es.size=true)(haI:a≠I)(hfI:∀T∈fs,T≠I) :
  Walks P w A I (I::a::fs) [I] es.size (fun i v=>ord[i]?=some v) (SiAt w I a es ep t ord fs):=by
 have f:∀{h g:Heap} {b:Addr},ybm I h g->b≠I->∀o,h.get? b=some o->g.get? b=some o:=fun m u o e=>(m.2 _ u).trans e;refine⟨fun b u=>by grind,fun i h g x k=>x.keep k,fun i s Q E hi x q=>?_,fun s Q E x q=>?_,fun i s Q E x q=>?_⟩
 ·obtain⟨⟨o,p,n⟩,x⟩:=x
  rcases x with ⟨T,c,e,d,J,W,C,B⟩ | ⟨e,b,d,r⟩ | ⟨e,b,z,l,r,y,d,C,B⟩
  ·have hp:c[i]?=some (c[i]'(by omega)):=za _
   have hk:=B _ (zbm (by omega:i < c.length));refine Yf8 d p n hf J hp (hx:=(es[c[i]'(by omega)]'hk).1) (x:=(es[c[i]'(by omega)]'hk).2) (by simp_all) fun g F m=>?_;refine q _ g s.toks ?_ ⟨⟨o,f m haI _ p,n⟩,.inl ⟨T,c,e,F,f m (hfI T (by simp_all)) _ J,W,C,B⟩⟩ fun b o u e=>f m (by simp_all) _ e
   simp_all
  ·have X:(ycl (w.params.setOrder a ep) es).size=es.size:=by have:=(Zl0 (w.params.setOrder a ep) es).length_eq;omega
   have S:(ycl (w.params.setOrder a ep) es)[i]?=some ((ycl (w.params.setOrder a ep) es)[i]'(by omega)):=Array.getElem?_eq_getElem _;refine Yk0 b d p n hf S fun g F m=>?_;refine q _ g s.toks ?_ ⟨⟨o,f m haI _ p,n⟩,.inr (.inl ⟨e,b,F,r⟩)⟩ fun b o u e=>f m (by simp_all) _ e
   simp_all
  ·have i0:i=0:=by omega
   subst i0
   have R:es.size=1:=by omega
   have Y:=C rfl;subst Y
   have Z:t.place.size=1:=by
    unfold ybb.fits at hf
    simp_all
   obtain⟨j,M⟩:=Xo1 Z;obtain⟨e0,N⟩:=Xo1 R;refine Xe1 b d p n hf l z ?_;rw[M,Yn5,if_neg (by simp),N];refine ya (yas d (by simp) fun g1 O D=>ya (yas O (by simp) fun g2 q0 V=>ye ⟨_,rfl,?_⟩));have m:=D.trans V;refine q _ g2 _ ?_ ⟨⟨o,f m haI _ p,n⟩,.inr (.inr ⟨e,b,z,l,r,j+1,?_,fun z=>absurd z (Nat.succ_ne_zero 0),fun _=>⟨j,M,rfl⟩⟩)⟩ fun b o u e=>f m (by simp_all) _ e
   ·rw[r,N];rfl
   assumption
 ·obtain⟨⟨o,p,n⟩,x⟩:=x
  rcases x with ⟨T,c,e,d,J,W,C,B⟩ | ⟨e,b,d,r⟩ | ⟨e,b,z,l,r,y,d,C,B⟩
  ·exact Yk1 hh d p n hf J (List.getElem?_eq_none (by omega)) fun g G=>q g _ fun b o u e=>G b o (by simp_all) e
  ·have X:(ycl (w.params.setOrder a ep) es).size=es.size:=by have:=(Zl0 (w.params.setOrder a ep) es).length_eq;omega
   exact Yo8 hh b d p n hf (zcv (by omega)) fun g G=>q g _ fun b o u e=>G b o (by simp_all) e
  ·refine Xe1 b d p n hf l z ?_
   have L:es[zdk t.place y]?=none:=by
    by_cases R:es.size=1
    ·obtain⟨j,M,Y⟩:=B R
     rw[M,Yn5,if_pos (by omega)];exact zcv (by omega)
    ·exact zcv (by omega)
   rw[L];refine ya (yas d (by simp) fun g1 O D=>?_);refine Yo7 hh fun g e k ⟨oe,S,hc⟩=>ya (zdb ⟨oe,S,hc⟩ isSubtype_stop ?_);exact ye (q g _ fun b ob u G=>k b ob ((D.2 b (by simp_all)).trans G))
 ·have U:s.TypeIs (.ref I) "set_iterator":=by
   rcases x.2 with ⟨T,c,e,d,_⟩ | ⟨e,b,d,r⟩ | ⟨e,b,z,l,r,y,d,C,B⟩
   ·exact⟨_,d,rfl⟩
   ·exact⟨_,d,rfl⟩
   ·exact⟨_,d,rfl⟩
  exact wpAny_pyIter_slot U Zv9 (ybl Zv9 U Yi3 (id ye ⟨.ref I,rfl,"set_iterator",.builtin "set_iterator.__next__",U,slot_si_next.lookup,q⟩) rfl)
theorem Xs6 {t:ybb}(ha:s.heap.get? a=some o)(hx:o.ExactSet)(hd:o.data=.set es ep t)(hf:t.fits es.size=true)(hl:t.led=!(w.params.followText "set-order"))(hp:t.plain=false∨es.size<=1)(hz:es.size<=zp)(hQ:∀(I:Addr) (fs:List Addr) (ord:List Value) (h':Heap) (d:Drawn),s.heap.objs.size<=I->(∀T∈fs,s.heap.objs.size<=T/\T≠I)->(∀b∈I::fs,b < h'.objs.size)->(∀b o,s.heap.get? b=some o->h'.get? b=some o)->yba ord (es.toList.map (·.2))->SiAt w I a es ep t ord fs 0 h'->Q (.ref I) { s with heap:=h',drawn:=d }):
  wpAny (model P w) A (pyIter (.ref a)) Q E s:=by
 have hT:s.TypeIs (.ref a) "set":=⟨o,ha,hx.1⟩;refine wpAny_pyIter_slot hT F.slot_set_iter (ybl F.slot_set_iter hT Yd1 ?_ (F.args_set_iter_1 (.ref a)));show wpAny _ _ (Builtin.Frozenset.slot0 "__iter__" { pos:=[.ref a] } >>= _) _ _ _;refine ya ?_;show wpAny _ _ (ydm (.ref a)) _ _ _;refine ye ?_;refine ya (ya (wpAny_setEntries_of ha hd hf (ye ?_)));refine ya ?_;unfold setDrawn;refine ya (yar ha hd hf ?_);dsimp only;refine ya (ya (zav (ye (ye ?_))));dsimp only
 split
 ·rename_i hc
  have hc:(!(w.params.followText "set-order")&&(!t.plain&&decide (es.size > 1)))=true:=hc;refine ya (Ye8 es.size (yac es.size) (by simp) fun ys d hy=>?_)
  have hyl:ys.length=es.size:=by have:=hy.length_eq;simp_all
  refine ya (wpAny_newTuple (s:={ s with drawn:=d }) ?_ (by simp_all));dsimp only;have ha1:(s.heap.push { cls:=zaz "tuple",data:=Data.seq (List.map (fun (i:Nat)=>rawInt ↑i) ys).toArray }).get? a=some o:=yb _ ha;refine ya (ya (yar (s:={ s with heap:=s.heap.push { cls:=zaz "tuple",data:=Data.seq (List.map (fun (i:Nat)=>rawInt ↑i) ys).toArray },drawn:=d }) ha1 hd hf (ye ?_)));dsimp only;refine ya (yal ?_ (hd:=by show 5<=zp+2;decide));generalize hp1:s.heap.push { cls:=zaz "tuple",data:=Data.seq (List.map (fun (i:Nat)=>rawInt ↑i) ys).toArray }=g1 at ha1
  have z1:g1.objs.size=s.heap.objs.size+1:=by rw[<- hp1];exact zcl _ _
  have eT:g1.get? s.heap.objs.size=some { cls:=zaz "tuple",data:=Data.seq (List.map (fun (i:Nat)=>rawInt ↑i) ys).toArray }:=by rw[<- hp1];exact yt _ rfl
  have k1:∀b o,s.heap.get? b=some o->g1.get? b=some o:=fun b o e=>by rw[<- hp1];exact yb _ e
  have eI:(g1.push (Zu8 (.ref s.heap.objs.size) 0 a es.size ep)).get? _=some _:=yt _ rfl;refine ye ⟨_,rfl,"set_iterator",_,⟨_,eI,rfl⟩,slot_si_next.lookup,?_⟩;refine hQ _ [s.heap.objs.size] _ _ d (by simp_all) (fun T hT=>by simp_all) (fun b hb=>?_) (fun b o e=>yb _ (k1 b o e)) ?_ ⟨⟨o,yb _ ha1,hd⟩,.inl ⟨_,ys,rfl,eI,yb _ eT,rfl,hyl,fun k hk=>by have:=hy.mem_iff.mp hk;simp_all⟩⟩
  ·rw[zcl]
   rcases yk.mp hb with rfl | hb
   ·simp
   ·rw[zb.mp hb]
    rw[z1];exact zbu (by simp)
  ·refine (hy.map _).trans ?_
   have e:List.map (fun k=>(es[k]?.getD (0,yak)).2) (yac es.size)=es.toList.map (·.2):=by
    apply List.ext_getElem
    ·simp
    simp_all
   rw[e]
 ·rename_i hc
  have hc:¬((!w.params.followText "set-order"&&(!t.plain&&decide _))=true):=hc;refine ya (ye (ya (ya (yar ha hd hf (ye ?_)))));refine ya (yal ?_);have eI:(s.heap.push (Zu8 (.int 0 0) 0 a es.size ep)).get? _=some _:=yt _ rfl;refine ye ⟨_,rfl,"set_iterator",_,⟨_,eI,rfl⟩,slot_si_next.lookup,?_⟩
  by_cases hb:w.params.followText "set-order"=true
  ·refine hQ _ [] _ _ _ (by simp) (by simp) (by simp) (fun b o e=>yb _ e) ((Zl0 _ _).map _) ⟨⟨o,yb _ ha,hd⟩,.inr (.inl ⟨rfl,hb,eI,rfl⟩)⟩
  ·have hb':w.params.followText "set-order"=false:=by simp_all
   have hsz:es.size<=1:=by
    rcases hp with hp | hp
    ·grind
    omega
   refine hQ _ [] _ _ _ (by simp) (by simp) (by simp) (fun b o e=>yb _ e) (.refl _) ⟨⟨o,yb _ ha,hd⟩,.inr (.inr ⟨rfl,hb',hsz,by simp_all,rfl,0,eI,fun _=>rfl,fun z=>absurd z (by decide)⟩)⟩
end
section
variable {P:zm}{w:World}{E:Value->Shared->Prop}
theorem Xs8 (hT:s.TypeIs (.ref a) "set")(h:Q false s):wpAny (model P w) A (Builtin.List.listLengthHint (.ref a)) Q E s:=by
 refine ya (wpAny_specialOf hT F.slot_set_len.lookup ?_);refine ya (zdb hT sub_set_self ?_);rw[if_neg (by decide)];refine wpAny_ite_split (fun _=>ya (wpAny_typeOf hT (ye h))) fun b=>absurd rfl b
theorem Xa6 {S:Addr}{t:ybb}{R:Result->Shared->Prop}{res:Value}{c₀:Nat}(hh:A.handled=none)(ha:s.heap.get? a=some o)(hx:o.ExactSet)(hd:o.data=.set es ep t)(hf:t.fits es.size=true)(hl:t.led=!(w.params.followText "set-order"))(hp:t.plain=false∨es.size<=1)(hz:es.size<=zp)(hS:s.heap.get? S=some { cls:=.type "list",data:=.seq #[] c₀ })(hR:∀(h':Heap) (tk:Nat) (d:Drawn) (vs:List Value) (c':Nat),(∀b o,b≠S->s.heap.get? b=some o->h'.get? b=some o)->h'.get? S=some { cls:=.type "list",data:=.seq vs.toArray c' }->yba vs (es.toList.map (·.2))->R (.ok (.ret res)) { s with heap:=h',toks:=tk,drawn:=d }):
  wpAny (model P w) A.in1 (zdg (.ref S) (.ref a) res) (fun fin s'=>match fin with
   |Fin.done f=>R (.ok f) s'
   |Fin.again c'=>c'.quiet=true/\yde (model P w) A c' R s') (fun e s'=>R (.error e) s') s:=by
 have hT:s.TypeIs (.ref a) "set":=⟨o,ha,hx.1⟩
 have U:S≠a:=fun z=>by
  grind
 unfold zdg;refine ya (wpAny_typeOf hT ?_)
 rw[if_neg (show ¬((Builtin.List.listSameRef (.ref S) (.ref a)||zaz "set" == zaz "list"||zaz "set" == zaz "tuple")=true) from by
  rw[show Builtin.List.listSameRef (.ref S) (.ref a)=false from by
   show (S == a)=false
   simp_all]
  decide)]
 refine ya (Xs6 ha hx hd hf hl hp hz fun I fs ord p d Y u q0 m n D=>?_)
 have Z:ord.length=es.size:=by have:=n.length_eq;simp_all
 have M:a≠I:=zv (zt (zj ha) Y);have V:S≠I:=zv (zt (zj hS) Y)
 have y:S ∉ I::a::fs:=fun z=>by
  rcases yk.mp z with z | z
  ·exact V z
  rcases yk.mp z with z | z
  ·exact U z
  ·exact zv (zt (zj hS) (u S z).1) rfl
 have l:=m S _ hS;have N:({ s with heap:=p,drawn:=d }:Shared).TypeIs (.ref a) "set":=⟨o,m a _ ha,hx.1⟩;have W:=Xb8 (P:=P) (w:=w) (A:=A.in1) (I:=I) (a:=a) (es:=es) (ep:=ep) (t:=t) (ord:=ord) (fs:=fs) hh hf M fun T O=>(u T O).2
 have r:∀(h:Heap) (c₁ tk:Nat),SiAt w I a es ep t ord fs 0 h->(∀b o,b≠S->s.heap.get? b=some o->h.get? b=some o)->h.get? S=some { cls:=.type "list",data:=.seq #[] c₁ } ->
   yde (model P w) A (Code.builtin "list.extend.loop" { pos:=[.ref S,.ref I,res] }) R { s with heap:=h,toks:=tk,drawn:=d }:=fun h c₁ tk J hk hS₁ =>
  codeAny_extend_loopS (Walks.toS W) hz S y res es.size 0 { s with heap:=h,toks:=tk,drawn:=d } #[] c₁ rfl (yz _) J hS₁ (ItemsOf.nil _) fun s' i c' L q1 k=>by
   rw[Moved.eq_with L];refine hR s'.heap s'.toks d i.toList c' (fun b o g e=>L.heap b o (fun C=>?_) (hk b o g e)) (by omega) ?_
   ·rcases yk.mp C with z | z
    ·exact g z
    ·have z':b=I:=zb.mp z
     exact absurd (zj e) (by simp_all)
   ·have e:i.toList=ord:=by
     apply ybt;intro j
     cases q:i.toList[j]? with
     |none =>
      have:i.toList.length<=j:=List.getElem?_eq_none_iff.mp q;rw[List.getElem?_eq_none (by rw[Z];have:=k.1;simp_all)]
     |some v=>exact (k.2 j v (by simpa using q)).symm
    simp_all
 refine ya (yao (Xs8 N ?_));refine wpAny_ite_split (fun _=>?_) fun _=>?_
 ·refine ya (ycw (ya ?_))
  have B:=zaf (zcf fun x=>x.push yak) l rfl;have X:=zaf (zcf fun x=>x.pop) B rfl
  have G:∀b ob,b≠S->p.get? b=some ob->((p.update S (zcf fun x=>x.push yak)).update S (zcf fun x=>x.pop)).get? b=some ob:=fun b ob g e =>
   ((zbz _ S _).2 b g).trans (((zbz _ S _).2 b g).trans e)
  refine ya (wpAny_updateSeq l rfl (wpAny_updateSeq B rfl ?_));exact ye ⟨plainId_quiet F.plain_extend_loop _,r _ _ _ (D.keep fun b g ob e=>G b ob (fun z=>y (z▸g)) e) (fun b ob g e=>G b ob g (m b ob e)) X⟩
 ·exact ye ⟨plainId_quiet F.plain_extend_loop _,r p _ _ D (fun b o _ e=>m b o e) l⟩
theorem Ys1 {t:ybb}(hh:A.handled=none)(ha:s.heap.get? a=some o)(hx:o.ExactSet)(hd:o.data=.set es ep t)(hf:t.fits es.size=true)(hl:t.led=!(w.params.followText "set-order"))(hp:t.plain=false∨es.size<=1)(hz:es.size<=zp)(hQ:∀(h':Heap) (tk:Nat) (d:Drawn) (vs:List Value),s.heap.objs.size < h'.objs.size->(∀b o,s.heap.get? b=some o->h'.get? b=some o)->yba vs (es.toList.map (·.2))->Q vs { s with heap:=h',toks:=tk,drawn:=d }):
  wpAny (model P w) A (collect (.ref a)) Q E s:=by
 refine ya (wpAny_runValue (codeAny_builtin entry_proto_collect' ?_));refine ya (yal (ye ⟨plainId_quiet F.plain_list_iadd _,codeAny_builtin entry_list_iadd' ?_⟩));have i:(s.heap.push { cls:=zaz "list",data:=Data.seq ([]:List _).toArray }).get? _=some { cls:=zaz "list",data:=Data.seq #[] 0 }:=yt _ rfl
 refine Xa6 (s:={ s with heap:=s.heap.push { cls:=zaz "list",data:=Data.seq ([]:List _).toArray } }) (R:=fun r f=>match r with
  | .ok (.ret v)=>wpAny _ A (match v with
   | .ref a=>do
    let o <- load a
    match o.data with
     | .seq xs _=>pure xs.toList
     | _=>unsupported "internal:collect"
   | _=>unsupported "internal:collect") Q E f
  | .ok _=>False
  | .error e=>E e f) hh (yb _ ha) hx hd hf hl hp hz i fun h' tk d vs j k g c=>?_
 exact ya (wpAny_load g (ye (hQ h' tk d vs (zj g) (fun b h e=>k b h (zv (zj e)) (yb _ e)) c)))
theorem Yo5 {es:List (Int×Value)}{ys:List Str}(h:Paired (fun (e:Int×Value) (x:Str)=>∃tk,e.2=.str x tk) es ys):yda (es.map (·.2)) ys:=by
 induction h with
 |nil=>exact .nil
 |cons hx _ ih =>
  obtain⟨tk,e⟩:=hx;rw[ybg,e];exact .cons _ tk ih
theorem Xd7 {vs:List Value}{ys:List Str}(p:yba us vs)(h:yda us ys):∃zs,yba ys zs/\yda vs zs:=by
 induction p generalizing ys with
 |nil=>cases h;exact⟨[],.nil,.nil⟩
 |cons x _ ih =>
  cases h with
  |cons n tk t =>
   obtain⟨zs,f,c⟩:=ih t;exact⟨_::zs,.cons _ f,.cons _ tk c⟩
 |swap x y l =>
  cases h with
  |cons n tk t =>
   cases t with
   |cons n2 tk2 t=>exact⟨_,.swap _ _ _,.cons _ tk2 (.cons _ tk t)⟩
 |trans _ _ ih1 ih2 =>
  obtain⟨i,e,b⟩:=ih1 h;obtain⟨g,d,a⟩:=ih2 b;exact⟨g,e.trans d,a⟩
theorem Yx8 {xs:List Str}(hh:A.handled=none)(st:SetAt P w s.heap a xs)(h64:xs.length < 64)(hQ:∀(D:Addr) (h':Heap) (tk:Nat) (d:Drawn) (out:List Value) (c:Nat) (ys:List Str),s.heap.objs.size<=D->(∀b o,s.heap.get? b=some o->h'.get? b=some o)->h'.get? D=some { cls:=.type "list",data:=.seq out.toArray c }->yda out ys->yba ys xs->sortedS ys=true->Q (.ref D) { s with heap:=h',toks:=tk,drawn:=d }):
  wpAny (model P w) A (call (.builtin "sorted") [.ref a]) Q E s:=by
 obtain⟨o,N,ep,t,ys,M,L,J,Z,x,u,Y,X,I,B,y⟩:=st
 have i:N.size=xs.length:=by have:=zc x;have:=u.length_eq;simp_all
 refine Calls.call_function_entry kind_sorted plain_sorted entry_sorted (args_sorted1 (.ref a)) ?_;show wpAny _ _ (pure () >>= _) _ _ _;refine ya (ye (ya (Ys1 (A:=A.in1) hh M L J I B (y.imp id fun z=>by simp_all) (by rw[i];exact zi (zk h64) (by decide)) fun h' tk d l r k f=>?_)));obtain⟨V,F,h⟩:=Xd7 f.symm (Yo5 x)
 have p:l.length=xs.length:=by have:=f.length_eq;grind
 refine ya (wpAny_newList ?_ (by rw[p];exact zi (zk h64) (by decide)));have g:(h'.push (seqObj "list" l.toArray 0)).get? _=some _:=yt _ rfl;refine ya (yao (ybl slot_list_sort ⟨_,g,rfl⟩ entry_list_sort ?_ rfl));refine list_sort_treeK strKind_oneLt g (yda.keysOf h) (fun v₁ v₂ C e=>keyKind_strs (e▸h)) (by simp_all) fun m U T=>?_;obtain⟨n,S,R,O⟩:=sorted_out_str h U T;obtain⟨c,W⟩:=sortedHeap_at (out:=Array.map _ (arrOf m)) g;refine⟨.none,rfl,ye ⟨_,rfl,?_⟩⟩;have q  := zk r
 exact hQ _ _ tk d _ c n q (fun b G e=>by
  have j:=k b G e;rw[sortedHeap_old (zv (zj j)) (by rw[zcl];exact zbu (zj j))]
  exact yb _ j) (by omega) S (R.trans (F.symm.trans u)) O
end
theorem Zm2 (CX:CXT)(P:zm)(w:World)(K:W.Frag)(mg:Str->Option Value)(base:Heap)(N:List Str)(qual:Str)(scope:Scope)(f:Addr)(cd:Value)(A:Around)(outer:List Env)(s:Shared)(H:Hp)(E:XK):(cxOf CX P w K mg base N qual scope f cd A outer s H E).prog=P:=rfl
theorem Ye9 (CX:CXT)(P:zm)(w:World)(K:W.Frag)(mg:Str->Option Value)(base:Heap)(N:List Str)(qual:Str)(scope:Scope)(f:Addr)(cd:Value)(A:Around)(outer:List Env)(s:Shared)(H:Hp)(E:XK):(cxOf CX P w K mg base N qual scope f cd A outer s H E).w=w:=rfl
theorem Zq1 (X:Cx)(N':List Str)(scope:Scope)(cl:List (Str×Addr))(s:Shared)(H:Hp)(C:Addr)(ex:List Addr):(blk X N' scope cl s H C ex).prog=X.prog:=rfl
theorem Xa7 (X:Cx)(N':List Str)(scope:Scope)(cl:List (Str×Addr))(s:Shared)(H:Hp)(C:Addr)(ex:List Addr):(blk X N' scope cl s H C ex).w=X.w:=rfl
section
theorem Ym9 {P:zm}{w:World}(hP:X.prog=P)(hw:X.w=w)(hc:X.calm=true):Zv6 X (.builtin "sorted") (fun vs H Q=>∃(a:Addr) (xs:List Str),vs=[.ref a]/\H a=some (setO P w a xs)/\xs.length < 64/\∀l ys,H l=none->yba ys xs->sortedS ys=true->Q (.ref l) (upd H l (.lst (ys.map V.str)))):=by
 subst hP hw;intro p s B H vs C Q I r h;obtain⟨a,xs,rfl,y,x,q⟩:=h;obtain⟨u,rfl,o⟩:=Yn9 r;cases o;refine Yx8 (I.ok.hd hc) (Xe4 I.hok y) x fun D A F d f c ys e k m v i g=>?_;have j  := I.hok.fresh e
 have n:ys.length < 64:=by rw[i.length_eq];omega
 have t:ObjOk X.prog X.w (upd H D (.lst (ys.map V.str))) A D (.lst _):=⟨by rw[yh];exact zi (zk n) (by decide),f,c,Zn6 v,m⟩;exact⟨.ref D,_,I.call (ch:=[]) (Un.laid k e j) (I.hok.laid k e t) I.bare fun b z=>absurd z (by simp),rfl,q D ys j i g⟩
end
end L2
namespace Ken
open PySem L2 PyProof.Rows
noncomputable def Tm.ltrs:Tm->List Str
 | .low=>[]
 | .ltr w=>[w]
 | .nd _ a b=>a.ltrs++b.ltrs
noncomputable def Tm.here:Tm->List Str
 | .ltr w=>[w]
 | _=>[]
theorem Zs9:∀t:Tm,t.pre.flatMap Tm.here=t.ltrs
 | .low=>rfl
 | .ltr w=>rfl
 | .nd k a b=>by
  show []++(a.pre++b.pre).flatMap _=a.ltrs++b.ltrs;rw[List.nil_append,ybz,Zs9 a,Zs9 b]
theorem Zy5 {ws:List Str}:∀{t:Tm},t.inW ws->∀x∈t.ltrs,x∈ws
 | .low,_,x,h=>absurd h (by simp[Tm.ltrs])
 | .ltr w,h,x,hx=>by rw[zb.mp hx];exact h
 | .nd k a b,h,x,hx=>(yd.mp hx).elim (Zy5 h.1 x) (Zy5 h.2 x)
inductive sp_letters (K:W.Frag):Sp
 |mk {vs H Q E:_} (v:V) (t:Tm) (ws:List Str):vs=[v]->IsT K H v t->t.parts<=300->t.inW ws->ws.length<=60->(∀(r:Addr) (H':Hp) (ys:List Str),Same H H'->H r=none->H' r=some (.lst (ys.map V.str))->ys.Nodup->sortedS ys=true->(∀x,x∈ys↔x∈t.ltrs)->Q (.ref r) H')->sp_letters K vs H Q E
theorem Zp7:∀{xs ws:List Str},xs.Nodup->(∀x∈xs,x∈ws)->xs.length<=ws.length
 | [],_,_,_=>yz _
 |x::xs,ws,nd,h=>by
  have hx:=h x zr;have ih:=Zp7 (yaq.mp nd).2 fun y hy=>(List.mem_erase_of_ne (show y≠x from fun z=>(yaq.mp nd).1 (by simp_all))).mpr (h y (yn _ hy));have:=List.length_erase_of_mem hx;have  := ycu hx;rw[yai];omega
end Ken
namespace L2
open PySem PySem.Spec PyProof.Rows
theorem Ye0 {α:Type}:∀{l:List (Str×α)},(∀v,(x,v) ∉ l)->l.lookup x=none
 | [],_=>rfl
 | (y,v)::l,h=>by
  have hy:x≠y:=fun e=>h v (by simp[*]);rw[yaz,show (x == y)=false from by simp_all];exact Ye0 fun v hv=>h v (yn _ hv)
theorem Zq7:∀{ps:List Str} {us:List Value} {i:Nat} {x:Str} {u:Value},ps.Nodup->ps[i]?=some x->us[i]?=some u->(ps.zip us).reverse.lookup x=some u
 | [],_,_,_,_,_,h,_=>by simp at h
 | _::_,[],_,_,_,_,_,h=>by simp at h
 |p::ps,w::us,0,x,u,nd,h1,h2=>by
  simp at h1 h2;subst h1 h2;rw[List.zip_cons_cons,zai,ybo,Ye0 fun v hv=>(yaq.mp nd).1 (ycr (List.mem_reverse.mp hv)).1];simp
 |p::ps,w::us,i+1,x,u,nd,h1,h2=>by
  have ih:=Zq7 (yaq.mp nd).2 (by assumption) (by assumption);rw[List.zip_cons_cons,zai,ybo,ih];rfl
structure FnScopeC (N ps fv:List Str)(sc:Scope):Prop where
 kind:sc.kind=.function
 co:sc.isCoroutine=false
 gen:sc.isGenerator=false
 nd:N.Nodup
 pre:N.take (ps++fv).length=ps++fv
 par:∀x∈ps,sc.names.lookup x=some .local
 fr:∀x∈fv,sc.names.lookup x=some .free
 nocell:∀y∈sc.names,y.2≠.cell
structure Caught (K:W.Frag)(sc:Scope)(cl:List (Str×Addr))(fv:List Str)(frv:List V):Prop where
 len:frv.length=fv.length
 cell:∀(i:Nat) (x:Str) (v:V),fv[i]?=some x->frv[i]?=some v->∃c o u,cl.lookup x=some c/\K.lookup c=some o/\o.data=.cell (some u)/\RelV v u
 all:∀x c,cl.lookup x=some c->∃o v,K.lookup c=some o/\o.data=.cell v
 inj:∀x y c,cl.lookup x=some c->cl.lookup y=some c->x=y
 has:∀x,sc.names.lookup x=some .free->∃c,cl.lookup x=some c
noncomputable def cxC (CX:CXT)(P:zm)(w:World)(K:W.Frag)(mg:Str->Option Value)(base:Heap)(N:List Str)(qual:Str)(scope:Scope)(f:Addr)(cd:Value)(cl:List (Str×Addr))(A:Around)(outer:List Env)(s:Shared)(H:Hp)(E:XK):Cx where
 prog:=P
 w:=w
 K:=K
 mg:=mg
 base:=base
 A:=A.deeper (W.envX qual scope s.heap.objs.size f cd cl)
 N:=N
 s₀:=s
 H₀:=H
 env:=W.envX qual scope s.heap.objs.size f cd cl
 outer:=outer
 stack:=W.envX qual scope s.heap.objs.size f cd cl::outer
 ex:=[]
 calm:=true
 fn:=fun _=>false
 pn:=[]
 xe:=fun e s'=>wpAny (model P w) (A.deeper (W.envX qual scope s.heap.objs.size f cd cl)) (leaving (W.envX qual scope s.heap.objs.size f cd cl) e) (fun _ s''=>CX outer H s E e s'') (fun e' s''=>CX outer H s E e' s'') s'
theorem Xa1 {tk:Nat}(S:FnScopeC N ps fv scope)(C:Caught K scope cl fv frv)(hd:A.handled=none)(e0:Env0 P w K mg base A outer s H)(hl:vs.length=ps.length)(r:Vals vs us)(ns:h1.Ns s.heap.objs.size fun x=>(ps.zip us).reverse.lookup x)(hk:∀b o,s.heap.get? b=some o->h1.get? b=some o):
  Inv (cxC CX P w K mg base N qual scope f cd cl A outer s H E) [] (start N (vs++frv)) H { s with heap:=h1,toks:=tk }:=by
 have J  := by have:=congrArg List.length S.pre;rw[zq] at this;omega
 have j:∀b:Addr,b ∉ (cxC CX P w K mg base N qual scope f cd cl A outer s H E).ex:=fun b z=>absurd (show b∈([]:List _) from z) (by simp)
 have G:(vs++frv).length=(ps++fv).length:=by rw[zf,zf,hl,C.len]
 have k  := fun c o e=>e0.bs c o (e0.mod.kin c o e)
 refine⟨⟨e0.mod,S.kind,rfl,rfl,yo _,C.inj,fun y l=>?_,fun y c z _=>(nomatch (z)),fun _=>hd,Around.frames_deeper e0.frames,.inr ⟨rfl,rfl⟩,fun b z=>absurd z (j b),e0.bs,e0.bsz,fun b _ _=>j b,fun b z=>absurd z (j b),e0.funs,e0.frf⟩,
  rfl,e0.bare,Un.kept hk,⟨_,ns,fun i y v h1 g L=>?_⟩,fun y c h=>?_,e0.hok.fresh (yo _),fun y c h=>?_,fun p d=>absurd (show p∈([]:List _) from d) (by simp),e0.hok.kept hk,?_⟩
 ·rcases l with l | l
  ·exact absurd rfl (S.nocell _ (zak l))
  ·exact C.has y l
 ·have B:i < (vs++frv).length:=by
   unfold start at g
   by_cases B:i < (vs++frv).length
   ·omega
   ·rw[yah (by simpa using B)] at g
    rw[ybx] at g
    split at g<;>cases g
  have n:(vs++frv)[i]?=some v:=by
   unfold start at g;rw[zz (by simpa using B),zy] at g
   cases e:(vs++frv)[i]? with
   |none=>simp_all
   |some a=>simp_all
  have d:(ps++fv)[i]?=some y:=by
   rw[<- S.pre,List.getElem?_take_of_lt (by omega)];exact h1
  have D:(ps++fv).Nodup:=by rw[<- S.pre];exact S.nd.sublist (List.take_sublist _ _)
  by_cases hv:i < vs.length
  ·rw[zz hv] at n
   rw[zz (by omega)] at d;obtain⟨u,F,t⟩:=r.get n;exact⟨u,t,.inl ⟨S.par y (yc d),Zq7 (D.sublist (by simp)) d F⟩⟩
  ·rw[yah (by omega)] at n
   rw[yah (by omega),<- hl] at d;obtain⟨c,o,u,m,q,I,t⟩:=C.cell _ y v d n;refine⟨u,t,.inr ⟨.inr (S.fr y (yc d)),c,m,o,hk c o (k c o q).1,I⟩⟩
 ·obtain⟨o,v,m,q⟩:=C.all y c h
  exact⟨v,o,hk c o (k c o m).1,q⟩
 ·obtain⟨o,v,m,q⟩:=C.all y c h
  exact (k c o m).2
 ·unfold start
  show _=N.length;rw[zf,yh,zbo];omega
theorem Wq3 {body:List Stmt}(lk:K.lookup f=some ⟨oc,od,.func (W.fnX name qual params body scope cl .none .none doc pm none cdv ct),osl⟩)(hcd:ycn K cdv qual=true)(S:FnScopeC N ps fv scope)(C:Caught K scope cl fv frv)(len:∀vs H Q E,sp vs H Q E->vs.length=ps.length) (hbody:∀(A:Around) (outer:List Env) (s:Shared) (H:Hp) (vs:List V) (Q:VK) (E:XK),Room k (A.deeper (W.envX qual scope s.heap.objs.size f cdv cl))->sp vs H Q E ->
   ∃t,PSs (cxC CX P w K mg base N qual scope f cdv cl A outer s H E) body t/\t { nx:=fun _ H'=>Q .non H',rt:=Q } (start N (vs++frv)) H):
  FnOk P w K mg base CX (k+1) f (W.fnX name qual params body scope cl .none .none doc pm none cdv ct) ps sp:=by with_unfolding_all
 refine⟨len,fun A outer s H O y vs Q E j d L r g=>?_⟩;have G:=len _ _ _ _ g;have x:K.In s.heap:=d.mod.kin.keeps fun b o e=>(d.bs b o e).1;have l:s.heap.NoLimit:=d.mod.nolimit.keeps fun b o e=>(d.bs b o e).1;refine codeAny_call_function j.depth (x _ _ lk) rfl S.co S.gen rfl (W.codeRec_of x hcd) (L _ _ _ _ ?_);refine wpAny_newFunctionEnv S.nocell (fun⟨n,v⟩ hy=>S.par n (ycr hy).1) (fun p B z=>?_) S.kind
 have m:∀b o,s.heap.get? b=some o->p.get? b=some o:=fun b o e=>by
  rw[z.2 b (zv (zj e))];exact yb _ e
 refine⟨l.keeps m,codeAny_func ?_⟩;obtain⟨t,D,F⟩:=hbody A outer s H vs Q E (j.deeper _) g;have I:Inv (cxC CX P w K mg base N qual scope f cdv cl A outer s H E) [] (start N (vs++frv)) H { s with heap:=p,toks:=s.toks+(ps.zip y).length }:=Xa1 S C j.hd d G r B m;refine yat (D [] _ (start N (vs++frv)) H _ I F) (fun M s' c=>?_) fun e s' c=>c
 have h:∀{a:St} {H':Hp} {v:V} {u:Value},Inv (cxC CX P w K mg base N qual scope f cdv cl A outer s H E) [] a H' s'->RelV v u->Q v H'->CE _ P w H s Q u s' :=
  fun {a H' v u} J i q=>⟨v,H',J.os,J.bare,J.base,J.hok,i,q⟩
 cases M with
 |ret u =>
  obtain⟨v,a,H',J,i,q⟩:=c;exact h J i q
 |next =>
  obtain⟨a,H',J,q⟩:=c;exact h (v:=V.non) J rfl q
 |brk =>
  obtain⟨_,_,_,q⟩:=c
  simp_all
 |cont =>
  obtain⟨_,_,_,q⟩:=c
  simp_all
noncomputable abbrev FZ (o:Obj):HO:=.frz o (.ext fun _=>True)
def SameT (H H':Hp):Prop:=∀b o,(∀ps,o≠.tbl ps)->H b=some o->H' b=some o
theorem SameT.refl (H:Hp):SameT H H:=fun _ _ _ h=>h
theorem SameT.trans (a:SameT H H1)(b:SameT H1 H2):SameT H H2:=fun c o n h=>b c o n (a c o n h)
theorem Same.toT (a:Same H H'):SameT H H':=fun c o _ h=>a c o h
structure SameU (P:Addr)(H H':Hp):Prop where
 toT:SameT H H'
 off:∀b o,b≠P->H b=some o->H' b=some o
 tab:∀o,H P=some o->∃o',H' P=some o'
theorem SameU.trans (a:SameU P H H1)(b:SameU P H1 H2):SameU P H H2 :=
 ⟨a.toT.trans b.toT,fun c o n h=>b.off c o n (a.off c o n h),fun o h=>by obtain⟨d,e⟩:=a.tab o h;exact b.tab d e⟩
theorem Same.toU (a:Same H H'):SameU P H H':=⟨a.toT,fun c o _ h=>a c o h,fun o h=>⟨o,a _ _ h⟩⟩
theorem SameU.free (a:SameU P H H'){l:Addr}(h:H' l=Option.none):H l=Option.none:=by
 cases e:H l with
 |none=>rfl
 |some o =>
  by_cases z:l=P
  ·subst z
   obtain⟨b,c⟩:=a.tab o e
   grind
  ·have:=a.off l o z e
   grind
def CodeFz (H:Hp)(cv:Value)(q:Str):Prop:=∃c o vs t,cv=.ref c/\H c=some (FZ o)/\o.data=.fields vs/\vs[1]?=some (.str q t)
theorem CodeFz.keep (h:CodeFz H cv q)(k:SameT H H'):CodeFz H' cv q:=by
 obtain⟨c,o,a,t,f,e,d,b⟩:=h;exact⟨c,o,a,t,f,k c _ (fun _ z=>nomatch z) e,d,b⟩
def TabOk (H:Hp)(P:Addr)(ds:List (Pos×Str)):Prop :=
 ∃ps,H P=some (.tbl ps)/\TriplesOk ps.toList/\∀d∈ds,∀cv,zcm d.1 ps.toList=some cv->CodeFz H cv d.2
theorem TabOk.keep (h:TabOk H P ds)(k:Same H H'):TabOk H' P ds:=by
 obtain⟨a,g,f,c⟩:=h;exact⟨a,k _ _ g,f,fun d b i e=>(c d b i e).keep k.toT⟩
theorem TabOk.new (h:H P=some (.tbl #[])):TabOk H P ds :=
 ⟨#[],h,trivial,fun d _ cv e=>by
  have a:(none:Option _)=some cv:=e
  grind⟩
def FnFz (H:Hp)(f:Addr)(name qual:Str)(params:zdf)(body:List Stmt)(scope:Scope)(cl:List (Str×Addr)):Prop :=
 ∃doc pm ct cv,H f=some (FZ { cls:=.type "function",data:=.func (W.fnX name qual params body scope cl .none .none doc pm none cv ct) })/\CodeFz H cv qual
theorem FnFz.keep {body:List Stmt}(h:FnFz H f name qual params body scope cl)(k:SameT H H'):FnFz H' f name qual params body scope cl:=by
 obtain⟨a,b,g,e,d,c⟩:=h;exact⟨a,b,g,e,k _ _ (fun _ z=>nomatch z) d,c.keep k⟩
theorem Zz8:∀{l m:List Value},TriplesOk l->TriplesOk m->TriplesOk (l++m)
 | [],m,_,h=>h
 | .int i a::.int j b::c::r,m,h,h'=>by
  show TriplesOk (.int i a::.int j b::c::(r++m));exact Zz8 h h'
theorem Zu1:∀{l m:List Value},TriplesOk l->zcm pos (l++m)=(zcm pos l).or (zcm pos m)
 | [],m,_=>by rfl
 | .int i a::.int j b::c::r,m,h=>by
  show zcm pos (.int i a::.int j b::c::_)=_;rw[zcm,zcm]
  split
  ·rfl
  ·exact Zu1 h
theorem Xt2 (e:h.get? a=some o):ObjOk P w H h a (FZ o):=⟨e,trivial,⟨o,e⟩,fun _ _ _ _=>trivial⟩
def tDef (i:Nat)(name qual:Str)(params:zdf)(body:List Stmt)(scope:Scope)(cl:List (Str×Addr))(P:Addr)(ds:List (Pos×Str)):TS:=fun D σ H =>
 TabOk H P ds/\∀f H',H f=none->SameU P H H'->TabOk H' P ds->FnFz H' f name qual params body scope cl->D.nx (σ.set i (some (.ref f))) H'
theorem Wh8 {params:zdf}{body:List Stmt}{c P:Addr}(hN:X.N.Nodup)(hi:X.N[i]?=some name)(hx:Loc X.env.scope name)(hcl:closureFor scope X.env=pure cl)(hc:X.env.code=.ref c)(hC:∀h,X.K.In h->W.CodeHd h c P)(hB:∀h,X.K.In h->h.BuiltinsAt X.mg P)(hP:zn≠P)(hq:qualnameIn X.env name name=qual)(hd:(pos,qual)∈ds)(hds:∀d∈ds,d.1.line=pos.line->d.1.col=pos.col->d.2=qual)(h1:params.defaults=[])(h2:params.kw_defaults=[])(h3:annTrees params none X.env=[])(hf:X.fn name=true∨X.env.scope.names.lookup name=some .local:=by first | exact .inl rfl | exact .inr rfl | assumption):
  PS X (.FunctionDef name params body [] none [] scope none name pos) (tDef i name qual params body scope cl P ds):=by with_unfolding_all
 intro pins s σ H D I h;obtain⟨⟨ps,hp,ht,hcs⟩,q⟩:=h;refine W.nestDef_K h1 h2 h3 ?_;rw[hq];have kX:=I.kIn;have hPs:s.heap.get? P=some (W.tabObj ps):=I.hok P _ hp
 have mgs:s.heap.Ns zn X.mg:=by
  obtain⟨o,es,ep,e,d,r⟩:=I.ok.mod.glob;exact⟨o,es,ep,I.bk _ _ e,d,r⟩
 have fin:∀{H':Hp} {s':Shared} {f:Addr},Inv X pins σ H' s'->H f=none->SameU P H H'->TabOk H' P ds->FnFz H' f name qual params body scope cl ->
   wpAny (model X.prog X.w) X.A (storeName X.env name (.ref f)) (fun _ s''=>SP X pins D .next s'') X.xe s':=fun {H' s' f} J g1 g2 g3 g4 =>
  Zs3 (v:=.ref f) J hN hi hx rfl (fun s'' J'=>⟨_,_,J',q f H' g1 g2 g3 g4⟩) hf
 cases hm:zcm pos ps.toList with
 |some cv =>
  refine W.makeFunction_hit hcl I.ok.glob mgs hc (hC _ kX) hPs ht hm (hB _ kX) fun ctv doc h' tk hk hsz=>?_
  have kk:∀b o,s.heap.get? b=some o->(h'.push { cls:=zaz "function",data:=Data.func (W.fnX name qual params body scope cl yak yak doc ((X.mg (zh "__name__")).getD yak) none cv ctv) }).get? b=some o :=
   fun b o e=>yb _ (hk b o e)
  have hn:H h'.objs.size=none:=I.hok.fresh hsz;have J:=I.laid (a:=h'.objs.size) (o:=FZ _) (t':=tk) kk hsz (Xt2 (yt _ rfl))
  have e1:Same H (upd H h'.objs.size (FZ { cls:=zaz "function",data:=Data.func (W.fnX name qual params body scope cl yak yak doc ((X.mg (zh "__name__")).getD yak) none cv ctv) })):=fun b u z=>by rw[Zb3 (Za9 z hn)];exact z
  exact fin J hn e1.toU (TabOk.keep ⟨ps,hp,ht,hcs⟩ e1) ⟨_,_,_,_,Za1,(hcs _ hd cv hm).keep e1.toT⟩
 |none =>
  refine W.makeFunction_K hcl I.ok.glob mgs hc (hC _ kX) hPs ht hm hP (hB _ kX) fun c' ctv doc h' tk ext hc1 hc2 hcr htab=>?_;obtain⟨c2,co,vs,t,e1,e2,e3,e4⟩:=hcr;cases e1;have hPl:P < s.heap.objs.size:=zj hPs
  have hsz:s.heap.objs.size<=h'.objs.size:=by omega
  have nf:H h'.objs.size=none:=I.hok.fresh hsz;have nc:H c'=none:=I.hok.fresh hc1
  have ncf:c'≠h'.objs.size:=by omega
  have nPc:P≠c':=zv (zt hPl hc1);have nPf:P≠h'.objs.size:=zv (zt hPl hsz);generalize hfo:({ cls:=zaz "function",data:=Data.func (W.fnX name qual params body scope cl yak yak doc ((X.mg (zh "__name__")).getD yak) none (yay c') ctv) }:Obj)=fo;generalize htr:ps++#[rawInt _,rawInt _,yay c']=ps';rw[htr] at htab
  have hps':ps'.toList=ps.toList++[rawInt pos.line,rawInt pos.col,yay c']:=by rw[<- htr];simp
  have gk:∀b o,b≠P->s.heap.get? b=some o->(h'.push fo).get? b=some o:=fun b o hb e=>yb _ (ext b o hb e)
  have oP:∀b,b≠P->b≠c'->b≠h'.objs.size->(upd (upd (upd H P (.tbl ps')) c' (FZ co)) _ (FZ fo)) b=H b:=fun b n1 n2 n3=>by rw[Zb3 n3,Zb3 n2,Zb3 n1]
  have oPP:upd (upd (upd H P (.tbl ps')) c' (FZ co)) h'.objs.size (FZ fo) P=some (.tbl ps'):=by rw[Zb3 nPf,Zb3 nPc,Za1]
  have oc:upd (upd (upd H P (.tbl ps')) c' (FZ co)) h'.objs.size (FZ fo) c'=some (FZ co):=by rw[Zb3 ncf,Za1]
  have of':upd (upd (upd H P (.tbl ps')) c' (FZ co)) h'.objs.size (FZ fo) _=some _:=Za1;generalize (upd _ _ _)=H' at oP oPP oc of'
  have tr:∀b u,(∀ps,u≠HO.tbl ps)->H b=some u->H' b=some u:=fun b u nu z=>by
   rw[oP b (fun w=>nu ps (by simp_all)) (Za9 z nc) (Za9 z nf)];exact z
  have hok:HOk X.prog X.w H' _:=fun b u z=>by
   by_cases b1:b=h'.objs.size
   ·subst b1;rw[of'] at z;cases z;exact Xt2 (yt _ (by rw[<- hfo];rfl))
   by_cases b2:b=c'
   ·subst b2;rw[oc] at z;cases z;exact Xt2 (yb _ e2)
   by_cases b3:b=P
   ·subst b3;rw[oPP] at z;cases z;exact yb _ htab
   rw[oP b b3 b2 b1] at z;refine (I.hok b u z).stay (fun d v hd e=>gk d v (fun w=>?_) e) (fun d z=>tr d _ (fun _ q=>nomatch q) z) fun d xs z=>tr d _ (fun _ q=>nomatch q) z
   grind
  have un:Un X.fs [] H H' s.heap (h'.push fo):=by
   refine⟨fun b o e n _ _=>gk b o (fun w=>by rw[w,hp] at n;cases n) e,fun b o e n _ _=>⟨o.slots,gk b o (fun w=>by rw[w,hp] at n;cases n) e⟩,fun b o e n _=>?_,fun b o e _=>?_,fun b xs z=>tr b _ (fun _ q=>nomatch q) z,fun b o u z=>tr b _ (fun _ q=>nomatch q) z,fun b ps2 z=>?_⟩
   ·rw[oP b (fun w=>by rw[w,hp] at n;cases n) (zv (zt (zj e) hc1)) (zv (zt (zj e) hsz))];exact n
   ·by_cases b3:b=P
    ·subst b3;exact⟨_,yb _ htab⟩
    ·exact⟨o,gk b o b3 e⟩
   ·by_cases b3:b=P
    ·subst b3
     rw[hp] at z;cases z;exact⟨_,by rw[oPP,<- htr]⟩
    ·rw[oP b b3 (Za9 z nc) (Za9 z nf),z];simp
  have J:Inv X _ σ H' { s with heap:=h'.push fo,toks:=tk }:=I.un un hok;have sT  := tr;have sU:SameU P H H':=⟨tr,fun b u hb z=>by rw[oP b hb (Za9 z nc) (Za9 z nf)];exact z,fun _ _=>⟨_,oPP⟩⟩;have cf:CodeFz H' _ _:=⟨c',co,vs,t,rfl,oc,e3,e4⟩
  have tri  := by
   exact trivial
  have tab:TabOk H' P ds:=by
   refine⟨ps',oPP,by rw[hps'];exact Zz8 ht tri,fun d hd' cv e=>?_⟩;rw[hps',Zu1 ht] at e
   cases hm':zcm d.1 _ with
   |some cv2 =>
    rw[hm'] at e;cases e;exact (hcs d hd' cv hm').keep sT
   |none =>
    rw[hm',ydk] at e;unfold rawInt at e;rw[zcm] at e
    split at e
    ·rename_i hh
     cases e
     have hh':d.1.line=pos.line/\d.1.col=pos.col:=by
      have:=hh;simp at this;omega
     simp[*]
    ·simp[zcm] at e
  rw[show W.fnMade _ _ _ _ _ cl doc _ c' ctv=fo from hfo];exact fin J nf sU tab ⟨doc,_,ctv,.ref c',by rw[of',<- hfo],cf⟩
def KLe (K K':W.Frag):Prop:=∀a o,K.lookup a=some o->K'.lookup a=some o
noncomputable def remX (xs:List (Addr×Obj))(H:Hp):Hp:=fun b=>if b∈xs.map (·.1) then none else H b
noncomputable def Yn6 (xs:List (Addr×Obj))(H H2:Hp):Hp:=fun b=>if b∈xs.map (·.1) then H b else H2 b
theorem Zm3 {xs:List (Addr×Obj)}(h:b∈xs.map (·.1)):remX xs H b=none:=by unfold remX;simp[*]
theorem Ze7 {xs:List (Addr×Obj)}(h:b ∉ xs.map (·.1)):remX xs H b=H b:=by unfold remX;simp[*]
theorem Zz3 {xs:List (Addr×Obj)}(h:b∈xs.map (·.1)):Yn6 xs H H2 b=H b:=by unfold Yn6;simp[*]
theorem Zi2 {xs:List (Addr×Obj)}(h:b ∉ xs.map (·.1)):Yn6 xs H H2 b=H2 b:=by unfold Yn6;simp[*]
theorem Yb7:∀{l:List (Addr×Obj)} {p:Addr×Obj},(∀q∈l,q.1=p.1->q.2=p.2)->p∈l->l.lookup p.1=some p.2
 | [],_,_,h=>absurd h (by simp)
 |q::l,p,hc,h=>by
  rw[show q::l=(q.1,q.2)::l from rfl,yaz]
  by_cases e:q.1=p.1
  ·simp[*]
  ·rw[show (p.1 == q.1)=false from by simpa using fun z=>e z.symm]
   exact Yb7 (fun r hr=>hc r (yn _ hr)) (by grind)
theorem Zl2:∀{l:List (Addr×Obj)} {a:Addr} {o:Obj},l.lookup a=some o->(a,o)∈l
 | [],_,_,h=>by cases h
 | (b,u)::l,a,o,h=>by
  rw[yaz] at h
  split at h
  ·grind
  ·exact yn _ (Zl2 h)
theorem Zq8 :∀{l:List Env},h.FunFrames base l->(∀b∈frs l,base'.get? b=none)->h.FunFrames base' l
 | [],_,_=>trivial
 |env::r,⟨hk,⟨L,o,hf,hn,ho,hd⟩,hr⟩,g=>by
  have e:frs (env::r)=L::frs r:=by unfold frs;simp_all
  rw[e] at g;exact⟨hk,⟨L,o,hf,g L zr,ho,hd⟩,Zq8 hr fun b hb=>g b (yn _ hb)⟩
section
variable {k:Nat}{fd:yq}
theorem Xz1 (xs cs:List (Addr×Obj))(I:Inv X pins σ H s)(hxs:∀p∈xs,H p.1=some (FZ p.2))(hcs:∀p∈cs,s.heap.get? p.1=some p.2/\H p.1=none/\p.1 ∉ frs X.stack)(F:∀base,FnOk X.prog X.w (X.K++(xs++cs)) X.mg base CX0 k f fd ps sp)(hr:Room k X.A)(hb:Binds X.K fd ps [])(r:Vals vs us)(h:sp vs (remX xs H) (fun v H2=>(∀p∈xs,H2 p.1=none)->Q v (Yn6 xs H H2)) E0):wpAny (model X.prog X.w) X.A (call (.ref f) us) (EP X pins σ Q) X.xe s:=by
 have T  := fun p j=>(I.hok _ _ (hxs p j)).1;have S  := fun p j=>(yd.mp j).elim (T p) fun z=>(hcs p z).1
 let good:Addr->Prop:=fun b=>(X.base.get? b).isSome=true∨b∈(xs++cs).map (·.1)
 let hid:List _:=(yac s.heap.objs.size).filter fun b=>!(decide (X.base.get? b).isSome=true||decide (b∈(xs++cs).map (·.1)))
 have O:∀b,good b->b ∉ hid:=fun b g hm=>by
  grind
 have Y:∀b,¬good b->b < s.heap.objs.size->b∈hid:=fun b g hl=>by
  refine yad.mpr ⟨zcb.mpr hl,?_⟩;rw[decide_eq_false fun z=>g (.inl z),decide_eq_false fun z=>g (.inr z)];rfl
 let base':Heap:=W.hideAll s.heap hid
 have M:∀b o,s.heap.get? b=some o->good b->base'.get? b=some o:=fun b o e g=>W.hideAll_get _ e (O b g)
 have L:∀b o,base'.get? b=some o->s.heap.get? b=some o/\good b:=fun b o e=>by
  have i  := W.of_hideAll hid e;refine⟨i,?_⟩
  by_cases g:good b
  ·exact g
  ·rw[(W.hideAll_none hid (Y b g (zj i)))] at e;cases e
 have gb  := fun b o e=>M b o (I.bk b o e) (.inl (by simp_all))
 have R:∀b,good b->remX xs H b=none:=fun b g=>by
  rcases g with g | g
  ·obtain⟨o,e⟩:=zbs.mp g
   by_cases z:b∈xs.map (·.1)
   ·exact Zm3 z
   ·rw[Ze7 z];exact (I.bs b o e).2
  ·rw[zac] at g
   rcases yd.mp g with g | g
   ·exact Zm3 g
   ·by_cases z:b∈xs.map (·.1)
    ·exact Zm3 z
    ·rw[Ze7 z]
     obtain⟨p,j,rfl⟩:=zah.mp g;exact (hcs p j).2.1
 have U:W.Frag.In (X.K++(xs++cs)) _:=fun a o e=>by
  rw[ybo] at e
  cases z:ybi a X.K with
  |some C =>
   rw[z] at e;cases e;exact gb a o (I.ok.mod.kin a o z)
  |none =>
   rw[z,ydk] at e;have hm  := Zl2 e;exact M a o (S _ hm) (.inr (zah.mpr ⟨_,hm,rfl⟩))
 have D:∀{b:Addr} {m:Str->Option _},X.base.Ns b m->base'.Ns b m:=fun {b m} ⟨o,es,ep,e,d,r⟩=>⟨o,es,ep,gb b o e,d,r⟩
 have c:∀b,b∈xs.map (·.1)->∃o,H b=some (FZ o)/\s.heap.get? b=some o:=fun b z=>by
  obtain⟨p,j,rfl⟩:=zah.mp z;exact⟨p.2,hxs p j,T p j⟩
 have N:∀b∈frs _,base'.get? b=none:=fun b hb=>by
  cases z:base'.get? b with
  |none=>rfl
  |some o =>
   obtain⟨e,g⟩:=L b o z;rcases g with g | g
   ·have:=(I.stack.mem hb).1
    rw[this] at g;simp at g
   ·rw[zac] at g
    rcases yd.mp g with g | g
    ·obtain⟨C,i,_⟩:=c b g
     rw[I.stkFree b hb] at i;cases i
    ·obtain⟨p,j,rfl⟩:=zah.mp g
     exact absurd hb (hcs p j).2.2
 have e0:Env0 X.prog X.w (X.K++(xs++cs)) X.mg base' X.A X.stack s (remX xs H):=by
  refine⟨I.ok.frames,⟨U,D I.ok.mod.glob,?_,?_⟩,fun b o e=>⟨(L b o e).1,R b (L b o e).2⟩,Nat.le_of_eq (W.hideAll_size _ _),Zq8 I.stack N,fun b hb=>?_,fun a o z=>?_,I.bare⟩
  ·obtain⟨mb,h1,h2⟩:=I.ok.mod.blt
   exact⟨mb,D h1,h2⟩
  ·obtain⟨mc,h1,h2⟩:=I.ok.mod.nolimit
   exact⟨mc,D h1,h2⟩
  ·by_cases z:b∈xs.map (·.1)
   ·exact Zm3 z
   ·rw[Ze7 z];exact I.stkFree b hb
  ·by_cases y:a∈xs.map (·.1)
   ·rw[Zm3 y] at z;cases z
   ·rw[Ze7 y] at z
    refine (I.hok a o z).stay (fun b u _ e=>e) (fun b q=>?_) fun b x q=>?_
    ·rw[Ze7 fun y=>by obtain⟨C,i,_⟩:=c b y;rw[q] at i;cases i];exact q
    ·rw[Ze7 fun y=>by obtain⟨C,i,_⟩:=c b y;rw[q] at i;cases i];exact q
 have hl:us.length=ps.length:=by rw[<- r.length];exact (F base').len _ _ _ _ h
 have q1  := by
  have:=hb s us I.kIn (by rw[yaa];exact hl);rw[yaa] at this;exact this
 refine wpAny_call (ycy ((F _).run X.A _ s _ ⟨us,[]⟩ us vs _ E0 hr e0 q1 r h) fun rr s' J=>?_)
 cases rr with
 |error e=>exact zbl J
 |ok fl =>
  cases fl with
  |next=>exact zbl J
  |brk=>exact zbl J
  |cont=>exact zbl J
  |ret u =>
   obtain⟨v,H2,os,q0,l,Z,rv,q⟩:=J
   have t:∀b,b∈xs.map _->H2 b=none:=fun b z=>by
    obtain⟨o,_,e⟩:=c b z;exact l.free b o e (Zm3 z) (by simp)
   have B:∀{b:Addr} {u:HO},H b=some u->(∀o,u≠FZ o)->b ∉ xs.map (·.1):=fun {b u} e n z=>by
    grind
   refine⟨v,Yn6 xs H H2,I.call' os ⟨fun b o e n hb G=>l.keep b o e ?_ hb G,fun b o e n hb G=>l.slot b o e ?_ hb G,fun b o e n G=>?_,l.there,fun b x e=>?_,fun b o u e=>?_,fun b x e=>?_⟩ (fun a o z=>?_) q0 fun b z=>absurd z (by simp),rv,q fun p j=>t p.1 (zah.mpr ⟨p,j,rfl⟩)⟩
   ·by_cases z:b∈xs.map (·.1)
    ·exact Zm3 z
    ·rw[Ze7 z];exact n
   ·by_cases z:b∈xs.map (·.1)
    ·exact Zm3 z
    ·rw[Ze7 z];exact n
   ·by_cases z:b∈xs.map (·.1)
    ·rw[Zz3 z];exact n
    ·rw[Zi2 z];exact l.free b o e (by rw[Ze7 z];exact n) G
   ·have z:=B e fun _ q=>nomatch q
    rw[Zi2 z];exact l.tups b x (by rw[Ze7 z];exact e)
   ·by_cases z:b∈xs.map (·.1)
    ·rw[Zz3 z];exact e
    ·rw[Zi2 z];exact l.frzs b o u (by rw[Ze7 z];exact e)
   ·have z:=B e fun _ q=>nomatch q
    rw[Zi2 z];exact l.tbls b x (by rw[Ze7 z];exact e)
   ·by_cases y:a∈xs.map (·.1)
    ·rw[Zz3 y] at z
     obtain⟨C,i,g⟩:=c a y;rw[z] at i;cases i;exact Xt2 (l.keep a C g (Zm3 y) (fun hb=>by rw[I.stkFree a hb] at z;cases z) (by simp))
    ·rw[Zi2 y] at z
     refine (Z a o z).stay (fun b u _ e=>e) (fun b q=>?_) fun b x q=>?_
     ·rw[Zi2 fun y=>by rw[t b y] at q;cases q];exact q
     ·rw[Zi2 fun y=>by rw[t b y] at q;cases q];exact q
theorem Xe8 {xs:List (Addr×Obj)}{H:Hp}(h:Same (remX xs H) H2):Same H (Yn6 xs H H2):=fun b o e=>by
 by_cases z:b∈xs.map (·.1)
 ·rw[Zz3 z];exact e
 ·rw[Zi2 z];exact h b o (by rw[Ze7 z];exact e)
def Xo6 (X:Cx)(σ:St)(ix:List Nat)(cs:List (Addr×Obj)):Prop :=
 Paired (fun (i:Nat) (p:Addr×Obj)=>∃x v u,X.N[i]?=some x/\σ[i]?=some (some v)/\X.env.cells.lookup x=some p.1/\p.2.data=.cell (some u)/\RelV v u) ix cs
def Xd4 (X:Cx)(k:Nat)(f:Addr)(fd:yq)(ps:List Str)(ix:List Nat)(t:TA):TE:=fun σ H Q=>t σ H fun vs H1=>(∀i∈ix,∃v,σ[i]?=some (some v))/\∃xs:List (Addr×Obj),(∀p∈xs,H1 p.1=some (FZ p.2)) /\
 ∀(K':W.Frag) (cs:List (Addr×Obj)),X.Ok->KLe X.K K'->(∀a o,K'.lookup a=some o->X.K.lookup a=some o∨(a,o)∈xs++cs)->(∀p∈xs++cs,K'.lookup p.1=some p.2)->Xo6 X σ ix cs ->
  ∃sp:Sp,(∀base,FnOk X.prog X.w K' X.mg base CX0 k f fd ps sp)/\sp vs (remX xs H1) (fun v H2=>(∀p∈xs,H2 p.1=none)->Q v (Yn6 xs H1 H2)) E0
theorem Inv.cellsAt (I:Inv X pins σ H s):∀(ix:List Nat),(∀i∈ix,∃x,X.N[i]?=some x/\X.env.scope.names.lookup x=some .cell/\X.fn x=true)->(∀i∈ix,∃v,σ[i]?=some (some v)) ->
  ∃cs,Xo6 X σ ix cs/\∀p∈cs,s.heap.get? p.1=some p.2/\H p.1=none/\p.1 ∉ frs X.stack/\X.K.lookup p.1=none
 | [],_,_=>⟨[],.nil,fun _ h=>absurd h (by simp)⟩
 |i::ix,h1,h2=>by
  obtain⟨cs,g1,g2⟩:=I.cellsAt ix (fun j hj=>h1 j (yn _ hj)) fun j hj=>h2 j (yn _ hj);obtain⟨x,e1,e2,e3⟩:=h1 i zr;obtain⟨v,e4⟩:=h2 i zr;obtain⟨m,_,hm⟩:=I.loc;obtain⟨u,rv,lk⟩:=hm i x v e1 e4 (.inr (.inl e2));rcases lk with ⟨lk,_⟩ | ⟨_,c,lk,o,ho,hd⟩
  ·have lk':X.env.scope.names.lookup x=some .local:=lk
   simp_all
  ·have hc:=I.ok.cab x c e3 lk
   refine⟨(c,o)::cs,.cons ⟨x,v,u,e1,e4,lk,hd,rv⟩ g1,fun p hp=>?_⟩;rcases yk.mp hp with rfl | hp
   ·refine⟨ho,I.freeC x c lk,fun hb=>?_,?_⟩
    ·rcases yk.mp (I.stkSub _ hb) with z | z
     ·exact I.cne x c lk z
     ·obtain⟨_,o',ho',_⟩:=I.ok.funs.mem z
      exact absurd (zj ho') (Nat.not_lt.mpr hc)
    ·cases z:X.K.lookup c with
     |none=>rfl
     |some o'=>exact absurd (zj (I.ok.bs c o' (I.ok.mod.kin c o' z)).1) (Nat.not_lt.mpr hc)
   ·exact g2 p hp
theorem Xr8 {p:Pos}{e:Expr}{es:List Expr}{t:TA}{ix:List Nat}(hr:Room k X.A)(hg:Gl X x)(hm:X.mg x=some (.ref f))(hk:ybd X.K (.ref f)=true)(hb:Binds X.K fd ps [])(hix:∀i∈ix,∃x,X.N[i]?=some x/\X.env.scope.names.lookup x=some .cell/\X.fn x=true)(ha:PA X (e::es) t)(hdb:(x == ("__debug__":Str))=false:=by decide)(he:zx (e::es) X.env=(false,eval e X.env)::zx es X.env:=by rfl)(hpl:(backTo pos (zx es X.env)).any (·.1)=false:=by rfl):
  PE X (.Call (.Name x p) (e::es) [] pos) (Xd4 X k f fd ps ix t):=by with_unfolding_all
 intro j s n H Q I h;refine zbn (Zl3 I hg hm ?_ hdb);refine W.callWith_K (h₀:=X.base) I.ok.mod.kin hk (thn (ha pos j s n H _ I h) fun us s1 ⟨vs,H1,I1,r,hσ,xs,hxs,q⟩=>⟨I1.kIn,?_⟩) he hpl;obtain⟨d,B,g⟩:=I1.cellsAt ix hix hσ;have l:∀p∈xs,s1.heap.get? p.1=some p.2:=fun p b=>(I1.hok _ _ (hxs p b)).1;have c:∀p∈xs++d,s1.heap.get? p.1=some p.2:=fun p b=>(yd.mp b).elim (l p) fun z=>(g p z).1
 obtain⟨C,F,v⟩:=q _ d I1.ok (fun a o z=>by
   show ybi a (X.K++(xs++d))=some o
   rw[ybo,show ybi a X.K=some o from z];rfl) (fun a o z=>by
   have z:ybi a (X.K++(xs++d))=some o:=z;rw[ybo] at z
   cases y:ybi a X.K with
   |some o' =>
    rw[y] at z;cases z;exact .inl rfl
   |none =>
    rw[y,ydk] at z
    exact .inr (Zl2 z)) (fun p b=>by
   have u:X.K.lookup p.1=none:=by
    rcases yd.mp b with z | z
    ·cases y:X.K.lookup p.1 with
     |none=>rfl
     |some o =>
      have:=(I1.bs p.1 o (I1.ok.mod.kin _ _ y)).2;rw[hxs p z] at this;cases this
    ·exact (g p z).2.2.2
   show ybi p.1 (X.K++(xs++d))=some p.2;rw[ybo,show ybi p.1 X.K=none from u,ydk]
   exact Yb7 (fun q w e=>by
    have m:=c q w;rw[e,c p b] at m
    exact (zan m).symm) b) B
 exact Xz1 xs d I1 hxs (fun p b=>⟨(g p b).1,(g p b).2.1,(g p b).2.2.1⟩) F hr hb r v
end
theorem Xj8 {vs:List Value}{ts:List Addr}(KX:K.In s₁.heap)(hns:s₁.heap.Ns zn mg)(hb:s₁.heap.Ns ydd mb)(hbb:∀x:Str,x≠"__name__"->mb x=yav x)(hlim:s₁.heap.NoLimit)(hg:s₁.gens=#[])(ha:s₁.heap.get? a=some { cls:=.type "list",data:=.seq vs.toArray })(hi:IntsAre vs ns)(hl:ns.length<=zp)(hr:Room k callerA)(hT:∀p∈ts,s₁.heap.get? p=some (W.tabObj #[]))(hTK:∀p∈ts,K.lookup p=none)(hTc:∀p∈ts,isCodeTable s₁.heap p)(F:∀base:Heap,K.In base->base.Ns zn mg->FnOk P w K mg base CX k fa fd [x] sp)(hbind:∀(s:Shared) (u:Value),BindsTo s fd ⟨[u],[]⟩ [(x,u)])(hsp:∀H:Hp,(∀p∈ts,H p=some (.tbl #[]))->SqL K H a (ns.map V.int)->sp [.ref a] H (fun v _=>v=.bl true) fun _ _ _=>False)(hCX:∀H e s',CX [] H s₁ (fun _ _ _=>False) e s'->False):
  yde (model P w) callerA (.call (.ref fa) ⟨[.ref a],[]⟩) (fun r s'=>r=.ok (.ret (.bool true))/\OldK s₁.heap s'.heap/\s'.os=s₁.os/\ydn s'.gens) s₁:=by
 have N:=Yj1 hi;have T:=hi.length
 have i:∀H:Hp,(∀b u,H b=some u->(b=a/\K.lookup a=none/\∃D,u=.frz { cls:=.type "list",data:=.seq vs.toArray } (.lst D))∨b∈ts/\u=.tbl #[])->(∀p∈ts,H p=some (.tbl #[]))->SqL K H a (ns.map V.int)->HOk P w H s₁.heap ->
   yde (model P w) callerA (.call (.ref fa) ⟨[.ref a],[]⟩) (fun r s'=>r=.ok (.ret (.bool true))/\OldK s₁.heap s'.heap/\s'.os=s₁.os/\ydn s'.gens) s₁:=by
  intro H Y J U l;have c:∀{b:Addr} {o:Obj},s₁.heap.get? b=some o->H b=none->(hidT _ H).get? b=some o:=fun e n=>Xs9 e n
  have G:∀{b:Addr} {o:Obj} {es:Array _} {ep:Nat},s₁.heap.get? b=some o->o.data=.dict es ep->H b=none:=fun {b o es ep} e d=>by
   cases q:H b with
   |none=>rfl
   |some u =>
    grind
  have f:∀{b:Addr} {m:Str->Option _},s₁.heap.Ns b m->(hidT _ H).Ns b m:=fun {b m} ⟨o,es,ep,e,d,r⟩=>⟨o,es,ep,c e (G e d),d,r⟩
  have t  := fun b o e=>c (KX b o e) (by
   cases q:H b with
   |none=>rfl
   |some u =>
    grind)
  have X:Mod K mg _:=⟨t,f hns,⟨mb,f hb,hbb⟩,let ⟨mc,h1,h2⟩:=hlim;⟨mc,f h1,h2⟩⟩;have e0:Env0 P w K mg _ callerA [] _ H:=⟨rfl,X,fun b o e=>Wa4 e,Nat.le_of_eq (Xl3 _ _),trivial,fun b hb=>absurd (show b∈([]:List _) from hb) (by simp),l,.of_eq hg⟩;refine ycy ((F _ t (f hns)).run _ [] _ H ⟨[.ref a],[]⟩ [.ref a] [.ref a] _ _ hr e0 (hbind _ _) (.cons rfl .nil) (hsp H J U)) fun r s' h=>?_
  cases r with
  |error e=>exact (hCX H e s' h).elim
  |ok fl =>
   cases fl with
   |next=>exact zbl h
   |brk=>exact zbl h
   |cont=>exact zbl h
   |ret u =>
    obtain⟨v,H',S,B,j,g,O,q⟩:=h;have R  := q;subst R;obtain rfl:u=ydl _:=O;refine⟨rfl,⟨fun b o e=>?_,fun b o e=>j.there b o e (by simp)⟩,S,B⟩
    cases q:H b with
    |none=>exact .inl (j.keep b o e q (by intro z;exact absurd (show b∈([]:List _) from z) (by simp)) (by simp))
    |some u =>
     rcases Y b u q with ⟨rfl,_,D,rfl⟩ | ⟨hb,rfl⟩
     ·obtain⟨L,_⟩:=l b _ q
      obtain⟨Z,_⟩:=g b _ (j.frzs b _ _ q);rw[e] at L;cases L;exact .inl Z
     ·obtain⟨y,M⟩:=j.tbls b _ q
      rw[hT b hb] at e;cases e;exact .inr (.inl ⟨hTc b hb,rfl,#[],y,rfl,(g b _ M)⟩)
 have I:a ∉ ts:=fun z=>by
  grind
 cases hk:K.lookup a with
 |some o =>
  have e:=KX a o hk;rw[ha] at e;cases e;refine i (fun b=>if b∈ts then some _ else none) (fun b u z=>?_) (fun p A=>if_pos A) (.inr ⟨_,vs.toArray,_,hk,rfl,rfl,rfl,by simp_all,by omega⟩) fun b u z=>?_
  ·simp_all
  ·by_cases hb:b∈ts
   ·cases ((if_pos hb).symm.trans z)
    exact hT b hb
   simp_all
 |none =>
  refine i (fun b=>if b∈ts then some _ else if b=a then some (.frz { cls:=.type "list",data:=.seq vs.toArray } _) else none) (fun b u z=>?_) (fun p A=>if_pos A) (.inl (.inr ⟨{ cls:=.type "list",data:=.seq _ },(if_neg I).trans (if_pos rfl)⟩)) fun b u z=>?_
  ·grind
  ·by_cases hb:b∈ts
   ·cases ((if_pos hb).symm.trans z)
    exact hT b hb
   ·have C:=(if_neg hb).symm.trans z
    by_cases hba:b=a
    ·rw[if_pos hba] at C
     cases C;subst hba;exact⟨ha,by simp_all,vs,_,N,ha⟩
    simp_all
structure BltK (K:W.Frag)(mg:Str->Option Value)(bm:Addr):Prop where
 m:mg (zh "__builtins__")=some (.ref bm)
 l:∃ob,K.lookup bm=some ob/\ob.cls=.type "module"/\ob.dict=some ydd/\ob.data=.plain
 n1:bm≠ydd
 n2:bm≠zn
theorem BltK.at {bm:Addr}(b:BltK K mg bm){T:Addr}(n:bm≠T)(h:Heap)(k:K.In h):h.BuiltinsAt mg T:=by
 obtain⟨a,l,c,d,e⟩:=b.l;exact⟨bm,a,b.m,b.n1,b.n2,n,k _ _ l,c,d,e⟩
end L2
namespace Ken
open PySem L2
theorem Yg5:∀(t:Tm) (j:Nat),j < t.pre.length->∃s rest,t.pre[j]?=some s/\t.pre.drop j=s.pre++rest/\s.parts<=t.parts
 | .low,j,h=>by
  have:j=0:=by have h':j < 1:=h;omega
  subst this;exact⟨.low,[],rfl,rfl,yo _⟩
 | .ltr w,j,h=>by
  have:j=0:=by have h':j < 1:=h;omega
  subst this;exact⟨.ltr w,[],rfl,rfl,yo _⟩
 | .nd k a b,0,h=>⟨.nd k a b,[],rfl,by simp,yo _⟩
 | .nd k a b,j+1,h=>by
  have e1:(Tm.nd k a b).pre=.nd k a b::_:=rfl;have e2:(Tm.nd k a b).parts=1+a.parts+b.parts:=rfl;rw[e1] at h ⊢;rw[yai,zf] at h;rw[List.getElem?_cons_succ,List.drop_succ_cons,e2]
  by_cases hj:j < a.pre.length
  ·obtain⟨s,rest,h1,h2,h3⟩:=Yg5 a j hj
   refine⟨s,rest++b.pre,by rw[zz hj];omega,?_,by omega⟩;rw[List.drop_append_of_le_length (zk hj),h2,zao]
  ·obtain⟨s,rest,h1,h2,h3⟩:=Yg5 b (j - a.pre.length) (by omega)
   refine⟨s,rest,by rw[yah (by omega)];omega,?_,by omega⟩;rw[List.drop_append,List.drop_of_length_le (by omega),List.nil_append];omega
theorem Zy2 (t:Tm):∃l,t.pre=t::l:=⟨_,t.pre_eq⟩
theorem Zr7 {a:Tm}(h:fs.flatMap Tm.pre=a.pre++rest):∃fs',fs=a::fs'/\fs'.flatMap Tm.pre=rest:=by
 cases fs with
 |nil =>
  obtain⟨l,e⟩:=Zy2 a
  simp_all
 |cons f fs =>
  obtain⟨l,e⟩:=Zy2 f;obtain⟨m,b⟩:=Zy2 a
  simp_all
theorem Xa4 (h:fs.flatMap Tm.pre=[]):fs=[]:=by
 cases fs with
 |nil=>rfl
 |cons f fs =>
  obtain⟨l,e⟩:=Zy2 f
  grind
theorem Zj0:∀{os ts:List Tm},os.Nodup->(∀t∈os,t∈ts)->os.length<=ts.length
 | [],_,_,_=>yz _
 |o::os,ts,hn,h=>by
  obtain⟨l,r,rfl⟩:=List.append_of_mem (h o zr);have h1:=yaq.mp hn
  have:=Zj0 (ts:=l++r) h1.2 fun t ht=>by
   grind
  rw[zf] at this;rw[yai,zf,yai];omega
end Ken
namespace L2
open PySem PySem.Spec PyProof.Rows
noncomputable def posOf (s:Stmt):Pos:=match s with
 | .FunctionDef _ _ _ _ _ _ _ _ _ p=>p
 | _=>⟨0,0,0,0⟩
noncomputable def Wq1 (s:Stmt)(j:Nat):Stmt:=(Zc6 s).getD j (.Pass ⟨0,0,0,0⟩)
theorem Xf8 {i:Nat}{qual:Str}{st:Stmt}{c P:Addr}{ds:List (Pos×Str)}(hst:st=.FunctionDef name (Zd8 st) (Zc6 st) [] none [] (Za6 st) none name (posOf st))(hN:X.N.Nodup)(hi:X.N[i]?=some name)(hx:Loc X.env.scope name)(hcl:closureFor (Za6 st) X.env=pure cl)(hc:X.env.code=.ref c)(hC:∀h,X.K.In h->W.CodeHd h c P)(hB:∀h,X.K.In h->h.BuiltinsAt X.mg P)(hP:zn≠P)(hq:qualnameIn X.env name name=qual)(hd:(posOf st,qual)∈ds)(hds:∀d∈ds,d.1.line=(posOf st).line->d.1.col=(posOf st).col->d.2=qual)(h1:(Zd8 st).defaults=[])(h2:(Zd8 st).kw_defaults=[])(h3:annTrees (Zd8 st) none X.env=[])(hf:X.fn name=true∨X.env.scope.names.lookup name=some .local:=by first | exact .inl rfl | exact .inr rfl | assumption):
  PS X st (tDef i name qual (Zd8 st) (Zc6 st) (Za6 st) cl P ds):=by
 have h:=Wh8 (body:=Zc6 st) hN hi hx hcl hc hC hB hP hq hd hds h1 h2 h3 hf;rw[<- hst] at h;exact h
theorem Xm8 {vs:Array Value}{t:Tok}(h:K.lookup c=some o)(hd:o.data=.fields vs)(hv:vs[1]?=some (.str q t)):ycn K (.ref c) q=true:=by
 obtain⟨g,e,f,d⟩:=o;unfold ycn;obtain⟨l⟩:=vs
 match l,hv with
 |a::b::r,hv =>
  simp_all
theorem Yl6 (h:K.lookup f=some ⟨oc,od,.func fd,sl⟩):ybd K (.ref f)=true:=by
 unfold ybd
 simp_all
theorem Xm9 (k:KLe K K')(h:ycn K cd q=true):ycn K' cd q=true:=by
 cases cd with
 |ref c =>
  unfold ycn at h ⊢;dsimp only at h ⊢
  cases z:ybi c K with
  |none=>simp_all
  |some o =>
   rw[z] at h;rw[k c o z];exact h
 | _=>exact absurd h (by simp[ycn])
theorem Fun.le (k:KLe K K')(F:Fun K x qual st f fd):Fun K' x qual st f fd:=by
 obtain⟨⟨j,i,l,d,h,n,g,m,a,e,b,c⟩,o⟩:=F;exact⟨⟨j,i,l,d,h,n,g,m,a,e,k _ _ b,Xm9 k c⟩,Yl6 (k _ _ b)⟩
theorem Binds.le (k:KLe K K'){ds:List Value}(b:Binds K fd ps ds):Binds K' fd ps ds:=fun s c h d=>b s c (fun a o e=>h a o (k a o e)) d
theorem SqT.le (k:KLe K K')(h:SqT K H a xs):SqT K' H a xs:=by
 rcases h with h | ⟨o,b,n,e,r⟩
 ·exact .inl h
 ·exact .inr ⟨o,b,n,k a o e,r⟩
structure FunT (K:W.Frag)(x qual:Str)(st:Stmt)(f:Addr)(fd:yq)(P:Addr):Prop where
 ex:∃(oc:Value) (od:Option Addr) (kV doc pm:Value) (an:Option Addr) (c:Addr) (ct:Value) (osl:Array (Option Value)),
  fd=W.fnOf x qual (Zd8 st) (Zc6 st) (Za6 st) .none kV doc pm an (.ref c) ct/\K.lookup f=some ⟨oc,od,.func fd,osl⟩/\ycn K (.ref c) qual=true/\∀h,K.In h->W.CodeHd h c P
 kp:ybd K (.ref f)=true
theorem FunT.ok {T:Addr}(F:FunT K x qual st f fd T)(S:FnScope N ps (Za6 st))(len:∀vs H Q E,sp vs H Q E->vs.length=ps.length) (hbody:∀(c:Addr) (A:Around) (outer:List Env) (s:Shared) (H:Hp) (vs:List V) (Q:VK) (E:XK),(∀h,K.In h->W.CodeHd h c T)->Room k (A.deeper (envOfC qual (Za6 st) s.heap.objs.size f (.ref c)))->sp vs H Q E ->
   ∃t,PSs (cxOf CX0 P w K mg base N qual (Za6 st) f (.ref c) A outer s H E).nox (Zc6 st) t/\t { nx:=fun _ H'=>Q .non H',rt:=Q } (start N vs) H):FnOk P w K mg base CX0 (k+1) f fd ps sp:=by
 obtain⟨n,m,o,j,l,r,c,p,i,rfl,d,b,g⟩:=F.ex;refine fn_of d b S len fun A outer s H vs Q E e a=>?_;obtain⟨t,h,q⟩:=hbody c A _ s H vs Q E g e a;exact⟨t,h.nox,q⟩
structure FunC (K:W.Frag)(x qual:Str)(st:Stmt)(cl:List (Str×Addr))(f:Addr)(fd:yq):Prop where
 ex:∃(oc:Value) (od:Option Addr) (doc pm cdv ct:Value) (osl:Array (Option Value)),
  fd=W.fnX x qual (Zd8 st) (Zc6 st) (Za6 st) cl .none .none doc pm none cdv ct/\K.lookup f=some ⟨oc,od,.func fd,osl⟩/\ycn K cdv qual=true
 kp:ybd K (.ref f)=true
theorem FunC.ok (F:FunC K x qual st cl f fd)(S:FnScopeC N ps fv (Za6 st))(C:Caught K (Za6 st) cl fv frv)(len:∀vs H Q E,sp vs H Q E->vs.length=ps.length) (hbody:∀(cdv:Value) (A:Around) (outer:List Env) (s:Shared) (H:Hp) (vs:List V) (Q:VK) (E:XK),Room k (A.deeper (W.envX qual (Za6 st) s.heap.objs.size f cdv cl))->sp vs H Q E ->
   ∃t,PSs (cxC CX0 P w K mg base N qual (Za6 st) f cdv cl A outer s H E).nox (Zc6 st) t/\t { nx:=fun _ H'=>Q .non H',rt:=Q } (start N (vs++frv)) H):FnOk P w K mg base CX0 (k+1) f fd ps sp:=by
 obtain⟨l,j,g,i,cdv,m,e,rfl,c,b⟩:=F.ex;refine Wq3 c b S C len fun A outer s H vs Q E d a=>?_;obtain⟨t,h,q⟩:=hbody cdv A _ s H vs Q E d a;exact⟨t,h.nox,q⟩
theorem FunC.binds {ps:List Str}(F:FunC K x qual st cl f fd)(h:∀(doc pm cdv ct:Value) (us:List Value),us.length=ps.length->ydc (W.fnX x qual (Zd8 st) (Zc6 st) (Za6 st) cl .none .none doc pm none cdv ct) ⟨us,[]⟩=pure (ps.zip us)):Binds K fd ps []:=by
 obtain⟨d,c,doc,pm,cdv,ct,a,rfl,e,b⟩:=F.ex;exact .all (h doc pm cdv ct)
theorem FnFz.objs (h:FnFz H f name qual (Zd8 st) (Zc6 st) (Za6 st) cl):
  ∃(o1:Obj) (c:Addr) (o2:Obj),H f=some (FZ o1)/\H c=some (FZ o2)/\(∀its n,o1.data≠.seq its n)/\(∀its n,o2.data≠.seq its n) /\
   ∀K:W.Frag,K.lookup f=some o1->K.lookup c=some o2->∃fd,FunC K name qual st cl f fd:=by
 obtain⟨b,d,l,p,j,c,o,m,t,rfl,i,g,e⟩:=h;refine⟨_,c,o,j,i,?_,?_,fun K a k=>⟨_,⟨_,_,b,d,_,l,_,rfl,a,Xm8 k g e⟩,Yl6 a⟩⟩
 ·simp
 grind
def Xo7 (X:Cx)(K:W.Frag)(x:Str)(v:V):Prop:=∃c o u,X.env.cells.lookup x=some c/\K.lookup c=some o/\o.data=.cell (some u)/\RelV v u
theorem Ym8 (ok:X.Ok)(hlen:frv.length=fv.length)(h1:∀y∈sc.names,y.2=.free->y.1∈fv)(h2:∀x∈fv,(x,zap)∈sc.names)(hc:∀(i:Nat) (x:Str) (v:V),fv[i]?=some x->frv[i]?=some v->Xo7 X K x v):Caught K sc (Zn1 X.env.cells sc.names []) fv frv:=by
 have b:∀x c,(Zn1 X.env.cells sc.names []).lookup x=some c->x∈fv/\c=(X.env.cells.lookup x).getD 0:=fun x c e=>by
  rcases Zu2 (zak e) with z | ⟨w,t⟩
  ·exact absurd z (by simp)
  ·exact⟨h1 _ w rfl,t⟩
 have h:∀x∈fv,∃i v,fv[i]?=some x/\frv[i]?=some v:=fun x a=>by
  obtain⟨i,I,e⟩:=zw a;exact⟨i,frv[i]'(by omega),by rw[za I,e],za _⟩
 have q:∀x,x∈fv->∃c,(Zn1 X.env.cells sc.names []).lookup x=some c:=fun x a=>by
  obtain⟨c,G⟩:=Zu3 (.inl (h2 x a));exact Zt5 G
 refine⟨hlen,fun i x v g k=>?_,fun x c e=>?_,fun x y c g k=>?_,fun x e=>?_⟩
 ·obtain⟨c,o,u,f,d,p,r⟩:=hc i x v g k
  obtain⟨s,e⟩:=q x (yc g);have:=(b x s e).2;rw[f] at this;cases this;exact⟨c,o,u,e,d,p,r⟩
 ·obtain⟨a,n⟩:=b x c e
  obtain⟨i,v,g,k⟩:=h x a;obtain⟨s,o,u,f,d,p,r⟩:=hc i x v g k;rw[f] at n;cases n;exact⟨o,_,d,p⟩
 ·obtain⟨a,m⟩:=b x c g
  obtain⟨F,l⟩:=b y c k;obtain⟨i,v,D,C⟩:=h x a;obtain⟨j,u,B,A⟩:=h y F;obtain⟨L,_,_,f,_⟩:=hc i x v D C;obtain⟨J,_,_,d,_⟩:=hc j y u B A;rw[f] at m;rw[d] at l;cases m;cases l;exact ok.inj x y _ f d
 ·exact q x (h1 _ (zak e) rfl)
mutual
theorem Dn.moveT (k:∀a xs,SqT K H a xs->SqT K' H' a xs):∀{d:PyData} {v:V},noList d=true->Dn K H v d->Dn K' H' v d
 | .none,v,_,h=>by rw[Dn] at h ⊢;exact h
 | .bool _,v,_,h=>by rw[Dn] at h ⊢;exact h
 | .int _,v,_,h=>by rw[Dn] at h ⊢;exact h
 | .str _,v,_,h=>by rw[Dn] at h ⊢;exact h
 | .list _,v,n,h=>by rw[noList] at n;cases n
 | .dict _,v,n,h=>by rw[noList] at n;cases n
 | .tuple ds,v,n,h=>by
  rw[Dn] at h ⊢;rw[noList] at n;obtain⟨a,xs,e,hs,hd⟩:=h;exact⟨a,xs,e,k a xs hs,DnAll.moveT k n hd⟩
theorem DnAll.moveT (k:∀a xs,SqT K H a xs->SqT K' H' a xs):∀{ds:List PyData} {xs:List V},noLists ds=true->DnAll K H xs ds->DnAll K' H' xs ds
 | [],xs,_,h=>by rw[DnAll] at h ⊢;exact h
 |d::ds,xs,n,h=>by
  rw[DnAll] at h ⊢;rw[noLists,zo] at n;obtain⟨x,r,e,h1,h2⟩:=h;exact⟨x,r,e,Dn.moveT k n.1 h1,DnAll.moveT k n.2 h2⟩
end
theorem Wf0 {xs:List (Addr×Obj)}(hx:∀p∈xs,H p.1=some (FZ p.2))(k:KLe K K')(a:Addr)(ys:List V)(h:SqT K H a ys):SqT K' (remX xs H) a ys:=by
 have c:∀{b:Addr} {u:HO},H b=some u->(∀o,u≠FZ o)->b ∉ xs.map (·.1):=fun {b u} e n z=>by
  grind
 rcases h with (h | ⟨o,h⟩) | ⟨o,d,n,e,r⟩
 ·exact .inl (.inl (by rw[Ze7 (c h fun _ z=>nomatch z)];exact h))
 ·exact .inl (.inr ⟨o,by rw[Ze7 (c h fun _ z=>by cases z)];exact h⟩)
 ·exact .inr ⟨o,d,n,k a o e,r⟩
end L2
namespace Ken
open PySem L2
theorem SameT.keepT {K:W.Frag}(e:SameT H H'):KeepT K H H':=fun a b h=>by
 rcases h with (h | ⟨o,h⟩) | h
 ·exact .inl (.inl (e _ _ (fun _ z=>nomatch z) h))
 ·exact .inl (.inr ⟨o,e _ _ (fun _ z=>nomatch z) h⟩)
 ·exact .inr h
theorem SameT.seq (e:SameT H H')(h:SqL K H a xs):SqL K H' a xs:=by
 rcases h with (h | ⟨o,h⟩) | h
 ·exact .inl (.inl (e _ _ (fun _ z=>nomatch z) h))
 ·exact .inl (.inr ⟨o,e _ _ (fun _ z=>nomatch z) h⟩)
 ·exact .inr h
section
theorem isT_inj (I:Inv X pins σ H s):∀{a b:Tm} {v:V},IsT X.K H v a->IsT X.K H v b->a=b
 | .low,b,v,h,g=>by
  obtain⟨p,rfl,hs⟩:=isT_low.mp h
  cases b with
  |low=>rfl
  |ltr w =>
   obtain⟨q,e,gs⟩:=isT_ltr.mp g;cases e;exact absurd (I.tuple_inj hs gs) (by simp)
  |nd k x y =>
   obtain⟨q,_,_,e,gs,_⟩:=isT_nd.mp g;cases e;exact absurd (I.tuple_inj hs gs) (by simp)
 | .ltr w,b,v,h,g=>by
  obtain⟨p,rfl,hs⟩:=isT_ltr.mp h
  cases b with
  |low =>
   obtain⟨q,e,gs⟩:=isT_low.mp g;cases e;exact absurd (I.tuple_inj hs gs) (by simp)
  |ltr w' =>
   obtain⟨q,e,gs⟩:=isT_ltr.mp g;cases e;have:=I.tuple_inj hs gs
   grind
  |nd k x y =>
   obtain⟨q,_,_,e,gs,_⟩:=isT_nd.mp g;cases e;exact absurd (I.tuple_inj hs gs) (by simp)
 | .nd k x y,b,v,h,g=>by
  obtain⟨p,vx,vy,rfl,hs,hx,hy⟩:=isT_nd.mp h
  cases b with
  |low =>
   obtain⟨q,e,gs⟩:=isT_low.mp g;cases e;exact absurd (I.tuple_inj hs gs) (by simp)
  |ltr w' =>
   obtain⟨q,e,gs⟩:=isT_ltr.mp g;cases e;exact absurd (I.tuple_inj hs gs) (by simp)
  |nd k' x' y' =>
   obtain⟨q,_,_,e,gs,gx,gy⟩:=isT_nd.mp g;cases e;have:=I.tuple_inj hs gs;simp at this;obtain⟨e1,rfl,rfl⟩:=this;rw[Kd.str_inj e1,isT_inj I hx gx,isT_inj I hy gy]
end
theorem Yd2:∀{us:List V} {ts:List Tm},Paired (IsT K H) us ts->DnAll K H us (ts.map Tm.data)
 | _,_,.nil=>by rfl
 | _,_,.cons h t=>by
  exact⟨_,_,rfl,h,Yd2 t⟩
theorem Zu7:∀{ts:List Tm},(∀t∈ts,t.ok)->(zbj (ts.map Tm.data)).canLay0=true
 | [],_=>rfl
 |t::ts,h=>by
  have:=Zu7 fun s hs=>h s (yn _ hs);show (t.data.canLay0&&(zbj _).canLay0)=true;rw[t.lay (h t zr),this];rfl
end Ken
namespace L2
open PySem PySem.Spec PyProof.Rows
section
def rInT (K:W.Frag)(neg:Bool):R2:=fun x y H Q=>∃(t:Ken.Tm) (p:Addr) (xs:List V) (ts:List Ken.Tm),Ken.IsT K H x t/\y=.ref p/\SqL K H p xs/\Paired (Ken.IsT K H) xs ts/\t.ok/\(∀s∈ts,s.ok)/\t.deep<=140/\Q (.bl (if neg then !decide (t∈ts) else decide (t∈ts))) H
theorem Wo5 {x:V}(hu:X.A.units+150 < cLine)(I:Inv X pins σ H s)(rx:RelV x v)(hT:Ken.IsT X.K H x t)(hP:Paired (Ken.IsT X.K H) xs ts)(r:Vals xs its)(ho:t.ok)(hs:∀s∈ts,s.ok)(hd:t.deep<=140):
  ∃e:Value->Bool,(∀w∈its,SeqAt.EqAt X.A.in1 s w v (e w))/\its.any e=decide (t∈ts)/\∀(j:Nat) (w:Value),its[j]?=some w->e w=true->ts[j]?=some t:=by
 classical
 have l1:=zc hP;have l2:=r.length
 have k:∀(i j:Nat) (w:Value) (a b:Ken.Tm),its[i]?=some w->its[j]?=some w->ts[i]?=some a->ts[j]?=some b->a=b:=by
  intro i j w a b n f R O
  have N:i < xs.length:=by have:=(ze.mp R).1;omega
  have d:j < xs.length:=by have:=(ze.mp O).1;omega
  obtain⟨a',g,c⟩:=Ken.paired_get hP (za N);obtain⟨b',T,D⟩:=Ken.paired_get hP (za d);obtain⟨U,o,l⟩:=r.get (za N);obtain⟨u2,S,G⟩:=r.get (za d);rw[R] at g;cases g;rw[O] at T;cases T;rw[n] at o;cases o;rw[f] at S;cases S;obtain⟨u,_,B,_⟩:=Ken.isT_tup c;obtain⟨q,_,z,_⟩:=Ken.isT_tup D;rw[B] at l c;rw[z] at G D;have C  := l;have p  := G;rw[C] at p;cases p;exact Ken.isT_inj I c D
 refine⟨fun w=>decide (∃j:Nat,its[j]?=some w/\ts[j]?=some t),fun w L=>?_,?_,fun j w d Z=>?_⟩
 ·obtain⟨j,d,ej⟩:=zdc.mp L
  have y:j < xs.length:=by omega
  obtain⟨a,g,c⟩:=Ken.paired_get hP (za y);obtain⟨U,o,l⟩:=r.get (za y)
  have F:its[j]?=some w:=by simp[*]
  rw[F] at o;cases o
  have J:decide (∃j:Nat,its[j]?=some w/\ts[j]?=some t)=decide (a=t):=by
   by_cases h:a=t
   ·rw[decide_eq_true h,decide_eq_true ⟨j,F,by rw[g,h]⟩]
   ·rw[decide_eq_false h,decide_eq_false]
    rintro⟨i,n,f⟩;exact h (k j i w a t F n g f)
  show SeqAt.EqAt _ s w v (decide _);rw[J];obtain⟨u,_,B,_⟩:=Ken.isT_tup c;obtain⟨q,_,z,_⟩:=Ken.isT_tup hT;rw[B] at l c;rw[z] at rx hT;have C  := l;have p  := rx;subst C p
  by_cases h:u=q
  ·subst h
   rw[decide_eq_true (Ken.isT_inj I c hT)];exact SeqAt.EqAt.same _
  ·obtain⟨as,Y⟩:=Dn.reads I c (show RelV (.ref u) (.ref u) from rfl)
   obtain⟨bs,W⟩:=Dn.reads I hT (show RelV (.ref q) (.ref q) from rfl);rw[<- Ken.Tm.eqv];have q0:X.A.in1.units=X.A.units+1:=rfl
   have dm:min a.data.depth t.data.depth<=140:=by rw[Ken.Tm.depth,Ken.Tm.depth];omega
   exact SeqAt.EqAt.of_refs h (SeqAt.rcAt_reads Y W (a.lay (hs a (yc g))) (t.lay ho) (by omega))
 ·rw[Bool.eq_iff_iff,List.any_eq_true,decide_eq_true_iff]
  constructor
  ·rintro⟨w,L,h⟩
   obtain⟨j,_,f⟩:=of_decide_eq_true h;exact yc f
  ·intro h
   obtain⟨j,d,ej⟩:=zdc.mp h
   have m:j < its.length:=by omega
   exact⟨its[j],zbm m,decide_eq_true ⟨j,za m,by simp_all⟩⟩
 ·obtain⟨i,n,f⟩:=of_decide_eq_true Z
  have m  := (ze.mp d).1
  have M:j < ts.length:=by omega
  rw[za M,k j i w ts[j] t d n (by simp) f]
theorem Xh4 (hu:X.A.units+150 < cLine):OpR X (yaj .NotIn) (rInT X.K true):=by
 intro d s o H x y v u Q I b a h;obtain⟨t,p,z,B,l,rfl,g,m,i,f,k,q⟩:=h;cases a;obtain⟨n,r,c,C⟩:=I.list g;obtain⟨e,j,F,_⟩:=Wo5 hu I b l m r i f k;refine SeqAt.notIn_listAt e c.isList (fun w D=>j w (by simp_all)) ⟨.bl _,H,I,rfl,?_⟩
 simp_all
end
noncomputable def Itd (lo:Int)(n:Nat):It:=⟨fun i _=>i < n,fun i H x H'=>H'=H/\x=.int (lo - i),fun i _=>n<=i⟩
theorem Xc4 (it:Addr)(lo:Int)(n:Nat):Turn P w K tg (Itd lo n) [it] it (fun i h=>IsRangeIter h it (lo+(i:Nat)*(-1)) ((n:Int) - (i:Nat)) (-1)) where
  mem:=by simp
  obj:=fun i h a b c=>by
    simp_all
  keep:=fun i h m a k=>k it (by simp) _ a
  item:=by
    intro X A z B l i g s y H E I d a j;subst A z B;obtain⟨x,u,G,r,q,p⟩:=d it (by simp);have W:=Walks.range (prog:=X.prog) (w:=X.w) (I.ok.hd l) it lo (-1) n;refine W.item i s _ _ j a fun v m C F f D=>?_;obtain⟨t,rfl⟩:=F;have L:Inv X _ y H { s with heap:=m,toks:=C }:=I.turned (fun b o c e=>D b o (by simp_all) e) x u r q p;refine⟨_,rfl,Xt1 f rfl rfl rfl ⟨.int _,H,L,⟨t,?_⟩,⟨rfl,rfl⟩,f,fun b c=>(d b c).1⟩⟩;rw[show lo+_*_=lo - i by omega]
  done:=by
    intro X A z B l i g s y H E I d a j;obtain⟨x,u,G,r,q,p⟩:=d it (by simp);exact wpAny_pyNext_range_end (I.ok.hd l) a (by have:n<=i:=j;omega) fun m J=>⟨rfl,I.turned (fun b o c e=>J b o c e) x u r q p⟩
  self:=fun _ _ _ _ _ a h=>wpAny_pyIter_rangeiter a h
theorem Zq5 (a b:Int):ybw a b (-1)=if b < a then a - b else 0:=by
 unfold ybw;simp
theorem Yy0 {a b:Int}(ha:-(2 ^ 62)<=a)(ha':a < 2 ^ 62)(hb:-(2 ^ 62)<=b)(hb':b < 2 ^ 62):Builtin.Range.small a b (-1)=true:=by
 unfold Builtin.Range.small;rw[Zq5,if_neg (show ¬((-1) > 0) by decide)];simp only[Builtin.Range.rangeFitsLong,zo,ydg,decide_eq_true_eq]
 split<;>omega
section
variable {tg:Expr}
theorem Xf2 {t u v:Tok}{tk:Nat}(I:Inv X pins σ H s)(h1:-(2 ^ 62)<=lo)(h2:lo < 2 ^ 62)(h3:-(2 ^ 62)<=hi)(h4:hi < 2 ^ 62)(q:R (Itd lo (lo - hi).toNat) H):wpAny (model X.prog X.w) X.A (pyIter (.ref s.heap.objs.size)) (PIE X pins σ tg R) E { s with heap:=s.heap.push { cls:=.type "range",data:=.fields #[.int lo t,.int hi u,.int (-1) v] },toks:=tk }:=by
 refine wpAny_pyIter_range (IsRange.new ..) (Yy0 h1 h2 h3 h4) ?_;have a:Inv X _ σ H { s with heap:=s.heap.push { cls:=.type "range",data:=.fields #[.int lo t,.int hi u,.int (-1) v] },toks:=tk }:=I.kept fun b o e=>yb _ e
 refine⟨(s.heap.push { cls:=.type "range",data:=.fields #[.int lo t,.int hi u,.int _ v] }).objs.size,[(s.heap.push { cls:=.type "range",data:=.fields #[.int lo t,.int hi u,.int _ v] }).objs.size],_,_,H,rfl,
  a.kept fun b o e=>yb _ e,Xc4 _ lo (lo - hi).toNat,?_,fun b f=>?_,q⟩
 ·have d:lo+((0:Nat))*-1=lo:=by simp
  have c:(((lo - hi).toNat):Int) - ((0:Nat))=ybw lo hi (-1):=by rw[Zq5];split<;>omega
  rw[d,c];exact yt _ rfl
 ·have e:b=(s.heap.push { cls:=.type "range",data:=.fields #[.int lo t,.int hi u,.int (-1) v] }).objs.size:=by simp_all
  subst e;exact a.fpOk (yo _) (a.hok.fresh (yo _))
def Yr4 (ta:TA):TI:=fun σ H R=>ta σ H fun vs H1=>∃i j:Int,vs=[.int i,.int j,.int (-1)]/\(-10000<=i/\i < 10000/\-10000<=j/\j < 10000)/\R (Itd i (i - j).toNat) H1
theorem Xg1 {a b c:Expr}{ta:TA}{p:Pos}(hg:Gl X "range")(hm:X.mg "range"=none)(ha:PA X [a,b,c] ta)(hs:zx [a,b,c] X.env=[(false,eval a X.env),(false,eval b X.env),(false,eval c X.env)]:=by rfl)(hs2:zx [b,c] X.env=[(false,eval b X.env),(false,eval c X.env)]:=by rfl):
  PI X tg (.Call (.Name "range" p) [a,b,c] [] pos) (Yr4 ta):=by with_unfolding_all
 intro d s g H R I h;refine Call_ (Zt7 I hg hm boot_range (zal (thn (ha pos d s g H _ I h) fun us s1 ⟨vs,H1,I1,r1,f⟩=>?_) (by simp_all) (by rw[hs2];rfl)));obtain⟨i,j,e,⟨f,o,n,m⟩,q⟩:=f;subst e
 cases r1 with
 |cons r rr =>
  cases rr with
  |cons r' rr =>
   cases rr with
   |cons r'' rr =>
    cases rr;obtain⟨t,rfl⟩:=r;obtain⟨l,rfl⟩:=r';obtain⟨k,rfl⟩:=r'';exact call_range_3 (by decide) (Xf2 I1 (by omega) (by omega) (by omega) (by omega) q) (.inl rfl)
end
theorem Xt3 {tb:TS}{D:Ends}(Pv:Nat->St->Hp->Prop)(h0:Pv 0 σ H)(hs:∀i σ H,i < n->Pv i σ H->g (.int (lo - i)) σ H fun σ2 H2=>tb { D with nx:=Pv (i+1),ct:=Pv (i+1),bk:=D.nx } σ2 H2)(hd:∀σ H,Pv n σ H->D.nx σ H):
  ∃W:Nat->Nat->St->Hp->Prop,(∃m,W 0 m σ H)/\∀i m σ H,W i m σ H ->
   ((Itd lo n).stop i H/\D.nx σ H)∨((Itd lo n).go i H/\∃N:St->Hp->Prop,(∀σ' H',N σ' H'->∃m',m' < m/\W (i+1) m' σ' H')/\∀x H',(Itd lo n).yld i H x H'->g x σ H' fun σ2 H2=>tb { D with nx:=N,ct:=N,bk:=D.nx } σ2 H2):=by
 refine⟨fun i m σ H=>m=n - i/\i<=n/\Pv i σ H,⟨n,by simp,yz _,h0⟩,?_⟩;rintro i m σ H ⟨rfl,b,p⟩
 by_cases hlt:i < n
 ·refine .inr ⟨hlt,Pv _,fun σ' H' a=>⟨n - _,by omega,rfl,hlt,a⟩,fun x H' y=>?_⟩
  obtain⟨rfl,rfl⟩:=y;exact hs i σ H' hlt p
 ·have:i=n:=by omega
  subst this;exact .inl ⟨yo _,hd σ H p⟩
section
theorem Wq8 (H:Hp)(h:Heap)(a:Addr)(e:h.get? a=some { cls:=.type "dict",dict:=none,data:=.dict #[] })(hb:zbd < a):ObjOk P w (upd H a (.dK [])) h a (.dK []) :=
 ⟨yz _,beq_eq_false_iff_ne.mpr (zar (zv hb)),[],.nil,_,#[],0,e,⟨rfl,rfl,rfl⟩,rfl,fun _ b=>by simp_all,Pairs.nil,ydj⟩
theorem Xf7 {i:Nat}{ek ev tg iter:Expr}{ifs:List Expr}{gs:List ybn}{spos:Pos}(hN:X.N.Nodup)(hi:X.N[i]?=some x)(hx:Loc X.env.scope x)(B:X.Ok->BlkOk X scope cl N' nt ci)(hc:X.calm=true)(hit:PI X tg iter wi)(hg:∀s H C ex,PG (blk X N' scope cl s H C ex) tg g)(htn:∀a env,Zq9 (.DictComp ek ev (⟨tg,iter,ifs,0⟩::gs) scope pos) 0 tg p0 (.ref a) env (body a env))(hb:∀s H C ex a,PTn (blk X N' scope cl s H C ex) (body a (blk X N' scope cl s H C ex).env) (tk a))(hsw:zde (.DictComp ek ev (⟨tg,iter,ifs,0⟩::gs) scope pos) (some (.Name x pos')) spos.line X.env=pure true)(hs:∀x,yaw iter X.env x=pure x:=by intro _;rfl)(hf:X.fn x=true∨X.env.scope.names.lookup x=some .local:=by first | exact .inl rfl | exact .inr rfl | assumption):
  PS X (.Assign [.Name x pos'] (.DictComp ek ev (⟨tg,iter,ifs,0⟩::gs) scope pos) spos) (tAsg (Yc6 nt ci wi g tk (.dK [])) (Zn5 i)):=by with_unfolding_all
 intro c s j H D I h;rw[exec_Assign_Name_used _ _ _ _ hsw];refine ya (zbg (ya ?_));refine ya (Zz0 (o0:=fun _=>.dK []) (Q:=fun v H1=>Zn5 i v j H1 D.nx) (B I.ok) hc hit hg rfl (fun _ _=>Wu4) htn hb (fun h=>yal h) rfl Wq8 hs I h fun t C s' y w q f k G=>?_);obtain⟨r,n,S,R,O,M⟩:=k;obtain⟨m,f⟩:=f;obtain⟨o,e,d⟩:=G
 have Y:Inv X (c++[(C,o)]) j y s':=w.pins_of fun p F=>(yd.mp F).elim (fun z=>w.pin p (yw _ z)) fun z=>by
  have W:p=(C,o):=by simp_all
  subst W;exact⟨e,r,n,S,d⟩
 refine wpAny_assign_Name (Zs3 Y hN hi hx (show RelV (.ref t) _ from rfl) (fun s2 u=>?_) hf);have V:=(u.pin (C,o) (by simp)).1;obtain⟨o',T,U,l,L,J⟩:=f;rw[e] at l;cases l;refine⟨m,⟨o,T,U,V,L,J⟩,fun h' A=>ye (ye ?_)⟩;have Z  := u.unpinned;exact⟨_,y,Z.turned (fun b o hb e=>(A.2 b hb).trans e) r n R O M,q⟩
end
end L2
namespace Ken
open PySem L2
noncomputable def tg (l:List Bool)(n:Nat):Bool:=l[n]?.getD true
noncomputable def Yf1 (ws:List Wd)(l:List Bool)(n:Nat):List Bool:=if tg l n then l else match bef ws n with
 |some j=>l.set j false
 |none=>l
noncomputable def Zu6 (ws:List Wd)(l:List Bool):Nat->List Bool
 | 0=>l
 |i+1=>Yf1 ws (Zu6 ws l i) (ws.length - 1 - i)
noncomputable def Xb9 (ws:List Wd)(l:List Bool):List Bool:=Zu6 ws l (ws.length - 1)
noncomputable def ifs (a b:List Bool):List Bool:=zu (fun x y=>!x||y) a b
noncomputable def tr (ws:List Wd):Tm->List Bool
 | .low=>ws.map fun _=>false
 | .ltr x=>ws.map fun w=>decide (x∈w.2)
 | .nd .both a b=>zu and (tr ws a) (tr ws b)
 | .nd .one a b=>zu or (tr ws a) (tr ws b)
 | .nd .thn a b=>Xb9 ws (ifs (tr ws a) (tr ws b))
theorem Xc0 (ws:List Wd)(l:List Bool)(n:Nat):(Yf1 ws l n).length=l.length:=by
 unfold Yf1
 split
 ·rfl
 ·split
  ·simp
  ·rfl
theorem Zs1 (ws:List Wd)(l:List Bool):∀i,(Zu6 ws l i).length=l.length
 | 0=>rfl
 |i+1=>by
  show (Yf1 ws _ _).length=_;rw[Xc0,Zs1 ws l i]
theorem Zf5 (ws:List Wd):∀t:Tm,(tr ws t).length=ws.length
 | .low=>by show (ws.map _).length=_;simp
 | .ltr x=>by show (ws.map _).length=_;simp
 | .nd .both a b=>by
  show (zu and _ _).length=_;rw[zag,Zf5 ws a,Zf5 ws b,zcd]
 | .nd .one a b=>by
  show (zu or _ _).length=_;rw[zag,Zf5 ws a,Zf5 ws b,zcd]
 | .nd .thn a b=>by
  show (Zu6 ws _ _).length=_;rw[Zs1];show (zu _ _ _).length=_;rw[zag,Zf5 ws a,Zf5 ws b,zcd]
theorem We7 {l:List Bool}(hj:j < l.length):tg (l.set j false) n=if n=j then false else tg l n:=by
 unfold tg
 grind
theorem Yi9 (hg:Zq4 ws){l:List Bool}(hl:l.length=ws.length):∀i,i<=ws.length - 1->∀w,tg (Zu6 ws l i) w=true↔tg l w=true/\∀n,ws.length - i<=n->n < ws.length->bef ws n=some w->tg (Zu6 ws l i) n=true
 | 0,_,w=>by
  exact⟨fun h=>⟨h,fun n h1 h2=>by omega⟩,fun h=>h.1⟩
 |i+1,hi,w=>by
  have ih:=Yi9 hg hl i (by omega);have len:=Zs1 ws l i;generalize hL:Zu6 ws l i=L at ih len
  have eL:Zu6 ws l (i+1)=Yf1 ws L (ws.length - 1 - i):=by show Yf1 ws _ _=_;rw[hL]
  have hm:ws.length - (i+1)=ws.length - 1 - i:=by omega
  rw[eL,hm]
  have hm0:0 < ws.length - 1 - i:=by omega
  have hm1:ws.length - 1 - i < ws.length:=by omega
  have hmi:ws.length - i=ws.length - 1 - i+1:=by omega
  rw[hmi] at ih;generalize ws.length - 1 - i=m at ih hm0 hm1;obtain⟨j,ej',lj⟩:=(hg m ws[m] (za hm1)).2 hm0
  have ej:bef ws m=some j:=by unfold bef;rw[za hm1];exact ej'
  unfold Yf1
  by_cases ht:tg L m=true
  ·rw[if_pos ht,ih w]
   constructor
   ·rintro⟨h1,h2⟩
    refine⟨h1,fun n n1 n2 eb=>?_⟩
    by_cases e:n=m
    ·subst e;exact ht
    ·exact h2 n (by omega) n2 eb
   ·rintro⟨h1,h2⟩
    exact⟨h1,fun n n1 n2 eb=>h2 n (by omega) n2 eb⟩
  ·rw[if_neg ht,ej]
   have gs:∀n,tg _ n=if n=j then false else tg L n:=fun n=>We7 (by omega)
   by_cases hw:w=j
   ·subst hw
    rw[gs,if_pos rfl];constructor
    ·intro z;cases z
    ·rintro⟨h1,h2⟩
     have:=h2 m (by simp) hm1 ej;rw[gs,if_neg (by omega)] at this;exact absurd this ht
   ·rw[gs,if_neg hw,ih w]
    constructor
    ·rintro⟨h1,h2⟩
     refine⟨h1,fun n n1 n2 eb=>?_⟩
     by_cases e:n=m
     ·subst e;rw[ej] at eb;cases eb;exact absurd rfl hw
     ·rw[gs,if_neg (by omega)];exact h2 n (by omega) n2 eb
    ·rintro⟨h1,h2⟩
     refine⟨h1,fun n n1 n2 eb=>?_⟩;have:=h2 n (by omega) n2 eb;rw[gs,if_neg (by omega)] at this;exact this
theorem Zs0 (hg:Zq4 ws){l:List Bool}(hl:l.length=ws.length)(w:Nat):tg (Xb9 ws l) w=true↔tg l w=true/\∀n,n < ws.length->bef ws n=some w->tg (Xb9 ws l) n=true:=by
 have:=Yi9 hg hl _ (yo _) w;show tg (Zu6 ws l _) w=true↔_;rw[this];refine and_congr Iff.rfl ⟨fun h n b a=>?_,fun h n _ b a=>h n b a⟩
 by_cases h0:n=0
 ·subst h0
  have z:=(hg 0 ws[0] (by simp)).1 rfl;unfold bef at a
  simp_all
 ·exact h n (by omega) b a
end Ken
namespace L2
open PySem PySem.Spec PyProof.Rows
theorem Xy5 {tb:TS} (h:wi σ H fun J H1=>∃W:Nat->Nat->St->Hp->Prop,(∃m,W 0 m σ H1)/\∀i m σ H,W i m σ H ->
 (J.stop i H/\D.nx σ H)∨(J.go i H/\∃N:St->Hp->Prop,(∀σ' H',N σ' H'->∃m',m' < m/\W (i+1) m' σ' H')/\∀x H',J.yld i H x H'->g x σ H' fun σ2 H2=>tb { D with nx:=N,ct:=N,bk:=D.nx } σ2 H2)):tFor wi g tb D σ H:=h
theorem Yc0 {K:W.Frag}{a:Addr}{xs:List V}{tb:TS}(ht:∀Q:VK,Q (.ref a) H->tl σ H Q)(Pv:Nat->St->Hp->Prop)(h0:Pv 0 σ H)(hl:∀i σ H,i<=xs.length->Pv i σ H->SqL K H a xs)(hs:∀i x σ H,xs[i]?=some x->Pv i σ H->g x σ H fun σ2 H2=>tb { D with nx:=Pv (i+1),ct:=Pv (i+1),bk:=D.nx } σ2 H2)(hd:∀σ H,Pv xs.length σ H->D.nx σ H):tFor (Ym0 K tl) g tb D σ H :=
 ht _ ⟨a,rfl,⟨xs,hl 0 σ H (by simp) h0⟩,Zy7 Pv h0 hl hs hd⟩
theorem Xa5 {n:Nat}{ta:TA}{tb:TS}(ht:∀Q:List V->Hp->Prop,Q [.int (n:Nat)] H->ta σ H Q)(hn:n<=1000000)(Pv:Nat->St->Hp->Prop)(h0:Pv 0 σ H)(hs:∀i σ H,i < n->Pv i σ H->g (.int (i:Nat)) σ H fun σ2 H2=>tb { D with nx:=Pv (i+1),ct:=Pv (i+1),bk:=D.nx } σ2 H2)(hd:∀σ H,Pv n σ H->D.nx σ H):tFor (Yl9 ta) g tb D σ H :=
 ht _ ⟨_,rfl,by omega,by omega,Zm1 Pv h0 (fun i σ H b a=>by simp_all) hd⟩
theorem Xj7 {xs ys:List V}(Pv:Nat->List V->Hp->Prop)(hxy:xs.length=ys.length)(h0:Pv 0 [] (upd H acc (.lst [])))(hl:∀i zs H2,i<=xs.length->Pv i zs H2->H2 acc=some (.lst zs)/\zs.length < zp/\SqL K H2 a xs/\SqL K H2 b ys)(hs:∀i x y zs H2 T,xs[i]?=some x->ys[i]?=some y->H2 T=none->Pv i zs H2->∀C:VK,(∀z H5,H5 acc=some (.lst zs)->Pv (i+1) (zs++[z]) (upd H5 acc (.lst (zs++[z])))->C z H5)->g (.ref T) σ0 (upd H2 T (.tup [x,y])) fun σ4 H4=>Wk σ0 σ4/\te σ4 H4 C)(hd:∀zs H2,Pv xs.length zs H2->Q (.ref acc) H2):
  ∃W:Nat->Nat->List V->Hp->Prop,(∃m,W 0 m [] (upd H acc (.lst [])))/\lcW K σ0 (Itz K a b) acc g te Q W:=by
 refine⟨fun i m zs H2=>m=xs.length - i/\i<=xs.length/\Pv i zs H2,⟨xs.length,by simp,yz _,h0⟩,?_⟩;rintro i m zs H2 ⟨rfl,j,p⟩;obtain⟨n,l,h,f⟩:=hl i zs H2 j p;refine⟨n,l,?_⟩
 by_cases hlt:i < xs.length
 ·refine .inr ⟨⟨xs,ys,xs[i],ys[i],h,f,by simp,by simp⟩,fun v o z=>?_⟩
  obtain⟨T,x,y,rfl,k,rfl,d,c⟩:=z;exact hs i x y zs H2 T (d xs h) (c ys f) k p _ fun v H5 d c=>⟨d,xs.length - _,by omega,rfl,hlt,c⟩
 ·have e:i=xs.length:=by omega
  subst e;exact .inl ⟨⟨xs,ys,h,f,.inl (by simp)⟩,hd zs H2 p⟩
end L2
namespace Ken
open PySem L2
theorem Xk4 (h:j < n):ixN n (j:Int)=some j:=by
 unfold ixN
 simp_all
noncomputable abbrev bls (l:List Bool):List V:=l.map V.bl
theorem Zf6 {α:Type}{l:List α}{x:α}(h:l[i]?=some x):l.take (i+1)=l.take i++[x]:=by
 rw[List.take_add_one,h];rfl
theorem Yh4 (f:Bool->Bool->Bool)(hab:as.length=bs.length)(hn:as.length<=3000)(ha:SqL K H a (bls as))(hb:SqL K H b (bls bs))(hacc:H acc=none)(hs:∀x y T H2 (C:VK),SqT K H2 T [.bl x,.bl y]->C (.bl (f x y)) H2->g (.ref T) σ0 H2 fun σ4 H4=>Wk σ0 σ4/\te σ4 H4 C)(hd:∀H2,Same H H2->H2 acc=some (.lst (bls (zu f as bs)))->Q (.ref acc) H2):
  ∃W:Nat->Nat->List V->Hp->Prop,(∃m,W 0 m [] (upd H acc (.lst [])))/\lcW K σ0 (Itz K a b) acc g te Q W:=by
 have k:(bls as).length=as.length:=yh _
 have j:(zu f as bs).length=as.length:=by simp_all
 refine Xj7 (fun i c H2=>Same H H2/\H2 acc=some (.lst c)/\c=bls ((zu f as bs).take i)) (by grind) ⟨Za2 hacc _,Za1,rfl⟩ (fun i c H2 hi ⟨e,h,z⟩=>⟨h,?_,e.seq ha,e.seq hb⟩) (fun i x y c H2 T hx hy hT ⟨e,h,z⟩ C hC=>?_) fun c H2 ⟨e,h,z⟩=>hd H2 e ?_
 ·rw[z,yh,zq]
  exact small1M (by omega)
 ·rw[zy] at hx hy
  cases ea:as[i]? with
  |none=>simp_all
  |some u =>
   cases eb:bs[i]? with
   |none=>simp_all
   |some v =>
    rw[ea] at hx;rw[eb] at hy;cases hx;cases hy;have d:=Za2 hT (HO.tup [.bl u,.bl v]);refine hs u v T _ C (.inl (.inl Za1)) (hC _ _ (d _ _ h) ⟨((e.trans d).write hacc),Za1,?_⟩)
    ·rw[z,Zf6 (by rw[zbc,ea,eb])]
     simp
 ·rw[h,z,k,<- j,zaa]
noncomputable def wd2 (ws:List Wd)(m:Nat):List Str:=(ws[m]?.map (·.2)).getD []
noncomputable def wl (n:Nat)(ws:List Wd)(i:Nat)(hs:List Str)(x:Str):List Bool:=(yac n).map fun m=>if m < i then decide (x∈wd2 ws m) else if m=i then decide (x∈hs) else false
theorem Ys5 (m:Nat):(wl n ws i hs x)[m]?=if m < n then some (if m < i then decide (x∈wd2 ws m) else if m=i then decide (x∈hs) else false) else none:=by
 unfold wl;rw[zy]
 by_cases h:m < n
 ·rw[if_pos h,List.getElem?_range h];rfl
 simp[*]
theorem Xu8 :(wl n ws i hs x).length=n:=by unfold wl;rw[yh,List.length_range]
theorem Xx8 :wl n ws 0 [] x=yy n false:=by
 refine ybt fun m=>?_;rw[Ys5,ybx];simp
theorem We1 (hi:i < n):(wl n ws i hs x).set i true=wl n ws i (hs++[x]) x:=by
 refine ybt fun m=>?_;rw[List.getElem?_set,Ys5,Ys5,Xu8]
 by_cases e:i=m
 ·simp_all
 ·rw[if_neg e,if_neg (show ¬m=i from fun z=>e z.symm),if_neg (show ¬m=i from fun z=>e z.symm)]
theorem Ys4 (h:x≠y):wl n ws i (hs++[y]) x=wl n ws i hs x:=by
 unfold wl
 simp_all
theorem Xx9 :wl n ws (i+1) [] x=wl n ws i (wd2 ws i) x:=by
 unfold wl
 grind
theorem We2:wl ws.length ws ws.length [] x=tr ws (.ltr x):=by
 refine ybt fun m=>?_;show _=(ws.map fun w=>decide _)[m]?;rw[Ys5,zy]
 by_cases h:m < ws.length
 ·unfold wd2
  simp_all
 simp_all
inductive sp_whereL (K:W.Frag):Sp
 |mk {vs H Q E:_} (wa la:Addr) (xs:List V) (ws:List Wd) (ls:List Str):vs=[.ref wa,.ref la]->H wa=some (.lst xs)->AtWs K H xs ws->ws.length<=2000->SqL K H la (ls.map V.str)->ls.Nodup->ls.length<=1000->(∀(d:Addr) (H':Hp) (kvs:List (Key×V)) (ad:Str->Addr),Same H H'->H d=none->H' d=some (.dK kvs)->(∀x∈ls,valV kvs (zay x)=some (.ref (ad x))/\H (ad x)=none/\H' (ad x)=some (.lst (bls (tr ws (.ltr x)))))->Q (.ref d) H')->sp_whereL K vs H Q E
inductive sp_whereT (K:W.Frag):Sp
 |mk {vs H Q E:_} (wa x y:Addr) (xs:List V) (ws:List Wd) (as bs:List Bool):vs=[.ref wa,.ref x,.ref y]->H wa=some (.lst xs)->AtWs K H xs ws->Zq4 ws->ws.length<=2000->H x=some (.lst (bls as))->H y=some (.lst (bls bs))->as.length=ws.length->bs.length=ws.length->(∀(r:Addr) (H':Hp),Same H H'->H r=none->H' r=some (.lst (bls (Xb9 ws (ifs as bs))))->Q (.ref r) H')->sp_whereT K vs H Q E
inductive sp_of1L (K:W.Frag)(H0:Hp)(A:Addr->Prop)(G:Tm->Prop)(tv:Tm->List Bool):Sp
 |mk {vs H Q E:_} (v:V) (t:Tm):vs=[v]->Same H0 H->IsT K H v t->t.kids=[]->G t->(∀(a:Addr) (H':Hp),Same H H'->H' a=some (.lst (bls (tv t)))->(A a∨H a=none)->Q (.ref a) H')->sp_of1L K H0 A G tv vs H Q E
inductive sp_of2L (H0:Hp)(tv:Tm->List Bool):Sp
 |mk {vs H Q E:_} (k:Kd) (a b:Tm) (x y:Addr):vs=[.str k.str,.ref x,.ref y]->Same H0 H->H x=some (.lst (bls (tv a)))->H y=some (.lst (bls (tv b)))->(∀(r:Addr) (H':Hp),Same H H'->H r=none->H' r=some (.lst (bls (tv (.nd k a b))))->Q (.ref r) H')->sp_of2L H0 tv vs H Q E
inductive sp_foldedL (K:W.Frag)(H0:Hp)(A:Addr->Prop)(G:Tm->Prop)(tv:Tm->List Bool)(fs fp:Addr):Sp
 |mk {vs H Q E:_} (v:V) (t:Tm):vs=[v,.ref fs,.ref fp]->H=H0->IsT K H v t->(∀s∈t.pre,s.kids=[]->G s)->t.parts<=400->(∀(a:Addr) (H':Hp),Same H H'->H' a=some (.lst (bls (tv t)))->(A a∨H a=none)->Q (.ref a) H')->sp_foldedL K H0 A G tv fs fp vs H Q E
inductive sp_known (K:W.Frag)(T:Addr)(ds:List (Pos×Str)):Sp
 |mk {vs H Q E:_} (wa:Addr) (v:V) (t:Tm) (xs:List V) (ws:List Wd) (us:List Str):vs=[.ref wa,v]->H wa=some (.lst xs)->AtWs K H xs ws->Zq4 ws->ws.length<=2000->IsT K H v t->t.ok->t.parts<=300->t.inW us->us.length<=60->TabOk H T ds->(∀(r:Addr) (H':Hp),SameU T H H'->TabOk H' T ds->H r=none->H' r=some (.lst (bls (tr ws t)))->Q (.ref r) H')->sp_known K T ds vs H Q E
theorem Wr1 {l:List Bool}(h:n < l.length):atI (bls l) (n:Int)=some (.bl (tg l n)):=Zd3 (by
 unfold tg
 simp_all)
theorem Yd3 {f:Bool->Bool->Bool}(h1:n < as.length)(h2:n < bs.length):tg (zu f as bs) n=f (tg as n) (tg bs n):=by
 unfold tg;rw[zbc,za h1,za h2];rfl
theorem Ys9 {f:Wd->Bool}{x:Wd}(h:ws[n]?=some x):tg (ws.map f) n=f x:=by
 unfold tg
 simp_all
theorem AtWs.keepU {T:Addr}(e:SameU T H H')(h:AtWs K H vs ws):AtWs K H' vs ws:=Paired.mapP h fun _ _ zZ=>(by obtain⟨p,q,e1,h1,h2⟩:=zZ;exact ⟨p,q,e1,SameT.keepT e.toT _ _ h1,e.toT _ _ (by simp) h2⟩)
def Yk4 (ws:List Wd):Prop:=∀(n:Nat) (x:Wd),ws[n]?=some x->∀j:Nat,x.1=some j->∀y:Wd,ws[j]?=some y->∀z∈y.2,z∈x.2
theorem Zx1 (hg:Zq4 ws)(h:bef ws n=some j):n < ws.length/\j < n:=by
 unfold bef at h
 cases e:ws[n]? with
 |none=>simp_all
 |some x =>
  rw[e] at h;have a:x.1=some j:=h;have c:=(ze.mp e).1;rcases Nat.eq_zero_or_pos n with z | z
  ·subst z
   rw[(hg 0 x e).1 rfl] at a;grind
  ·obtain⟨k,d,b⟩:=(hg n x e).2 z
   simp_all
theorem Xe0 (hg:Zq4 ws)(hp:Yk4 ws):∀(t:Tm) {n j:Nat},bef ws n=some j->tg (tr ws t) j=true->tg (tr ws t) n=true
 | .low,n,j,hb,h=>by
  obtain⟨h1,h2⟩:=Zx1 hg hb;rw[show tr ws .low=ws.map fun _=>false from rfl,Ys9 (za (by omega))] at h;cases h
 | .ltr x,n,j,hb,h=>by
  obtain⟨h1,h2⟩:=Zx1 hg hb
  have hj:j < ws.length:=by omega
  rw[show tr ws _=ws.map fun w=>decide _ from rfl,Ys9 (za hj)] at h;rw[show tr ws _=ws.map fun w=>decide _ from rfl,Ys9 (za h1)];unfold bef at hb;rw[za h1] at hb;exact decide_eq_true (hp n _ (by simp) j hb _ (za hj) x (by simp_all))
 | .nd .both a b,n,j,hb,h=>by
  obtain⟨h1,h2⟩:=Zx1 hg hb;have la:=Zf5 ws a;have lb:=Zf5 ws b;rw[show tr ws _=zu and _ _ from rfl,Yd3 (by omega) (by omega),zo] at h ⊢;exact⟨Xe0 hg hp a hb h.1,Xe0 hg hp b hb h.2⟩
 | .nd .one a b,n,j,hb,h=>by
  obtain⟨h1,h2⟩:=Zx1 hg hb;have la:=Zf5 ws a;have lb:=Zf5 ws b;rw[show tr ws _=zu or _ _ from rfl,Yd3 (by omega) (by omega),ydg] at h ⊢;exact h.imp (Xe0 hg hp a hb) (Xe0 hg hp b hb)
 | .nd .thn a b,n,j,hb,h=>by
  exact ((Zs0 hg (by unfold ifs;rw[zag,Zf5,Zf5,zcd]) j).mp h).2 n (Zx1 hg hb).1 hb
end Ken
namespace L2
open PySem PySem.Spec PyProof.Rows
noncomputable def ExcO (e:Addr)(C:Value)(dd T:Option Addr):HO:=.ext fun h=>∃vs sl,h.get? e=some ⟨C,dd,.fields vs,sl⟩/\vs.size=6/\vs[1]?=some (T.elim yak yay)
noncomputable def TbO (t:Addr)(fl:Value):HO:=.ext fun h=>∃c d ts sl,h.get? t=some ⟨c,d,.fields ts,sl⟩/\ts[3]?=some fl
section
variable {P:zm}{w:World}{e t:Addr}{C fl:Value}
theorem Zm9 (hok:HOk P w H h)(q:H e=some (ExcO e C dd T)):∃vs sl,h.get? e=some ⟨C,dd,.fields vs,sl⟩/\vs.size=6/\vs[1]?=some (T.elim yak yay):=(hok e _ q).1
theorem Ym5 (z:∃vs sl,h.get? e=some ⟨C,dd,.fields vs,sl⟩/\vs.size=6/\vs[1]?=some (T.elim yak yay)):ObjOk P w H h e (ExcO e C dd T) :=
 ⟨z,let ⟨_,_,q,_⟩:=z;⟨_,q⟩,fun _ _ ⟨vs,sl,a,b⟩ k=>⟨vs,sl,k _ a,b⟩⟩
theorem Xd0 (hok:HOk P w H h)(q:H t=some (TbO t fl)):∃c d ts sl,h.get? t=some ⟨c,d,.fields ts,sl⟩/\ts[3]?=some fl:=(hok t _ q).1
theorem Xp7 (z:∃c d ts sl,h.get? t=some ⟨c,d,.fields ts,sl⟩/\ts[3]?=some fl):ObjOk P w H h t (TbO t fl) :=
 ⟨z,let ⟨_,_,_,_,q,_⟩:=z;⟨_,q⟩,fun _ _ ⟨c,d,ts,sl,a,b⟩ k=>⟨c,d,ts,sl,k _ a,b⟩⟩
end
def Wd8 (fl:Value)(H:Hp)(e:Addr)(C:Value)(dd T:Option Addr):Prop:=H e=some (ExcO e C dd T)/\∀t,T=some t->t≠e/\H t=some (TbO t fl)
noncomputable abbrev FlyT:=Wd8 .none
def XStep (e:Addr)(T:Option Addr)(H:Hp)(T':Option Addr)(H':Hp):Prop :=
 (∀b o,H b=some o->b≠e->T≠some b->H' b=some o)/\∀t,T'=some t->t≠e/\(T=some t∨H t=none)
theorem XStep.refl (h:∀t,T=some t->t≠e):XStep e T H T H:=⟨fun _ _ q _ _=>q,fun t q=>⟨h t q,.inl q⟩⟩
theorem XStep.trans (a:XStep e T H T' H')(b:XStep e T' H' T'' H''):XStep e T H T'' H'':=by
 refine⟨fun c o q f d=>b.1 c o (a.1 c o q f d) f fun z=>?_,fun t q=>⟨(b.2 t q).1,?_⟩⟩
 ·rcases (a.2 c z).2 with y | y
  ·exact d y
  grind
 ·rcases (b.2 t q).2 with z | z
  ·exact (a.2 t z).2
  ·by_cases hT:T=some t
   ·exact .inl hT
   ·cases e1:H t with
    |none=>simp
    |some o=>rw[a.1 t o e1 (b.2 t q).1 hT] at z;cases z
section
variable {E:Value->Shared->Prop}{e L:Addr}{C:Value}
theorem Inv.noted {t:Addr}(I:Inv X pins σ H s)(F:FlyT H e C dd T)(hos:s'.os=s.os)(hg:s'.gens=s.gens)(hn:s.heap.objs.size<=t)(keep:∀b o,s.heap.get? b=some o->b ∉ frs X.stack->b≠e->T≠some b->s'.heap.get? b=some o)(slot:∀b o,s.heap.get? b=some o->b∈frs X.stack->∃sl,s'.heap.get? b=some { o with slots:=sl })(old:∀b,T=some b->∃c d ts sl,s'.heap.get? b=some ⟨c,d,.fields ts,sl⟩/\ts[3]?=some yak)(exc:∃vs sl,s'.heap.get? e=some ⟨C,dd,.fields vs,sl⟩/\vs.size=6/\vs[1]?=some (yay t))(tb:∃c d ts sl,s'.heap.get? t=some ⟨c,d,.fields ts,sl⟩/\ts[3]?=some fl):
  Inv X pins σ (upd (upd H t (TbO t fl)) e (ExcO e C dd (some t))) s':=by
 have i  := I.hok.fresh hn
 have f:∀b o,H b=some o->(∀φ,o≠.ext φ)->b≠e/\b≠t/\T≠some b:=fun b o q n=>by
  refine⟨fun z=>?_,Za9 q i,fun z=>?_⟩
  ·subst z;rw[F.1] at q;cases q;exact n _ rfl
  ·have:=(F.2 b z).2;rw[q] at this;cases this;exact n _ rfl
 have h:∀b o,H b=some o->b≠e->upd (upd H t (TbO t fl)) e (ExcO e C dd (some t)) b=some o:=fun b o q n=>by
  rw[Zb3 n,Zb3 (Za9 q i)];exact q
 have j:∀b,H b=none->b≠t->upd (upd H t (TbO t fl)) e (ExcO e C dd (some t)) b=none:=fun b q n=>by
  rw[Zb3 (Za9 F.1 q).symm,Zb3 n];exact q
 refine I.call' (ch:=[]) hos ⟨fun b o q n g _=>?_,fun b o q n g _=>slot b o q g,fun b o q n _=>j b n (zv (zt (zj q) hn)),fun b o q _=>?_,fun b l q=>h b _ q (f b _ q fun φ z=>nomatch z).1,fun b o u q=>h b _ q (f b _ q fun φ z=>nomatch z).1,
  fun b p q=>⟨#[],by rw[h b _ q (f b _ q fun φ z=>nomatch z).1];simp⟩⟩ (fun b o q=>?_) (by rw[hg];exact I.bare) fun b z=>nomatch z
 ·exact keep b o q g (Za9 F.1 n).symm fun z=>by have:=(F.2 b z).2;rw[n] at this;cases this
 ·by_cases g:b∈frs X.stack
  ·obtain⟨sl,z⟩:=slot b o q g;exact⟨_,z⟩
  ·by_cases he:b=e
   ·subst he;obtain⟨_,_,z,_⟩:=exc;exact⟨_,z⟩
   ·by_cases hT:T=some b
    ·obtain⟨_,_,_,_,z,_⟩:=old b hT;exact⟨_,z⟩
    ·exact⟨o,keep b o q g he hT⟩
 ·by_cases he:b=e
  ·subst he;rw[Za1] at q;cases q;exact Ym5 exc
  ·rw[Zb3 he] at q
   by_cases ht:b=t
   ·subst ht;rw[Za1] at q;cases q;exact Xp7 tb
   ·rw[Zb3 ht] at q
    by_cases hT:T=some b
    ·have k:=(F.2 b hT).2
     rw[q] at k;cases k;exact Xp7 (old b hT)
    ·refine (I.hok b o q).stay (fun c u a z=>keep c u z ?_ ?_ ?_) (fun c z=>h c _ z (f c _ z fun φ y=>nomatch y).1) fun c l z=>h c _ z (f c _ z fun φ y=>nomatch y).1
     ·intro y
      have m:=I.stkFree c y
      grind
     ·rcases a with a | a
      ·rw[a];exact he
      ·exact (f c _ a fun φ y=>nomatch y).1
     ·rcases a with a | a
      ·rw[a];exact hT
      ·exact (f c _ a fun φ y=>nomatch y).2.2
theorem Yw3 (I:Inv X pins σ H s)(F:FlyT H e C dd T)(hA:A.frames=some X.stack)(hst:X.stack=X.env::X.outer)(hf:X.env.frame=some L)
  (h:∀s' t,H t=none->Inv X pins σ (upd (upd H t (TbO t (rawInt L))) e (ExcO e C dd (some t))) s'->Q () s') :
  wpAny M A (do let a <- frameOf X.env;let pl <- entryPlaceOf L hadNext;let b <- EntryCells.newEntry head a .none (rawInt L) .none pl;zdd (.ref e) 1 b) Q E s:=by
 obtain⟨v,x,B,D,G⟩:=Zm9 I.hok F.1
 have l:e ∉ frs _:=fun z=>by have:=I.stkFree e z;rw[F.1] at this;simp_all
 have r:=I.stack;rw[hst] at r hA;refine ya (wpAny_frameOf_fun hA r hf fun h₁ hs₁=>ya (wpAny_entryPlaceOf fun pl m=>?_));refine ya (yal ?_ (m.sizeOk5 _ _ _ _ _));have i:∀b,b ∉ frs X.stack->h₁.get? b=s.heap.get? b:=fun b f=>hs₁.2.1 b (by rw[hst] at f;exact f);have he₁  := (i e l).trans B;have he₂:=yb { cls:=.type "traceback",dict:=none,data:=.fields ([head,.ref L,.none,rawInt L,.none]++if pl.isEmpty then yy 6 yak else pl).toArray } he₁;refine wpAny_setField he₂ rfl (by simp_all) ?_;have p  := Nat.ne_of_gt (zj he₁);have k  := Nat.le_of_eq hs₁.1.symm;refine h _ _ (I.hok.fresh k) (Inv.noted I F rfl rfl k (fun b o q f n j=>?_) (fun b o q f=>?_) (fun b j=>?_) ?_ ?_)
 ·rw[zab _ _ (zar n)]
  exact yb _ ((i b f).trans q)
 ·obtain⟨g,z⟩:=hs₁.2.2 b o q
  refine⟨g,?_⟩;rw[zab _ _ (fun y=>l (by rw[y];omega))];exact yb _ z
 ·obtain⟨c,d,w,g,z,u⟩:=Xd0 I.hok (F.2 b j).2
  have f:b ∉ frs _:=fun y=>by have:=I.stkFree b y;rw[(F.2 b j).2] at this;grind
  refine⟨c,d,w,g,?_,u⟩;rw[zab _ _ (zar (F.2 b j).1)];exact yb _ ((i b f).trans z)
 ·refine⟨v.setIfInBounds 1 (.ref h₁.objs.size),x,?_,by simp[*],by simp[*]⟩
  rw[zaf _ he₂ rfl];rfl
 ·exact⟨_,_,_,_,(zab _ _ (zar p)).trans (yt _ rfl),by simp⟩
theorem Xi1 (I:Inv X pins σ H s)(F:FlyT H e C dd T)(hA:A.frames=some X.stack)(hst:X.stack=X.env::X.outer)(hf:X.env.frame=some L)
  (h:∀s' H' t,Inv X pins σ H' s'->Wd8 (rawInt L) H' e C dd (some t)->XStep e T H (some t) H'->Q () s'):wpAny M A (noteFrame (.ref e) X.env) Q E s:=by
 obtain⟨w,x,p,B,r⟩:=Zm9 I.hok F.1
 have f:∀s' t,H t=none->Inv X _ σ (upd (upd H t _) e _) s'->Q () s':=fun s' t j J=>by
  have a  := Za9 F.1 j;refine h s' _ t J ⟨Za1,fun u q=>?_⟩ ⟨fun b o q m y=>?_,fun u q=>?_⟩
  ·cases q;exact⟨a.symm,by rw[Zb3 a.symm,Za1]⟩
  ·rw[Zb3 m,Zb3 (Za9 q j)];exact q
  ·cases q;exact⟨a.symm,.inr j⟩
 unfold noteFrame;simp only[hf];refine ya (yco p rfl r ?_)
 cases hT:T with
 |none =>
  exact Yw3 I F hA hst hf f
 |some t =>
  subst hT;obtain⟨v,i⟩:=F.2 t rfl;obtain⟨c,d,l,k,z,g⟩:=Xd0 I.hok i;refine ya (yco z rfl g ?_);refine ya (wpAny_setField z rfl (ybk.mp g).1 ?_);refine Yw3 ?_ F hA hst hf f
  have D:=I.write (o:=TbO t .none) (h':=s.heap.update t (Obj.mapFields _)) (t':=s.toks) (by rw[i];trivial) (.inl rfl) fun b u n q=>by rw[zab _ _ (zar n)];exact q
   ⟨_,zaf _ z rfl⟩ (Xp7 ⟨c,d,l.setIfInBounds 3 .none,k,by rw[zaf _ z rfl];rfl,by simp[(ybk.mp g).1]⟩)
  have:upd H t (TbO t .none)=H:=by
   funext b
   by_cases hb:b=t
   ·subst hb;rw[Za1,i]
   ·rw[Zb3 hb]
  simp_all
theorem Yq8 (I:Inv X pins σ H s)(F:Wd8 fl H e C dd T)
  (h:∀s' H',Inv X pins σ H' s'->FlyT H' e C dd T->XStep e T H T H'->Q () s'):wpAny M A (setFlight (.ref e) none) Q E s:=by
 obtain⟨r,v,l,x,m⟩:=Zm9 I.hok F.1;refine ya (yco l rfl m ?_)
 cases hT:T with
 |none =>
  subst hT;exact ye (h s H I ⟨F.1,fun t q=>nomatch q⟩ (XStep.refl fun t q=>nomatch q))
 |some t =>
  subst hT;obtain⟨a,i⟩:=F.2 t rfl;obtain⟨c,d,j,g,z,f⟩:=Xd0 I.hok i;refine wpAny_setField z rfl (ybk.mp f).1 ?_
  have p:=I.write (o:=TbO t .none) (h':=s.heap.update t (Obj.mapFields _)) (t':=s.toks) (by rw[i];trivial) (.inl rfl) fun b u n q=>by rw[zab _ _ (zar n)];exact q
   ⟨_,zaf _ z rfl⟩ (Xp7 ⟨c,d,j.setIfInBounds 3 .none,g,by rw[zaf _ z rfl];rfl,by simp[(ybk.mp f).1]⟩)
  refine h _ _ p ⟨by rw[Zb3 (zar a)];exact F.1,fun u q=>?_⟩ ⟨fun b o q w k=>?_,fun u q=>?_⟩
  ·cases q;exact⟨a,Za1⟩
  ·rw[Zb3 fun y=>k (by rw[y])];exact q
  simp_all
end
noncomputable def CXe (P:zm)(w:World):CXT:=fun outer H s E e s'=>∃ea C dd T H',e=.ref ea/\s'.os=s.os/\ydn s'.gens/\Un (frs outer) [] H H' s.heap s'.heap/\HOk P w H' s'.heap/\FlyT H' ea C dd T /\
 ∀T'' H'',XStep ea T H' T'' H''->FlyT H'' ea C dd T''->E (.ref ea) dd H''
def XOk (X:Cx)(E:XK):Prop:=∀(pins:List (Addr×Obj)) (σ:St) (H:Hp) (s:Shared) (ea:Addr) (C:Value) (dd T:Option Addr),Inv X pins σ H s->FlyT H ea C dd T ->
 (∀T'' H'',XStep ea T H T'' H''->FlyT H'' ea C dd T''->E (.ref ea) dd H'')->X.xe (.ref ea) s
theorem Xs4 {X:Cx}{C:Value}(I:Inv X pins σ H s)(F:FlyT H e C dd T)(hA:A.frames=some X.stack)(hst:X.stack=X.env::X.outer)(hf:X.env.frame=some L)(h:∀s' H' T',Inv X pins σ H' s'->FlyT H' e C dd T'->XStep e T H T' H'->Q () s'):wpAny M A (leaving X.env (.ref e)) Q E s:=by
 exact ya (Xi1 I F hA hst hf fun k l t f j c=>Yq8 f j fun a g d i b=>h a g _ d i (c.trans b))
theorem Zr9 :
  XOk (cxOf (CXe P w) P w K mg base N qual scope f cd A outer s H E) E:=by
 intro d m p o e C g T I F h;refine Xs4 (X:=cxOf _ P w K mg _ N _ _ f cd A _ s H E) I F I.ok.frames rfl rfl fun n k i a l j=>?_;exact⟨e,C,g,i,k,rfl,a.os,a.bare,a.base,a.hok,l,fun b c S F=>h b c (j.trans S) F⟩
noncomputable abbrev bmV:List Value:=[.type "ValueError",.type "Exception",.type "BaseException",.type "object"]
def IsXC (h:Heap)(C:Addr)(bm:List Value)(mN:Str->Option Value):Prop:=∃nm q N bs hdct sn sub ab col dd k0 k1 k2 k3 k5,h.get? C=some (excClassObj nm q C N bs bm hdct sn sub ab col dd k0 k1 k2 k3 k5 "ValueError.__new__")/\h.Ns N mN/\OwnTail h bmV bm
def XCls (K:W.Frag)(C:Addr):Prop:=∀h,K.In h->∃bm mN,IsXC h C bm mN/\mN "__init__"=none
theorem IsXC.keeps (x:IsXC h C bm mN)(k:∀b o,h.get? b=some o->h'.get? b=some o):IsXC h' C bm mN :=
 let ⟨nm,q,N,bs,hdct,sn,sub,ab,col,dd,k0,k1,k2,k3,k5,a,b,c⟩:=x
 ⟨nm,q,N,bs,hdct,sn,sub,ab,col,dd,k0,k1,k2,k3,k5,k _ _ a,b.keeps k,c.keeps k⟩
section
variable {P:zm}{w:World}{o:HO}
theorem ObjOk.obj (x:ObjOk P w H h a o):∃ob,h.get? a=some ob:=by
 cases o with
 |lst xs=>obtain⟨_,_,_,_,e⟩:=x;exact⟨_,e⟩
 |tup xs=>obtain⟨_,_,_,o,e,_⟩:=x;exact⟨_,e⟩
 |dK kvs=>obtain⟨_,_,_,_,o,_,_,e,_⟩:=x;exact⟨_,e⟩
 |dT kvs=>obtain⟨_,_,_,_,o,_,_,e,_⟩:=x;exact⟨_,e⟩
 |set S n=>obtain⟨o,_,_,_,e,_⟩:=x;exact⟨_,e⟩
 |ins C dx fs=>exact⟨_,x.2.2.2.1⟩
 |own y=>exact x
 |xd fs=>obtain⟨_,⟨_,_,_,e,_⟩,_⟩:=x;exact⟨_,e⟩
 |rng lo hi=>obtain⟨_,_,_,e⟩:=x;exact⟨_,e⟩
 |frz ob u=>exact⟨_,x.1⟩
 |tbl ps=>exact⟨_,x⟩
 |met f y=>exact⟨_,x⟩
 |ext φ=>exact x.2.1
theorem HOk.newAt (x:HOk P w H h)(n:h.get? a=none):H a=none:=by
 cases q:H a with
 |none=>rfl
 |some u =>
  obtain⟨b,z⟩:=(x a u q).obj
  grind
theorem Inv.laidN {t':Nat}(I:Inv X pins σ H s)(k:∀b u,s.heap.get? b=some u->h'.get? b=some u)(hn:s.heap.get? a=none)(new:ObjOk X.prog X.w (upd H a o) h' a o):
  Inv X pins σ (upd H a o) { s with heap:=h',toks:=t' }:=by
 have f:=I.hok.newAt hn
 have d:∀b u,H b=some u->upd H a o b=some u:=fun b u q=>by rw[Zb3 (Za9 q f)];exact q
 refine I.un ⟨fun b u q _ _ _=>k b u q,fun b u q _ _ _=>⟨u.slots,k b u q⟩,fun b u q n _=>?_,fun b u q _=>⟨u,k b u q⟩,fun b e q=>d _ _ q,fun b u e q=>d _ _ q,fun b g q=>⟨#[],by simp_all⟩⟩ fun b u q=>?_
 ·rw[Zb3 (fun z=>by grind)];exact n
 ·by_cases hb:b=a
  ·subst hb;rw[Za1] at q;simp_all
  ·rw[Zb3 hb] at q
   exact (I.hok b u q).stay (fun c v _ z=>k c v z) (fun c z=>d _ _ z) fun c e z=>d _ _ z
end
theorem IsXC.base (x:IsXC h C bm mN):bm.contains (.type "BaseException")=true:=by
 obtain⟨_,_,_,_,_,_,_,_,_,_,_,_,_,_,_,_,_,c⟩:=x;exact c.hasType rfl
theorem Xx7 {N:Addr}{k0 k1 k2 k3 k5:Option Value}(l:K.lookup C=some (excClassObj nm q C N bs bm hdct sn sub ab col dd k0 k1 k2 k3 k5 "ValueError.__new__"))(t:W.tailIn K bmV bm=true)(n:W.nsOkIn K N=true)(i:W.nsIn K N "__init__"=some none):XCls K C:=fun h X =>
 ⟨bm,h.nsMap N,⟨nm,q,N,bs,hdct,sn,sub,ab,col,dd,k0,k1,k2,k3,k5,X _ _ l,.of_isNs (W.isNs_of_in X n),W.tail_of_in X t⟩,W.nsMap_none_of_in X n i⟩
def Xtd (H:Hp)(e:Addr)(C:Value)(dd:Option Addr)(H':Hp):Prop:=H e=none/\Same H H'/\∃T,FlyT H' e C dd T
theorem Yk7 (s:Same G H)(x:H e=none):G e=none:=by
 cases q:G e with
 |none=>rfl
 |some o =>
  have:=s _ _ q
  grind
theorem Xtd.mono {C:Value}(s:Same G H)(x:Xtd H e C dd H'):Xtd G e C dd H':=⟨Yk7 s x.1,fun b o q=>x.2.1 b o (s b o q),x.2.2⟩
theorem Xtd.step {C:Value}{T:Option Addr}(n:G e=none)(nt:∀t,T=some t->G t=none)(s:Same G H)(S:XStep e T H T' H')(F:FlyT H' e C dd T'):Xtd G e C dd H' :=
 ⟨n,fun b o q=>S.1 b o (s b o q) (Za9 q n) (fun z=>by rw[nt b z] at q;cases q),T',F⟩
def Yj5 (E:XK)(C:Addr)(t:TA):TS:=fun _ σ H=>t σ H fun vs H1=>vs.length<=zp/\∀e H',Xtd H1 e (.ref C) none H'->E (.ref e) none H'
section
variable {E:XK}{np cpos:Pos}{e:Expr}{es:List Expr}{t:TA}
theorem Yg4 (hx:XOk X E)(hc:X.calm=true)(hg:Gl X x)(hm:X.mg x=some (.ref C))(hC:XCls X.K C)(ha:PA X (e::es) t)(hdb:(x == ("__debug__":Str))=false:=by decide)
  (hs:zx (e::es) X.env=(false,eval e X.env)::zx es X.env:=by rfl) (hpl:(backTo cpos (zx es X.env)).any (·.1)=false:=by rfl) :
  PS X (.Raise (some (.Call (.Name x np) (e::es) [] cpos)) none pos) (Yj5 E C t):=by with_unfolding_all
 intro c s f H D I h;obtain⟨bm,mN,j,g⟩:=hC X.base I.ok.mod.kin;obtain⟨nm,q,N,bs,hdct,sn,sub,ab,col,dd,k0,k1,k2,k3,k5,u,p,n⟩:=id j;refine wpAny_Raise_call_subT F.excBase_ValueError (C:=C) (nm:=nm) (q:=q) (N:=N) (bs:=bs) (bm:=bm) (hdct:=hdct) (sn:=sn) (sub:=sub) (ab:=ab) (col:=col) (dd:=dd) (k0:=k0) (k1:=k1) (k2:=k2) (k3:=k3) (k5:=k5) (mN:=mN)
  j.base (I.ok.hd hc) (by rw[hs];exact hpl) g (Zl3 I hg hm ⟨rfl,?_⟩ hdb)
 rw[hs];refine PySem.Calls.evalArgs_plain ?_;have a:=ha cpos c s f H _ I h;rw[hs] at a;refine thn a fun us s1 ⟨vs,H1,I1,r,hl,q1⟩=>⟨rfl,by rw[<- r.length];omega,I1.bk _ _ u,p.keeps I1.bk,n.keeps I1.bk,fun A d m=>?_⟩;obtain⟨w,l,_,y⟩:=m.there;have J:=I1.laidN (o:=ExcO d _ _ none) (t':=s1.toks) m.keeps m.new (Ym5 ⟨_,_,l,rfl,rfl⟩);have i:=I1.hok.newAt m.new;refine hx _ f _ _ d _ _ _ J ⟨Za1,fun t q=>nomatch q⟩ fun v k S F=>q1 d k ?_;exact Xtd.step (T:=none) i (fun t z=>nomatch z) (fun b o q=>by rw[Zb3 (Za9 q i)];exact q) S F
end
noncomputable abbrev Cx.hand (X:Cx)(ea:Addr):Cx:={ X with A:=X.A.mark (some (.ref ea)),calm:=false,xe:=fun _ _=>False }
section
variable {ea:Addr}
theorem Inv.hand (I:Inv X pins σ H s)(ea:Addr):Inv (X.hand ea) pins σ H s :=
 ⟨⟨I.ok.mod,I.ok.kind,I.ok.glob,I.ok.blt,I.ok.above,I.ok.inj,I.ok.has,I.ok.cab,(by simp),I.ok.frames,I.ok.stk,I.ok.exf,I.ok.bs,I.ok.bsz,I.ok.noex,I.ok.exfs,I.ok.funs,I.ok.frf⟩,I.os,I.bare,I.base,I.loc,I.cell,I.free,I.freeC,I.pin,I.hok,I.len⟩
theorem Inv.unhand (hd:X.calm=true->X.A.handled=none)(I:Inv (X.hand ea) pins σ H s):Inv X pins σ H s :=
 ⟨⟨I.ok.mod,I.ok.kind,I.ok.glob,I.ok.blt,I.ok.above,I.ok.inj,I.ok.has,I.ok.cab,hd,I.ok.frames,I.ok.stk,I.ok.exf,I.ok.bs,I.ok.bsz,I.ok.noex,I.ok.exfs,I.ok.funs,I.ok.frf⟩,I.os,I.bare,I.base,I.loc,I.cell,I.free,I.freeC,I.pin,I.hok,I.len⟩
end
def Fell (X:Cx)(pins:List (Addr×Obj))(σ:St)(E:XK)(x:Value)(s':Shared):Prop:=∃ea C dd T H',x=.ref ea/\Inv X pins σ H' s'/\FlyT H' ea C dd T/\∀T'' H'',XStep ea T H' T'' H''->FlyT H'' ea C dd T''->E (.ref ea) dd H''
def PX (X:Cx)(e:Expr)(t:XK->TE):Prop:=∀(pins:List (Addr×Obj)) (s:Shared) (σ:St) (H:Hp) (Q:VK) (E:XK),Inv X pins σ H s->t E σ H Q->wpAny (model X.prog X.w) X.A (eval e X.env) (EP X pins σ Q) (Fell X pins σ E) s
section
variable {k:Nat}{fd:yq}{dvs:List V}{ds:List Value}{p:Pos}{e:Expr}{es:List Expr}{t:TA}
theorem Xf6 (F:FnOk X.prog X.w X.K X.mg X.base (CXe X.prog X.w) k f fd ps sp)(hr:Room k X.A)(hg:Gl X x)(hm:X.mg x=some (.ref f))(hk:ybd X.K (.ref f)=true)(hb:Binds X.K fd ps ds)(hd:Vals dvs ds)
  (ha:PA X.nox (e::es) t) (hdb:(x == ("__debug__":Str))=false:=by decide) (he:zx (e::es) X.env=(false,eval e X.env)::zx es X.env:=by rfl) (hpl:(backTo pos (zx es X.env)).any (·.1)=false:=by rfl) :
  PX X (.Call (.Name x p) (e::es) [] pos) (fun E=>Ya4 sp dvs E t):=by with_unfolding_all
 intro c s i H Q E I h;refine zbn (Zl3 I hg hm ?_ hdb);refine W.callWith_K (h₀:=X.base) I.ok.mod.kin hk (yat (ha pos c s i H _ (I.wish _) h) (fun us s1 ⟨vs,H1,I1',r,q⟩=>⟨I1'.unwish.kIn,?_⟩) fun _ _ z=>zbl z) he hpl;have a:=I1'.unwish;have d  := r.append hd
 have m:(us++ds).length=ps.length:=by rw[<- d.length];exact F.len _ _ _ _ q
 refine wpAny_call (ycy (F.run X.A _ s1 H1 ⟨us,[]⟩ _ _ Q E hr a.env0 (hb s1 us a.kIn m) d q) fun r y g=>?_)
 cases r with
 |error e =>
  obtain⟨n,C,o,T,v,rfl,l,hg,j,hk,F,q⟩:=g;exact⟨n,C,o,T,v,rfl,a.call' l j hk hg (fun b z=>nomatch z),F,q⟩
 |ok fl =>
  cases fl with
  |ret u=>exact a.after g
  |next=>assumption
  |brk=>assumption
  |cont=>assumption
end
def Yf4 (C:Addr)(ts:TS)(D:Ends)(σ:St):XK:=fun e dd H'=>∃ea T,e=.ref ea/\FlyT H' ea (.ref C) dd T/\ts D σ H'
theorem Wc5 {C C':Value}(hok:HOk P w H h)(a:FlyT H e C dd T)(b:FlyT H e C' dd' T'):C=C':=by
 obtain⟨_,_,z,_⟩:=Zm9 hok a.1;obtain⟨_,_,y,_⟩:=Zm9 hok b.1
 simp_all
section
variable {ea L:Addr}{c n:Str}{cp hpos:Pos}{b₀:Stmt}{suite:List Stmt}{ts:TS}{x:Value}
theorem Yw7 (hc:X.calm=true)(hst:X.stack=X.env::X.outer)(hf:X.env.frame=some L)(hg:Gl X c)(hm:X.mg c=some (.ref C))(hC:IsXC X.base C bm mN)
  (hs:∀ea,PSs (X.hand ea) (b₀::suite) ts) (Fl:Fell X pins σ (Yf4 C ts D σ) x s) (hdb:(c == ("__debug__":Str))=false:=by decide) :
  wpAny (model X.prog X.w) X.A (noteFrame x X.env) (fun _ s₂=>wpAny (model X.prog X.w) X.A (setFlight x none) (fun _ s₃=>wpAny (model X.prog X.w) X.A (handleBy x X.env [.ExceptHandler (some (.Name c cp)) none (b₀::suite) hpos]) (SP X pins D) X.xe s₃) X.xe s₂) X.xe s:=by with_unfolding_all
 obtain⟨ea,C',dd,T,H',rfl,I,Fy,q⟩:=Fl;have i:=I.ok.hd;refine Xi1 I Fy I.ok.frames hst hf fun s1 H1 t1 Y F1 t=>Yq8 Y F1 fun M Z h k p=>?_;refine wpAny_handleBy_cons (codeAny_handlers_test (Zl3 (X:=X.hand ea) (h.hand ea) hg hm ?_ hdb)) (fun z=>nomatch z);obtain⟨o,U,l,F,n⟩:=q _ Z (t.trans p) k;cases l;obtain rfl:C'=yay C:=Wc5 h.hok k F;obtain⟨nm,qn,N,bs,R,sn,q0,ab,q2,q1,k0,k1,k2,k3,k5,S,c2,c3⟩:=(hC.keeps h.bk);obtain⟨vs,sl,O,_⟩:=Zm9 h.hok k.1;obtain⟨hh,g,d,tk,os⟩:=M;refine wpAny_excMatches_sub_self S O rfl hC.base (codeAny_handlers_suite ?_);refine Yq8 (h.hand ea) k fun G y W B V=>?_;obtain⟨o,U,l,F,n⟩:=q _ y ((t.trans p).trans V) B;cases l;refine yat (hs ea pins G _ y _ W n) (fun f s5 j=>?_) fun _ _ z=>zbl z
 cases f with
 |next=>obtain⟨e,m,J,a⟩:=j;exact⟨_,_,J.unhand i,a⟩
 |brk=>obtain⟨e,m,J,a⟩:=j;exact⟨_,_,J.unhand i,a⟩
 |cont=>obtain⟨e,m,J,a⟩:=j;exact⟨_,_,J.unhand i,a⟩
 |ret u=>obtain⟨v,e,m,J,r,a⟩:=j;exact⟨v,_,_,J.unhand i,r,a⟩
end
def Xd1 (te:XK->TE)(C:Addr)(ts:TS):TS:=fun D σ H=>te (Yf4 C ts D σ) σ H fun v H1=>D.nx σ H1
def Xd2 (te:XK->TE)(C:Addr)(ts:TS):TS:=fun D σ H=>te (Yf4 C ts D σ) σ H D.rt
def XC (K:W.Frag)(C:Addr):Prop:=∀h,K.In h->∃bm mN,IsXC h C bm mN
theorem XCls.xc (x:XCls K C):XC K C:=fun h X=>let ⟨bm,mN,a,_⟩:=x h X;⟨bm,mN,a⟩
section
variable {c n:Str}{cp hpos xp:Pos}{b₀:Stmt}{suite:List Stmt}{ts:TS}{e:Expr}{te:XK->TE}{L:Addr}
theorem Xz6 (hc:X.calm=true)(hst:X.stack=X.env::X.outer)(hf:X.env.frame=some X.env.locals)(hg:Gl X c)(hm:X.mg c=some (.ref C))(hC:XC X.K C)
  (he:PX X e te) (hs:∀ea,PSs (X.hand ea) (b₀::suite) ts) (hw:zde e none apos.line X.env=pure false:=by rfl) (hdb:(c == ("__debug__":Str))=false:=by decide) :
  PS X (.Try [.Expr e apos] [.ExceptHandler (some (.Name c cp)) none (b₀::suite) hpos] [] [] pos) (Xd1 te C ts):=by with_unfolding_all
 intro f s a H D I h;obtain⟨k,j,g⟩:=hC _ I.ok.mod.kin;exact wpAny_Try_except (zda (wpAny_Expr_any (yat (he _ s a H _ _ I h) (fun v d zZ=>by obtain⟨y,H1,I1,r1,q1⟩:=zZ;exact ycc (ycc ⟨_,H1,I1,q1⟩)) fun y d i=>Yw7 hc hst hf hg hm g hs i hdb) I.quiet hw))
theorem Xz7 (hc:X.calm=true)(hst:X.stack=X.env::X.outer)(hf:X.env.frame=some X.env.locals)(hg:Gl X c)(hm:X.mg c=some (.ref C))(hC:XC X.K C)
  (he:PX X e te) (hs:∀ea,PSs (X.hand ea) (b₀::suite) ts) (hdb:(c == ("__debug__":Str))=false:=by decide) :
  PS X (.Try [.Return (some e) apos] [.ExceptHandler (some (.Name c cp)) none (b₀::suite) hpos] [] [] pos) (Xd2 te C ts):=by with_unfolding_all
 intro f s a H D I h;obtain⟨k,j,g⟩:=hC _ I.ok.mod.kin;exact wpAny_Try_except (zda (wpAny_Return_some (yat (he _ s a H _ _ I h) (fun v d zZ=>by obtain⟨y,H1,I1,r1,q1⟩:=zZ;exact ⟨y,a,H1,I1,r1,q1⟩) fun y d i=>Yw7 hc hst hf hg hm g hs i hdb)))
end
open PySem.W
section
variable {prog:zm}{w:World}{E:Value->Shared->Prop}{x:Addr}{ox:Obj}{od:Option Obj}{nm:Str}{tk:Tok}
structure XGet (K:W.Frag)(C:Addr):Prop where
 ga:findIn K (.ref C) "__getattribute__"=some (some (.builtin "BaseException.__getattribute__"))
 gt:findIn K (.ref C) "__getattr__"=some none
 mb:mroIn K C (.type "BaseException")=some true
end
section
variable {P:zm}{w:World}{base:Heap}
theorem Fun.okX (F:Fun K x qual st f fd)(S:FnScope N ps (Za6 st))(len:∀vs H Q E,sp vs H Q E->vs.length=ps.length) (hbody:∀(cdv:Value) (A:Around) (outer:List Env) (s:Shared) (H:Hp) (vs:List V) (Q:VK) (E:XK),Room k (A.deeper (envOfC qual (Za6 st) s.heap.objs.size f cdv))->sp vs H Q E ->
   ∃t,PSs (cxOf (CXe P w) P w K mg base N qual (Za6 st) f cdv A outer s H E) (Zc6 st) t/\t { nx:=fun _ H'=>Q .non H',rt:=Q } (start N vs) H):FnOk P w K mg base (CXe P w) (k+1) f fd ps sp:=by
 obtain⟨j,i,l,g,h,n,cdv,m,e,rfl,c,b⟩:=F.ex;exact fn_of c b S len fun A outer s H vs Q E d a=>hbody cdv A _ s H vs Q E d a
end
structure XIsi (K:W.Frag)(C:Addr):Prop extends XGet K C where
 cls:(clsIn K C).isSome=true
 ca:findIn K (.ref C) "__class__"=some (some (.builtin "object.__class__"))
 mo:mroIn K C (.type "object")=some true
section
def tFr (te:TE)(t:TF):TF:=fun out σ H Q=>te σ H fun v H1=>∃y,v=.str y/\(reprText y).length<=zp/\(out++reprText y).length<=zp/\t (out++reprText y) σ H1 Q
theorem Xz8 {e:Expr}{es:List Expr}{t:TF}(he:PE X e te)(h:PF X es t)(hs:zcy (.FormattedValue e 114 none pos::es) X.env=eval (.FormattedValue e 114 none pos) X.env::zcy es X.env:=by rfl):PF X (.FormattedValue e 114 none pos::es) (tFr te t):=by with_unfolding_all
 intro n a s b H Q I j;rw[hs];refine joinParts_cons (wpAny_FormattedValue_repr (thn (he a s b H _ I j) fun v r d=>?_));obtain⟨x,m,l,f,g⟩:=d;obtain⟨y,rfl,c,i,q⟩:=g;obtain⟨o,rfl⟩:=f;refine wpAny_pyReprObj_str ?_ c;exact formatField_str (fun p k=>⟨i,h _ _ _ b m Q (l.tok k) q⟩) c
theorem Ye6 (X:Cx)(ea:Addr):(X.hand ea).K=X.K:=rfl
theorem Yy8 (X:Cx):X.nox.K=X.K:=rfl
theorem Zv5 (CX:CXT)(P:zm)(w:World)(K:W.Frag)(mg:Str->Option Value)(base:Heap)(N:List Str)(qual:Str)(scope:Scope)(f:Addr)(cd:Value)(A:Around)(outer:List Env)(s:Shared)(H:Hp)(E:XK):(cxOf CX P w K mg base N qual scope f cd A outer s H E).K=K:=rfl
end
end L2
namespace Ken
open PySem
open L2
structure WkOrd (n:Nat)(lt:Nat->Nat->Bool):Prop where
 ntrans:∀a b c,a < n->b < n->c < n->lt b a=false->lt c b=false->lt c a=false
 asym:∀a b,a < n->b < n->lt a b=true->lt b a=false
section
variable {n:Nat}{lt:Nat->Nat->Bool}{cmp:Nat->Nat->(Bool->Shared->Prop)->Shared->Prop}{S:Shared->Prop}
def WA (lt:Nat->Nat->Bool)(p:Array Nat)(m:Nat):Prop:=∀i j,i < j->j < m->lt (gd p j) (gd p i)=false
def WD (lt:Nat->Nat->Bool)(p:Array Nat)(m:Nat):Prop:=∀i j,i < j->j < m->lt (gd p i) (gd p j)=false
def EqS (lt:Nat->Nat->Bool)(p:Array Nat)(a b:Nat):Prop:=∀i j,a<=i->i < b->a<=j->j < b->lt (gd p i) (gd p j)=false
theorem irr (O:WkOrd n lt){a:Nat}(h:a < n):lt a a=false:=by
 cases e:lt a a with
 |false=>rfl
 |true=>have:=O.asym a a h h e;grind
theorem Xy0 (O:WkOrd n lt)(P:PermOk n p){m:Nat}(h:WA lt p m)(h1:1<=m)(hm:m < n)(hl:lt (gd p m) (gd p (m - 1))=false):WA lt p (m+1):=by
 intro i j a b
 by_cases e:j=m
 ·subst e
  by_cases e2:i=j - 1
  ·subst e2;omega
  ·exact O.ntrans _ _ _ (P.low _ (by omega)) (P.low _ (by omega)) (P.low _ hm) (h i _ (by omega) (by omega)) hl
 ·exact h i j a (by omega)
theorem Xb7 (O:WkOrd n lt)(P:PermOk n p){m:Nat}(h:WD lt p m)(h1:1<=m)(hm:m < n)(hl:lt (gd p (m - 1)) (gd p m)=false):WD lt p (m+1):=by
 intro i j a b
 by_cases e:j=m
 ·subst e
  by_cases e2:i=j - 1
  ·subst e2;omega
  ·exact O.ntrans _ _ _ (P.low _ hm) (P.low _ (by omega)) (P.low _ (by omega)) hl (h i _ (by omega) (by omega))
 ·exact h i j a (by omega)
theorem Yn8 (O:WkOrd n lt)(A:Asks n lt S cmp)(P:PermOk n p):∀(f x:Nat) (s:Shared),1<=x->x+f<=n->WA lt p x->S s ->
  (∀m s',x<=m->m<=x+f->WA lt p m->(m=x+f∨(m < n/\lt (gd p m) (gd p (m - 1))=true))->S s'->Q m s')->ycd cmp (W.kas_asc p f x) Q s
 | 0,x,s,h1,h2,ha,hs,q=>by
  exact q x s (by simp) (by simp) ha (.inl rfl) hs
 |f+1,x,s,h1,h2,ha,hs,q=>by
  have hne:gd p x≠gd p (x - 1):=fun z=>by have:=P.inj _ _ (by omega) (by omega) z;omega
  refine A _ _ _ _ (P.low _ (by omega)) (P.low _ (by omega)) hne hs fun s' hs'=>?_
  cases e:lt _ _ with
  |true =>
   exact q x s' (by simp) (by omega) ha (.inr ⟨by omega,e⟩) hs'
  |false =>
   refine Yn8 O A P f _ s' (by omega) (by omega) (Xy0 O P ha h1 (by omega) e) hs' fun m s2 g1 g2 g3 g4 g5=>q m s2 (by omega) (by omega) g3 ?_ g5;rcases g4 with g4 | g4
   ·exact .inl (by omega)
   ·exact .inr g4
theorem Yt5 {a b k:Nat}(hb:b<=p.size):gd (zcz p a b) k=if a<=k/\k < b then gd p (a+b - 1 - k) else gd p k:=by
 have h:=zcu (i:=a) hb k;unfold zcz
 by_cases hk:a<=k/\k < b
 ·simp_all
 simp[*]
theorem Xe6 {a b m:Nat}(hb:b<=p.size)(hbm:b<=m)(h:WD lt p m)(hE:EqS lt p a b):WD lt (zcz p a b) m:=by
 intro i j d c;rw[Yt5 hb,Yt5 hb]
 by_cases ci:a<=i/\i < b
 ·rw[if_pos ci]
  by_cases cj:a<=j/\j < b
  ·rw[if_pos cj]
   exact hE _ _ (by omega) (by omega) (by omega) (by omega)
  ·rw[if_neg cj]
   exact h _ _ (by omega) c
 ·rw[if_neg ci]
  by_cases cj:a<=j/\j < b
  ·rw[if_pos cj]
   exact h _ _ (by omega) (by omega)
  ·rw[if_neg cj]
   exact h _ _ d c
theorem Wh6 {m:Nat}(hm:m<=p.size)(h:WD lt p m):WA lt (zcz p 0 m) m:=by
 intro i j b a;rw[Yf9 hm,Yf9 hm,if_pos a,if_pos (by omega)];exact h _ _ (by omega) (by omega)
theorem Wc8 (O:WkOrd n lt)(P:PermOk n p){a x:Nat}(ha:a < x)(hx:x < n)(hE:EqS lt p a x)(h1:lt (gd p x) (gd p (x - 1))=false)(h2:lt (gd p (x - 1)) (gd p x)=false):EqS lt p a (x+1):=by
 intro i j c e b d
 by_cases ei:i=x
 ·by_cases ej:j=x
  ·rw[ei,ej];exact irr O (P.low _ hx)
  ·rw[ei]
   by_cases e3:j=x - 1
   ·rw[e3];omega
   ·exact O.ntrans _ _ _ (P.low _ (by omega)) (P.low _ (by omega)) (P.low _ hx) (hE _ j (by omega) (by omega) b (by omega)) h1
 ·by_cases ej:j=x
  ·rw[ej]
   by_cases e3:i=x - 1
   ·rw[e3];omega
   ·exact O.ntrans _ _ _ (P.low _ hx) (P.low _ (by omega)) (P.low _ (by omega)) h2 (hE i _ c (by omega) (by omega) (by omega))
  ·exact hE i j c (by omega) b (by omega)
theorem Zx7 (O:WkOrd n lt)(A:Asks n lt S cmp):∀(f:Nat) (p:Array Nat) (x e:Nat) (s:Shared),p.Perm (yac n).toArray->e+1<=x->x+f<=n->WD lt p x->EqS lt p (x - (e+1)) x->S s ->
  (∀p' m e' s',p'.Perm (yac n).toArray->x<=m->m<=x+f->e'+1<=m->WD lt p' m->EqS lt p' (m - (e'+1)) m->S s'->Q (p',m,e') s')->ycd cmp (W.kas_desc f p x e) Q s
 | 0,p,x,e,s,hp,h1,h2,hd,hE,hs,q=>by
  exact q p x e s hp (by simp) (by simp) h1 hd hE hs
 |f+1,p,x,e,s,hp,h1,h2,hd,hE,hs,q=>by
  have P:=Zi0 hp
  have hne:gd p x≠gd p (x - 1):=fun z=>by have:=P.inj _ _ (by omega) (by omega) z;omega
  refine A _ _ _ _ (P.low _ (by omega)) (P.low _ (by omega)) hne hs fun s' hs'=>?_
  have one:∀p':Array Nat,PermOk n p'->EqS lt p' (x+1 - (0+1)) (x+1):=fun p' P' i j i1 i2 j1 j2=>by
   have:i=j:=by omega
   rw[this];exact irr O (P'.low _ (by omega))
  cases ec:lt _ _ with
  |true =>
   have hd1:=Xb7 O P hd (by omega) (by omega) (O.asym _ _ (P.low _ (by omega)) (P.low _ (by omega)) ec)
   by_cases he:e > 0
   ·rw[if_pos he]
    have hp2:(zcz p (x - (e+1)) x).Perm (yac n).toArray:=(ybu _ _ _ _).trans hp;refine Zx7 O A f _ _ 0 s' hp2 (by omega) (by omega) (Xe6 (by rw[P.size];omega) (by omega) hd1 hE) (one _ (Zi0 hp2)) hs' fun p' m e' s2 g0 g1 g2 g3 g4 g5 g6=>q p' m e' s2 g0 (by omega) (by omega) g3 g4 g5 g6
   ·rw[if_neg he]
    refine Zx7 O A f p _ 0 s' hp (by omega) (by omega) hd1 (one _ P) hs' fun p' m e' s2 g0 g1 g2 g3 g4 g5 g6=>q p' m e' s2 g0 (by omega) (by omega) g3 g4 g5 g6
  |false =>
   refine A _ _ _ _ (P.low _ (by omega)) (P.low _ (by omega)) (zar hne) hs' fun s2 hs2=>?_
   cases ed:lt _ _ with
   |true =>
    exact q p x e s2 hp (by simp) (by omega) h1 hd hE hs2
   |false =>
    have hE1:=Wc8 O P (by omega) (by omega) hE ec ed;refine Zx7 O A f p _ _ s2 hp (by omega) (by omega) (Xb7 O P hd (by omega) (by omega) ed) (by simp_all) hs2 fun p' m e' s3 g0 g1 g2 g3 g4 g5 g6=>q p' m e' s3 g0 (by omega) (by omega) g3 g4 g5 g6
theorem Zv7 (O:WkOrd n lt)(A:Asks n lt S cmp)(hp:p.Perm (yac n).toArray){x:Nat}(h1:1<=x)(hx:x < n)(hd:WD lt p (x+1))(s:Shared)(hs:S s)(q:∀m p' s',1<=m->m<=n->p'.Perm (yac n).toArray->WA lt p' m->S s'->Q (m,p') s'):ycd cmp (W.kas_descPart x n p) Q s:=by
 have P:=Zi0 hp
 have b:∀(a:Array Nat) (m:Nat) (s2:Shared),a.Perm (yac n).toArray->x+1<=m->m<=n->WD lt a m->S s2->ycd cmp (W.kas_tail3 m n a) Q s2:=fun a m s2 d D C h g=>by
  rw[W.kas_tail3.eq_1,ycg];have c:(zcz a 0 m).Perm (yac n).toArray:=(ybu _ _ _ _).trans d;have B:=Zi0 c;refine Yn8 O A B _ m s2 (by omega) (by omega) (Wh6 (by rw[(Zi0 d).size];omega) h) g fun t r y w v F u=>?_;exact q t _ r (by omega) (by omega) c v u
 unfold W.kas_descPart;rw[ycg];refine Zx7 O A _ p _ 0 s hp (by omega) (by omega) hd (fun i j I G y w=>?_) hs fun a m e s2 f o L J l z k=>?_
 ·have:i=j:=by omega
  rw[this];exact irr O (P.low _ (by omega))
 ·by_cases he:e > 0
  ·rw[if_pos (by omega)]
   exact b _ m s2 ((ybu _ _ _ _).trans f) o (by omega) (Xe6 (show m<=a.size by rw[(Zi0 f).size];omega) (by simp) l z) k
  ·rw[if_neg (by omega)]
   exact b a m s2 f o (by omega) l k
theorem Xb5 (O:WkOrd n lt)(A:Asks n lt S cmp)(hp:p.Perm (yac n).toArray)(h2:2<=n)(s:Shared)(hs:S s)(q:∀m p' s',1<=m->m<=n->p'.Perm (yac n).toArray->WA lt p' m->S s'->Q (m,p') s'):ycd cmp (W.kas_count n p) Q s:=by
  have P:=Zi0 hp;unfold W.kas_count;rw[ycg]
  refine Yn8 O A P _ 1 s (by simp) (by omega) fun i j I h2=>by omega hs fun m s' r J a b f=>?_
  by_cases e1:(m == n)=true
  · rw[if_pos e1,W.KasT.kasWp.eq_1]
    exact q m p s' r (by omega) hp a f
  · rw[if_neg e1]
    have d:m < n:=by
      have:m≠n:=fun z=>e1 (by simp[z]);omega
    have e:lt (gd p m) (gd p (m - 1))=true:=by
      rcases b with b | b
      · omega
      · exact b.2
    by_cases e2:m > 1
    · rw[if_pos e2,W.KasT.kasWp.eq_2]
      have k:gd p 0≠gd p (m - 1):=fun z=>by have:=P.inj _ _ (by omega) (by omega) z;omega
      refine A _ _ _ _ (P.low _ (by omega)) (P.low _ (by omega)) k f fun g c=>?_
      cases ec:lt _ _ with
      |true =>
        exact q m p g r (by omega) hp a c
      |false =>
        have o:EqS lt p 0 m:=fun i j G v F D=>by
          rcases Nat.lt_trichotomy i j with z | z | z
          ·
            have u:lt (gd p 0) (gd p j)=false:=by
              by_cases ej:j=m - 1
              · rw[ej];exact ec
              · exact O.ntrans _ _ _ (P.low _ (by omega)) (P.low _ (by omega)) (P.low _ (by omega)) (a j _ (by omega) (by omega)) ec
            by_cases ei:i=0
            · rw[ei];exact u
            · exact O.ntrans _ _ _ (P.low _ (by omega)) (P.low _ (by omega)) (P.low _ (by omega)) u (by
                have C  := a 0 i (by omega) (by omega)
                exact C)
          · rw[z];exact irr O (P.low _ (by omega))
          · exact a j i z v
        have h:(zcz p 0 m).Perm (yac n).toArray:=(ybu _ _ _ _).trans hp;refine Zv7 O A h (by omega) d ?_ g c q;intro i j l w;rw[Yf9 (by rw[P.size];omega),Yf9 (by rw[P.size];omega),if_pos (by omega)]
        by_cases ej:j < m
        · rw[if_pos ej];exact o _ _ (by omega) (by omega) (by omega) (by omega)
        · rw[if_neg ej]
          have:j=m:=by omega
          rw[this];have t  := O.asym _ _ (P.low _ (by omega)) (P.low _ (by omega)) e
          by_cases e9:m - 1 - i=m - 1
          · rw[e9];exact t
          · exact O.ntrans _ _ _ (P.low _ (by omega)) (P.low _ (by omega)) (P.low _ (by omega)) t (o _ _ (by omega) (by omega) (by omega) (by omega))
    · have x:m=1:=by omega
      subst x;refine Zv7 O A hp (by omega) d ?_ s' f q;intro i j l w
      have B:i=0:=by omega
      have y:j=1:=by omega
      subst B y;exact O.asym _ _ (P.low _ (by omega)) (P.low _ (by omega)) e
theorem Zz4 (O:WkOrd n lt)(A:Asks n lt S cmp)(P:PermOk n p)(hk:k < n)(ha:WA lt p k):∀(f l r:Nat) (s:Shared),l<=r->r<=k->r - l<=f->S s ->
  (∀i,i < l->lt (gd p k) (gd p i)=false)->(∀i,r<=i->i < k->lt (gd p i) (gd p k)=false) ->
  (∀m s',m<=k->(∀i,i < m->lt (gd p k) (gd p i)=false)->(∀i,m<=i->i < k->lt (gd p i) (gd p k)=false)->S s'->Q m s')->ycd cmp (W.kas_place p k f l r) Q s
 | 0,l,r,s,h1,h2,h3,hs,g1,g2,q=>by
  have:l=r:=by omega
  subst this;exact q l s h2 g1 g2 hs
 |f+1,l,r,s,h1,h2,h3,hs,g1,g2,q=>by
  rw[W.kas_place.eq_2]
  by_cases e:l ≥ r
  ·rw[if_pos e,W.KasT.kasWp.eq_1]
   have:l=r:=by omega
   subst this;exact q l s h2 g1 g2 hs
  ·rw[if_neg e,W.KasT.kasWp.eq_2]
   have hne:gd p k≠gd p ((l+r) / 2):=fun z=>by have:=P.inj _ _ (by omega) (by omega) z;omega
   refine A _ _ _ _ (P.low _ hk) (P.low _ (by omega)) hne hs fun s' hs'=>?_
   cases ec:lt _ _ with
   |true =>
    refine Zz4 O A P hk ha f l _ s' (by omega) (by omega) (by omega) hs' g1 (fun i i1 i2=>?_) q;have c1:=O.asym _ _ (P.low _ hk) (P.low _ (by omega)) ec
    by_cases ei:i=(l+r) / 2
    ·rw[ei];exact c1
    ·exact O.ntrans _ _ _ (P.low _ hk) (P.low _ (by omega)) (P.low _ (by omega)) c1 (ha _ _ (by omega) i2)
   |false =>
    refine Zz4 O A P hk ha f _ r s' (by omega) h2 (by omega) hs' (fun i i1=>?_) g2 q
    by_cases ei:i=(l+r) / 2
    ·rw[ei];exact ec
    ·exact O.ntrans _ _ _ (P.low _ (by omega)) (P.low _ (by omega)) (P.low _ hk) (ha i _ (by omega) (by omega)) ec
theorem Wq9 {k m:Nat}(hk:k < p.size)(hm:m<=k)(ha:WA lt p k)(g1:∀i,i < m->lt (gd p k) (gd p i)=false)(g2:∀i,m<=i->i < k->lt (gd p i) (gd p k)=false):WA lt (PyProof.Rows.bubble p k (k - m)) (k+1):=by
 intro i j a b;rw[Xn8 hk hm,Xn8 hk hm]
 by_cases ei:i=m
 ·subst ei
  rw[if_pos rfl,if_neg (by omega),if_pos ⟨a,by omega⟩];exact g2 _ (by omega) (by omega)
 ·rw[if_neg ei]
  by_cases ej:j=m
  ·subst ej
   rw[if_pos rfl,if_neg (by omega)];exact g1 _ a
  ·rw[if_neg ej]
   by_cases c1:m < i/\i<=k
   ·rw[if_pos c1,if_pos ⟨by omega,by omega⟩]
    exact ha _ _ (by omega) (by omega)
   ·rw[if_neg c1]
    by_cases c2:m < j/\j<=k
    ·rw[if_pos c2]
     exact ha _ _ (by omega) (by omega)
    ·rw[if_neg c2]
     exact ha _ _ a (by omega)
theorem Xb6 (O:WkOrd n lt)(A:Asks n lt S cmp):∀(f k:Nat) (p:Array Nat) (s:Shared),k+f=n->1<=k->p.Perm (yac n).toArray->WA lt p k->S s ->
  (∀p' s',p'.Perm (yac n).toArray->WA lt p' n->S s'->Q p' s')->ycd cmp (W.kas_bin f p k) Q s
 | 0,k,p,s,h1,h2,hp,ha,hs,q=>by
  rw[W.kas_bin.eq_1,W.KasT.kasWp.eq_1]
  simp_all
 |f+1,k,p,s,h1,h2,hp,ha,hs,q=>by
  rw[W.kas_bin.eq_2,ycg];have P:=Zi0 hp;refine Zz4 O A P (by omega) ha k 0 k s (by simp) (by simp) (by omega) hs (by omega) (by omega) fun m s' hm g1 g2 hs'=>?_;exact Xb6 O A f _ _ s' (by omega) (by omega) ((PyProof.Rows.bubble_perm _ _ _).trans hp) (Wq9 (by rw[P.size];omega) hm ha g1 g2) hs' q
theorem Xo9 (O:WkOrd n lt)(A:Asks n lt S cmp)(h2:2<=n)(s:Shared)(hs:S s)
  (q:∀p s',p.Perm (yac n).toArray->WA lt p n->S s'->Q p s'):ycd cmp (W.kas_sort n) Q s:=by
 unfold W.kas_sort;rw[ycg];refine Xb5 O A (Array.Perm.refl _) h2 s hs fun m p s' d g c b a=>?_
 by_cases e:m < n
 ·rw[if_pos (by omega)]
  have f:max m 1=m:=by omega
  rw[f];exact Xb6 O A _ m p s' (by omega) d c b a q
 ·rw[if_neg (by omega),W.KasT.kasWp.eq_1]
  have:m=n:=by omega
  simp_all
end
end Ken
namespace PySem.SeqAt
open PySem PySem.MeetsSeq L2 PyProof.Rows
theorem Yf6:∀{us:List Value} {xs:List Str},yda us xs->us.length=xs.length
 | _,_,.nil=>rfl
 | _,_,.cons _ _ h=>by rw[yai,yai,Yf6 h]
theorem Yx5 (l b:Addr)(items items2:Array Value)(n n2:Nat)(dd dd2:Option Addr)(sl sl2:Array (Option Value))(xs ys:List Str) :
  Meets (Builtin.«tuple.__lt__» ⟨[.ref l,.ref b],[]⟩)
   (fun A R s=>s.heap.get? l=some { cls:=.type "tuple",dict:=dd,data:=.seq items n,slots:=sl }/\s.heap.get? b=some { cls:=.type "tuple",dict:=dd2,data:=.seq items2 n2,slots:=sl2 } /\
    yda items.toList xs/\yda items2.toList ys/\R (.ok (.ret (.bool (lexF (decide (items.size < items2.size)) xs ys)))) s) :=
 .of_wp fun z w A R s h=>by
  obtain⟨t,g,d,q,r⟩:=s;obtain⟨B,D,v,u,h⟩:=h;have F:=AutoSeq1.sub_tuple_tuple
  wp_walk using zdh B,zdh D,wpAny_forIn_list _ (fun j b p=>b.1=none/\p=⟨t,g,d,q,r⟩/\∃m k xs ys,j=List.zip m k/\yda m xs/\yda k ys /\
   R (.ok (.ret (.bool (lexF (decide (items.size < items2.size)) xs ys)))) ⟨t,g,d,q,r⟩) _
  case turn =>
   rintro⟨y,x⟩ j b p ⟨o,rfl,m,k,xs,ys,e,i,f,a⟩
   cases i with
   |nil=>cases e
   |cons x1 t1 i =>
    cases f with
    |nil=>cases e
    |cons y1 u1 f =>
     rw[List.zip_cons_cons] at e;injection e with hyx hrest;injection hyx with e1 e2;subst e1 e2;refine ya (ycm ?_);unfold lexF at a
     by_cases c:x1=y1
     ·rw[if_pos c] at a
      rw[decide_eq_true c]
      wp_walk
      exact⟨rfl,rfl,_,_,_,_,hrest,i,f,a⟩
     ·rw[if_neg c] at a
      rw[decide_eq_false c];refine ya (ycw (ya (W.cmp_ofLt (P.lt_str ?_))));exact ya (ye (ye (ye ⟨_,rfl,a⟩)))
  case fin =>
   rintro⟨I,G⟩ p ⟨o,rfl,m,k,xs,ys,e,i,f,a⟩;subst o
   have C:lexF (decide (items.size < items2.size)) xs ys=decide (items.size < items2.size):=by
    cases i with
    |nil=>rfl
    |cons x1 t1 i =>
     cases f with
     |nil=>rfl
     |cons y1 u1 f=>cases e
   rw[C] at a
   wp_walk
   exact⟨_,rfl,by assumption⟩
  case h =>
   exact⟨rfl,rfl,_,_,_,_,rfl,v,u,h⟩
theorem lt_tupleS {l:Addr}{xs ys:List Str}(hl:s.heap.IsTuple l items)(hb:s.heap.IsTuple b items2)(hu:A.units < cLine)(h1:yda items.toList xs)(h2:yda items2.toList ys)(h:Q (.bool (lexT xs ys)) s):wpAny (model prog w) A (yaj .Lt (.ref l) (.ref b)) Q E s:=by
 obtain⟨⟨u,q,r,k⟩,d,p,n,o⟩:=id hl;obtain⟨⟨t,i,j,c⟩,a,g,m,f⟩:=id hb;subst p o g f
 have e:lexF (decide (items.size < items2.size)) xs ys=lexT xs ys:=by
  rw[<- Yl0]
  have x  := by exact Yf6 h1
  have v  := by exact Yf6 h2
  simp_all
 exact richCompare_meets_room (op:=.Lt) ⟨_,d,rfl⟩ ⟨_,a,rfl⟩ F.slot_tuple_lt F.entry_tuple_lt (F.args_tuple_lt_2 _ _) (Yx5 l b _ _ n m q i k c xs ys)
  ⟨d,a,h1,h2,show ydl _≠Value.notImplemented/\Q _ s from ⟨(by simp),by simp_all⟩⟩ hu
end PySem.SeqAt
namespace L2
open PySem PySem.Spec PyProof.Rows
section
def rLtS (K:W.Frag):R2:=fun x y H Q=>∃(p q:Addr) (xs ys:List Str),x=.ref p/\y=.ref q/\SqT K H p (xs.map V.str)/\SqT K H q (ys.map V.str)/\Q (.bl (lexT xs ys)) H
theorem Wj0 (hu:X.A.units < cLine):OpR X (yaj .Lt) (rLtS X.K):=by
 intro f s m H x y v u Q I c b h;obtain⟨p,q,o,n,rfl,rfl,j,i,k⟩:=h;cases c;cases b;obtain⟨l,r,e,_⟩:=I.tuple j;obtain⟨g,d,a,_⟩:=I.tuple i;exact SeqAt.lt_tupleS e a hu (Zl5 r) (Zl5 d) ⟨.bl _,H,I,rfl,k⟩
end
end L2
namespace Ken
open PySem L2
noncomputable def cmpT (a b:Tm):Int:=if a=b then 0 else if lexT a.spell b.spell=true then -1 else 1
noncomputable def Yl1 (ps:List (Tm×Tm)):List Str:=ps.flatMap fun p=>p.1.spell
noncomputable def Zw0 (ps:List (Tm×Tm)):List Str:=ps.flatMap fun p=>p.2.spell
theorem Zj6 (p:Tm×Tm)(ps:List (Tm×Tm)):Yl1 (p::ps)=p.1.spell++Yl1 ps:=by rfl
theorem Zi4 (p:Tm×Tm)(ps:List (Tm×Tm)):Zw0 (p::ps)=p.2.spell++Zw0 ps:=by rfl
theorem Zf2 (x:Str)(A B:List Str):lexT (x::A) (x::B)=lexT A B:=by
 show (if x=x then lexT A B else sLt x x)=_;simp
theorem Zd4 (h:¬x=y)(A B:List Str):lexT (x::A) (y::B)=sLt x y:=by
 show (if x=y then lexT A B else sLt x y)=_
 simp_all
def CmpI (a b:Tm)(ps:List (Tm×Tm)):Prop:=lexT a.spell b.spell=lexT (Yl1 ps) (Zw0 ps)/\(a=b↔Yl1 ps=Zw0 ps)
theorem CmpI.start (a b:Tm):CmpI a b [(a,b)]:=by
 show lexT _ _=lexT (a.spell++[]) (b.spell++[])/\(a=b↔a.spell++[]=b.spell++[]);rw[yaa,yaa];exact⟨rfl,⟨fun e=>by rw[e],Yj6⟩⟩
theorem CmpI.pair {a b:Tm}{x y x' y':Tm}{ps:List (Tm×Tm)}(h:CmpI a b ((.nd k x y,.nd k x' y')::ps)):CmpI a b ((x,x')::(y,y')::ps):=by
 unfold CmpI at h ⊢;rw[Zj6,Zi4,Zd9,Zd9,yan,yan,Zf2] at h;rw[Zj6,Zi4,Zj6,Zi4,<- zao,<- zao];simp[*]
theorem CmpI.leaf {a b:Tm}{ps:List (Tm×Tm)}(h:CmpI a b ((t,t)::ps)):CmpI a b ps:=by
 unfold CmpI at h ⊢;rw[Zj6,Zi4] at h
 have c:∀l:List Str,lexT (l++Yl1 ps) (l++Zw0 ps)=lexT (Yl1 ps) (Zw0 ps):=by
  intro l
  induction l with
  |nil=>rfl
  |cons z l ih=>rw[yan,yan,Zf2,ih]
 simp_all
theorem CmpI.done {a b:Tm}(h:CmpI a b []):cmpT a b=0:=by
 unfold cmpT;rw[if_pos (h.2.mpr rfl)]
theorem CmpI.diff {a b u:Tm}{A B:List Str}{ps:List (Tm×Tm)}(h:CmpI a b ((t,u)::ps))(ht:t.spell=x::A)(hu:u.spell=y::B)(hxy:¬x=y):cmpT a b=if sLt x y=true then -1 else 1:=by
 unfold CmpI at h;rw[Zj6,Zi4,ht,hu,yan,yan,Zd4 hxy] at h;unfold cmpT
 simp_all
theorem CmpI.diffW {a b:Tm}{ps:List (Tm×Tm)}(h:CmpI a b ((.ltr x,.ltr y)::ps))(hxy:¬x=y):cmpT a b=if lexT ["letter",x] ["letter",y]=true then -1 else 1:=by
 unfold CmpI at h;rw[Zj6,Zi4] at h;have d:(Tm.ltr x).spell++Yl1 ps=_::x::Yl1 ps:=rfl;have c:(Tm.ltr y).spell++Zw0 ps=_::y::Zw0 ps:=rfl;rw[d,c,Zf2,Zd4 hxy] at h;unfold cmpT;rw[if_neg fun e=>hxy (yap (yap (h.2.mp e)).2).1,h.1,Zf2,Zd4 hxy]
def IsP (K:W.Frag)(H:Hp)(v:V)(p:Tm×Tm):Prop:=∃q x y,v=.ref q/\SqT K H q [x,y]/\IsT K H x p.1/\IsT K H y p.2
theorem IsP.keep {K:W.Frag}{v:V}{p:Tm×Tm}(h:IsP K H v p)(k:KeepT K H H'):IsP K H' v p:=by
 obtain⟨q,x,y,e,c,b,a⟩:=h;exact⟨q,x,y,e,k _ _ c,b.keep k,a.keep k⟩
inductive sp_compared (K:W.Frag):Sp
 |mk {vs H Q E:_} (v u:V) (a b:Tm):vs=[v,u]->IsT K H v a->IsT K H u b->a.ok->b.ok->a.parts<=400->(∀H',Same H H'->Q (.int (cmpT a b)) H')->sp_compared K vs H Q E
theorem opqC {P:(St->Hp->Prop)->Prop}{I:St->Hp->Prop}(h:∀N:St->Hp->Prop,(∀σ' H',I σ' H'->N σ' H')->P N):∃N:St->Hp->Prop,(∀σ' H',N σ' H'->I σ' H')/\P N:=⟨I,fun _ _ z=>z,h I fun _ _ z=>z⟩
end Ken
namespace PySem.SeqAt
open PySem PySem.MeetsSeq L2 PyProof.Rows
def LtAt (A:Around)(s:Shared)(y x:Value)(k:Bool):Prop :=
 ∀(P:zm) (w:World) (E:Value->Shared->Prop) (Q:Value->Shared->Prop),Q (.bool k) s->wpAny (model P w) A (yaj .Lt y x) Q E s
inductive LexAt (A:Around)(s:Shared)(d:Bool):List Value->List Value->Bool->Prop
 |one (us:List Value):LexAt A s d us [] d
 |two (us:List Value):LexAt A s d [] us d
 |same {u v:Value} {us vs:List Value} {r:Bool} (h:EqAt A.in1 s u v true) (t:LexAt A s d us vs r):LexAt A s d (u::us) (v::vs) r
 |diff {u v:Value} {us vs:List Value} {r:Bool} (h:EqAt A.in1 s u v false) (t:LtAt A.in1 s u v r):LexAt A s d (u::us) (v::vs) r
theorem Xc6 (l b:Addr)(items items2:Array Value)(n n2:Nat)(dd dd2:Option Addr)(sl sl2:Array (Option Value))(k:Bool) :
  Meets (Builtin.«tuple.__lt__» ⟨[.ref l,.ref b],[]⟩)
   (fun A R s=>s.heap.get? l=some { cls:=.type "tuple",dict:=dd,data:=.seq items n,slots:=sl }/\s.heap.get? b=some { cls:=.type "tuple",dict:=dd2,data:=.seq items2 n2,slots:=sl2 } /\
    LexAt A s (decide (items.size < items2.size)) items.toList items2.toList k/\R (.ok (.ret (.bool k))) s) :=
 .of_wp fun r w A R s h=>by
  obtain⟨q,g,d,o,p⟩:=s;obtain⟨u,B,z,h⟩:=h;have C:=AutoSeq1.sub_tuple_tuple
  wp_walk using zdh u,zdh B,wpAny_forIn_list _ (fun c b j=>b.1=none/\j=⟨q,g,d,o,p⟩/\∃a f,c=List.zip a f/\LexAt A ⟨q,g,d,o,p⟩ (decide (items.size < items2.size)) a f k) _
  case turn =>
   rintro⟨y,x⟩ c b j ⟨i,rfl,a,f,e,m⟩
   cases m with
   |one a=>simp_all
   |two a=>simp_all
   |same h1 t =>
    injection e with hyx hrest;injection hyx with e1 e2;subst e1 e2;refine ya (h1 _ _ _ _ ?_)
    wp_walk
    exact⟨rfl,rfl,_,_,hrest,t⟩
   |diff h1 t =>
    injection e with hyx hrest;injection hyx with e1 e2;subst e1 e2;refine ya (h1 _ _ _ _ ?_);refine ya (ycw (ya (t _ _ _ _ ?_)));exact ya (ye (ye (ye ⟨_,rfl,h⟩)))
  case fin =>
   rintro⟨F,D⟩ j ⟨i,rfl,a,f,e,m⟩;subst i
   have v:k=decide (items.size < items2.size):=by
    cases m with
    |one a=>rfl
    |two a=>rfl
    |same h1 t=>cases e
    |diff h1 t=>cases e
   rw[v] at h
   wp_walk
   exact⟨_,rfl,by assumption⟩
  case h=>exact⟨rfl,rfl,_,_,rfl,z⟩
theorem Yb6 {l:Addr}(hl:s.heap.IsTuple l items)(hb:s.heap.IsTuple b items2)(hu:A.units < cLine)(he:LexAt A s (decide (items.size < items2.size)) items.toList items2.toList k):LtAt A s (.ref l) (.ref b) k:=fun P w E Q h=>by
 obtain⟨⟨u,q,r,j⟩,d,p,n,o⟩:=id hl;obtain⟨⟨t,g,i,c⟩,a,f,m,e⟩:=id hb;subst p o f e;exact richCompare_meets_room (op:=.Lt) ⟨_,d,rfl⟩ ⟨_,a,rfl⟩ F.slot_tuple_lt F.entry_tuple_lt (F.args_tuple_lt_2 _ _) (Xc6 l b _ _ n m q g j c k)
  ⟨d,a,he,show ydl k≠Value.notImplemented/\Q _ s from ⟨(by simp),h⟩⟩ hu
theorem Yu7 {t u:Tok}:LtAt A s (.str x t) (.str y u) (sLt x y):=fun _ _ _ _ h=>W.cmp_ofLt (P.lt_str h)
theorem Zy8 {A:Around}{s:Shared}{x y:Str}{t u:Tok}:EqAt A s (.str x t) (.str y u) (decide (x=y)):=fun P w E Q h=>ycm h
end PySem.SeqAt
namespace Ken
open PySem L2 PySem.SeqAt
theorem Zy6 (l:List Str)(A B:List Str):lexT (l++A) (l++B)=lexT A B:=by
 induction l with
 |nil=>rfl
 |cons z l ih=>rw[yan,yan,Zf2,ih]
theorem Zw5 (k:Kd):¬k.str=("low":Str):=by cases k<;>decide
theorem Zw4 (k:Kd):¬k.str=("letter":Str):=by cases k<;>decide
theorem Zt6:∀{a b:Tm} (A B:List Str),a≠b->lexT (a.spell++A) (b.spell++B)=lexT a.spell b.spell
 | .low,.low,A,B,h=>absurd rfl h
 | .low,.ltr y,A,B,h=>by rfl
 | .low,.nd k c d,A,B,h=>by
  rw[Zd9];show lexT ("low"::_) (k.str::_)=lexT ("low"::_) _;rw[Zd4 (zar (Zw5 k)),Zd4 (zar (Zw5 k))]
 | .ltr x,.low,A,B,h=>by rfl
 | .ltr x,.ltr y,A,B,h=>by
  have hxy:¬x=y:=fun z=>h (by rw[z]);show lexT ("letter"::x::_) ("letter"::y::_)=lexT ("letter"::x::_) ("letter"::y::_);rw[Zf2,Zf2,Zd4 hxy,Zd4 hxy]
 | .ltr x,.nd k c d,A,B,h=>by
  rw[Zd9];show lexT ("letter"::_) (k.str::_)=lexT ("letter"::_) _;rw[Zd4 (zar (Zw4 k)),Zd4 (zar (Zw4 k))]
 | .nd k a b,.low,A,B,h=>by
  rw[Zd9];show lexT (k.str::_) ("low"::_)=lexT _ ("low"::_);rw[Zd4 (Zw5 k),Zd4 (Zw5 k)]
 | .nd k a b,.ltr y,A,B,h=>by
  rw[Zd9];show lexT (k.str::_) ("letter"::_)=lexT _ ("letter"::_);rw[Zd4 (Zw4 k),Zd4 (Zw4 k)]
 | .nd k a b,.nd k' c d,A,B,h=>by
  rw[Zd9,Zd9,yan,yan]
  by_cases hk:k.str=k'.str
  ·rw[hk,Zf2,Zf2,zao,zao]
   by_cases hac:a=c
   ·subst hac
    rw[Zy6,Zy6,Zt6 A B (fun z=>h (by rw[z,Kd.str_inj hk]))]
   ·rw[Zt6 _ _ hac,Zt6 _ _ hac]
  ·rw[Zd4 hk,Zd4 hk]
section
theorem Xt4 (I:Inv X pins σ H s){a b:Tm}{A:Around}(ha:IsT X.K H va a)(hb:IsT X.K H vb b)(ra:RelV va ua)(rb:RelV vb ub)(oa:a.ok)(ob:b.ok)(hu:A.units+a.deep < cLine):EqAt A s ua ub (decide (a=b)):=by
 obtain⟨d,_,f,_⟩:=isT_tup ha;obtain⟨c,_,e,_⟩:=isT_tup hb;rw[f] at ra ha;rw[e] at rb hb;have i  := ra;have g  := rb;subst i g
 by_cases h:d=c
 ·subst h
  rw[decide_eq_true (isT_inj I ha hb)];exact EqAt.same _
 ·obtain⟨n,k⟩:=Dn.reads I ha (show RelV (.ref d) (.ref d) from rfl)
  obtain⟨m,j⟩:=Dn.reads I hb (show RelV (.ref c) (.ref c) from rfl);rw[<- Tm.eqv]
  have l:min a.data.depth b.data.depth<=a.deep:=by rw[Tm.depth,Tm.depth];omega
  exact EqAt.of_refs h (rcAt_reads k j (a.lay oa) (b.lay ob) (by omega))
theorem Wo9 (I:Inv X pins σ H s){p q:Addr}(h1:SqT X.K H p (.str x::xs))(h2:SqT X.K H q (.str y::ys))(hxy:¬x=y)(hu:A.units+2 < cLine):LtAt A s (.ref p) (.ref q) (sLt x y):=by
 obtain⟨g,r,d,_⟩:=I.tuple h1;obtain⟨f,c,a,_⟩:=I.tuple h2;refine Yb6 d a (by omega) ?_
 cases r with
 |cons r0 rr =>
  cases c with
  |cons r0' rr' =>
   obtain⟨t,rfl⟩:=r0;obtain⟨b,rfl⟩:=r0';have e:=Zy8 (A:=A.in1) (s:=s) (x:=x) (y:=y) (t:=t) (u:=b);rw[decide_eq_false hxy] at e;exact .diff e Yu7
theorem Xw4 {v:V}(h:IsT K H v t):∃p x xs A,v=.ref p/\SqT K H p (.str x::xs)/\t.spell=x::A:=by
 cases t with
 |low=>obtain⟨p,e,c⟩:=isT_low.mp h;exact⟨p,_,_,[],e,c,rfl⟩
 |ltr y=>obtain⟨p,e,c⟩:=isT_ltr.mp h;exact⟨p,_,_,[y],e,c,rfl⟩
 |nd k a b=>obtain⟨p,x,y,e,c,_⟩:=isT_nd.mp h;exact⟨p,_,_,_,e,c,Zd9 k a b⟩
theorem Yq4 (I:Inv X pins σ H s){a b:Tm}(ha:IsT X.K H va a)(hb:IsT X.K H vb b)(ra:RelV va ua)(rb:RelV vb ub)(hu:A.units+2 < cLine)(hn:∀x A B,a.spell=x::A->¬b.spell=x::B):LtAt A s ua ub (lexT a.spell b.spell):=by
 obtain⟨p,x,k,i,rfl,g,e⟩:=Xw4 ha;obtain⟨q,y,j,h,rfl,f,d⟩:=Xw4 hb;cases ra;cases rb;have c:¬x=y:=fun z=>hn x i h e (z▸d);rw[e,d,Zd4 c];exact Wo9 I g f c hu
theorem Yr6 {l m:List Str}(e1:l=x::A0)(e2:m=y::B0)(h:¬x=y):∀z A B,l=z::A->¬m=z::B:=by grind
theorem Wo8 (I:Inv X pins σ H s){p q:Addr}(h1:SqT X.K H p [.str "letter",.str x])(h2:SqT X.K H q [.str "letter",.str y])(hxy:¬x=y)(hu:A.units+2 < cLine):LtAt A s (.ref p) (.ref q) (sLt x y):=by
 obtain⟨j,r,g,_⟩:=I.tuple h1;obtain⟨h,f,b,_⟩:=I.tuple h2;refine Yb6 g b (by omega) ?_
 cases r with
 |cons r0 rr =>
  cases f with
  |cons r0' rr' =>
   cases rr with
   |cons r1 rr =>
    cases rr' with
    |cons r1' rr' =>
     obtain⟨t,rfl⟩:=r0;obtain⟨d,rfl⟩:=r0';obtain⟨c,rfl⟩:=r1;obtain⟨a,rfl⟩:=r1';have i:=Zy8 (A:=A.in1) (s:=s) (x:="letter") (y:="letter") (t:=t) (u:=d);have e:=Zy8 (A:=A.in1) (s:=s) (x:=x) (y:=y) (t:=c) (u:=a);rw[decide_eq_false hxy] at e;exact .same i (.diff e Yu7)
theorem Wo6 (I:Inv X pins σ H s):∀(a:Tm) {b:Tm} {va vb:V} {ua ub:Value} {A:Around},IsT X.K H va a->IsT X.K H vb b->RelV va ua->RelV vb ub->a.ok->b.ok->a≠b->A.units+a.deep+2 < cLine->LtAt A s ua ub (lexT a.spell b.spell):=by
 intro a
 induction a with
 |low =>
  intro b va vb ua ub A h g f e m l j i
  have i:A.units+2 < cLine:=by omega
  cases b with
  |low=>simp_all
  |ltr y=>exact Yq4 I h g f e i (Yr6 rfl rfl (by decide))
  |nd k c d=>exact Yq4 I h g f e i (Yr6 rfl rfl (zar (Zw5 k)))
 |ltr x =>
  intro b va vb ua ub A h g f e m l j i
  have i:A.units+2 < cLine:=by omega
  cases b with
  |low=>exact Yq4 I h g f e i (Yr6 rfl rfl (by decide))
  |ltr y =>
   obtain⟨p,rfl,F⟩:=isT_ltr.mp h;obtain⟨q,rfl,o⟩:=isT_ltr.mp g;cases f;cases e;have B:¬x=y:=fun z=>j (by rw[z]);rw[show lexT (Tm.ltr x).spell (Tm.ltr y).spell=sLt x y from (Zf2 _ _ _).trans (Zd4 B _ _)];exact Wo8 I F o B i
  |nd k c d=>exact Yq4 I h g f e i (Yr6 rfl rfl (zar (Zw4 k)))
 |nd k a1 b1 ih1 ih2 =>
  intro b va vb ua ub A h g f e m l j i;have du:(Tm.nd k a1 b1).deep=1+max _ _:=rfl
  have n:A.units+2 < cLine:=by omega
  cases b with
  |low=>exact Yq4 I h g f e n (Yr6 rfl rfl (Zw5 k))
  |ltr y=>exact Yq4 I h g f e n (Yr6 rfl rfl (Zw4 k))
  |nd k' a2 b2 =>
   by_cases hk:k.str=k'.str
   ·obtain⟨p,vx,Z,rfl,F,L,J⟩:=isT_nd.mp h
    obtain⟨q,W,U,rfl,o,C,w⟩:=isT_nd.mp g;cases f;cases e;have iu:A.in1.units=A.units+1:=rfl;obtain⟨Y,r,S,_⟩:=I.tuple F;obtain⟨T,R,G,_⟩:=I.tuple o;refine Yb6 S G (by omega) ?_;rw[Zd9,Zd9,hk,Zf2]
    cases r with
    |cons r0 rr =>
     cases R with
     |cons r0' rr' =>
      cases rr with
      |cons r1 rr =>
       cases rr' with
       |cons r1' rr' =>
        cases rr with
        |cons r2 rr =>
         cases rr' with
         |cons r2' rr' =>
          obtain⟨t,rfl⟩:=r0;obtain⟨O,rfl⟩:=r0';have N:=Zy8 (A:=A.in1) (s:=s) (x:=k.str) (y:=k'.str) (t:=t) (u:=O);rw[decide_eq_true hk] at N;refine .same N ?_;have v:=Xt4 (A:=A.in1) I L C r1 r1' m.1 l.1 (by omega)
          by_cases hac:a1=a2
          ·rw[decide_eq_true hac] at v
           refine .same v ?_;have D:b1≠b2:=fun z=>j (by rw[z,hac,Kd.str_inj hk]);have M:=Xt4 (A:=A.in1) I J w r2 r2' m.2 l.2 (by omega);rw[decide_eq_false D] at M;rw[hac,Zy6];exact .diff M (ih2 J w r2 r2' m.2 l.2 D (by omega))
          ·rw[decide_eq_false hac] at v
           rw[Zt6 _ _ hac];exact .diff v (ih1 L C r1 r1' m.1 l.1 hac (by omega))
   ·exact Yq4 I h g f e n (Yr6 rfl rfl hk)
theorem Wo7 (I:Inv X pins σ H s):∀{a b:Tm} {va vb:V} {ua ub:Value} {A:Around},IsT X.K H va a->IsT X.K H vb b->RelV va ua->RelV vb ub->a.ok->b.ok->a≠b->A.units+a.deep+2 < cLine->LtAt A s ua ub (lexT a.spell b.spell):=fun {a}=>Wo6 I a
end
end Ken
namespace L2
open PySem PySem.Spec PyProof.Rows
end L2
namespace Ken
open PySem L2 PyProof.Rows PySem.SeqAt
section
theorem Xk1 {A:Around}(I:Inv X pins σ H s){a b:Tm}{p q:Addr}(ha:IsT X.K H (.ref p) a)(hb:IsT X.K H (.ref q) b)(oa:a.ok)(ob:b.ok)(hu:A.units+a.deep+4 < cLine)(hq:Q (lexT a.spell b.spell) s):
  ∃ox oy xs ys n k,s.heap.get? p=some ox/\ox.data=.seq xs n/\s.heap.get? q=some oy/\oy.data=.seq ys k/\W.KatLex X.prog X.w A true (decide (xs.size < ys.size)) Q (xs.toList.zip ys.toList) 0 s:=by
 have q0:∀l:List Str,lexT l l=false:=fun l=>by
  cases e:lexT l l with
  |false=>rfl
  |true=>have:=Zl7 e;rw[e] at this;exact this
 have m:∀{p:Addr} {xs:List V},SqT X.K H p xs->∃Z o n,Vals xs Z/\s.heap.get? p=some o/\o.data=.seq Z.toArray n:=fun {p xs} h=>by
  obtain⟨Z,r,⟨o,h1,h2,n,h3⟩,_⟩:=I.tuple h;exact⟨Z,o,n,r,h1,h3⟩
 have F:∀{x y:Str} {xs ys:List V} {us vs:List Value} {fin:Bool},Vals (.str x::xs) us->Vals (.str y::ys) vs->(¬x=y->Q (sLt x y) s)->(x=y->∀(R O:List Value),Vals xs R->Vals ys O->W.KatLex X.prog X.w A true fin Q (R.zip O) 1 s)->W.KatLex X.prog X.w A true fin Q (us.zip vs) 0 s:=fun {x y xs ys us vs fin} t g h1 h2=>by
  cases t with
  |cons a1 U =>
   cases g with
   |cons a2 t2 =>
    obtain⟨tx,rfl⟩:=a1;obtain⟨ty,rfl⟩:=a2;refine W.kat_cons (ycm ?_);refine W.kat_go (fun e=>W.kat_yes (h2 (of_decide_eq_true e) _ _ U t2)) fun e=>W.kat_no ?_;exact oneLt_str (h1 (of_decide_eq_false e))
 have D:∀{x y:Str} {xs ys:List V} {us vs:List _} {fin:Bool} {A1 B1:List Str},a.spell=x::A1->b.spell=y::B1->¬x=y->Vals (.str x::xs) us->Vals (.str y::ys) vs->W.KatLex _ X.w A _ fin Q _ 0 s:=fun {x y xs ys us vs fin A1 B1} Y j hxy t g=>by
  refine F t g (fun _=>?_) (by simp_all);rw[Y,j,Zd4 hxy] at hq;exact hq
 cases a with
 |low =>
  obtain⟨p',Y,T⟩:=isT_low.mp ha;cases Y;obtain⟨L,G,J,t,N,M⟩:=m T
  cases b with
  |low =>
   obtain⟨S,j,f⟩:=isT_low.mp hb;cases j;obtain⟨i,u,v,g,C,B⟩:=m f;refine⟨G,u,_,_,J,v,N,M,C,B,?_⟩;refine F t g (by simp) fun _ R O U t2=>?_;cases U;have l1:=t.length;have l2:=g.length;have:decide (L.toArray.size < i.toArray.size)=false:=decide_eq_false (by simp at l1 l2 ⊢;omega);rw[this];exact hq
  |ltr y =>
   obtain⟨S,j,f⟩:=isT_ltr.mp hb;cases j;obtain⟨i,u,v,g,C,B⟩:=m f;exact⟨G,u,_,_,J,v,N,M,C,B,by simpa using D rfl rfl (by decide) t g⟩
  |nd k c d =>
   obtain⟨S,vx,vy,j,f,_⟩:=isT_nd.mp hb;cases j;obtain⟨i,u,v,g,C,B⟩:=m f;exact⟨G,u,_,_,J,v,N,M,C,B,by simpa using D rfl rfl (fun z=>Zw5 k z.symm) t g⟩
 |ltr x =>
  obtain⟨p',Y,T⟩:=isT_ltr.mp ha;cases Y;obtain⟨L,G,J,t,N,M⟩:=m T
  cases b with
  |low =>
   obtain⟨S,j,f⟩:=isT_low.mp hb;cases j;obtain⟨i,u,v,g,C,B⟩:=m f;exact⟨G,u,_,_,J,v,N,M,C,B,by simpa using D rfl rfl (by decide) t g⟩
  |ltr y =>
   obtain⟨S,j,f⟩:=isT_ltr.mp hb;cases j;obtain⟨i,u,v,g,C,B⟩:=m f;refine⟨G,u,_,_,J,v,N,M,C,B,?_⟩;have l1:=t.length;have l2:=g.length;have hf:decide (L.toArray.size < i.toArray.size)=false:=decide_eq_false (by simp at l1 l2 ⊢;omega);rw[hf];refine F t g (by simp) fun _ R O U t2=>?_
   cases U with
   |cons a1 u1 =>
    cases t2 with
    |cons a2 u2 =>
     obtain⟨tx,rfl⟩:=a1;obtain⟨ty,rfl⟩:=a2;cases u1;have e0:lexT (Tm.ltr x).spell (Tm.ltr y).spell=lexT [x] [y]:=Zf2 "letter" [x] [y];rw[e0] at hq;refine W.kat_cons (ycm ?_);refine W.kat_go (fun e=>W.kat_yes (W.kat_nil ?_)) fun e=>W.kat_no ?_
     ·have:=of_decide_eq_true e
      rw[this,q0] at hq;exact hq
     ·rw[Zd4 (of_decide_eq_false e)] at hq
      exact W.kat_one _ _ (P.lt_str hq)
  |nd k c d =>
   obtain⟨S,vx,vy,j,f,_⟩:=isT_nd.mp hb;cases j;obtain⟨i,u,v,g,C,B⟩:=m f;exact⟨G,u,_,_,J,v,N,M,C,B,by simpa using D rfl rfl (fun z=>Zw4 k z.symm) t g⟩
 |nd k c d =>
  obtain⟨p',vx,vy,Y,T,q4,q2⟩:=isT_nd.mp ha;cases Y;obtain⟨L,G,J,t,N,M⟩:=m T
  cases b with
  |low =>
   obtain⟨S,j,f⟩:=isT_low.mp hb;cases j;obtain⟨i,u,v,g,C,B⟩:=m f;exact⟨G,u,_,_,J,v,N,M,C,B,by simpa using D rfl rfl (Zw5 k) t g⟩
  |ltr y =>
   obtain⟨S,j,f⟩:=isT_ltr.mp hb;cases j;obtain⟨i,u,v,g,C,B⟩:=m f;exact⟨G,u,_,_,J,v,N,M,C,B,by simpa using D rfl rfl (Zw4 k) t g⟩
  |nd k' c' d' =>
   obtain⟨S,wx,wy,j,f,q3,q1⟩:=isT_nd.mp hb;cases j;obtain⟨i,u,v,g,C,B⟩:=m f;refine⟨G,u,_,_,J,v,N,M,C,B,?_⟩;have l1:=t.length;have l2:=g.length;have hf:decide (L.toArray.size < i.toArray.size)=false:=decide_eq_false (by simp at l1 l2 ⊢;omega);rw[hf];have dp:(Tm.nd k c d).deep=1+max _ _:=rfl;refine F t g (fun z=>?_) fun ek R O U t2=>?_
   ·rw[Zd9,Zd9,Zd4 z] at hq
    exact hq
   ·have q6:k=k':=by cases k<;>cases k'<;>first | rfl | (exact absurd ek (by decide))
    subst q6;rw[Zd9,Zd9,Zf2] at hq
    cases U with
    |cons a1 u1 =>
     cases t2 with
     |cons a2 u2 =>
      refine W.kat_cons (Xt4 I q4 q3 a1 a2 oa.1 ob.1 (by omega) _ X.w _ _ ?_);refine W.kat_go (fun e=>W.kat_yes ?_) fun e=>W.kat_no (W.kat_one _ _ ?_)
      ·have ec  := of_decide_eq_true e
       subst ec;rw[Zy6] at hq
       cases u1 with
       |cons a3 u3 =>
        cases u2 with
        |cons a4 u4 =>
         cases u3;refine W.kat_cons (Xt4 I q2 q1 a3 a4 oa.2 ob.2 (by omega) _ X.w _ _ ?_);refine W.kat_go (fun e=>W.kat_yes (W.kat_nil ?_)) fun e=>W.kat_no (W.kat_one _ _ ?_)
         ·have ed  := of_decide_eq_true e
          subst ed;rw[q0] at hq;exact hq
         ·exact Wo7 I q2 q1 a3 a4 oa.2 ob.2 (of_decide_eq_false e) (by omega) _ X.w _ _ hq
      ·have q5  := of_decide_eq_false e
       rw[Zt6 _ _ q5] at hq;exact Wo7 I q4 q3 a1 a2 oa.1 ob.1 q5 (by omega) _ X.w _ _ hq
theorem Yb8 {v:V}(h:IsT K H v t):∃p x xs,v=.ref p/\SqT K H p (.str x::xs):=by
 cases t with
 |low=>obtain⟨p,e,c⟩:=isT_low.mp h;exact⟨p,_,_,e,c⟩
 |ltr y=>obtain⟨p,e,c⟩:=isT_ltr.mp h;exact⟨p,_,_,e,c⟩
 |nd k a b=>obtain⟨p,x,y,e,c,_⟩:=isT_nd.mp h;exact⟨p,_,_,e,c⟩
theorem Ye3 (I:Inv X pins σ H s):∀{us:List V} {ts:List Tm} {vs:List Value},Paired (IsT X.K H) us ts->Vals us vs->∃fs,W.KatTups s.heap vs fs/\fs.length=vs.length/\∀v∈fs,∃x t,v=.str x t
 | _,_,_,.nil,.nil=>⟨[],W.KatTups.nil,rfl,by simp⟩
 | _,_,_,.cons hv t,.cons r rr=>by
  obtain⟨p,x,xs,rfl,hs⟩:=Yb8 hv;cases r;obtain⟨its,rv,⟨o,h1,h2,n,h3⟩,_⟩:=I.tuple hs;obtain⟨fs,g1,g2,g3⟩:=Ye3 I t rr
  cases rv with
  |cons a1 t1 =>
   obtain⟨tk,rfl⟩:=a1;refine⟨.str x tk::fs,W.KatTups.cons h1 h2 h3 rfl g1,by simp_all,fun v hv=>?_⟩
   grind
theorem Yv6 {us:List V}{vs:List Value}(h:Vals us vs)(hi:i < us.length):RelV (us.getD i .non) (vs.getD i .none):=by
 obtain⟨u,a,r⟩:=h.get (za hi)
 simp_all
theorem Yn0 (hc:X.calm=true)(hu:X.A.units+150 < cLine):Zv6 X (.builtin "sorted") (fun xs H Q=>∃(a:Addr) (us:List V) (ts:List Tm),xs=[.ref a]/\H a=some (.lst us)/\Paired (IsT X.K H) us ts/\(∀t∈ts,t.ok/\t.deep<=120)/\ts.length < 64 /\
    ∀(l:Addr) (ws:List V) (os:List Tm),H l=none->Paired (IsT X.K H) ws os->yba os ts->os.Pairwise (fun a b=>lexT b.spell a.spell=false)->Q (.ref l) (upd H l (.lst ws))):=by
  intro q9 s σ H xs y6 Q I r h;obtain⟨a,us,ts,rfl,ha,hT,S,z9,q⟩:=h;obtain⟨u,rfl,ru⟩:=Yn9 r;cases ru;have lu:=zc hT;obtain⟨hz,d,n0,M,ho⟩:ObjOk X.prog X.w H s.heap a (.lst us):=I.hok a _ ha;have lv:=M.length;obtain⟨m,hm,y5⟩:=I.loc;have z7:a≠X.env.locals:=Za9 ha I.free;have hl:s.heap.IsList a d.toArray:=⟨_,ho,rfl,_,rfl⟩
  have F:∀(f:Heap) (D c:Nat) (tk:Nat) (ws:List V) (os:List Tm) (L:List Value),(∀b ob,b≠X.env.locals->s.heap.get? b=some ob->f.get? b=some ob)->f.Ns X.env.locals m->s.heap.get? D=none->f.get? D=some (W.listOf L.toArray c)->Vals ws L->ws.length=us.length->Paired (IsT X.K H) ws os->yba os ts->os.Pairwise (fun a b=>lexT b.spell a.spell=false)->EP X q9 σ Q (.ref D) { s with heap:=f,toks:=tk }:=by
    intro f D c tk ws os L j8 j7 o z0 hv y7 R j6 j5;have lw:ws.length<=zp:=zi (show ws.length<=64 by omega) (by decide);obtain⟨I2,Y⟩:=Xl0 (o0:=.lst ws) (tk:=tk) I hm j8 j7 o ⟨lw,_,c,hv,z0⟩;exact⟨.ref D,_,I2,rfl,q D ws os Y R j6 j5⟩
  by_cases f:d.length < 2
  ·
    refine Calls.call_function_entry kind_sorted plain_sorted entry_sorted (args_sorted1 (.ref a)) ?_;show wpAny _ _ (pure () >>= _) _ _ _
    have N:d.length<=zp:=by rw[<- lv,lu];exact zi (zk z9) (by decide)
    refine ya (ye (ya (collect_list hl ?_ N)));generalize hA:((s.heap.push (seqObj "list" #[] 0)).update s.heap.objs.size (zcf fun x=>x++d.toArray))=hB
    have kB:∀b ob,s.heap.get? b=some ob->hB.get? b=some ob:=fun b ob e=>by
      rw[<- hA,zab _ _ (zar (zv (zj e)))];exact yb _ e
    have sB:s.heap.objs.size < hB.objs.size:=by
      rw[<- hA,Heap.size_update,zcl];exact Nat.lt_succ_self _
    refine ya (wpAny_newList ?_ N);have q5:(hB.push (seqObj "list" d.toArray 0)).get? hB.objs.size=some (seqObj "list" d.toArray 0):=yt _ rfl;refine ya (yao (Yx9 f q5 ?_));obtain⟨e1,z6⟩:=sortedHeap_at (out:=d.toArray) q5
    have q0:∀b ob,s.heap.get? b=some ob->(sortedHeap (hB.push (seqObj "list" d.toArray 0)) hB.objs.size d d.toArray).get? b=some ob:=fun b ob e=>by
      have B:=kB b ob e;rw[sortedHeap_old (zv (zj B)) (by rw[zcl];exact zbu (zj B))];exact yb _ B
    refine ye ⟨_,rfl,?_⟩
    have o:s.heap.get? hB.objs.size=none:=by
      cases e:s.heap.get? hB.objs.size with
      |none=>rfl
      |some ob=>exact absurd (zj e) (Nat.not_lt.mpr (zk sB))
    refine F _ _ e1 _ us ts d (fun b ob _ e=>q0 b ob e) ?_ o z6 M rfl hT (by simp) ?_
    · obtain⟨o',y2,y3,q1,q2⟩:=hm
      exact⟨o',y2,y3,q0 _ _ q1,q2⟩
    · have l2:ts.length < 2:=by omega
      cases ts with
      |nil=>exact .nil
      |cons x l =>
        cases l with
        |nil=>exact yam _ _
        |cons y l=>exact absurd l2 (by simp)
  · have N0:=Att.news_ledger z7 ho
    have q4:∀b ob,b≠X.env.locals->s.heap.get? b=some ob->(b,ob)∈([]++(a,_)::Att.ledger _ _ a):=fun b ob B e=>by
      by_cases hba:b=a
      · subst hba;rw[ho] at e;cases e;exact zr
      · exact yn _ (Att.mem_ledger.mpr ⟨B,hba,e⟩)
    refine W.kat_sorted (Att.fr_all hm) N0 hl (by omega) (by omega) fun D e1 h' F' N' U=>?_;have z8  := (N' _ zr).2.1;have j9  := (N' _ zr).1
    have o:s.heap.get? D=none:=by
      cases e:s.heap.get? D with
      |none=>rfl
      |some ob=>exact absurd (U _ (q4 D ob z8 e)) (Nat.lt_irrefl _)
    have q3:∀{f:Heap} {ob:Obj},News (Att.noObjs s.heap) X.env.locals f ((D,ob)::_)->∀b ob',b≠X.env.locals->s.heap.get? b=some ob'->f.get? b=some ob':=fun N2 b ob' B e=>(N2 (b,ob') (yn _ (q4 b ob' B e))).1;obtain⟨I2,Y⟩:=Xl0 (o0:=.lst []) I hm (q3 N') F'.ns o ⟨yz _,[],e1,.nil,j9⟩;have q7:Paired (IsT X.K (upd H D (.lst []))) us ts:=Paired.mapP hT fun _ _ z=>z.keep (Zf3 Y);obtain⟨fs,g1,g2,g3⟩:=Ye3 I2 q7 M;refine W.kat_kind (T:=.type "str") g1 (by omega) (fun v hv=>?_) rfl ?_
    · obtain⟨x,t,rfl⟩:=g3 v hv
      exact fun A Q E s _ q=>ye q
    have Z:∀i,i < d.length->IsT X.K _ (us.getD i .non) (ts.getD i .low)/\RelV (us.getD i .non) _/\ts.getD i .low∈ts:=fun i g=>by
      obtain⟨t,e,z⟩:=paired_get q7 (za (show i < us.length by omega))
      have e1:us.getD i .non=us[i]:=by simp[show i < us.length by omega]
      have e2:ts.getD i .low=t:=by simp[e]
      refine⟨by rw[e1,e2];exact z,Yv6 M (by omega),by rw[e2];exact yc e⟩
    have O:WkOrd d.length fun i j=>lexT (ts.getD i .low).spell (ts.getD j .low).spell:=by
      refine⟨fun x y z _ _ _ h1 f=>?_,fun x y _ _ h=>Zl7 h⟩
      cases e:lexT (ts.getD z .low).spell (ts.getD x .low).spell with
      |false=>rfl
      |true =>
        by_cases exy:(ts.getD x .low).spell=(ts.getD y .low).spell
        · rw[exy] at e;rw[e] at f;cases f
        · rcases Yh2 exy with w | w
          · have:=Zi8 e w
            rw[this] at f;cases f
          · rw[w] at h1;cases h1
    refine Xo9 O (fun i j C s' g J q6 hs hC=>?_) (by omega) _ rfl fun p s' R j0 hs=>?_
    · subst hs
      obtain⟨i1,i2,i3⟩:=Z i g;obtain⟨j1,j2,j3⟩:=Z j J;unfold W.kas_ask;obtain⟨pi,_,_,ei,_⟩:=Yb8 i1;obtain⟨pj,_,_,ej,_⟩:=Yb8 j1;rw[ei] at i1 i2;rw[ej] at j1 j2;have ri  := i2;have rj  := j2;rw[ri,rj]
      obtain⟨ox,oy,xs,ys,n,k,z1,z2,z3,z4,z5⟩:=Xk1 (A:=X.A.in1.in1) I2 i1 j1 (S _ i3).1 (S _ j3).1 (by
        have:=(S _ i3).2;show X.A.units+1+1+_+4 < cLine
        omega) (hC _ rfl)
      exact W.kat_lt z1 z2 z3 z4 z5
    · subst hs
      have P:=Zi0 R
      have pl:∀i∈p.toList,i < d.length:=fun i g=>by
        have h1  := by simpa using zci.mp R
        simpa using h1.mem_iff.mp g
      refine W.KasFin.intro F' N' (W.UpdF.head fun x hx=>zv (U x hx)) fun y0 c y4 q8=>?_
      have j4  := by
        have y1:∀G:List Nat,(∀i∈G,i < us.length)->Vals (G.map fun i=>us.getD i .non) (G.map fun i=>d.getD i .none):=by
          intro G
          induction G with
          |nil=>intro _;exact .nil
          |cons i G ih=>intro h;exact .cons (Yv6 M (h i zr)) (ih fun j J=>h j (yn _ J))
        exact y1 _ fun i g=>by have:=pl i g;omega
      refine F y0 D c _ _ (p.toList.map fun i=>ts.getD i .low) _ (q3 q8) y4.ns o (q8 _ zr).1 j4 ?_ (Yb1 hT fun i g=>by have:=pl i g;omega) ?_ ?_
      · rw[yh,zcp,P.size];omega
      · refine Xr4 ?_
        rw[show ts.length=d.length by omega];exact R
      · rw[zau]
        intro i j g J q6;rw[yh,zcp,P.size] at g J;have:=j0 i j q6 (by omega)
        have y9:i < p.size:=by rw[P.size];exact g
        have y8:j < p.size:=by rw[P.size];exact J
        have gi:gd p i=p.toList[i]'(by omega):=Wq2 (by simp);have gj:gd p j=p.toList[j]'(by omega):=Wq2 (by simp);rw[gi,gj] at this
        simpa using this
end
end Ken
namespace L2
open PySem PySem.Spec PyProof.Rows Ken
theorem Wb4 {xs:List V}(Pv:Nat->List V->Hp->Prop)(h0:Pv 0 [] (upd H acc (.lst [])))(hl:∀i ys H2,i<=xs.length->Pv i ys H2->H2 acc=some (.lst ys)/\ys.length < zp/\SqL K H2 a xs)(hs:∀i x ys H2,i < xs.length->xs[xs.length - 1 - i]?=some x->Pv i ys H2->∀C:VK,(∀y H5,H5 acc=some (.lst ys)->Pv (i+1) (ys++[y]) (upd H5 acc (.lst (ys++[y])))->C y H5)->g x σ0 H2 fun σ4 H4=>Wk σ0 σ4/\te σ4 H4 C)(hd:∀ys H2,Pv xs.length ys H2->Q (.ref acc) H2):
  ∃W:Nat->Nat->List V->Hp->Prop,(∃m,W 0 m [] (upd H acc (.lst [])))/\lcW K σ0 (Itv K a xs.length) acc g te Q W:=by
 refine⟨fun i m ys H2=>m=xs.length - i/\i<=xs.length/\Pv i ys H2,⟨xs.length,by simp,yz _,h0⟩,?_⟩;rintro i m ys H2 ⟨rfl,c,p⟩;obtain⟨h,f,q⟩:=hl i ys H2 c p;refine⟨h,f,?_⟩
 by_cases hlt:i < xs.length
 ·refine .inr ⟨⟨hlt,xs,xs[xs.length - 1 - i],q,za _⟩,fun x j y=>?_⟩
  obtain⟨e,y⟩:=y;subst e;exact hs i x ys j hlt (y xs q) p _ fun y H5 d b=>⟨d,xs.length - _,by omega,rfl,hlt,b⟩
 ·have e:i=xs.length:=by omega
  subst e;exact .inl ⟨rfl,hd _ _ p⟩
end L2
namespace Ken
open PySem L2
theorem Zy9 (h:i<=xs.length):cutV xs none (some (i:Int))=xs.take i:=by
 show List.take ((if i < 0 then ((i:Int)+xs.length).toNat else min (i:Int).toNat _) - 0) (zdm 0 xs)=_;rw[if_neg (by omega),List.drop_zero];simp
theorem Zi6 :∀{l:List α} {m:List β},Paired F l m->∀n,Paired F (l.take n) (m.take n)
 | _,_,.nil,n=>by rw[List.take_nil,List.take_nil];exact .nil
 | _,_,.cons h t,0=>by exact .nil
 | _,_,.cons h t,n+1=>by exact .cons h (Zi6 t n)
theorem Xp5 (ts:List Tm):zax (.list (ts.map Tm.data)) (.list (ts.map Tm.data))=true:=Zk5 fun d a=>by
 obtain⟨x,_,rfl⟩:=zah.mp a;rw[Tm.eqv];simp
theorem Xc7 (h:∀t∈ts,t.deep<=n):(zbj (ts.map Tm.data)).depth<=n+1:=Zp9 fun d a=>by
 obtain⟨x,b,rfl⟩:=zah.mp a;rw[Tm.depth];simp_all
end Ken
namespace L2
open PySem PySem.Spec PyProof.Rows
section
def Zr2:V->List V->Hp->VK->Prop:=fun x vs H Q=>∃(l:Addr) (xs:List V) (k:Nat) (y:V),x=.ref l/\vs=[.int (k:Nat),y]/\H l=some (.lst xs)/\k<=xs.length/\xs.length < 1000000/\Q .non (upd H l (.lst (xs.take k++y::xs.drop k)))
theorem Xi5:MtM X "list.insert" Zr2:=by
 intro pins s σ H x vs v us Q I rx rv h;obtain⟨l,xs,k,y,rfl,rfl,hH,hk,hz,q⟩:=h;cases rx
 cases rv with
 |cons r1 rr =>
  cases rr with
  |cons r2 rr =>
   cases rr;obtain⟨t,rfl⟩:=r1;rename_i u2;obtain⟨z,its,n,r,hl,e⟩:=I.lstM hH;obtain⟨kk,hkk⟩:∃kk:Int,(k:Int)=kk:=⟨_,rfl⟩;rw[hkk]
   have hfit:¬(!Builtin.List.listFitsIndex kk)=true:=by
    have h1:(-(2 ^ 63)<=kk):=by omega
    have h2:kk < 2 ^ 63:=by omega
    have h3:Builtin.List.listFitsIndex kk=true:=by
     show (decide _&&decide _)=true
     simp_all
    grind
   have mt:=AutoSeq1.list_insert_list_int_val_1 l its.toArray n kk t u2 hfit (zi (Nat.le_of_eq (by grind)) z);refine call_meets F.slot_list_insert ⟨_,e,rfl⟩ F.entry_list_insert (F.args_list_insert_3 _ _ _) mt ⟨e,?_⟩;refine⟨.non,_,I.lset hH e ?_ ((r.take k).append (.cons r2 (r.drop k))) ?_,rfl,q⟩
   ·grind
   ·rw[zf,yai,zq,yae]
    exact zk (Ken.small1M (by omega))
end
end L2
namespace Ken
open PySem L2
open PyProof.Rows
theorem Zw2 :∀{l:List α} {m:List β} {y:β},Paired F l (m++[y])->∃l' x,l=l'++[x]/\Paired F l' m/\F x y
 | _,[],_,h=>by
  cases h with
  |cons hx t=>cases t;exact⟨[],_,rfl,.nil,hx⟩
 | _,z::m,_,h=>by
  cases h with
  |cons hx t =>
   obtain⟨l',x,rfl,h1,h2⟩:=Zw2 t;exact⟨_::l',x,rfl,.cons hx h1,h2⟩
theorem Xm3 (xs:List V):cutV xs none (some (-1))=xs.dropLast:=by
 cases xs with
 |nil=>rfl
 |cons x r=>exact Xu0 (by simp)
theorem We4 {α:Type}[DecidableEq α]{lt:α->α->Bool}(asym:∀a b,lt a b=true->lt b a=false):∀{l m:List α},l.Pairwise (fun a b=>lt a b=true)->m.Pairwise (fun a b=>lt a b=true)->(∀x,x∈l↔x∈m)->l=m
 | [],m,_,_,h=>by
  cases m with
  |nil=>rfl
  |cons y m=>exact absurd ((h y).mpr zr) (by simp)
 |x::l,[],_,_,h=>absurd ((h x).mp zr) (by simp)
 |x::l,y::m,hl,hm,h=>by
  rw[zat] at hl hm
  have e:x=y:=by
   by_cases e:x=y
   ·exact e
   have h1  := (yk.mp ((h x).mp zr)).resolve_left e;have h2  := (yk.mp ((h y).mpr zr)).resolve_left fun z=>e z.symm;have a1:=hm.1 x h1
   simp_all
  subst e
  have nx:∀{k:List α},(∀a∈k,lt x a=true)->x ∉ k:=fun hk z=>by
   grind
  rw[We4 asym hl.2 hm.2 fun z=>⟨fun hz=>(yk.mp ((h z).mp (yn _ hz))).resolve_left fun e=>nx hl.1 (e▸hz),fun hz=>(yk.mp ((h z).mpr (yn _ hz))).resolve_left fun e=>nx hm.1 (e▸hz)⟩]
theorem We3 (hl:Zd7 l)(hm:Zd7 m)(h:∀x,x∈l↔x∈m):l=m:=by
 exact We4 (lt:=fun a b=>lexT _ _) (fun a b z=>Zl7 z) hl hm h
end Ken
namespace L2
open PySem PySem.Spec PyProof.Rows Ken
end L2
namespace Ken
open PySem L2
noncomputable abbrev ltT (a b:Tm):Bool:=lexT a.spell b.spell
theorem Yq6 (a:Tm):ltT a a=false:=by
 cases e:ltT a a with
 |false=>rfl
 |true=>have:=Zl7 e;grind
theorem Yq5 {a b:Tm}(h:a≠b):ltT a b=true∨ltT b a=true:=Yh2 fun z=>h (Yj6 z)
theorem Xn1 (a b:Tm):cmpT a b < 0↔ltT a b=true:=by
 unfold cmpT
 by_cases e:a=b
 ·rw[if_pos e,e]
  constructor
  ·simp
  ·intro h;rw[Yq6] at h;cases h
 grind
theorem Yf0 (a b:Tm):cmpT a b=0↔a=b:=by
 unfold cmpT
 grind
noncomputable def insT (t:Tm):List Tm->List Tm
 | []=>[t]
 |x::l=>if t=x then x::l else if ltT t x=true then t::x::l else x::insT t l
theorem mem_insT {x:Tm}:∀{l:List Tm},x∈insT t l↔x=t∨x∈l
 | []=>by simp[insT]
 |y::l=>by
  unfold insT
  by_cases e:t=y
  ·simp_all
  ·rw[if_neg e]
   by_cases h:ltT t y=true
   ·simp_all
   ·rw[if_neg h,yk,mem_insT,yk]
    grind
theorem Ya6:∀{l:List Tm},Zd7 l->Zd7 (insT t l)
 | [],_=>yam _ _
 |y::l,h=>by
  have h':=zat.mp h;unfold insT
  by_cases e:t=y
  ·simp_all
  ·rw[if_neg e]
   by_cases hl:ltT t y=true
   ·rw[if_pos hl]
    refine zat.mpr ⟨fun x hx=>?_,h⟩;rcases yk.mp hx with z | z
    ·simp_all
    ·exact Zi8 hl (h'.1 x z)
   ·rw[if_neg hl]
    refine zat.mpr ⟨fun x hx=>?_,Ya6 h'.2⟩;rcases mem_insT.mp hx with z | z
    ·rw[z];exact (Yq5 e).resolve_left hl
    simp_all
noncomputable def norm (l:List Tm):List Tm:=l.foldr insT []
theorem mem_norm {l:List Tm}{x:Tm}:x∈norm l↔x∈l:=by
 unfold norm
 induction l with
 |nil=>simp
 |cons y l ih=>rw[List.foldr_cons,mem_insT,ih,yk]
theorem Zd0 (l:List Tm):Zd7 (norm l):=by
 induction l with
 |nil=>exact .nil
 |cons y l ih=>exact Ya6 ih
theorem Zo4 {os:List Tm}(h:Zd7 os)(hm:∀x,x∈os↔x∈l):os=norm l:=We3 h (Zd0 l) fun x=>by rw[hm x,mem_norm]
theorem Yy9 (h:∀x,x∈l↔x∈m):norm l=norm m:=Zo4 (Zd0 l) fun x=>by rw[mem_norm];exact h x
theorem Zo9 (h:Zd7 l):l.Nodup:=by
 have c  := h;refine c.imp fun {a b} h z=>?_;have:=Yq6 b
 grind
noncomputable def rem (ws:List Tm)(o:Tm):List Tm:=ws.filter fun x=>decide (x≠o)
theorem mem_rem {ws:List Tm}{o x:Tm}:x∈rem ws o↔x∈ws/\x≠o:=by unfold rem;simp
theorem Zl6 {ws:List Tm}{o:Tm}(h:Zd7 ws):Zd7 (rem ws o):=List.Pairwise.filter _ h
noncomputable def plc (ws:List Tm)(t:Tm):Nat:=(ws.filter fun x=>ltT x t).length
theorem Zt0 {t:Tm}:∀{ws:List Tm},Zd7 ws->(∀i x,i < plc ws t->ws[i]?=some x->ltT x t=true)/\(∀i x,plc ws t<=i->ws[i]?=some x->ltT x t=false)/\plc ws t<=ws.length
 | [],_=>⟨fun i x h=>absurd h (zct _),fun i x _ h=>by simp at h,yo _⟩
 |y::l,h=>by
  have h':=zat.mp h;obtain⟨g1,g2,g3⟩:=Zt0 (t:=t) h'.2
  cases e:ltT y t with
  |true =>
   have ep:plc (y::l) t=plc l t+1:=by unfold plc;simp_all
   refine⟨fun i x hi hx=>?_,fun i x hi hx=>?_,by simp_all⟩
   ·cases i with
    |zero=>cases hx;exact e
    |succ i=>exact g1 i x (by omega) hx
   ·cases i with
    |zero=>omega
    |succ i=>exact g2 i x (by omega) hx
  |false =>
   have all:∀x∈y::l,ltT x t=false:=fun x hx=>by
    rcases yk.mp hx with z | z
    ·simp_all
    ·cases e2:ltT x t with
     |false=>rfl
     |true=>have:=Zi8 (h'.1 x z) e2;grind
   have ep:plc (y::l) t=0:=by
    unfold plc
    simp_all
   rw[ep];exact⟨fun i x hi=>absurd hi (by simp),fun i x _ hx=>all x (yc hx),yz _⟩
theorem Xv5 {ws:List Tm}{t:Tm}{m:Nat}(h:Zd7 ws)(hm:m<=ws.length)(h1:∀i x,i < m->ws[i]?=some x->ltT x t=true)(h2:∀i x,m<=i->ws[i]?=some x->ltT x t=false):plc ws t=m:=by
 obtain⟨d,c,e⟩:=Zt0 h;rcases Nat.lt_trichotomy (plc ws t) m with z | z | z
 ·have a:plc ws t < ws.length:=by omega
  have b:=h1 _ _ z (za a);rw[c _ _ (yo _) (by simp)] at b;grind
 ·exact z
 ·have a:m < ws.length:=by omega
  have b:=d _ _ z (za a);rw[h2 _ _ (yo _) (by simp)] at b;grind
theorem Zr5 {ws:List Tm}(h:Zd7 ws):t∈ws↔ws[plc ws t]?=some t:=by
 refine⟨fun g=>?_,fun z=>yc z⟩;obtain⟨i,f,e⟩:=zw g;have:plc ws t=i:=Xv5 h (by omega) (fun j x d b=>?_) fun j x d b=>?_
 ·simp_all
 ·obtain⟨c,a⟩:=ze.mp b
  have:=zau.mp h j i c f d
  simp_all
 ·obtain⟨c,a⟩:=ze.mp b
  rcases Nat.lt_or_ge i j with z | z
  ·have:=zau.mp h i j f c z
   rw[a,e] at this;exact Zl7 this
  ·have:j=i:=by omega
   subst this;rw[e] at a;rw[<- a];exact Yq6 _
theorem Wd1 {ws:List Tm}(h:Zd7 ws)(hm:t∈ws):ws.take (plc ws t)++ws.drop (plc ws t+1)=rem ws t:=by
 have j:=(Zr5 h).mp hm;obtain⟨i,e⟩:=ze.mp j
 have c:(ws.take (plc ws t)++ws.drop (plc ws t+1)).Sublist ws:=by
  conv=>rhs;rw[<- zbp (plc ws t) ws]
  refine List.Sublist.append_left ?_ _;rw[List.drop_eq_getElem_cons i];exact List.sublist_cons_self _ _
 refine We3 (List.Pairwise.sublist c h) (Zl6 h) fun x=>?_
 have f:ws=ws.take (plc ws t)++t::ws.drop (plc ws t+1):=by
  conv=>lhs;rw[<- zbp _ ws,List.drop_eq_getElem_cons i,e]
 have d:=Zo9 h;rw[f] at d;have b:=List.nodup_append.mp d;rw[mem_rem];constructor
 ·intro a
  refine⟨c.subset a,fun z=>?_⟩;subst z;rcases yd.mp a with y | y
  ·exact b.2.2 x y x zr rfl
  ·exact (yaq.mp b.2.1).1 y
 ·rintro⟨a,g⟩
  rw[f] at a;rcases yd.mp a with y | y
  ·exact zas _ y
  ·rcases yk.mp y with z | z
   ·exact absurd z g
   ·exact yw _ z
theorem Wp9 {ws:List Tm}(h:Zd7 ws)(hm:¬t∈ws):Zd7 (ws.take (plc ws t)++t::ws.drop (plc ws t)):=by
 obtain⟨m,l,n⟩:=Zt0 h
 have k:(ws.take (plc ws t)++ws.drop (plc ws t)).Pairwise fun a b=>lexT a.spell b.spell=true:=by rw[zbp];exact h
 have f:=ybq.mp k
 have left:∀x∈ws.take (plc ws t),ltT x t=true:=fun x c=>by
  obtain⟨i,d,e⟩:=zw c;rw[zq] at d;exact m i x (by omega) (by rw[List.getElem_take] at e;rw[za (by omega),e])
 have right:∀x∈ws.drop (plc ws t),ltT t x=true:=fun x c=>by
  obtain⟨i,d,e⟩:=zw c;rw[yae] at d;rw[List.getElem_drop] at e;have:=l (plc ws t+i) x (by omega) (by rw[za (by omega),e]);have g:t≠x:=fun z=>hm (by rw[z,<- e];simp);rcases Yq5 g with y | y
  ·exact y
  simp_all
 refine ybq.mpr ⟨f.1,zat.mpr ⟨fun x c=>right x c,f.2.1⟩,fun x c y j=>?_⟩;rcases yk.mp j with z | z
 ·simp_all
 simp_all
inductive Rl where
 |wish | low | both | first | second | thn | parts | cases | known | curried | either | idle | chain | use
 deriving DecidableEq
noncomputable def Rl.str:Rl->Str
 | .wish=>"wish" | .low=>"low" | .both=>"both" | .first=>"first" | .second=>"second" | .thn=>"then" | .parts=>"parts" | .cases=>"cases" | .known=>"known" | .curried=>"curried" | .either=>"either" | .idle=>"idle" | .chain=>"chain" | .use=>"use"
noncomputable abbrev Nd:=List Tm×Tm
noncomputable def Zv3 (ws:List Tm)(g:Tm):Rl->Option (List Nd)
 | .wish=>if g∈ws then some [] else none
 | .low=>if Tm.low∈ws then some [] else none
 | .both=>match g with
  | .nd .both a b=>some [(ws,a),(ws,b)]
  | _=>none
 | .first=>match g with
  | .nd .one a _=>some [(ws,a)]
  | _=>none
 | .second=>match g with
  | .nd .one _ b=>some [(ws,b)]
  | _=>none
 | .thn=>match g with
  | .nd .thn a b=>some [(norm (ws++[a]),b)]
  | _=>none
 | _=>none
noncomputable def Zq2 (ws:List Tm)(g o:Tm):Rl->Option (List Nd)
 | .parts=>match o with
  | .nd .both a b=>some [(norm (rem ws o++[a,b]),g)]
  | _=>none
 | .cases=>match o with
  | .nd .one a b=>some [(norm (rem ws o++[a]),g),(norm (rem ws o++[b]),g)]
  | _=>none
 | .known=>match o with
  | .nd .thn a b=>if a∈ws then some [(norm (rem ws o++[b]),g)] else none
  | _=>none
 | .curried=>match o with
  | .nd .thn (.nd .both a b) c=>some [(norm (rem ws o++[.nd .thn a (.nd .thn b c)]),g)]
  | _=>none
 | .either=>match o with
  | .nd .thn (.nd .one a b) c=>some [(norm (rem ws o++[.nd .thn a c,.nd .thn b c]),g)]
  | _=>none
 | .idle=>match o with
  | .nd .thn .low _=>some [(norm (rem ws o),g)]
  | _=>none
 | .chain=>match o with
  | .nd .thn (.nd .thn a b) c=>some [(norm (rem ws o++[.nd .thn b c]),.nd .thn a b),(norm (rem ws o++[c]),g)]
  | _=>none
 | .use=>match o with
  | .nd .thn a b=>some [(ws,a),(norm (ws++[b]),g)]
  | _=>none
 | _=>none
structure IsW (K:W.Frag)(H:Hp)(a:Addr)(ws:List Tm):Prop where
 at_:∃us,H a=some (.lst us)/\Paired (IsT K H) us ws
 rise:Zd7 ws
theorem IsW.keep {K:W.Frag}(e:Same H H'){ws:List Tm}(h:IsW K H a ws):IsW K H' a ws:=by
 obtain⟨⟨b,f,d⟩,c⟩:=h;exact⟨⟨b,e _ _ f,Paired.mapP d fun _ _ z=>z.keep e.keepT⟩,c⟩
def Okw (ws:List Tm):Prop:=∀t∈ws,t.ok/\t.parts<=100
inductive sp_place (K:W.Frag):Sp
 |mk {vs H Q E:_} (a:Addr) (v:V) (ws:List Tm) (t:Tm):vs=[.ref a,v]->IsW K H a ws->IsT K H v t->Okw ws->t.ok->ws.length<=1000->(∀H',Same H H'->Q (.int (plc ws t:Nat)) H')->sp_place K vs H Q E
inductive sp_among (K:W.Frag):Sp
 |mk {vs H Q E:_} (a:Addr) (v:V) (ws:List Tm) (t:Tm):vs=[.ref a,v]->IsW K H a ws->IsT K H v t->Okw ws->t.ok->ws.length<=1000->(∀H',Same H H'->Q (.bl (decide (t∈ws))) H')->sp_among K vs H Q E
inductive sp_without (K:W.Frag):Sp
 |mk {vs H Q E:_} (a:Addr) (v:V) (ws:List Tm) (t:Tm):vs=[.ref a,v]->IsW K H a ws->IsT K H v t->Okw ws->t∈ws->ws.length<=1000->(∀(r:Addr) (H':Hp),Same H H'->H r=none->IsW K H' r (rem ws t)->Q (.ref r) H')->sp_without K vs H Q E
inductive sp_more (K:W.Frag):Sp
 |mk {vs H Q E:_} (a b:Addr) (ws:List Tm) (us:List V) (ts:List Tm):vs=[.ref a,.ref b]->IsW K H a ws->H b=some (.lst us)->Paired (IsT K H) us ts->Okw ws->Okw ts->ws.length+ts.length<=1000->(∀(r:Addr) (H':Hp),Same H H'->H r=none->IsW K H' r (norm (ws++ts))->Q (.ref r) H')->sp_more K vs H Q E
theorem Zp8 {v:V}(h:IsT K H v t):∃p x xs A,v=.ref p/\SqT K H p (.str x::xs)/\t.spell=x::A:=by
 cases t with
 |low=>obtain⟨p,e,c⟩:=isT_low.mp h;exact⟨p,_,_,[],e,c,rfl⟩
 |ltr y=>obtain⟨p,e,c⟩:=isT_ltr.mp h;exact⟨p,_,_,[y],e,c,rfl⟩
 |nd k a b=>obtain⟨p,x,y,e,c,_⟩:=isT_nd.mp h;exact⟨p,_,_,_,e,c,Zd9 k a b⟩
noncomputable def sumF (ps:List (Tm×Tm)):Nat:=(ps.map fun p=>p.1.parts).sum
theorem Zh8 (p:Tm×Tm)(ps:List (Tm×Tm)):sumF (p::ps)=p.1.parts+sumF ps:=by rfl
theorem Yu9:∀ps:List (Tm×Tm),ps.length<=sumF ps
 | []=>yo _
 |p::ps=>by rw[Zh8,yai];have:=Yu9 ps;have:=p.1.parts_pos;omega
theorem at0 (x:V)(xs:List V):atI (x::xs) 0=some x:=Zd3 rfl
noncomputable abbrev ONd:=Addr×Nd
def IsNdO (K:W.Frag)(H:Hp)(v:V)(o:ONd):Prop:=∃p gv,v=.ref p/\SqT K H p [.ref o.1,gv]/\IsW K H o.1 o.2.1/\IsT K H gv o.2.2
theorem IsNdO.keep {K:W.Frag}(e:Same H H'){v:V}{o:ONd}(h:IsNdO K H v o):IsNdO K H' v o:=by
 obtain⟨p,d,f,c,b,a⟩:=h;exact⟨p,d,f,e.sqt c,b.keep e,a.keep e.keepT⟩
def IsNds (K:W.Frag)(H:Hp)(na:Addr)(os:List ONd):Prop:=∃vs,H na=some (.lst vs)/\Paired (IsNdO K H) vs os
theorem IsNds.keep {K:W.Frag}(e:Same H H'){os:List ONd}(h:IsNds K H na os):IsNds K H' na os:=by
 obtain⟨a,c,b⟩:=h;exact⟨a,e _ _ c,Paired.mapP b fun _ _ z=>z.keep e⟩
def NdsQ (K:W.Frag)(H:Hp)(Q:VK)(nds:List Nd):Prop:=∀(na:Addr) (H':Hp) (os:List ONd),Same H H'->H na=none->IsNds K H' na os->os.map (·.2)=nds->(∀o∈os,H o.1=none)->(na::os.map (·.1)).Nodup->Q (.ref na) H'
theorem Yu4 (q:NdsQ K H Q [])(e:Same H H1)(hna:H1 na=none):Q (.ref na) (upd H1 na (.lst [])) :=
 q na _ [] (e.trans (Za2 hna _)) (e.free hna) ⟨[],Za1,.nil⟩ rfl (by simp) (by simp)
theorem Zk7 {ws:List Tm}{g:Tm}(q:NdsQ K H Q [(ws,g)])(e:Same H H1){wl p:Addr}(hw:IsW K H1 wl ws)(fw:H wl=none)(hg:IsT K H1 gv g)(hp:H1 p=none)(hna:upd H1 p (.tup [.ref wl,gv]) na=none):
  Q (.ref na) (upd (upd H1 p (.tup [.ref wl,gv])) na (.lst [.ref p])):=by
 have a:=Za2 hp (HO.tup [.ref wl,gv]);have b:=Za2 hna (HO.lst [.ref p]);have S:=a.trans b;refine q na _ [(wl,ws,g)] (e.trans S) ((e.trans a).free hna) ⟨_,Za1,.cons ⟨p,gv,rfl,b.sqt (.inl (.inl Za1)),hw.keep S,hg.keep S.keepT⟩ .nil⟩ rfl (fun o h=>by simp_all) ?_
 have:na≠wl:=fun z=>by
  obtain⟨⟨c,d,_⟩,_⟩:=hw.keep a
  grind
 simp_all
theorem Zy4 {ws ws':List Tm}{g g':Tm}(q:NdsQ K H Q [(ws,g),(ws',g')])(e:Same H H1){wl wl' p p':Addr}(hw:IsW K H1 wl ws)(fw:H wl=none)(hg:IsT K H1 gv g)(hp:H1 p=none)(e2:Same (upd H1 p (.tup [.ref wl,gv])) H2)(hw':IsW K H2 wl' ws')(fw':upd H1 p (.tup [.ref wl,gv]) wl'=none)(hg':IsT K H2 gv' g')(hp':H2 p'=none)(hna:upd H2 p' (.tup [.ref wl',gv']) na=none):
  Q (.ref na) (upd (upd H2 p' (.tup [.ref wl',gv'])) na (.lst [.ref p,.ref p'])):=by
 have a:=Za2 hp (HO.tup [.ref wl,gv]);have c:=Za2 hp' (HO.tup [.ref wl',gv']);have i:=Za2 hna (HO.lst [.ref p,.ref p']);have b:=c.trans i;have d:=e2.trans b;have S:=a.trans d;have n:=(e.trans a).free fw';refine q na _ [(wl,ws,g),(wl',ws',g')] (e.trans S) ((e.trans (a.trans (e2.trans c))).free hna) ⟨_,Za1,.cons ⟨p,gv,rfl,d.sqt (.inl (.inl Za1)),hw.keep S,hg.keep S.keepT⟩ (.cons ⟨p',gv',rfl,i.sqt (.inl (.inl Za1)),hw'.keep b,hg'.keep b.keepT⟩ .nil)⟩ rfl (fun o h=>?_) ?_
 ·rcases yk.mp h with z | z
  ·simp_all
  simp_all
 ·have m:na≠wl:=fun z=>by
   obtain⟨⟨f,j,_⟩,_⟩:=hw.keep (a.trans (e2.trans c))
   grind
  have l:na≠wl':=fun z=>by
   obtain⟨⟨f,j,_⟩,_⟩:=hw'.keep c
   grind
  have k:wl≠wl':=fun z=>by
   obtain⟨⟨f,j,_⟩,_⟩:=hw.keep a
   grind
  simp_all
noncomputable def Xs1 (r:Rl)(ws:List Tm)(g:Tm)(on:Option Tm):Option (List Nd):=match on with
 |none=>Zv3 ws g r
 |some o=>Zq2 ws g o r
def OnV (K:W.Frag)(H:Hp)(ws:List Tm)(v:V):Option Tm->Prop
 |none=>v=.non
 |some o=>IsT K H v o/\o∈ws
noncomputable def Rl.noOn:Rl->Bool
 | .wish | .low | .both | .first | .second | .thn=>true
 | _=>false
inductive sp_by (K:W.Frag)(r:Rl):Sp
 |mk {vs H Q E:_} (wa:Addr) (gv ov:V) (ws:List Tm) (g:Tm) (on:Option Tm):vs=[.ref wa,gv,ov]->IsW K H wa ws->IsT K H gv g->OnV K H ws ov on->r.noOn=on.isNone->Okw ws->g.ok->g.parts<=100->ws.length<=900->(Xs1 r ws g on=none->∀H',Same H H'->Q .non H')->(∀nds,Xs1 r ws g on=some nds->NdsQ K H Q nds)->sp_by K r vs H Q E
inductive sp_isif (K:W.Frag):Sp
 |mk {vs H Q E:_} (v:V) (t:Tm) (x:Str):vs=[v,.str x]->IsT K H v t->Q (.bl (match t with | .nd .thn a _=>decide (a.spell.head?=some x) | _=>false)) H->sp_isif K vs H Q E
end Ken
variable {R:Option Ken.Rl}{nds:List Ken.Nd}
namespace L2
open PySem PySem.Spec PyProof.Rows
section
def Ya2 {ι:Type}(i:Nat)(f:ι->Addr)(sp:ι->Sp)(t:TA):TE:=fun σ H Q=>∃r,σ[i]?=some (some (.ref (f r)))/\t σ H fun vs H1=>sp r vs H1 Q (fun _ _ _=>False)
theorem Xr7 {ι:Type}{k:Nat}{f:ι->Addr}{fd:ι->yq}{sp:ι->Sp}{p:Pos}{e:Expr}{es:List Expr}{t:TA}{i:Nat}(F:∀r,FnOk X.prog X.w X.K X.mg X.base (fun _ _ _ _ _ _=>False) k (f r) (fd r) ps (sp r))(hr:Room k X.A)(hN:X.N[i]?=some x)(hk:∀r,ybd X.K (.ref (f r))=true)(hb:∀r,Binds X.K (fd r) ps [])(ha:PA X (e::es) t)(hv:Vis X.env.scope x:=by first | exact .inl rfl | exact .inr (.inl rfl) | exact .inr (.inr rfl))(hdb:(x == ("__debug__":Str))=false:=by decide)(hcd:(x == ("__classdict__":Str))=false:=by decide)(he:zx (e::es) X.env=(false,eval e X.env)::zx es X.env:=by rfl)(hpl:(backTo pos (zx es X.env)).any (·.1)=false:=by rfl):
  PE X (.Call (.Name x p) (e::es) [] pos) (Ya2 i f sp t):=by with_unfolding_all
 intro a s b H Q I h;obtain⟨r,c,l⟩:=h;refine Yg7 (F r) hr hN hv (hk r) (hb r) .nil (E:=fun _ _ _=>False) (fun a b H s e j _ z=>z.elim) ha hdb hcd he hpl a s b H Q I ⟨c,?_⟩;show t b H fun g d=>sp r _ d Q _
 simp_all
end
end L2
namespace Ken
open PySem L2
noncomputable def all14:List Rl:=[.wish,.low,.both,.first,.second,.thn,.parts,.cases,.known,.curried,.either,.idle,.chain,.use]
theorem Yh0 {l:List Tm}:(norm l).length<=l.length:=Zj0 (Zo9 (Zd0 _)) fun _ h=>mem_norm.mp h
theorem Zu9 {ws:List Tm}{o:Tm}(hn:ws.Nodup)(h:o∈ws):(rem ws o).length+1<=ws.length:=by
 have  := Zj0 (yaq.mpr ⟨fun z=>(mem_rem.mp z).2 rfl,hn.filter _⟩) fun x a=>(yk.mp a).elim (fun z=>z▸h) fun z=>(mem_rem.mp z).1;omega
structure NdOk (ws:List Tm)(n:Nd):Prop where
 ok:Okw n.1
 gok:n.2.ok/\n.2.parts<=100
 rise:Zd7 n.1
 len:n.1.length<=ws.length+1
theorem Xi2 {r:Rl}{ws:List Tm}{g:Tm}{on:Option Tm}(hs:Zd7 ws)(hok:Okw ws)(gk:g.ok/\g.parts<=100)(hon:∀o,on=some o->o∈ws)(h:Xs1 r ws g on=some nds):∀n∈nds,NdOk ws n:=by
 have hnd:=Zo9 hs;have pl:∀{t:Tm},t.ok/\t.parts<=100->NdOk ws (ws,t):=fun ht=>⟨hok,ht,hs,ycp _⟩
 have kid:∀{k:Kd} {a b:Tm},(Tm.nd k a b).ok/\(Tm.nd k a b).parts<=100->(a.ok/\a.parts<=100)/\(b.ok/\b.parts<=100):=fun {k a b} ht=>by
  have h1:1+a.parts+b.parts<=100:=ht.2;exact⟨⟨ht.1.1,by omega⟩,⟨ht.1.2,by omega⟩⟩
 have nm:∀{l:List Tm} {t:Tm},(∀x∈l,x.ok/\x.parts<=100)->l.length<=ws.length+1->t.ok/\t.parts<=100->NdOk ws (norm l,t):=fun hl hlen ht=>⟨fun x hx=>hl x (mem_norm.mp hx),ht,Zd0 _,zi Yh0 hlen⟩
 cases on with
 |none =>
  have h':Zv3 ws g r=some nds:=h
  cases r with
  |wish=>simp only[Zv3] at h';split at h'<;>cases h';intro n hn;simp at hn
  |low=>simp only[Zv3] at h';split at h'<;>cases h';intro n hn;simp at hn
  |both =>
   simp[Zv3] at h'
   split at h'
   ·cases h'
    intro n hn;rcases yk.mp hn with z | z
    ·rw[z];exact pl (kid gk).1
    ·rw[zb.mp z];exact pl (kid gk).2
   ·cases h'
  |first =>
   simp[Zv3] at h'
   split at h'
   ·cases h';intro n hn;rw[zb.mp hn];exact pl (kid gk).1
   ·cases h'
  |second =>
   simp[Zv3] at h'
   split at h'
   ·cases h';intro n hn;rw[zb.mp hn];exact pl (kid gk).2
   ·cases h'
  |thn =>
   simp[Zv3] at h'
   split at h'
   ·cases h';intro n hn;rw[zb.mp hn]
    refine nm (fun x hx=>?_) (by simp) (kid gk).2;rcases yd.mp hx with z | z
    ·exact hok x z
    ·rw[zb.mp z];exact (kid gk).1
   ·cases h'
  | _=>cases h'
 |some o =>
  have ho:=hon o rfl;have oo:=hok o ho;have hl:=Zu9 hnd ho;have h':Zq2 ws g o r=some nds:=h
  have one:∀{x t:Tm},x.ok/\x.parts<=100->t.ok/\t.parts<=100->NdOk ws (norm (rem ws o++[x]),t):=fun {x t} hx ht=>nm (fun y hy=>by
   rcases yd.mp hy with z | z
   ·exact hok y (mem_rem.mp z).1
   ·rw[zb.mp z];exact hx) (by rw[zf];show _+1<=_;omega) ht
  have two:∀{x y t:Tm},x.ok/\x.parts<=100->y.ok/\y.parts<=100->t.ok/\t.parts<=100->NdOk ws (norm (rem ws o++[x,y]),t):=fun {x y t} hx hy ht=>nm (fun w hw=>by
   rcases yd.mp hw with z | z
   ·exact hok w (mem_rem.mp z).1
   ·rcases yk.mp z with z | z
    ·rw[z];exact hx
    ·rw[zb.mp z];exact hy) (by rw[zf];show _+2<=_;omega) ht
  cases r with
  |parts =>
   simp[Zq2] at h'
   split at h'
   ·cases h';intro n hn;rw[zb.mp hn];exact two (kid oo).1 (kid oo).2 gk
   ·cases h'
  |cases =>
   simp[Zq2] at h'
   split at h'
   ·cases h'
    intro n hn;rcases yk.mp hn with z | z
    ·rw[z];exact one (kid oo).1 gk
    ·rw[zb.mp z];exact one (kid oo).2 gk
   ·cases h'
  |known =>
   simp[Zq2] at h'
   split at h'
   ·split at h'
    ·cases h';intro n hn;rw[zb.mp hn];exact one (kid oo).2 gk
    ·cases h'
   ·cases h'
  |curried =>
   simp[Zq2] at h'
   split at h'
   ·rename_i x y c
    cases h';intro n hn;rw[zb.mp hn];have h1:1+(1+x.parts+y.parts)+c.parts<=100:=oo.2;exact one ⟨⟨oo.1.1.1,oo.1.1.2,oo.1.2⟩,by show 1+x.parts+(1+y.parts+c.parts)<=100;omega⟩ gk
   ·cases h'
  |either =>
   simp[Zq2] at h'
   split at h'
   ·rename_i x y c
    cases h';intro n hn;rw[zb.mp hn];have h1:1+(1+x.parts+y.parts)+c.parts<=100:=oo.2;exact two ⟨⟨oo.1.1.1,oo.1.2⟩,by show 1+x.parts+c.parts<=100;omega⟩ ⟨⟨oo.1.1.2,oo.1.2⟩,by show 1+y.parts+c.parts<=100;omega⟩ gk
   ·cases h'
  |idle =>
   simp[Zq2] at h'
   split at h'
   ·cases h';intro n hn;rw[zb.mp hn]
    exact nm (fun x hx=>hok x (mem_rem.mp hx).1) (by omega) gk
   ·cases h'
  |chain =>
   simp[Zq2] at h'
   split at h'
   ·rename_i x y c
    cases h';have h1:1+(1+x.parts+y.parts)+c.parts<=100:=oo.2;intro n hn;rcases yk.mp hn with z | z
    ·rw[z];exact one ⟨⟨oo.1.1.2,oo.1.2⟩,by show 1+y.parts+c.parts<=100;omega⟩ ⟨oo.1.1,by show 1+x.parts+y.parts<=100;omega⟩
    ·rw[zb.mp z];exact one (kid oo).2 gk
   ·cases h'
  |use =>
   simp[Zq2] at h'
   split at h'
   ·cases h'
    intro n hn;rcases yk.mp hn with z | z
    ·rw[z];exact pl (kid oo).1
    ·rw[zb.mp z]
     refine nm (fun x hx=>?_) (by simp) gk;rcases yd.mp hx with z | z
     ·exact hok x z
     ·rw[zb.mp z];exact (kid oo).2
   ·cases h'
  | _=>cases h'
noncomputable def onD:Option Tm->PyData
 |none=>.none
 |some o=>o.data
end Ken
namespace L2
open PySem PySem.Spec PyProof.Rows
end L2
namespace Ken
open PySem L2
theorem Zd5:∀t:Tm,t.deep<=t.parts
 | .low=>yo _
 | .ltr _=>yo _
 | .nd _ a b=>by
  have:=Zd5 a;have:=Zd5 b;show 1+max _ _<=1+a.parts+b.parts;omega
inductive sp_onceL (K:W.Frag):Sp
 |mk {vs H Q E:_} (a:Addr) (us:List V) (ts:List Tm):vs=[.ref a]->H a=some (.lst us)->Paired (IsT K H) us ts->Okw ts->ts.length < 64->(∀(r:Addr) (H':Hp),Same H H'->H r=none->IsW K H' r (norm ts)->Q (.ref r) H')->sp_onceL K vs H Q E
inductive sp_changedL (K:W.Frag):Sp
 |mk {vs H Q E:_} (a b:Addr) (ov:V) (o:Tm) (ws:List Tm) (us:List V) (ts:List Tm):vs=[.ref a,ov,.ref b]->IsW K H a ws->IsT K H ov o->o.ok->o.parts<=100->H b=some (.lst us)->Paired (IsT K H) us ts->Okw ws->Okw ts->ws.length+ts.length < 64->(∀(r:Addr) (H':Hp),Same H H'->H r=none->IsW K H' r (norm (rem ws o++ts))->Q (.ref r) H')->sp_changedL K vs H Q E
theorem Xt9 (xs:List V):cutV xs (some (-1)) none=xs.drop (xs.length - 1):=by
 show List.take (xs.length - (if (-1) < 0 then ((-1)+_).toNat else min (-1).toNat xs.length)) (zdm (if (-1) < 0 then ((-1)+_).toNat else min (-1).toNat xs.length) xs)=_;rw[if_pos (by decide),show ((-1:Int)+_).toNat=xs.length - 1 by omega];exact zbb (by simp)
theorem mem_last {fs:List Tm}:t∈fs.drop (fs.length - 1)↔fs.getLast?=some t:=by
 rcases List.eq_nil_or_concat fs with h | ⟨l,x,rfl⟩
 ·simp_all
 ·simp
  exact eq_comm
theorem Wb5 (h:Zd7 fs){y l:Tm}(hy:y∈fs)(hl:fs.getLast?=some l):y=l∨ltT y l=true:=by
 rcases List.eq_nil_or_concat fs with e | ⟨m,x,rfl⟩
 ·simp_all
 ·rw[List.concat_eq_append] at *
  have:x=l:=by simp_all
  subst this;rcases yd.mp hy with z | z
  ·exact .inr ((ybq.mp h).2.2 y z x (by simp))
  ·exact .inl (zb.mp z)
end Ken
namespace L2
open PySem PySem.Spec PyProof.Rows
section
theorem Zk0 {K:W.Frag}(e:X.K=K)(hu:X.A.units+150 < cLine):OpR X (yaj .NotEq) (rEqD K true):=e▸Zw3 hu
end
end L2
namespace Ken
open PySem L2
theorem Zw6 (kk:Kd){v:V}{g:Tm}(h:IsT K H v g):(∃a b p x y,g=.nd kk a b/\v=.ref p/\SqT K H p [.str kk.str,x,y]/\IsT K H x a/\IsT K H y b)∨(∃p x xs,v=.ref p/\SqT K H p (.str x::xs)/\x≠kk.str/\∀a b,g≠.nd kk a b):=by
 cases g with
 |low =>
  obtain⟨p,rfl,c⟩:=isT_low.mp h;exact .inr ⟨p,_,_,rfl,c,by cases kk<;>decide,fun _ _ z=>nomatch z⟩
 |ltr y =>
  obtain⟨p,rfl,c⟩:=isT_ltr.mp h;exact .inr ⟨p,_,_,rfl,c,by cases kk<;>decide,fun _ _ z=>nomatch z⟩
 |nd k a b =>
  obtain⟨p,x,y,rfl,c,f,d⟩:=isT_nd.mp h
  by_cases e:k=kk
  ·subst e;exact .inl ⟨a,b,p,x,y,rfl,rfl,c,f,d⟩
  ·exact .inr ⟨p,_,_,rfl,c,by revert e;cases k<;>cases kk<;>decide,fun _ _ z=>by grind⟩
end Ken
namespace L2
open PySem PySem.Spec PyProof.Rows
end L2
namespace Ken
open PySem L2
inductive sp_wish23 (K:W.Frag):Sp
 |mk {vs H Q E:_} (c:Int) (wa:Addr) (ws:List Str):vs=[.int c,.ref wa]->0<=c->SqL K H wa (ws.map V.str)->Yi8 ws->(∀(v:V) (H':Hp) (t:Tm),Same H H'->IsT K H' v t->t.ok->t.parts<=11->Q v H')->sp_wish23 K vs H Q E
noncomputable def badN:List Str:=["cut","","Wish","wishes"]
def RIs (x:Str):Option Rl->Prop
 |some r=>x=r.str
 |none=>x∈badN
theorem Wd5 (h:x∈badN):(reprText x).length<=100:=by
 revert x;decide +kernel
noncomputable def Wo4 (ws:List Tm)(g:Tm):Option Rl->Option (List Nd)
 |some r=>Zv3 ws g r
 |none=>none
noncomputable def Yk8 (ws:List Tm)(g o:Tm):Option Rl->Option (List Nd)
 |some r=>Zq2 ws g o r
 |none=>none
noncomputable def Zm7 (R:Option Rl)(ws:List Tm)(g:Tm):Option Tm->Option (List Nd)
 |none=>Wo4 ws g R
 |some o=>if o∈ws then Yk8 ws g o R else none
def OnX (K:W.Frag)(H:Hp)(v:V):Option Tm->Prop
 |none=>v=.non
 |some o=>IsT K H v o/\o.ok/\o.parts<=100
theorem OnX.keep {K:W.Frag}(e:KeepT K H H'){v:V}(h:OnX K H v on):OnX K H' v on:=by
 cases on with
 |none=>exact h
 |some o=>exact⟨h.1.keep e,h.2⟩
noncomputable def Yg9 (R:Rl)(ws:List Tm):Option Tm->Bool
 |none=>R.noOn
 |some o=>!R.noOn&&decide (o∈ws)
inductive sp_hason (K:W.Frag):Sp
 |mk {vs H Q E:_} (r:Rl) (wa:Addr) (ov:V) (ws:List Tm) (on:Option Tm):vs=[.str r.str,.ref wa,ov]->IsW K H wa ws->OnX K H ov on->Okw ws->ws.length<=1000->(∀H',Same H H'->Q (.bl (Yg9 r ws on)) H')->sp_hason K vs H Q E
inductive sp_needs (K:W.Frag)(C:Addr):Sp
 |mk {vs H Q E:_} (x:Str) (R:Option Rl) (wa:Addr) (gv ov:V) (ws:List Tm) (g:Tm) (on:Option Tm):vs=[.str x,.ref wa,gv,ov]->RIs x R->IsW K H wa ws->IsT K H gv g->OnX K H ov on->Okw ws->g.ok->g.parts<=100->ws.length<=900->(Zm7 R ws g on=none->∀e H',Xtd H e (.ref C) none H'->E (.ref e) none H')->(∀nds,Zm7 R ws g on=some nds->NdsQ K H Q nds)->sp_needs K C vs H Q E
theorem Xi4 {r:Rl}{ws:List Tm}{g:Tm}(h:Yg9 r ws on=true):Zm7 (some r) ws g on=Xs1 r ws g on/\r.noOn=on.isNone/\∀o,on=some o->o∈ws:=by
 cases on with
 |none=>exact⟨rfl,h,fun o z=>nomatch z⟩
 |some o =>
  have b:=ycj.mp (show _=true from h);have a  := of_decide_eq_true b.2;refine⟨by show (if o∈ws then _ else _)=_;rw[if_pos a];rfl,by grind,fun c z=>by simp_all⟩
theorem Yq1 {r:Rl}{ws:List Tm}{g:Tm}(h:Yg9 r ws on=false):Zm7 (some r) ws g on=none:=by
 cases on with
 |none =>
  revert h
  cases r<;>intro h<;>first | rfl | cases h
 |some o =>
  show (if o∈ws then Zq2 ws g o r else none)=none
  by_cases hin:o∈ws
  ·rw[if_pos hin]
   revert h;show (!r.noOn&&decide _)=false->_;rw[decide_eq_true hin]
   cases r<;>intro h<;>first | rfl | cases h
  simp_all
theorem Zk6 :∀{l:List α} {m:List β} (n:Nat),Paired F l m->Paired F (l.drop n) (m.drop n)
 | _,_,0,h=>h
 | _,_,_+1,.nil=>.nil
 | _,_,n+1,.cons _ t=>Zk6 n t
theorem Xm4 (xs:List V)(j:Nat):cutV xs (some ((j:Int)+1)) none=xs.drop (j+1):=by
 have e:HT.sIx xs.length 0 (some (j+1))=min (j+1) xs.length:=by
  rfl
 unfold cutV;rw[e,show HT.sIx _ _ _=xs.length from rfl];rcases Nat.le_total _ _ with h | h
 ·rw[Nat.min_eq_left h]
  exact zbb (by simp)
 simp_all
structure Ln where
 x:Str
 R:Option Rl
 ws:List Tm
 g:Tm
 on:Option Tm
 ls:List Int
def IsLn (K:W.Frag)(H:Hp)(v:V)(l:Ln):Prop:=∃(p wa la:Addr) (gv ov:V) (us:List V),v=.ref p/\SqT K H p [.str l.x,.ref wa,gv,ov,.ref la]/\H wa=some (.lst us)/\Paired (IsT K H) us l.ws/\IsT K H gv l.g/\OnX K H ov l.on/\H la=some (.lst (l.ls.map V.int))
theorem IsLn.keep {K:W.Frag}(e:Same H H'){v:V}{l:Ln}(h:IsLn K H v l):IsLn K H' v l:=by
 obtain⟨p,a,d,n,c,b,rfl,m,k,j,i,g,f⟩:=h;exact⟨p,a,d,n,c,b,rfl,e.sqt m,e _ _ k,Za8 e.keepT j,i.keep e.keepT,g.keep e.keepT,e _ _ f⟩
def IsLnF (K:W.Frag)(H0 H:Hp)(v:V)(l:Ln):Prop:=∃(p wa la:Addr) (gv ov:V) (us:List V),v=.ref p/\SqT K H p [.str l.x,.ref wa,gv,ov,.ref la]/\H wa=some (.lst us)/\Paired (IsT K H) us l.ws/\IsT K H gv l.g/\OnX K H ov l.on/\H la=some (.lst (l.ls.map V.int))/\H0 wa=none/\H0 la=none
theorem IsLnF.ln {v:V}{l:Ln}(h:IsLnF K H0 H v l):IsLn K H v l:=by
 obtain⟨p,a,d,m,c,b,rfl,k,j,i,g,f,e,_,_⟩:=h;exact⟨p,a,d,m,c,b,rfl,k,j,i,g,f,e⟩
theorem IsLnF.keep {K:W.Frag}(e:Same H H'){v:V}{l:Ln}(h:IsLnF K H0 H v l):IsLnF K H0 H' v l:=by
 obtain⟨p,a,g,q,c,b,rfl,o,n,m,k,j,i,f,d⟩:=h;exact⟨p,a,g,q,c,b,rfl,e.sqt o,e _ _ n,Za8 e.keepT m,k.keep e.keepT,j.keep e.keepT,e _ _ i,f,d⟩
theorem IsLnF.mono (e:Same H0 H1){v:V}{l:Ln}(h:IsLnF K H1 H v l):IsLnF K H0 H v l:=by
 obtain⟨p,a,g,q,c,b,rfl,o,n,m,k,j,i,f,d⟩:=h;exact⟨p,a,g,q,c,b,rfl,o,n,m,k,j,i,e.free f,e.free d⟩
abbrev IsLns (K:W.Frag)(H:Hp):List V->List Ln->Prop:=Paired (IsLn K H)
theorem IsLns.keep {K:W.Frag}(e:Same H H')(h:IsLns K H vs L):IsLns K H' vs L:=Paired.mapP h fun _ _ q=>q.keep e
structure OkLn (l:Ln):Prop where
 r:RIs l.x l.R
 w:Okw l.ws
 wl:l.ws.length<=60
 g:l.g.ok
 gp:l.g.parts<=100
 ll:l.ls.length<=100
noncomputable def adjB:List Tm->Bool
 |a::b::r=>decide (cmpT a b < 0)&&adjB (b::r)
 | _=>true
theorem adjB_iff:∀{ws:List Tm},adjB ws=true↔Zd7 ws
 | []=>⟨fun _=>.nil,fun _=>rfl⟩
 | [a]=>⟨fun _=>yam _ _,fun _=>rfl⟩
 |a::b::r=>by
  show (decide _&&adjB _)=true↔_;rw[zo,decide_eq_true_iff,adjB_iff,Xn1];constructor
  ·rintro⟨h1,h2⟩
   refine zat.mpr ⟨fun x hx=>?_,h2⟩;rcases yk.mp hx with z | z
   ·simp_all
   ·exact Zi8 h1 ((zat.mp h2).1 x z)
  ·intro h
   have h':=zat.mp h;exact⟨h'.1 b zr,h'.2⟩
theorem Yw9:∀(ws:List Tm),(zu (fun a b=>decide (cmpT a b < 0)) ws ws.tail).all id=adjB ws
 | []=>rfl
 | [_]=>rfl
 |a::b::r=>by
  show (decide _&&(zu _ _ (b::r).tail).all id)=_;rw[Yw9 _];rfl
noncomputable def Yo9 (m:Ln)(ws:List Tm)(nd:Nd):Bool:=decide (m.g=nd.2)&&m.ws.all fun t=>decide (t∈nd.1)||decide (t∈ws)
noncomputable def Zq3 (L:List Ln)(ws:List Tm)(j:Int)(nd:Nd):Bool:=match L[j.toNat]? with
 |none=>false
 |some m=>Yo9 m ws nd
noncomputable def Zm0 (L:List Ln)(i:Nat)(l:Ln):Bool:=adjB l.ws&&match Zm7 l.R l.ws l.g l.on with
 |none=>false
 |some nds=>decide (nds.length=l.ls.length)&&((l.ls.all fun j=>decide (0<=j)&&decide (j < (i:Int)))&&(zu (Zq3 L l.ws) l.ls nds).all id)
noncomputable def Zk2 (L:List Ln)(i:Nat):Bool:=match L[i]? with
 |none=>false
 |some l=>Zm0 L i l
theorem Xs0 {ws:List Tm}{g:Tm}(hs:Zd7 ws)(hok:Okw ws)(gk:g.ok/\g.parts<=100)(h:Zm7 R ws g on=some nds):∀n∈nds,NdOk ws n:=by
 cases R with
 |none =>
  cases on with
  |none=>cases h
  |some o =>
   have a:(if o∈ws then Yk8 ws g o _ else none)=some nds:=h
   split at a<;>cases a
 |some r =>
  cases on with
  |none=>exact Xi2 (on:=none) hs hok gk (fun o z=>nomatch z) h
  |some o =>
   have a:(if o∈ws then Yk8 ws g o _ else none)=some nds:=h
   by_cases hin:o∈ws
   ·rw[if_pos hin] at a
    exact Xi2 (on:=some o) hs hok gk (fun b z=>by grind) a
   simp_all
inductive sp_arew (K:W.Frag):Sp
 |mk {vs H Q E:_} (a:Addr) (us:List V) (ts:List Tm):vs=[.ref a]->H a=some (.lst us)->Paired (IsT K H) us ts->Okw ts->ts.length<=900->(∀H',Same H H'->Q (.bl (adjB ts)) H')->sp_arew K vs H Q E
inductive sp_nby (K:W.Frag):Sp
 |mk {vs H Q E:_} (v:V) (l:Ln):vs=[v]->IsLn K H v l->OkLn l->Zd7 l.ws->(Zm7 l.R l.ws l.g l.on=none->∀H',Same H H'->Q .non H')->(∀nds,Zm7 l.R l.ws l.g l.on=some nds->NdsQ K H Q nds)->sp_nby K vs H Q E
inductive sp_serves (K:W.Frag):Sp
 |mk {vs H Q E:_} (v nv:V) (wa:Addr) (m:Ln) (ws:List Tm) (o:ONd):vs=[v,.ref wa,nv]->IsLn K H v m->OkLn m->IsW K H wa ws->Okw ws->ws.length<=900->IsNdO K H nv o->Okw o.2.1->o.2.1.length<=900->o.2.2.ok->(∀H',Same H H'->Q (.bl (Yo9 m ws o.2)) H')->sp_serves K vs H Q E
inductive sp_isgood (K:W.Frag):Sp
 |mk {vs H Q E:_} (a:Addr) (us:List V) (L:List Ln) (i:Nat):vs=[.ref a,.int (i:Nat)]->H a=some (.lst us)->IsLns K H us L->(∀l∈L,OkLn l)->i < L.length->L.length<=200->(∀H',Same H H'->Q (.bl (Zk2 L i)) H')->sp_isgood K vs H Q E
inductive sp_partsL (K:W.Frag)(n:Nat):Sp
 |mk {vs H Q E:_} (v:V) (t:Tm):vs=[v]->IsT K H v t->t.deep < n->(∀H',Same H H'->Q (.int (t.parts:Nat)) H')->sp_partsL K n vs H Q E
inductive sp_pick (K:W.Frag):Sp
 |mk {vs H Q E:_} (a:Addr) (c:Int) (ov:V) (us:List V) (ts:List Tm) (o:Tm):vs=[.ref a,.int c,ov]->H a=some (.lst us)->Paired (IsT K H) us ts->Okw ts->IsT K H ov o->(∀(r:V) (t:Tm) (H':Hp),Same H H'->IsT K H' r t->(t=o∨t∈ts)->Q r H')->sp_pick K vs H Q E
noncomputable def Zk4:Tm->Str
 | .low=>"low"
 | .ltr _=>"letter"
 | .nd k _ _=>k.str
theorem Zl8 {v:V}(h:IsT K H v t):∃p xs,v=.ref p/\SqT K H p (.str (Zk4 t)::xs):=by
 cases t with
 |low=>obtain⟨p,rfl,c⟩:=isT_low.mp h;exact⟨p,_,rfl,c⟩
 |ltr y=>obtain⟨p,rfl,c⟩:=isT_ltr.mp h;exact⟨p,_,rfl,c⟩
 |nd k a b=>obtain⟨p,x,y,rfl,c,_⟩:=isT_nd.mp h;exact⟨p,_,rfl,c⟩
theorem Zl9 (h:Zk4 t="then"):∃a b,t=.nd .thn a b:=by
 cases t with
 |low=>exact absurd h (by decide)
 |ltr y=>exact absurd (show ("letter":Str)="then" from h) (by decide)
 |nd k a b =>
  have c:k.str="then":=h
  cases k with
  |thn=>exact⟨a,b,rfl⟩
  |both=>exact absurd c (by decide)
  |one=>exact absurd c (by decide)
theorem Xa2 (h:Zk4 t="both"):∃a b,t=.nd .both a b:=by
 cases t with
 |low=>exact absurd h (by decide)
 |ltr y=>exact absurd (show ("letter":Str)="both" from h) (by decide)
 |nd k a b =>
  have c:k.str="both":=h
  cases k with
  |both=>exact⟨a,b,rfl⟩
  |thn=>exact absurd c (by decide)
  |one=>exact absurd c (by decide)
def Ye7 (on:Option Tm)(x:Str)(l:Ln):Prop:=match on with
 |some t=>l.g=t
 |none=>Zk4 l.g=x
inductive sp_found (K:W.Frag):Sp
 |mk {vs H Q E:_} (a:Addr) (us:List V) (L:List Ln) (st:Int) (gv:V) (on:Option Tm) (x:Str):vs=[.ref a,.int st,gv,.str x]->H a=some (.lst us)->IsLns K H us L->(∀l∈L,OkLn l)->L.length<=200->OnX K H gv on->((∀l∈L,¬Ye7 on x l)->∀H',Same H H'->Q .non H')->(∀n l,L[n]?=some l->Ye7 on x l->∀H',Same H H'->Q (.int (n:Nat)) H')->sp_found K vs H Q E
structure OkL9 (l:Ln):Prop where
 ok:OkLn l
 w9:l.ws.length<=9
 w40:∀t∈l.ws,t.parts<=40
 g40:l.g.parts<=40
structure GL (L:List Ln):Prop where
 good:∀i,i < L.length->Zk2 L i=true
 ok:∀l∈L,OkL9 l
 len:L.length<=150
structure NewL (L:List Ln)(l:Ln):Prop where
 ok:OkLn l
 good:Zm0 L L.length l=true
def S40 (t:Tm):Prop:=t.ok/\t.parts<=40
inductive sp_bygoal (K:W.Frag):Sp
 |mk {vs H Q E:_} (a:Addr) (us:List V) (L:List Ln) (c:Int) (i j:Nat) (ev:V) (ex:Tm):vs=[.ref a,.int c,.int (i:Nat),.int (j:Nat),ev]->H a=some (.lst us)->IsLns K H us L->GL L->i < L.length->j < L.length->IsT K H ev ex->S40 ex->(∀(v:V) (l:Ln) (H':Hp),Same H H'->IsLnF K H H' v l->NewL L l->Q v H')->sp_bygoal K vs H Q E
inductive sp_byif (K:W.Frag):Sp
 |mk {vs H Q E:_} (a:Addr) (us:List V) (L:List Ln) (c:Int) (i:Nat) (v1 v2 ev:V) (o1 o2 ex:Tm):vs=[.ref a,.int c,.int (i:Nat),v1,v2,ev]->H a=some (.lst us)->IsLns K H us L->GL L->i < L.length->IsT K H v1 o1->IsT K H v2 o2->IsT K H ev ex->S40 o1->S40 o2->ex.ok->ex.parts<=3->(∀(v:V) (l:Ln) (H':Hp),Same H H'->IsLnF K H H' v l->NewL L l->Q v H')->sp_byif K vs H Q E
inductive sp_bytwo (K:W.Frag):Sp
 |mk {vs H Q E:_} (a:Addr) (us:List V) (L:List Ln) (c:Int) (i j:Nat) (v1 ev:V) (o1 ex:Tm):vs=[.ref a,.int c,.int (i:Nat),.int (j:Nat),v1,ev]->H a=some (.lst us)->IsLns K H us L->GL L->i < L.length->j < L.length->IsT K H v1 o1->IsT K H ev ex->S40 o1->S40 ex->(∀(v:V) (l:Ln) (H':Hp),Same H H'->IsLnF K H H' v l->NewL L l->Q v H')->sp_bytwo K vs H Q E
inductive sp_next (K:W.Frag):Sp
 |mk {vs H Q E:_} (a wa:Addr) (us:List V) (L:List Ln) (c:Int) (ws:List Str):vs=[.ref a,.int c,.ref wa]->H a=some (.lst us)->IsLns K H us L->GL L->L≠[]->0<=c->SqL K H wa (ws.map V.str)->Yi8 ws->(∀(v:V) (l:Ln) (H':Hp),Same H H'->IsLnF K H H' v l->NewL L l->OkL9 l->Q v H')->sp_next K vs H Q E
inductive sp_built (K:W.Frag):Sp
 |mk {vs H Q E:_} (a wa:Addr) (ns:List Int) (st most:Int) (ws:List Str):vs=[.ref a,.int st,.int most,.ref wa]->SqL K H a (ns.map V.int)->ns.length<=63->0<=st->st<=10->0<=most->most<=60->SqL K H wa (ws.map V.str)->Yi8 ws->(∀(r:Addr) (us:List V) (L:List Ln) (H':Hp),Same H H'->H r=none->H' r=some (.lst us)->IsLns K H' us L->GL L->L≠[]->Q (.ref r) H')->sp_built K vs H Q E
inductive sp_copyL (K:W.Frag):Sp
 |mk {vs H Q E:_} (a:Addr) (us:List V) (L:List Ln):vs=[.ref a]->H a=some (.lst us)->IsLns K H us L->(∀l∈L,OkLn l)->L.length<=200->(∀(r:Addr) (ys:List V) (H':Hp),Same H H'->H r=none->H' r=some (.lst ys)->IsLns K H' ys L->Q (.ref r) H')->sp_copyL K vs H Q E
theorem Yx6 {α:Type}{l:List α}{t:α}(h:l[i]?=some t):l.take (i+1)=l.take i++[t]:=by rw[ybh,h];rfl
theorem Xj5 {L M:List Ln}{ws:List Tm}{j:Int}(h:j.toNat < L.length):Zq3 (L++M) ws j nd=Zq3 L ws j nd:=by unfold Zq3;rw[zz h]
theorem Ym2 {L M:List Ln}{l:Ln}(hi:i<=L.length):Zm0 (L++M) i l=Zm0 L i l:=by
 unfold Zm0
 cases Zm7 l.R _ l.g _ with
 |none=>rfl
 |some nds =>
  dsimp only
  by_cases h:(l.ls.all fun j=>decide (0<=j)&&decide (j < i))=true
  ·have c:∀(a:List Int) (nds:List Nd),(a.all fun j=>decide (0<=j)&&decide (j < i))=true->zu (Zq3 (L++M) l.ws) a nds=zu (Zq3 L l.ws) a nds:=by
    intro a
    induction a with
    |nil=>simp
    |cons j a ih =>
     intro nds b;rw[List.all_cons,zo,zo,decide_eq_true_iff,decide_eq_true_iff] at b
     cases nds with
     |nil=>rfl
     |cons nd nds =>
      rw[List.zipWith_cons_cons,List.zipWith_cons_cons,ih nds b.2,Xj5 (by omega)]
   rw[c _ _ h]
  grind
theorem Xj4 {L M:List Ln}(h:i < L.length):Zk2 (L++M) i=Zk2 L i:=by
 unfold Zk2;rw[zz h,za h];exact Ym2 (zk h)
theorem GL.snoc {L:List Ln}{l:Ln}(G:GL L)(h:NewL L l)(h9:OkL9 l)(hl:L.length < 150):GL (L++[l]):=by
 refine⟨fun i b=>?_,fun m a=>?_,by rw[zf,zd];omega⟩
 ·rw[zf,zd] at b
  rcases Nat.lt_or_ge i _ with z | z
  ·rw[Xj4 z];exact G.good i z
  ·have:i=L.length:=by omega
   subst this;unfold Zk2;rw[yah (by simp),Nat.sub_self];show Zm0 _ _ l=true;rw[Ym2 (by simp)];exact h.good
 ·rcases yd.mp a with z | z
  ·exact G.ok m z
  simp_all
theorem Yv0 {xs ys:List V}(Pv:Nat->List V->Hp->Prop)(n:Nat)(hn:n=min xs.length ys.length)(h0:Pv 0 [] (upd H acc (.lst [])))(hl:∀i zs H2,i<=n->Pv i zs H2->H2 acc=some (.lst zs)/\zs.length < zp/\SqL K H2 a xs/\SqL K H2 b ys)(hs:∀i x y zs H2 T,xs[i]?=some x->ys[i]?=some y->H2 T=none->Pv i zs H2->∀C:VK,(∀v H5,H5 acc=some (.lst zs)->Pv (i+1) (zs++[v]) (upd H5 acc (.lst (zs++[v])))->C v H5)->g (.ref T) σ0 (upd H2 T (.tup [x,y])) fun σ4 H4=>Wk σ0 σ4/\te σ4 H4 C)(hd:∀zs H2,Pv n zs H2->Q (.ref acc) H2):
  ∃W:Nat->Nat->List V->Hp->Prop,(∃m,W 0 m [] (upd H acc (.lst [])))/\lcW K σ0 (Itz K a b) acc g te Q W:=by
 refine⟨fun i m zs H2=>m=n - i/\i<=n/\Pv i zs H2,⟨n,by simp,yz _,h0⟩,?_⟩;rintro i m zs H2 ⟨rfl,j,p⟩;obtain⟨r,q,h,f⟩:=hl i zs H2 j p;refine⟨r,q,?_⟩
 by_cases hlt:i < n
 ·have o:i < xs.length:=by omega
  have l:i < ys.length:=by omega
  refine .inr ⟨⟨xs,ys,xs[i],ys[i],h,f,za o,za l⟩,fun v s z=>?_⟩;obtain⟨T,x,y,rfl,k,rfl,d,c⟩:=z;exact hs i x y zs _ T (d xs h) (c ys f) k p _ fun v H5 d c=>⟨d,n - _,by omega,rfl,hlt,c⟩
 ·have e:i=n:=by omega
  subst e;exact .inl ⟨⟨xs,ys,h,f,by omega⟩,hd zs H2 p⟩
def kn (ws:List Wd)(t:Tm)(n:Nat):Prop:=tg (tr ws t) n=true
inductive Rch (ws:List Wd)(n:Nat):Nat->Prop
 |refl:Rch ws n n
 |step {m j:Nat}:Rch ws n j->bef ws m=some j->Rch ws n m
theorem Rch.from {n m:Nat}(hb:bef ws j=some n)(h:Rch ws j m):Rch ws n m:=by
 induction h with
 |refl=>exact .step .refl hb
 |step _ h2 ih=>exact .step ih h2
section
variable (hg:Zq4 ws)(hp:Yk4 ws)include hg
theorem Rch.lt {n m:Nat}(hn:n < ws.length)(h:Rch ws n m):m < ws.length:=by
 induction h with
 |refl=>omega
 |step _ h2 _=>exact (Zx1 hg h2).1
theorem Wp1 (hn:n < ws.length):¬kn ws .low n:=fun h=>by
 unfold kn at h;rw[show tr ws .low=ws.map fun _=>false from rfl,Ys9 (za hn)] at h;cases h
theorem Yr0 {a b:Tm}(hn:n < ws.length):kn ws (.nd .both a b) n↔kn ws a n/\kn ws b n:=by
 have d:=Zf5 ws a;have c:=Zf5 ws b;unfold kn;rw[show tr ws _=zu and _ _ from rfl,Yd3 (by omega) (by omega),zo]
theorem Yl4 {a b:Tm}(hn:n < ws.length):kn ws (.nd .one a b) n↔kn ws a n∨kn ws b n:=by
 have d:=Zf5 ws a;have c:=Zf5 ws b;unfold kn;rw[show tr ws _=zu or _ _ from rfl,Yd3 (by omega) (by omega),ydg]
theorem Wc2 (a b:Tm):(ifs (tr ws a) (tr ws b)).length=ws.length:=by unfold ifs;rw[zag,Zf5,Zf5,zcd]
theorem Xw7 {a b:Tm}(hn:n < ws.length):tg (ifs (tr ws a) (tr ws b)) n=true↔(kn ws a n->kn ws b n):=by
 have d:=Zf5 ws a;have c:=Zf5 ws b;unfold kn;rw[show ifs _ _=zu _ _ _ from rfl,Yd3 (by omega) (by omega)]
 grind
theorem Zk8 {a b:Tm}(hn:n < ws.length):kn ws (.nd .thn a b) n↔∀m,Rch ws n m->kn ws a m->kn ws b m:=by
 have e:=Wc2 hg a b;constructor
 ·intro h m c
  exact (Xw7 hg (c.lt hg hn)).mp ((Zs0 hg e m).mp (by
   induction c with
   |refl=>exact h
   |step j d ih=>exact ((Zs0 hg e _).mp ih).2 _ (Zx1 hg d).1 d)).1
 ·have l:∀k n,ws.length - n<=k->n < ws.length->(∀m,Rch ws n m->kn ws a m->kn ws b m)->kn ws (.nd .thn a b) n:=by
   intro k
   induction k with
   |zero=>omega
   |succ k ih =>
    intro n j d h;refine (Zs0 hg e n).mpr ⟨(Xw7 hg d).mpr (h n .refl),fun m c f=>?_⟩;have:=Zx1 hg f;exact ih m (by omega) c fun g i=>h g (.from f i)
  exact l _ n (yo _) hn
include hp
theorem Yq9 {n m:Nat}(h:Rch ws n m)(hk:kn ws t n):kn ws t m:=by
 induction h with
 |refl=>omega
 |step _ h2 ih=>exact Xe0 hg hp t h2 ih
def Wr6 (ws:List Wd)(Γ:List Tm)(nd:Nd):Prop:=∀n,n < ws.length->(∀w∈Γ,kn ws w n)->(∀w∈nd.1,kn ws w n)->kn ws nd.2 n
theorem Wc1 (h:∀w∈l,kn ws w n):∀w∈norm l,kn ws w n:=fun w a=>h w (mem_norm.mp a)
theorem Zw7 {o:Tm}(h:∀w∈Γ,kn ws w n)(h2:∀w∈l,kn ws w n):∀w∈norm (rem Γ o++l),kn ws w n:=fun w a=>by
 rcases yd.mp (mem_norm.mp a) with z | z
 ·exact h w (mem_rem.mp z).1
 simp_all
theorem Ye5 (h:kn ws t n):∀w∈[t],kn ws w n:=by intros;simp_all
theorem Yz0 {g:Tm}(h:Zm7 R Γ g on=some nds)(hn:∀nd∈nds,Wr6 ws Γ nd):∀n,n < ws.length->(∀w∈Γ,kn ws w n)->kn ws g n:=by
 intro n ln hΓ;have up:∀m,Rch ws n m->∀w∈Γ,kn ws w m:=fun m hm w hw=>Yq9 hg hp hm (hΓ w hw);have lt:∀m,Rch ws n m->m < ws.length:=fun m hm=>hm.lt hg ln
 cases on with
 |none =>
  cases R with
  |none=>cases h
  |some r =>
   have h:Zv3 Γ g r=some nds:=h;unfold Zv3 at h
   split at h
   ·grind
   ·split at h
    ·rename_i z;exact absurd (hΓ _ z) (Wp1 hg ln)
    simp_all
   ·split at h
    ·cases h
     exact (Yr0 hg ln).mpr ⟨hn _ (.head _) n ln hΓ hΓ,hn _ (.tail _ (.head _)) n ln hΓ hΓ⟩
    simp_all
   ·split at h
    ·cases h
     exact (Yl4 hg ln).mpr (.inl (hn _ (.head _) n ln hΓ hΓ))
    simp_all
   ·split at h
    ·cases h
     exact (Yl4 hg ln).mpr (.inr (hn _ (.head _) n ln hΓ hΓ))
    simp_all
   ·split at h
    ·cases h
     refine (Zk8 hg ln).mpr fun m hm ha=>hn _ (.head _) m (lt m hm) (up m hm) fun w hw=>?_;rcases yd.mp (mem_norm.mp hw) with z | z
     ·simp_all
     simp_all
    simp_all
   simp_all
 |some o =>
  have h:(if o∈Γ then Yk8 Γ g o R else none)=some nds:=h
  split at h
  ·rename_i ho
   have ko:=hΓ o ho
   cases R with
   |none=>cases h
   |some r =>
    have h:Zq2 Γ g o r=some nds:=h;unfold Zq2 at h
    split at h
    ·split at h
     ·cases h
      obtain⟨k1,k2⟩:=(Yr0 hg ln).mp ko;refine hn _ (.head _) n ln hΓ (Zw7 hg hp hΓ fun w hw=>?_)
      grind
     simp_all
    ·split at h
     ·cases h
      rcases (Yl4 hg ln).mp ko with k1 | k1
      ·exact hn _ (.head _) n ln hΓ (Zw7 hg hp hΓ (Ye5 hg hp k1))
      ·exact hn _ (.tail _ (.head _)) n ln hΓ (Zw7 hg hp hΓ (Ye5 hg hp k1))
     simp_all
    ·split at h
     ·split at h
      ·rename_i ha
       cases h;exact hn _ (.head _) n ln hΓ (Zw7 hg hp hΓ (Ye5 hg hp ((Zk8 hg ln).mp ko n .refl (hΓ _ ha))))
      simp_all
     simp_all
    ·split at h
     ·cases h
      refine hn _ (.head _) n ln hΓ (Zw7 hg hp hΓ (Ye5 hg hp ((Zk8 hg ln).mpr fun m hm ka=>(Zk8 hg (lt m hm)).mpr fun m' hm' kb=>?_)))
      have hr:Rch ws n m':=by
       clear ka kb
       induction hm' with
       |refl=>omega
       |step _ h2 ih=>exact .step ih h2
      exact (Zk8 hg ln).mp ko m' hr ((Yr0 hg (lt m' hr)).mpr ⟨Yq9 hg hp hm' ka,kb⟩)
     simp_all
    ·split at h
     ·cases h
      refine hn _ (.head _) n ln hΓ (Zw7 hg hp hΓ fun w hw=>?_);rcases yk.mp hw with rfl | hw
      ·exact (Zk8 hg ln).mpr fun m hm ka=>(Zk8 hg ln).mp ko m hm ((Yl4 hg (lt m hm)).mpr (.inl ka))
      ·rw[zb.mp hw]
       exact (Zk8 hg ln).mpr fun m hm ka=>(Zk8 hg ln).mp ko m hm ((Yl4 hg (lt m hm)).mpr (.inr ka))
     simp_all
    ·split at h
     ·cases h
      refine hn _ (.head _) n ln hΓ (Wc1 hg hp fun w hw=>hΓ w (mem_rem.mp hw).1)
     simp_all
    ·split at h
     ·cases h
      exact hn _ (.tail _ (.head _)) n ln hΓ (Zw7 hg hp hΓ (Ye5 hg hp ((Zk8 hg ln).mp ko n .refl (hn _ (.head _) n ln hΓ (Zw7 hg hp hΓ (Ye5 hg hp ((Zk8 hg ln).mpr fun m hm kb=>(Zk8 hg ln).mp ko m hm ((Zk8 hg (lt m hm)).mpr fun m' hm' _=>Yq9 hg hp hm' kb))))))))
     simp_all
    ·split at h
     ·cases h
      have ka:=hn _ (.head _) n ln hΓ hΓ;have kb:=(Zk8 hg ln).mp ko n .refl ka;refine hn _ (.tail _ (.head _)) n ln hΓ fun w hw=>?_;rcases yd.mp (mem_norm.mp hw) with z | z
      ·simp_all
      simp_all
     simp_all
    simp_all
  simp_all
theorem Yu8 (h:∀i,i < L.length->Zk2 L i=true){l:Ln}(ih:∀(j:Nat) (m:Ln),j < i->L[j]?=some m->∀n,n < ws.length->(∀w∈m.ws,kn ws w n)->kn ws m.g n)(e:L[i]?=some l):∀n,n < ws.length->(∀w∈l.ws,kn ws w n)->kn ws l.g n:=by
 have hl:=h i (ze.mp e).1;unfold Zk2 at hl;rw[e] at hl;unfold Zm0 at hl;rw[zo] at hl;have hl:=hl.2
 split at hl
 ·cases hl
 ·rename_i nds en
  simp only[zo,decide_eq_true_eq] at hl;obtain⟨h1,h2,h3⟩:=hl;refine Yz0 hg hp en fun nd hnd=>?_;obtain⟨k,hk⟩:=List.mem_iff_getElem?.mp hnd;have lk:=(ze.mp hk).1
  have lj:k < l.ls.length:=by omega
  have hj:=za lj;have b:=yaf.mp h3 _ (List.mem_iff_getElem?.mpr ⟨k,by rw[zbc,hj,hk]⟩);have bj:=yaf.mp h2 l.ls[k] (by simp);simp at bj;have b:Zq3 L _ l.ls[k] nd=true:=b;unfold Zq3 at b
  split at b
  ·cases b
  ·rename_i m em
   unfold Yo9 at b;rw[zo] at b;intro n ln hΓ hN
   have:=ih _ m (by omega) em n ln fun w hw=>by
    have z:=yaf.mp b.2 w hw;rw[ydg] at z;rcases z with z | z
    ·simp_all
    simp_all
   rw[of_decide_eq_true b.1] at this;omega
def Xo5 (ws:List Wd)(l:Ln):Prop:=∀n,n < ws.length->(∀w∈l.ws,kn ws w n)->kn ws l.g n
theorem Yz5 (h:∀i,i < L.length->Zk2 L i=true):∀(k i:Nat) (l:Ln),i<=k->L[i]?=some l->Xo5 ws l:=by
 intro k
 induction k with
 |zero =>
  intro i l a e;exact Yu8 hg hp h (by omega) e
 |succ k ih =>
  intro i l a e;exact Yu8 hg hp h (fun j m c b=>ih j m (by omega) b) e
end
end Ken
variable {L:List Ken.Ln}
namespace L2
open PySem PySem.Spec PyProof.Rows
end L2
namespace Ken
open PySem L2
end Ken
namespace L2
open PySem PySem.Spec PyProof.Rows
structure CodeFs (vs:Array Value)(T:Addr):Prop where
 a:vs[11]?=some (.ref T)
 b:vs.getD 11 .none=.ref T
 c:∃file tf,vs.getD 18 .none=.str file tf
 d:∃flags tg,vs.getD 7 .none=.int flags tg
 e:∃inF,vs.getD 9 .none=.bool inF
 f:∃text tt,vs.getD 10 .none=.int text tt
theorem Xn0 {c T:Addr}{vs:Array Value}(l:K.lookup c=some ⟨.type "code",od,.fields vs,sl⟩)(x:CodeFs vs T)(n:c≠T)(h:Heap)(k:K.In h):W.CodeHd h c T:=by
 obtain⟨j,q,u⟩:=x.c;obtain⟨g,p,t⟩:=x.d;obtain⟨m,s⟩:=x.e;obtain⟨i,o,r⟩:=x.f;exact⟨_,vs,j,q,g,p,m,i,o,k _ _ l,rfl,rfl,x.a,x.b,u,t,s,r,n⟩
theorem Wc3 {kV:Value}{c T:Addr}(l:K.lookup f=some ⟨oc,od,.func (W.fnOf x qual (Zd8 st) (Zc6 st) (Za6 st) .none kV doc pm an (.ref c) ct),osl⟩)(cc:ycn K (.ref c) qual=true)(k:ybd K (.ref f)=true)(hC:∀h,K.In h->W.CodeHd h c T):FunT K x qual st f (W.fnOf x qual (Zd8 st) (Zc6 st) (Za6 st) .none kV doc pm an (.ref c) ct) T:=⟨⟨oc,od,kV,doc,pm,an,c,ct,osl,rfl,l,cc,hC⟩,k⟩
end L2
namespace Hd
open PySem PySem.W PySem.Calls PyProof.Rows
noncomputable abbrev pos0:Pos:=⟨0,0,0,0⟩
noncomputable def o11:Obj:={ cls:=.type "tuple",data:=.seq #[] }
noncomputable def o12:Obj:={ cls:=.none,data:=.fields #[] }
noncomputable def o13:Obj:={ cls:=.type "code",data:=.fields #[.str (zh "<module>") 182,.str (zh "<module>") 183,.str (zh "/claim/cut.py") 184,.int 1 0,.int 0 0,.int 0 0,.int 0 0,.int 0 0,.ref 11,.bool false,.int 181 0,.ref 12,.none,.none,.none,.none,.int 185 0,.int 1 0,.str (zh "/claim/cut.py") 186] }
noncomputable def o14:Obj:={ cls:=.type "frame",slots:=#[some (.ref 13),some (.ref 3),some (.ref 3),none,some (.str (zh "__main__") 164),none,some (.ref 0)] }
noncomputable def Ws5 (P:Params):BT :=
 (.node (boot_o_0 P) (.node (boot_o_1 P) (.node (boot_o_3 P) (.node (boot_o_7 P) .nil .nil) (.node o11 .nil .nil)) (.node (boot_o_5 P) (.node (boot_o_9 P) .nil .nil) (.node o13 .nil .nil))) (.node (boot_o_2 P) (.node (boot_o_4 P) (.node (boot_o_8 P) .nil .nil) (.node o12 .nil .nil)) (.node (boot_o_6 P) (.node (boot_o_10 P) .nil .nil) (.node o14 .nil .nil))))
noncomputable abbrev annB:Option Value:=some (.ref 6)
noncomputable def Wc9 (p:zm):Env:={ scope:=p.main.scope,locals:=mainNs,globals:=mainNs,cells:=[],code:=.ref 13,frame:=some 14 }
noncomputable def Zx0 (p:zm):Code:=.body (behindTheImports p) (Wc9 p)
noncomputable def SB (w:World)(os:ycx):SharedT:=⟨Ws5 w.params,15,{},#[],{},187,os⟩
noncomputable def S0 (w:World)(os:ycx):Shared:=⟨boot_heap w.params,Array.mk [],boot_drawn,boot_toks,os⟩
noncomputable def pre (p:zm)(w:World)(os:ycx):=topGo treeTable p w 11 annB 12 (S0 w os) (topStub p)
noncomputable def preTo (p:zm)(w:World)(os:ycx):Option (Shared×Thread):=some ((SB w os).abs,⟨denote treeTable (Zx0 p),Zx0 p,pos0,[topFrame pos0]⟩)
noncomputable def blk (p:zm)(w:World)(os:ycx):=segRun treeTable p w 11 annB 1 1 (SB w os).abs (blockOf (behindTheImports p) (Wc9 p) (Zx0 p) pos0 [topFrame pos0])
noncomputable def blkTo (p:zm)(w:World)(os:ycx):Option (Flow×Shared×Code×Pos):=some (.next,(SB w os).abs,Zx0 p,pos0)
noncomputable def run (p:zm)(n:Nat)(w:World)(os:ycx):=segRunT treeTable p w 11 annB 1 n (SB w os) (piecesOf (behindTheImports p) (Wc9 p) (Zx0 p) pos0 [topFrame pos0])
noncomputable def fin (p:zm)(e:Pos)(w:World)(x:SharedT):Option Shared:=topRun treeTable p w 11 annB 2 x.abs ⟨doneF .next,Zx0 p,e,[topFrame pos0]⟩
noncomputable def kept (p:zm)(w:World)(s:Shared):Bool:=staticsOk (zbv p.main.body) (boot_heap w.params) s.heap&&namesBound p s.heap&&gensDone s&&laidKept (boot_heap w.params) s.heap
noncomputable def ev {α:Type}(p q:zm)(loose:List Str)(lv:List (Str×WData))(Yf:Shared->α)(n:Nat)(e:Pos)(w:World)(os:ycx) :=
 (run p n w os).map fun x=>(x.1,x.2.2,(fin p e w x.2.1).map fun s=>(kept p w s,openSeen q loose (zbv p.main.body) (fun s=>xlAt q lv s&&recOk [] s) true s,Yf s))
noncomputable def evTo {α:Type}(p q:zm)(loose:List Str)(Ya:World->α)(e:Pos)(w:World) :=
 some (Flow.next,(Zx0 p,e),some (true,(expectedOf q,bltViewBooted,true,true,pinGoodD (drecsOf q),
  plainGoodE q (looseW q loose),plainGoodD q loose,wideGood q,clsGoodW q loose),Ya w))
theorem Wd7 (w:World)(os:ycx):((S0 w os).heap.isNs zn&&(S0 w os).gens.size == 0)=true/\(S0 w os).heap.objs.size=11/\(S0 w os).heap.nsMap zn "__annotations__"=annB:=by
 refine⟨?_,?_,?_⟩<;>kernel_rfl
theorem left {p q:zm}{lv:List (Str×WData)}{Ya:World->α}{N n:Nat}
  (ho:opening p=plainProg p.main.scope.names) (hN:Nat.ble 600 N=true) (hf:∀s,fenceModules? p s=some s)
  (h1:∀w,(fun os=>pre p w os)=fun os=>preTo p w os) (h2:∀w,(fun os=>blk p w os)=fun os=>blkTo p w os)
  (h3:∀w,(fun os=>ev p q loose lv Yf n e w os)=fun _=>evTo p q loose Ya e w) (hl:Nat.ble (12+(1+(n+2))) N=true) :
  LeftO p q loose (fun s=>xlAt q lv s&&recOk [] s) Yf Ya N:=fun w=>by
 obtain⟨s,C,D⟩:=yab.mp (boot_open ho hN hf w);obtain⟨A,B,G,j,os⟩:=s;have a:=Wd7 w os
 obtain⟨rfl,rfl,rfl,rfl⟩:A=boot_heap _/\B=Array.mk []/\G=boot_drawn/\j=boot_toks:=by
  have:=D;simp at this;omega
 obtain⟨x,ex,b⟩:=yab.mp (congrFun (h3 w) os);obtain⟨f,I,c,J⟩:=x;have u:=(yx b).1;have r:=(yx (yx b).2).1;have o:=(yx (yx b).2).2;subst u;cases r;obtain⟨s1,F,d⟩:=yab.mp o;have g  := piece_app (segRun_of ex) (piece_nil F);rw[yaa] at g;have l:=piece_block (congrFun (h2 w) os) g;have m:=go_top (congrFun (h1 w) os) l;have h:=topRun_mono (N - (12+(1+(n+2)))) _ _ _ _ m;rw[show 12+_+_=N by simp_all] at h;have z:=(yx d).1;have y:=(yx (yx d).2).1;have v:=(yx (yx d).2).2
 have t:topFrom treeTable p w N (S0 w os)=some s1:=by
  unfold topFrom;rw[a.1,a.2.1,a.2.2];rw[h,Option.bind_some];have i:(staticsOk _ (S0 w os).heap _&&namesBound p _&&gensDone s1&&laidKept (S0 w os).heap _)=true:=z;rw[i]
 unfold openEnds;rw[C,Option.bind_some];have k:=congrArg (Option.map fun s=>(openSeen q loose (zbv p.main.body) (fun s=>xlAt q lv s&&recOk [] s) true s,Yf s)) t;exact k.trans (congrArg _ (Prod.ext y v))
theorem pre_self:@pre=@pre:=rfl
theorem preTo_self:@preTo=@preTo:=rfl
theorem blk_self:@blk=@blk:=rfl
theorem blkTo_self:@blkTo=@blkTo:=rfl
end Hd
name_quick hdPre for Hd.pre by Hd.pre_self
name_quick hdPreTo for Hd.preTo by Hd.preTo_self
name_quick hdBlk for Hd.blk by Hd.blk_self
name_quick hdBlkTo for Hd.blkTo by Hd.blkTo_self
namespace Hd
open PySem PySem.W PySem.Calls PyProof.Rows L2
noncomputable def pick (h:Heap)(as:List Addr):Frag:=as.filterMap fun a=>(h.get? a).map fun o=>(a,o)
theorem Xg0 (h:Heap):∀as:List Addr,(pick h as).In h
 | []=>fun _ _ e=>by cases e
 |b::as=>fun a o e=>by
  have ih:=Xg0 h as a o;have e'  := e;unfold pick at e';rw[zco] at e'
  cases z:h.get? b with
  |none=>rw[z] at e';exact ih e'
  |some u =>
   rw[z] at e';dsimp only[Option.map] at e';rw[yaz] at e'
   split at e'
   ·grind
   ·exact ih e'
noncomputable def stAt (p:zm)(i:Nat):Stmt:=p.main.body.getD i (.Pass ⟨0,0,0,0⟩)
noncomputable def nm:Stmt->Str
 | .FunctionDef n _ _ _ _ _ _ _ _ _=>n
 | .ClassDef n _ _ _ _ _ _ _ _ _ _=>n
 | .Assign [.Name n _] _ _=>n
 | _=>ybr
noncomputable def Xm5:PySem.Expr->Str
 | .Constant (.str s) _ _=>s
 | .Name n _=>n
 | _=>ybr
noncomputable def Ys8:Stmt->List Str
 | .Assign _ (.Tuple es _ _) _=>es.map Xm5
 | _=>[]
noncomputable def Zi9:Stmt->List (Str×Str)
 | .Assign _ (.Dict ks vs _) _=>List.zip (ks.map fun k=>match k with | some e=>Xm5 e | none=>ybr) (vs.map Xm5)
 | _=>[]
structure Ask where
 fns:List Nat
 tups:List Nat
 kfs:List Nat
 kds:List Nat
 bl:List Str
noncomputable abbrev FnD:=Str×Str×zdf×FuncBody×Scope×Addr×List (Str×Addr)×Value×Addr×Bool
noncomputable def fnD (K:Frag)(fd:yq):FnD:=(fd.name,fd.qualname,fd.params,fd.body,fd.scope,fd.globals,fd.closure,fd.defaults,fd.builtins,codeIn K fd.code fd.qualname)
noncomputable def Zm4 (K:Frag)(x:Str):Option (Addr×Obj):=match nsIn K zn x with
 |some (some (.ref f))=>(K.lookup f).map fun o=>(f,o)
 | _=>none
noncomputable def Zw8 (K:Frag)(x:Str):Option FnD:=match Zm4 K x with
 |some (_,⟨_,_,.func fd,_⟩)=>some (fnD K fd)
 | _=>none
noncomputable def Yc1 (st:Stmt):Option FnD:=some (nm st,nm st,Zd8 st,.stmts (Zc6 st),Za6 st,zn,[],.none,ydd,true)
theorem Xf1 {r:Addr×Obj}(e:Zm4 K x=some r):nsIn K zn x=some (some (.ref r.1))/\K.lookup r.1=some r.2:=by
 unfold Zm4 at e
 split at e
 ·rename_i f hf
  obtain⟨o,e1,e2⟩:=yab.mp e;subst e2;exact⟨hf,e1⟩
 simp_all
theorem fn_of (e:Zw8 K (nm st)=Yc1 st):∃(f:Addr) (oc:Value) (od:Option Addr) (sl:Array (Option Value)) (kV dc pm:Value) (an:Option Addr) (cd ct:Value),
  nsIn K zn (nm st)=some (some (.ref f))/\K.lookup f=some ⟨oc,od,.func (fnOf (nm st) (nm st) (Zd8 st) (Zc6 st) (Za6 st) .none kV dc pm an cd ct),sl⟩/\codeIn K cd (nm st)=true/\keepIn K (.ref f)=true:=by
 unfold Zw8 at e
 split at e
 ·rename_i f oc od fd sl h
  obtain⟨h1,h2⟩:=Xf1 h;obtain⟨a1,a2,a3,a4,a5,a6,a7,a8,a9,a10,a11,a12,a13,a14,a15⟩:=fd;have e:=zan e;simp[fnD,ydo] at e;obtain⟨rfl,rfl,rfl,rfl,rfl,rfl,rfl,rfl,rfl,hc⟩:=e;refine⟨f,oc,od,sl,_,_,_,_,_,_,h1,h2,hc,?_⟩;show (match K.lookup f with | some ⟨_,_,.func _,_⟩=>true | some ⟨_,_,.cls _,_⟩=>specialIn K _ "__call__" == some _ | _=>false)=true;rw[h2]
 ·cases e
noncomputable def Yo6:Value->Option Str
 | .str s _=>some s
 | _=>none
theorem Yt2 {s:Str}(e:Yo6 v=some s):∃t,v=.str s t:=by
 unfold Yo6 at e
 split at e
 ·simp_all
 grind
noncomputable def Zz7 (K:Frag)(x:Str):Option (Value×List (Option Str)):=match Zm4 K x with
 |some (_,⟨c,_,.seq vs _,_⟩)=>some (c,vs.toList.map Yo6)
 | _=>none
noncomputable def Yf3 (st:Stmt):Option (Value×List (Option Str)):=some (.type "tuple",(Ys8 st).map some)
theorem Yj0:∀{l:List Str} {vs:List Value},vs.map Yo6=l.map some->Vals (l.map V.str) vs
 | [],[],_=>.nil
 | [],_::_,e=>by cases e
 | _::_,[],e=>by cases e
 |s::l,v::vs,e=>by
  have e1:=(yap e).1;exact .cons (Yt2 e1) (Yj0 ((yap e).2))
theorem We5 (e:Zz7 K (nm st)=Yf3 st)(hl:(Ys8 st).length<=zp):∃a:Addr,nsIn K zn (nm st)=some (some (.ref a))/\∀H,SqT K H a ((Ys8 st).map V.str):=by
 unfold Zz7 at e
 split at e
 ·rename_i a c od vs n sl h
  obtain⟨h1,h2⟩:=Xf1 h;have e:=zan e;obtain⟨rfl,e2⟩:=yx e;refine⟨a,h1,fun H=>.inr ⟨_,_,_,h2,rfl,rfl,?_,Yj0 e2⟩⟩;have:=congrArg List.length e2;rw[yh,yh,zcp] at this
  simp_all
 ·cases e
noncomputable abbrev DiD:=Value×Option Addr×Array (Option Value)×Bool×Nat×List (Int×Option Str×Bool)
noncomputable def Wb6 (K:Frag)(e:ydf)(kf:Str×Str):Int×Option Str×Bool:=(e.hash,Yo6 e.key,nsIn K zn kf.2 == some (some e.val))
noncomputable def Yl5 (K:Frag)(x:Str)(kfs:List (Str×Str)):Option DiD:=match Zm4 K x with
 |some (a,⟨c,od,.dict es _,sl⟩)=>some (c,od,sl,a == zbd,es.toList.length,zu (Wb6 K) es.toList kfs)
 | _=>none
noncomputable def Yv3 (P:Params)(kfs:List (Str×Str)):Option DiD:=some (.type "dict",none,#[],false,kfs.length,kfs.map fun kf=>(yck P kf.1,some kf.1,true))
theorem Yv2 {w:World}:∀{kfs:List (Str×Str)} {es:List ydf} {fs:List Addr},es.length=kfs.length->zu (Wb6 K) es kfs=kfs.map (fun kf=>(yck w.params kf.1,some kf.1,true)) ->
  Paired (fun (kf:Str×Str) (f:Addr)=>nsIn K zn kf.2=some (some (.ref f))) kfs fs ->
  Paired (fun (p:Str×V) (e:ydf)=>(∃tk,e.key=.str p.1 tk)/\e.hash=yck w.params p.1/\RelV p.2 e.val) (zu (fun kf f=>(kf.1,V.ref f)) kfs fs) es
 | [],[],_,_,_,r=>by exact .nil
 | [],_::_,_,h,_,_=>by cases h
 | _::_,[],_,h,_,_=>by cases h
 |kf::kfs,e::es,_,h,q,r=>by
  cases r with
  |@cons _ f _ fs h1 t =>
   have q1:=(yap q).1;have q2:=(yap q).2;simp only[Wb6,ydo] at q1;obtain⟨q3,q4,q5⟩:=q1;have q6:=eq_of_beq q5;rw[h1] at q6;refine .cons ⟨Yt2 q4,q3,?_⟩ (Yv2 (Nat.succ.inj h) q2 t);have  := zan (zan q6).symm
   assumption
theorem Wt7 (e:Yl5 K (nm st) (Zi9 st)=Yv3 w.params (Zi9 st))(fs:List Addr)(hf:Paired (fun (kf:Str×Str) (f:Addr)=>nsIn K zn kf.2=some (some (.ref f))) (Zi9 st) fs)(nd:((zu (fun kf f=>(kf.1,V.ref f)) (Zi9 st) fs).map (·.1)).Nodup):∃a:Addr,nsIn K zn (nm st)=some (some (.ref a))/\KDict K w a (zu (fun kf f=>(kf.1,V.ref f)) (Zi9 st) fs):=by
 unfold Yl5 at e
 split at e
 ·rename_i a c od es n sl h
  obtain⟨h1,h2⟩:=Xf1 h;have e:=zan e;simp only[ydo] at e;obtain⟨rfl,rfl,rfl,e4,e5,e6⟩:=e;exact⟨a,h1,⟨_,es,n,h2,⟨rfl,rfl,rfl⟩,rfl,Yv2 e5 e6 hf⟩,nd,e4⟩
 ·cases e
noncomputable abbrev DsD:=Value×Option Addr×Array (Option Value)×Bool×List (Int×Option Str×Option Str)
noncomputable def Wp7 (K:Frag)(x:Str):Option DsD:=match Zm4 K x with
 |some (a,⟨c,od,.dict es _,sl⟩)=>some (c,od,sl,a == zbd,es.toList.map fun e=>(e.hash,Yo6 e.key,Yo6 e.val))
 | _=>none
noncomputable def Wp6 (P:Params)(kvs:List (Str×Str)):Option DsD:=some (.type "dict",none,#[],false,kvs.map fun kv=>(yck P kv.1,some kv.1,some kv.2))
noncomputable abbrev Obs:=List (Option FnD)×List (Option (Value×List (Option Str)))×List (Option DiD)×List (Option DsD)×List (Option (Option Value))
noncomputable def obsK (p:zm)(A:Ask)(K:Frag):Obs :=
 (A.fns.map fun i=>Zw8 K (nm (stAt p i)),A.tups.map fun i=>Zz7 K (nm (stAt p i)),A.kfs.map fun i=>Yl5 K (nm (stAt p i)) (Zi9 (stAt p i)),A.kds.map fun i=>Wp7 K (nm (stAt p i)),A.bl.map fun x=>nsIn K zn x)
noncomputable def valK (p:zm)(A:Ask)(P:Params):Obs :=
 (A.fns.map fun i=>Yc1 (stAt p i),A.tups.map fun i=>Yf3 (stAt p i),A.kfs.map fun i=>Yv3 P (Zi9 (stAt p i)),A.kds.map fun i=>Wp6 P (Zi9 (stAt p i)),A.bl.map fun _=>some none)
noncomputable def Wu7 (p:zm)(A:Ask)(h:Heap):List Addr :=
 zn::(A.fns++A.tups++A.kfs++A.kds).flatMap fun i=>match nsIn (pick h [zn]) zn (nm (stAt p i)) with
  |some (some (.ref a))=>a::(match h.get? a with
   |some ⟨_,_,.func fd,_⟩=>(match fd.code with | .ref c=>[c] | _=>[])
   | _=>[])
  | _=>[]
theorem Yk9 {α β:Type}{f g:α->β}{l:List α}(e:l.map f=l.map g){a:α}(h:a∈l):f a=g a:=by simp_all
section
variable {p:zm}{A:Ask}{P:Params}(e:obsK p A K=valK p A P)
theorem e_fn (e:obsK p A K=valK p A P)(h:i∈A.fns):Zw8 K (nm (stAt p i))=Yc1 (stAt p i):=Yk9 (yx e).1 h
theorem e_tup (e:obsK p A K=valK p A P)(h:i∈A.tups):Zz7 K (nm (stAt p i))=Yf3 (stAt p i):=Yk9 (yx (yx e).2).1 h
theorem e_kf (e:obsK p A K=valK p A P)(h:i∈A.kfs):Yl5 K (nm (stAt p i)) (Zi9 (stAt p i))=Yv3 P (Zi9 (stAt p i)) :=
 Yk9 (yx (yx (yx e).2).2).1 h
theorem e_bl (e:obsK p A K=valK p A P)(h:x∈A.bl):nsIn K zn x=some none :=
 Yk9 (yx (yx (yx (yx e).2).2).2).2 h
end
open PySem.Spec
noncomputable def posOf:Stmt->Pos
 | .FunctionDef _ _ _ _ _ _ _ _ _ p=>p
 | _=>⟨0,0,0,0⟩
def FnF (K:Frag)(x:Str)(st:Stmt):Prop:=∃(f:Addr) (oc:Value) (od:Option Addr) (sl:Array (Option Value)) (kV dc pm:Value) (an:Option Addr) (cd ct:Value),
 nsIn K zn x=some (some (.ref f))/\K.lookup f=some ⟨oc,od,.func (fnOf x x (Zd8 st) (Zc6 st) (Za6 st) .none kV dc pm an cd ct),sl⟩/\codeIn K cd x=true/\keepIn K (.ref f)=true
theorem fn_ofx (hx:nm st=x)(e:Zw8 K (nm st)=Yc1 st):FnF K x st:=hx▸fn_of e
def FunF (K:Frag)(x:Str)(st:Stmt):Prop:=∃(f:Addr) (fd:yq),nsIn K zn x=some (some (.ref f))/\Fun K x x st f fd
theorem Xl4 (hx:nm st=x)(e:Zw8 K (nm st)=Yc1 st):FunF K x st:=by
 obtain⟨f,h,g,b,i,j,d,o,n,m,a,l,c,k⟩:=fn_ofx hx e;exact⟨f,_,a,Yv7 l c k⟩
def TupF (K:Frag)(x:Str)(l:List Str):Prop:=∃a:Addr,nsIn K zn x=some (some (.ref a))/\∀H,SqT K H a (l.map V.str)
theorem tup_ofx {l:List Str}(hx:nm st=x)(hl:Ys8 st=l)(hz:l.length<=zp)(e:Zz7 K (nm st)=Yf3 st):TupF K x l:=by
 subst hx hl;exact We5 e hz
def KfF (K:Frag)(w:World)(x:Str)(l:List (Str×V)):Prop:=∃a:Addr,nsIn K zn x=some (some (.ref a))/\KDict K w a l
theorem kf_ofx {l:List (Str×Str)}(fs:List Addr)(hx:nm st=x)(hl:Zi9 st=l)(hf:Paired (fun (kf:Str×Str) (f:Addr)=>nsIn K zn kf.2=some (some (.ref f))) l fs)(nd:((zu (fun kf f=>(kf.1,V.ref f)) l fs).map (·.1)).Nodup)(e:Yl5 K (nm st) (Zi9 st)=Yv3 w.params (Zi9 st)):KfF K w x (zu (fun kf f=>(kf.1,V.ref f)) l fs):=by
 subst hx hl;exact Wt7 e fs hf nd
end Hd
namespace L2
open PySem PySem.Spec PyProof.Rows Ken
open PySem.W
section
variable {e t:Addr}{C:Value}{dd':Option Addr}{ot:HO}
theorem Inv.besides (I:Inv X pins σ H s)(Fe:H e=some (ExcO e C dd T))(hos:s'.os=s.os)(hg:s'.gens=s.gens)(hn:s.heap.get? t=none)(keep:∀b o,s.heap.get? b=some o->b≠e->s'.heap.get? b=some o)(exc:∃vs sl,s'.heap.get? e=some ⟨C,dd',.fields vs,sl⟩/\vs.size=6/\vs[1]?=some (T'.elim yak yay))(new:∀G,ObjOk X.prog X.w G s'.heap t ot):Inv X pins σ (upd (upd H t ot) e (ExcO e C dd' T')) s':=by
 have h  := I.hok.newAt hn
 have a:∀b o,H b=some o->(∀φ,o≠.ext φ)->b≠e:=fun b o q n z=>by subst z;rw[Fe] at q;cases q;exact n _ rfl
 have d:∀b o,H b=some o->b≠e->upd (upd H t ot) e (ExcO e C dd' T') b=some o:=fun b o q n=>by rw[Zb3 n,Zb3 (Za9 q h)];exact q
 have g:∀b o,s.heap.get? b=some o->H b=none->s'.heap.get? b=some o:=fun b o q n=>keep b o q fun z=>by grind
 refine I.call' (ch:=[]) hos ⟨fun b o q n _ _=>g b o q n,fun b o q n _ _=>⟨o.slots,g b o q n⟩,fun b o q n _=>?_,fun b o q _=>?_,fun b i q=>d b _ q (a b _ q fun φ z=>nomatch z),fun b o u q=>d b _ q (a b _ q fun φ z=>nomatch z),
  fun b j q=>⟨#[],by rw[d b _ q (a b _ q fun φ z=>nomatch z)];simp⟩⟩ (fun b o q=>?_) (by rw[hg];exact I.bare) fun b z=>nomatch z
 ·rw[Zb3 (Za9 Fe n).symm,Zb3 (fun z=>by grind)];exact n
 ·grind
 ·by_cases hb:b=e
  ·subst hb;rw[Za1] at q;cases q;exact Ym5 exc
  ·rw[Zb3 hb] at q
   by_cases ht:b=t
   ·subst ht;rw[Za1] at q;simp_all
   ·rw[Zb3 ht] at q
    refine (I.hok b o q).stay (fun c u f z=>keep c u z ?_) (fun c z=>d c _ z (a c _ z fun φ y=>nomatch y)) fun c i z=>d c _ z (a c _ z fun φ y=>nomatch y);rcases f with f | f
    ·simp_all
    ·exact a c _ f fun φ y=>nomatch y
end
structure XSet (K:W.Frag)(C:Addr)(nm:Str):Prop where
 sa:findIn K (.ref C) "__setattr__"=some (some (.builtin "object.__setattr__"))
 na:findIn K (.ref C) nm=some none
 hd:hasDictIn K C=true
 mo:mroIn K C (.type "object")=some true
theorem Yp1 (T:OwnTail h bmV bm)(self:Value):refuseLoop self "__setattr__" bm=pure ():=by
 induction T with
 |base=>rfl
 |own _ _ _ _ ih=>rw[refuseLoop_ref];omega
section
variable {prog:zm}{w:World}{E:Value->Shared->Prop}{x:Addr}{nm:Str}{tk:Tok}{vs:Array Value}
theorem Xb3 {R:Result->Shared->Prop}(X:K.In s.heap)(hx:s.heap.get? x=some ⟨.ref C,none,.fields vs,sl⟩)(S:XSet K C nm)(hC:IsXC s.heap C bm mN)
  (h:∀h' tk',h'.Ns1 s.heap.objs.size (fun y=>if y=nm then some v else none)->(∀b o,b≠x->s.heap.get? b=some o->h'.get? b=some o)->h'.get? x=some ⟨.ref C,some s.heap.objs.size,.fields vs,sl⟩->R (.ok (.ret .none)) { s with heap:=h',toks:=tk' }) :
  yde (model prog w) A (.call (.builtin "object.__setattr__") ⟨[.ref x,.str nm tk,v],[]⟩) R s:=by
 have I:W.InstAt s.heap x ⟨.ref C,none,.fields vs,sl⟩ C none:=⟨hx,rfl,rfl,trivial⟩;obtain⟨a,g,d,t,J⟩:=s;have j:=I.type (M:=model prog w);have L1:=looks_mroIn (M:=model prog w) X S.mo;have L2:=looks_findIn (M:=model prog w) X S.na;obtain⟨cd,B,i⟩:=any_some S.hd;have LC:=looks_clsIn (M:=model prog w) X B;have Z:Looks (model prog w) a (isInstance (.ref x) (.type "object")) true:=j.andThen L1;have O:=ybv.kind;have m:=ybv.split;have ha:=ybv.args (.ref x) (.str nm tk) v;refine codeAny_call_builtin ybv.slot.plain PySem.F.entry_object_sa ?_;simp only[checkBuiltinCall,O,m];refine ya (Z.at ?_);simp only[Bool.not_true,Bool.false_eq_true,if_false];refine yat (Q:=fun _ l=>l=⟨a,g,d,t,J⟩) (E:=fun _ _=>False) ?_ (fun _ l z=>?_) fun _ _ z=>zbl z
 ·repeat (any_goals (first | assumption | rfl | wp_step))
 subst z;obtain⟨q1,q',N,bs,G,sn,q0,ab,q5,dd,k0,k1,k2,k3,k5,Y,c2,V⟩:=hC;unfold Builtin.«object.__setattr__»;simp only[Bool.false_eq_true];rw[refuse_eq];refine ya (ya (j.at (ya (wpAny_mroOf_exc Y ?_))));rw[refuseLoop_ref,Yp1 V];refine ye (ya (ye (ya (j.at (ya (L2.at (ya (ye ?_))))))));refine ya (ye ?_);refine ya ?_;refine ya (wpAny_loadPart hx ?_);refine ya (LC.at ?_);rw[i];have k  := zv (zj hx);have c:=yb { cls:=.type "dict",data:=.dict #[] } hx;have q2:=zaf (fun o:Obj=>{ o with dict:=some a.objs.size }) c rfl
 have u:((a.push { cls:=.type "dict",data:=.dict #[] }).update x fun o=>{ o with dict:=some a.objs.size }).get? a.objs.size=some { cls:=.type "dict",data:=.dict #[] }:=by
  rw[zab _ _ k];exact yt a rfl
 refine ya (wpAny_alloc (ya (wpAny_update c ?_)));refine ye ?_;have L  := Heap.Ns1.of_empty ⟨_,#[],_,u,rfl,fun e T=>absurd T (by simp),fun _=>rfl⟩;refine ya (ye (ya (wpAny_nsSet1 L fun h' f n=>?_)));obtain⟨oD,q3,q4,p,r,D⟩:=f.count (Within.cons nm v Within.nil);refine ya (wpAny_lookBehind p ?_ (ye ?_))
 ·rw[r]
  exact pastItsLine_dict (zi D (by simp))
 refine h h' _ f (fun b o U q=>?_) ?_
 ·rw[n.2 b (zv (zj q))]
  exact (zab _ _ (zar U)).trans (yb _ q)
 ·rw[n.2 x k]
  omega
end
section
variable {e:Addr}{nm:Str}{y:V}{E:Value->Shared->Prop}{Q:Unit->Shared->Prop}
theorem Xx3 (I:Inv X pins σ H s)(Fe:H e=some (ExcO e (.ref C) none T))(S:XSet X.K C nm)(hC:XC X.K C)(rv:RelV y v)
  (h:∀d s',H d=none->d≠e->Inv X pins σ (upd (upd H d (.xd [(nm,y)])) e (ExcO e (.ref C) (some d) T)) s'->Q () s'):wpAny (model X.prog X.w) X.A (setAttr (.ref e) nm v) Q E s:=by
 obtain⟨c,g,a,l,t⟩:=Zm9 I.hok Fe;obtain⟨D,z,r⟩:=hC _ I.kIn;have u:W.InstAt _ e ⟨.ref C,none,.fields c,g⟩ C none:=⟨a,rfl,rfl,trivial⟩;refine W.set_plain I.kIn u S.sa (Xb3 I.kIn a S r fun B x m n j=>?_);have i:s.heap.get? s.heap.objs.size=none:=yci (by simp);have k  := Nat.ne_of_gt (zj a);refine h _ _ (I.hok.newAt i) k (Inv.besides I Fe rfl rfl i (fun b o q p=>n b o p q) ⟨c,g,j,l,t⟩ fun G=>?_);refine⟨_,m,fun f=>?_⟩
 by_cases hf:f=nm
 ·subst hf
  rw[show ([(f,y)]:List _).lookup f=some y by simp,if_pos rfl];exact rv
 ·rw[show ([(nm,y)]:List _).lookup f=none by simp[*],if_neg hf]
  trivial
def Xe9 (C:Addr)(ta tv:TE)(nm:Str):TS:=fun D σ H=>tv σ H fun y H1=>ta σ H1 fun x H2=>∃e T,x=.ref e/\H2 e=some (ExcO e (.ref C) none T)/\∀d,H2 d=none->d≠e->D.nx σ (upd (upd H2 d (.xd [(nm,y)])) e (ExcO e (.ref C) (some d) T))
theorem Xz5 {o value:Expr}{tv:TE}(S:XSet X.K C nm)(hC:XC X.K C)(ha:PE X o ta)(hv:PE X value tv)(hs:zde value (some (.Attribute o nm pos')) pos.line X.env=pure false:=by rfl):
  PS X (.Assign [.Attribute o nm pos'] value pos) (Xe9 C ta tv nm):=by with_unfolding_all
 intro a s b H D I h;refine plainObj_wpAny_Assign_Attribute (thn (hv a s b H _ I h) fun u s1 ⟨y,H1,I1,ry,q⟩=>thn (ha a s1 b H1 _ I1 q) fun ov s2 ⟨x,H2,I2,rx,e,T,ex,ee,q2⟩=>?_) hs;subst ex;cases (rx);exact Xx3 I2 ee S hC ry fun d i f c g=>⟨b,_,g,q2 d f c⟩
end
section
variable {prog:zm}{w:World}{E:Value->Shared->Prop}{g:Array GenState}{d:Drawn}{t:Nat}{os:ycx}{fI:Addr}{oI:Obj}
theorem Xi8 (hX:IsXC h C bm mN)(hi:mN "__init__"=some (.ref fI))(hf:h.get? fI=some oI)(hc:oI.cls=.type "function")(hl:us.length<=zp)
  (hq:∀h' e,Heap.MadeExcOf h h' e (.ref C) us->wpAny (model prog w) A (call (.ref fI) (.ref e::us)) (fun r s'=>r=.none/\Q (.done (.ret (.ref e))) s') E ⟨h',g,d,t,os⟩) :
  wpAny (model prog w) A (Builtin.«type.__call__» ⟨.ref C::us,[]⟩) Q E ⟨h,g,d,t,os⟩:=by
 obtain⟨D,q,N,R,u,B,x,S,y,O,M,L,J,I,G,c,v,k⟩:=hX;have f:=PySem.F.excBase_ValueError
 repeat first | (with_reducible refine zch c ?_) | (with_reducible refine wpAny_madeBy_exc c ?_) | wp_step
 refine codeAny_call_builtin_code (Code.quiet_builtin _ f.quiet) (wpAny_check_new_subT f k c (codeAny_exc_new_subT f k c ?_ hl));show wpAny _ _ _ _ _ _;have a:∀b o,h.get? b=some o->((h.push { cls:=.type "tuple",data:=.seq us.toArray }).push { cls:=.ref C,data:=.fields #[.ref h.objs.size,.none,.none,.none,.bool false,.none] }).get? b=some o:=fun b o z=>yb _ (yb _ z)
 have i:((h.push { cls:=.type "tuple",data:=.seq us.toArray }).push { cls:=.ref C,data:=.fields #[.ref h.objs.size,.none,.none,.none,.bool false,.none] }).get? (h.objs.size+1)=some { cls:=.ref C,data:=.fields #[.ref h.objs.size,.none,.none,.none,.bool false,.none] }:=by heap_get
 have l:((h.push { cls:=.type "tuple",data:=.seq us.toArray }).push { cls:=.ref C,data:=.fields #[.ref h.objs.size,.none,.none,.none,.bool false,.none] }).get? h.objs.size=some { cls:=.type "tuple",data:=.seq us.toArray }:=yb _ (Heap.get?_push_at rfl rfl);have j:=a _ _ c;have p:=v.keeps a;have n:=k.keeps a;have m:=a _ _ hf;generalize ((h.push { cls:=.type "tuple",data:=.seq _ }).push { cls:=.ref C,data:=.fields #[.ref _,.none,.none,.none,.bool _,.none] })=h2 at a i l j p n m ⊢
 repeat first | (with_reducible refine zch i ?_) | (with_reducible refine wpAny_isSubtype_exc j ?_) | wp_step
 refine wpAny_typeLookup_tail j p n f.mroIs f.init.lookup ?_;rw[hi];refine yao (ya ?_);refine ya (wpAny_typeOf ⟨_,m,hc⟩ ?_);refine ye (ya (yat (hq h2 _ ⟨a,yci (ycp _),h.objs.size,i,yci (by simp),l⟩) (fun r s' s=>?_) fun _ _ z=>z))
 wp_walk
 exact s.2
theorem Xn6 (hX:IsXC h C bm mN)(hi:mN "__init__"=some (.ref fI))(hf:h.get? fI=some oI)(hc:oI.cls=.type "function")(hl:us.length<=zp)
  (hq:∀h' e,Heap.MadeExcOf h h' e (.ref C) us->wpAny (model prog w) (A.under (.builtin "type.__call__" ⟨.ref C::us,[]⟩)) (call (.ref fI) (.ref e::us)) (fun r s'=>r=.none/\Q (.ref e) s') E ⟨h',g,d,t,os⟩) :
  wpAny (model prog w) A (call (.ref C) us) Q E ⟨h,g,d,t,os⟩:=by
 obtain⟨k,q,N,B,c,j,f,D,i,x,p,o,n,m,l,a,z,y⟩:=id hX;have v:=tc_lookup;have u:=tc_bind (.ref C);have s:(⟨h,g,d,t,os⟩:Shared).TypeIs (.ref C) "type":=⟨_,a,rfl⟩;refine wpAny_call (codeAny_of_tree (show wpAny _ _ (callAny (.ref C) _) _ _ _ from ?_))
 repeat any_goals (first | assumption | (with_reducible refine zch a ?_) | wp_step)
 exact⟨rfl,codeAny_call_builtin_at (Code.quiet_builtin _ (by decide +kernel)) entry_typeCall (wpAny_check_type_call_sub a (Xi8 hX hi hf hc hl fun h' e b=>hq h' e b))⟩
theorem Yp2 {x:Sem Value}(hh:A.handled=none)(hx:wpAny M A x (fun v s₁=>∃e C bm mN dd vs sl,v=.ref e/\IsXC s₁.heap C bm mN/\s₁.heap.get? e=some ⟨.ref C,dd,.fields vs,sl⟩/\vs[1]?=some yak/\E (.ref e) s₁) E s):wpAny M A (raiseStmt env (some x) none) Q E s:=by
 unfold raiseStmt;refine ya (yat hx (fun v s₁ z=>?_) fun _ _ z=>z);obtain⟨e,C,bm,mN,dd,vs,sl,rfl,b,a,h,g⟩:=z
 have f:(yay C::bm).contains (.type "BaseException")=true:=by rw[List.contains_cons,b.base,Bool.or_true]
 obtain⟨m,q,N,y,d,l,i,B,k,j,t,r,p,o,n,c,w,u⟩:=b
 repeat first | (with_reducible refine zch a ?_) | (with_reducible refine zch c ?_) | (with_reducible refine wpAny_isSubtype_exc c ?_;rw[f]) | (with_reducible refine yco a rfl h ?_) | wp_step
 exact wpAny_raiseNew_none hh g
end
def XClsI (K:W.Frag)(C f:Addr):Prop:=(∀h,K.In h->∃bm mN,IsXC h C bm mN/\mN "__init__"=some (.ref f))/\∃o,K.lookup f=some o/\o.cls=.type "function"
theorem XClsI.xc (x:XClsI K C f):XC K C:=fun h X=>let ⟨bm,mN,a,_⟩:=x.1 h X;⟨bm,mN,a⟩
theorem Wt6 {N:Addr}{m:Str->Option Value}(X:K.In h)(G:h.Ns N m)(e:nsIn K N n=some (some v)):m n=some v:=by
 obtain⟨o,es,ep,ho,hd,_,hf⟩:=G;unfold nsIn at e
 split at e
 ·rename_i q
  have z:=X _ _ q
  split at e
  ·rw[<- hf]
   unfold nsFind findBy
   grind
  ·split at e<;>cases e
 simp_all
theorem Xo8 {N:Addr}{sub:List Value}{k0 k1 k2 k3 k5:Option Value}(l:K.lookup C=some (excClassObj nm q C N bs bm hdct sn sub ab col dd k0 k1 k2 k3 k5 "ValueError.__new__"))(t:tailIn K bmV bm=true)(n:nsOkIn K N=true)(i:nsIn K N "__init__"=some (some (.ref f)))(lf:K.lookup f=some of)(cf:of.cls=.type "function"):XClsI K C f :=
 ⟨fun h X=>⟨bm,h.nsMap N,⟨nm,q,N,bs,hdct,sn,sub,ab,col,dd,k0,k1,k2,k3,k5,X _ _ l,.of_isNs (isNs_of_in X n),tail_of_in X t⟩,Wt6 X (.of_isNs (isNs_of_in X n)) i⟩,of,lf,cf⟩
section
variable {E:XK}{np cpos:Pos}{e:Expr}{es:List Expr}{t:TA}{k:Nat}{fd:yq}
def Ya0 (E:XK)(C:Addr)(sp:Sp)(t:TA):TS:=fun _ σ H=>t σ H fun vs H1=>vs.length<=zp/\∀ea,H1 ea=none->sp (.ref ea::vs) (upd H1 ea (ExcO ea (.ref C) none none))
 (fun r H2=>r=.non/\∃dd,H2 ea=some (ExcO ea (.ref C) dd none)/\(∀d,dd=some d->d≠ea)/\Same H1 H2/\∀H',Xtd H1 ea (.ref C) dd H'->(∀d o,dd=some d->H2 d=some o->H' d=some o)->E (.ref ea) dd H') E0
theorem Yk3 (F:FnOk X.prog X.w X.K X.mg X.base CX0 k f fd ps sp)(hr:Room (k+1) X.A)(hb:Binds X.K fd ps [])(hx:XOk X E)(hc:X.calm=true)(hg:Gl X x)(hm:X.mg x=some (.ref C))(hC:XClsI X.K C f)(ha:PA X (e::es) t)(hdb:(x == ("__debug__":Str))=false:=by decide)
  (hs:zx (e::es) X.env=(false,eval e X.env)::zx es X.env:=by rfl) (hpl:(backTo cpos (zx es X.env)).any (·.1)=false:=by rfl) :
  PS X (.Raise (some (.Call (.Name x np) (e::es) [] cpos)) none pos) (Ya0 E C sp t):=by with_unfolding_all
 intro n s B H D I h;obtain⟨bm,mN,hI,Y⟩:=hC.1 X.base I.ok.mod.kin;obtain⟨of,lf,cf⟩:=hC.2;rw[arm_exec_Raise];simp only[evalOpt,Option.map];refine ya (zbg (Yp2 (I.ok.hd hc) (ya (yat (wpAny_Call_ofName (Zl3 I hg hm ?_ hdb)) (fun v s₃ h₃=>ya (zbg (ye h₃))) fun _ _ x=>x))));unfold callWith;have c:=ha cpos n s B H _ I h;rw[hs] at c ⊢;refine ya (yao (PySem.Calls.evalArgs_plain (thn c fun us s1 ⟨vs,H1,I1,r,hl,q1⟩=>ya (zbg ?_))));have i:=hI.keeps I1.bk;obtain⟨nm,q,N,bs,q7,sn,q8,ab,q9,dd,k0,k1,k2,k3,k5,c1,c2,c3⟩:=id i;obtain⟨hp,g,d,tk,os⟩:=s1;have p:((backTo _ ((false,eval e X.env)::zx es _)).any (·.1))=false:=hpl;simp only[p,List.any_nil];refine ya (wpAny_keeperOf_exc c1 ?_);rw[List.nil_append];refine ya (Xn6 i Y (I1.kIn _ _ lf) cf (by rw[<- r.length];omega) fun h' a m=>?_);obtain⟨t0,he,_,ht⟩:=m.there;have Z:=I1.hok.newAt m.new;have J:=I1.laidN (o:=ExcO a _ _ none) (t':=tk) m.keeps m.new (Ym5 ⟨_,_,he,rfl,rfl⟩);have U:=q1 a Z;have R:Vals (V.ref a::vs) _:=.cons rfl r
 have q6:(yay a::us).length=ps.length:=by rw[<- R.length];exact F.len _ _ _ _ U
 have b:=hb _ (yay a::us) J.kIn (by simp_all);rw[yaa] at b;refine wpAny_call (ycy (F.run _ _ _ _ ⟨yay a::us,[]⟩ _ _ _ E0 (hr.make C us []) (J.env0.make C us []) b R U) fun r' s' W=>?_)
 rcases r' with _ | (_ | _ | _ | u)<;>try exact zbl W
 obtain⟨v2,H2,y,O,rfl,l,j,q3,M,qE⟩:=J.after W;refine⟨O,ya (yao (wpAny_point (ye ?_)))⟩;obtain⟨G,L,q0,_,q4⟩:=Zm9 y.hok j;refine⟨a,C,bm,mN,l,G,L,rfl,hI.keeps y.bk,q0,q4,?_⟩;refine hx _ B H2 s' a _ l _ y ⟨j,fun t z=>nomatch z⟩ fun j0 q5 S Fy=>qE q5 (Xtd.step (T:=none) Z (fun t z=>nomatch z) M S Fy) fun d o hd ho=>S.1 d o ho (q3 d hd) fun z=>nomatch z
end
structure XIni (K:W.Frag)(B:Addr):Prop where
 ga:specialIn K (.ref B) "__getattribute__"=some (some (.builtin "type.__getattribute__"))
 rd:readsIn K B (.type "type")=true
 fi:findCls K (.ref B) (.type "type") "__init__"=some (.val (.builtin "ValueError.__init__"))
def Yo0 (C:Addr)(t:TA):TE:=fun σ H Q=>t σ H fun vs H1=>∃e v dd T,vs=[.ref e,v]/\H1 e=some (ExcO e (.ref C) dd T)/\Q .non H1
section
variable {np:Pos}{e1:Expr}{es:List Expr}{t:TA}{pl:Sem Bool}
theorem Wa0 (hB:XIni X.K B)(hg:Gl X x)(hm:X.mg x=some (.ref B))(hC:XC X.K C)(ha:PA X (e1::es) t)(hdb:(x == ("__debug__":Str))=false:=by decide)
  (hs:zx (e1::es) X.env=(false,eval e1 X.env)::zx es X.env:=by rfl) (hpl:(backTo pos (zx es X.env)).any (·.1)=false:=by rfl)
  (ht:eval (.Call (.Attribute (.Name x np) "__init__" apos) (e1::es) [] pos) X.env=(do
   let ov <- eval (.Name x np) X.env
   standAt apos.atName
   let (f,first) <- holding [ov] (getMethod ov "__init__" pl)
   callWith pos f first (backTo pos (zx (e1::es) X.env)) (backToKw pos (keywordEach [] X.env))):=by rfl) :
  PE X (.Call (.Attribute (.Name x np) "__init__" apos) (e1::es) [] pos) (Yo0 C t):=by with_unfolding_all
 intro i s w H Q I h;refine W.methodCall_KW (pl:=pl) (Zl3 I hg hm ?_ hdb) ht;refine method_cls I.kIn hB.ga (cls_value I.kIn hB.rd hB.fi (by rfl) ?_);show wpAny _ _ (callWith pos (.builtin "ValueError.__init__") [] (backTo pos (zx (e1::es) X.env)) []) _ _ _;refine callWith_builtin1 (thn (ha pos i _ w H _ (I.tok _) h) fun us s1 ⟨c,H1,I1,r,e,v,dd,T,ev,he,q⟩=>?_) hs hpl;subst ev;obtain⟨V,l,rfl,D,Z⟩:=Xp1 r;cases (D);obtain⟨c,A,m,hz,h1⟩:=Zm9 I1.hok he;obtain⟨bm,mN,nm,q',N,bs,G,Y,R,ab,U,S,k0,k1,k2,k3,k5,O,c2,M⟩:=hC s1.heap I1.kIn;obtain⟨p,g,d,y,os⟩:=s1;have j:=PySem.F.excBase_ValueError;refine wpAny_call (codeAny_call_builtin j.init.plain j.initEntry (wpAny_check_init_subT j M O m rfl ?_))
 have k:0 < c.size:=by simp_all
 have a:=yb { cls:=.type "tuple",data:=.seq [l].toArray } m;refine ya (yal (ya (ya (yco a rfl (Array.getElem?_eq_getElem k) (ya (wpAny_setField a rfl k ?_))))) (by size_fits));have J:=I1.write (o:=ExcO e _ dd T) (t':=y) (h':=(p.push { cls:=.type "tuple",data:=.seq [l].toArray }).update e (Obj.mapFields (·.setIfInBounds 0 (.ref p.objs.size)))) (by rw[he];trivial) (.inl rfl)
  (fun b u n z=>by rw[zab _ _ (zar n)];exact yb _ z) ⟨_,zaf _ a rfl⟩
  (Ym5 ⟨c.setIfInBounds 0 _,A,by rw[zaf _ a rfl];rfl,by simp[*],by rw[Array.getElem?_setIfInBounds_ne (by decide)];omega⟩)
 have L:upd H1 e (ExcO e (.ref C) dd T)=H1:=by
  funext b
  by_cases hb:b=e
  ·subst hb;rw[Za1,he]
  ·rw[Zb3 hb]
 rw[L] at J;generalize c[0]=v0
 cases v0<;>first | exact wpAny_letGo (ye ⟨.non,H1,J,rfl,q⟩) | exact ye (ye ⟨.non,H1,J,rfl,q⟩)
end
section
def tFi (te:TE)(t:TF):TF:=fun out σ H Q=>te σ H fun v H1=>∃i:Int,v=.int i/\i.natAbs.log2 < 1920/\(out++zh (toString i)).length<=zp/\t (out++zh (toString i)) σ H1 Q
theorem Xz9 {e:Expr}{es:List Expr}{t:TF}(he:PE X e te)(h:PF X es t)(hs:zcy (.FormattedValue e (-1) none pos::es) X.env=eval (.FormattedValue e (-1) none pos) X.env::zcy es X.env:=by rfl):PF X (.FormattedValue e (-1) none pos::es) (tFi te t):=by with_unfolding_all
 intro n a s b H Q I k;rw[hs];refine joinParts_cons (FormattedValue_plain (thn (he a s b H _ I k) fun v p c=>?_));obtain⟨x,m,l,d,f⟩:=c;obtain⟨i,rfl,j,g,q⟩:=f;obtain⟨o,rfl⟩:=d;exact wpAny_formatField_int j ⟨g,h _ _ _ b m Q (l.tok _) q⟩
end
section
theorem Wa5 {N:Addr}{c:Value}{d:Option Addr}{es:Array ydf}(l:K.lookup N=some ⟨c,d,.dict es ep,sl⟩)(h:(es.toList.all fun e=>match e.key with | .str _ _=>true | _=>false)=true):W.nsOkIn K N=true:=by
 unfold W.nsOkIn;rw[l];show es.all _=true;rw[<- Array.all_toList];exact h
theorem Yt0 {N:Addr}{sub:List Value}{k0 k1 k2 k3 k5:Option Value}(l:K.lookup B=some (excClassObj nm q B N bs bm hdct sn sub ab col dd k0 k1 k2 k3 k5 nw))(hn:W.nsOkIn K N=true)(hi:W.nsIn K N "__init__"=some none):W.tailIn K bmV (.ref B::bmV)=true:=by
 rw[W.tailIn.eq_2,l];dsimp only;rw[hn,hi,show W.tailIn K bmV bmV=true by rfl];rfl
theorem Xu3 (h:W.hasDictIn K C=true):(W.clsIn K C).isSome=true:=by
 unfold W.hasDictIn at h
 cases e:W.clsIn K C with
 |none=>simp_all
 |some _=>rfl
end
end L2
namespace Hd
open PySem PySem.W PySem.Calls PySem.Spec PyProof.Rows L2
noncomputable def adr (K:Frag)(x:Str):Addr:=match nsIn K zn x with
 |some (some (.ref a))=>a
 | _=>0
noncomputable def Wb7 (K:Frag)(x:Str):Bool:=match nsIn K zn x with
 |some (some (.ref _))=>true
 | _=>false
theorem Wr3 (h:Wb7 K x=true):nsIn K zn x=some (some (.ref (adr K x))):=by
 unfold Wb7 at h;unfold adr
 split at h
 ·omega
 grind
noncomputable def Zv4 (o:Obj)(C:Addr):Option (List Value×Addr):=match o.data with
 | .cls cd=>if o.cls=.type "type"/\cd.mro.head?=some (.ref C)/\cd.hasDel=false/\o.slots.size=6/\o.slots[4]?=some (some (.builtin "ValueError.__new__")) then some (cd.mro.tail,cd.ns) else none
 | _=>none
theorem Yw0 {N:Addr}(h:Zv4 o C=some (bm,N)):∃(nm q:Str) (bs:List Value) (hdct:Bool) (sn:List Str) (sub:List Value) (ab:Bool) (col:Option Bool) (dd:Option Addr) (k0 k1 k2 k3 k5:Option Value),
  o=excClassObj nm q C N bs bm hdct sn sub ab col dd k0 k1 k2 k3 k5 "ValueError.__new__":=by
 obtain⟨c,dd,i,d⟩:=o
 cases i with
 |cls cd =>
  obtain⟨nm,bs,b,n,q,j,sn,sub,ab,col,g⟩:=cd
  by_cases hc:c=.type "type"/\b.head?=some (.ref C)/\g=false/\d.size=6/\d[4]?=some (some (.builtin "ValueError.__new__"))
  ·cases (if_pos hc).symm.trans h
   obtain⟨rfl,f,rfl,e,k⟩:=hc;obtain⟨l⟩:=d
   cases b with
   |nil=>cases f
   |cons a m =>
    cases f;have e:l.length=6:=e
    rcases l with _ | ⟨k0,_ | ⟨k1,_ | ⟨k2,_ | ⟨k3,_ | ⟨r,_ | ⟨k5,_ | ⟨p,l⟩⟩⟩⟩⟩⟩⟩<;>try cases e
    cases k;exact⟨nm,q,bs,j,sn,sub,ab,col,dd,k0,k1,k2,k3,k5,rfl⟩
  ·cases (if_neg hc).symm.trans h
 | _=>cases h
noncomputable def Yy7 (K:Frag)(N:Addr):Bool:=match K.lookup N with
 |some ⟨_,_,.dict es _,_⟩=>es.toList.all fun e=>match e.key with | .str _ _=>true | _=>false
 | _=>false
theorem Zy3 {N:Addr}(h:Yy7 K N=true):nsOkIn K N=true:=by
 unfold Yy7 at h
 split at h
 ·rename_i l
  exact Wa5 l h
 grind
noncomputable def Wc6 (K:Frag)(C B:Addr):Bool:=match (K.lookup C).bind (Zv4 · C),(K.lookup B).bind (Zv4 · B) with
 |some (bm,N),some (_,M)=>bm == .ref B::bmV&&Yy7 K N&&Yy7 K M&&nsIn K N "__init__" == some none&&nsIn K M "__init__" == some none
 | _,_=>false
theorem Xx6 (h:Wc6 K C B=true):XCls K C:=by
 unfold Wc6 at h
 split at h
 ·rename_i bm N bm2 M hC hB
  obtain⟨o,l,f⟩:=zbh.mp hC;obtain⟨o2,l2,f2⟩:=zbh.mp hB;simp only[zo] at h;obtain⟨⟨⟨⟨h1,h2⟩,h3⟩,h4⟩,h5⟩:=h;have h1:=eq_of_beq h1;have h4:=eq_of_beq h4;subst h1;obtain⟨nm,q,bs,hd,sn,sub,ab,col,dd,k0,k1,k2,k3,k5,rfl⟩:=Yw0 f;obtain⟨nm',q',bs',hd',sn',sub',ab',col',dd',k0',k1',k2',k3',k5',rfl⟩:=Yw0 f2;exact Xx7 l (Yt0 l2 (Zy3 h3) (eq_of_beq h5)) (Zy3 h2) h4
 grind
noncomputable def Xs7 (K:Frag)(C:Addr):Bool:=findIn K (.ref C) "__getattribute__" == some (some (.builtin "BaseException.__getattribute__"))&&findIn K (.ref C) "__getattr__" == some none&&mroIn K C (.type "BaseException") == some true&&hasDictIn K C &&
 findIn K (.ref C) "__class__" == some (some (.builtin "object.__class__"))&&mroIn K C (.type "object") == some true
theorem Xb4 (h:Xs7 K C=true):XIsi K C:=by
 unfold Xs7 at h;simp only[zo] at h;exact⟨⟨eq_of_beq h.1.1.1.1.1,eq_of_beq h.1.1.1.1.2,eq_of_beq h.1.1.1.2⟩,Xu3 h.1.1.2,eq_of_beq h.1.2,eq_of_beq h.2⟩
structure ClsAsk where
 cls:List Nat
 exc:List (Nat×Nat)
 kit:List (Nat×List Nat)
noncomputable def at_ (p:zm)(K:Frag)(i:Nat):Addr:=adr K (nm (stAt p i))
noncomputable def chk (p:zm)(B:ClsAsk)(K:Frag):Bool :=
 (B.cls.all fun i=>Wb7 K (nm (stAt p i)))&&(B.exc.all fun ij=>Wc6 K (at_ p K ij.1) (at_ p K ij.2)&&Xs7 K (at_ p K ij.1)&&kitOne K (.ref (at_ p K ij.1)) (.ref (at_ p K ij.2)) == some true&&kitOne K (.ref (at_ p K ij.1)) (.type "ValueError") == some true) &&
 B.kit.all fun ij=>kitAny K (.ref (at_ p K ij.1)) (ij.2.map fun j=>.ref (at_ p K j)) == some false
section
variable {p:zm}{B:ClsAsk}
theorem Wu5 (h:chk p B K=true)(hi:i∈B.cls):nsIn K zn (nm (stAt p i))=some (some (.ref (at_ p K i))):=by
 unfold chk at h;simp only[zo] at h;exact Wr3 (yaf.mp h.1.1 i hi)
theorem c_refx {x:Str}(h:chk p B K=true)(hx:nm (stAt p i)=x)(hi:i∈B.cls):nsIn K zn x=some (some (.ref (at_ p K i))):=hx▸Wu5 h hi
theorem c_exc (h:chk p B K=true)(hi:ij∈B.exc):XCls K (at_ p K ij.1)/\XIsi K (at_ p K ij.1)/\kitOne K (.ref (at_ p K ij.1)) (.ref (at_ p K ij.2))=some true/\kitOne K (.ref (at_ p K ij.1)) (.type "ValueError")=some true:=by
 unfold chk at h;simp only[zo] at h;have:=yaf.mp h.1.2 ij hi;simp only[zo] at this;exact⟨Xx6 this.1.1.1,Xb4 this.1.1.2,eq_of_beq this.1.2,eq_of_beq this.2⟩
end
noncomputable def Wr5 (p:zm)(A:Ask)(B:ClsAsk)(h:Heap):List Addr :=
 Wu7 p A h++B.cls.flatMap fun i=>match nsIn (pick h [zn]) zn (nm (stAt p i)) with
  |some (some (.ref a))=>a::(match h.get? a with
   |some ⟨_,_,.cls cd,_⟩=>[cd.ns]
   | _=>[])
  | _=>[]
noncomputable def nsOf (K:Frag)(C:Addr):Option Addr:=((K.lookup C).bind (Zv4 · C)).map (·.2)
noncomputable def Wt9 (K:Frag)(C:Addr):Option (Addr×Obj):=(nsOf K C).bind fun N=>match nsIn K N "__init__" with
 |some (some (.ref f))=>(K.lookup f).map fun o=>(f,o)
 | _=>none
noncomputable def Yh8 (K:Frag)(C:Addr):Option (Value×FnD):=match Wt9 K C with
 |some (_,⟨c,_,.func fd,_⟩)=>some (c,fnD K fd)
 | _=>none
noncomputable def Yr2 (q:Str)(st:Stmt):Option (Value×FnD):=some (.type "function","__init__",q,Zd8 st,.stmts (Zc6 st),Za6 st,zn,[],.none,ydd,true)
noncomputable def Xw8 (K:Frag)(C B:Addr):Bool:=match (K.lookup C).bind (Zv4 · C),(K.lookup B).bind (Zv4 · B) with
 |some (bm,N),some (_,M)=>bm == .ref B::bmV&&Yy7 K N&&Yy7 K M&&nsIn K M "__init__" == some none
 | _,_=>false
noncomputable def Xy8 (K:Frag)(C:Addr)(x:Str):Bool:=findIn K (.ref C) "__setattr__" == some (some (.builtin "object.__setattr__"))&&findIn K (.ref C) x == some none&&hasDictIn K C&&mroIn K C (.type "object") == some true
theorem Xx4 (h:Xy8 K C x=true):XSet K C x:=by
 unfold Xy8 at h;simp only[zo] at h;exact⟨eq_of_beq h.1.1.1,eq_of_beq h.1.1.2,h.1.2,eq_of_beq h.2⟩
noncomputable def fiOk:Option CFound->Bool
 |some (.val (.builtin n))=>n == "ValueError.__init__"
 | _=>false
theorem Wu0 {o:Option CFound}(h:fiOk o=true):o=some (.val (.builtin "ValueError.__init__")):=by
 unfold fiOk at h
 split at h
 ·simp_all
 grind
noncomputable def Wb9 (K:Frag)(B:Addr):Bool:=specialIn K (.ref B) "__getattribute__" == some (some (.builtin "type.__getattribute__"))&&readsIn K B (.type "type")&&fiOk (findCls K (.ref B) (.type "type") "__init__")
theorem Xx5 (h:Wb9 K B=true):XIni K B:=by
 unfold Wb9 at h;simp only[zo] at h;exact⟨eq_of_beq h.1.1,h.1.2,Wu0 h.2⟩
structure IniRow where
 cls:Nat
 bas:Nat
 met:Nat
 qual:Str
 fld:Str
structure IniF (K:Frag)(C B:Addr)(q fld:Str)(st:Stmt)(f:Addr)(fd:yq):Prop where
 fn:Fun K "__init__" q st f fd
 xc:XClsI K C f
 isi:XIsi K C
 set:XSet K C fld
 ini:XIni K B
 one:kitOne K (.ref C) (.ref B)=some true
 val:kitOne K (.ref C) (.type "ValueError")=some true
noncomputable def Xl1 (K:Frag)(C B:Addr)(fld:Str):Bool:=Xw8 K C B&&Xs7 K C&&Xy8 K C fld&&Wb9 K B&&kitOne K (.ref C) (.ref B) == some true&&kitOne K (.ref C) (.type "ValueError") == some true
theorem Wq0 {q fld:Str}(h:Xl1 K C B fld=true)(e:Yh8 K C=Yr2 q st):∃f fd,IniF K C B q fld st f fd:=by
 unfold Xl1 at h;simp only[zo] at h;obtain⟨⟨⟨⟨⟨h1,h2⟩,h3⟩,h4⟩,h5⟩,h6⟩:=h;unfold Yh8 at e
 split at e
 ·rename_i f oc od fd sl hi
  obtain⟨a1,a2,a3,a4,a5,a6,a7,a8,a9,a10,a11,a12,a13,a14,a15⟩:=fd;have e:=zan e;simp[fnD,ydo] at e;obtain⟨rfl,rfl,rfl,rfl,rfl,rfl,rfl,rfl,rfl,rfl,hc⟩:=e;obtain⟨N,hN,hi⟩:=zbh.mp hi
  split at hi
  ·rename_i f' hf
   obtain⟨o,lf,ef⟩:=yab.mp hi;cases ef;obtain⟨⟨bm,N'⟩,hX,rfl⟩:=yab.mp hN;unfold Xw8 at h1;rw[hX] at h1
   split at h1
   ·rename_i bm1 N1 bm2 M hC hB
    cases hC;obtain⟨o1,l,g⟩:=zbh.mp hX;obtain⟨o2,l2,g2⟩:=zbh.mp hB;simp only[zo] at h1;obtain⟨⟨⟨j1,j2⟩,j3⟩,j5⟩:=h1;have j1:=eq_of_beq j1;have j5:=eq_of_beq j5;subst j1;obtain⟨nm,q',bs,hd,sn,sub,ab,col,dd,k0,k1,k2,k3,k5,rfl⟩:=Yw0 g;obtain⟨nm',q'',bs',hd',sn',sub',ab',col',dd',k0',k1',k2',k3',k5',rfl⟩:=Yw0 g2
    have kp:keepIn K (.ref f)=true:=by
     show (match K.lookup f with | some ⟨_,_,.func _,_⟩=>true | some ⟨_,_,.cls _,_⟩=>specialIn K _ "__call__" == some _ | _=>false)=true;rw[lf]
    exact⟨f,_,Yv7 lf hc kp,Xo8 l (Yt0 l2 (Zy3 j3) j5) (Zy3 j2) hf lf rfl,Xb4 h2,Xx4 h3,Xx5 h4,eq_of_beq h5,eq_of_beq h6⟩
   simp_all
  simp_all
 ·cases e
noncomputable def Wt8 (K:Frag)(x:Str)(i:Int):Bool:=match nsIn K zn x with
 |some (some (.int j _))=>decide (j=i)
 | _=>false
structure MoreAsk where
 ini:List IniRow
 nums:List (Str×Int)
noncomputable def chkM (p:zm)(M:MoreAsk)(K:Frag):Bool:=(M.ini.all fun r=>Xl1 K (at_ p K r.cls) (at_ p K r.bas) r.fld)&&M.nums.all fun xi=>Wt8 K xi.1 xi.2
noncomputable def iniK (p:zm)(M:MoreAsk)(K:Frag):List (Option (Value×FnD)):=M.ini.map fun r=>Yh8 K (at_ p K r.cls)
noncomputable def iniV (p:zm)(M:MoreAsk):List (Option (Value×FnD)):=M.ini.map fun r=>Yr2 r.qual (Yr3 (stAt p r.cls) r.met)
theorem m_ini {p:zm}{M:MoreAsk}(h:chkM p M K=true)(e:iniK p M K=iniV p M){r:IniRow}(hr:r∈M.ini):∃f fd,IniF K (at_ p K r.cls) (at_ p K r.bas) r.qual r.fld (Yr3 (stAt p r.cls) r.met) f fd:=by
 unfold chkM at h;rw[zo] at h;exact Wq0 (yaf.mp h.1 r hr) (Yk9 (f:=fun r:IniRow=>Yh8 K _) (g:=fun r:IniRow=>Yr2 _ _) e hr)
noncomputable def Wr4 (p:zm)(A:Ask)(B:ClsAsk)(M:MoreAsk)(h:Heap):List Addr :=
 cStatics::Wr5 p A B h++M.ini.flatMap fun r=>match nsIn (pick h [zn]) zn (nm (stAt p r.cls)) with
  |some (some (.ref a))=>(match h.get? a with
   |some ⟨_,_,.cls cd,_⟩=>(match nsIn (pick h [cd.ns]) cd.ns "__init__" with
    |some (some (.ref f))=>f::(match h.get? f with
     |some ⟨_,_,.func fd,_⟩=>(match fd.code with | .ref c=>[c] | _=>[])
     | _=>[])
    | _=>[])
   | _=>[])
  | _=>[]
noncomputable abbrev Obs3:=Obs×Bool×List (Option (Value×FnD))×Bool
noncomputable def Wt5 (p:zm)(A:Ask)(B:ClsAsk)(M:MoreAsk)(K:Frag):Obs3:=(obsK p A K,chk p B K,iniK p M K,chkM p M K)
noncomputable def val3 (p:zm)(A:Ask)(M:MoreAsk)(w:World):Obs3:=(valK p A w.params,true,iniV p M,true)
end Hd
namespace L2
open PySem PySem.Spec PyProof.Rows
structure Df (K:W.Frag)(mg:Str->Option Value)(x:Str)(st:Stmt)(ps:List Str):Prop where
 ex:∃(f:Addr) (fd:yq),mg x=some (.ref f)/\Fun K x x st f fd/\ybd K (.ref f)=true/\Binds K fd ps []
end L2
namespace Hd
open PySem PySem.W PySem.Calls PySem.Spec PyProof.Rows L2
section
variable {p:zm}{A:Ask}{P:Params}{a b c d e f g:Str}
theorem df (X:K.In h)(G:h.Ns zn mg)(E:obsK p A K=valK p A P)(i:Nat)(hx:nm (stAt p i)=x)(hi:i∈A.fns)(hb:∀kV dc pm an cd ct (us:List Value),us.length=ps.length->ydc (fnOf x x (Zd8 (stAt p i)) (Zc6 (stAt p i)) (Za6 (stAt p i)) .none kV dc pm an cd ct) ⟨us,[]⟩=pure (ps.zip us)):Df K mg x (stAt p i) ps:=by
 obtain⟨f,b,a,F⟩:=Xl4 hx (e_fn E hi);exact⟨⟨f,b,mg_of X G a,F,F.kp,F.binds hb⟩⟩
theorem nsx {f:Addr}(X:K.In h)(G:h.Ns zn mg)(E:obsK p A K=valK p A P)(i:Nat)(m:mg x=some (.ref f))(hx:nm (stAt p i)=x:=by kernel_rfl)(hi:i∈A.fns:=by decide):nsIn K zn x=some (some (.ref f)):=by
 obtain⟨c,b,a,F⟩:=Xl4 hx (e_fn E hi);have e:=(mg_of X G a).symm.trans m
 grind
theorem lS {α:Type}{us:List α}(h:us.length=n+1):∃u t,us=u::t/\t.length=n:=by
 cases us with
 |nil=>cases h
 |cons u t=>exact⟨u,t,rfl,Nat.succ.inj h⟩
theorem df1 (X:K.In h)(G:h.Ns zn mg)(E:obsK p A K=valK p A P)(i:Nat)(hx:nm (stAt p i)=x:=by kernel_rfl)(hi:i∈A.fns:=by decide)
  (hb:∀kV dc pm an cd ct u1,ydc (fnOf x x (Zd8 (stAt p i)) (Zc6 (stAt p i)) (Za6 (stAt p i)) .none kV dc pm an cd ct) ⟨[u1],[]⟩=pure [(a,u1)]:=by intros;rfl):Df K mg x (stAt p i) [a] :=
 df X G E i hx hi fun kV dc pm an cd ct e b=>by
  obtain⟨u,c,rfl,d⟩:=lS b
  simp_all
theorem df2 (X:K.In h)(G:h.Ns zn mg)(E:obsK p A K=valK p A P)(i:Nat)(hx:nm (stAt p i)=x:=by kernel_rfl)(hi:i∈A.fns:=by decide)
  (hb:∀kV dc pm an cd ct u1 u2,ydc (fnOf x x (Zd8 (stAt p i)) (Zc6 (stAt p i)) (Za6 (stAt p i)) .none kV dc pm an cd ct) ⟨[u1,u2],[]⟩=pure [(a,u1),(b,u2)]:=by intros;rfl):Df K mg x (stAt p i) [a,b] :=
 df X G E i hx hi fun kV dc pm an cd ct j d=>by
  obtain⟨u,f,rfl,c⟩:=lS d;obtain⟨v,e,rfl,g⟩:=lS c
  simp_all
theorem df3 (X:K.In h)(G:h.Ns zn mg)(E:obsK p A K=valK p A P)(i:Nat)(hx:nm (stAt p i)=x:=by kernel_rfl)(hi:i∈A.fns:=by decide)
  (hb:∀kV dc pm an cd ct u1 u2 u3,ydc (fnOf x x (Zd8 (stAt p i)) (Zc6 (stAt p i)) (Za6 (stAt p i)) .none kV dc pm an cd ct) ⟨[u1,u2,u3],[]⟩=pure [(a,u1),(b,u2),(c,u3)]:=by intros;rfl):Df K mg x (stAt p i) [a,b,c] :=
 df X G E i hx hi fun kV dc pm an cd ct m f=>by
  obtain⟨u,k,rfl,e⟩:=lS f;obtain⟨v,j,rfl,d⟩:=lS e;obtain⟨w,g,rfl,l⟩:=lS d
  simp_all
theorem df4 (X:K.In h)(G:h.Ns zn mg)(E:obsK p A K=valK p A P)(i:Nat)(hx:nm (stAt p i)=x:=by kernel_rfl)(hi:i∈A.fns:=by decide)
  (hb:∀kV dc pm an cd ct u1 u2 u3 u4,ydc (fnOf x x (Zd8 (stAt p i)) (Zc6 (stAt p i)) (Za6 (stAt p i)) .none kV dc pm an cd ct) ⟨[u1,u2,u3,u4],[]⟩=pure [(a,u1),(b,u2),(c,u3),(d,u4)]:=by intros;rfl):Df K mg x (stAt p i) [a,b,c,d] :=
 df X G E i hx hi fun kV dc pm an cd ct q j=>by
  obtain⟨u,n,rfl,g⟩:=lS j;obtain⟨v,m,rfl,f⟩:=lS g;obtain⟨w,l,rfl,e⟩:=lS f;obtain⟨y,k,rfl,o⟩:=lS e
  simp_all
theorem df5 (X:K.In h)(G:h.Ns zn mg)(E:obsK p A K=valK p A P)(i:Nat)(hx:nm (stAt p i)=x:=by kernel_rfl)(hi:i∈A.fns:=by decide)
  (hb:∀kV dc pm an cd ct u1 u2 u3 u4 u5,ydc (fnOf x x (Zd8 (stAt p i)) (Zc6 (stAt p i)) (Za6 (stAt p i)) .none kV dc pm an cd ct) ⟨[u1,u2,u3,u4,u5],[]⟩=pure [(a,u1),(b,u2),(c,u3),(d,u4),(e,u5)]:=by intros;rfl):Df K mg x (stAt p i) [a,b,c,d,e] :=
 df X G E i hx hi fun kV dc pm an cd ct t l=>by
  obtain⟨u,r,rfl,k⟩:=lS l;obtain⟨v,q,rfl,j⟩:=lS k;obtain⟨w,o,rfl,g⟩:=lS j;obtain⟨y,n,rfl,f⟩:=lS g;obtain⟨z,m,rfl,s⟩:=lS f
  simp_all
theorem df6 (X:K.In h)(G:h.Ns zn mg)(E:obsK p A K=valK p A P)(i:Nat)(hx:nm (stAt p i)=x:=by kernel_rfl)(hi:i∈A.fns:=by decide)
  (hb:∀kV dc pm an cd ct u1 u2 u3 u4 u5 u6,ydc (fnOf x x (Zd8 (stAt p i)) (Zc6 (stAt p i)) (Za6 (stAt p i)) .none kV dc pm an cd ct) ⟨[u1,u2,u3,u4,u5,u6],[]⟩=pure [(a,u1),(b,u2),(c,u3),(d,u4),(e,u5),(f,u6)]:=by intros;rfl):Df K mg x (stAt p i) [a,b,c,d,e,f] :=
 df X G E i hx hi fun kV dc pm an cd ct F n=>by
  obtain⟨u,C,rfl,m⟩:=lS n;obtain⟨v,B,rfl,l⟩:=lS m;obtain⟨w,t,rfl,k⟩:=lS l;obtain⟨y,s,rfl,j⟩:=lS k;obtain⟨z,r,rfl,g⟩:=lS j;obtain⟨q,o,rfl,D⟩:=lS g
  simp_all
end
noncomputable def Xm7 (K:Frag):Value->Option (Addr×Obj)
 | .ref c=>(K.lookup c).map fun o=>(c,o)
 | _=>none
noncomputable def Yw6 (K:Frag)(x:Str):Option (Addr×Obj):=match Zm4 K x with
 |some (_,⟨_,_,.func fd,_⟩)=>Xm7 K fd.code
 | _=>none
noncomputable def tabV:Option Value->Addr
 |some (.ref T)=>T
 | _=>0
noncomputable def Ws6:Option (Addr×Obj)->Addr
 |some (_,⟨_,_,.fields vs,_⟩)=>tabV vs[11]?
 | _=>0
noncomputable def tabAt (K:Frag)(x:Str):Addr:=Ws6 (Yw6 K x)
noncomputable def Xw5:Value->Bool
 | .str _ _=>true
 | _=>false
noncomputable def Xk7:Value->Bool
 | .int _ _=>true
 | _=>false
noncomputable def Xk8:Value->Bool
 | .bool _=>true
 | _=>false
noncomputable def Yv9 (c:Addr)(vs:Array Value):Bool:=match (vs[11]?:Option Value) with
 |some (.ref T)=>vs.getD 11 .none == .ref T&&(Xw5 (vs.getD 18 .none)&&(Xk7 (vs.getD 7 .none)&&(Xk8 (vs.getD 9 .none)&&(Xk7 (vs.getD 10 .none)&&(c != T&&zn != T)))))
 | _=>false
theorem Xk6 (h:Xw5 v=true):∃a b,v=.str a b:=by cases v<;>first | exact⟨_,_,rfl⟩ | cases h
theorem Yl8 (h:Xk7 v=true):∃a b,v=.int a b:=by cases v<;>first | exact⟨_,_,rfl⟩ | cases h
theorem Xa0 (h:Xk8 v=true):∃a,v=.bool a:=by cases v<;>first | exact⟨_,rfl⟩ | cases h
noncomputable def Ym7 (K:Frag)(x:Str):Bool:=(match Yw6 K x with
 |some (c,⟨cl,_,.fields vs,_⟩)=>cl == .type "code"&&Yv9 c vs
 | _=>false)&&(K.lookup (tabAt K x)).isNone
theorem Yy3 (a:nsIn K zn x=some (some (.ref f)))(l:K.lookup f=some o):Zm4 K x=some (f,o):=by
 unfold Zm4
 simp_all
def FunTF (K:Frag)(x:Str)(st:Stmt)(T:Addr):Prop:=∃(f:Addr) (fd:yq),nsIn K zn x=some (some (.ref f))/\FunT K x x st f fd T/\Fun K x x st f fd/\zn≠T/\K.lookup T=none/\∀h,K.In h->isCodeTable h T
theorem Xl5 (e:Zw8 K (nm st)=Yc1 st)(h:Ym7 K (nm st)=true):FunTF K (nm st) st (tabAt K (nm st)):=by
 obtain⟨f,oc,od,sl,kV,dc,pm,an,cd,ct,a,l,c,k⟩:=fn_of e;have r:=Yy3 a l
 have q:Yw6 K (nm st)=Xm7 K cd:=by
  unfold Yw6;rw[r]
 unfold Ym7 at h;rw[zo] at h;obtain⟨h,hn⟩:=h;have hn:=Option.isNone_iff_eq_none.mp hn
 split at h
 ·rename_i cc cl od2 vs sl2 hc
  have ht:tabAt K (nm st)=tabV vs[11]?:=by
   unfold tabAt;rw[hc];rfl
  rw[zo] at h;obtain⟨hcl,hf⟩:=h;have hcl:=eq_of_beq hcl;subst hcl;unfold Yv9 at hf
  split at hf
  ·rename_i T g1
   simp only[zo] at hf;obtain⟨g2,g3,g4,g5,g6,f2,f3⟩:=hf;have g2:=eq_of_beq g2
   have f2:cc≠T:=fun z=>by simp_all
   have f3:zn≠T:=fun z=>by simp_all
   have ht:tabAt K (nm st)=T:=by rw[ht,g1];rfl
   rw[ht] at hn ⊢
   cases cd with
   |ref c0 =>
    rw[hc] at q;obtain⟨o,e1,e2⟩:=yab.mp (show (K.lookup c0).map _=_ from q.symm);cases e2;have hC  := fun h kx=>Xn0 e1 ⟨g1,g2,Xk6 g3,Yl8 g4,Xa0 g5,Yl8 g6⟩ f2 h kx;exact⟨f,_,a,Wc3 l c k hC,Yv7 l c k,f3,hn,fun h kx=>⟨cc,_,vs,kx _ _ e1,rfl,rfl,g1⟩⟩
   | _=>exact absurd (hc.symm.trans q) (by intro z;cases z)
  grind
 grind
theorem funT_ofx (hx:nm st=x)(e:Zw8 K (nm st)=Yc1 st)(h:Ym7 K (nm st)=true):FunTF K x st (tabAt K x):=hx▸Xl5 e h
noncomputable def Yi4 (o:Option Obj):Bool:=match o with
 |some ⟨.none,none,.fields vs,sl⟩=>vs.size == 0&&sl.size == 0
 | _=>false
theorem Yr7 {o:Option Obj}(h:Yi4 o=true):o=some (tabObj #[]):=by
 unfold Yi4 at h
 split at h
 ·grind
 simp_all
noncomputable def Wr0 (K:Frag):Bool:=match nsIn K zn (zh "__builtins__") with
 |some (some (.ref b))=>(K.lookup b).isSome
 | _=>false
noncomputable def tabs (p:zm)(TA:List Nat)(K:Frag):List Addr:=TA.map fun i=>tabAt K (nm (stAt p i))
noncomputable def codesOk (p:zm)(TA:List Nat)(K:Frag):Bool:=(TA.all fun i=>Ym7 K (nm (stAt p i)))&&Wr0 K
noncomputable def We8 (p:zm)(TA:List Nat)(h:Heap)(K:Frag):Bool:=(tabs p TA K).all fun T=>Yi4 (h.get? T)
noncomputable def Xo4 (p:zm)(A:Ask)(B:ClsAsk)(M:MoreAsk)(h:Heap):List Addr :=
 Wr4 p A B M h++(match nsIn (pick h [zn]) zn (zh "__builtins__") with
  |some (some (.ref b))=>[b]
  | _=>[])
noncomputable def obs4 (p:zm)(A:Ask)(B:ClsAsk)(M:MoreAsk)(TA:List Nat)(s:Shared):Obs3×Bool×Bool :=
 (Wt5 p A B M (pick s.heap (Xo4 p A B M s.heap)),codesOk p TA (pick s.heap (Xo4 p A B M s.heap)),We8 p TA s.heap (pick s.heap (Xo4 p A B M s.heap)))
noncomputable def val4 (p:zm)(A:Ask)(M:MoreAsk)(w:World):Obs3×Bool×Bool:=(val3 p A M w,true,true)
noncomputable def hook4 (p:zm)(A:Ask)(B:ClsAsk)(M:MoreAsk)(TA:List Nat):Hook :=
 ⟨Obs3×Bool×Bool,obs4 p A B M TA,val4 p A M,fun w h=>∃K:Frag,K.In h/\(obsK p A K=valK p A w.params/\chk p B K=true/\iniK p M K=iniV p M/\chkM p M K=true)/\codesOk p TA K=true/\∀T∈tabs p TA K,h.get? T=some (tabObj #[]),
  fun w s e=>by
   obtain⟨e1,e2⟩:=yx e;obtain⟨e2,e3⟩:=yx e2;refine⟨_,Xg0 _ _,⟨(yx e1).1,(yx (yx e1).2).1,(yx (yx (yx e1).2).2).1,(yx (yx (yx e1).2).2).2⟩,e2,fun T hT=>?_⟩
   exact Yr7 (yaf.mp e3 T hT),
  fun w h h' x k=>by
   obtain⟨K,i,e,c,t⟩:=x
   exact⟨K,fun a o z=>k _ _ (i a o z),e,c,fun T hT=>k _ _ (t T hT)⟩⟩
theorem t_code {p:zm}{TA:List Nat}(h:codesOk p TA K=true)(hi:i∈TA):Ym7 K (nm (stAt p i))=true:=by
 unfold codesOk at h
 simp_all
theorem walkH4 {l:OpenLaw}{n k:Nat}{q p:zm}{A:Ask}{B:ClsAsk}{M:MoreAsk}{TA:List Nat}{d:DefRec}{CX:CXT}{sp:Frag->List Addr->Sp}{x:Str}
  (hn:l.most=some n) (hn2:n<=zp) (hdf:d.params.defaults=[]) (hr:Room k callerA) (hTA:∀i∈TA,i∈A.fns)
  (F:∀(w:World) (mg:Str->Option Value) (fa:Addr) (h:Heap) (K:Frag) (bm:Addr),K.In h->h.Ns zn mg->mg d.name=some (.ref fa)->obsK p A K=valK p A w.params->chk p B K=true->iniK p M K=iniV p M->chkM p M K=true->codesOk p TA K=true->BltK K mg bm->(∀T∈tabs p TA K,bm≠T) ->
   ∃fd:yq,(∀(s:Shared) (u:Value),BindsTo s fd ⟨[u],[]⟩ [(x,u)])/\∀base:Heap,K.In base->base.Ns zn mg->FnOk l.prog w K mg base CX k fa fd [x] (sp K (tabs p TA K)))
  (hsp:∀(K:Frag) (ts:List Addr) (H:Hp) (a:Addr) (ns:List Int),ns.length<=n->ts.length=TA.length->(∀T∈ts,H T=some (.tbl #[]))->SqL K H a (ns.map V.int)->sp K ts [.ref a] H (fun v _=>v=.bl true) fun _ _ _=>False)
  (hCX:∀(H:Hp) (s:Shared) (e:Value) (s':Shared),CX [] H s (fun _ _ _=>False) e s'->False) :
  WalkO q loose XP (hook4 p A B M TA).says l.row.toRowW d [] (fun f vs=>PySem.call f vs) :=
 Att.attach_call hn hdf fun w s₀ s₁ mg mb fa o pm cd doc a vs ns G Y ho hd hcd hmg hobj hints hlen hg=>by
  obtain⟨K,KX,⟨E,D,E2,D2⟩,hc,TX⟩:=Y;obtain⟨bm,ob,b1,b2,b3,b4,b5,b6⟩:=G.T.bmain
  have hblt:K.lookup bm=some ob:=by
   have hb:=hc;unfold codesOk at hb;rw[zo] at hb;have hb:=hb.2;unfold Wr0 at hb
   split at hb
   ·rename_i b e
    have e1:=(mg_of KX G.T.g e).symm.trans b1;obtain⟨o',e2⟩:=zbs.mp hb;have e3:=KX _ _ e2
    grind
   grind
  have nT:∀T∈tabs p TA K,bm≠T:=fun T hT z=>by
   grind
  have nM:bm≠zn:=fun z=>by
   obtain⟨o',es,ep,e,d',_⟩:=G.T.g
   grind
  have fact:∀T∈tabs p TA K,K.lookup T=none/\isCodeTable s₁.heap T:=fun T hT=>by
   obtain⟨i,hi,rfl⟩:=zah.mp hT;obtain⟨_,_,_,_,_,_,h1,h2⟩:=Xl5 (e_fn E (hTA i hi)) (t_code hc hi);exact⟨h1,h2 _ KX⟩
  obtain⟨fd,hb,hF⟩:=F w mg fa _ K bm KX G.T.g hmg E D E2 D2 hc ⟨b1,⟨ob,hblt,b4,b5,b6⟩,b2,nM⟩ nT;exact Xj8 KX G.T.g G.T.b G.T.builtins G.T.nolimit hg hobj hints (zi hlen hn2) hr TX (fun T hT=>(fact T hT).1) (fun T hT=>(fact T hT).2) hF hb
   (fun H hO hS=>hsp K _ H a ns hlen (by simp[tabs]) hO hS) fun H e s'=>hCX H _ e s'
theorem obs4_self:@obs4=@obs4:=rfl
theorem val4_self:@val4=@val4:=rfl
end Hd
name_quick hdObs4 for Hd.obs4 by Hd.obs4_self
name_quick hdVal4 for Hd.val4 by Hd.val4_self
namespace L2
open PySem PySem.Spec PyProof.Rows Ken
section
def Yp5 (K:W.Frag):List V->Hp->VK->Prop:=fun vs H Q=>∃(a:Addr) (ns:List Int),vs=[.ref a]/\SqL K H a (ns.map V.int)/\ns≠[]/\∀m,m∈ns->(∀n∈ns,n<=m)->Q (.int m) H
theorem Xw6:∀{ns:List Int} {us:List Value},Vals (ns.map V.int) us->∃xs:List (Int×Tok),us=xs.map (fun p=>zdp p.1 p.2)/\xs.map (·.1)=ns
 | [],_,r=>by cases r;exact⟨[],rfl,rfl⟩
 |n::ns,_,r=>by
  cases r with
  |cons h t =>
   obtain⟨tk,rfl⟩:=h;obtain⟨xs,rfl,e⟩:=Xw6 t;exact⟨(n,tk)::xs,rfl,by simp_all⟩
theorem Xn5 (hc:X.calm=true):Zv6 X (.builtin "max") (Yp5 X.K):=by
 intro z s J H L M Q I r h;obtain⟨a,O,rfl,A,G,q⟩:=h;obtain⟨u,rfl,x⟩:=Yn9 r;cases x;obtain⟨F,w,y,R⟩:=I.list A;obtain⟨b,rfl,ex⟩:=Xw6 w
 have C:intItems b.toArray=(b.map fun p=>zdp p.1 p.2).toArray:=by simp[intItems]
 have B:0 < b.length:=by
  grind
 refine max_intList (I.ok.hd hc) (by rw[C];exact y.isList) (by omega) fun v S N g k=>?_;obtain⟨t,rfl⟩:=intItems_at g;obtain⟨D,o⟩:=argBest_gt (numAt b.toArray) (b.toArray.size - 1)
 have l:b.toArray.size=b.length:=by simp
 rw[l] at D o g ⊢;have f:∀i,i < b.length->∃p∈b,numAt b.toArray i=p.1:=fun i c=>⟨b[i],zbm c,by simp[numAt,c]⟩;refine⟨.int _,H,I.kept k,⟨_,rfl⟩,q _ ?_ ?_⟩
 ·obtain⟨p,d,e⟩:=f (argBest (fun i j=>decide (numAt b.toArray i > numAt b.toArray j)) (b.length - 1)) (by omega)
  rw[e,<- ex];exact List.mem_map_of_mem d
 ·intro n m
  rw[<- ex] at m;obtain⟨p,d,rfl⟩:=zah.mp m;obtain⟨i,c,rfl⟩:=zw d;have:=o i (by omega)
  have e:numAt b.toArray i=b[i].1:=by simp[numAt,c]
  omega
end
end L2
namespace Ken
open PySem L2
noncomputable def Yz4:Tm->Bool
 | .nd _ _ b=>decide (Zk4 b="then")
 | _=>false
theorem Zh0 {p wa la:Addr}{x:Str}{R:Option Rl}{ws:List Tm}{g:Tm}{on:Option Tm}{ls:List Int}(hp:H p=none)(hw:IsW K H wa ws)(hg:IsT K H gv g)(ho:OnX K H ov on)(hl:H la=some (.lst (ls.map V.int)))(fw:H0 wa=none)(fl:H0 la=none):
  IsLnF K H0 (upd H p (.tup [.str x,.ref wa,gv,ov,.ref la])) (.ref p) ⟨x,R,ws,g,on,ls⟩:=by
 have s:=Za2 hp (HO.tup [.str x,.ref wa,gv,ov,.ref la]);obtain⟨⟨a,c,b⟩,_⟩:=hw;exact⟨p,wa,la,gv,ov,a,rfl,.inl (.inl Za1),s _ _ c,Za8 s.keepT b,hg.keep s.keepT,ho.keep s.keepT,s _ _ hl,fw,fl⟩
def IsLnN (K:W.Frag)(d:Addr)(H:Hp)(v:V)(l:Ln):Prop:=∃(p wa la:Addr) (gv ov:V) (us:List V),v=.ref p/\SqT K H p [.str l.x,.ref wa,gv,ov,.ref la]/\H wa=some (.lst us)/\Paired (IsT K H) us l.ws/\IsT K H gv l.g/\OnX K H ov l.on/\H la=some (.lst (l.ls.map V.int))/\wa≠d/\la≠d
theorem IsLnN.ln {v:V}{l:Ln}(h:IsLnN K d H v l):IsLn K H v l:=by
 obtain⟨p,a,e,n,c,b,rfl,m,k,j,i,g,f,_,_⟩:=h;exact⟨p,a,e,n,c,b,rfl,m,k,j,i,g,f⟩
theorem IsLnN.keep {K:W.Frag}(e:Same H H'){v:V}{l:Ln}(h:IsLnN K d H v l):IsLnN K d H' v l:=by
 obtain⟨p,a,i,r,c,b,rfl,q,o,n,m,k,j,g,f⟩:=h;exact⟨p,a,i,r,c,b,rfl,e.sqt q,e _ _ o,Za8 e.keepT n,m.keep e.keepT,k.keep e.keepT,e _ _ j,g,f⟩
theorem IsLnN.write {v:V}{l:Ln}(hd:H d=some (.lst xs))(h:IsLnN K d H v l):IsLnN K d (upd H d (.lst ys)) v l:=by
 obtain⟨p,e,i,o,g,f,rfl,n,r,m,k,j,q,c,b⟩:=h;have a:KeepT K H (upd H d (.lst ys)):=Ze0 hd;exact⟨p,e,i,o,g,f,rfl,a _ _ n,by rw[Zb3 c];omega,Za8 a m,k.keep a,j.keep a,by rw[Zb3 b];omega,c,b⟩
theorem IsLn.n {v:V}{l:Ln}(e:Same H0 H)(hd:H0 d=none)(h:IsLn K H0 v l):IsLnN K d H v l:=by
 obtain⟨p,c,i,q,g,f,rfl,o,b,m,k,j,a⟩:=h;exact⟨p,c,i,q,g,f,rfl,e.sqt o,e _ _ b,Za8 e.keepT m,k.keep e.keepT,j.keep e.keepT,e _ _ a,Za9 b hd,Za9 a hd⟩
theorem IsLnF.n {o:HO}{v:V}{l:Ln}(h:IsLnF K H0 H v l)(hd:H0 d=some o):IsLnN K d H v l:=by
 obtain⟨p,a,g,s,c,b,rfl,r,q,m,k,j,i,f,e⟩:=h;exact⟨p,a,g,s,c,b,rfl,r,q,m,k,j,i,zar (Za9 hd f),zar (Za9 hd e)⟩
theorem Zi1 {us:List V}(hp1:H0 p1=none)(hU:Paired (IsT K H0) us ts)(hV:Paired (IsT K H0) vs rs)(ok1:Okw ts)(ok2:Okw rs)(hl:ts.length+rs.length < 64)(q:∀(r:Addr) (H':Hp),Same H0 H'->H0 r=none->IsW K H' r (norm (ts++rs))->Q (.ref r) H'):sp_onceL K [.ref p1] (upd H0 p1 (.lst (us++vs))) Q E0:=by
 have s:=Za2 hp1 (HO.lst (us++vs));exact⟨p1,_,ts++rs,rfl,Za1,Zc4 (Za8 s.keepT hU) (Za8 s.keepT hV),fun t b=>(yd.mp b).elim (ok1 t) (ok2 t),by simp_all,fun r H' e c a=>q r H' (s.trans e) (s.free c) a⟩
theorem Zh1 {us:List V}{ws:List Tm}{tk:TK}(f:Tm->Bool)(ha:H a=some (.lst us))(hU:Paired (IsT K H) us ws)(hl:ws.length<=100)(hacc:H acc=none)(hw:∀v,Wk σ0 (σ0.set 0 (some v))) (ht:∀(v:V) (t:Tm) (H':Hp) (ys:List V) (N:Hp->Prop),t∈ws->Same H H'->IsT K H' v t->H' acc=some (.lst ys)->ys.length < 100 ->
   (f t=true->∀H'',Same H' H''->H'' acc=some (.lst ys)->N (upd H'' acc (.lst (ys++[v]))))->(f t=false->∀H'',Same H' H''->N H'')->tk (σ0.set 0 (some v)) H' N) (hd:∀(H':Hp) (ys:List V),Same H H'->H' acc=some (.lst ys)->Paired (IsT K H') ys (ws.filter f)->Q H'):
  ∃W:Nat->Nat->Hp->Prop,(∃m,W 0 m (upd H acc (.lst [])))/\Ys0 σ0 (Itl K a) (Zn5 0) tk Q W:=by
 have k  := zc hU;refine Zu0 (fun i H'=>Same H H'/\∃ys,H' acc=some (.lst ys)/\Paired (IsT K H') ys ((ws.take i).filter f)) ⟨Za2 hacc _,[],Za1,.nil⟩ (fun i H' _ ⟨e,_⟩=>SqL.of (e _ _ ha)) (fun i v H' N hv ⟨e,ys,h,hP⟩ hN=>?_) fun H' ⟨e,ys,h,hP⟩=>?_
 ·obtain⟨t,c,g⟩:=paired_get hU hv
  have r  := (ze.mp c).1
  have j:(ws.take (i+1)).filter f=(ws.take i).filter f++[t].filter f:=by rw[Zf6 c,List.filter_append]
  have p:=zc hP
  have q  := by
   have o:=yu f (ws.take i);rw[zq] at o;omega
  refine⟨hw v,ht v t H' ys N (yc c) e (g.keep e.keepT) h (by omega) (fun l H'' b n=>hN _ ⟨(e.trans b).write hacc,_,Za1,?_⟩) fun l H'' b=>hN _ ⟨e.trans b,ys,b _ _ h,?_⟩⟩
  ·have d:KeepT K H'' (upd H'' acc (.lst (ys++[v]))):=Ze0 n
   rw[j,show [t].filter f=[t] by simp[*]];exact Zc4 (Za8 (b.keepT.trans d) hP) (.cons ((g.keep (e.trans b).keepT).keep d) .nil)
  ·rw[j,show [t].filter f=[] by simp[*],yaa]
   exact Za8 b.keepT hP
 ·rw[k,zaa] at hP
  exact hd H' ys e h hP
theorem Yr9 {us:List V}{ws:List Tm}{o:Tm}(ha:H a=some (.lst us))(hU:Paired (IsT K H) us ws)(hl:ws.length<=100)(hacc:H acc=none)(hok:Okw ws)(hx:IsT K H xv o)(ook:o.ok)(hd:∀(H':Hp) (ys:List V),Same H H'->H' acc=some (.lst ys)->Paired (IsT K H') ys (rem ws o)->Q H'):
  ∃W:Nat->Nat->Hp->Prop,(∃m,W 0 m (upd H acc (.lst [])))/\Ys0 [none,some xv] (Itl K a) (Zn5 0) (Yh5 (Zz9 (tOp (rEqD K true) (tVar 0) (tVar 1))) (kApp (tVar 0) acc)) Q W:=by
 refine Zh1 _ ha hU hl hacc (fun d=>Ze2 rfl) (fun d t H' ys N c e j h i f g=>?_) hd;have b:=hok t c;simp only[Yh5,kApp,Zz9,tOp,tVar,rEqD,List.set_cons_zero,yby,List.getElem?_cons_succ,ych,exists_eq_left',V.bl.injEq,exists_and_left];refine⟨t.data,j,o.data,hx.keep e.keepT,t.lay b.1,o.lay ook,zi (ybj _ _) (by rw[Tm.depth];have:=Zd5 t;omega),?_⟩;rw[Tm.eqv]
 by_cases hto:t=o
 ·rw[if_neg (by grind)]
  exact g (decide_eq_false fun z=>z hto) _ (Same.refl _)
 ·rw[if_pos (by grind)]
  exact⟨ys,h,Zb1 (by omega),f (decide_eq_true hto) _ (Same.refl _) h⟩
theorem Yi0 {l:Ln}(hs:Zd7 l.ws)(hx:Zm7 l.R l.ws l.g l.on=some nds)(hl:nds.length=l.ls.length)(hb:∀(k:Nat) (j:Int) (nd:Nd),l.ls[k]?=some j->nds[k]?=some nd->∃(n:Nat) (m:Ln),j=(n:Int)/\n < i/\L[n]?=some m/\m.g=nd.2/\∀t∈m.ws,t∈nd.1∨t∈l.ws):Zm0 L i l=true:=by
 unfold Zm0;rw[adjB_iff.mpr hs,hx];show (decide (nds.length=l.ls.length)&&((l.ls.all fun j=>decide (0<=j)&&decide (j < (i:Int)))&&(zu (Zq3 L l.ws) l.ls nds).all id))=true
 have a:∀(k:Nat) (j:Int),l.ls[k]?=some j->∃nd,nds[k]?=some nd:=fun k j h=>by
  have  := (ze.mp h).1
  simp_all
 rw[decide_eq_true hl,Bool.true_and,zo,yaf,yaf];refine⟨fun j r=>?_,fun b o=>?_⟩
 ·obtain⟨k,f,e⟩:=zw r
  have p:l.ls[k]?=some j:=by simp_all
  obtain⟨nd,s⟩:=a k j p;obtain⟨n,m,rfl,q,_⟩:=hb k j nd p s
  simp_all
 ·obtain⟨k,f,e⟩:=zw o
  rw[List.getElem_zipWith] at e;rw[zag] at f
  have d:k < l.ls.length:=by omega
  have c:k < nds.length:=by omega
  obtain⟨n,m,u,q,w,x,v⟩:=hb k _ _ (za d) (za c);rw[<- e,u];unfold Zq3;unfold Yo9
  simp_all
theorem Xt0 {l:Ln}(hs:Zd7 l.ws)(hx:Zm7 l.R l.ws l.g l.on=some [])(hl:l.ls=[]):Zm0 L i l=true:=Yi0 hs hx (by simp_all) fun k j a _ h=>by simp at h
theorem Ym3 {n:Nat}{l m:Ln}(hs:Zd7 l.ws)(hx:Zm7 l.R l.ws l.g l.on=some [nd])(hl:l.ls=[(n:Int)])(hn:n < i)(hm:L[n]?=some m)(hg:m.g=nd.2)(hw:∀t∈m.ws,t∈nd.1∨t∈l.ws):Zm0 L i l=true:=Yi0 hs hx (by simp_all) fun k j c a b=>by
 rw[hl] at a
 match k,a,b with
 | 0,a,b=>cases a;cases b;exact⟨n,m,rfl,hn,hm,hg,hw⟩
 |k+1,a,_=>simp_all
theorem good2 {n n':Nat}{l m m':Ln}(hs:Zd7 l.ws)(hx:Zm7 l.R l.ws l.g l.on=some [nd,nd'])(hl:l.ls=[(n:Int),(n':Int)])(hn:n < i)(hm:L[n]?=some m)(hg:m.g=nd.2)(hw:∀t∈m.ws,t∈nd.1∨t∈l.ws)(hn':n' < i)(hm':L[n']?=some m')(hg':m'.g=nd'.2)(hw':∀t∈m'.ws,t∈nd'.1∨t∈l.ws):Zm0 L i l=true:=Yi0 hs hx (by rw[hl];rfl) fun k j c a b=>by
 rw[hl] at a
 match k,a,b with
 | 0,a,b=>cases a;cases b;exact⟨n,m,rfl,hn,hm,hg,hw⟩
 | 1,a,b=>cases a;cases b;exact⟨n',m',rfl,hn',hm',hg',hw'⟩
 |k+2,a,_=>simp_all
theorem OkL9.s40 {l:Ln}(h:OkL9 l):∀t∈l.ws,S40 t:=fun t a=>⟨(h.ok.w t a).1,h.w40 t a⟩
theorem GL.sorted (G:GL L){l:Ln}(h:L[i]?=some l):Zd7 l.ws:=by
 have:=G.good i (ze.mp h).1;unfold Zk2 at this;rw[h] at this;have a  := this;exact adjB_iff.mp (ycj.mp a).1
theorem Zh4 (h:Okw l)(h2:Okw m):Okw (l++m):=fun t a=>(yd.mp a).elim (h t) (h2 t)
theorem Zg5 (h1:t.ok)(h2:t.parts<=100):Okw [t]:=fun x a=>by simp_all
theorem S40.w (h:S40 t):Okw [t]:=Zg5 h.1 (by have:=h.2;omega)
theorem Zg9 (h:t∈l):t∈norm (l++m):=mem_norm.mpr (yd.mpr (.inl h))
theorem Zd6 (h:t∈m):t∈norm (l++m):=mem_norm.mpr (yd.mpr (.inr h))
theorem Ze1 (l m:List Tm):(norm (l++m)).length<=l.length+m.length:=by have:=Yh0 (l:=l++m);simp_all
theorem Zh2 (h:Okw l):Okw (norm l):=fun t a=>h t (mem_norm.mp a)
theorem Xi3 {ws:List Tm}{g:Tm}(h:Zm7 R ws g on=some nds):nds.length<=2:=by
 cases R with
 |none =>
  cases on with
  |none=>cases h
  |some o =>
   have a:(if o∈ws then Yk8 ws g o _ else none)=some nds:=h
   split at a<;>cases a
 |some r =>
  cases on with
  |none =>
   have a:Zv3 ws g r=some nds:=h;unfold Zv3 at a
   repeat' split at a
   all_goals first | cases a | skip
   all_goals simp
  |some o =>
   have a:(if o∈ws then Zq2 ws g o r else none)=some nds:=h
   by_cases hin:o∈ws
   ·unfold Zq2 at a
    repeat' split at a
    all_goals first | cases a | skip
    all_goals simp
   simp_all
noncomputable def lnD (l:Ln):PyData:=.tuple [.str l.x,.list (l.ws.map Tm.data),l.g.data,onD l.on,.list (l.ls.map zdn)]
theorem Yh7:∀ns:List Int,DnAll K H (ns.map V.int) (ns.map zdn)
 | []=>by rfl
 |n::ns=>by
  exact⟨_,_,rfl,by rw[Dn],Yh7 ns⟩
theorem IsLn.dn {v:V}{l:Ln}(h:IsLn K H v l):Dn K H v (lnD l):=by
 obtain⟨p,b,d,m,k,c,rfl,j,i,g,f,a,e⟩:=h;refine⟨p,_,rfl,j,?_⟩;refine⟨_,_,rfl,by rw[Dn],?_⟩;refine⟨_,_,rfl,?_,?_⟩
 ·exact⟨b,c,rfl,SqL.of i,Yd2 g⟩
 refine⟨_,_,rfl,f,?_⟩;refine⟨_,_,rfl,?_,?_⟩
 ·cases ho:l.on with
  |none=>rw[ho] at a;assumption
  |some o=>rw[ho] at a;exact a.1
 refine⟨_,_,rfl,?_,by rfl⟩;exact⟨d,_,rfl,SqL.of e,Yh7 _⟩
theorem Xj2:∀{us:List V} {L:List Ln},IsLns K H us L->DnAll K H us (L.map lnD)
 | _,_,.nil=>by rfl
 | _,_,.cons h t=>by
  exact⟨_,_,rfl,h.dn,Xj2 t⟩
theorem Xz3 (h:RIs x R):(PyData.str x).canLay0=true:=by
 cases R with
 |some r=>have b  := h;subst b;cases r<;>decide +kernel
 |none =>
  have a:∀x∈badN,(PyData.str x).canLay0=true:=by decide +kernel
  exact a x h
theorem Xj3 {us:List V}(h:IsLns K H us L)(ok:∀l∈L,OkLn l):(zbj (L.map lnD)).depth<=103:=Zp9 fun d a=>by
 obtain⟨l,j,rfl⟩:=zah.mp a;have b:=ok l j;obtain⟨i,s,e⟩:=zw j;have y:=zc h;obtain⟨A,c,q⟩:=paired_get h (za (show i < us.length by omega));rw[za s,e] at c;cases c;obtain⟨p,v,z,I,x,u,_,G,F,D,C,k,B⟩:=q;have f:∀m:List _,_->(PyData.tuple m).depth<=102:=fun m h=>Zp9 h;refine f _ fun d a=>?_;simp at a;rcases a with rfl | rfl | rfl | rfl | rfl
 ·exact yz _
 ·exact Xc7 fun t r=>by have:=(b.w t r).2;have:=Zd5 t;omega
 ·rw[Tm.depth];have:=b.gp;have:=Zd5 l.g;omega
 ·cases ho:l.on with
  |none=>exact yz _
  |some o=>rw[ho] at k;show o.data.depth<=101;rw[Tm.depth];have:=k.2.2;have:=Zd5 o;omega
 ·exact zi (Zp9 fun d a=>by obtain⟨n,_,rfl⟩:=zah.mp a;exact yo _) (by decide)
theorem Wp0 {v:V}{l:Ln}(h:IsLn K H v l)(ok:OkLn l):(lnD l).canLay0=true:=by
 obtain⟨p,k,s,C,q,m,rfl,B,A,z,y,a,u⟩:=h;have j  := Zu7 fun t b=>(ok.w t b).1;have i:=l.g.lay ok.g
 have f:(onD l.on).canLay0=true:=by
  cases ho:l.on with
  |none=>rfl
  |some o=>rw[ho] at a;exact o.lay a.2.1
 have e:(zbj (l.ls.map zdn)).canLay0=true:=Zn2 fun d c=>by obtain⟨n,_,rfl⟩:=zah.mp c;rfl
 show ((PyData.str l.x).canLay0&&((zbj _).canLay0&&(l.g.data.canLay0&&((onD _).canLay0&&((zbj _).canLay0&&true)))))=true;rw[Xz3 ok.r,j,i,f,e];rfl
theorem Wb0 {us:List V}(h:IsLns K H us L)(ok:∀l∈L,OkLn l):(zbj (L.map lnD)).canLay0=true:=Zn2 fun d f=>by
 obtain⟨l,c,rfl⟩:=zah.mp f;obtain⟨i,e,rfl⟩:=zw c;have g:=zc h;obtain⟨j,a,b⟩:=paired_get h (za (show i < us.length by omega));rw[za e] at a;cases a;exact Wp0 b (ok _ (by simp))
theorem Wb1 (l:Ln):zax (lnD l) (lnD l)=true:=by
 refine Zk5 (ds:=[.str l.x,.list _,l.g.data,onD _,.list _]) fun d a=>?_;simp at a;rcases a with rfl | rfl | rfl | rfl | rfl
 ·exact Xq2 _
 ·exact Xp5 _
 ·rw[Tm.eqv];simp
 ·cases l.on with
  |none=>rfl
  |some o=>show zax o.data o.data=true;rw[Tm.eqv];simp
 ·refine Zk5 fun d a=>?_
  obtain⟨n,_,rfl⟩:=zah.mp a;show (n == n)=true;simp
theorem Xs3 (L:List Ln):zax (.list (L.map lnD)) (.list (L.map lnD))=true:=Zk5 fun d a=>by
 obtain⟨l,_,rfl⟩:=zah.mp a;exact Wb1 l
end Ken
namespace L2
open PySem PySem.Spec PyProof.Rows
end L2
namespace Ken
open PySem L2 PyProof.Rows
theorem Yc2 {xs:List V}{i:Nat}(h:i<=xs.length):cutV xs (some (i:Int)) none=xs.drop i:=by
 show List.take (xs.length - (if (i:Int) < 0 then ((i:Int)+xs.length).toNat else min (i:Int).toNat _)) (zdm (if (i:Int) < 0 then ((i:Int)+xs.length).toNat else min (i:Int).toNat _) xs)=_;rw[if_neg (by omega),show min (_:Int).toNat _=i by omega,zbb (by simp)]
theorem Yw5 (h:i < xs.length):cutV xs (some ((i:Int)+1)) none=xs.drop (i+1):=by
 have:=Yc2 (xs:=xs) (i:=i+1) (by omega)
 grind
end Ken
namespace L2
open PySem
end L2
namespace Ken
open PySem L2
def Xx2 (C:Addr)(H:Hp)(E:XK)(n:Nat):Prop:=∀e d H',Xtd H e (.ref C) (some d) H'->H' d=some (.xd [("line",.int (n:Nat))])->E (.ref e) (some d) H'
inductive sp_xinitL (C:Addr):Sp
 |mk {vs H Q E:_} (e:Addr) (i:Nat) (T:Option Addr):vs=[.ref e,.int (i:Nat)]->i<=5000->H e=some (ExcO e (.ref C) none T)->(∀d,H d=none->d≠e->Q .non (upd (upd H d (.xd [("line",.int (i:Nat))])) e (ExcO e (.ref C) (some d) T)))->sp_xinitL C vs H Q E
theorem Xv3 {n:Nat}(hn:n<=5000)(hea:H ea=none)(q:Xx2 C H E n):
  sp_xinitL C [.ref ea,.int (n:Nat)] (upd H ea (ExcO ea (.ref C) none none)) (fun r H2=>r=V.non/\∃dd,H2 ea=some (ExcO ea (.ref C) dd none)/\(∀d:Addr,dd=some d->d≠ea)/\Same H H2/\∀H':Hp,Xtd H ea (.ref C) dd H'->(∀(d:Addr) (o:HO),dd=some d->H2 d=some o->H' d=some o)->E (.ref ea) dd H') E0 :=
 ⟨ea,n,none,rfl,hn,Za1,fun d f a=>⟨rfl,some d,Za1,fun g e=>by grind,((Za2 hea _).trans (Za2 f _)).write hea,fun H' b c=>q ea d H' b (c d _ rfl (by rw[Zb3 a,Za1]))⟩⟩
noncomputable def dueF (L:List Ln):Option Nat:=(yac L.length).find? fun i=>!Zk2 L i
noncomputable def badL (L:List Ln):Option Nat:=if L=[] then some 0 else dueF L
theorem Ym6 (h:∀i,i < L.length->Zk2 L i=true):dueF L=none:=by
 unfold dueF
 simp_all
theorem Xl6 (hn:n < L.length)(hb:Zk2 L n=false)(h:∀i,i < n->Zk2 L i=true):dueF L=some n:=by
 unfold dueF
 simp_all
inductive sp_checkX (K:W.Frag)(C:Addr):Sp
 |mk {vs H Q E:_} (a:Addr) (us:List V) (L:List Ln):vs=[.ref a]->H a=some (.lst us)->IsLns K H us L->(∀l∈L,OkLn l)->L.length<=200->(badL L=none->∀H',Same H H'->Q (.bl true) H')->(∀n,badL L=some n->∀H1,Same H H1->Xx2 C H1 E n)->sp_checkX K C vs H Q E
structure OkS (n:Nat)(l:Ln):Prop where
 ok:OkLn l
 wl:l.ws.length<=10+3*n
 ll:l.ls.length<=10+3*n
theorem OkS.up {l:Ln}(h:OkS n l):OkS (n+1) l:=⟨h.ok,by have:=h.wl;omega,by have:=h.ll;omega⟩
inductive sp_spoilL (K:W.Frag):Sp
 |mk {vs H Q E:_} (a wa:Addr) (us:List V) (L:List Ln) (c:Int) (ws:List Str) (n:Nat):vs=[.ref a,.int c,.ref wa]->H a=some (.lst us)->IsLns K H us L->(∀l∈L,OkS n l)->L≠[]->L.length<=150->n<=10->0<=c->SqL K H wa (ws.map V.str)->Yi8 ws->(∀(r:Addr) (ys:List V) (M:List Ln) (H':Hp),Same H H'->H' r=some (.lst ys)->IsLns K H' ys M->(∀l∈M,OkS (n+1) l)->M≠[]->M.length<=150->Q (.ref r) H')->sp_spoilL K vs H Q E
structure SpL (K:W.Frag)(n b:Nat)(H H':Hp)(x:Str)(wv:Addr)(gv ov:V)(lv:Addr)(R:Option Rl)(us:List V)(ts:List Tm)(g:Tm)(on:Option Tm)(ls:List Int):Prop where
 e:Same H H'
 r:RIs x R
 h:H' wv=some (.lst us)
 p:Paired (IsT K H') us ts
 w:Okw ts
 wl:ts.length<=10+3*n+b
 t:IsT K H' gv g
 go:g.ok
 gp:g.parts<=100
 o:OnX K H' ov on
 l:H' lv=some (.lst (ls.map V.int))
 ll:ls.length<=10+3*n+b
theorem SpL.up {n b:Nat}{us:List V}{g:Tm}(h:SpL K n b H H' x wv gv ov lv R us ts g on ls):SpL K n (b+1) H H' x wv gv ov lv R us ts g on ls:=⟨h.e,h.r,h.h,h.p,h.w,zi h.wl (by omega),h.t,h.go,h.gp,h.o,h.l,zi h.ll (by omega)⟩
theorem SpL.keep {K:W.Frag}{n b:Nat}(s:Same H' H''){us:List V}{g:Tm}(h:SpL K n b H H' x wv gv ov lv R us ts g on ls):SpL K n b H H'' x wv gv ov lv R us ts g on ls:=⟨h.e.trans s,h.r,s _ _ h.h,Za8 s.keepT h.p,h.w,h.wl,h.t.keep s.keepT,h.go,h.gp,h.o.keep s.keepT,s _ _ h.l,h.ll⟩
def SpE (K:W.Frag)(n b:Nat)(H H':Hp)(x:Str)(wv:Addr)(gv ov:V)(lv:Addr):Prop:=∃R us ts g on ls,SpL K n b H H' x wv gv ov lv R us ts g on ls
theorem SpE.up {n b:Nat}(h:SpE K n b H H' x wv gv ov lv):SpE K n (b+1) H H' x wv gv ov lv:=by
 obtain⟨R,a,c,g,d,e,h⟩:=h;exact⟨R,a,c,g,d,e,h.up⟩
theorem SpL.wish {n b b':Nat}(s:Same H' H''){us us':List V}{g:Tm}(h:SpL K n b H H' x wv gv ov lv R us ts g on ls)(h1:H'' wv'=some (.lst us'))(h2:Paired (IsT K H'') us' ts')(h3:Okw ts')(h4:ts'.length<=10+3*n+b')(hb:b<=b'):SpE K n b' H H'' x wv' gv ov lv:=⟨R,us',ts',g,on,ls,h.e.trans s,h.r,h1,h2,h3,h4,h.t.keep s.keepT,h.go,h.gp,h.o.keep s.keepT,s _ _ h.l,zi h.ll (by omega)⟩
theorem SpL.lean {n b b':Nat}(s:Same H' H''){us:List V}{g:Tm}{ls':List Int}(h:SpL K n b H H' x wv gv ov lv R us ts g on ls)(h1:H'' lv'=some (.lst (ls'.map V.int)))(h4:ls'.length<=10+3*n+b')(hb:b<=b'):SpE K n b' H H'' x wv gv ov lv':=⟨R,us,ts,g,on,ls',h.e.trans s,h.r,s _ _ h.h,Za8 s.keepT h.p,h.w,zi h.wl (by omega),h.t.keep s.keepT,h.go,h.gp,h.o.keep s.keepT,h1,h4⟩
theorem Yw2 (ts:List Tm):zax (.list (ts.map Tm.data)) (.list [])=ts.isEmpty:=by
 cases ts<;>rfl
theorem Yw1 (ls:List Int):zax (.list (ls.map zdn)) (.list [])=ls.isEmpty:=by
 cases ls<;>rfl
theorem Yi5 (ls:List Int)(h:ls≠[]):∃ls':List Int,cutV (ls.map V.int) (some 1) none=ls'.map V.int/\ls'.length+1=ls.length:=by
 cases ls with
 |nil=>simp_all
 |cons a ls=>exact⟨ls,(Yc2 (xs:=V.int a::ls.map _) (by simp)).trans rfl,rfl⟩
theorem Zt9 (ls:List Int):cutV (ls.map V.int) none (some (-1))=ls.dropLast.map V.int:=by rw[Xm3,List.map_dropLast]
theorem Wr2 {xs:List α}(h:i < xs.length):atI xs (i:Int)=some xs[i]:=Zd3 (by simp)
end Ken
namespace L2
open PySem PySem.Spec PyProof.Rows
theorem Xu2 {tk:TK}(Pv:Nat->Hp->Prop)(h0:Pv 0 H)(hs:∀(i:Nat) H (N:Hp->Prop),i < n->Pv i H->(∀H',Pv (i+1) H'->N H')->g (.int (lo+i)) σ0 H fun σ4 H4=>Wk σ0 σ4/\tk σ4 H4 N)(hd:∀H,Pv n H->Q H):
  ∃W:Nat->Nat->Hp->Prop,(∃m,W 0 m H)/\Ys0 σ0 (Itr lo n) g tk Q W:=by
 refine⟨fun i m H=>m=n - i/\i<=n/\Pv i H,⟨n,by simp,yz _,h0⟩,?_⟩;rintro i m H ⟨rfl,d,p⟩
 by_cases hlt:i < n
 ·refine .inr ⟨hlt,fun x H' y=>?_⟩
  obtain⟨c,b⟩:=y;subst c b;exact hs i _ _ hlt p fun f a=>⟨n - _,by omega,rfl,hlt,a⟩
 ·have e:i=n:=by omega
  subst e;exact .inl ⟨yo _,hd _ p⟩
end L2
namespace Ken
noncomputable def Wh9 {α:Type}(a0 a1 a2 a3 a4 a5 a6 a7 a8 a9 aa ab ac ad:α):Rl->α
 | .wish=>a0 | .low=>a1 | .both=>a2 | .first=>a3 | .second=>a4 | .thn=>a5 | .parts=>a6 | .cases=>a7 | .known=>a8 | .curried=>a9 | .either=>aa | .idle=>ab | .chain=>ac | .use=>ad
@[elab_as_elim] theorem len1 {α:Type}{P:List α->Prop}{us:List α}(h:us.length=1)(k:∀a0,P [a0]):P us:=match us,h with | [_],_=>k _
@[elab_as_elim] theorem len2 {α:Type}{P:List α->Prop}{us:List α}(h:us.length=2)(k:∀a0 a1,P [a0,a1]):P us:=match us,h with | [_,_],_=>k _ _
@[elab_as_elim] theorem len3 {α:Type}{P:List α->Prop}{us:List α}(h:us.length=3)(k:∀a0 a1 a2,P [a0,a1,a2]):P us:=match us,h with | [_,_,_],_=>k _ _ _
end Ken
namespace Hd
open PySem PySem.W PySem.Calls PyProof.Rows
noncomputable def evA (p:zm)(n:Nat)(e:Pos)(w:World)(os:ycx):=(run p n w os).map fun x=>(x.1,x.2.2,(fin p e w x.2.1).map fun s=>kept p w s)
noncomputable def evATo (p:zm)(e:Pos):=some (Flow.next,(Zx0 p,e),some true)
noncomputable def Wf2 (p q:zm)(loose:List Str)(lv:List (Str×WData))(s:Shared):=((openSeen q loose (zbv p.main.body) (fun s=>xlAt q lv s&&recOk [] s) true s).1,(openSeen q loose (zbv p.main.body) (fun s=>xlAt q lv s&&recOk [] s) true s).2.1,(openSeen q loose (zbv p.main.body) (fun s=>xlAt q lv s&&recOk [] s) true s).2.2.1)
noncomputable def Wf1 (p q:zm)(loose:List Str)(lv:List (Str×WData))(s:Shared):=(openSeen q loose (zbv p.main.body) (fun s=>xlAt q lv s&&recOk [] s) true s).2.2.2
noncomputable def evB (p q:zm)(loose:List Str)(lv:List (Str×WData))(n:Nat)(e:Pos)(w:World)(os:ycx):=(run p n w os).map fun x=>(fin p e w x.2.1).map fun s=>Wf2 p q loose lv s
noncomputable def evBTo (q:zm):=some (some (expectedOf q,bltViewBooted,true))
noncomputable def evD (p q:zm)(loose:List Str)(lv:List (Str×WData))(n:Nat)(e:Pos)(w:World)(os:ycx):=(run p n w os).map fun x=>(fin p e w x.2.1).map fun s=>Wf1 p q loose lv s
noncomputable def evDTo (q:zm)(loose:List Str):=some (some (true,pinGoodD (drecsOf q),plainGoodE q (looseW q loose),plainGoodD q loose,wideGood q,clsGoodW q loose))
noncomputable def evC {α:Type}(p:zm)(Yf:Shared->α)(n:Nat)(e:Pos)(w:World)(os:ycx):=(run p n w os).map fun x=>(fin p e w x.2.1).map fun s=>Yf s
noncomputable def evCTo {α:Type}(Ya:World->α)(w:World):=some (some (Ya w))
theorem ev_of {p q:zm}{lv:List (Str×WData)}{Ya:World->α}
  (hA:(fun os=>evA p n e w os)=fun _=>evATo p e) (hB:(fun os=>evB p q loose lv n e w os)=fun _=>evBTo q) (hD:(fun os=>evD p q loose lv n e w os)=fun _=>evDTo q loose) (hC:(fun os=>evC p Yf n e w os)=fun _=>evCTo Ya w) :
  (fun os=>ev p q loose lv Yf n e w os)=fun _=>evTo p q loose Ya e w:=by
 funext os
 have a:=congrFun hA os;have b:=congrFun hB os;have c:=congrFun hC os;have d:=congrFun hD os;unfold evD evDTo at d;unfold evA evATo at a;unfold evB evBTo at b;unfold evC evCTo at c;unfold ev evTo
 cases hr:run p n w os with
 |none=>simp_all
 |some x =>
  rw[hr] at a b c d;have a:=zan a;obtain⟨h,g⟩:=yx a;obtain⟨g,f⟩:=yx g
  cases hf:fin p e w x.2.1 with
  |none=>rw[hf] at f;cases f
  |some s =>
   unfold Wf2 at b;unfold Wf1 at d
   grind
theorem evA_self:@evA=@evA:=rfl
theorem evB_self:@evB=@evB:=rfl
theorem evD_self:@evD=@evD:=rfl
theorem evDTo_self:@evDTo=@evDTo:=rfl
theorem evC_self:@evC=@evC:=rfl
end Hd
name_quick hdEvA for Hd.evA by Hd.evA_self
name_quick hdEvB for Hd.evB by Hd.evB_self
name_quick hdEvD for Hd.evD by Hd.evD_self
name_quick hdEvDTo for Hd.evDTo by Hd.evDTo_self
name_quick hdEvC for Hd.evC by Hd.evC_self
namespace L2
open PySem PySem.Spec PyProof.Rows
structure Cl (P:zm)(w:World)(K:W.Frag)(mg:Str->Option Value)(base:Heap)(k:Nat)(x:Str)(ps:List Str)(sp:Sp):Prop where
 ex:∃(f:Addr) (fd:yq),FnOk P w K mg base CX0 k f fd ps sp/\mg x=some (.ref f)/\ybd K (.ref f)=true/\Binds K fd ps []
section
variable {P:zm}{w:World}{base:Heap}{k:Nat}
theorem Cl.of (G:FnOk P w K mg base CX0 k f fd ps sp)(m:mg x=some (.ref f))(kp:ybd K (.ref f)=true)(b:Binds K fd ps []):Cl P w K mg base k x ps sp:=⟨⟨f,fd,G,m,kp,b⟩⟩
theorem Cl.up (C:Cl P w K mg base j x ps sp)(h:j<=k):Cl P w K mg base k x ps sp:=by
 obtain⟨f,a,G,r⟩:=C.ex;exact⟨⟨f,a,G.mono h,r⟩⟩
theorem Df.okG (D:Df K mg x st ps)(S:FnScope N ps (Za6 st))(hbody:∀(f:Addr) (cdv:Value) (A:Around) (outer:List Env) (s:Shared) (H:Hp) (vs:List V) (Q:VK) (E:XK),Room k (A.deeper (envOfC x (Za6 st) s.heap.objs.size f cdv))->sp vs H Q E->∀G:List V->Prop,(∀us:List V,(∃t,PSs (cxOf CX0 P w K mg base N x (Za6 st) f cdv A outer s H E).nox (Zc6 st) t/\t { nx:=fun _ H'=>Q .non H',rt:=Q } (start N us) H)->G us)->G vs)(len:∀vs H Q E,sp vs H Q E->vs.length=ps.length:=by intro _ _ _ _ h;first | (cases h;subst_vars;rfl) | (repeat (first | (obtain⟨rfl,_⟩:=h;rfl) | obtain⟨_,h⟩:=h))):Cl P w K mg base (k+1) x ps sp:=by
 obtain⟨f,c,m,F,a,b⟩:=D.ex;exact⟨⟨f,c,F.okG S (hbody f) len,m,a,b⟩⟩
end
section
theorem Zb8 {k:Nat}{e:Expr}{es:List Expr}{t:TA}{p:Pos}(C:Cl X.prog X.w X.K X.mg X.base k x ps sp)(hr:Room k X.A)(ha:PA X (e::es) t)(hg:Gl X x:=by exact rfl)(hdb:(x == ("__debug__":Str))=false:=by decide)(he:zx (e::es) X.env=(false,eval e X.env)::zx es X.env:=by rfl)(hpl:(backTo pos (zx es X.env)).any (·.1)=false:=by rfl):
  PE X (.Call (.Name x p) (e::es) [] pos) (Ya4 sp [] E0 t):=by
 obtain⟨f,c,G,m,a,b⟩:=C.ex;exact Xg7 G hr hg m a b .nil Xr9 ha hdb he hpl
end
abbrev pq0:List Str:=["_law_cell_here","_law_k"]
abbrev pq1:List Str:=["_law_cell_here","_law_many","_law_words_here"]
abbrev pq2:List Str:=["_law_cell_here","_law_most","_law_words_here"]
abbrev pq3:List Str:=["_law_cell_here","_law_words_here"]
abbrev pq5:List Str:=["_law_lines","_law_cell_here","_law_here","_law_one","_law_other","_law_extra"]
abbrev pq6:List Str:=["_law_lines","_law_cell_here","_law_here","_law_there","_law_extra"]
abbrev pq7:List Str:=["_law_lines","_law_cell_here","_law_here","_law_there","_law_one","_law_extra"]
abbrev pq8:List Str:=["_law_lines","_law_cell_here","_law_words_here"]
abbrev pq9:List Str:=["_law_lines","_law_start","_law_goal","_law_form"]
abbrev pq12:List Str:=["_law_script","_law_start","_law_most","_law_words_here"]
abbrev pq14:List Str:=["_law_some","_law_cell_here","_law_other"]
abbrev pq16:List Str:=["_law_statement_here"]
abbrev pq18:List Str:=["_law_worlds_here","_law_statement_here"]
abbrev pq24:List Str:=["one","other"]
abbrev pq25:List Str:=["rule","wishes","goal","on"]
abbrev pq29:List Str:=["statement","of_simple","of_pair"]
abbrev pq30:List Str:=["statement"]
abbrev pq31:List Str:=["wishes","goal","on"]
abbrev pq32:List Str:=["wishes","some"]
abbrev pq33:List Str:=["wishes","statement"]
abbrev pq34:List Str:=["worlds","first","second"]
abbrev KpI (K:W.Frag)(f:Addr):Prop:=ybd K (.ref f)=true
abbrev MgI (mg:Str->Option Value)(x:Str)(f:Addr):Prop:=mg x=some (.ref f)
abbrev Fk0 (P:zm)(w:World)(K:W.Frag)(mg:Str->Option Value)(base:Heap):Nat->Addr->yq->List Str->Sp->Prop:=FnOk P w K mg base CX0
section
theorem ndS (l:List Str)(h:l.Nodup:=by decide +kernel):l.Nodup:=h
theorem pgn (i:Nat)(hN:X.N.Nodup)(hi:X.N[i]?=some x:=by exact rfl)(hx:Loc X.env.scope x:=by exact Or.inl rfl)(hf:X.fn x=true∨X.env.scope.names.lookup x=some .local:=by first | exact .inl rfl | exact .inr rfl | assumption):PG X (.Name x pos) (Zn5 i):=Yp9 hN hi hx hf
theorem pcl {k:Nat}{fd:yq}{e:Expr}{es:List Expr}{t:TA}{p:Pos}(G:FnOk X.prog X.w X.K X.mg X.base CX0 k f fd ps sp)(hr:Room k X.A)(hm:X.mg x=some (.ref f))(hk:ybd X.K (.ref f)=true)(hb:Binds X.K fd ps [])(ha:PA X (e::es) t)(hg:Gl X x:=by exact rfl)(hdb:(x == ("__debug__":Str))=false:=by decide)(he:zx (e::es) X.env=(false,eval e X.env)::zx es X.env:=by rfl)(hpl:(backTo pos (zx es X.env)).any (·.1)=false:=by rfl):
  PE X (.Call (.Name x p) (e::es) [] pos) (Ya4 sp [] E0 t):=Xg7 G hr hg hm hk hb .nil Xr9 ha hdb he hpl
theorem pxt {a b:Expr}(ha:PE X a ta)(hb:PE X b tb)(hs:Yc5 b:=by exact fun _ _=>rfl):PE X (.Subscript a b pos) (tOp (rIxT X.K) ta tb):=Zn4 Xw2 ha hb hs
theorem pxl {a b:Expr}(ha:PE X a ta)(hb:PE X b tb)(hs:Yc5 b:=by exact fun _ _=>rfl):PE X (.Subscript a b pos) (tOp (rIxL X.K) ta tb):=Zn4 Xk2 ha hb hs
theorem pst (i:Nat){e:Expr}(hN:X.N.Nodup)(he:PE X e te)(hi:X.N[i]?=some x:=by exact rfl)(hx:Loc X.env.scope x:=by exact Or.inl rfl)(hs:zde e (some (.Name x pos')) pos.line X.env=pure false:=by rfl)(hf:X.fn x=true∨X.env.scope.names.lookup x=some .local:=by first | exact .inl rfl | exact .inr rfl | assumption):
  PS X (.Assign [.Name x pos'] e pos) (tAsg te (Zn5 i)):=Zf7 hN hi hx he hs hf
theorem ptc {a b:Expr}(ho:OpR X (yaj op) r)(ha:PE X a ta)(hb:PE X b tb)(h:op≠.In:=by decide)(h2:op≠.NotIn:=by decide):PT X (.Compare a [op] [b] pos) (Zz9 (tOp r ta tb)):=Yp8 ho ha hb (Zo5 _ h h2)
end
theorem scm (h:(decide (sc.kind=.function)&&(!sc.isCoroutine&&(!sc.isGenerator&&(decide N.Nodup&&(decide (N.take ps.length=ps)&&(ps.all (fun x=>decide (sc.names.lookup x=some .local∨sc.names.lookup x=some .cell))&&sc.names.all fun y=>decide (y.2≠.free)))))))=true):FnScope N ps sc:=by
 simp only[zo,decide_eq_true_eq,yaf,Bool.not_eq_true'] at h;exact⟨h.1,h.2.1,h.2.2.1,h.2.2.2.1,h.2.2.2.2.1,h.2.2.2.2.2.1,h.2.2.2.2.2.2⟩
def varM:Option (Option V)->Hp->VK->Prop
 |some (some v),H,Q=>Q v H
 | _,_,_=>False
def Yj3 (i:Nat):TE:=fun σ H Q=>varM σ[i]? H Q
theorem Zl4 {v:V}:varM (some (some v)) H Q=Q v H:=rfl
theorem Xy1 {o:Option (Option V)}:varM o H Q=∃v,o=some (some v)/\Q v H:=propext ⟨fun h=>by
 unfold varM at h
 split at h
 ·exact⟨_,rfl,h⟩
 ·exact h.elim,fun⟨v,e,h⟩=>by rw[e];exact h⟩
theorem Xp9:Yj3=tVar:=by
 funext i σ H Q
 exact Xy1
def bM:V->Hp->(Bool->Hp->Prop)->Prop
 | .bl c,H,Q=>Q c H
 | _,_,_=>False
theorem Xb0 :bM (.bl c) H Q=Q c H:=rfl
theorem Xu6 {x:V}:bM x H Q=∃k,x=.bl k/\Q k H:=propext ⟨fun h=>by
 unfold bM at h
 split at h
 ·exact⟨_,rfl,h⟩
 ·exact h.elim,fun⟨v,e,h⟩=>by rw[e];exact h⟩
def Zs2 (t:TE):TT:=fun σ H Q=>t σ H fun x H1=>bM x H1 Q
theorem Yj4:Zs2=Zz9:=by
 funext t σ H Q
 show t σ H (fun x a=>bM x a Q)=t σ H _
 congr 1
 funext x a
 exact Xu6
def rI0M (g:Int->Int->V):R2
 | .int i,.int j,H,Q=>Q (g i j) H
 | _,_,_,_=>False
theorem Zp2 {g:Int->Int->V}{i j:Int}:rI0M g (.int i) (.int j) H Q=Q (g i j) H:=rfl
theorem Yg1 {g:Int->Int->V}{x y:V}:rI0M g x y H Q=∃i j,x=.int i/\y=.int j/\Q (g i j) H:=propext ⟨fun h=>by
 unfold rI0M at h
 split at h
 ·exact⟨_,_,rfl,rfl,h⟩
 ·exact h.elim,fun⟨i,j,e,f,h⟩=>by rw[e,f];exact h⟩
theorem Ya7:rI0M=rI0:=by
 funext g x y H Q
 exact Yg1
def rIM (C:Int->Int->Prop)(g:Int->Int->V):R2
 | .int i,.int j,H,Q=>C i j/\Q (g i j) H
 | _,_,_,_=>False
theorem Zv0 {C:Int->Int->Prop}{g:Int->Int->V}{i j:Int}:rIM C g (.int i) (.int j) H Q=(C i j/\Q (g i j) H):=rfl
theorem Yt7 {C:Int->Int->Prop}{g:Int->Int->V}{x y:V}:rIM C g x y H Q=∃i j,x=.int i/\y=.int j/\C i j/\Q (g i j) H:=propext ⟨fun h=>by
 unfold rIM at h
 split at h
 ·exact⟨_,_,rfl,rfl,h⟩
 ·exact h.elim,fun⟨i,j,e,f,h⟩=>by rw[e,f];exact h⟩
theorem Xf5:rIM=rI:=by
 funext C g x y H Q
 exact Yt7
def Xf3 (K:W.Frag):R2
 | .ref p,.int i,H,Q=>∃xs,SqT K H p xs/\∃v,atI xs i=some v/\Q v H
 | _,_,_,_=>False
theorem Zp0 {p:Addr}{i:Int}:Xf3 K (.ref p) (.int i) H Q=∃xs,SqT K H p xs/\∃v,atI xs i=some v/\Q v H:=rfl
theorem Zx9 {x y:V}:Xf3 K x y H Q=∃p xs i v,x=.ref p/\y=.int i/\SqT K H p xs/\atI xs i=some v/\Q v H:=propext ⟨fun h=>by
 unfold Xf3 at h
 split at h
 ·obtain⟨xs,b,v,a⟩:=h
  exact⟨_,xs,_,v,rfl,rfl,b,a⟩
 ·exact h.elim,fun⟨p,xs,i,v,e,f,b,a⟩=>by rw[e,f];exact⟨xs,b,v,a⟩⟩
theorem Xq8:Xf3=rIxT:=by
 funext K x y H Q
 exact Zx9
def Xf4 (K:W.Frag):R2
 | .ref p,.int i,H,Q=>∃xs,SqL K H p xs/\∃v,atI xs i=some v/\Q v H
 | _,_,_,_=>False
theorem Zp1 {p:Addr}{i:Int}:Xf4 K (.ref p) (.int i) H Q=∃xs,SqL K H p xs/\∃v,atI xs i=some v/\Q v H:=rfl
theorem Zy0 {x y:V}:Xf4 K x y H Q=∃p xs i v,x=.ref p/\y=.int i/\SqL K H p xs/\atI xs i=some v/\Q v H:=propext ⟨fun h=>by
 unfold Xf4 at h
 split at h
 ·obtain⟨xs,b,v,a⟩:=h
  exact⟨_,xs,_,v,rfl,rfl,b,a⟩
 ·exact h.elim,fun⟨p,xs,i,v,e,f,b,a⟩=>by rw[e,f];exact⟨xs,b,v,a⟩⟩
theorem Xq9:Xf4=rIxL:=by
 funext K x y H Q
 exact Zy0
def rEqM:R2
 | .str a,.str b,H,Q=>Q (.bl (decide (V.str a=V.str b))) H
 | .int a,.int b,H,Q=>Q (.bl (decide (V.int a=V.int b))) H
 |x,y,H,Q=>scal x y=true/\Q (.bl (decide (x=y))) H
theorem Zp3 {a b:Str}:rEqM (.str a) (.str b) H Q=Q (.bl (decide (V.str a=V.str b))) H:=rfl
theorem Zp4 {a b:Int}:rEqM (.int a) (.int b) H Q=Q (.bl (decide (V.int a=V.int b))) H:=rfl
theorem Yg2 {x y:V}:rEqM x y H Q=(scal x y=true/\Q (.bl (decide (x=y))) H):=by
 unfold rEqM
 split
 ·exact propext ⟨fun h=>⟨Ze6 _ _,h⟩,fun h=>h.2⟩
 ·exact propext ⟨fun h=>⟨Zs5 _ _,h⟩,fun h=>h.2⟩
 ·rfl
theorem Xz4:rEqM=rEq:=by
 funext x y H Q
 exact Yg2
section
theorem pvM (i:Nat)(hN:X.N[i]?=some x:=by rfl)(hv:Vis X.env.scope x:=by first | exact Or.inl rfl | exact Or.inr (Or.inl rfl) | exact Or.inr (Or.inr rfl))(hd:(x == ("__debug__":Str))=false:=by decide)(hcd:(x == ("__classdict__":Str))=false:=by decide):PE X (.Name x pos) (Yj3 i):=Xp9▸Xg4 hN hv hd hcd
theorem ptcM {a b:Expr}(ho:OpR X (yaj op) r)(ha:PE X a ta)(hb:PE X b tb)(h:op≠.In:=by decide)(h2:op≠.NotIn:=by decide):PT X (.Compare a [op] [b] pos) (Zs2 (tOp r ta tb)):=Yj4▸Yp8 ho ha hb (Zo5 _ h h2)
theorem Zp5 {a b:Expr}(ho:OpR X (yaj op) r)(ha:PE X a ta)(hb:PE X b tb)(hm:zcr op b=false):PT X (.Compare a [op] [b] pos) (Zs2 (tOp r ta tb)):=Yj4▸Yp8 ho ha hb hm
theorem pxtM {a b:Expr}(ha:PE X a ta)(hb:PE X b tb)(hs:Yc5 b:=by exact fun _ _=>rfl):PE X (.Subscript a b pos) (tOp (Xf3 X.K) ta tb):=Xq8▸pxt ha hb hs
theorem pxlM {a b:Expr}(ha:PE X a ta)(hb:PE X b tb)(hs:Yc5 b:=by exact fun _ _=>rfl):PE X (.Subscript a b pos) (tOp (Xf4 X.K) ta tb):=Xq9▸pxl ha hb hs
theorem Zd1:OpR X (yaj .Eq) rEqM:=Xz4▸Wt4
theorem Zd2:OpR X (zbx .Add) (rI0M fun i j=>.int (i+j)):=Ya7▸Wj2
theorem Zl1:OpR X (zbx .Sub) (rI0M fun i j=>.int (i - j)):=Ya7▸Wi6
theorem Zi7:OpR X (zbx .Mult) (rIM CMul fun i j=>.int (i*j)):=Xf5▸Wi8
theorem Zc5:OpR X (zbx .FloorDiv) (rIM CDiv fun i j=>.int (i / j)):=Xf5▸Wa3
theorem Zc2:OpR X (zbx .Mod) (rIM (fun _ j=>0 < j) fun i j=>.int (i % j)):=Xf5▸Wi9
theorem Zo3:OpR X (yaj .Lt) (rI0M fun i j=>.bl (decide (i < j))):=Ya7▸Wt1
theorem Wj1:OpR X (yaj .LtE) (rI0M fun i j=>.bl (decide (i<=j))):=Ya7▸Wt2
theorem Xh6:OpR X (yaj .Gt) (rI0M fun i j=>.bl (decide (j < i))):=Ya7▸Wt3
end
section
variable {α β:Type}{a b:α}{l m:List α}{n:Nat}
theorem zmc {f:α->β}:(a::l).map f=f a::l.map f:=rfl
theorem zmn {f:α->β}:([]:List α).map f=[]:=rfl
theorem zlc:(a::l).length=l.length+1:=rfl
theorem zln:([]:List α).length=0:=rfl
theorem zca:(a::l)++m=a::(l++m):=rfl
theorem zna:[]++m=m:=rfl
theorem zrs:yy (n+1) a=a::yy n a:=rfl
theorem zrz:yy 0 a=[]:=rfl
theorem zg0:(a::l)[0]?=some a:=rfl
theorem zgs:(a::l)[n+1]?=l[n]?:=rfl
theorem zgn:([]:List α)[n]?=none:=rfl
theorem zs0:(a::l).set 0 b=b::l:=rfl
theorem zss:(a::l).set (n+1) b=a::l.set n b:=rfl
theorem zjs {x:Option α}:(some x).join=x:=rfl
theorem zjn:(none:Option (Option α)).join=none:=rfl
end
end L2
namespace KLaw
noncomputable abbrev pg:=PySem.Challenge.pw_ken_k26_lines_hold_in_worlds
open PySem L2 Ken
local macro_rules | `(tactic| walk_at $s:str)=>do
 let i:=fun(t:String)=>(t.splitOn " ").toArray.map fun x=>Lean.mkIdent x.toName
 let d:=i "Yo0 tFi Yp5 Yf4 tFr Zv8 kAdd Yr4 Ya2 rRep Zr2 tIf rInT iRev Ya3 Yc6 Yh5 kApp kPut tVar tC tOp rI0 rI rU tUn Zz9 tB Yf5 tNil tCB Ya4 tTup tLst tAnd tOr tNot Yo4 tOrV Yo2 tBM tBM0 Zr4 Zr3 rPop rIxL rIxT rIxS rCat rEq rNe Yp4 tSl rSlL rSlS Yo1 Zr0 tRev Yp6 Yo3 tFs tFv tFc tF0 tKD rIsi rEqD Ya1 rIn Yp3 Ym1 Zr1 tDIn Yl9 Yr5 Ym0 iZip L2.start capt zmc zmn zlc zln zca zna zrs zrz Nat.reduceAdd Nat.reduceSub ycz zcq zg0 zgs zgn zs0 zss zjs zjn Zw9 Zv5 Ye6 Yy8 Zm2 Ye9 Zq1 Xa7 Xa9 Yj3 Zl4 Zs2 Xb0 Zp2 Zv0 Zp0 Zp1 Zp3 Zp4"++i (if s.getString=="1" then "Ya0 Xe9 Yj5 Xd1 Xd2 tSeq tAsg Zn5 tRet tIfS Xd3 Xy6 gSub gTup Xa3 gNil" else if s.getString=="2" then "Ya0 Xe9 Yj5 Xd1 Xd2 tFor tLC" else "Zn5 tIfS Xd3 gSub gTup Xa3 gNil")
 let e:=d++i "yaa ydi ych L2.V.int.injEq L2.V.str.injEq L2.V.ref.injEq L2.V.bl.injEq L2.V.ty.injEq yct and_true true_and exists_eq_left' exists_eq_left exists_and_left exists_eq exists_eq' and_assoc Zs5 Ze6 Yp0 decide_eq_true_eq Xu6 Yg1 Yt7 Zx9 Zy0 Yg2"
 `(tactic| ((try dsimp only[$[$d:ident],*]);(try simp only[$[$e:ident],*])))
noncomputable def top (i:Nat):Stmt:=pg.main.body.getD i (.Pass ⟨0,0,0,0⟩)
theorem sc_aq0:FnScope ["_law_cell_here","_law_k","_law_first"] ["_law_cell_here","_law_k"] (Za6 (top 48)):=scm (by decide +kernel)
theorem sc_al0:FnScope ["_law_script","_law_k","_law_cell_here"] ["_law_script","_law_k"] (Za6 (top 49)):=scm (by decide +kernel)
abbrev nn7:List Str:=["_law_cell_here","_law_small","_law_size","_law_at","_law_stem","_law_signs","_law_first","_law_found_here","_law_k","_law_sign"]
theorem sc_az0:FnScope nn7 ["_law_cell_here"] (Za6 (top 50)):=scm (by decide +kernel)
section
variable {P:zm}{w:World}{base:Heap}
theorem Xh8 {k:Nat}(F_aq0:Fun K "_law_mix" "_law_mix" (top 48) f_aq0 fd_aq0):Fk0 P w K mg base (k+1) f_aq0 fd_aq0 pq0 sp_mix:=by
 refine F_aq0.okG sc_aq0 fun d A b s H e Q E f h m a=>?_;obtain⟨c,k,rfl,i,g,q⟩:=h
 refine a _ ⟨_,(Za4 (pst 2 sc_aq0.nd (Zb0 Zc2 (Zb0 Zi7 (Zb0 Zd2 (pvM 0) Za5) (Zb0 Zd2 Za5 (Zb0 Zi7 Za5 (pvM 1)))) Za5))
 (Za7 (Zb2 (Zb0 Zc2 (Zb0 Zd2 (Zb0 Zd2 (Zb0 Zi7 (Zb0 Zc5 (pvM 2) Za5) Za5) (Zb0 Zi7 (pvM 2) (Zb0 Zd2 (Zb0 Zi7 (pvM 1) (pvM 1)) Za5))) (pvM 1)) Za5)))),?_⟩
 walk_at "1";have l:0<=(c+1)*(48271+118*k) % 2147483629:=yr _ (by decide);have j:(c+1)*(48271+118*k) % 2147483629 < 2147483629:=yp _ (by decide);refine⟨Zj5 (by decide) (by decide),Yb4 (by omega) (by omega),by decide,⟨by decide,by decide⟩,Yb4 (by decide) (by decide),Zj5 (by omega) (by omega),Zj5 (by omega) (by omega),by decide,?_⟩;exact q
theorem Wn8 {k:Nat}(F_al0:Df K mg "_law_cell" (top 49) ["_law_script","_law_k"])(C__law_mix:Cl P w K mg base k "_law_mix" pq0 (sp_mix))(m_len:mg "len"=none):Cl P w K mg base (k+1) "_law_cell" ["_law_script","_law_k"] (sp_cell K):=by
 refine F_al0.okG sc_al0 fun u o A i s H p Q E l h v g=>?_;obtain⟨a,b,j,rfl,f,n,t,r,q⟩:=h
 refine g _ ⟨_,(Za4 (pst 2 sc_al0.nd Za5)
 (Za4 (Zc7 (ptcM (Zo3) (pvM 1) (Zc1 Zb5 (by exact rfl) m_len Zc9 (Za0 (pvM 0) Za3)))
  (Za7 (pst 2 sc_al0.nd (Zb0 Zc2 (pxlM (pvM 0) (pvM 1)) Za5)))
  Zb4)
 (Za7 (Zb2 (Zb8 C__law_mix l (Za0 (pvM 2) (Za0 (Zb0 Zd2 (pvM 1) Za5) Za3))))))),?_⟩
 walk_at "1";refine⟨_,.inl f,?_⟩;rw[yh];have e:cellOf b j=mix (if j < (b.length:Int) then (b[j.toNat]?.getD 0) % 2147483647 else 0) (j+101):=rfl;refine ite2 (fun c=>?_) (fun c=>?_)
 ·rw[if_pos c] at e
  have d:j.toNat < b.length:=by omega
  refine⟨_,f,V.int (b[j.toNat]),?_,_,rfl,by decide,?_⟩
  ·have m:j=((j.toNat:Nat):Int):=by omega
   have q:atI (b.map V.int) ((j.toNat:Nat):Int)=some (.int b[j.toNat]):=Zd3 (by rw[zy,za d]<;>rfl);rw[<- m] at q;exact q
  ·rw[za d] at e
   rw[e] at q;exact⟨_,_,rfl,by omega,by omega,q⟩
 ·rw[if_neg c] at e
  rw[e] at q;exact⟨_,_,rfl,by omega,by omega,q⟩
theorem sc_ba0:FnScope ["_law_cell_here","_law_most","_law_words_here","_law_worlds_here","_law_k","_law_step","_law_before","_law_told_here","_law_at","_law_word"] ["_law_cell_here","_law_most","_law_words_here"] (Za6 (top 65)):=scm (by decide +kernel)
inductive sp_worldsH (K:W.Frag):Sp
 |mk {vs H Q E:_} (c most:Int) (wa:Addr) (us:List Str):vs=[.int c,.int most,.ref wa]->0<=c->1<=most->most<=20->SqL K H wa (us.map V.str)->Yi8 us->(∀(r:Addr) (H':Hp) (vs:List V) (ws:List Wd),Same H H'->H r=none->H' r=some (.lst vs)->AtWs K H' vs ws->Zq4 ws->Yk4 ws->1<=ws.length->ws.length<=20->Q (.ref r) H')->sp_worldsH K vs H Q E
theorem Yx2 {us out:List Str}{b:Option Nat}(hg:Zq4 ws)(hpb:Yk4 ws)(hi:inWs us ws)(h0:ws.length=0->b=none)(h1:0 < ws.length->∃j,b=some j/\j < ws.length/\∀y,ws[j]?=some y->∀z∈y.2,z∈out)(hn:out.Nodup)(hs:∀y∈out,y∈us):
  Zq4 (ws++[(b,out)])/\Yk4 (ws++[(b,out)])/\inWs us (ws++[(b,out)]):=by
 have g:∀{k:Nat} {x:Wd},(ws++[(b,out)])[k]?=some x->(k < ws.length/\ws[k]?=some x)∨(k=ws.length/\x=(b,out)):=fun {k x} a=>by
  by_cases f:k < ws.length
  ·rw[zz f] at a;exact .inl ⟨f,a⟩
  ·have i:k < (ws++[(b,out)]).length:=(ze.mp a).1
   rw[zf,zd] at i
   have p:k=ws.length:=by omega
   subst p;rw[yah (yo _),Nat.sub_self] at a;cases a;exact .inr ⟨rfl,rfl⟩
 refine⟨fun k x a=>?_,fun k x a j c h d=>?_,fun x a=>?_⟩
 ·rcases g a with ⟨f,a⟩ | ⟨rfl,rfl⟩
  ·exact hg k x a
  ·exact⟨h0,fun z=>let ⟨j,e,l,_⟩:=h1 z;⟨j,e,l⟩⟩
 ·rcases g a with ⟨f,a⟩ | ⟨rfl,rfl⟩
  ·have r:j < k:=by
    rcases Nat.eq_zero_or_pos k with z | z
    ·subst z
     rw[(hg 0 x a).1 rfl] at c;cases c
    ·obtain⟨n,q,m⟩:=(hg k x a).2 z
     rw[q] at c;cases c;exact m
   rw[zz (by omega)] at d;exact hpb k x a j c h d
  ·have c:b=some j:=c
   rcases Nat.eq_zero_or_pos ws.length with z | z
   ·rw[h0 z] at c;cases c
   ·obtain⟨n,e,l,o⟩:=h1 z
    rw[e] at c;cases c;rw[zz l] at d;exact o h d
 ·rcases yd.mp a with a | a
  ·exact hi x a
  ·rcases zb.mp a with rfl
   exact⟨hn,hs⟩
theorem Wm4 {k:Nat}(F_ba0:Df K mg "_law_worlds" (top 65) pq2)(C__law_mix:Cl P w K mg base k "_law_mix" pq0 (sp_mix))(m_range:mg "range"=none)(m_list:mg "list"=none)(m_enumerate:mg "enumerate"=none)(m_sorted:mg "sorted"=none):Cl P w K mg base (k+1) "_law_worlds" pq2 (sp_worldsH K):=by
 refine F_ba0.okG sc_ba0 fun fx v1 A y4 s H I Q E hr h Gx y3=>?_;obtain⟨c,a,O,us,rfl,hc,m0,m1,hw,j1,q⟩:=h
 refine y3 _ ⟨_,(Za4 (pst 3 sc_ba0.nd (Zb7 Za3))
 (Za4 (Zj3 zae rfl (Zj1 rfl m_range (Za0 (Zb0 Zd2 Za5 (Zb0 Zc2 (Zb0 Zc5 (pvM 0) Za5) (pvM 1))) Za3)) (pgn 4 sc_ba0.nd)
  (Za4 (pst 5 sc_ba0.nd (Zb8 C__law_mix hr (Za0 (pvM 0) (Za0 (Zb0 Zd2 Za5 (pvM 4)) Za3))))
 (Za4 (pst 6 sc_ba0.nd Ze3)
 (Za4 (pst 7 sc_ba0.nd (Zb7 Za3))
 (Za4 (Zc7 (ptcM (Xh6) (pvM 4) Za5)
  (Za4 (pst 6 sc_ba0.nd (pxlM (Zb7 (Za0 (Zb0 Zl1 (pvM 4) Za5) (Za0 (Zb0 Zc2 (Zb0 Zc5 (pvM 5) Za5) (pvM 4)) (Za0 Za5 Za3)))) (Zb0 Zc2 (Zb0 Zc5 (pvM 5) Za5) Za5)))
 (Za7 (pst 7 sc_ba0.nd (Zg4 Ze9 (by exact rfl) m_list Zf8 (Za0 (pxtM (pxlM (pvM 3) (pvM 6)) Za5) Za3)))))
  Zb4)
 (Za4 (Zj3 zae rfl (Xg3 rfl m_enumerate (Za0 (pvM 2) Za3)) (Zo1 rfl (Zb9 (pgn 8 sc_ba0.nd) (Zb9 (pgn 9 sc_ba0.nd) Zf9)))
  (Za7 (Zc7 ((Zq6 (ptcM (Zd1) (Zb0 Zc2 (Zb0 Zc5 (pvM 5) (Zb0 Wi7 Za5 (Zb0 Zi7 Za5 (pvM 8)))) Za5) Za5) (Zk9 (Zp5 (Yk6) (pvM 9) (pvM 7) (by with_unfolding_all rfl))))).pt
  (Za7 (Zi5 (Zv2 zad zam zaq Zg6 (pvM 7) (Za0 (pvM 9) Za3))))
  Zb4)))
 (Za7 (Zi5 (Zv2 zad zam zaq Zg6 (pvM 3) (Za0 (Zc0 (Za0 (pvM 6) (Za0 (Zc1 Zx6 (by exact rfl) m_sorted Zr8 (Za0 (pvM 7) Za3)) Za3))) Za3))))))))))
 (Za7 (Zb2 (pvM 3))))),?_⟩
 refine sqk (fun C=>∀f l,Same H f->H l=none->f l=some (.lst [])->C [some (.int c),some (.int a),some (.ref O),some (.ref l),none,none,none,none,none,none] f) (fun C hC=>?_) fun H1 l e1 f1 h1=>?_
 ·walk_at "1"
  exact⟨by decide,fun l hl=>hC _ l (Za2 hl _) hl Za1⟩
 have b0:=yr (c / 3) (show a≠0 by omega);have b1:=yp (c / 3) (show 0 < a by omega);refine sqt (fun m f=>∃(x4 Z W S u t:Option V) (I:List V) (o:List Wd),m=[some (.int c),some (.int a),some (.ref O),some (.ref l),x4,Z,W,S,u,t]/\Same H f/\f l=some (.lst I)/\Paired (AtWn K f l) I o/\Zq4 o/\Yk4 o/\1<=o.length/\o.length<=20) ?_ ?_
 ·intro C hC
  walk_at "2";generalize c / 3 % a=mm at b0 b1 ⊢;refine⟨⟨by decide,by decide⟩,by omega,by omega,by omega,?_⟩;refine Zm1 (D:={ nx:=C,rt:=Q }) (n:=(1+mm).toNat) (lo:=0) (fun i m f=>∃(x4 Z W S u t:Option V) (I:List V) (o:List Wd),m=[some (.int c),some (.int a),some (.ref O),some (.ref l),x4,Z,W,S,u,t]/\Same H f/\f l=some (.lst I)/\Paired (AtWn K f l) I o/\Zq4 o/\Yk4 o/\inWs us o/\o.length=i) ⟨none,none,none,none,none,none,[],[],rfl,e1,h1,.nil,(fun k x L=>nomatch L),(fun k x L=>nomatch L),(fun x L=>nomatch L),rfl⟩ (fun i m f y9 N=>?_) (fun m f zZ=>by obtain⟨x4,Z,W,S,u,t,I,o,z1,z2,z3,z4,z5,z6,z7,z8⟩:=zZ;exact hC _ _ ⟨x4,Z,W,S,u,t,I,o,z1,z2,z3,z4,z5,z6,by omega,by omega⟩);obtain⟨x4,Z,W,S,u,t,I,o,rfl,e,h,hW,hg,j6,hi,j2⟩:=N;show tSeq _ _ _ _ _;refine sqk (fun C=>∀(J:Int),0<=J->C [some (.int c),some (.int a),some (.ref O),some (.ref l),some (.int (0+(i:Int))),some (.int J),W,S,u,t] f) (fun C' G=>?_) fun J y8=>?_
  ·walk_at "1"
   exact⟨_,_,rfl,by omega,by omega,G _ (Zk1 _ _)⟩
  refine sqk (fun C=>C [some (.int c),some (.int a),some (.ref O),some (.ref l),some (.int (0+(i:Int))),some (.int J),some .non,S,u,t] f) (fun C' G=>?_) ?_
  ·walk_at "1"
   exact G
  refine sqk (fun C=>∀H4 v,Same f H4->f v=none->H4 v=some (.lst [])->C [some (.int c),some (.int a),some (.ref O),some (.ref l),some (.int (0+(i:Int))),some (.int J),some .non,some (.ref v),u,t] H4) (fun C' G=>?_) fun H4 q6 e4 f4 h4=>?_
  ·walk_at "1"
   exact⟨by decide,fun v X=>G _ v (Za2 X _) X Za1⟩
  have lv:I.length=o.length:=zc hW;refine sqk (fun C=>∀H5 (b:Option Nat) (v:Addr) (U:List Str),Same f H5->f v=none->H5 v=some (.lst (U.map V.str))->U.Nodup->(∀y∈U,y∈us)->(o.length=0->b=none)->(0 < o.length->∃j,b=some j/\j < o.length/\∀y,o[j]?=some y->∀z∈y.2,z∈U)->C [some (.int c),some (.int a),some (.ref O),some (.ref l),some (.int (0+(i:Int))),some (.int J),some (bV b),some (.ref v),u,t] H5) (fun C' G=>?_) fun H5 b v U M f5 h5 on ou z0 z1=>?_
  ·walk_at "3"
   refine ite2 (fun ci=>?_) (fun ci=>G _ none q6 [] e4 f4 h4 ydj (fun y B=>nomatch B) (fun _=>rfl) (fun z=>by omega));have d0:=yr (J / 64) (show (0:Int)+(i:Int)≠0 by omega);have d1:=yp (J / 64) (show (0:Int) < 0+(i:Int) by omega);have g0:=yr (J / 16) (show (3:Int)≠0 by decide);have g1:=yp (J / 16) (show (0:Int) < 3 by decide);refine sqt (fun m H5=>∃j:Nat,j < o.length/\m=[some (.int c),some (.int a),some (.ref O),some (.ref l),some (.int (0+(i:Int))),some (.int J),some (.int (j:Nat)),some (.ref q6),u,t]/\Same f H5) ?_ ?_
   ·intro C2 q5
    walk_at "1";refine⟨⟨by decide,by decide⟩,by omega,by decide,fun p1 q3=>⟨⟨by decide,by decide⟩,by decide,_,SqL.of Za1,?_⟩⟩;generalize J / 64 % (0+(i:Int))=d at d0 d1 ⊢;generalize J / 16 % 3=gg at g0 g1 ⊢;have M:=e4.trans (Za2 q3 (.lst [.int (0+(i:Int) - 1),.int d,.int 0]))
    have y0:gg=0∨gg=1∨gg=2:=by omega
    rcases y0 with rfl | rfl | rfl
    ·exact⟨_,rfl,q5 _ _ ⟨i - 1,by omega,by rw[show ((i - 1:Nat):Int)=0+(i:Int) - 1 by omega],M⟩⟩
    ·exact⟨_,rfl,q5 _ _ ⟨d.toNat,by omega,by rw[show ((d.toNat:Nat):Int)=d by omega],M⟩⟩
    ·exact⟨_,rfl,q5 _ _ ⟨0,by omega,rfl,M⟩⟩
   rintro y6 H5 ⟨j,hj,rfl,M⟩;obtain⟨y,B,p,qq,nq,hv,Y,hq⟩:=paired_get hW (za (show j < I.length by omega));have q8:=hi y (yc B);walk_at "1";refine⟨I,SqL.of (M _ _ h),_,Zd3 (za (show j < I.length by omega)),p,hv,_,M.sqt Y,_,rfl,qq,rfl,_,.inl (SqL.of (M _ _ hq)),fun v X=>G _ (some j) v y.2 (M.trans (Za2 X _)) (M.free X) Za1 q8.1 q8.2 (fun z=>by omega) (fun _=>⟨j,rfl,hj,fun y' q9 z hz=>?_⟩)⟩;rw[B] at q9;cases q9;exact hz
  refine sqt (fun m R=>∃(u t:Option V) (g:List Str),m=[some (.int c),some (.int a),some (.ref O),some (.ref l),some (.int (0+(i:Int))),some (.int J),some (bV b),some (.ref v),u,t]/\Same f R/\R v=some (.lst (g.map V.str))/\g.Nodup/\(∀y∈g,y∈us)/\∀y∈U,y∈g) ?_ ?_
  ·intro C' G
   walk_at "2";refine⟨⟨_,(e.trans M).seq hw⟩,?_⟩;refine Yv8 (D:={ nx:=C',rt:=Q }) (xs:=us.map V.str) (fun n m R=>∃(u t:Option V) (g:List Str),m=[some (.int c),some (.int a),some (.ref O),some (.ref l),some (.int (0+(i:Int))),some (.int J),some (bV b),some (.ref v),u,t]/\Same f R/\R v=some (.lst (g.map V.str))/\g.Nodup/\(∀y∈g,y∈us)/\∀y∈U,y∈g) ⟨u,t,U,rfl,M,h5,on,ou,fun _ z=>z⟩ (fun n m f hi N=>?_) (fun n x m R T L hT N=>?_) (fun m R N=>G _ _ N)
   ·obtain⟨_,_,_,rfl,e6,_⟩:=N
    exact (e.trans e6).seq hw
   obtain⟨u,t,g,rfl,e6,h6,hn,Y,ho⟩:=N;rw[zy] at L
   cases hz:us[n]? with
   |none=>rw[hz] at L;cases L
   |some z =>
   rw[hz] at L;cases L;have j5:z∈us:=yc hz;have v0:n < us.length:=(ze.mp hz).1;have w6:=j1.2.1;have ol:=Zm8 hn Y;walk_at "1";have sT:=Za2 hT (.tup [.int (n:Nat),.str z]);have q1:=sT _ _ h6;have eT:=e6.trans sT;have q0:=(⟨eT,g,q1,hn,Y,ho⟩:Same f (upd R T (.tup [.int (n:Nat),.str z]))/\∃x,upd R T (.tup [.int (n:Nat),.str z]) v=some (.lst (x.map V.str))/\x.Nodup/\(∀y∈x,y∈us)/\∀y∈U,y∈x);refine⟨_,.inl (.inl Za1),rfl,_,_,rfl,_,_,rfl,rfl,_,rfl,?_,?_,?_,by decide,?_⟩
   rotate_left
   rotate_left
   rotate_left
   ·refine ite2 (fun _=>⟨_,.inl (SqL.of q1),rfl,Xd8 _,?_⟩) (fun _=>?_)
    ·rw[if_pos trivial,Wc0]
     by_cases hin:z∈g
     ·rw[decide_eq_true hin,if_neg (by decide)]
      exact q0
     ·rw[decide_eq_false hin,if_pos (by decide)]
      refine⟨.inl ⟨rfl,_,SqL.of q1⟩,_,q1,small1M (by rw[yh];omega),eT.write f5,g++[z],by rw[Za1,zac];rfl,Wa8 hn hin,fun y B=>?_,fun y B=>zas _ (ho y B)⟩;rcases yd.mp B with B | B
      ·exact Y y B
      ·rw[zb.mp B];exact j5
    ·rw[if_neg zg]
     exact q0
   ·exact Zj5 (by decide) (by decide)
   ·exact⟨by omega,by omega,by decide⟩
   ·have j8:n=0∨n=1∨n=2∨n=3∨n=4∨n=5:=by omega
    rcases j8 with rfl | rfl | rfl | rfl | rfl | rfl<;>exact⟨by decide,by decide⟩
  rintro y5 R ⟨u,t,g,rfl,e6,h6,hn,Y,ho⟩;walk_at "1";have w6:=j1.2.1;have ol:=Zm8 hn Y;refine⟨.inl ⟨rfl,_,SqL.of (e6 _ _ h)⟩,g,SqL.of h6,by omega,fun r q2 j0 N _=>⟨by decide,fun p1 q3=>?_⟩⟩;have s7:=Za2 j0 (.lst (q2.map V.str));have s8:=Za2 q3 (.tup [bV b,.ref r]);have e8:=e6.trans (s7.trans s8);have q4:=e8 _ _ h;have q7:r≠l:=zar (Za9 (e6 _ _ h) j0);obtain⟨w1,w2,w3⟩:=Yx2 (b:=b) hg j6 hi z0 (fun z=>let ⟨j,a1,a2,a3⟩:=z1 z;⟨j,a1,a2,fun y B x L=>N.mem_iff.mpr (ho x (a3 y B x L))⟩) (N.nodup_iff.mpr hn) fun y B=>Y y (N.mem_iff.mp B);exact⟨I,q4,small1M (by omega),(e.trans e8).write f1,I++[.ref p1],Za1,o++[(b,q2)],zdo (Paired.mapP hW fun _ _ z=>(z.keep e8).write q4) ⟨p1,r,q7,rfl,Ze0 q4 _ _ (.inl (.inl Za1)),by rw[Zb3 q7];exact s8 _ _ Za1⟩,w1,w2,w3,by rw[zf,j2];rfl⟩
 rintro y7 H2 ⟨x4,Z,W,S,u,t,j4,j3,rfl,e2,h2,y2,y1,j7,z9,j9⟩;walk_at "1";exact q _ _ j4 j3 e2 f1 h2 (Paired.mapP y2 fun _ _ z=>z.at) y1 j7 z9 j9
theorem Wf3:FnScope ["statement"] ["statement"] (Za6 (top 7)):=scm (by decide +kernel)
theorem sc_cf0:FnScope ["statement","found","waiting","piece"] ["statement"] (Za6 (top 8)):=scm (by decide +kernel)
theorem Xv9 {k:Nat}(F_ck0:Fun K "within" "within" (top 7) f_ck0 fd_ck0)(m_ae0:MgI mg "PAIRED" aPAIRED)(t_PAIRED:∀H,SqT K H aPAIRED [.str "both",.str "one",.str "then"]):Fk0 P w K mg base (k+1) f_ck0 fd_ck0 pq30 (sp_within K):=by
 refine F_ck0.okG Wf3 fun j A f s H n Q E o h r e=>?_;obtain⟨v,t,rfl,d,q⟩:=h
 refine e _ ⟨_,(Za4 (Zc7 (Zp5 (Zt2) (pxtM (pvM 0) Za5) (Yb0 (v:=.ref aPAIRED) (by exact rfl) m_ae0 (by exact rfl)) (by with_unfolding_all rfl))
  (Za7 (Zb2 (Zb7 (Za0 (pxtM (pvM 0) Za5) (Za0 (pxtM (pvM 0) Za5) Za3)))))
  Zb4)
 (Za7 (Zb2 (Zb7 Za3)))),?_⟩
 walk_at "1"
 cases t with
 |low =>
  obtain⟨a,rfl,c⟩:=isT_low.mp d;refine⟨a,rfl,_,c,_,rfl,_,.inr (t_PAIRED H),rfl,rfl,?_⟩;rw[if_neg (by decide)];exact⟨by decide,fun p b=>q p _ _ (Za2 b _) b Za1 .nil⟩
 |ltr x =>
  obtain⟨a,rfl,c⟩:=isT_ltr.mp d;refine⟨a,rfl,_,c,_,rfl,_,.inr (t_PAIRED H),rfl,rfl,?_⟩;rw[if_neg (by decide)];exact⟨by decide,fun p b=>q p _ _ (Za2 b _) b Za1 .nil⟩
 |nd kd x y =>
  obtain⟨a,m,l,rfl,c,i,g⟩:=isT_nd.mp d;refine⟨a,rfl,_,c,_,rfl,_,.inr (t_PAIRED H),rfl,rfl,?_⟩;rw[if_pos (by cases kd<;>decide)];exact⟨a,rfl,_,c,_,rfl,a,rfl,_,c,_,rfl,by decide,fun p b=>q p _ _ (Za2 b _) b Za1 (.cons (i.keep (Zf3 b)) (.cons (g.keep (Zf3 b)) .nil))⟩
noncomputable def sumP (ts:List Tm):Nat:=(ts.map Tm.parts).sum
theorem Zn7 (t:Tm)(ts:List Tm):sumP (t::ts)=t.parts+sumP ts:=by unfold sumP;rw[ybg,List.sum_cons]
theorem Yt1 (a b:List Tm):sumP (a++b)=sumP a+sumP b:=by unfold sumP;rw[zac,List.sum_append]
theorem Xd5 (t:Tm):sumP t.kids+1=t.parts:=by
 cases t with
 |low=>rfl
 |ltr w=>rfl
 |nd k a b=>show sumP [a,b]+1=1+a.parts+b.parts;rw[Zn7,Zn7];show a.parts+(b.parts+0)+1=_;omega
theorem Yh3:∀ts:List Tm,ts.length<=sumP ts
 | []=>yo _
 |t::ts=>by
  rw[Zn7,yai];have:=Yh3 ts;have:=t.parts_pos;omega
theorem Xw1 {k:Nat}(F_cf0:Fun K "pieces" "pieces" (top 8) f_cf0 fd_cf0)(C_within:Cl P w K mg base k "within" pq30 (sp_within K)):Fk0 P w K mg base (k+1) f_cf0 fd_cf0 pq30 (sp_pieces K):=by
 refine F_cf0.okG sc_cf0 fun q2 A Z s H vs Q E hr h Gx W=>?_;obtain⟨v,t,rfl,hT,d,q⟩:=h
 refine W _ ⟨_,(Za4 (pst 1 sc_cf0.nd (Zb7 Za3))
 (Za4 (pst 2 sc_cf0.nd (Zb7 (Za0 (pv 0) Za3)))
 (Za4 (Yg3 zae (Zs7 (pv 2) (fun _=>rfl))
  (Za4 (pst 3 sc_cf0.nd (Yu0 zad zcs ydh Yu5 (pv 2)))
 (Za4 (Zi5 (Zv2 zad zam zaq Zg6 (pv 1) (Za0 (pv 3) Za3)))
 (Za7 (Zi5 (Zv2 zad F.slot_list_extend F.type_list_extend Xi6 (pv 2) (Za0 (Wi2 (Zb8 C_within hr (Za0 (pv 3) Za3)) (Yq0 Zz6 Za5)) Za3)))))))
 (Za7 (Zb2 (pv 1)))))),?_⟩
 walk_at "1";refine⟨by decide,fun lt f=>⟨by decide,fun lw e=>?_⟩⟩;have B:H lw=none:=(Za2 f _).free e
 have y:lw≠lt:=fun z=>by subst z;rw[Za1] at e;cases e
 refine⟨fun m M n=>∃a o c L T,m=sumP o/\M=[some v,some (.ref lt),some (.ref lw),T]/\Same H n/\n lt=some (.lst c)/\n lw=some (.lst a.reverse)/\Paired (IsT K n) a o/\Paired (IsT K n) c L/\L++o.flatMap Tm.pre=t.pre/\c.length+sumP o<=400,
  ⟨_,[v],[t],[],[],none,rfl,rfl,(Za2 f _).trans (Za2 e _),?_,Za1,.cons ((hT.keep (Zf3 f)).keep (Zf3 e)) .nil,.nil,?_,?_⟩,?_⟩
 ·rw[Zb3 (zar y),Za1]
 ·show []++(t.pre++[])=t.pre
  simp
 ·show 0+(t.parts+0)<=400
  omega
 rintro m q0 j ⟨a,o,c,L,T,rfl,rfl,Y,X,D,hd,R,S,hn⟩;refine⟨_,rfl,!a.reverse.isEmpty,.inl ⟨_,SqL.of D,rfl⟩,?_⟩
 cases hd with
 |nil =>
  rw[if_neg (by decide)];walk_at "1";rw[List.flatMap_nil,yaa] at S;rw[S] at R;exact q lt j c Y f X R
 |@cons u i a is hi hst =>
  have x:(u::a).reverse=a.reverse++[u]:=zai;rw[if_pos (by rw[x];simp)];refine⟨_,fun M n z=>z,?_⟩;walk_at "1";rw[x] at D;have N:lt≠lw:=zar y;refine⟨.inl ⟨rfl,_,SqL.of D⟩,_,D,u,by simp,?_⟩;rw[zck];have k1:KeepT K j (upd j lw (.lst a.reverse)):=Ze0 D;rw[Zn7] at hn;have pp:=i.parts_pos
  have G:upd j lw (.lst a.reverse) lt=some (.lst c):=by rw[Zb3 N];exact X
  have O:KeepT K j (upd (upd j lw (.lst a.reverse)) lt (.lst (c++[u]))):=k1.trans (Ze0 G);refine⟨.inl ⟨rfl,_,SqL.of G⟩,_,G,small1M (by omega),?_⟩
  have l:upd (upd j lw (.lst a.reverse)) lt (.lst (c++[u])) lw=some (.lst a.reverse):=by rw[Zb3 y,Za1]
  refine⟨.inl ⟨rfl,_,SqL.of l⟩,u,i,rfl,hi.keep O,fun r H2 g I q1 V U=>?_⟩;have b:=I lw _ l;have C:=I lt _ Za1;have l1:=zc U;have l2:=zc hst;have l3:=Yh3 is;have l4:=Yh3 i.kids;have l5:=Xd5 i;have E2:Same H H2:=((Y.write B).write f).trans I;refine⟨r,rfl,g,SqL.of V,fun p d=>⟨a.reverse,by rw[Zb3 (Za9 b d)];exact b,g.reverse,Za1,?_,sumP (i.kids++is),?_,g++a,i.kids++is,rfl,?_,c++[u],?_,?_,?_,L++[i],?_,?_,?_⟩⟩
  ·rw[zbk,zbk]
   exact zk (small1M (by omega))
  ·rw[Yt1,Zn7];omega
  ·exact (E2.trans (Za2 d _)).write B
  ·rw[Zb3 N,Zb3 (Za9 C d)];exact C
  ·rw[Za1,List.reverse_append]
  ·have J:KeepT K H2 (upd (upd H2 p (.lst g.reverse)) lw (.lst (a.reverse++g.reverse))):=(Zf3 d).trans (Ze0 (by rw[Zb3 (Za9 b d)];exact b))
   exact Zc4 (Za8 J U) (Za8 ((O.trans I.keepT).trans J) hst)
  ·have J:KeepT K H2 (upd (upd H2 p (.lst g.reverse)) lw (.lst (a.reverse++g.reverse))):=(Zf3 d).trans (Ze0 (by rw[Zb3 (Za9 b d)];exact b))
   exact Za8 ((O.trans I.keepT).trans J) (Zc4 R (.cons hi .nil))
  ·rw[<- S,ybz,ycf,Tm.pre_eq i];simp
  ·rw[zf,zd,Yt1];omega
theorem sc_cj0:FnScope ["worlds","first","second","truths","number"] ["worlds","first","second"] (Za6 (top 45)):=scm (by decide +kernel)
theorem Xw0 {k:Nat}(F_cj0:Fun K "where_then" "where_then" (top 45) f_cj0 fd_cj0)(m_range:mg "range"=none)(m_zip:mg "zip"=none)(m_len:mg "len"=none):Fk0 P w K mg base (k+1) f_cj0 fd_cj0 pq34 (sp_whereT K):=by
 refine F_cj0.okG sc_cj0 fun q7 A q5 s H vs Q E hr h Gx q0=>?_;obtain⟨N,x,y,o,c,l,g,rfl,I,Z,hg,hl,X,W,la,lb,q⟩:=h;have lx:o.length=c.length:=zc Z
 have li:(ifs l g).length=c.length:=by unfold ifs;rw[zag,la,lb,zcd]
 refine q0 _ ⟨_,(Za4 (Zy1 (i:=3) sc_cj0.nd rfl (Or.inl rfl) (blk0 (N':=["one","other"]) (by decide +kernel) (by decide +kernel) rfl (by decide +kernel)) rfl (Yd5 rfl m_zip (Za0 (pvM 1) (Za0 (pvM 2) Za3))) (fun _ _ _ _=>(Zo0 (K:=K) (n:=2) rfl rfl (Zb9 (pgn 0 (ndS ["one","other"])) (Zb9 (pgn 1 (ndS ["one","other"])) Zf9)) rfl rfl)) (fun _ _ _ _=>(Wa1 (Wi3 (pvM 0)) (Zw1 (pvM 1)))) rfl)
 (Za4 (Zj3 zae rfl (Xg1 rfl m_range (Za0 (Zb0 Zl1 (Zc1 Zb5 (by exact rfl) m_len Zc9 (Za0 (pvM 0) Za3)) Za5) (Za0 Za5 (Za0 (Yq0 Zz6 Za5) Za3)))) (pgn 4 sc_cj0.nd)
  (Za7 (Zc7 (Zj7 (Zj2 (pxlM (pvM 3) (pvM 4))))
  (Za7 (Zs8 Zo2 (Xv7 (pvM 3) (pxtM (pxlM (pvM 0) (pvM 4)) Za5) Yt4)))
  Zb4)))
 (Za7 (Zb2 (pvM 3))))),?_⟩
 refine sqk (fun C=>∀d r,Same H d->H r=none->d r=some (.lst (bls (ifs l g)))->C [some (.ref N),some (.ref x),some (.ref y),some (.ref r),none] d) (fun C R=>?_) fun H1 r e1 f1 h1=>?_
 ·walk_at "1"
  walk_at "2";refine⟨⟨_,SqL.of X⟩,⟨_,SqL.of W⟩,fun q4 F=>?_⟩;refine Yh4 (fun a b=>!a||b) (by omega) (by omega) (SqL.of X) (SqL.of W) F (fun u v T H2 C' hT q1=>?_) (fun H2 e h=>R _ q4 e F h);refine⟨T,_,rfl,hT,?_⟩;refine⟨rfl,?_⟩;walk_at "1";refine⟨Wk.trans (Ze2 (i:=0) rfl) (Ze2 (i:=1) rfl),?_⟩
  cases u<;>exact q1
 refine Xq6 (fun f d=>∃t,f=[some (.ref N),some (.ref x),some (.ref y),some (.ref r),t]/\Same H d/\d r=some (.lst (bls (Xb9 c (ifs l g))))) ?_ ?_
 rotate_left
 ·intro C R
  walk_at "2";refine⟨o,.inl (SqL.of (e1 _ _ I)),?_⟩;refine⟨by omega,by omega,by omega,by omega,?_⟩
  have en:((o.length:Int) - 1 - 0).toNat=c.length - 1:=by omega
  rw[en];refine Xt3 (D:={ nx:=C,rt:=Q }) (fun i f d=>∃t,f=[some (.ref N),some (.ref x),some (.ref y),some (.ref r),t]/\Same H d/\d r=some (.lst (bls (Zu6 c (ifs l g) i)))) ⟨none,rfl,e1,h1⟩ (fun i f d hi O=>?_) (fun f d O=>R _ _ O);obtain⟨t,rfl,e,G⟩:=O;have S:=Zs1 c (ifs l g) i
  have hm:c.length - 1 - i < c.length:=by omega
  have q3:(o.length:Int) - 1 - (i:Int)=((c.length - 1 - i:Nat):Int):=by omega
  have M:0 < c.length - 1 - i:=by omega
  have B:c.length - 1 - i < o.length:=by omega
  rw[q3];have eS:Zu6 c (ifs l g) (i+1)=Yf1 c (Zu6 c (ifs l g) i) (c.length - 1 - i):=rfl;rw[eS];generalize Zu6 c (ifs l g) i=L at G S;generalize c.length - 1 - i=m at hm M B;obtain⟨z,U,p,qq,hv,Y,hq⟩:=paired_get Z (za B);obtain⟨j,ej,lj⟩:=(hg _ z U).2 M
  have eb:bef c m=some j:=by unfold bef;rw[U];exact ej
  rw[ej] at Y
  have J:m < L.length:=by omega
  walk_at "1";refine⟨_,SqL.of G,.bl L[m],Zd3 (by rw[zy,za J];rfl),L[m],rfl,?_⟩
  have q2:tg L m=L[m]:=by unfold tg;rw[za J];rfl
  unfold Yf1;rw[q2]
  cases hb:L[m] with
  |true=>rw[if_neg (by decide),if_pos rfl];exact⟨e,G⟩
  |false =>
   rw[if_pos (by decide),if_neg (by decide),eb];refine⟨_,SqL.of (e _ _ I),_,Zd3 (za B),p,hv,_,e.sqt Y,_,rfl,_,_,rfl,G,j,?_,e.write f1,?_⟩
   ·exact Xk4 (by rw[yh];omega)
   ·rw[Za1]
    show _=some (HO.lst ((L.set j false).map V.bl));rw[List.map_set]
 rintro q6 H2 ⟨t,rfl,e2,h2⟩;walk_at "1";exact q _ _ e2 f1 h2
abbrev nn0:List Str:=["worlds","words","truths","number","before","here","word"]
theorem sc_ci0:FnScope nn0 ["worlds","words"] (Za6 (top 44)):=scm (by decide +kernel)
theorem Wj4 {k:Nat}(F_ci0:Df K mg "where_letters" (top 44) ["worlds","words"])(m_enumerate:mg "enumerate"=none)(m_len:mg "len"=none):Cl P w K mg base (k+1) "where_letters" ["worlds","words"] (sp_whereL K):=by
 refine F_ci0.okG sc_ci0 fun fx j1 A q8 s H vs Q E hr h Gx q7=>?_;obtain⟨wa,la,xs,o,r,rfl,q0,hW,hl,q3,q5,j0,q⟩:=h;have lx:xs.length=o.length:=zc hW
 refine q7 _ ⟨_,(Za4 (Xf7 (i:=2) sc_ci0.nd rfl (Or.inl rfl) (blkD (N':=["word","worlds"]) (nt:=1) (ci:=[0]) nn0 (Za6 (top 44))) rfl (Ze4 (pv 1)) (fun _ _ _ _=>(pgn 0 (ndS ["word","worlds"]))) (fun _ _=>Xy3) (fun _ _ _ _ _=>(Xr1 (Nat.lt_of_succ_lt (Xl2 hr)) (pv 0) (Zb0 Xh2 (Zb7 (Za0 Zo2 Za3)) (Zc1 (Yi7 (K:=K) rfl) (by exact rfl) (by exact m_len) Zc9 (Za0 (pv 1) Za3))))) rfl)
 (Za4 (Zj3 zae rfl (Xg3 rfl m_enumerate (Za0 (pv 0) Za3)) (Zo1 rfl (Zb9 (pgn 3 sc_ci0.nd) (Zb9 (Zo1 rfl (Zb9 (pgn 4 sc_ci0.nd) (Zb9 (pgn 5 sc_ci0.nd) Zf9))) Zf9)))
  (Za7 (Zj3 zae rfl (Ze4 (pv 5)) (pgn 6 sc_ci0.nd)
  (Za7 (Zc7 (Xv4 (Wi5 (Xl2 hr) (pv 6) (pv 2)) (by with_unfolding_all rfl))
  (Za7 (Zs8 Zo2 (Xv7 (Xg6 (Xl2 hr) (pv 2) (pv 6) (fun _ _=>rfl)) (pv 3) Yt4)))
  Zb4)))))
 (Za7 (Zb2 (pv 2))))),?_⟩
 refine sqk (fun C=>∀m (d:Addr) (c:List (Key×V)) (f:Str->Addr),Same H m->H d=none->m d=some (.dK c)->(∀x,¬x∈r->valV c (zay x)=none)->(∀x∈r,valV c (zay x)=some (.ref (f x))/\H (f x)=none/\f x≠d/\m (f x)=some (.lst (bls (wl o.length o 0 [] x))))->(∀x∈r,∀y∈r,f x=f y->x=y)->C [some (.ref wa),some (.ref la),some (.ref d),none,none,none,none] m) (fun C hC=>?_) fun H1 d c f e1 f1 h1 L n F=>?_
 ·walk_at "1"
  refine⟨⟨_,q3⟩,fun acc X=>?_⟩;refine Zu0 (xs:=r.map V.str) (fun i m=>Same H m/\∃(c:List (Key×V)) (f:Str->Addr),m acc=some (.dK c)/\c.length<=i/\(∀x,¬x∈r.take i->valV c (zay x)=none)/\(∀x∈r.take i,valV c (zay x)=some (.ref (f x))/\H (f x)=none/\f x≠acc/\m (f x)=some (.lst (bls (wl o.length o 0 [] x))))/\∀x∈r.take i,∀y∈r.take i,f x=f y->x=y) ⟨Za2 X _,[],fun _=>0,Za1,yo _,fun x _=>rfl,fun x b=>by simp at b,fun x b=>by simp at b⟩ (fun i m _ ⟨e,_⟩=>e.seq q3) (fun i u m N b ⟨e,c,f,hd,hk,L,n,F⟩ hN=>?_) (fun m ⟨e,c,f,hd,hk,L,n,F⟩=>?_)
  ·rw[zy] at b
   cases el:r[i]? with
   |none=>rw[el] at b;cases b
   |some x =>
    rw[el] at b;cases b
    have S:¬x∈r.take i:=fun z=>by
     obtain⟨j,hj,ej⟩:=zw z;rw[List.getElem_take] at ej;rw[zq] at hj;obtain⟨hi,ei⟩:=ze.mp el;exact zau.mp q5 j i (by omega) hi (by omega) (ej.trans ei.symm)
    have hi:i < r.length:=(ze.mp el).1;walk_at "1";refine⟨Ze2 (i:=0) rfl,by decide,fun p I=>⟨xs,.inl (SqL.of ((Za2 I _) _ _ (e _ _ q0))),_,Za1,by omega,by omega,?_,fun p1 q2=>?_⟩⟩
    ·show 1*(xs.length:Int).toNat<=zp
     exact zk (small1M (by omega))
    have S1:=Za2 I (HO.lst [V.bl false]);have S2:=S1.trans (Za2 q2 (HO.lst (yy (xs.length:Int).toNat [V.bl false]).flatten));have O:m p1=none:=S1.free q2
    have n1:p1≠acc:=fun z=>by rw[z,hd] at O;cases O
    obtain⟨Z,q1,W⟩:∃Z:Str->Addr,Z x=p1/\∀y,y≠x->Z y=f y:=⟨fun y=>if y=x then p1 else f y,if_pos rfl,fun y h=>if_neg h⟩;refine⟨_,DPut.k (k:=zay x) (S2 _ _ hd) (small1M (by omega)),hN _ ⟨(e.trans S2).write X,putK c (zay x) (.ref p1),Z,Za1,?_,fun y l=>?_,fun y l=>?_,fun y l z hz=>?_⟩⟩
    ·have:=Zr6 c (zay x) (.ref p1);omega
    ·rw[Zf6 el] at l
     rw[Yf2,if_neg (fun z=>l (by cases z;simp)),L y fun z=>l (zas _ z)]
    ·rw[Zf6 el] at l
     rcases yd.mp l with l | l
     ·have ne:y≠x:=fun z=>S (z▸l)
      obtain⟨g1,g2,g3,g4⟩:=n y l;rw[W y ne,Yf2,if_neg (fun z=>ne (by cases z;rfl)),Zb3 g3];exact⟨g1,g2,g3,S2 _ _ g4⟩
     ·obtain rfl:y=x:=by simpa using l
      rw[q1,Yf2,if_pos rfl,Zb3 n1,Za1,Xx8,List.flatten_replicate_singleton];refine⟨rfl,e.free O,n1,?_⟩;rw[show (xs.length:Int).toNat=o.length by omega];show _=some (HO.lst ((yy o.length false).map V.bl));rw[List.map_replicate]
    ·rw[Zf6 el] at l hz
     have q4:∀y∈r.take i,f y≠p1:=fun y l z=>by
      have:=(n y l).2.2.2;rw[z,O] at this;cases this
     rcases yd.mp l with J | J
     ·rcases yd.mp hz with B | B
      ·rw[W y (fun g=>S (g▸J)),W z (fun g=>S (g▸B))];exact F y J z B
      ·have ez:z=x:=by simpa using B
       rw[W y (fun g=>S (g▸J)),ez,q1];exact fun g=>absurd g (q4 y J)
     ·have ey:y=x:=by simpa using J
      rcases yd.mp hz with B | B
      ·rw[ey,q1,W z (fun g=>S (g▸B))];exact fun g=>absurd g.symm (q4 z B)
      ·have ez:z=x:=by simpa using B
       rw[ey,ez];exact fun _=>rfl
  ·rw[yh,zaa] at L n F
   exact hC _ acc c f e X hd L n F
 refine sqt (fun t m=>∃x3 x4 x5 R,t=[some (.ref wa),some (.ref la),some (.ref d),x3,x4,x5,R]/\Same H m/\m d=some (.dK c)/\∀x∈r,m (f x)=some (.lst (bls (wl o.length o o.length [] x)))) ?_ ?_
 ·intro C hC
  refine Xy5 ?_;simp only[Ym1,Yf5,tNil,tVar,yby,ych,exists_eq_left',yct,V.ref.injEq,and_true,Zw9];refine⟨⟨xs,SqL.of (e1 _ _ q0)⟩,?_⟩;refine Yv8 (K:=K) (D:={ nx:=C,rt:=Q }) (xs:=xs) (fun i t m=>∃x3 x4 x5 R,t=[some (.ref wa),some (.ref la),some (.ref d),x3,x4,x5,R]/\Same H m/\m d=some (.dK c)/\∀x∈r,m (f x)=some (.lst (bls (wl o.length o i [] x)))) ⟨none,none,none,none,rfl,e1,h1,fun x b=>(n x b).2.2.2⟩ (fun i t m _ zZ=>by obtain⟨_,_,_,_,_,e,_⟩:=zZ;exact SqL.of (e _ _ q0)) (fun i v t m T b hT I=>?_) (fun t m I=>hC _ _ (lx▸I));obtain⟨x3,x4,x5,R,rfl,e,hd,q6⟩:=I;obtain⟨z,hz,p,qq,rfl,hs,hq⟩:=paired_get hW b;have eT:=Za2 hT (HO.tup [.int (i:Int),.ref p]);have hi:i < o.length:=(ze.mp hz).1;simp only[gTup,Xa3,gNil,Zn5,List.set_cons_zero,List.set_cons_succ,Zw9,and_assoc,exists_and_left,V.ref.injEq,exists_eq_left',exists_eq_left,yct];refine⟨_,.inl (.inl Za1),rfl,_,_,rfl,_,_,rfl,p,rfl,_,eT.sqt (e.sqt hs),rfl,_,_,rfl,_,_,rfl,rfl,rfl,?_⟩
  have ez:wd2 o i=z.2:=by unfold wd2;rw[hz];rfl
  refine Yc0 (a:=qq) (xs:=z.2.map V.str) (fun Q' h=>⟨_,rfl,h⟩) (fun k t Y=>∃R,t=[some (.ref wa),some (.ref la),some (.ref d),some (.int (i:Int)),some (bV z.1),some (.ref qq),R]/\Same H Y/\Y d=some (.dK c)/\∀x∈r,Y (f x)=some (.lst (bls (wl o.length o i (z.2.take k) x))))
   ⟨R,rfl,e.trans eT,eT _ _ hd,fun x b=>eT _ _ (q6 x b)⟩ (fun k t Y _ zZ=>by obtain⟨_,_,U,_⟩:=zZ;exact SqL.of (U _ _ hq)) (fun k v t Y hv I=>?_) (fun t Y I=>?_)
  ·obtain⟨y6,rfl,U,M,G⟩:=I
   rw[zy] at hv
   cases ek:z.2[k]? with
   |none=>rw[ek] at hv;cases hv
   |some y =>
    rw[ek] at hv;cases hv;walk_at "1";refine⟨_,DGet.k (k:=zay y) M,?_⟩
    by_cases l:y∈r
    ·rw[(n y l).1]
     rw[if_pos (show (some (V.ref (f y))).isSome=true from rfl)];have nd:∀x∈r,f x≠d:=fun x b=>(n x b).2.2.1;have g:=DGet.k (k:=zay y) M;rw[(n y l).1] at g;refine⟨.ref (f y),g,_,rfl,_,G y l,i,Xk4 (by rw[yh,Xu8];exact hi),U.write (n y l).2.1,by rw[Zb3 (zar (nd y l))];exact M,fun x b=>?_⟩
     by_cases exy:x=y
     ·subst exy
      rw[Za1,Zf6 ek,<- We1 hi];show _=some (HO.lst ((List.set (wl o.length o i (z.2.take k) x) i true).map V.bl));rw[List.map_set]
     ·rw[Zb3 (fun g=>exy (F x b y l g)),G x b,Zf6 ek,Ys4 exy]
    ·rw[L y l]
     rw[if_neg (by decide)];refine⟨U,M,fun x b=>?_⟩;rw[G x b,Zf6 ek,Ys4 (show x≠y from fun g=>l (by rw[<- g];exact b))]
  ·obtain⟨y6,rfl,U,M,G⟩:=I
   refine⟨_,_,_,_,rfl,U,M,fun x b=>?_⟩;rw[G x b,yh,zaa,Xx9,ez]
 rintro q9 Y ⟨x3,x4,x5,R,rfl,U,h2,G⟩;walk_at "1";refine q _ _ c f U f1 h2 fun x b=>⟨(n x b).1,(n x b).2.1,?_⟩;rw[G x b,We2]
theorem sc_bt0:FnScope ["statement","of_simple","of_pair","told","piece","first","second"] ["statement","of_simple","of_pair"] (Za6 (top 9)):=scm (by decide +kernel)
theorem Zj9 :∀{l:List α} {m:List β} {y:β},Paired F l (m++[y])->∃l' x,l=l'++[x]/\Paired F l' m/\F x y
 | _,[],_,h=>by
  cases h with
  |cons hx t=>cases t;exact⟨[],_,rfl,.nil,hx⟩
 | _,z::m,_,h=>by
  cases h with
  |cons hx t =>
   obtain⟨l',x,rfl,h1,h2⟩:=Zj9 t;exact⟨_::l',x,rfl,.cons hx h1,h2⟩
theorem Yy6 {k:Nat}(hA:∀a,AD a->H0 a≠none)(F_bt0:Fun K "folded" "folded" (top 9) f_bt0 fd_bt0)(C_pieces:Cl P w K mg base k "pieces" pq30 (sp_pieces K))(m_ae0:MgI mg "PAIRED" aPAIRED)(t_PAIRED:∀H,SqT K H aPAIRED [.str "both",.str "one",.str "then"])(m_reversed:mg "reversed"=none)(G_ce0:Fk0 P w K mg base k f_ce0 fd_ce0 ps_of_simple (sp_of1L K H0 AD G tv))(k_ce0:KpI K f_ce0)(b_ce0:Binds K fd_ce0 ps_of_simple [])(G_cd0:Fk0 P w K mg base k f_cd0 fd_cd0 ps_of_pair (sp_of2L H0 tv))(k_cd0:KpI K f_cd0)(b_cd0:Binds K fd_cd0 ps_of_pair []):Fk0 P w K mg base (k+1) f_bt0 fd_bt0 pq29 (sp_foldedL K H0 AD G tv f_ce0 f_cd0):=by
 refine F_bt0.okG sc_bt0 fun z5 A j9 s H vs Q E hr h Gx j7=>?_;obtain⟨v,t,rfl,rfl,hT,hG,hp,q⟩:=h
 let R:Hp->Addr->Tm->V->Prop:=fun X l s u=>∃a,u=.ref a/\a≠l/\X a=some (.lst (bls (tv s)))/\(AD a∨H a=none)
 have hR:∀{X H2:Hp} {l:Addr} {s:Tm} {u:V},Same X H2->R X l s u->R H2 l s u:=fun e zZ=>(by obtain⟨a,e1,M,c,e4⟩:=zZ;exact ⟨a,e1,M,e _ _ c,e4⟩);have q9:∀{X:Hp} {l:Addr} {s:Tm} {u:V} {o:HO},R X l s u->R (upd X l o) l s u:=fun zZ=>(by obtain⟨a,e1,M,c,e4⟩:=zZ;exact ⟨a,e1,M,by rw[Zb3 M];exact c,e4⟩);have q4:∀{j H5:Hp} {l:Addr} {f:List V} {fs:List Tm},Same j H5->Paired (fun u s=>R j l s u) f fs->Paired (fun u s=>R H5 l s u) f fs:=fun k z=>Paired.mapP z fun _ _ y=>hR k y;have q8:∀{j:Hp} {l:Addr} {f:List V} {fs:List Tm} {o:HO},Paired (fun u s=>R j l s u) f fs->Paired (fun u s=>R (upd j l o) l s u) f fs:=fun z=>Paired.mapP z fun _ _ y=>q9 y
 refine j7 _ ⟨_,(Za4 (pst 3 sc_bt0.nd (Zb7 Za3))
 (Za4 (Zj3 zae rfl (Xv6 rfl m_reversed (Za0 (Zb8 C_pieces hr (Za0 (pvM 0) Za3)) Za3)) (pgn 4 sc_bt0.nd)
  (Za7 (Zc7 (Zp5 (Zt2) (pxtM (pvM 4) Za5) (Yb0 (v:=.ref aPAIRED) (by exact rfl) m_ae0 (by exact rfl)) (by with_unfolding_all rfl))
  (Za4 (pst 5 sc_bt0.nd (Yu0 zad zcs ydh Yu5 (pvM 3)))
 (Za4 (pst 6 sc_bt0.nd (Yu0 zad zcs ydh Yu5 (pvM 3)))
 (Za7 (Zi5 (Zv2 zad zam zaq Zg6 (pvM 3) (Za0 (Yg7 (i:=2) G_cd0 hr rfl (Or.inl rfl) k_cd0 b_cd0 .nil Xr9 (Za0 (pxtM (pvM 4) Za5) (Za0 (pvM 5) (Za0 (pvM 6) Za3)))) Za3))))))
  (Za7 (Zi5 (Zv2 zad zam zaq Zg6 (pvM 3) (Za0 (Yg7 (i:=1) G_ce0 hr rfl (Or.inl rfl) k_ce0 b_ce0 .nil Xr9 (Za0 (pvM 4) Za3)) Za3)))))))
 (Za7 (Zb2 (pxlM (pvM 3) Za5))))),?_⟩
 refine sqk (fun C=>∀d l,Same H d->H l=none->d l=some (.lst [])->C [some v,some (.ref f_ce0),some (.ref f_cd0),some (.ref l),none,none,none] d) (fun C hC=>?_) fun X l e1 f1 h1=>?_
 ·walk_at "1"
  exact⟨by decide,fun l hl=>hC _ l (Za2 hl _) hl Za1⟩
 refine sqt (fun J d=>∃S O N u,J=[some v,some (.ref f_ce0),some (.ref f_cd0),some (.ref l),S,O,N]/\Same H d/\d l=some (.lst [u])/\R d l t u) ?_ ?_
 ·intro C hC
  walk_at "2";refine⟨v,t,rfl,hT.keep e1.keepT,by omega,fun r H2 f M f2 h2 hu=>⟨r,rfl,f,SqL.of h2,?_⟩⟩;have lu:=zc hu;have l2:=M l _ h1
  have q7:r≠l:=fun z=>by rw[z] at f2;rw[f2] at h1;cases h1
  refine Wc4 (D:={ nx:=C,rt:=Q }) (xs:=f) (fun i J d=>∃S O N T fs,J=[some v,some (.ref f_ce0),some (.ref f_cd0),some (.ref l),S,O,N]/\Same H d/\KeepT K H2 d/\d r=some (.lst f)/\d l=some (.lst T)/\Paired (fun u s=>R d l s u) T fs.reverse/\fs.flatMap Tm.pre=t.pre.drop (f.length - i)/\T.length<=i)
   ⟨none,none,none,[],[],rfl,e1.trans M,fun _ _ z=>z,h2,l2,.nil,?_,yo _⟩ (fun i J d _ zZ=>by obtain⟨S,O,N,T,fs,_,_,_,h,_⟩:=zZ;exact SqL.of h) (fun i x J d hi hx hI=>?_) (fun J d hI=>?_)
  ·rw[zcq,lu,List.drop_length];rfl
  ·obtain⟨S,O,N,T,fs,rfl,e,kk,q0,g,B,U,hn⟩:=hI
   obtain⟨Y,q3,j0⟩:=paired_get hu hx
   have hj:f.length - 1 - i < t.pre.length:=by rw[<- lu];omega
   obtain⟨s2,rest,g1,g2,g3⟩:=Yg5 t _ hj;rw[q3] at g1;cases g1;have n:=j0.keep kk
   have ej:f.length - i=f.length - 1 - i+1:=by omega
   have dr:t.pre.drop (f.length - i)=Y.kids.flatMap Tm.pre++rest:=by
    have:=congrArg List.tail g2;rw[List.tail_drop,<- ej,Y.pre_eq,yan,List.tail_cons] at this;exact this
   rw[dr] at U
   have eu:f.length - (i+1)=f.length - 1 - i:=by omega
   have lp:t.pre.length<=400:=by rw[Tm.pre_len];omega
   have q5:∀(m:List V) (W:List Tm) (j:Hp) (u:V),Same H j->KeepT K H2 j->j r=some (.lst f)->j l=some (.lst m)->Paired (fun u s=>R j l s u) m W.reverse->m.length<=i->W.flatMap Tm.pre=rest->R j l Y u ->
     Same H (upd j l (HO.lst (m++[u])))/\KeepT K H2 (upd j l (HO.lst (m++[u])))/\upd j l (HO.lst (m++[u])) r=some (HO.lst f) /\
      ∃x,upd j l (HO.lst (m++[u])) l=some (HO.lst x)/\∃x_1,Paired (fun u' s=>R (upd j l (HO.lst (m++[u]))) l s u') x x_1.reverse/\List.flatMap Tm.pre x_1=zdm (f.length - (i+1)) t.pre/\x.length<=i+1:=fun m W j u a1 a2 a3 a4 a5 a6 a7 a8=>by
    refine⟨a1.write f1,a2.trans (Ze0 a4),by rw[Zb3 q7];exact a3,_,Za1,Y::W,?_,?_,?_⟩
    ·rw[zai];exact Zc4 (q8 a5) (.cons (q9 a8) .nil)
    ·rw[ycf,a7,eu,g2]
    ·rw[zf,zd];omega
   have q2:∀{I:Hp} {a:Addr},Same d I->I a=some (.lst (bls (tv Y)))->(AD a∨d a=none)->R I l Y (.ref a):=fun {I a} c Z L=>by
    refine⟨a,rfl,?_,Z,L.imp id fun z=>e.free z⟩;intro z;rcases L with L | L
    ·exact hA a L (by rw[z];exact f1)
    ·rw[z,g] at L;cases L
   walk_at "1"
   cases Y with
   |low =>
    obtain⟨a,rfl,hs⟩:=isT_low.mp n;refine⟨a,rfl,_,hs,_,rfl,_,.inr (t_PAIRED d),rfl,rfl,?_⟩;rw[if_neg (by decide)];refine⟨.inl ⟨rfl,_,SqL.of g⟩,_,.low,rfl,e,n,rfl,hG _ (yc q3) rfl,fun u I c Z ru=>?_⟩;exact⟨_,c _ _ g,small1M (by omega),q5 T fs I (.ref u) (e.trans c) (kk.trans c.keepT) (c _ _ q0) (c _ _ g) (q4 c B) hn U (q2 c Z ru)⟩
   |ltr w =>
    obtain⟨a,rfl,hs⟩:=isT_ltr.mp n;refine⟨a,rfl,_,hs,_,rfl,_,.inr (t_PAIRED d),rfl,rfl,?_⟩;rw[if_neg (by decide)];refine⟨.inl ⟨rfl,_,SqL.of g⟩,_,.ltr w,rfl,e,n,rfl,hG _ (yc q3) rfl,fun u I c Z ru=>?_⟩;exact⟨_,c _ _ g,small1M (by omega),q5 T fs I (.ref u) (e.trans c) (kk.trans c.keepT) (c _ _ q0) (c _ _ g) (q4 c B) hn U (q2 c Z ru)⟩
   |nd kd a b =>
    obtain⟨p,vx,vy,rfl,hs,z3,z2⟩:=isT_nd.mp n;refine⟨p,rfl,_,hs,_,rfl,_,.inr (t_PAIRED d),rfl,rfl,?_⟩;rw[if_pos (by cases kd<;>decide)];rw[show Tm.kids (.nd kd a b)=[a,b] from rfl,ycf,ycf,List.flatMap_nil,yaa,zao] at U;obtain⟨z4,rfl,j5⟩:=Zr7 U;obtain⟨j8,rfl,j4⟩:=Zr7 j5;rw[zai,zai] at B;obtain⟨z1,u1,rfl,j3,r1⟩:=Zj9 B;obtain⟨q1,u2,rfl,j2,r2⟩:=Zj9 j3;rw[zf,zf,zd,zd] at hn;obtain⟨b1,rfl,n1,w1,o1⟩:=r1;obtain⟨b2,rfl,n2,w2,o2⟩:=r2;refine⟨.inl ⟨rfl,_,SqL.of g⟩,_,g,.ref b1,by simp,?_⟩;rw[zck];refine⟨.inl ⟨rfl,_,SqL.of Za1⟩,_,Za1,.ref b2,by simp,?_⟩;rw[zck,Xc1];have k1:KeepT K d (upd d l (.lst q1)):=Ze0 g
    have j1:upd d l (.lst q1) r=some (.lst f):=by rw[Zb3 q7];exact q0
    refine⟨.inl ⟨rfl,_,SqL.of Za1⟩,p,rfl,_,k1 _ _ hs,_,rfl,kd,a,b,b1,b2,rfl,e.write f1,by rw[Zb3 n1];exact w1,by rw[Zb3 n2];exact w2,fun u I c f3 Z=>?_⟩
    have q6:u≠l:=fun z=>by rw[z,Za1] at f3;cases f3
    rw[Zb3 q6] at f3;exact⟨_,c _ _ Za1,small1M (by omega),q5 q1 j8 I (.ref u) ((e.write f1).trans c) ((kk.trans k1).trans c.keepT) (c _ _ j1) (c _ _ Za1) (q4 c (q8 j2)) (by omega) j4 ⟨u,rfl,q6,Z,.inr (e.free f3)⟩⟩
  ·obtain⟨S,O,N,T,fs,rfl,e,kk,q0,g,B,U,hn⟩:=hI
   rw[Nat.sub_self,List.drop_zero,<- yaa t.pre] at U;obtain⟨W,rfl,j6⟩:=Zr7 U;rw[Xa4 j6] at B
   cases B with
   |cons hu' hnil =>
    cases hnil;exact hC _ _ ⟨S,O,N,_,rfl,e,g,hu'⟩
 rintro z0 H2 ⟨S,O,N,u,rfl,M,h2,a,rfl,_,L,ru⟩;walk_at "1";exact⟨_,SqL.of h2,.ref a,rfl,q _ _ M L ru⟩
theorem Wf4:FnScope ["statement"] ["statement"] (Za6 (top 10)):=scm (by decide +kernel)
theorem Wk0 {k:Nat}(F_bz0:Df K mg "letters" (top 10) pq30)(C_pieces:Cl P w K mg base k "pieces" pq30 (sp_pieces K))(m_sorted:mg "sorted"=none):Cl P w K mg base (k+1) "letters" pq30 (sp_letters K):=by
 refine F_bz0.okG Wf4 fun fx q0 A V s H vs Q E Z h Gx S=>?_;obtain⟨v,t,ws,rfl,hT,hp,hW,o,q⟩:=h;refine S _ ⟨_,(Za7 (Zb2 (Zc1 (Ym9 (P:=P) (w:=w) rfl rfl rfl) (by exact rfl) m_sorted Zr8 (Za0 (Wt0 (P:=P) (w:=w) rfl rfl (blk0 (N':=["piece"]) (by decide +kernel) (by decide +kernel) rfl (by decide +kernel)) rfl (Ze4 (Zb8 C_pieces Z (Za0 (pvM 0) Za3))) (fun _ _ _ _=>(pgn 0 (ndS ["piece"]))) (fun _ _=>Xy2) (fun _ _ _ _ _=>(Zh3 (ptcM (Zd1) (Zn4 (Zk3 (K:=K) rfl) (pvM 0) Za5 (fun _ _=>rfl)) Zb6) (Xr0 (P:=P) (w:=w) rfl rfl (Zn4 (Zk3 (K:=K) rfl) (pvM 0) Za5 (fun _ _=>rfl)))))) Za3)))),?_⟩;walk_at "1";refine⟨_,t,rfl,hT,by omega,fun r H1 I U f1 T L=>⟨r,rfl,⟨_,SqL.of T⟩,fun C j=>?_⟩⟩;have Y:=zc L
 have g:∀i x,x∈(t.pre.take i).flatMap Tm.here->x∈ws:=fun i x c=>Zy5 hW x (by
  rw[<- Zs9,<- zbp i t.pre,ybz]
  exact zas _ c)
 refine Zu0 (xs:=I) (fun i n=>Same H1 n/\∃xs,n C=some (setO P w C xs)/\xs.Nodup/\∀x,x∈xs↔x∈(t.pre.take i).flatMap Tm.here) ⟨Za2 j _,[],Za1,ydj,fun x=>by simp⟩ (fun i n _ ⟨e,_⟩=>SqL.of (e _ _ T)) (fun i u n N c ⟨e,xs,d,nd,hm⟩ hN=>?_) (fun n ⟨e,xs,d,nd,hm⟩=>?_)
 ·obtain⟨D,O,J⟩:=paired_get L c
  have m:=J.keep e.keepT;have X:xs.length<=60:=zi (Zp7 nd fun x c=>g i x ((hm x).mp c)) o
  have G:(t.pre.take (i+1)).flatMap Tm.here=(t.pre.take i).flatMap Tm.here++D.here:=by
   rw[List.take_add_one,O,ybz];show _++(D.here++[])=_;rw[yaa]
  walk_at "1"
  cases D with
  |low =>
   obtain⟨a,rfl,f⟩:=isT_low.mp m;refine⟨Zz5,a,rfl,_,f,_,rfl,rfl,?_⟩;rw[if_neg (by decide)];exact hN _ ⟨e,xs,d,nd,fun x=>by rw[G];show _↔x∈_++[];rw[yaa];exact hm x⟩
  |ltr y =>
   obtain⟨a,rfl,f⟩:=isT_ltr.mp m;refine⟨Zz5,a,rfl,_,f,_,rfl,rfl,?_⟩;rw[if_pos (by decide)];refine⟨a,rfl,_,f,_,rfl,y,rfl,xs,d,by omega,hN _ ⟨e.write j,_,Za1,?_,fun x=>?_⟩⟩
   ·by_cases hy:y∈xs
    ·rw[if_pos hy];exact nd
    ·rw[if_neg hy,List.nodup_append]
     exact⟨nd,by simp,fun a d b hb=>by rw[zb.mp hb];exact fun z=>hy (z▸d)⟩
   ·rw[G]
    show _↔x∈_++[y];rw[yd,<- hm x,zb]
    by_cases hy:y∈xs
    ·rw[if_pos hy]
     exact⟨.inl,fun z=>z.elim id fun z=>by rw[z];exact hy⟩
    ·rw[if_neg hy,yd,zb]
  |nd kd a b =>
   obtain⟨p,va,vb,rfl,f,_⟩:=isT_nd.mp m;refine⟨Zz5,p,rfl,_,f,_,rfl,rfl,?_⟩;rw[if_neg (by cases kd<;>decide)];exact hN _ ⟨e,xs,d,nd,fun x=>by rw[G];show _↔x∈_++[];rw[yaa];exact hm x⟩
 ·have F:(t.pre.take I.length).flatMap Tm.here=t.ltrs:=by rw[Y,zaa,Zs9]
  have X:xs.length<=60:=zi (Zp7 nd fun x c=>g _ x ((hm x).mp c)) o;refine⟨xs,d,by omega,fun l W R B M=>q l _ W ((U.trans e).trans (Za2 R _)) ((U.trans e).free R) Za1 (B.nodup_iff.mpr nd) M fun x=>?_⟩;rw[B.mem_iff,hm x,F]
theorem sc_bx0:FnScope ["worlds","statement","truths","of_simple","of_pair"] ["worlds","statement"] (Za6 (top 46)):=scm (by decide +kernel)
noncomputable abbrev Zc3:Stmt:=Wq1 (top 46) 1
theorem Zs6:FnScopeC ["piece","truths","worlds"] ["piece"] ["truths","worlds"] (Za6 Zc3):=⟨rfl,rfl,rfl,by decide +kernel,rfl,by decide +kernel,by decide +kernel,by decide +kernel⟩
noncomputable abbrev Zg8:Str:=("known":Str)++zh ".<locals>."++"of_simple"
theorem Zu4:∀y∈(Za6 Zc3).names,y.2=zap->(Za6 (top 46)).names.lookup y.1=some zby:=by decide +kernel
noncomputable abbrev Zc8:Stmt:=Wq1 (top 46) 2
theorem Zx3:FnScopeC ["kind","first","second","worlds"] ["kind","first","second"] ["worlds"] (Za6 Zc8):=⟨rfl,rfl,rfl,by decide +kernel,rfl,by decide +kernel,by decide +kernel,by decide +kernel⟩
noncomputable abbrev Zh9:Str:=("known":Str)++zh ".<locals>."++"of_pair"
theorem Zx5:∀y∈(Za6 Zc8).names,y.2=zap->(Za6 (top 46)).names.lookup y.1=some zby:=by decide +kernel
noncomputable def Zg1:List (Pos×Str):=[(posOf Zc3,Zg8),(posOf Zc8,Zh9)]
def InL (ls:List Str):Tm->Prop
 | .ltr x=>x∈ls
 | _=>True
theorem Zt3 (F:FunC K "of_simple" Zg8 Zc3 cl f fd){kvs:List (Key×V)}{ad:Str->Addr}{ls:List Str}(C:Caught K (Za6 Zc3) cl ["truths","worlds"] [.ref d,.ref wa])(hw0:H0 wa=some (.lst xs))(lx:xs.length=ws.length)(lw:ws.length<=2000)(hd0:H0 d=some (.dK kvs))(hk:∀x∈ls,valV kvs (zay x)=some (.ref (ad x))/\H0 (ad x)=some (.lst (bls (tr ws (.ltr x)))))(m_len:mg "len"=none):
  Fk0 P w K mg base (k+1) f fd ["piece"] (sp_of1L K H0 (fun a=>∃x∈ls,a=ad x) (InL ls) (tr ws)):=by
 refine F.ok Zs6 C (fun u H Q E h=>?_) (fun G A r s H u Q E B h=>?_)
 ·obtain⟨v,t,rfl,_⟩:=h
  rfl
 obtain⟨v,t,rfl,e,n,m,D,q⟩:=h;refine⟨_,(Za7 (Zb2 (Zj4 (ptcM (Zd1) (pxtM (pvM 0) Za5) Zb6) (Xg6 (Xl2 B) (pvM 1) (pxtM (pvM 0) Za5) (fun _ _=>rfl)) (Zb0 Xh2 (Zb7 (Za0 Zo2 Za3)) (Zc1 Zb5 (by exact rfl) m_len Zc9 (Za0 (pvM 2) Za3)))))),?_⟩;walk_at "1"
 cases t with
 |low =>
  obtain⟨a,rfl,c⟩:=isT_low.mp n;refine⟨a,rfl,_,c,_,rfl,rfl,?_⟩;rw[if_neg (by decide)];refine⟨by decide,fun p l=>⟨xs,.inl (SqL.of ((Za2 l _) _ _ (e _ _ hw0))),_,Za1,by omega,by omega,?_,fun I i=>?_⟩⟩
  ·show 1*(xs.length:Int).toNat<=zp
   exact zk (small1M (by omega))
  have o:=Za2 l (HO.lst [V.bl false]);refine q _ _ (o.trans (Za2 i _)) ?_ (.inr (o.free i));rw[Za1,List.flatten_replicate_singleton,show (xs.length:Int).toNat=ws.length by omega];show _=some (HO.lst ((ws.map fun _=>false).map V.bl));rw[List.map_const',List.map_replicate]
 |ltr y =>
  obtain⟨a,rfl,c⟩:=isT_ltr.mp n;have j:y∈ls:=D;refine⟨a,rfl,_,c,_,rfl,rfl,?_⟩;rw[if_pos rfl];have g:=DGet.k (k:=zay y) (e _ _ hd0);rw[(hk y j).1] at g;exact⟨a,rfl,_,c,_,rfl,_,g,q _ _ (fun _ _ z=>z) (e _ _ (hk y j).2) (.inl ⟨y,j,rfl⟩)⟩
 |nd kd a b=>cases m
theorem Zx4 (F:FunC K "of_pair" Zh9 Zc8 cl f fd)(C:Caught K (Za6 Zc8) cl ["worlds"] [.ref wa])(hw0:H0 wa=some (.lst xs))(hW:AtWs K H0 xs ws)(hg:Zq4 ws)(lw:ws.length<=2000)(C_where_then:Cl P w K mg base k "where_then" pq34 (sp_whereT K))(m_zip:mg "zip"=none):
  Fk0 P w K mg base (k+1) f fd ["kind","first","second"] (sp_of2L H0 (tr ws)):=by
 refine F.ok Zx3 C (fun t H Q E h=>?_) (fun N A p s H t Q E G h=>?_)
 ·obtain⟨_,_,_,_,_,rfl,_⟩:=h
  rfl
 obtain⟨D,a,b,x,y,rfl,e,g,d,q⟩:=h;have B:=Zf5 ws a;have z:=Zf5 ws b
 refine⟨_,(Za4 (Zc7 (ptcM (Zd1) (pvM 0) Zb6)
  (Za7 (Zb2 (Yc9 (blk0 (N':=["one","other"]) (by decide +kernel) (by decide +kernel) rfl (by decide +kernel)) rfl (Yd5 rfl m_zip (Za0 (pvM 1) (Za0 (pvM 2) Za3))) (fun _ _ _ _=>(Zo0 (K:=K) (n:=2) rfl rfl (Zb9 (pgn 0 (ndS ["one","other"])) (Zb9 (pgn 1 (ndS ["one","other"])) Zf9)) rfl rfl)) (fun _ _ _ _=>(Yk5 (pvM 0) (Zw1 (pvM 1)))))))
  Zb4)
 (Za4 (Zc7 (ptcM (Zd1) (pvM 0) Zb6)
  (Za7 (Zb2 (Yc9 (blk0 (N':=["one","other"]) (by decide +kernel) (by decide +kernel) rfl (by decide +kernel)) rfl (Yd5 rfl m_zip (Za0 (pvM 1) (Za0 (pvM 2) Za3))) (fun _ _ _ _=>(Zo0 (K:=K) (n:=2) rfl rfl (Zb9 (pgn 0 (ndS ["one","other"])) (Zb9 (pgn 1 (ndS ["one","other"])) Zf9)) rfl rfl)) (fun _ _ _ _=>(Wa1 (pvM 0) (Zw1 (pvM 1)))))))
  Zb4)
 (Za7 (Zb2 (Zb8 C_where_then G (Za0 (pvM 3) (Za0 (pvM 1) (Za0 (pvM 2) Za3)))))))),?_⟩
 walk_at "1"
 cases D with
 |both =>
  rw[if_pos (by decide)];walk_at "2";refine⟨⟨_,SqL.of g⟩,⟨_,SqL.of d⟩,fun o c=>?_⟩;refine Yh4 and (by omega) (by omega) (SqL.of g) (SqL.of d) c (fun u v T m M l j=>?_) (fun m e h=>q _ _ e c h);refine⟨T,_,rfl,l,rfl,?_⟩;walk_at "1";refine⟨Wk.trans (Ze2 (i:=0) rfl) (Ze2 (i:=1) rfl),?_⟩
  cases u<;>exact j
 |one =>
  rw[if_neg (by decide),if_pos (by decide)];walk_at "2";refine⟨⟨_,SqL.of g⟩,⟨_,SqL.of d⟩,fun o c=>?_⟩;refine Yh4 or (by omega) (by omega) (SqL.of g) (SqL.of d) c (fun u v T m M l j=>?_) (fun m e h=>q _ _ e c h);refine⟨T,_,rfl,l,rfl,?_⟩;walk_at "1";refine⟨Wk.trans (Ze2 (i:=0) rfl) (Ze2 (i:=1) rfl),?_⟩
  cases u<;>exact j
 |thn =>
  rw[if_neg (by decide),if_neg (by decide)];exact⟨wa,x,y,xs,ws,_,_,rfl,e _ _ hw0,hW.keep e,hg,lw,g,d,B,z,fun r O L J I=>q _ _ L J I⟩
theorem Yg0 {xs:List (Addr×Obj)}(hx:∀p∈xs,H p.1=some (FZ p.2)){u:HO}(e:H b=some u)(n:∀o,u≠FZ o):remX xs H b=some u:=by
 rw[Ze7 fun z=>?_]
 ·exact e
 ·obtain⟨p,a,rfl⟩:=zah.mp z
  rw[hx p a] at e;cases e;exact n p.2 rfl
theorem AtWs.moveT (k:∀a xs,SqT K H a xs->SqT K' H' a xs)(kl:∀a xs,H a=some (.lst xs)->H' a=some (.lst xs))(h:AtWs K H vs ws):AtWs K' H' vs ws:=Paired.mapP h fun _ _ zZ=>(by obtain⟨p,q,e,h1,h2⟩:=zZ;exact ⟨p,q,e,k _ _ h1,kl _ _ h2⟩)
theorem Wk2 {j:Nat}{T:Addr}(F_bx0:FunT K "known" "known" (top 46) f_bx0 fd_bx0 T)(hB:∀h,K.In h->h.BuiltinsAt mg T)(hT:zn≠T)
  (m_bt0:MgI mg "folded" f_bt0)(k_bt0:KpI K f_bt0)(b_bt0:Binds K fd_bt0 pq29 [])
  (C_letters:Cl P w K mg base (j+2) "letters" pq30 (sp_letters K))
  (C_where_letters:Cl P w K mg base (j+2) "where_letters" ["worlds","words"] (sp_whereL K))
  (m_cj0:MgI mg "where_then" f_cj0)(k_cj0:KpI K f_cj0)(b_cj0:Binds K fd_cj0 pq34 [])
  (GW:∀(K':W.Frag) (base:Heap),KLe K K'->FnOk P w K' mg base CX0 j f_cj0 fd_cj0 pq34 (sp_whereT K'))
  (KW:∀(K':W.Frag),KLe K K'->ybd K' (.ref f_cj0)=true/\Binds K' fd_cj0 pq34 [])
  (GF:∀(K':W.Frag) (base:Heap) (H0:Hp) (AD:Addr->Prop) (G:Tm->Prop) (tv:Tm->List Bool) (f1 f2:Addr) (fd1 fd2:yq),KLe K K'->(∀a,AD a->H0 a≠none) ->
   FnOk P w K' mg base CX0 (j+1) f1 fd1 ["piece"] (sp_of1L K' H0 AD G tv)->ybd K' (.ref f1)=true->Binds K' fd1 ["piece"] [] ->
   FnOk P w K' mg base CX0 (j+1) f2 fd2 ["kind","first","second"] (sp_of2L H0 tv)->ybd K' (.ref f2)=true->Binds K' fd2 ["kind","first","second"] [] ->
   FnOk P w K' mg base CX0 (j+2) f_bt0 fd_bt0 pq29 (sp_foldedL K' H0 AD G tv f1 f2)) (m_len:mg "len"=none) (m_zip:mg "zip"=none) :
  Fk0 P w K mg base (j+3) f_bx0 fd_bx0 ["worlds","statement"] (sp_known K T Zg1):=by
 refine F_bx0.ok sc_bx0 (fun vs H Q E h=>?_) (fun c A q8 s H vs Q E hC hr h=>?_)
 ·obtain⟨M,v,t,xs,ws,us,rfl,_⟩:=h
  rfl
 obtain⟨M,v,t,xs,ws,us,rfl,q4,hW,hg,lw,j4,z6,m,hU,lU,j9,q⟩:=h;have lx:xs.length=ws.length:=zc hW
 have z2:∀i∈([0,2]:List Nat),∃x,(["worlds","statement","truths","of_simple","of_pair"]:List Str)[i]?=some x/\(Za6 (top 46)).names.lookup x=some .cell/\(fun _:Str=>true) x=true:=by
  intro i hi;simp only[yk,ybe,or_false] at hi;rcases hi with rfl | rfl
  ·exact⟨"worlds",rfl,rfl,rfl⟩
  ·exact⟨"truths",rfl,rfl,rfl⟩
 refine⟨_,(Za4 (Zf7 (i:=2) sc_bx0.nd rfl (Or.inr rfl) (Zb8 C_where_letters hr (Za0 (pvM 0) (Za0 (Zb8 C_letters hr (Za0 (pvM 1) Za3)) Za3))))
 (Za4 (Xf8 (st:=Zc3) (i:=3) (qual:=Zg8) (ds:=Zg1) rfl sc_bx0.nd rfl (Or.inl rfl) (Zn0 (fun y hy hf=>Zz1 (Zu4 y hy hf))) rfl hC hB hT rfl (by simp[Zg1]) (by decide +kernel) rfl rfl rfl)
 (Za4 (Xf8 (st:=Zc8) (i:=4) (qual:=Zh9) (ds:=Zg1) rfl sc_bx0.nd rfl (Or.inl rfl) (Zn0 (fun y hy hf=>Zz1 (Zx5 y hy hf))) rfl hC hB hT rfl (by simp[Zg1]) (by decide +kernel) rfl rfl rfl)
 (Za7 (Zb2 (Xr8 (ix:=[0,2]) hr (by exact rfl) m_bt0 k_bt0 b_bt0 z2 (Za0 (pvM 1) (Za0 (pvM 3) (Za0 (pvM 4) Za3))))))))),?_⟩
 generalize hX:(cxOf CX0 P w K mg base ["worlds","statement","truths","of_simple","of_pair"] "known" (Za6 (top 46)) f_bx0 (.ref c) A q8 s H E).nox=X
 have eP:X.prog=P:=by rw[<- hX];rfl
 have ew:X.w=w:=by rw[<- hX];rfl
 have eK:X.K=K:=by rw[<- hX];rfl
 have em:X.mg=mg:=by rw[<- hX];rfl
 have eN:X.N=(["worlds","statement","truths","of_simple","of_pair"]:List Str):=by rw[<- hX];rfl
 have ec:(PyProof.Rows.envOfC "known" (Za6 (top 46)) s.heap.objs.size f_bx0 (.ref c)).cells=X.env.cells:=by rw[<- hX];rfl
 refine sqk (fun C=>∀l (d:Addr) (F:List (Key×V)) (Z:Str->Addr) (O:List Str),Same H l->H d=none->l d=some (.dK F)->(∀x,x∈O↔x∈t.ltrs)->(∀x∈O,valV F (zay x)=some (.ref (Z x))/\H (Z x)=none/\l (Z x)=some (.lst (bls (tr ws (.ltr x)))))->C [some (.ref M),some v,some (.ref d),none,none] l) (fun C U=>?_) fun H0 d F Z O e0 z7 z3 hm R=>?_
 ·walk_at "1"
  refine⟨v,t,us,rfl,j4,m,hU,lU,fun la H1 O g f1 h1 j2 _ hm=>⟨M,la,xs,ws,O,rfl,g _ _ q4,hW.keep g,lw,SqL.of h1,j2,?_,fun d L F Z o f2 h2 R=>U _ d F Z O (g.trans o) (g.free f2) h2 hm (fun x B=>⟨(R x B).1,g.free (R x B).2.1,(R x B).2.2⟩)⟩⟩;exact zi (Zp7 j2 fun x B=>Zy5 hU x ((hm x).mp B)) (by omega)
 have j6:TabOk H0 T Zg1:=j9.keep e0;refine sqk (fun C=>∀l f1,SameU T H0 l->TabOk l T Zg1->FnFz l f1 "of_simple" Zg8 (Zd8 Zc3) (Zc6 Zc3) (Za6 Zc3) (Zn1 X.env.cells (Za6 Zc3).names [])->C [some (.ref M),some v,some (.ref d),some (.ref f1),none] l) (fun C U=>?_) fun H1 f1 s1 j8 q7=>?_
 ·exact⟨j6,fun f l n sm tb fn=>U _ f sm tb (ec▸fn)⟩
 refine sqk (fun C=>∀l f2,SameU T H1 l->TabOk l T Zg1->FnFz l f2 "of_pair" Zh9 (Zd8 Zc8) (Zc6 Zc8) (Za6 Zc8) (Zn1 X.env.cells (Za6 Zc8).names [])->C [some (.ref M),some v,some (.ref d),some (.ref f1),some (.ref f2)] l) (fun C U=>?_) fun L f2 s2 j7 z5=>?_
 ·exact⟨j8,fun f l n sm tb fn=>U _ f sm tb (ec▸fn)⟩
 have q7:=q7.keep s2.toT;have Y:=s1.trans s2;obtain⟨o1,c1,p1,a1,a2,a3,a4,a5⟩:=q7.objs;obtain⟨o2,c2,p2,b1,b2,b3,b4,b5⟩:=z5.objs;show Xd4 X _ _ _ _ [0,2] _ _ _ _;unfold Xd4;walk_at "1";refine⟨fun i hi=>?_,[(f1,o1),(c1,p1),(f2,o2),(c2,p2)],?_,fun K' cs ok I q0 q1 z4=>?_⟩
 ·simp only[yk,ybe,or_false] at hi
  rcases hi with rfl | rfl
  ·exact⟨_,rfl⟩
  ·exact⟨_,rfl⟩
 ·intro p m
  simp only[yk,ybe,or_false] at m;rcases m with rfl | rfl | rfl | rfl
  ·exact a1
  ·exact a2
  ·exact b1
  ·exact b2
 have S:∀p∈[(f1,o1),(c1,p1),(f2,o2),(c2,p2)],L p.1=some (FZ p.2):=by
  intro p m;simp only[yk,ybe,or_false] at m;rcases m with rfl | rfl | rfl | rfl
  ·exact a1
  ·exact a2
  ·exact b1
  ·exact b2
 generalize z0:[(f1,o1),(c1,p1),(f2,o2),(c2,p2)]=zs at q1 S q0 ⊢
 have J:(f1,o1)∈zs/\(c1,p1)∈zs/\(f2,o2)∈zs/\(c2,p2)∈zs:=by rw[<- z0];simp
 have lk:∀{p:Addr×Obj},p∈zs->K'.lookup p.1=some p.2:=fun m=>q1 _ (zas _ m);obtain⟨fd1,G1⟩:=a5 K' (lk J.1) (lk J.2.1);obtain⟨fd2,G2⟩:=b5 K' (lk J.2.2.1) (lk J.2.2.2);rw[eK] at I q0
 have cw:Xo7 X K' "worlds" (.ref M)/\Xo7 X K' "truths" (.ref d)/\∀p∈cs,∀j1 n,p.2.data≠.seq j1 n:=by
  cases z4 with
  |cons h1 r1 =>
   cases r1 with
   |cons h2 r2 =>
    cases r2;obtain⟨x1,v1,u1,g,o,e3,e4,e5⟩:=h1;obtain⟨x2,v2,u2,g1,g2,g3,g4,g5⟩:=h2;rw[eN] at g g1;cases g;cases o;cases g1;cases g2;refine⟨⟨_,_,u1,e3,q1 _ (yw _ (by simp)),e4,e5⟩,⟨_,_,u2,g3,q1 _ (yw _ (by simp)),g4,g5⟩,fun p m j1 n z=>?_⟩;simp only[yk,ybe,or_false] at m;rcases m with rfl | rfl
    ·rw[e4] at z;cases z
    ·rw[g4] at z;cases z
 have C1:Caught K' (Za6 Zc3) (Zn1 X.env.cells (Za6 Zc3).names []) ["truths","worlds"] [.ref d,.ref M] :=
  Ym8 ok rfl (by decide +kernel) (by decide +kernel) fun i y u g o=>by
   match i,g,o with
   | 0,g,o=>cases g;cases o;exact cw.2.1
   | 1,g,o=>cases g;cases o;exact cw.1
 have C2:Caught K' (Za6 Zc8) (Zn1 X.env.cells (Za6 Zc8).names []) ["worlds"] [.ref M] :=
  Ym8 ok rfl (by decide +kernel) (by decide +kernel) fun i y u g o=>by
   match i,g,o with
   | 0,g,o=>cases g;cases o;exact cw.1
 have q3:=Wf0 S I;have kl:∀a D,H a=some (.lst D)->remX zs L a=some (.lst D):=fun a D h=>Yg0 S (Y.toT _ _ (fun _ z=>nomatch z) (e0 _ _ h)) (fun _ z=>nomatch z);have q2:∀a D,H0 a=some (.lst D)->remX zs L a=some (.lst D):=fun a D h=>Yg0 S (Y.toT _ _ (fun _ z=>nomatch z) h) (fun _ z=>nomatch z);have j0:remX zs L d=some (.dK F):=Yg0 S (Y.toT _ _ (fun _ z=>nomatch z) z3) (fun _ z=>nomatch z);have j3:AtWs K' (remX zs L) xs ws:=AtWs.moveT (fun a D h=>q3 a D (SameT.keepT Y.toT a D (e0.keepT a D h))) kl hW;have q6:IsT K' (remX zs L) v t:=Dn.moveT q3 t.noList (j4.keep (KeepT.trans e0.keepT (SameT.keepT Y.toT)));generalize j5:remX zs L=Hr at q3 kl q2 j0 j3 q6 ⊢;refine⟨sp_foldedL K' Hr (fun a=>∃x∈O,a=Z x) (InL O) (tr ws) f1 f2,fun q9=>?_,?_⟩
 ·rw[eP,ew,em]
  refine GF K' q9 Hr _ _ _ f1 f2 fd1 fd2 I (fun a ⟨x,B,e⟩ z=>?_) (Zt3 G1 C1 (kl _ _ q4) lx lw j0 (fun x B=>⟨(R x B).1,q2 _ _ (R x B).2.2⟩) m_len) G1.kp (G1.binds fun _ _ _ _ us hl=>Ken.len1 hl fun _=>rfl)
   (Zx4 G2 C2 (kl _ _ q4) j3 hg lw (.of (GW K' _ I) m_cj0 (KW K' I).1 (KW K' I).2) m_zip) G2.kp (G2.binds fun _ _ _ _ us hl=>Ken.len3 hl fun _ _ _=>rfl)
  rw[e,q2 _ _ (R x B).2.2] at z;cases z
 ·refine⟨v,t,rfl,rfl,q6,fun s hs z1=>?_,by omega,fun r H3 e3 q5 ha n3=>?_⟩
  ·cases s with
   |low=>trivial
   |ltr x=>exact (hm x).mpr (by rw[<- Zs9];exact List.mem_flatMap.mpr ⟨_,hs,by simp[Tm.here]⟩)
   |nd k a b=>cases z1
  have sb:=Xe8 (H:=L) (xs:=zs) (j5▸e3)
  have nz:r ∉ zs.map (·.1):=fun z=>by
   obtain⟨p,m,e⟩:=zah.mp z;rw[<- e,n3 p m] at q5;cases q5
  have nr:H r=none:=by
   rcases ha with ⟨x,B,rfl⟩ | ha
   ·exact (R x B).2.1
   ·rw[<- j5,Ze7 nz] at ha
    exact e0.free (Y.free ha)
  refine q _ _ ((SameU.trans e0.toU Y).trans sb.toU) (j7.keep sb) nr ?_;rw[Zi2 nz];exact q5
theorem sc_ax0:FnScope ["_law_worlds_here","_law_statement_here","_law_found_here","_law_one"] ["_law_worlds_here","_law_statement_here"] (Za6 (top 66)):=scm (by decide +kernel)
abbrev nn1:List Str:=["_law_worlds_here","_law_line","_law_due","_law_all_known","_law_wish_here","_law_found_here"]
theorem sc_ap0:FnScope nn1 ["_law_worlds_here","_law_line"] (Za6 (top 67)):=scm (by decide +kernel)
inductive sp_ltold (K:W.Frag)(T:Addr)(ds:List (Pos×Str)):Sp
 |mk {vs H Q E:_} (wa:Addr) (v:V) (t:Tm) (xs:List V) (ws:List Wd):vs=[.ref wa,v]->H wa=some (.lst xs)->AtWs K H xs ws->Zq4 ws->ws.length<=20->IsT K H v t->t.ok->t.parts<=100->TabOk H T ds->(∀(r:Addr) (H':Hp),SameU T H H'->TabOk H' T ds->H r=none->H' r=some (.lst (bls (tr ws t)))->Q (.ref r) H')->sp_ltold K T ds vs H Q E
inductive sp_lholds (K:W.Frag)(T:Addr)(ds:List (Pos×Str)):Sp
 |mk {vs H Q E:_} (wa:Addr) (v:V) (l:Ln) (xs:List V) (ws:List Wd):vs=[.ref wa,v]->H wa=some (.lst xs)->AtWs K H xs ws->Zq4 ws->1<=ws.length->ws.length<=20->IsLn K H v l->OkLn l->Xo5 ws l->TabOk H T ds->(∀(H':Hp),SameU T H H'->TabOk H' T ds->Q (.bl true) H')->sp_lholds K T ds vs H Q E
theorem Yh1:∀t:Tm,2*t.ltrs.length<=t.parts+1
 | .low=>by decide
 | .ltr _=>by show 2*1<=1+1;decide
 | .nd _ a b=>by
  show 2*(a.ltrs++b.ltrs).length<=1+a.parts+b.parts+1;rw[zf];have:=Yh1 a;have:=Yh1 b;omega
theorem Yh9:∀{t:Tm} {ws:List Str},(∀x∈t.ltrs,x∈ws)->t.inW ws
 | .low,_,_=>trivial
 | .ltr x,_,h=>h x (.head _)
 | .nd _ a b,_,h=>⟨Yh9 fun x hx=>h x (zas _ hx),Yh9 fun x hx=>h x (yw _ hx)⟩
theorem Wm7 {k:Nat}{T:Addr}{ds:List (Pos×Str)}(F_ax0:Df K mg "_law_told" (top 66) pq18)(C_known:Cl P w K mg base k "known" ["worlds","statement"] (sp_known K T ds))(m_isinstance:mg "isinstance"=none)(m_list:mg "list"=none)(m_len:mg "len"=none)(m_bool:mg "bool"=none):Cl P w K mg base (k+1) "_law_told" pq18 (sp_ltold K T ds):=by
 refine F_ax0.okG sc_ax0 fun fx q2 A q0 s H vs Q E hr h Gx Z=>?_;obtain⟨F,v,t,xs,j,rfl,N,Y,hg,G,hT,ho,X,S,q⟩:=h;have U:xs.length=j.length:=zc Y
 refine Z _ ⟨_,(Za4 (pst 2 sc_ax0.nd (Zb8 C_known hr (Za0 (Yc9 (blk0 (N':=["_law_before","_law_told_here"]) (by decide +kernel) (by decide +kernel) rfl (by decide +kernel)) rfl (Ze4 (pvM 0)) (fun _ _ _ _=>(Zo0 (K:=K) (n:=2) rfl rfl (Zb9 (pgn 0 (ndS ["_law_before","_law_told_here"])) (Zb9 (pgn 1 (ndS ["_law_before","_law_told_here"])) Zf9)) rfl rfl)) (fun _ _ _ _=>(Zc0 (Za0 (pvM 0) (Za0 (Zg4 (Zn3 (K:=K) rfl) (by exact rfl) m_list Zf8 (Za0 (pvM 1) Za3)) Za3))))) (Za0 (pvM 1) Za3))))
 (Za4 (Zc7 ((Yp7 (Zj7 (Zj2 (Zc1 Yw8 (by exact rfl) m_isinstance Zo7 (Za0 (pvM 2) (Za0 (Xg8 (v:=.ty "list") (by exact rfl) m_list Zf8 (by exact rfl)) Za3))))) (Ya8 (ptcM (Yd0) (Zc1 Zb5 (by exact rfl) m_len Zc9 (Za0 (pvM 2) Za3)) (Zc1 Zb5 (by exact rfl) m_len Zc9 (Za0 (pvM 0) Za3)))))).pt
  (Za7 (Zb2 Ze3))
  Zb4)
 (Za4 (Zj3 zae rfl (Ze4 (pvM 2)) (pgn 3 sc_ax0.nd)
  (Za7 (Zc7 (Zj7 (Zj2 (Zc1 Yw8 (by exact rfl) m_isinstance Zo7 (Za0 (pvM 3) (Za0 (Xg8 (v:=.ty "bool") (by exact rfl) m_bool Xn9 (by exact rfl)) Za3)))))
  (Za7 (Zb2 Ze3))
  Zb4)))
 (Za7 (Zb2 (pvM 2)))))),?_⟩
 refine sqk (fun C=>∀a r,SameU T H a->TabOk a T ds->H r=none->a r=some (.lst (bls (tr j t)))->C [some (.ref F),some v,some (.ref r),none] a) (fun C o=>?_) fun R r e1 t1 f1 u=>?_
 ·walk_at "1"
  unfold tLC;walk_at "1";refine⟨⟨_,SqL.of N⟩,fun B m=>?_⟩;refine Zt8 (xs:=xs) (fun i d a=>Same H a/\a B=some (.lst d)/\Paired (AtWn K a B) d (j.take i)) ⟨Za2 m _,Za1,.nil⟩ (fun i d a hi ⟨e,h,hy⟩=>⟨h,?_,SqL.of (e _ _ N)⟩) (fun i x d a hx ⟨e,h,hy⟩ C' hC'=>?_) (fun d a ⟨e,h,hy⟩=>?_)
  ·have:=zc hy
   rw[zq] at this;exact small1M (by omega)
  ·obtain⟨y,W,p,qq,rfl,hs,hq⟩:=paired_get Y hx
   walk_at "1";refine⟨_,e.sqt hs,rfl,_,_,rfl,_,_,rfl,rfl,Wk.trans (Ze2 (i:=0) rfl) (Ze2 (i:=1) rfl),qq,rfl,_,.inl (SqL.of (e _ _ hq)),fun l G=>⟨by decide,fun f L=>?_⟩⟩;have I:Same a (upd (upd a l (.lst (y.2.map V.str))) f (.tup [bV y.1,.ref l])):=(Za2 G _).trans (Za2 L _);have M:upd (upd a l (.lst (y.2.map V.str))) f (.tup [bV y.1,.ref l]) l=some (.lst (y.2.map V.str)):=(Za2 L _) _ _ Za1;have J:SqT K (upd (upd a l (.lst (y.2.map V.str))) f (.tup [bV y.1,.ref l])) f [bV y.1,.ref l]:=.inl (.inl Za1);generalize upd (upd a l (.lst (y.2.map V.str))) f (.tup [bV y.1,.ref l])=H5 at I M J ⊢;have O:=I _ _ h;refine hC' _ _ O ⟨(e.trans I).write m,Za1,?_⟩;rw[ybh,W];refine zdo (Paired.mapP hy fun _ _ z=>(z.keep I).write O) ⟨f,l,zar (Za9 h G),rfl,Ze0 O _ _ J,?_⟩;rw[Zb3 (zar (Za9 h G))];exact M
  ·rw[U,zaa] at hy
   have ln:=Yh1 t;exact⟨B,v,t,d,j,t.ltrs,rfl,h,Paired.mapP hy fun _ _ z=>z.at,hg,by omega,IsT.keep hT e.keepT,ho,by omega,Yh9 fun _ z=>z,by omega,S.keep e,fun r H2 e2 t2 f2 h2=>o _ r (e.toU.trans e2) t2 (e.free f2) h2⟩
 refine sqk (fun C=>C [some (.ref F),some v,some (.ref r),none] R) (fun C o=>?_) ?_
 ·walk_at "1"
  refine⟨_,.lstK (SqL.of u),_,Yv1 K "list",?_⟩;rw[if_neg (by decide)];refine⟨_,.inl (SqL.of u),_,.inl (SqL.of (e1.toT _ _ (fun _ z=>nomatch z) N)),?_⟩;rw[if_neg (by unfold bls;rw[yh,Zf5,U];simp)];exact o
 refine sqt (fun c a=>∃g,c=[some (.ref F),some v,some (.ref r),g]/\a=R) ?_ ?_
 ·intro C o
  walk_at "2";refine⟨⟨_,SqL.of u⟩,Zy7 (D:={ nx:=C,rt:=Q }) (xs:=bls (tr j t)) (fun i c a=>∃g,c=[some (.ref F),some v,some (.ref r),g]/\a=R) ⟨none,rfl,rfl⟩ (fun i c a _ zZ=>by obtain⟨_,_,e⟩:=zZ;exact e▸SqL.of u) (fun i x c a hx ⟨g,es,eh⟩=>?_) (fun c a X=>o _ _ X)⟩;subst es;subst eh
  obtain⟨b,rfl⟩:∃b,x=.bl b:=by
   unfold bls at hx;rw[zy] at hx;obtain⟨b,_,e⟩:=yab.mp hx;exact⟨b,e.symm⟩
  walk_at "1";refine⟨_,.of (.bl _),_,Yv1 K "bool",?_⟩;rw[if_neg (by decide)];trivial
 rintro q1 H3 ⟨g,rfl,rfl⟩;walk_at "1";exact q r _ e1 t1 f1 u
theorem Wn4 {k:Nat}{T:Addr}{ds:List (Pos×Str)}(F_ap0:Df K mg "_law_holds" (top 67) ["_law_worlds_here","_law_line"])(C__law_told:Cl P w K mg base k "_law_told" pq18 (sp_ltold K T ds))(m_len:mg "len"=none)(m_zip:mg "zip"=none)(m_range:mg "range"=none):Cl P w K mg base (k+1) "_law_holds" ["_law_worlds_here","_law_line"] (sp_lholds K T ds):=by
 refine F_ap0.okG sc_ap0 fun fx y2 A z9 s H vs Q E hr h Gx z0=>?_;obtain⟨D,v,l,xs,c,rfl,ha,hW,hg,y1,hl,hL,X,hh,q9,q⟩:=h;have lx:xs.length=c.length:=zc hW
 refine z0 _ ⟨_,(Za4 (Zf7 (i:=2) sc_ap0.nd rfl (Or.inr rfl) (Zb8 C__law_told hr (Za0 (pvM 0) (Za0 (pxtM (pvM 1) Za5) Za3))))
 (Za4 (Zc7 (ptcM (Yd7) (pvM 2) Ze3)
  (Za7 (Zb2 Zo2))
  Zb4)
 (Za4 (Zf7 (i:=3) sc_ap0.nd rfl (Or.inr rfl) (Zb0 Xh2 (Zb7 (Za0 Zo2 Za3)) (Zc1 Zb5 (by exact rfl) m_len Zc9 (Za0 (pvM 0) Za3))))
 (Za4 (Zj3 zae rfl (Ze4 (pxtM (pvM 1) Za5)) (pgn 4 sc_ap0.nd)
  (Za4 (pst 5 sc_ap0.nd (Zb8 C__law_told hr (Za0 (pvM 0) (Za0 (pvM 4) Za3))))
 (Za4 (Zc7 (ptcM (Yd7) (pvM 5) Ze3)
  (Za7 (Zb2 Zo2))
  Zb4)
 (Za7 (Zf7 (i:=3) sc_ap0.nd rfl (Or.inr rfl) (Yc9 (blk0 (N':=["_law_one","_law_other"]) (by decide +kernel) (by decide +kernel) rfl (by decide +kernel)) rfl (Yd5 rfl m_zip (Za0 (pvM 3) (Za0 (pvM 5) Za3))) (fun _ _ _ _=>(Zo0 (K:=K) (n:=2) rfl rfl (Zb9 (pgn 0 (ndS ["_law_one","_law_other"])) (Zb9 (pgn 1 (ndS ["_law_one","_law_other"])) Zf9)) rfl rfl)) (fun _ _ _ _=>(Yk5 (pvM 0) (Zw1 (pvM 1))))))))))
 (Za7 (Zb2 (Zm5 (Xh7 (Zg7 hr)) (Zt1 (blkD (N':=["_law_k","_law_all_known","_law_due"]) (nt:=1) (ci:=[3,2]) nn1 (Za6 (top 67))) rfl (Zj1 rfl m_range (Za0 (Zc1 Zb5 (by exact rfl) m_len Zc9 (Za0 (pvM 0) Za3)) Za3)) (fun _ _ _ _=>(pgn 0 (ndS ["_law_k","_law_all_known","_law_due"]))) (fun _ _=>Zh7) (fun _ _ _ _ _=>(Zh3 ((Zq6 (Zj2 (Zn4 (Yh6 (K:=K) rfl) (pvM 1) (pvM 0) (fun _ _=>rfl))) (Zk9 (Zj7 (Zj2 (Zn4 (Yh6 (K:=K) rfl) (pvM 2) (pvM 0) (fun _ _=>rfl))))))).pt (Zf1 (pvM 0))))) (Zb7 Za3) (Zo5 _)))))))),?_⟩
 obtain⟨p,q8,la,gv,ov,us,rfl,g1,g2,g3,g4,g5,g6⟩:=hL;refine sqk (fun C=>∀d r,SameU T H d->TabOk d T ds->H r=none->d r=some (.lst (bls (tr c l.g)))->C [some (.ref D),some (.ref p),some (.ref r),none,none,none] d) (fun C M=>?_) fun H1 r e1 t1 f1 h1=>?_
 ·walk_at "1"
  exact⟨_,g1,_,rfl,D,gv,l.g,xs,c,rfl,ha,hW,hg,hl,g4,X.g,X.gp,q9,fun r d e t f h=>M _ r e t f h⟩
 refine sqk (fun C=>C [some (.ref D),some (.ref p),some (.ref r),none,none,none] H1) (fun C M=>?_) ?_
 ·walk_at "1"
  rw[if_neg (fun z=>nomatch z)];exact M
 have j9:=e1.toT _ (.lst xs) (fun _ z=>nomatch z) ha;refine sqk (fun C=>∀d m,Same H1 d->d m=some (.lst (bls (yy c.length true)))->C [some (.ref D),some (.ref p),some (.ref r),some (.ref m),none,none] d) (fun C M=>?_) fun H3 m e3 h3=>?_
 ·walk_at "1"
  refine⟨by decide,fun p1 q4=>⟨xs,.inl (SqL.of ((Za2 q4 _) _ _ j9)),_,Za1,by omega,by omega,zk (small1M (by show 1*(xs.length:Int).toNat<=_;omega)),fun p2 z8=>M _ p2 ((Za2 q4 _).trans (Za2 z8 _)) ?_⟩⟩;rw[Za1,lx];unfold bls;rw[List.map_replicate]
  have:∀n,(yy n [V.bl true]).flatten=yy n (V.bl true):=fun n=>by
   induction n with
   |zero=>rfl
   |succ n ih=>rw[List.replicate_succ,List.flatten_cons,ih];rfl
  rw[show ((c.length:Int)).toNat=c.length by omega,this]
 have q6:SameU T H H3:=e1.trans e3.toU;have j0:us.length=l.ws.length:=zc g3;refine sqt (fun B d=>∃m L J j,B=[some (.ref D),some (.ref p),some (.ref r),some (.ref m),L,J]/\SameU T H d/\TabOk d T ds/\d r=some (.lst (bls (tr c l.g)))/\d m=some (.lst (bls j))/\j.length=c.length/\∀n,n < c.length->tg j n=true->∀t∈l.ws,kn c t n) ?_ ?_
 ·intro C M
  refine Yc0 (K:=K) (xs:=us) (a:=q8) (fun Q' h=>?_) (fun i B d=>∃m L J j,B=[some (.ref D),some (.ref p),some (.ref r),some (.ref m),L,J]/\SameU T H d/\TabOk d T ds/\d r=some (.lst (bls (tr c l.g)))/\d m=some (.lst (bls j))/\j.length=c.length/\∀n,n < c.length->tg j n=true->∀t∈l.ws.take i,kn c t n) ⟨m,none,none,_,rfl,q6,t1.keep e3,e3 _ _ h1,h3,zbo,fun _ _ _ t ht=>nomatch ht⟩ (fun i B d hi zZ=>by obtain⟨_,_,_,_,_,e,_⟩:=zZ;exact SqL.of (e.toT _ _ (fun _ z=>nomatch z) g2)) (fun i x B d Y hp=>?_) (fun B d zZ=>by obtain⟨m,L,J,j,z1,z2,z3,z4,z5,z6,z7⟩:=zZ;exact M _ _ ⟨m,L,J,j,z1,z2,z3,z4,z5,z6,by rw[j0,zaa] at z7;exact z7⟩)
  ·walk_at "1"
   exact⟨_,SameT.keepT q6.toT _ _ g1,_,rfl,h⟩
  obtain⟨m,L,J,j,rfl,e,tb,j4,q0,lb,hk⟩:=hp;obtain⟨t,ht,j1⟩:=paired_get g3 Y;have q2:=X.w t (yc ht);unfold Zn5;refine sqk (fun C=>∀o O,SameU T d o->TabOk o T ds->d O=none->o O=some (.lst (bls (tr c t)))->C [some (.ref D),some (.ref p),some (.ref r),some (.ref m),some x,some (.ref O)] o) (fun C' q1=>?_) fun o O G W f4 h4=>?_
  ·walk_at "1"
   exact⟨D,x,t,xs,c,rfl,e.toT _ _ (fun _ z=>nomatch z) ha,AtWs.keepU e hW,hg,hl,IsT.keep j1 (SameT.keepT e.toT),q2.1,q2.2,tb,fun O o G W f4 h4=>q1 _ O G W f4 h4⟩
  refine sqk (fun C=>C [some (.ref D),some (.ref p),some (.ref r),some (.ref m),some x,some (.ref O)] o) (fun C' q1=>?_) ?_
  ·walk_at "1"
   rw[if_neg (fun z=>nomatch z)];exact q1
  have Z:=G.toT _ (.lst (bls j)) (fun _ z=>nomatch z) q0;have j2:=G.toT _ (.lst (bls (tr c l.g))) (fun _ z=>nomatch z) j4;have lt:=Zf5 c t;walk_at "1";unfold tLC;walk_at "1";refine⟨⟨_,SqL.of Z⟩,⟨_,SqL.of h4⟩,fun I F=>?_⟩;refine Xj7 (xs:=bls j) (ys:=bls (tr c t)) (fun n U S=>Same o S/\S I=some (.lst U)/\U=bls ((zu and j (tr c t)).take n)) (by unfold bls;rw[yh,yh,lb,lt]) ⟨Za2 F _,Za1,rfl⟩ (fun n U S hn ⟨e6,h6,hz⟩=>⟨h6,?_,SqL.of (e6 _ _ Z),SqL.of (e6 _ _ h4)⟩) (fun n x y U S T0 Y hy hT0 ⟨e6,h6,hz⟩ C2 hC2=>?_) (fun U S ⟨e6,h6,hz⟩=>?_)
  ·rw[hz]
   unfold bls;rw[yh,zq,zag];exact small1M (by omega)
  ·unfold bls at Y hy
   rw[zy] at Y hy;obtain⟨b1,j8,rfl⟩:=yab.mp Y;obtain⟨b2,j7,rfl⟩:=yab.mp hy;have sT:=Za2 hT0 (.tup [.bl b1,.bl b2]);have q5:∀b,b=(b1&&b2)->C2 (.bl b) (upd S T0 (.tup [.bl b1,.bl b2])):=fun b hb=>hC2 _ _ (sT _ _ h6) ⟨(e6.trans sT).write F,Za1,by rw[hz,ybh,zbc,j8,j7,hb];unfold bls;rw[zac];rfl⟩;walk_at "1";refine⟨_,.inl (.inl Za1),rfl,_,_,rfl,_,_,rfl,rfl,Wk.trans (Ze2 (i:=0) rfl) (Ze2 (i:=1) rfl),b1,rfl,?_⟩
   cases b1 with
   |true=>rw[if_pos rfl];exact q5 b2 rfl
   |false=>rw[if_neg (by decide)];exact q5 false rfl
  ·rw[show (bls j).length=(zu and j (tr c t)).length by unfold bls;rw[yh,zag,lb,lt,zcd],zaa] at hz
   refine⟨I,rfl,(e.trans G).trans e6.toU,W.keep e6,e6 _ _ j2,_,by rw[h6,hz],by rw[zag,lb,lt,zcd],fun n ln hn u R=>?_⟩;rw[Yd3 (by omega) (by omega),zo] at hn;rw[ybh,ht] at R;rcases yd.mp R with R | R
   ·exact hk n ln hn.1 u R
   ·rw[zb.mp R];exact hn.2
 rintro y0 o ⟨m,L,J,j,rfl,G,W,j3,q0,lb,hk⟩;walk_at "1";have q7:=G.toT _ (.lst xs) (fun _ z=>nomatch z) ha;have lg:=Zf5 c l.g;refine⟨xs,.inl (SqL.of q7),by omega,by omega,fun I F=>?_⟩;refine Xu2 (fun i H5=>Same o H5/\H5 I=some (.lst [])) ⟨Za2 F _,Za1⟩ (fun i H5 N hi ⟨e5,h5⟩ hN=>?_) (fun H5 ⟨e5,h5⟩=>?_)
 ·have q3:i < c.length:=by omega
  walk_at "1"
  have a1:∀{l:List Bool},i < l.length->atI (bls l) (0+(i:Int))=some (.bl (tg l i)):=fun h=>by rw[Int.zero_add];exact Wr1 h
  refine⟨Ze2 (i:=0) rfl,_,SqL.of (e5 _ _ q0),_,a1 (by omega),_,rfl,?_⟩
  cases hb:tg j i with
  |true =>
   rw[if_pos rfl];have j6:tg (tr c l.g) i=true:=hh i q3 (hk i q3 hb);refine⟨_,SqL.of (e5 _ _ j3),_,a1 (by omega),_,rfl,?_⟩;rw[j6,if_neg (by decide)];exact hN _ ⟨e5,h5⟩
  |false =>
   rw[if_neg (by decide),if_neg (by decide)];exact hN _ ⟨e5,h5⟩
 ·refine⟨by decide,fun p2 j5=>?_⟩
  have s6:=Za2 j5 (.lst []);refine⟨.list [],by rw[Dn];exact⟨I,[],rfl,SqL.of (s6 _ _ h5),by rw[DnAll]⟩,.list [],by rw[Dn];exact⟨p2,[],rfl,SqL.of Za1,by rw[DnAll]⟩,rfl,rfl,by decide,?_⟩;rw[if_neg zg];exact q _ (G.trans (e5.trans s6).toU) (W.keep (e5.trans s6))
theorem sc_bs0:FnScope ["one","other","waiting","first","second"] ["one","other"] (Za6 (top 11)):=scm (by decide +kernel)
theorem Wk6 {k:Nat}(F_bs0:Df K mg "compared" (top 11) pq24)(m_ae0:MgI mg "PAIRED" aPAIRED)(t_PAIRED:∀H,SqT K H aPAIRED [.str "both",.str "one",.str "then"]):Cl P w K mg base (k+1) "compared" pq24 (sp_compared K):=by
 refine F_bs0.okG sc_bs0 fun fx y6 A z8 s H vs Q E hr h Gx z6=>?_;obtain⟨v,u,a,b,rfl,hv,hu,oa,ob,D,q⟩:=h
 refine z6 _ ⟨_,(Za4 (pst 2 sc_bs0.nd (Zb7 (Za0 (Zc0 (Za0 (pvM 0) (Za0 (pvM 1) Za3))) Za3)))
 (Za4 (Yg3 zae (Zs7 (pvM 2) (fun _=>rfl))
  (Za4 (Zs8 (Yu0 zad zcs ydh Yu5 (pvM 2)) (Zo1 rfl (Zb9 (pgn 3 sc_bs0.nd) (Zb9 (pgn 4 sc_bs0.nd) Zf9))))
 (Za4 (Zc7 (ptcM (Yd0) (pxtM (pvM 3) Za5) (pxtM (pvM 4) Za5))
  (Za7 (Zb2 (Zj4 (ptcM (Xh5) (pxtM (pvM 3) Za5) (pxtM (pvM 4) Za5)) (Yq0 Zz6 Za5) Za5)))
  Zb4)
 (Za7 (Zc7 (Zp5 (Zt2) (pxtM (pvM 3) Za5) (Yb0 (v:=.ref aPAIRED) (by exact rfl) m_ae0 (by exact rfl)) (by with_unfolding_all rfl))
  (Za4 (Zi5 (Zv2 zad zam zaq Zg6 (pvM 2) (Za0 (Zc0 (Za0 (pxtM (pvM 3) Za5) (Za0 (pxtM (pvM 4) Za5) Za3))) Za3)))
 (Za7 (Zi5 (Zv2 zad zam zaq Zg6 (pvM 2) (Za0 (Zc0 (Za0 (pxtM (pvM 3) Za5) (Za0 (pxtM (pvM 4) Za5) Za3))) Za3)))))
  (Za7 (Zc7 (ptcM (Zw3 (Zg7 hr)) (pvM 3) (pvM 4))
  (Za7 (Zb2 (Zj4 (ptcM (Wj0 (Nat.lt_of_succ_lt (Xl2 hr))) (pvM 3) (pvM 4)) (Yq0 Zz6 Za5) Za5)))
  Zb4)))))))
 (Za7 (Zb2 Za5)))),?_⟩
 refine sqk (fun C=>∀j l z,Same H j->H l=none->j l=some (.lst [z])->IsP K j z (a,b)->C [some v,some u,some (.ref l),none,none] j) (fun C hC=>?_) fun H1 l z e1 f1 h1 hz=>?_
 ·walk_at "1"
  refine⟨by decide,fun p D=>⟨by decide,fun I j5=>?_⟩⟩;have Z:=Za2 D (HO.tup [v,u]);have Y:=Za2 j5 (HO.lst [V.ref p]);have S:=Z.trans Y;exact hC _ I (.ref p) S (Z.free j5) Za1 ⟨p,v,u,rfl,Y.sqt (.inl (.inl Za1)),hv.keep S.keepT,hu.keep S.keepT⟩
 refine sqt (fun M j=>Same H j/\CmpI a b []) ?_ ?_
 ·intro C hC
  refine⟨fun m M j=>∃(x3 x4:Option V) (G:List V) (c:List (Tm×Tm)),m=sumF c/\M=[some v,some u,some (.ref l),x3,x4]/\Same H j/\j l=some (.lst G)/\Paired (IsP K j) G c.reverse/\CmpI a b c/\(∀p∈c,p.1.ok/\p.2.ok)/\sumF c<=400,
   ⟨_,none,none,[z],[(a,b)],rfl,rfl,e1,h1,.cons hz .nil,CmpI.start a b,fun p D=>by rw[zb.mp D];exact⟨oa,ob⟩,?_⟩,?_⟩
  ·rw[Zh8];show a.parts+0<=400;omega
  rintro m y2 H2 ⟨x3,x4,G,c,rfl,rfl,e2,h2,q3,hI,j6,q4⟩
  first | (refine⟨_,rfl,!G.isEmpty,.inl ⟨G,SqL.of h2,rfl⟩,?_⟩) | (refine⟨!G.isEmpty,.inl ⟨G,SqL.of h2,rfl⟩,?_⟩)
  show (if _=true then _ else _)
  cases c with
  |nil =>
   cases q3;rw[if_neg (by decide)];exact hC _ _ ⟨e2,hI⟩
  |cons pr c =>
  obtain⟨X,W⟩:=pr;rw[zai] at q3;obtain⟨i,z',rfl,L,q',xv,yv,rfl,j4,hx,hy⟩:=Zw2 q3;rw[if_pos (by cases i<;>rfl)];refine opqC fun N hN=>?_;have lz:=zc L;rw[zbk] at lz;rw[Zh8] at q4;have y5:=Yu9 c;have g:=j6 (X,W) zr;have q6:∀p∈c,p.1.ok/\p.2.ok:=fun p D=>j6 p (yn _ D);refine sqt (fun M H3=>M=[some v,some u,some (.ref l),some xv,some yv]/\Same H H3/\IsT K H3 xv X/\IsT K H3 yv W/\H3 l=some (.lst i)/\Paired (IsP K H3) i c.reverse) ?_ ?_
  ·intro C' j0
   have k1:KeepT K H2 (upd H2 l (.lst i)):=Ze0 h2;walk_at "1";refine⟨.inl ⟨rfl,_,SqL.of h2⟩,_,h2,.ref q',by simp,?_⟩;rw[zck];exact⟨q',rfl,_,k1 _ _ j4,rfl,_,_,rfl,_,_,rfl,rfl,j0 _ _ ⟨rfl,e2.write f1,hx.keep k1,hy.keep k1,Za1,Paired.mapP L fun _ _ z=>z.keep k1⟩⟩
  clear j4 hx hy L;rintro y0 H3 ⟨rfl,e3,B,t,q9,q2⟩;obtain⟨I,c1,y4,A1,rfl,q5,o⟩:=Zp8 B;obtain⟨p2,c2,y3,A2,rfl,j3,d⟩:=Zp8 t;refine sqk (fun C=>c1=c2->C [some v,some u,some (.ref l),some (.ref I),some (.ref p2)] H3) (fun C' j0=>?_) fun hc=>?_
  ·walk_at "1"
   refine⟨_,q5,_,at0 _ _,_,j3,_,at0 _ _,rfl,?_⟩
   by_cases hc:c1=c2
   ·rw[if_neg (by simpa using hc)]
    exact j0 hc
   ·rw[if_pos (by simpa using hc)]
    refine⟨_,q5,_,at0 _ _,_,j3,_,at0 _ _,c1,rfl,c2,rfl,?_⟩;have hd:=hI.diff o d hc;have f:=q _ e3;rw[hd] at f
    by_cases hh:c1.cps.toList < c2.cps.toList
    ·rw[if_pos hh]
     rw[if_pos (show sLt c1 c2=true from decide_eq_true hh)] at f;exact f
    ·rw[if_neg hh]
     rw[if_neg (show ¬sLt c1 c2=true from fun z=>hh (of_decide_eq_true z))] at f;exact f
  ·subst hc
   have q1:X=W->N [some v,some u,some (.ref l),some (.ref I),some (.ref p2)] H3:=fun e=>by
    subst e;have:=X.parts_pos;exact hN _ _ ⟨sumF c,by rw[Zh8];show _ < X.parts+_;omega,some (.ref I),some (.ref p2),i,c,rfl,rfl,e3,q9,q2,hI.leaf,q6,by omega⟩
   walk_at "3";refine⟨_,q5,_,at0 _ _,_,.inr (t_PAIRED H3),rfl,rfl,?_⟩;rw[if_neg zg]
   cases X with
   |low =>
    cases o;rw[if_neg (by decide)]
    cases W with
    |low =>
     refine⟨_,B,_,t,Tm.lay .low trivial,Tm.lay .low trivial,by decide,?_⟩;rw[if_pos trivial,Tm.eqv,decide_eq_true rfl,if_neg (by decide)];exact q1 rfl
    |ltr y=>cases d
    |nd kd x y=>rw[Zd9] at d;cases kd<;>cases d
   |ltr x1 =>
    cases o;rw[if_neg (by decide)]
    cases W with
    |low=>cases d
    |ltr y1 =>
     refine⟨_,B,_,t,Tm.lay _ g.1,Tm.lay _ g.2,by show min 1 1<=150;decide,?_⟩;rw[if_pos trivial,Tm.eqv]
     by_cases exy:x1=y1
     ·subst exy
      rw[decide_eq_true rfl,if_neg (by decide)];exact q1 rfl
     ·rw[decide_eq_false (fun z=>exy (by cases z;rfl)),if_pos (by decide)]
      obtain⟨r1,j2,U⟩:=isT_ltr.mp B;obtain⟨r2,j1,T⟩:=isT_ltr.mp t;cases j2;cases j1;have hd:=hI.diffW exy;have f:=q _ e3;walk_at "1";refine⟨I,p2,["letter",x1],["letter",y1],rfl,rfl,U,T,_,rfl,?_⟩;rw[hd] at f
      cases hh:lexT ["letter",x1] ["letter",y1] with
      |true=>rw[hh,if_pos rfl] at f;rw[if_pos rfl];exact f
      |false=>rw[hh,if_neg (by decide)] at f;rw[if_neg (by decide)];exact f
    |nd kd x y=>rw[Zd9] at d;cases kd<;>cases d
   |nd kd x y =>
    rw[Zd9] at o;cases o;rw[if_pos (by cases kd<;>decide)]
    cases W with
    |low=>cases kd<;>cases d
    |ltr y1=>cases kd<;>cases d
    |nd kd' x' y' =>
     rw[Zd9] at d
     have ek:kd=kd':=by
      have:=(yap d).1
      cases kd<;>cases kd'<;>first | rfl | (exact absurd this (by decide))
     subst ek;obtain⟨r1,va,vb,j2,U,z4,z2⟩:=isT_nd.mp B;obtain⟨r2,R,O,j1,T,z3,z1⟩:=isT_nd.mp t;cases j2;cases j1;have pn:(Tm.nd kd x y).parts=1+x.parts+y.parts:=rfl;rw[pn] at q4;refine sqk (fun C=>∀n J,Same H n->KeepT K H3 n->n l=some (.lst (i++[.ref J]))->SqT K n J [vb,O]->C [some v,some u,some (.ref l),some (.ref I),some (.ref p2)] n) (fun C2 z7=>?_) fun n J e5 k5 j7 j8=>?_
     ·walk_at "1"
      refine⟨.inl ⟨rfl,_,SqL.of q9⟩,_,U,vb,rfl,_,T,O,rfl,by decide,fun J z0=>?_⟩;have Z:=Za2 z0 (HO.tup [vb,O]);have q8:=Z _ _ q9;exact⟨_,q8,small1M (by omega),z7 _ J ((e3.trans Z).write f1) (Z.keepT.trans (Ze0 q8)) Za1 (Ze0 q8 _ _ (.inl (.inl Za1)))⟩
     walk_at "1";refine⟨.inl ⟨rfl,_,SqL.of j7⟩,_,k5 _ _ U,va,rfl,_,k5 _ _ T,R,rfl,by decide,fun n2 j9=>?_⟩;have Y:=Za2 j9 (HO.tup [va,R]);have q7:=Y _ _ j7;have k7:KeepT K n (upd (upd n n2 (HO.tup [va,R])) l (HO.lst (i++[V.ref J]++[V.ref n2]))):=Y.keepT.trans (Ze0 q7);have r:=k5.trans k7;refine⟨_,q7,small1M (by rw[zf,zd];omega),hN _ _ ⟨sumF ((x,x')::(y,y')::c),?_,_,_,_,(x,x')::(y,y')::c,rfl,rfl,(e5.trans Y).write f1,Za1,?_,hI.pair,fun p D=>?_,?_⟩⟩
     ·rw[Zh8,Zh8,Zh8];show x.parts+(y.parts+sumF c) < (1+x.parts+y.parts)+sumF c;omega
     ·rw[zai,zai]
      exact Zc4 (Zc4 (Paired.mapP q2 fun _ _ z=>z.keep r) (.cons ⟨J,vb,O,rfl,k7 _ _ j8,z2.keep r,z1.keep r⟩ .nil)) (.cons ⟨n2,va,R,rfl,Ze0 q7 _ _ (.inl (.inl Za1)),z4.keep r,z3.keep r⟩ .nil)
     ·rcases yk.mp D with z | z
      ·rw[z];exact⟨g.1.1,g.2.1⟩
      ·rcases yk.mp z with z | z
       ·rw[z];exact⟨g.1.2,g.2.2⟩
       ·exact q6 p z
     ·rw[Zh8,Zh8];show x.parts+(y.parts+sumF c)<=400;omega
 rintro z9 n ⟨e5,z5⟩;walk_at "1";have f:=q _ e5;rw[z5.done] at f;exact f
theorem sc_cg0:FnScope ["wishes","statement","least","most","half"] ["wishes","statement"] (Za6 (top 14)):=scm (by decide +kernel)
theorem sc_bb0:FnScope ["wishes","statement","at"] ["wishes","statement"] (Za6 (top 15)):=scm (by decide +kernel)
theorem sc_cl0:FnScope ["wishes","statement","at"] ["wishes","statement"] (Za6 (top 16)):=scm (by decide +kernel)
theorem sc_ca0:FnScope ["wishes","some","told","statement","at"] ["wishes","some"] (Za6 (top 17)):=scm (by decide +kernel)
theorem Xu1 (h:i+1<=xs.length):cutV xs (some ((i:Int)+1)) none=xs.drop (i+1):=by
 have e:((i:Int)+1)=((i+1:Nat):Int):=by omega
 rw[e];show List.take (xs.length - (if ((i+1:Nat):Int) < 0 then (((i+1:Nat):Int)+(xs.length:Int)).toNat else min ((i+1:Nat):Int).toNat xs.length)) (zdm (if ((i+1:Nat):Int) < 0 then (((i+1:Nat):Int)+(xs.length:Int)).toNat else min ((i+1:Nat):Int).toNat xs.length) xs)=_;rw[if_neg (by omega),zcg,Nat.min_eq_left h];exact zbb (by rw[yae];exact yo _)
theorem Zm6 :∀{l:List α} {m:List β},Paired F l m->∀n,Paired F (l.drop n) (m.drop n)
 | _,_,.nil,n=>by rw[List.drop_nil,List.drop_nil];exact .nil
 | _,_,.cons h t,0=>.cons h t
 | _,_,.cons h t,n+1=>Zm6 t n
theorem Wj6 {k:Nat}(F_cg0:Df K mg "place" (top 14) pq33)(C_compared:Cl P w K mg base k "compared" pq24 (sp_compared K))(m_len:mg "len"=none):Cl P w K mg base (k+1) "place" pq33 (sp_place K):=by
 refine F_cg0.okG sc_cg0 fun fx q2 A W s H vs Q E Y h Gx N=>?_;obtain⟨a,v,n,t,rfl,Z,hT,l,X,hl,q⟩:=h
 refine N _ ⟨_,(Za4 (pst 2 sc_cg0.nd Za5)
 (Za4 (pst 3 sc_cg0.nd (Zc1 Zb5 (by exact rfl) m_len Zc9 (Za0 (pvM 0) Za3)))
 (Za4 (Yg3 zae (ptcM (Zo3) (pvM 2) (pvM 3))
  (Za4 (pst 4 sc_cg0.nd (Zb0 Zc5 (Zb0 Zd2 (pvM 2) (pvM 3)) Za5))
 (Za7 (Zc7 (ptcM (Zo3) (Zb8 C_compared Y (Za0 (pxlM (pvM 0) (pvM 4)) (Za0 (pvM 1) Za3))) Za5)
  (Za7 (pst 2 sc_cg0.nd (Zb0 Zd2 (pvM 4) Za5)))
  (Za7 (pst 3 sc_cg0.nd (pvM 4)))))))
 (Za7 (Zb2 (pvM 2)))))),?_⟩
 walk_at "1";obtain⟨⟨g,L,M⟩,o⟩:=Z;have lu:=zc M;refine⟨g,.inl (SqL.of L),?_⟩
 refine⟨fun m j U=>∃(b hi:Nat) (C:Option V),m=hi - b/\j=[some (.ref a),some v,some (.int (b:Nat)),some (.int (hi:Nat)),C]/\Same H U/\b<=hi/\hi<=n.length/\(∀i x,i < b->n[i]?=some x->ltT x t=true)/\(∀i x,hi<=i->n[i]?=some x->ltT x t=false),
  ⟨_,0,g.length,none,rfl,rfl,Same.refl _,yz _,by omega,fun i x h=>absurd h (zct _),fun i x h e=>absurd (ze.mp e).1 (by omega)⟩,?_⟩
 rintro m q1 H1 ⟨b,hi,C,rfl,rfl,f,h1,O,S,R⟩;walk_at "1"
 by_cases hlt:b < hi
 ·rw[if_pos (by omega)]
  refine⟨_,fun j U z=>z,?_⟩
  have eh:((b:Int)+(hi:Int)) / 2=(((b+hi) / 2:Nat):Int):=by omega
  have J:(b+hi) / 2 < g.length:=by omega
  obtain⟨x,e,G⟩:=paired_get M (za J);have F:=yc e;refine⟨⟨by decide,by decide⟩,?_⟩;rw[eh];refine⟨g,SqL.of (f _ _ L),_,Zd3 (za J),_,v,x,t,rfl,G.keep f.keepT,hT.keep f.keepT,(l x F).1,X,by have:=(l x F).2;omega,fun H2 T=>⟨_,rfl,?_⟩⟩
  by_cases hc:cmpT x t < 0
  ·rw[if_pos hc]
   have c:=(Xn1 x t).mp hc;refine⟨hi - ((b+hi) / 2+1),by omega,(b+hi) / 2+1,hi,rfl,_,by rfl,f.trans T,by omega,O,fun i y I d=>?_,R⟩;obtain⟨B,r⟩:=ze.mp d;obtain⟨u,p⟩:=ze.mp e
   by_cases ei:i=(b+hi) / 2
   ·subst ei;rw[e] at d;cases d;exact c
   ·have:=zau.mp o i ((b+hi) / 2) B u (by omega)
    rw[r,p] at this;exact Zi8 this c
  ·rw[if_neg hc]
   have c:ltT x t=false:=by
    cases z:ltT x t with
    |false=>rfl
    |true=>exact absurd ((Xn1 x t).mpr z) hc
   refine⟨(b+hi) / 2 - b,by omega,b,(b+hi) / 2,rfl,_,rfl,f.trans T,by omega,by omega,S,fun i y I d=>?_⟩;obtain⟨B,r⟩:=ze.mp d;obtain⟨u,p⟩:=ze.mp e
   by_cases ei:i=(b+hi) / 2
   ·subst ei;rw[e] at d;cases d;exact c
   ·have:=zau.mp o ((b+hi) / 2) i u B (by omega)
    rw[r,p] at this
    cases z:ltT y t with
    |false=>rfl
    |true=>have w:=Zi8 this z;unfold ltT at c;rw[w] at c;cases c
 ·rw[if_neg (by omega)]
  have:b=hi:=by omega
  subst this;have ep:=Xv5 (t:=t) o O S R;have D:=q _ f;rw[ep] at D;exact D
theorem Wm3 {k:Nat}(F_bb0:Df K mg "among" (top 15) pq33)(C_place:Cl P w K mg base k "place" pq33 (sp_place K))(C_compared:Cl P w K mg base k "compared" pq24 (sp_compared K))(m_len:mg "len"=none):Cl P w K mg base (k+1) "among" pq33 (sp_among K):=by
 refine F_bb0.okG sc_bb0 fun O I A y s H J Q E m h T u=>?_;obtain⟨a,v,ws,t,rfl,o,r,d,l,D,q⟩:=h
 refine u _ ⟨_,(Za4 (pst 2 sc_bb0.nd (Zb8 C_place m (Za0 (pvM 0) (Za0 (pvM 1) Za3))))
 (Za7 (Zb2 (Yk5 (Zm5 (Zo3) (pvM 2) (Zc1 Zb5 (by exact rfl) m_len Zc9 (Za0 (pvM 0) Za3)) (Zo5 _)) (Zw1 (Zm5 (Zd1) (Zb8 C_compared m (Za0 (pxlM (pvM 0) (pvM 2)) (Za0 (pvM 1) Za3))) Za5 (Zo5 _))))))),?_⟩
 walk_at "1";refine⟨a,v,ws,t,rfl,o,r,d,l,D,fun S b=>?_⟩;obtain⟨⟨e,n,p⟩,f⟩:=o;have C:=zc p;obtain⟨N,M,L⟩:=Zt0 (t:=t) f;refine⟨e,.inl (SqL.of (b _ _ n)),_,rfl,?_⟩
 by_cases hlt:plc ws t < e.length
 ·rw[if_pos (by omega)]
  obtain⟨x,j,i⟩:=paired_get p (za hlt);have g:=yc j;refine⟨e,_,rfl,SqL.of (b _ _ n),_,Zd3 (za hlt),_,v,x,t,rfl,i.keep b.keepT,r.keep b.keepT,(d x g).1,l,by have:=(d x g).2;omega,fun R G=>⟨rfl,?_⟩⟩;have c:=q _ (b.trans G)
  have F:decide (t∈ws)=decide (V.int (cmpT x t)=V.int 0):=by
   refine decide_eq_decide.mpr ?_;rw[Zr5 f,j];constructor
   ·intro z;cases z;rw[(Yf0 t t).mpr rfl]
   ·intro z
    have B:cmpT x t=0:=by injection z
    rw[(Yf0 x t).mp B]
  rw[F] at c;exact c
 ·rw[if_neg (by omega)]
  have c:=q _ b
  have:¬t∈ws:=fun z=>by
   have:=(Zr5 f).mp z;exact hlt (by rw[C];exact (ze.mp this).1)
  rw[decide_eq_false this] at c;exact c
theorem Wj3 {k:Nat}(F_cl0:Df K mg "without" (top 16) pq33)(C_place:Cl P w K mg base k "place" pq33 (sp_place K)):Cl P w K mg base (k+1) "without" pq33 (sp_without K):=by
 refine F_cl0.okG sc_cl0 fun W T A D s H U Q E J h X y=>?_;obtain⟨a,v,c,t,rfl,x,N,i,l,M,q⟩:=h
 refine y _ ⟨_,(Za4 (pst 2 sc_cl0.nd (Zb8 C_place J (Za0 (pvM 0) (Za0 (pvM 1) Za3))))
 (Za7 (Zb2 (Zb0 Zf0 (Ze8 Zi3 (pvM 0) Zg3 (Zg2 (pvM 2))) (Ze8 Zi3 (pvM 0) (Zg2 (Zb0 Zd2 (pvM 2) Za5)) Zg3))))),?_⟩
 walk_at "1";refine⟨a,v,c,t,rfl,x,N,i,(i t l).1,M,fun O e=>⟨_,rfl,?_⟩⟩;obtain⟨⟨b,u,m⟩,n⟩:=x;have V:=zc m;have L:=(Zr5 n).mp l;have R:=(ze.mp L).1;refine⟨b,SqL.of (e _ _ u),fun p g=>⟨_,rfl,b,?_,fun I r=>?_⟩⟩
 ·exact SqL.of ((e.trans (Za2 g _)) _ _ u)
 have o:=Za2 g (HO.lst (cutV b none (some ((plc c t:Nat):Int))));have j:=Za2 r (HO.lst (cutV b (some ((plc c t:Nat)+1:Int)) none));have C:cutV b none (some ((plc c t:Nat):Int))=b.take (plc c t):=Zy9 (by omega);have B:cutV b (some (((plc c t:Nat):Int)+1)) none=b.drop (plc c t+1):=Xu1 (by omega);refine⟨_,j _ _ Za1,_,Za1,?_,fun G f=>?_⟩
 ·rw[C,B,zq,yae];exact zk (small1M (by omega))
 have F:=Za2 f (HO.lst (cutV b none (some ((plc c t:Nat):Int))++cutV b (some (((plc c t:Nat):Int)+1)) none));have S:=e.trans (o.trans (j.trans F));refine q _ _ S ((e.trans (o.trans j)).free f) ⟨⟨_,Za1,?_⟩,Zl6 n⟩;have d:=S.keepT (K:=K);revert d;generalize upd (upd (upd O p _) I _) G _=Hf;intro d;rw[C,B,<- Wd1 n l];exact Zc4 (Zi6 (Paired.mapP m fun _ _ z=>z.keep d) _) (Zm6 (Paired.mapP m fun _ _ z=>z.keep d) _)
theorem Wj9 {k:Nat}(F_ca0:Df K mg "more" (top 17) pq32)(C_place:Cl P w K mg base k "place" pq33 (sp_place K))(C_compared:Cl P w K mg base k "compared" pq24 (sp_compared K))(m_list:mg "list"=none)(m_len:mg "len"=none):Cl P w K mg base (k+1) "more" pq32 (sp_more K):=by
 refine F_ca0.okG sc_ca0 fun fx j0 A q8 s H d Q E hr h Gx q6=>?_;obtain⟨a,b,ws,us,c,rfl,hW,hb,hT,q2,B,hl,q⟩:=h
 refine q6 _ ⟨_,(Za4 (pst 2 sc_ca0.nd (Zg4 Ze9 (by exact rfl) m_list Zf8 (Za0 (pvM 0) Za3)))
 (Za4 (Zj3 zae rfl (Ze4 (pvM 1)) (pgn 3 sc_ca0.nd)
  (Za4 (pst 4 sc_ca0.nd (Zb8 C_place hr (Za0 (pvM 2) (Za0 (pvM 3) Za3))))
 (Za7 (Zc7 ((Yp7 (ptcM (Zd1) (pvM 4) (Zc1 Zb5 (by exact rfl) m_len Zc9 (Za0 (pvM 2) Za3))) (Ya8 (ptcM (Yd0) (Zb8 C_compared hr (Za0 (pxlM (pvM 2) (pvM 4)) (Za0 (pvM 3) Za3))) Za5)))).pt
  (Za7 (Zi5 (Zv2 zad F.slot_list_insert F.type_list_insert Xi5 (pvM 2) (Za0 (pvM 4) (Za0 (pvM 3) Za3)))))
  Zb4))))
 (Za7 (Zb2 (pvM 2))))),?_⟩
 refine sqk (fun C=>∀g l,Same H g->H l=none->IsW K g l ws->C [some (.ref a),some (.ref b),some (.ref l),none,none] g) (fun C X=>?_) fun H1 l e1 f1 q5=>?_
 ·walk_at "1"
  obtain⟨⟨d,ha,I⟩,p⟩:=hW;exact⟨d,.inl (SqL.of ha),fun l J=>X _ l (Za2 J _) J ⟨⟨_,Za1,Paired.mapP I fun _ _ z=>z.keep (Zf3 J)⟩,p⟩⟩
 refine sqt (fun m g=>∃u r,m=[some (.ref a),some (.ref b),some (.ref l),u,r]/\Same H g/\IsW K g l (norm (ws++c))) ?_ ?_
 ·intro C X
  walk_at "2";have lt:=zc hT;refine⟨⟨_,SqL.of (e1 _ _ hb)⟩,?_⟩
  refine Zy7 (D:={ nx:=C,rt:=Q }) (xs:=us) (fun i m g=>∃(u r:Option V),m=[some (.ref a),some (.ref b),some (.ref l),u,r]/\Same H g/\IsW K g l (norm (ws++c.take i))) ⟨none,none,rfl,e1,by
    have:norm (ws++c.take 0)=ws:=(Zo4 hW.rise fun x=>by simp).symm
    rw[this];exact q5⟩ (fun i m g _ zZ=>by obtain⟨_,_,_,e,_⟩:=zZ;exact SqL.of (e _ _ hb)) (fun i x m g hx hp=>?_) (fun m g zZ=>by obtain⟨u,r,g1,g2,Y⟩:=zZ;exact X _ _ ⟨u,r,g1,g2,by rw[lt,zaa] at Y;exact Y⟩)
  obtain⟨u,r,rfl,e,O⟩:=hp;obtain⟨t,T,q1⟩:=paired_get hT hx;have mt:=yc T
  have W:Okw (norm (ws++c.take i)):=fun s U=>by
   rcases yd.mp (mem_norm.mp U) with z | z
   ·exact q2 s z
   ·exact B s (zbf z)
  have q3:(norm (ws++c.take i)).length<=1000:=by
   refine zi (Zj0 (Zo9 (Zd0 _)) (fun s U=>mem_norm.mp U)) ?_;rw[zf,zq];omega
  obtain⟨⟨d,hv,I⟩,p⟩:=id O;have lv:=zc I;obtain⟨g1,g2,Y⟩:=Zt0 (t:=t) p;have v:=q1.keep e.keepT;walk_at "1";refine⟨l,x,_,t,rfl,O,v,W,(B t mt).1,q3,fun H2 j=>?_⟩
  have q7:∀f,Same H f->f l=some (.lst d)->KeepT K g f->t∈norm (ws++c.take i)->Same H f/\IsW K f l (norm (ws++c.take (i+1))):=fun f a1 a2 a3 a4=>by
   have:norm (ws++c.take (i+1))=norm (ws++c.take i):=Yy9 fun s=>by
    rw[Zf6 T,<- zao,yd,zb];exact⟨fun z=>z.elim id fun z=>by rw[z];exact mem_norm.mp a4,.inl⟩
   rw[this];exact⟨a1,⟨d,a2,Paired.mapP I fun _ _ z=>z.keep a3⟩,p⟩
  have n:=j _ _ hv
  have M:∀f,Same H f->f l=some (.lst d)->KeepT K g f->¬t∈norm (ws++c.take i)->Same H (upd f l (HO.lst (d.take (plc (norm (ws++c.take i)) t)++x::d.drop (plc (norm (ws++c.take i)) t))))/\IsW K (upd f l (HO.lst (d.take (plc (norm (ws++c.take i)) t)++x::d.drop (plc (norm (ws++c.take i)) t)))) l (norm (ws++c.take (i+1))):=fun f a1 a2 a3 a4=>by
   have k3:=a3.trans (Ze0 (K:=K) (o:=HO.lst (d.take (plc (norm (ws++c.take i)) t)++x::d.drop (plc (norm (ws++c.take i)) t))) a2);have R:=Paired.mapP I fun _ _ z=>z.keep k3
   have eN:(norm (ws++c.take i)).take (plc (norm (ws++c.take i)) t)++t::(norm (ws++c.take i)).drop (plc (norm (ws++c.take i)) t)=norm (ws++c.take (i+1)):=Zo4 (Wp9 p a4) fun s=>by
    rw[Zf6 T,<- zao,yd,yk,yd,zb,<- mem_norm (l:=ws++c.take i)]
    conv=>rhs;rw[<- zbp (plc (norm (ws++c.take i)) t) (norm (ws++c.take i)),yd]
    constructor
    ·rintro (z | z | z)
     ·exact .inl (.inl z)
     ·exact .inr z
     ·exact .inl (.inr z)
    ·rintro ((z | z) | z)
     ·exact .inl z
     ·exact .inr (.inr z)
     ·exact .inr (.inl z)
   refine⟨a1.write f1,⟨_,Za1,?_⟩,Zd0 _⟩;rw[<- eN];exact Zc4 (Zi6 R _) (.cons (v.keep k3) (Zm6 R _))
  show ∃x_2,_;refine⟨d,.inl (SqL.of n),rfl,?_⟩
  by_cases hend:plc (norm (ws++c.take i)) t=d.length
  ·rw[if_pos (by rw[hend]),if_pos trivial]
   refine⟨.inl ⟨rfl,_,SqL.of n⟩,d,_,rfl,n,by omega,by omega,M H2 (e.trans j) n j.keepT fun z=>?_⟩;have:=(ze.mp ((Zr5 p).mp z)).1;omega
  ·have N:plc (norm (ws++c.take i)) t < d.length:=by omega
   rw[if_neg (fun z=>hend (by injection z with z;omega))];obtain⟨y,S,q0⟩:=paired_get I (za N);have my:=yc S;refine⟨d,_,rfl,SqL.of n,_,Zd3 (za N),_,x,y,t,rfl,q0.keep j.keepT,v.keep j.keepT,(W y my).1,(B t mt).1,by have:=(W y my).2;omega,fun f L=>⟨rfl,?_⟩⟩;have G:=L _ _ n
   by_cases hyt:y=t
   ·have Z:=(Yf0 y t).mpr hyt
    rw[Z,if_neg (by decide)];exact q7 f (e.trans (j.trans L)) G (j.trans L).keepT ((Zr5 p).mpr (by rw[S,hyt]))
   ·have Z:¬cmpT y t=0:=fun z=>hyt ((Yf0 y t).mp z)
    rw[if_pos (by
     have:¬V.int (cmpT y t)=V.int 0:=fun z=>Z (by injection z)
     rw[decide_eq_false this];rfl)]
    refine⟨.inl ⟨rfl,_,SqL.of G⟩,d,_,rfl,G,by omega,by omega,M f (e.trans (j.trans L)) G (j.trans L).keepT fun z=>?_⟩;have:=(Zr5 p).mp z;rw[S] at this;cases this;exact hyt rfl
 rintro q9 H2 ⟨u,r,rfl,j,q4⟩;walk_at "1";exact q _ _ j f1 q4
theorem sc_aw0:FnScope ["_law_cell_here","_law_many","_law_words_here","_law_form","_law_first","_law_one"] ["_law_cell_here","_law_many","_law_words_here"] (Za6 (top 51)):=scm (by decide +kernel)
inductive sp_stm21 (K:W.Frag)(n:Nat):Sp
 |mk {vs H Q E:_} (c many:Int) (wa:Addr) (ws:List Str):vs=[.int c,.int many,.ref wa]->0<=c->1<=many->many<=61->(many.toNat+1) / 2<=n->SqL K H wa (ws.map V.str)->Yi8 ws->(∀(r:V) (H':Hp) (t:Tm),Same H H'->Made K H' ws many.toNat ((many.toNat+1) / 2) r t->Q r H')->sp_stm21 K n vs H Q E
theorem Xu7 (h0:0<=c)(h1:c < 5):(∃kd:Kd,atI [V.str "both",V.str "one",V.str "then",V.str "then",V.str "not"] c=some (.str kd.str))∨atI [V.str "both",V.str "one",V.str "then",V.str "then",V.str "not"] c=some (.str "not"):=by
 have:c=0∨c=1∨c=2∨c=3∨c=4:=by omega
 rcases this with rfl | rfl | rfl | rfl | rfl
 ·exact .inl ⟨.both,rfl⟩
 ·exact .inl ⟨.one,rfl⟩
 ·exact .inl ⟨.thn,rfl⟩
 ·exact .inl ⟨.thn,rfl⟩
 ·exact .inr rfl
theorem Wm8 (F_aw0:Fun K "_law_statement" "_law_statement" (top 51) f_aw0 fd_aw0)(G_aw0:Fk0 P w K mg base k f_aw0 fd_aw0 pq1 (sp_stm21 K n))(m_aw0:MgI mg "_law_statement" f_aw0)(k_aw0:KpI K f_aw0)(b_aw0:Binds K fd_aw0 pq1 [])(C__law_mix:Cl P w K mg base k "_law_mix" pq0 (sp_mix))(m_len:mg "len"=none):Fk0 P w K mg base (k+1) f_aw0 fd_aw0 pq1 (sp_stm21 K (n+1)):=by
 refine F_aw0.okG sc_aw0 fun q1 A M s H vs Q E m h Gx J=>?_;obtain⟨c,g,C,d,rfl,q0,h0,h1,hn,t,u,q⟩:=h
 refine J _ ⟨_,(Za4 (Zc7 (ptcM (Zo3) (pvM 1) Za5)
  (Za4 (Zc7 (ptcM (Zd1) (Zb0 Zc2 (pvM 0) Za5) Za5)
  (Za7 (Zb2 (Zc0 (Za0 Zb6 Za3))))
  Zb4)
 (Za7 (Zb2 (Zc0 (Za0 Zb6 (Za0 (pxlM (pvM 2) (Zb0 Zc2 (Zb0 Zc5 (pvM 0) Za5) (Zc1 Zb5 (by exact rfl) m_len Zc9 (Za0 (pvM 2) Za3)))) Za3))))))
  Zb4)
 (Za4 (pst 3 sc_aw0.nd (pxlM (Zb7 (Za0 Zb6 (Za0 Zb6 (Za0 Zb6 (Za0 Zb6 (Za0 Zb6 Za3)))))) (Zb0 Zc2 (pvM 0) Za5)))
 (Za4 (Zc7 (ptcM (Zd1) (pvM 3) Zb6)
  (Za7 (Zb2 (Zc0 (Za0 Zb6 (Za0 (pcl G_aw0 m m_aw0 k_aw0 b_aw0 (Za0 (Zb8 C__law_mix m (Za0 (pvM 0) (Za0 Za5 Za3))) (Za0 (Zb0 Zl1 (pvM 1) Za5) (Za0 (pvM 2) Za3)))) (Za0 (Zc0 (Za0 Zb6 Za3)) Za3))))))
  Zb4)
 (Za4 (pst 4 sc_aw0.nd (Zb0 Zd2 Za5 (Zb0 Zi7 (Zb0 Zc2 (Zb0 Zc5 (pvM 0) Za5) (Zb0 Zc5 (Zb0 Zl1 (pvM 1) Za5) Za5)) Za5)))
 (Za4 (pst 5 sc_aw0.nd (pcl G_aw0 m m_aw0 k_aw0 b_aw0 (Za0 (Zb8 C__law_mix m (Za0 (pvM 0) (Za0 Za5 Za3))) (Za0 (pvM 4) (Za0 (pvM 2) Za3)))))
 (Za7 (Zb2 (Zc0 (Za0 (pvM 3) (Za0 (pvM 5) (Za0 (pcl G_aw0 m m_aw0 k_aw0 b_aw0 (Za0 (Zb8 C__law_mix m (Za0 (pvM 0) (Za0 Za5 Za3))) (Za0 (Zb0 Zl1 (Zb0 Zl1 (pvM 1) Za5) (pvM 4)) (Za0 (pvM 2) Za3)))) Za3))))))))))),?_⟩
 have h2:=u.1
 have F:((d.map V.str).length:Int)=d.length:=by rw[yh]
 walk_at "1";refine ite2 (fun T=>?_) (fun T=>?_)
 ·refine⟨by decide,ite2 (fun _=>?_) (fun _=>?_)⟩
  ·exact⟨by decide,fun p l=>q _ _ _ (Za2 l _) ((Yu6 d l).mono (fun _ _ z=>z) (by omega) (by omega))⟩
  ·refine⟨⟨by decide,by decide⟩,_,.inl t,by rw[F];omega,_,t,?_⟩
   rw[F];obtain⟨v,S,e⟩:=Zo8 (xs:=d.map V.str) (i:=c / 6 % (d.length:Int)) (yr _ (by omega)) (by rw[F];exact yp _ (by omega));obtain⟨x,R,rfl⟩:=zah.mp S;exact⟨_,e,by decide,fun p l=>q _ _ _ (Za2 l _) ((Xs2 R l).mono (fun _ _ z=>z) (by omega) (by omega))⟩
 ·refine⟨by decide,fun p l=>⟨by decide,_,SqL.of Za1,?_⟩⟩
  have Y:=yr c (show (5:Int)≠0 by decide);have X:=yp c (show (0:Int) < 5 by decide);have o:Same H (upd H p (.lst [V.str "both",V.str "one",V.str "then",V.str "then",V.str "not"])):=Za2 l _;generalize upd H p (.lst [V.str "both",V.str "one",V.str "then",V.str "then",V.str "not"])=H1 at o ⊢;rcases Xu7 Y X with ⟨I,G⟩ | G
  ·refine⟨_,G,rfl,?_⟩
   rw[if_neg (by cases I<;>decide)];have W:=yr (c / 5) (show (g - 1) / 2≠0 by omega);have U:=yp (c / 5) (show 0 < (g - 1) / 2 by omega);refine⟨⟨by decide,by decide⟩,⟨by decide,by decide⟩,by omega,Yb4 (by decide) (by decide),_,_,rfl,by decide,by decide,?_⟩;generalize c / 5 % ((g - 1) / 2)=j at W U ⊢;refine⟨_,_,C,d,rfl,Zk1 _ _,by omega,by omega,by omega,o.seq t,u,fun x Z a B D=>?_⟩;refine⟨_,_,rfl,by decide,by decide,?_⟩;refine⟨_,_,C,d,rfl,Zk1 _ _,by omega,by omega,by omega,(o.trans B).seq t,u,fun y H3 b L O=>?_⟩;refine⟨by decide,fun N f=>q _ _ _ (((o.trans B).trans L).trans (Za2 f _)) ((Xi7 (k:=I) (D.mono L.keepT (yo _) (yo _)) O f).mono (fun _ _ z=>z) (by omega) (by omega))⟩
  ·refine⟨_,G,rfl,?_⟩
   rw[if_pos rfl];refine⟨_,_,rfl,by decide,by decide,?_⟩;refine⟨_,_,C,d,rfl,Zk1 _ _,by omega,by omega,by omega,o.seq t,u,fun x Z a B D=>?_⟩;refine⟨by decide,fun p2 r=>⟨by decide,fun N f=>?_⟩⟩;exact q _ _ _ (((o.trans B).trans (Za2 r _)).trans (Za2 f _)) ((Xi7 (k:=.thn) (D.mono (Zf3 r) (yo _) (yo _)) (Yu6 d r) f).mono (fun _ _ z=>z) (by omega) (by omega))
theorem sc_as0:FnScope ["_law_some","_law_found_here","_law_one"] ["_law_some"] (Za6 (top 53)):=scm (by decide +kernel)
abbrev nn2:List Str:=["_law_wishes","_law_on","_law_more"]
theorem Wh1:FnScope nn2 nn2 (Za6 (top 55)):=scm (by decide +kernel)
theorem Wn2 {k:Nat}(F_as0:Df K mg "_law_once" (top 53) ["_law_some"])(m_sorted:mg "sorted"=none):Cl P w K mg base (k+1) "_law_once" ["_law_some"] (sp_onceL K):=by
 refine F_as0.okG sc_as0 fun fx j4 A j1 s H g Q E hr h Gx j0=>?_;obtain⟨a,us,ts,rfl,ha,hT,T,hl,q⟩:=h
 refine j0 _ ⟨_,(Za4 (pst 1 sc_as0.nd (Zb7 Za3))
 (Za4 (Zj3 zae rfl (Ze4 (Zc1 (Yn0 rfl (Zg7 hr)) (by exact rfl) m_sorted Zr8 (Za0 (pvM 0) Za3))) (pgn 2 sc_as0.nd)
  (Za7 (Zc7 (Zp5 (Xh4 (Zg7 hr)) (pvM 2) (Ze8 Zi3 (pvM 1) (Zg2 (Yq0 Zz6 Za5)) Zg3) (by with_unfolding_all rfl))
  (Za7 (Zi5 (Zv2 zad zam zaq Zg6 (pvM 1) (Za0 (pvM 2) Za3))))
  Zb4)))
 (Za7 (Zb2 (pvM 1))))),?_⟩
 refine sqk (fun C=>∀f d,Same H f->H d=none->f d=some (.lst [])->C [some (.ref a),some (.ref d),none] f) (fun C hC=>?_) fun H1 d e1 f1 h1=>?_
 ·walk_at "1"
  exact⟨by decide,fun p L=>hC _ p (Za2 L _) L Za1⟩
 refine sqt (fun n f=>∃B,n=[some (.ref a),some (.ref d),B]/\Same H f/\IsW K f d (norm ts)) ?_ ?_
 ·intro C hC
  walk_at "2";have q9:Paired (IsT K H1) us ts:=Paired.mapP hT fun _ _ z=>z.keep e1.keepT;refine⟨us,e1 _ _ ha,ts,q9,fun t u=>⟨(T t u).1,by have:=(T t u).2;have:=Zd5 t;omega⟩,hl,fun l X j m q1 R q6=>⟨⟨_,SqL.of Za1⟩,?_⟩⟩;have s1:=Za2 m (HO.lst X)
  have q4:l≠d:=fun z=>by rw[z,h1] at m;cases m
  have lw:=zc q1;have lo:j.length=ts.length:=R.length_eq;have S:∀t∈j,t.ok/\t.parts<=100:=fun t u=>T t (R.mem_iff.mp u);refine Zy7 (D:={ nx:=C,rt:=Q }) (xs:=X) (fun i n f=>∃(B:Option V) (g:List V) (c:List Tm),n=[some (.ref a),some (.ref d),B]/\Same H f/\KeepT K (upd H1 l (HO.lst X)) f/\f l=some (.lst X)/\f d=some (.lst g)/\Paired (IsT K f) g c/\Zd7 c/\(∀x,x∈c↔x∈j.take i)/\c.getLast?=(j.take i).getLast?/\c.length<=i) ⟨none,[],[],rfl,e1.trans s1,fun _ _ z=>z,Za1,s1 _ _ h1,.nil,.nil,fun x=>by simp,by simp,yo _⟩ (fun i n f _ zZ=>by obtain⟨_,_,_,_,_,_,h,_⟩:=zZ;exact SqL.of h) (fun i v n f hv L=>?_) (fun n f ⟨B,g,c,g1,g2,g3,g4,g5,g6,g7,g8,g9,g10⟩=>hC _ _ ⟨B,g1,g2,?_⟩)
  ·obtain⟨B,g,c,rfl,e,kk,q7,hd,hV,hS,U,Z,j3⟩:=L
   obtain⟨t,u,q5⟩:=paired_get q1 hv;have N:IsT K f v t:=(q5.keep s1.keepT).keep kk;have mt:=yc u;have hi:i < j.length:=(ze.mp u).1;have lv:=zc hV;walk_at "1";refine⟨g,SqL.of hd,fun p L=>?_⟩;rw[Xt9];have r:=Za2 L (HO.lst (g.drop (g.length - 1)));have I:=r _ _ hd;have q3:=r _ _ q7;have q0:=kk.trans r.keepT;have Y:j.take (i+1)=j.take i++[t]:=Zf6 u
   have q2:(j.take (i+1)).getLast?=some t:=by rw[Y,List.getLast?_append];simp
   have W:=Za8 r.keepT hV;refine⟨t,N.keep r.keepT,_,SqL.of Za1,c.drop (c.length - 1),lv▸Zm6 W (g.length - 1),(S t mt).1,fun s hs=>(S s (zbf ((U s).mp (ybf hs)))).1,by have:=(S t mt).2;have:=Zd5 t;omega,?_⟩
   by_cases hin:c.getLast?=some t
   ·have G:t∈c.drop (c.length - 1):=mem_last.mpr hin
    rw[if_neg (by rw[if_pos trivial,decide_eq_true G];exact zg)];refine⟨e.trans r,q0,q3,g,I,c,W,hS,fun x=>?_,by rw[hin,q2],by omega⟩;rw[U x,Y,yd,zb];exact⟨.inl,fun h=>h.elim id fun z=>z▸(U t).mp (ybf G)⟩
   ·have G:¬t∈c.drop (c.length - 1):=fun z=>hin (mem_last.mp z)
    rw[if_pos (by rw[if_pos trivial,decide_eq_false G];rfl)];have M:KeepT K _ _:=Ze0 (K:=K) (o:=HO.lst (g++[v])) I;refine⟨.inl ⟨rfl,_,SqL.of I⟩,g,I,Zb1 (by omega),(e.trans r).write f1,q0.trans M,by rw[Zb3 q4];exact q3,_,Za1,c++[t],Zc4 (Za8 M W) (.cons ((N.keep r.keepT).keep M) .nil),?_,fun x=>?_,?_,by rw[zf,zd];omega⟩
    ·have wk:∀y∈j.take i,ltT t y=false:=fun y J=>by
      have O:List.Pairwise (fun a b=>ltT b a=false) (j.take (i+1)):=q6.sublist (List.take_sublist _ _);rw[Y] at O;exact (ybq.mp O).2.2 y J t (zb.mpr rfl)
     refine ybq.mpr ⟨hS,yam _ _,fun y J z hz=>?_⟩;rw[zb.mp hz]
     by_cases hyt:y=t
     ·subst hyt
      obtain⟨l',m⟩:∃l',c.getLast?=some l':=by
       cases hg:c.getLast? with
       |none=>rw[List.getLast?_eq_none_iff.mp hg] at J;cases J
       |some l'=>exact⟨l',rfl⟩
      have ml:l'∈j.take i:=List.mem_of_getLast? (Z▸m);rcases Wb5 hS J m with z | z
      ·exact absurd (z▸m) hin
      ·rw[wk l' ml] at z;cases z
     ·exact (Yq5 hyt).elim id fun z=>by rw[wk y ((U y).mp J)] at z;cases z
    ·rw[yd,U x,Y,yd]
    ·rw[q2,List.getLast?_append];simp
  ·have q8:c=norm ts:=Zo4 g7 fun x=>by rw[g8 x,lw,zaa,R.mem_iff]
   rw[<- q8];exact⟨⟨g,g5,g6⟩,g7⟩
 rintro j2 H2 ⟨B,rfl,e2,hW⟩;walk_at "1";exact q _ _ e2 f1 hW
theorem Wn7 {k:Nat}(F_am0:Fun K "_law_changed" "_law_changed" (top 55) f_am0 fd_am0)(C__law_once:Cl P w K mg base k "_law_once" ["_law_some"] (sp_onceL K)):Fk0 P w K mg base (k+1) f_am0 fd_am0 nn2 (sp_changedL K):=by
 refine F_am0.okG Wh1 fun q0 A O s H vs Q E m h Gx J=>?_;obtain⟨a,b,ov,o,c,B,R,rfl,Y,Z,C,op,X,I,g,y,hl,q⟩:=h;refine J _ ⟨_,(Za7 (Zb2 (Zb8 C__law_once m (Za0 (Zb0 Zf0 (Zt1 (blkD (N':=["_law_wish_here","_law_on"]) (nt:=1) (ci:=[1]) nn2 (Za6 (top 55))) rfl (Ze4 (pvM 0)) (fun _ _ _ _=>(pgn 0 (ndS ["_law_wish_here","_law_on"]))) (fun _ _=>Zh7) (fun _ _ _ _ _=>(Zh3 (ptcM (Zk0 (K:=K) rfl (Zg7 m)) (pvM 0) (pvM 1)) (Zf1 (pvM 0))))) (pvM 2)) Za3)))),?_⟩;walk_at "1";obtain⟨⟨as,F,L⟩,hS⟩:=Y;have U:=zc L;refine⟨⟨_,SqL.of F⟩,fun x j=>?_⟩;refine Zu0 (xs:=as) (fun i d=>Same H d/\∃ys,d x=some (.lst ys)/\Paired (IsT K d) ys (rem (c.take i) o)) ⟨Za2 j _,[],Za1,.nil⟩ (fun i d _ ⟨e,_⟩=>SqL.of (e _ _ F)) (fun i v d N hv ⟨e,ys,h,hP⟩ hN=>?_) (fun d ⟨e,ys,h,hP⟩=>?_)
 ·obtain⟨t,f,G⟩:=paired_get L hv
  have u:=G.keep (K:=K) e.keepT;have n:=yc f;have hi:i < c.length:=(ze.mp f).1
  have M:rem (c.take (i+1)) o=rem (c.take i) o++rem [t] o:=by rw[Zf6 f];unfold rem;rw[List.filter_append]
  have T:(rem (c.take i) o).length<=i:=by
   have h1:(rem (c.take i) o).length<=(c.take i).length:=yu _ _;rw[zq] at h1;omega
  have S:=zc hP;walk_at "1";refine⟨Ze2 (i:=0) rfl,t.data,u,o.data,Z.keep e.keepT,t.lay (g t n).1,o.lay C,by rw[Tm.depth];have:=(g t n).2;have:=Zd5 t;omega,?_⟩;rw[Tm.eqv]
  by_cases hto:t=o
  ·rw[if_neg (by rw[if_pos trivial,decide_eq_true hto];exact zg)]
   refine hN _ ⟨e,ys,h,?_⟩;rw[M,show rem [t] o=[] by unfold rem;simp[hto],yaa];exact hP
  ·rw[if_pos (by rw[if_pos trivial,decide_eq_false hto];rfl)]
   have D:KeepT K d (upd d x (.lst (ys++[v]))):=Ze0 h;refine⟨ys,h,Zb1 (by omega),hN _ ⟨e.write j,_,Za1,?_⟩⟩;rw[M,show rem [t] o=[t] by unfold rem;simp[hto]];exact Zc4 (Za8 D hP) (.cons (u.keep D) .nil)
 ·rw[U,zaa] at hP
  have lt:=zc I;have S:=zc hP;have T:(rem c o).length<=c.length:=yu _ _;refine⟨ys,h,B,e _ _ X,zk (Zb1 (by omega)),fun p W=>?_⟩;have l:=Za2 W (HO.lst (ys++B));refine⟨p,_,rem c o++R,rfl,Za1,Zc4 (Za8 l.keepT hP) (Za8 (e.trans l).keepT I),fun t f=>(yd.mp f).elim (fun z=>g t (mem_rem.mp z).1) (y t),by rw[zf];omega,fun r H2 e2 m V=>q r H2 ((e.trans l).trans e2) (((e.trans l)).free m) V⟩
theorem Wg9:FnScope ["_law_statement_here"] ["_law_statement_here"] (Za6 (top 52)):=scm (by decide +kernel)
theorem Wg8:FnScope ["_law_some","_law_cell_here","_law_other"] ["_law_some","_law_cell_here","_law_other"] (Za6 (top 56)):=scm (by decide +kernel)
theorem sc_ao0:FnScope ["_law_lines","_law_start","_law_goal","_law_form","_law_k","_law_at"] ["_law_lines","_law_start","_law_goal","_law_form"] (Za6 (top 57)):=scm (by decide +kernel)
theorem Wn1 (F_at0:Fun K "_law_parts" "_law_parts" (top 52) f_at0 fd_at0)(G_at0:Fk0 P w K mg base k f_at0 fd_at0 pq16 (sp_partsL K n))(m_at0:MgI mg "_law_parts" f_at0)(k_at0:KpI K f_at0)(b_at0:Binds K fd_at0 pq16 [])(m_len:mg "len"=none):Fk0 P w K mg base (k+1) f_at0 fd_at0 pq16 (sp_partsL K (n+1)):=by
 refine F_at0.okG Wg9 fun u A i s H z Q E f h F g=>?_;obtain⟨v,t,rfl,b,B,q⟩:=h
 refine g _ ⟨_,(Za4 (Zc7 (ptcM (Zo3) (Zc1 Zb5 (by exact rfl) m_len Zc9 (Za0 (pvM 0) Za3)) Za5)
  (Za7 (Zb2 Za5))
  Zb4)
 (Za7 (Zb2 (Zb0 Zd2 (Zb0 Zd2 Za5 (pcl G_at0 f m_at0 k_at0 b_at0 (Za0 (pxtM (pvM 0) Za5) Za3))) (pcl G_at0 f m_at0 k_at0 b_at0 (Za0 (pxtM (pvM 0) Za5) Za3)))))),?_⟩
 walk_at "1"
 cases t with
 |low =>
  obtain⟨p,rfl,a⟩:=isT_low.mp b;refine⟨p,rfl,_,.inr a,?_⟩;rw[if_pos (by decide)];exact q _ (Same.refl _)
 |ltr y =>
  obtain⟨p,rfl,a⟩:=isT_ltr.mp b;refine⟨p,rfl,_,.inr a,?_⟩;rw[if_pos (by show (2:Int) < 3;decide)];exact q _ (Same.refl _)
 |nd kk c d =>
  obtain⟨p,x,y,rfl,a,l,j⟩:=isT_nd.mp b
  have r:1+max c.deep d.deep<=n:=by have:(Tm.nd kk c d).deep=1+max c.deep d.deep:=rfl;omega
  refine⟨p,rfl,_,.inr a,?_⟩;rw[if_neg (by show ¬(3:Int) < 3;decide)];refine⟨p,rfl,_,a,_,rfl,x,c,rfl,l,by omega,fun D e=>⟨_,rfl,p,rfl,_,e.sqt a,_,rfl,y,d,rfl,j.keep e.keepT,by omega,fun C o=>?_⟩⟩;have:=q _ (e.trans o)
  have m:(((Tm.nd kk c d).parts:Nat):Int)=1+(c.parts:Int)+(d.parts:Int):=by
   show (((1+c.parts+d.parts:Nat)):Int)=_;omega
  rw[m] at this;exact⟨_,rfl,this⟩
theorem Yy5 :Fk0 P w K mg base k f fd ps (sp_partsL K 0):=by
 have b:∀a H Q E,¬sp_partsL K 0 a H Q E:=fun a H Q E h=>by
  obtain⟨v,t,_,_,g,_⟩:=h;omega
 exact⟨fun a H Q E h=>absurd h (b a H Q E),fun A c s H d e a Q E _ _ _ _ h=>absurd h (b a H Q E)⟩
theorem Xo3 (F_at0:Fun K "_law_parts" "_law_parts" (top 52) f_at0 fd_at0)(m_at0:MgI mg "_law_parts" f_at0)(b_at0:Binds K fd_at0 pq16 [])(m_len:mg "len"=none) :
  ∀n:Nat,Fk0 P w K mg base (n+1) f_at0 fd_at0 pq16 (sp_partsL K n)
 | 0=>Yy5
 |n+1=>Wn1 F_at0 (Xo3 F_at0 m_at0 b_at0 m_len n) m_at0 F_at0.kp b_at0 m_len
theorem Wn0 {k:Nat}(F_au0:Df K mg "_law_pick" (top 56) pq14)(m_len:mg "len"=none):Cl P w K mg base (k+1) "_law_pick" pq14 (sp_pick K):=by
 refine F_au0.okG Wg8 fun T O A B s H R Q E G h U z=>?_;obtain⟨a,c,S,d,f,o,rfl,M,y,r,u,q⟩:=h
 refine z _ ⟨_,(Za4 (Zc7 ((Yp7 (ptcM (Xh7 (Zg7 G)) (pvM 0) (Zb7 Za3)) (Ya8 (ptcM (Zd1) (Zb0 Zc2 (pvM 1) Za5) Za5)))).pt
  (Za7 (Zb2 (pvM 2)))
  Zb4)
 (Za7 (Zb2 (pxlM (pvM 0) (Zb0 Zc2 (Zb0 Zc5 (pvM 1) Za5) (Zc1 Zb5 (by exact rfl) m_len Zc9 (Za0 (pvM 0) Za3))))))),?_⟩
 walk_at "1";have C:d.length=f.length:=zc y;refine⟨by decide,fun p J=>?_⟩;have b:=Za2 J (HO.lst []);have g:=Za8 b.keepT y;have e:=b _ _ M;have m:upd H p (HO.lst []) p=some (.lst []):=Za1;have n:∀t∈f,t.ok:=fun t h=>(r t h).1;generalize upd H p (HO.lst [])=H1 at b g e m ⊢;refine⟨.list (f.map Tm.data),?_,.list [],?_,Zu7 n,rfl,zi (zbe _ _) (by decide),?_⟩
 ·rw[Dn];exact⟨a,d,rfl,SqL.of e,Yd2 g⟩
 ·rw[Dn];exact⟨p,[],rfl,SqL.of m,by rw[DnAll]⟩
 rw[if_neg zg]
 cases f with
 |nil =>
  rw[if_pos (by rfl),if_pos trivial];exact q _ _ _ b (u.keep b.keepT) (.inl rfl)
 |cons t0 f =>
  rw[if_neg (show ¬(zax (.list ((t0::f).map Tm.data)) (.list []))=true from zg)];refine⟨by decide,ite2 (fun _=>q _ _ _ b (u.keep b.keepT) (.inl rfl)) fun _=>?_⟩
  have I:0 < d.length:=by rw[C];exact ycq _
  obtain⟨v,D,x⟩:=Zo8 (xs:=d) (i:=c / 4 % ((d.length:Nat):Int)) (yr _ (by omega)) (yp _ (by omega));obtain⟨j,L,N⟩:=zw D;obtain⟨t,F,l⟩:=paired_get g (za L);rw[N] at l;exact⟨⟨by decide,by decide⟩,d,.inl (SqL.of e),by omega,d,SqL.of e,v,x,q _ _ _ b l (.inr (yc F))⟩
theorem Wn5 {k:Nat}(F_ao0:Df K mg "_law_found" (top 57) pq9)(m_range:mg "range"=none)(m_len:mg "len"=none):Cl P w K mg base (k+1) "_law_found" pq9 (sp_found K):=by
 refine F_ao0.okG sc_ao0 fun fx q9 A q4 s H vs Q E hr h Gx q3=>?_;obtain⟨a,c,L,b,O,F,x,rfl,M,hL,Z,hn,hO,q0,W⟩:=h
 refine q3 _ ⟨_,(Za4 (Zj3 zae rfl (Zj1 rfl m_range (Za0 (Zc1 Zb5 (by exact rfl) m_len Zc9 (Za0 (pvM 0) Za3)) Za3)) (pgn 4 sc_ao0.nd)
  (Za4 (pst 5 sc_ao0.nd (Zb0 Zc2 (Zb0 Zd2 (pvM 1) (pvM 4)) (Zc1 Zb5 (by exact rfl) m_len Zc9 (Za0 (pvM 0) Za3))))
 (Za7 (Zc7 ((Yp7 (ptcM (Xh7 (Zg7 hr)) (pxtM (pxlM (pvM 0) (pvM 5)) Za5) (pvM 2)) (Ya8 ((Zq6 (ptcM (Yd7) (pvM 2) Ze3) (Zk9 (ptcM (Zd1) (pxtM (pxtM (pxlM (pvM 0) (pvM 5)) Za5) Za5) (pvM 3))))).pt))).pt
  (Za7 (Zb2 (pvM 5)))
  Zb4))))
 (Za7 (Zb2 Ze3))),?_⟩
 have lu:c.length=L.length:=zc hL;refine sqt (fun d v=>Same H v/\(∃B y,d=[some (.ref a),some (.int b),some O,some (.str x),B,y])/\∀l∈L,¬Ye7 F x l) ?_ ?_
 ·intro C hC
  walk_at "2";refine⟨c,.inl (SqL.of M),by omega,by omega,?_⟩;refine Zm1 (D:={ nx:=C,rt:=Q }) (n:=((c.length:Nat):Int).toNat) (lo:=0) (fun i d v=>Same H v/\(∃B y,d=[some (.ref a),some (.int b),some O,some (.str x),B,y])/\∀(j:Nat) l,j < i->L[((b+(j:Int)) % (L.length:Int)).toNat]?=some l->¬Ye7 F x l) ⟨Same.refl _,⟨none,none,rfl⟩,fun j l o=>absurd o (zct _)⟩ (fun i d v q7 hp=>?_) (fun d v ⟨N,h2,h3⟩=>hC _ _ ⟨N,h2,fun l u=>?_⟩)
  rotate_left
  ·obtain⟨j,o,rfl⟩:=zw u
   have T:(L.length:Int)≠0:=by omega
   have U:=yr ((j:Int) - b) T;have m1:=yp ((j:Int) - b) (show 0 < (L.length:Int) by omega);refine h3 (((j:Int) - b) % (L.length:Int)).toNat _ (by omega) ?_
   have e:(b+(((((j:Int) - b) % (L.length:Int)).toNat:Nat):Int)) % (L.length:Int)=(j:Int):=by
    rw[Int.toNat_of_nonneg U,Int.add_emod,Int.emod_emod_of_dvd _ (Int.dvd_refl _),<- Int.add_emod,show b+((j:Int) - b)=(j:Int) by omega];exact Int.emod_eq_of_lt (by omega) (by omega)
   rw[e,zcg];exact za o
  obtain⟨e,⟨B,y,rfl⟩,I⟩:=hp
  have T:(L.length:Int)≠0:=by omega
  have U:=yr (b+(i:Int)) T;have m1:=yp (b+(i:Int)) (show 0 < (L.length:Int) by omega);obtain⟨m,hm⟩:=Int.eq_ofNat_of_zero_le U
  have r:m < c.length:=by omega
  obtain⟨l,u,X⟩:=paired_get hL (za r);have G:=Z l (yc u)
  have J:∀l',¬Ye7 F x l->∀(j:Nat),j < i+1->L[((b+(j:Int)) % (L.length:Int)).toNat]?=some l'->¬Ye7 F x l':=fun l' hf j o q=>by
   rcases Nat.lt_or_ge j i with h | h
   ·exact I j l' h q
   ·have:j=i:=by omega
    subst this;rw[hm,zcg,u] at q;cases q;exact hf
  obtain⟨p,wa,la,q8,ov,ys,Y,N,h2,h3,h4,h5,h6⟩:=X;walk_at "1";refine⟨c,.inl (SqL.of (e _ _ M)),by omega,?_⟩;rw[show b+(0+(i:Int))=b+(i:Int) by omega,show ((c.length:Nat):Int)=(L.length:Int) by omega,hm];have ig:∀{R:Prop},(SqL K v a c/\atI c ((m:Nat):Int)=some c[m]->R)->R:=fun f=>f ⟨SqL.of (e _ _ M),Zd3 (za r)⟩;refine⟨c,SqL.of (e _ _ M),c[m],Zd3 (za r),p,Y,_,e.sqt N,_,rfl,l.g.data,h4.keep e.keepT,?_⟩
  cases F with
  |some t =>
   obtain⟨S,o2,o3⟩:=hO;refine⟨t.data,S.keep e.keepT,l.g.lay G.g,t.lay o2,zi (ybj _ _) (by rw[Tm.depth];have:=G.gp;have:=Zd5 l.g;omega),?_⟩;rw[if_neg zg,Tm.eqv]
   by_cases hc:l.g=t
   ·rw[if_pos (decide_eq_true hc),if_pos trivial]
    exact W m l u hc _ e
   ·rw[if_neg (by rw[decide_eq_false hc];exact zg)]
    have gn:O≠.non:=fun z=>by rw[z] at S;obtain⟨p,x,xs,A,e,_⟩:=Zp8 S;cases e
    rw[if_neg gn,if_neg zg];exact⟨e,fun j l' o q=>J l' hc j o q⟩
  |none =>
   have q2:O=.non:=hO;subst q2;refine⟨.none,by rw[Dn],l.g.lay G.g,rfl,zi (zbe _ _) (by decide),?_⟩
   have en:l.g.data.eqv .none=false:=by cases l.g<;>rfl
   rw[if_neg zg,en,if_neg zg,if_pos rfl];obtain⟨p2,q6,e2,h7⟩:=Zl8 (h4.keep e.keepT);refine⟨c,SqL.of (e _ _ M),c[m],Zd3 (za r),p,Y,_,e.sqt N,_,rfl,p2,e2,_,h7,_,at0 _ _,Ze6 _ _,?_⟩
   by_cases hc:Zk4 l.g=x
   ·rw[if_pos (by rw[hc])]
    exact W m l u hc _ e
   ·rw[if_neg (fun z=>hc (V.str.inj z))]
    exact⟨e,fun j l' o q=>J l' hc j o q⟩
 rintro q5 H1 ⟨e1,⟨B,y,rfl⟩,I⟩;walk_at "1";exact q0 I _ e1
abbrev nn3:List Str:=["_law_lines","_law_cell_here","_law_here","_law_there","_law_extra","_law_wishes","_law_goal","_law_form","_law_some","_law_one"]
theorem sc_ai0:FnScope nn3 ["_law_lines","_law_cell_here","_law_here","_law_there","_law_extra"] (Za6 (top 58)):=scm (by decide +kernel)
theorem Wo1 {k:Nat}(F_ai0:Df K mg "_law_by_goal" (top 58) pq6)(C__law_once:Cl P w K mg base k "_law_once" ["_law_some"] (sp_onceL K))(C__law_pick:Cl P w K mg base k "_law_pick" pq14 (sp_pick K))(m_len:mg "len"=none)(m_list:mg "list"=none):Cl P w K mg base (k+1) "_law_by_goal" pq6 (sp_bygoal K):=by
 refine F_ai0.okG sc_ai0 fun fx y6 A y1 s H vs Q E hr h Gx z8=>?_;obtain⟨a,us,L,c,i,j,W,ex,rfl,ha,hL,G,hi,hj,hE,F,q⟩:=h
 refine z8 _ ⟨_,(Za4 (pst 5 sc_ai0.nd (pxtM (pxlM (pvM 0) (pvM 2)) Za5))
 (Za4 (pst 6 sc_ai0.nd (pxtM (pxlM (pvM 0) (pvM 2)) Za5))
 (Za4 (pst 7 sc_ai0.nd (Zb0 Zc2 (pvM 1) Za5))
 (Za4 (Zc7 (ptcM (Zd1) (pvM 7) Za5)
  (Za4 (pst 8 sc_ai0.nd (Zb8 C__law_once hr (Za0 (Zb0 Zf0 (pvM 5) (Zb7 (Za0 (pvM 4) Za3))) Za3)))
 (Za7 (Zb2 (Zc0 (Za0 Zb6 (Za0 (pvM 8) (Za0 (pxlM (pvM 8) (Zb0 Zc2 (Zb0 Zc5 (pvM 1) Za5) (Zc1 Zb5 (by exact rfl) m_len Zc9 (Za0 (pvM 8) Za3)))) (Za0 Ze3 (Za0 (Zb7 Za3) Za3)))))))))
  Zb4)
 (Za4 (Zc7 (ptcM (Zd1) (pvM 7) Za5)
  (Za7 (Zb2 (Zc0 (Za0 Zb6 (Za0 (Zb8 C__law_once hr (Za0 (Zb0 Zf0 (pvM 5) (Zb7 (Za0 (Zc0 (Za0 Zb6 Za3)) Za3))) Za3)) (Za0 (pvM 4) (Za0 Ze3 (Za0 (Zb7 Za3) Za3))))))))
  Zb4)
 (Za4 (Zc7 (ptcM (Zd1) (pvM 7) Za5)
  (Za7 (Zb2 (Zc0 (Za0 Zb6 (Za0 (Zb8 C__law_once hr (Za0 (Zb0 Zf0 (pvM 5) (pxtM (pxlM (pvM 0) (pvM 3)) Za5)) Za3)) (Za0 (Zc0 (Za0 Zb6 (Za0 (pvM 6) (Za0 (pxtM (pxlM (pvM 0) (pvM 3)) Za5) Za3)))) (Za0 Ze3 (Za0 (Zb7 (Za0 (pvM 2) (Za0 (pvM 3) Za3))) Za3))))))))
  Zb4)
 (Za4 (Zc7 (ptcM (Zd1) (pvM 7) Za5)
  (Za7 (Zb2 (Zc0 (Za0 Zb6 (Za0 (Zg4 Ze9 (by exact rfl) m_list Zf8 (Za0 (pvM 5) Za3)) (Za0 (Zc0 (Za0 Zb6 (Za0 (pvM 6) (Za0 (pvM 4) Za3)))) (Za0 Ze3 (Za0 (Zb7 (Za0 (pvM 2) Za3)) Za3))))))))
  Zb4)
 (Za4 (Zc7 (ptcM (Zd1) (pvM 7) Za5)
  (Za7 (Zb2 (Zc0 (Za0 Zb6 (Za0 (Zb8 C__law_once hr (Za0 (Zb0 Zf0 (pvM 5) (Zb7 (Za0 (pvM 4) Za3))) Za3)) (Za0 (Zc0 (Za0 Zb6 (Za0 (pvM 4) (Za0 (pvM 6) Za3)))) (Za0 Ze3 (Za0 (Zb7 (Za0 (pvM 2) Za3)) Za3))))))))
  Zb4)
 (Za4 (Zf7 (i:=9) sc_ai0.nd rfl (Or.inr rfl) (Zb8 C__law_pick hr (Za0 (pvM 5) (Za0 (Zb0 Zc5 (pvM 1) Za5) (Za0 (pvM 4) Za3)))))
 (Za7 (Zb2 (Zc0 (Za0 Zb6 (Za0 (Zt1 (blkD (N':=["_law_wish_here","_law_one"]) (nt:=1) (ci:=[9]) nn3 (Za6 (top 58))) rfl (Ze4 (pvM 5)) (fun _ _ _ _=>(pgn 0 (ndS ["_law_wish_here","_law_one"]))) (fun _ _=>Zh7) (fun _ _ _ _ _=>(Zh3 (ptcM (Zk0 (K:=K) rfl (Zg7 hr)) (pvM 0) (pvM 1)) (Zf1 (pvM 0))))) (Za0 (Zc0 (Za0 Zb6 (Za0 (pvM 9) (Za0 (pvM 6) Za3)))) (Za0 Ze3 (Za0 (Zb7 (Za0 (pvM 2) Za3)) Za3))))))))))))))))),?_⟩
 have lu:us.length=L.length:=zc hL
 have q4:i < us.length:=by omega
 have q3:j < us.length:=by omega
 obtain⟨b,T,z4⟩:=paired_get hL (za q4);obtain⟨lj,j7,z3⟩:=paired_get hL (za q3);have d:=G.ok b (yc T);have Z:=G.ok lj (yc j7);obtain⟨pi,wi,ai,J,oi,M,j9,i1,i2,i3,i4,i5,i6⟩:=z4;obtain⟨pj,wj,aj,gj,oj,yj,j8,j1,j2,j3,j4,j5,j6⟩:=z3;have y5:M.length=b.ws.length:=zc i3;have y4:yj.length=lj.ws.length:=zc j3;have w9:=d.w9;have y3:=Z.w9;refine sqk (fun C=>C [some (.ref a),some (.int c),some (.int (i:Nat)),some (.int (j:Nat)),some W,some (.ref wi),none,none,none,none] H) (fun C D=>?_) ?_
 ·walk_at "1"
  exact⟨us,SqL.of ha,_,Zd3 (za q4),pi,j9,_,i1,_,rfl,D⟩
 refine sqk (fun C=>C [some (.ref a),some (.int c),some (.int (i:Nat)),some (.int (j:Nat)),some W,some (.ref wi),some J,none,none,none] H) (fun C D=>?_) ?_
 ·walk_at "1"
  exact⟨us,SqL.of ha,_,Zd3 (za q4),pi,j9,_,i1,_,rfl,D⟩
 let PC0:(St->Hp->Prop)->Prop:=fun C=>C [some (.ref a),some (.int c),some (.int (i:Nat)),some (.int (j:Nat)),some W,some (.ref wi),some J,some (.int (c % 6)),none,none] H
 refine sqk PC0 (fun C D=>?_) ?_
 ·walk_at "1"
  exact⟨by decide,D⟩
 refine sqk PC0 (fun C D=>?_) ?_
 ·walk_at "1"
  refine ite2 (fun _=>?_) (fun _=>D);refine⟨by decide,fun p hp=>?_⟩;have u:=Za2 hp (HO.lst [W]);refine⟨M,u _ _ i2,_,Za1,zk (Zb1 (by show M.length+1<=1000;omega)),fun p1 Y=>Zi1 Y (Za8 u.keepT i3) (.cons (hE.keep u.keepT) .nil) d.ok.w F.w (by show b.ws.length+1 < 64;omega) fun r U e fr X=>?_⟩;obtain⟨⟨zs,z1,z2⟩,zS⟩:=X;have S:=u.trans e;have lz:zs.length=(norm (b.ws++[ex])).length:=zc z2
  have ne:0 < zs.length:=by rw[lz];exact ycu (Zd6 (zb.mpr rfl))
  obtain⟨v,hv,z7⟩:=Zo8 (xs:=zs) (i:=c / 6 % ((zs.length:Nat):Int)) (yr _ (by omega)) (yp _ (by omega));obtain⟨jx,z6,z9⟩:=zw hv;obtain⟨t,y,j0⟩:=paired_get z2 (za z6);rw[z9] at j0;have q0:=yc y;have O:Okw (norm (b.ws++[ex])):=Zh2 (Zh4 d.ok.w F.w);refine⟨⟨by decide,by decide⟩,r,rfl,zs,.inl (SqL.of z1),by omega,r,rfl,zs,SqL.of z1,v,z7,by decide,fun x n=>⟨by decide,fun p3 m=>?_⟩⟩;have f:=Za2 n (HO.lst []);exact q _ _ _ ((S.trans f).trans (Za2 m _)) (Zh0 (R:=some .wish) (on:=none) (ls:=[]) m (IsW.keep f ⟨⟨zs,z1,z2⟩,zS⟩) (j0.keep f.keepT) rfl Za1 (u.free fr) (S.free n)) ⟨⟨rfl,O,by have:=Ze1 b.ws [ex];rw[zd] at this;show (norm (b.ws++[ex])).length<=60;omega,(O t q0).1,(O t q0).2,yz _⟩,Xt0 (Zd0 _) (by show (if t∈norm (b.ws++[ex]) then _ else _)=_;rw[if_pos q0]) rfl⟩
 refine sqk PC0 (fun C D=>?_) ?_
 ·walk_at "1"
  refine ite2 (fun _=>?_) (fun _=>D);refine⟨by decide,fun p0 z5=>⟨by decide,fun p hp=>?_⟩⟩;have s0:=Za2 z5 (HO.tup [V.str "low"]);have z0:IsT K (upd H p0 (HO.tup [V.str "low"])) (.ref p0) .low:=isT_low.mpr ⟨p0,rfl,.inl (.inl Za1)⟩;have q8:=Za2 hp (HO.lst [V.ref p0]);have u:=s0.trans q8;have q2:Okw [Tm.low]:=Zg5 trivial (by decide);refine⟨M,u _ _ i2,_,Za1,zk (Zb1 (by show M.length+1<=1000;omega)),fun p1 Y=>Zi1 Y (Za8 u.keepT i3) (.cons (z0.keep q8.keepT) .nil) d.ok.w q2 (by show b.ws.length+1 < 64;omega) fun r U e fr X=>?_⟩;have S:=u.trans e;have O:Okw (norm (b.ws++[Tm.low])):=Zh2 (Zh4 d.ok.w q2);refine⟨by decide,fun x n=>⟨by decide,fun p3 m=>?_⟩⟩;have f:=Za2 n (HO.lst []);exact q _ _ _ ((S.trans f).trans (Za2 m _)) (Zh0 (R:=some .low) (on:=none) (ls:=[]) m (X.keep f) (hE.keep (S.trans f).keepT) rfl Za1 (u.free fr) (S.free n)) ⟨⟨rfl,O,by have:=Ze1 b.ws [Tm.low];rw[zd] at this;show (norm (b.ws++[Tm.low])).length<=60;omega,F.1,by have:=F.2;show ex.parts<=100;omega,yz _⟩,Xt0 (Zd0 _) (by show (if Tm.low∈norm (b.ws++[Tm.low]) then _ else _)=_;rw[if_pos (Zd6 (zb.mpr rfl))]) rfl⟩
 refine sqk PC0 (fun C D=>?_) ?_
 ·walk_at "1"
  refine ite2 (fun _=>?_) (fun _=>D);refine⟨us,SqL.of ha,_,Zd3 (za q3),pj,j8,_,j1,_,rfl,wj,rfl,M,i2,yj,j2,zk (Zb1 (by omega)),fun p1 Y=>Zi1 Y i3 j3 d.ok.w Z.ok.w (by omega) fun r U S fr X=>?_⟩;have O:Okw (norm (b.ws++lj.ws)):=Zh2 (Zh4 d.ok.w Z.ok.w);refine⟨us,SqL.of (S _ _ ha),_,Zd3 (za q3),pj,j8,_,S.sqt j1,_,rfl,by decide,fun x n=>⟨by decide,fun p3 m=>⟨by decide,fun p4 B=>?_⟩⟩⟩;have f:=Za2 n (HO.tup [V.str "both",J,gj]);have I:=Za2 m (HO.lst [V.int (i:Nat),V.int (j:Nat)]);have hb:IsT K (upd U x (HO.tup [V.str "both",J,gj])) (.ref x) (.nd .both b.g lj.g):=isT_nd.mpr ⟨x,J,gj,rfl,.inl (.inl Za1),i4.keep (S.trans f).keepT,j4.keep (S.trans f).keepT⟩;have q7:=d.g40;have q6:=Z.g40;exact q _ _ _ (((S.trans f).trans I).trans (Za2 B _)) (Zh0 (R:=some .both) (on:=none) (ls:=[(i:Int),(j:Int)]) B (X.keep (f.trans I)) (hb.keep I.keepT) rfl Za1 fr ((S.trans f).free m)) ⟨⟨rfl,O,by have:=Ze1 b.ws lj.ws;show (norm (b.ws++lj.ws)).length<=60;omega,⟨d.ok.g,Z.ok.g⟩,by show 1+b.g.parts+lj.g.parts<=100;omega,by show 2<=100;decide⟩,good2 (Zd0 _) rfl rfl hi T rfl (fun t y=>.inl (Zg9 y)) hj j7 rfl (fun t y=>.inl (Zd6 y))⟩
 refine sqk PC0 (fun C D=>?_) ?_
 ·walk_at "1"
  refine ite2 (fun _=>?_) (fun _=>D);refine⟨M,.inl (SqL.of i2),fun l hl=>⟨by decide,fun x n=>⟨by decide,fun p3 m=>⟨by decide,fun p4 B=>?_⟩⟩⟩⟩;have u:=Za2 hl (HO.lst M);have f:=Za2 n (HO.tup [V.str "one",J,W]);have I:=Za2 m (HO.lst [V.int (i:Nat)]);have S:=u.trans f;have hb:IsT K (upd (upd H l (HO.lst M)) x (HO.tup [V.str "one",J,W])) (.ref x) (.nd .one b.g ex):=isT_nd.mpr ⟨x,J,W,rfl,.inl (.inl Za1),i4.keep S.keepT,hE.keep S.keepT⟩;have X:IsW K (upd H l (HO.lst M)) l b.ws:=⟨⟨M,Za1,Za8 u.keepT i3⟩,G.sorted T⟩;have q7:=d.g40;have q6:=F.2;exact q _ _ _ ((S.trans I).trans (Za2 B _)) (Zh0 (R:=some .first) (on:=none) (ls:=[(i:Int)]) B (X.keep (f.trans I)) (hb.keep I.keepT) rfl Za1 hl (S.free m)) ⟨⟨rfl,d.ok.w,d.ok.wl,⟨d.ok.g,F.1⟩,by show 1+b.g.parts+ex.parts<=100;omega,by show 1<=100;decide⟩,Ym3 (show Zd7 b.ws from G.sorted T) rfl rfl hi T rfl (fun t y=>.inl y)⟩
 refine sqk PC0 (fun C D=>?_) ?_
 ·walk_at "1"
  refine ite2 (fun _=>?_) (fun _=>D);refine⟨by decide,fun p hp=>?_⟩;have u:=Za2 hp (HO.lst [W]);refine⟨M,u _ _ i2,_,Za1,zk (Zb1 (by show M.length+1<=1000;omega)),fun p1 Y=>Zi1 Y (Za8 u.keepT i3) (.cons (hE.keep u.keepT) .nil) d.ok.w F.w (by show b.ws.length+1 < 64;omega) fun r U e fr X=>⟨by decide,fun x n=>⟨by decide,fun p3 m=>⟨by decide,fun p4 B=>?_⟩⟩⟩⟩;have S:=u.trans e;have O:Okw (norm (b.ws++[ex])):=Zh2 (Zh4 d.ok.w F.w);have f:=Za2 n (HO.tup [V.str "one",W,J]);have I:=Za2 m (HO.lst [V.int (i:Nat)]);have hb:IsT K (upd U x (HO.tup [V.str "one",W,J])) (.ref x) (.nd .one ex b.g):=isT_nd.mpr ⟨x,W,J,rfl,.inl (.inl Za1),hE.keep (S.trans f).keepT,i4.keep (S.trans f).keepT⟩;have q7:=d.g40;have q6:=F.2;exact q _ _ _ (((S.trans f).trans I).trans (Za2 B _)) (Zh0 (R:=some .second) (on:=none) (ls:=[(i:Int)]) B (X.keep (f.trans I)) (hb.keep I.keepT) rfl Za1 (u.free fr) ((S.trans f).free m)) ⟨⟨rfl,O,by have:=Ze1 b.ws [ex];rw[zd] at this;show (norm (b.ws++[ex])).length<=60;omega,⟨F.1,d.ok.g⟩,by show 1+ex.parts+b.g.parts<=100;omega,by show 1<=100;decide⟩,Ym3 (Zd0 _) rfl rfl hi T rfl (fun t y=>.inl (Zg9 y))⟩
 refine sqk (fun C=>∀U v o,Same H U->IsT K U v o->S40 o->C [some (.ref a),some (.int c),some (.int (i:Nat)),some (.int (j:Nat)),some W,some (.ref wi),some J,some (.int (c % 6)),none,some v] U) (fun C D=>?_) fun H9 v o e9 hv q1=>?_
 ·walk_at "1"
  refine⟨⟨by decide,by decide⟩,wi,_,W,M,b.ws,ex,rfl,i2,i3,d.ok.w,hE,fun r t U e hr y=>D _ r t e hr ?_⟩;rcases y with rfl | y
  ·exact F
  ·exact d.s40 t y
 walk_at "1";refine⟨⟨_,SqL.of (e9 _ _ i2)⟩,fun y0 q5=>?_⟩;refine Zh1 (fun t=>decide (t≠o)) (e9 _ _ i2) (Za8 e9.keepT i3) (by omega) q5 (fun v'=>Ze2 (i:=0) rfl) (fun v' t U ys N q0 e hT h y2 hy hn=>?_) (fun U ys e h hP=>?_)
 ·walk_at "1"
  have q9:=d.ok.w t q0;refine⟨t.data,hT,o.data,hv.keep e.keepT,t.lay q9.1,o.lay q1.1,zi (ybj _ _) (by rw[Tm.depth];have:=q9.2;have:=Zd5 t;omega),?_⟩;rw[Tm.eqv]
  by_cases hto:t=o
  ·rw[if_neg (by rw[if_pos trivial,decide_eq_true hto];exact zg)]
   exact hn (decide_eq_false (fun z=>z hto)) _ (Same.refl _)
  ·rw[if_pos (by rw[if_pos trivial,decide_eq_false hto];rfl)]
   exact⟨ys,h,Zb1 (by omega),hy (decide_eq_true hto) _ (Same.refl _) h⟩
 ·refine⟨by decide,fun x n=>⟨by decide,fun p3 m=>⟨by decide,fun p4 B=>?_⟩⟩⟩
  have S:=e9.trans e;have f:=Za2 n (HO.tup [V.str "then",v,J]);have I:=Za2 m (HO.lst [V.int (i:Nat)]);have hb:IsT K (upd U x (HO.tup [V.str "then",v,J])) (.ref x) (.nd .thn o b.g):=isT_nd.mpr ⟨x,v,J,rfl,.inl (.inl Za1),hv.keep (e.trans f).keepT,i4.keep (S.trans f).keepT⟩;have X:IsW K U y0 (rem b.ws o):=⟨⟨ys,h,hP⟩,Zl6 (G.sorted T)⟩;have q7:=d.g40;have q6:=q1.2;have lr:(rem b.ws o).length<=b.ws.length:=yu _ _
  exact q _ _ _ (((S.trans f).trans I).trans (Za2 B _)) (Zh0 (R:=some .thn) (on:=none) (ls:=[(i:Int)]) B (X.keep (f.trans I)) (hb.keep I.keepT) rfl Za1 (e9.free q5) ((S.trans f).free m)) ⟨⟨rfl,fun t y=>d.ok.w t (mem_rem.mp y).1,by show (rem b.ws o).length<=60;omega,⟨q1.1,d.ok.g⟩,by show 1+o.parts+b.g.parts<=100;omega,by show 1<=100;decide⟩,Ym3 (show Zd7 (rem b.ws o) from Zl6 (G.sorted T)) rfl rfl hi T rfl (fun t y=>by
   by_cases hto:t=o
   ·exact .inl (Zd6 (zb.mpr hto))
   ·exact .inr (mem_rem.mpr ⟨y,hto⟩))⟩
abbrev nn4:List Str:=["_law_lines","_law_cell_here","_law_here","_law_one","_law_other","_law_extra","_law_wishes","_law_goal","_law_form","_law_on","_law_first","_law_some","_law_longer","_law_second","_law_kept"]
theorem sc_aj0:FnScope nn4 ["_law_lines","_law_cell_here","_law_here","_law_one","_law_other","_law_extra"] (Za6 (top 59)):=scm (by decide +kernel)
theorem Wo0 {k:Nat}(F_aj0:Df K mg "_law_by_if" (top 59) pq5)(C__law_pick:Cl P w K mg base k "_law_pick" pq14 (sp_pick K))(C__law_once:Cl P w K mg base k "_law_once" ["_law_some"] (sp_onceL K))(C__law_changed:Cl P w K mg base k "_law_changed" nn2 (sp_changedL K))(m_len:mg "len"=none):Cl P w K mg base (k+1) "_law_by_if" pq5 (sp_byif K):=by
 refine F_aj0.okG sc_aj0 fun fx cdv A outer s H vs Q E hr h Gx hGx=>?_;obtain⟨a,us,L,c,i,I,F,J,o1,B,ex,rfl,ha,hL,G,hi,h1,h2,hE,k1,k2,y9,exp,q⟩:=h
 refine hGx _ ⟨_,(Za4 (pst 6 sc_aj0.nd (pxtM (pxlM (pvM 0) (pvM 2)) Za5))
 (Za4 (pst 7 sc_aj0.nd (pxtM (pxlM (pvM 0) (pvM 2)) Za5))
 (Za4 (pst 8 sc_aj0.nd (Zb0 Zc2 (pvM 1) Za5))
 (Za4 (Zc7 (ptcM (Zd1) (pvM 8) Za5)
  (Za4 (Zf7 (i:=9) sc_aj0.nd rfl (Or.inr rfl) (Zb8 C__law_pick hr (Za0 (Zt1 (blk0 (N':=["_law_wish_here"]) (by decide +kernel) (by decide +kernel) rfl (by decide +kernel)) rfl (Ze4 (pvM 6)) (fun _ _ _ _=>(pgn 0 (ndS ["_law_wish_here"]))) (fun _ _=>Zh7) (fun _ _ _ _ _=>(Zh3 (ptcM (Zd1) (Zn4 (Zk3 (K:=K) rfl) (pvM 0) Za5 (fun _ _=>rfl)) Zb6) (Zf1 (pvM 0))))) (Za0 (Zb0 Zc5 (pvM 1) Za5) (Za0 (Zc0 (Za0 Zb6 (Za0 (pvM 3) (Za0 (pvM 4) Za3)))) Za3)))))
 (Za4 (Zc7 (ptcM (Zd1) (Zb0 Zc2 (Zb0 Zc5 (pvM 1) Za5) Za5) Za5)
  (Za7 (Zf7 (i:=9) sc_aj0.nd rfl (Or.inr rfl) (Zc0 (Za0 Zb6 (Za0 (pvM 3) (Za0 (pvM 4) Za3))))))
  Zb4)
 (Za7 (Zb2 (Zc0 (Za0 Zb6 (Za0 (Zb8 C__law_once hr (Za0 (Zb0 Zf0 (Zt1 (blkD (N':=["_law_wish_here","_law_on"]) (nt:=1) (ci:=[9]) nn4 (Za6 (top 59))) rfl (Ze4 (pvM 6)) (fun _ _ _ _=>(pgn 0 (ndS ["_law_wish_here","_law_on"]))) (fun _ _=>Zh7) (fun _ _ _ _ _=>(Zh3 (ptcM (Zk0 (K:=K) rfl (Zg7 hr)) (pvM 0) (Zn4 (Zk3 (K:=K) rfl) (pvM 1) Za5 (fun _ _=>rfl))) (Zf1 (pvM 0))))) (Zb7 (Za0 (pxtM (pvM 9) Za5) (Za0 (pvM 9) Za3)))) Za3)) (Za0 (pvM 7) (Za0 (pvM 9) (Za0 (Zb7 (Za0 (pvM 2) Za3)) Za3))))))))))
  Zb4)
 (Za4 (Zc7 (ptcM (Zd1) (pvM 8) Za5)
  (Za4 (Zf7 (i:=9) sc_aj0.nd rfl (Or.inr rfl) (Zc0 (Za0 Zb6 (Za0 (Zc0 (Za0 Zb6 Za3)) (Za0 (pvM 5) Za3)))))
 (Za7 (Zb2 (Zc0 (Za0 Zb6 (Za0 (Zb8 C__law_once hr (Za0 (Zb0 Zf0 (pvM 6) (Zb7 (Za0 (pvM 9) Za3))) Za3)) (Za0 (pvM 7) (Za0 (pvM 9) (Za0 (Zb7 (Za0 (pvM 2) Za3)) Za3)))))))))
  Zb4)
 (Za4 (Zf7 (i:=10) sc_aj0.nd rfl (Or.inr rfl) (Zc0 (Za0 Zb6 (Za0 (pvM 3) (Za0 (Zc0 (Za0 Zb6 (Za0 (pvM 4) (Za0 (pvM 5) Za3)))) Za3)))))
 (Za4 (Zj8 (i:=11) sc_aj0.nd rfl (Or.inl rfl) (blk0 (N':=["_law_wish_here"]) (by decide +kernel) (by decide +kernel) rfl (by decide +kernel)) rfl (Ze4 (pvM 6)) (fun _ _ _ _=>(pgn 0 (ndS ["_law_wish_here"]))) (fun _ _=>Zh7) (fun _ _ _ _ _=>(Zh3 (ptcM (Zd1) (Zn4 (Zk3 (K:=K) rfl) (pvM 0) Za5 (fun _ _=>rfl)) Zb6) (Zf1 (pvM 0)))) rfl)
 (Za4 (Zc7 (ptcM (Zd1) (pvM 8) Za5)
  (Za4 (Zj8 (i:=12) sc_aj0.nd rfl (Or.inl rfl) (blk0 (N':=["_law_wish_here"]) (by decide +kernel) (by decide +kernel) rfl (by decide +kernel)) rfl (Ze4 (pvM 11)) (fun _ _ _ _=>(pgn 0 (ndS ["_law_wish_here"]))) (fun _ _=>Zh7) (fun _ _ _ _ _=>(Zh3 (ptcM (Zd1) (Zn4 (Zk3 (K:=K) rfl) (Zn4 (Zk3 (K:=K) rfl) (pvM 0) Za5 (fun _ _=>rfl)) Za5 (fun _ _=>rfl)) Zb6) (Zf1 (pvM 0)))) rfl)
 (Za4 (Zc7 (ptcM (Zw3 (Zg7 hr)) (pvM 12) (Zb7 Za3))
  (Za7 (Zf7 (i:=10) sc_aj0.nd rfl (Or.inr rfl) (pxlM (pvM 12) (Zb0 Zc2 (Zb0 Zc5 (pvM 1) Za5) (Zc1 Zb5 (by exact rfl) m_len Zc9 (Za0 (pvM 12) Za3))))))
  Zb4)
 (Za4 (Zf7 (i:=9) sc_aj0.nd rfl (Or.inr rfl) (Zc0 (Za0 Zb6 (Za0 (Zc0 (Za0 Zb6 (Za0 (pxtM (pvM 10) Za5) (Za0 (pxtM (pxtM (pvM 10) Za5) Za5) Za3)))) (Za0 (pxtM (pxtM (pvM 10) Za5) Za5) Za3)))))
 (Za7 (Zb2 (Zc0 (Za0 Zb6 (Za0 (Zb8 C__law_changed hr (Za0 (pvM 6) (Za0 (pvM 10) (Za0 (Zb7 (Za0 (pvM 9) Za3)) Za3)))) (Za0 (pvM 7) (Za0 (pvM 9) (Za0 (Zb7 (Za0 (pvM 2) Za3)) Za3)))))))))))
  Zb4)
 (Za4 (Zf7 (i:=10) sc_aj0.nd rfl (Or.inr rfl) (Zb8 C__law_pick hr (Za0 (pvM 11) (Za0 (Zb0 Zc5 (pvM 1) Za5) (Za0 (Zc0 (Za0 Zb6 (Za0 (pvM 3) (Za0 (pvM 5) Za3)))) Za3)))))
 (Za4 (Zf7 (i:=13) sc_aj0.nd rfl (Or.inr rfl) (Zc0 (Za0 Zb6 (Za0 (pvM 4) (Za0 (pxtM (pvM 10) Za5) Za3)))))
 (Za4 (Zf7 (i:=9) sc_aj0.nd rfl (Or.inr rfl) (Zc0 (Za0 Zb6 (Za0 (Zc0 (Za0 Zb6 (Za0 (pxtM (pvM 10) Za5) (Za0 (pvM 4) Za3)))) (Za0 (pxtM (pvM 10) Za5) Za3)))))
 (Za4 (Zj8 (i:=14) sc_aj0.nd rfl (Or.inl rfl) (blkD (N':=["_law_wish_here","_law_first","_law_second"]) (nt:=1) (ci:=[10,13]) nn4 (Za6 (top 59))) rfl (Ze4 (pvM 6)) (fun _ _ _ _=>(pgn 0 (ndS ["_law_wish_here","_law_first","_law_second"]))) (fun _ _=>Zh7) (fun _ _ _ _ _=>(Zh3 ((Zq6 (ptcM (Zk0 (K:=K) rfl (Zg7 hr)) (pvM 0) (pvM 1)) (Zk9 (ptcM (Zk0 (K:=K) rfl (Zg7 hr)) (pvM 0) (pvM 2))))).pt (Zf1 (pvM 0)))) rfl)
 (Za7 (Zb2 (Zc0 (Za0 Zb6 (Za0 (Zb8 C__law_once hr (Za0 (Zb0 Zf0 (pvM 14) (Zb7 (Za0 (pvM 9) Za3))) Za3)) (Za0 (pvM 7) (Za0 (pvM 9) (Za0 (Zb7 (Za0 (pvM 2) Za3)) Za3)))))))))))))))))))),?_⟩
 have lu:us.length=L.length:=zc hL
 have y7:i < us.length:=by omega
 obtain⟨n,j3,hvi⟩:=paired_get hL (za y7);have m:=G.ok n (yc j3);obtain⟨pi,Y,ai,gi,oi,yi,evi,i1,i2,i3,i4,i5,i6⟩:=hvi;have lyi:yi.length=n.ws.length:=zc i3;have w9:=m.w9;have srt:=G.sorted j3;have gp1:=m.g40;refine sqk (fun C=>C [some (.ref a),some (.int c),some (.int (i:Nat)),some I,some F,some J,some (.ref Y),none,none,none,none,none,none,none,none] H) (fun C o=>?_) ?_
 ·walk_at "1"
  exact⟨us,SqL.of ha,_,Zd3 (za y7),pi,evi,_,i1,_,rfl,o⟩
 refine sqk (fun C=>C [some (.ref a),some (.int c),some (.int (i:Nat)),some I,some F,some J,some (.ref Y),some gi,none,none,none,none,none,none,none] H) (fun C o=>?_) ?_
 ·walk_at "1"
  exact⟨us,SqL.of ha,_,Zd3 (za y7),pi,evi,_,i1,_,rfl,o⟩
 refine sqk (fun C=>C [some (.ref a),some (.int c),some (.int (i:Nat)),some I,some F,some J,some (.ref Y),some gi,some (.int (c % 4)),none,none,none,none,none,none] H) (fun C o=>?_) ?_
 ·walk_at "1"
  exact⟨by decide,o⟩
 have thenT:∀(f:Hp) (v:V) (t:Tm),IsT K f v t->∃p xs,v=.ref p/\SqT K f p (.str (Zk4 t)::xs):=fun _ _ _ h=>Zl8 h;refine sqt (fun z5 f=>z5=[some (.ref a),some (.int c),some (.int (i:Nat)),some I,some F,some J,some (.ref Y),some gi,some (.int (c % 4)),none,none,none,none,none,none]/\f=H) ?_ ?_
 ·intro C o
  walk_at "3";refine ite2 (fun _=>?_) (fun _=>o _ _ ⟨rfl,rfl⟩);refine sqk (fun C=>∀f W b d,Same H f->IsT K f W (.nd .thn b d)->(Tm.nd .thn b d).ok->(Tm.nd .thn b d).parts<=81->C [some (.ref a),some (.int c),some (.int (i:Nat)),some I,some F,some J,some (.ref Y),some gi,some (.int (c % 4)),some W,none,none,none,none,none] f) (fun C o=>?_) fun H4 W b d e4 Z j1 z7=>?_
  ·walk_at "1"
   refine⟨⟨_,SqL.of i2⟩,fun q5 X=>?_⟩;refine Zh1 (fun t=>decide (Zk4 t="then")) i2 i3 (by omega) X (fun v'=>Ze2 (i:=0) rfl) (fun v' t f U N q9 e hT h j5 hy hn=>?_) (fun f U e h hP=>?_)
   ·walk_at "1"
    obtain⟨p,xs,rfl,hs⟩:=Zl8 hT;refine⟨p,rfl,_,hs,_,at0 _ _,Ze6 _ _,?_⟩
    by_cases hc:Zk4 t="then"
    ·rw[if_pos (by rw[hc])]
     exact⟨U,h,Zb1 (by omega),hy (decide_eq_true hc) _ (Same.refl _) h⟩
    ·rw[if_neg (fun z=>hc (V.str.inj z))]
     exact hn (decide_eq_false hc) _ (Same.refl _)
   ·refine⟨⟨by decide,by decide⟩,by decide,fun p hp=>?_⟩
    have l:=Za2 hp (HO.tup [V.str "then",I,F]);have S:=e.trans l;have hd:IsT K (upd f p (HO.tup [V.str "then",I,F])) (.ref p) (.nd .thn o1 B):=isT_nd.mpr ⟨p,I,F,rfl,.inl (.inl Za1),h1.keep S.keepT,h2.keep S.keepT⟩;refine⟨q5,_,.ref p,U,_,.nd .thn o1 B,rfl,l _ _ h,Za8 l.keepT hP,fun t D=>m.ok.w t (yad.mp D).1,hd,fun r t H'' e2 hr D=>?_⟩;rcases D with rfl | D
    ·exact o _ r o1 B (S.trans e2) hr ⟨k1.1,k2.1⟩ (by have:=k1.2;have:=k2.2;show 1+o1.parts+B.parts<=81;omega)
    ·obtain⟨hm,hh⟩:=yad.mp D
     obtain⟨b,d,rfl⟩:=Zl9 (of_decide_eq_true hh);exact o _ r b d (S.trans e2) hr ((m.ok.w _ hm).1) (by have:=m.w40 _ hm;omega)
  refine sqh (fun C=>∀f W b d,Same H f->IsT K f W (.nd .thn b d)->(Tm.nd .thn b d).ok->(Tm.nd .thn b d).parts<=81->C [some (.ref a),some (.int c),some (.int (i:Nat)),some I,some F,some J,some (.ref Y),some gi,some (.int (c % 4)),some W,none,none,none,none,none] f) (fun C o=>?_) fun Ux z0 H5 W b d e5 Z j1 z7=>?_
  ·walk_at "1"
   refine⟨⟨by decide,by decide⟩,by decide,ite2 (fun _=>⟨by decide,fun p hp=>?_⟩) (fun _=>o _ W b d e4 Z j1 z7)⟩;have l:=Za2 hp (HO.tup [V.str "then",I,F]);have S:=e4.trans l;exact o _ _ o1 B S (isT_nd.mpr ⟨p,I,F,rfl,.inl (.inl Za1),h1.keep S.keepT,h2.keep S.keepT⟩) ⟨k1.1,k2.1⟩ (by have:=k1.2;have:=k2.2;show 1+o1.parts+B.parts<=81;omega)
  obtain⟨p,x,y,rfl,hs,hx,hy⟩:=isT_nd.mp Z;refine z0 _ _ ?_;walk_at "1";refine⟨⟨_,SqL.of (e5 _ _ i2)⟩,fun q5 X=>?_⟩;refine Zh1 (fun t=>decide (t≠d)) (e5 _ _ i2) (Za8 e5.keepT i3) (by omega) X (fun v'=>Ze2 (i:=0) rfl) (fun v' t f U N q9 e hT h j5 y1 hn=>?_) (fun f U e h hP=>?_)
  ·walk_at "1"
   have j2:=m.ok.w t q9;refine⟨_,e.sqt hs,_,rfl,t.data,hT,d.data,hy.keep e.keepT,t.lay j2.1,d.lay j1.2,zi (ybj _ _) (by rw[Tm.depth];have:=j2.2;have:=Zd5 t;omega),?_⟩;rw[Tm.eqv]
   by_cases hto:t=d
   ·rw[if_neg (by rw[if_pos trivial,decide_eq_true hto];exact zg)]
    exact hn (decide_eq_false (fun z=>z hto)) _ (Same.refl _)
   ·rw[if_pos (by rw[if_pos trivial,decide_eq_false hto];rfl)]
    exact⟨U,h,Zb1 (by omega),y1 (decide_eq_true hto) _ (Same.refl _) h⟩
  ·have lys:U.length=(rem n.ws d).length:=zc hP
   have lr:(rem n.ws d).length<=n.ws.length:=yu _ _;have pp:1+b.parts+d.parts<=81:=z7;refine⟨_,e.sqt hs,_,rfl,by decide,fun p1 q4=>?_⟩;have l:=Za2 q4 (HO.lst [x,V.ref p]);have S:=(e5.trans e).trans l
   have z8:Okw [b,.nd .thn b d]:=fun t D=>by
    rcases yk.mp D with rfl | D
    ·exact⟨j1.1,by omega⟩
    ·rw[zb.mp D];exact⟨j1,by omega⟩
   have q7:Okw (rem n.ws d):=fun t D=>m.ok.w t (mem_rem.mp D).1;refine⟨U,l _ _ h,_,Za1,zk (Zb1 (by show U.length+2<=1000;omega)),fun p2 y4=>Zi1 y4 (Za8 l.keepT hP) (.cons (hx.keep (e.trans l).keepT) (.cons (Z.keep (e.trans l).keepT) .nil)) q7 z8 (by show (rem n.ws d).length+2 < 64;omega) fun r H6 e6 fr hw=>⟨by decide,fun p3 O=>⟨by decide,fun p4 T=>?_⟩⟩⟩;have M:=Za2 O (HO.lst [V.int (i:Nat)]);have SS:=(S.trans e6).trans M;have q8:Okw (norm (rem n.ws d++[b,.nd .thn b d])):=Zh2 (Zh4 q7 z8);have v6:Tm.nd .thn b d∈norm (rem n.ws d++[b,.nd .thn b d]):=Zd6 (by simp);have b_in:b∈norm (rem n.ws d++[b,.nd .thn b d]):=Zd6 (by simp)
   exact q _ _ _ (SS.trans (Za2 T _)) (Zh0 (R:=some .known) (on:=some (.nd .thn b d)) (ls:=[(i:Int)]) T (hw.keep M) (i4.keep SS.keepT) ⟨Z.keep (((e.trans l).trans e6).trans M).keepT,j1,by omega⟩ Za1 (S.free fr) ((S.trans e6).free O)) ⟨⟨rfl,q8,by have:=Ze1 (rem n.ws d) [b,.nd .thn b d];rw[show [b,Tm.nd .thn b d].length=2 from rfl] at this;show (norm (rem n.ws d++[b,.nd .thn b d])).length<=60;omega,m.ok.g,m.ok.gp,by show 1<=100;decide⟩,Ym3 (Zd0 _) (by
    show (if Tm.nd .thn b d∈norm (rem n.ws d++[b,.nd .thn b d]) then (if b∈norm (rem n.ws d++[b,.nd .thn b d]) then some [_] else none) else none)=_
    rw[if_pos v6,if_pos b_in]) rfl hi j3 rfl (fun t D=>by
    by_cases htd:t=d
    ·exact .inl (Zd6 (zb.mpr htd))
    ·exact .inr (Zg9 (mem_rem.mpr ⟨D,htd⟩)))⟩
 rintro σ4 H4 ⟨rfl,rfl⟩;refine sqk (fun C=>C [some (.ref a),some (.int c),some (.int (i:Nat)),some I,some F,some J,some (.ref Y),some gi,some (.int (c % 4)),none,none,none,none,none,none] H4) (fun C o=>?_) ?_
 ·walk_at "1"
  refine ite2 (fun _=>?_) (fun _=>o);refine⟨by decide,fun p0 hp0=>⟨by decide,fun p hp=>⟨by decide,fun p1 q4=>?_⟩⟩⟩;have s0:=Za2 hp0 (HO.tup [V.str "low"]);have hlow:IsT K (upd H4 p0 (HO.tup [V.str "low"])) (.ref p0) .low:=isT_low.mpr ⟨p0,rfl,.inl (.inl Za1)⟩;have l:=Za2 hp (HO.tup [V.str "then",V.ref p0,J]);have v9:IsT K (upd (upd H4 p0 (HO.tup [V.str "low"])) p (HO.tup [V.str "then",V.ref p0,J])) (.ref p) (.nd .thn .low ex):=isT_nd.mpr ⟨p,_,J,rfl,.inl (.inl Za1),hlow.keep l.keepT,hE.keep (s0.trans l).keepT⟩;have M:=Za2 q4 (HO.lst [V.ref p]);have S:=(s0.trans l).trans M;have z2:(Tm.nd .thn .low ex).ok:=⟨trivial,y9⟩
  have z6:(Tm.nd .thn .low ex).parts<=100:=by show 1+1+ex.parts<=100;omega
  refine⟨yi,S _ _ i2,_,Za1,zk (Zb1 (by show yi.length+1<=1000;omega)),fun p2 y4=>Zi1 y4 (Za8 S.keepT i3) (.cons (v9.keep M.keepT) .nil) m.ok.w (Zg5 z2 z6) (by show n.ws.length+1 < 64;omega) fun r f e fr hw=>⟨by decide,fun p3 O=>⟨by decide,fun p4 T=>?_⟩⟩⟩;have s3:=Za2 O (HO.lst [V.int (i:Nat)]);have SS:=(S.trans e).trans s3;have q8:Okw (norm (n.ws++[.nd .thn .low ex])):=Zh2 (Zh4 m.ok.w (Zg5 z2 z6))
  exact q _ _ _ (SS.trans (Za2 T _)) (Zh0 (R:=some .idle) (on:=some (.nd .thn .low ex)) (ls:=[(i:Int)]) T (hw.keep s3) (i4.keep SS.keepT) ⟨v9.keep ((M.trans e).trans s3).keepT,z2,z6⟩ Za1 (S.free fr) ((S.trans e).free O)) ⟨⟨rfl,q8,by have:=Ze1 n.ws [.nd .thn .low ex];rw[zd] at this;show (norm (n.ws++[.nd .thn .low ex])).length<=60;omega,m.ok.g,m.ok.gp,by show 1<=100;decide⟩,Ym3 (Zd0 _) (by
   show (if Tm.nd .thn .low ex∈norm (n.ws++[.nd .thn .low ex]) then some [_] else none)=_
   rw[if_pos (Zd6 (zb.mpr rfl))]) rfl hi j3 rfl (fun t D=>.inr (Zg9 D))⟩
 refine sqk (fun C=>∀f fv,Same H4 f->IsT K f fv (.nd .thn o1 (.nd .thn B ex))->C [some (.ref a),some (.int c),some (.int (i:Nat)),some I,some F,some J,some (.ref Y),some gi,some (.int (c % 4)),none,some fv,none,none,none,none] f) (fun C o=>?_) fun H6 fv e6 hf6=>?_
 ·walk_at "1"
  refine⟨by decide,fun p hp=>⟨by decide,fun p1 q4=>?_⟩⟩;have s0:=Za2 hp (HO.tup [V.str "then",F,J]);have l:=Za2 q4 (HO.tup [V.str "then",I,V.ref p]);have hin:IsT K (upd H4 p (HO.tup [V.str "then",F,J])) (.ref p) (.nd .thn B ex):=isT_nd.mpr ⟨p,F,J,rfl,.inl (.inl Za1),h2.keep s0.keepT,hE.keep s0.keepT⟩;exact o _ _ (s0.trans l) (isT_nd.mpr ⟨p1,I,_,rfl,.inl (.inl Za1),h1.keep (s0.trans l).keepT,hin.keep l.keepT⟩)
 refine sqk (fun C=>∀f sa j7,Same H4 f->IsT K f fv (.nd .thn o1 (.nd .thn B ex))->f sa=some (.lst j7)->Paired (IsT K f) j7 (n.ws.filter fun t=>decide (Zk4 t="then"))->C [some (.ref a),some (.int c),some (.int (i:Nat)),some I,some F,some J,some (.ref Y),some gi,some (.int (c % 4)),none,some fv,some (.ref sa),none,none,none] f) (fun C o=>?_) fun H7 sa j7 e7 hf7 y3 z3=>?_
 ·walk_at "1"
  refine⟨⟨_,SqL.of (e6 _ _ i2)⟩,fun q5 X=>?_⟩;refine Zh1 (fun t=>decide (Zk4 t="then")) (e6 _ _ i2) (Za8 e6.keepT i3) (by omega) X (fun v'=>Ze2 (i:=0) rfl) (fun v' t f U N q9 e hT h j5 hy hn=>?_) (fun f U e h hP=>?_)
  ·walk_at "1"
   obtain⟨p,xs,rfl,hs⟩:=Zl8 hT;refine⟨p,rfl,_,hs,_,at0 _ _,Ze6 _ _,?_⟩
   by_cases hc:Zk4 t="then"
   ·rw[if_pos (by rw[hc])]
    exact⟨U,h,Zb1 (by omega),hy (decide_eq_true hc) _ (Same.refl _) h⟩
   ·rw[if_neg (fun z=>hc (V.str.inj z))]
    exact hn (decide_eq_false hc) _ (Same.refl _)
  ·exact o _ q5 U (e6.trans e) (hf6.keep e.keepT) h hP
 have lsus:j7.length=(n.ws.filter fun t=>decide (Zk4 t="then")).length:=zc z3;have lflt:(n.ws.filter fun t=>decide (Zk4 t="then")).length<=n.ws.length:=yu _ _;refine sqt (fun z5 f=>z5=[some (.ref a),some (.int c),some (.int (i:Nat)),some I,some F,some J,some (.ref Y),some gi,some (.int (c % 4)),none,some fv,some (.ref sa),none,none,none]/\f=H7) ?_ ?_
 ·intro C o
  walk_at "3";refine ite2 (fun _=>?_) (fun _=>o _ _ ⟨rfl,rfl⟩);refine sqk (fun C=>∀f la q0,Same H4 f->IsT K f fv (.nd .thn o1 (.nd .thn B ex))->f la=some (.lst q0)->Paired (IsT K f) q0 ((n.ws.filter fun t=>decide (Zk4 t="then")).filter Yz4)->C [some (.ref a),some (.int c),some (.int (i:Nat)),some I,some F,some J,some (.ref Y),some gi,some (.int (c % 4)),none,some fv,some (.ref sa),some (.ref la),none,none] f) (fun C o=>?_) fun H8 la q0 e8 hf8 hla y5=>?_
  ·walk_at "1"
   refine⟨⟨_,SqL.of y3⟩,fun q5 X=>?_⟩;refine Zh1 Yz4 y3 z3 (by omega) X (fun v'=>Ze2 (i:=0) rfl) (fun v' t f U N q9 e hT h j5 hy hn=>?_) (fun f U e h hP=>?_)
   ·obtain⟨b,d,rfl⟩:=Zl9 (of_decide_eq_true (yad.mp q9).2)
    obtain⟨p,x,y,rfl,hs,hx,y0⟩:=isT_nd.mp hT;obtain⟨p2,xs,rfl,z4⟩:=Zl8 y0;walk_at "1";refine⟨_,hs,_,rfl,p2,rfl,_,z4,_,at0 _ _,Ze6 _ _,?_⟩
    by_cases hc:Zk4 d="then"
    ·rw[if_pos (by rw[hc])]
     exact⟨U,h,Zb1 (by omega),hy (decide_eq_true hc) _ (Same.refl _) h⟩
    ·rw[if_neg (fun z=>hc (V.str.inj z))]
     exact hn (decide_eq_false hc) _ (Same.refl _)
   ·exact o _ q5 U (e7.trans e) (hf7.keep e.keepT) h hP
  refine sqh (fun C=>∀f fv b d g,Same H4 f->IsT K f fv (.nd .thn b (.nd .thn d g))->(Tm.nd .thn b (.nd .thn d g)).ok->(Tm.nd .thn b (.nd .thn d g)).parts<=85->C [some (.ref a),some (.int c),some (.int (i:Nat)),some I,some F,some J,some (.ref Y),some gi,some (.int (c % 4)),none,some fv,some (.ref sa),some (.ref la),none,none] f) (fun C o=>?_) fun Ux z0 H9 fv b d g e9 hf q2 y8=>?_
  ·walk_at "1"
   refine⟨by decide,fun p hp=>?_⟩;have sp:=Za2 hp (HO.lst []);have j4:=Za8 sp.keepT y5;have j6:=sp _ _ hla;have q4:upd H8 p (HO.lst []) p=some (.lst []):=Za1;have oke:∀t∈(n.ws.filter fun t=>decide (Zk4 t="then")).filter Yz4,t.ok:=fun t h=>(m.ok.w t (yad.mp (yad.mp h).1).1).1;have S:=e8.trans sp;generalize upd H8 p (HO.lst [])=H9 at sp j4 j6 q4 S ⊢;refine⟨.list (((n.ws.filter fun t=>decide (Zk4 t="then")).filter Yz4).map Tm.data),?_,.list [],?_,Zu7 oke,rfl,zi (zbe _ _) (by decide),?_⟩
   ·rw[Dn];exact⟨la,q0,rfl,SqL.of j6,Yd2 j4⟩
   ·rw[Dn];exact⟨p,[],rfl,SqL.of q4,by rw[DnAll]⟩
   rw[if_pos trivial];have z9:q0.length=((n.ws.filter fun t=>decide (Zk4 t="then")).filter Yz4).length:=zc y5
   cases hcs:(n.ws.filter fun t=>decide (Zk4 t="then")).filter Yz4 with
   |nil =>
    rw[if_neg (by decide)];exact o _ fv o1 B ex S (hf8.keep sp.keepT) ⟨k1.1,k2.1,y9⟩ (by have:=k1.2;have:=k2.2;show 1+o1.parts+(1+B.parts+ex.parts)<=85;omega)
   |cons t0 ts =>
    rw[if_pos (by rfl)];rw[hcs] at z9
    have hpos:0 < q0.length:=by rw[z9];exact ycq _
    obtain⟨v,hv,hat⟩:=Zo8 (xs:=q0) (i:=c / 4 % ((q0.length:Nat):Int)) (yr _ (by omega)) (yp _ (by omega));obtain⟨j,hj,ej⟩:=zw hv;obtain⟨t,D,v7⟩:=paired_get j4 (za hj);rw[ej] at v7;obtain⟨hm1,hm2⟩:=yad.mp (yc D);obtain⟨hm3,hm4⟩:=yad.mp hm1;obtain⟨b,d,rfl⟩:=Zl9 (of_decide_eq_true hm4);obtain⟨d,g,rfl⟩:=Zl9 (of_decide_eq_true (show decide (Zk4 d="then")=true from hm2));refine⟨⟨by decide,by decide⟩,q0,.inl (SqL.of j6),by omega,q0,SqL.of j6,v,hat,o _ v b d g S v7 ((m.ok.w _ hm3).1) (by have:=m.w40 _ hm3;omega)⟩
  obtain⟨p,x,y,rfl,hs,hx,hy⟩:=isT_nd.mp hf;obtain⟨p2,x2,y2,rfl,z4,hx2,y0⟩:=isT_nd.mp hy;have fp2:1+b.parts+(1+d.parts+g.parts)<=85:=y8;refine z0 _ _ ?_;refine sqk (fun C=>∀f W,Same H9 f->IsT K f W (.nd .thn (.nd .both b d) g)->C [some (.ref a),some (.int c),some (.int (i:Nat)),some I,some F,some J,some (.ref Y),some gi,some (.int (c % 4)),some W,some (.ref p),some (.ref sa),some (.ref la),none,none] f) (fun C o=>?_) fun H10 W q3 Z=>?_
  ·walk_at "1"
   refine⟨_,hs,_,rfl,_,hs,_,rfl,p2,rfl,_,z4,_,rfl,by decide,fun p3 O=>?_⟩;have l:=Za2 O (HO.tup [V.str "both",x,x2]);have hb:IsT K (upd H9 p3 (HO.tup [V.str "both",x,x2])) (.ref p3) (.nd .both b d):=isT_nd.mpr ⟨p3,x,x2,rfl,.inl (.inl Za1),hx.keep l.keepT,hx2.keep l.keepT⟩;refine⟨_,l.sqt hs,_,rfl,p2,rfl,_,l.sqt z4,_,rfl,by decide,fun p4 T=>?_⟩;have M:=Za2 T (HO.tup [V.str "then",V.ref p3,y2]);exact o _ _ (l.trans M) (isT_nd.mpr ⟨p4,_,y2,rfl,.inl (.inl Za1),hb.keep M.keepT,y0.keep (l.trans M).keepT⟩)
  have z1:=e9.trans q3;have q1:(Tm.nd .thn (.nd .both b d) g).ok:=⟨⟨q2.1,q2.2.1⟩,q2.2.2⟩
  have q6:(Tm.nd .thn (.nd .both b d) g).parts<=100:=by show 1+(1+b.parts+d.parts)+g.parts<=100;omega
  walk_at "1";refine⟨by decide,fun p3 O=>?_⟩;have l:=Za2 O (HO.lst [W]);refine⟨Y,p3,.ref p,.nd .thn b (.nd .thn d g),n.ws,[W],[.nd .thn (.nd .both b d) g],rfl,⟨⟨yi,(z1.trans l) _ _ i2,Za8 (z1.trans l).keepT i3⟩,srt⟩,hf.keep (q3.trans l).keepT,q2,by omega,Za1,.cons (Z.keep l.keepT) .nil,m.ok.w,Zg5 q1 q6,by show n.ws.length+1 < 64;omega,fun r H11 j0 fr hw=>⟨by decide,fun p4 T=>⟨by decide,fun p5 j9=>?_⟩⟩⟩;have M:=Za2 T (HO.lst [V.int (i:Nat)]);have SS:=((z1.trans l).trans j0).trans M;have q7:Okw (rem n.ws (.nd .thn b (.nd .thn d g))):=fun t D=>m.ok.w t (mem_rem.mp D).1;have lr:(rem n.ws (.nd .thn b (.nd .thn d g))).length<=n.ws.length:=yu _ _;have q8:=Zh2 (Zh4 q7 (Zg5 q1 q6))
  exact q _ _ _ (SS.trans (Za2 j9 _)) (Zh0 (R:=some .curried) (on:=some (.nd .thn (.nd .both b d) g)) (ls:=[(i:Int)]) j9 (hw.keep M) (i4.keep SS.keepT) ⟨Z.keep ((l.trans j0).trans M).keepT,q1,q6⟩ Za1 ((z1.trans l).free fr) (((z1.trans l).trans j0).free T)) ⟨⟨rfl,q8,by have:=Ze1 (rem n.ws (.nd .thn b (.nd .thn d g))) [.nd .thn (.nd .both b d) g];rw[zd] at this;show (norm (rem n.ws (.nd .thn b (.nd .thn d g))++[.nd .thn (.nd .both b d) g])).length<=60;omega,m.ok.g,m.ok.gp,by show 1<=100;decide⟩,Ym3 (Zd0 _) (by
   show (if Tm.nd .thn (.nd .both b d) g∈norm (rem n.ws (.nd .thn b (.nd .thn d g))++[.nd .thn (.nd .both b d) g]) then some [_] else none)=_
   rw[if_pos (Zd6 (zb.mpr rfl))]) rfl hi j3 rfl (fun t D=>by
   by_cases htd:t=.nd .thn b (.nd .thn d g)
   ·exact .inl (Zd6 (zb.mpr htd))
   ·exact .inr (Zg9 (mem_rem.mpr ⟨D,htd⟩)))⟩
 rintro σ8 H8 ⟨rfl,rfl⟩;clear hf7;refine sqh (fun C=>∀f fv b d,Same H4 f->IsT K f fv (.nd .thn b d)->(Tm.nd .thn b d).ok->(Tm.nd .thn b d).parts<=44->C [some (.ref a),some (.int c),some (.int (i:Nat)),some I,some F,some J,some (.ref Y),some gi,some (.int (c % 4)),none,some fv,some (.ref sa),none,none,none] f) (fun C o=>?_) fun Ux z0 H9 fv b d e9 hf q2 y8=>?_
 ·walk_at "1"
  refine⟨⟨by decide,by decide⟩,by decide,fun p hp=>?_⟩;have l:=Za2 hp (HO.tup [V.str "then",I,J]);have S:=e7.trans l;have hd:IsT K (upd H8 p (HO.tup [V.str "then",I,J])) (.ref p) (.nd .thn o1 ex):=isT_nd.mpr ⟨p,I,J,rfl,.inl (.inl Za1),h1.keep S.keepT,hE.keep S.keepT⟩;refine⟨sa,_,.ref p,j7,_,.nd .thn o1 ex,rfl,l _ _ y3,Za8 l.keepT z3,fun t D=>m.ok.w t (yad.mp D).1,hd,fun r t H'' e2 hr D=>?_⟩;rcases D with rfl | D
  ·exact o _ r o1 ex (S.trans e2) hr ⟨k1.1,y9⟩ (by have:=k1.2;show 1+o1.parts+ex.parts<=44;omega)
  ·obtain⟨hm,hh⟩:=yad.mp D
   obtain⟨b,d,rfl⟩:=Zl9 (of_decide_eq_true hh);exact o _ r b d (S.trans e2) hr ((m.ok.w _ hm).1) (by have:=m.w40 _ hm;omega)
 obtain⟨p,x,y,rfl,hs,hx,hy⟩:=isT_nd.mp hf;have fp2:1+b.parts+d.parts<=44:=y8;have kp2:=k2.2;refine z0 _ _ ?_;refine sqk (fun C=>∀f sv,Same H9 f->IsT K f sv (.nd .thn B d)->C [some (.ref a),some (.int c),some (.int (i:Nat)),some I,some F,some J,some (.ref Y),some gi,some (.int (c % 4)),none,some (.ref p),some (.ref sa),none,some sv,none] f) (fun C o=>?_) fun H10 sv q3 hsv=>?_
 ·walk_at "1"
  refine⟨_,hs,_,rfl,by decide,fun p3 O=>?_⟩;have l:=Za2 O (HO.tup [V.str "then",F,y]);exact o _ _ l (isT_nd.mpr ⟨p3,F,y,rfl,.inl (.inl Za1),h2.keep (e9.trans l).keepT,hy.keep l.keepT⟩)
 refine sqk (fun C=>∀f W,Same H9 f->IsT K f sv (.nd .thn B d)->IsT K f W (.nd .thn (.nd .one b B) d)->C [some (.ref a),some (.int c),some (.int (i:Nat)),some I,some F,some J,some (.ref Y),some gi,some (.int (c % 4)),some W,some (.ref p),some (.ref sa),none,some sv,none] f) (fun C o=>?_) fun H11 W j0 hsv1 Z=>?_
 ·walk_at "1"
  refine⟨_,q3.sqt hs,_,rfl,by decide,fun p3 O=>?_⟩;have l:=Za2 O (HO.tup [V.str "one",x,F]);have hb:IsT K (upd H10 p3 (HO.tup [V.str "one",x,F])) (.ref p3) (.nd .one b B):=isT_nd.mpr ⟨p3,x,F,rfl,.inl (.inl Za1),hx.keep (q3.trans l).keepT,h2.keep ((e9.trans q3).trans l).keepT⟩;refine⟨_,(q3.trans l).sqt hs,_,rfl,by decide,fun p4 T=>?_⟩;have M:=Za2 T (HO.tup [V.str "then",V.ref p3,y]);exact o _ _ ((q3.trans l).trans M) (hsv.keep (l.trans M).keepT) (isT_nd.mpr ⟨p4,_,y,rfl,.inl (.inl Za1),hb.keep M.keepT,hy.keep ((q3.trans l).trans M).keepT⟩)
 have v5:(Tm.nd .thn B d).ok:=⟨k2.1,q2.2⟩;have q1:(Tm.nd .thn (.nd .one b B) d).ok:=⟨⟨q2.1,k2.1⟩,q2.2⟩
 have q6:(Tm.nd .thn (.nd .one b B) d).parts<=100:=by show 1+(1+b.parts+B.parts)+d.parts<=100;omega
 refine sqk (fun C=>∀f ka j8,Same H11 f->f ka=some (.lst j8)->Paired (IsT K f) j8 (n.ws.filter fun t=>decide (t≠.nd .thn b d)&&decide (t≠.nd .thn B d))->C [some (.ref a),some (.int c),some (.int (i:Nat)),some I,some F,some J,some (.ref Y),some gi,some (.int (c % 4)),some W,some (.ref p),some (.ref sa),none,some sv,some (.ref ka)] f) (fun C o=>?_) fun H12 ka j8 v3 hka y6=>?_
 ·walk_at "1"
  have S:=e9.trans j0;refine⟨⟨_,SqL.of (S _ _ i2)⟩,fun q5 X=>?_⟩;refine Zh1 (fun t=>decide (t≠.nd .thn b d)&&decide (t≠.nd .thn B d)) (S _ _ i2) (Za8 S.keepT i3) (by omega) X (fun v'=>Ze2 (i:=0) rfl) (fun v' t f U N q9 e hT h j5 y1 hn=>?_) (fun f U e h hP=>?_)
  ·walk_at "1"
   have j2:=m.ok.w t q9;have dep:∀u:Tm,min t.data.depth u.data.depth<=150:=fun u=>zi (ybj _ _) (by rw[Tm.depth];have:=j2.2;have:=Zd5 t;omega);refine⟨t.data,hT,(Tm.nd .thn b d).data,hf.keep (j0.trans e).keepT,t.lay j2.1,Tm.lay _ q2,dep _,?_⟩;rw[Tm.eqv]
   by_cases hto:t=.nd .thn b d
   ·rw[if_neg (by rw[if_pos trivial,decide_eq_true hto];exact zg),if_neg zg]
    exact hn (by rw[decide_eq_false (fun z=>z hto)];rfl) _ (Same.refl _)
   ·rw[if_pos (by rw[if_pos trivial,decide_eq_false hto];rfl)]
    refine⟨t.data,hT,(Tm.nd .thn B d).data,hsv1.keep e.keepT,t.lay j2.1,Tm.lay _ v5,dep _,?_⟩;rw[Tm.eqv]
    by_cases hto2:t=.nd .thn B d
    ·rw[if_neg (by rw[if_pos trivial,decide_eq_true hto2];exact zg)]
     exact hn (by rw[decide_eq_true hto,Bool.true_and];exact decide_eq_false (fun z=>z hto2)) _ (Same.refl _)
    ·rw[if_pos (by rw[if_pos trivial,decide_eq_false hto2];rfl)]
     exact⟨U,h,Zb1 (by omega),y1 (by rw[decide_eq_true hto,decide_eq_true hto2];rfl) _ (Same.refl _) h⟩
  ·exact o _ q5 U e h hP
 have v4:=(e9.trans j0).trans v3;have q7:Okw (n.ws.filter fun t=>decide (t≠.nd .thn b d)&&decide (t≠.nd .thn B d)):=fun t D=>m.ok.w t (yad.mp D).1;have lr:(n.ws.filter fun t=>decide (t≠.nd .thn b d)&&decide (t≠.nd .thn B d)).length<=n.ws.length:=yu _ _;have lkus:=zc y6;walk_at "1";refine⟨by decide,fun p3 O=>?_⟩;have l:=Za2 O (HO.lst [W]);refine⟨j8,l _ _ hka,_,Za1,zk (Zb1 (by show j8.length+1<=1000;omega)),fun p4 T=>Zi1 T (Za8 l.keepT y6) (.cons (Z.keep (v3.trans l).keepT) .nil) q7 (Zg5 q1 q6) (by rw[zd];omega) fun r H13 v0 fr hw=>⟨by decide,fun p5 j9=>⟨by decide,fun p6 v8=>?_⟩⟩⟩;have M:=Za2 j9 (HO.lst [V.int (i:Nat)]);have SS:=((v4.trans l).trans v0).trans M;have q8:=Zh2 (Zh4 q7 (Zg5 q1 q6))
 exact q _ _ _ (SS.trans (Za2 v8 _)) (Zh0 (R:=some .either) (on:=some (.nd .thn (.nd .one b B) d)) (ls:=[(i:Int)]) v8 (hw.keep M) (i4.keep SS.keepT) ⟨Z.keep (((v3.trans l).trans v0).trans M).keepT,q1,q6⟩ Za1 ((v4.trans l).free fr) (((v4.trans l).trans v0).free j9)) ⟨⟨rfl,q8,by have:=Ze1 (n.ws.filter fun t=>decide (t≠.nd .thn b d)&&decide (t≠.nd .thn B d)) [.nd .thn (.nd .one b B) d];rw[zd] at this;exact zi this (by omega),m.ok.g,m.ok.gp,by show 1<=100;decide⟩,Ym3 (Zd0 _) (by
  show (if Tm.nd .thn (.nd .one b B) d∈norm (_++[.nd .thn (.nd .one b B) d]) then some [_] else none)=_
  rw[if_pos (Zd6 (zb.mpr rfl))]) rfl hi j3 rfl (fun t D=>by
  by_cases ht1:t=.nd .thn b d
  ·exact .inl (Zd6 (by rw[ht1];simp))
  ·by_cases ht2:t=.nd .thn B d
   ·exact .inl (Zd6 (by rw[ht2];simp))
   ·exact .inr (Zg9 (yad.mpr ⟨D,by rw[decide_eq_true ht1,decide_eq_true ht2];rfl⟩)))⟩
abbrev nn5:List Str:=["_law_lines","_law_cell_here","_law_here","_law_there","_law_one","_law_extra","_law_wishes","_law_goal","_law_form","_law_other","_law_on","_law_kept","_law_more","_law_first","_law_told_here","_law_less"]
theorem sc_ak0:FnScope nn5 ["_law_lines","_law_cell_here","_law_here","_law_there","_law_one","_law_extra"] (Za6 (top 60)):=scm (by decide +kernel)
theorem Wn9 {k:Nat}(F_ak0:Df K mg "_law_by_two" (top 60) pq7)(C__law_pick:Cl P w K mg base k "_law_pick" pq14 (sp_pick K))(C__law_found:Cl P w K mg base k "_law_found" pq9 (sp_found K))(C__law_once:Cl P w K mg base k "_law_once" ["_law_some"] (sp_onceL K)):Cl P w K mg base (k+1) "_law_by_two" pq7 (sp_bytwo K):=by
 refine F_ak0.okG sc_ak0 fun fx cdv A outer s H vs Q E T h Gx hGx=>?_;obtain⟨a,us,L,c,i,j,M,U,o1,ex,rfl,ha,hL,G,hi,hj,h1,hE,k1,exk,q⟩:=h
 refine hGx _ ⟨_,(Za4 (pst 6 sc_ak0.nd (pxt (pxl (pv 0) (pv 2)) Za5))
 (Za4 (pst 7 sc_ak0.nd (pxt (pxl (pv 0) (pv 2)) Za5))
 (Za4 (pst 8 sc_ak0.nd (Zb0 Zc2 (pv 1) Za5))
 (Za4 (Zc7 (ptc (Zd1) (pv 8) Za5)
  (Za4 (Zf7 (i:=9) sc_ak0.nd rfl (Or.inr rfl) (Zb8 C__law_pick T (Za0 (pv 6) (Za0 (Zb0 Zc5 (pv 1) Za5) (Za0 (pv 5) Za3)))))
 (Za4 (Zf7 (i:=10) sc_ak0.nd rfl (Or.inr rfl) (Zb8 C__law_pick T (Za0 (Zt1 (blk0 (N':=["_law_wish_here"]) (by decide +kernel) (by decide +kernel) rfl (by decide +kernel)) rfl (Ze4 (pv 6)) (fun _ _ _ _=>(pgn 0 (ndS ["_law_wish_here"]))) (fun _ _=>Zh7) (fun _ _ _ _ _=>(Zh3 (ptc (Zd1) (Zn4 (Zk3 (K:=K) rfl) (pv 0) Za5 (fun _ _=>rfl)) Zb6) (Zf1 (pv 0))))) (Za0 (Zb0 Zc5 (pv 1) Za5) (Za0 (Zc0 (Za0 Zb6 (Za0 (pv 4) (Za0 (pv 9) Za3)))) Za3)))))
 (Za4 (Zj8 (i:=11) sc_ak0.nd rfl (Or.inl rfl) (blkD (N':=["_law_wish_here","_law_on"]) (nt:=1) (ci:=[10]) nn5 (Za6 (top 60))) rfl (Ze4 (pv 6)) (fun _ _ _ _=>(pgn 0 (ndS ["_law_wish_here","_law_on"]))) (fun _ _=>Zh7) (fun _ _ _ _ _=>(Zh3 ((Zq6 (ptc (Zk0 (K:=K) rfl (Zg7 T)) (pv 0) (Zn4 (Zk3 (K:=K) rfl) (pv 1) Za5 (fun _ _=>rfl))) (Zk9 (ptc (Zk0 (K:=K) rfl (Zg7 T)) (pv 0) (Zn4 (Zk3 (K:=K) rfl) (pv 1) Za5 (fun _ _=>rfl)))))).pt (Zf1 (pv 0)))) rfl)
 (Za7 (Zb2 (Zc0 (Za0 Zb6 (Za0 (Zb8 C__law_once T (Za0 (Zb0 Zf0 (pv 11) (Zb7 (Za0 (pv 10) Za3))) Za3)) (Za0 (pv 7) (Za0 (pv 10) (Za0 (Zb7 (Za0 (pv 2) Za3)) Za3)))))))))))
  Zb4)
 (Za4 (Zc7 (ptc (Zd1) (pv 8) Za5)
  (Za4 (pst 3 sc_ak0.nd (Zb8 C__law_found T (Za0 (pv 0) (Za0 (pv 3) (Za0 (pv 7) (Za0 Zb6 Za3))))))
 (Za4 (pst 12 sc_ak0.nd (pxt (pxl (pv 0) (pv 3)) Za5))
 (Za4 (Zf7 (i:=9) sc_ak0.nd rfl (Or.inr rfl) (Zb8 C__law_pick T (Za0 (pv 12) (Za0 (Zb0 Zc5 (pv 1) Za5) (Za0 (pv 5) Za3)))))
 (Za4 (Zf7 (i:=10) sc_ak0.nd rfl (Or.inr rfl) (Zc0 (Za0 Zb6 (Za0 (pv 4) (Za0 (pv 9) Za3)))))
 (Za4 (pst 11 sc_ak0.nd (Zb0 Zf0 (Zt1 (blkD (N':=["_law_wish_here","_law_one"]) (nt:=1) (ci:=[4]) nn5 (Za6 (top 60))) rfl (Ze4 (pv 6)) (fun _ _ _ _=>(pgn 0 (ndS ["_law_wish_here","_law_one"]))) (fun _ _=>Zh7) (fun _ _ _ _ _=>(Zh3 (ptc (Zk0 (K:=K) rfl (Zg7 T)) (pv 0) (pv 1)) (Zf1 (pv 0))))) (Zt1 (blkD (N':=["_law_wish_here","_law_other"]) (nt:=1) (ci:=[9]) nn5 (Za6 (top 60))) rfl (Ze4 (pv 12)) (fun _ _ _ _=>(pgn 0 (ndS ["_law_wish_here","_law_other"]))) (fun _ _=>Zh7) (fun _ _ _ _ _=>(Zh3 (ptc (Zk0 (K:=K) rfl (Zg7 T)) (pv 0) (pv 1)) (Zf1 (pv 0)))))))
 (Za7 (Zb2 (Zc0 (Za0 Zb6 (Za0 (Zb8 C__law_once T (Za0 (Zb0 Zf0 (pv 11) (Zb7 (Za0 (pv 10) Za3))) Za3)) (Za0 (pv 7) (Za0 (pv 10) (Za0 (Zb7 (Za0 (pv 2) (Za0 (pv 3) Za3))) Za3)))))))))))))
  Zb4)
 (Za4 (pst 12 sc_ak0.nd (pxt (pxl (pv 0) (pv 3)) Za5))
 (Za4 (Zf7 (i:=9) sc_ak0.nd rfl (Or.inr rfl) (Zb8 C__law_pick T (Za0 (pv 12) (Za0 (Zb0 Zc5 (pv 1) Za5) (Za0 (pv 5) Za3)))))
 (Za4 (Zj8 (i:=11) sc_ak0.nd rfl (Or.inl rfl) (blkD (N':=["_law_wish_here","_law_other"]) (nt:=1) (ci:=[9]) nn5 (Za6 (top 60))) rfl (Ze4 (pv 12)) (fun _ _ _ _=>(pgn 0 (ndS ["_law_wish_here","_law_other"]))) (fun _ _=>Zh7) (fun _ _ _ _ _=>(Zh3 (ptc (Zk0 (K:=K) rfl (Zg7 T)) (pv 0) (pv 1)) (Zf1 (pv 0)))) rfl)
 (Za4 (pst 13 sc_ak0.nd (Zb8 C__law_found T (Za0 (pv 0) (Za0 (pv 2) (Za0 Ze3 (Za0 Zb6 Za3))))))
 (Za4 (Zc7 ((Zq6 (ptc (Zd1) (pv 8) Za5) (Zk9 (ptc (Xh3) (pv 13) Ze3)))).pt
  (Za4 (Zf7 (i:=14) sc_ak0.nd rfl (Or.inr rfl) (pxt (pxl (pv 0) (pv 13)) Za5))
 (Za4 (Zf7 (i:=10) sc_ak0.nd rfl (Or.inr rfl) (Zc0 (Za0 Zb6 (Za0 (pv 14) (Za0 (pv 9) Za3)))))
 (Za4 (Zj8 (i:=15) sc_ak0.nd rfl (Or.inl rfl) (blkD (N':=["_law_wish_here","_law_other","_law_told_here"]) (nt:=1) (ci:=[9,14]) nn5 (Za6 (top 60))) rfl (Ze4 (pxt (pxl (pv 0) (pv 13)) Za5)) (fun _ _ _ _=>(pgn 0 (ndS ["_law_wish_here","_law_other","_law_told_here"]))) (fun _ _=>Zh7) (fun _ _ _ _ _=>(Zh3 (ptc (Zk0 (K:=K) rfl (Zg7 T)) (pv 0) (Zc0 (Za0 Zb6 (Za0 (Zn4 (Zk3 (K:=K) rfl) (pv 2) Za5 (fun _ _=>rfl)) (Za0 (pv 1) Za3))))) (Zf1 (pv 0)))) rfl)
 (Za7 (Zb2 (Zc0 (Za0 Zb6 (Za0 (Zb8 C__law_once T (Za0 (Zb0 Zf0 (Zb0 Zf0 (pv 15) (pv 11)) (Zb7 (Za0 (pv 10) Za3))) Za3)) (Za0 (pxt (pxl (pv 0) (pv 3)) Za5) (Za0 (pv 10) (Za0 (Zb7 (Za0 (pv 13) (Za0 (pv 3) Za3))) Za3)))))))))))
  Zb4)
 (Za4 (Zf7 (i:=10) sc_ak0.nd rfl (Or.inr rfl) (Zc0 (Za0 Zb6 (Za0 (pv 7) (Za0 (pv 9) Za3)))))
 (Za7 (Zb2 (Zc0 (Za0 Zb6 (Za0 (Zb8 C__law_once T (Za0 (Zb0 Zf0 (Zb0 Zf0 (pv 6) (pv 11)) (Zb7 (Za0 (pv 10) Za3))) Za3)) (Za0 (pxt (pxl (pv 0) (pv 3)) Za5) (Za0 (pv 10) (Za0 (Zb7 (Za0 (pv 2) (Za0 (pv 3) Za3))) Za3))))))))))))))))))),?_⟩
 have lu:us.length=L.length:=zc hL
 have hiu:i < us.length:=by omega
 have y5:j < us.length:=by omega
 obtain⟨O,y1,hvi⟩:=paired_get hL (za hiu);obtain⟨lj,v7,hvj⟩:=paired_get hL (za y5);have J:=G.ok O (yc y1);have j0:=G.ok lj (yc v7);obtain⟨pi,X,ai,W,oi,yi,evi,i1,i2,i3,i4,i5,i6⟩:=hvi;obtain⟨pj,wj,aj,gj,oj,yj,evj,j1,j2,j3,j4,j5,j6⟩:=hvj;have w9:=J.w9;have w9j:=j0.w9;have gp1:=J.g40;have kp1:=k1.2;have y8:∀l∈L,OkLn l:=fun l hl=>(G.ok l hl).ok;have ln:=G.len;have y7:∀(l:List Tm) (o:Tm),(rem l o).length<=l.length:=fun l o=>yu _ _;refine sqk (fun C=>C [some (.ref a),some (.int c),some (.int (i:Nat)),some (.int (j:Nat)),some M,some U,some (.ref X),none,none,none,none,none,none,none,none,none] H) (fun C B=>?_) ?_
 ·walk_at "1"
  exact⟨us,SqL.of ha,_,Zd3 (za hiu),pi,evi,_,i1,_,rfl,B⟩
 refine sqk (fun C=>C [some (.ref a),some (.int c),some (.int (i:Nat)),some (.int (j:Nat)),some M,some U,some (.ref X),some W,none,none,none,none,none,none,none,none] H) (fun C B=>?_) ?_
 ·walk_at "1"
  exact⟨us,SqL.of ha,_,Zd3 (za hiu),pi,evi,_,i1,_,rfl,B⟩
 refine sqk (fun C=>C [some (.ref a),some (.int c),some (.int (i:Nat)),some (.int (j:Nat)),some M,some U,some (.ref X),some W,some (.int (c % 4)),none,none,none,none,none,none,none] H) (fun C B=>?_) ?_
 ·walk_at "1"
  exact⟨by decide,B⟩
 refine sqt (fun z6 f=>z6=[some (.ref a),some (.int c),some (.int (i:Nat)),some (.int (j:Nat)),some M,some U,some (.ref X),some W,some (.int (c % 4)),none,none,none,none,none,none,none]/\f=H) ?_ ?_
 ·intro C B
  walk_at "3";refine ite2 (fun _=>?_) (fun _=>B _ _ ⟨rfl,rfl⟩);refine sqk (fun C=>∀f F m,Same H f->IsT K f F m->S40 m->C [some (.ref a),some (.int c),some (.int (i:Nat)),some (.int (j:Nat)),some M,some U,some (.ref X),some W,some (.int (c % 4)),some F,none,none,none,none,none,none] f) (fun C B=>?_) fun H4 F m e4 hx4 k2=>?_
  ·walk_at "1"
   refine⟨⟨by decide,by decide⟩,X,_,U,yi,O.ws,ex,rfl,i2,i3,J.ok.w,hE,fun r t f e T D=>B _ r t e T ?_⟩;rcases D with rfl | D
   ·exact exk
   ·exact J.s40 t D
  have kp2:=k2.2;refine sqh (fun C=>∀f ov b d,Same H f->IsT K f ov (.nd .both b d)->(Tm.nd .both b d).ok->(Tm.nd .both b d).parts<=81->C [some (.ref a),some (.int c),some (.int (i:Nat)),some (.int (j:Nat)),some M,some U,some (.ref X),some W,some (.int (c % 4)),some F,some ov,none,none,none,none,none] f) (fun C B=>?_) fun Ux hUx H5 ov b d e5 q6 z7 opp=>?_
  ·walk_at "1"
   refine⟨⟨_,SqL.of (e4 _ _ i2)⟩,fun j8 q5=>?_⟩;refine Zh1 (fun t=>decide (Zk4 t="both")) (e4 _ _ i2) (Za8 e4.keepT i3) (by omega) q5 (fun v'=>Ze2 (i:=0) rfl) (fun v' t f ys N y2 e hT h v9 hy hn=>?_) (fun f ys e h hP=>?_)
   ·walk_at "1"
    obtain⟨p,xs,rfl,hs⟩:=Zl8 hT;refine⟨p,rfl,_,hs,_,at0 _ _,Ze6 _ _,?_⟩
    by_cases hc:Zk4 t="both"
    ·rw[if_pos (by rw[hc])]
     exact⟨ys,h,Zb1 (by omega),hy (decide_eq_true hc) _ (Same.refl _) h⟩
    ·rw[if_neg (fun z=>hc (V.str.inj z))]
     exact hn (decide_eq_false hc) _ (Same.refl _)
   ·refine⟨⟨by decide,by decide⟩,by decide,fun p hp=>?_⟩
    have v:=Za2 hp (HO.tup [V.str "both",M,F]);have S:=(e4.trans e).trans v;have hd:IsT K (upd f p (HO.tup [V.str "both",M,F])) (.ref p) (.nd .both o1 m):=isT_nd.mpr ⟨p,M,F,rfl,.inl (.inl Za1),h1.keep S.keepT,hx4.keep (e.trans v).keepT⟩;refine⟨j8,_,.ref p,ys,_,.nd .both o1 m,rfl,v _ _ h,Za8 v.keepT hP,fun t D=>J.ok.w t (yad.mp D).1,hd,fun r t H'' e2 T D=>?_⟩;rcases D with rfl | D
    ·exact B _ r o1 m (S.trans e2) T ⟨k1.1,k2.1⟩ (by show 1+o1.parts+m.parts<=81;omega)
    ·obtain⟨hm,hh⟩:=yad.mp D
     obtain⟨b,d,rfl⟩:=Xa2 (of_decide_eq_true hh);exact B _ r b d (S.trans e2) T ((J.ok.w _ hm).1) (by have:=J.w40 _ hm;omega)
  obtain⟨p,x,y,rfl,hs,hx,hy⟩:=isT_nd.mp q6;refine hUx _ _ ?_;refine sqk (fun C=>∀f ka I,Same H5 f->f ka=some (.lst I)->Paired (IsT K f) I (O.ws.filter fun t=>decide (t≠b)&&decide (t≠d))->C [some (.ref a),some (.int c),some (.int (i:Nat)),some (.int (j:Nat)),some M,some U,some (.ref X),some W,some (.int (c % 4)),some F,some (.ref p),some (.ref ka),none,none,none,none] f) (fun C B=>?_) fun H6 ka I e6 z4 q4=>?_
  ·walk_at "1"
   refine⟨⟨_,SqL.of (e5 _ _ i2)⟩,fun j8 q5=>?_⟩;refine Zh1 (fun t=>decide (t≠b)&&decide (t≠d)) (e5 _ _ i2) (Za8 e5.keepT i3) (by omega) q5 (fun v'=>Ze2 (i:=0) rfl) (fun v' t f ys N y2 e hT h v9 v0 hn=>?_) (fun f ys e h hP=>?_)
   ·walk_at "1"
    have z2:=J.ok.w t y2;have dep:∀u:Tm,min t.data.depth u.data.depth<=150:=fun u=>zi (ybj _ _) (by rw[Tm.depth];have:=z2.2;have:=Zd5 t;omega);refine⟨_,e.sqt hs,_,rfl,t.data,hT,b.data,hx.keep e.keepT,t.lay z2.1,b.lay z7.1,dep _,?_⟩;rw[Tm.eqv]
    by_cases hto:t=b
    ·rw[if_neg (by rw[if_pos trivial,decide_eq_true hto];exact zg),if_neg zg]
     exact hn (by rw[decide_eq_false (fun z=>z hto)];rfl) _ (Same.refl _)
    ·rw[if_pos (by rw[if_pos trivial,decide_eq_false hto];rfl)]
     refine⟨_,e.sqt hs,_,rfl,t.data,hT,d.data,hy.keep e.keepT,t.lay z2.1,d.lay z7.2,dep _,?_⟩;rw[Tm.eqv]
     by_cases hto2:t=d
     ·rw[if_neg (by rw[if_pos trivial,decide_eq_true hto2];exact zg)]
      exact hn (by rw[decide_eq_true hto,Bool.true_and];exact decide_eq_false (fun z=>z hto2)) _ (Same.refl _)
     ·rw[if_pos (by rw[if_pos trivial,decide_eq_false hto2];rfl)]
      exact⟨ys,h,Zb1 (by omega),v0 (by rw[decide_eq_true hto,decide_eq_true hto2];rfl) _ (Same.refl _) h⟩
   ·exact B _ j8 ys e h hP
  have S6:=e5.trans e6;have q7:Okw (O.ws.filter fun t=>decide (t≠b)&&decide (t≠d)):=fun t D=>J.ok.w t (yad.mp D).1;have lr:(O.ws.filter fun t=>decide (t≠b)&&decide (t≠d)).length<=O.ws.length:=yu _ _;have y9:=zc q4
  have Y:(Tm.nd .both b d).parts<=100:=by omega
  walk_at "1";refine⟨by decide,fun p3 q0=>?_⟩;have v:=Za2 q0 (HO.lst [V.ref p]);refine⟨I,v _ _ z4,_,Za1,zk (Zb1 (by show I.length+1<=1000;omega)),fun p4 z0=>Zi1 z0 (Za8 v.keepT q4) (.cons (q6.keep (e6.trans v).keepT) .nil) q7 (Zg5 z7 Y) (by rw[zd];omega) fun r H13 q2 fr hw=>⟨by decide,fun p5 q9=>⟨by decide,fun p6 q8=>?_⟩⟩⟩;have s2:=Za2 q9 (HO.lst [V.int (i:Nat)]);have SS:=((S6.trans v).trans q2).trans s2;have j9:=Zh2 (Zh4 q7 (Zg5 z7 Y))
  exact q _ _ _ (SS.trans (Za2 q8 _)) (Zh0 (R:=some .parts) (on:=some (.nd .both b d)) (ls:=[(i:Int)]) q8 (hw.keep s2) (i4.keep SS.keepT) ⟨q6.keep (((e6.trans v).trans q2).trans s2).keepT,z7,Y⟩ Za1 ((S6.trans v).free fr) (((S6.trans v).trans q2).free q9)) ⟨⟨rfl,j9,by have:=Ze1 (O.ws.filter fun t=>decide (t≠b)&&decide (t≠d)) [.nd .both b d];rw[zd] at this;exact zi this (by omega),J.ok.g,J.ok.gp,by show 1<=100;decide⟩,Ym3 (Zd0 _) (by
   show (if Tm.nd .both b d∈norm (_++[.nd .both b d]) then some [_] else none)=_
   rw[if_pos (Zd6 (zb.mpr rfl))]) rfl hi y1 rfl (fun t D=>by
   by_cases ht1:t=b
   ·exact .inl (Zd6 (by rw[ht1];simp))
   ·by_cases ht2:t=d
    ·exact .inl (Zd6 (by rw[ht2];simp))
    ·exact .inr (Zg9 (yad.mpr ⟨D,by rw[decide_eq_true ht1,decide_eq_true ht2];rfl⟩)))⟩
 rintro σ4 H4 ⟨rfl,rfl⟩;refine sqt (fun z6 f=>z6=[some (.ref a),some (.int c),some (.int (i:Nat)),some (.int (j:Nat)),some M,some U,some (.ref X),some W,some (.int (c % 4)),none,none,none,none,none,none,none]/\f=H4) ?_ ?_
 ·intro C B
  walk_at "3";refine ite2 (fun _=>?_) (fun _=>B _ _ ⟨rfl,rfl⟩);refine sqk (fun C=>∀f n lm,Same H4 f->L[n]?=some lm->lm.g=O.g->C [some (.ref a),some (.int c),some (.int (i:Nat)),some (.int (n:Nat)),some M,some U,some (.ref X),some W,some (.int (c % 4)),none,none,none,none,none,none,none] f) (fun C B=>?_) fun H5 n lm e5 y3 hgm=>?_
  ·walk_at "1"
   exact⟨a,us,L,_,W,some O.g,_,rfl,ha,hL,y8,by omega,⟨i4,J.ok.g,J.ok.gp⟩,fun hno=>absurd rfl (hno O (yc y1)),fun n l hl hf f e=>B _ n l e hl hf⟩
  have v5:n < L.length:=(ze.mp y3).1
  have z3:n < us.length:=by omega
  have z8:=G.ok lm (yc y3);obtain⟨lm',v6,hvm⟩:=paired_get hL (za z3);rw[y3] at v6;cases v6;obtain⟨pm,wm,am,gm,om,ym,evm,m1,m2,m3,m4,m5,m6⟩:=hvm;have w9m:=z8.w9;refine sqk (fun C=>C [some (.ref a),some (.int c),some (.int (i:Nat)),some (.int (n:Nat)),some M,some U,some (.ref X),some W,some (.int (c % 4)),none,none,none,some (.ref wm),none,none,none] H5) (fun C B=>?_) ?_
  ·walk_at "1"
   exact⟨us,SqL.of (e5 _ _ ha),_,Zd3 (za z3),pm,evm,_,e5.sqt m1,_,rfl,B⟩
  refine sqk (fun C=>∀f F m,Same H4 f->IsT K f F m->S40 m->C [some (.ref a),some (.int c),some (.int (i:Nat)),some (.int (n:Nat)),some M,some U,some (.ref X),some W,some (.int (c % 4)),some F,none,none,some (.ref wm),none,none,none] f) (fun C B=>?_) fun H7 F m e7 y0 k2=>?_
  ·walk_at "1"
   refine⟨⟨by decide,by decide⟩,wm,_,U,ym,lm.ws,ex,rfl,e5 _ _ m2,Za8 e5.keepT m3,z8.ok.w,hE.keep e5.keepT,fun r t f e T D=>B _ r t (e5.trans e) T ?_⟩;rcases D with rfl | D
   ·exact exk
   ·exact z8.s40 t D
  have kp2:=k2.2;refine sqk (fun C=>∀f ov,Same H7 f->IsT K f ov (.nd .one o1 m)->C [some (.ref a),some (.int c),some (.int (i:Nat)),some (.int (n:Nat)),some M,some U,some (.ref X),some W,some (.int (c % 4)),some F,some ov,none,some (.ref wm),none,none,none] f) (fun C B=>?_) fun H8 ov e8 q6=>?_
  ·walk_at "1"
   refine⟨by decide,fun p3 q0=>?_⟩;have v:=Za2 q0 (HO.tup [V.str "one",M,F]);exact B _ _ v (isT_nd.mpr ⟨p3,M,F,rfl,.inl (.inl Za1),h1.keep (e7.trans v).keepT,y0.keep v.keepT⟩)
  have S8:=e7.trans e8;have Z:(Tm.nd .one o1 m).ok:=⟨k1.1,k2.1⟩
  have Y:(Tm.nd .one o1 m).parts<=100:=by show 1+o1.parts+m.parts<=100;omega
  have lr1:=y7 O.ws o1;have lr2:=y7 lm.ws m;refine sqk (fun C=>∀f ka I,Same H8 f->f ka=some (.lst I)->Paired (IsT K f) I (rem O.ws o1++rem lm.ws m)->C [some (.ref a),some (.int c),some (.int (i:Nat)),some (.int (n:Nat)),some M,some U,some (.ref X),some W,some (.int (c % 4)),some F,some ov,some (.ref ka),some (.ref wm),none,none,none] f) (fun C B=>?_) fun H9 ka I e9 z4 q4=>?_
  ·walk_at "1"
   refine⟨⟨_,SqL.of (S8 _ _ i2)⟩,fun j8 q5=>?_⟩;refine Yr9 (S8 _ _ i2) (Za8 S8.keepT i3) (by omega) q5 J.ok.w (h1.keep S8.keepT) k1.1 fun f ys e h hP=>?_;refine⟨⟨_,SqL.of ((S8.trans e) _ _ m2)⟩,fun acc2 hacc2=>?_⟩;refine Yr9 ((S8.trans e) _ _ m2) (Za8 (S8.trans e).keepT m3) (by omega) hacc2 z8.ok.w (y0.keep (e8.trans e).keepT) k2.1 fun H'' ys2 e2 h2 hP2=>?_;have l1:=zc hP;have l2:=zc hP2;refine⟨ys,e2 _ _ h,ys2,h2,zk (Zb1 (by omega)),fun p hp=>?_⟩;have v:=Za2 hp (HO.lst (ys++ys2));exact B _ p _ ((e.trans e2).trans v) Za1 (Zc4 (Za8 (e2.trans v).keepT hP) (Za8 v.keepT hP2))
  have y9:=zc q4
  have ll:(rem O.ws o1++rem lm.ws m).length<=18:=by rw[zf];omega
  have q7:Okw (rem O.ws o1++rem lm.ws m):=Zh4 (fun t D=>J.ok.w t (mem_rem.mp D).1) (fun t D=>z8.ok.w t (mem_rem.mp D).1);walk_at "1";refine⟨by decide,fun p3 q0=>?_⟩;have v:=Za2 q0 (HO.lst [ov]);refine⟨I,v _ _ z4,_,Za1,zk (Zb1 (by show I.length+1<=1000;omega)),fun p4 z0=>Zi1 z0 (Za8 v.keepT q4) (.cons (q6.keep (e9.trans v).keepT) .nil) q7 (Zg5 Z Y) (by rw[zd];omega) fun r H13 q2 fr hw=>⟨by decide,fun p5 q9=>⟨by decide,fun p6 q8=>?_⟩⟩⟩;have s2:=Za2 q9 (HO.lst [V.int (i:Nat),V.int (n:Nat)]);have SS:=(((S8.trans e9).trans v).trans q2).trans s2;have j9:=Zh2 (Zh4 q7 (Zg5 Z Y))
  exact q _ _ _ (SS.trans (Za2 q8 _)) (Zh0 (R:=some .cases) (on:=some (.nd .one o1 m)) (ls:=[(i:Int),(n:Int)]) q8 (hw.keep s2) (i4.keep SS.keepT) ⟨q6.keep (((e9.trans v).trans q2).trans s2).keepT,Z,Y⟩ Za1 (((S8.trans e9).trans v).free fr) ((((S8.trans e9).trans v).trans q2).free q9)) ⟨⟨rfl,j9,by have:=Ze1 (rem O.ws o1++rem lm.ws m) [.nd .one o1 m];rw[zd] at this;exact zi this (by omega),J.ok.g,J.ok.gp,by show 2<=100;decide⟩,good2 (Zd0 _) (by
   show (if Tm.nd .one o1 m∈norm (_++[.nd .one o1 m]) then some [_,_] else none)=_
   rw[if_pos (Zd6 (zb.mpr rfl))]) rfl hi y1 rfl (fun t D=>by
   by_cases ht1:t=o1
   ·exact .inl (Zd6 (zb.mpr ht1))
   ·exact .inr (Zg9 (yd.mpr (.inl (mem_rem.mpr ⟨D,ht1⟩))))) v5 y3 hgm (fun t D=>by
   by_cases ht1:t=m
   ·exact .inl (Zd6 (zb.mpr ht1))
   ·exact .inr (Zg9 (yd.mpr (.inr (mem_rem.mpr ⟨D,ht1⟩)))))⟩
 rintro σ5 H5 ⟨rfl,rfl⟩;refine sqk (fun C=>C [some (.ref a),some (.int c),some (.int (i:Nat)),some (.int (j:Nat)),some M,some U,some (.ref X),some W,some (.int (c % 4)),none,none,none,some (.ref wj),none,none,none] H5) (fun C B=>?_) ?_
 ·walk_at "1"
  exact⟨us,SqL.of ha,_,Zd3 (za y5),pj,evj,_,j1,_,rfl,B⟩
 refine sqk (fun C=>∀f F m,Same H5 f->IsT K f F m->S40 m->C [some (.ref a),some (.int c),some (.int (i:Nat)),some (.int (j:Nat)),some M,some U,some (.ref X),some W,some (.int (c % 4)),some F,none,none,some (.ref wj),none,none,none] f) (fun C B=>?_) fun H7 F m e7 y0 k2=>?_
 ·walk_at "1"
  refine⟨⟨by decide,by decide⟩,wj,_,U,yj,lj.ws,ex,rfl,j2,j3,j0.ok.w,hE,fun r t f e T D=>B _ r t e T ?_⟩;rcases D with rfl | D
  ·exact exk
  ·exact j0.s40 t D
 have kp2:=k2.2;refine sqk (fun C=>∀f ka I,Same H5 f->IsT K f F m->f ka=some (.lst I)->Paired (IsT K f) I (rem lj.ws m)->C [some (.ref a),some (.int c),some (.int (i:Nat)),some (.int (j:Nat)),some M,some U,some (.ref X),some W,some (.int (c % 4)),some F,none,some (.ref ka),some (.ref wj),none,none,none] f) (fun C B=>?_) fun H8 ka I e8 v2 z4 q4=>?_
 ·walk_at "1"
  refine⟨⟨_,SqL.of (e7 _ _ j2)⟩,fun j8 q5=>?_⟩;exact Yr9 (e7 _ _ j2) (Za8 e7.keepT j3) (by omega) q5 j0.ok.w y0 k2.1 fun f ys e h hP=>B _ j8 ys (e7.trans e) (y0.keep e.keepT) h hP
 have lk:=y7 lj.ws m;have y9:=zc q4;have okk:Okw (rem lj.ws m):=fun t D=>j0.ok.w t (mem_rem.mp D).1;refine sqk (fun C=>∀f fv,Same H8 f->(fv=.non∨∃n lf b d,fv=.int (n:Nat)/\L[n]?=some lf/\lf.g=.nd .thn b d)->C [some (.ref a),some (.int c),some (.int (i:Nat)),some (.int (j:Nat)),some M,some U,some (.ref X),some W,some (.int (c % 4)),some F,none,some (.ref ka),some (.ref wj),some fv,none,none] f) (fun C B=>?_) fun H9 fv e9 hfv=>?_
 ·walk_at "1"
  refine⟨a,us,L,_,.non,none,_,rfl,e8 _ _ ha,IsLns.keep e8 hL,y8,by omega,rfl,fun _ f e=>B _ _ e (.inl rfl),fun n l hl hf f e=>?_⟩;obtain⟨b,d,hg⟩:=Zl9 hf;exact B _ _ e (.inr ⟨n,l,b,d,rfl,hl,hg⟩)
 have S9:=e8.trans e9;refine sqt (fun z6 f=>z6=[some (.ref a),some (.int c),some (.int (i:Nat)),some (.int (j:Nat)),some M,some U,some (.ref X),some W,some (.int (c % 4)),some F,none,some (.ref ka),some (.ref wj),some fv,none,none]/\f=H9) ?_ ?_
 ·intro C B
  walk_at "3";refine ite2 (fun _=>?_) (fun _=>?_)
  ·rcases hfv with rfl | ⟨n,lf,b,d,rfl,y4,hgf⟩
   ·rw[if_neg (by rw[decide_eq_true rfl];decide)]
    exact B _ _ ⟨rfl,rfl⟩
   rw[if_pos (by rw[decide_eq_false (fun z=>nomatch z)];rfl)];have v5:n < L.length:=(ze.mp y4).1
   have z3:n < us.length:=by omega
   have z9:=G.ok lf (yc y4);obtain⟨lf',v8,hvf⟩:=paired_get hL (za z3);rw[y4] at v8;cases v8;obtain⟨pf,wf,af,gf,of,yf,evf,f1,f2,f3,f4,f5,f6⟩:=hvf;have w9f:=z9.w9;have gfp:=z9.g40;have gfo:=z9.ok.g;rw[hgf] at f4 gfp gfo;have gfp2:1+b.parts+d.parts<=40:=gfp;obtain⟨pg,xg,yg,rfl,hsg,hxg,hyg⟩:=isT_nd.mp f4;refine sqk (fun C=>C [some (.ref a),some (.int c),some (.int (i:Nat)),some (.int (j:Nat)),some M,some U,some (.ref X),some W,some (.int (c % 4)),some F,none,some (.ref ka),some (.ref wj),some (.int (n:Nat)),some (.ref pg),none] H9) (fun C B=>?_) ?_
   ·walk_at "1"
    exact⟨us,SqL.of (S9 _ _ ha),_,Zd3 (za z3),pf,evf,_,S9.sqt f1,_,rfl,B⟩
   refine sqk (fun C=>∀f ov,Same H9 f->IsT K f ov (.nd .thn (.nd .thn b d) m)->C [some (.ref a),some (.int c),some (.int (i:Nat)),some (.int (j:Nat)),some M,some U,some (.ref X),some W,some (.int (c % 4)),some F,some ov,some (.ref ka),some (.ref wj),some (.int (n:Nat)),some (.ref pg),none] f) (fun C B=>?_) fun H11 ov z5 q6=>?_
   ·walk_at "1"
    refine⟨by decide,fun p3 q0=>?_⟩;have v:=Za2 q0 (HO.tup [V.str "then",V.ref pg,F]);exact B _ _ v (isT_nd.mpr ⟨p3,_,F,rfl,.inl (.inl Za1),f4.keep (S9.trans v).keepT,v2.keep (e9.trans v).keepT⟩)
   have q3:=S9.trans z5;have Z:(Tm.nd .thn (.nd .thn b d) m).ok:=⟨gfo,k2.1⟩
   have Y:(Tm.nd .thn (.nd .thn b d) m).parts<=100:=by show 1+(1+b.parts+d.parts)+m.parts<=100;omega
   have scok:(Tm.nd .thn d m).ok:=⟨gfo.2,k2.1⟩;refine sqk (fun C=>∀f sa z1,Same H11 f->f sa=some (.lst z1)->Paired (IsT K f) z1 (rem lf.ws (.nd .thn d m))->C [some (.ref a),some (.int c),some (.int (i:Nat)),some (.int (j:Nat)),some M,some U,some (.ref X),some W,some (.int (c % 4)),some F,some ov,some (.ref ka),some (.ref wj),some (.int (n:Nat)),some (.ref pg),some (.ref sa)] f) (fun C B=>?_) fun H12 sa z1 y6 hsa v3=>?_
   ·walk_at "1"
    refine⟨us,SqL.of (q3 _ _ ha),_,Zd3 (za z3),pf,evf,_,q3.sqt f1,_,rfl,wf,rfl,⟨_,SqL.of (q3 _ _ f2)⟩,fun j8 q5=>?_⟩;refine Zh1 (fun t=>decide (t≠.nd .thn d m)) (q3 _ _ f2) (Za8 q3.keepT f3) (by omega) q5 (fun v'=>Ze2 (i:=0) rfl) (fun v' t f ys N y2 e hT h v9 v0 hn=>?_) (fun f ys e h hP=>?_)
    ·walk_at "1"
     have z2:=z9.ok.w t y2;refine⟨_,(q3.trans e).sqt hsg,_,rfl,by decide,fun p3 q0=>?_⟩;have v:=Za2 q0 (HO.tup [V.str "then",yg,F]);have hsec:IsT K (upd f p3 (HO.tup [V.str "then",yg,F])) (.ref p3) (.nd .thn d m):=isT_nd.mpr ⟨p3,yg,F,rfl,.inl (.inl Za1),hyg.keep ((q3.trans e).trans v).keepT,v2.keep (((e9.trans z5).trans e).trans v).keepT⟩;refine⟨t.data,hT.keep v.keepT,(Tm.nd .thn d m).data,hsec,t.lay z2.1,Tm.lay _ scok,zi (ybj _ _) (by rw[Tm.depth];have:=z2.2;have:=Zd5 t;omega),?_⟩;rw[Tm.eqv]
     by_cases hto:t=.nd .thn d m
     ·rw[if_neg (by rw[if_pos trivial,decide_eq_true hto];exact zg)]
      exact hn (decide_eq_false (fun z=>z hto)) _ v
     ·rw[if_pos (by rw[if_pos trivial,decide_eq_false hto];rfl)]
      exact⟨ys,v _ _ h,Zb1 (by omega),v0 (decide_eq_true hto) _ v (v _ _ h)⟩
    ·exact B _ j8 ys e h hP
   have S12:=q3.trans y6;have lr1:=y7 lf.ws (.nd .thn d m);have lsus:=zc v3;have q7:Okw (rem lf.ws (.nd .thn d m)++rem lj.ws m):=Zh4 (fun t D=>z9.ok.w t (mem_rem.mp D).1) okk
   have ll:(rem lf.ws (.nd .thn d m)++rem lj.ws m).length<=18:=by rw[zf];omega
   have ek:=(e9.trans z5).trans y6;walk_at "1";refine⟨z1,hsa,I,ek _ _ z4,zk (Zb1 (by omega)),fun p2 v4=>⟨by decide,fun p3 q0=>?_⟩⟩;have s0:=Za2 v4 (HO.lst (z1++I));have v:=Za2 q0 (HO.lst [ov]);have q1:=s0.trans v;refine⟨z1++I,v _ _ Za1,_,Za1,zk (Zb1 (by rw[zf,zd];omega)),fun p4 z0=>Zi1 z0 (Zc4 (Za8 q1.keepT v3) (Za8 (ek.trans q1).keepT q4)) (.cons (q6.keep (y6.trans q1).keepT) .nil) q7 (Zg5 Z Y) (by rw[zd];omega) fun r H13 q2 fr hw=>?_⟩;have j7:=(S12.trans q1).trans q2;refine⟨us,SqL.of (j7 _ _ ha),_,Zd3 (za y5),pj,evj,_,j7.sqt j1,_,rfl,by decide,fun p5 q9=>⟨by decide,fun p6 q8=>?_⟩⟩;have s2:=Za2 q9 (HO.lst [V.int (n:Nat),V.int (j:Nat)]);have SS:=j7.trans s2;have j9:=Zh2 (Zh4 q7 (Zg5 Z Y));have gjp:=j0.ok.gp
   exact q _ _ _ (SS.trans (Za2 q8 _)) (Zh0 (R:=some .chain) (on:=some (.nd .thn (.nd .thn b d) m)) (ls:=[(n:Int),(j:Int)]) q8 (hw.keep s2) (j4.keep SS.keepT) ⟨q6.keep (((y6.trans q1).trans q2).trans s2).keepT,Z,Y⟩ Za1 ((S12.trans q1).free fr) (j7.free q9)) ⟨⟨rfl,j9,by have:=Ze1 (rem lf.ws (.nd .thn d m)++rem lj.ws m) [.nd .thn (.nd .thn b d) m];rw[zd] at this;exact zi this (by omega),j0.ok.g,gjp,by show 2<=100;decide⟩,good2 (Zd0 _) (by
    show (if Tm.nd .thn (.nd .thn b d) m∈norm (_++[.nd .thn (.nd .thn b d) m]) then some [_,_] else none)=_
    rw[if_pos (Zd6 (zb.mpr rfl))]) rfl v5 y4 hgf (fun t D=>by
    by_cases ht1:t=.nd .thn d m
    ·exact .inl (Zd6 (zb.mpr ht1))
    ·exact .inr (Zg9 (yd.mpr (.inl (mem_rem.mpr ⟨D,ht1⟩))))) hj v7 rfl (fun t D=>by
    by_cases ht1:t=m
    ·exact .inl (Zd6 (zb.mpr ht1))
    ·exact .inr (Zg9 (yd.mpr (.inr (mem_rem.mpr ⟨D,ht1⟩)))))⟩
  ·rw[if_neg zg]
   exact B _ _ ⟨rfl,rfl⟩
 rintro σ10 H10 ⟨rfl,rfl⟩;refine sqk (fun C=>∀f ov,Same H10 f->IsT K f ov (.nd .thn O.g m)->C [some (.ref a),some (.int c),some (.int (i:Nat)),some (.int (j:Nat)),some M,some U,some (.ref X),some W,some (.int (c % 4)),some F,some ov,some (.ref ka),some (.ref wj),some fv,none,none] f) (fun C B=>?_) fun H11 ov z5 q6=>?_
 ·walk_at "1"
  refine⟨by decide,fun p3 q0=>?_⟩;have v:=Za2 q0 (HO.tup [V.str "then",W,F]);exact B _ _ v (isT_nd.mpr ⟨p3,W,F,rfl,.inl (.inl Za1),i4.keep (S9.trans v).keepT,v2.keep (e9.trans v).keepT⟩)
 have Z:(Tm.nd .thn O.g m).ok:=⟨J.ok.g,k2.1⟩
 have Y:(Tm.nd .thn O.g m).parts<=100:=by show 1+O.g.parts+m.parts<=100;omega
 walk_at "1";have q3:=S9.trans z5;have lyi:=zc i3;have q7:Okw (O.ws++rem lj.ws m):=Zh4 J.ok.w okk
 have ll:(O.ws++rem lj.ws m).length<=18:=by rw[zf];omega
 have ek:=e9.trans z5;refine⟨yi,q3 _ _ i2,I,ek _ _ z4,zk (Zb1 (by omega)),fun p2 v4=>⟨by decide,fun p3 q0=>?_⟩⟩;have s0:=Za2 v4 (HO.lst (yi++I));have v:=Za2 q0 (HO.lst [ov]);have q1:=s0.trans v;refine⟨yi++I,v _ _ Za1,_,Za1,zk (Zb1 (by rw[zf,zd];omega)),fun p4 z0=>Zi1 z0 (Zc4 (Za8 (q3.trans q1).keepT i3) (Za8 (ek.trans q1).keepT q4)) (.cons (q6.keep q1.keepT) .nil) q7 (Zg5 Z Y) (by rw[zd];omega) fun r H13 q2 fr hw=>?_⟩;have j7:=(q3.trans q1).trans q2;refine⟨us,SqL.of (j7 _ _ ha),_,Zd3 (za y5),pj,evj,_,j7.sqt j1,_,rfl,by decide,fun p5 q9=>⟨by decide,fun p6 q8=>?_⟩⟩;have s2:=Za2 q9 (HO.lst [V.int (i:Nat),V.int (j:Nat)]);have SS:=j7.trans s2;have j9:=Zh2 (Zh4 q7 (Zg5 Z Y))
 exact q _ _ _ (SS.trans (Za2 q8 _)) (Zh0 (R:=some .use) (on:=some (.nd .thn O.g m)) (ls:=[(i:Int),(j:Int)]) q8 (hw.keep s2) (j4.keep SS.keepT) ⟨q6.keep ((q1.trans q2).trans s2).keepT,Z,Y⟩ Za1 ((q3.trans q1).free fr) (j7.free q9)) ⟨⟨rfl,j9,by have:=Ze1 (O.ws++rem lj.ws m) [.nd .thn O.g m];rw[zd] at this;exact zi this (by omega),j0.ok.g,j0.ok.gp,by show 2<=100;decide⟩,good2 (Zd0 _) (by
  show (if Tm.nd .thn O.g m∈norm (_++[.nd .thn O.g m]) then some [_,_] else none)=_
  rw[if_pos (Zd6 (zb.mpr rfl))]) rfl hi y1 rfl (fun t D=>.inr (Zg9 (yd.mpr (.inl D)))) hj v7 rfl (fun t D=>by
  by_cases ht1:t=m
  ·exact .inl (Zd6 (zb.mpr ht1))
  ·exact .inr (Zg9 (yd.mpr (.inr (mem_rem.mpr ⟨D,ht1⟩)))))⟩
theorem sc_ar0:FnScope ["_law_lines","_law_cell_here","_law_words_here","_law_here","_law_there","_law_extra","_law_one","_law_other","_law_form","_law_line","_law_sizes"] ["_law_lines","_law_cell_here","_law_words_here"] (Za6 (top 61)):=scm (by decide +kernel)
theorem Wn3 {k:Nat}(F_ar0:Df K mg "_law_next" (top 61) pq8)(C__law_statement:Cl P w K mg base k "_law_statement" pq1 (sp_stm21 K 2))(C__law_pick:Cl P w K mg base k "_law_pick" pq14 (sp_pick K))(C__law_mix:Cl P w K mg base k "_law_mix" pq0 (sp_mix))(C__law_by_goal:Cl P w K mg base k "_law_by_goal" pq6 (sp_bygoal K))(C__law_by_if:Cl P w K mg base k "_law_by_if" pq5 (sp_byif K))(C__law_by_two:Cl P w K mg base k "_law_by_two" pq7 (sp_bytwo K))(C__law_parts:Cl P w K mg base k "_law_parts" pq16 (sp_partsL K 101))(m_len:mg "len"=none)(m_max:mg "max"=none):Cl P w K mg base (k+1) "_law_next" pq8 (sp_next K):=by
 refine F_ar0.okG sc_ar0 fun fx y2 A z6 s H vs Q E d h Gx z4=>?_;obtain⟨a,B,z,L,c,ws,rfl,U,hL,G,z1,hc,hW,hw,q⟩:=h
 refine z4 _ ⟨_,(Za4 (pst 3 sc_ar0.nd (Zb0 Zc2 (Zb8 C__law_mix d (Za0 (pvM 1) (Za0 Za5 Za3))) (Zc1 Zb5 (by exact rfl) m_len Zc9 (Za0 (pvM 0) Za3))))
 (Za4 (pst 4 sc_ar0.nd (Zb0 Zc2 (Zb8 C__law_mix d (Za0 (pvM 1) (Za0 Za5 Za3))) (Zc1 Zb5 (by exact rfl) m_len Zc9 (Za0 (pvM 0) Za3))))
 (Za4 (pst 5 sc_ar0.nd (Zb8 C__law_statement d (Za0 (Zb8 C__law_mix d (Za0 (pvM 1) (Za0 Za5 Za3))) (Za0 (Zb0 Zd2 Za5 (Zb0 Zi7 Za5 (Zb0 Zc2 (pvM 1) Za5))) (Za0 (pvM 2) Za3)))))
 (Za4 (pst 6 sc_ar0.nd (Zb8 C__law_pick d (Za0 (pxtM (pxlM (pvM 0) (pvM 3)) Za5) (Za0 (Zb8 C__law_mix d (Za0 (pvM 1) (Za0 Za5 Za3))) (Za0 (pvM 5) Za3)))))
 (Za4 (pst 7 sc_ar0.nd (Zb8 C__law_pick d (Za0 (pxtM (pxlM (pvM 0) (pvM 3)) Za5) (Za0 (Zb8 C__law_mix d (Za0 (pvM 1) (Za0 Za5 Za3))) (Za0 (Zb8 C__law_statement d (Za0 (Zb8 C__law_mix d (Za0 (pvM 1) (Za0 Za5 Za3))) (Za0 Za5 (Za0 (pvM 2) Za3)))) Za3)))))
 (Za4 (pst 8 sc_ar0.nd (Zb0 Zc2 (Zb0 Zc5 (pvM 1) Za5) Za5))
 (Za4 (Zc7 (ptcM (Zd1) (pvM 8) Za5)
  (Za7 (pst 9 sc_ar0.nd (Zb8 C__law_by_goal d (Za0 (pvM 0) (Za0 (Zb0 Zc5 (pvM 1) Za5) (Za0 (pvM 3) (Za0 (pvM 4) (Za0 (pvM 5) Za3))))))))
  (Za7 (Zc7 (ptcM (Zd1) (pvM 8) Za5)
  (Za7 (pst 9 sc_ar0.nd (Zb8 C__law_by_if d (Za0 (pvM 0) (Za0 (Zb0 Zc5 (pvM 1) Za5) (Za0 (pvM 3) (Za0 (pvM 6) (Za0 (pvM 7) (Za0 (pvM 5) Za3)))))))))
  (Za7 (pst 9 sc_ar0.nd (Zb8 C__law_by_two d (Za0 (pvM 0) (Za0 (Zb0 Zc5 (pvM 1) Za5) (Za0 (pvM 3) (Za0 (pvM 4) (Za0 (pvM 6) (Za0 (pvM 7) Za3))))))))))))
 (Za4 (pst 10 sc_ar0.nd (Zb0 Zf0 (Yc9 (blk0 (N':=["_law_wish_here"]) (by decide +kernel) (by decide +kernel) rfl (by decide +kernel)) rfl (Ze4 (pxtM (pvM 9) Za5)) (fun _ _ _ _=>(pgn 0 (ndS ["_law_wish_here"]))) (fun _ _ _ _=>(Zb8 C__law_parts d (Za0 (pvM 0) Za3)))) (Zb7 (Za0 (Zb8 C__law_parts d (Za0 (pxtM (pvM 9) Za5) Za3)) Za3))))
 (Za4 (Zc7 ((Yp7 (ptcM (Xh6) (Zc1 Zb5 (by exact rfl) m_len Zc9 (Za0 (pxtM (pvM 9) Za5) Za3)) Za5) (Ya8 (ptcM (Xh6) (Zc1 (Xn5 rfl) (by exact rfl) m_max Xu5 (Za0 (pvM 10) Za3)) Za5)))).pt
  (Za7 (Zb2 (Zc0 (Za0 Zb6 (Za0 (Zb7 (Za0 (pvM 5) Za3)) (Za0 (pvM 5) (Za0 Ze3 (Za0 (Zb7 Za3) Za3))))))))
  Zb4)
 (Za7 (Zb2 (pvM 9)))))))))))),?_⟩
 have lu:z.length=L.length:=zc hL;have z8:0 < L.length:=List.length_pos_iff.mpr z1
 have q0:∀m:Int,∃n:Nat,m % ((z.length:Nat):Int)=(n:Int)/\n < L.length:=fun m=>by
  have m0:=yr m (show ((z.length:Nat):Int)≠0 by omega);have m1:=yp m (show 0 < ((z.length:Nat):Int) by omega);exact⟨(m % ((z.length:Nat):Int)).toNat,by omega,by omega⟩
 obtain⟨i,ei,hi⟩:=q0 (mix c 1);obtain⟨j,ej,hj⟩:=q0 (mix c 2)
 have q2:i < z.length:=by omega
 obtain⟨li,z2,j9⟩:=paired_get hL (za q2);have W:=G.ok li (yc z2);obtain⟨pi,wi,ai,gi,oi,yi,j2,i1,i2,i3,i4,i5,i6⟩:=j9;refine sqk (fun C=>C [some (.ref a),some (.int c),some (.ref B),some (.int (i:Nat)),none,none,none,none,none,none,none] H) (fun C o=>?_) ?_
 ·walk_at "1"
  refine⟨c,1,rfl,by decide,by decide,z,.inl (SqL.of U),_,rfl,by omega,?_⟩;rw[ei];exact o
 refine sqk (fun C=>C [some (.ref a),some (.int c),some (.ref B),some (.int (i:Nat)),some (.int (j:Nat)),none,none,none,none,none,none] H) (fun C o=>?_) ?_
 ·walk_at "1"
  refine⟨c,2,rfl,by decide,by decide,z,.inl (SqL.of U),_,rfl,by omega,?_⟩;rw[ej];exact o
 refine sqk (fun C=>∀b u ex,Same H b->IsT K b u ex->ex.ok->ex.parts<=3->C [some (.ref a),some (.int c),some (.ref B),some (.int (i:Nat)),some (.int (j:Nat)),some u,none,none,none,none,none] b) (fun C o=>?_) fun H3 u ex Z hE q6 z5=>?_
 ·walk_at "1"
  have c0:=yr c (show (2:Int)≠0 by decide);have c1:=yp c (show (0:Int) < 2 by decide);refine⟨c,3,rfl,by decide,by decide,by decide,.inl ⟨by decide,by decide⟩,_,_,B,ws,rfl,Zk1 _ _,by omega,by omega,by omega,hW,hw,fun r b t e T=>o _ r t e T.1 (T.2.1.ok hw.2.2) (by have:=T.2.2.1;omega)⟩
 have D:S40 ex:=⟨q6,by omega⟩;refine sqk (fun C=>∀b F o1,Same H3 b->IsT K b F o1->S40 o1->C [some (.ref a),some (.int c),some (.ref B),some (.int (i:Nat)),some (.int (j:Nat)),some u,some F,none,none,none,none] b) (fun C o=>?_) fun H4 F o1 e4 h1 k1=>?_
 ·walk_at "1"
  refine⟨z,SqL.of (Z _ _ U),_,Zd3 (za q2),pi,j2,_,Z.sqt i1,_,rfl,c,4,rfl,by decide,by decide,wi,_,u,yi,li.ws,ex,rfl,Z _ _ i2,Za8 Z.keepT i3,W.ok.w,hE,fun r t b e d y=>o _ r t e d ?_⟩;rcases y with rfl | y
  ·exact D
  ·exact W.s40 t y
 refine sqk (fun C=>∀b J o2,Same H4 b->IsT K b J o2->S40 o2->C [some (.ref a),some (.int c),some (.ref B),some (.int (i:Nat)),some (.int (j:Nat)),some u,some F,some J,none,none,none] b) (fun C o=>?_) fun H5 J o2 I h2 k2=>?_
 ·walk_at "1"
  have S4:=Z.trans e4;refine⟨z,SqL.of (S4 _ _ U),_,Zd3 (za q2),pi,j2,_,S4.sqt i1,_,rfl,c,5,rfl,by decide,by decide,c,6,rfl,by decide,by decide,_,_,B,ws,rfl,Zk1 _ _,by decide,by decide,by decide,S4.seq hW,hw,fun r b t e T=>⟨wi,_,r,yi,li.ws,t,rfl,(S4.trans e) _ _ i2,Za8 (S4.trans e).keepT i3,W.ok.w,T.1,fun r' t' y3 e' d y=>o _ r' t' (e.trans e') d ?_⟩⟩;rcases y with rfl | y
  ·exact⟨T.2.1.ok hw.2.2,by have h:=T.2.2.1;have:(1:Int).toNat=1:=rfl;omega⟩
  ·exact W.s40 _ y
 have N:=(Z.trans e4).trans I;refine sqk (fun C=>C [some (.ref a),some (.int c),some (.ref B),some (.int (i:Nat)),some (.int (j:Nat)),some u,some F,some J,some (.int (c / 2 % 3)),none,none] H5) (fun C o=>?_) ?_
 ·walk_at "1"
  exact⟨⟨by decide,by decide⟩,by decide,o⟩
 refine sqh (fun C=>∀b lv l,Same H5 b->IsLnF K H5 b lv l->NewL L l->C [some (.ref a),some (.int c),some (.ref B),some (.int (i:Nat)),some (.int (j:Nat)),some u,some F,some J,some (.int (c / 2 % 3)),some lv,none] b) (fun C o=>?_) fun Ux z3 H7 lv l e7 q8 M=>?_
 ·walk_at "1"
  have j0:=hE.keep (e4.trans I).keepT;have j1:=h1.keep I.keepT;refine ite2 (fun _=>⟨⟨by decide,by decide⟩,a,z,L,_,i,j,u,ex,rfl,N _ _ U,IsLns.keep N hL,G,hi,hj,j0,D,fun v l b e hv Y=>o _ v l e hv Y⟩) fun _=>ite2 (fun _=>⟨⟨by decide,by decide⟩,a,z,L,_,i,F,J,u,o1,o2,ex,rfl,N _ _ U,IsLns.keep N hL,G,hi,j1,h2,j0,k1,k2,q6,z5,fun v l b e hv Y=>o _ v l e hv Y⟩) fun _=>⟨⟨by decide,by decide⟩,a,z,L,_,i,j,F,J,o1,o2,rfl,N _ _ U,IsLns.keep N hL,G,hi,hj,j1,h2,k1,k2,fun v l b e hv Y=>o _ v l e hv Y⟩
 have S7:=N.trans e7;have j5:=q8;obtain⟨pl,wl,al,gl,ol,yl,rfl,l1,l2,l3,l4,l5,l6⟩:=q8.ln;have j6:yl.length=l.ws.length:=zc l3;have z7:=M.ok.wl;refine z3 _ _ ?_;refine sqk (fun C=>∀b sa,Same H7 b->b sa=some (.lst (((l.ws++[l.g]).map fun t=>((t.parts:Nat):Int)).map V.int))->C [some (.ref a),some (.int c),some (.ref B),some (.int (i:Nat)),some (.int (j:Nat)),some u,some F,some J,some (.int (c / 2 % 3)),some (.ref pl),some (.ref sa)] b) (fun C o=>?_) fun H8 sa e8 z0=>?_
 ·walk_at "1"
  unfold tLC;walk_at "1";refine⟨_,l1,_,rfl,wl,rfl,⟨_,SqL.of l2⟩,fun j3 q4=>?_⟩;refine Zt8 (xs:=yl) (fun n O b=>Same H7 b/\b j3=some (.lst O)/\O=((l.ws.take n).map fun t=>((t.parts:Nat):Int)).map V.int) ⟨Za2 q4 _,Za1,rfl⟩ (fun n O b Y ⟨e,h,hy⟩=>⟨h,?_,SqL.of (e _ _ l2)⟩) (fun n x O b hx ⟨e,h,hy⟩ C' hC'=>?_) (fun O b ⟨e,h,hy⟩=>?_)
  ·rw[hy,yh,yh,zq]
   exact small1M (by omega)
  ·obtain⟨t,y,j7⟩:=paired_get l3 hx
   have y0:=M.ok.w t (yc y);walk_at "1";refine⟨Ze2 (i:=0) rfl,x,t,rfl,j7.keep e.keepT,by have:=Zd5 t;omega,fun H5 I=>hC' _ _ (I _ _ h) ⟨(e.trans I).write q4,Za1,?_⟩⟩;rw[hy,ybh,y,zac,zac];rfl
  ·rw[j6,zaa] at hy
   refine⟨_,e.sqt l1,_,rfl,gl,l.g,rfl,l4.keep e.keepT,by have:=M.ok.gp;have:=Zd5 l.g;omega,fun H5 I=>⟨by decide,fun p hp=>?_⟩⟩;have S:=Za2 hp (HO.lst [V.int ((l.g.parts:Nat):Int)])
   have hl:O.length=l.ws.length:=by rw[hy,yh,yh]
   refine⟨j3,rfl,O,(I.trans S) _ _ h,_,Za1,zk (Zb1 (by rw[hl,zd];omega)),fun p1 X=>o _ p1 (((e.trans I).trans S).trans (Za2 X _)) ?_⟩;rw[Za1,hy,zac,zac];rfl
 have S8:=S7.trans e8;refine sqk (fun C=>OkL9 l->C [some (.ref a),some (.int c),some (.ref B),some (.int (i:Nat)),some (.int (j:Nat)),some u,some F,some J,some (.int (c / 2 % 3)),some (.ref pl),some (.ref sa)] H8) (fun C o=>?_) fun h9=>?_
 ·walk_at "1"
  have q5:1<=zp/\∀p,H8 p=none->0<=zp/\∀p_1,upd H8 p (HO.lst [u]) p_1=none->5<=zp/\∀p_2,upd (upd H8 p (HO.lst [u])) p_1 (HO.lst []) p_2=none->Q (V.ref p_2) (upd (upd (upd H8 p (HO.lst [u])) p_1 (HO.lst [])) p_2 (HO.tup [V.str (zh "wish"),V.ref p,u,V.non,V.ref p_1])):=⟨by decide,fun p hp=>⟨by decide,fun p1 X=>⟨by decide,fun p2 q7=>by
   have S:=Za2 hp (HO.lst [u]);have s2:=Za2 X (HO.lst []);have q9:=hE.keep (((e4.trans I).trans e7).trans e8).keepT;have j8:IsW K (upd H8 p (HO.lst [u])) p [ex]:=⟨⟨[u],Za1,.cons (q9.keep S.keepT) .nil⟩,yam _ _⟩;have q1:OkLn ⟨"wish",some .wish,[ex],ex,none,[]⟩:=⟨rfl,D.w,by show 1<=60;decide,q6,by show ex.parts<=100;omega,yz _⟩
   exact q _ _ _ (((S8.trans S).trans s2).trans (Za2 q7 _)) (Zh0 (R:=some .wish) (on:=none) (ls:=[]) q7 (j8.keep s2) (q9.keep (S.trans s2).keepT) rfl Za1 (S8.free hp) ((S8.trans S).free X)) ⟨q1,Xt0 (yam _ _) (by show (if ex∈[ex] then _ else _)=_;rw[if_pos (zb.mpr rfl)]) rfl⟩ ⟨q1,by show 1<=9;decide,fun t y=>by rw[zb.mp y];exact D.2,D.2⟩⟩⟩⟩
  refine⟨_,e8.sqt l1,_,rfl,wl,rfl,yl,.inl (SqL.of (e8 _ _ l2)),ite2 (fun _=>?_) fun y1=>⟨_,SqL.of z0,by simp,fun m hm j4=>ite2 (fun _=>q5) fun z9=>o ?_⟩⟩
  ·rw[if_pos trivial]
   exact q5
  ·have q3:∀t∈l.ws++[l.g],t.parts<=40:=fun t y=>by
    have:=j4 ((t.parts:Nat):Int) (List.mem_map_of_mem (f:=fun t:Tm=>((t.parts:Nat):Int)) y);omega
   exact⟨M.ok,by omega,fun t y=>q3 t (yd.mpr (.inl y)),q3 l.g (yd.mpr (.inr (zb.mpr rfl)))⟩
 walk_at "1";exact q _ l _ S8 ((j5.keep e8).mono N) M h9
theorem Wf7:FnScope ["wishes","goal","on"] ["wishes","goal","on"] (Za6 (top 19)):=scm (by decide +kernel)
theorem Wg2:FnScope ["wishes","goal","on"] ["wishes","goal","on"] (Za6 (top 20)):=scm (by decide +kernel)
theorem Wg6:FnScope ["wishes","goal","on"] ["wishes","goal","on"] (Za6 (top 21)):=scm (by decide +kernel)
theorem Wg5:FnScope ["wishes","goal","on"] ["wishes","goal","on"] (Za6 (top 22)):=scm (by decide +kernel)
theorem Wg0:FnScope ["wishes","goal","on"] ["wishes","goal","on"] (Za6 (top 23)):=scm (by decide +kernel)
theorem Wf9:FnScope ["wishes","goal","on"] ["wishes","goal","on"] (Za6 (top 24)):=scm (by decide +kernel)
theorem Wg1:FnScope ["wishes","goal","on"] ["wishes","goal","on"] (Za6 (top 25)):=scm (by decide +kernel)
theorem sc_be0:FnScope ["wishes","goal","on","others"] ["wishes","goal","on"] (Za6 (top 26)):=scm (by decide +kernel)
theorem Wg3:FnScope ["wishes","goal","on"] ["wishes","goal","on"] (Za6 (top 27)):=scm (by decide +kernel)
theorem sc_bg0:FnScope ["wishes","goal","on","one","other"] ["wishes","goal","on"] (Za6 (top 29)):=scm (by decide +kernel)
theorem sc_bh0:FnScope ["wishes","goal","on","one","other"] ["wishes","goal","on"] (Za6 (top 30)):=scm (by decide +kernel)
theorem Wg4:FnScope ["wishes","goal","on"] ["wishes","goal","on"] (Za6 (top 31)):=scm (by decide +kernel)
theorem sc_bf0:FnScope ["wishes","goal","on","others"] ["wishes","goal","on"] (Za6 (top 32)):=scm (by decide +kernel)
theorem Wf8:FnScope ["wishes","goal","on"] ["wishes","goal","on"] (Za6 (top 33)):=scm (by decide +kernel)
theorem Wf5:FnScope ["on","kind"] ["on","kind"] (Za6 (top 28)):=scm (by decide +kernel)
theorem Yr1 (kk:Kd)(o:Tm):(∃x y c,o=.nd .thn (.nd kk x y) c)∨((match o with | .nd .thn a _=>decide (a.spell.head?=some kk.str) | _=>false)=false/\∀x y c,o≠.nd .thn (.nd kk x y) c):=by
 cases o with
 |low=>exact .inr ⟨rfl,fun _ _ _ z=>nomatch z⟩
 |ltr y=>exact .inr ⟨rfl,fun _ _ _ z=>nomatch z⟩
 |nd k a c =>
  cases k with
  |both=>exact .inr ⟨rfl,fun _ _ _ z=>nomatch z⟩
  |one=>exact .inr ⟨rfl,fun _ _ _ z=>nomatch z⟩
  |thn =>
   cases a with
   |low=>exact .inr ⟨by show decide (some ("low":Str)=some kk.str)=false;cases kk<;>decide,fun _ _ _ z=>nomatch z⟩
   |ltr y=>exact .inr ⟨by show decide (some ("letter":Str)=some kk.str)=false;cases kk<;>decide,fun _ _ _ z=>nomatch z⟩
   |nd k2 x y =>
    by_cases e:k2=kk
    ·subst e
     exact .inl ⟨x,y,c,rfl⟩
    ·refine .inr ⟨?_,fun d b f z=>e (by cases z;rfl)⟩
     show decide ((Tm.nd k2 x y).spell.head?=some kk.str)=false;rw[Zd9];show decide (some k2.str=some kk.str)=false;revert e
     cases k2<;>cases kk<;>first | (intro z;exact absurd rfl z) | (intro _;decide)
theorem Wk3 {k:Nat}(F_bw0:Df K mg "is_if" (top 28) ["on","kind"]):Cl P w K mg base (k+1) "is_if" ["on","kind"] (sp_isif K):=by
 refine F_bw0.okG Wf5 fun I r A j s H D Q E G h J i=>?_;obtain⟨v,t,x,rfl,e,q⟩:=h;refine i _ ⟨_,(Za7 (Zb2 (Yk5 (Zm5 (Zd1) (pxtM (pvM 0) Za5) Zb6 (Zo5 _)) (Zw1 (Zm5 (Zd1) (pxtM (pxtM (pvM 0) Za5) Za5) (pvM 1) (Zo5 _)))))),?_⟩;walk_at "1"
 cases t with
 |low =>
  obtain⟨p,rfl,d⟩:=isT_low.mp e;refine⟨p,rfl,_,d,_,rfl,rfl,?_⟩;rw[if_neg (by decide)];exact q
 |ltr y =>
  obtain⟨p,rfl,d⟩:=isT_ltr.mp e;refine⟨p,rfl,_,d,_,rfl,rfl,?_⟩;rw[if_neg (by decide)];exact q
 |nd kd a b =>
  obtain⟨p,C,B,rfl,d,n,F⟩:=isT_nd.mp e;refine⟨p,rfl,_,d,_,rfl,rfl,?_⟩
  cases kd with
  |both=>rw[if_neg (by decide)];exact q
  |one=>rw[if_neg (by decide)];exact q
  |thn =>
   rw[if_pos (by rfl)];obtain⟨m,c,u,o,rfl,g,l⟩:=Zp8 n;refine⟨p,rfl,_,d,_,rfl,m,rfl,_,g,_,at0 _ _,rfl,?_⟩;have f:Q (.bl (decide (a.spell.head?=some x))) H:=q;rw[l] at f;have:decide (V.str c=V.str x)=decide ((c::o).head?=some x):=decide_eq_decide.mpr ⟨fun z=>by cases z;rfl,fun z=>by cases z;rfl⟩;rw[this];exact f
theorem Wk8 {k:Nat}(F_bq0:Fun K "by_wish" "by_wish" (top 19) f_bq0 fd_bq0)(C_among:Cl P w K mg base k "among" pq33 (sp_among K)):Fk0 P w K mg base (k+1) f_bq0 fd_bq0 pq31 (sp_by K .wish):=by
 refine F_bq0.okG Wf7 fun v A j s H x Q E p h G f=>?_;obtain⟨l,u,y,a,g,b,rfl,r,t,C,q,c,i,D,B,n,m⟩:=h;refine f _ ⟨_,(Za7 (Zb2 (Zj4 (Zj2 (Zb8 C_among p (Za0 (pvM 0) (Za0 (pvM 1) Za3)))) (Zb7 Za3) Ze3))),?_⟩;walk_at "1"
 obtain rfl:b=none:=by cases b with
  |none=>rfl
  |some o=>cases q
 refine⟨l,u,a,g,rfl,r,t,c,i,by omega,fun F e=>⟨_,rfl,?_⟩⟩
 by_cases h:g∈a
 ·rw[decide_eq_true h,if_pos rfl]
  exact⟨by decide,fun z d=>Yu4 (m [] (if_pos h)) e d⟩
 ·rw[decide_eq_false h,if_neg (by decide)]
  exact n (if_neg h) _ e
theorem Wl3 {k:Nat}(F_bl0:Fun K "by_low" "by_low" (top 20) f_bl0 fd_bl0)(C_among:Cl P w K mg base k "among" pq33 (sp_among K))(m_aa0:MgI mg "LOW" aLOW)(t_LOW:∀H,SqT K H aLOW [.str "low"]):Fk0 P w K mg base (k+1) f_bl0 fd_bl0 pq31 (sp_by K .low):=by
 refine F_bl0.okG Wg2 fun t A i s H u Q E n h I f=>?_;obtain⟨j,D,x,a,g,b,rfl,q,B,C,p,c,r,F,z,m,l⟩:=h;refine f _ ⟨_,(Za7 (Zb2 (Zj4 (Zj2 (Zb8 C_among n (Za0 (pvM 0) (Za0 (Yb0 (v:=.ref aLOW) (by exact rfl) m_aa0 (by exact rfl)) Za3)))) (Zb7 Za3) Ze3))),?_⟩;walk_at "1"
 obtain rfl:b=none:=by cases b with
  |none=>rfl
  |some o=>cases p
 refine⟨j,.ref aLOW,a,.low,rfl,q,isT_low.mpr ⟨aLOW,rfl,t_LOW H⟩,c,trivial,by omega,fun G e=>⟨_,rfl,?_⟩⟩
 by_cases h:Tm.low∈a
 ·rw[decide_eq_true h,if_pos rfl]
  exact⟨by decide,fun y d=>Yu4 (l [] (if_pos h)) e d⟩
 ·rw[decide_eq_false h,if_neg (by decide)]
  exact m (if_neg h) _ e
theorem Wm1 {k:Nat}(F_bd0:Fun K "by_both" "by_both" (top 21) f_bd0 fd_bd0)(m_list:mg "list"=none):Fk0 P w K mg base (k+1) f_bd0 fd_bd0 pq31 (sp_by K .both):=by
 refine F_bd0.okG Wg6 fun q3 A M s H vs Q E hr h Gx I=>?_;obtain⟨wa,gv,ov,ws,g,r,rfl,Z,F,hO,Y,q0,J,gp,hl,T,S⟩:=h
 refine I _ ⟨_,(Za4 (Zc7 (ptcM (Yd0) (pxtM (pvM 1) Za5) Zb6)
  (Za7 (Zb2 Ze3))
  Zb4)
 (Za7 (Zb2 (Zb7 (Za0 (Zc0 (Za0 (Zg4 Ze9 (by exact rfl) m_list Zf8 (Za0 (pvM 0) Za3)) (Za0 (pxtM (pvM 1) Za5) Za3))) (Za0 (Zc0 (Za0 (Zg4 Ze9 (by exact rfl) m_list Zf8 (Za0 (pvM 0) Za3)) (Za0 (pxtM (pvM 1) Za5) Za3))) Za3)))))),?_⟩
 walk_at "1"
 obtain rfl:r=none:=by cases r with
  |none=>rfl
  |some o=>cases Y
 rcases Zw6 .both F with ⟨a,b,p,n,vy,rfl,rfl,e,X,W⟩ | ⟨p,x,xs,rfl,e,y,v⟩
 ·have gk:=J
  have pp:1+a.parts+b.parts<=100:=gp;refine⟨p,rfl,_,e,_,rfl,rfl,?_⟩;rw[if_neg (by decide)];obtain⟨⟨c,C,D⟩,G⟩:=id Z;refine⟨c,.inl (SqL.of C),fun l j=>?_⟩;have d:=Za2 j (HO.lst c);have O:IsW K (upd H l (.lst c)) l ws:=⟨⟨c,Za1,Paired.mapP D fun _ _ z=>z.keep d.keepT⟩,G⟩;refine⟨p,rfl,_,d.sqt e,_,rfl,by decide,fun U f=>?_⟩;have R:=Za2 f (HO.tup [V.ref l,n]);have L:=d.trans R;refine⟨c,.inl (SqL.of (L _ _ C)),fun t i=>?_⟩;have q:=Za2 i (HO.lst c);have m:=L.trans q;have N:IsW K (upd (upd (upd H l (.lst c)) U (.tup [.ref l,n])) t (.lst c)) t ws:=⟨⟨c,Za1,Paired.mapP D fun _ _ z=>z.keep m.keepT⟩,G⟩;refine⟨p,rfl,_,m.sqt e,_,rfl,by decide,fun p2 u=>⟨by decide,fun na B=>?_⟩⟩;exact Zy4 (S _ rfl) d O j (X.keep d.keepT) f q N i (W.keep m.keepT) u B
 ·refine⟨p,rfl,_,e,_,at0 _ _,Ze6 _ _,?_⟩
  rw[if_pos (by rw[decide_eq_false (fun z=>y (by cases z;rfl))];rfl)];refine T ?_ _ (Same.refl _);clear F
  cases g with
  |nd k a b=>cases k<;>first | rfl | exact absurd rfl (v _ _)
  | _=>rfl
theorem Wl6 {k:Nat}(F_bi0:Fun K "by_first" "by_first" (top 22) f_bi0 fd_bi0)(m_list:mg "list"=none):Fk0 P w K mg base (k+1) f_bi0 fd_bi0 pq31 (sp_by K .first):=by
 refine F_bi0.okG Wg5 fun O A v s H V Q E hr h Gx t=>?_;obtain⟨S,gv,Y,ws,g,i,rfl,I,r,hO,F,N,u,M,hl,C,B⟩:=h;refine t _ ⟨_,(Za7 (Zb2 (Zj4 (ptcM (Zd1) (pxtM (pvM 1) Za5) Zb6) (Zb7 (Za0 (Zc0 (Za0 (Zg4 Ze9 (by exact rfl) m_list Zf8 (Za0 (pvM 0) Za3)) (Za0 (pxtM (pvM 1) Za5) Za3))) Za3)) Ze3))),?_⟩;walk_at "1"
 obtain rfl:i=none:=by cases i with
  |none=>rfl
  |some o=>cases F
 rcases Zw6 .one r with ⟨a,b,p,U,T,rfl,rfl,e,D,hy⟩ | ⟨p,x,R,rfl,e,n,m⟩
 ·have gk:=u
  have W:1+a.parts+b.parts<=100:=M;refine⟨p,rfl,_,e,_,rfl,rfl,?_⟩;rw[if_pos (by rfl)];obtain⟨⟨c,G,J⟩,L⟩:=id I;refine⟨c,.inl (SqL.of G),fun l f=>?_⟩;have d:=Za2 f (HO.lst c);have y:IsW K (upd H l (.lst c)) l ws:=⟨⟨c,Za1,Paired.mapP J fun _ _ z=>z.keep d.keepT⟩,L⟩;refine⟨p,rfl,_,d.sqt e,_,rfl,by decide,fun X j=>⟨by decide,fun Z q=>?_⟩⟩;exact Zk7 (B _ rfl) d y f (D.keep d.keepT) j q
 ·refine⟨p,rfl,_,e,_,at0 _ _,Ze6 _ _,?_⟩
  rw[if_neg (fun z=>n (by cases z;rfl))];refine C ?_ _ (Same.refl _);clear r
  cases g with
  |nd k a b=>cases k<;>first | rfl | exact absurd rfl (m _ _)
  | _=>rfl
theorem Wl1 {k:Nat}(F_bn0:Fun K "by_second" "by_second" (top 23) f_bn0 fd_bn0)(m_list:mg "list"=none):Fk0 P w K mg base (k+1) f_bn0 fd_bn0 pq31 (sp_by K .second):=by
 refine F_bn0.okG Wg0 fun O A v s H V Q E hr h Gx t=>?_;obtain⟨S,gv,Y,ws,g,i,rfl,I,r,hO,F,N,u,M,hl,C,B⟩:=h;refine t _ ⟨_,(Za7 (Zb2 (Zj4 (ptcM (Zd1) (pxtM (pvM 1) Za5) Zb6) (Zb7 (Za0 (Zc0 (Za0 (Zg4 Ze9 (by exact rfl) m_list Zf8 (Za0 (pvM 0) Za3)) (Za0 (pxtM (pvM 1) Za5) Za3))) Za3)) Ze3))),?_⟩;walk_at "1"
 obtain rfl:i=none:=by cases i with
  |none=>rfl
  |some o=>cases F
 rcases Zw6 .one r with ⟨a,b,p,U,T,rfl,rfl,e,hx,D⟩ | ⟨p,x,R,rfl,e,n,m⟩
 ·have gk:=u
  have W:1+a.parts+b.parts<=100:=M;refine⟨p,rfl,_,e,_,rfl,rfl,?_⟩;rw[if_pos (by rfl)];obtain⟨⟨c,G,J⟩,L⟩:=id I;refine⟨c,.inl (SqL.of G),fun l f=>?_⟩;have d:=Za2 f (HO.lst c);have y:IsW K (upd H l (.lst c)) l ws:=⟨⟨c,Za1,Paired.mapP J fun _ _ z=>z.keep d.keepT⟩,L⟩;refine⟨p,rfl,_,d.sqt e,_,rfl,by decide,fun X j=>⟨by decide,fun Z q=>?_⟩⟩;exact Zk7 (B _ rfl) d y f (D.keep d.keepT) j q
 ·refine⟨p,rfl,_,e,_,at0 _ _,Ze6 _ _,?_⟩
  rw[if_neg (fun z=>n (by cases z;rfl))];refine C ?_ _ (Same.refl _);clear r
  cases g with
  |nd k a b=>cases k<;>first | rfl | exact absurd rfl (m _ _)
  | _=>rfl
theorem Wl0 {k:Nat}(F_bo0:Fun K "by_then" "by_then" (top 24) f_bo0 fd_bo0)(C_more:Cl P w K mg base k "more" pq32 (sp_more K)):Fk0 P w K mg base (k+1) f_bo0 fd_bo0 pq31 (sp_by K .thn):=by
 refine F_bo0.okG Wf9 fun X A I s H vs Q E S h Gx F=>?_;obtain⟨J,gv,ov,i,g,m,rfl,U,D,hO,T,u,G,V,hl,M,L⟩:=h;refine F _ ⟨_,(Za7 (Zb2 (Zj4 (ptcM (Zd1) (pxtM (pvM 1) Za5) Zb6) (Zb7 (Za0 (Zc0 (Za0 (Zb8 C_more S (Za0 (pvM 0) (Za0 (Zb7 (Za0 (pxtM (pvM 1) Za5) Za3)) Za3))) (Za0 (pxtM (pvM 1) Za5) Za3))) Za3)) Ze3))),?_⟩;walk_at "1"
 obtain rfl:m=none:=by cases m with
  |none=>rfl
  |some o=>cases T
 rcases Zw6 .thn D with ⟨a,b,p,j,Z,rfl,rfl,c,O,N⟩ | ⟨p,x,Y,rfl,c,y,v⟩
 ·have W:=G
  have pp:1+a.parts+b.parts<=100:=V;refine⟨p,rfl,_,c,_,rfl,rfl,?_⟩;rw[if_pos (by rfl)];refine⟨p,rfl,_,c,_,rfl,by decide,fun l C=>?_⟩;have d:=Za2 C (HO.lst [j]);refine⟨J,l,i,[j],[a],rfl,U.keep d,Za1,.cons (O.keep d.keepT) .nil,u,fun t R=>by rw[zb.mp R];exact⟨W.1,by omega⟩,by show i.length+1<=1000;omega,fun r H1 e f n=>?_⟩;have E:=d.trans e;refine⟨p,rfl,_,E.sqt c,_,rfl,by decide,fun p1 q=>⟨by decide,fun na B=>?_⟩⟩;exact Zk7 (L _ rfl) E n (d.free f) (N.keep E.keepT) q B
 ·refine⟨p,rfl,_,c,_,at0 _ _,Ze6 _ _,?_⟩
  rw[if_neg (fun z=>y (by cases z;rfl))];refine M ?_ _ (Same.refl _);clear D
  cases g with
  |nd k a b=>cases k<;>first | rfl | exact absurd rfl (v _ _)
  | _=>rfl
theorem Wl2 {k:Nat}(F_bm0:Fun K "by_parts" "by_parts" (top 25) f_bm0 fd_bm0)(C_more:Cl P w K mg base k "more" pq32 (sp_more K))(C_without:Cl P w K mg base k "without" pq33 (sp_without K)):Fk0 P w K mg base (k+1) f_bm0 fd_bm0 pq31 (sp_by K .parts):=by
 refine F_bm0.okG Wg1 fun q3 A V s H vs Q E J h Gx S=>?_;obtain⟨W,gv,ov,m,g,F,rfl,hW,hT,hO,hn,d,q0,gp,hl,Y,X⟩:=h
 refine S _ ⟨_,(Za4 (Zc7 (ptcM (Yd0) (pxtM (pvM 2) Za5) Zb6)
  (Za7 (Zb2 Ze3))
  Zb4)
 (Za7 (Zb2 (Zb7 (Za0 (Zc0 (Za0 (Zb8 C_more J (Za0 (Zb8 C_without J (Za0 (pvM 0) (Za0 (pvM 2) Za3))) (Za0 (Zb7 (Za0 (pxtM (pvM 2) Za5) (Za0 (pxtM (pvM 2) Za5) Za3))) Za3))) (Za0 (pvM 1) Za3))) Za3))))),?_⟩
 walk_at "1"
 obtain⟨o,rfl⟩:∃o,F=some o:=by cases F with
  |none=>cases hn
  |some o=>exact⟨o,rfl⟩
 obtain⟨u,q⟩:=hO;have n:=d o q;have D:(rem m o).length<=900:=zi (yu _ _) hl;have j:Okw (rem m o):=fun t v=>d t (mem_rem.mp v).1;rcases Zw6 .both u with ⟨a,b,p,B,y,rfl,rfl,c,hx,Z⟩ | ⟨p,x,xs,rfl,c,N,M⟩
 ·have T:=n.1
  have pp:1+a.parts+b.parts<=100:=n.2;refine⟨p,rfl,_,c,_,rfl,rfl,?_⟩;rw[if_neg (by decide)];refine⟨W,.ref p,m,_,rfl,hW,u,d,q,by omega,fun r H1 e f I=>?_⟩;refine⟨p,rfl,_,e.sqt c,_,rfl,p,rfl,_,e.sqt c,_,rfl,by decide,fun l R=>?_⟩;have C:=Za2 R (HO.lst [B,y]);have i:=e.trans C;refine⟨r,l,_,[B,y],[a,b],rfl,I.keep C,Za1,.cons (hx.keep i.keepT) (.cons (Z.keep i.keepT) .nil),j,fun t v=>?_,by show _+2<=1000;omega,fun r2 H2 U f2 G=>⟨by decide,fun p1 L=>⟨by decide,fun na O=>?_⟩⟩⟩
  ·rcases yk.mp v with z | z
   ·rw[z];exact⟨T.1,by omega⟩
   ·rw[zb.mp z];exact⟨T.2,by omega⟩
  ·exact Zk7 (X _ rfl) (i.trans U) G (i.free f2) (hT.keep (i.trans U).keepT) L O
 ·refine⟨p,rfl,_,c,_,at0 _ _,Ze6 _ _,?_⟩
  rw[if_pos (by rw[decide_eq_false (fun z=>N (by cases z;rfl))];rfl)];refine Y ?_ _ (Same.refl _);clear u q n D j
  cases o with
  |nd k a b=>cases k<;>first | rfl | exact absurd rfl (M _ _)
  | _=>rfl
theorem Wm0 {k:Nat}(F_be0:Fun K "by_cases" "by_cases" (top 26) f_be0 fd_be0)(C_more:Cl P w K mg base k "more" pq32 (sp_more K))(C_without:Cl P w K mg base k "without" pq33 (sp_without K)):Fk0 P w K mg base (k+1) f_be0 fd_be0 pq31 (sp_by K .cases):=by
 refine F_be0.okG sc_be0 fun q5 A q3 s H vs Q E D h Gx q0=>?_;obtain⟨wa,gv,ov,u,g,N,rfl,hW,Z,hO,hn,j,q4,gp,hl,q1,q2⟩:=h
 refine q0 _ ⟨_,(Za4 (Zc7 (ptcM (Yd0) (pxtM (pvM 2) Za5) Zb6)
  (Za7 (Zb2 Ze3))
  Zb4)
 (Za4 (pst 3 sc_be0.nd (Zb8 C_without D (Za0 (pvM 0) (Za0 (pvM 2) Za3))))
 (Za7 (Zb2 (Zb7 (Za0 (Zc0 (Za0 (Zb8 C_more D (Za0 (pvM 3) (Za0 (Zb7 (Za0 (pxtM (pvM 2) Za5) Za3)) Za3))) (Za0 (pvM 1) Za3))) (Za0 (Zc0 (Za0 (Zb8 C_more D (Za0 (pvM 3) (Za0 (Zb7 (Za0 (pxtM (pvM 2) Za5) Za3)) Za3))) (Za0 (pvM 1) Za3))) Za3))))))),?_⟩
 walk_at "1"
 obtain⟨o,rfl⟩:∃o,N=some o:=by cases N with
  |none=>cases hn
  |some o=>exact⟨o,rfl⟩
 obtain⟨C,B⟩:=hO;have y:=j o B;have M:(rem u o).length<=900:=zi (yu _ _) hl;have c:Okw (rem u o):=fun t d=>j t (mem_rem.mp d).1;rcases Zw6 .one C with ⟨a,b,p,J,I,rfl,rfl,i,hx,hy⟩ | ⟨p,x,xs,rfl,i,U,T⟩
 ·have gk:=y.1
  have pp:1+a.parts+b.parts<=100:=y.2;refine⟨p,rfl,_,i,_,rfl,rfl,?_⟩;rw[if_neg (by decide)];refine⟨wa,.ref p,u,_,rfl,hW,C,j,B,by omega,fun r H1 e f n=>?_⟩;refine⟨p,rfl,_,e.sqt i,_,rfl,by decide,fun l Y=>?_⟩;have v:=Za2 Y (HO.lst [J]);have G:=e.trans v;refine⟨r,l,_,[J],[a],rfl,n.keep v,Za1,.cons (hx.keep G.keepT) .nil,c,fun t d=>by rw[zb.mp d];exact⟨gk.1,by omega⟩,by show _+1<=1000;omega,fun r2 H2 e2 f2 R=>⟨by decide,fun p1 q=>?_⟩⟩;have F:=G.trans e2;have L:=Za2 q (HO.tup [V.ref r2,gv]);have E3:=F.trans L;refine⟨p,rfl,_,E3.sqt i,_,rfl,by decide,fun l2 X=>?_⟩;have m:=Za2 X (HO.lst [I]);have E4:=E3.trans m;refine⟨r,l2,_,[I],[b],rfl,n.keep (v.trans (e2.trans (L.trans m))),Za1,.cons (hy.keep E4.keepT) .nil,c,fun t d=>by rw[zb.mp d];exact⟨gk.2,by omega⟩,by show _+1<=1000;omega,fun r3 H5 e5 f5 O=>⟨by decide,fun p2 S=>⟨by decide,fun na W=>?_⟩⟩⟩;exact Zy4 (q2 _ rfl) F R (G.free f2) (Z.keep F.keepT) q (m.trans e5) O (m.free f5) (Z.keep (E4.trans e5).keepT) S W
 ·refine⟨p,rfl,_,i,_,at0 _ _,Ze6 _ _,?_⟩
  rw[if_pos (by rw[decide_eq_false (fun z=>U (by cases z;rfl))];rfl)];refine q1 ?_ _ (Same.refl _);clear C B y M c
  cases o with
  |nd k a b=>cases k<;>first | rfl | exact absurd rfl (T _ _)
  | _=>rfl
theorem Wl4 {k:Nat}(F_bk0:Fun K "by_known" "by_known" (top 27) f_bk0 fd_bk0)(C_among:Cl P w K mg base k "among" pq33 (sp_among K))(C_more:Cl P w K mg base k "more" pq32 (sp_more K))(C_without:Cl P w K mg base k "without" pq33 (sp_without K)):Fk0 P w K mg base (k+1) f_bk0 fd_bk0 pq31 (sp_by K .known):=by
 refine F_bk0.okG Wg3 fun q3 A Y s H vs Q E B h Gx V=>?_;obtain⟨C,gv,ov,d,g,J,rfl,U,hT,hO,hn,c,q0,gp,hl,G,q2⟩:=h
 refine V _ ⟨_,(Za4 (Zc7 ((Yp7 (ptcM (Yd0) (pxtM (pvM 2) Za5) Zb6) (Ya8 (Zj7 (Zj2 (Zb8 C_among B (Za0 (pvM 0) (Za0 (pxtM (pvM 2) Za5) Za3)))))))).pt
  (Za7 (Zb2 Ze3))
  Zb4)
 (Za7 (Zb2 (Zb7 (Za0 (Zc0 (Za0 (Zb8 C_more B (Za0 (Zb8 C_without B (Za0 (pvM 0) (Za0 (pvM 2) Za3))) (Za0 (Zb7 (Za0 (pxtM (pvM 2) Za5) Za3)) Za3))) (Za0 (pvM 1) Za3))) Za3))))),?_⟩
 walk_at "1"
 obtain⟨o,rfl⟩:∃o,J=some o:=by cases J with
  |none=>cases hn
  |some o=>exact⟨o,rfl⟩
 obtain⟨v,u⟩:=hO;have q:=c o u;have I:(rem d o).length<=900:=zi (yu _ _) hl;have n:Okw (rem d o):=fun t y=>c t (mem_rem.mp y).1;rcases Zw6 .thn v with ⟨a,b,p,Z,D,rfl,rfl,i,hx,hy⟩ | ⟨p,x,xs,rfl,i,R,O⟩
 ·have W:=q.1
  have pp:1+a.parts+b.parts<=100:=q.2;refine⟨p,rfl,_,i,_,rfl,rfl,?_⟩;rw[if_neg (by decide)];refine⟨p,rfl,_,i,_,rfl,C,Z,d,a,rfl,U,hx,c,W.1,by omega,fun H0 j=>⟨_,rfl,?_⟩⟩
  by_cases ha:a∈d
  ·rw[decide_eq_true ha,if_neg (by decide)]
   refine⟨C,.ref p,d,_,rfl,U.keep j,v.keep j.keepT,c,u,by omega,fun r H1 e1 f M=>?_⟩;have e:=j.trans e1;refine⟨p,rfl,_,e.sqt i,_,rfl,by decide,fun l T=>?_⟩;have F:=Za2 T (HO.lst [D]);have m:=e.trans F;refine⟨r,l,_,[D],[b],rfl,M.keep F,Za1,.cons (hy.keep m.keepT) .nil,n,fun t y=>by rw[zb.mp y];exact⟨W.2,by omega⟩,by show _+1<=1000;omega,fun r2 H2 X f2 L=>⟨by decide,fun p1 N=>⟨by decide,fun na S=>?_⟩⟩⟩;exact Zk7 (q2 _ (if_pos ha)) (m.trans X) L (m.free f2) (hT.keep (m.trans X).keepT) N S
  ·rw[decide_eq_false ha,if_pos (by decide)]
   exact G (if_neg ha) _ j
 ·refine⟨p,rfl,_,i,_,at0 _ _,Ze6 _ _,?_⟩
  rw[if_pos (by rw[decide_eq_false (fun z=>R (by cases z;rfl))];rfl)];rw[if_pos trivial];refine G ?_ _ (Same.refl _);clear v u q I n
  cases o with
  |nd k a b=>cases k<;>first | rfl | exact absurd rfl (O _ _)
  | _=>rfl
theorem Wl8 {k:Nat}(F_bg0:Fun K "by_curried" "by_curried" (top 29) f_bg0 fd_bg0)(C_is_if:Cl P w K mg base k "is_if" ["on","kind"] (sp_isif K))(C_more:Cl P w K mg base k "more" pq32 (sp_more K))(C_without:Cl P w K mg base k "without" pq33 (sp_without K)):Fk0 P w K mg base (k+1) f_bg0 fd_bg0 pq31 (sp_by K .curried):=by
 refine F_bg0.okG sc_bg0 fun q8 A q6 s H vs Q E I h Gx q5=>?_;obtain⟨wa,gv,ov,u,g,O,rfl,hW,hT,hO,hn,j,q7,gp,hl,q1,q2⟩:=h
 refine q5 _ ⟨_,(Za4 (Zc7 (Zj7 (Zj2 (Zb8 C_is_if I (Za0 (pvM 2) (Za0 Zb6 Za3)))))
  (Za7 (Zb2 Ze3))
  Zb4)
 (Za4 (Zs8 (Ze8 Xv0 (pxtM (pvM 2) Za5) (Zg2 Za5) Zg3) (Zo1 rfl (Zb9 (pgn 3 sc_bg0.nd) (Zb9 (pgn 4 sc_bg0.nd) Zf9))))
 (Za7 (Zb2 (Zb7 (Za0 (Zc0 (Za0 (Zb8 C_more I (Za0 (Zb8 C_without I (Za0 (pvM 0) (Za0 (pvM 2) Za3))) (Za0 (Zb7 (Za0 (Zc0 (Za0 Zb6 (Za0 (pvM 3) (Za0 (Zc0 (Za0 Zb6 (Za0 (pvM 4) (Za0 (pxtM (pvM 2) Za5) Za3)))) Za3)))) Za3)) Za3))) (Za0 (pvM 1) Za3))) Za3)))))),?_⟩
 walk_at "1"
 obtain⟨o,rfl⟩:∃o,O=some o:=by cases O with
  |none=>cases hn
  |some o=>exact⟨o,rfl⟩
 obtain⟨n,C⟩:=hO;have B:=j o C;have N:(rem u o).length<=900:=zi (yu _ _) hl;have q:Okw (rem u o):=fun t G=>j t (mem_rem.mp G).1;refine⟨ov,o,_,rfl,n,_,rfl,?_⟩;rcases Yr1 .both o with ⟨x,y,c,rfl⟩ | ⟨hf,Y⟩
 ·obtain⟨p,va,L,rfl,S,ha,hc⟩:=isT_nd.mp n
  have J:=B.1;have pp:1+(1+x.parts+y.parts)+c.parts<=100:=B.2;obtain⟨p2,d,b,rfl,R,hx,hy⟩:=isT_nd.mp ha;rw[if_neg (by show ¬(!decide (some ("both":Str)=some ("both":Str)))=true;decide)];refine⟨p,rfl,_,S,_,rfl,p2,_,rfl,R,fun z=>absurd z.1 (show ¬(HT.sIx 3 0 (some 1)=0) by decide),fun p3 W=>?_⟩;have m:=Za2 W (HO.tup (cutV [V.str Kd.both.str,d,b] (some 1) none));have ct:cutV [V.str Kd.both.str,d,b] (some 1) none=[d,b]:=Yw4 (by exact Nat.le_add_left _ _);refine⟨p3,rfl,_,.inl (.inl Za1),by rw[ct];rfl,d,[b],ct,b,[],rfl,rfl,?_⟩;refine⟨wa,.ref p,u,_,rfl,hW.keep m,n.keep m.keepT,j,C,by omega,fun r H1 e1 f U=>?_⟩;have e:=m.trans e1;have fr:=m.free f;refine⟨p,rfl,_,e.sqt S,_,rfl,by decide,fun F q3=>⟨by decide,fun D q0=>⟨by decide,fun l q4=>?_⟩⟩⟩;have t1:=Za2 q3 (HO.tup [V.str (zh "then"),b,L]);have M:=Za2 q0 (HO.tup [V.str (zh "then"),d,V.ref F]);have v:=Za2 q4 (HO.lst [V.ref D]);have T3:=t1.trans (M.trans v);have i:=e.trans T3;refine⟨r,l,_,[V.ref D],[.nd .thn x (.nd .thn y c)],rfl,U.keep T3,Za1,.cons (isT_nd.mpr ⟨D,d,.ref F,rfl,v.sqt (.inl (.inl Za1)),hx.keep i.keepT,isT_nd.mpr ⟨F,b,L,rfl,(M.trans v).sqt (.inl (.inl Za1)),hy.keep i.keepT,hc.keep i.keepT⟩⟩) .nil,q,fun t G=>by rw[zb.mp G];exact⟨⟨J.1.1,J.1.2,J.2⟩,by show 1+x.parts+(1+y.parts+c.parts)<=100;omega⟩,by show _+1<=1000;omega,fun r2 H2 e2 f2 T=>⟨by decide,fun p1 X=>⟨by decide,fun na Z=>?_⟩⟩⟩;exact Zk7 (q2 _ rfl) (i.trans e2) T (i.free f2) (hT.keep (i.trans e2).keepT) X Z
 ·refine (if_pos (show (!_)=true from congrArg (!·) hf)).mpr (q1 ?_ _ (Same.refl _))
  clear n C B N q hf
  cases o with
  |nd k a c =>
   cases k with
   |thn =>
    cases a with
    |nd k2 x y=>cases k2<;>first | rfl | exact absurd rfl (Y _ _ _)
    | _=>rfl
   | _=>rfl
  | _=>rfl
theorem Wl7 {k:Nat}(F_bh0:Fun K "by_either" "by_either" (top 30) f_bh0 fd_bh0)(C_is_if:Cl P w K mg base k "is_if" ["on","kind"] (sp_isif K))(C_more:Cl P w K mg base k "more" pq32 (sp_more K))(C_without:Cl P w K mg base k "without" pq33 (sp_without K)):Fk0 P w K mg base (k+1) f_bh0 fd_bh0 pq31 (sp_by K .either):=by
 refine F_bh0.okG sc_bh0 fun q9 A q7 s H vs Q E M h Gx q6=>?_;obtain⟨wa,gv,ov,B,g,S,rfl,hW,hT,hO,hn,j,q8,gp,hl,q1,q2⟩:=h
 refine q6 _ ⟨_,(Za4 (Zc7 (Zj7 (Zj2 (Zb8 C_is_if M (Za0 (pvM 2) (Za0 Zb6 Za3)))))
  (Za7 (Zb2 Ze3))
  Zb4)
 (Za4 (Zs8 (Ze8 Xv0 (pxtM (pvM 2) Za5) (Zg2 Za5) Zg3) (Zo1 rfl (Zb9 (pgn 3 sc_bh0.nd) (Zb9 (pgn 4 sc_bh0.nd) Zf9))))
 (Za7 (Zb2 (Zb7 (Za0 (Zc0 (Za0 (Zb8 C_more M (Za0 (Zb8 C_without M (Za0 (pvM 0) (Za0 (pvM 2) Za3))) (Za0 (Zb7 (Za0 (Zc0 (Za0 Zb6 (Za0 (pvM 3) (Za0 (pxtM (pvM 2) Za5) Za3)))) (Za0 (Zc0 (Za0 Zb6 (Za0 (pvM 4) (Za0 (pxtM (pvM 2) Za5) Za3)))) Za3))) Za3))) (Za0 (pvM 1) Za3))) Za3)))))),?_⟩
 walk_at "1"
 obtain⟨o,rfl⟩:∃o,S=some o:=by cases S with
  |none=>cases hn
  |some o=>exact⟨o,rfl⟩
 obtain⟨q,F⟩:=hO;have D:=j o F;have R:(rem B o).length<=900:=zi (yu _ _) hl;have v:Okw (rem B o):=fun t J=>j t (mem_rem.mp J).1;refine⟨ov,o,_,rfl,q,_,rfl,?_⟩;rcases Yr1 .one o with ⟨x,y,c,rfl⟩ | ⟨hf,Z⟩
 ·obtain⟨p,va,m,rfl,L,ha,hc⟩:=isT_nd.mp q
  have u:=D.1;have pp:1+(1+x.parts+y.parts)+c.parts<=100:=D.2;obtain⟨p2,i,b,rfl,T,hx,hy⟩:=isT_nd.mp ha;rw[if_neg (by show ¬(!decide (some ("one":Str)=some ("one":Str)))=true;decide)];refine⟨p,rfl,_,L,_,rfl,p2,_,rfl,T,fun z=>absurd z.1 (show ¬(HT.sIx 3 0 (some 1)=0) by decide),fun p3 X=>?_⟩;have n:=Za2 X (HO.tup (cutV [V.str Kd.one.str,i,b] (some 1) none));have ct:cutV [V.str Kd.one.str,i,b] (some 1) none=[i,b]:=Yw4 (by exact Nat.le_add_left _ _);refine⟨p3,rfl,_,.inl (.inl Za1),by rw[ct];rfl,i,[b],ct,b,[],rfl,rfl,?_⟩;refine⟨wa,.ref p,B,_,rfl,hW.keep n,q.keep n.keepT,j,F,by omega,fun r H1 e1 f W=>?_⟩;have e:=n.trans e1;have fr:=n.free f;refine⟨p,rfl,_,e.sqt L,_,rfl,by decide,fun I q4=>?_⟩;have O:=Za2 q4 (HO.tup [V.str (zh "then"),i,m]);refine⟨p,rfl,_,(e.trans O).sqt L,_,rfl,by decide,fun G q3=>⟨by decide,fun l q5=>?_⟩⟩;have N:=Za2 q3 (HO.tup [V.str (zh "then"),b,m]);have C:=Za2 q5 (HO.lst [V.ref I,V.ref G]);have T3:=O.trans (N.trans C);have d:=e.trans T3;refine⟨r,l,_,[V.ref I,V.ref G],[.nd .thn x c,.nd .thn y c],rfl,W.keep T3,Za1,.cons (isT_nd.mpr ⟨I,i,m,rfl,(N.trans C).sqt (.inl (.inl Za1)),hx.keep d.keepT,hc.keep d.keepT⟩) (.cons (isT_nd.mpr ⟨G,b,m,rfl,C.sqt (.inl (.inl Za1)),hy.keep d.keepT,hc.keep d.keepT⟩) .nil),v,fun t J=>?_,by show _+2<=1000;omega,fun r2 H2 e2 f2 U=>⟨by decide,fun p1 Y=>⟨by decide,fun na q0=>?_⟩⟩⟩
  ·rcases yk.mp J with z | z
   ·rw[z];exact⟨⟨u.1.1,u.2⟩,by show 1+x.parts+c.parts<=100;omega⟩
   ·rw[zb.mp z];exact⟨⟨u.1.2,u.2⟩,by show 1+y.parts+c.parts<=100;omega⟩
  ·exact Zk7 (q2 _ rfl) (d.trans e2) U (d.free f2) (hT.keep (d.trans e2).keepT) Y q0
 ·refine (if_pos (show (!_)=true from congrArg (!·) hf)).mpr (q1 ?_ _ (Same.refl _))
  clear q F D R v hf
  cases o with
  |nd k a c =>
   cases k with
   |thn =>
    cases a with
    |nd k2 x y=>cases k2<;>first | rfl | exact absurd rfl (Z _ _ _)
    | _=>rfl
   | _=>rfl
  | _=>rfl
theorem Wl5 {k:Nat}(F_bj0:Fun K "by_idle" "by_idle" (top 31) f_bj0 fd_bj0)(C_is_if:Cl P w K mg base k "is_if" ["on","kind"] (sp_isif K))(C_without:Cl P w K mg base k "without" pq33 (sp_without K)):Fk0 P w K mg base (k+1) f_bj0 fd_bj0 pq31 (sp_by K .idle):=by
 refine F_bj0.okG Wg4 fun V A C s H W Q E q h Gx B=>?_;obtain⟨D,gv,G,d,g,m,rfl,z,N,O,L,i,U,gp,M,b,F⟩:=h;refine B _ ⟨_,(Za7 (Zb2 (Zj4 (Zj2 (Zb8 C_is_if q (Za0 (pvM 2) (Za0 Zb6 Za3)))) (Zb7 (Za0 (Zc0 (Za0 (Zb8 C_without q (Za0 (pvM 0) (Za0 (pvM 2) Za3))) (Za0 (pvM 1) Za3))) Za3)) Ze3))),?_⟩;walk_at "1"
 obtain⟨o,rfl⟩:∃o,m=some o:=by cases m with
  |none=>cases L
  |some o=>exact⟨o,rfl⟩
 obtain⟨l,n⟩:=O;have I:=i o n;have S:(rem d o).length<=900:=zi (yu _ _) M;have T:Okw (rem d o):=fun t J=>i t (mem_rem.mp J).1;refine⟨G,o,_,rfl,l,_,rfl,?_⟩
 cases o with
 |low=>rw[if_neg (by show ¬false=true;decide)];exact b rfl _ (Same.refl _)
 |ltr y=>rw[if_neg (by show ¬false=true;decide)];exact b rfl _ (Same.refl _)
 |nd kd a c =>
  cases kd with
  |both=>rw[if_neg (by show ¬false=true;decide)];exact b rfl _ (Same.refl _)
  |one=>rw[if_neg (by show ¬false=true;decide)];exact b rfl _ (Same.refl _)
  |thn =>
   obtain⟨p,Y,X,rfl,hs,ha,hc⟩:=isT_nd.mp l;have gk:=I.1
   cases a with
   |low =>
    rw[if_pos (by show decide (some ("low":Str)=some ("low":Str))=true;decide)];refine⟨D,.ref p,d,_,rfl,z,l,i,n,by omega,fun r H1 e f j=>⟨by decide,fun Z u=>⟨by decide,fun na v=>?_⟩⟩⟩;have R:rem d (.nd .thn .low c)=norm (rem d (.nd .thn .low c)):=Zo4 (Zl6 z.rise) fun _=>Iff.rfl;rw[R] at j;exact Zk7 (F _ rfl) e j f (N.keep e.keepT) u v
   |ltr y=>rw[if_neg (by show ¬decide (some ("letter":Str)=some ("low":Str))=true;decide)];exact b rfl _ (Same.refl _)
   |nd kd2 x y =>
    cases kd2 with
    |both=>rw[if_neg (by show ¬decide (some ("both":Str)=some ("low":Str))=true;decide)];exact b rfl _ (Same.refl _)
    |one=>rw[if_neg (by show ¬decide (some ("one":Str)=some ("low":Str))=true;decide)];exact b rfl _ (Same.refl _)
    |thn=>rw[if_neg (by show ¬decide (some ("then":Str)=some ("low":Str))=true;decide)];exact b rfl _ (Same.refl _)
theorem Wl9 {k:Nat}(F_bf0:Fun K "by_chain" "by_chain" (top 32) f_bf0 fd_bf0)(C_is_if:Cl P w K mg base k "is_if" ["on","kind"] (sp_isif K))(C_more:Cl P w K mg base k "more" pq32 (sp_more K))(C_without:Cl P w K mg base k "without" pq33 (sp_without K)):Fk0 P w K mg base (k+1) f_bf0 fd_bf0 pq31 (sp_by K .chain):=by
 refine F_bf0.okG sc_bf0 fun q9 A q7 s H vs Q E u h Gx q6=>?_;obtain⟨wa,gv,ov,D,g,T,rfl,hW,hT,hO,hn,i,q8,gp,hl,q1,q2⟩:=h
 refine q6 _ ⟨_,(Za4 (Zc7 (Zj7 (Zj2 (Zb8 C_is_if u (Za0 (pvM 2) (Za0 Zb6 Za3)))))
  (Za7 (Zb2 Ze3))
  Zb4)
 (Za4 (pst 3 sc_bf0.nd (Zb8 C_without u (Za0 (pvM 0) (Za0 (pvM 2) Za3))))
 (Za7 (Zb2 (Zb7 (Za0 (Zc0 (Za0 (Zb8 C_more u (Za0 (pvM 3) (Za0 (Zb7 (Za0 (Zc0 (Za0 Zb6 (Za0 (pxtM (pxtM (pvM 2) Za5) Za5) (Za0 (pxtM (pvM 2) Za5) Za3)))) Za3)) Za3))) (Za0 (pxtM (pvM 2) Za5) Za3))) (Za0 (Zc0 (Za0 (Zb8 C_more u (Za0 (pvM 3) (Za0 (Zb7 (Za0 (pxtM (pvM 2) Za5) Za3)) Za3))) (Za0 (pvM 1) Za3))) Za3))))))),?_⟩
 walk_at "1"
 obtain⟨o,rfl⟩:∃o,T=some o:=by cases T with
  |none=>cases hn
  |some o=>exact⟨o,rfl⟩
 obtain⟨n,G⟩:=hO;have F:=i o G;have S:(rem D o).length<=900:=zi (yu _ _) hl;have b:Okw (rem D o):=fun t d=>i t (mem_rem.mp d).1;refine⟨ov,o,_,rfl,n,_,rfl,?_⟩;rcases Yr1 .thn o with ⟨x,y,c,rfl⟩ | ⟨hf,Z⟩
 ·obtain⟨p,va,j,rfl,q,ha,hc⟩:=isT_nd.mp n
  have J:=F.1;have pp:1+(1+x.parts+y.parts)+c.parts<=100:=F.2;obtain⟨R,vx,M,rfl,U,hx,hy⟩:=isT_nd.mp ha;rw[if_neg (by show ¬(!decide (some ("then":Str)=some ("then":Str)))=true;decide)];refine⟨wa,.ref p,D,_,rfl,hW,n,i,G,by omega,fun r H1 e f B=>?_⟩;refine⟨p,rfl,_,e.sqt q,_,rfl,R,rfl,_,e.sqt U,_,rfl,p,rfl,_,e.sqt q,_,rfl,by decide,fun I q3=>⟨by decide,fun l q5=>?_⟩⟩;have t1:=Za2 q3 (HO.tup [V.str (zh "then"),M,j]);have N:=Za2 q5 (HO.lst [V.ref I]);have L:=t1.trans N;have z:=e.trans L;refine⟨r,l,_,[V.ref I],[.nd .thn y c],rfl,B.keep L,Za1,.cons (isT_nd.mpr ⟨I,M,j,rfl,N.sqt (.inl (.inl Za1)),hy.keep z.keepT,hc.keep z.keepT⟩) .nil,b,fun t d=>by rw[zb.mp d];exact⟨⟨J.1.2,J.2⟩,by show 1+y.parts+c.parts<=100;omega⟩,by show _+1<=1000;omega,fun r2 H2 e2 f2 X=>?_⟩;have v:=z.trans e2;refine⟨p,rfl,_,v.sqt q,_,rfl,by decide,fun p1 C=>?_⟩;have O:=Za2 C (HO.tup [V.ref r2,V.ref R]);have E3:=v.trans O;refine⟨p,rfl,_,E3.sqt q,_,rfl,by decide,fun l2 q4=>?_⟩;have m:=Za2 q4 (HO.lst [j]);have E4:=E3.trans m;refine⟨r,l2,_,[j],[c],rfl,B.keep (L.trans (e2.trans (O.trans m))),Za1,.cons (hc.keep E4.keepT) .nil,b,fun t d=>by rw[zb.mp d];exact⟨J.2,by omega⟩,by show _+1<=1000;omega,fun r3 H5 e5 f5 W=>⟨by decide,fun p4 Y=>⟨by decide,fun na q0=>?_⟩⟩⟩;exact Zy4 (q2 _ rfl) v X (z.free f2) (ha.keep v.keepT) C (m.trans e5) W (m.free f5) (hT.keep (E4.trans e5).keepT) Y q0
 ·refine (if_pos (show (!_)=true from congrArg (!·) hf)).mpr (q1 ?_ _ (Same.refl _))
  clear n G F S b hf
  cases o with
  |nd k a c =>
   cases k with
   |thn =>
    cases a with
    |nd k2 x y=>cases k2<;>first | rfl | exact absurd rfl (Z _ _ _)
    | _=>rfl
   | _=>rfl
  | _=>rfl
theorem Wk9 {k:Nat}(F_bp0:Fun K "by_use" "by_use" (top 33) f_bp0 fd_bp0)(C_more:Cl P w K mg base k "more" pq32 (sp_more K))(m_list:mg "list"=none):Fk0 P w K mg base (k+1) f_bp0 fd_bp0 pq31 (sp_by K .use):=by
 refine F_bp0.okG Wf8 fun q3 A T s H vs Q E hr h Gx O=>?_;obtain⟨U,gv,ov,ws,g,y,rfl,N,hT,hO,hn,e,q0,gp,hl,q1,Z⟩:=h
 refine O _ ⟨_,(Za4 (Zc7 (ptcM (Yd0) (pxtM (pvM 2) Za5) Zb6)
  (Za7 (Zb2 Ze3))
  Zb4)
 (Za7 (Zb2 (Zb7 (Za0 (Zc0 (Za0 (Zg4 Ze9 (by exact rfl) m_list Zf8 (Za0 (pvM 0) Za3)) (Za0 (pxtM (pvM 2) Za5) Za3))) (Za0 (Zc0 (Za0 (Zb8 C_more hr (Za0 (pvM 0) (Za0 (Zb7 (Za0 (pxtM (pvM 2) Za5) Za3)) Za3))) (Za0 (pvM 1) Za3))) Za3)))))),?_⟩
 walk_at "1"
 obtain⟨o,rfl⟩:∃o,y=some o:=by cases y with
  |none=>cases hn
  |some o=>exact⟨o,rfl⟩
 obtain⟨D,B⟩:=hO;have n:=e o B;have v:(rem ws o).length<=900:=zi (yu _ _) hl;have C:Okw (rem ws o):=fun t q=>e t (mem_rem.mp q).1;rcases Zw6 .thn D with ⟨a,b,p,X,u,rfl,rfl,d,hx,hy⟩ | ⟨p,x,xs,rfl,d,J,I⟩
 ·have gk:=n.1
  have pp:1+a.parts+b.parts<=100:=n.2;refine⟨p,rfl,_,d,_,rfl,rfl,?_⟩;rw[if_neg (by decide)];obtain⟨⟨f,ha,hU⟩,hR⟩:=id N;refine⟨f,.inl (SqL.of ha),fun l j=>?_⟩;have c:=Za2 j (HO.lst f);have W:IsW K (upd H l (.lst f)) l ws:=⟨⟨f,Za1,Paired.mapP hU fun _ _ z=>z.keep c.keepT⟩,hR⟩;refine⟨p,rfl,_,c.sqt d,_,rfl,by decide,fun p1 i=>?_⟩;have Y:=Za2 i (HO.tup [V.ref l,X]);have S:=c.trans Y;refine⟨p,rfl,_,S.sqt d,_,rfl,by decide,fun l2 M=>?_⟩;have m:=Za2 M (HO.lst [u]);have r:=S.trans m;refine⟨U,l2,ws,[u],[b],rfl,N.keep r,Za1,.cons (hy.keep r.keepT) .nil,e,fun t q=>by rw[zb.mp q];exact⟨gk.2,by omega⟩,by show ws.length+1<=1000;omega,fun r2 H2 R f2 F=>⟨by decide,fun p2 G=>⟨by decide,fun na L=>?_⟩⟩⟩;exact Zy4 (Z _ rfl) c W j (hx.keep c.keepT) i (m.trans R) F (m.free f2) (hT.keep (r.trans R).keepT) G L
 ·refine⟨p,rfl,_,d,_,at0 _ _,Ze6 _ _,?_⟩
  rw[if_pos (by rw[decide_eq_false (fun z=>J (by cases z;rfl))];rfl)];refine q1 ?_ _ (Same.refl _);clear D B n v C
  cases o with
  |nd k a b=>cases k<;>first | rfl | exact absurd rfl (I _ _)
  | _=>rfl
theorem Wf6:FnScope ["rule","wishes","on"] ["rule","wishes","on"] (Za6 (top 36)):=scm (by decide +kernel)
theorem sc_cc0:FnScope ["rule","wishes","goal","on","deed","needed"] ["rule","wishes","goal","on"] (Za6 (top 37)):=scm (by decide +kernel)
noncomputable def tblR (fR:Rl->Addr):List (Str×V):=all14.map fun r=>(r.str,V.ref (fR r))
theorem Xc9 (fR:Rl->Addr)(r:Rl):(tblR fR).lookup r.str=some (V.ref (fR r)):=by cases r<;>rfl
theorem Xy4 (h:x∈badN):(tblR fR).lookup x=none:=by
 unfold badN at h;simp only[yk,ybe,or_false] at h
 rcases h with rfl | rfl | rfl | rfl<;>rfl
theorem Wb3 (r:Rl):r.str.length<=10:=by cases r<;>decide
theorem Wk5 {k:Nat}(F_bu0:Df K mg "has_on" (top 36) ["rule","wishes","on"])(C_among:Cl P w K mg base k "among" pq33 (sp_among K))(m_ag0:MgI mg "WITHOUT_ON" aWITHOUT_ON)(t_WITHOUT_ON:∀H,SqT K H aWITHOUT_ON [.str "wish",.str "low",.str "both",.str "first",.str "second",.str "then"]):Cl P w K mg base (k+1) "has_on" ["rule","wishes","on"] (sp_hason K):=by
 refine F_bu0.okG Wf6 fun F C A l s H D Q E t h G j=>?_;obtain⟨r,n,c,a,g,rfl,y,b,i,u,q⟩:=h
 refine j _ ⟨_,(Za4 (Zc7 (Zp5 (Zt2) (pvM 0) (Yb0 (v:=.ref aWITHOUT_ON) (by exact rfl) m_ag0 (by exact rfl)) (by with_unfolding_all rfl))
  (Za7 (Zb2 (Zm5 (Yd7) (pvM 2) Ze3 (Zo5 _))))
  Zb4)
 (Za7 (Zb2 (Yk5 (Zm5 (Xh3) (pvM 2) Ze3 (Zo5 _)) (Zw1 (Zb8 C_among t (Za0 (pvM 1) (Za0 (pvM 2) Za3)))))))),?_⟩
 walk_at "1";refine⟨_,.inr (t_WITHOUT_ON H),rfl,rfl,?_⟩;rw[if_neg zg]
 by_cases hno:r.noOn=true
 ·rw[if_pos (by revert hno;cases r<;>decide)]
  cases g with
  |none =>
   cases (show c=V.non from b);have:=q H (Same.refl _);rw[show Yg9 r a none=true from hno] at this;exact this
  |some o =>
   have d:c≠.non:=fun z=>by have:=b.1;rw[z] at this;obtain⟨p,x,m,A,e,_⟩:=Zp8 this;cases e
   have:=q H (Same.refl _);rw[show Yg9 r a (some o)=false by show (!r.noOn&&_)=false;rw[hno];rfl] at this;rw[decide_eq_false d];exact this
 ·rw[if_neg (by revert hno;cases r<;>decide)]
  have f:r.noOn=false:=by cases h:r.noOn with | false=>rfl | true=>exact absurd h hno
  cases g with
  |none =>
   cases (show c=V.non from b);rw[if_neg (by decide)];have:=q H (Same.refl _);rw[show Yg9 r a none=false from f] at this;exact this
  |some o =>
   have d:c≠.non:=fun z=>by have:=b.1;rw[z] at this;obtain⟨p,x,m,A,e,_⟩:=Zp8 this;cases e
   rw[if_pos (by rw[decide_eq_false d];rfl)];refine⟨n,c,a,o,rfl,y,b.1,i,b.2.1,u,fun B e=>?_⟩;have:=q B e;rw[show Yg9 r a (some o)=decide (o∈a) by show (!r.noOn&&_)=_;rw[f];rfl] at this;exact this
theorem Wj7 {k:Nat}{fR:Rl->Addr}{fdR:Rl->yq}(F_cc0:Fun K "needs" "needs" (top 37) f_cc0 fd_cc0)(C_has_on:Cl P w K mg base k "has_on" ["rule","wishes","on"] (sp_hason K))(m_af0:MgI mg "RULES" aRULES)(D_RULES:KDict K w aRULES (tblR fR))(m_ad0:MgI mg "NoRule" aNoRule)(x_NoRule:XCls K aNoRule)
  (G_af0:∀r,Fk0 P w K mg base k (fR r) (fdR r) ["wishes","goal","on"] (sp_by K r)) (k_af0:∀r,ybd K (.ref (fR r))=true) (b_af0:∀r,Binds K (fdR r) ["wishes","goal","on"] []):FnOk P w K mg base (CXe P w) (k+1) f_cc0 fd_cc0 pq25 (sp_needs K aNoRule):=by
 refine F_cc0.okX sc_cc0 (fun Y H Q E h=>?_) (fun q2 A X s H Y Q E L h=>?_)
 ·obtain⟨x,R,d,n,f,j,g,b,rfl,_⟩:=h
  rfl
 obtain⟨x,R,d,n,f,j,g,b,rfl,B,O,hT,D,u,S,gp,hl,p,G⟩:=h
 refine⟨_,(Za4 (Zc7 (Xv4 (Xg9 D_RULES rfl m_af0 (pvM 0)) (by with_unfolding_all rfl))
  (Za7 (Yg4 Zr9 rfl (by exact rfl) m_ad0 x_NoRule (Za0 (Yg6 (Xz8 (pvM 0) (Ya9 Yt9))) Za3)))
  Zb4)
 (Za4 (Zc7 (Zj7 (Zj2 (Zb8 C_has_on L (Za0 (pvM 0) (Za0 (pvM 1) (Za0 (pvM 3) Za3))))))
  (Za7 (Yg4 Zr9 rfl (by exact rfl) m_ad0 x_NoRule (Za0 (Yg6 (Ya9 (Xv8 (pvM 0) (Ya9 Yt9)))) Za3)))
  Zb4)
 (Za4 (pst 4 sc_cc0.nd (Xr5 D_RULES rfl m_af0 (pvM 0)))
 (Za4 (pst 5 sc_cc0.nd (Xr7 (i:=4) G_af0 L rfl k_af0 b_af0 (Za0 (pvM 1) (Za0 (pvM 2) (Za0 (pvM 3) Za3)))))
 (Za4 (Zc7 (ptcM (Yd7) (pvM 5) Ze3)
  (Za7 (Yg4 Zr9 rfl (by exact rfl) m_ad0 x_NoRule (Za0 (Yg6 (Ya9 (Xv8 (pvM 0) (Ya9 Yt9)))) Za3)))
  Zb4)
 (Za7 (Zb2 (pvM 5)))))))),?_⟩
 cases R with
 |none =>
  walk_at "1";rw[Xy4 B];have h1:=Wd5 B
  have h2:Str.length (ybr++reprText x)<=200:=by rw[yax];show 0+_<=_;omega
  have h3:Str.length (ybr++reprText x++zh " is no rule")<=200:=by rw[yax,yax];show 0+_+11<=_;omega
  rw[if_pos (by rfl)];exact⟨zk (Zb1 (by omega)),zk (Zb1 (by omega)),zk (Zb1 (by omega)),zk (Zb1 (by omega)),by decide,fun e a l=>p (by cases b with | none=>rfl | some o=>exact ite_self none) e a l⟩
 |some r =>
  obtain rfl:x=r.str:=B;have lr:=Wb3 r;refine sqk (fun C=>∀a,Same H a->C [some (.str r.str),some (.ref d),some n,some f,none,none] a) (fun C m=>?_) fun H1 t=>?_
  ·walk_at "1"
   rw[Xc9,if_neg (by simp)];exact m _ (Same.refl _)
  refine sqk (fun C=>∀a,Same H a->Yg9 r j b=true->C [some (.str r.str),some (.ref d),some n,some f,none,none] a) (fun C m=>?_) fun H2 e2 q=>?_
  ·walk_at "1"
   refine⟨r,d,f,j,b,rfl,O.keep t,D.keep t.keepT,u,by omega,fun a e=>⟨_,rfl,?_⟩⟩
   cases q:Yg9 r j b with
   |true =>
    rw[if_neg (by decide)];exact m _ (t.trans e) q
   |false =>
    rw[if_pos (by decide)];refine⟨by decide,zk (Zb1 (by omega)),by cases r<;>decide,by cases r<;>decide,by cases r<;>decide,by decide,fun F U l=>?_⟩;exact p (Yq1 q) F U (l.mono (t.trans e))
  obtain⟨n1,n2,n3⟩:=Xi4 (g:=g) q;rw[n1] at p G;refine sqk (fun C=>∀a,Same H a->C [some (.str r.str),some (.ref d),some n,some f,some (.ref (fR r)),none] a) (fun C m=>?_) fun U c=>?_
  ·walk_at "1"
   exact⟨_,Xc9 fR r,m _ e2⟩
  walk_at "1";refine⟨r,rfl,d,n,f,j,g,b,rfl,O.keep c,hT.keep c.keepT,?_,n2,u,S,gp,hl,fun hn a e=>?_,fun I hs J a Z e T v y N M=>?_⟩
  ·cases b with
   |none=>exact D
   |some o=>exact⟨D.1.keep c.keepT,n3 o rfl⟩
  ·show if V.non=V.non then _ else _
   rw[if_pos rfl];exact⟨by decide,zk (Zb1 (by omega)),by cases r<;>decide,by cases r<;>decide,by cases r<;>decide,by decide,fun F H4 l=>p hn F H4 (l.mono (c.trans e))⟩
  ·show if V.ref J=V.non then _ else _
   rw[if_neg (fun z=>nomatch z)];exact G I hs J a Z (c.trans e) (c.free T) v y (fun o ho=>c.free (N o ho)) M
noncomputable abbrev Wh3:Stmt:=Yr3 (top 3) 0
theorem Wh2:FnScope ["self","line"] ["self","line"] (Za6 Wh3):=scm (by decide +kernel)
theorem sc_br0:FnScope ["lines","number"] ["lines"] (Za6 (top 42)):=scm (by decide +kernel)
theorem Yx3 (i:Nat)(h:i<=5000):(zh "line ").length+(zh (toString ((i:Nat):Int))).length+(zh " is no good one").length<=100:=by
 have c:(zh (toString ((i:Nat):Int))).length<=10:=W.KT.len_num (by omega) (Int.lt_of_le_of_lt (show ((i:Nat):Int)<=5000 by omega) (by decide))
 have b:(zh "line ").length=5:=by decide +kernel
 have a:(zh " is no good one").length=15:=by decide +kernel
 omega
theorem Xp2 (i:Nat)(h:i<=5000):((i:Nat):Int).natAbs.log2 < 1920:=by
 have:((i:Nat):Int).natAbs=i:=rfl;rw[this]
 by_cases h0:i=0
 ·subst h0;decide
 ·rw[Nat.log2_lt h0]
  exact ycs h (by decide)
theorem Wo3 {k:Nat}(F_ac0:Fun K "__init__" "NoLine.__init__" Wh3 f_ac0 fd_ac0)(m_KenError:MgI mg "KenError" aKenError)(xi_KenError:XIni K aKenError)(xc_NoLine:XC K aNoLine)(xs_NoLine:XSet K aNoLine "line"):Fk0 P w K mg base (k+1) f_ac0 fd_ac0 ["self","line"] (sp_xinitL aNoLine):=by
 refine F_ac0.okG Wh2 fun g A d s H j Q E l h r c=>?_;obtain⟨e,i,T,rfl,a,b,q⟩:=h
 refine c _ ⟨_,(Za4 (Zi5 (Wa0 (C:=aNoLine) xi_KenError (by exact rfl) m_KenError xc_NoLine (Za0 (pvM 0) (Za0 (Yg6 (Ya9 (Xz9 (pvM 1) (Ya9 Yt9)))) Za3))))
 (Za7 (Xz5 xs_NoLine xc_NoLine (pvM 0) (pvM 1)))),?_⟩
 have p:=Yx3 i a;have f:=Xp2 i a;walk_at "1"
 have o:(ybr++zh "line ").length<=100:=by rw[yax];show 0+_<=_;omega
 have n:(ybr++zh "line "++zh (toString ((i:Nat):Int))).length<=100:=by rw[yax,yax];show 0+_+_<=_;omega
 have m:(ybr++zh "line "++zh (toString ((i:Nat):Int))++zh " is no good one").length<=100:=by rw[yax,yax,yax];show 0+_+_+_<=_;omega
 exact⟨zk (Zb1 (by omega)),f,zk (Zb1 (by omega)),zk (Zb1 (by omega)),zk (Zb1 (by omega)),_,_,b,T,b,q⟩
theorem Wk7 {k:Nat}(F_br0:Fun K "check" "check" (top 42) f_br0 fd_br0)(C_is_good:Cl P w K mg base (k+1) "is_good" ["lines","number"] (sp_isgood K))(m_ab0:MgI mg "NoLine" aNoLine)(G_ac0:Fk0 P w K mg base k f_ac0 fd_ac0 ["self","line"] (sp_xinitL aNoLine))(b_ac0:Binds K fd_ac0 ["self","line"] [])(x_NoLine:XClsI K aNoLine f_ac0)(m_range:mg "range"=none)(m_len:mg "len"=none):FnOk P w K mg base (CXe P w) (k+1+1) f_br0 fd_br0 ["lines"] (sp_checkX K aNoLine):=by
 refine F_br0.okX sc_br0 (fun M H Q E h=>?_) (fun W A J s H M Q E p h=>?_)
 ·obtain⟨a,b,L,rfl,_⟩:=h
  rfl
 obtain⟨a,b,L,rfl,u,I,y,O,q,m⟩:=h;have x:b.length=L.length:=zc I
 refine⟨_,(Za4 (Zc7 (Zj7 (Zs7 (pvM 0) (fun _=>rfl)))
  (Za7 (Yk3 G_ac0 p b_ac0 Zr9 rfl (by exact rfl) m_ab0 x_NoLine (Za0 Za5 Za3)))
  Zb4)
 (Za4 (Zj3 PassesOwn.leaving rfl (Zj1 rfl m_range (Za0 (Zc1 Zb5 (by exact rfl) m_len Zc9 (Za0 (pvM 0) Za3)) Za3)) (pgn 1 sc_br0.nd)
  (Za7 (Zc7 (Zj7 (Zj2 (Zb8 C_is_good p (Za0 (pvM 0) (Za0 (pvM 1) Za3)))))
  (Za7 (Yk3 G_ac0 p b_ac0 Zr9 rfl (by exact rfl) m_ab0 x_NoLine (Za0 (pvM 1) Za3)))
  Zb4)))
 (Za7 (Zb2 Zo2)))),?_⟩
 refine sqk (fun C=>L≠[]->C [some (.ref a),none] H) (fun C v=>?_) fun B=>?_
 ·walk_at "1"
  refine⟨_,.inl ⟨b,SqL.of u,rfl⟩,?_⟩
  by_cases hz:L=[]
  ·have o:b.isEmpty=true:=by
    have:b=[]:=List.eq_nil_of_length_eq_zero (by rw[x,hz];rfl);rw[this];rfl
   rw[o,if_pos (by decide)];exact⟨by decide,fun S f=>Xv3 (n:=0) (by decide) f (m 0 (if_pos hz) _ (Same.refl _))⟩
  ·have o:b.isEmpty=false:=by cases b with
    |nil=>exact absurd (List.eq_nil_of_length_eq_zero x.symm) hz
    |cons _ _=>rfl
   rw[o,if_neg (by decide)];exact v hz
 have R:badL L=dueF L:=if_neg B;rw[R] at q m;refine sqt (fun c g=>∃d,c=[some (.ref a),d]/\Same H g/\∀j,j < L.length->Zk2 L j=true) ?_ ?_
 ·intro C v
  walk_at "2";refine⟨_,.inl (SqL.of u),by omega,by omega,?_⟩;refine Zm1 (D:={ nx:=C,rt:=Q }) (n:=((b.length:Nat):Int).toNat) (lo:=0) (fun i c g=>∃d,c=[some (.ref a),d]/\Same H g/\∀j,j < i->Zk2 L j=true) ⟨none,rfl,Same.refl _,fun j r=>absurd r (zct _)⟩ (fun i c g V N=>?_) (fun c g zZ=>by obtain⟨d,h1,h2,h3⟩:=zZ;exact v _ _ ⟨d,h1,h2,fun j r=>h3 j (by omega)⟩);obtain⟨d,rfl,e,G⟩:=N;walk_at "1";rw[show (0:Int)+(i:Int)=((i:Nat):Int) by omega]
  have F:i < L.length:=by omega
  refine⟨a,b,L,i,rfl,e _ _ u,IsLns.keep e I,y,F,O,fun T l=>⟨_,rfl,?_⟩⟩
  cases hg:Zk2 L i with
  |true =>
   rw[if_neg (by decide)];refine⟨e.trans l,fun j r=>?_⟩;rcases Nat.lt_or_ge j i with z | z
   ·exact G j z
   ·rw[show j=i by omega];exact hg
  |false =>
   rw[if_pos (by decide)];exact⟨by decide,fun S f=>Xv3 (n:=i) (by omega) f (m i (Xl6 F hg G) _ (e.trans l))⟩
 rintro U T ⟨d,rfl,l,t⟩;walk_at "1";exact q (Ym6 t) _ l
theorem sc_ah0:FnScope ["_law_script","_law_start","_law_most","_law_words_here","_law_first","_law_lines","_law_k"] ["_law_script","_law_start","_law_most","_law_words_here"] (Za6 (top 62)):=scm (by decide +kernel)
theorem Wh0:FnScope ["_law_lines"] ["_law_lines"] (Za6 (top 63)):=scm (by decide +kernel)
theorem Wo2 {k:Nat}(F_ah0:Df K mg "_law_built" (top 62) pq12)(C__law_statement:Cl P w K mg base k "_law_statement" pq1 (sp_stm21 K 2))(C__law_cell:Cl P w K mg base k "_law_cell" ["_law_script","_law_k"] (sp_cell K))(C__law_next:Cl P w K mg base k "_law_next" pq8 (sp_next K))(C__law_mix:Cl P w K mg base k "_law_mix" pq0 (sp_mix))(m_range:mg "range"=none)(m_min:mg "min"=none)(m_len:mg "len"=none):Cl P w K mg base (k+1) "_law_built" pq12 (sp_built K):=by
 refine F_ah0.okG sc_ah0 fun fx j1 A q8 s H vs Q E N h Gx q7=>?_;obtain⟨a,B,M,m,d,ws,rfl,hS,Z,s0,s1,m0,m1,hW,hw,q⟩:=h
 refine q7 _ ⟨_,(Za4 (pst 4 sc_ah0.nd (Zb8 C__law_statement N (Za0 (Zb8 C__law_cell N (Za0 (pvM 0) (Za0 (pvM 1) Za3))) (Za0 Za5 (Za0 (pvM 3) Za3)))))
 (Za4 (pst 5 sc_ah0.nd (Zb7 (Za0 (Zc0 (Za0 Zb6 (Za0 (Zb7 (Za0 (pvM 4) Za3)) (Za0 (pvM 4) (Za0 Ze3 (Za0 (Zb7 Za3) Za3)))))) Za3)))
 (Za4 (Zj3 zae rfl (Xg2 rfl m_range (Za0 (Zb0 Zd2 (pvM 1) Za5) (Za0 (Zc1 (Xn4 rfl) (by exact rfl) m_min Xu4 (Za0 (Zc1 Zb5 (by exact rfl) m_len Zc9 (Za0 (pvM 0) Za3)) (Za0 (Zb0 Zd2 (pvM 1) (pvM 2)) Za3))) Za3))) (pgn 6 sc_ah0.nd)
  (Za7 (Zi5 (Zv2 zad zam zaq Zg6 (pvM 5) (Za0 (Zb8 C__law_next N (Za0 (pvM 5) (Za0 (Zb8 C__law_mix N (Za0 (Zb8 C__law_cell N (Za0 (pvM 0) (Za0 (pvM 6) Za3))) (Za0 (pvM 6) Za3))) (Za0 (pvM 3) Za3)))) Za3)))))
 (Za7 (Zb2 (pvM 5)))))),?_⟩
 refine sqk (fun C=>∀c o f,Same H c->IsT K c o f->f.ok->f.parts<=1->C [some (.ref a),some (.int m),some (.int d),some (.ref B),some o,none,none] c) (fun C W=>?_) fun H1 o f e1 hf q2 fp=>?_
 ·walk_at "1"
  refine⟨a,M,m,rfl,hS,Z,s0,by omega,_,_,B,ws,rfl,Xn3 _ _,by decide,by decide,by decide,hW,hw,fun r c t e mt=>W _ r t e mt.1 (mt.2.1.ok hw.2.2) (by have h:=mt.2.2.1;have:(1:Int).toNat=1:=rfl;omega)⟩
 refine sqk (fun C=>∀c j v l,Same H c->H j=none->c j=some (.lst [v])->IsLnN K j c v l->GL [l]->C [some (.ref a),some (.int m),some (.int d),some (.ref B),some o,some (.ref j),none] c) (fun C W=>?_) fun H2 j v l e2 f2 h2 T G=>?_
 ·walk_at "1"
  refine⟨by decide,fun p Y=>⟨by decide,fun p1 q1=>⟨by decide,fun p2 q0=>⟨by decide,fun p3 O=>?_⟩⟩⟩⟩;have X:=Za2 Y (HO.lst [o]);have t2:=Za2 q1 (HO.lst []);have t3:=Za2 q0 (HO.tup [V.str "wish",V.ref p,o,V.non,V.ref p1]);have t4:=Za2 O (HO.lst [V.ref p2]);have q6:IsW K (upd H1 p (HO.lst [o])) p [f]:=⟨⟨[o],Za1,.cons (hf.keep X.keepT) .nil⟩,yam _ _⟩;have S3:=(((e1.trans X).trans t2).trans t3);have T:=Zh0 (x:="wish") (R:=some .wish) (on:=none) (ls:=[]) q0 (q6.keep t2) (hf.keep (X.trans t2).keepT) rfl Za1 (H0:=H) (e1.free Y) ((e1.trans X).free q1);have I:OkLn ⟨"wish",some .wish,[f],f,none,[]⟩:=⟨rfl,Zg5 q2 (by omega),by show 1<=60;decide,q2,by show f.parts<=100;omega,yz _⟩;have gd:Zm0 [] 0 ⟨"wish",some .wish,[f],f,none,[]⟩=true:=Xt0 (yam _ _) (by show (if f∈[f] then _ else _)=_;rw[if_pos (zb.mpr rfl)]) rfl;have J:OkL9 ⟨"wish",some .wish,[f],f,none,[]⟩:=⟨I,by show 1<=9;decide,fun t ht=>by rw[zb.mp ht];show f.parts<=40;omega,by show f.parts<=40;omega⟩;exact W _ p3 (.ref p2) _ (S3.trans t4) (S3.free O) Za1 (T.ln.n t4 O) (GL.snoc (L:=[]) ⟨fun i hi=>absurd hi (zct _),fun l Z=>(by cases Z),by decide⟩ ⟨I,gd⟩ J (by decide))
 refine sqt (fun u c=>∃y g L,u=[some (.ref a),some (.int m),some (.int d),some (.ref B),some o,some (.ref j),y]/\Same H c/\c j=some (.lst g)/\IsLns K c g L/\GL L/\L≠[]) ?_ ?_
 ·intro C W
  walk_at "2"
  have hb:∃b:Int,(if m+d < (((M.map V.int).length:Nat):Int) then m+d else (((M.map V.int).length:Nat):Int))=b/\0<=b/\b<=70:=by
   rw[yh]
   by_cases h:m+d < ((M.length:Nat):Int)
   ·rw[if_pos h];exact⟨_,rfl,by omega,by omega⟩
   ·rw[if_neg h];exact⟨_,rfl,by omega,by omega⟩
  obtain⟨b,eb,b0,b1⟩:=hb;refine⟨_,.inl (e2.seq hS),by omega,by omega,?_⟩;rw[eb];refine⟨by omega,by omega,?_⟩;refine Zm1 (D:={ nx:=C,rt:=Q }) (n:=(b - (m+1)).toNat) (lo:=m+1) (fun i u c=>∃y g L,u=[some (.ref a),some (.int m),some (.int d),some (.ref B),some o,some (.ref j),y]/\Same H c/\c j=some (.lst g)/\Paired (IsLnN K j c) g L/\GL L/\L≠[]/\L.length=i+1) ⟨none,[v],[l],rfl,e2,h2,.cons T .nil,G,by simp,rfl⟩ (fun i u c j0 Y=>?_) (fun u c zZ=>by obtain⟨y,g,L,z1,z2,z3,z4,z5,z6,_⟩:=zZ;exact W _ _ ⟨y,g,L,z1,z2,z3,Paired.mapP z4 fun _ _ z=>z.ln,z5,z6⟩);obtain⟨y,g,L,rfl,e,h,U,GG,S,q3⟩:=Y;have lu:g.length=L.length:=zc U;walk_at "1";refine⟨.inl ⟨rfl,_,SqL.of h⟩,a,M,_,rfl,e.seq hS,Z,by omega,by omega,_,_,rfl,by omega,by omega,j,B,g,L,_,ws,rfl,h,Paired.mapP U fun _ _ z=>z.ln,GG,S,Zk1 _ _,e.seq hW,hw,fun v l H5 e5 hv q4 J=>?_⟩;have h5:=e5 _ _ h;have q5:Same H (upd H5 j (.lst (g++[v]))):=(e.trans e5).write f2;refine⟨g,h5,small1M (by omega),q5,g++[v],Za1,L++[l],?_,GG.snoc q4 J (by omega),by simp,by rw[zf,zd,q3]⟩;exact Zc4 (Paired.mapP U fun _ _ z=>(z.keep e5).write h5) (.cons ((hv.n h).write h5) .nil)
 rintro q9 H3 ⟨y,g,L,rfl,e3,h3,U,GG,S⟩;walk_at "1";exact q _ _ _ _ e3 f2 h3 U GG S
theorem Wn6 {k:Nat}(F_an0:Df K mg "_law_copy" (top 63) ["_law_lines"])(m_list:mg "list"=none):Cl P w K mg base (k+1) "_law_copy" ["_law_lines"] (sp_copyL K):=by
 refine F_an0.okG Wh0 fun fx q1 A N s H vs Q E hr h Gx J=>?_;obtain⟨a,u,L,rfl,G,I,q0,hn,q⟩:=h;refine J _ ⟨_,(Za7 (Zb2 (Yc9 (blk0 (N':=["_law_rule","_law_wishes","_law_goal","_law_on","_law_leans"]) (by decide +kernel) (by decide +kernel) rfl (by decide +kernel)) rfl (Ze4 (pvM 0)) (fun _ _ _ _=>(Zo0 (K:=K) (n:=5) rfl rfl (Zb9 (pgn 0 (ndS ["_law_rule","_law_wishes","_law_goal","_law_on","_law_leans"])) (Zb9 (pgn 1 (ndS ["_law_rule","_law_wishes","_law_goal","_law_on","_law_leans"])) (Zb9 (pgn 2 (ndS ["_law_rule","_law_wishes","_law_goal","_law_on","_law_leans"])) (Zb9 (pgn 3 (ndS ["_law_rule","_law_wishes","_law_goal","_law_on","_law_leans"])) (Zb9 (pgn 4 (ndS ["_law_rule","_law_wishes","_law_goal","_law_on","_law_leans"])) Zf9))))) rfl rfl)) (fun _ _ _ _=>(Zc0 (Za0 (pvM 0) (Za0 (Zg4 (Zn3 (K:=K) rfl) (by exact rfl) m_list Zf8 (Za0 (pvM 1) Za3)) (Za0 (pvM 2) (Za0 (pvM 3) (Za0 (Zg4 (Zn3 (K:=K) rfl) (by exact rfl) m_list Zf8 (Za0 (pvM 4) Za3)) Za3)))))))))),?_⟩;unfold tRet tLC;walk_at "1";have T:u.length=L.length:=zc I;refine⟨⟨_,SqL.of G⟩,fun g b=>?_⟩;refine Zt8 (xs:=u) (fun i d f=>Same H f/\f g=some (.lst d)/\Paired (IsLnN K g f) d (L.take i)) ⟨Za2 b _,Za1,.nil⟩ (fun i d f hi ⟨e,h,hy⟩=>⟨h,?_,SqL.of (e _ _ G)⟩) (fun i x d f hx ⟨e,h,hy⟩ C' hC'=>?_) (fun d f ⟨e,h,hy⟩=>?_)
 ·have:=zc hy
  rw[zq] at this;exact small1M (by omega)
 ·obtain⟨l,W,D⟩:=paired_get I hx
  obtain⟨p,O,U,M,C,o,rfl,h1,h2,h3,Z,Y,X⟩:=D.keep e;walk_at "1";refine⟨_,h1,rfl,_,_,rfl,_,_,rfl,_,_,rfl,_,_,rfl,_,_,rfl,rfl,(((Ze2 (i:=0) rfl).trans (Ze2 (i:=1) rfl)).trans (Ze2 (i:=2) rfl)).trans ((Ze2 (i:=3) rfl).trans (Ze2 (i:=4) rfl)),O,rfl,o,.inl (SqL.of h2),fun B m=>?_⟩;have t:=Za2 m (HO.lst o);refine⟨U,rfl,_,.inl (SqL.of (t _ _ X)),fun y j=>⟨by decide,fun R F=>?_⟩⟩;have v:=Za2 j (HO.lst (l.ls.map V.int));have r:=Za2 F (HO.tup [V.str l.x,V.ref B,M,C,V.ref y]);have S:=(t.trans v).trans r;refine hC' _ _ (S _ _ h) ⟨(e.trans S).write b,Za1,?_⟩;rw[Yx6 W];have c:=S _ _ h;refine Zc4 (Paired.mapP hy fun _ _ z=>(z.keep S).write c) (.cons (IsLnN.write c ?_) .nil);exact⟨R,B,y,M,C,o,rfl,.inl (.inl Za1),(v.trans r) _ _ Za1,Za8 S.keepT h3,Z.keep S.keepT,Y.keep S.keepT,r _ _ Za1,zar (Za9 h m),zar (Za9 (t _ _ h) j)⟩
 ·rw[T,zaa] at hy
  exact q g d _ e b h (Paired.mapP hy fun _ _ z=>z.ln)
abbrev nn6:List Str:=["_law_lines","_law_cell_here","_law_words_here","_law_at","_law_rule","_law_wishes","_law_goal","_law_on","_law_leans","_law_extra","_law_form","_law_some","_law_k"]
theorem sc_av0:FnScope nn6 ["_law_lines","_law_cell_here","_law_words_here"] (Za6 (top 64)):=scm (by decide +kernel)
@[irreducible] noncomputable def esA:List PySem.Expr:=match (Zc6 (top 64)).getD 4 (.Pass ⟨0,0,0,0⟩) with
 | .If _ (.Assign _ (.List es _) _::_) _ _=>es
 | _=>[]
@[irreducible] noncomputable def esB:List PySem.Expr:=match (Zc6 (top 64)).getD 4 (.Pass ⟨0,0,0,0⟩) with
 | .If _ [_,.Assign _ (.Subscript (.BinOp _ _ (.List es _) _) _ _) _] _ _=>es
 | _=>[]
noncomputable def Wu6:List Stmt:=(Zc6 (top 64)).take 4++[.If (.Compare (.Name "_law_form" ⟨366,7,366,16⟩) [.Eq] [.Constant (.int 0) 0 ⟨366,20,366,21⟩] ⟨366,7,366,21⟩) [.Assign [.Name "_law_some" ⟨367,8,367,17⟩] (.List esA ⟨367,20,367,118⟩) ⟨367,8,367,118⟩,.Assign [.Name "_law_rule" ⟨368,8,368,17⟩] (.Subscript (.BinOp (.Name "_law_some" ⟨368,21,368,30⟩) .Add (.List esB ⟨368,33,368,72⟩) ⟨368,21,368,72⟩) (.BinOp (.Call (.Name "_law_mix" ⟨368,74,368,82⟩) [.Name "_law_cell_here" ⟨368,83,368,97⟩,.Constant (.int 32) 0 ⟨368,99,368,101⟩] [] ⟨368,74,368,102⟩) .Mod (.Constant (.int 16) 0 ⟨368,105,368,107⟩) ⟨368,74,368,107⟩) ⟨368,20,368,108⟩) ⟨368,8,368,108⟩] [] ⟨366,4,368,108⟩]++(Zc6 (top 64)).drop 5
theorem Wd4:Zc6 (top 64)=Wu6:=by kernel_rfl
def Xq1:List (Str×Nat×Pos)->TA
 | []=>tNil
 |q::l=>Yf5 (tC (.str q.1)) (Xq1 l)
theorem Xh1:∀l:List (Str×Nat×Pos),PA X (l.map fun q=>Expr.Constant (.str q.1) q.2.1 q.2.2) (Xq1 l)
 | []=>Za3
 |q::l=>Za0 Zb6 (Xh1 l)
theorem Xg5 {es:List PySem.Expr}(l:List (Str×Nat×Pos))(h:es=l.map fun q=>Expr.Constant (.str q.1) q.2.1 q.2.2):PE X (.List es pos) (tLst (Xq1 l)):=by
 subst h;exact Zb7 (Xh1 l)
theorem Xq4 {n b:Nat}(s:Same H' H''){us:List V}{g:Tm}(h:SpL K n b H H' x wv gv ov lv R us ts g on ls)(hR:RIs x' R'):SpE K n b H H'' x' wv gv ov lv:=⟨R',us,ts,g,on,ls,{ h.keep s with r:=hR }⟩
theorem Xz2 (i:Int):∃y R,atI [V.str "wish",.str "low",.str "both",.str "first",.str "second",.str "then",.str "parts",.str "cases",.str "known",.str "curried",.str "either",.str "idle",.str "chain",.str "use",.str "cut",.str "Wish"] (i % 16)=some (V.str y)/\RIs y R:=by
 have b:=yr i (show (16:Int)≠0 by decide);have a:=yp i (show (0:Int) < 16 by decide);generalize i % 16=m at b a ⊢
 have h:m=0∨m=1∨m=2∨m=3∨m=4∨m=5∨m=6∨m=7∨m=8∨m=9∨m=10∨m=11∨m=12∨m=13∨m=14∨m=15:=by omega
 rcases h with rfl | rfl | rfl | rfl | rfl | rfl | rfl | rfl | rfl | rfl | rfl | rfl | rfl | rfl | rfl | rfl
 ·exact⟨_,some .wish,rfl,rfl⟩
 ·exact⟨_,some .low,rfl,rfl⟩
 ·exact⟨_,some .both,rfl,rfl⟩
 ·exact⟨_,some .first,rfl,rfl⟩
 ·exact⟨_,some .second,rfl,rfl⟩
 ·exact⟨_,some .thn,rfl,rfl⟩
 ·exact⟨_,some .parts,rfl,rfl⟩
 ·exact⟨_,some .cases,rfl,rfl⟩
 ·exact⟨_,some .known,rfl,rfl⟩
 ·exact⟨_,some .curried,rfl,rfl⟩
 ·exact⟨_,some .either,rfl,rfl⟩
 ·exact⟨_,some .idle,rfl,rfl⟩
 ·exact⟨_,some .chain,rfl,rfl⟩
 ·exact⟨_,some .use,rfl,rfl⟩
 ·exact⟨_,none,rfl,.head _⟩
 ·exact⟨_,none,rfl,.tail _ (.tail _ (.head _))⟩
set_option maxHeartbeats 20000000 in
theorem Wm9 {k:Nat}(F_av0:Df K mg "_law_spoiled" (top 64) pq8)(C__law_wish:Cl P w K mg base k "_law_wish" pq3 (sp_wish23 K))(C__law_mix:Cl P w K mg base k "_law_mix" pq0 (sp_mix))(C__law_once:Cl P w K mg base k "_law_once" ["_law_some"] (sp_onceL K))(m_len:mg "len"=none)(m_range:mg "range"=none)(m_reversed:mg "reversed"=none):Cl P w K mg base (k+1) "_law_spoiled" pq8 (sp_spoilL K):=by
 refine F_av0.okG sc_av0 fun fx cdv A outer s H vs Q E hr h Gx y1=>?_;obtain⟨a,wa,us,L,c,ws,n,rfl,ha,hL,j6,v2,l150,hn,hc,y5,hw,q⟩:=h;have lu:us.length=L.length:=zc hL;rw[Wd4] at y1
 refine y1 _ ⟨_,(Za4 (Zf7 (i:=3) sc_av0.nd rfl (Or.inr rfl) (Zb0 Zc2 (Zb0 Zc5 (pvM 1) Za5) (Zc1 Zb5 (by exact rfl) m_len Zc9 (Za0 (pvM 0) Za3))))
 (Za4 (Zs8 (pxlM (pvM 0) (pvM 3)) (Zo1 rfl (Zb9 (pgn 4 sc_av0.nd) (Zb9 (pgn 5 sc_av0.nd) (Zb9 (pgn 6 sc_av0.nd) (Zb9 (pgn 7 sc_av0.nd) (Zb9 (pgn 8 sc_av0.nd) Zf9)))))))
 (Za4 (pst 9 sc_av0.nd (Zb8 C__law_wish hr (Za0 (Zb8 C__law_mix hr (Za0 (pvM 1) (Za0 Za5 Za3))) (Za0 (pvM 2) Za3))))
 (Za4 (pst 10 sc_av0.nd (Zb0 Zc2 (pvM 1) Za5))
 (Za4 (Zc7 (ptcM (Zd1) (pvM 10) Za5)
  (Za4 (pst 11 sc_av0.nd (Xg5 [("wish",0,⟨367,21,367,27⟩),("low",0,⟨367,29,367,34⟩),("both",0,⟨367,36,367,42⟩),("first",0,⟨367,44,367,51⟩),("second",0,⟨367,53,367,61⟩),("then",0,⟨367,63,367,69⟩),("parts",0,⟨367,71,367,78⟩),("cases",0,⟨367,80,367,87⟩),("known",0,⟨367,89,367,96⟩),("curried",0,⟨367,98,367,107⟩),("either",0,⟨367,109,367,117⟩)] (by kernel_rfl)))
 (Za7 (pst 4 sc_av0.nd (pxlM (Zb0 Zf0 (pvM 11) (Xg5 [("idle",0,⟨368,34,368,40⟩),("chain",0,⟨368,42,368,49⟩),("use",0,⟨368,51,368,56⟩),("cut",0,⟨368,58,368,63⟩),("Wish",0,⟨368,65,368,71⟩)] (by kernel_rfl))) (Zb0 Zc2 (Zb8 C__law_mix hr (Za0 (pvM 1) (Za0 Za5 Za3))) Za5)))))
  Zb4)
 (Za4 (Zc7 (ptcM (Zd1) (pvM 10) Za5)
  (Za7 (pst 6 sc_av0.nd (pvM 9)))
  Zb4)
 (Za4 (Zc7 ((Zq6 (ptcM (Zd1) (pvM 10) Za5) (Zk9 (ptcM (Zw3 (Zg7 hr)) (pvM 5) (Zb7 Za3))))).pt
  (Za4 (pst 12 sc_av0.nd (Zb0 Zc2 (Zb8 C__law_mix hr (Za0 (pvM 1) (Za0 Za5 Za3))) (Zc1 Zb5 (by exact rfl) m_len Zc9 (Za0 (pvM 5) Za3))))
 (Za7 (pst 5 sc_av0.nd (Zb0 Zf0 (Ze8 Zi3 (pvM 5) Zg3 (Zg2 (pvM 12))) (Ze8 Zi3 (pvM 5) (Zg2 (Zb0 Zd2 (pvM 12) Za5)) Zg3)))))
  Zb4)
 (Za4 (Zc7 (ptcM (Zd1) (pvM 10) Za5)
  (Za7 (Zy1 (i:=5) sc_av0.nd rfl (Or.inl rfl) (blk0 (N':=["_law_wish_here"]) (by decide +kernel) (by decide +kernel) rfl (by decide +kernel)) rfl (Xv6 rfl m_reversed (Za0 (pvM 5) Za3)) (fun _ _ _ _=>(pgn 0 (ndS ["_law_wish_here"]))) (fun _ _ _ _=>(pvM 0)) rfl))
  Zb4)
 (Za4 (Zc7 ((Zq6 (ptcM (Zd1) (pvM 10) Za5) (Zk9 (ptcM (Zw3 (Zg7 hr)) (pvM 5) (Zb7 Za3))))).pt
  (Za4 (pst 12 sc_av0.nd (Zb0 Zc2 (Zb8 C__law_mix hr (Za0 (pvM 1) (Za0 Za5 Za3))) (Zc1 Zb5 (by exact rfl) m_len Zc9 (Za0 (pvM 5) Za3))))
 (Za7 (pst 5 sc_av0.nd (Zb0 Zf0 (Zb0 Zf0 (Ze8 Zi3 (pvM 5) Zg3 (Zg2 (pvM 12))) (Zb7 (Za0 (pxlM (pvM 5) (pvM 12)) Za3))) (Ze8 Zi3 (pvM 5) (Zg2 (pvM 12)) Zg3)))))
  Zb4)
 (Za4 (Zc7 (ptcM (Zd1) (pvM 10) Za5)
  (Za7 (pst 7 sc_av0.nd (pxlM (Zb0 Zf0 (Zb7 (Za0 Ze3 (Za0 (pvM 9) Za3))) (pvM 5)) (Zb0 Zc2 (Zb8 C__law_mix hr (Za0 (pvM 1) (Za0 Za5 Za3))) (Zb0 Zd2 Za5 (Zc1 Zb5 (by exact rfl) m_len Zc9 (Za0 (pvM 5) Za3)))))))
  Zb4)
 (Za4 (Zc7 ((Zq6 (ptcM (Zd1) (pvM 10) Za5) (Zk9 (ptcM (Zw3 (Zg7 hr)) (pvM 8) (Zb7 Za3))))).pt
  (Za7 (pst 8 sc_av0.nd (Zb0 Zf0 (Zb7 (Za0 (pvM 3) Za3)) (Ze8 Zi3 (pvM 8) (Zg2 Za5) Zg3))))
  Zb4)
 (Za4 (Zc7 ((Zq6 (ptcM (Zd1) (pvM 10) Za5) (Zk9 (ptcM (Zw3 (Zg7 hr)) (pvM 8) (Zb7 Za3))))).pt
  (Za7 (pst 8 sc_av0.nd (Zb0 Zf0 (Ze8 Zi3 (pvM 8) Zg3 (Zg2 (Yq0 Zz6 Za5))) (Zb7 (Za0 (Zb0 Zl1 (Zb0 Zl1 Za5 Za5) (Zb0 Zc2 (Zb8 C__law_mix hr (Za0 (pvM 1) (Za0 Za5 Za3))) Za5)) Za3)))))
  Zb4)
 (Za4 (Zc7 (ptcM (Zd1) (pvM 10) Za5)
  (Za7 (pst 8 sc_av0.nd (Zb0 Zf0 (pvM 8) (Zb7 (Za0 (Zb0 Zc2 (Zb8 C__law_mix hr (Za0 (pvM 1) (Za0 Za5 Za3))) (Zb0 Zd2 (pvM 3) Za5)) Za3)))))
  Zb4)
 (Za4 (Zc7 (ptcM (Zd1) (pvM 10) Za5)
  (Za7 (pst 8 sc_av0.nd (Ze8 Zi3 (pvM 8) Zg3 (Zg2 (Yq0 Zz6 Za5)))))
  Zb4)
 (Za4 (Zc7 (ptcM (Zd1) (pvM 10) Za5)
  (Za7 (Zy1 (i:=8) sc_av0.nd rfl (Or.inl rfl) (blkD (N':=["_law_k","_law_cell_here","_law_at"]) (nt:=1) (ci:=[1,3]) nn6 (Za6 (top 64))) rfl (Zj1 rfl m_range (Za0 (Zc1 Zb5 (by exact rfl) m_len Zc9 (Za0 (pvM 8) Za3)) Za3)) (fun _ _ _ _=>(pgn 0 (ndS ["_law_k","_law_cell_here","_law_at"]))) (fun _ _ _ _=>(Zb0 Zc2 (Zb8 C__law_mix hr (Za0 (pvM 1) (Za0 (Zb0 Zd2 Za5 (pvM 0)) Za3))) (Zb0 Zd2 (pvM 2) Za5))) rfl))
  Zb4)
 (Za4 (Zc7 (ptcM (Zd1) (pvM 10) Za5)
  (Za7 (pst 5 sc_av0.nd (Zb8 C__law_once hr (Za0 (Zb0 Zf0 (pvM 5) (Zb7 (Za0 (pvM 9) Za3))) Za3))))
  Zb4)
 (Za7 (Zb2 (Zb0 Zf0 (Zb0 Zf0 (Ze8 Zi3 (pvM 0) Zg3 (Zg2 (pvM 3))) (Zb7 (Za0 (Zc0 (Za0 (pvM 4) (Za0 (pvM 5) (Za0 (pvM 6) (Za0 (pvM 7) (Za0 (pvM 8) Za3)))))) Za3))) (Ze8 Zi3 (pvM 0) (Zg2 (Zb0 Zd2 (pvM 3) Za5)) Zg3)))))))))))))))))))),?_⟩
 have hpos:0 < us.length:=by rw[lu];cases L with
  |nil=>exact absurd rfl v2
  |cons _ _=>exact ycq _
 obtain⟨u,v7⟩:=Int.eq_ofNat_of_zero_le (yr (c / 12) (show ((us.length:Nat):Int)≠0 by omega));have hat2:=yp (c / 12) (show (0:Int) < ((us.length:Nat):Int) by omega)
 have j1:u < us.length:=by omega
 obtain⟨l0,v5,y6⟩:=paired_get hL (za j1);have q5:=j6 l0 (yc v5);obtain⟨p0,q7,q9,j0,q8,y3,y9,g1,g2,g3,g4,g5,g6⟩:=y6;have z9:SpL K n 0 H H l0.x q7 j0 q8 q9 l0.R y3 l0.ws l0.g l0.on l0.ls:=⟨Same.refl _,q5.ok.r,g2,g3,q5.ok.w,q5.wl,g4,q5.ok.g,q5.ok.gp,g5,g6,q5.ll⟩;refine sqk (fun C=>C [some (.ref a),some (.int c),some (.ref wa),some (.int (u:Nat)),none,none,none,none,none,none,none,none,none] H) (fun C hC=>?_) ?_
 ·walk_at "1"
  refine⟨⟨by decide,by decide⟩,us,.inl (SqL.of ha),by omega,?_⟩;rw[v7];exact hC
 refine sqk (fun C=>C [some (.ref a),some (.int c),some (.ref wa),some (.int (u:Nat)),some (.str l0.x),some (.ref q7),some j0,some q8,some (.ref q9),none,none,none,none] H) (fun C hC=>?_) ?_
 ·walk_at "1"
  exact⟨us,SqL.of ha,_,Zd3 (za j1),p0,y9,_,g1,rfl,_,_,rfl,_,_,rfl,_,_,rfl,_,_,rfl,_,_,rfl,rfl,hC⟩
 refine sqk (fun C=>∀M ev ex,Same H M->IsT K M ev ex->ex.ok->ex.parts<=11->C [some (.ref a),some (.int c),some (.ref wa),some (.int (u:Nat)),some (.str l0.x),some (.ref q7),some j0,some q8,some (.ref q9),some ev,none,none,none] M) (fun C hC=>?_) fun H3 ev ex e3 q2 j3 exp=>?_
 ·walk_at "1"
  exact⟨c,31,rfl,by decide,by decide,_,wa,ws,rfl,Zk1 _ _,y5,hw,fun v M t e ht hk hp=>hC _ v t e ht hk hp⟩
 refine sqh (fun C=>C [some (.ref a),some (.int c),some (.ref wa),some (.int (u:Nat)),some (.str l0.x),some (.ref q7),some j0,some q8,some (.ref q9),some ev,some (.int (c % 12)),none,none] H3) (fun C hC=>?_) fun Ux j8=>?_
 ·walk_at "1"
  exact⟨by decide,hC⟩
 obtain⟨m,f,x,B,J,G,D,e4,U,es⟩:∃(m f:Option V) (x:Str) (B:Addr) (J G:V) (D:Addr),Same H3 H3/\SpE K n 0 H H3 x B J G D/\[some (.ref a),some (.int c),some (.ref wa),some (.int (u:Nat)),some (.str l0.x),some (.ref q7),some j0,some q8,some (.ref q9),some ev,some (.int (c % 12)),none,none]=[some (.ref a),some (.int c),some (.ref wa),some (.int (u:Nat)),some (.str x),some (.ref B),some J,some G,some (.ref D),some ev,some (.int (c % 12)),m,f]:=⟨none,none,_,_,_,_,_,Same.refl _,⟨_,_,_,_,_,_,z9.keep e3⟩,rfl⟩;refine j8 _ _ ?_;rw[es];clear es
 let PC1:(St->Hp->Prop)->Prop:=fun C=>∀M m f x B J G D,Same H3 M->SpE K n 0 H M x B J G D->C [some (.ref a),some (.int c),some (.ref wa),some (.int (u:Nat)),some (.str x),some (.ref B),some J,some G,some (.ref D),some ev,some (.int (c % 12)),m,f] M
 refine sqk PC1 (fun C F=>?_) fun H5 m f x B J G D e5 U=>?_
 ·have O:=F _ m f x B J G D e4 U
  obtain⟨R,b,N,g,on,ls,I⟩:=U;have Y:=q2.keep e4.keepT;have q1:b.length=N.length:=zc I.p;have bw:=I.wl;have bl:=I.ll;walk_at "1";refine ite2 (fun _=>?_) (fun _=>O);simp only[Xq1];walk_at "1";refine⟨by decide,fun p hp=>⟨by decide,fun p1 X=>⟨_,(Za2 X _) _ _ Za1,_,Za1,by decide,fun p2 q0=>?_⟩⟩⟩;refine⟨c,32,rfl,by decide,by decide,_,rfl,by decide,_,SqL.of Za1,?_⟩;obtain⟨y,R',hy,hR⟩:=Xz2 (mix c 32);exact⟨_,hy,F _ _ _ _ _ _ _ _ (e4.trans ((Za2 hp _).trans ((Za2 X _).trans (Za2 q0 _)))) (Xq4 ((Za2 hp _).trans ((Za2 X _).trans (Za2 q0 _))) I hR)⟩
 refine sqk PC1 (fun C F=>?_) fun H6 m f x B J G D e6 U=>?_
 ·have O:=F _ m f x B J G D e5 U
  obtain⟨R,b,N,g,on,ls,I⟩:=U;have Y:=q2.keep e5.keepT;have q1:b.length=N.length:=zc I.p;have bw:=I.wl;have bl:=I.ll;walk_at "1";exact ite2 (fun _=>F _ _ _ _ _ _ _ _ e5 ⟨R,b,N,ex,on,ls,{ I with t:=Y,go:=j3,gp:=by omega }⟩) (fun _=>O)
 refine sqk PC1 (fun C F=>?_) fun H7 m f x B J G D e7 U=>?_
 ·have O:=F _ m f x B J G D e6 U
  obtain⟨R,b,N,g,on,ls,I⟩:=U;have Y:=q2.keep e6.keepT;have q1:b.length=N.length:=zc I.p;have bw:=I.wl;have bl:=I.ll;walk_at "3";refine ite2 (fun _=>⟨by decide,fun p hp=>?_⟩) (fun _=>?_)
  rotate_left
  ·rw[if_neg zg];exact O
  have sp:=Za2 hp (HO.lst []);have T:=I.keep sp;refine⟨.list (N.map Tm.data),?_,.list [],?_,Zu7 fun t ht=>(I.w t ht).1,rfl,zi (zbe _ _) (by decide),?_⟩
  ·rw[Dn];exact⟨B,b,rfl,SqL.of T.h,Yd2 T.p⟩
  ·rw[Dn];exact⟨p,[],rfl,SqL.of Za1,by rw[DnAll]⟩
  have eS:=e6.trans sp;generalize upd H6 p (HO.lst [])=Hb at sp T eS ⊢;rw[Yw2]
  cases hz:N.isEmpty with
  |true =>
   rw[if_neg (by decide)];exact F _ _ _ _ _ _ _ _ eS ⟨R,b,N,g,on,ls,T⟩
  |false =>
  rw[if_pos (by rfl)];walk_at "1"
  have h0:0 < b.length:=by rw[q1];cases N with
   |nil=>cases hz
   |cons _ _=>exact ycq _
  obtain⟨W,j7⟩:=Int.eq_ofNat_of_zero_le (yr (mix c 33) (show ((b.length:Nat):Int)≠0 by omega));have v6:=yp (mix c 33) (show (0:Int) < ((b.length:Nat):Int) by omega)
  have j2:W < b.length:=by omega
  refine⟨c,33,rfl,by decide,by decide,b,.inl (SqL.of T.h),_,rfl,by omega,b,SqL.of T.h,?_⟩;rw[j7,Zy9 (by omega)];intro p1 X;have Z:=Za2 X (HO.lst (b.take W));refine⟨b,SqL.of (Z _ _ T.h),?_⟩;rw[Yw5 j2];intro p2 q0;have s2:=Za2 q0 (HO.lst (b.drop (W+1)));refine⟨b.take W,s2 _ _ Za1,b.drop (W+1),Za1,zk (Zb1 (by rw[zq,yae];omega)),fun p3 q3=>?_⟩;have s3:=Za2 q3 (HO.lst (b.take W++b.drop (W+1)));have S:=(Z.trans s2).trans s3;have I2:=T.keep S;exact F _ _ _ _ _ _ _ _ (eS.trans S) (T.wish S (us':=b.take W++b.drop (W+1)) (ts':=N.take W++N.drop (W+1)) Za1 (Zc4 (Zi6 I2.p W) (Zk6 (W+1) I2.p)) (fun t ht=>I.w t ((yd.mp ht).elim zbf ybf)) (by rw[zf,zq,yae];omega) (yo _))
 refine sqk PC1 (fun C F=>?_) fun H8 m f x B J G D e8 U=>?_
 ·have O:=F _ m f x B J G D e7 U
  obtain⟨R,b,N,g,on,ls,I⟩:=U;have Y:=q2.keep e7.keepT;have q1:b.length=N.length:=zc I.p;have bw:=I.wl;have bl:=I.ll;walk_at "1";refine ite2 (fun _=>?_) (fun _=>O);unfold tLC;walk_at "1";refine⟨b,SqL.of I.h,fun z8 q4=>?_⟩;refine Wb4 (xs:=b) (fun i ys M=>Same H7 M/\M z8=some (.lst ys)/\ys=b.reverse.take i) ⟨Za2 q4 _,Za1,rfl⟩ (fun i ys M hi ⟨e,h,hy⟩=>⟨h,?_,SqL.of (e _ _ I.h)⟩) (fun i x ys M hi hx ⟨e,h,hy⟩ C' hC'=>?_) (fun ys M ⟨e,h,hy⟩=>?_)
  ·subst hy
   rw[zq,zbk];exact Zb1 (by omega)
  ·walk_at "1"
   refine⟨Zz5,hC' _ _ h ⟨e.write q4,Za1,?_⟩⟩;rw[List.take_add_one,List.getElem?_reverse hi,hx,hy];rfl
  ·rw[<- zbk,zaa] at hy
   subst hy;exact F _ _ _ _ _ _ _ _ (e7.trans e) (I.wish e (us':=b.reverse) (ts':=N.reverse) h (Yd6 (I.keep e).p) (fun t ht=>I.w t (List.mem_reverse.mp ht)) (by rw[zbk];omega) (yo _))
 refine sqk (fun C=>∀M m f x B J G D,Same H3 M->SpE K n 1 H M x B J G D->C [some (.ref a),some (.int c),some (.ref wa),some (.int (u:Nat)),some (.str x),some (.ref B),some J,some G,some (.ref D),some ev,some (.int (c % 12)),m,f] M) (fun C F=>?_) fun H9 m f x B J G D e9 U=>?_
 ·have O:=F _ m f x B J G D e8 U.up
  obtain⟨R,b,N,g,on,ls,I⟩:=U;have Y:=q2.keep e8.keepT;have q1:b.length=N.length:=zc I.p;have bw:=I.wl;have bl:=I.ll;walk_at "3";refine ite2 (fun _=>⟨by decide,fun p hp=>?_⟩) (fun _=>?_)
  rotate_left
  ·rw[if_neg zg];exact O
  have sp:=Za2 hp (HO.lst []);have T:=I.keep sp;refine⟨.list (N.map Tm.data),?_,.list [],?_,Zu7 fun t ht=>(I.w t ht).1,rfl,zi (zbe _ _) (by decide),?_⟩
  ·rw[Dn];exact⟨B,b,rfl,SqL.of T.h,Yd2 T.p⟩
  ·rw[Dn];exact⟨p,[],rfl,SqL.of Za1,by rw[DnAll]⟩
  have eS:=e8.trans sp;generalize upd H8 p (HO.lst [])=Hb at sp T eS ⊢;rw[Yw2]
  cases hz:N.isEmpty with
  |true =>
   rw[if_neg (by decide)];exact F _ _ _ _ _ _ _ _ eS ⟨R,b,N,g,on,ls,T.up⟩
  |false =>
  rw[if_pos (by rfl)];walk_at "1"
  have h0:0 < b.length:=by rw[q1];cases N with
   |nil=>cases hz
   |cons _ _=>exact ycq _
  obtain⟨W,j7⟩:=Int.eq_ofNat_of_zero_le (yr (mix c 33) (show ((b.length:Nat):Int)≠0 by omega));have v6:=yp (mix c 33) (show (0:Int) < ((b.length:Nat):Int) by omega)
  have j2:W < b.length:=by omega
  refine⟨c,33,rfl,by decide,by decide,b,.inl (SqL.of T.h),_,rfl,by omega,b,SqL.of T.h,?_⟩;rw[j7,Zy9 (by omega)];intro p1 X;have Z:=Za2 X (HO.lst (b.take W));refine⟨b,SqL.of (Z _ _ T.h),b[W],Wr2 j2,by decide,fun p2 q0=>?_⟩;have s2:=Za2 q0 (HO.lst [b[W]]);refine⟨b.take W,s2 _ _ Za1,[b[W]],Za1,zk (Zb1 (by rw[zq,zd];omega)),fun p3 q3=>?_⟩;have s3:=Za2 q3 (HO.lst (b.take W++[b[W]]));refine⟨b,SqL.of (((Z.trans s2).trans s3) _ _ T.h),?_⟩;rw[Yc2 (by omega)];intro p4 j5;have s4:=Za2 j5 (HO.lst (b.drop W));refine⟨b.take W++[b[W]],s4 _ _ Za1,b.drop W,Za1,zk (Zb1 (by rw[zf,zq,yae,zd];omega)),fun p5 j4=>?_⟩;have s5:=Za2 j4 (HO.lst (b.take W++[b[W]]++b.drop W));have S:=(((Z.trans s2).trans s3).trans s4).trans s5;have I2:=T.keep S;obtain⟨tk,v0,y7⟩:=paired_get I2.p (za j2);exact F _ _ _ _ _ _ _ _ (eS.trans S) (T.wish S (us':=b.take W++[b[W]]++b.drop W) (ts':=N.take W++[tk]++N.drop W) Za1 (Zc4 (Zc4 (Zi6 I2.p W) (.cons y7 .nil)) (Zk6 W I2.p)) (fun t ht=>I.w t ((yd.mp ht).elim (fun z=>(yd.mp z).elim zbf fun y=>by rw[zb.mp y];exact yc v0) ybf)) (by rw[zf,zf,zq,yae,zd];omega) (ycp _))
 refine sqk (fun C=>∀M m f x B J G D,Same H3 M->SpE K n 1 H M x B J G D->C [some (.ref a),some (.int c),some (.ref wa),some (.int (u:Nat)),some (.str x),some (.ref B),some J,some G,some (.ref D),some ev,some (.int (c % 12)),m,f] M) (fun C F=>?_) fun H10 m f x B J G D z7 U=>?_
 ·have O:=F _ m f x B J G D e9 U
  obtain⟨R,b,N,g,on,ls,I⟩:=U;have Y:=q2.keep e9.keepT;have q1:b.length=N.length:=zc I.p;have bw:=I.wl;have bl:=I.ll;walk_at "1";refine ite2 (fun _=>?_) (fun _=>O);refine⟨by decide,fun p hp=>?_⟩;have Z:=Za2 hp (HO.lst [V.non,ev]);refine⟨[V.non,ev],Za1,b,Z _ _ I.h,zk (Zb1 (by show 2+b.length<=1000;omega)),fun p1 X=>?_⟩;have s2:=Za2 X (HO.lst ([V.non,ev]++b));have S:=Z.trans s2;have T:=I.keep S;refine⟨c,34,rfl,by decide,by decide,b,.inl (SqL.of T.h),_,rfl,by omega,[V.non,ev]++b,SqL.of Za1,?_⟩;have m0:=yr (mix c 34) (show (2:Int)+((b.length:Nat):Int)≠0 by omega);have m1:=yp (mix c 34) (show (0:Int) < 2+((b.length:Nat):Int) by omega);obtain⟨v,hv,y2⟩:=Zo8 (xs:=[V.non,ev]++b) m0 (by rw[zf];show _ < ((2+b.length:Nat):Int);omega);refine⟨v,y2,?_⟩
  have ho:∃on',OnX K (upd (upd H9 p (HO.lst [V.non,ev])) p1 (HO.lst ([V.non,ev]++b))) v on':=by
   rcases yd.mp hv with z | z
   ·rcases yk.mp z with z | z
    ·exact⟨none,z⟩
    ·rw[zb.mp z]
     exact⟨some ex,Y.keep S.keepT,j3,by omega⟩
   ·obtain⟨j,hj,rfl⟩:=zw z
    obtain⟨tj,v1,y8⟩:=paired_get T.p (za hj);have:=I.w tj (yc v1);exact⟨some tj,y8,this.1,this.2⟩
  obtain⟨on',ho⟩:=ho;exact F _ _ _ _ _ _ _ _ (e9.trans S) ⟨R,b,N,g,on',ls,{ T with o:=ho }⟩
 refine sqk (fun C=>∀M m f x B J G D,Same H3 M->SpE K n 1 H M x B J G D->C [some (.ref a),some (.int c),some (.ref wa),some (.int (u:Nat)),some (.str x),some (.ref B),some J,some G,some (.ref D),some ev,some (.int (c % 12)),m,f] M) (fun C F=>?_) fun H11 m f x B J G D z6 U=>?_
 ·have O:=F _ m f x B J G D z7 U
  obtain⟨R,b,N,g,on,ls,I⟩:=U;have Y:=q2.keep z7.keepT;have q1:b.length=N.length:=zc I.p;have bw:=I.wl;have bl:=I.ll;walk_at "3";refine ite2 (fun _=>⟨by decide,fun p hp=>?_⟩) (fun _=>?_)
  rotate_left
  ·rw[if_neg zg];exact O
  have sp:=Za2 hp (HO.lst []);have T:=I.keep sp;refine⟨.list (ls.map zdn),?_,.list [],?_,Zn2 fun d hd=>(by obtain⟨n,_,rfl⟩:=zah.mp hd;rfl),rfl,zi (zbe _ _) (by decide),?_⟩
  ·rw[Dn];exact⟨D,_,rfl,SqL.of T.l,Yh7 ls⟩
  ·rw[Dn];exact⟨p,[],rfl,SqL.of Za1,by rw[DnAll]⟩
  have eS:=z7.trans sp;generalize upd H10 p (HO.lst [])=Hb at sp T eS ⊢;rw[Yw1]
  cases hz:ls.isEmpty with
  |true =>
   rw[if_neg (by decide)];exact F _ _ _ _ _ _ _ _ eS ⟨R,b,N,g,on,ls,T⟩
  |false =>
  rw[if_pos (by rfl)];walk_at "1"
  have q6:ls≠[]:=fun z=>by rw[z] at hz;cases hz
  have l1:1<=ls.length:=by cases ls with
   |nil=>exact absurd rfl q6
   |cons _ _=>exact ycq _
  obtain⟨ls',v3,lls⟩:=Yi5 ls q6;refine⟨by decide,fun p1 X=>?_⟩;have Z:=Za2 X (HO.lst [V.int (u:Nat)]);refine⟨_,SqL.of (Z _ _ T.l),?_⟩;rw[v3];intro p2 q0;have s2:=Za2 q0 (HO.lst (ls'.map V.int));refine⟨_,s2 _ _ Za1,_,Za1,zk (Zb1 (by rw[yh,zd];omega)),fun p3 q3=>?_⟩;have s3:=Za2 q3 (HO.lst ([V.int (u:Nat)]++ls'.map V.int));have S:=(Z.trans s2).trans s3;exact F _ _ _ _ _ _ _ _ (eS.trans S) (T.lean S (ls':=(u:Int)::ls') Za1 (by rw[yai];omega) (yo _))
 refine sqk (fun C=>∀M m f x B J G D,Same H3 M->SpE K n 1 H M x B J G D->C [some (.ref a),some (.int c),some (.ref wa),some (.int (u:Nat)),some (.str x),some (.ref B),some J,some G,some (.ref D),some ev,some (.int (c % 12)),m,f] M) (fun C F=>?_) fun H12 m f x B J G D z5 U=>?_
 ·have O:=F _ m f x B J G D z6 U
  obtain⟨R,b,N,g,on,ls,I⟩:=U;have Y:=q2.keep z6.keepT;have q1:b.length=N.length:=zc I.p;have bw:=I.wl;have bl:=I.ll;walk_at "3";refine ite2 (fun _=>⟨by decide,fun p hp=>?_⟩) (fun _=>?_)
  rotate_left
  ·rw[if_neg zg];exact O
  have sp:=Za2 hp (HO.lst []);have T:=I.keep sp;refine⟨.list (ls.map zdn),?_,.list [],?_,Zn2 fun d hd=>(by obtain⟨n,_,rfl⟩:=zah.mp hd;rfl),rfl,zi (zbe _ _) (by decide),?_⟩
  ·rw[Dn];exact⟨D,_,rfl,SqL.of T.l,Yh7 ls⟩
  ·rw[Dn];exact⟨p,[],rfl,SqL.of Za1,by rw[DnAll]⟩
  have eS:=z6.trans sp;generalize upd H11 p (HO.lst [])=Hb at sp T eS ⊢;rw[Yw1]
  cases hz:ls.isEmpty with
  |true =>
   rw[if_neg (by decide)];exact F _ _ _ _ _ _ _ _ eS ⟨R,b,N,g,on,ls,T⟩
  |false =>
  rw[if_pos (by rfl)];walk_at "1"
  have q6:ls≠[]:=fun z=>by rw[z] at hz;cases hz
  have l1:1<=ls.length:=by cases ls with
   |nil=>exact absurd rfl q6
   |cons _ _=>exact ycq _
  refine⟨_,SqL.of T.l,?_⟩;rw[Zt9];intro p1 X;have Z:=Za2 X (HO.lst (ls.dropLast.map V.int));refine⟨c,35,rfl,by decide,by decide,_,rfl,by decide,by decide,fun p2 q0=>?_⟩;have s2:=Za2 q0 (HO.lst [V.int (0 - 1 - mix c 35 % 3)]);refine⟨_,s2 _ _ Za1,_,Za1,zk (Zb1 (by rw[yh,zcj,zd];omega)),fun p3 q3=>?_⟩;have s3:=Za2 q3 (HO.lst (ls.dropLast.map V.int++[V.int (0 - 1 - mix c 35 % 3)]));have S:=(Z.trans s2).trans s3;exact F _ _ _ _ _ _ _ _ (eS.trans S) (T.lean S (ls':=ls.dropLast++[0 - 1 - mix c 35 % 3]) (by rw[zac];exact Za1) (by rw[zf,zcj,zd];omega) (yo _))
 refine sqk (fun C=>∀M m f x B J G D,Same H3 M->SpE K n 2 H M x B J G D->C [some (.ref a),some (.int c),some (.ref wa),some (.int (u:Nat)),some (.str x),some (.ref B),some J,some G,some (.ref D),some ev,some (.int (c % 12)),m,f] M) (fun C F=>?_) fun H13 m f x B J G D z4 U=>?_
 ·have O:=F _ m f x B J G D z5 U.up
  obtain⟨R,b,N,g,on,ls,I⟩:=U;have Y:=q2.keep z5.keepT;have q1:b.length=N.length:=zc I.p;have bw:=I.wl;have bl:=I.ll;walk_at "1";refine ite2 (fun _=>?_) (fun _=>O);refine⟨c,35,rfl,by decide,by decide,_,rfl,by omega,by decide,fun p hp=>?_⟩;have Z:=Za2 hp (HO.lst [V.int (mix c 35 % ((u:Int)+1))]);refine⟨_,Z _ _ I.l,_,Za1,zk (Zb1 (by rw[yh,zd];omega)),fun p2 q0=>?_⟩;have s2:=Za2 q0 (HO.lst (ls.map V.int++[V.int (mix c 35 % ((u:Int)+1))]));have S:=Z.trans s2;exact F _ _ _ _ _ _ _ _ (z5.trans S) (I.lean S (ls':=ls++[mix c 35 % ((u:Int)+1)]) (by rw[zac];exact Za1) (by rw[zf,zd];omega) (ycp _))
 refine sqk (fun C=>∀M m f x B J G D,Same H3 M->SpE K n 2 H M x B J G D->C [some (.ref a),some (.int c),some (.ref wa),some (.int (u:Nat)),some (.str x),some (.ref B),some J,some G,some (.ref D),some ev,some (.int (c % 12)),m,f] M) (fun C F=>?_) fun v9 m f x B J G D z0 U=>?_
 ·have O:=F _ m f x B J G D z4 U
  obtain⟨R,b,N,g,on,ls,I⟩:=U;have Y:=q2.keep z4.keepT;have q1:b.length=N.length:=zc I.p;have bw:=I.wl;have bl:=I.ll;walk_at "1";refine ite2 (fun _=>?_) (fun _=>O);refine⟨_,SqL.of I.l,?_⟩;rw[Zt9];intro p1 X;have Z:=Za2 X (HO.lst (ls.dropLast.map V.int));exact F _ _ _ _ _ _ _ _ (z4.trans Z) (I.lean Z (ls':=ls.dropLast) Za1 (by rw[zcj];omega) (yo _))
 refine sqk (fun C=>∀M m f x B J G D,Same H3 M->SpE K n 2 H M x B J G D->C [some (.ref a),some (.int c),some (.ref wa),some (.int (u:Nat)),some (.str x),some (.ref B),some J,some G,some (.ref D),some ev,some (.int (c % 12)),m,f] M) (fun C F=>?_) fun H15 m f x B J G D j9 U=>?_
 ·have O:=F _ m f x B J G D z0 U
  obtain⟨R,b,N,g,on,ls,I⟩:=U;have Y:=q2.keep z0.keepT;have q1:b.length=N.length:=zc I.p;have bw:=I.wl;have bl:=I.ll;walk_at "1";refine ite2 (fun _=>?_) (fun _=>O);unfold tLC;walk_at "1";refine⟨_,.inl (SqL.of I.l),by rw[yh];omega,by rw[yh];omega,fun z8 q4=>?_⟩;refine Yl2 (fun i ys M=>Same v9 M/\M z8=some (.lst ys)/\∃ls':List Int,ys=ls'.map V.int/\ls'.length=i) ⟨Za2 q4 _,Za1,[],rfl,rfl⟩ (fun i ys M hi ⟨e,h,ls',hy,hl'⟩=>⟨h,?_⟩) (fun i ys M hi ⟨e,h,ls',hy,hl'⟩ C' hC'=>?_) (fun ys M ⟨e,h,ls',hy,hl'⟩=>?_)
  ·subst hy
   rw[yh] at hi ⊢;exact small1M (by omega)
  ·rw[yh] at hi
   walk_at "1";refine⟨Ze2 (i:=0) rfl,c,_,rfl,by omega,by omega,_,rfl,by omega,hC' _ _ h ⟨e.write q4,Za1,ls'++[mix c (36+(0+(i:Int))) % ((u:Int)+2)],by rw[hy,zac];rfl,by rw[zf,zd,hl']⟩⟩
  ·subst hy
   rw[yh] at hl';exact F _ _ _ _ _ _ _ _ (z0.trans e) (I.lean e (ls':=ls') h (by omega) (yo _))
 refine sqh (fun C=>∀M m f x B J G D,Same H3 M->SpE K n 3 H M x B J G D->C [some (.ref a),some (.int c),some (.ref wa),some (.int (u:Nat)),some (.str x),some (.ref B),some J,some G,some (.ref D),some ev,some (.int (c % 12)),m,f] M) (fun C F=>?_) fun Ux j8 v8 m f x B J G D e16 U=>?_
 ·have O:=F _ m f x B J G D j9 U.up
  obtain⟨R,b,N,g,on,ls,I⟩:=U;have Y:=q2.keep j9.keepT;have q1:b.length=N.length:=zc I.p;have bw:=I.wl;have bl:=I.ll;walk_at "1";refine ite2 (fun _=>?_) (fun _=>O);refine⟨by decide,fun p hp=>?_⟩;have Z:=Za2 hp (HO.lst [ev]);refine⟨_,Z _ _ I.h,_,Za1,zk (Zb1 (by rw[zd];omega)),fun p1 X=>?_⟩;have s2:=Za2 X (HO.lst (b++[ev]));have S:=Z.trans s2;have T:=I.keep S;refine⟨p1,b++[ev],N++[ex],rfl,Za1,Zc4 T.p (.cons (Y.keep S.keepT) .nil),fun t ht=>(yd.mp ht).elim (I.w t) (fun z=>by rw[zb.mp z];exact⟨j3,by omega⟩),by rw[zf,zd];omega,fun r M e fr hW=>?_⟩;obtain⟨⟨zs,z1,z2⟩,z3⟩:=hW;refine F _ _ _ _ _ _ _ _ ((j9.trans S).trans e) (T.wish e (us':=zs) (ts':=norm (N++[ex])) z1 z2 (fun t ht=>(yd.mp (mem_norm.mp ht)).elim (I.w t) (fun z=>by rw[zb.mp z];exact⟨j3,by omega⟩)) (by have:=Yh0 (l:=N++[ex]);rw[zf,zd] at this;omega) (ycp _))
 obtain⟨R,b,N,g,on,ls,I⟩:=U;have bw:=I.wl;have bl:=I.ll;refine j8 _ _ ?_;walk_at "1";refine⟨us,SqL.of (I.e _ _ ha),?_⟩;rw[Zy9 (by omega)];intro p hp;have Z:=Za2 hp (HO.lst (us.take u));refine⟨by decide,fun p1 X=>⟨by decide,fun p2 q0=>?_⟩⟩;have s2:=Za2 X (HO.tup [V.str x,V.ref B,J,G,V.ref D]);have s3:=Za2 q0 (HO.lst [V.ref p1]);refine⟨us.take u,(s2.trans s3) _ _ Za1,[.ref p1],Za1,zk (Zb1 (by rw[zq,zd];omega)),fun p3 q3=>?_⟩;have s4:=Za2 q3 (HO.lst (us.take u++[V.ref p1]));have S4:=((Z.trans s2).trans s3).trans s4;refine⟨us,SqL.of ((I.e.trans S4) _ _ ha),?_⟩;rw[Yw5 j1];intro p4 j5;have s5:=Za2 j5 (HO.lst (us.drop (u+1)));refine⟨us.take u++[.ref p1],s5 _ _ Za1,us.drop (u+1),Za1,zk (Zb1 (by rw[zf,zq,yae,zd];omega)),fun p5 j4=>?_⟩;have s6:=Za2 j4 (HO.lst (us.take u++[V.ref p1]++us.drop (u+1)));have S:=(S4.trans s5).trans s6;have I2:=I.keep S;have v4:IsLn K (upd (upd (upd (upd (upd (upd v8 p (HO.lst (us.take u))) p1 (HO.tup [V.str x,V.ref B,J,G,V.ref D])) p2 (HO.lst [V.ref p1])) p3 (HO.lst (us.take u++[V.ref p1]))) p4 (HO.lst (us.drop (u+1)))) p5 (HO.lst (us.take u++[V.ref p1]++us.drop (u+1)))) (.ref p1) ⟨x,R,N,g,on,ls⟩:=⟨p1,B,D,J,G,b,rfl,.inl (.inl ((((s3.trans s4).trans s5).trans s6) _ _ Za1)),I2.h,I2.p,I2.t,I2.o,I2.l⟩;have y4:OkS (n+1) ⟨x,R,N,g,on,ls⟩:=⟨⟨I.r,I.w,by show N.length<=60;omega,I.go,I.gp,by show ls.length<=100;omega⟩,by show N.length<=10+3*(n+1);omega,by show ls.length<=10+3*(n+1);omega⟩;have y0:IsLns K _ us L:=IsLns.keep (I.e.trans S) hL;exact q p5 _ (L.take u++[⟨x,R,N,g,on,ls⟩]++L.drop (u+1)) _ (I.e.trans S) Za1 (Zc4 (Zc4 (Zi6 y0 u) (.cons v4 .nil)) (Zk6 (u+1) y0)) (fun l hl=>(yd.mp hl).elim (fun z=>(yd.mp z).elim (fun y=>(j6 l (zbf y)).up) fun y=>by rw[zb.mp y];exact y4) fun z=>(j6 l (ybf z)).up) (by simp) (by rw[zf,zf,zq,yae,zd];omega)
def Ltrs (z:Str)(n:Nat):Prop:=z.cps.toList.length=n/\∀c∈z.cps.toList,97<=c/\c<=122
theorem Yt3:∀c∈("abcdefghijklmnopqrstuvwxyz":Str).cps.toList,97<=c/\c<=122:=by decide +kernel
theorem Yj7:("abcdefghijklmnopqrstuvwxyz":Str).cps.toList.length=26:=by decide +kernel
theorem Xq5 (x:Str)(a:Nat)(ha:a<=x.length):(zbi x none (some (a:Int))).cps.toList=x.cps.toList.take a:=by
 have:=Yj8 x 0 a (yz _) ha
 have e:zbi x none (some (a:Int))=zbi x (some ((0:Nat):Int)) (some (a:Int)):=by
  unfold zbi zdi
  have b:max (0:Int) (min 0 (x.length:Int))=0:=by omega
  simp[b]
 rw[e,this];simp
theorem Yy1 (x:Str)(a:Nat)(ha:a<=x.length):(zbi x (some (a:Int)) none).cps.toList=x.cps.toList.drop a:=by
 have:=Yj8 x a x.length ha (yo _)
 have e:zbi x (some (a:Int)) none=zbi x (some (a:Int)) (some (x.length:Int)):=by
  unfold zbi zdi
  have b:max (0:Int) (min (if (x.length:Int) < 0 then (x.length:Int)+x.length else x.length) x.length)=x.length:=by split<;>omega
  simp[b]
 rw[e,this];rw[zbb];rw[yae,<- Yq7];omega
theorem Xp0 {n a d:Nat}(h:Ltrs z n)(hn:n<=8)(ha:a < n)(h1:97<=d)(h2:d<=122):Word (zbi z none (some (a:Int))++(⟨#[d]⟩:Str)++zbi z (some ((a:Int)+1)) none):=by
 have g:z.length=n:=by rw[Yq7];exact h.1
 have e:((a:Int)+1)=((a+1:Nat):Int):=by omega
 unfold Word;rw[Zq0,Zq0,e,Xq5 z a (by omega),Yy1 z (a+1) (by omega)];have f:=h.1;refine⟨?_,?_,fun c b=>?_⟩
 ·simp only[zf,zq,yae,yai,List.length_nil];omega
 ·simp only[zf,zq,yae,yai,List.length_nil];omega
 ·simp only[yd,yk,ybe,or_false] at b
  rcases b with (b | rfl) | b
  ·exact h.2 c (zbf b)
  ·exact⟨h1,h2⟩
  ·exact h.2 c (ybf b)
theorem Xi9 {ds:List Nat}(h:∀d∈ds,97<=d/\d<=122):Ltrs (Txt.join "" (ds.map fun d=>(⟨#[d]⟩:Str))) ds.length:=by
 have e:(Txt.join "" (ds.map fun d=>(⟨#[d]⟩:Str))).cps.toList=ds:=by
  rw[show ("":Str)=ybr from rfl,Xs5,List.map_map];clear h
  induction ds with
  |nil=>rfl
  |cons d ds ih=>rw[ybg,List.flatten_cons,ih];rfl
 unfold Ltrs;rw[e];exact⟨rfl,h⟩
theorem Xq0 (ds:List Nat):((ds.map fun d=>(⟨#[d]⟩:Str)).map (·.length)).sum=ds.length:=by
 rw[List.map_map]
 induction ds with
 |nil=>rfl
 |cons d ds ih=>rw[ybg,List.sum_cons,ih,yai];show 1+_=_;omega
inductive sp_words21:Sp
 |mk {vs H Q E:_} (c:Int):vs=[.int c]->0<=c->(∀(r:Addr) (H':Hp) (ws:List Str),Same H H'->H r=none->H' r=some (.lst (ws.map V.str))->Yi8 ws->Q (.ref r) H')->sp_words21 vs H Q E
theorem Wm5 {k:Nat}(F_az0:Df K mg "_law_words" (top 50) ["_law_cell_here"])(C__law_mix:Cl P w K mg base k "_law_mix" pq0 (sp_mix))(m_range:mg "range"=none):Cl P w K mg base (k+1) "_law_words" ["_law_cell_here"] sp_words21:=by
 refine F_az0.okG sc_az0 fun fx q4 A q1 s H vs Q E hr h Gx Y=>?_;obtain⟨c,rfl,q3,q⟩:=h
 refine Y _ ⟨_,(Za4 (Zf7 (i:=1) sc_az0.nd rfl (Or.inr rfl) Zb6)
 (Za4 (pst 2 sc_az0.nd (Zb0 Zd2 Za5 (Zb0 Zc2 (pvM 0) Za5)))
 (Za4 (pst 3 sc_az0.nd (Zb0 Zc2 (Zb0 Zc5 (pvM 0) Za5) (pvM 2)))
 (Za4 (pst 4 sc_az0.nd (Zb0 Wa2 Zb6 (pvM 2)))
 (Za4 (Zc7 (ptcM (Zd1) (Zb0 Zc2 (Zb0 Zc5 (pvM 0) Za5) Za5) Za5)
  (Za4 (Zy1 (i:=5) sc_az0.nd rfl (Or.inl rfl) (blkD (N':=["_law_k","_law_small","_law_cell_here"]) (nt:=1) (ci:=[1,0]) nn7 (Za6 (top 50))) rfl (Zj1 rfl m_range (Za0 (pvM 2) Za3)) (fun _ _ _ _=>(pgn 0 (ndS ["_law_k","_law_small","_law_cell_here"]))) (fun _ _ _ _=>(Zn4 Xw3 (pvM 1) (Zb0 Zc2 (Zb8 C__law_mix hr (Za0 (pvM 2) (Za0 (Zb0 Zd2 Za5 (pvM 0)) Za3))) Za5) (fun _ _=>rfl))) rfl)
 (Za7 (pst 4 sc_az0.nd (Zv2 F.plainAttrs_str F.slot_str_join F.type_str_join Wa9 Zb6 (Za0 (pvM 5) Za3)))))
  Zb4)
 (Za4 (pst 6 sc_az0.nd (Zb0 Zc2 (Zb0 Zc5 (pvM 0) Za5) Za5))
 (Za4 (pst 7 sc_az0.nd (Zb7 Za3))
 (Za4 (Zj3 zae rfl (Zj1 rfl m_range (Za0 (Zb0 Zd2 Za5 (Zb0 Zc2 (Zb0 Zc5 (pvM 0) Za5) Za5)) Za3)) (pgn 8 sc_az0.nd)
  (Za4 (pst 9 sc_az0.nd (Zn4 Xw3 (pvM 1) (Zb0 Zc2 (Zb0 Zd2 (pvM 6) (Zb0 Zi7 Za5 (pvM 8))) Za5) (fun _ _=>rfl)))
 (Za7 (Zi5 (Zv2 zad zam zaq Zg6 (pvM 7) (Za0 (Zb0 Yd8 (Zb0 Yd8 (Ze8 Xv1 (pvM 4) Zg3 (Zg2 (pvM 3))) (pvM 9)) (Ze8 Xv1 (pvM 4) (Zg2 (Zb0 Zd2 (pvM 3) Za5)) Zg3)) Za3))))))
 (Za7 (Zb2 (pvM 7))))))))))),?_⟩
 have s0:=yr c (show (8:Int)≠0 by decide);have s1:=yp c (show (0:Int) < 8 by decide);have a0:=yr (c / 8) (show 1+c % 8≠0 by omega);have a1:=yp (c / 8) (show 0 < 1+c % 8 by omega);refine sqk (fun C=>C [some (.int c),some (.str "abcdefghijklmnopqrstuvwxyz"),none,none,none,none,none,none,none,none] H) (fun C b=>?_) ?_
 ·walk_at "1"
  exact b
 refine sqk (fun C=>C [some (.int c),some (.str "abcdefghijklmnopqrstuvwxyz"),some (.int (1+c % 8)),none,none,none,none,none,none,none] H) (fun C b=>?_) ?_
 ·walk_at "1"
  exact⟨by decide,b⟩
 refine sqt (fun o a=>o=[some (.int c),some (.str "abcdefghijklmnopqrstuvwxyz"),some (.int (1+c % 8)),some (.int (c / 8 % (1+c % 8))),none,none,none,none,none,none]/\a=H) ?_ ?_
 ·intro C b
  walk_at "1";exact⟨⟨by decide,by decide⟩,by omega,b _ _ ⟨rfl,rfl⟩⟩
 generalize ea:c / 8 % (1+c % 8)=at' at a0 a1;generalize es:1+c % 8=size at a1;obtain⟨m,rfl⟩:=Int.eq_ofNat_of_zero_le a0
 have z1:1<=size:=by omega
 have z8:size<=8:=by omega
 rintro q2 t ⟨rfl,rfl⟩;refine sqk (fun C=>C [some (.int c),some (.str "abcdefghijklmnopqrstuvwxyz"),some (.int size),some (.int (m:Int)),some (.str (Txt.mul "k" size)),none,none,none,none,none] t) (fun C b=>?_) ?_
 ·walk_at "1"
  exact⟨by decide,by omega,by omega,b⟩
 have hk:Ltrs (Txt.mul "k" size) size.toNat:=by
  unfold Ltrs;rw[show ("k":Str)=⟨#[107]⟩ from rfl,PyProof.Rows.mul_one_list];exact⟨zbo,fun d J=>by rw[List.mem_replicate] at J;omega⟩
 refine sqk (fun C=>∀a z u,Same t a->Ltrs z size.toNat->C [some (.int c),some (.str "abcdefghijklmnopqrstuvwxyz"),some (.int size),some (.int (m:Int)),some (.str z),u,none,none,none,none] a) (fun C b=>?_) fun v z u e5 X=>?_
 ·walk_at "1"
  refine⟨⟨by decide,by decide⟩,by decide,ite2 (fun _=>?_) (fun _=>b _ _ _ (Same.refl _) hk)⟩;unfold tLC;walk_at "1";refine⟨by omega,by omega,fun q0 T=>?_⟩;refine Yl2 (n:=size.toNat) (lo:=0) (fun i B v=>v=upd t q0 (.lst B)/\∃j:List Nat,B=(j.map fun d=>(⟨#[d]⟩:Str)).map V.str/\j.length=i/\∀x∈j,97<=x/\x<=122) ⟨rfl,[],rfl,rfl,by simp⟩ (fun i B v L ⟨e,j,e2,e3,_⟩=>?_) (fun i B v L ⟨e,j,e2,e3,e4⟩ C' hC'=>?_) (fun B v ⟨e,j,e2,e3,e4⟩=>?_)
  ·subst e;subst e2
   refine⟨Za1,?_⟩;rw[yh,yh,e3];exact Zb1 (by omega)
  ·subst e;subst e2
   walk_at "1";have N:=yr (mix c (60+(0+(i:Int)))) (show (26:Int)≠0 by decide);have M:=yp (mix c (60+(0+(i:Int)))) (show (0:Int) < 26 by decide);obtain⟨d,J,U⟩:=Zo8 (xs:=("abcdefghijklmnopqrstuvwxyz":Str).cps.toList) (i:=mix c (60+(0+(i:Int))) % 26) N (by rw[Yj7];exact M);refine⟨Zz5,c,_,rfl,by omega,by omega,_,rfl,by decide,by decide,d,U,?_⟩;refine hC' _ _ Za1 ⟨by rw[Xc1],j++[d],by rw[zac,zac];rfl,by rw[zf,e3];rfl,fun x O=>?_⟩;rcases yd.mp O with z | z
   ·exact e4 x z
   ·have z':x=d:=by simpa using z
    rw[z'];exact Yt3 d J
  ·subst e;subst e2
   walk_at "1";have R:=Xq0 j;refine⟨rfl,_,SqL.of Za1,?_,b _ _ _ (Za2 T _) ?_⟩
   ·rw[R,yh,show Str.length ""=0 from rfl,e3];omega
   ·have:=Xi9 e4
    rw[e3] at this;exact this
 refine sqk (fun C=>∀(f:Int),0<=f->C [some (.int c),some (.str "abcdefghijklmnopqrstuvwxyz"),some (.int size),some (.int (m:Int)),some (.str z),u,some (.int f),none,none,none] v) (fun C b=>?_) fun f hf=>?_
 ·walk_at "1"
  exact⟨⟨by decide,by decide⟩,by decide,b _ (yr _ (by decide))⟩
 refine sqk (fun C=>∀a l,Same t a->t l=none->a l=some (.lst [])->C [some (.int c),some (.str "abcdefghijklmnopqrstuvwxyz"),some (.int size),some (.int (m:Int)),some (.str z),u,some (.int f),some (.ref l),none,none] a) (fun C b=>?_) fun H7 l e7 Z h7=>?_
 ·walk_at "1"
  exact⟨by decide,fun l I=>b _ l (e5.trans (Za2 I _)) (e5.free I) Za1⟩
 refine sqk (fun C=>∀a r p g,Same t a->a l=some (.lst (g.map V.str))->Yi8 g->C [some (.int c),some (.str "abcdefghijklmnopqrstuvwxyz"),some (.int size),some (.int (m:Int)),some (.str z),u,some (.int f),some (.ref l),r,p] a) (fun C b=>?_) fun H8 r p g e8 h8 G=>?_
 ·walk_at "2"
  have b0:=yr (c / 4096) (show (3:Int)≠0 by decide);have b1:=yp (c / 4096) (show (0:Int) < 3 by decide);refine⟨⟨by decide,by decide⟩,by decide,by omega,by omega,?_⟩;refine Zm1 (D:={ nx:=C,rt:=Q }) (n:=(2+c / 4096 % 3).toNat) (lo:=0) (fun i o a=>∃r p g,o=[some (.int c),some (.str "abcdefghijklmnopqrstuvwxyz"),some (.int size),some (.int (m:Int)),some (.str z),u,some (.int f),some (.ref l),r,p]/\Same t a/\a l=some (.lst (g.map V.str))/\g.length=i/\∀w∈g,Word w) ⟨none,none,[],rfl,e7,h7,rfl,by simp⟩ (fun i o a L S=>?_) (fun o a S=>?_)
  ·obtain⟨r,p,g,rfl,e,h,I,G⟩:=S
   walk_at "1";have N:=yr (f+7*(0+(i:Int))) (show (26:Int)≠0 by decide);have M:=yp (f+7*(0+(i:Int))) (show (0:Int) < 26 by decide);obtain⟨d,J,U⟩:=Zo8 (xs:=("abcdefghijklmnopqrstuvwxyz":Str).cps.toList) (i:=(f+7*(0+(i:Int))) % 26) N (by rw[Yj7];exact M)
   have zl:z.length<=8:=by rw[Yq7,X.1];omega
   have W:=fun lo L=>zi (Txt.slice_le z lo L) zl;have l1:=W none (some (m:Int));have l2:=W (some ((m:Int)+1)) none;have l3:(⟨#[d]⟩:Str).length=1:=rfl
   have l4:(zbi z none (some (m:Int))++(⟨#[d]⟩:Str)).length<=9:=by rw[strLen_append];omega
   refine⟨Zj5 (by decide) (by decide),by decide,by decide,d,U,.inl ⟨rfl,_,SqL.of h⟩,zk (Zb1 (by omega)),zk (Zb1 (by omega)),zk (Zb1 (by omega)),zk (Zb1 (by omega)),_,h,Zb1 (by rw[yh];omega),e.write Z,g++[zbi z none (some (m:Int))++(⟨#[d]⟩:Str)++zbi z (some ((m:Int)+1)) none],by rw[Za1,zac];rfl,by rw[zf,I];rfl,fun x O=>?_⟩;rcases yd.mp O with y | y
   ·exact G x y
   ·have y':=zb.mp y
    rw[y'];have j:=Yt3 d J;exact Xp0 X (by omega) (by omega) j.1 j.2
  ·obtain⟨r,p,g,rfl,e,h,I,G⟩:=S
   exact b _ r p g e h ⟨by omega,by omega,G⟩
 walk_at "1";exact q _ _ _ e8 Z h8 G
theorem sc_ay0:FnScope ["_law_cell_here","_law_words_here","_law_one","_law_other","_law_last","_law_form"] ["_law_cell_here","_law_words_here"] (Za6 (top 54)):=scm (by decide +kernel)
theorem Wm6 {k:Nat}(F_ay0:Df K mg "_law_wish" (top 54) pq3)(C__law_statement:Cl P w K mg base k "_law_statement" pq1 (sp_stm21 K 32))(C__law_mix:Cl P w K mg base k "_law_mix" pq0 (sp_mix)):Cl P w K mg base (k+1) "_law_wish" pq3 (sp_wish23 K):=by
 refine F_ay0.okG sc_ay0 fun fx q7 A q5 s H vs Q E O h Gx q4=>?_;obtain⟨c,R,ws,rfl,hc,hW,N,q⟩:=h
 refine q4 _ ⟨_,(Za4 (pst 2 sc_ay0.nd (Zb8 C__law_statement O (Za0 (Zb8 C__law_mix O (Za0 (pvM 0) (Za0 Za5 Za3))) (Za0 (Zb0 Zd2 Za5 (Zb0 Zi7 Za5 (Zb0 Zc2 (Zb0 Zc5 (pvM 0) Za5) Za5))) (Za0 (pvM 1) Za3)))))
 (Za4 (pst 3 sc_ay0.nd (Zb8 C__law_statement O (Za0 (Zb8 C__law_mix O (Za0 (pvM 0) (Za0 Za5 Za3))) (Za0 (Zb0 Zd2 Za5 (Zb0 Zi7 Za5 (Zb0 Zc2 (Zb0 Zc5 (pvM 0) Za5) Za5))) (Za0 (pvM 1) Za3)))))
 (Za4 (pst 4 sc_ay0.nd (Zb8 C__law_statement O (Za0 (Zb8 C__law_mix O (Za0 (pvM 0) (Za0 Za5 Za3))) (Za0 (Zb0 Zd2 Za5 (Zb0 Zi7 Za5 (Zb0 Zc2 (Zb0 Zc5 (pvM 0) Za5) Za5))) (Za0 (pvM 1) Za3)))))
 (Za4 (pst 5 sc_ay0.nd (Zb0 Zc2 (pvM 0) Za5))
 (Za4 (Zc7 (ptcM (Zo3) (pvM 5) Za5)
  (Za7 (Zb2 (pxlM (Zb7 (Za0 (pvM 2) (Za0 (Zc0 (Za0 Zb6 (Za0 (pvM 2) (Za0 (pvM 3) Za3)))) (Za0 (Zc0 (Za0 Zb6 (Za0 (pvM 2) (Za0 (pvM 3) Za3)))) Za3)))) (pvM 5))))
  Zb4)
 (Za4 (Zc7 (ptcM (Zo3) (pvM 5) Za5)
  (Za7 (Zb2 (Zc0 (Za0 Zb6 (Za0 (pxlM (Zb7 (Za0 (pvM 2) (Za0 (Zc0 (Za0 Zb6 (Za0 (pvM 2) (Za0 (pvM 3) Za3)))) Za3))) (Zb0 Zl1 (pvM 5) Za5)) (Za0 (pvM 4) Za3))))))
  Zb4)
 (Za4 (Zc7 (ptcM (Zo3) (pvM 5) Za5)
  (Za7 (Zb2 (Zc0 (Za0 Zb6 (Za0 (pxlM (Zb7 (Za0 (Zc0 (Za0 Zb6 (Za0 (pvM 2) (Za0 (pvM 3) Za3)))) (Za0 (Zc0 (Za0 Zb6 Za3)) (Za0 (Zc0 (Za0 Zb6 (Za0 (pvM 2) (Za0 (pvM 3) Za3)))) Za3)))) (Zb0 Zl1 (pvM 5) Za5)) (Za0 (pvM 4) Za3))))))
  Zb4)
 (Za7 (Zb2 (Zb8 C__law_statement O (Za0 (Zb8 C__law_mix O (Za0 (pvM 0) (Za0 Za5 Za3))) (Za0 (Zb0 Zd2 Za5 (Zb0 Zi7 Za5 (Zb0 Zc2 (Zb0 Zc5 (pvM 0) Za5) Za5))) (Za0 (pvM 1) Za3))))))))))))),?_⟩
 have b0:=yr (c / 9) (show (2:Int)≠0 by decide);have b1:=yp (c / 9) (show (0:Int) < 2 by decide);have c0:=yr (c / 18) (show (2:Int)≠0 by decide);have c1:=yp (c / 18) (show (0:Int) < 2 by decide);have d0:=yr (c / 36) (show (2:Int)≠0 by decide);have d1:=yp (c / 36) (show (0:Int) < 2 by decide);have f0:=yr c (show (9:Int)≠0 by decide);have f1:=yp c (show (0:Int) < 9 by decide);have g0:=yr (c / 9) (show (5:Int)≠0 by decide);have g1:=yp (c / 9) (show (0:Int) < 5 by decide);refine sqk (fun C=>∀d v t,Same H d->IsT K d v t->t.ok->t.parts<=3->C [some (.int c),some (.ref R),some v,none,none,none] d) (fun C hC=>?_) fun H1 f r e1 m1 Y p1=>?_
 ·walk_at "1"
  exact⟨_,_,rfl,by decide,by decide,⟨by decide,by decide⟩,by decide,Zj5 (by decide) (by decide),_,_,R,ws,rfl,Zk1 _ _,by omega,by omega,by omega,hW,N,fun u d t e m=>hC _ u t e m.1 (m.2.1.ok N.2.2) (by have:=m.2.2.1;omega)⟩
 refine sqk (fun C=>∀d v t,Same H1 d->IsT K d v t->t.ok->t.parts<=3->C [some (.int c),some (.ref R),some f,some v,none,none] d) (fun C hC=>?_) fun H2 o I e2 m2 k2 p2=>?_
 ·walk_at "1"
  exact⟨_,_,rfl,by decide,by decide,⟨by decide,by decide⟩,by decide,Zj5 (by decide) (by decide),_,_,R,ws,rfl,Zk1 _ _,by omega,by omega,by omega,e1.seq hW,N,fun u d t e m=>hC _ u t e m.1 (m.2.1.ok N.2.2) (by have:=m.2.2.1;omega)⟩
 refine sqk (fun C=>∀d v t,Same H2 d->IsT K d v t->t.ok->t.parts<=3->C [some (.int c),some (.ref R),some f,some o,some v,none] d) (fun C hC=>?_) fun H3 v3 t3 e3 m3 k3 p3=>?_
 ·walk_at "1"
  exact⟨_,_,rfl,by decide,by decide,⟨by decide,by decide⟩,by decide,Zj5 (by decide) (by decide),_,_,R,ws,rfl,Zk1 _ _,by omega,by omega,by omega,(e1.trans e2).seq hW,N,fun u d t e m=>hC _ u t e m.1 (m.2.1.ok N.2.2) (by have:=m.2.2.1;omega)⟩
 have E3:=(e1.trans e2).trans e3;have U:=m1.keep (K:=K) (e2.trans e3).keepT;have n2:=m2.keep (K:=K) e3.keepT
 have T:∀(d:Hp) (xs:List V) (ts:List Tm) (i:Int),Paired (IsT K d) xs ts->0<=i->i < xs.length->∃v t,atI xs i=some v/\IsT K d v t/\t∈ts:=fun d xs ts i hP h0 h1=>by
  obtain⟨v,Z,ev⟩:=Zo8 (xs:=xs) (i:=i) h0 h1;obtain⟨j,hj,rfl⟩:=zdc.mp Z;obtain⟨t,et,q2⟩:=paired_get hP (za hj);exact⟨_,t,ev,q2,yc et⟩
 have W:∀(d:Hp) (X:Kd) (p:Addr) (x y:V) (a b:Tm),d p=none->IsT K d x a->IsT K d y b->IsT K (upd d p (HO.tup [.str X.str,x,y])) (.ref p) (.nd X a b):=fun d X p x y a b G hx hy=>isT_nd.mpr ⟨p,x,y,rfl,.inl (.inl Za1),hx.keep (Zf3 G),hy.keep (Zf3 G)⟩;have D:∀(X:Kd) {a b:Tm} {n m:Nat},(a.ok/\a.parts<=n)->(b.ok/\b.parts<=m)->(Tm.nd X a b).ok/\(Tm.nd X a b).parts<=1+n+m:=fun X {a b n m} ha hb=>⟨⟨ha.1,hb.1⟩,by show 1+a.parts+b.parts<=_;omega⟩;walk_at "1";refine⟨by decide,?_⟩
 by_cases z3:c % 9 < 3
 ·rw[if_pos z3]
  refine⟨by decide,fun p G=>⟨by decide,fun g L=>⟨by decide,fun J F=>?_⟩⟩⟩;have B:=Za2 G (HO.tup [V.str (zh "both"),f,o]);have l:=Za2 L (HO.tup [V.str (zh "one"),f,o]);have M:=Za2 F (HO.lst [f,V.ref p,V.ref g]);have a1:=W _ .both p f o r I G U n2;have a2:=W _ .one g f o r I L (U.keep B.keepT) (n2.keep B.keepT);obtain⟨v,t,ev,Z,mt⟩:=T _ [f,.ref p,.ref g] [r,.nd .both r I,.nd .one r I] (c % 9) (.cons (U.keep ((B.trans l).trans M).keepT) (.cons (a1.keep (l.trans M).keepT) (.cons (a2.keep M.keepT) .nil))) f0 z3
  have tk:t.ok/\t.parts<=7:=by
   rcases yk.mp mt with z | z
   ·rw[z];exact⟨Y,by omega⟩
   ·rcases yk.mp z with z | z
    ·rw[z];exact D .both ⟨Y,p1⟩ ⟨k2,p2⟩
    ·rw[zb.mp z];exact D .one ⟨Y,p1⟩ ⟨k2,p2⟩
  exact⟨_,SqL.of Za1,v,ev,q v _ t (((E3.trans B).trans l).trans M) Z tk.1 (by have:=tk.2;omega)⟩
 rw[if_neg z3]
 by_cases z5:c % 9 < 5
 ·rw[if_pos z5]
  refine⟨by decide,fun p G=>⟨by decide,fun g L=>?_⟩⟩;have B:=Za2 G (HO.tup [V.str (zh "both"),f,o]);have l:=Za2 L (HO.lst [f,V.ref p]);have a1:=W _ .both p f o r I G U n2;obtain⟨v,t,ev,Z,mt⟩:=T _ [f,.ref p] [r,.nd .both r I] (c % 9 - 3) (.cons (U.keep (B.trans l).keepT) (.cons (a1.keep l.keepT) .nil)) (by omega) (by show c % 9 - 3 < 2;omega)
  have tk:t.ok/\t.parts<=7:=by
   rcases yk.mp mt with z | z
   ·rw[z];exact⟨Y,by omega⟩
   ·rw[zb.mp z];exact D .both ⟨Y,p1⟩ ⟨k2,p2⟩
  refine⟨_,SqL.of Za1,v,ev,by decide,fun J F=>?_⟩;have a3:=W _ .thn J v v3 t t3 F Z (m3.keep (B.trans l).keepT);have:=D .thn tk ⟨k3,p3⟩;exact q _ _ _ (((E3.trans B).trans l).trans (Za2 F _)) a3 this.1 this.2
 rw[if_neg z5]
 by_cases z8:c % 9 < 8
 ·rw[if_pos z8]
  refine⟨by decide,fun p G=>⟨by decide,fun g L=>⟨by decide,fun J F=>⟨by decide,fun q6 q3=>?_⟩⟩⟩⟩;have B:=Za2 G (HO.tup [V.str (zh "one"),f,o]);have l:=Za2 L (HO.tup [V.str (zh "low")]);have M:=Za2 F (HO.tup [V.str (zh "then"),f,o]);have s4:=Za2 q3 (HO.lst [V.ref p,V.ref g,V.ref J]);have a1:=W _ .one p f o r I G U n2;have a2:IsT K (upd (upd H3 p (HO.tup [V.str (zh "one"),f,o])) g (HO.tup [V.str (zh "low")])) (.ref g) .low:=isT_low.mpr ⟨g,rfl,.inl (.inl Za1)⟩;have a3:=W _ .thn J f o r I F (U.keep (B.trans l).keepT) (n2.keep (B.trans l).keepT);obtain⟨v,t,ev,Z,mt⟩:=T _ [.ref p,.ref g,.ref J] [.nd .one r I,.low,.nd .thn r I] (c % 9 - 5) (.cons (a1.keep ((l.trans M).trans s4).keepT) (.cons (a2.keep (M.trans s4).keepT) (.cons (a3.keep s4.keepT) .nil))) (by omega) (by show c % 9 - 5 < 3;omega)
  have tk:t.ok/\t.parts<=7:=by
   rcases yk.mp mt with z | z
   ·rw[z];exact D .one ⟨Y,p1⟩ ⟨k2,p2⟩
   ·rcases yk.mp z with z | z
    ·rw[z];exact⟨trivial,by decide⟩
    ·rw[zb.mp z];exact D .thn ⟨Y,p1⟩ ⟨k2,p2⟩
  refine⟨_,SqL.of Za1,v,ev,by decide,fun q1 q0=>?_⟩;have S:=((B.trans l).trans M).trans s4;have a5:=W _ .thn q1 v v3 t t3 q0 Z (m3.keep S.keepT);have:=D .thn tk ⟨k3,p3⟩;exact q _ _ _ ((E3.trans S).trans (Za2 q0 _)) a5 this.1 this.2
 rw[if_neg z8];exact⟨_,_,rfl,by decide,by decide,⟨by decide,by decide⟩,by decide,Zj5 (by decide) (by decide),_,_,R,ws,rfl,Zk1 _ _,by omega,by omega,by omega,E3.seq hW,N,fun u d t e m=>q u d t (E3.trans e) m.1 (m.2.1.ok N.2.2) (by have:=m.2.2.1;omega)⟩
theorem Yx7 :Fk0 P w K mg base k f fd ps (sp_stm21 K 0):=by
 have b:∀a H Q E,¬sp_stm21 K 0 a H Q E:=fun a H Q E h=>by
  obtain⟨c,e,j,i,_,_,n,_,m,_⟩:=h;omega
 exact⟨fun a H Q E h=>absurd h (b a H Q E),fun A d s H g l a Q E _ _ _ _ h=>absurd h (b a H Q E)⟩
theorem Ys3 (F_aw0:Fun K "_law_statement" "_law_statement" (top 51) f_aw0 fd_aw0)(m_aw0:MgI mg "_law_statement" f_aw0)(b_aw0:Binds K fd_aw0 pq1 [])
  (G_aq0:∀k,Fk0 P w K mg base (k+1) f_aq0 fd_aq0 pq0 sp_mix)(m_aq0:MgI mg "_law_mix" f_aq0)(k_aq0:KpI K f_aq0)(b_aq0:Binds K fd_aq0 pq0 [])(m_len:mg "len"=none) :
  ∀n:Nat,Fk0 P w K mg base (n+1) f_aw0 fd_aw0 pq1 (sp_stm21 K n)
 | 0=>Yx7
 |n+1=>Wm8 F_aw0 (Ys3 F_aw0 m_aw0 b_aw0 G_aq0 m_aq0 k_aq0 b_aq0 m_len n) m_aw0 F_aw0.kp b_aw0 (.of (G_aq0 n) m_aq0 k_aq0 b_aq0) m_len
theorem sc_by0:FnScope ["_law_script","_law_words_here","_law_lines","_law_handed","_law_good","_law_k","_law_worlds_here","_law_line"] ["_law_script"] (Za6 (top 68)):=scm (by decide +kernel)
inductive sp_law26 (K:W.Frag)(T:Addr):Sp
 |mk {vs H Q E:_} (a:Addr) (ns:List Int):vs=[.ref a]->SqL K H a (ns.map V.int)->ns.length<=63->TabOk H T Zg1->(∀H',Q (.bl true) H')->sp_law26 K T vs H Q E
theorem Xt6 (h:dueF L=none):∀i,i < L.length->Zk2 L i=true:=fun i a=>by
 unfold dueF at h;rw[List.find?_eq_none] at h;have:=h i (zcb.mpr a)
 cases z:Zk2 L i with
 |true=>rfl
 |false=>rw[z] at this;exact absurd rfl this
theorem Wp8 {v:V}{l:Ln}(e:SameT H H')(h:IsLn K H v l):IsLn K H' v l:=by
 obtain⟨p,b,d,o,c,a,q,n,m,j,i,g,f⟩:=h;have k:KeepT K H H':=SameT.keepT e;exact⟨p,b,d,o,c,a,q,k _ _ n,e _ (.lst a) (fun _ z=>nomatch z) m,Paired.mapP j fun _ _ z=>z.keep k,i.keep k,g.keep k,e _ (.lst (l.ls.map V.int)) (fun _ z=>nomatch z) f⟩
theorem Wk1 {k:Nat}{T:Addr}(F_by0:Fun K "law" "law" (top 68) f_by0 fd_by0)(C__law_words:Cl P w K mg base k "_law_words" ["_law_cell_here"] (sp_words21))(C__law_cell:Cl P w K mg base k "_law_cell" ["_law_script","_law_k"] (sp_cell K))(C__law_built:Cl P w K mg base k "_law_built" pq12 (sp_built K))(C__law_mix:Cl P w K mg base k "_law_mix" pq0 (sp_mix))(C__law_spoiled:Cl P w K mg base k "_law_spoiled" pq8 (sp_spoilL K))(C__law_copy:Cl P w K mg base k "_law_copy" ["_law_lines"] (sp_copyL K))(G_br0:FnOk P w K mg base (CXe P w) k f_br0 fd_br0 ["lines"] (sp_checkX K aNoLine))(m_br0:MgI mg "check" f_br0)(k_br0:KpI K f_br0)(b_br0:Binds K fd_br0 ["lines"] [])(m_ab0:MgI mg "NoLine" aNoLine)(xc_NoLine:XC K aNoLine)(C__law_worlds:Cl P w K mg base k "_law_worlds" pq2 (sp_worldsH K))(C__law_holds:Cl P w K mg base k "_law_holds" ["_law_worlds_here","_law_line"] (sp_lholds K T Zg1))(m_range:mg "range"=none):Fk0 P w K mg base (k+1) f_by0 fd_by0 ["_law_script"] (sp_law26 K T):=by
 refine F_by0.okG sc_by0 fun z6 A z0 s H S Q E u h Gx j6=>?_;obtain⟨a,W,rfl,hS,p,j3,q⟩:=h
 refine j6 _ ⟨_,(Za4 (pst 1 sc_by0.nd (Zb8 C__law_words u (Za0 (Zb8 C__law_cell u (Za0 (pvM 0) (Za0 Za5 Za3))) Za3)))
 (Za4 (pst 2 sc_by0.nd (Zb8 C__law_built u (Za0 (pvM 0) (Za0 Za5 (Za0 Za5 (Za0 (pvM 1) Za3))))))
 (Za4 (Zc7 (ptcM (Zd1) (Zb0 Zc2 (Zb0 Zc5 (Zb8 C__law_cell u (Za0 (pvM 0) (Za0 Za5 Za3))) Za5) Za5) Za5)
  (Za7 (pst 2 sc_by0.nd (Zb8 C__law_spoiled u (Za0 (pvM 2) (Za0 (Zb8 C__law_mix u (Za0 (Zb8 C__law_cell u (Za0 (pvM 0) (Za0 Za5 Za3))) (Za0 Za5 Za3))) (Za0 (pvM 1) Za3))))))
  Zb4)
 (Za4 (pst 3 sc_by0.nd (Zb8 C__law_copy u (Za0 (pvM 2) Za3)))
 (Za4 (pst 4 sc_by0.nd Zo2)
 (Za4 (Xz6 rfl rfl rfl (by exact rfl) m_ab0 xc_NoLine (Xf6 G_br0 u (by exact rfl) m_br0 k_br0 b_br0 .nil (Za0 (pvM 3) Za3))
  (fun ea=>(Za7 (pst 4 sc_by0.nd Zo2))))
 (Za4 (Zc7 (ptcM (Zw3 (Zg7 u)) (pvM 3) (pvM 2))
  (Za7 (Zb2 Zo2))
  Zb4)
 (Za4 (Zc7 (Zj7 (Zs7 (pvM 4) (fun _=>rfl)))
  (Za7 (Zb2 (Zm5 (Zd1) (Zb0 Zc2 (Zb0 Zc5 (Zb8 C__law_cell u (Za0 (pvM 0) (Za0 Za5 Za3))) Za5) Za5) Za5 (Zo5 _))))
  Zb4)
 (Za4 (Zj3 zae rfl (Zj1 rfl m_range (Za0 Za5 Za3)) (pgn 5 sc_by0.nd)
  (Za4 (pst 6 sc_by0.nd (Zb8 C__law_worlds u (Za0 (Zb8 C__law_mix u (Za0 (Zb8 C__law_cell u (Za0 (pvM 0) (Za0 Za5 Za3))) (Za0 (Zb0 Zd2 Za5 (pvM 5)) Za3))) (Za0 Za5 (Za0 (pvM 1) Za3)))))
 (Za7 (Zj3 zae rfl (Ze4 (pvM 2)) (pgn 7 sc_by0.nd)
  (Za7 (Zc7 (Zj7 (Zj2 (Zb8 C__law_holds u (Za0 (pvM 6) (Za0 (pvM 7) Za3)))))
  (Za7 (Zb2 Zo2))
  Zb4))))))
 (Za7 (Zb2 Zo2))))))))))),?_⟩
 refine sqk (fun C=>∀c m I,Same H c->c m=some (.lst (I.map V.str))->Yi8 I->C [some (.ref a),some (.ref m),none,none,none,none,none,none] c) (fun C f=>?_) fun H1 m I e1 h1 hw=>?_
 ·walk_at "1"
  exact⟨a,W,0,rfl,hS,p,by decide,by decide,_,rfl,Xn3 _ _,fun r c I e fr h hw=>f _ r I e h hw⟩
 refine sqk (fun C=>∀c la U L,Same H c->c m=some (.lst (I.map V.str))->c la=some (.lst U)->IsLns K c U L->GL L->L≠[]->C [some (.ref a),some (.ref m),some (.ref la),none,none,none,none,none] c) (fun C f=>?_) fun H2 la U L e2 q3 h2 hL G X=>?_
 ·walk_at "1"
  exact⟨a,m,W,1,17,I,rfl,e1.seq hS,p,by decide,by decide,by decide,by decide,SqL.of h1,hw,fun r U L c e fr h hL G X=>f _ r U L (e1.trans e) (e _ _ h1) h hL G X⟩
 have lu:U.length=L.length:=zc hL;have q2:=G.len
 have q9:∀l∈L,OkS 0 l:=fun l p=>by
  have o:=G.ok l p;refine⟨o.ok,by have:=o.w9;omega,?_⟩;obtain⟨i,hi,rfl⟩:=zw p;have g:=G.good i hi;unfold Zk2 at g;rw[za hi] at g;unfold Zm0 at g;dsimp only at g
  cases hX:Zm7 L[i].R L[i].ws L[i].g L[i].on with
  |none=>rw[hX,Bool.and_false] at g;cases g
  |some nds =>
   rw[hX] at g;dsimp only at g;rw[zo,zo,decide_eq_true_iff] at g;have:=Xi3 hX;omega
 have nb:badL L=none:=by unfold badL;rw[if_neg X];exact Ym6 G.good
 refine sqk (fun C=>∀c y F M,Same H2 c->c y=some (.lst F)->IsLns K c F M->(∀l∈M,OkLn l)->M≠[]->M.length<=150->(badL M=none∨cellOf W 0 / 7 % 2=1)->C [some (.ref a),some (.ref m),some (.ref y),none,none,none,none,none] c) (fun C f=>?_) fun H3 y F M e3 h3 hM D q0 lM q8=>?_
 ·walk_at "1"
  refine⟨a,W,0,rfl,e2.seq hS,p,by decide,by decide,_,rfl,⟨by decide,by decide⟩,by decide,ite2 (fun hc=>?_) (fun _=>f _ la U L (Same.refl _) h2 hL (fun l p=>(q9 l p).ok) X q2 (.inl nb))⟩;exact⟨a,W,0,rfl,e2.seq hS,p,by decide,by decide,_,_,rfl,by omega,by omega,la,m,U,L,_,I,0,rfl,h2,hL,q9,X,q2,by omega,Zk1 _ _,SqL.of q3,hw,fun r F M c e' h' hM D q0 lM=>f _ r F M e' h' hM (fun l p=>(D l p).ok) q0 lM (.inr hc)⟩
 refine sqk (fun C=>∀c B Y,Same H3 c->c B=some (.lst Y)->IsLns K c Y M->C [some (.ref a),some (.ref m),some (.ref y),some (.ref B),none,none,none,none] c) (fun C f=>?_) fun H4 B Y e4 h4 hZ=>?_
 ·walk_at "1"
  exact⟨y,F,M,rfl,h3,hM,D,by omega,fun r Y c e fr h hz=>f _ r Y e h hz⟩
 refine sqk (fun C=>C [some (.ref a),some (.ref m),some (.ref y),some (.ref B),some (.bl true),none,none,none] H4) (fun C f=>?_) ?_
 ·walk_at "1"
  exact f
 refine sqk (fun C=>∀c b,Same H4 c->(badL M=none/\b=true∨badL M≠none/\b=false)->C [some (.ref a),some (.ref m),some (.ref y),some (.ref B),some (.bl b),none,none,none] c) (fun C f=>?_) fun H6 b e6 O=>?_
 ·walk_at "1"
  refine⟨B,Y,M,rfl,h4,hZ,D,by omega,fun O c e=>f _ true e (.inl ⟨O,rfl⟩),fun n O Hm em e d c hx z5=>?_⟩;obtain⟨T0,hF⟩:=hx.2.2;refine⟨e,T0,rfl,hF,?_⟩;walk_at "1";exact f _ false (em.trans hx.2.1) (.inr ⟨by rw[O];exact (fun z=>nomatch z),rfl⟩)
 have q4:=(e4.trans e6) _ _ h3;have q1:IsLns K H6 F M:=IsLns.keep (e4.trans e6) hM;have q7:Same H H6:=((e2.trans e3).trans e4).trans e6;refine sqk (fun C=>C [some (.ref a),some (.ref m),some (.ref y),some (.ref B),some (.bl b),none,none,none] H6) (fun C f=>?_) ?_
 ·have j0:=Wb0 q1 D
  have j9:min (zbj (M.map lnD)).depth (zbj (M.map lnD)).depth<=150:=zi (ybj _ _) (zi (Xj3 q1 D) (by decide));walk_at "1";refine⟨_,by rw[Dn];exact⟨B,Y,rfl,SqL.of (e6 _ _ h4),Xj2 (IsLns.keep e6 hZ)⟩,_,by rw[Dn];exact⟨y,F,rfl,SqL.of q4,Xj2 q1⟩,j0,j0,j9,?_⟩;rw[if_neg (by rw[if_pos trivial,Xs3];exact zg)];exact f
 refine sqk (fun C=>badL M=none->C [some (.ref a),some (.ref m),some (.ref y),some (.ref B),some (.bl b),none,none,none] H6) (fun C f=>?_) fun N=>?_
 ·walk_at "1"
  refine⟨b,rfl,?_⟩;rcases O with ⟨O,rfl⟩ | ⟨O,rfl⟩
  ·rw[if_neg (by decide)]
   exact f O
  ·rw[if_pos (by rfl)]
   refine⟨a,W,0,rfl,q7.seq hS,p,by decide,by decide,_,rfl,⟨by decide,by decide⟩,by decide,?_⟩;rw[decide_eq_true (q8.resolve_left O)];exact q _
 have j1:∀i,i < M.length->Zk2 M i=true:=Xt6 (by unfold badL at N;rw[if_neg q0] at N;exact N);refine sqt (fun v c=>True) ?_ ?_
 ·intro C f
  refine Xa5 (n:=2) (fun Q' h=>h) (by omega) (fun i v c=>∃x5 x6 J,v=[some (.ref a),some (.ref m),some (.ref y),some (.ref B),some (.bl b),x5,x6,J]/\SameT H6 c/\TabOk c T Zg1) ⟨none,none,none,rfl,SameT.refl _,j3.keep q7⟩ (fun i v c hi hp=>?_) (fun v c _=>f _ _ trivial);obtain⟨x5,x6,J,rfl,e,tb⟩:=hp;unfold Zn5;refine sqk (fun C=>∀H9 Z S t,Same c H9->H9 Z=some (.lst S)->AtWs K H9 S t->Zq4 t->Yk4 t->1<=t.length->t.length<=20->C [some (.ref a),some (.ref m),some (.ref y),some (.ref B),some (.bl b),some (.int (i:Nat)),some (.ref Z),J] H9) (fun C' j7=>?_) fun H9 Z S t e9 h9 hA hg q5 l1 l2=>?_
  ·walk_at "1"
   have sq:SqL K c a (W.map V.int):=SameT.seq e (q7.seq hS);have sw:SqL K c m (I.map V.str):=SameT.seq e (((e3.trans e4).trans e6).seq (SqL.of q3));exact⟨a,W,1,rfl,sq,p,by decide,by decide,_,_,rfl,by omega,by omega,_,12,m,I,rfl,Zk1 _ _,by decide,by decide,sw,hw,fun Z H9 S t e9 _ h9 hA hg q5 l1 l2=>j7 _ Z S t e9 h9 hA hg q5 l1 l2⟩
  have eT:SameT H6 H9:=e.trans e9.toT;have q6:∀(j:Nat) (l:Ln),M[j]?=some l->Xo5 t l:=fun j l hj=>Yz5 hg q5 j1 j j l (yo _) hj;refine Yc0 (K:=K) (a:=y) (xs:=F) (fun Q' h=>?_) (fun j v c=>∃J,v=[some (.ref a),some (.ref m),some (.ref y),some (.ref B),some (.bl b),some (.int (i:Nat)),some (.ref Z),J]/\SameU T H9 c/\TabOk c T Zg1) ⟨J,rfl,(Same.refl _).toU,tb.keep e9⟩ (fun j v c _ zZ=>by obtain⟨_,_,eu,_⟩:=zZ;exact SqL.of ((eT.trans eu.toT) _ (.lst F) (fun _ z=>nomatch z) q4)) (fun j x v c hx hp=>?_) (fun v c zZ=>by obtain⟨J,z1,z2,z3⟩:=zZ;exact ⟨_,_,J,z1,eT.trans z2.toT,z3⟩)
  ·walk_at "1"
   exact h
  obtain⟨J,rfl,eu,j2⟩:=hp;obtain⟨l,p,j5⟩:=paired_get q1 hx;walk_at "1";refine⟨Z,x,l,S,t,rfl,eu.toT _ (.lst S) (fun _ z=>nomatch z) h9,AtWs.keepU eu hA,hg,l1,l2,Wp8 (eT.trans eu.toT) j5,D l (yc p),q6 j l p,j2,fun z7 j8 j4=>?_⟩;refine⟨_,rfl,?_⟩;rw[if_neg (by decide)];exact⟨eu.trans j8,j4⟩
 rintro z4 H9 _;walk_at "1";exact q _
theorem Wg7:FnScope ["some"] ["some"] (Za6 (top 13)):=scm (by decide +kernel)
theorem sc_cb0:FnScope ["line","rule","wishes","goal","on","leans"] ["line"] (Za6 (top 39)):=scm (by decide +kernel)
abbrev nn8:List Str:=["leaned","wishes","need","needed_wishes","needed_goal"]
theorem sc_ch0:FnScope nn8 ["leaned","wishes","need"] (Za6 (top 40)):=scm (by decide +kernel)
theorem Wm2 {k:Nat}(F_bc0:Df K mg "are_wishes" (top 13) ["some"])(C_compared:Cl P w K mg base k "compared" pq24 (sp_compared K))(m_all:mg "all"=none)(m_zip:mg "zip"=none):Cl P w K mg base (k+1) "are_wishes" ["some"] (sp_arew K):=by
 refine F_bc0.okG Wg7 fun fx Y A S s H Z Q E U h Gx O=>?_;obtain⟨a,c,d,rfl,B,N,r,hl,q⟩:=h;refine O _ ⟨_,(Za7 (Zb2 (Zc1 (Zu5 rfl) (by exact rfl) m_all Zz2 (Za0 (Yc9 (blk0 (N':=["one","other"]) (by decide +kernel) (by decide +kernel) rfl (by decide +kernel)) rfl (Yd5 rfl m_zip (Za0 (pvM 0) (Za0 (Ze8 Zi3 (pvM 0) (Zg2 Za5) Zg3) Za3))) (fun _ _ _ _=>(Zo0 (K:=K) (n:=2) rfl rfl (Zb9 (pgn 0 (ndS ["one","other"])) (Zb9 (pgn 1 (ndS ["one","other"])) Zf9)) rfl rfl)) (fun _ _ _ _=>(Zm5 (Zo3) (Zb8 C_compared U (Za0 (pvM 0) (Za0 (pvM 1) Za3))) Za5 (Zo5 _)))) Za3)))),?_⟩;unfold tRet tLC;walk_at "1";have lu:c.length=d.length:=zc N;refine⟨c,SqL.of B,fun p W=>?_⟩;have X:cutV c (some 1) none=c.drop 1:=Xm4 c 0;rw[X];have j:=Za2 W (HO.lst (c.drop 1));refine⟨⟨_,SqL.of (j _ _ B)⟩,⟨_,SqL.of Za1⟩,fun z f=>?_⟩;have l:=Za8 j.keepT N;have v:=j _ _ B;have o:upd H p (HO.lst (c.drop 1)) p=some (.lst (c.drop 1)):=Za1;generalize upd H p (HO.lst (c.drop 1))=H1 at j l v o f ⊢;refine Yv0 (xs:=c) (ys:=c.drop 1) (fun i ys g=>Same H1 g/\g z=some (.lst ys)/\ys=((zu (fun a b=>decide (cmpT a b < 0)) d d.tail).take i).map V.bl) (d.length - 1) (by rw[yae];omega) ⟨Za2 f _,Za1,by simp⟩ (fun i ys g hi ⟨e,h,hy⟩=>⟨h,?_,SqL.of (e _ _ v),SqL.of (e _ _ o)⟩) (fun i x y ys g T hx hy hT0 ⟨e,h,hz⟩ C' hC'=>?_) (fun ys g ⟨e,h,hy⟩=>?_)
 ·rw[hy,yh,zq]
  exact small1M (by omega)
 ·rw[List.getElem?_drop] at hy
  obtain⟨t,L,I⟩:=paired_get l hx;obtain⟨u,J,G⟩:=paired_get l hy;have m:=r t (yc L);have D:=r u (yc J);have C:Same H1 (upd g T (.tup [x,y])):=e.trans (Za2 hT0 _);walk_at "1";refine⟨_,.inl (.inl Za1),rfl,_,_,rfl,_,_,rfl,rfl,Wk.trans (Ze2 (i:=0) rfl) (Ze2 (i:=1) rfl),x,y,t,u,rfl,I.keep C.keepT,G.keep C.keepT,m.1,D.1,by have:=m.2;omega,fun H5 R=>⟨_,rfl,hC' _ _ (R _ _ ((Za2 hT0 _) _ _ h)) ⟨(C.trans R).write f,Za1,?_⟩⟩⟩
  have F:(zu (fun a b=>decide (cmpT a b < 0)) d d.tail)[i]?=some (decide (cmpT t u < 0)):=by
   rw[zbc,L,List.getElem?_tail,show i+1=1+i by omega,J]
  rw[hz,ybh,F,zac];rfl
 ·have M:(zu (fun a b=>decide (cmpT a b < 0)) d d.tail).length=d.length - 1:=by rw[zag,List.length_tail];omega
  rw[<- M,zaa] at hy;refine⟨z,rfl,zu (fun a b=>decide (cmpT a b < 0)) d d.tail,SqL.of (by rw[h,hy]),?_⟩;rw[Yw9];exact q _ (j.trans e)
theorem Wj8 {k:Nat}(F_cb0:Df K mg "needed_by" (top 39) ["line"])(G_cc0:FnOk P w K mg base (CXe P w) k f_cc0 fd_cc0 pq25 (sp_needs K aNoRule))(m_cc0:MgI mg "needs" f_cc0)(k_cc0:KpI K f_cc0)(b_cc0:Binds K fd_cc0 pq25 [])(m_ad0:MgI mg "NoRule" aNoRule)(xc_NoRule:XC K aNoRule):Cl P w K mg base (k+1) "needed_by" ["line"] (sp_nby K):=by
 refine F_cb0.okG sc_cb0 fun N I A d s H J Q E q h U c=>?_;obtain⟨v,l,rfl,u,a,o,m,j⟩:=h
 refine c _ ⟨_,(Za4 (Zs8 (pvM 0) (Zo1 rfl (Zb9 (pgn 1 sc_cb0.nd) (Zb9 (pgn 2 sc_cb0.nd) (Zb9 (pgn 3 sc_cb0.nd) (Zb9 (pgn 4 sc_cb0.nd) (Zb9 (pgn 5 sc_cb0.nd) Zf9)))))))
 (Za7 (Xz7 rfl rfl rfl (by exact rfl) m_ad0 xc_NoRule (Xf6 G_cc0 q (by exact rfl) m_cc0 k_cc0 b_cc0 .nil (Za0 (pvM 1) (Za0 (pvM 2) (Za0 (pvM 3) (Za0 (pvM 4) Za3)))))
  (fun O=>(Za7 (Zb2 Ze3)))))),?_⟩
 obtain⟨p,f,L,G,n,i,rfl,F,D,C,B,z,M⟩:=u;walk_at "1";refine⟨_,F,rfl,_,_,rfl,_,_,rfl,_,_,rfl,_,_,rfl,_,_,rfl,rfl,l.x,l.R,f,G,n,l.ws,l.g,l.on,rfl,a.r,⟨⟨i,D,C⟩,o⟩,B,z,a.w,a.g,a.gp,by have:=a.wl;omega,fun t e S b=>?_,j⟩;obtain⟨T,y⟩:=b.2.2;exact⟨e,T,rfl,y,m t _ b.2.1⟩
theorem Wj5 {k:Nat}(F_ch0:Df K mg "serves" (top 40) ["leaned","wishes","need"])(C_compared:Cl P w K mg base k "compared" pq24 (sp_compared K))(C_among:Cl P w K mg base k "among" pq33 (sp_among K))(m_all:mg "all"=none):Cl P w K mg base (k+1) "serves" ["leaned","wishes","need"] (sp_serves K):=by
 refine F_ch0.okG sc_ch0 fun fx q4 A q3 s H vs Q E O h Gx q2=>?_;obtain⟨v,T,N,m,r,o,rfl,Y,j,hW,X,hl,hN,S,ln,go,q⟩:=h
 refine q2 _ ⟨_,(Za4 (Zs8 (pvM 2) (Zo1 rfl (Zb9 (Yp9 (i:=3) sc_ch0.nd rfl (Or.inr rfl)) (Zb9 (pgn 4 sc_ch0.nd) Zf9))))
 (Za4 (Zc7 (ptcM (Yd0) (Zb8 C_compared O (Za0 (pxtM (pvM 0) Za5) (Za0 (pvM 4) Za3))) Za5)
  (Za7 (Zb2 Zo2))
  Zb4)
 (Za7 (Zb2 (Zc1 (Zu5 rfl) (by exact rfl) m_all Zz2 (Za0 (Yc9 (blkD (N':=["wish","needed_wishes","wishes"]) (nt:=1) (ci:=[3,1]) nn8 (Za6 (top 40))) rfl (Ze4 (pxtM (pvM 0) Za5)) (fun _ _ _ _=>(pgn 0 (ndS ["wish","needed_wishes","wishes"]))) (fun _ _ _ _=>(Wa1 (Zb8 C_among O (Za0 (pvM 1) (Za0 (pvM 0) Za3))) (Zw1 (Zb8 C_among O (Za0 (pvM 2) (Za0 (pvM 0) Za3))))))) Za3)))))),?_⟩
 refine sqk (fun C=>∀d,IsW K H o.1 o.2.1->IsT K H d o.2.2->C [some v,some (.ref N),some T,some (.ref o.1),some d] H) (fun C R=>?_) fun d U q1=>?_
 ·obtain⟨p,d,rfl,D,B,y⟩:=hN
  walk_at "1";exact⟨_,D,rfl,_,_,rfl,_,_,rfl,rfl,R d B y⟩
 refine sqk (fun C=>∀a,Same H a->m.g=o.2.2->C [some v,some (.ref N),some T,some (.ref o.1),some d] a) (fun C R=>?_) fun H2 c q0=>?_
 ·obtain⟨p,G,la,L,ov,F,rfl,D,B,y,h4,h5,h6⟩:=Y
  walk_at "1";refine⟨_,D,_,rfl,L,d,m.g,o.2.2,rfl,h4,q1,j.g,go,by have:=j.gp;omega,fun a e=>⟨Zs5 _ _,?_⟩⟩
  by_cases hc:m.g=o.2.2
  ·rw[decide_eq_true (by rw[(Yf0 m.g o.2.2).mpr hc]),if_neg (by decide)]
   exact R _ e hc
  ·rw[decide_eq_false (fun z=>hc ((Yf0 _ _).mp (V.int.inj z))),if_pos (by rfl)]
   have:=q _ e;unfold Yo9 at this;rw[decide_eq_false hc] at this;exact this
 obtain⟨p,G,la,L,ov,F,rfl,D,B,y,h4,h5,h6⟩:=Y;unfold tRet tLC;walk_at "1";have lu:F.length=m.ws.length:=zc y;refine⟨_,c.sqt D,_,rfl,G,rfl,⟨_,SqL.of (c _ _ B)⟩,fun M u=>?_⟩;refine Zt8 (xs:=F) (fun i n a=>Same H2 a/\a M=some (.lst n)/\n=((m.ws.map fun t=>decide (t∈o.2.1)||decide (t∈r)).take i).map V.bl) ⟨Za2 u _,Za1,by simp⟩ (fun i n a hi ⟨e,h,hy⟩=>⟨h,?_,SqL.of ((c.trans e) _ _ B)⟩) (fun i x n a hx ⟨e,h,hy⟩ C' hC'=>?_) (fun n a ⟨e,h,hy⟩=>?_)
 ·rw[hy,yh,zq,yh]
  exact small1M (by have:=j.wl;omega)
 ·obtain⟨t,W,J⟩:=paired_get y hx
  have I:=j.w t (yc W);have l:∀(b:Bool) (H5:Hp),(decide (t∈o.2.1)||decide (t∈r))=b->Same a H5->C' (.bl b) H5:=fun b H5 hb f=>hC' _ _ (f _ _ h) ⟨(e.trans f).write u,Za1,by rw[hy,ybh,zy,W,zac,<- hb];rfl⟩;walk_at "1";refine⟨Ze2 (i:=0) rfl,o.1,x,o.2.1,t,rfl,U.keep (c.trans e),J.keep (c.trans e).keepT,S,I.1,by omega,fun H5 f=>⟨_,rfl,?_⟩⟩
  by_cases hc:t∈o.2.1
  ·rw[decide_eq_true hc,if_pos rfl]
   exact l true H5 (by rw[decide_eq_true hc];rfl) f
  ·rw[decide_eq_false hc,if_neg (by decide)]
   refine⟨N,x,r,t,rfl,hW.keep ((c.trans e).trans f),J.keep ((c.trans e).trans f).keepT,X,I.1,by omega,fun H6 e6=>l _ H6 (by rw[decide_eq_false hc];rfl) (f.trans e6)⟩
 ·have Z:(m.ws.map fun t=>decide (t∈o.2.1)||decide (t∈r)).length=F.length:=by rw[yh,lu]
  rw[<- Z,zaa] at hy;refine⟨M,rfl,m.ws.map fun t=>decide (t∈o.2.1)||decide (t∈r),SqL.of (by rw[h,hy]),?_⟩;have:=q _ (c.trans e);unfold Yo9 at this;rw[decide_eq_true q0,Bool.true_and] at this;rw[List.all_map];exact this
abbrev nn9:List Str:=["lines","number","rule","wishes","goal","on","leans","needed"]
theorem sc_bv0:FnScope nn9 ["lines","number"] (Za6 (top 41)):=scm (by decide +kernel)
theorem Wk4 {k:Nat}(F_bv0:Fun K "is_good" "is_good" (top 41) f_bv0 fd_bv0)(C_are_wishes:Cl P w K mg base k "are_wishes" ["some"] (sp_arew K))(C_needed_by:Cl P w K mg base k "needed_by" ["line"] (sp_nby K))(C_serves:Cl P w K mg base k "serves" ["leaned","wishes","need"] (sp_serves K))(m_len:mg "len"=none)(m_all:mg "all"=none)(m_zip:mg "zip"=none):Fk0 P w K mg base (k+1) f_bv0 fd_bv0 ["lines","number"] (sp_isgood K):=by
 refine F_bv0.okG sc_bv0 fun z0 A j9 s H vs Q E hr h Gx j8=>?_;obtain⟨a,F,L,i,rfl,ha,hL,q7,hi,hn,q⟩:=h;have lu:F.length=L.length:=zc hL
 have q1:i < F.length:=by omega
 obtain⟨l,hl,q6⟩:=paired_get hL (za q1);have d:=q7 l (yc hl)
 have eg:Zk2 L i=Zm0 L i l:=by unfold Zk2;rw[hl]
 rw[eg] at q;have j1:=q6;obtain⟨p,M,la,gv,Y,ys,hv,h1,h2,h3,h4,h5,h6⟩:=q6
 refine j8 _ ⟨_,(Za4 (Zs8 (pxlM (pvM 0) (pvM 1)) (Zo1 rfl (Zb9 (pgn 2 sc_bv0.nd) (Zb9 (Yp9 (i:=3) sc_bv0.nd rfl (Or.inr rfl)) (Zb9 (pgn 4 sc_bv0.nd) (Zb9 (pgn 5 sc_bv0.nd) (Zb9 (pgn 6 sc_bv0.nd) Zf9)))))))
 (Za4 (Zc7 (Zj7 (Zj2 (Zb8 C_are_wishes hr (Za0 (pvM 3) Za3))))
  (Za7 (Zb2 Zo2))
  Zb4)
 (Za4 (pst 7 sc_bv0.nd (Zb8 C_needed_by hr (Za0 (pxlM (pvM 0) (pvM 1)) Za3)))
 (Za4 (Zc7 ((Yp7 (ptcM (Yd7) (pvM 7) Ze3) (Ya8 (ptcM (Yd0) (Zc1 Zb5 (by exact rfl) m_len Zc9 (Za0 (pvM 7) Za3)) (Zc1 Zb5 (by exact rfl) m_len Zc9 (Za0 (pvM 6) Za3)))))).pt
  (Za7 (Zb2 Zo2))
  Zb4)
 (Za4 (Zc7 (Zj7 (Zs7 (Zc1 (Zu5 rfl) (by exact rfl) m_all Zz2 (Za0 (Yc9 (blkD (N':=["lean","number"]) (nt:=1) (ci:=[1]) nn9 (Za6 (top 41))) rfl (Ze4 (pvM 6)) (fun _ _ _ _=>(pgn 0 (ndS ["lean","number"]))) (fun _ _ _ _=>(Xr6 (Wj1) (Zo3) Za5 (pvM 0) (pvM 1)))) Za3)) (fun _=>rfl)))
  (Za7 (Zb2 Zo2))
  Zb4)
 (Za7 (Zb2 (Zc1 (Zu5 rfl) (by exact rfl) m_all Zz2 (Za0 (Yc9 (blkD (N':=["lean","need","wishes","lines"]) (nt:=2) (ci:=[3,0]) nn9 (Za6 (top 41))) rfl (Yd5 rfl m_zip (Za0 (pvM 6) (Za0 (pvM 7) Za3))) (fun _ _ _ _=>(Zo0 (K:=K) (n:=2) rfl rfl (Zb9 (pgn 0 (ndS ["lean","need","wishes","lines"])) (Zb9 (pgn 1 (ndS ["lean","need","wishes","lines"])) Zf9)) rfl rfl)) (fun _ _ _ _=>(Zb8 C_serves hr (Za0 (Zn4 (Yh6 (K:=K) rfl) (pvM 3) (pvM 0) (fun _ _=>rfl)) (Za0 (pvM 2) (Za0 (pvM 1) Za3)))))) Za3))))))))),?_⟩
 refine sqk (fun C=>C [some (.ref a),some (.int (i:Nat)),some (.str l.x),some (.ref M),some gv,some Y,some (.ref la),none] H) (fun C B=>?_) ?_
 ·walk_at "1"
  exact⟨F,SqL.of ha,_,Zd3 (za q1),p,hv,_,h1,rfl,_,_,rfl,_,_,rfl,_,_,rfl,_,_,rfl,_,_,rfl,rfl,B⟩
 refine sqk (fun C=>∀H',Same H H'->adjB l.ws=true->C [some (.ref a),some (.int (i:Nat)),some (.str l.x),some (.ref M),some gv,some Y,some (.ref la),none] H') (fun C B=>?_) fun H2 e2 f=>?_
 ·walk_at "1"
  refine⟨M,ys,l.ws,rfl,h2,h3,d.w,by have:=d.wl;omega,fun H' e=>⟨_,rfl,?_⟩⟩
  cases hb:adjB l.ws with
  |true =>
   rw[if_neg (by decide)];exact B _ e hb
  |false =>
   rw[if_pos (by decide)];have:=q _ e;unfold Zm0 at this;rw[hb] at this;exact this
 refine sqk (fun C=>∀H' nv,Same H H'->((Zm7 l.R l.ws l.g l.on=none/\nv=.non)∨∃c r t,Zm7 l.R l.ws l.g l.on=some c/\nv=.ref r/\IsNds K H' r t/\t.map (·.2)=c)->C [some (.ref a),some (.int (i:Nat)),some (.str l.x),some (.ref M),some gv,some Y,some (.ref la),some nv] H') (fun C B=>?_) fun H3 nv X q4=>?_
 ·walk_at "1"
  refine⟨F,SqL.of (e2 _ _ ha),_,Zd3 (za q1),F[i],l,rfl,j1.keep e2,d,adjB_iff.mp f,fun hn H' e=>B _ _ (e2.trans e) (.inl ⟨hn,rfl⟩),fun c hn r H' t e fr h he _ _=>B _ _ (e2.trans e) (.inr ⟨c,r,t,hn,rfl,h,he⟩)⟩
 refine sqk (fun C=>∀c r t,Zm7 l.R l.ws l.g l.on=some c->c.length=l.ls.length->IsNds K H3 r t->t.map (·.2)=c->C [some (.ref a),some (.int (i:Nat)),some (.str l.x),some (.ref M),some gv,some Y,some (.ref la),some (.ref r)] H3) (fun C B=>?_) fun c r t U u q3 D=>?_
 ·walk_at "1"
  rcases q4 with ⟨j6,rfl⟩ | ⟨c,r,t,U,rfl,q3,D⟩
  ·rw[if_pos rfl,if_pos trivial]
   have:=q _ X;unfold Zm0 at this;rw[f,j6] at this;exact this
  ·obtain⟨I,G,hZ⟩:=q3
   have lz:I.length=c.length:=by rw[<- D,yh];exact zc hZ
   rw[if_neg (fun z=>nomatch z)];refine⟨r,rfl,I,.inl (SqL.of G),_,.inl (SqL.of (X _ _ h6)),?_⟩;rw[yh]
   by_cases hc:c.length=l.ls.length
   ·rw[decide_eq_true (show ((I.length:Nat):Int)=((l.ls.length:Nat):Int) by omega),if_neg (by decide)]
    exact B c r t U hc ⟨I,G,hZ⟩ D
   ·rw[decide_eq_false (show ¬((I.length:Nat):Int)=((l.ls.length:Nat):Int) by omega),if_pos (by rfl)]
    have:=q _ X;unfold Zm0 at this;rw[f,U] at this;dsimp only at this;rw[decide_eq_false hc] at this;exact this
 refine sqk (fun C=>∀H',Same H H'->IsNds K H' r t->(l.ls.all fun j=>decide (0<=j)&&decide (j < (i:Int)))=true->C [some (.ref a),some (.int (i:Nat)),some (.str l.x),some (.ref M),some gv,some Y,some (.ref la),some (.ref r)] H') (fun C B=>?_) fun H5 N j7 q2=>?_
 ·unfold tLC
  walk_at "1";refine⟨⟨_,SqL.of (X _ _ h6)⟩,fun J v=>?_⟩;refine Zt8 (xs:=l.ls.map V.int) (fun j ys H'=>Same H3 H'/\H' J=some (.lst ys)/\ys=((l.ls.map fun j=>decide (0<=j)&&decide (j < (i:Int))).take j).map V.bl) ⟨Za2 v _,Za1,by simp⟩ (fun j ys H' hi ⟨e,h,hy⟩=>⟨h,?_,SqL.of ((X.trans e) _ _ h6)⟩) (fun j x ys H' hx ⟨e,h,hy⟩ C' hC'=>?_) (fun ys H' ⟨e,h,hy⟩=>?_)
  ·rw[hy,yh,zq,yh]
   exact small1M (by have:=d.ll;omega)
  ·rw[zy] at hx
   cases G:l.ls[j]? with
   |none=>rw[G] at hx;cases hx
   |some z =>
   rw[G] at hx;cases hx;have O:∀b:Bool,(decide (0<=z)&&decide (z < (i:Int)))=b->C' (.bl b) H':=fun b hb=>hC' _ _ h ⟨e.write v,Za1,by rw[hy,ybh,zy,G,zac,<- hb];rfl⟩;walk_at "1";refine⟨Ze2 (i:=0) rfl,?_⟩
   by_cases hc:(0:Int)<=z
   ·rw[if_pos hc]
    exact O _ (by rw[decide_eq_true hc];rfl)
   ·rw[if_neg hc]
    exact O _ (by rw[decide_eq_false hc];rfl)
  ·have q0:(l.ls.map fun j=>decide (0<=j)&&decide (j < (i:Int))).length=(l.ls.map V.int).length:=by rw[yh,yh]
   rw[<- q0,zaa] at hy;refine⟨J,rfl,l.ls.map fun j=>decide (0<=j)&&decide (j < (i:Int)),SqL.of (by rw[h,hy]),_,rfl,?_⟩;rw[List.all_map];have S:=X.trans e
   by_cases hc:(l.ls.all fun j=>decide (0<=j)&&decide (j < (i:Int)))=true
   ·rw[if_neg (by rw[show (l.ls.all (id ∘ fun j=>decide (0<=j)&&decide (j < (i:Int))))=true from hc];decide)]
    exact B _ S (q3.keep e) hc
   ·have j0:(l.ls.all fun j=>decide (0<=j)&&decide (j < (i:Int)))=false:=by simpa using hc
    rw[if_pos (by rw[show (l.ls.all (id ∘ fun j=>decide (0<=j)&&decide (j < (i:Int))))=false from j0];rfl)];have:=q _ S;unfold Zm0 at this;rw[f,U] at this;dsimp only at this;rw[decide_eq_true u,j0] at this;exact this
 unfold tRet tLC;walk_at "1";obtain⟨I,G,hZ⟩:=j7
 have lz:I.length=l.ls.length:=by rw[<- u,<- D,yh];exact zc hZ
 have lo:t.length=l.ls.length:=by rw[<- u,<- D,yh]
 have j5:=Xs0 (adjB_iff.mp f) d.w ⟨d.g,d.gp⟩ U;refine⟨⟨_,SqL.of (N _ _ h6)⟩,⟨_,SqL.of G⟩,fun J v=>?_⟩;refine Yv0 (xs:=l.ls.map V.int) (ys:=I) (fun j ys H'=>Same H5 H'/\H' J=some (.lst ys)/\ys=((zu (Zq3 L l.ws) l.ls c).take j).map V.bl) l.ls.length (by rw[yh];omega) ⟨Za2 v _,Za1,by simp⟩ (fun j ys H' hi ⟨e,h,hy⟩=>⟨h,?_,SqL.of ((N.trans e) _ _ h6),SqL.of (e _ _ G)⟩) (fun j x y ys H' T hx hy hT0 ⟨e,h,hzz⟩ C' hC'=>?_) (fun ys H' ⟨e,h,hy⟩=>?_)
 ·rw[hy,yh,zq]
  exact small1M (by have:=d.ll;omega)
 ·rw[zy] at hx
  cases hj:l.ls[j]? with
  |none=>rw[hj] at hx;cases hx
  |some z =>
  rw[hj] at hx;cases hx;obtain⟨o,ho,j3⟩:=paired_get hZ hy;have q5:=yaf.mp q2 z (yc hj);simp only[zo,decide_eq_true_eq] at q5;obtain⟨n,rfl⟩:=Int.eq_ofNat_of_zero_le q5.1
  have q8:n < F.length:=by omega
  obtain⟨m,hm,j4⟩:=paired_get hL (za q8)
  have q9:c[j]?=some o.2:=by rw[<- D,zy,ho];rfl
  have Z:=j5 o.2 (yc q9);have W:Same H5 (upd H' T (.tup [V.int (n:Nat),y])):=e.trans (Za2 hT0 _);walk_at "1";refine⟨_,.inl (.inl Za1),rfl,_,_,rfl,_,_,rfl,rfl,Wk.trans (Ze2 (i:=0) rfl) (Ze2 (i:=1) rfl),F,_,rfl,SqL.of ((N.trans W) _ _ ha),F[n],Zd3 (za q8),F[n],y,M,m,l.ws,o,rfl,j4.keep (N.trans W),q7 m (yc hm),⟨⟨_,(N.trans W) _ _ h2,Za8 (N.trans W).keepT h3⟩,adjB_iff.mp f⟩,d.w,by have:=d.wl;omega,j3.keep W,Z.ok,by have:=Z.len;have:=d.wl;omega,Z.gok.1,fun H6 e6=>hC' _ _ (e6 _ _ ((Za2 hT0 _) _ _ h)) ⟨(W.trans e6).write v,Za1,?_⟩⟩
  have j2:(zu (Zq3 L l.ws) l.ls c)[j]?=some (Yo9 m l.ws o.2):=by
   rw[zbc,hj,q9];show some (Zq3 L l.ws ((n:Nat):Int) o.2)=_;unfold Zq3;rw[zcg,hm]
  rw[hzz,ybh,j2,zac];rfl
 ·have q0:(zu (Zq3 L l.ws) l.ls c).length=l.ls.length:=by rw[zag,u];omega
  rw[<- q0,zaa] at hy;refine⟨J,rfl,zu (Zq3 L l.ws) l.ls c,SqL.of (by rw[h,hy]),?_⟩;have:=q _ (N.trans e);unfold Zm0 at this;rw[f,U] at this;dsimp only at this;rw[decide_eq_true u,q2] at this;exact this
noncomputable def ask:Hd.Ask:=⟨[48,49,50,51,11,14,15,16,17,28,19,20,21,22,23,24,25,26,27,29,30,31,32,33,36,37,13,39,40,41,42,7,8,9,10,44,45,46,52,53,54,55,56,57,58,59,60,61,62,63,64,65,66,67,68],[6,5,35],[34],[],[zh "len",zh "range",zh "list",zh "all",zh "zip",zh "sorted",zh "enumerate",zh "reversed",zh "max",zh "min",zh "isinstance",zh "bool"]⟩
noncomputable def cask:Hd.ClsAsk:=⟨[1,2,3],[(2,1)],[]⟩
noncomputable def mask:Hd.MoreAsk:=⟨[⟨3,1,0,zh "NoLine.__init__",zh "line"⟩],[]⟩
noncomputable def tas:List Nat:=[46]
noncomputable def q:zm:=W.view pg [1,2,3,5,6,7,8,9,10,11,13,14,15,16,17,19,20,21,22,23,24,25,26,27,28,29,30,31,32,33,34,35,36,37,39,40,41,42,44,45,46,48,49,50,51,52,53,54,55,56,57,58,59,60,61,62,63,64,65,66,67,68]
noncomputable def loose:List Str:=[zh "RULES"]
open PySem.W.Fast
theorem h1 (w:World):(fun os=>Hd.pre pg w os)=fun os=>Hd.preTo pg w os:=by
 rw[hdPre_eq,hdPreTo_eq]
 kernel_rfl
theorem h2 (w:World):(fun os=>Hd.blk pg w os)=fun os=>Hd.blkTo pg w os:=by
 rw[hdBlk_eq,hdBlkTo_eq]
 kernel_rfl
theorem h3fA (w:World):(fun os=>Hd.evA pg 2652 ⟨427,0,447,15⟩ (zaj w "special-get-raises" false) os)=fun _=>Hd.evATo pg ⟨427,0,447,15⟩:=by
 rw[hdEvA_eq]
 kernel_rfl
theorem h3fB (w:World):(fun os=>Hd.evB pg q loose [] 2652 ⟨427,0,447,15⟩ (zaj w "special-get-raises" false) os)=fun _=>Hd.evBTo q:=by
 rw[hdEvB_eq]
 kernel_rfl
theorem h3fD (w:World):(fun os=>Hd.evD pg q loose [] 2652 ⟨427,0,447,15⟩ (zaj w "special-get-raises" false) os)=fun _=>Hd.evDTo q loose:=by
 rw[hdEvD_eq,hdEvDTo_eq]
 kernel_rfl
theorem h3fC (w:World):(fun os=>Hd.evC pg (Hd.obs4 pg ask cask mask tas) 2652 ⟨427,0,447,15⟩ (zaj w "special-get-raises" false) os)=fun _=>Hd.evCTo (Hd.val4 pg ask mask) (zaj w "special-get-raises" false):=by
 rw[hdEvC_eq,hdObs4_eq,hdVal4_eq]
 kernel_rfl
theorem h3f (w:World):(fun os=>Hd.ev pg q loose [] (Hd.obs4 pg ask cask mask tas) 2652 ⟨427,0,447,15⟩ (zaj w "special-get-raises" false) os)=fun _=>Hd.evTo pg q loose (Hd.val4 pg ask mask) ⟨427,0,447,15⟩ (zaj w "special-get-raises" false) :=
 Hd.ev_of (h3fA w) (h3fB w) (h3fD w) (h3fC w)
theorem h3tA (w:World):(fun os=>Hd.evA pg 2652 ⟨427,0,447,15⟩ (zaj w "special-get-raises" true) os)=fun _=>Hd.evATo pg ⟨427,0,447,15⟩:=by
 rw[hdEvA_eq]
 kernel_rfl
theorem h3tB (w:World):(fun os=>Hd.evB pg q loose [] 2652 ⟨427,0,447,15⟩ (zaj w "special-get-raises" true) os)=fun _=>Hd.evBTo q:=by
 rw[hdEvB_eq]
 kernel_rfl
theorem h3tD (w:World):(fun os=>Hd.evD pg q loose [] 2652 ⟨427,0,447,15⟩ (zaj w "special-get-raises" true) os)=fun _=>Hd.evDTo q loose:=by
 rw[hdEvD_eq,hdEvDTo_eq]
 kernel_rfl
theorem h3tC (w:World):(fun os=>Hd.evC pg (Hd.obs4 pg ask cask mask tas) 2652 ⟨427,0,447,15⟩ (zaj w "special-get-raises" true) os)=fun _=>Hd.evCTo (Hd.val4 pg ask mask) (zaj w "special-get-raises" true):=by
 rw[hdEvC_eq,hdObs4_eq,hdVal4_eq]
 kernel_rfl
theorem h3t (w:World):(fun os=>Hd.ev pg q loose [] (Hd.obs4 pg ask cask mask tas) 2652 ⟨427,0,447,15⟩ (zaj w "special-get-raises" true) os)=fun _=>Hd.evTo pg q loose (Hd.val4 pg ask mask) ⟨427,0,447,15⟩ (zaj w "special-get-raises" true) :=
 Hd.ev_of (h3tA w) (h3tB w) (h3tD w) (h3tC w)
theorem h3 (w:World):(fun os=>Hd.ev pg q loose [] (Hd.obs4 pg ask cask mask tas) 2652 ⟨427,0,447,15⟩ w os)=fun _=>Hd.evTo pg q loose (Hd.val4 pg ask mask) ⟨427,0,447,15⟩ w :=
 W.byRow2 "special-get-raises" (P:=fun w=>(fun os=>Hd.ev pg q loose [] (Hd.obs4 pg ask cask mask tas) 2652 ⟨427,0,447,15⟩ w os)=fun _=>Hd.evTo pg q loose (Hd.val4 pg ask mask) ⟨427,0,447,15⟩ w) h3f h3t w
theorem lft:W.LeftO pg q loose (fun s=>W.xlAt q [] s&&W.recOk [] s) (Hd.hook4 pg ask cask mask tas).obs (Hd.hook4 pg ask cask mask tas).val 5428 :=
 Hd.left (by kernel_rfl) rfl (fun s=>by kernel_rfl) h1 h2 h3 rfl
theorem Yu3:Hd.nm (Hd.stAt pg 46)="known":=by kernel_rfl
theorem Xp8 (K:W.Frag):(Hd.tabs pg tas K).getD 0 0=Hd.tabAt K "known":=congrArg (Hd.tabAt K) Yu3
theorem Xp6 (K:W.Frag):Hd.tabAt K "known"∈Hd.tabs pg tas K:=Yu3▸(.head _)
theorem Wd6 {l:W.OpenLaw}{fa bm:Addr}(X:K.In h)(G:h.Ns zn mg)(hfa:MgI mg "law" fa)(E:Hd.obsK pg ask K=Hd.valK pg ask w.params)(D:Hd.chk pg cask K=true)(E2:Hd.iniK pg mask K=Hd.iniV pg mask)(D2:Hd.chkM pg mask K=true)(hc:Hd.codesOk pg tas K=true)(hblt:BltK K mg bm)(nT:∀T∈Hd.tabs pg tas K,bm≠T):
  ∃fd:yq,(∀(s:Shared) (v:Value),BindsTo s fd ⟨[v],[]⟩ [("_law_script",v)])/\∀base:Heap,K.In base->base.Ns zn mg->FnOk l.prog w K mg base CX0 105 fa fd ["_law_script"] ((fun K=>sp_law26 K (Hd.tabAt K "known")) K):=by
 obtain⟨f_aq0,fd_aq0,m,z9,o,p⟩:=(show Df K mg "_law_mix" (top 48) pq0 from Hd.df2 X G E 48).ex;obtain⟨f_aw0,fd_aw0,O,F_aw0,z4,S⟩:=(show Df K mg "_law_statement" (top 51) pq1 from Hd.df3 X G E 51).ex;obtain⟨v3,fd_bq0,m_bq0,F_bq0,k_bq0,b_bq0⟩:=(show Df K mg "by_wish" (top 19) pq31 from Hd.df3 X G E 19).ex;obtain⟨v8,fd_bl0,m_bl0,F_bl0,k_bl0,b_bl0⟩:=(show Df K mg "by_low" (top 20) pq31 from Hd.df3 X G E 20).ex;obtain⟨f_bd0,fd_bd0,m_bd0,F_bd0,k_bd0,b_bd0⟩:=(show Df K mg "by_both" (top 21) pq31 from Hd.df3 X G E 21).ex;obtain⟨f_bi0,fd_bi0,m_bi0,F_bi0,k_bi0,b_bi0⟩:=(show Df K mg "by_first" (top 22) pq31 from Hd.df3 X G E 22).ex;obtain⟨v6,fd_bn0,m_bn0,F_bn0,k_bn0,b_bn0⟩:=(show Df K mg "by_second" (top 23) pq31 from Hd.df3 X G E 23).ex;obtain⟨v5,fd_bo0,m_bo0,F_bo0,k_bo0,b_bo0⟩:=(show Df K mg "by_then" (top 24) pq31 from Hd.df3 X G E 24).ex;obtain⟨v7,fd_bm0,m_bm0,F_bm0,k_bm0,b_bm0⟩:=(show Df K mg "by_parts" (top 25) pq31 from Hd.df3 X G E 25).ex;obtain⟨f_be0,fd_be0,m_be0,F_be0,k_be0,b_be0⟩:=(show Df K mg "by_cases" (top 26) pq31 from Hd.df3 X G E 26).ex;obtain⟨v9,fd_bk0,m_bk0,F_bk0,k_bk0,b_bk0⟩:=(show Df K mg "by_known" (top 27) pq31 from Hd.df3 X G E 27).ex;obtain⟨f_bg0,fd_bg0,m_bg0,F_bg0,k_bg0,b_bg0⟩:=(show Df K mg "by_curried" (top 29) pq31 from Hd.df3 X G E 29).ex;obtain⟨f_bh0,fd_bh0,m_bh0,F_bh0,k_bh0,b_bh0⟩:=(show Df K mg "by_either" (top 30) pq31 from Hd.df3 X G E 30).ex;obtain⟨f_bj0,fd_bj0,m_bj0,F_bj0,k_bj0,b_bj0⟩:=(show Df K mg "by_idle" (top 31) pq31 from Hd.df3 X G E 31).ex;obtain⟨f_bf0,fd_bf0,m_bf0,F_bf0,k_bf0,b_bf0⟩:=(show Df K mg "by_chain" (top 32) pq31 from Hd.df3 X G E 32).ex;obtain⟨v4,fd_bp0,m_bp0,F_bp0,k_bp0,b_bp0⟩:=(show Df K mg "by_use" (top 33) pq31 from Hd.df3 X G E 33).ex;obtain⟨f_cc0,fd_cc0,m_cc0,F_cc0,k_cc0,b_cc0⟩:=(show Df K mg "needs" (top 37) pq25 from Hd.df4 X G E 37).ex;obtain⟨f_bv0,fd_bv0,m_bv0,F_bv0,k_bv0,b_bv0⟩:=(show Df K mg "is_good" (top 41) ["lines","number"] from Hd.df2 X G E 41).ex;obtain⟨f_br0,fd_br0,m_br0,F_br0,k_br0,b_br0⟩:=(show Df K mg "check" (top 42) ["lines"] from Hd.df1 X G E 42).ex;obtain⟨f_ck0,fd_ck0,y8,z6,k_ck0,b_ck0⟩:=(show Df K mg "within" (top 7) pq30 from Hd.df1 X G E 7).ex;obtain⟨f_cf0,fd_cf0,y9,z8,k_cf0,b_cf0⟩:=(show Df K mg "pieces" (top 8) pq30 from Hd.df1 X G E 8).ex;obtain⟨f_bt0,fd_bt0,m_bt0,F_bt0,k_bt0,b_bt0⟩:=(show Df K mg "folded" (top 9) pq29 from Hd.df3 X G E 9).ex;obtain⟨f_cj0,fd_cj0,m_cj0,z7,k_cj0,b_cj0⟩:=(show Df K mg "where_then" (top 45) pq34 from Hd.df3 X G E 45).ex;obtain⟨f_at0,fd_at0,v0,F_at0,k_at0,b_at0⟩:=(show Df K mg "_law_parts" (top 52) pq16 from Hd.df1 X G E 52).ex;obtain⟨f_am0,fd_am0,m_am0,F_am0,k_am0,b_am0⟩:=(show Df K mg "_law_changed" (top 55) nn2 from Hd.df3 X G E 55).ex;obtain⟨f_by0,oc_by0,od_by0,sl_by0,kV_by0,dc_by0,pm_by0,an_by0,cd_by0,ct_by0,a_by0,l_by0,c_by0,k_by0⟩:Hd.FnF K "law" (top 68):=Hd.fn_ofx (by kernel_rfl) (Hd.e_fn E (i:=68) (by decide));obtain⟨f_bx0,fd_bx0,a_bx0,F_bx0,q9,v_known,_,_⟩:Hd.FunTF K "known" (top 46) (Hd.tabAt K "known"):=Hd.funT_ofx (by kernel_rfl) (Hd.e_fn E (i:=46) (by decide)) (Hd.t_code hc (by decide));have m_bx0:=W.mg_of X G a_bx0;have k_bx0:=q9.kp;have b_bx0:=q9.binds (ps:=["worlds","statement"]) fun _ _ _ _ _ _ us hl=>Ken.len2 hl fun _ _=>rfl;have y2:=fun h k=>hblt.at (nT _ (Xp6 K)) h k;have a_bq0:=Hd.nsx X G E 19 m_bq0;have a_bl0:=Hd.nsx X G E 20 m_bl0;have a_bd0:=Hd.nsx X G E 21 m_bd0;have a_bi0:=Hd.nsx X G E 22 m_bi0;have a_bn0:=Hd.nsx X G E 23 m_bn0;have a_bo0:=Hd.nsx X G E 24 m_bo0;have a_bm0:=Hd.nsx X G E 25 m_bm0;have a_be0:=Hd.nsx X G E 26 m_be0;have a_bk0:=Hd.nsx X G E 27 m_bk0;have a_bg0:=Hd.nsx X G E 29 m_bg0;have a_bh0:=Hd.nsx X G E 30 m_bh0;have a_bj0:=Hd.nsx X G E 31 m_bj0;have a_bf0:=Hd.nsx X G E 32 m_bf0;have a_bp0:=Hd.nsx X G E 33 m_bp0;obtain⟨aPAIRED,y3,B⟩:Hd.TupF K "PAIRED" ["both","one","then"]:=Hd.tup_ofx (by kernel_rfl) (by kernel_rfl) (by decide) (Hd.e_tup E (i:=6) (by decide));obtain⟨aLOW,g_LOW,t_LOW⟩:Hd.TupF K "LOW" ["low"]:=Hd.tup_ofx (by kernel_rfl) (by kernel_rfl) (by decide) (Hd.e_tup E (i:=5) (by decide));obtain⟨aWITHOUT_ON,q8,q6⟩:Hd.TupF K "WITHOUT_ON" ["wish","low","both","first","second","then"]:=Hd.tup_ofx (by kernel_rfl) (by kernel_rfl) (by decide) (Hd.e_tup E (i:=35) (by decide));obtain⟨aRULES,g_RULES,D_RULES⟩:Hd.KfF K w "RULES" _:=Hd.kf_ofx (l:=[("wish","by_wish"),("low","by_low"),("both","by_both"),("first","by_first"),("second","by_second"),("then","by_then"),("parts","by_parts"),("cases","by_cases"),("known","by_known"),("curried","by_curried"),("either","by_either"),("idle","by_idle"),("chain","by_chain"),("use","by_use")]) [v3,v8,f_bd0,f_bi0,v6,v5,v7,f_be0,v9,f_bg0,f_bh0,f_bj0,f_bf0,v4] (by kernel_rfl) (by kernel_rfl) (.cons a_bq0 (.cons a_bl0 (.cons a_bd0 (.cons a_bi0 (.cons a_bn0 (.cons a_bo0 (.cons a_bm0 (.cons a_be0 (.cons a_bk0 (.cons a_bg0 (.cons a_bh0 (.cons a_bj0 (.cons a_bf0 (.cons a_bp0 (.nil))))))))))))))) (show (["wish","low","both","first","second","then","parts","cases","known","curried","either","idle","chain","use"]:List Str).Nodup by decide) (Hd.e_kf E (i:=34) (by decide));have z5:=Hd.c_refx (x:="KenError") D (i:=1) (by kernel_rfl) (by decide);have y4:=Hd.c_refx (x:="NoRule") D (i:=2) (by kernel_rfl) (by decide);have y5:=Hd.c_refx (x:="NoLine") D (i:=3) (by kernel_rfl) (by decide);obtain⟨f_ac0,fd_ac0,a⟩:=Hd.m_ini D2 E2 (r:=⟨3,1,0,zh "NoLine.__init__",zh "line"⟩) (.head _);obtain⟨q4,z_NoRule,j_1,j_2⟩:=Hd.c_exc D (ij:=(2,1)) (by decide);have b:=ybc X G (n:="len") (Hd.e_bl E (by decide));have c:=ybc X G (n:="range") (Hd.e_bl E (by decide));have f:=ybc X G (n:="list") (Hd.e_bl E (by decide));have z2:=ybc X G (n:="all") (Hd.e_bl E (by decide));have F:=ybc X G (n:="zip") (Hd.e_bl E (by decide));have M:=ybc X G (n:="sorted") (Hd.e_bl E (by decide));have J:=ybc X G (n:="enumerate") (Hd.e_bl E (by decide));have N:=ybc X G (n:="reversed") (Hd.e_bl E (by decide));have m_max:=ybc X G (n:="max") (Hd.e_bl E (by decide));have m_min:=ybc X G (n:="min") (Hd.e_bl E (by decide));have q7:=ybc X G (n:="isinstance") (Hd.e_bl E (by decide));have m_bool:=ybc X G (n:="bool") (Hd.e_bl E (by decide));cases hfa.symm.trans (W.mg_of X G a_by0);have F_by0:=Yv7 (st:=(top 68)) l_by0 c_by0 k_by0;have q3:=W.mg_of X G y3;have m_aa0:=W.mg_of X G g_LOW;have m_ag0:=W.mg_of X G q8;have m_af0:=W.mg_of X G g_RULES;have z3:=W.mg_of X G z5;have v1:=W.mg_of X G y4;have v2:=W.mg_of X G y5;have F_ac0:=a.fn;have b_ac0:=F_ac0.binds (ps:=["self","line"]) fun _ _ _ _ _ _ us hl=>Ken.len2 hl (fun _ _=>rfl);have q5:=a.xc;have q0:=q5.xc;have z_NoLine:=a.isi;have C:=a.set;have j6:=a.ini;have w_NoLine:=C.na;have d_NoLine:=C.hd;have i_1:=a.one;have i_2:=a.val;have y0:=q4.xc;refine⟨W.fnOf "law" "law" (Zd8 (top 68)) (Zc6 (top 68)) (Za6 (top 68)) .none kV_by0 dc_by0 pm_by0 an_by0 cd_by0 ct_by0,fun s v=>.of_eq rfl,fun base _ _=>?_⟩;have z:=Xh8 (P:=l.prog) (w:=w) (mg:=mg) (base:=base) (k:=0) z9;have L:=Wn8 (k:=1) (Hd.df2 X G E 49) (.of (z.mono (by decide)) m o p) b;have j1:=Wm5 (k:=1) (Hd.df1 X G E 50) (.of (z.mono (by decide)) m o p) c;have G_aw0:=Ys3 (P:=l.prog) (w:=w) (mg:=mg) (base:=base) F_aw0 O S (fun k=>Xh8 z9) m o p b 32;have u:=Ys3 (P:=l.prog) (w:=w) (mg:=mg) (base:=base) F_aw0 O S (fun k=>Xh8 z9) m o p b 2;have g:=Wk6 (P:=l.prog) (w:=w) (mg:=mg) (base:=base) (k:=0) (Hd.df2 X G E 11) q3 B;have V:=Wj6 (k:=1) (Hd.df2 X G E 14) (g.up (by decide)) b;have A:=Wm3 (k:=2) (Hd.df2 X G E 15) (V.up (by decide)) (g.up (by decide)) b;have d:=Wj3 (k:=2) (Hd.df2 X G E 16) (V.up (by decide));have t:=Wj9 (k:=2) (Hd.df2 X G E 17) (V.up (by decide)) (g.up (by decide)) f b;have I:=Wk3 (P:=l.prog) (w:=w) (mg:=mg) (base:=base) (k:=0) (Hd.df2 X G E 28);have G_bq0:=Wk8 (k:=3) F_bq0 (A.up (by decide));have G_bl0:=Wl3 (k:=3) F_bl0 (A.up (by decide)) m_aa0 t_LOW;have G_bd0:=Wm1 (P:=l.prog) (w:=w) (mg:=mg) (base:=base) (k:=0) F_bd0 f;have G_bi0:=Wl6 (P:=l.prog) (w:=w) (mg:=mg) (base:=base) (k:=0) F_bi0 f;have G_bn0:=Wl1 (P:=l.prog) (w:=w) (mg:=mg) (base:=base) (k:=0) F_bn0 f;have G_bo0:=Wl0 (k:=3) F_bo0 (t.up (by decide));have G_bm0:=Wl2 (k:=3) F_bm0 (t.up (by decide)) (d.up (by decide));have G_be0:=Wm0 (k:=3) F_be0 (t.up (by decide)) (d.up (by decide));have G_bk0:=Wl4 (k:=3) F_bk0 (A.up (by decide)) (t.up (by decide)) (d.up (by decide));have G_bg0:=Wl8 (k:=3) F_bg0 (I.up (by decide)) (t.up (by decide)) (d.up (by decide));have G_bh0:=Wl7 (k:=3) F_bh0 (I.up (by decide)) (t.up (by decide)) (d.up (by decide));have G_bj0:=Wl5 (k:=3) F_bj0 (I.up (by decide)) (d.up (by decide));have G_bf0:=Wl9 (k:=3) F_bf0 (I.up (by decide)) (t.up (by decide)) (d.up (by decide));have G_bp0:=Wk9 (k:=3) F_bp0 (t.up (by decide)) f;have y7:=Wk5 (k:=3) (Hd.df3 X G E 36) (A.up (by decide)) m_ag0 q6;have G_cc0:=Wj7 (k:=4) (fR:=Wh9 v3 v8 f_bd0 f_bi0 v6 v5 v7 f_be0 v9 f_bg0 f_bh0 f_bj0 f_bf0 v4) (fdR:=Wh9 fd_bq0 fd_bl0 fd_bd0 fd_bi0 fd_bn0 fd_bo0 fd_bm0 fd_be0 fd_bk0 fd_bg0 fd_bh0 fd_bj0 fd_bf0 fd_bp0) F_cc0 (y7.up (by decide)) m_af0 D_RULES v1 q4 (fun r=>match r with | .wish=>G_bq0.mono (by decide) | .low=>G_bl0.mono (by decide) | .both=>G_bd0.mono (by decide) | .first=>G_bi0.mono (by decide) | .second=>G_bn0.mono (by decide) | .thn=>G_bo0.mono (by decide) | .parts=>G_bm0.mono (by decide) | .cases=>G_be0.mono (by decide) | .known=>G_bk0.mono (by decide) | .curried=>G_bg0.mono (by decide) | .either=>G_bh0.mono (by decide) | .idle=>G_bj0.mono (by decide) | .chain=>G_bf0.mono (by decide) | .use=>G_bp0.mono (by decide)) (fun r=>match r with | .wish=>k_bq0 | .low=>k_bl0 | .both=>k_bd0 | .first=>k_bi0 | .second=>k_bn0 | .thn=>k_bo0 | .parts=>k_bm0 | .cases=>k_be0 | .known=>k_bk0 | .curried=>k_bg0 | .either=>k_bh0 | .idle=>k_bj0 | .chain=>k_bf0 | .use=>k_bp0) (fun r=>match r with | .wish=>b_bq0 | .low=>b_bl0 | .both=>b_bd0 | .first=>b_bi0 | .second=>b_bn0 | .thn=>b_bo0 | .parts=>b_bm0 | .cases=>b_be0 | .known=>b_bk0 | .curried=>b_bg0 | .either=>b_bh0 | .idle=>b_bj0 | .chain=>b_bf0 | .use=>b_bp0);have j0:=Wm2 (k:=1) (Hd.df1 X G E 13) (g.up (by decide)) z2 F;have j7:=Wj8 (k:=5) (Hd.df1 X G E 39) (G_cc0.mono (by decide)) m_cc0 k_cc0 b_cc0 v1 y0;have y6:=Wj5 (k:=3) (Hd.df3 X G E 40) (g.up (by decide)) (A.up (by decide)) z2;have G_bv0:=Wk4 (k:=6) F_bv0 (j0.up (by decide)) (j7.up (by decide)) (y6.up (by decide)) b z2 F;have G_ac0:=Wo3 (P:=l.prog) (w:=w) (mg:=mg) (base:=base) (k:=0) F_ac0 z3 j6 q0 C;have G_br0:=Wk7 (P:=l.prog) (w:=w) (mg:=mg) (base:=base) (k:=6) F_br0 (.of G_bv0 m_bv0 k_bv0 b_bv0) v2 (G_ac0.mono (by decide)) b_ac0 q5 c b;have G_ck0:=Xv9 (P:=l.prog) (w:=w) (mg:=mg) (base:=base) (k:=0) z6 q3 B;have G_cf0:=Xw1 (k:=1) z8 (.of (G_ck0.mono (by decide)) y8 k_ck0 b_ck0);have y1:=Wk0 (k:=2) (Hd.df1 X G E 10) (.of (G_cf0.mono (by decide)) y9 k_cf0 b_cf0) M;have U:=Wj4 (P:=l.prog) (w:=w) (mg:=mg) (base:=base) (k:=0) (Hd.df2 X G E 44) J b;have G_cj0:=Xw0 (P:=l.prog) (w:=w) (mg:=mg) (base:=base) (k:=0) z7 c F b;have G_bx0:=Wk2 (j:=2) F_bx0 y2 v_known m_bt0 k_bt0 b_bt0 (y1.up (by decide)) (U.up (by decide)) m_cj0 k_cj0 b_cj0 (fun K' R y=>FnOk.mono (Xw0 (P:=l.prog) (w:=w) (K:=K') (mg:=mg) (base:=R) (k:=0) (z7.le y) c F b) (by decide)) (fun K' y=>⟨(z7.le y).kp,b_cj0.le y⟩) (fun K' R H0 AD G tv f1 f2 fd1 fd2 y hA G1 k1 b1 G2 k2 b2=>Yy6 (P:=l.prog) (w:=w) (K:=K') (mg:=mg) (base:=R) (k:=3) hA (F_bt0.le y) (.of (FnOk.mono (Xw1 (P:=l.prog) (w:=w) (K:=K') (mg:=mg) (base:=R) (k:=1) (z8.le y) (.of (Xv9 (P:=l.prog) (w:=w) (K:=K') (mg:=mg) (base:=R) (k:=0) (z6.le y) q3 (fun H=>(B H).le y)) y8 (z6.le y).kp (b_ck0.le y))) (by decide)) y9 (z8.le y).kp (b_cf0.le y)) q3 (fun H=>(B H).le y) N G1 k1 b1 G2 k2 b2) b F;have G_at0:=Xo3 (P:=l.prog) (w:=w) (mg:=mg) (base:=base) F_at0 v0 b_at0 b 101;have e:=Wn2 (P:=l.prog) (w:=w) (mg:=mg) (base:=base) (k:=0) (Hd.df1 X G E 53) M;have j8:=Wm6 (k:=33) (Hd.df2 X G E 54) (.of (G_aw0.mono (by decide)) O z4 S) (.of (z.mono (by decide)) m o p);have G_am0:=Wn7 (k:=1) F_am0 (e.up (by decide));have q:=Wn0 (P:=l.prog) (w:=w) (mg:=mg) (base:=base) (k:=0) (Hd.df3 X G E 56) b;have j3:=Wn5 (P:=l.prog) (w:=w) (mg:=mg) (base:=base) (k:=0) (Hd.df4 X G E 57) c b;have Z:=Wo1 (k:=1) (Hd.df5 X G E 58) (e.up (by decide)) (q.up (by decide)) b f;have j4:=Wo0 (k:=2) (Hd.df6 X G E 59) (q.up (by decide)) (e.up (by decide)) (.of (G_am0.mono (by decide)) m_am0 k_am0 b_am0) b;have q2:=Wn9 (k:=1) (Hd.df6 X G E 60) (q.up (by decide)) (j3.up (by decide)) (e.up (by decide));have z0:=Wn3 (k:=102) (Hd.df3 X G E 61) (.of (u.mono (by decide)) O z4 S) (q.up (by decide)) (.of (z.mono (by decide)) m o p) (Z.up (by decide)) (j4.up (by decide)) (q2.up (by decide)) (.of (G_at0.mono (by decide)) v0 k_at0 b_at0) b m_max;have j5:=Wo2 (k:=103) (Hd.df4 X G E 62) (.of (u.mono (by decide)) O z4 S) (L.up (by decide)) (z0.up (by decide)) (.of (z.mono (by decide)) m o p) c m_min b;have z1:=Wn6 (P:=l.prog) (w:=w) (mg:=mg) (base:=base) (k:=0) (Hd.df1 X G E 63) f;have Y:=Wm9 (k:=34) (Hd.df3 X G E 64) (j8.up (by decide)) (.of (z.mono (by decide)) m o p) (e.up (by decide)) b c N;have q1:=Wm4 (k:=1) (Hd.df3 X G E 65) (.of (z.mono (by decide)) m o p) c f J M;have j9:=Wm7 (k:=6) (T:=Hd.tabAt K "known") (ds:=Zg1) (Hd.df2 X G E 66) (.of (G_bx0.mono (by decide)) m_bx0 k_bx0 b_bx0) q7 f b m_bool;have j2:=Wn4 (k:=7) (T:=Hd.tabAt K "known") (ds:=Zg1) (Hd.df2 X G E 67) (j9.up (by decide)) b F c;have G_by0:=Wk1 (k:=104) F_by0 (j1.up (by decide)) (L.up (by decide)) (j5.up (by decide)) (.of (z.mono (by decide)) m o p) (Y.up (by decide)) (z1.up (by decide)) (G_br0.mono (by decide)) m_br0 k_br0 b_br0 v2 q0 (q1.up (by decide)) (j2.up (by decide)) c;exact G_by0
noncomputable def dLaw:PySem.DefRec:=⟨"law",Zd8 (top 68),Zc6 (top 68),Za6 (top 68),Hd.posOf (top 68)⟩
theorem wlk:W.WalkO q loose (W.XL q []) (Hd.hook4 pg ask cask mask tas).says (zbq).row.toRowW dLaw [] (fun f vs=>PySem.call f vs) :=
 Hd.walkH4 (l:=zbq) (n:=63) (k:=105) (x:="_law_script") (CX:=CX0) (sp:=fun K b=>(fun K=>sp_law26 K (b.getD 0 0)) K) rfl (by decide) rfl ⟨rfl,by decide,by decide⟩ (by decide) (fun w u v h K y r G e E D s t m o i=>by
   rw[Xp8]
   exact Wd6 r G e E D s t m o i)
  (fun K b H a g j c d p=>by
   have c:b.length=1:=c
   match b,c,d with
   | [T_known],_,d=>exact⟨a,g,rfl,p,j,TabOk.new (d T_known (by simp)),fun _=>rfl⟩) fun _ _ _ _ z=>z
end
end KLaw
open PySem PySem.W PyProof.Rows
set_option maxRecDepth 100000 in
set_option maxHeartbeats 0 in
theorem PySem.Challenge.cw_ken_k26_lines_hold_in_worlds_holds : PySem.Challenge.rw_ken_k26_lines_hold_in_worlds.Holds := by
 refine W.holds_law ws0 fun said=>W.holds_open (q:=KLaw.q) (loose:=KLaw.loose) (XP:=XL KLaw.q []) (d:=KLaw.dLaw) (kwd:=[]) (YP:=(Hd.hook4 KLaw.pg KLaw.ask KLaw.cask KLaw.mask KLaw.tas).says)
  KLaw.lft (Hd.hook4 KLaw.pg KLaw.ask KLaw.cask KLaw.mask KLaw.tas).of (Hd.hook4 KLaw.pg KLaw.ask KLaw.cask KLaw.mask KLaw.tas).keeps
  (fun s e=>xl_of s (ycj.mp e).1) XL.keeps (by kernel_rfl) (by kernel_rfl) rfl (fun s e=>recFacts_of (ycj.mp e).2)
  rfl said (by decide +kernel) ⟨rfl,rfl,rfl,rfl,rfl,by decide +kernel⟩ ?hw ?hc
 (case hw=>w_witness2)
 exact KLaw.wlk
