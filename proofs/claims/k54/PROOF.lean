import PyProof.Rows.All
import Wide.All
import OpenK.AllK
import Wide.FinOn
import Lean
import PyProof.EqAt
import PyProof.EqKinds
import PyProof.TupleCall
import PyProof.NeData
import PyProof.P3In
import PyProof.ZipIter
import PyProof.Rows.ZipGen
import KE.KRevIter
import PyProof.CollectIter
import PyProof.ListRange
import PyProof.EnumMake
import PyProof.EnumFor
import PyProof.EnumStmt
import PyProof.Rows.SortStr
import KE.KDictList
import KE.KSortTup
import KE.KSortAsk
import PyProof.SumAny
import PyProof.WalksMore
import KE.KTupSum
import PyProof.FactsAll.set
import PyProof.Rows.SetFrom
import PyProof.InstStoreFacts
import PyProof.Rows.Range3
import PyProof.FactsAll.tuple_2
import PyProof.Rows.SeqMore2
import PyProof.Rows.SortShell
import PyProof.Draws
import KE.KxText
import PyProof.SeqI3
import PyProof.Rows.CallKwBuiltin
import PySem.Challenge.RW_ken_k54_kind_stays
set_option tactic.hygienic false
set_option autoImplicit true
set_option maxRecDepth 100000 in
set_option maxHeartbeats 0 in
theorem ws0:PySem.Challenge.rw_ken_k54_kind_stays.wellSaid=true:=by decide +kernel
variable {A:PySem.Around}{B C C0 I T T1 T2 T3 a aINNER aPAIRED b dx f f_ab0 f_br0 f_ca0 f_ct0 f_da0 ga i1 i2 it l l1 l2 lp lw p z:PySem.Addr}{K K':PySem.W.Frag}{M:PySem.Model}{N' fv ps ws:List PySem.Str}{aT:Nat->PySem.Addr}{acc cd ct doc oc pm u v:PySem.Value}{bad fp ts:List PySem.Addr}{bm its us vs:List PySem.Value}{body:PySem.Addr->PySem.Env->PySem.Sem Unit}{ci:List Nat}{cl:List (PySem.Str×PySem.Addr)}{d ep i j k0 k1 k2 m n nt t':Nat}{dd od:Option PySem.Addr}{ds:List (PySem.Pos×PySem.Str)}{env:PySem.Env}{es:Array (Int×PySem.Value)}{h h':PySem.Heap}{id:String}{lo:Int}{mg:PySem.Str->Option PySem.Value}{name qual x:PySem.Str}{op:PySem.CmpOp}{osl:Array (Option PySem.Value)}{outer:List PySem.Env}{p0 pos pos' tpos:PySem.Pos}{pins xs:List (PySem.Addr×PySem.Obj)}{s s':PySem.Shared}{sc scope:PySem.Scope}{st:PySem.Stmt}{w:PySem.World}{ys:Array PySem.Value}
open PySem renaming wpAny_bind→za,wpAny_pure→yb,FuncData→zc,mainGlobals→ye,Program→zf,sizeLine→zi,wpAny_setField_rec→zw,starEach→zx,wpAny_newObj_type→yab,wpAny_field→zad,wpAny_call_entry→yae,wpAny_callSpecial?_slot→zah,mem_of_lookup→yah,compareOp→yai,intKind→zao,wpAny_seqItems→yao,wpAny_holding→zap,wpAny_setState_of→yap,wpAny_Call_Name_kw→yar,wpAny_askSetting→yat,SetTable→zau,sysModules→zaw,wpAny_truthy_bool→yaz,foldedSetIterable→zba,wpAny_of_eq→zbc,bootBuiltins→ybc,wpAny_isInstance→ybh,Comprehension→zbj,wpAny_passesOwn→zbn,importedModules→ybo,binaryOp→zbq,plainId_quiet→ybr,wpAny_mono→ybt,wpAny_rule→ybu,sliceBounds→zby,wpAny_specialOf→yby,DictEntry→zbz,codeAny_builtin→ybz,behindInMarks→ycb,codeAny→ycd,codeAmong→zcg,wpAny_setField→zch,NameKind→zci,wpAny_standAt→zco,wpAny_attempt→ycq,pickOrder→zcr,wpAny_updateSeq→zcs,wpAny_pyIter_rangeiter→yct,assignEach→ycu,fastTable_eq_tree→ycv,setField→ycw,isSubtype_stop→zcx,wpAny_tryCatch→ycx,OsState→zda,attributeBase→zdd,builtinsNs→zdf,wpAny_execs_nil→zdg,Arguments→zdh,wpAny_letGo→ydi,codeAny_mono→zdk,Builtin→zdn,swapsWith→zdo
open PySem.Heap renaming get?_push_of_some→ya,get?_push_size→zh,lt_size→zj,get?_update_other→yw,get?_update_self→yaa,SameBut→zal,size_push→zbd,ExtBut→zdi
open List renaming getElem?_eq_getElem→zb,getElem?_eq_some_iff→yc,mem_cons→zd,length_append→yd,mem_singleton→yf,mem_append→yg,getElem?_append_left→yh,getElem?_append_right→yk,mem_append_right→zm,length_map→yn,mem_cons_of_mem→zo,mem_of_getElem?→yo,not_mem_nil→zq,reverse_cons→zr,mem_append_left→zy,length_singleton→zab,length_cons→zac,append_nil→yac,nodup_cons→yaf,length_reverse→zag,lookup→zaj,mem_cons_self→zak,length_take→yal,map_append→zam,append_assoc→yam,map_cons→yan,flatMap_cons→zaq,dropLast_concat→zar,prefix_refl→yau,getElem_of_mem→zav,mem_map→zax,lookup_cons→yax,all_eq_true→zay,getElem?_map→yba,length_replicate→ybb,size_toArray→ybd,take_of_length_le→ybg,lookup_append→ybi,Perm→ybj,reverse_reverse→ybm,zipWith→ybp,length→ybq,length_drop→ybs,range→zbt,replicate→ycf,drop_eq_getElem_cons→ych,getElem_mem→zcj,filterMap_cons→yck,reverse_append→zcm,of_mem_zip→yco,getElem?_replicate→zcp,length_eq_zero_iff→ycr,drop_of_length_le→zcu,nodup_nil→zcw,mem_reverse→ycz,any_eq_true→yda,getElem?_set_ne→zdb,mem_of_mem_drop→ydb,mem_of_mem_take→zdc,forIn_cons→ydh,map→ydk,drop_zero→ydn
open PySem.Str renaming ofString→ze,length_append→zbp,empty→ybx
open Nat renaming le_refl→zg,le_trans→yj,lt_of_lt_of_le→zn,ne_of_lt→yq,le_of_lt→zv,zero_le→yaq,mul_add→zbf,sub_self→zbk,sub_zero→ybk,min_le_right→zbs,add_comm→yca,le_of_ble_eq_true→zcb,lt_succ_of_lt→zcc,le_add_right→ycj,lt_of_le_of_lt→ycp,exists_eq_add_of_le→ycs,le_of_eq→zcy,zero_add→ycy,add_zero→zcz,mul_comm→ydl
open Bool renaming false_ne_true→yi,and_eq_true→yr
open PySem.Paired renaming length→zk
open PySem.F renaming plainAttrs_list→yl,slot_list_append→yv,type_list_append→yx,slot_list_pop→zbb,type_list_pop→ybf,plain_max_loop→zbi,slot_list_extend→zbw,type_list_extend→zct,slot_zip_next→zdj
open Prod.mk renaming inj→ym,injEq→ycc
open Int renaming emod_lt_of_pos→yp,emod_nonneg→yu
open PySem.Value renaming ref→yt,none→yz,type→zaa,int→zcf,isInt→zck,bool→yde
open Option.some renaming inj→zu,injEq→ydo
open List.cons renaming inj→yy
open Array renaming getElem?_eq_getElem→zz,length_toList→ybe,getElem?_eq_some_iff→zbh
open PySem.NameKind renaming free→yad,cell→zat
open PySem.PyData renaming eqvAll→zae,keyHash→zas,eqv→yaw,strOk→ybw,canLayAll0→zcd,strOk→zdl
open PyProof.Rows renaming callWith_type1→zaf,envOfC→zbg,mul_one_list→zbm,slot_tuple_getitem→zbo,slot_tupleiter_next→zcl,AllBare→zdp
open PySem.World renaming withFollow→yag
open Option renaming map_eq_some_iff→zai,isSome_iff_exists→ybn,none_or→ydm,none→ydp
open PySem.Builtin.Range renaming rangeFitsLong→yaj
open PySem.SetTable renaming below→yak,grown→zbv,laid→ydd
open PySem.W renaming keepIn→zan,mg_none_of→yay,mg_of→ybv,codeIn→yci,findIn→ydc,hasDictIn→ydg
open PySem.PassesOwn renaming never→yas
open PySem.Heap.SameBut renaming update→yav
open PySem.Builtin.SmallTypes renaming stopIteration→zaz,nextOf→ycg,ownedTupleFields→ycl
open Ne renaming symm→zbe
open Sum renaming inr→zbl,inl→ycn
open PySem.Builtin.Slice renaming slicePlaces→ybl,sliceAdjust→zdm
open PySem.Heap.IsTupleIter renaming typeIs→zbr
open True renaming intro→zbu
open PySem.Data renaming seq→zbx
open PySem.Around renaming under_plainId→zce
open PySem.Challenge renaming rw_ken_k54_kind_stays→yce
open False renaming elim→ycm
open PySem.Builtin.List renaming listTooLong→zcn,listExtendWith→ydj
open PySem.Obj renaming data_mapFields→zcq,mapSeq→ydf
open PySem.Txt renaming mul→zcv
open ToString renaming toString→zde
open Iff renaming rfl→zdq
local macro_rules | `(tactic| omega)=>`(tactic| lia)
set_option Elab.async false
set_option linter.all false
set_option maxRecDepth 100000
namespace L2
open PySem PySem.Spec PyProof.Rows
noncomputable abbrev Key:=Sum Int Str
noncomputable def Xd0:Key->Value->Bool
 | .inl k,v=>zck k v
 | .inr x,v=>Value.isStrOf x v
noncomputable def keyH (w:World):Key->Int
 | .inl k=>hashInt k
 | .inr x=>hashStr w x
theorem Zg4:∀{k:Key} {v:Value},Xd0 k v=true->(∃i t,k=ycn i/\v=zcf i t)∨(∃x t,k=zbl x/\v=Value.str x t)
 | .inl i,v,h=>by
  obtain⟨t,e⟩:=Value.isInt_shape h;exact .inl ⟨i,t,rfl,e⟩
 | .inr x,v,h=>by
  obtain⟨t,e⟩:=Value.isStrOf_shape h;exact .inr ⟨x,t,rfl,e⟩
theorem Xl6 (i:Int)(t:Tok):Xd0 (.inl i) (.int i t)=true:=by simp[Xd0,zck]
theorem Xl5 (x:Str)(t:Tok):Xd0 (.inr x) (.str x t)=true:=by simp[Xd0,Value.isStrOf]
theorem Ws1 (a b:Int):decide ((ycn a:Key)=ycn b)=(a == b):=by
 grind
theorem Wr8 (a b:Str):decide ((zbl a:Key)=zbl b)=decide (a=b):=by simp
theorem Ws0 (a:Int)(b:Str):decide ((ycn a:Key)=zbl b)=false:=by rfl
theorem Wr9 (a:Str)(b:Int):decide ((zbl a:Key)=ycn b)=false:=by rfl
noncomputable def Zg6 (prog:zf)(w:World):PySem.KeyKind prog w Key where
  is:=Xd0
  hash:=keyH w
  inj:=fun v a b ha hb=>by
    rcases Zg4 ha with ⟨i,t,rfl,rfl⟩ | ⟨x,t,rfl,rfl⟩
    · rcases Zg4 hb with ⟨j,u,rfl,e⟩ | ⟨y,u,rfl,e⟩
      · injection e with e1 _;rw[e1]
      · exact nomatch e
    · rcases Zg4 hb with ⟨j,u,rfl,e⟩ | ⟨y,u,rfl,e⟩
      · exact nomatch e
      · injection e with e1 _;rw[e1]
  byValue:=fun k v h=>by
    rcases Zg4 h with ⟨i,t,rfl,rfl⟩ | ⟨x,t,rfl,rfl⟩<;>rfl
  pyHash:=fun hv h=>by
    rcases Zg4 hv with ⟨i,t,rfl,rfl⟩ | ⟨x,t,rfl,rfl⟩
    · exact wpAny_pyHash_int h
    · exact wpAny_pyHash_str h
  eqBool:=fun hu hv h=>by
    rcases Zg4 hu with ⟨i,t,rfl,rfl⟩ | ⟨x,t,rfl,rfl⟩
    · rcases Zg4 hv with ⟨j,u,rfl,rfl⟩ | ⟨y,u,rfl,rfl⟩
      · rw[Ws1] at h;exact wpAny_eqBool_int h
      · rw[Ws0] at h;exact SeqAt.EqAt.int_str i t y u _ _ _ _ h
    · rcases Zg4 hv with ⟨j,u,rfl,rfl⟩ | ⟨y,u,rfl,rfl⟩
      · rw[Wr9] at h;exact SeqAt.EqAt.str_int x t j u _ _ _ _ h
      · rw[Wr8] at h;exact wpAny_eqBool_str h
  «strs»:=fun k x t v h=>by
    rcases Zg4 h with ⟨i,u,rfl,e⟩ | ⟨y,u,rfl,e⟩
    · exact nomatch e
    · injection e with e1 _
      subst e1
      cases v<;>rfl
theorem Yt5 (prog:zf)(w:World)(i:Int)(t:Tok):(Zg6 prog w).is (.inl i) (.int i t)=true:=Xl6 i t
theorem Yb6 (prog:zf)(w:World)(x:Str)(t:Tok):(Zg6 prog w).is (.inr x) (.str x t)=true:=Xl5 x t
inductive V where
 |non | bl (b:Bool) | int (i:Int) | str (x:Str) | byt (b:Array UInt8) | flt (b:UInt64) | ref (a:Addr) | ty (n:String)
 deriving DecidableEq
def RelV:V->Value->Prop
 | .non,u=>u=yz
 | .bl b,u=>u=yde b
 | .int i,u=>∃t,u=zcf i t
 | .str x,u=>∃t,u=Value.str x t
 | .byt b,u=>∃t,u=Value.bytes b t
 | .flt b,u=>∃t,u=Value.float b t
 | .ref a,u=>u=yt a
 | .ty n,u=>u=zaa n
abbrev Vals:List V->List Value->Prop:=Paired RelV
theorem Vals.length {xs:List V}(r:Vals xs us):xs.length=us.length:=zk r
theorem Vals.get:∀{xs:List V} {us:List Value} {i:Nat} {x:V},Vals xs us->xs[i]?=some x->∃u,us[i]?=some u/\RelV x u
 | _,_,_,_,.nil,e=>by simp at e
 | _,_,0,_,.cons r _,e=>by simp at e;subst e;exact⟨_,rfl,r⟩
 | _,_,i+1,x,.cons _ t,e=>by
  obtain⟨u,h1,h2⟩:=Vals.get (i:=i) (x:=x) t (by simpa using e)
  simp_all
theorem Vals.set {x:V}(r:RelV x u):∀{xs:List V} {us:List Value} (i:Nat),Vals xs us->Vals (xs.set i x) (us.set i u)
 | _,_,_,.nil=>.nil
 | _,_,0,.cons _ t=>.cons r t
 | _,_,i+1,.cons q t=>.cons q (Vals.set r i t)
theorem Vals.append:∀{xs ys:List V} {us ws:List Value},Vals xs us->Vals ys ws->Vals (xs++ys) (us++ws)
 | _,_,_,_,.nil,s=>s
 | _,_,_,_,.cons r t,s=>.cons r (Vals.append t s)
theorem Vals.take:∀{xs:List V} {us:List Value} (n:Nat),Vals xs us->Vals (xs.take n) (us.take n)
 | _,_,0,_=>.nil
 | _,_,_+1,.nil=>.nil
 | _,_,n+1,.cons r t=>.cons r (Vals.take n t)
theorem Vals.drop:∀{xs:List V} {us:List Value} (n:Nat),Vals xs us->Vals (xs.drop n) (us.drop n)
 | _,_,0,r=>r
 | _,_,_+1,.nil=>.nil
 | _,_,n+1,.cons _ t=>Vals.drop n t
def RelO:Option V->Option Value->Prop
 |some v,some u=>RelV v u
 |none,none=>True
 | _,_=>False
def KV {κ:Type}:List (κ×V)->List (κ×Value)->Prop:=Paired fun (p:κ×V) (q:κ×Value)=>p.1=q.1/\RelV p.2 q.2
noncomputable def kV:Key->V
 | .inl i=>.int i
 | .inr x=>.str x
inductive HO where
 |lst (xs:List V)
 |tup (xs:List V)
 |dK (kvs:List (Key×V)) | dT (kvs:List (List Key×V))
 |set (S:Int->Bool) (n:Nat)
 |ins (C dx:Addr) (fs:List (Str×V))
 |own (x:Addr)
 |xd (fs:List (Str×V))
 |met (f x:Addr)
 |rng (lo hi:Int)
 |frz (o:Obj) (u:HO)
 |tbl (ps:Array Value)
 |ext (φ:Heap->Prop)
noncomputable abbrev Hp:=Addr->Option HO
noncomputable def upd (H:Hp)(a:Addr)(o:HO):Hp:=fun b=>if b=a then some o else H b
theorem Za5 {H:Hp}{o:HO}:upd H a o a=some o:=by unfold upd;simp
theorem Za9 {H:Hp}{o:HO}(h:b≠a):upd H a o b=H b:=by unfold upd;simp_all
theorem Yg3 {H:Hp}{o u:HO}:upd (upd H a o) a u=upd H a u:=by
 unfold upd;grind
theorem Yt3 {H:Hp}{o u:HO}(h:H a=some o)(h':H b=some u)(d:o≠u):a≠b:=by
 grind
theorem Zb0 {H:Hp}{o:HO}(h:H a=some o)(h':H b=none):a≠b:=by
 grind
section
variable (P:zf)(w:World)
def ObjOk (H:Hp)(h:Heap)(a:Addr):HO->Prop
 | .lst xs=>xs.length<=zi/\∃(its:List Value) (n:Nat),Vals xs its/\h.get? a=some { cls:=.type "list",data:=.seq its.toArray n }
 | .tup xs=>xs.length<=zi/\∃its:List Value,Vals xs its/\IsTup h a its.toArray
 | .dK kvs=>kvs.length<=zi/\(a == zaw)=false/\∃vs,KV kvs vs/\h.DictOf (Zg6 P w) a vs
 | .dT kvs=>kvs.length<=zi/\(a == zaw)=false/\∃xs:List (List Key×Addr×Value),
   Paired (fun (p:List Key×V) (q:List Key×Addr×Value)=>p.1=q.1/\H q.2.1=some (.tup (p.1.map kV))/\RelV p.2 q.2.2) kvs xs /\
   ∃o es ep,h.get? a=some o/\o.ExactDict/\o.data=.dict es ep/\es.toList=xs.map (entryOfKey (tupleKind (Zg6 P w)))/\(xs.map (·.1)).Nodup
 | .set S n=>h.SetOf (intKind P w) a S n
 | .ins C dx fs=>H dx=some (.own a)/\fs.length<=1000/\dx≠a/\h.get? a=some (W.instObj C dx) /\
   ∃mA,h.Ns1 dx mA/\(∀f,RelO (fs.lookup f) (mA f))/\PySem.Within mA (fs.map (·.1))
 | .own _=>∃o,h.get? a=some o
 | .xd fs=>∃mA,h.Ns1 a mA/\∀f,RelO (fs.lookup f) (mA f)
 | .rng lo hi=>∃t u v,h.get? a=some { cls:=.type "range",data:=.fields #[.int lo t,.int hi u,.int 1 v] }
 | .frz o u=>h.get? a=some o/\ObjOk H h a u
 | .tbl ps=>h.get? a=some { cls:=.none,data:=.fields ps }
 | .met f x=>h.get? a=some (W.methodObj (.ref f) (.ref x))
 | .ext φ=>φ h/\(∃o,h.get? a=some o)/\∀h1 h2:Heap,φ h1->(∀o,h1.get? a=some o->h2.get? a=some o)->φ h2
def HOk (H:Hp)(h:Heap):Prop:=∀a o,H a=some o->ObjOk P w H h a o
end
section
variable {P:zf}{H H':Hp}{o:HO}
theorem ObjOk.lt (x:ObjOk P w H h a o):a < h.objs.size:=by
 cases o with
 |lst xs=>obtain⟨_,_,_,_,e⟩:=x;exact zj e
 |tup xs=>obtain⟨_,_,_,p⟩:=x;exact p.lt
 |dK kvs=>obtain⟨_,_,_,_,o,_,_,e,_⟩:=x;exact zj e
 |dT kvs=>obtain⟨_,_,_,_,o,_,_,e,_⟩:=x;exact zj e
 |set S n=>obtain⟨o,_,_,_,e,_⟩:=x;exact zj e
 |ins C dx fs=>exact zj x.2.2.2.1
 |own y=>obtain⟨_,e⟩:=x;exact zj e
 |xd fs=>obtain⟨_,⟨_,_,_,e,_⟩,_⟩:=x;exact zj e
 |rng lo hi=>obtain⟨_,_,_,e⟩:=x;exact zj e
 |frz ob u=>exact zj x.1
 |tbl ps=>exact zj (x)
 |met f y=>exact zj (x)
 |ext φ=>obtain⟨_,⟨_,e⟩,_⟩:=x;exact zj e
theorem Paired.mapP {α β:Type}{F G:α->β->Prop}:∀{l₁:List α} {l₂:List β},Paired F l₁ l₂->(∀a b,F a b->G a b)->Paired G l₁ l₂
 | _,_,.nil,_=>.nil
 | _,_,.cons r t,f=>.cons (f _ _ r) (Paired.mapP t f)
theorem ObjOk.stay (x:ObjOk P w H h a o)(k:∀b u,(b=a∨H b=some (.own a))->h.get? b=some u->h'.get? b=some u)
  (ho:∀b,H b=some (.own a)->H' b=some (.own a)) (ht:∀b xs,H b=some (.tup xs)->H' b=some (.tup xs)):ObjOk P w H' h' a o:=by
 induction o with
 |lst xs=>obtain⟨z,l,n,r,e⟩:=x;exact⟨z,l,n,r,k _ _ (.inl rfl) e⟩
 |tup xs=>obtain⟨z,l,r,g,e,c⟩:=x;exact⟨z,l,r,g,k _ _ (.inl rfl) e,c⟩
 |dK kvs=>obtain⟨z,y,B,r,g,i,j,e,c⟩:=x;exact⟨z,y,B,r,g,i,j,k _ _ (.inl rfl) e,c⟩
 |dT kvs =>
  obtain⟨z,y,xs,r,g,i,j,e,c⟩:=x;exact⟨z,y,xs,Paired.mapP r fun p q z=>⟨z.1,ht _ _ z.2.1,z.2.2⟩,g,i,j,k _ _ (.inl rfl) e,c⟩
 |set S n=>obtain⟨g,i,j,t,e,c⟩:=x;exact⟨g,i,j,t,k _ _ (.inl rfl) e,c⟩
 |ins C dx fs =>
  obtain⟨d,z,D,e,s,⟨m,i,j,F,c⟩,r⟩:=x;exact⟨ho _ d,z,D,k _ _ (.inl rfl) e,s,⟨m,i,j,k _ _ (.inr d) F,c⟩,r⟩
 |own y=>obtain⟨g,e⟩:=x;exact⟨g,k _ _ (.inl rfl) e⟩
 |xd fs=>obtain⟨s,⟨m,i,j,e,c⟩,r⟩:=x;exact⟨s,⟨m,i,j,k _ _ (.inl rfl) e,c⟩,r⟩
 |rng lo hi=>obtain⟨t,u,v,e⟩:=x;exact⟨t,u,v,k _ _ (.inl rfl) e⟩
 |frz g u ih=>exact⟨k _ _ (.inl rfl) x.1,ih x.2⟩
 |tbl ps =>
  have e  := x;exact k a _ (.inl rfl) e
 |met f y =>
  have e  := x;exact k a _ (.inl rfl) e
 |ext φ=>obtain⟨p,⟨o,e⟩,A⟩:=x;exact⟨A _ _ p fun o q=>k _ _ (.inl rfl) q,⟨o,k _ _ (.inl rfl) e⟩,A⟩
theorem HOk.lt (x:HOk P w H h)(e:H a=some o):a < h.objs.size:=(x a o e).lt
theorem HOk.fresh (x:HOk P w H h)(e:h.objs.size<=a):H a=none:=by
 cases q:H a with
 |none=>rfl
 |some u=>exact absurd (zn (x.lt q) e) (by simp)
theorem HOk.kept (x:HOk P w H h)(k:∀b u,h.get? b=some u->h'.get? b=some u):HOk P w H h':=fun a o e =>
 (x a o e).stay (fun b u _ q=>k b u q) (by simp) fun _ _ q=>q
theorem HOk.laid (x:HOk P w H h)(k:∀b u,h.get? b=some u->h'.get? b=some u)(hp:h.objs.size<=a)(new:ObjOk P w (upd H a o) h' a o):HOk P w (upd H a o) h':=fun b u e=>by
 have d:=x.fresh hp
 by_cases hb:b=a
 ·subst hb;rw[Za5] at e;simp_all
 ·rw[Za9 hb] at e
  exact (x b u e).stay (fun c v _ q=>k c v q) (fun c q=>by rw[Za9 (Zb0 q d)];exact q) fun c f q=>by rw[Za9 (Zb0 q d)];exact q
end
def Rd (H:Hp)(a:Addr)(u:HO):Prop:=H a=some u∨∃o,H a=some (.frz o u)
theorem Rd.ok {P:zf}{H:Hp}{u:HO}(r:Rd H a u)(x:HOk P w H h):ObjOk P w H h a u:=by
 rcases r with r | ⟨o,r⟩
 ·exact x a u r
 ·obtain⟨_,q⟩:=x a _ r
  exact q
def Mut:Option HO->Prop
 |some (.lst _)=>True
 |some (.dK _)=>True
 |some (.dT _)=>True
 |some (.set _ _)=>True
 |some (.ins _ _ _)=>True
 |some (.ext _)=>True
 | _=>False
section
variable {P:zf}{H:Hp}{x e:Addr}{o':HO}
theorem HOk.write (ok:HOk P w H h)(mu:Mut (H x))(he:e=x∨H e=some (.own x))(k:∀b u,b≠e->h.get? b=some u->h'.get? b=some u)(heo:∃u,h'.get? e=some u)
  (new:ObjOk P w (upd H x o') h' x o'):HOk P w (upd H x o') h':=fun b u q=>by
 have f:∀c y,H c=some (.own y)->c≠x:=fun c y r z=>by subst z;rw[r] at mu;exact mu
 have d:∀c a,H c=some (.tup a)->c≠x:=fun c a r z=>by subst z;rw[r] at mu;exact mu
 by_cases hb:b=x
 ·subst hb;rw[Za5] at q;simp_all
 ·rw[Za9 hb] at q
  by_cases hbe:b=e
  ·have g:H b=some (.own x):=by
    grind
   rw[q] at g;cases g;obtain⟨v,i⟩:=heo;exact⟨v,by simp_all⟩
  ·refine (ok b u q).stay (fun c v j r=>k c v ?_ r) (fun c r=>by rw[Za9 (f c b r)];exact r) fun c a r=>by rw[Za9 (d c a r)];exact r
   grind
end
structure Un (fs ex:List Addr)(H H':Hp)(h h':Heap):Prop where
 keep:∀b o,h.get? b=some o->H b=none->b ∉ fs->b ∉ ex->h'.get? b=some o
 slot:∀b o,h.get? b=some o->H b=none->b∈fs->b ∉ ex->∃sl,h'.get? b=some { o with slots:=sl }
 free:∀b o,h.get? b=some o->H b=none->b ∉ ex->H' b=none
 there:∀b o,h.get? b=some o->b ∉ ex->∃o',h'.get? b=some o'
 tups:∀b xs,H b=some (.tup xs)->H' b=some (.tup xs)
 frzs:∀b o u,H b=some (.frz o u)->H' b=some (.frz o u)
 tbls:∀b ps,H b=some (.tbl ps)->∃more,H' b=some (.tbl (ps++more))
section
variable {fs fs' ex ex':List Addr}{H H1 H2:Hp}{h1 h2:Heap}{x e:Addr}{o:HO}
theorem Un.any (u:Un fs ex H H1 h h1){ob:Obj}(q:h.get? b=some ob)(n:H b=none)(hx:b ∉ ex):∃sl,h1.get? b=some { ob with slots:=sl }:=by
 by_cases hb:b∈fs
 ·exact u.slot b ob q n hb hx
 ·exact⟨ob.slots,u.keep b ob q n hb hx⟩
theorem Un.kept (k:∀b u,h.get? b=some u->h'.get? b=some u):Un fs ex H H h h' :=
 ⟨fun b a q _ _ _=>k b a q,fun b a q _ _ _=>⟨a.slots,k b a q⟩,fun _ _ _ n _=>n,fun b a q _=>⟨a,k b a q⟩,fun _ _ q=>q,fun _ _ _ q=>q,fun _ c q=>(by simp_all)⟩
theorem Un.refl:Un fs ex H H h h:=Un.kept fun _ _ q=>q
theorem Un.laid (k:∀b u,h.get? b=some u->h'.get? b=some u)(hp:h.objs.size<=a)(hn:H a=none):Un fs ex H (upd H a o) h h' where
 keep:=fun b u q _ _ _=>k b u q
 slot:=fun b u q _ _ _=>⟨u.slots,k b u q⟩
 free:=fun b u q n _=>by rw[Za9 (yq (zn (zj q) hp))];exact n
 there:=fun b u q _=>⟨u,k b u q⟩
 tups:=fun b c q=>by rw[Za9 (Zb0 q hn)];exact q
 frzs:=fun b u c q=>by rw[Za9 (Zb0 q hn)];exact q
 tbls:=fun b d q=>⟨#[],by rw[Za9 (Zb0 q hn),q];simp⟩
theorem Un.write (mu:Mut (H x))(he:e=x∨H e=some (.own x))(k:∀b u,b≠e->h.get? b=some u->h'.get? b=some u)(heo:∃u,h'.get? e=some u):Un fs ex H (upd H x o) h h':=by
 have f:∀b,H b=none->b≠x:=fun b n z=>by subst z;rw[n] at mu;exact mu
 have c:∀b,H b=none->b≠e:=fun b n z=>by
  grind
 have a:∀b u,H b=some u->¬Mut (some u)->b≠x:=fun b u q i z=>by simp_all
 refine⟨fun b u q n _ _=>k b u (c b n) q,fun b u q n _ _=>⟨u.slots,k b u (c b n) q⟩,fun b u q n _=>by rw[Za9 (f b n)];exact n,fun b u q _=>?_,
  fun b d q=>by rw[Za9 (a b _ q fun z=>z)];exact q,fun b u d q=>by rw[Za9 (a b _ q fun z=>z)];exact q,fun b g q=>⟨#[],by rw[Za9 (a b _ q fun z=>z),q];simp⟩⟩
 grind
end
noncomputable def trk (h:Heap)(H:Hp):List Addr:=(zbt h.objs.size).filter fun a=>(H a).isSome
noncomputable def hidT (h:Heap)(H:Hp):Heap:=W.hideAll h (trk h H)
theorem Xm9 (h:Heap)(H:Hp):(hidT h H).objs.size=h.objs.size:=W.hideAll_size _ _
theorem Xu0 {H:Hp}{o:Obj}(e:h.get? b=some o)(n:H b=none):(hidT h H).get? b=some o :=
 W.hideAll_get _ e fun a=>by
  have q  := (List.mem_filter.mp a).2
  simp_all
theorem Wc9 {H:Hp}{o:Obj}(e:(hidT h H).get? b=some o):h.get? b=some o/\H b=none:=by
 have a  := W.of_hideAll _ e;refine⟨a,?_⟩
 cases q:H b with
 |none=>rfl
 |some x =>
  have c:b∈trk h H:=List.mem_filter.mpr ⟨List.mem_range.mpr (zj a),by simp[q]⟩;have z:(hidT h H).get? b=none:=W.hideAll_none _ c
  grind
structure Mod (K:W.Frag)(mg:Str->Option Value)(base:Heap):Prop where
 kin:K.In base
 glob:base.Ns ye mg
 blt:∃mb,base.Ns zdf mb/\∀x:Str,x≠"__name__"->mb x=ybc x
 nolimit:base.NoLimit
structure Cx where
 prog:zf
 w:World
 K:W.Frag
 mg:Str->Option Value
 base:Heap
 A:Around
 N:List Str
 s₀:Shared
 H₀:Hp
 env:Env
 outer:List Env
 stack:List Env
 ex:List Addr
 fn:Str->Bool
 calm:Bool
 pn:List (Addr×Obj)
 xe:Value->Shared->Prop
noncomputable def frs (l:List Env):List Addr:=l.filterMap (·.frame)
noncomputable abbrev Cx.fs (X:Cx):List Addr:=frs X.outer
def Vis (sc:Scope)(x:Str):Prop:=sc.names.lookup x=some .local∨sc.names.lookup x=some .cell∨sc.names.lookup x=some .free
def Loc (sc:Scope)(x:Str):Prop:=sc.names.lookup x=some .local∨sc.names.lookup x=some .cell
def Look (env:Env)(h:Heap)(m:Str->Option Value)(x:Str)(u:Value):Prop :=
 (env.kindOf x=some .local/\m x=some u)∨((env.kindOf x=some .cell∨env.kindOf x=some .free)/\∃c,env.cells.lookup x=some c/\h.IsCell c (some u))
structure Cx.Ok (X:Cx):Prop where
 mod:Mod X.K X.mg X.base
 kind:X.env.scope.kind=.function
 glob:X.env.globals=ye
 blt:X.env.builtins=zdf
 above:X.s₀.heap.objs.size<=X.env.locals
 inj:∀x y c,X.env.cells.lookup x=some c->X.env.cells.lookup y=some c->x=y
 has:∀x,(X.env.kindOf x=some .cell∨X.env.kindOf x=some .free)->∃c,X.env.cells.lookup x=some c
 cab:∀x c,X.fn x=true->X.env.cells.lookup x=some c->X.s₀.heap.objs.size<=c
 hd:X.calm=true->X.A.handled=none
 frames:X.A.frames=some X.stack
 stk:X.stack=X.outer∨(X.stack=X.env::X.outer/\X.env.frame=some X.env.locals)
 exf:∀b∈X.ex,b≠X.env.locals/\∀x c,X.env.cells.lookup x=some c->c≠b
 bs:∀b o,X.base.get? b=some o->X.s₀.heap.get? b=some o/\X.H₀ b=none
 bsz:X.base.objs.size<=X.s₀.heap.objs.size
 noex:∀b o,X.base.get? b=some o->b ∉ X.ex
 exfs:∀b∈X.ex,b ∉ X.fs
 funs:X.s₀.heap.FunFrames X.base X.outer
 frf:∀b∈X.fs,X.H₀ b=none
structure Inv (X:Cx)(pins:List (Addr×Obj))(σ:List (Option V))(H:Hp)(s:Shared):Prop where
 ok:X.Ok
 os:s.os=X.s₀.os
 bare:zdp s.gens
 base:Un X.fs X.ex X.H₀ H X.s₀.heap s.heap
 loc:∃m,s.heap.Ns X.env.locals m/\∀(i:Nat) (x:Str) (v:V),X.N[i]?=some x->σ[i]?=some (some v)->Vis X.env.scope x->∃u,RelV v u/\Look X.env s.heap m x u
 cell:∀x c,X.env.cells.lookup x=some c->∃v,s.heap.IsCell c v
 free:H X.env.locals=none
 freeC:∀x c,X.env.cells.lookup x=some c->H c=none
 pin:∀p∈X.pn++pins,s.heap.get? p.1=some p.2/\H p.1=none/\p.1≠X.env.locals/\p.1 ∉ X.fs/\∀v,p.2.data≠.cell v
 hok:HOk X.prog X.w H s.heap
 len:σ.length=X.N.length
section
variable {X:Cx}{σ:List (Option V)}{H H':Hp}
theorem Cx.Ok.nofr (ok:X.Ok){o:Obj}(e:X.base.get? b=some o):b ∉ X.fs:=fun a=>by
 have:=(ok.funs.mem a).1
 grind
theorem Inv.bs (I:Inv X pins σ H s):∀b o,X.base.get? b=some o->s.heap.get? b=some o/\H b=none:=fun b o e =>
 ⟨I.base.keep b o (I.ok.bs b o e).1 (I.ok.bs b o e).2 (I.ok.nofr e) (I.ok.noex b o e),I.base.free b o (I.ok.bs b o e).1 (I.ok.bs b o e).2 (I.ok.noex b o e)⟩
theorem Inv.bk (I:Inv X pins σ H s):∀b o,X.base.get? b=some o->s.heap.get? b=some o:=fun b o e=>(I.bs b o e).1
theorem Inv.mod (I:Inv X pins σ H s):Mod X.K X.mg X.base:=I.ok.mod
theorem Inv.kIn (I:Inv X pins σ H s):X.K.In s.heap:=I.ok.mod.kin.keeps I.bk
theorem Inv.lt (I:Inv X pins σ H s):X.env.locals < s.heap.objs.size:=let ⟨_,hn,_⟩:=I.loc;hn.lt
theorem Inv.sz (I:Inv X pins σ H s):X.s₀.heap.objs.size<=s.heap.objs.size:=yj I.ok.above (zv I.lt)
theorem Inv.nofs (I:Inv X pins σ H s)(h:s.heap.objs.size<=a):a ∉ X.fs:=fun c=>by
 obtain⟨_,o,b,_⟩:=I.ok.funs.mem c;exact absurd (zn (zj b) (yj I.sz h)) (by simp)
theorem Inv.cne (I:Inv X pins σ H s):∀x c,X.env.cells.lookup x=some c->c≠X.env.locals:=fun x c e z=>by
 obtain⟨v,o,f,g⟩:=I.cell x c e;obtain⟨m,⟨d,h,i,a,b,_⟩,_⟩:=I.loc
 grind
theorem Inv.funs (I:Inv X pins σ H s):s.heap.FunFrames X.base X.outer:=by
 have g:∀(l:List Env),(∀b∈frs l,b∈X.fs)->X.s₀.heap.FunFrames X.base l->s.heap.FunFrames X.base l:=by
  intro l
  induction l with
  |nil=>intro _ _;trivial
  |cons env r ih =>
   intro d k;obtain⟨m,⟨L,o,f,j,i,n⟩,h⟩:=k;have c  := d L (by unfold frs;simp_all);obtain⟨p,e⟩:=I.base.slot L o i (I.ok.frf L c) c fun z=>I.ok.exfs L z c;exact⟨m,⟨L,_,f,j,e,n⟩,ih (fun b a=>d b (by unfold frs;rw[yck,f];exact zo _ a)) h⟩
 exact g _ (fun _ a=>a) I.ok.funs
theorem Inv.stack (I:Inv X pins σ H s):s.heap.FunFrames X.base X.stack:=by
 rcases I.ok.stk with e | ⟨e,b⟩
 ·rw[e];exact I.funs
 ·rw[e]
  obtain⟨m,a,_⟩:=I.loc;exact .cons (by rw[I.ok.kind];decide) b a (Heap.get?_none_of_le (yj I.ok.bsz I.ok.above)) I.funs
theorem Inv.stkSub (I:Inv X pins σ H s):∀b∈frs X.stack,b∈X.env.locals::X.fs:=fun b a=>by
 rcases I.ok.stk with e | ⟨e,c⟩
 ·simp_all
 ·rw[e] at a
  unfold frs at a;rw[yck,c] at a;exact a
theorem Inv.stkFree (I:Inv X pins σ H s):∀b∈frs X.stack,H b=none:=fun b a=>by
 rcases zd.mp (I.stkSub b a) with e | a
 ·rw[e];exact I.free
 ·obtain⟨_,o,c,_⟩:=I.ok.funs.mem a
  exact I.base.free b o c (I.ok.frf b a) fun z=>I.ok.exfs b z a
theorem Inv.step {g':Array GenState}{d':Drawn}{ch:List Addr}(I:Inv X pins σ H s)(hch:∀b∈ch,(b∈X.ex∨X.s₀.heap.objs.size<=b)/\b≠X.env.locals/\(∀x c,X.env.cells.lookup x=some c->c≠b)/\∀p∈X.pn++pins,p.1≠b)(keep:∀b o,b≠X.env.locals->b ∉ X.fs->b ∉ ch->s.heap.get? b=some o->H b=none->h'.get? b=some o)(slot:∀b o,b≠X.env.locals->b∈X.fs->b ∉ ch->s.heap.get? b=some o->H b=none->∃sl,h'.get? b=some { o with slots:=sl })(free:∀b o,b ∉ ch->s.heap.get? b=some o->H b=none->H' b=none)(there:∀b o,b ∉ ch->s.heap.get? b=some o->∃o',h'.get? b=some o')(tups:∀b xs,H b=some (.tup xs)->H' b=some (.tup xs))(frzs:∀b o u,H b=some (.frz o u)->H' b=some (.frz o u))(tbls:∀b ps,H b=some (.tbl ps)->∃more,H' b=some (.tbl (ps++more)))(ns:∀m,s.heap.Ns X.env.locals m->h'.Ns X.env.locals m)(hok:HOk X.prog X.w H' h')(hg:zdp g'):
  Inv X pins σ H' { s with heap:=h',gens:=g',drawn:=d',toks:=t' }:=by
 have A:∀b o,X.s₀.heap.get? b=some o->b≠X.env.locals:=fun b o e=>yq (zn (zj e) I.ok.above)
 have j:∀b o,X.s₀.heap.get? b=some o->b ∉ X.ex->b ∉ ch:=fun b o e a h=>by
  rcases (hch b h).1 with z | z
  ·exact a z
  ·exact absurd (zn (zj e) z) (by simp)
 have t:∀x c,X.env.cells.lookup x=some c->∀v,s.heap.IsCell c v->h'.IsCell c v:=fun x c e v ⟨o,y,B⟩=>by
  have f  := fun z=>(hch c z).2.2.1 x c e rfl
  by_cases hc:c∈X.fs
  ·obtain⟨sl,q⟩:=slot c o (I.cne x c e) hc f y (I.freeC x c e)
   exact⟨_,q,B⟩
  ·exact⟨o,keep c o (I.cne x c e) hc f y (I.freeC x c e),B⟩
 refine⟨I.ok,I.os,hg,⟨fun b o e n h a=>(keep b o (A b o e) h (j b o e a) (I.base.keep b o e n h a) (I.base.free b o e n a)),fun b o e n h a=>?_,fun b o e n a=>?_,fun b o e a=>?_,fun b xs e=>tups b xs (I.base.tups b xs e),fun b o xs e=>frzs b o xs (I.base.frzs b o xs e),fun b ps e=>?_⟩,?_,fun x c e=>?_,?_,fun x c e=>?_,fun p J=>?_,hok,I.len⟩
 ·obtain⟨sl,g⟩:=I.base.slot b o e n h a
  obtain⟨D,C⟩:=slot b _ (A b o e) h (j b o e a) g (I.base.free b o e n a);exact⟨D,C⟩
 ·obtain⟨o',g⟩:=I.base.there b o e a
  exact free b o' (j b o e a) g (I.base.free b o e n a)
 ·obtain⟨o',g⟩:=I.base.there b o e a
  exact there b o' (j b o e a) g
 ·obtain⟨O,g⟩:=I.base.tbls b ps e
  grind
 ·obtain⟨m,L,M⟩:=I.loc
  refine⟨m,ns m L,fun i x v g C N=>?_⟩;obtain⟨u,r,l⟩:=M i x v g C N;refine⟨u,r,?_⟩;rcases l with l | ⟨k,c,e,z⟩
  ·exact .inl l
  ·exact .inr ⟨k,c,e,t x c e _ z⟩
 ·obtain⟨v,z⟩:=I.cell x c e
  exact⟨v,t x c e v z⟩
 ·obtain⟨m,⟨o,_,_,y,_⟩,_⟩:=I.loc
  exact free _ o (fun z=>(hch _ z).2.1 rfl) y I.free
 ·obtain⟨v,o,y,B⟩:=I.cell x c e
  exact free c o (fun z=>(hch c z).2.2.1 x c e rfl) y (I.freeC x c e)
 ·obtain⟨e,n,G,F,d⟩:=I.pin p J
  have f  := fun z=>(hch p.1 z).2.2.2 p J rfl;exact⟨keep p.1 p.2 G F f e n,free p.1 p.2 f e n,G,F,d⟩
theorem Inv.un (I:Inv X pins σ H s)(u:Un X.fs [] H H' s.heap h')(hok:HOk X.prog X.w H' h'):Inv X pins σ H' { s with heap:=h',toks:=t' }:=by
 obtain⟨m,⟨o,q,t,d,r⟩,_⟩:=id I.loc;obtain⟨k,j⟩:=u.any d I.free (by simp)
 exact I.step (ch:=[]) (fun _ z=>nomatch z) (fun b o _ c _ e n=>u.keep b o e n c (by simp)) (fun b o _ c _ e n=>u.slot b o e n c (by simp)) (fun b o _ e n=>u.free b o e n (by simp)) (fun b o _ e=>u.there b o e (by simp)) u.tups u.frzs u.tbls (fun p i=>by
  obtain⟨l,f,g,a,h⟩:=i;rw[d] at a;cases a
  exact⟨_,f,g,j,h⟩) hok I.bare
theorem Inv.call {g':Array GenState}{d':Drawn}{ch:List Addr}(I:Inv X pins σ H s)(u:Un (frs X.stack) ch H H' s.heap h')(hok:HOk X.prog X.w H' h')(hg:zdp g')(hch:∀b∈ch,(b∈X.ex∨X.s₀.heap.objs.size<=b)/\b≠X.env.locals/\(∀x c,X.env.cells.lookup x=some c->c≠b)/\∀p∈X.pn++pins,p.1≠b):
  Inv X pins σ H' { s with heap:=h',gens:=g',drawn:=d',toks:=t' }:=by
 obtain⟨m,⟨o,y,A,g,r⟩,_⟩:=id I.loc;obtain⟨q,f⟩:=u.any g I.free fun z=>(hch _ z).2.1 rfl
 exact I.step hch (fun b o f l a e n=>u.keep b o e n (fun z=>(zd.mp (I.stkSub b z)).elim f l) a) (fun b o _ _ a e n=>u.any e n a) (fun b o a e n=>u.free b o e n a) (fun b o a e=>u.there b o e a) u.tups u.frzs u.tbls (fun v k=>by
  obtain⟨t,h,i,d,j⟩:=k;rw[g] at d;cases d
  exact⟨_,h,i,f,j⟩) hok hg
theorem Inv.turned (I:Inv X pins σ H s)(k:∀b o,b≠it->s.heap.get? b=some o->h'.get? b=some o)(hn:H it=none)(hL:it≠X.env.locals)(h1:it∈X.ex∨X.s₀.heap.objs.size<=it)(h2:∀x c,X.env.cells.lookup x=some c->c≠it)(h3:∀p∈X.pn++pins,p.1≠it):Inv X pins σ H { s with heap:=h',toks:=t' }:=by
 have d:∀b u,H b=some u->b≠it:=fun b u e z=>by grind
 refine I.step (ch:=[it]) (fun b l=>?_) (fun b o _ _ a e _=>k b o (fun z=>a (by simp[z])) e) (fun b o _ _ a e _=>⟨o.slots,k b o (fun z=>a (by simp[z])) e⟩) (fun _ _ _ _ n=>n)
  (fun b o a e=>⟨o,k b o (fun z=>a (by simp[z])) e⟩) (fun _ _ e=>e) (fun _ _ _ e=>e) (fun b j e=>⟨#[],by simp_all⟩) (fun m g=>?_) (fun b u e=>?_) I.bare
 ·have e:b=it:=by simp_all
  subst e;exact⟨h1,hL,h2,h3⟩
 ·obtain⟨o,h,i,f,r⟩:=g
  exact⟨o,h,i,k _ o (zbe hL) f,r⟩
 ·refine (I.hok b u e).stay (fun c v a q=>k c v ?_ q) (fun _ q=>q) fun _ _ q=>q
  rcases a with z | z
  ·rw[z];exact d b u e
  ·exact d c _ z
theorem Inv.tok (I:Inv X pins σ H s)(t:Nat):Inv X pins σ H { s with toks:=t }:=I.un Un.refl I.hok
theorem Inv.kept {t':Nat}(I:Inv X pins σ H s)(k:∀b u,s.heap.get? b=some u->h'.get? b=some u):Inv X pins σ H { s with heap:=h',toks:=t' }:=I.un (Un.kept k) (I.hok.kept k)
theorem Inv.laid {a:Addr}{o:HO}{t':Nat}(I:Inv X pins σ H s)(k:∀b u,s.heap.get? b=some u->h'.get? b=some u)(hp:s.heap.objs.size<=a)(new:ObjOk X.prog X.w (upd H a o) h' a o) :
  Inv X pins σ (upd H a o) { s with heap:=h',toks:=t' }:=I.un (Un.laid k hp (I.hok.fresh hp)) (I.hok.laid k hp new)
theorem Inv.write {x e:Addr}{o:HO}{t':Nat}(I:Inv X pins σ H s)(mu:Mut (H x))(he:e=x∨H e=some (.own x))(k:∀b u,b≠e->s.heap.get? b=some u->h'.get? b=some u)(heo:∃u,h'.get? e=some u)
  (new:ObjOk X.prog X.w (upd H x o) h' x o):Inv X pins σ (upd H x o) { s with heap:=h',toks:=t' }:=I.un (Un.write mu he k heo) (I.hok.write mu he k heo new)
theorem Inv.weak {σ':List (Option V)}(I:Inv X pins σ H s)(hl:σ'.length=σ.length)(w:∀(i:Nat) v,σ'[i]?=some (some v)->σ[i]?=some (some v)):Inv X pins σ' H s :=
 ⟨I.ok,I.os,I.bare,I.base,let ⟨m,hn,hl'⟩:=I.loc;⟨m,hn,fun i x v c b a=>hl' i x v c (w i v b) a⟩,I.cell,I.free,I.freeC,I.pin,I.hok,hl.trans I.len⟩
theorem Inv.pins_of {pins':List (Addr×Obj)}(I:Inv X pins σ H s)(h:∀p∈pins',s.heap.get? p.1=some p.2/\H p.1=none/\p.1≠X.env.locals/\p.1 ∉ X.fs/\∀v,p.2.data≠.cell v):Inv X pins' σ H s :=
 ⟨I.ok,I.os,I.bare,I.base,I.loc,I.cell,I.free,I.freeC,fun p a=>(yg.mp a).elim (fun z=>I.pin p (zy _ z)) (h p),I.hok,I.len⟩
theorem Yy6 {N:List Str}(hN:N.Nodup)(a:N[i]?=some x)(b:N[j]?=some x):i=j:=by
 obtain⟨f,d⟩:=yc.mp a;obtain⟨e,c⟩:=yc.mp b;exact (List.getElem_inj hN).mp (d.trans c.symm)
theorem Xh2 {E:Value->Shared->Prop}{v:V}{Q:Unit->Shared->Prop}(I:Inv X pins σ H s)(hN:X.N.Nodup)(hi:X.N[i]?=some x)(hx:Loc X.env.scope x)(r:RelV v u)(h:∀s',Inv X pins (σ.set i (some v)) H s'->(∃a,zal a s.heap s'.heap/\(a=X.env.locals∨X.env.cells.lookup x=some a))->Q () s')(hf:X.fn x=true∨X.env.scope.names.lookup x=some .local:=by first | exact .inl rfl | exact .inr rfl | assumption):wpAny M A (storeName X.env x u) Q E s:=by
 obtain⟨m,hn,hl⟩:=id I.loc
 have q0:(X.env.scope.kind == .class||X.env.scope.kind == .module&&X.env.locals != X.env.globals)=false:=by rw[I.ok.kind];rfl
 have F:i < σ.length:=by rw[I.len];exact (yc.mp hi).1
 have J:=I.cne
 have t:∀{a:Addr} {h':Heap},(∃o,s.heap.get? a=some o/\H a=none)->zal a _ h'->HOk _ X.w H h':=fun {a h'} ha f b ob e=>by
  refine (I.hok b ob e).stay (fun c S l q=>(f.2 c ?_).trans q) (fun _ q=>q) fun _ _ q=>q
  grind
 rcases hx with D | D
 ·refine wpAny_storeName_local D hn (fun h' q3 f=>?_) q0
  obtain⟨oL,_,_,q2,_⟩:=id hn;refine h _ ⟨I.ok,I.os,I.bare,⟨fun b o e n C hx=>((f.2 b (yq (zn (zj e) I.ok.above))).trans (I.base.keep b o e n C hx)),fun b o e n C hx=>?_,I.base.free,fun b o e hx=>?_,I.base.tups,I.base.frzs,I.base.tbls⟩,⟨_,q3,fun j y T g B e3=>?_⟩,fun y c e=>?_,I.free,I.freeC,fun p hp=>?_,t ⟨oL,q2,I.free⟩ f,by simpa using I.len⟩ ⟨_,f,.inl rfl⟩
  ·obtain⟨W,g⟩:=I.base.slot b o e n C hx
   exact⟨W,(f.2 b (yq (zn (zj e) I.ok.above))).trans g⟩
  ·obtain⟨Z,g⟩:=I.base.there b o e hx
   exact⟨Z,(f.2 b (yq (zn (zj e) I.ok.above))).trans g⟩
  ·by_cases hj:j=i
   ·subst hj
    rw[hi] at g;cases g;rw[List.getElem?_set_self F] at B;cases B;exact⟨u,r,.inl ⟨D,by simp⟩⟩
   ·rw[zdb (zbe hj)] at B
    obtain⟨U,Y,q⟩:=hl j y T g B e3;refine⟨U,Y,?_⟩;rcases q with ⟨k,e⟩ | ⟨k,c,e,z⟩
    ·refine .inl ⟨k,?_⟩
     have:y≠x:=fun e=>hj (Yy6 hN g (e▸hi))
     simp_all
    ·exact .inr ⟨k,c,e,z.sameBut f (J y c e)⟩
  ·obtain⟨S,z⟩:=I.cell y c e
   exact⟨S,z.sameBut f (J y c e)⟩
  ·obtain⟨e,n,L,nf,d⟩:=I.pin p hp
   exact⟨(f.2 p.1 L).trans e,n,L,nf,d⟩
 ·have G:X.fn x=true:=by
   grind
  obtain⟨c,l⟩:=I.ok.has x (.inl D);obtain⟨S,z⟩:=I.cell x c l;refine wpAny_storeName_cell I.ok.kind D l z fun h' R f=>?_;obtain⟨oc,q1,q4⟩:=id z;refine h { s with heap:=h' } ⟨I.ok,I.os,I.bare,⟨fun b o e n C hx=>((f.2 b (yq (zn (zj e) (I.ok.cab x c G l)))).trans (I.base.keep b o e n C hx)),fun b o e n C hx=>?_,I.base.free,fun b o e hx=>?_,I.base.tups,I.base.frzs,I.base.tbls⟩,⟨m,hn.sameBut f (zbe (J x c l)),fun j y T g B e3=>?_⟩,fun y O e=>?_,I.free,I.freeC,fun p hp=>?_,t ⟨oc,q1,I.freeC x c l⟩ f,by simpa using I.len⟩ ⟨c,f,.inr l⟩
  ·obtain⟨W,g⟩:=I.base.slot b o e n C hx
   exact⟨W,(f.2 b (yq (zn (zj e) (I.ok.cab x c G l)))).trans g⟩
  ·obtain⟨Z,g⟩:=I.base.there b o e hx
   exact⟨Z,(f.2 b (yq (zn (zj e) (I.ok.cab x c G l)))).trans g⟩
  ·by_cases hj:j=i
   ·subst hj
    rw[hi] at g;cases g;rw[List.getElem?_set_self F] at B;cases B;exact⟨u,r,.inr ⟨.inl D,c,l,R⟩⟩
   ·rw[zdb (zbe hj)] at B
    obtain⟨U,Y,q⟩:=hl j y T g B e3;refine⟨U,Y,?_⟩;rcases q with q | ⟨k,O,e,z'⟩
    ·exact .inl q
    ·refine .inr ⟨k,O,e,z'.sameBut f ?_⟩
     rintro rfl;exact hj (Yy6 hN g (I.ok.inj _ _ _ e l▸hi))
  ·by_cases hcc:O=c
   ·subst hcc;exact⟨_,R⟩
   ·obtain⟨w2,z2⟩:=I.cell y O e
    exact⟨w2,z2.sameBut f hcc⟩
  ·obtain⟨e,n,L,nf,d⟩:=I.pin p hp
   refine⟨(f.2 p.1 ?_).trans e,n,L,nf,d⟩;intro q
   simp_all
theorem Zs6 {E:Value->Shared->Prop}{v:V}{Q:Unit->Shared->Prop}(I:Inv X pins σ H s)(hN:X.N.Nodup)(hi:X.N[i]?=some x)(hx:Loc X.env.scope x)(r:RelV v u)(h:∀s',Inv X pins (σ.set i (some v)) H s'->Q () s')(hf:X.fn x=true∨X.env.scope.names.lookup x=some .local:=by first | exact .inl rfl | exact .inr rfl | assumption):wpAny M A (storeName X.env x u) Q E s :=
 Xh2 I hN hi hx r (fun s' a _=>h s' a) hf
theorem Inv.call' {ch:List Addr}(I:Inv X pins σ H s)(ho:s'.os=s.os)(u:Un (frs X.stack) ch H H' s.heap s'.heap)(hok:HOk X.prog X.w H' s'.heap)(hg:zdp s'.gens)(hch:∀b∈ch,(b∈X.ex∨X.s₀.heap.objs.size<=b)/\b≠X.env.locals/\(∀x c,X.env.cells.lookup x=some c->c≠b)/\∀p∈X.pn++pins,p.1≠b):Inv X pins σ H' s':=by
 obtain⟨f,g,h,a,d⟩:=s';have e  := ho;subst e;exact I.call u hok hg hch
end
noncomputable abbrev XK:=Value->Option Addr->Hp->Prop
noncomputable abbrev St:=List (Option V)
noncomputable abbrev VK:=V->Hp->Prop
noncomputable abbrev TE:=St->Hp->VK->Prop
noncomputable abbrev TT:=St->Hp->(Bool->Hp->Prop)->Prop
noncomputable abbrev TA:=St->Hp->(List V->Hp->Prop)->Prop
structure Ends where
 nx:St->Hp->Prop
 rt:VK
 bk:St->Hp->Prop:=fun _ _=>False
 ct:St->Hp->Prop:=fun _ _=>False
noncomputable abbrev TS:=Ends->St->Hp->Prop
def EP (X:Cx)(pins:List (Addr×Obj))(σ:St)(Q:VK)(u:Value)(s':Shared):Prop:=∃v H',Inv X pins σ H' s'/\RelV v u/\Q v H'
def TP (X:Cx)(pins:List (Addr×Obj))(σ:St)(Q:Bool->Hp->Prop)(b:Bool)(s':Shared):Prop:=∃H',Inv X pins σ H' s'/\Q b H'
def AP (X:Cx)(pins:List (Addr×Obj))(σ:St)(Q:List V->Hp->Prop)(us:List Value)(s':Shared):Prop:=∃vs H',Inv X pins σ H' s'/\Vals vs us/\Q vs H'
def SP (X:Cx)(pins:List (Addr×Obj))(D:Ends)(f:Flow)(s':Shared):Prop :=
 match f with
 | .next=>∃σ' H',Inv X pins σ' H' s'/\D.nx σ' H'
 | .brk=>∃σ' H',Inv X pins σ' H' s'/\D.bk σ' H'
 | .cont=>∃σ' H',Inv X pins σ' H' s'/\D.ct σ' H'
 | .ret u=>∃v σ' H',Inv X pins σ' H' s'/\RelV v u/\D.rt v H'
@[irreducible] def PE (X:Cx)(e:Expr)(t:TE):Prop :=
 ∀(pins:List (Addr×Obj)) (s:Shared) (σ:St) (H:Hp) (Q:VK),Inv X pins σ H s->t σ H Q->wpAny (model X.prog X.w) X.A (eval e X.env) (EP X pins σ Q) X.xe s
@[irreducible] def PT (X:Cx)(e:Expr)(t:TT):Prop :=
 ∀(pins:List (Addr×Obj)) (s:Shared) (σ:St) (H:Hp) (Q:Bool->Hp->Prop),Inv X pins σ H s->t σ H Q->wpAny (model X.prog X.w) X.A (isTrue e X.env (eval e X.env)) (TP X pins σ Q) X.xe s
@[irreducible] def PW (X:Cx)(e:Expr)(t:TT):Prop :=
 ∀(whole:Sem Value) (pins:List (Addr×Obj)) (s:Shared) (σ:St) (H:Hp) (Q:Bool->Hp->Prop),Inv X pins σ H s->t σ H Q->wpAny (model X.prog X.w) X.A (isTrue e X.env whole) (TP X pins σ Q) X.xe s
theorem PW.pt {X:Cx}{e:Expr}{t:TT}(h:PW X e t):PT X e t:=by with_unfolding_all exact (h _)
@[irreducible] def PA (X:Cx)(es:List Expr)(t:TA):Prop :=
 ∀(pos:Pos) (pins:List (Addr×Obj)) (s:Shared) (σ:St) (H:Hp) (Q:List V->Hp->Prop),Inv X pins σ H s->t σ H Q->wpAny (model X.prog X.w) X.A (spliced (backTo pos (zx es X.env))) (AP X pins σ Q) X.xe s
@[irreducible] def PS (X:Cx)(st:Stmt)(t:TS):Prop :=
 ∀(pins:List (Addr×Obj)) (s:Shared) (σ:St) (H:Hp) (D:Ends),Inv X pins σ H s->t D σ H->wpAny (model X.prog X.w) X.A (exec st X.env) (SP X pins D) X.xe s
@[irreducible] def PSs (X:Cx)(st:List Stmt)(t:TS):Prop :=
 ∀(pins:List (Addr×Obj)) (s:Shared) (σ:St) (H:Hp) (D:Ends),Inv X pins σ H s->t D σ H->wpAny (model X.prog X.w) X.A (execs st X.env) (SP X pins D) X.xe s
theorem thn {α:Type}{t:Sem α}{Q Q':α->Shared->Prop}{E:Value->Shared->Prop}(h:wpAny M A t Q E s)(hQ:∀a s,Q a s->Q' a s):wpAny M A t Q' E s:=ybt h hQ fun _ _ x=>x
section
variable {X:Cx}
def tVar (i:Nat):TE:=fun σ H Q=>∃v,σ[i]?=some (some v)/\Q v H
def tC (v:V):TE:=fun _ H Q=>Q v H
theorem Xj1 {i:Nat}(hN:X.N[i]?=some x)(hv:Vis X.env.scope x)(hd:(x == ("__debug__":Str))=false:=by decide)(hcd:(x == ("__classdict__":Str))=false:=by decide):PE X (.Name x pos) (tVar i):=by with_unfolding_all
 intro j s g H Q I h;obtain⟨v,e,h⟩:=h;obtain⟨m,k,o⟩:=I.loc;obtain⟨u,r,l⟩:=o i x v hN e hv;have d:EP X _ g Q u s:=⟨v,H,I,r,h⟩;rcases l with ⟨a,n⟩ | ⟨a,c,f,b⟩
 ·exact wpAny_Name (wpAny_loadName_local I.ok.kind a k n d) hd
 ·rcases a with a | a
  ·exact wpAny_Name (wpAny_loadName_cell I.ok.kind a f b d) hd
  ·exact wpAny_Name (wpAny_loadName_free I.ok.kind a f b d hcd) hd
theorem Za4 {i j pos}:PE X (.Constant (.int i) j pos) (tC (.int i)):=by with_unfolding_all exact (fun _ _ _ H _ I h=>wpAny_Constant_int ⟨.int i,H,I.tok _,⟨_,rfl⟩,h⟩)
theorem Wc4 {b j pos}:PE X (.Constant (.bool b) j pos) (tC (.bl b)):=by with_unfolding_all exact (fun _ _ _ H _ I h=>Constant_bool ⟨.bl b,H,I,rfl,h⟩)
theorem Zk8 {j pos}:PE X (.Constant .none j pos) (tC .non):=by with_unfolding_all exact (fun _ _ _ H _ I h=>Constant_none ⟨.non,H,I,rfl,h⟩)
theorem Zb1 {x j pos}:PE X (.Constant (.str x) j pos) (tC (.str x)):=by with_unfolding_all exact (fun _ _ _ H _ I h=>Calls.Constant_str ⟨.str x,H,I.tok _,⟨_,rfl⟩,h⟩)
def Gl (X:Cx)(x:Str):Prop:=X.env.kindOf x=some .globalImplicit
theorem Zo6 {E:Value->Shared->Prop}{σ:St}{H:Hp}{Q:Value->Shared->Prop}(I:Inv X pins σ H s)(hg:Gl X x)(hm:X.mg x=some u)(h:Q u s)(hd:(x == ("__debug__":Str))=false:=by decide):wpAny (model X.prog X.w) X.A (eval (.Name x pos) X.env) Q E s :=
 Calls.Name_function_global I.ok.kind hg (Calls.loadGlobal_global (by rw[I.ok.glob];exact I.mod.glob.keeps I.bk) hm h) hd
theorem Zq3 {E:Value->Shared->Prop}{σ:St}{H:Hp}{Q:Value->Shared->Prop}(I:Inv X pins σ H s)(hg:Gl X x)(hm:X.mg x=none)(hv:ybc x=some u)(h:Q u s)(hn:x≠"__name__":=by decide)(hd:(x == ("__debug__":Str))=false:=by decide):wpAny (model X.prog X.w) X.A (eval (.Name x pos) X.env) Q E s:=by
 obtain⟨c,b,a⟩:=I.mod.blt;exact Calls.Name_function_global I.ok.kind hg (Calls.loadGlobal_builtin (by rw[I.ok.glob];exact I.mod.glob.keeps I.bk) hm (by rw[I.ok.blt];exact b.keeps I.bk) ((a x hn).trans hv) h) hd
theorem Zv7 {v:V}(hg:Gl X x)(hm:X.mg x=some u)(r:RelV v u)(hd:(x == ("__debug__":Str))=false:=by decide):PE X (.Name x pos) (tC v):=by with_unfolding_all exact (fun _ _ _ H _ I h=>Zo6 I hg hm ⟨v,H,I,r,h⟩ hd)
variable {a b:Expr}{ta tb:TE}
def PC (X:Cx)(op:CmpOp)(a b:Expr)(t:TE):Prop :=
 ∀(pins:List (Addr×Obj)) (s:Shared) (σ:St) (H:Hp) (Q:VK),Inv X pins σ H s->t σ H Q ->
  wpAny (model X.prog X.w) X.A (eval a X.env) (fun v s₁=>wpAny (model X.prog X.w) X.A (eval b X.env) (fun u s₂=>wpAny (model X.prog X.w) X.A (yai op v u) (EP X pins σ Q) X.xe s₂) X.xe s₁) X.xe s
def tB (t:TE):TT:=fun σ H Q=>t σ H fun x H1=>∃c,x=.bl c/\Q c H1
theorem Wm1 {t:TE}(h:PC X op a b t)(h1:ycb op b=false:=by first | exact nobehind _ (by decide) (by decide) | rfl):PE X (.Compare a [op] [b] pos) t:=by with_unfolding_all exact (fun c s d H Q I e=>wpAny_Compare1 (h c s d H Q I e) h1)
theorem Wk9 {t:TE}(h:PC X op a b t)(h1:ycb op b=false:=by first | exact nobehind _ (by decide) (by decide) | rfl):PT X (.Compare a [op] [b] pos) (tB t):=by with_unfolding_all
 intro f s e H Q I g;refine wpAny_isTrue_Compare1 (thn (h _ s e H _ I g) fun v k h1=>thn h1 fun u j i=>thn i fun c s3 ⟨x,H1,I1,r1,q1⟩=>?_) h1;obtain⟨d,rfl,q⟩:=q1;cases r1;exact yaz ⟨H1,I1,q⟩
theorem Xw1 {e:Expr}{t:TE}(h:PE X e t)(he:∀whole,isTrue e X.env whole=(do let v <- whole;standAt e.pos;holding [v] (truthy v)):=by intro _;rfl):PT X e (tB t):=by with_unfolding_all
 intro a s b H Q I c;refine isTrue_plain (thn (h a s b H _ I c) fun v s1 ⟨x,H1,I1,r1,q1⟩=>?_) (he _);obtain⟨d,rfl,q⟩:=q1;cases r1;exact yaz ⟨H1,I1,q⟩
variable {tA tB':TT}{rest:List Expr}
def tAnd (t u:TT):TT:=fun σ H Q=>t σ H fun c H1=>if c=true then u σ H1 Q else Q false H1
def tOr (t u:TT):TT:=fun σ H Q=>t σ H fun c H1=>if c=true then Q true H1 else u σ H1 Q
def tNot (t:TT):TT:=fun σ H Q=>t σ H fun c H1=>Q (!c) H1
theorem Yh4 (ha:PT X a tA):PW X (.BoolOp .And [a] pos) tA:=by with_unfolding_all
 intro f b s d H Q I h;refine isTrue_and (thn (ha b s d H Q I h) fun c g e=>?_)
 cases c with
 |true=>exact isTrue_and_nil e
 |false=>exact e
theorem Zs9 (ha:PT X a tA):PW X (.BoolOp .Or [a] pos) tA:=by with_unfolding_all
 intro f b s d H Q I h;refine isTrue_or (thn (ha b s d H Q I h) fun c g e=>?_)
 cases c with
 |false=>exact isTrue_or_nil e
 |true=>exact e
theorem Yx6 (ha:PT X a tA)(hb:PW X (.BoolOp .And (b::rest) pos) tB'):PW X (.BoolOp .And (a::b::rest) pos) (tAnd tA tB'):=by with_unfolding_all
 intro k d s e H Q I h;refine isTrue_and (thn (ha d s e H _ I h) fun c l j=>?_);obtain⟨i,g,f⟩:=j
 cases c with
 |true=>exact hb k d l e i Q g f
 |false=>exact⟨i,g,f⟩
theorem Yh3 (ha:PT X a tA)(hb:PW X (.BoolOp .Or (b::rest) pos) tB'):PW X (.BoolOp .Or (a::b::rest) pos) (tOr tA tB'):=by with_unfolding_all
 intro k d s e H Q I h;refine isTrue_or (thn (ha d s e H _ I h) fun c l j=>?_);obtain⟨i,g,f⟩:=j
 cases c with
 |true=>exact⟨i,g,f⟩
 |false=>exact hb k d l e i Q g f
theorem Xi3 (ha:PT X a tA):PT X (.UnaryOp .Not a pos) (tNot tA):=by with_unfolding_all
 intro b s d H Q I h;exact isTrue_not (ha b s d H (fun c e=>Q (!c) e) I h)
def Yr6 (ta tb:TE):TE:=fun σ H Q=>ta σ H fun x H1=>∃c,x=.bl c/\if c=true then tb σ H1 Q else Q (.bl false) H1
theorem Wl8 {op}{t:TE}(h:PE X a t):PE X (.BoolOp op [a] pos) t:=by with_unfolding_all exact (fun b s c H Q I d=>BoolOp_one (h b s c H Q I d))
theorem Wm2 (ha:PE X a ta)(hb:PE X (.BoolOp .And (b::rest) pos) tb):PE X (.BoolOp .And (a::b::rest) pos) (Yr6 ta tb):=by with_unfolding_all
 intro d s f H Q I h;refine BoolOp_and (thn (ha d s f H _ I h) fun v k j=>?_);obtain⟨x,i,g,l,e⟩:=j;obtain⟨c,rfl,e⟩:=e;cases l;refine yaz ?_
 cases c with
 |true=>exact hb d k f i Q g e
 |false=>exact⟨.bl _,i,g,rfl,e⟩
def tIf (t:TT)(ta tb:TE):TE:=fun σ H Q=>t σ H fun c H1=>if c=true then ta σ H1 Q else tb σ H1 Q
theorem Yi0 {c:Expr}(hc:PT X c tA)(ha:PE X a ta)(hb:PE X b tb):PE X (.IfExp c a b pos) (tIf tA ta tb):=by with_unfolding_all
 intro e s f H Q I h;refine wpAny_IfExp (thn (hc e s f H _ I h) fun d g l=>?_);obtain⟨k,j,i⟩:=l
 cases d with
 |true=>exact ha e g f k Q j i
 |false=>exact hb e g f k Q j i
end
def SqL (K:W.Frag)(H:Hp)(a:Addr)(xs:List V):Prop :=
 Rd H a (.lst xs) ∨
  ∃(o:Obj) (its:Array Value) (n:Nat),K.lookup a=some o/\o.cls=.type "list"/\o.dict=none/\o.data=.seq its n/\its.size<=zi/\Vals xs its.toList
def SqT (K:W.Frag)(H:Hp)(a:Addr)(xs:List V):Prop :=
 Rd H a (.tup xs) ∨
  ∃(o:Obj) (its:Array Value) (n:Nat),K.lookup a=some o/\o.cls=.type "tuple"/\o.data=.seq its n/\its.size<=zi/\Vals xs its.toList
noncomputable def absV:Value->Option V
 | .none=>some .non
 | .bool b=>some (.bl b)
 | .int i _=>some (.int i)
 | .str x _=>some (.str x)
 | .bytes b _=>some (.byt b)
 | .float b _=>some (.flt b)
 | .ref a=>some (.ref a)
 | .type n=>some (.ty n)
 | _=>none
theorem RelV.abs {x:V}(r:RelV x u):absV u=some x:=by
 cases x with
 |non=>cases r;rfl
 |bl _=>cases r;rfl
 |int _=>obtain⟨t,rfl⟩:=r;rfl
 |str _=>obtain⟨t,rfl⟩:=r;rfl
 |byt _=>obtain⟨t,rfl⟩:=r;rfl
 |flt _=>obtain⟨t,rfl⟩:=r;rfl
 |ref _=>cases r;rfl
 |ty _=>cases r;rfl
theorem RelV.inj {x y:V}(r:RelV x u)(q:RelV y u):x=y:=zu (r.abs.symm.trans q.abs)
theorem Vals.inj:∀{xs ys:List V} {us:List Value},Vals xs us->Vals ys us->xs=ys
 | _,_,_,.nil,.nil=>rfl
 | _,_,_,.cons r t,.cons r' t'=>by rw[r.inj r',Vals.inj t t']
section
variable {X:Cx}{σ:St}{H:Hp}{xs ys:List V}
theorem SqL.of {K:W.Frag}(h:H a=some (.lst xs)):SqL K H a xs:=.inl (.inl h)
theorem Inv.list (I:Inv X pins σ H s)(h:SqL X.K H a xs):∃its:List Value,Vals xs its/\PlainL s.heap a its.toArray/\xs.length<=zi:=by
 rcases h with h | ⟨o,its,n,b,d,c,g,f,r⟩
 ·obtain⟨z,its,n,r,e⟩:=h.ok I.hok
  exact⟨its,r,⟨_,n,e,rfl,rfl,rfl⟩,z⟩
 ·refine⟨its.toList,r,⟨o,n,I.kIn a o b,d,c,by omega⟩,?_⟩
  have e:=r.length
  simp_all
theorem Inv.tuple (I:Inv X pins σ H s)(h:SqT X.K H a xs):∃its:List Value,Vals xs its/\IsTup s.heap a its.toArray/\xs.length<=zi:=by
 rcases h with h | ⟨o,its,n,b,c,f,d,r⟩
 ·obtain⟨z,its,r,p⟩:=h.ok I.hok
  exact⟨its,r,p,z⟩
 ·refine⟨its.toList,r,⟨o,I.kIn a o b,c,n,by omega⟩,?_⟩
  have e:=r.length
  simp_all
theorem Inv.list_inj (I:Inv X pins σ H s)(h:SqL X.K H a xs)(h':SqL X.K H a ys):xs=ys:=by
 obtain⟨b,r,⟨o,n,e,_,_,d⟩,_⟩:=I.list h;obtain⟨its',c,⟨f,g,i,_,_,j⟩,_⟩:=I.list h'
 have:b=its':=by grind
 subst this;exact r.inj c
theorem Inv.tuple_inj (I:Inv X pins σ H s)(h:SqT X.K H a xs)(h':SqT X.K H a ys):xs=ys:=by
 obtain⟨b,r,⟨o,e,_,n,d⟩,_⟩:=I.tuple h;obtain⟨its',c,⟨f,i,_,g,j⟩,_⟩:=I.tuple h'
 have:b=its':=by grind
 subst this;exact r.inj c
end
noncomputable abbrev Cx.wish (X:Cx)(E:Value->Shared->Prop):Cx:={ X with xe:=E }
noncomputable abbrev Cx.nox (X:Cx):Cx:=X.wish fun _ _=>False
theorem Cx.Ok.wish {X:Cx}(ok:X.Ok)(E:Value->Shared->Prop):(X.wish E).Ok :=
 ⟨ok.mod,ok.kind,ok.glob,ok.blt,ok.above,ok.inj,ok.has,ok.cab,ok.hd,ok.frames,ok.stk,ok.exf,ok.bs,ok.bsz,ok.noex,ok.exfs,ok.funs,ok.frf⟩
theorem Cx.Ok.unwish {X:Cx}{E:Value->Shared->Prop}(ok:(X.wish E).Ok):X.Ok :=
 ⟨ok.mod,ok.kind,ok.glob,ok.blt,ok.above,ok.inj,ok.has,ok.cab,ok.hd,ok.frames,ok.stk,ok.exf,ok.bs,ok.bsz,ok.noex,ok.exfs,ok.funs,ok.frf⟩
section
variable {X:Cx}{σ:St}{H:Hp}{E:Value->Shared->Prop}
theorem Inv.wish (I:Inv X pins σ H s)(E:Value->Shared->Prop):Inv (X.wish E) pins σ H s:=⟨I.ok.wish E,I.os,I.bare,I.base,I.loc,I.cell,I.free,I.freeC,I.pin,I.hok,I.len⟩
theorem Inv.unwish (I:Inv (X.wish E) pins σ H s):Inv X pins σ H s:=⟨I.ok.unwish,I.os,I.bare,I.base,I.loc,I.cell,I.free,I.freeC,I.pin,I.hok,I.len⟩
theorem SP.unwish {D:Ends}{f:Flow}(h:SP (X.wish E) pins D f s'):SP X pins D f s':=by
 cases f with
 |next=>obtain⟨a,b,I,q⟩:=h;exact⟨a,b,I.unwish,q⟩
 |brk=>obtain⟨a,b,I,q⟩:=h;exact⟨a,b,I.unwish,q⟩
 |cont=>obtain⟨a,b,I,q⟩:=h;exact⟨a,b,I.unwish,q⟩
 |ret u=>obtain⟨v,a,b,I,r,q⟩:=h;exact⟨v,a,b,I.unwish,r,q⟩
theorem PSs.nox {st:List Stmt}{t:TS}(h:PSs X.nox st t):PSs X st t:=by with_unfolding_all exact (fun a s b H D I c =>
 ybt (h a s b H D (I.wish _) c) (fun _ _ q=>q.unwish) fun _ _ z=>ycm z)
end
section
variable {X:Cx}{rest:List Stmt}{t u:TS}{e:Expr}{te:TE}
def Xg8:TS:=fun D σ H=>D.nx σ H
def tSeq (t u:TS):TS:=fun D σ H=>t { D with nx:=u D } σ H
theorem Zb4:PSs X [] Xg8:=by with_unfolding_all exact (fun _ _ a H _ I h=>zdg ⟨a,H,I,h⟩)
theorem Za2 (h1:PS X st t)(h2:PSs X rest u):PSs X (st::rest) (tSeq t u):=by with_unfolding_all
 intro a s c H D I h;refine wpAny_execs_cons (thn (h1 a s c H { D with nx:=u D } I h) fun f d q=>?_)
 cases f with
 |next =>
  obtain⟨b,g,e,q⟩:=q;exact h2 a d b g D e q
 |ret v=>exact q
 |brk=>exact q
 |cont=>exact q
theorem Za7 (h1:PS X st t):PSs X [st] t:=by with_unfolding_all
 intro a s b H D I h;refine wpAny_execs_cons (thn (h1 a s b H D I h) fun f c q=>?_)
 cases f with
 |next=>exact zdg q
 |ret v=>exact q
 |brk=>exact q
 |cont=>exact q
def Ya1:TS:=fun D σ H=>D.bk σ H
theorem Xs3:PS X (.Break pos) Ya1:=by with_unfolding_all exact (fun _ _ a H _ I h=>wpAny_Break ⟨a,H,I,h⟩)
theorem Inv.quiet {σ:St}{H:Hp}(I:Inv X pins σ H s):interactive X.env=false:=by simp[interactive,I.ok.kind]
def Wa3 (te:TE):TS:=fun D σ H=>te σ H fun _ H1=>D.nx σ H1
theorem Zf3 (he:PE X e te)(hs:zdo e none pos.line X.env=pure false:=by rfl):PS X (.Expr e pos) (Wa3 te):=by with_unfolding_all
 intro a s b H D I h;exact wpAny_Expr_any (thn (he a s b H _ I h) fun v s1 zZ=>by obtain⟨x,H1,I1,r1,q1⟩:=zZ;exact ⟨b,H1,I1,q1⟩) I.quiet hs
def tRet (te:TE):TS:=fun D σ H=>te σ H D.rt
theorem Zb2 (he:PE X e te):PS X (.Return (some e) pos) (tRet te):=by with_unfolding_all
 intro a s b H D I h;exact wpAny_Return_some (thn (he a s b H _ I h) fun v s1 zZ=>by obtain⟨x,H1,I1,r1,q1⟩:=zZ;exact ⟨x,b,H1,I1,r1,q1⟩)
def tIfS (c:TT)(t u:TS):TS:=fun D σ H=>c σ H fun b H1=>if b=true then t D σ H1 else u D σ H1
theorem Zd1 {c:Expr}{a b:List Stmt}{tc:TT}(hc:PT X c tc)(ha:PSs X a t)(hb:PSs X b u):PS X (.If c a b pos) (tIfS tc t u):=by with_unfolding_all
 intro e s f H D I h;refine wpAny_If (thn (hc e s f H _ I h) fun d g l=>?_);obtain⟨k,j,i⟩:=l
 cases d with
 |true=>exact ha e g f k D j i
 |false=>exact hb e g f k D j i
def Zz7:TS:=fun _ _ _=>False
theorem Zy7:PS X st Zz7:=by with_unfolding_all exact (fun _ _ _ _ _ _ h=>h.elim)
end
noncomputable abbrev TG:=V->St->Hp->(St->Hp->Prop)->Prop
noncomputable abbrev TGs:=List V->St->Hp->(St->Hp->Prop)->Prop
@[irreducible] def PG (X:Cx)(target:Expr)(t:TG):Prop :=
 ∀(pins:List (Addr×Obj)) (s:Shared) (σ:St) (H:Hp) (v:V) (u:Value) (Q:St->Hp->Prop),Inv X pins σ H s->RelV v u->t v σ H Q ->
  wpAny (model X.prog X.w) X.A (assign target X.env u) (fun _ s'=>∃σ' H',Inv X pins σ' H' s'/\Q σ' H') X.xe s
@[irreducible] def PGs (X:Cx)(ts:List Expr)(t:TGs):Prop :=
 ∀(pins:List (Addr×Obj)) (s:Shared) (σ:St) (H:Hp) (vs:List V) (us:List Value) (Q:St->Hp->Prop),Inv X pins σ H s->Vals vs us->t vs σ H Q ->
  wpAny (model X.prog X.w) X.A (assignInOrder ((ycu ts X.env).map (·.2)) us) (fun _ s'=>∃σ' H',Inv X pins σ' H' s'/\Q σ' H') X.xe s
noncomputable abbrev TSet:=V->V->V->Hp->(Hp->Prop)->Prop
def PSet (X:Cx)(t:TSet):Prop :=
 ∀(pins:List (Addr×Obj)) (s:Shared) (σ:St) (H:Hp) (o i v:V) (ov iv u:Value) (Q:Hp->Prop),Inv X pins σ H s->RelV o ov->RelV i iv->RelV v u->t o i v H Q ->
  wpAny (model X.prog X.w) X.A (setItem ov iv u) (fun _ s'=>∃H',Inv X pins σ H' s'/\Q H') X.xe s
noncomputable abbrev TIp:=V->V->Hp->VK->Prop
def PIp (X:Cx)(op:Operator)(t:TIp):Prop :=
 ∀(pins:List (Addr×Obj)) (s:Shared) (σ:St) (H:Hp) (x y:V) (v u:Value) (Q:VK),Inv X pins σ H s->RelV x v->RelV y u->t x y H Q ->
  wpAny (model X.prog X.w) X.A (inplaceOp op v u) (EP X pins σ Q) X.xe s
section
variable {X:Cx}
def Zu3 (i:Nat):TG:=fun v σ H Q=>Q (σ.set i (some v)) H
theorem Wb7 (hN:X.N.Nodup)(hi:X.N[i]?=some x)(hx:Loc X.env.scope x)(hf:X.fn x=true∨X.env.scope.names.lookup x=some .local:=by first | exact .inl rfl | exact .inr rfl | assumption):PG X (.Name x pos) (Zu3 i):=by with_unfolding_all
 intro a s c H v u Q I r h;exact wpAny_assign_Name (Zs6 I hN hi hx r (fun d b=>⟨_,H,b,h⟩) hf)
def gNil:TGs:=fun vs σ H Q=>vs=[]/\Q σ H
def Xn3 (t:TG)(u:TGs):TGs:=fun vs σ H Q=>∃v r,vs=v::r/\t v σ H fun σ' H'=>u r σ' H' Q
theorem Zg1:PGs X [] gNil:=by with_unfolding_all
 intro b s a H c d Q I r h;obtain⟨e,h⟩:=h;exact assignInOrder_nil ⟨a,H,I,h⟩
theorem Zc2 {e:Expr}{es:List Expr}{t:TG}{u:TGs}(h1:PG X e t)(h2:PGs X es u)
  (hs:(ycu (e::es) X.env).map (·.2)=assign e X.env::(ycu es X.env).map (·.2):=by rfl):PGs X (e::es) (Xn3 t u):=by with_unfolding_all
 intro a s c H l n Q I r h;obtain⟨v,m,i,h⟩:=h;subst i
 cases r with
 |cons r rr =>
  rw[hs];refine assignInOrder_cons (thn (h1 a s c H _ _ _ I r h) fun _ f d=>?_);obtain⟨b,k,j,g⟩:=d;exact h2 a f b k _ _ Q j rr g
def gTup (K:W.Frag)(n:Nat)(t:TGs):TG:=fun v σ H Q=>∃a xs,v=.ref a/\SqT K H a xs/\xs.length=n/\t xs σ H Q
theorem Zi2 {es:List Expr}{k:Nat}{t:TGs}(hc:X.calm=true)(h:PGs X es t)(hn:(ycu es X.env).length=n:=by rfl)(hst:(ycu es X.env).findIdx? (·.1)=none:=by rfl):PG X (.Tuple es k pos) (gTup X.K n t):=by with_unfolding_all
 intro c s f H v u Q I r d;obtain⟨a,g,w,m,p,d⟩:=d;subst w;cases r;obtain⟨y,i,l,z⟩:=I.tuple m;refine assign_Tuple_tuple (I.ok.hd hc) l (by simp[hn,<- p,i.length]) hst fun q j=>?_;have x:Inv X c f H { s with heap:=q }:=I.kept (t':=s.toks) fun b o e=>j b o (yq (zj e)) e;exact h c _ f H g _ Q x (by omega) d
def gSub (to ti:TE)(t:TSet):TG:=fun v σ H Q=>to σ H fun o H1=>ti σ H1 fun i H2=>t o i v H2 fun H3=>Q σ H3
theorem Wl4 {o i:Expr}{to ti:TE}{t:TSet}(ho:PE X o to)(hi:PE X i ti)(hs:PSet X t)
  (ha:∀v,assign (.Subscript o i pos) X.env v=(do
   let ov <- holding [v] (eval o X.env)
   let iv <- holding [v,ov] (eval i X.env)
   standAt pos
   holding [v,ov,iv] (setItem ov iv v)
   release [v,ov,iv] []):=by intro _;rfl):PG X (.Subscript o i pos) (gSub to ti t):=by with_unfolding_all
 intro b s c H v u Q I r h;rw[ha];refine za (zap (thn (ho b s c H _ I h) fun ov e a=>?_));obtain⟨x,z,p,g,l⟩:=a;refine za (zap (thn (hi b e c z _ p l) fun iv d a=>?_));obtain⟨y,w,n,f,k⟩:=a;refine za (zco (za (zap (thn (hs _ d c w x y v ov iv u _ n g f r k) fun _ A a=>?_))));obtain⟨q,m,j⟩:=a;exact wpAny_release ⟨c,q,m,j⟩
def tAsg (te:TE)(g:TG):TS:=fun D σ H=>te σ H fun x H1=>g x σ H1 D.nx
theorem Zj9 {tg e:Expr}{te:TE}{g:TG}(he:PE X e te)(hg:PG X tg g)(hs:swapsWithSole [tg] e pos.line X.env=pure false:=by rfl)(hw:swappedStores [tg] e X.env=pure none:=by rfl)
  (h1:(ycu [tg] X.env).map (·.2)=[assign tg X.env]:=by rfl):PS X (.Assign [tg] e pos) (tAsg te g):=by with_unfolding_all
 intro a s b H D I h;refine wpAny_Assign_stores (thn (he a s b H _ I h) fun v s1 ⟨x,H1,I1,r1,q1⟩=>?_) hs hw;rw[h1];exact thn (hg a s1 b H1 x v _ I1 r1 q1) fun _ c q=>q
theorem Zw6 {i:Nat}{e:Expr}{te:TE}(hN:X.N.Nodup)(hi:X.N[i]?=some x)(hx:Loc X.env.scope x)(he:PE X e te)(hs:zdo e (some (.Name x pos')) pos.line X.env=pure false:=by rfl)(hf:X.fn x=true∨X.env.scope.names.lookup x=some .local:=by first | exact .inl rfl | exact .inr rfl | assumption):
  PS X (.Assign [.Name x pos'] e pos) (tAsg te (Zu3 i)):=by with_unfolding_all
 intro a s b H D I h;refine wpAny_Assign_Name (thn (he a s b H _ I h) fun v s1 ⟨y,H1,I1,r1,q1⟩=>?_) hs;exact Zs6 I1 hN hi hx r1 (fun d c=>⟨_,H1,c,q1⟩) hf
def tAug (i:Nat)(te:TE)(ti:TIp):TS:=fun D σ H=>∃x,σ[i]?=some (some x)/\te σ H fun y H1=>ti x y H1 fun z H2=>D.nx (σ.set i (some z)) H2
theorem Xw2 {i:Nat}{e:Expr}{te:TE}{op:Operator}{ti:TIp}(hN:X.N.Nodup)(hi:X.N[i]?=some x)(hx:Loc X.env.scope x)(he:PE X e te)(ho:PIp X op ti)(hf:X.fn x=true∨X.env.scope.names.lookup x=some .local:=by first | exact .inl rfl | exact .inr rfl | assumption):
  PS X (.AugAssign (.Name x pos') op e pos) (tAug i te ti):=by with_unfolding_all
 intro b s g H D I h;obtain⟨v,L,h⟩:=h;obtain⟨m,C,G⟩:=I.loc
 have j:Vis X.env.scope x:=by rcases hx with k | k;exact .inl k;exact .inr (.inl k)
 obtain⟨u,r,l⟩:=G i x v hi L j;refine wpAny_AugAssign_Name ?_
 have n:wpAny (model X.prog X.w) X.A (eval e X.env) (fun w s₂=>wpAny (model X.prog X.w) X.A (inplaceOp op u w) (fun r s₃=>wpAny (model X.prog X.w) X.A (storeName X.env x r) (fun _=>SP X b D .next) X.xe s₃) X.xe s₂) X.xe s:=by
  refine thn (he b s g H _ I h) fun w o f=>?_;obtain⟨y,T,R,q,B⟩:=f;refine thn (ho _ o g T v y u w _ R r q B) fun z W f=>?_;obtain⟨U,S,O,p,t⟩:=f;exact Zs6 O hN hi hx p (fun V M=>⟨_,S,M,t⟩) hf
 rcases l with ⟨a,F⟩ | ⟨a,c,J,d⟩
 ·exact wpAny_loadName_local I.ok.kind a C F n
 ·rcases a with a | a
  ·exact wpAny_loadName_cell I.ok.kind a J d n
  ·rcases hx with k | k
   ·have:X.env.scope.names.lookup x=some .free:=a
    simp_all
   ·have:X.env.scope.names.lookup x=some .free:=a
    simp_all
noncomputable def ipI (f:Int->Int->Int):TIp:=fun x y H Q=>∃i j,x=.int i/\y=.int j/\Q (.int (f i j)) H
theorem Xx6:PIp X .Add (ipI fun i j=>i+j):=by
 intro c s f H x y v u Q I b a h;obtain⟨i,j,e,d,q⟩:=h;subst e d;obtain⟨t,rfl⟩:=b;obtain⟨g,rfl⟩:=a;exact iadd_int ⟨.int _,H,I.tok _,⟨_,rfl⟩,q⟩
end
section
variable {X:Cx}
def Wi1 (c:TT)(tb:TS):TS:=fun D σ H=>∃W:Nat->St->Hp->Prop,(∃m,W m σ H)/\∀m σ H,W m σ H ->
 c σ H fun b H1=>if b=true then ∃N:St->Hp->Prop,(∀σ' H',N σ' H'->∃m',m' < m/\W m' σ' H')/\tb { D with nx:=N,ct:=N,bk:=D.nx } σ H1 else D.nx σ H1
theorem Zt0 {c:Expr}{body:List Stmt}{tc:TT}{tb:TS}(hp:PassesOwn (model X.prog X.w) X.A X.env X.xe)(hc:PT X c tc)(hb:PSs X body tb):PS X (.While c body [] pos) (Wi1 tc tb):=by with_unfolding_all
 intro d s y H D I h;obtain⟨W,⟨L,C⟩,l⟩:=h;refine wpAny_While (codeAny_whileLoop (fun n J=>∃σ' H',Inv X d σ' H' J/\W n σ' H') ?_ L ⟨y,H,I,C⟩);rintro n G ⟨e,x,M,B⟩;refine zbn hp (thn (hc d G e x _ M (l n e x B)) fun b F z=>?_);obtain⟨u,t,j⟩:=z
 cases b with
 |true =>
  obtain⟨N,r,j⟩:=j;rw[if_pos rfl];refine zbn hp (thn (hb d F e u _ t j) fun f O i=>?_)
  cases f with
  |next =>
   obtain⟨a,g,q,m⟩:=i;obtain⟨o,p,k⟩:=r a g m;exact⟨o,p,a,g,q,k⟩
  |cont =>
   obtain⟨a,g,q,m⟩:=i;obtain⟨o,p,k⟩:=r a g m;exact⟨o,p,a,g,q,k⟩
  |brk=>exact i
  |ret v=>exact i
 |false =>
  exact zdg ⟨e,u,t,j⟩
end
structure It where
 go:Nat->Hp->Prop
 yld:Nat->Hp->V->Hp->Prop
 stop:Nat->Hp->Prop
def FpOk (X:Cx)(pins:List (Addr×Obj))(H:Hp)(b:Addr):Prop :=
 H b=none/\b≠X.env.locals/\b ∉ X.fs/\(b∈X.ex∨X.s₀.heap.objs.size<=b)/\(∀x c,X.env.cells.lookup x=some c->c≠b)/\∀p∈X.pn++pins,p.1≠b
theorem Inv.fpOk {X:Cx}{σ:St}{H H':Hp}(I:Inv X pins σ H s)(hb:s.heap.objs.size<=b)(hn:H' b=none):FpOk X pins H' b:=by
 refine⟨hn,Nat.ne_of_gt (zn I.lt hb),I.nofs hb,.inr (yj I.sz hb),fun x c e z=>?_,fun p a z=>?_⟩
 ·obtain⟨v,q⟩:=I.cell x c e
  exact absurd (zn q.lt (by simp_all)) (Nat.lt_irrefl _)
 ·exact absurd (zn (zj (I.pin p a).1) (by simp_all)) (Nat.lt_irrefl _)
structure Turn (P:zf)(w:World)(K:W.Frag)(tg:Expr)(J:It)(fp:List Addr)(it:Addr)(tn:Nat->Heap->Prop):Prop where
  mem:it∈fp
  obj:∀i h,tn i h->∀b∈fp,∃o,h.get? b=some o/\∀v,o.data≠.cell v
  keep:∀i h h',tn i h->(∀b∈fp,∀o,h.get? b=some o->h'.get? b=some o)->tn i h'
  item:∀(X:Cx),X.prog=P->X.w=w->X.K=K->X.calm=true->∀(i:Nat) (pins:List (Addr×Obj)) (s:Shared) (σ:St) (H:Hp) (E:Value->Shared->Prop),Inv X pins σ H s->(∀b∈fp,FpOk X pins H b)->tn i s.heap->J.go i H ->
    wpAny (model P w) X.A (pyNext (.ref it)) (fun r s1=>∃u,r=some u /\
      wpAny (model P w) X.A (letOwnedTupleGo tg (.ref it) u) (fun _ s2=>∃x H',Inv X pins σ H' s2/\RelV x u/\J.yld i H x H'/\tn (i+1) s2.heap/\∀b∈fp,H' b=none) E s1) E s
  done:∀(X:Cx),X.prog=P->X.w=w->X.K=K->X.calm=true->∀(i:Nat) (pins:List (Addr×Obj)) (s:Shared) (σ:St) (H:Hp) (E:Value->Shared->Prop),Inv X pins σ H s->(∀b∈fp,FpOk X pins H b)->tn i s.heap->J.stop i H ->
    wpAny (model P w) X.A (pyNext (.ref it)) (fun r s1=>r=none/\Inv X pins σ H s1) E s
  self:∀(A:Around) (i:Nat) (s:Shared) (Q:Value->Shared->Prop) (E:Value->Shared->Prop),tn i s.heap->Q (.ref it) s->wpAny (model P w) A (pyIter (.ref it)) Q E s
noncomputable abbrev TI:=St->Hp->(It->Hp->Prop)->Prop
def PIE (X:Cx)(pins:List (Addr×Obj))(σ:St)(tg:Expr)(R:It->Hp->Prop)(itv:Value)(s2:Shared):Prop :=
 ∃(it:Addr) (fp:List Addr) (tn:Nat->Heap->Prop) (J:It) (H':Hp),itv=.ref it/\Inv X pins σ H' s2/\Turn X.prog X.w X.K tg J fp it tn/\tn 0 s2.heap/\(∀b∈fp,FpOk X pins H' b)/\R J H'
@[irreducible] def PI (X:Cx)(tg iter:Expr)(wi:TI):Prop :=
 ∀(pins:List (Addr×Obj)) (s:Shared) (σ:St) (H:Hp) (R:It->Hp->Prop),Inv X pins σ H s->wi σ H R ->
  wpAny (model X.prog X.w) X.A (eval iter X.env) (fun v s1=>wpAny (model X.prog X.w) X.A (pyIter v) (PIE X pins σ tg R) X.xe s1) X.xe s
theorem Xd4 {E:Value->Shared->Prop}{tg:Expr}{o:Obj}{n:String}{vs:Array Value}{Q:Unit->Shared->Prop}(ho:s.heap.get? it=some o)(hc:o.cls=.type n)(hd:o.data=.fields vs)(hn:["enumerate","zip","dict_itemiterator","dict_reverseitemiterator","odict_iterator","itertools.zip_longest","itertools.pairwise"].contains n=false)(hQ:Q () s):wpAny M A (letOwnedTupleGo tg (.ref it) u) Q E s:=by
  cases tg<;>first
    |exact yb hQ
    | (cases u<;>first
        |exact yb hQ
        | (refine za (wpAny_load ho ?_)
           rw[hc,hd];show wpAny M A (if _=true then _ else _) Q E s;rw[if_neg (by intro h;rw[hn,Bool.false_and] at h;cases h)]
           exact yb hQ))
noncomputable def Itl (K:W.Frag)(a:Addr):It :=
 ⟨fun i H=>∃xs x,SqL K H a xs/\xs[i]?=some x,fun i H x H'=>H'=H/\∀xs,SqL K H a xs->xs[i]?=some x,fun i H=>∃xs,SqL K H a xs/\xs.length<=i⟩
noncomputable def Itt (K:W.Frag)(a:Addr):It :=
 ⟨fun i H=>∃xs x,SqT K H a xs/\xs[i]?=some x,fun i H x H'=>H'=H/\∀xs,SqT K H a xs->xs[i]?=some x,fun i H=>∃xs,SqT K H a xs/\xs.length<=i⟩
noncomputable def Itr (lo:Int)(n:Nat):It:=⟨fun i _=>i < n,fun i H x H'=>H'=H/\x=.int (lo+i),fun i _=>n<=i⟩
theorem Xf4 {P:zf}{tg:Expr}(a it:Addr):Turn P w K tg (Itl K a) [it] it (fun i h=>h.IsListIter it a i) where
  mem:=by simp
  obj:=fun i h f b g=>by
    obtain⟨o,e,c,d⟩:=f
    simp_all
  keep:=fun i h z f k=>f.at fun o e=>k it (by simp) o e
  item:=by
    intro X v r y M i q s G H E I l f t;subst v r y;obtain⟨N,x,j,L⟩:=t;obtain⟨J,n,p,S⟩:=I.list j;obtain⟨u,hu,R⟩:=n.get L;obtain⟨F,D,U,C,B,A⟩:=l it (by simp);refine wpAny_pyNext_list_item f p.isList (x:=u) (by simp_all) fun z m O=>?_;have Y:Inv X _ G H { s with heap:=z }:=I.turned (fun b o g e=>(O.2 b g).trans e) F D C B A;obtain⟨o,e,c,d⟩:=id m;exact⟨u,rfl,Xd4 e c d rfl ⟨x,H,Y,R,⟨rfl,fun Z T=>by rw[I.list_inj T j];omega⟩,m,fun b g=>(l b g).1⟩⟩
  done:=by
    intro X v r y M i q s G H E I l f t;subst v r y;obtain⟨N,j,L⟩:=t;obtain⟨J,n,p,S⟩:=I.list j;obtain⟨F,D,U,C,B,A⟩:=l it (by simp);have hl:=n.length;exact wpAny_pyNext_list_end (I.ok.hd M) f p.isList (by simp_all) fun z V=>⟨rfl,I.turned (fun b o g e=>V b o g e) F D C B A⟩
  self:=fun _ _ _ _ _ f h=>wpAny_pyIter_listiter f h
theorem Xa9 {P:zf}{tg:Expr}(a it:Addr):Turn P w K tg (Itt K a) [it] it (fun i h=>h.IsTupleIter it a i) where
  mem:=by simp
  obj:=fun i h f b g=>by
    obtain⟨o,e,c,d⟩:=f
    simp_all
  keep:=fun i h z f k=>f.at fun o e=>k it (by simp) o e
  item:=by
    intro X v r y M i q s G H E I l f t;subst v r y;obtain⟨N,x,j,L⟩:=t;obtain⟨J,n,p,S⟩:=I.tuple j;obtain⟨u,hu,R⟩:=n.get L;obtain⟨F,D,U,C,B,A⟩:=l it (by simp);refine wpAny_pyNext_tuple_item f (by assumption) (x:=u) (by simp_all) fun z m O=>?_;have Y:Inv X _ G H { s with heap:=z }:=I.turned (fun b o g e=>(O.2 b g).trans e) F D C B A;obtain⟨o,e,c,d⟩:=id m;exact⟨u,rfl,Xd4 e c d rfl ⟨x,H,Y,R,⟨rfl,fun Z T=>by rw[I.tuple_inj T j];omega⟩,m,fun b g=>(l b g).1⟩⟩
  done:=by
    intro X v r y M i q s G H E I l f t;subst v r y;obtain⟨N,j,L⟩:=t;obtain⟨J,n,p,S⟩:=I.tuple j;obtain⟨F,D,U,C,B,A⟩:=l it (by simp);have hl:=n.length;exact wpAny_pyNext_tuple_end (I.ok.hd M) f (by assumption) (by simp_all) fun z V=>⟨rfl,I.turned (fun b o g e=>V b o g e) F D C B A⟩
  self:=fun _ _ _ _ _ f h=>wpAny_pyIter_tupleiter f h
theorem Xb0 {P:zf}{tg:Expr}(it:Addr)(lo:Int)(n:Nat):Turn P w K tg (Itr lo n) [it] it (fun i h=>IsRangeIter h it (lo+(i:Nat)*1) ((n:Int) - (i:Nat)) 1) where
  mem:=by simp
  obj:=fun i h a b c=>by
    simp_all
  keep:=fun i h m a k=>k it (by simp) _ a
  item:=by
    intro X A z B l i g s y H E I d a j;subst A z B;obtain⟨x,u,G,r,q,p⟩:=d it (by simp);have W:=Walks.range (prog:=X.prog) (w:=X.w) (I.ok.hd l) it lo 1 n;refine W.item i s _ _ j a fun v m C F f D=>?_;obtain⟨t,rfl⟩:=F;have L:Inv X _ y H { s with heap:=m,toks:=C }:=I.turned (fun b o c e=>D b o (by simp_all) e) x u r q p;refine⟨_,rfl,Xd4 f rfl rfl rfl ⟨.int _,H,L,⟨t,?_⟩,⟨rfl,rfl⟩,f,fun b c=>(d b c).1⟩⟩;simp
  done:=by
    intro X A z B l i g s y H E I d a j;obtain⟨x,u,G,r,q,p⟩:=d it (by simp);exact wpAny_pyNext_range_end (I.ok.hd l) a (by have:n<=i:=j;omega) fun m J=>⟨rfl,I.turned (fun b o c e=>J b o c e) x u r q p⟩
  self:=fun _ _ _ _ _ a h=>yct a h
section
variable {X:Cx}{tg:Expr}
def Yu8 (K:W.Frag)(tl:TE):TI:=fun σ H R=>tl σ H fun x H1=>∃a,x=.ref a/\(∃xs,SqL K H1 a xs)/\R (Itl K a) H1
def iTup (K:W.Frag)(tl:TE):TI:=fun σ H R=>tl σ H fun x H1=>∃a,x=.ref a/\(∃xs,SqT K H1 a xs)/\R (Itt K a) H1
theorem Xj0 {l:Expr}{tl:TE}(hl:PE X l tl):PI X tg l (Yu8 X.K tl):=by with_unfolding_all
 intro f s g H R I h;refine thn (hl f s g H _ I h) fun v d i=>?_;obtain⟨x,n,c,j,k⟩:=i;obtain⟨a,e,⟨t,m⟩,q⟩:=k;subst e;cases j;obtain⟨r,u,p,w⟩:=c.list m;refine wpAny_pyIter_list p.isList ?_;refine⟨d.heap.objs.size,[d.heap.objs.size],_,_,n,rfl,c.kept fun b o e=>ya _ e,Xf4 a _,⟨_,zh _ rfl,rfl,rfl⟩,fun b y=>?_,q⟩
 have e:b=d.heap.objs.size:=by simp_all
 subst e;exact c.fpOk (by simp) (c.hok.fresh (by simp))
theorem Wl2 {l:Expr}{tl:TE}(hl:PE X l tl):PI X tg l (iTup X.K tl):=by with_unfolding_all
 intro f s g H R I h;refine thn (hl f s g H _ I h) fun v d i=>?_;obtain⟨x,n,c,j,k⟩:=i;obtain⟨a,e,⟨t,m⟩,q⟩:=k;subst e;cases j;obtain⟨r,u,p,w⟩:=c.tuple m;refine wpAny_pyIter_tuple (by assumption) ?_;refine⟨d.heap.objs.size,[d.heap.objs.size],_,_,n,rfl,c.kept fun b o e=>ya _ e,Xa9 a _,⟨_,zh _ rfl,rfl,rfl⟩,fun b y=>?_,q⟩
 have e:b=d.heap.objs.size:=by simp_all
 subst e;exact c.fpOk (by simp) (c.hok.fresh (by simp))
theorem Xr9 {σ:St}{H:Hp}{R:It->Hp->Prop}{E:Value->Shared->Prop}{hi:Int}{t u v:Tok}{tk:Nat}(I:Inv X pins σ H s)(h1:-(2 ^ 62)<=lo)(h2:lo < 2 ^ 62)(h3:-(2 ^ 62)<=hi)(h4:hi < 2 ^ 62)(q:R (Itr lo (hi - lo).toNat) H):wpAny (model X.prog X.w) X.A (pyIter (.ref s.heap.objs.size)) (PIE X pins σ tg R) E { s with heap:=s.heap.push { cls:=.type "range",data:=.fields #[.int lo t,.int hi u,.int 1 v] },toks:=tk }:=by
 refine wpAny_pyIter_range (IsRange.new ..) (small_one h1 h2 h3 h4) ?_;have a:Inv X _ σ H { s with heap:=s.heap.push { cls:=.type "range",data:=.fields #[.int lo t,.int hi u,.int 1 v] },toks:=tk }:=I.kept fun b o e=>ya _ e
 refine⟨(s.heap.push { cls:=.type "range",data:=.fields #[.int lo t,.int hi u,.int 1 v] }).objs.size,[(s.heap.push { cls:=.type "range",data:=.fields #[.int lo t,.int hi u,.int 1 v] }).objs.size],_,_,H,rfl,
  a.kept fun b o e=>ya _ e,Xb0 _ lo (hi - lo).toNat,?_,fun b f=>?_,q⟩
 ·have d:lo+((0:Nat))*1=lo:=by simp
  have c:(((hi - lo).toNat):Int) - ((0:Nat))=zdn.Range.rangeSize lo hi 1:=by rw[rangeSize_one];split<;>omega
  rw[d,c];exact zh _ rfl
 ·have e:b=(s.heap.push { cls:=.type "range",data:=.fields #[.int lo t,.int hi u,.int 1 v] }).objs.size:=by simp_all
  subst e;exact a.fpOk (zg _) (a.hok.fresh (zg _))
def Yu5 (ta:TA):TI:=fun σ H R=>ta σ H fun vs H1=>∃j:Int,vs=[.int j]/\-(2 ^ 62)<=j/\j < 2 ^ 62/\R (Itr 0 j.toNat) H1
theorem Zt1 {a:Expr}{ta:TA}{p:Pos}(hg:Gl X "range")(hm:X.mg "range"=none)(ha:PA X [a] ta)(hs:zx [a] X.env=[(false,eval a X.env)]:=by rfl):PI X tg (.Call (.Name "range" p) [a] [] pos) (Yu5 ta):=by with_unfolding_all
 intro c s d H R I h;refine Call_ (Zq3 I hg hm boot_range (zaf (thn (ha pos c s d H _ I h) fun us s1 ⟨vs,H1,I1,r1,b⟩=>?_) hs rfl));obtain⟨j,e,b,f,q⟩:=b;subst e
 cases r1 with
 |cons r rr =>
  cases rr;obtain⟨t,rfl⟩:=r;exact call_range_1 (Xr9 I1 (by omega) (by omega) b f (by simp_all))
def tFor (wi:TI)(g:TG)(tb:TS):TS:=fun D σ H=>wi σ H fun J H1=>∃W:Nat->Nat->St->Hp->Prop,(∃m,W 0 m σ H1)/\∀i m σ H,W i m σ H ->
 (J.stop i H/\D.nx σ H)∨(J.go i H/\∃N:St->Hp->Prop,(∀σ' H',N σ' H'->∃m',m' < m/\W (i+1) m' σ' H')/\∀x H',J.yld i H x H'->g x σ H' fun σ2 H2=>tb { D with nx:=N,ct:=N,bk:=D.nx } σ2 H2)
noncomputable def Yy1 (fp:List Addr)(h:Heap):List (Addr×Obj):=fp.filterMap fun b=>(h.get? b).map fun o=>(b,o)
theorem Zp8 {o:Obj}(hb:b∈fp)(e:h.get? b=some o):(b,o)∈Yy1 fp h:=List.mem_filterMap.mpr ⟨b,hb,by simp_all⟩
theorem Xj9 {p:Addr×Obj}(hp:p∈Yy1 fp h):p.1∈fp/\h.get? p.1=some p.2:=by
 obtain⟨b,a,e⟩:=List.mem_filterMap.mp hp
 cases q:h.get? b with
 |none=>simp_all
 |some o =>
  rw[q] at e;have c  := zu e;subst c;exact⟨a,q⟩
theorem Inv.pinned {σ:St}{H:Hp}(I:Inv X pins σ H s)(hf:∀b∈fp,FpOk X pins H b)(ho:∀b∈fp,∃o,s.heap.get? b=some o/\∀v,o.data≠.cell v):Inv X (pins++Yy1 fp s.heap) σ H s :=
 I.pins_of fun p f=>(yg.mp f).elim (fun z=>I.pin p (zm _ z)) fun z=>by
  obtain⟨a,e⟩:=Xj9 z;obtain⟨i,h,g,_⟩:=hf p.1 a;obtain⟨o,c,d⟩:=ho p.1 a;rw[e] at c;cases c;exact⟨e,i,h,g,d⟩
theorem Inv.unpinned {pl:List (Addr×Obj)}{σ:St}{H:Hp}(I:Inv X (pins++pl) σ H s):Inv X pins σ H s:=I.pins_of fun p a=>I.pin p (zm _ (zy _ a))
theorem Ye5 {iter:Expr}{body:List Stmt}{wi:TI}{g:TG}{tb:TS}(hp:PassesOwn (model X.prog X.w) X.A X.env X.xe)(hc:X.calm=true)(hi:PI X tg iter wi)(hg:PG X tg g)(hb:PSs X body tb)(hs:∀x,zba iter X.env x=pure x:=by intro _;rfl):PS X (.For tg iter body [] pos) (tFor wi g tb):=by with_unfolding_all
 intro c s V H D I h;refine wpAny_For (thn (hi c s V H _ I h) fun v s1 h1=>thn h1 fun q2 s2 h2=>?_) hs;obtain⟨it,C,Y,J,H2,e,I2,T,Z,f2,W,⟨m0,w0⟩,M⟩:=h2;subst e;have t:∀{H':Hp},(∀b∈C,H' b=none)->∀b∈C,FpOk X c H' b:=fun hn b hb=>⟨hn b hb,(f2 b hb).2⟩;refine codeAny_forLoop_any (fun n s'=>∃i σ' H',Inv X c σ' H' s'/\Y i s'.heap/\(∀b∈C,H' b=none)/\W i n σ' H') ?_ m0 ⟨0,V,H2,I2,Z,fun b hb=>(f2 b hb).1,w0⟩;rintro n s3 ⟨i,l,F,I3,G,L,w3⟩;rcases M i n l F w3 with ⟨O,qn⟩ | ⟨go,N,hN,R⟩
 ·refine zbn hp (thn (T.done X rfl rfl rfl hc i _ s3 l F _ I3 (t L) G O) fun r s4 q=>?_);obtain⟨S,I4⟩:=q
  subst S;exact zdg ⟨l,F,I4,qn⟩
 ·refine zbn hp (thn (T.item X rfl rfl rfl hc i c s3 l F X.xe I3 (t L) G go) fun r s4 q=>?_);obtain⟨u,S,h4⟩:=q
  subst S;refine zbn hp (thn h4 fun _ s5 q=>?_);obtain⟨x,H5,I5,r5,y5,z,q0⟩:=q;have q1:=I5.pinned (t q0) (T.obj _ _ z);refine zbn hp (thn (hg _ s5 l H5 x u _ q1 r5 (R x H5 y5)) fun _ s6 q=>?_);obtain⟨U,H6,I6,q6⟩:=q;refine zbn hp (thn (hb _ s6 U H6 _ I6 q6) fun f s7 p=>?_)
  have y:∀{a:St} {k:Hp},Inv X (c++Yy1 C _) a k s7->N a k->∃m,m < n/\∃i σ' H',Inv X _ σ' H' s7/\Y i _/\(∀b∈C,H' b=none)/\W i m σ' H':=fun {a k} j B=>by
   obtain⟨m',hm,w7⟩:=hN a k B;refine⟨m',hm,i+1,a,k,j.unpinned,T.keep _ _ _ z fun b hb o e=>(j.pin (b,o) (zm _ (zm _ (Zp8 hb e)))).1,fun b hb=>?_,w7⟩;obtain⟨o,e,d⟩:=T.obj _ _ z b hb;exact (j.pin (b,o) (zm _ (zm _ (Zp8 hb e)))).2.1
  cases f with
  |next=>obtain⟨a,k,j,B⟩:=p;exact y j B
  |cont=>obtain⟨a,k,j,B⟩:=p;exact y j B
  |brk=>obtain⟨a,k,j,p⟩:=p;exact⟨a,k,j.unpinned,p⟩
  |ret v=>obtain⟨x7,a,k,j,r7,p⟩:=p;exact⟨x7,a,k,j.unpinned,r7,p⟩
end
theorem Yp3 {lo:Int}{n:Nat}{g:TG}{tb:TS}{D:Ends}{σ:St}{H:Hp}(Pv:Nat->St->Hp->Prop)(h0:Pv 0 σ H)
  (hs:∀i σ H,i < n->Pv i σ H->g (.int (lo+i)) σ H fun σ2 H2=>tb { D with nx:=Pv (i+1),ct:=Pv (i+1),bk:=D.nx } σ2 H2) (hd:∀σ H,Pv n σ H->D.nx σ H) :
  ∃W:Nat->Nat->St->Hp->Prop,(∃m,W 0 m σ H)/\∀i m σ H,W i m σ H ->
   ((Itr lo n).stop i H/\D.nx σ H)∨((Itr lo n).go i H/\∃N:St->Hp->Prop,(∀σ' H',N σ' H'->∃m',m' < m/\W (i+1) m' σ' H')/\∀x H',(Itr lo n).yld i H x H'->g x σ H' fun σ2 H2=>tb { D with nx:=N,ct:=N,bk:=D.nx } σ2 H2):=by
 refine⟨fun i m σ H=>m=n - i/\i<=n/\Pv i σ H,⟨n,by simp,yaq _,h0⟩,?_⟩;rintro i m σ H ⟨rfl,b,p⟩
 by_cases hlt:i < n
 ·refine .inr ⟨hlt,Pv _,fun σ' H' a=>⟨n - _,by omega,rfl,hlt,a⟩,fun x H' y=>?_⟩
  obtain⟨e,y⟩:=y
  simp_all
 ·have e:i=n:=by omega
  subst e;exact .inl ⟨zg _,hd σ H p⟩
noncomputable abbrev R2:=V->V->Hp->VK->Prop
def OpR (X:Cx)(f:Value->Value->Sem Value)(r:R2):Prop :=
 ∀(pins:List (Addr×Obj)) (s:Shared) (σ:St) (H:Hp) (x y:V) (v u:Value) (Q:VK),Inv X pins σ H s->RelV x v->RelV y u->r x y H Q ->
  wpAny (model X.prog X.w) X.A (f v u) (EP X pins σ Q) X.xe s
def UnR (X:Cx)(f:Value->Sem Value)(r:V->Hp->VK->Prop):Prop :=
 ∀(pins:List (Addr×Obj)) (s:Shared) (σ:St) (H:Hp) (x:V) (v:Value) (Q:VK),Inv X pins σ H s->RelV x v->r x H Q ->
  wpAny (model X.prog X.w) X.A (f v) (EP X pins σ Q) X.xe s
def Yq9 (X:Cx)(f:Value)(r:List V->Hp->VK->Prop):Prop :=
 ∀(pins:List (Addr×Obj)) (s:Shared) (σ:St) (H:Hp) (xs:List V) (us:List Value) (Q:VK),Inv X pins σ H s->Vals xs us->r xs H Q ->
  wpAny (model X.prog X.w) X.A (call f us) (EP X pins σ Q) X.xe s
def TruR (X:Cx)(r:V->Hp->(Bool->Hp->Prop)->Prop):Prop :=
 ∀(pins:List (Addr×Obj)) (s:Shared) (σ:St) (H:Hp) (x:V) (v:Value) (Q:Bool->Hp->Prop),Inv X pins σ H s->RelV x v->r x H Q ->
  wpAny (model X.prog X.w) X.A (truthy v) (TP X pins σ Q) X.xe s
def tOp (r:R2)(ta tb:TE):TE:=fun σ H Q=>ta σ H fun x H1=>tb σ H1 fun y H2=>r x y H2 Q
def tUn (r:V->Hp->VK->Prop)(ta:TE):TE:=fun σ H Q=>ta σ H fun x H1=>r x H1 Q
def rI (C:Int->Int->Prop)(g:Int->Int->V):R2:=fun x y H Q=>∃i j,x=.int i/\y=.int j/\C i j/\Q (g i j) H
def rI0 (g:Int->Int->V):R2:=fun x y H Q=>∃i j,x=.int i/\y=.int j/\Q (g i j) H
def rU (g:Int->V):V->Hp->VK->Prop:=fun x H Q=>∃i,x=.int i/\Q (g i) H
section
variable {X:Cx}{a b c:Expr}{ta tb tc:TE}
theorem binT (ha:PE X a ta)(hb:PE X b tb){σ:St}{H:Hp}{R:V->V->Hp->Prop}(I:Inv X pins σ H s)(h:ta σ H fun x H1=>tb σ H1 fun y H2=>R x y H2){Q:Value->Shared->Prop}{f:Value->Value->Sem Value}(hf:∀v u s2 x y H2,Inv X pins σ H2 s2->RelV x v->RelV y u->R x y H2->wpAny (model X.prog X.w) X.A (f v u) Q X.xe s2):
  wpAny (model X.prog X.w) X.A (eval a X.env) (fun v s₁=>wpAny (model X.prog X.w) X.A (eval b X.env) (fun u s₂=>wpAny (model X.prog X.w) X.A (f v u) Q X.xe s₂) X.xe s₁) X.xe s:=by with_unfolding_all
 refine thn (ha pins s σ H _ I h) fun v d c=>?_;obtain⟨x,H1,l,g,j⟩:=c;refine thn (hb pins d σ H1 _ l j) fun u s2 c=>?_;obtain⟨y,H2,k,e,i⟩:=c;exact hf v u s2 x y H2 k g e i
theorem Zb6 {op:Operator}{r:R2}(ho:OpR X (zbq op) r)(ha:PE X a ta)(hb:PE X b tb):PE X (.BinOp a op b pos) (tOp r ta tb):=by with_unfolding_all
 intro g s c H Q I h;exact wpAny_BinOp (binT ha hb I h fun v u d x y j i f e q=>ho _ d c j x y v u Q i f e q)
theorem Wb9 {op:UnaryOp}{r:V->Hp->VK->Prop}(ho:UnR X (unaryOp op) r)(ha:PE X a ta):PE X (.UnaryOp op a pos) (tUn r ta):=by with_unfolding_all
 intro b s c H Q I h;exact UnaryOp_ (thn (ha b s c H _ I h) fun v s1 zZ=>by obtain⟨x,H1,I1,r1,q1⟩:=zZ;exact ho b s1 c H1 x v Q I1 r1 q1)
theorem opI {f:Value->Value->Sem Value}{C:Int->Int->Prop}{g:Int->Int->Int}
  (rule:∀(i j:Int) (t u:Tok) (s:Shared) (Q:Value->Shared->Prop) (E:Value->Shared->Prop),C i j->Q (.int (g i j) s.toks) { s with toks:=s.toks+1 }->wpAny (model X.prog X.w) X.A (f (.int i t) (.int j u)) Q E s) :
  OpR X f (rI C fun i j=>.int (g i j)):=by
 intro d s k H x y v u Q I c b h;obtain⟨i,j,rfl,rfl,e,q⟩:=h;obtain⟨t,rfl⟩:=c;obtain⟨a,rfl⟩:=b;exact rule i j t a s _ _ e ⟨.int _,H,I.tok _,⟨_,rfl⟩,q⟩
theorem opI0 {f:Value->Value->Sem Value}{g:Int->Int->Int}
  (rule:∀(i j:Int) (t u:Tok) (s:Shared) (Q:Value->Shared->Prop) (E:Value->Shared->Prop),Q (.int (g i j) s.toks) { s with toks:=s.toks+1 }->wpAny (model X.prog X.w) X.A (f (.int i t) (.int j u)) Q E s) :
  OpR X f (rI0 fun i j=>.int (g i j)):=by
 intro d s e H x y v u Q I c b h;obtain⟨i,j,rfl,rfl,q⟩:=h;obtain⟨t,rfl⟩:=c;obtain⟨a,rfl⟩:=b;exact rule i j t a s _ _ ⟨.int _,H,I.tok _,⟨_,rfl⟩,q⟩
theorem opB0 {f:Value->Value->Sem Value}{g:Int->Int->Bool}
  (rule:∀(i j:Int) (t u:Tok) (s:Shared) (Q:Value->Shared->Prop) (E:Value->Shared->Prop),Q (.bool (g i j)) s->wpAny (model X.prog X.w) X.A (f (.int i t) (.int j u)) Q E s) :
  OpR X f (rI0 fun i j=>.bl (g i j)):=by
 intro d s e H x y v u Q I c b h;obtain⟨i,j,rfl,rfl,q⟩:=h;obtain⟨t,rfl⟩:=c;obtain⟨a,rfl⟩:=b;exact rule i j t a s _ _ ⟨.bl _,H,I,rfl,q⟩
def CDiv (i j:Int):Prop:=0 < j/\j < 1073741824
def CMul (i j:Int):Prop:=(-(2 ^ 64) < i/\i < 2 ^ 64)∨(-(2 ^ 64) < j/\j < 2 ^ 64)
theorem CMul.ok {i j:Int}(h:CMul i j):IntMulOk i j:=by
 rcases h with ⟨b,a⟩ | ⟨b,a⟩
 ·exact .of_left (intBits_le_64 b a)
 ·exact .of_right (intBits_le_64 b a)
theorem Wm8:OpR X (zbq .Add) (rI0 fun i j=>.int (i+j)):=opI0 fun _ _ _ _ _ _ _ q=>add_int q
theorem Wm5:OpR X (zbq .Sub) (rI0 fun i j=>.int (i - j)):=opI0 fun _ _ _ _ _ _ _ q=>sub_int q
theorem Wm6:OpR X (zbq .Mult) (rI CMul fun i j=>.int (i*j)):=opI fun _ _ _ _ _ _ _ a q=>mul_int q a.ok
theorem Wc6:OpR X (zbq .FloorDiv) (rI CDiv fun i j=>.int (i / j)):=opI fun i j _ _ _ _ _ a q=>by
 have c:(0:Int) < j:=a.1;have b:j < 1073741824:=a.2;exact floordiv_int (by omega) (by rw[Int.fdiv_eq_ediv_of_nonneg i (by omega)];exact q) (.inl (PyProof.noPylong_small (by omega)))
theorem Wm7:OpR X (zbq .Mod) (rI (fun _ j=>0 < j) fun i j=>.int (i % j)):=opI fun i j _ _ _ _ _ a q=>by
 have b:(0:Int) < j:=a;exact mod_int' (by omega) (by rw[Int.fmod_eq_emod_of_nonneg i (by omega)];exact q)
theorem unI {f:Value->Sem Value}{g:Int->Int}
  (rule:∀(i:Int) (t:Tok) (s:Shared) (Q:Value->Shared->Prop) (E:Value->Shared->Prop),Q (.int (g i) s.toks) { s with toks:=s.toks+1 }->wpAny (model X.prog X.w) X.A (f (.int i t)) Q E s) :
  UnR X f (rU fun i=>.int (g i)):=by
 intro b s c H x v Q I a h;obtain⟨i,rfl,q⟩:=h;obtain⟨t,rfl⟩:=a;exact rule i t s _ _ ⟨.int _,H,I.tok _,⟨_,rfl⟩,q⟩
theorem Xf0:UnR X (unaryOp .USub) (rU fun i=>.int (-i)):=unI fun _ _ _ _ _ q=>neg_int q
end
noncomputable def scal:V->V->Bool
 | .non,.non=>true | .non,.int _=>true | .int _,.non=>true | .non,.bl _=>true | .bl _,.non=>true | .non,.str _=>true | .str _,.non=>true
 | .int _,.int _=>true | .bl _,.bl _=>true | .str _,.str _=>true | .byt _,.byt _=>true
 | .int _,.str _=>true | .str _,.int _=>true | .bl _,.str _=>true | .str _,.bl _=>true
 | _,_=>false
def rEq:R2:=fun x y H Q=>scal x y=true/\Q (.bl (decide (x=y))) H
def rNe:R2:=fun x y H Q=>scal x y=true/\Q (.bl (!decide (x=y))) H
theorem Xo1 {i j:Int}:decide (V.int i=V.int j)=(i == j):=by
 rw[Bool.eq_iff_iff];simp
theorem Xy4 {i j:Bool}:decide (V.bl i=V.bl j)=(i == j):=by
 rw[Bool.eq_iff_iff];simp
theorem Xo0 {i j:Str}:decide (V.str i=V.str j)=(i == j):=by
 rw[Bool.eq_iff_iff];simp
theorem Xo2 {i j:Array UInt8}:decide (V.byt i=V.byt j)=(i.toList == j.toList):=by
 rw[Bool.eq_iff_iff];simp
section
variable {X:Cx}{a b c:Expr}{ta tb tc:TE}
theorem Zf2 {σ:St}{H:Hp}{Q:VK}{k k':Bool}(I:Inv X pins σ H s)(q:Q (.bl k) H)(e:k=k'):EP X pins σ Q (.bool k') s:=by
 subst e;exact⟨.bl k,H,I,rfl,q⟩
theorem Ww6:OpR X (yai .Eq) rEq:=by
 intro e s f H x y v u Q I d a h;obtain⟨c,q⟩:=h
 cases x with
 |non =>
  cases d
  cases y with
  |non=>cases a;exact PySem.EqNone.eq_none_none (Zf2 I q (by simp))
  |bl j=>cases a;exact PySem.EqNone.eq_none_bool (Zf2 I q (by simp))
  |int j=>obtain⟨b,rfl⟩:=a;exact PySem.EqNone.eq_none_int (Zf2 I q (by simp))
  |str j=>obtain⟨b,rfl⟩:=a;exact PySem.EqNone.eq_none_str (Zf2 I q (by simp))
  | _=>exact absurd (show false=true from c) yi
 |bl i =>
  cases d
  cases y with
  |non=>cases a;exact PySem.EqNone.eq_bool_none (Zf2 I q (by simp))
  |bl j=>cases a;exact eq_bool (Zf2 I q Xy4)
  |str j=>obtain⟨b,rfl⟩:=a;exact PySem.EqMixed.eq_bool_str (Zf2 I q (by simp))
  | _=>exact absurd (show false=true from c) yi
 |int i =>
  obtain⟨t,rfl⟩:=d
  cases y with
  |non=>cases a;exact PySem.EqNone.eq_int_none (Zf2 I q (by simp))
  |int j=>obtain⟨b,rfl⟩:=a;exact eq_int (Zf2 I q Xo1)
  |str j=>obtain⟨b,rfl⟩:=a;exact PySem.EqMixed.eq_int_str (Zf2 I q (by simp))
  | _=>exact absurd (show false=true from c) yi
 |str i =>
  obtain⟨t,rfl⟩:=d
  cases y with
  |non=>cases a;exact PySem.EqNone.eq_str_none (Zf2 I q (by simp))
  |bl j=>cases a;exact PySem.EqMixed.eq_str_bool (Zf2 I q (by simp))
  |int j=>obtain⟨b,rfl⟩:=a;exact PySem.EqMixed.eq_str_int (Zf2 I q (by simp))
  |str j=>obtain⟨b,rfl⟩:=a;exact eq_str (Zf2 I q Xo0)
  | _=>exact absurd (c) yi
 |byt i =>
  obtain⟨t,rfl⟩:=d
  cases y with
  |byt j=>obtain⟨b,rfl⟩:=a;exact W.eq_bytes (Zf2 I q Xo2)
  | _=>exact absurd (c) yi
 | _=>cases y<;>exact absurd (c) yi
theorem Yn4:OpR X (yai .NotEq) rNe:=by
 intro e s f H x y v u Q I d a h;obtain⟨c,q⟩:=h
 cases x with
 |non =>
  cases d
  cases y with
  |non=>cases a;exact PySem.EqNone.ne_none_none (Zf2 I q (by simp))
  |bl j=>cases a;exact PySem.EqNone.ne_none_bool (Zf2 I q (by simp))
  |int j=>obtain⟨b,rfl⟩:=a;exact PySem.EqNone.ne_none_int (Zf2 I q (by simp))
  |str j=>obtain⟨b,rfl⟩:=a;exact PySem.EqNone.ne_none_str (Zf2 I q (by simp))
  | _=>exact absurd (show false=true from c) yi
 |bl i =>
  cases d
  cases y with
  |non=>cases a;exact PySem.EqNone.ne_bool_none (Zf2 I q (by simp))
  |bl j=>cases a;exact ne_bool (Zf2 I q (congrArg not Xy4))
  |str j=>obtain⟨b,rfl⟩:=a;exact PySem.EqMixed.ne_bool_str (Zf2 I q (by simp))
  | _=>exact absurd (show false=true from c) yi
 |int i =>
  obtain⟨t,rfl⟩:=d
  cases y with
  |non=>cases a;exact PySem.EqNone.ne_int_none (Zf2 I q (by simp))
  |int j=>obtain⟨b,rfl⟩:=a;exact ne_int (Zf2 I q (congrArg not Xo1))
  |str j=>obtain⟨b,rfl⟩:=a;exact PySem.EqMixed.ne_int_str (Zf2 I q (by simp))
  | _=>exact absurd (show false=true from c) yi
 |str i =>
  obtain⟨t,rfl⟩:=d
  cases y with
  |non=>cases a;exact PySem.EqNone.ne_str_none (Zf2 I q (by simp))
  |bl j=>cases a;exact PySem.EqMixed.ne_str_bool (Zf2 I q (by simp))
  |int j=>obtain⟨b,rfl⟩:=a;exact PySem.EqMixed.ne_str_int (Zf2 I q (by simp))
  |str j=>obtain⟨b,rfl⟩:=a;exact ne_str (Zf2 I q (congrArg not Xo0))
  | _=>exact absurd (c) yi
 |byt i =>
  obtain⟨t,rfl⟩:=d
  cases y with
  |byt j=>obtain⟨b,rfl⟩:=a;exact W.ne_bytes (Zf2 I q (congrArg not Xo2))
  | _=>exact absurd (c) yi
 | _=>cases y<;>exact absurd (c) yi
theorem Ww2:OpR X (yai .Lt) (rI0 fun i j=>.bl (decide (i < j))):=opB0 fun _ _ _ _ _ _ _ q=>lt_int q
theorem Ww3:OpR X (yai .LtE) (rI0 fun i j=>.bl (decide (i<=j))):=opB0 fun _ _ _ _ _ _ _ q=>le_int q
theorem Ww4:OpR X (yai .Gt) (rI0 fun i j=>.bl (decide (j < i))):=opB0 fun _ _ _ _ _ _ _ q=>gt_int q
theorem Ww5:OpR X (yai .GtE) (rI0 fun i j=>.bl (decide (j<=i))):=opB0 fun _ _ _ _ _ _ _ q=>ge_int q
theorem Ye8:OpR X (yai .Is) (fun x y H Q=>y=.non/\Q (.bl (decide (x=.non))) H):=by
 intro c s d H x y v u Q I b a h;obtain⟨rfl,q⟩:=h;cases a;refine is_none_gen (Zf2 I q ?_)
 cases x<;>first
  | (rfl)
  | (obtain⟨t,rfl⟩:=b;rfl)
theorem Yn8 (b:Expr)(h:op≠.In:=by decide)(h2:op≠.NotIn:=by decide):ycb op b=false:=by
 have c:(op == CmpOp.In)=false:=by grind
 have a:(op == CmpOp.NotIn)=false:=by grind
 cases b<;>simp[ycb,c,a]
theorem Yi1 {r:R2}(ho:OpR X (yai op) r)(ha:PE X a ta)(hb:PE X b tb)(hm:ycb op b=false):PE X (.Compare a [op] [b] pos) (tOp r ta tb):=by with_unfolding_all
 intro g s c H Q I h;exact wpAny_Compare1 (binT ha hb I h fun v u d x y j i f e q=>ho _ d c j x y v u Q i f e q) hm
def Yd3 (t:TE):TT:=fun σ H Q=>t σ H fun x H'=>∃k,x=.bl k/\Q k H'
theorem Ys7 {r:R2}(ho:OpR X (yai op) r)(ha:PE X a ta)(hb:PE X b tb)(hm:ycb op b=false):PT X (.Compare a [op] [b] pos) (Yd3 (tOp r ta tb)):=by with_unfolding_all
 intro d s f H Q I h
 refine wpAny_isTrue_Compare1 (thn (ha d s f H _ I h) fun v s1 ⟨x,H1,I1,r1,q1⟩=>thn (hb d s1 f H1 _ I1 q1) fun u s2 ⟨y,H2,I2,r2,q2⟩ =>
  thn (ho d s2 f H2 x y v u _ I2 r1 r2 q2) fun c s3 ⟨z,H3,I3,r3,k,e,q3⟩=>?_) hm
 subst e;cases r3;exact yaz ⟨H3,I3,q3⟩
def Zz9 (r r':R2)(ta tb tc:TE):TE:=fun σ H Q=>ta σ H fun x H1=>tb σ H1 fun y H2=>r x y H2 fun z H3=>∃k,z=.bl k /\
 (if k=true then tc σ H3 fun w' H4=>r' y w' H4 Q else Q (.bl false) H3)
theorem Zy6 {op':CmpOp}{r r':R2}(ho:OpR X (yai op) r)(ho':OpR X (yai op') r')(ha:PE X a ta)(hb:PE X b tb)(hc:PE X c tc)(hm:lastMarks [op,op'] [b,c]=false:=by with_unfolding_all rfl):PT X (.Compare a [op,op'] [b,c] pos) (Yd3 (Zz9 r r' ta tb tc)):=by with_unfolding_all
 intro f s g H Q I h
 refine isTrue_chain (thn (ha f s g H _ I h) fun v s1 ⟨x,H1,I1,r1,q1⟩=>test_link (thn (hb f s1 g H1 _ I1 q1) fun u s2 ⟨y,H2,I2,r2,q2⟩ =>
  thn (ho f s2 g H2 x y v u _ I2 r1 r2 q2) fun d s3 ⟨z,H3,I3,r3,k,e,q3⟩=>?_)) hm
 subst e;cases r3;refine yaz ?_
 cases k with
 |false =>
  obtain⟨B,o,m⟩:=q3;cases o;exact ite_ff ⟨H3,I3,m⟩
 |true =>
  refine ite_tt (test_last (thn (hc f s3 g H3 _ I3 q3) fun w' s4 ⟨z',H4,I4,r4,q4⟩=>thn (ho' f s4 g H4 y z' u w' _ I4 r2 r4 q4) fun C w i=>?_));obtain⟨t,q,p,j,A,n,l⟩:=i;subst n;cases j;exact yaz ⟨q,p,l⟩
def TruV (K:W.Frag)(x:V)(H:Hp)(k:Bool):Prop :=
 match x with
 | .non=>k=false
 | .bl b=>k=b
 | .int i=>k=(i != 0)
 | .str y=>y.length<=zi/\k=((y.length:Int) != 0)
 | .byt y=>y.size<=zi/\k=((y.size:Int) != 0)
 | .ref p=>(∃xs,SqL K H p xs/\k=!xs.isEmpty)∨(∃xs,SqT K H p xs/\k=!xs.isEmpty)∨∃kvs,H p=some (.dK kvs)/\k=!kvs.isEmpty
 | _=>False
theorem Xd1 {κ:Type}{kvs:List (κ×V)}{vs:List (κ×Value)}(r:KV kvs vs):(!vs.isEmpty)=!kvs.isEmpty:=by
 cases r<;>rfl
theorem Yf3 {xs:List V}(r:Vals xs its):(!its.toArray.isEmpty)=!xs.isEmpty:=by
 cases r<;>simp
theorem Zx1:(zi:Nat) < 2 ^ 63:=by decide
theorem Wh7:TruR X (fun x H Q=>∃k,TruV X.K x H k/\Q k H):=by
 intro u s A H x v Q I c h;obtain⟨k,e,q⟩:=h;have C:=Zx1;have B:zi=16777216:=sizeLine_eq
 cases x with
 |non =>
  cases c;have a:k=false:=e;subst a;exact truthy_none ⟨H,I,q⟩
 |bl b =>
  cases c;have a:k=b:=e;subst a;exact yaz ⟨H,I,q⟩
 |int i =>
  obtain⟨t,rfl⟩:=c;have a  := e;subst a;exact PySem.P.truthy_int ⟨H,I,q⟩
 |str y =>
  obtain⟨t,rfl⟩:=c;obtain⟨w,a⟩:y.length<=zi/\k=_:=e;subst a;exact PySem.P.truthy_str (by omega) ⟨H,I.tok _,q⟩
 |byt y =>
  obtain⟨t,rfl⟩:=c;obtain⟨w,a⟩:y.size<=zi/\k=_:=e;subst a;exact W.truthy_bytes (by omega) ⟨H,I.tok _,q⟩
 |ref p =>
  cases c;have a  := e;rcases a with ⟨o,d,a⟩ | ⟨o,d,a⟩ | ⟨g,d,a⟩
  ·subst a
   obtain⟨l,r,j,n⟩:=I.list d;have f:=r.length;exact wpAny_truthy_list j.isList (by simp only[ybd];omega) ⟨H,I.tok _,by rw[Yf3 r];exact q⟩
  ·subst a
   obtain⟨l,r,j,n⟩:=I.tuple d;have f:=r.length;exact truthy_tuple j (by simp only[ybd];omega) ⟨H,I.tok _,by rw[Yf3 r];exact q⟩
  ·subst a
   obtain⟨n,z,vs,r,m⟩:g.length<=zi/\_=false/\∃vs,KV g vs/\s.heap.DictOf _ p vs:=I.hok p _ d;have f  := zk r;exact wpAny_truthy_dict z m (by omega) ⟨H,I.tok _,by rw[Xd1 r];exact q⟩
 | _=>exact (e).elim
theorem Zy5 (ha:PE X a ta)(he:∀whole,isTrue a X.env whole=(do let v <- whole;standAt a.pos;holding [v] (truthy v))) :
  PT X a (fun σ H Q=>ta σ H fun x H'=>∃k,TruV X.K x H' k/\Q k H'):=by with_unfolding_all
 intro b s σ H Q I h;exact isTrue_plain (thn (ha b s σ H _ I h) fun v s1 zZ=>by obtain⟨x,H1,I1,r1,q1⟩:=zZ;exact Wh7 b s1 σ H1 x v Q I1 r1 q1) (he _)
theorem Ye9:OpR X (zbq .Add) (fun x y H Q=>∃i j,x=.str i/\y=.str j/\i.length+j.length<=zi/\Q (.str (i++j)) H):=by
 intro d s f H x y v u Q I c b h;obtain⟨i,j,rfl,rfl,e,q⟩:=h;obtain⟨t,rfl⟩:=c;obtain⟨a,rfl⟩:=b;exact add_str (fun a g=>⟨.str _,H,I.tok _,⟨_,rfl⟩,q⟩) e
theorem Yr0 {x:V}(r:Vals [x] us):∃u,us=[u]/\RelV x u:=by
 cases r with
 |cons r1 r2=>cases r2;exact⟨_,rfl,r1⟩
theorem Wh4 {x y:V}(r:Vals [x,y] us):∃u w',us=[u,w']/\RelV x u/\RelV y w':=by
 cases r with
 |cons r1 r2 =>
  cases r2 with
  |cons r3 r4=>cases r4;exact⟨_,_,rfl,r1,r3⟩
theorem Yq0 (hc:X.calm=true):Yq9 X (.builtin "max") (fun xs H Q=>∃i j,xs=[.int i,.int j]/\Q (.int (if j > i then j else i)) H):=by
 intro a s b H xs d Q I r h;obtain⟨i,j,rfl,q⟩:=h;obtain⟨u,c,rfl,⟨t,rfl⟩,⟨f,rfl⟩⟩:=Wh4 r;refine max_two_ints (I.ok.hd hc) fun g e k=>⟨_,H,I.kept k,?_,q⟩
 by_cases hj:j > i
 ·rw[if_pos hj,if_pos hj];exact⟨_,rfl⟩
 ·rw[if_neg hj,if_neg hj];exact⟨_,rfl⟩
theorem Yc9:Yq9 X (.type "int") (fun xs H Q=>(∃i,xs=[.int i]/\Q (.int i) H)∨∃k,xs=[.bl k]/\Q (.int (if k then 1 else 0)) H):=by
 intro b s c H xs d Q I r h;rcases h with ⟨i,rfl,q⟩ | ⟨k,rfl,q⟩
 ·obtain⟨u,rfl,t,rfl⟩:=Yr0 r
  exact call_int_int ⟨.int i,H,I,⟨_,rfl⟩,q⟩
 ·obtain⟨u,rfl,a⟩:=Yr0 r
  cases a;exact call_int_bool ⟨.int _,H,I.tok _,⟨_,rfl⟩,q⟩
end
structure ObjM (h:Heap)(x dx C:Addr)(mA:Str->Option Value):Prop where
 obj:h.get? x=some (W.instObj C dx)
 ns:h.Ns1 dx mA
 ne:dx≠x
theorem Xl0 {mA:Str->Option Value}(n:h.Ns1 dx mA):∃od,h.get? dx=some od/\∀name,W.lookIn name od=some (mA name):=by
 obtain⟨o,j,k,d,i,g,_,f⟩:=n;refine⟨o,d,fun name=>?_⟩;have e:=f name;unfold nsFind findBy at e;unfold W.lookIn;rw[i];dsimp only
 split
 ·simp_all
 ·have a:j.toList.any (·.refKey)=false:=by
   rw[List.any_eq_false];intro y c;obtain⟨z,t,b⟩:=g y (Array.mem_toList_iff.mp c);simp[zbz.refKey,b]
  grind
theorem ObjM.look {x:Addr}{mA:Str->Option Value}(I:ObjM h x dx C mA):∃od,W.InstAt h x (W.instObj C dx) C (some od)/\∀name,W.lookIn name od=some (mA name) :=
 let ⟨od,ho,hl⟩:=Xl0 I.ns
 ⟨od,⟨I.obj,rfl,rfl,ho⟩,hl⟩
section
variable {prog:zf}{E:Value->Shared->Prop}{x:Addr}{mA:Str->Option Value}
theorem Wf0 {expr:Bool}{Q:Value->Shared->Prop}(X:K.In s.heap)(I:ObjM s.heap x dx C mA)(hg:W.plainGet K C name=true)(hh:ydg K C=true)
  (ha:ydc K (.ref C) name=some none) (hv:mA name=some v) (hv':W.handedIn v=true) (h:Q v { s with toks:=s.toks+1 }) :
  wpAny (model prog w) A (getAttr (.ref x) name expr) Q E s:=by
 obtain⟨a,J,b⟩:=I.look;exact W.get_value X J (W.plainGet_of hg).1 (W.findObj_own hh ha rfl (by simp_all)) hv' h
theorem Wa5 {ns:List Str}{Q:Unit->Shared->Prop}(X:K.In s.heap)(I:ObjM s.heap x dx C mA)
  (hs:ydc K (.ref C) "__setattr__"=some (some (.builtin "object.__setattr__"))) (hp:W.plainOver K C=true) (ht:W.takerIn K C name=some none) (hh:ydg K C=true)
  (hw:PySem.Within mA ns) (hsz:ns.length<=zi)
  (h:∀h',ObjM h' x dx C (fun y=>if y=name then some v else mA y)->zal dx s.heap h'->Q () { s with heap:=h',toks:=s.toks+2 }) :
  wpAny (model prog w) A (setAttr (.ref x) name v) Q E s:=by
 obtain⟨m,J,o⟩:=I.look;refine W.set_plain X J hs (W.osa_open X J hp ht fun b=>?_);obtain⟨p,j,f⟩:=W.any_some hh;have i  := I.obj;refine za (yb (za (za (wpAny_loadPart i (za (W.Looks.here (W.looks_clsIn X j) ?_))))));rw[f];refine yb (za (yb (za ?_)));refine wpAny_nsSet1 I.ns fun h' c a=>?_;obtain⟨n,k,l,d,e,g⟩:=c.count (PySem.Within.cons _ v hw);refine za (wpAny_lookBehind d (by rw[e];exact pastItsLine_dict (yj g (by simp_all))) ?_);exact yb (h _ ⟨(a.2 _ (zbe I.ne)).trans I.obj,c,I.ne⟩ a)
theorem Xt2 {R:Result->Shared->Prop}{kw:List (Str×Value)}(X:K.In s.heap)(hm:W.makesIn K C=true)(hi:ydc K (.ref C) "__init__"=some (some (.ref f)))(hf:W.typeIn K (.ref f)=some (.type "function")) (h:ycd (model prog w) (A.under (.builtin "type.__call__" ⟨.ref C::vs,kw⟩)) (.call (.ref f) ⟨.ref (s.heap.objs.size+1)::vs,kw⟩) (W.InitBack (s.heap.objs.size+1) R)
   { s with heap:=(s.heap.push W.emptyDict).push (W.instObj C s.heap.objs.size) }):
  ycd (model prog w) A (.call (.ref C) ⟨vs,kw⟩) R s:=by
 exact W.make_core (W.makes_of X hm) (W.looks_findIn X hi) (fun a=>W.bind_fn X _ hf) (.inl rfl) h
end
noncomputable def putF (f:Str)(v:V):List (Str×V)->List (Str×V)
 | []=>[(f,v)]
 | (g,x)::r=>if g=f then (g,v)::r else (g,x)::putF f v r
theorem Yb8 (f g:Str)(v:V):∀fs:List (Str×V),(putF f v fs).lookup g=if g=f then some v else fs.lookup g
 | []=>by
  show zaj g [(f,v)]=_
  grind
 | (k,x)::r=>by
  have ih:=Yb8 f g v r;rw[show putF f v _=if k=f then (k,v)::r else (k,x)::putF f v r from rfl]
  grind
theorem Yc0 (f:Str)(v:V):∀fs:List (Str×V),f∈(putF f v fs).map (·.1)/\∀g,g∈fs.map (·.1)->g∈(putF f v fs).map (·.1)
 | []=>⟨by simp[putF],fun g h=>by simp at h⟩
 | (k,x)::r=>by
  obtain⟨i1,i2⟩:=Yc0 f v r;rw[show putF f v _=if k=f then (k,v)::r else (k,x)::putF f v r from rfl]
  grind
theorem Yb9 (f:Str)(v:V):∀fs:List (Str×V),(putF f v fs).length<=fs.length+1
 | []=>by simp[putF]
 | (k,x)::r=>by
  have ih:=Yb9 f v r;rw[show putF f v _=if k=f then (k,v)::r else (k,x)::putF f v r from rfl]
  by_cases hk:k=f
  ·simp_all
  simp_all
theorem RelO.some_of {v:V}{o:Option Value}(r:RelO (some v) o):∃u,o=some u/\RelV v u:=by
 cases o with
 |none=>exact (r).elim
 |some u=>exact⟨u,rfl,r⟩
theorem Xn0 {v:V}(r:RelV v u):W.handedIn u=true:=by
 cases v with
 |non=>cases (r);rfl
 |bl b=>cases (r);rfl
 |int i=>obtain⟨t,e⟩:=(r);cases e;rfl
 |str x=>obtain⟨t,e⟩:=(r);cases e;rfl
 |byt b=>obtain⟨t,e⟩:=(r);cases e;rfl
 |flt b=>obtain⟨t,e⟩:=(r);cases e;rfl
 |ref a=>cases (r);rfl
 |ty n=>cases (r);rfl
section
variable {P:zf}{H H':Hp}{fs fs':List (Str×V)}
theorem Xm6 (hok:HOk P w H h)(e:H a=some (.ins C dx fs)):∃mA,ObjM h a dx C mA/\(∀f,RelO (fs.lookup f) (mA f))/\PySem.Within mA (fs.map (·.1))/\fs.length<=1000/\H dx=some (.own a):=by
 obtain⟨d,z,c,b,mA,n,r,q⟩:=(show ObjOk P w H h a _ from hok a _ e);exact⟨mA,⟨b,n,c⟩,r,q,z,d⟩
end
structure Cls (K:W.Frag)(C:Addr):Prop where
 pg:W.plainGet K C ybx=true
 hd:ydg K C=true
 po:W.plainOver K C=true
 sa:ydc K (.ref C) "__setattr__"=some (some (.builtin "object.__setattr__"))
theorem Cls.get (c:Cls K C)(f:Str):W.plainGet K C f=true:=c.pg
def NoAttr (K:W.Frag)(C:Addr)(f:Str):Prop:=ydc K (.ref C) f=some none
theorem NoAttr.taker {f:Str}(n:NoAttr K C f):W.takerIn K C f=some none:=by
 unfold W.takerIn;rw[show ydc K _ f=some _ from n];rfl
section
variable {X:Cx}{σ:St}{H:Hp}{fs:List (Str×V)}{f:Str}{v:V}{E:Value->Shared->Prop}
theorem Xd5 {b:Bool}{Q:Value->Shared->Prop}(I:Inv X pins σ H s)(e:H a=some (.ins C dx fs))(c:Cls X.K C)(n:NoAttr X.K C f)(l:fs.lookup f=some v)
  (h:∀u s',Inv X pins σ H s'->RelV v u->Q u s'):wpAny (model X.prog X.w) A (getAttr (.ref a) f b) Q E s:=by
 obtain⟨i,O,r,_,_,_⟩:=Xm6 I.hok e;obtain⟨u,g,d⟩:=RelO.some_of (by rw[<- l];exact r f);exact Wf0 I.kIn O (c.get f) c.hd n g (Xn0 d) (h u _ (I.tok _) d)
theorem Xb5 {y:V}{Q:Unit->Shared->Prop}(I:Inv X pins σ H s)(e:H a=some (.ins C dx fs))(c:Cls X.K C)(n:NoAttr X.K C f)(hl:fs.length < 1000)(ry:RelV y u)(h:∀s',Inv X pins σ (upd H a (.ins C dx (putF f y fs))) s'->Q () s'):wpAny (model X.prog X.w) A (setAttr (.ref a) f u) Q E s:=by
 obtain⟨x,O,r,i,_,l⟩:=Xm6 I.hok e
 have k:(fs.map (·.1)).length<=zi:=by rw[yn,sizeLine_eq];omega
 refine Wa5 I.kIn O c.sa c.po n.taker c.hd i k fun v d j=>h _ ?_
 have p:∃o,v.get? dx=some o:=let ⟨o,_,_,e',_⟩:=d.ns;⟨o,e'⟩
 refine I.write (by rw[e];exact zbu) (.inr l) (fun b q t z=>(j.2 b t).trans z) p ?_;refine⟨by rw[Za9 O.ne];omega,?_,O.ne,d.obj,_,d.ns,fun g=>?_,fun g m=>?_⟩
 ·have:=Yb9 f y fs;omega
 ·rw[Yb8]
  by_cases q:g=f
  ·rw[if_pos q,if_pos q];exact ry
  simp_all
 ·by_cases q:g=f
  ·rw[q];exact (Yc0 f y fs).1
  ·refine (Yc0 f y fs).2 g (i g fun z=>m ?_)
   grind
theorem Inv.made (I:Inv X pins σ H s):Inv X pins σ (upd (upd H s.heap.objs.size (.own (s.heap.objs.size+1))) (s.heap.objs.size+1) (.ins C s.heap.objs.size []))
  { s with heap:=(s.heap.push W.emptyDict).push (W.instObj C s.heap.objs.size) }:=by
 have c:(s.heap.push W.emptyDict).get? _=some _:=zh _ rfl
 have h  := by
  have:=zh (s.heap.push W.emptyDict) (o:=W.instObj C s.heap.objs.size) rfl
  rwa [zbd] at this
 have g:(s.heap.push _).Ns _ _:=⟨W.emptyDict,#[],_,c,rfl,fun e f=>absurd f (by simp),fun _=>rfl⟩;have i:=I.laid (o:=.own (s.heap.objs.size+1)) (h':=s.heap.push _) (t':=s.toks) (fun b u q=>ya _ q) (by simp) ⟨_,c⟩;refine i.laid (o:=.ins C _ []) (fun b u q=>ya _ q) (zcy (zbd _ _)) ?_;have a:s.heap.objs.size≠s.heap.objs.size+1:=yq (by simp);refine⟨by rw[Za9 a,Za5],yaq _,a,h,fun _=>none,(Heap.Ns1.of_empty g).at fun o q=>ya _ q,fun _=>zbu,fun y d=>absurd rfl d⟩
theorem Wg2 {prog:zf}{e:Expr}{f:Str}{Q:Value->Shared->Prop}(hb:zdd e f env (eval e env)=eval e env)(h:wpAny (model prog w) A (eval e env) (fun o s₁=>wpAny (model prog w) A (getAttr o f true) Q E s₁) E s):wpAny (model prog w) A (eval (.Attribute e f pos) env) Q E s :=
 Attribute_any_ h (by rw[arm_eval_Attribute,hb])
end
def tFld (K:W.Frag)(ta:TE)(f:Str):TE:=fun σ H Q=>ta σ H fun x H1=>∃a C dx fs v,x=.ref a/\H1 a=some (.ins C dx fs)/\Cls K C/\NoAttr K C f/\fs.lookup f=some v/\Q v H1
def sFld (K:W.Frag)(ta tv:TE)(f:Str):TS:=fun D σ H=>tv σ H fun y H1=>ta σ H1 fun x H2=>∃a C dx fs,x=.ref a/\H2 a=some (.ins C dx fs)/\Cls K C/\NoAttr K C f/\fs.length < 1000 /\
 D.nx σ (upd H2 a (.ins C dx (putF f y fs)))
section
variable {X:Cx}{o e value:Expr}{f:Str}{ta tv:TE}
theorem Zf6 (he:PE X e ta)(hb:zdd e f X.env (eval e X.env)=eval e X.env):PE X (.Attribute e f pos) (tFld X.K ta f):=by with_unfolding_all
 intro b s d H Q I h;refine Wg2 hb (thn (he b s d H _ I h) fun u w g=>?_);obtain⟨x,p,o,i,a,C,z,y,v,ex,k,c,n,l,q⟩:=g;subst ex;obtain rfl:u=yt a:=i;exact Xd5 o k c n l fun r t m j=>⟨v,p,m,j,q⟩
theorem Ye6 (ha:PE X o ta)(hv:PE X value tv)(hs:zdo value (some (.Attribute o f pos')) pos.line X.env=pure false):PS X (.Assign [.Attribute o f pos'] value pos) (sFld X.K ta tv f):=by with_unfolding_all
 intro b s d H D I h;refine plainObj_wpAny_Assign_Attribute (thn (hv b s d H _ I h) fun u s1 ⟨y,H1,I1,ry,q⟩=>thn (ha b s1 d H1 _ I1 q) fun ov s2 ⟨x,H2,I2,rx,a,C,dx,fs,ex,ea,c,n,l,q2⟩=>?_) hs;subst ex;obtain rfl:ov=yt a:=rx;exact Xb5 I2 ea c n l ry fun g e=>⟨d,_,e,q2⟩
end
structure Room (k:Nat)(A:Around):Prop where
 hd:A.handled=none
 dp:A.depth+3*k+5 < recursionLimit
 un:A.units+16*k+200 < cLine
theorem Room.mono {k:Nat}(r:Room k A)(h:j<=k):Room j A:=⟨r.hd,by have:=r.dp;omega,by have:=r.un;omega⟩
theorem Room.deeper {k:Nat}(r:Room (k+1) A)(env:Env):Room k (A.deeper env) :=
 ⟨r.hd,by have:=r.dp;show A.depth+1+3*k+5 < _;omega,by have:=r.un;show A.units+3+16*k+200 < _;omega⟩
theorem Xc5 {kw:List (Str×Value)}:(A.under (.builtin "type.__call__" ⟨.ref C::us,kw⟩)).depth=A.depth+1:=by rfl
theorem Xc4 {kw:List (Str×Value)}:(A.under (.builtin "type.__call__" ⟨.ref C::us,kw⟩)).units=A.units+1:=by rfl
theorem Room.make {k:Nat}(r:Room (k+1) A)(C:Addr)(us:List Value)(kw:List (Str×Value)):Room k (A.under (.builtin "type.__call__" ⟨.ref C::us,kw⟩)) :=
 ⟨r.hd,by have:=r.dp;rw[Xc5];omega,by have:=r.un;rw[Xc4];omega⟩
theorem Room.depth {k:Nat}(r:Room k A):A.depth < recursionLimit:=by have:=r.dp;omega
theorem Room.units {k:Nat}(r:Room k A):A.units+64 < cLine:=by have:=r.un;omega
def tNil:TA:=fun _ H Q=>Q [] H
def Zx5 (ta:TE)(tr:TA):TA:=fun σ H Q=>ta σ H fun x H1=>tr σ H1 fun xs H2=>Q (x::xs) H2
section
variable {X:Cx}{e:Expr}{es:List Expr}{te:TE}{t:TA}
theorem Za1:PA X [] tNil:=by with_unfolding_all exact (fun _ _ _ _ H Q I h=>Calls.spliced_nil ⟨[],H,I,.nil,h⟩)
theorem Za0 (ha:PE X e te)(hr:PA X es t)(hs:zx (e::es) X.env=(false,eval e X.env)::zx es X.env:=by rfl):PA X (e::es) (Zx5 te t):=by with_unfolding_all
 intro b a s c H Q I h;rw[hs];show wpAny _ _ (spliced ((false,eval e X.env)::backTo b (zx es X.env))) _ _ s;refine Calls.spliced_cons (thn (ha a s c H _ I h) fun u f d=>?_);obtain⟨x,k,j,g,i⟩:=d;exact thn (hr b a f c k _ j i) fun us s2 zZ=>(by obtain⟨xs,H2,I2,r2,q2⟩:=zZ;exact ⟨x::xs,H2,I2,.cons g r2,q2⟩)
def tTup (t:TA):TE:=fun σ H Q=>t σ H fun xs H1=>xs.length<=zi/\∀p,H1 p=none->Q (.ref p) (upd H1 p (.tup xs))
def tLst (t:TA):TE:=fun σ H Q=>t σ H fun xs H1=>xs.length<=zi/\∀p,H1 p=none->Q (.ref p) (upd H1 p (.lst xs))
theorem Zb5 {x1}(h:PA X es t):PE X (.Tuple es x1 pos) (tTup t):=by with_unfolding_all
 intro a s c H Q I d;refine wpAny_Tuple_spliced (thn (h pos a s c H _ I d) fun us s1 ⟨xs,H1,I1,r,z,q⟩=>⟨by rw[<- r.length];exact z,?_⟩);have f:H1 s1.heap.objs.size=none:=I1.hok.fresh (by simp);refine⟨.ref _,upd H1 _ _,I1.laid (fun b u e=>ya _ e) (by simp) ?_,rfl,q _ f⟩;exact⟨z,us,r,⟨_,zh _ rfl,rfl,_,rfl⟩⟩
theorem Ze1 (h:PA X es t):PE X (.List es pos) (tLst t):=by with_unfolding_all
 intro a s c H Q I d;refine wpAny_List_spliced (thn (h pos a s c H _ I d) fun us s1 ⟨xs,H1,I1,r,z,q⟩=>⟨by rw[<- r.length];exact z,?_⟩);have f:H1 s1.heap.objs.size=none:=I1.hok.fresh (by simp);refine⟨.ref _,upd H1 _ _,I1.laid (fun b u e=>ya _ e) (by simp) ?_,rfl,q _ f⟩;exact⟨z,us,0,r,zh _ rfl⟩
end
noncomputable abbrev Sp:=List V->Hp->VK->XK->Prop
noncomputable abbrev CXT:=List Env->Hp->Shared->XK->Value->Shared->Prop
structure Env0 (P:zf)(w:World)(K:W.Frag)(mg:Str->Option Value)(base:Heap)(A:Around)(outer:List Env)(s:Shared)(H:Hp):Prop where
 frames:A.frames=some outer
 mod:Mod K mg base
 bs:∀b o,base.get? b=some o->s.heap.get? b=some o/\H b=none
 bsz:base.objs.size<=s.heap.objs.size
 funs:s.heap.FunFrames base outer
 frf:∀b∈frs outer,H b=none
 hok:HOk P w H s.heap
 bare:zdp s.gens
def CE (outer:List Env)(P:zf)(w:World)(H:Hp)(s:Shared)(Q:VK)(u:Value)(s':Shared):Prop :=
 ∃v H',s'.os=s.os/\zdp s'.gens/\Un (frs outer) [] H H' s.heap s'.heap/\HOk P w H' s'.heap/\RelV v u/\Q v H'
def CR (CX:CXT)(outer:List Env)(P:zf)(w:World)(H:Hp)(s:Shared)(Q:VK)(E:XK)(r:Result)(s':Shared):Prop :=
 match r with
 | .ok (.ret u)=>CE outer P w H s Q u s'
 | .ok _=>False
 | .error e=>CX outer H s E e s'
structure FnOk (P:zf)(w:World)(K:W.Frag)(mg:Str->Option Value)(base:Heap)(CX:CXT)(k:Nat)(f:Addr)(fd:zc)(ps:List Str)(sp:Sp):Prop where
 len:∀vs H Q E,sp vs H Q E->vs.length=ps.length
 run:∀(A:Around) (outer:List Env) (s:Shared) (H:Hp) (args:Args) (us:List Value) (vs:List V) (Q:VK) (E:XK),Room k A->Env0 P w K mg base A outer s H->BindsTo s fd args (ps.zip us)->Vals vs us->sp vs H Q E ->
  ycd (model P w) A (.call (.ref f) args) (CR CX outer P w H s Q E) s
theorem FnOk.mono {P:zf}{base:Heap}{CX:CXT}{k:Nat}{fd:zc}{sp:Sp}(F:FnOk P w K mg base CX j f fd ps sp)(h:j<=k):
  FnOk P w K mg base CX k f fd ps sp:=⟨F.len,fun A a s H e c b Q E d=>F.run A _ s H _ c b Q E (d.mono h)⟩
theorem Env0.make {P:zf}{base:Heap}{H:Hp}(e:Env0 P w K mg base A outer s H)(C:Addr)(us:List Value)(kw:List (Str×Value)):
  Env0 P w K mg base (A.under (.builtin "type.__call__" ⟨.ref C::us,kw⟩)) outer s H:=⟨by first | exact e.frames | (simpa [Code.isFrame] using e.frames),e.mod,e.bs,e.bsz,e.funs,e.frf,e.hok,e.bare⟩
section
variable {X:Cx}{σ:St}{H:Hp}
theorem Inv.env0 (I:Inv X pins σ H s):Env0 X.prog X.w X.K X.mg X.base X.A X.stack s H :=
 ⟨I.ok.frames,I.ok.mod,I.bs,yj I.ok.bsz I.sz,I.stack,I.stkFree,I.hok,I.bare⟩
theorem Inv.after {Q:VK}(I:Inv X pins σ H s)(h:CE X.stack X.prog X.w H s Q u s'):EP X pins σ Q u s':=by
 obtain⟨v,i,os,a,f,e,r,q⟩:=h;obtain⟨j,g,d,t,c⟩:=s';obtain rfl:c=s.os:=os;exact⟨v,i,I.call f e a fun b z=>absurd z (by simp),r,q⟩
end
def Yd5 (sp:Sp)(dvs:List V)(E:XK)(t:TA):TE:=fun σ H Q=>t σ H fun vs H1=>sp (vs++dvs) H1 Q E
def Ym0 (C:Addr)(sp:Sp)(dvs:List V)(E:XK)(t:TA):TE:=fun σ H Q=>t σ H fun vs H1=>∀x dx,H1 x=none->H1 dx=none->dx≠x ->
 sp (.ref x::(vs++dvs)) (upd (upd H1 dx (.own x)) x (.ins C dx [])) (fun v H2=>v=.non/\Q (.ref x) H2) E
def Binds (K:W.Frag)(fd:zc)(ps:List Str)(ds:List Value):Prop :=
 ∀(s:Shared) (us:List Value),K.In s.heap->(us++ds).length=ps.length->BindsTo s fd ⟨us,[]⟩ (ps.zip (us++ds))
theorem Binds.all {fd:zc}(h:∀us:List Value,us.length=ps.length->bindArgs fd ⟨us,[]⟩=pure (ps.zip us)):Binds K fd ps []:=fun s us _ a=>by
 rw[yac] at a ⊢;exact .of_eq (h us a)
def Zx4 (CX:CXT)(X:Cx)(E:XK):Prop:=∀(pins:List (Addr×Obj)) (σ:St) (H:Hp) (s:Shared) (e:Value) (s':Shared),Inv X pins σ H s->CX X.stack H s E e s'->X.xe e s'
section
variable {X:Cx}{CX:CXT}{k:Nat}{fd:zc}{sp:Sp}{dvs:List V}{ds:List Value}{E:XK}{m:Str}{p apos:Pos}{e o:Expr}{es:List Expr}{ta:TE}{t:TA}
theorem Xw0 {σ:St}{H:Hp}{Q:VK}{vs:List V}(F:FnOk X.prog X.w X.K X.mg X.base CX k f fd ps sp)(hr:Room k X.A)(hb:Binds X.K fd ps ds)(hd:Vals dvs ds)(hx:Zx4 CX X E)(I:Inv X pins σ H s)(r:Vals vs us)(h:sp (vs++dvs) H Q E):wpAny (model X.prog X.w) X.A (call (.ref f) us) (EP X pins σ Q) X.xe s:=by
 have a  := r.append hd
 have d:(us++ds).length=ps.length:=by rw[<- a.length];exact F.len _ _ _ _ h
 refine wpAny_call (zdk (F.run X.A _ s H ⟨us,[]⟩ _ _ Q E hr I.env0 (hb s us I.kIn d) a h) fun r c b=>?_)
 cases r with
 |error e=>exact hx _ σ H s e c I b
 |ok fl =>
  cases fl with
  |ret u=>exact I.after b
  |next=>assumption
  |brk=>assumption
  |cont=>assumption
theorem Yt0 (F:FnOk X.prog X.w X.K X.mg X.base CX k f fd ps sp)(hr:Room k X.A)(hg:Gl X x)(hm:X.mg x=some (.ref f))(hk:zan X.K (.ref f)=true)(hb:Binds X.K fd ps ds)(hd:Vals dvs ds)(hx:Zx4 CX X E)
  (ha:PA X (e::es) t) (hdb:(x == ("__debug__":Str))=false:=by decide) (he:zx (e::es) X.env=(false,eval e X.env)::zx es X.env:=by rfl) (hpl:(backTo pos (zx es X.env)).any (·.1)=false:=by rfl) :
  PE X (.Call (.Name x p) (e::es) [] pos) (Yd5 sp dvs E t):=by with_unfolding_all
 intro a s b H Q I h;refine yar (Zo6 I hg hm ?_ hdb);refine W.callWith_K (h₀:=X.base) I.ok.mod.kin hk (thn (ha pos a s b H _ I h) fun us s1 ⟨vs,H1,I1,r,q⟩=>⟨I1.kIn,?_⟩) he hpl;exact Xw0 F hr hb hd hx I1 r q
structure Mk (K:W.Frag)(C f:Addr):Prop where
 makes:W.makesIn K C=true
 init:ydc K (.ref C) "__init__"=some (some (.ref f))
 fn:W.isFn K (.ref f)=true
 kp:zan K (.ref C)=true
theorem Yx4 {σ:St}{H:Hp}{Q:VK}{vs:List V}(M:Mk X.K C f)(F:FnOk X.prog X.w X.K X.mg X.base CX k f fd ps sp)(hr:Room (k+1) X.A)(hb:Binds X.K fd ps ds)(hd:Vals dvs ds)(hx:Zx4 CX X E)(I:Inv X pins σ H s)(r:Vals vs us)(h:∀x dx,H x=none->H dx=none->dx≠x->sp (.ref x::(vs++dvs)) (upd (upd H dx (.own x)) x (.ins C dx [])) (fun v H2=>v=.non/\Q (.ref x) H2) E):
  wpAny (model X.prog X.w) X.A (call (.ref C) us) (EP X pins σ Q) X.xe s:=by
 have d:=h _ s.heap.objs.size (I.hok.fresh (Nat.le_succ _)) (I.hok.fresh (by simp)) (yq (by simp));have a:=Inv.made (C:=C) I;have c:Vals (V.ref (s.heap.objs.size+1)::_) _:=.cons rfl (r.append hd)
 have l  := by
  have e:=c.length;rw[F.len _ _ _ _ d] at e;exact e.symm
 refine wpAny_call (Xt2 I.kIn M.makes M.init (beq_iff_eq.mp M.fn) (zdk (F.run _ _ _ _ ⟨yt _::us,[]⟩ _ _ _ E (hr.make C us [])
  (a.env0.make C us []) (hb _ _ a.kIn l) c d) fun r g b=>?_))
 cases r with
 |error e=>exact hx _ σ _ _ e g a b
 |ok fl =>
  cases fl with
  |ret u =>
   obtain⟨v,o,n,i,m,j⟩:=a.after b;subst m;exact⟨i,⟨V.ref _,o,n,rfl,j⟩⟩
  |next=>assumption
  |brk=>assumption
  |cont=>assumption
theorem Xj2 (M:Mk X.K C f)(F:FnOk X.prog X.w X.K X.mg X.base CX k f fd ps sp)(hr:Room (k+1) X.A)(hg:Gl X x)(hm:X.mg x=some (.ref C))(hb:Binds X.K fd ps ds)(hd:Vals dvs ds)(hx:Zx4 CX X E)
  (ha:PA X (e::es) t) (hdb:(x == ("__debug__":Str))=false:=by decide) (he:zx (e::es) X.env=(false,eval e X.env)::zx es X.env:=by rfl) (hpl:(backTo pos (zx es X.env)).any (·.1)=false:=by rfl) :
  PE X (.Call (.Name x p) (e::es) [] pos) (Ym0 C sp dvs E t):=by with_unfolding_all
 intro a s b H Q I h;refine yar (Zo6 I hg hm ?_ hdb);refine W.callWith_K (h₀:=X.base) I.ok.mod.kin M.kp (thn (ha pos a s b H _ I h) fun us s1 ⟨vs,H1,I1,r,q⟩=>⟨I1.kIn,?_⟩) he hpl;exact Yx4 M F hr hb hd hx I1 r q
theorem Xs7 (M:Mk X.K C f)(F:FnOk X.prog X.w X.K X.mg X.base CX k f fd ps sp)(hr:Room (k+1) X.A)(hg:Gl X x)(hm:X.mg x=some (.ref C))(hb:Binds X.K fd ps ds)(hd:Vals dvs ds)(hx:Zx4 CX X E)
  (hdb:(x == ("__debug__":Str))=false:=by decide):PE X (.Call (.Name x p) [] [] pos) (Ym0 C sp dvs E tNil):=by with_unfolding_all
 intro a s b H Q I h;refine yar (Zo6 I hg hm ?_ hdb);exact W.callWith_K0 I.kIn M.kp (Yx4 M F hr hb hd hx I .nil h)
end
structure FnScope (N P:List Str)(sc:Scope):Prop where
 kind:sc.kind=.function
 co:sc.isCoroutine=false
 gen:sc.isGenerator=false
 nd:N.Nodup
 pre:N.take P.length=P
 par:∀x∈P,sc.names.lookup x=some .local∨sc.names.lookup x=some .cell
 nofree:∀y∈sc.names,y.2≠.free
theorem Yq2 {kindOf:Str->Option zci}:∀{binds:List (Str×Value)} {m:Str->Option Value},(∀v,(x,v) ∉ binds)->bindL kindOf binds m x=m x
 | [],_,_=>rfl
 | (n,v)::r,m,h=>by
  unfold bindL;rw[Yq2 fun w hw=>h w (zo _ hw)]
  split
  ·grind
  ·rfl
theorem Yq4 {kindOf:Str->Option zci}:∀{binds:List (Str×Value)} {m:Str->Option Value},(∀v,(x,v) ∉ binds)->bindC kindOf binds m x=m x
 | [],_,_=>rfl
 | (n,v)::r,m,h=>by
  unfold bindC;rw[Yq4 fun w hw=>h w (zo _ hw)]
  split
  ·rfl
  grind
theorem Yq3 {kindOf:Str->Option zci}:∀{P:List Str} {vs:List Value} {i:Nat} {m:Str->Option Value},P.Nodup->P[i]?=some x->vs[i]?=some v->kindOf x=some .local ->
  bindL kindOf (P.zip vs) m x=some v
 | [],_,_,_,_,h,_,_=>by simp at h
 | _::_,[],_,_,_,_,h,_=>by simp at h
 |p::P,w::vs,0,m,nd,h1,h2,hk=>by
  simp at h1 h2;subst h1 h2;show bindL _ ((p,w)::P.zip vs) m p=_;unfold bindL;rw[Yq2 fun v hv=>(yaf.mp nd).1 (yco hv).1,if_pos hk];simp
 |p::P,w::vs,i+1,m,nd,h1,h2,hk=>by
  show bindL _ ((p,w)::P.zip vs) m x=_;exact Yq3 (yaf.mp nd).2 (by assumption) (by assumption) hk
theorem Yq5 {kindOf:Str->Option zci}:∀{P:List Str} {vs:List Value} {i:Nat} {m:Str->Option Value},P.Nodup->P[i]?=some x->vs[i]?=some v->kindOf x≠some .local ->
  bindC kindOf (P.zip vs) m x=some v
 | [],_,_,_,_,h,_,_=>by simp at h
 | _::_,[],_,_,_,_,h,_=>by simp at h
 |p::P,w::vs,0,m,nd,h1,h2,hk=>by
  simp at h1 h2;subst h1 h2;show bindC _ ((p,w)::P.zip vs) m p=_;unfold bindC;rw[Yq4 fun v hv=>(yaf.mp nd).1 (yco hv).1,if_neg hk];simp
 |p::P,w::vs,i+1,m,nd,h1,h2,hk=>by
  show bindC _ ((p,w)::P.zip vs) m x=_;exact Yq5 (yaf.mp nd).2 (by assumption) (by assumption) hk
noncomputable def start (N:List Str)(vs:List V):St:=vs.map some++ycf (N.length - vs.length) none
noncomputable def cxOf (CX:CXT)(P:zf)(w:World)(K:W.Frag)(mg:Str->Option Value)(base:Heap)(N:List Str)(qual:Str)(scope:Scope)(f:Addr)(cd:Value)(A:Around)(outer:List Env)(s:Shared)(H:Hp)(E:XK):Cx where
 prog:=P
 w:=w
 K:=K
 mg:=mg
 base:=base
 A:=A.deeper (envOfC qual scope s.heap.objs.size f cd)
 N:=N
 s₀:=s
 H₀:=H
 env:=envOfC qual scope s.heap.objs.size f cd
 outer:=outer
 stack:=envOfC qual scope s.heap.objs.size f cd::outer
 ex:=[]
 calm:=true
 fn:=fun _=>true
 pn:=[]
 xe:=fun e s'=>wpAny (model P w) (A.deeper (envOfC qual scope s.heap.objs.size f cd)) (leaving (envOfC qual scope s.heap.objs.size f cd) e) (fun _ s''=>CX outer H s E e s'') (fun e' s''=>CX outer H s E e' s'') s'
theorem Zj5 (h:sc.names.lookup x=some .cell):∃c,(cellsFrom n sc.names []).lookup x=some c:=by
 have q:=W.cellsFrom_some _ n [] (.inl h);exact ybn.mp q
theorem Xm3 {CX:CXT}{P:zf}{base:Heap}{N:List Str}{s1:Shared}{H:Hp}{E:XK}{vs:List V}(S:FnScope N ps scope)(hd:A.handled=none)(e0:Env0 P w K mg base A outer s H)(hl:vs.length=ps.length)(r:Vals vs us)(x:InCallC s s.heap.objs.size (bindL (envOfC qual scope s.heap.objs.size f cd).kindOf (ps.zip us) fun _=>none) (cellsFrom (s.heap.objs.size+1) scope.names []) (bindC (envOfC qual scope s.heap.objs.size f cd).kindOf (ps.zip us) fun _=>none) s1):
  Inv (cxOf CX P w K mg base N qual scope f cd A outer s H E) [] (start N vs) H s1:=by
 have D:ps.length<=N.length:=by have:=congrArg ybq S.pre;rw[yal] at this;omega
 obtain⟨l,F,rfl,o⟩:=x.done;have d:∀b:Addr,b ∉ (cxOf CX P w K mg base N qual scope f cd A outer s H E).ex:=fun b z=>absurd (show b∈([]:List _) from z) (by simp)
 refine⟨⟨e0.mod,S.kind,rfl,rfl,zg _,fun y z c l a=>?_,fun y g=>?_,fun y c _ h=>?_,fun _=>hd,Around.frames_deeper e0.frames,.inr ⟨rfl,rfl⟩,fun b z=>absurd z (d b),e0.bs,e0.bsz,fun b _ _=>d b,fun b z=>absurd z (d b),e0.funs,e0.frf⟩,
  rfl,e0.bare,Un.kept o,⟨_,x.toInCall.ns,fun i y v l a G=>?_⟩,fun y c h=>⟨_,x.cell y c h⟩,e0.hok.fresh (zg _),fun y c h=>?_,fun p j=>absurd (show p∈([]:List _) from j) (by simp),e0.hok.kept o,?_⟩
 ·exact name_of_addr x.apart (yah l) (yah a)
 ·rcases g with g | g
  ·exact Zj5 g
  ·exact absurd rfl (S.nofree _ (yah g))
 ·exact zv (x.above y c (yah h))
 ·have t:i < vs.length:=by
   unfold start at a
   by_cases t:i < vs.length
   ·omega
   ·rw[yk (by simpa using t)] at a
    rw[zcp] at a
    simp_all
  have C:vs[i]?=some v:=by
   unfold start at a;rw[yh (by simp_all),yba] at a
   simp_all
  obtain⟨u,n,B⟩:=r.get C
  have j:ps[i]?=some y:=by
   rw[<- S.pre,List.getElem?_take_of_lt (by omega)];exact l
  have m:ps.Nodup:=by rw[<- S.pre];exact S.nd.sublist (List.take_sublist _ _)
  refine⟨u,B,?_⟩;rcases S.par y (yo j) with k | k
  ·exact .inl ⟨k,Yq3 m j n k⟩
  ·obtain⟨c,e⟩:=Zj5 k
   refine .inr ⟨.inl k,c,e,?_⟩;have q:=x.cell y c e;rw[Yq5 m j n (by show scope.names.lookup y≠_;simp_all)] at q;exact q
 ·exact e0.hok.fresh (zv (x.above y c (yah h)))
 ·unfold start
  show _=N.length
  simp_all
theorem fn_of {CX:CXT}{P:zf}{base:Heap}{k:Nat}{params:zdh}{body:List Stmt}{dV kV cdv:Value}{an:Option Addr}{N:List Str}{sp:Sp}(lk:K.lookup f=some ⟨oc,od,.func (W.fnOf name qual params body scope dV kV doc pm an cdv ct),osl⟩)(hcd:yci K cdv qual=true)(S:FnScope N ps scope)(len:∀vs H Q E,sp vs H Q E->vs.length=ps.length) (hbody:∀(A:Around) (outer:List Env) (s:Shared) (H:Hp) (vs:List V) (Q:VK) (E:XK),Room k (A.deeper (envOfC qual scope s.heap.objs.size f cdv))->sp vs H Q E ->
   ∃t,PSs (cxOf CX P w K mg base N qual scope f cdv A outer s H E) body t/\t { nx:=fun _ H'=>Q .non H',rt:=Q } (start N vs) H):
  FnOk P w K mg base CX (k+1) f (W.fnOf name qual params body scope dV kV doc pm an cdv ct) ps sp:=by with_unfolding_all
 refine⟨len,fun A outer s H M z vs Q E l d G r h=>?_⟩;have D:=len _ _ _ _ h;have p:K.In s.heap:=d.mod.kin.keeps fun b o e=>(d.bs b o e).1;have m:s.heap.NoLimit:=d.mod.nolimit.keeps fun b o e=>(d.bs b o e).1
 have g:∀y∈ps.zip z,scope.names.lookup y.1=some .local∨(scope.names.lookup y.1=some .cell/\((cellsFrom (s.heap.objs.size+1) scope.names []).lookup y.1).isSome=true):=fun⟨n,v⟩ hy=>by
  rcases S.par n (yco hy).1 with q | q
  ·exact .inl q
  ·exact .inr ⟨q,W.cellsFrom_some _ _ _ (.inl q)⟩
 refine codeAny_call_function l.depth (p _ _ lk) rfl S.co S.gen rfl (W.codeRec_of p hcd) (G _ _ _ _ ?_);refine wpAny_newFunctionEnv_cells S.kind g fun O F s1 x=>?_;subst F;refine⟨m.keeps x.toInCall.keep,codeAny_func ?_⟩;obtain⟨t,B,C⟩:=hbody A outer s H vs Q E (l.deeper _) h;have I:Inv (cxOf CX P w K mg base N qual scope f cdv A outer s H E) [] (start N vs) H s1:=Xm3 S l.hd d D r x;refine ybt (B [] s1 (start N vs) H _ I C) (fun L s' c=>?_) fun e s' c=>c
 have i:∀{a:St} {H':Hp} {v:V} {u:Value},Inv (cxOf CX P w K mg base N qual scope f cdv A outer s H E) [] a H' s'->RelV v u->Q v H'->CE _ P w H s Q u s' :=
  fun {a H' v u} J j q=>⟨v,H',J.os,J.bare,J.base,J.hok,j,q⟩
 cases L with
 |ret u =>
  obtain⟨v,a,H',J,j,q⟩:=c;exact i J j q
 |next =>
  obtain⟨a,H',J,q⟩:=c;exact i (v:=V.non) J rfl q
 |brk =>
  obtain⟨_,_,_,q⟩:=c
  simp_all
 |cont =>
  obtain⟨_,_,_,q⟩:=c
  simp_all
section
variable {X:Cx}{p:Pos}{e:Expr}{es:List Expr}{t:TA}{T:String}{r:List V->Hp->VK->Prop}
def tCB (r:List V->Hp->VK->Prop)(t:TA):TE:=fun σ H Q=>t σ H fun vs H1=>r vs H1 Q
theorem Ze2 (hc:Yq9 X (.builtin id) r)(hg:Gl X x)(hm:X.mg x=none)(hv:ybc x=some (.builtin id))(ha:PA X (e::es) t)(hn:x≠"__name__":=by decide)(hdb:(x == ("__debug__":Str))=false:=by decide)
  (he:zx (e::es) X.env=(false,eval e X.env)::zx es X.env:=by rfl) (hpl:(backTo pos (zx es X.env)).any (·.1)=false:=by rfl):PE X (.Call (.Name x p) (e::es) [] pos) (tCB r t):=by with_unfolding_all
 intro a s b H Q I h;refine yar (Zq3 I hg hm hv ?_ hn hdb);exact PyProof.Rows.callWith_builtin1 (thn (ha pos a s b H _ I h) fun us s1 zZ=>by obtain⟨vs,H1,I1,r1,q1⟩:=zZ;exact hc a s1 b H1 vs us Q I1 r1 q1) he hpl
theorem Zn9 (hc:Yq9 X (.type T) r)(hg:Gl X x)(hm:X.mg x=none)(hv:ybc x=some (.type T))(ha:PA X (e::es) t)(hn:x≠"__name__":=by decide)(hdb:(x == ("__debug__":Str))=false:=by decide)
  (he:zx (e::es) X.env=(false,eval e X.env)::zx es X.env:=by rfl) (hpl:(backTo pos (zx es X.env)).any (·.1)=false:=by rfl):PE X (.Call (.Name x p) (e::es) [] pos) (tCB r t):=by with_unfolding_all
 intro a s b H Q I h;refine yar (Zq3 I hg hm hv ?_ hn hdb);exact zaf (thn (ha pos a s b H _ I h) fun us s1 zZ=>by obtain⟨vs,H1,I1,r1,q1⟩:=zZ;exact hc a s1 b H1 vs us Q I1 r1 q1) he hpl
end
end L2
variable {CX:L2.CXT}{D:L2.Ends}{H H' H0 H1 H2:L2.Hp}{X Y:L2.Cx}{frv gs:List L2.V}{g:Int->Int->L2.V}{kvs:List (List L2.Key×L2.V)}{o:L2.HO}{r:L2.R2}{sp:L2.Sp}{ta tb te:L2.TE}{wi:L2.TI}{y:L2.V}{σ σ0:L2.St}
namespace HT
open PySem PyProof.Rows
section
variable {prog:zf}{E:Value->Shared->Prop}
theorem cat_tup {t:Addr}{ws:List Value}{Q:Value->Shared->Prop}(ht:IsTup s.heap t vs.toArray)(hb:IsTup s.heap b ws.toArray)(hv:vs≠[])(h1:ws=[]->Q (.ref t) s)(h2:ws≠[]->Q (.ref s.heap.objs.size) { s with heap:=s.heap.push { cls:=.type "tuple",data:=.seq (vs++ws).toArray } })(hsz:vs.length+ws.length<=zi):wpAny (model prog w) A (zbq .Add (.ref t) (.ref b)) Q E s:=by
 obtain⟨⟨cls,k,data,g⟩,c,o,n,m⟩:=id ht;obtain⟨⟨p,f,l,d⟩,a,j,h,i⟩:=id hb;subst o m j i
 have e:vs.toArray++ws.toArray=(vs++ws).toArray:=by simp
 by_cases hw:ws=[]
 ·exact concat_meets ⟨_,c,rfl⟩ ⟨_,a,rfl⟩ noFill_tuple_add seq_tuple_add PySem.F.slot_tuple_add PySem.F.entry_tuple_add (PySem.F.args_tuple_add_2 _ _)
   (tuple_addW1 t b _ _ n h k f g d (by simp_all) (by simp[*])) ⟨c,a,h1 hw⟩
 ·refine concat_meets ⟨_,c,rfl⟩ ⟨_,a,rfl⟩ noFill_tuple_add seq_tuple_add PySem.F.slot_tuple_add PySem.F.entry_tuple_add (PySem.F.args_tuple_add_2 _ _)
   (tuple_addW2 t b _ _ n h k f g d (by simp_all) (by simp_all) (by omega)) ⟨c,a,?_⟩
  rw[e];exact h2 hw
noncomputable def sIx (n d:Nat):Option Int->Nat
 |none=>d
 |some v=>if v < 0 then (v+(n:Int)).toNat else min v.toNat n
theorem sIx_none (n d:Nat):sIx n d none=d:=rfl
theorem sIx_nat (n d k:Nat):sIx n d (some (k:Int))=min k n:=by rfl
theorem Xp3 (v:Int)(n d:Nat):(if v < 0 then max (v+(n:Int)) 0 else min v (n:Int))=((sIx n d (some v):Nat):Int):=by
 show _=(((if v < 0 then (v+n).toNat else min _ n):Nat):Int)
 by_cases hv:v < 0
 ·simp_all
 ·simp[if_neg hv];omega
theorem Xe7 (lo hi:Option Int)(n:Nat):zdm lo hi 1 (n:Int)=(((sIx n 0 lo:Nat):Int),((sIx n n hi:Nat):Int)):=by
 refine Prod.ext ?_ ?_
 ·cases lo with
  |none=>rfl
  |some v=>exact Xp3 v n 0
 ·cases hi with
  |none=>rfl
  |some v=>exact Xp3 v n n
theorem Xb8 (i j:Nat):ybl (i:Int) (j:Int) 1=j - i:=by
 unfold ybl
 have a:(1:Int) > 0:=by omega
 simp only[a,if_true,Int.ediv_one]
 split<;>omega
theorem Ye3 {o:Option Int}{Q:Option Int->Shared->Prop}(p:IsPart v o)(h:Q o s):wpAny (model prog w) A (zdn.Slice.slicePartIndex v) Q E s:=by
 cases p with
 |none=>exact slicePart_none h
 |int i t=>exact slicePart_int h
theorem Zx6 {sl:Addr}{vl vu:Value}{lo hi:Option Int}{Q:Int×Int×Nat->Shared->Prop}(hs:s.heap.IsSliceOf sl vl vu .none)(pl:IsPart vl lo)(pu:IsPart vu hi)(h:Q (((sIx n 0 lo:Nat):Int),1,sIx n n hi - sIx n 0 lo) s):wpAny (model prog w) A (zdn.Slice.sliceApplied (.ref sl) (pure (n:Int))) Q E s:=by
 obtain⟨d,a,c,b⟩:=id hs;refine za (za (zad a b rfl (za (zad a b rfl (za (zad a b rfl (yb ?_)))))));refine za (slicePart_none ?_);refine za (Ye3 pl (za (Ye3 pu (za (yb ?_)))));show wpAny _ _ (match zdm lo hi 1 _ with | (lo,hi)=>pure (lo,_,ybl lo hi 1)) _ _ s;rw[Xe7 lo hi n];show wpAny _ _ (pure (_,_,ybl _ _ 1)) _ _ s;rw[Xb8];exact yb h
theorem Xs6 (xs:Array Value)(i k:Nat):((zbt k).filterMap fun (m:Nat)=>xs[((i:Int)+(m:Int)*1).toNat]?).toArray=((xs.toList.drop i).take k).toArray:=by
 have e:(fun (m:Nat)=>xs[((i:Int)+m*1).toNat]?)=fun m=>xs[i+m]?:=by
  funext m
  have:((i:Int)+m*1).toNat=i+m:=by omega
  rw[this]
 have:=pick_run xs i k;have a:(_ ∘ fun x=>i+x)=fun m=>xs[i+m]?:=rfl
 simp_all
theorem getItem_tuple_cut {t sl:Addr}{items:Array Value}{vl vu:Value}{lo hi:Option Int}{Q:Value->Shared->Prop}(ht:IsTup s.heap t items)(hs:s.heap.IsSliceOf sl vl vu .none)(pl:IsPart vl lo)(pu:IsPart vu hi)
  (hw:¬(sIx items.size 0 lo=0/\sIx items.size items.size hi=items.size))
  (h:Q (.ref s.heap.objs.size) { s with heap:=s.heap.push { cls:=.type "tuple",data:=.seq ((items.toList.drop (sIx items.size 0 lo)).take (sIx items.size items.size hi - sIx items.size 0 lo)).toArray } })
  (hsz:items.size<=zi):wpAny (model prog w) A (getItem (.ref t) (.ref sl)) Q E s:=by
 have a:sizeOk (.seq ((items.toList.drop (sIx items.size 0 lo)).take (sIx items.size items.size hi - sIx items.size 0 lo)).toArray):=by
  show ((items.toList.drop _).take _).toArray.size<=zi;rw[ybd,yal,ybs,ybe];omega
 obtain⟨f,b,d,g⟩:=id hs;have e:s.TypeIs (.ref sl) "slice":=⟨f,b,d⟩;unfold getItem
 try with_reducible refine zap ?_
 refine za (wpAny_sequenceKey ht.typeIs rfl ?_)
 refine za (zah ht.typeIs zbo
  (yae zbo ht.typeIs entry_tuple_getitem ?_ (args_tuple_getitem _ _)))
 show wpAny _ _ (zdn.Tuple.tupleItemsOf _ >>= _) _ _ s;refine za (tupleItemsOf_ ht (za (wpAny_typeOf e ?_)));refine za (Zx6 hs pl pu ?_)
 have c:¬((((sIx items.size 0 lo):Int) == 0&&(1:Int) == 1&&sIx items.size items.size hi - sIx items.size 0 lo == items.size)=true):=by
  simp_all
 show wpAny _ _ (if _=true then _ else _) _ _ s;rw[if_neg c,Xs6]
 first
  |exact za (yab (yb ⟨_,rfl,yb h⟩) a)
  |exact za _
  |exact za _
  |exact za _
end
end HT
namespace L2
open PySem PySem.Spec PyProof.Rows
noncomputable abbrev TO:=St->Hp->(Option Int->Hp->Prop)->Prop
def PO (X:Cx)(e:Option Expr)(t:TO):Prop :=
 ∀(pins:List (Addr×Obj)) (s:Shared) (σ:St) (H:Hp) (Q:Option Int->Hp->Prop),Inv X pins σ H s->t σ H Q ->
  wpAny (model X.prog X.w) X.A (evalPart e X.env) (fun u s'=>∃o H',Inv X pins σ H' s'/\IsPart u o/\Q o H') X.xe s
noncomputable def Zq6:TO:=fun _ H Q=>Q none H
noncomputable def Yr2 (t:TE):TO:=fun σ H Q=>t σ H fun x H1=>∃i,x=.int i/\Q (some i) H1
section
variable {e:Expr}{lo hi:Option Expr}{tl th:TO}{p2:Pos}
theorem Yh9:PO X none Zq6:=by
 intro a s b H Q I h;exact yb ⟨none,H,I,.none,h⟩
theorem Yh8 (h:PE X e te):PO X (some e) (Yr2 te):=by with_unfolding_all
 intro a s b H Q I g;rw[evalPart_some];refine thn (h a s b H _ I g) fun u l c=>?_;obtain⟨x,k,j,d,f⟩:=c;obtain⟨i,rfl,q⟩:=f;obtain⟨t,rfl⟩:=d;exact⟨some i,k,j,.int i t,q⟩
def SlR (X:Cx)(r:V->Option Int->Option Int->Hp->VK->Prop):Prop :=
 ∀(pins:List (Addr×Obj)) (s:Shared) (σ:St) (H:Hp) (x:V) (v vl vu:Value) (lo hi:Option Int) (sl:Addr) (Q:VK),Inv X pins σ H s->RelV x v->s.heap.IsSliceOf sl vl vu .none->IsPart vl lo->IsPart vu hi->r x lo hi H Q ->
  ∃T id,typeLookup (.type T) "__getitem__"=pure (some (.builtin id))/\s.TypeIs v T/\wpAny (model X.prog X.w) X.A (getItem v (.ref sl)) (EP X pins σ Q) X.xe s
def tSl (r:V->Option Int->Option Int->Hp->VK->Prop)(te:TE)(tl th:TO):TE:=fun σ H Q=>te σ H fun x H1=>tl σ H1 fun l H2=>th σ H2 fun u H3=>r x l u H3 Q
theorem Zy9 {r:V->Option Int->Option Int->Hp->VK->Prop}(hr:SlR X r)(he:PE X e te)(hl:PO X lo tl)(hu:PO X hi th):PE X (.Subscript e (.Slice lo hi none p2) pos) (tSl r te tl th):=by with_unfolding_all
 intro g s a H Q I h;refine Subscript_ (thn (he g s a H _ I h) fun v j d=>?_);obtain⟨x,B,A,k,n⟩:=d;refine wpAny_Slice (thn (hl _ j a B _ A n) fun vl s2 ⟨l,H2,I2,pl,q2⟩=>thn (hu _ s2 a H2 _ I2 q2) fun f c d=>?_);obtain⟨u,i,z,o,m⟩:=d;refine yb ?_;have y:Inv X _ a i { c with heap:=c.heap.push { cls:=.type "slice",data:=.fields #[vl,f,.none] } }:=z.kept fun b C q=>ya _ q;obtain⟨T,id,w,p,t⟩:=hr _ { c with heap:=c.heap.push { cls:=.type "slice",data:=.fields #[vl,f,.none] } } a i x v vl f l u _ Q y k (Heap.IsSliceOf.new ..) pl o m;exact tail_any (ops:=[.ref _,v]) p w t rfl
noncomputable def cutV (xs:List V)(lo hi:Option Int):List V:=(xs.drop (HT.sIx xs.length 0 lo)).take (HT.sIx xs.length xs.length hi - HT.sIx xs.length 0 lo)
theorem Zm9 (xs:List V)(lo hi:Option Int):(cutV xs lo hi).length<=xs.length:=by
 unfold cutV;rw[yal,ybs];omega
def rSlT (K:W.Frag):V->Option Int->Option Int->Hp->VK->Prop:=fun x lo hi H Q=>∃a xs,x=.ref a/\SqT K H a xs /\
 ¬(HT.sIx xs.length 0 lo=0/\HT.sIx xs.length xs.length hi=xs.length)/\∀p,H p=none->Q (.ref p) (upd H p (.tup (cutV xs lo hi)))
theorem Wi4:SlR X (rSlT X.K):=by
 intro k s u H x v y w l t z Q I g p j i h;obtain⟨a,d,rfl,n,B,q⟩:=h;cases g;obtain⟨e,r,f,m⟩:=I.tuple n
 have c:e.toArray.size=d.length:=by exact r.length.symm
 refine⟨"tuple",_,zbo.lookup,f.typeIs,?_⟩;refine HT.getItem_tuple_cut f p j i (by rw[c];omega) ?_ (by simp[*]);rw[c];refine⟨.ref _,_,I.laid (o:=.tup _) (fun b A q=>ya _ q) (by simp) ?_,rfl,q _ (I.hok.fresh (by simp))⟩;exact⟨yj (Zm9 d l t) m,_,(r.drop _).take _,IsTup.new _ _⟩
def Ys6 (K:W.Frag):R2:=fun x y H Q=>∃a b xs ys,x=.ref a/\y=.ref b/\SqT K H a xs/\SqT K H b ys/\xs≠[]/\xs.length+ys.length<=zi /\
 (ys=[]->Q (.ref a) H)/\(ys≠[]->∀p,H p=none->Q (.ref p) (upd H p (.tup (xs++ys))))
theorem Vals.nil_iff {xs:List V}(r:Vals xs us):us=[]↔xs=[]:=by
 cases r with
 |nil=>simp
 |cons _ _=>simp
theorem Xj7:OpR X (zbq .Add) (Ys6 X.K):=by
 intro j s A H x y v u Q I f e h;obtain⟨a,b,C,B,rfl,rfl,r,p,n,F,i,g⟩:=h;cases f;cases e;obtain⟨t,d,l,_⟩:=I.tuple r;obtain⟨m,c,k,_⟩:=I.tuple p;refine HT.cat_tup l k (fun z=>n (d.nil_iff.mp z)) (fun z=>⟨.ref a,H,I,rfl,i (c.nil_iff.mp z)⟩) (fun z=>?_) (by rw[<- d.length,<- c.length];omega);refine⟨.ref _,_,I.laid (o:=.tup _) (fun b D q=>ya _ q) (by simp) ?_,rfl,g (fun w=>z (c.nil_iff.mpr w)) _ (I.hok.fresh (by simp))⟩;exact⟨by simp_all,_,d.append c,IsTup.new _ _⟩
end
noncomputable def ixN (n:Nat)(i:Int):Option Nat:=if 0<=i then (if i < n then some i.toNat else none) else if -(n:Int)<=i then some (i+n).toNat else none
noncomputable def atI {α:Type}(xs:List α)(i:Int):Option α:=(ixN xs.length i).bind fun j=>xs[j]?
theorem Xl8 {i:Int}(h:ixN n i=some j):seqIndex? i n=some j/\j < n/\-(n:Int)<=i/\i < n:=by
 unfold ixN at h
 by_cases h0:0<=i
 ·rw[if_pos h0] at h
  by_cases h1:i < n
  ·rw[if_pos h1] at h
   have e  := zu h;exact⟨by rw[seqIndex_of h0 h1,e],by omega,by omega,h1⟩
  simp_all
 ·rw[if_neg h0] at h
  by_cases h1:-n<=i
  ·rw[if_pos h1] at h
   have e  := zu h;exact⟨by rw[seqIndex_neg (by omega) h1,e],by omega,h1,by omega⟩
  simp_all
theorem Yv8 {α:Type}{xs:List α}{i:Int}{v:α}(h:atI xs i=some v):∃j,seqIndex? i xs.length=some j/\xs[j]?=some v/\j < xs.length/\-(xs.length:Int)<=i/\i < xs.length:=by
 unfold atI at h
 cases e:ixN xs.length i with
 |none=>simp_all
 |some j =>
  rw[e] at h;obtain⟨d,c,b,a⟩:=Xl8 e;exact⟨j,d,h,c,b,a⟩
theorem Zc0 {α:Type}{xs:List α}{j:Nat}{v:α}(h:xs[j]?=some v):atI xs (j:Int)=some v:=by
 have a  := (yc.mp h).1
 have e:ixN xs.length j=some j:=by
  unfold ixN
  simp_all
 unfold atI;rw[e];exact h
theorem Xa6 {α:Type}(xs:List α)(v:α):atI (xs++[v]) (-1)=some v:=by
 have a:(xs++[v]).length=xs.length+1:=by simp
 have e:ixN (xs++[v]).length (-1)=some xs.length:=by
  unfold ixN;rw[a,if_neg (by decide),if_pos (by omega)]
  congr 1
  omega
 unfold atI
 simp_all
def Yd1 (b:Expr):Prop:=∀o i,subscripted b false o i=operate [o,i] (getItem o i)
def IxR (X:Cx)(r:R2):Prop :=
 ∀(value slice:Expr) (pins:List (Addr×Obj)) (s:Shared) (σ:St) (H:Hp) (x y:V) (v u:Value) (Q:VK),Inv X pins σ H s->RelV x v->RelV y u->r x y H Q ->
  subscripted slice false v u=operate [v,u] (getItem v u)->wpAny (model X.prog X.w) X.A (subscriptTail value slice v u) (EP X pins σ Q) X.xe s
def MtR (X:Cx)(id:String)(r:V->List V->Hp->VK->Prop):Prop :=
 ∀(pins:List (Addr×Obj)) (s:Shared) (σ:St) (H:Hp) (x:V) (xs:List V) (v:Value) (us:List Value) (Q:VK),Inv X pins σ H s->RelV x v->Vals xs us->r x xs H Q ->
  wpAny (model X.prog X.w) X.A (call (.builtin id) (v::us)) (EP X pins σ Q) X.xe s
section
variable {a b:Expr}
theorem Wc1 (hr:IxR X r)(ha:PE X a ta)(hb:PE X b tb)(hs:Yd1 b):PE X (.Subscript a b pos) (tOp r ta tb):=by with_unfolding_all
 intro g s c H Q I h;exact Subscript_ (binT ha hb I h fun v u d x y j i f e q=>hr a b _ d c j x y v u Q i f e q (hs _ _))
def rIxL (K:W.Frag):R2:=fun x y H Q=>∃p xs i v,x=.ref p/\y=.int i/\SqL K H p xs/\atI xs i=some v/\Q v H
def rIxT (K:W.Frag):R2:=fun x y H Q=>∃p xs i v,x=.ref p/\y=.int i/\SqT K H p xs/\atI xs i=some v/\Q v H
def rIxS:R2:=fun x y H Q=>∃z i c,x=.str z/\y=.int i/\z.length<=zi/\atI z.cps.toList i=some c/\Q (.str ⟨#[c]⟩) H
theorem We0:IxR X (rIxL X.K):=by
 intro l m B s c H x y v u Q I A o h f;obtain⟨p,L,i,z,rfl,rfl,C,D,q⟩:=h;cases A;obtain⟨t,rfl⟩:=o;obtain⟨e,r,b,M⟩:=I.list C;obtain⟨j,k,J,R,G,F⟩:=Yv8 D;obtain⟨w,S,d⟩:=r.get J;have O:=r.length;have N:=Zx1;have a:EP X _ c Q w s:=⟨z,H,I,d,q⟩
 by_cases h0:0<=i
 ·have g:i.toNat=j:=by
   rw[seqIndex_of h0 F] at k
   simp_all
  exact item_listR b.isList h0 (by omega) (by simp[*]) a f
 ·have g:(i+e.toArray.size).toNat=j:=by
   rw[seqIndex_neg (by omega) G] at k
   simp_all
  exact subscriptTail_builtinR b.isList.typeIs slot_list_getitem.lookup
   (wpAny_getItem_list_neg (Q:=fun r n=>r=w/\EP X _ c Q r n) b.isList (by omega) (by simp_all) (by omega) (by rw[g];simp[*]) ⟨rfl,a⟩) f
theorem Ws4:IxR X (rIxT X.K):=by
 intro e f m s a H x y v u Q I l k h n;obtain⟨p,D,i,z,rfl,rfl,o,A,q⟩:=h;cases l;obtain⟨t,rfl⟩:=k;obtain⟨C,r,c,F⟩:=I.tuple o;obtain⟨j,O,B,N,M,L⟩:=Yv8 A;obtain⟨w,R,b⟩:=r.get B;have J:=r.length;have G:=Zx1;have d:EP X _ a Q w s:=⟨z,H,I,b,q⟩;exact subscriptTail_builtinR c.typeIs slot_tuple_getitem.lookup
  (getItem_tuple (j:=j) (Q:=fun r g=>r=w/\EP X _ a Q r g) c (by omega) (by omega) (by simp_all) (by simp[*]) ⟨rfl,d⟩) n
theorem Ws5:IxR X rIxS:=by
 intro b d g s A H x y v u Q I f e h k;obtain⟨z,i,c,rfl,rfl,C,m,q⟩:=h;obtain⟨t,rfl⟩:=f;obtain⟨B,rfl⟩:=e;obtain⟨j,a,p,F,o,n⟩:=Yv8 m
 have l:z.cps.toList.length=z.length:=by rfl
 rw[l] at a o n;have D:=Zx1
 exact tail_any (typeIs_str s z t) slot_str_getitem.lookup (getItem_str (c:=c) (by
  have w:decide (i < -(2 ^ 63:Int))=false:=decide_eq_false (by omega);have r:decide (i ≥ 2 ^ 63)=false:=decide_eq_false (by omega)
  rw[w,r,Bool.or_false]) (by rw[a];simpa using p) ⟨.str ⟨#[c]⟩,H,I.tok _,⟨_,rfl⟩,q⟩) k
theorem Xc3 (its:List Value)(n j:Nat)(u:Value):ydf (·.setIfInBounds j u) { cls:=.type "list",data:=.seq its.toArray n }={ cls:=.type "list",data:=.seq (its.set j u).toArray n }:=by
 simp[ydf]
theorem Inv.lst {xs:List V}(I:Inv X pins σ H s)(h:H p=some (.lst xs)):
  ∃(its:List Value) (n:Nat),Vals xs its/\s.heap.get? p=some { cls:=.type "list",data:=.seq its.toArray n }/\xs.length<=zi:=by
 obtain⟨z,its,n,r,e⟩:=I.hok p _ h;exact⟨its,n,r,e,z⟩
theorem Inv.lstUpd {xs ys:List V}{its':List Value}{n':Nat}{f:Obj->Obj}(I:Inv X pins σ H s)(h:H p=some (.lst xs))(ho:s.heap.get? p=some { cls:=.type "list",data:=.seq its.toArray n })(hf:f { cls:=.type "list",data:=.seq its.toArray n }={ cls:=.type "list",data:=.seq its'.toArray n' })(r:Vals ys its')(hz:ys.length<=zi)(t:Nat):
  Inv X pins σ (upd H p (.lst ys)) { s with heap:=s.heap.update p f,toks:=t }:=by
 have e:(s.heap.update p f).get? p=some { cls:=.type "list",data:=.seq its'.toArray n' }:=by
  rw[yaa f ho (by rw[hf]<;>rfl),hf]
 refine I.write (by rw[h];trivial) (.inl rfl) (fun b u a q=>(yw _ _ (zbe a)).trans q) ⟨_,e⟩ ?_;exact⟨hz,its',n',r,e⟩
def Ys4:V->V->V->Hp->(Hp->Prop)->Prop:=fun o i v H Q=>∃p xs k j,o=.ref p/\i=.int k/\H p=some (.lst xs)/\ixN xs.length k=some j/\Q (upd H p (.lst (xs.set j v)))
theorem Xr3:PSet X Ys4:=by
 intro x s g H o i v C D u Q I m w l h;obtain⟨p,B,k,j,rfl,rfl,d,y,q⟩:=h;cases m;obtain⟨t,rfl⟩:=w;obtain⟨a,n,r,b,F⟩:=I.lst d;obtain⟨e,L,A,z⟩:=Xl8 y;have J:=r.length;have G:=Zx1
 have f:Inv X _ g _ { s with heap:=s.heap.update p _ } :=
  I.lstUpd d b (Xc3 a n j u) (r.set l j) (by simp_all) _
 by_cases h0:0<=k
 ·have c:k.toNat=j:=by
   rw[seqIndex_of h0 z] at e
   simp_all
  exact W.ki_setAt b h0 (by omega) (by simp_all) (by rw[c];exact⟨_,f,q⟩)
 ·have c:(k+a.toArray.size).toNat=j:=by
   rw[seqIndex_neg (by omega) A] at e
   simp_all
  exact W.ki_setBack b (by omega) (by simp_all) (by omega) (by rw[c];exact⟨_,f,q⟩)
theorem Ym4 (lo hi:Option Int)(n:Nat):(zby lo hi none n).1=((HT.sIx n 0 lo:Nat):Int)/\(zby lo hi none n).2.1=((HT.sIx n n hi:Nat):Int)/\(zby lo hi none n).2.2=1:=by
 refine⟨?_,?_,rfl⟩
 ·cases lo with
  |none=>simp[zby,HT.sIx]
  |some i =>
   simp only[zby,HT.sIx,Option.getD_none,show (1:Int) > 0 by decide,if_true]
   by_cases h:i < 0
   ·simp only[h,if_true]<;>omega
   ·simp only[h,if_false]<;>omega
 ·cases hi with
  |none=>simp[zby,HT.sIx]
  |some i =>
   simp only[zby,HT.sIx,Option.getD_none,show (1:Int) > 0 by decide,if_true]
   by_cases h:i < 0
   ·simp only[h,if_true]<;>omega
   ·simp only[h,if_false]<;>omega
theorem Yg7 (its:List Value)(lo hi:Option Int):slicePick its.toArray lo hi none=((its.drop (HT.sIx its.length 0 lo)).take (HT.sIx its.length its.length hi - HT.sIx its.length 0 lo)).toArray:=by
 obtain⟨c,b,a⟩:=Ym4 lo hi _;unfold slicePick;rw[c,b,a]
 simp only[sliceRange_one,pick_run]<;>rfl
def rSlL (K:W.Frag):V->Option Int->Option Int->Hp->VK->Prop:=fun x lo hi H Q=>∃a xs,x=.ref a/\SqL K H a xs/\∀p,H p=none->Q (.ref p) (upd H p (.lst (cutV xs lo hi)))
theorem Yr8:SlR X (rSlL X.K):=by
 intro j s u H x v y w k p z Q I f n i g h;obtain⟨a,e,rfl,m,q⟩:=h;cases f;obtain⟨t,r,d,l⟩:=I.list m;have c:=r.length;refine⟨"list",_,slot_list_getitem.lookup,d.isList.typeIs,?_⟩;refine wpAny_getItem_list_slice d.isList n i g .none (by simp) ?_ (by simp_all);rw[Yg7,<- c];refine⟨.ref _,_,I.laid (o:=.lst _) (fun b A q=>ya _ q) (by simp) ?_,rfl,q _ (I.hok.fresh (by simp))⟩;exact⟨yj (Zm9 e k p) l,_,0,(r.drop _).take _,zh _ rfl⟩
noncomputable def Yk0:V->Bool
 | .non=>true
 | .bl _=>true
 | .int _=>true
 | .str _=>true
 | _=>false
noncomputable def eqV:V->V->Bool
 | .non,.non=>true
 | .bl a,.bl b=>a == b
 | .bl a,.int b=>(if a then 1 else 0) == b
 | .int a,.bl b=>a == (if b then 1 else 0)
 | .int a,.int b=>a == b
 | .str a,.str b=>a == b
 | _,_=>false
theorem Wt1 {x:V}(ry:RelV y u)(rx:RelV x v)(fy:Yk0 y=true)(fx:Yk0 x=true):SeqAt.EqAt A s u v (eqV y x):=by
 cases y with
 |non =>
  cases ry
  cases x with
  |non=>cases rx;exact SeqAt.EqAt.same _
  |bl b=>cases rx;exact SeqAt.EqAt.none_bool b
  |int b=>obtain⟨t,rfl⟩:=rx;exact SeqAt.EqAt.none_int b t
  |str b=>obtain⟨t,rfl⟩:=rx;exact SeqAt.EqAt.none_str b t
  | _=>exact absurd (show false=true from fx) yi
 |bl a =>
  cases ry
  cases x with
  |non=>cases rx;exact SeqAt.EqAt.bool_none a
  |bl b=>cases rx;exact SeqAt.EqAt.bool_bool a b
  |int b=>obtain⟨t,rfl⟩:=rx;exact SeqAt.EqAt.bool_int a b t
  |str b=>obtain⟨t,rfl⟩:=rx;exact SeqAt.EqAt.bool_str a b t
  | _=>exact absurd (show false=true from fx) yi
 |int a =>
  obtain⟨c,rfl⟩:=ry
  cases x with
  |non=>cases rx;exact SeqAt.EqAt.int_none a c
  |bl b=>cases rx;exact SeqAt.EqAt.int_bool a c b
  |int b=>obtain⟨t,rfl⟩:=rx;exact SeqAt.EqAt.int_int a c b t
  |str b=>obtain⟨t,rfl⟩:=rx;exact SeqAt.EqAt.int_str a c b t
  | _=>exact absurd (fx) yi
 |str a =>
  obtain⟨c,rfl⟩:=ry
  cases x with
  |non=>cases rx;exact SeqAt.EqAt.str_none a c
  |bl b=>cases rx;exact SeqAt.EqAt.str_bool a c b
  |int b=>obtain⟨t,rfl⟩:=rx;exact SeqAt.EqAt.str_int a c b t
  |str b=>obtain⟨t,rfl⟩:=rx;exact SeqAt.EqAt.str_str a c b t
  | _=>exact absurd (fx) yi
 | _=>exact absurd (fy) yi
noncomputable def eqU (x:V)(u:Value):Bool:=match u with
 | .none=>eqV .non x
 | .bool b=>eqV (.bl b) x
 | .int i _=>eqV (.int i) x
 | .str z _=>eqV (.str z) x
 | _=>false
theorem Xy0 {x:V}(r:RelV y u)(f:Yk0 y=true):eqU x u=eqV y x:=by
 cases y with
 |non=>cases r;rfl
 |bl b=>cases r;rfl
 |int i=>obtain⟨t,rfl⟩:=r;rfl
 |str z=>obtain⟨t,rfl⟩:=r;rfl
 | _=>exact absurd (f) yi
theorem Yv9 {x:V}:∀{xs:List V} {us:List Value},Vals xs us->xs.all Yk0=true->us.any (eqU x)=xs.any fun y=>eqV y x
 | _,_,.nil,_=>rfl
 |y::xs,u::us,.cons r t,f=>by
  rw[List.all_cons,yr] at f;rw[List.any_cons,List.any_cons,Xy0 r f.1,Yv9 t f.2]
theorem Yj1 {x:V}(rx:RelV x v)(fx:Yk0 x=true):∀{xs:List V} {us:List Value},Vals xs us->xs.all Yk0=true->∀u∈us,SeqAt.EqAt A s u v (eqU x u)
 | _,_,.nil,_=>fun u hu=>by grind
 |y::xs,u::us,.cons r t,f=>fun u' hu=>by
  rw[List.all_cons,yr] at f;rcases zd.mp hu with rfl | hu
  ·rw[Xy0 r f.1];exact Wt1 r rx f.1 fx
  ·exact Yj1 rx fx t f.2 u' hu
noncomputable def inV (x:V)(xs:List V):Bool:=xs.any fun y=>eqV y x
def rIn (K:W.Frag)(neg:Bool):R2:=fun x y H Q=>∃p xs,y=.ref p/\(SqL K H p xs∨SqT K H p xs)/\Yk0 x=true/\xs.all Yk0=true/\Q (.bl (if neg then !inV x xs else inV x xs)) H
theorem Zj1:OpR X (yai .In) (rIn X.K false):=by
 intro i s l H x y v u Q I e g h;obtain⟨p,m,rfl,b,f,c,q⟩:=h;cases g;rcases b with b | b
 ·obtain⟨a,r,d,j⟩:=I.list b
  refine SeqAt.in_listAt _ d.isList (fun w k=>Yj1 e f r c w (by simp_all)) ⟨.bl _,H,I,rfl,?_⟩;rw[show a.toArray.any _=a.any (eqU x) by simp,Yv9 r c];exact q
 ·obtain⟨a,r,d,j⟩:=I.tuple b
  refine SeqAt.in_tupleAt _ d (fun w k=>Yj1 e f r c w (by simp_all)) ⟨.bl _,H,I,rfl,?_⟩;rw[show a.toArray.any _=a.any (eqU x) by simp,Yv9 r c];exact q
theorem Zc6:Yq9 X (.builtin "len") (fun xs H Q=>∃p ys,xs=[.ref p]/\(SqL X.K H p ys∨SqT X.K H p ys)/\Q (.int ys.length) H):=by
 intro g s j H xs k Q I r h;obtain⟨p,ys,rfl,a,q⟩:=h;obtain⟨u,rfl,f⟩:=Yr0 r;cases f;have l:=Zx1;rcases a with a | a
 ·obtain⟨e,b,c,i⟩:=I.list a
  have d:=b.length;exact Calls.call_len_list c.isList (by simp only[ybd]<;>omega) ⟨.int _,H,I.tok _,⟨s.toks+1,by simp_all⟩,q⟩
 ·obtain⟨e,b,c,i⟩:=I.tuple a
  have d:=b.length;exact len_tuple c (by simp only[ybd]<;>omega) ⟨.int _,H,I.tok _,⟨s.toks+1,by simp_all⟩,q⟩
theorem Yq1:Yq9 X (.type "list") (fun xs H Q=>∃p ys,xs=[.ref p]/\(SqL X.K H p ys∨SqT X.K H p ys)/\∀l,H l=none->Q (.ref l) (upd H l (.lst ys))):=by
 intro A s y H xs B Q I r h;obtain⟨p,ys,rfl,i,q⟩:=h;obtain⟨u,rfl,z⟩:=Yr0 r;cases z
 have j:∀(a:List _),Vals ys a->ys.length<=zi->∀(b:Heap) (d:Nat),_ ->
   b.get? s.heap.objs.size=some { cls:=.type "list",dict:=none,data:=.seq _ d,slots:=#[] }->EP X _ y Q _ { s with heap:=b }:=fun a c g b d f e =>
  ⟨.ref _,_,I.laid f (by simp) (show ObjOk _ X.w _ b _ (.lst ys) from ⟨g,a,d,c,e⟩),rfl,q _ (I.hok.fresh (by simp))⟩
 rcases i with i | i
 ·obtain⟨a,c,k,g⟩:=I.list i
  have t:=c.length;obtain⟨o,m,x,n,v⟩:=k.isList;exact call_list_seq p (.inl rfl) m x v (fun b d f e=>j a c g b d f e) (by simp_all)
 ·obtain⟨a,c,k,g⟩:=I.tuple i
  have t:=c.length;obtain⟨o,m,x,n,v⟩:=k;exact call_list_seq p (.inr rfl) m x v (fun b d f e=>j a c g b d f e) (by simp_all)
theorem Yk7:Yq9 X (.type "tuple") (fun xs H Q=>∃p ys,xs=[.ref p]/\((SqL X.K H p ys/\∀l,H l=none->Q (.ref l) (upd H l (.tup ys)))∨(SqT X.K H p ys/\Q (.ref p) H))):=by
 intro n s g H xs y Q I r h;obtain⟨p,ys,rfl,h⟩:=h;obtain⟨u,rfl,m⟩:=Yr0 r;cases m;rcases h with ⟨f,q⟩ | ⟨f,q⟩
 ·obtain⟨a,c,d,i⟩:=I.list f
  have v:=c.length;refine call_tuple_list d.isList (fun j t=>?_) (by simp_all);have k:Inv X _ g H { s with heap:=j }:=I.kept t
  have x:Inv X _ g (upd H _ (.tup ys)) { s with heap:=j.push { cls:=.type "tuple",data:=.seq _ } } :=
   k.laid (fun b o e=>ya _ e) (by simp) (show ObjOk _ X.w _ _ _ _ from ⟨i,a,c,IsTup.new _ _⟩)
  exact⟨.ref _,_,x,rfl,q _ (k.hok.fresh (by simp))⟩
 ·obtain⟨a,c,d,i⟩:=I.tuple f
  exact call_tuple_same d ⟨.ref p,H,I,rfl,q⟩
def tyV (K:W.Frag)(T:String)(x:V)(H:Hp):Prop:=match x with
 | .str _=>T="str"
 | .int _=>T="int"
 | .ref p=>(T="list"/\∃xs,SqL K H p xs)∨(T="tuple"/\∃o,K.lookup p=some o/\o.cls=.type "tuple"/\o.dict=none) ∨
   (T="dict"/\((∃kvs,H p=some (.dK kvs))∨∃kvs,H p=some (.dT kvs)))∨(T="set"/\∃S n,H p=some (.set S n))
 | _=>False
theorem Xv7 {T:String}{x:V}(I:Inv X pins σ H s)(r:RelV x v)(ty:tyV X.K T x H):
  s.TypeIs v T/\∀a,v=.ref a->∃ob,s.heap.get? a=some ob/\ob.dict=none:=by
 cases x with
 |str z =>
  obtain⟨t,rfl⟩:=r;cases (ty);exact⟨typeIs_str s z t,fun _ e=>nomatch e⟩
 |int i =>
  obtain⟨t,rfl⟩:=r;cases (ty);exact⟨typeIs_int s i t,fun _ e=>nomatch e⟩
 |ref p =>
  cases r;rcases ty with ⟨rfl,m,j⟩ | ⟨rfl,o,b,k,d⟩ | ⟨rfl,b⟩ | ⟨rfl,S,n,b⟩
  ·obtain⟨l,_,g,_⟩:=I.list j
   refine⟨g.isList.typeIs,fun a e=>?_⟩;cases e;obtain⟨o,n,e,c,d,_⟩:=g;exact⟨o,e,d⟩
  ·refine⟨⟨o,I.kIn p o b,k⟩,fun a e=>?_⟩
   cases e;exact⟨o,I.kIn _ o b,d⟩
  ·have z:∃o,s.heap.get? p=some o/\o.ExactDict:=by
    rcases b with ⟨h,b⟩ | ⟨h,b⟩
    ·obtain⟨_,_,_,_,o,_,_,e,ex,_⟩:=I.hok p _ b
     exact⟨o,e,ex⟩
    ·obtain⟨_,_,_,_,o,_,_,e,ex,_⟩:=I.hok p _ b
     exact⟨o,e,ex⟩
   obtain⟨o,e,ex⟩:=z;refine⟨⟨o,e,ex.1⟩,fun a f=>?_⟩;cases f;exact⟨o,e,ex.2.1⟩
  ·obtain⟨o,_,_,_,e,ex,_⟩:=I.hok p _ b
   refine⟨⟨o,e,ex.1⟩,fun a f=>?_⟩;cases f;exact⟨o,e,ex.2.1⟩
 | _=>exact ycm ty
def tBM0 (K:W.Frag)(T:String)(r:V->List V->Hp->VK->Prop)(to:TE):TE:=fun σ H Q=>to σ H fun x H1=>tyV K T x H1/\r x [] H1 Q
def tBM (K:W.Frag)(T:String)(r:V->List V->Hp->VK->Prop)(to:TE)(t:TA):TE:=fun σ H Q=>to σ H fun x H1=>tyV K T x H1/\t σ H1 fun xs H2=>r x xs H2 Q
variable {o e:Expr}{es:List Expr}{to:TE}{t:TA}{apos cpos:Pos}{T:String}{r:V->List V->Hp->VK->Prop}
theorem Zw7 (pa:PlainAttrs T)(slot:Slot T name id)(hty:typeOf (.builtin id)=pure (.type "method_descriptor"))(hm:MtR X id r)(ho:PE X o to)
  (hbase:zdd o name X.env (eval o X.env)=eval o X.env:=by rfl) (hline:(apos.endLine == cpos.line)=true:=by rfl):PE X (.Call (.Attribute o name apos) [] [] cpos) (tBM0 X.K T r to):=by with_unfolding_all
 intro a s b H Q I h;refine wpAny_Call_method0_late hbase hline (thn (ho a s b H _ I h) fun v g e=>?_);obtain⟨x,l,d,c,f,i⟩:=e;obtain⟨k,j⟩:=Xv7 d c f;exact⟨T,id,pa,slot,hty,k,j,Calls.callWith_builtin rfl (PySem.evalArgs_none (hm _ g b l x [] v [] Q d c .nil i))⟩
theorem Zk4 (pa:PlainAttrs T)(slot:Slot T name id)(hty:typeOf (.builtin id)=pure (.type "method_descriptor"))(hm:MtR X id r)(ho:PE X o to)(ha:PA X (e::es) t)
  (hbase:zdd o name X.env (eval o X.env)=eval o X.env:=by rfl)
  (hfew:((backTo cpos (zx (e::es) X.env)).all (fun x=>!x.1)&&(backToKw cpos (keywordEach [] X.env)).all (fun x=>x.1.isSome)
   && decide ((e::es).length+([]:List Keyword).length+(if ([]:List Keyword).isEmpty then 0 else 1) < 30))=true:=by rfl)
  (hline:(apos.endLine == cpos.line)=true:=by rfl) (hs:zx (e::es) X.env=(false,eval e X.env)::zx es X.env:=by rfl) (hplain:(backTo cpos (zx es X.env)).any (·.1)=false:=by rfl) :
  PE X (.Call (.Attribute o name apos) (e::es) [] cpos) (tBM X.K T r to t):=by with_unfolding_all
 intro a s b H Q I h;refine wpAny_Call_method_late hbase hfew hline rfl (thn (ho a s b H _ I h) fun v j g=>?_);obtain⟨x,n,f,c,i,k⟩:=g;obtain⟨m,l⟩:=Xv7 f c i;refine⟨T,id,pa,slot,hty,m,l,?_⟩;have d:=ha cpos a j b n _ f k;rw[hs] at d ⊢;refine Calls.callWith_builtin (by assumption) (Calls.evalArgs_plain ?_);exact thn d fun us s2 zZ=>(by obtain⟨vs,H2,I2,r2,q2⟩:=zZ;exact hm _ s2 b H2 x vs v us Q I2 c r2 q2)
end
def MtM (X:Cx)(id:String)(r:V->List V->Hp->VK->Prop):Prop :=
 ∀(pins:List (Addr×Obj)) (s:Shared) (σ:St) (H:Hp) (x:V) (xs:List V) (v:Value) (us:List Value) (Q:VK),Inv X pins σ H s->RelV x v->Vals xs us->r x xs H Q ->
  wpAny (model X.prog X.w) X.A (call (.builtin id) (v::us)) (EP X pins σ Q) X.xe s
theorem Vals.one:∀{x:V} {us:List Value},Vals [x] us->∃u,us=[u]/\RelV x u
 | _,_,.cons r .nil=>⟨_,rfl,r⟩
theorem Vals.zero:∀{us:List Value},Vals [] us->us=[]
 | _,.nil=>rfl
theorem Vals.dropLast {xs:List V}(h:Vals xs us):Vals xs.dropLast us.dropLast:=by
 induction h with
 |nil=>exact .nil
 |cons r t ih =>
  cases t with
  |nil=>exact .nil
  |cons q t'=>exact .cons r ih
theorem Vals.reverse {xs:List V}(h:Vals xs us):Vals xs.reverse us.reverse:=by
 induction h with
 |nil=>exact .nil
 |cons r t ih=>rw[zr,zr];exact Vals.append ih (.cons r .nil)
section
variable {xs ys zs:List V}
theorem Inv.lset {its':List Value}{f:Array Value->Array Value}(I:Inv X pins σ H s)(hH:H l=some (.lst xs))(e:s.heap.get? l=some { cls:=.type "list",data:=.seq its.toArray n })(hf:f its.toArray=its'.toArray)(hv:Vals ys its')(hz:ys.length<=zi):
  Inv X pins σ (upd H l (.lst ys)) { s with heap:=s.heap.update l (ydf f),toks:=t' }:=by
 have q:=PySem.IsL.update e f;rw[hf] at q;refine I.write (by rw[hH];exact trivial) (.inl rfl) (fun c u b a=>(yw _ _ (zbe b)).trans a) ⟨_,q⟩ ?_;exact⟨hz,its',_,hv,q⟩
theorem Inv.lnew (I:Inv X pins σ H s)(hv:Vals ys its)(hz:ys.length<=zi):
  Inv X pins σ (upd H s.heap.objs.size (.lst ys)) { s with heap:=s.heap.push { cls:=.type "list",data:=.seq its.toArray },toks:=t' } :=
 I.laid (fun _ _ q=>ya _ q) (by simp) ⟨hz,its,0,hv,zh _ rfl⟩
theorem Inv.fresh (I:Inv X pins σ H s):H s.heap.objs.size=none:=I.hok.fresh (by simp)
theorem Inv.lstM (I:Inv X pins σ H s)(hH:H l=some (.lst xs)):xs.length<=zi/\∃(its:List Value) (n:Nat),Vals xs its/\xs.length=its.length/\s.heap.get? l=some { cls:=.type "list",data:=.seq its.toArray n }:=by
 obtain⟨z,its,n,r,e⟩:=I.hok l _ hH;exact⟨z,its,n,r,r.length,e⟩
theorem Xt1 (h:n<=zi):zcn n=false:=by
 unfold zcn
 simp_all
end
section
def Zr1:V->List V->Hp->VK->Prop:=fun x vs H Q=>∃l xs y,x=.ref l/\vs=[y]/\H l=some (.lst xs)/\xs.length < zi/\Q .non (upd H l (.lst (xs++[y])))
theorem Ze6:MtM X "list.append" Zr1:=by
 intro f s g H x j v k Q I c d h;obtain⟨l,i,y,rfl,rfl,b,o,q⟩:=h;cases c;obtain⟨u,rfl,m⟩:=d.one;obtain⟨z,a,n,r,p,e⟩:=I.lstM b;refine call_meets yv ⟨_,e,rfl⟩ F.entry_list_append (F.args_list_append_2 _ _) (PySem.list_append l _ n u (by simp_all)) ⟨e,?_⟩;refine⟨.non,_,I.lset (its':=a++[u]) b e (by simp) (r.append (by omega)) ?_,rfl,q⟩;rw[yd,zab];omega
def Zr0:V->List V->Hp->VK->Prop:=fun x vs H Q=>∃l b xs zs,x=.ref l/\vs=[.ref b]/\H l=some (.lst xs)/\H b=some (.lst zs)/\xs.length+zs.length<=zi/\Q .non (upd H l (.lst (xs++zs)))
theorem Zt5:MtM X "list.extend" Zr0:=by
 intro o s A H x G v J Q I i j h;obtain⟨l,b,D,B,rfl,rfl,g,t,L,q⟩:=h;cases i;obtain⟨u,rfl,k⟩:=j.one;cases k;obtain⟨z,c,n,r,M,e⟩:=I.lstM g;obtain⟨C,a,p,m,y,w⟩:=I.lstM t
 have f:c.toArray.size+a.toArray.size<=zi:=by simp_all
 have d:¬(!c.toArray.isEmpty&&zcn (c.toArray.size+a.toArray.size))=true:=by
  rw[Xt1 f,Bool.and_false];simp
 refine call_meets zbw ⟨_,e,rfl⟩ F.entry_list_extend (F.args_list_extend_2 _ _)
  (AutoSeq1.list_extend_list_list_0 l _ n b _ p d (by simp_all) (by omega)) ⟨e,w,?_⟩
 refine⟨.non,_,I.lset g e (by simp) (r.append m) ?_,rfl,q⟩;rw[yd];omega
def rPop:V->List V->Hp->VK->Prop:=fun x vs H Q=>∃l xs y,x=.ref l/\vs=[]/\H l=some (.lst xs)/\xs[xs.length - 1]?=some y/\Q y (upd H l (.lst xs.dropLast))
theorem Zw9:MtM X "list.pop" rPop:=by
 intro j s m H x p v t Q I f g h;obtain⟨l,o,y,rfl,rfl,d,k,q⟩:=h;cases f;have c:=g.zero;subst c;obtain⟨z,a,n,r,A,e⟩:=I.lstM d;obtain⟨u,w,i⟩:=r.get k
 have b:a.toArray[a.toArray.size - 1]?=some u:=by
  simp_all
 refine call_meets zbb ⟨_,e,rfl⟩ F.entry_list_pop (F.args_list_pop_1 _) (MeetsSeq.list_pop_last l _ n u b (by simp_all)) ⟨e,?_⟩;refine⟨y,_,I.lset d e ?_ r.dropLast ?_,i,q⟩
 ·simp
 ·rw[List.length_dropLast]
  omega
def rCat:R2:=fun x y H Q=>∃l b xs zs,x=.ref l/\y=.ref b/\H l=some (.lst xs)/\H b=some (.lst zs)/\xs.length+zs.length<=zi/\∀p,H p=none->Q (.ref p) (upd H p (.lst (xs++zs)))
theorem Yb1:OpR X (zbq .Add) rCat:=by
 intro i s t H x y v u Q I f d h;obtain⟨l,b,B,w,rfl,rfl,j,k,D,q⟩:=h;cases f;cases d;obtain⟨z,c,n,r,F,e⟩:=I.lstM j;obtain⟨A,a,C,g,p,o⟩:=I.lstM k;refine PySem.P.add_list e o ?_ (by simp_all)
 have m:c.toArray++a.toArray=(c++a).toArray:=by simp
 rw[m];exact⟨.ref _,_,I.lnew (r.append g) (by simp_all),rfl,q _ I.fresh⟩
end
end L2
namespace Att
open PySem PySem.W PySem.Calls PyProof.Rows
theorem Yc1 {P:Params}:∀(ns:List Int) (vs:List Value),WellAll P h vs (ns.map WData.int)->IntsAre vs ns:=by
 intro ns
 induction ns with
 |nil =>
  intro vs w;cases w;exact .nil
 |cons n ns ih =>
  intro vs w
  cases w with
  |cons a b =>
   cases a;exact .cons _ _ (ih _ b)
theorem Xh6 {l:OpenLaw}(hn:l.most=some n){P:Params}{args:List WData}{vals:List Value}(hpre:l.row.toRowW.claim.pre args=true)(hwl:WellAll P h vals args):
  ∃a vs ns,vals=[yt a]/\args=[WData.list (ns.map WData.int)]/\h.get? a=some { cls:=.type "list",data:=.seq vs.toArray }/\IntsAre vs ns/\ns.length<=n:=by
 have e  := (pre_splitW hpre).1;have f  := (pre_splitW hpre).2;obtain⟨d,r,rfl,j,i⟩:=hasAllW_cons e;obtain rfl:=hasAllW_nil i;obtain⟨k,rfl,g⟩:=hasW_list j;obtain⟨ns,rfl⟩:=items_int g
 have b:ns.length<=n:=by
  have c  := by
   have c:=(holds_andW f).1;rw[hn] at c;omega
  have m:=condW_of c rfl
  simp_all
 cases hwl with
 |cons w1 w2 =>
  cases w2
  cases w1 with
  |list ho hall=>exact⟨_,_,ns,rfl,rfl,ho,Yc1 ns _ hall,b⟩
theorem Xi5 (l:OpenLaw)(args:List WData):l.row.toRowW.claim.post args (.bool true) args=true :=
 postW_of
  rfl
  (w_eq_bool (w_res rfl) w_lit) rfl
theorem attach_call {l:OpenLaw}{q:zf}{loose:List Str}{XP:(Str->Option Value)->Heap->Prop}{YP:World->Heap->Prop}{d:DefRec}(hn:l.most=some n)(hdf:d.params.defaults=[]) (call:∀(w:World) (s₀ s₁:Shared) (mg mb:Str->Option Value) (fa:Addr) (o:Obj) (pm cd doc:Value) (a:Addr) (vs:List Value) (ns:List Int),
   Ground q loose [] XP w s₀ mg mb s₁.heap->YP w s₁.heap ->
   s₁.heap.get? fa=some o->o.data=.func (docDef d.name d.params d.body d.scope pm cd doc)->s₁.heap.CodeRec cd d.name->mg d.name=some (.ref fa) ->
   s₁.heap.get? a=some { cls:=.type "list",data:=.seq vs.toArray }->IntsAre vs ns->ns.length<=n->s₁.gens=#[] ->
   ycd (model l.prog w) callerA (.call (.ref fa) ⟨[.ref a],[]⟩) (fun r s'=>r=.ok (.ret (.bool true))/\OldK s₁.heap s'.heap/\s'.os=s₁.os/\zdp s'.gens) s₁):
  WalkO q loose XP YP l.row.toRowW d [] (fun f vs=>PySem.call f vs):=by
 intro w s₀ s₁ mg mb G Y fa o pm cd doc C p u y j k i x D m J c v F h I;obtain rfl:C=.none:=Dflts.none k hdf;obtain rfl:p=.none:=Dflts.noKw k;obtain⟨a,vs,ns,rfl,rfl,e,b,g⟩:=Xh6 hn c h;refine enter_call (zdk (call w _ _ mg mb fa o pm cd doc a vs ns G Y u (fd_plain y) j i e b g x) fun r s' t=>?_);obtain⟨rfl,B,A,z⟩:=t;exact⟨.inl ⟨.bool _,.bool _,[],rfl,fun _=>rfl,.bool _,Xi5 l _,fun _=>(by simp)⟩,B,A,z⟩
end Att
namespace L2
open PySem PySem.Spec PyProof.Rows
theorem Zz4:∀{vs:List Value} {ns:List Int},IntsAre vs ns->Vals (ns.map V.int) vs
 | _,_,.nil=>.nil
 | _,_,.cons n t h=>.cons ⟨t,rfl⟩ (Zz4 h)
noncomputable def Yc2 (s:Stmt)(j:Nat):Stmt:=match s with
 | .ClassDef _ _ _ body _ _ _ _ _ _ _=>body.getD j (.Pass ⟨0,0,0,0⟩)
 | _=>.Pass ⟨0,0,0,0⟩
noncomputable def Zd4 (s:Stmt):zdh:=match s with
 | .FunctionDef _ a _ _ _ _ _ _ _ _=>a
 | _=>{ posonlyargs:=[],args:=[],vararg:=none,kwonlyargs:=[],kw_defaults:=[],kwarg:=none,defaults:=[] }
noncomputable def Zc8 (s:Stmt):List Stmt:=match s with
 | .FunctionDef _ _ b _ _ _ _ _ _ _=>b
 | _=>[]
noncomputable def Za3 (s:Stmt):Scope:=match s with
 | .FunctionDef _ _ _ _ _ _ sc _ _ _=>sc
 | _=>{ kind:=.function,names:=[],isGenerator:=false,isCoroutine:=false }
noncomputable abbrev CX0:CXT:=fun _ _ _ _ _ _=>False
abbrev E0:XK:=fun _ _ _=>False
theorem Yi2:Zx4 CX0 X E0:=fun _ _ _ _ _ _ _ h=>h.elim
structure Fun (K:W.Frag)(x qual:Str)(st:Stmt)(f:Addr)(fd:zc):Prop where
 ex:∃(oc:Value) (od:Option Addr) (kV doc pm:Value) (an:Option Addr) (cdv ct:Value) (osl:Array (Option Value)),
  fd=W.fnOf x qual (Zd4 st) (Zc8 st) (Za3 st) .none kV doc pm an cdv ct/\K.lookup f=some ⟨oc,od,.func fd,osl⟩/\yci K cdv qual=true
 kp:zan K (.ref f)=true
section
variable {P:zf}{base:Heap}
theorem Fun.ok {fd:zc}{N:List Str}{k:Nat}(F:Fun K x qual st f fd)(S:FnScope N ps (Za3 st))(len:∀vs H Q E,sp vs H Q E->vs.length=ps.length) (hbody:∀(cdv:Value) (A:Around) (outer:List Env) (s:Shared) (H:Hp) (vs:List V) (Q:VK) (E:XK),Room k (A.deeper (envOfC qual (Za3 st) s.heap.objs.size f cdv))->sp vs H Q E ->
   ∃t,PSs (cxOf CX0 P w K mg base N qual (Za3 st) f cdv A outer s H E).nox (Zc8 st) t/\t { nx:=fun _ H'=>Q .non H',rt:=Q } (start N vs) H):FnOk P w K mg base CX0 (k+1) f fd ps sp:=by
 obtain⟨l,j,m,g,i,o,cdv,n,e,rfl,c,b⟩:=F.ex;refine fn_of c b S len fun A outer s H vs Q E d a=>?_;obtain⟨t,h,q⟩:=hbody cdv A _ s H vs Q E d a;exact⟨t,h.nox,q⟩
theorem Fun.okG {fd:zc}{N:List Str}{k:Nat}(F:Fun K x qual st f fd)(S:FnScope N ps (Za3 st))(hbody:∀(cdv:Value) (A:Around) (outer:List Env) (s:Shared) (H:Hp) (vs:List V) (Q:VK) (E:XK),Room k (A.deeper (envOfC qual (Za3 st) s.heap.objs.size f cdv))->sp vs H Q E->∀G:List V->Prop,(∀us:List V,(∃t,PSs (cxOf CX0 P w K mg base N qual (Za3 st) f cdv A outer s H E).nox (Zc8 st) t/\t { nx:=fun _ H'=>Q .non H',rt:=Q } (start N us) H)->G us)->G vs)(len:∀vs H Q E,sp vs H Q E->vs.length=ps.length:=by intro _ _ _ _ h;first | (cases h;subst_vars;rfl) | (repeat (first | (obtain⟨rfl,_⟩:=h;rfl) | obtain⟨_,h⟩:=h))):FnOk P w K mg base CX0 (k+1) f fd ps sp :=
 F.ok S len fun cdv A outer s H vs Q E a h=>hbody cdv A outer s H vs Q E a h (fun us=>∃t,PSs (cxOf CX0 P w K mg base N qual (Za3 st) f cdv A outer s H E).nox (Zc8 st) t/\t { nx:=fun _ H'=>Q .non H',rt:=Q } (start N us) H) fun _ z=>z
theorem Fun.binds {fd:zc}{ps:List Str}(F:Fun K x qual st f fd)(h:∀(kV doc pm:Value) (an:Option Addr) (cdv ct:Value) (us:List Value),us.length=ps.length->bindArgs (W.fnOf x qual (Zd4 st) (Zc8 st) (Za3 st) .none kV doc pm an cdv ct) ⟨us,[]⟩=pure (ps.zip us)):Binds K fd ps []:=by
 obtain⟨d,c,kV,doc,pm,an,cdv,ct,a,rfl,e,b⟩:=F.ex;exact .all (h kV doc pm an cdv ct)
theorem Xa0 {st:Stmt}{an:Option Addr}{kV cdv:Value}(l:K.lookup f=some ⟨oc,od,.func (W.fnOf x qual (Zd4 st) (Zc8 st) (Za3 st) .none kV doc pm an cdv ct),osl⟩)(c:yci K cdv qual=true)(k:zan K (.ref f)=true):Fun K x qual st f (W.fnOf x qual (Zd4 st) (Zc8 st) (Za3 st) .none kV doc pm an cdv ct):=⟨⟨oc,od,kV,doc,pm,an,cdv,ct,osl,rfl,l,c⟩,k⟩
end
theorem Xm8 {k:Nat}(hr:Room k A):A.units+1 < cLine:=ycp (by simp) hr.units
theorem Zi9 (h:n<=1000):n < zi:=ycp h (by decide)
section
theorem pv (i:Nat)(hN:X.N[i]?=some x:=by rfl)(hv:Vis X.env.scope x:=by first | exact Or.inl rfl | exact Or.inr (Or.inl rfl) | exact Or.inr (Or.inr rfl))(hd:(x == ("__debug__":Str))=false:=by decide)(hcd:(x == ("__classdict__":Str))=false:=by decide):PE X (.Name x pos) (tVar i):=Xj1 hN hv hd hcd
end
theorem ite2 {c A B:Prop}[Decidable c](h1:c->A)(h2:¬c->B):if c then A else B:=by grind
def Same (H H':Hp):Prop:=∀b o,H b=some o->H' b=some o
theorem Same.refl (H:Hp):Same H H:=fun _ _ h=>h
theorem Same.trans (a:Same H H1)(b:Same H1 H2):Same H H2:=fun c o h=>b c o (a c o h)
theorem Same.free (e:Same H H')(h:H' l=ydp):H l=ydp:=by
 cases q:H l with
 |none=>rfl
 |some o =>
  rw[e l o q] at h;cases h
theorem Same.seq {xs:List V}(e:Same H H')(h:SqL K H a xs):SqL K H' a xs:=by
 rcases h with (h | ⟨o,h⟩) | h
 ·exact .inl (.inl (e _ _ h))
 ·exact .inl (.inr ⟨o,e _ _ h⟩)
 ·exact .inr h
section
variable {κ:Type}[DecidableEq κ]
noncomputable def valV (kvs:List (κ×V))(k:κ):Option V:=(kvs.find? fun kv=>decide (kv.1=k)).map (·.2)
noncomputable def putK (kvs:List (κ×V))(k:κ)(v:V):List (κ×V) :=
 if (kvs.any fun kv=>decide (kv.1=k))=true then kvs.map (fun kv=>if kv.1=k then (kv.1,v) else kv) else kvs++[(k,v)]
theorem Zh6 {p:κ×V}{r:List (κ×V)}{k:κ}(e:p.1=k):valV (p::r) k=some p.2:=by simp[valV,e]
theorem Zh7 {p:κ×V}{r:List (κ×V)}{k:κ}(e:¬p.1=k):valV (p::r) k=valV r k:=by simp[valV,e]
theorem Zs1 (k:κ):∀kvs:List (κ×V),(kvs.any fun kv=>decide (kv.1=k))=(valV kvs k).isSome
 | []=>rfl
 |p::r=>by
  rw[List.any_cons]
  by_cases e:p.1=k
  ·simp[Zh6 e,decide_eq_true e,Bool.true_or,Option.isSome_some]
  ·rw[Zh7 e,decide_eq_false e,Bool.false_or];exact Zs1 k r
theorem Yw2 (k j:κ)(y:V):∀kvs:List (κ×V),valV (kvs.map fun kv=>if kv.1=k then (kv.1,y) else kv) j=(valV kvs j).map fun x=>if j=k then y else x
 | []=>rfl
 |p::r=>by
  have ih:=Yw2 k j y r;rw[yan]
  by_cases h:p.1=k
  ·rw[if_pos h]
   by_cases e:p.1=j
   ·rw[Zh6 (p:=(p.1,y)) e,Zh6 e,Option.map_some,if_pos (e.symm.trans h)]
   ·rw[Zh7 (p:=(p.1,y)) e,Zh7 e,ih]
  ·rw[if_neg h]
   by_cases e:p.1=j
   ·rw[Zh6 e,Zh6 e,Option.map_some,if_neg fun z=>h (e.trans z)]
   ·rw[Zh7 e,Zh7 e,ih]
theorem Yl2 (k j:κ)(y:V):∀kvs:List (κ×V),valV kvs k=none->valV (kvs++[(k,y)]) j=if j=k then some y else valV kvs j
 | [],_=>by
  by_cases e:k=j
  ·rw[if_pos e.symm];exact Zh6 e
  ·rw[if_neg fun z=>e z.symm];exact Zh7 e
 |p::r,hn=>by
  rw[List.cons_append]
  have hk:¬p.1=k:=fun z=>by rw[Zh6 z] at hn;cases hn
  rw[Zh7 hk] at hn;have ih:=Yl2 k j y r hn
  by_cases e:p.1=j
  ·rw[Zh6 e,Zh6 e,if_neg fun z=>hk (e.trans z)]
  ·rw[Zh7 e,Zh7 e,ih]
theorem Yg2 (kvs:List (κ×V))(k j:κ)(y:V):valV (putK kvs k y) j=if j=k then some y else valV kvs j:=by
 unfold putK
 by_cases a:(kvs.any fun b=>decide (b.1=k))=true
 ·rw[if_pos a,Yw2]
  rw[Zs1] at a
  by_cases e:j=k
  ·obtain⟨x,c⟩:=ybn.mp a
   grind
  simp_all
 ·rw[if_neg a]
  refine Yl2 k j y kvs ?_;rw[Zs1] at a
  simp_all
theorem Zk1 (kvs:List (κ×V))(k:κ)(v:V):(putK kvs k v).length<=kvs.length+1:=by
 unfold putK
 split
 ·simp
 simp
theorem Xs2 {kvs:List (κ×V)}{k:κ}(v:V)(h:valV kvs k=none):putK kvs k v=kvs++[(k,v)]:=by
 unfold putK;rw[Zs1,h];rfl
theorem RelO.isSome_eq {o:Option V}{u:Option Value}(r:RelO o u):o.isSome=u.isSome:=by
 cases o with
 |none=>cases u with
  |none=>rfl
  |some _=>exact (r).elim
 |some _=>cases u with
  |none=>exact (r).elim
  |some _=>rfl
theorem KV.val {kvs:List (κ×V)}{vs:List (κ×Value)}(r:KV kvs vs)(k:κ):RelO (valV kvs k) (valueAt vs k):=by
 induction r with
 |nil=>exact zbu
 |@cons p q ps qs h t ih =>
  obtain⟨c,d⟩:=h
  by_cases e:p.1=k
  ·have a  := c.symm.trans e
   have b:valueAt (q::qs) k=some q.2:=by simp[valueAt,a]
   rw[Zh6 e,b];exact d
  ·have a:¬q.1=k:=fun z=>e (c.trans z)
   have b:valueAt (q::qs) k=valueAt qs k:=by simp[valueAt,a]
   rw[Zh7 e,b];omega
theorem KV.any {kvs:List (κ×V)}{vs:List (κ×Value)}(r:KV kvs vs)(k:κ):(kvs.any fun kv=>decide (kv.1=k))=vs.any fun kv=>decide (kv.1=k):=by
 induction r with
 |nil=>rfl
 |cons h t ih=>simp_all
theorem KV.repl {kvs:List (κ×V)}{vs:List (κ×Value)}(r:KV kvs vs)(k:κ)(ry:RelV y u):
  KV (kvs.map fun kv=>if kv.1=k then (kv.1,y) else kv) (vs.map fun kv=>if kv.1=k then (kv.1,u) else kv):=by
 unfold KV at r ⊢
 induction r with
 |nil=>exact .nil
 |@cons p q ps qs h t ih =>
  rw[yan,yan];refine .cons ?_ ih;obtain⟨b,a⟩:=h
  by_cases e:p.1=k
  ·simp_all
  simp_all
theorem KV.put {kvs:List (κ×V)}{vs:List (κ×Value)}(r:KV kvs vs)(k:κ)(ry:RelV y u):KV (putK kvs k y) (stored vs k u):=by
 unfold putK stored;rw[r.any k]
 by_cases e:(vs.any fun a=>decide (a.1=k))=true
 ·rw[if_pos e,if_pos e];exact r.repl k ry
 ·rw[if_neg e,if_neg e];exact Paired.snoc r ⟨rfl,ry⟩
theorem KV.length {kvs:List (κ×V)}{vs:List (κ×Value)}(r:KV kvs vs):kvs.length=vs.length:=zk r
end
theorem Yt8 {P:zf}{k:Key}(r:RelV (kV k) u):(Zg6 P w).is k u=true:=by
 cases k with
 |inl i=>obtain⟨t,e⟩:=(r);subst e;exact Yt5 P w i t
 |inr x=>obtain⟨t,e⟩:=(r);subst e;exact Yb6 P w x t
theorem Yo8 {P:zf}:∀{ks:List Key} {us:List Value},Vals (ks.map kV) us->ItemsAre (Zg6 P w) ks us
 | [],_,r=>by cases r;exact .nil
 |k::ks,_,r=>by
  cases r with
  |cons h t=>exact .cons (Yt8 h) (Yo8 t)
abbrev KT (H:Hp):List (List Key×V)->List (List Key×Addr×Value)->Prop:=Paired fun p q=>p.1=q.1/\H q.2.1=some (.tup (p.1.map kV))/\RelV p.2 q.2.2
theorem KT.val {xs:List (List Key×Addr×Value)}(r:KT H kvs xs)(k:List Key):RelO (valV kvs k) ((atKey xs k).map (·.2)):=by
 induction r with
 |nil=>exact zbu
 |@cons p q ps qs h t ih =>
  obtain⟨c,_,d⟩:=h
  by_cases e:p.1=k
  ·have a  := c.symm.trans e
   have b:atKey (q::qs) k=some q.2:=by simp[atKey,a]
   rw[Zh6 e,b];exact d
  ·have a:¬q.1=k:=fun z=>e (c.trans z)
   have b:atKey (q::qs) k=atKey qs k:=by simp[atKey,a]
   rw[Zh7 e,b];omega
theorem KT.repl {xs:List (List Key×Addr×Value)}(r:KT H kvs xs)(k:List Key)(ry:RelV y u):
  KT H (kvs.map fun kv=>if kv.1=k then (kv.1,y) else kv) (xs.map (putAt k u)):=by
 induction r with
 |nil=>exact .nil
 |@cons p q ps qs h t ih =>
  rw[yan,yan];refine .cons ?_ ih;obtain⟨a,b,c⟩:=h;unfold putAt
  by_cases e:p.1=k
  ·rw[if_pos e,if_pos (a.symm.trans e)];exact⟨a,b,ry⟩
  ·rw[if_neg e,if_neg fun z=>e (a.trans z)];exact⟨a,b,c⟩
theorem KT.put {xs:List (List Key×Addr×Value)}(r:KT H kvs xs)(k:List Key)(hb:H b=some (.tup (k.map kV)))(ry:RelV y u):
  KT H (putK kvs k y) (storedH xs k b u):=by
 have e:(kvs.any fun a=>decide (a.1=k))=(atKey xs k).isSome:=by
  rw[Zs1,(r.val k).isSome_eq,Option.isSome_map]
 unfold putK storedH;rw[e]
 by_cases q:(atKey xs k).isSome=true
 ·rw[if_pos q,if_pos q];exact r.repl k ry
 ·rw[if_neg q,if_neg q];exact Paired.snoc r ⟨rfl,hb,ry⟩
theorem KT.keeps {xs:List (List Key×Addr×Value)}(r:KT H kvs xs)(ht:∀b ys,H b=some (.tup ys)->H' b=some (.tup ys)):KT H' kvs xs :=
 Paired.mapP r fun _ _ z=>⟨z.1,ht _ _ z.2.1,z.2.2⟩
section
variable {P:zf}
theorem Wk8 {u:HO}(ok:HOk P w H h)(e:Rd H a u):ObjOk P w H h a u:=e.ok ok
theorem Xu8 {kvs:List (Key×V)}(ok:HOk P w H h)(e:Rd H a (.dK kvs)):kvs.length<=zi/\(a == zaw)=false/\∃vs,KV kvs vs/\h.DictOf (Zg6 P w) a vs :=
 Wk8 ok e
theorem Wt5 {kvs:List (Key×V)}(ok:HOk P w H h)(e:H a=some (.dK kvs)):kvs.length<=zi/\(a == zaw)=false/\∃vs,KV kvs vs/\h.DictOf (Zg6 P w) a vs:=Xu8 ok (.inl e)
theorem Yo6 {ks:List Key}(ok:HOk P w H h)(e:H a=some (.tup (ks.map kV))):(tupleKind (Zg6 P w)).is h ks a:=by
 obtain⟨_,b,r,o,f,d,n,c⟩:=(show ObjOk P w H h a _ from ok a _ e);exact⟨o,b.toArray,n,f,d,c,by simpa using Yo8 r⟩
theorem Xu6 (ok:HOk P w H h)(e:Rd H a (.dT kvs)):kvs.length<=zi/\(a == zaw)=false /\
  ∃xs,KT H kvs xs/\h.DictOfH (tupleKind (Zg6 P w)) a xs:=by
 obtain⟨z,y,xs,r,o,k,n,j,i,g,f,d⟩:=(show ObjOk P w H h a _ from Wk8 ok e);refine⟨z,y,xs,r,o,k,n,j,i,g,f,fun x b=>?_,d⟩
 have c:∀{l:List _} {m:List _},KT H l m->∀x∈m,(tupleKind (Zg6 P w)).is h x.1 x.2.1:=by
  intro l m q
  induction q with
  |nil=>simp
  |@cons p q ps qs hq t ih =>
   intro x b;rcases zd.mp b with e | b
   ·exact Yo6 ok (by simp_all)
   ·exact ih x b
 exact c r x b
theorem Wt3 (ok:HOk P w H h)(e:H a=some (.dT kvs)):kvs.length<=zi/\(a == zaw)=false /\
  ∃xs,KT H kvs xs/\h.DictOfH (tupleKind (Zg6 P w)) a xs:=Xu6 ok (.inl e)
end
def DGet (H:Hp)(a:Addr)(y:V)(r:Option V):Prop :=
 (∃kvs k,Rd H a (.dK kvs)/\y=kV k/\r=valV kvs k)∨∃kvs k b,Rd H a (.dT kvs)/\y=.ref b/\H b=some (.tup (k.map kV))/\r=valV kvs k
def DPut (H:Hp)(a:Addr)(y v:V)(H':Hp):Prop :=
 (∃kvs k,H a=some (.dK kvs)/\y=kV k/\kvs.length < zi/\H'=upd H a (.dK (putK kvs k v))) ∨
 ∃kvs k b,H a=some (.dT kvs)/\y=.ref b/\H b=some (.tup (k.map kV))/\kvs.length < zi/\H'=upd H a (.dT (putK kvs k v))
theorem DGet.k {kvs:List (Key×V)}{k:Key}(e:H a=some (.dK kvs)):DGet H a (kV k) (valV kvs k):=.inl ⟨kvs,k,.inl e,rfl,rfl⟩
theorem DGet.t {k:List Key}(e:H a=some (.dT kvs))(eb:H b=some (.tup (k.map kV))):DGet H a (.ref b) (valV kvs k):=.inr ⟨kvs,k,b,.inl e,rfl,eb,rfl⟩
theorem DPut.k {kvs:List (Key×V)}{k:Key}{v:V}(e:H a=some (.dK kvs))(hl:kvs.length < zi):DPut H a (kV k) v (upd H a (.dK (putK kvs k v))):=.inl ⟨kvs,k,e,rfl,hl,rfl⟩
theorem DPut.t {k:List Key}{v:V}(e:H a=some (.dT kvs))(eb:H b=some (.tup (k.map kV)))(hl:kvs.length < zi):
  DPut H a (.ref b) v (upd H a (.dT (putK kvs k v))):=.inr ⟨kvs,k,b,e,rfl,eb,hl,rfl⟩
section
variable {v:V}{r:Value}{o:Option V}{E:Value->Shared->Prop}
theorem Inv.big (I:Inv X pins σ H s):zaw < s.heap.objs.size:=by
 have h  := (I.mod.glob.keeps I.bk).lt;exact Nat.lt_trans (by decide) h
theorem Xo4 {Q:Value->Shared->Prop}(hu:A.units+1 < cLine)(I:Inv X pins σ H s)(g:DGet H a y (some v))(ry:RelV y u)(h:∀w' s',Inv X pins σ H s'->RelV v w'->Q w' s') :
  wpAny (model X.prog X.w) A (getItem (.ref a) u) Q E s:=by
 rcases g with ⟨m,k,e,i,l⟩ | ⟨m,k,b,e,i,x,l⟩
 ·subst i
  obtain⟨z,t,B,d,j⟩:=Xu8 I.hok e;obtain⟨w',f,c⟩:=RelO.some_of (by rw[l];exact d.val k);exact wpAny_getItem_of (Yt8 ry) j.mapOf f (h w' _ (I.tok _) c)
 ·subst i
  cases (ry);obtain⟨z,t,q,d,j⟩:=Xu6 I.hok e;obtain⟨w',f,c⟩:=RelO.some_of (o:=(atKey q k).map (·.2)) (by rw[l];exact d.val k);obtain⟨p,r,n⟩:=zai.mp f;refine wpAny_getItem_heap (by assumption) (Yo6 I.hok x) j r ?_;rw[n];exact h w' _ (I.tok _) c
theorem Wf8 {Q:Value->Shared->Prop}(hu:A.units+1 < cLine)(I:Inv X pins σ H s)(g:DGet H a y o)(ry:RelV y u)(h:∀s',Inv X pins σ H s'->Q (.bool (!o.isSome)) s') :
  wpAny (model X.prog X.w) A (yai .NotIn u (.ref a)) Q E s:=by
 rcases g with ⟨j,k,e,f,l⟩ | ⟨j,k,b,e,f,m,l⟩
 ·subst f
  obtain⟨z,d,p,c,i⟩:=Xu8 I.hok e;refine wpAny_notIn_of (Yt8 ry) d i.mapOf ?_;rw[<- (c.val k).isSome_eq,<- l];exact h _ (I.tok _)
 ·subst f
  cases (ry);obtain⟨z,d,n,c,i⟩:=Xu6 I.hok e;refine wpAny_notIn_heap (by assumption) (Yo6 I.hok m) d i ?_;have q:=(c.val k).isSome_eq;rw[Option.isSome_map] at q;rw[<- q,<- l];exact h _ (I.tok _)
theorem Yk5 {ob:HO}(I:Inv X pins σ H s)(mu:Mut (H a))(hs:zal a s.heap h')(he:∃q,h'.get? a=some q)(new:ObjOk X.prog X.w (upd H a ob) h' a ob):
  Inv X pins σ (upd H a ob) { s with heap:=h',toks:=t' } :=
 I.write mu (.inl rfl) (fun b q c z=>(hs.2 b c).trans z) he new
theorem Xy3 {P:zf}{kvs:List (Key×V)}{vs:List (Key×Value)}(z:kvs.length<=zi)(hd:(a == zaw)=false)(rel:KV kvs vs)(dd:h'.DictOf (Zg6 P w) a vs):
  ObjOk P w H' h' a (.dK kvs):=⟨z,hd,vs,rel,dd⟩
theorem Xo3 {Q:Unit->Shared->Prop}(hu:A.units+1 < cLine)(I:Inv X pins σ H s)(g:DPut H a y v H')(ry:RelV y u)(rv:RelV v r)(h:∀s',Inv X pins σ H' s'->Q () s'):
  wpAny (model X.prog X.w) A (setItem (.ref a) u r) Q E s:=by
 rcases g with ⟨f,k,e,p,l,t⟩ | ⟨f,k,b,e,p,B,l,t⟩
 ·subst p t
  obtain⟨z,o,D,d,x⟩:=Wt5 I.hok e
  have F:D.length<=zi:=by rw[<- d.length];exact z
  have n:(putK f k v).length<=zi:=by have:=Zk1 f k v;omega
  refine wpAny_setItem_pairs (Yt8 ry) x fun N i m=>h _ ?_;exact Yk5 I (by rw[e];exact zbu) m (let ⟨q,_,_,j,_⟩:=i;⟨q,j⟩) (Xy3 n o (d.put k rv) i)
 ·subst p t
  cases (ry);obtain⟨z,o,C,d,x⟩:=Wt3 I.hok e
  have F:C.length<=zi:=by rw[<- zk d];exact z
  have n:(putK f k v).length<=zi:=by have:=Zk1 f k v;omega
  refine wpAny_setItem_heap (by assumption) (Yo6 I.hok B) x fun N i m=>h _ ?_;obtain⟨q,O,R,j,M,L,J,_,G⟩:=i;refine Yk5 I (by rw[e];exact zbu) m ⟨q,j⟩ ⟨n,o,_,(d.put k B rv).keeps fun c T S=>?_,q,O,R,j,M,L,J,G⟩;rw[Za9 (Yt3 S e (by simp))];omega
end
def NoSl (i:Expr):Prop:=∀ov iv,subscripted i false ov iv=operate [ov,iv] (getItem ov iv)
theorem Xh0 {prog:zf}{E:Value->Shared->Prop}{value slice:Expr}{T:String}{Q:Value->Shared->Prop}(hl:typeLookup (.type T) "__getitem__"=pure (some (.builtin id)))(hs:NoSl slice)(h:wpAny (model prog w) A (eval value env) (fun o s₁=>wpAny (model prog w) A (eval slice env) (fun i s₂=>s₂.TypeIs o T/\wpAny (model prog w) A (getItem o i) Q E s₂) E s₁) E s):
  wpAny (model prog w) A (eval (.Subscript value slice pos) env) Q E s:=by
 refine Subscript_ (ybt h (fun o s₁ h₁=>ybt h₁ (fun i s₂ h₂=>?_) fun _ _ x=>x) fun _ _ x=>x);obtain⟨b,h₂⟩:=h₂;refine za ?_;refine za (yby b hl ?_)
 have a:wpAny (model prog w) A (subscripted slice false o i) (fun r s₃=>wpAny (model prog w) A (letTemporaryGo value o r >>= fun _=>pure r) Q E s₃) E s₂:=by
  rw[hs o i];exact wpAny_operating (ybt h₂ (fun r s₃ h₃=>za (wpAny_letTemporaryGo (yb h₃))) fun _ _ x=>x)
 first
  |exact yb (za a)
  |exact za _
  |exact za a
theorem Yv6 {o:Option V}(I:Inv X pins σ H s)(g:DGet H a y o):s.TypeIs (.ref a) "dict":=by
 rcases g with ⟨d,k,e,_,_⟩ | ⟨d,k,b,e,_,_,_⟩
 ·obtain⟨_,_,h,_,c⟩:=Xu8 I.hok e
  exact c.typeIs
 ·obtain⟨_,_,f,_,c⟩:=Xu6 I.hok e
  exact c.typeIs
def Yr5 (td ty:TE):TE:=fun σ H Q=>td σ H fun x H1=>ty σ H1 fun y H2=>∃a v,x=.ref a/\DGet H2 a y (some v)/\Q v H2
def Zq7 (ty td:TE):TE:=fun σ H Q=>ty σ H fun y H1=>td σ H1 fun x H2=>∃a o,x=.ref a/\DGet H2 a y o/\Q (.bl (!o.isSome)) H2
def Wa6 (td ty tv:TE):TS:=fun D σ H=>tv σ H fun v H1=>td σ H1 fun x H2=>ty σ H2 fun y H3=>∃a H4,x=.ref a/\DPut H3 a y v H4/\D.nx σ H4
section
variable {o i e value:Expr}{td ty tv:TE}
theorem Xj3 (hu:X.A.units+1 < cLine)(ho:PE X o td)(hi:PE X i ty)(hs:NoSl i):PE X (.Subscript o i pos) (Yr5 td ty):=by with_unfolding_all
 intro b s c H Q I h;refine Xh0 PySem.F.slot_dict_getitem.lookup hs (thn (ho b s c H _ I h) fun u s1 ⟨x,H1,I1,rx,q1⟩=>thn (hi b s1 c H1 _ I1 q1) fun r q f=>?_);obtain⟨y,m,e,j,a,v,ex,g,k⟩:=f;subst ex;obtain rfl:u=yt a:=rx;exact⟨Yv6 e g,Xo4 hu e g j fun n p l d=>⟨v,m,l,d,k⟩⟩
theorem Xj4 (hu:X.A.units+1 < cLine)(hi:PE X i ty)(ho:PE X o td):PC X .NotIn i o (Zq7 ty td):=by with_unfolding_all
 intro b s c H Q I h;refine thn (hi b s c H _ I h) fun iv s1 ⟨y,H1,I1,ry,q1⟩=>thn (ho b s1 c H1 _ I1 q1) fun u n d=>?_;obtain⟨x,l,k,e,a,p,ex,g,f⟩:=d;subst ex;obtain rfl:u=yt a:=e;exact Wf8 hu k g ry fun m j=>⟨.bl _,l,j,rfl,f⟩
theorem Wb2 (hu:X.A.units+1 < cLine)(ho:PE X o td)(hi:PE X i ty)(hv:PE X value tv)(hs:zdo value (some (.Subscript o i pos')) pos.line X.env=pure false) :
  PS X (.Assign [.Subscript o i pos'] value pos) (Wa6 td ty tv):=by with_unfolding_all
 intro b s c H D I h;refine wpAny_Assign_Subscript (thn (hv b s c H _ I h) fun r s1 ⟨v,H1,I1,rv,q1⟩=>thn (ho b s1 c H1 _ I1 q1) fun u s2 ⟨x,H2,I2,rx,q2⟩=>thn (hi b s2 c H2 _ I2 q2) fun iv s3 ⟨y,H3,I3,ry,a,H4,ex,g,q3⟩=>?_) hs;subst ex;obtain rfl:u=yt a:=rx;exact Xo3 hu I3 g ry rv fun e d=>⟨c,H4,d,q3⟩
end
theorem Xu7 {P:zf}(h:Heap)(hb:zaw < h.objs.size):ObjOk P w H (h.push { cls:=.type "dict",data:=.dict #[] }) h.objs.size (.dT []) :=
 ⟨yaq _,beq_eq_false_iff_ne.mpr (zbe (yq hb)),[],.nil,_,#[],0,zh _ rfl,⟨rfl,rfl,rfl⟩,rfl,rfl,zcw⟩
def Zz8:TE:=fun _ H Q=>∀p,H p=none->Q (.ref p) (upd H p (.dT []))
section
theorem Xs8:PE X (.Dict [] [] pos) Zz8:=by with_unfolding_all exact (fun b s c H Q I h =>
 wpAny_Dict_empty ⟨.ref s.heap.objs.size,_,I.laid (a:=s.heap.objs.size) (o:=.dT []) (t':=s.toks) (fun _ _ q=>ya _ q) (zg _) (Xu7 s.heap I.big),rfl,h _ (I.hok.fresh (zg _))⟩)
end
end L2
set_option maxHeartbeats 4000000
namespace L2
open PySem PySem.Spec PyProof.Rows
section
def Ys5:R2:=fun x y H Q=>∃z n,x=.str z/\y=.int n/\z.length<=1000/\-1000<=n/\n<=1000/\Q (.str (zcv z n)) H
theorem Yt4 {z:Str}{n:Int}(h1:z.length<=1000)(h2:-1000<=n)(h3:n<=1000):MulOk z n:=by
 refine⟨?_,fun c b=>?_,fun c b=>?_⟩
 ·have a:¬n < -(2 ^ 63):=by omega
  rw[decide_eq_false a,decide_eq_false (by omega)];rfl
 ·have:(1000)<=(2 ^ 63 - 1) / n:=by
   rw[Int.le_ediv_iff_mul_le (by omega)];omega
  omega
 ·have:z.length*n.toNat<=1000*1000:=Nat.mul_le_mul h1 (by omega)
  unfold zdn.Str.tooLong;rw[decide_eq_false];have e:=sizeLine_eq;omega
theorem Yt1:OpR X (zbq .Mult) Ys5:=by
 intro d s i H x y v u Q I c b h;obtain⟨z,n,rfl,rfl,g,f,e,q⟩:=h;obtain⟨t,rfl⟩:=c;obtain⟨a,rfl⟩:=b;exact SB.mul (Yt4 g f e) fun a k=>⟨.str _,H,I.tok k,⟨_,rfl⟩,q⟩
theorem Xs5 (its:List Value):slicePick its.toArray none none (some (-1))=its.reverse.toArray:=by
 unfold slicePick
 have e:zby none none (some (-1)) its.toArray.size=((its.length:Int) - 1,-1,-1):=by
  simp[zby]
 rw[e]
 have r:sliceRange ((its.length:Int) - 1) (-1) (-1)=(zbt its.length).map fun k=>its.length - 1 - k:=by
  unfold sliceRange
  have c:(if (-1:Int) > 0 then (if ((its.length:Int) - 1) < -1 then (-1 - ((its.length:Int) - 1)+-1 - 1) / -1 else 0) else (if ((its.length:Int) - 1) > -1 then (((its.length:Int) - 1) - -1 - -1 - 1) / (- -1) else 0)).toNat=its.length:=by
   rw[if_neg (by decide)]
   by_cases h:((its.length:Int) - 1) > -1
   ·rw[if_pos h]
    have:(((its.length:Int) - 1) - -1 - -1 - 1) / (- -1)=its.length:=by
     have:(- (-1:Int))=1:=rfl;rw[this,Int.ediv_one];omega
    rw[this];simp
   ·rw[if_neg h];simp;omega
  show (zbt (if (-1:Int) > 0 then (if _ < -1 then _ / -1 else 0) else _).toNat).map _=_;rw[c];apply List.map_congr_left;omega
 rw[r,List.filterMap_map]
 congr 1
 apply List.ext_getElem?;intro i
 have o:(zbt its.length).filterMap ((its.toArray[·]?) ∘ fun k=>its.length - 1 - k)=its.reverse:=by
  have d:∀(n:Nat) (f:Nat->Option _) (g:Nat->Value),(∀k,k < n->f k=some (g k))->(zbt n).filterMap f=(zbt n).map g:=by
   intro n f g q
   have m:∀l:List Nat,(∀k∈l,f k=some (g k))->l.filterMap f=l.map g:=by
    intro l
    induction l with
    |nil=>intro _;rfl
    |cons k l ih =>
     intro h;rw[yck,h k zak,yan,ih fun j p=>h j (zo _ p)]
   exact m _ fun k a=>q k (by simp_all)
  rw[d _ _ (fun k=>its.reverse.getD k .none) (fun k a=>by
   simp[a])]
  apply List.ext_getElem
  ·simp
  ·intro k b s
   simp at b;simp[b]
 rw[o]
def tRev (K:W.Frag)(te ts:TE):TE:=fun σ H Q=>te σ H fun x H1=>ts σ H1 fun y H2=>∃a xs,x=.ref a/\y=.int (-1)/\SqL K H2 a xs/\∀p,H2 p=none->Q (.ref p) (upd H2 p (.lst xs.reverse))
theorem Wl7 {e st:Expr}{ts:TE}{p2:Pos}(he:PE X e te)(hst:PE X st ts):PE X (.Subscript e (.Slice none none (some st) p2) pos) (tRev X.K te ts):=by with_unfolding_all
 intro c s d H Q I h;refine Subscript_ (thn (he c s d H _ I h) fun v k f=>?_);obtain⟨x,D,B,m,p⟩:=f;refine wpAny_Slice ?_;rw[evalPart_none,evalPart_some];refine yb (yb (thn (hst c k d D _ B p) fun J i f=>?_));obtain⟨y,C,A,l,n⟩:=f;obtain⟨a,G,rfl,rfl,w,q⟩:=n;cases m;obtain⟨t,rfl⟩:=l;have g:Inv X _ d C { i with heap:=i.heap.push { cls:=.type "slice",data:=.fields #[.none,.none,.int (-1) t] } }:=A.kept fun b u q=>ya _ q;obtain⟨F,r,j,L⟩:=g.list w;have z:=r.length;refine tail_any (ops:=[.ref a,.ref _]) j.isList.typeIs slot_list_getitem.lookup ?_ rfl;refine wpAny_getItem_list_slice j.isList (Heap.IsSliceOf.new ..) .none .none (.int _ _) (by simp) ?_ (by simp_all);rw[Xs5];refine⟨.ref _,_,g.laid (o:=.lst _) (fun b u q=>ya _ q) (zg _) ?_,rfl,q _ (g.hok.fresh (zg _))⟩;exact⟨by simp_all,_,0,r.reverse,zh _ rfl⟩
noncomputable abbrev TF:=Str->St->Hp->VK->Prop
def PF (X:Cx)(es:List Expr)(t:TF):Prop :=
 ∀(out:Str) (pins:List (Addr×Obj)) (s:Shared) (σ:St) (H:Hp) (Q:VK),Inv X pins σ H s->t out σ H Q->wpAny (model X.prog X.w) X.A (joinParts out (evalEach es X.env)) (EP X pins σ Q) X.xe s
def tF0:TF:=fun out _ H Q=>out.length<=zi/\Q (.str out) H
def tFc (x:Str)(t:TF):TF:=fun out σ H Q=>(out++x).length<=zi/\t (out++x) σ H Q
theorem Wl5:PF X [] tF0:=fun a b s c H Q I h=>joinParts_nil ⟨.str a,H,I.tok _,⟨_,rfl⟩,h.2⟩ h.1
theorem Xw3 {es:List Expr}{t:TF}(h:PF X es t)(hs:evalEach (.Constant (.str x) j pos::es) X.env=eval (.Constant (.str x) j pos) X.env::evalEach es X.env:=by rfl):PF X (.Constant (.str x) j pos::es) (tFc x t):=by
 intro d c s b H Q I a;refine joinParts_cons (Calls.Constant_str ?_);exact⟨a.1,h _ _ _ b H Q (I.tok _) a.2⟩
def tFs (t:TF):TE:=fun σ H Q=>t ybx σ H Q
theorem Wc2 {e1 e2:Expr}{es:List Expr}{t:TF}(h:PF X (e1::e2::es) t)(hs:evalEach (e1::e2::es) X.env=eval e1 X.env::eval e2 X.env::evalEach es X.env:=by rfl):PE X (.JoinedStr (e1::e2::es) pos) (tFs t):=by with_unfolding_all
 intro b s a H Q I c;exact h _ _ s a H Q I c
end
mutual
def Dn (K:W.Frag)(H:Hp):V->PyData->Prop
 |v,.none=>v=.non
 |v,.bool b=>v=.bl b
 |v,.int i=>v=.int i
 |v,.str x=>v=.str x
 |v,.list ds=>∃a xs,v=.ref a/\SqL K H a xs/\DnAll K H xs ds
 |v,.tuple ds=>∃a xs,v=.ref a/\SqT K H a xs/\DnAll K H xs ds
 | _,.dict _=>False
def DnAll (K:W.Frag)(H:Hp):List V->List PyData->Prop
 |xs,[]=>xs=[]
 |xs,d::ds=>∃x r,xs=x::r/\Dn K H x d/\DnAll K H r ds
end
theorem DnAll.length:∀{xs:List V} {ds:List PyData},DnAll K H xs ds->xs.length=ds.length
 |xs,[],h=>by rw[DnAll] at h;simp_all
 |xs,d::ds,h=>by
  obtain⟨x,r,rfl,_,h⟩:=h;simp[DnAll.length h]
def KeepT (K:W.Frag)(H H':Hp):Prop:=∀a xs,SqT K H a xs->SqT K H' a xs
mutual
noncomputable def noList:PyData->Bool
 | .list _=>false
 | .tuple ds=>noLists ds
 | .dict _=>false
 | _=>true
noncomputable def noLists:List PyData->Bool
 | []=>true
 |d::ds=>noList d&&noLists ds
end
mutual
theorem Dn.keepT (k:KeepT K H H'):∀{d:PyData} {v:V},noList d=true->Dn K H v d->Dn K H' v d
 | .none,v,_,h=>by rw[Dn] at h ⊢;exact h
 | .bool _,v,_,h=>by rw[Dn] at h ⊢;exact h
 | .int _,v,_,h=>by rw[Dn] at h ⊢;exact h
 | .str _,v,_,h=>by rw[Dn] at h ⊢;exact h
 | .list _,v,n,h=>by rw[noList] at n;cases n
 | .dict _,v,n,h=>by rw[noList] at n;cases n
 | .tuple ds,v,n,h=>by
  rw[Dn] at h ⊢;rw[noList] at n;obtain⟨a,xs,e,hs,hd⟩:=h;exact⟨a,xs,e,k a xs hs,DnAll.keepT k n hd⟩
theorem DnAll.keepT (k:KeepT K H H'):∀{ds:List PyData} {xs:List V},noLists ds=true->DnAll K H xs ds->DnAll K H' xs ds
 | [],xs,_,h=>by rw[DnAll] at h ⊢;exact h
 |d::ds,xs,n,h=>by
  rw[DnAll] at h ⊢;rw[noLists,yr] at n;obtain⟨x,r,e,h1,h2⟩:=h;exact⟨x,r,e,Dn.keepT k n.1 h1,DnAll.keepT k n.2 h2⟩
end
section
mutual
theorem Dn.reads (I:Inv X pins σ H s):∀{d:PyData} {v:V} {u:Value},Dn X.K H v d->RelV v u->∃as,Reads s.heap u d as
 | .none,v,u,h,r=>by rw[Dn] at h;subst h;cases (show u=yz from r);exact⟨_,.none⟩
 | .bool b,v,u,h,r=>by rw[Dn] at h;subst h;cases (show u=yde b from r);exact⟨_,.bool b⟩
 | .int i,v,u,h,r=>by rw[Dn] at h;subst h;obtain⟨t,rfl⟩:=r;exact⟨_,.int i t⟩
 | .str x,v,u,h,r=>by rw[Dn] at h;subst h;obtain⟨t,rfl⟩:=r;exact⟨_,.str x t⟩
 | .dict _,v,u,h,r=>by rw[Dn] at h;exact h.elim
 | .list ds,v,u,h,r=>by
  rw[Dn] at h;obtain⟨a,xs,rfl,hs,hd⟩:=h;cases (show u=yt a from r);obtain⟨its,rv,⟨o,n,h1,h2,_,h3⟩,_⟩:=I.list hs;obtain⟨as,q⟩:=DnAll.reads I hd rv;exact⟨_,.list h1 h2 h3 (by simpa using q)⟩
 | .tuple ds,v,u,h,r=>by
  rw[Dn] at h;obtain⟨a,xs,rfl,hs,hd⟩:=h;cases (show u=yt a from r);obtain⟨its,rv,⟨o,h1,h2,n,h3⟩,_⟩:=I.tuple hs;obtain⟨as,q⟩:=DnAll.reads I hd rv;exact⟨_,.tuple h1 h2 h3 (by simpa using q)⟩
theorem DnAll.reads (I:Inv X pins σ H s):∀{ds:List PyData} {xs:List V} {us:List Value},DnAll X.K H xs ds->Vals xs us->∃as,ReadsAll s.heap us ds as
 | [],xs,us,h,r=>by rw[DnAll] at h;subst h;cases r;exact⟨_,.nil⟩
 |d::ds,xs,us,h,r=>by
  rw[DnAll] at h;obtain⟨x,r',rfl,h1,h2⟩:=h
  cases r with
  |cons r1 r2 =>
   obtain⟨as,q1⟩:=Dn.reads I h1 r1;obtain⟨bs,q2⟩:=DnAll.reads I h2 r2;exact⟨_,.cons q1 q2⟩
end
end
section
def rEqD (K:W.Frag)(neg:Bool):R2:=fun x y H Q=>∃d e,Dn K H x d/\Dn K H y e/\d.canLay0=true/\e.canLay0=true/\min d.depth e.depth<=150/\Q (.bl (if neg then !PyData.eqv d e else yaw d e)) H
theorem Xj6 (hu:X.A.units+150 < cLine):OpR X (yai .Eq) (rEqD X.K false):=by
 intro g s m H x y v u Q I b a h;obtain⟨d,e,l,k,j,i,n,q⟩:=h;obtain⟨p,f⟩:=l.reads I b;obtain⟨o,c⟩:=k.reads I a;exact W.cmp_ofEq (SeqAt.rcAt_reads f c j i (by omega) _ _ _ _ ⟨.bl _,H,I,rfl,q⟩)
theorem Xw4 (hu:X.A.units+150 < cLine):OpR X (yai .NotEq) (rEqD X.K true):=by
 intro g s m H x y v u Q I b a h;obtain⟨d,e,l,k,j,i,n,q⟩:=h;obtain⟨p,f⟩:=l.reads I b;obtain⟨o,c⟩:=k.reads I a;exact W.cmp_ofNotEq (SeqAt.rcNeAt_reads f c j i (by omega) _ _ _ _ ⟨.bl _,H,I,rfl,q⟩)
end
theorem Zu2 {k:Nat}(hr:Room k A):A.units+150 < cLine:=by have:=hr.un;omega
noncomputable def blk (X:Cx)(N':List Str)(scope:Scope)(cl:List (Str×Addr))(s:Shared)(H:Hp)(C:Addr)(ex:List Addr):Cx where
 prog:=X.prog
 w:=X.w
 K:=X.K
 mg:=X.mg
 base:=X.base
 A:=X.A
 N:=N'
 s₀:=s
 H₀:=H
 env:=compEnvC scope cl C X.env
 outer:=X.stack
 stack:=X.stack
 ex:=ex
 fn:=fun _=>false
 calm:=X.calm
 pn:=[]
 xe:=fun _ _=>False
structure BlkOk (X:Cx)(scope:Scope)(cl:List (Str×Addr))(N':List Str)(nt:Nat)(ci:List Nat):Prop where
 clos:closureFor scope X.env=pure cl
 cell:∀y∈scope.names,y.2≠.cell
 kind:scope.kind=.function
 names:∀y∈scope.names,y.2=.local->scope.names.lookup y.1=some .local
 sub:∀x c,cl.lookup x=some c->X.env.cells.lookup x=some c
 has:∀x,((relabel scope X.env).names.lookup x=some .cell∨(relabel scope X.env).names.lookup x=some .free)->∃c,cl.lookup x=some c
 len:N'.length=nt+ci.length
 cap:∀(j i:Nat),ci[j]?=some i->∃x,N'[nt+j]?=some x/\X.N[i]?=some x/\X.env.scope.names.lookup x=some .cell/\((relabel scope X.env).names.lookup x=some .cell∨(relabel scope X.env).names.lookup x=some .free)
noncomputable def capt (nt:Nat)(ci:List Nat)(σ:St):St:=ycf nt none++ci.map fun i=>(σ[i]?).join
section
def Wk (σ σ':St):Prop:=σ'.length=σ.length/\∀(i:Nat) v,σ[i]?=some (some v)->σ'[i]?=some (some v)
theorem Ye1 {σ:St}{i:Nat}{x:V}(h:σ[i]?=some none):Wk σ (σ.set i (some x)):=by
 refine⟨by simp,fun j v e=>?_⟩
 by_cases hj:j=i
 ·grind
 ·rw[zdb (zbe hj)];exact e
theorem Yg1 {x:V}{r:St}:Wk (none::r) (some x::r):=Ye1 (i:=0) rfl
theorem Wk.trans {σ1 σ2 σ3:St}(a:Wk σ1 σ2)(b:Wk σ2 σ3):Wk σ1 σ3:=⟨b.1.trans a.1,fun i v e=>b.2 i v (a.2 i v e)⟩
theorem Wk.refl (σ:St):Wk σ σ:=⟨rfl,fun _ _ e=>e⟩
def lcW (K:W.Frag)(σ0:St)(J:It)(acc:Addr)(g:TG)(te:TE)(Q:VK)(W:Nat->Nat->List V->Hp->Prop):Prop :=
 ∀i m ys H2,W i m ys H2->H2 acc=some (.lst ys)/\ys.length < zi/\((J.stop i H2/\Q (.ref acc) H2) ∨
  (J.go i H2/\∀x H3,J.yld i H2 x H3->g x σ0 H3 fun σ4 H4=>Wk σ0 σ4/\te σ4 H4 fun y H5=>H5 acc=some (.lst ys)/\∃m',m' < m/\W (i+1) m' (ys++[y]) (upd H5 acc (.lst (ys++[y])))))
def tLC (K:W.Frag)(nt:Nat)(ci:List Nat)(wi:TI)(g:TG)(te:TE):TE:=fun σ H Q=>wi σ H fun J H1=>∀acc,H1 acc=none->∃W:Nat->Nat->List V->Hp->Prop,(∃m,W 0 m [] (upd H1 acc (.lst [])))/\lcW K (capt nt ci σ) J acc g te Q W
end
end L2
namespace PySem
open Sem (wp)
namespace F
end F
end PySem
namespace L2
open PySem PySem.Spec PyProof.Rows
structure KDict (K:W.Frag)(w:World)(a:Addr)(kvs:List (Str×V)):Prop where
 ex:∃(o:Obj) (es:Array zbz) (ep:Nat),K.lookup a=some o/\o.ExactDict/\o.data=.dict es ep/\Paired (fun (p:Str×V) (e:zbz)=>(∃tk,e.key=.str p.1 tk)/\e.hash=zas w.params p.1/\RelV p.2 e.val) kvs es.toList
 nd:(kvs.map (·.1)).Nodup
 ns:(a == zaw)=false
noncomputable def kvK (kvs:List (Str×V)):List (Key×V):=kvs.map fun p=>(zbl p.1,p.2)
section
variable {kvs:List (Str×V)}
theorem Yz7 {P:zf}:∀{kvs:List (Str×V)} {es:List zbz},Paired (fun (p:Str×V) (e:zbz)=>(∃tk,e.key=.str p.1 tk)/\e.hash=zas w.params p.1/\RelV p.2 e.val) kvs es ->
  (∀e∈es,∃k,(Zg6 P w).is k e.key=true/\e.hash=(Zg6 P w).hash k)/\Pairs (Zg6 P w) es (List.zip (kvs.map fun p=>(zbl p.1:Key)) (es.map (·.val)))/\KV (kvK kvs) (List.zip (kvs.map fun p=>(zbl p.1:Key)) (es.map (·.val)))
 | [],_,r=>by cases r;exact⟨(fun _ h=>nomatch h),.nil,.nil⟩
 |p::kvs,_,r=>by
  cases r with
  |@cons _ e _ es h t =>
   obtain⟨⟨tk,h1⟩,h2,h3⟩:=h;obtain⟨q1,q2,q3⟩:=Yz7 t
   have hi:(Zg6 P w).is (zbl p.1) e.key=true:=by rw[h1];exact Yb6 P w p.1 tk
   refine⟨fun e' he=>?_,.cons hi rfl q2,.cons ⟨rfl,h3⟩ q3⟩;rcases zd.mp he with rfl | he
   ·exact⟨zbl p.1,hi,h2⟩
   ·exact q1 e' he
theorem KDict.of (D:KDict X.K X.w a kvs)(I:Inv X pins σ H s):∃vs,KV (kvK kvs) vs/\s.heap.DictOf (Zg6 X.prog X.w) a vs:=by
 obtain⟨o,f,k,j,ex,d,b⟩:=D.ex;obtain⟨i,h,g⟩:=Yz7 b;refine⟨_,g,o,f,k,I.kIn a o j,ex,d,fun e m=>i e (by simp_all),h,?_⟩
 have e:(List.zip (kvs.map fun p=>(zbl p.1:Key)) (f.toList.map (·.val))).map (·.1)=kvs.map fun p=>(zbl p.1):=by
  rw[List.map_fst_zip];have:=zk b
  simp_all
 rw[e]
 have c:∀l:List (Str×V),(l.map (·.1)).Nodup->(l.map fun p=>(zbl p.1:Key)).Nodup:=by
  grind
 exact c kvs D.nd
theorem Yw3 (kvs:List (Str×V))(x:Str):valV (kvK kvs) (zbl x)=kvs.lookup x:=by
 unfold valV kvK
 induction kvs with
 |nil=>rfl
 |cons p r ih =>
  grind
def tKD (kvs:List (Str×V))(ti:TE):TE:=fun σ H Q=>ti σ H fun y H1=>∃x v,y=.str x/\kvs.lookup x=some v/\Q v H1
theorem Zm7 {i:Expr}{ti:TE}{p:Pos}(D:KDict X.K X.w a kvs)(hg:Gl X name)(hm:X.mg name=some (.ref a))(hi:PE X i ti)(hs:NoSl i:=by exact fun _ _=>rfl)(hd:(name == ("__debug__":Str))=false:=by decide):
  PE X (.Subscript (.Name name p) i pos) (tKD kvs ti):=by with_unfolding_all
 intro b s f H Q I h;refine Xh0 PySem.F.slot_dict_getitem.lookup hs (Zo6 I hg hm (thn (hi b s f H _ I h) fun iv s2 ⟨y,H2,I2,ry,x,v,ey,hl,q2⟩=>?_) hd);subst ey;obtain⟨g,d,e⟩:=D.of I2;obtain⟨l,j,c⟩:=RelO.some_of (o:=valueAt g _) (by rw[<- hl,<- Yw3];exact d.val (zbl x));exact⟨e.typeIs,wpAny_getItem_of (Yt8 (k:=zbl x) ry) e.mapOf j ⟨v,H2,I2.tok _,c,q2⟩⟩
end
section
theorem Yd6 (h:∀y∈scope.names,y.2≠.free):(relabel scope env).names=scope.names:=by
 have a:∀l:List (Str×zci),(∀y∈l,y.2≠.free)->l.map (fun (n,k)=>if k == yad&&env.scope.kind == .function&&env.kindOf n == some .cell then (n,zat) else (n,k))=l:=by
  intro l
  induction l with
  |nil=>intro _;rfl
  |cons y r ih =>
   intro h
   simp_all
 exact a _ h
theorem blk0 (hc:∀y∈scope.names,y.2≠.cell)(hf:∀y∈scope.names,y.2≠.free)(hk:scope.kind=.function)(hn:∀y∈scope.names,y.2=.local->scope.names.lookup y.1=some .local)(_:X.Ok):BlkOk X scope [] N' N'.length [] where
 clos:=closureFor_none hf
 cell:=hc
 kind:=hk
 names:=hn
 sub:=fun _ _ h=>by cases h
 has:=fun x h=>by
  rw[Yd6 hf] at h;rcases h with h | h
  ·exact absurd rfl (hc _ (yah h))
  ·exact absurd rfl (hf _ (yah h))
 len:=by simp
 cap:=fun j i h=>by simp at h
noncomputable def Zi1 (cells:List (Str×Addr)):List (Str×zci)->List (Str×Addr)->List (Str×Addr)
 | [],acc=>acc
 | (n,k)::r,acc=>if k == .free then Zi1 cells r ((n,(cells.lookup n).getD 0)::acc) else Zi1 cells r acc
theorem Yk6:∀(names:List (Str×zci)) (acc:List (Str×Addr)),(∀y∈names,y.2=.free->∃c,env.cells.lookup y.1=some c) ->
  (forIn names acc fun (x:Str×zci) cs=>(match x with | (name,kind)=>if (kind == .free)=true then do let c <- cellOf env name;pure (ForInStep.yield ((name,c)::cs)) else pure (ForInStep.yield cs):Sem (ForInStep (List (Str×Addr)))))=pure (Zi1 env.cells names acc)
 | [],acc,_=>rfl
 | (n,k)::r,acc,h=>by
  rw[ydh];unfold Zi1
  by_cases hk:(k == yad)=true
  ·obtain⟨c,hc⟩:=h (n,k) zak (by simpa using hk)
   have e:cellOf env n=pure c:=by unfold cellOf;simp_all
   have hc'  := hc;simp only[hk,e,hc'];exact Yk6 r _ fun y hy=>h y (zo _ hy)
  ·simp only[hk,if_false]
   exact Yk6 r acc fun y hy=>h y (zo _ hy)
theorem Zf7 (h:∀y∈scope.names,y.2=.free->∃c,env.cells.lookup y.1=some c):closureFor scope env=pure (Zi1 env.cells scope.names []):=by
 unfold closureFor;have e:=Yk6 _ [] h
 simp_all
theorem Zu6 {cells:List (Str×Addr)}:∀{names:List (Str×zci)} {acc:List (Str×Addr)} {x:Str} {c:Addr},(x,c)∈Zi1 cells names acc->(x,c)∈acc∨((x,yad)∈names/\c=(cells.lookup x).getD 0)
 | [],acc,x,c,h=>.inl h
 | (n,k)::r,acc,x,c,h=>by
  unfold Zi1 at h
  by_cases hk:(k == yad)=true
  ·rw[if_pos hk] at h
   rcases Zu6 h with h | ⟨h1,h2⟩
   ·grind
   ·exact .inr ⟨zo _ h1,h2⟩
  ·rw[if_neg hk] at h
   rcases Zu6 h with h | ⟨h1,h2⟩
   ·exact .inl h
   ·exact .inr ⟨zo _ h1,h2⟩
theorem Zu7 {cells:List (Str×Addr)}:∀{names:List (Str×zci)} {acc:List (Str×Addr)} {x:Str},(x,yad)∈names∨(∃c,(x,c)∈acc)->∃c,(x,c)∈Zi1 cells names acc
 | [],acc,x,h=>by
  rcases h with h | h
  ·cases h
  ·exact h
 | (n,k)::r,acc,x,h=>by
  unfold Zi1
  by_cases hk:(k == yad)=true
  ·rw[if_pos hk]
   refine Zu7 ?_
   grind
  ·rw[if_neg hk]
   refine Zu7 ?_
   grind
theorem Zt6 {l:List (Str×Addr)}{c:Addr}(h:(x,c)∈l):∃c',l.lookup x=some c':=by
 induction l with
 |nil=>cases h
 |cons p r ih =>
  obtain⟨n,a⟩:=p
  by_cases e:(x == n)=true
  ·simp_all
  grind
theorem Zn7 {env:Env}:∀{names:List (Str×zci)} {x:Str} {k:zci},(names.map fun (n,k)=>if (k == yad&&env.scope.kind == .function&&env.kindOf n == some .cell) then (n,zat) else (n,k)).lookup x=some k->(k=.cell∨k=.free)->(∀y∈names,y.2≠.cell)->(x,yad)∈names
 | [],x,k,h,_,_=>by cases h
 | (n,j)::r,x,k,h,hk,hc=>by
  by_cases e:(x == n)=true
  ·grind
  ·have e':(x == n)=false:=by simp_all
   refine zo _ (Zn7 (env:=env) ?_ hk fun y hy=>hc y (zo _ hy));have h':zaj x ((if _=true then (n,zat) else (n,j))::_)=some k:=h
   by_cases q:(j == yad&&env.scope.kind == .function&&env.kindOf n == some .cell)=true
   ·rw[if_pos q,yax,e'] at h';omega
   ·rw[if_neg q,yax,e'] at h';omega
theorem Zn8 (h1:env.scope.kind=.function)(h2:env.kindOf x=some .cell):∀{names:List (Str×zci)},names.lookup x=some .free->(names.map fun (n,k)=>if (k == yad&&env.scope.kind == .function&&env.kindOf n == some .cell) then (n,zat) else (n,k)).lookup x=some .cell
 | [],h=>by cases h
 | (n,j)::r,h=>by
  by_cases e:(x == n)=true
  ·grind
  ·have e':(x == n)=false:=by simp_all
   simp[yax,e'] at h
   by_cases q:(j == yad&&env.scope.kind == .function&&env.kindOf n == some .cell)=true
   ·show zaj x ((if _=true then (n,zat) else (n,j))::_)=_
    rw[if_pos q,yax,e'];exact Zn8 h1 h2 h
   ·show zaj x ((if _=true then (n,zat) else (n,j))::_)=_
    rw[if_neg q,yax,e'];exact Zn8 h1 h2 h
noncomputable def Wg1 (N':List Str)(nt:Nat)(ci:List Nat)(Xn:List Str)(fsc scope:Scope):Bool :=
 (zbt ci.length).all fun j=>match ci[j]?,N'[nt+j]? with
  |some i,some x=>Xn[i]? == some x&&fsc.names.lookup x == some .cell&&scope.names.lookup x == some .free
  | _,_=>false
theorem blkC (Xn:List Str)(fsc:Scope)(hN:X.N=Xn)(hs:X.env.scope=fsc)(hc:∀y∈scope.names,y.2≠.cell)(hk:scope.kind=.function)(hn:∀y∈scope.names,y.2=.local->scope.names.lookup y.1=some .local)(hfr:∀y∈scope.names,y.2=.free->fsc.names.lookup y.1=some .cell)(hl:N'.length=nt+ci.length)(cap:Wg1 N' nt ci Xn fsc scope=true)(ok:X.Ok):BlkOk X scope (Zi1 X.env.cells scope.names []) N' nt ci:=by
 have g:∀y∈scope.names,y.2=.free->∃c,X.env.cells.lookup y.1=some c:=fun y b e=>ok.has y.1 (.inl (by show X.env.scope.names.lookup y.1=_;rw[hs];exact hfr y b e))
 have a:∀x c,(Zi1 X.env.cells scope.names []).lookup x=some c->X.env.cells.lookup x=some c:=fun x c h=>by
  rcases Zu6 (yah h) with z | ⟨l,k⟩
  ·cases z
  grind
 refine⟨Zf7 g,hc,hk,hn,a,fun x h=>?_,hl,fun j i h=>?_⟩
 ·have d:(x,yad)∈scope.names:=by
   rcases h with h | h
   ·exact Zn7 h (.inl rfl) hc
   ·exact Zn7 h (.inr rfl) hc
  obtain⟨c,q⟩:=Zu7 (.inl d);exact Zt6 q
 ·unfold Wg1 at cap
  rw[zay] at cap;have f  := (yc.mp h).1;have q:=cap j (List.mem_range.mpr f);rw[h] at q
  cases e:N'[nt+j]? with
  |none=>simp_all
  |some x =>
   rw[e] at q;simp at q;refine⟨x,rfl,by simp_all,by simp_all,.inl (Zn8 ok.kind ?_ q.2)⟩;show X.env.scope.names.lookup x=_
   simp_all
theorem blkD {nt:Nat}{ci:List Nat}(Xn:List Str)(fsc:Scope)(hN:X.N=Xn:=by rfl)(hs:X.env.scope=fsc:=by rfl)(hc:∀y∈scope.names,y.2≠.cell:=by decide +kernel)(hk:scope.kind=.function:=by rfl)(hn:∀y∈scope.names,y.2=.local->scope.names.lookup y.1=some .local:=by decide +kernel)
  (hfr:∀y∈scope.names,y.2=.free->fsc.names.lookup y.1=some .cell:=by decide +kernel) (hl:N'.length=nt+ci.length:=by rfl) (cap:Wg1 N' nt ci Xn fsc scope=true:=by decide +kernel) (ok:X.Ok):BlkOk X scope (Zi1 X.env.cells scope.names []) N' nt ci:=blkC Xn fsc hN hs hc hk hn hfr hl cap ok
end
theorem Same.sqt {xs:List V}(e:Same H H')(h:SqT K H a xs):SqT K H' a xs:=by
 rcases h with (h | ⟨o,h⟩) | h
 ·exact .inl (.inl (e _ _ h))
 ·exact .inl (.inr ⟨o,e _ _ h⟩)
 ·exact .inr h
theorem Same.keepT (e:Same H H'):KeepT K H H':=fun _ _ h=>e.sqt h
theorem Za6 (h:H p=none)(o:HO):Same H (upd H p o):=fun b u q=>by rw[Za9 (Zb0 q h)];exact q
theorem KeepT.trans (a:KeepT K H H1)(b:KeepT K H1 H2):KeepT K H H2:=fun x c h=>b x c (a x c h)
theorem KeepT.refl (H:Hp):KeepT K H H:=fun _ _ h=>h
theorem Zm1 {xs:List V}{o:HO}(h:H l=some (.lst xs)):KeepT K H (upd H l o):=fun a c q=>by
 rcases q with (q | ⟨b,q⟩) | q
 ·exact .inl (.inl (by rw[Za9 (Yt3 q h (by simp))];exact q))
 ·exact .inl (.inr ⟨b,by rw[Za9 (Yt3 q h (by simp))];exact q⟩)
 ·exact .inr q
theorem Yo7 {K:W.Frag}{o:HO}(h:H l=none):KeepT K H (upd H l o):=(Za6 h o).keepT
theorem Same.write {o:HO}(e:Same H0 H)(h:H0 l=none):Same H0 (upd H l o):=fun b u q=>by
 rw[Za9 (Zb0 q h)];exact e b u q
theorem Wi3 {xs:List V}(q:SqL K H a xs)(h:a≠l):SqL K (upd H l o) a xs:=by
 rcases q with (q | ⟨b,q⟩) | q
 ·exact .inl (.inl (by rw[Za9 h];exact q))
 ·exact .inl (.inr ⟨b,by rw[Za9 h];exact q⟩)
 ·exact .inr q
theorem Yf7 (CX:CXT)(P:zf)(w:World)(K:W.Frag)(mg:Str->Option Value)(base:Heap)(N:List Str)(qual:Str)(scope:Scope)(f:Addr)(cd:Value)(A:Around)(outer:List Env)(s:Shared)(H:Hp)(E:XK):(cxOf CX P w K mg base N qual scope f cd A outer s H E).K=K:=rfl
theorem Xe3 (X:Cx)(N':List Str)(scope:Scope)(cl:List (Str×Addr))(s:Shared)(H:Hp)(C:Addr)(ex:List Addr):(blk X N' scope cl s H C ex).K=X.K:=rfl
theorem Zy1 (a b:Int):scal (.int a) (.int b)=true:=rfl
theorem Zy0 (a b:Str):scal (.str a) (.str b)=true:=rfl
theorem Ys1 (a b:Bool):scal (.bl a) (.bl b)=true:=rfl
theorem Yj0 {i j:Int}(h1:-(2 ^ 64) < i)(h2:i < 2 ^ 64):CMul i j:=.inl ⟨h1,h2⟩
theorem Yn9 {i j:Int}(h1:-(2 ^ 64) < j)(h2:j < 2 ^ 64):CMul i j:=.inr ⟨h1,h2⟩
theorem Yx3 {t u:TS}{D:Ends}(R:St->Hp->Prop)(rest:∀σ' H',R σ' H'->u D σ' H')(first:∀C:St->Hp->Prop,(∀σ' H',R σ' H'->C σ' H')->t { D with nx:=C } σ H):tSeq t u D σ H:=first _ rest
theorem sqt {t u:TS}(R:St->Hp->Prop)(first:∀C:St->Hp->Prop,(∀σ' H',R σ' H'->C σ' H')->t { D with nx:=C } σ H)(rest:∀σ' H',R σ' H'->u D σ' H'):tSeq t u D σ H:=first _ rest
theorem hid {p:Prop}(h:∀G:Prop,(p->G)->G):p:=h p id
theorem sqk {t u:TS}(P:(St->Hp->Prop)->Prop)(first:∀C:St->Hp->Prop,P C->t { D with nx:=C } σ H)(rest:P (u D)):tSeq t u D σ H:=first (u D) rest
theorem sqh {t u:TS}(P:(St->Hp->Prop)->Prop)(first:∀C:St->Hp->Prop,P C->t { D with nx:=C } σ H)(rest:∀U:St->Hp->Prop,(∀σ H,u D σ H->U σ H)->P U):tSeq t u D σ H:=first (u D) (rest _ fun _ _ z=>z)
theorem Yo3 {n:Nat}{lo:Int}{acc:Addr}{g:TG}{Q:VK}(Pv:Nat->List V->Hp->Prop)(h0:Pv 0 [] (upd H acc (.lst [])))(hl:∀i ys H2,i<=n->Pv i ys H2->H2 acc=some (.lst ys)/\ys.length < zi)(hs:∀i ys H2,i < n->Pv i ys H2->∀C:VK,(∀y H5,H5 acc=some (.lst ys)->Pv (i+1) (ys++[y]) (upd H5 acc (.lst (ys++[y])))->C y H5)->g (.int (lo+i)) σ0 H2 fun σ4 H4=>Wk σ0 σ4/\te σ4 H4 C)(hd:∀ys H2,Pv n ys H2->Q (.ref acc) H2):
  ∃W:Nat->Nat->List V->Hp->Prop,(∃m,W 0 m [] (upd H acc (.lst [])))/\lcW K σ0 (Itr lo n) acc g te Q W:=by
 refine⟨fun i m ys H2=>m=n - i/\i<=n/\Pv i ys H2,⟨n,by simp,yaq _,h0⟩,?_⟩;rintro i m ys H2 ⟨rfl,f,p⟩;obtain⟨a,b⟩:=hl i ys H2 f p;refine⟨a,b,?_⟩
 by_cases hlt:i < n
 ·refine .inr ⟨hlt,fun x h y=>?_⟩
  obtain⟨e,y⟩:=y;subst e y;exact hs i ys _ hlt p _ fun v H5 d c=>⟨d,n - _,by omega,rfl,hlt,c⟩
 ·have e:i=n:=by omega
  subst e;exact .inl ⟨zg _,hd ys H2 p⟩
theorem Yf8 (x y:Str):(x++y).cps.toList=x.cps.toList++y.cps.toList:=by
 show (x.cps++y.cps).toList=_;simp
theorem Wd5 (x:Str):x.length=x.cps.toList.length:=by rfl
theorem Yf0 {α:Type}:∀{l:List (Str×α)},(∀v,(x,v) ∉ l)->l.lookup x=none
 | [],_=>rfl
 | (y,v)::l,h=>by
  have hy:x≠y:=fun e=>h v (by simp[*]);rw[yax,show (x == y)=false from by simp_all];exact Yf0 fun v hv=>h v (zo _ hv)
theorem Zq2:∀{ps:List Str} {us:List Value} {i:Nat} {x:Str} {u:Value},ps.Nodup->ps[i]?=some x->us[i]?=some u->(ps.zip us).reverse.lookup x=some u
 | [],_,_,_,_,_,h,_=>by simp at h
 | _::_,[],_,_,_,_,_,h=>by simp at h
 |p::ps,w::us,0,x,u,nd,h1,h2=>by
  simp at h1 h2;subst h1 h2;rw[List.zip_cons_cons,zr,ybi,Yf0 fun v hv=>(yaf.mp nd).1 (yco (ycz.mp hv)).1];simp
 |p::ps,w::us,i+1,x,u,nd,h1,h2=>by
  have ih:=Zq2 (yaf.mp nd).2 (by assumption) (by assumption);rw[List.zip_cons_cons,zr,ybi,ih];rfl
structure FnScopeC (N ps fv:List Str)(sc:Scope):Prop where
 kind:sc.kind=.function
 co:sc.isCoroutine=false
 gen:sc.isGenerator=false
 nd:N.Nodup
 pre:N.take (ps++fv).length=ps++fv
 par:∀x∈ps,sc.names.lookup x=some .local
 fr:∀x∈fv,sc.names.lookup x=some .free
 nocell:∀y∈sc.names,y.2≠.cell
structure Caught (K:W.Frag)(sc:Scope)(cl:List (Str×Addr))(fv:List Str)(frv:List V):Prop where
 len:frv.length=fv.length
 cell:∀(i:Nat) (x:Str) (v:V),fv[i]?=some x->frv[i]?=some v->∃c o u,cl.lookup x=some c/\K.lookup c=some o/\o.data=.cell (some u)/\RelV v u
 all:∀x c,cl.lookup x=some c->∃o v,K.lookup c=some o/\o.data=.cell v
 inj:∀x y c,cl.lookup x=some c->cl.lookup y=some c->x=y
 has:∀x,sc.names.lookup x=some .free->∃c,cl.lookup x=some c
noncomputable def cxC (CX:CXT)(P:zf)(w:World)(K:W.Frag)(mg:Str->Option Value)(base:Heap)(N:List Str)(qual:Str)(scope:Scope)(f:Addr)(cd:Value)(cl:List (Str×Addr))(A:Around)(outer:List Env)(s:Shared)(H:Hp)(E:XK):Cx where
 prog:=P
 w:=w
 K:=K
 mg:=mg
 base:=base
 A:=A.deeper (W.envX qual scope s.heap.objs.size f cd cl)
 N:=N
 s₀:=s
 H₀:=H
 env:=W.envX qual scope s.heap.objs.size f cd cl
 outer:=outer
 stack:=W.envX qual scope s.heap.objs.size f cd cl::outer
 ex:=[]
 calm:=true
 fn:=fun _=>false
 pn:=[]
 xe:=fun e s'=>wpAny (model P w) (A.deeper (W.envX qual scope s.heap.objs.size f cd cl)) (leaving (W.envX qual scope s.heap.objs.size f cd cl) e) (fun _ s''=>CX outer H s E e s'') (fun e' s''=>CX outer H s E e' s'') s'
theorem Xd3 {P:zf}{base:Heap}{N:List Str}{E:XK}{vs:List V}{h1:Heap}{tk:Nat}(S:FnScopeC N ps fv scope)(C:Caught K scope cl fv frv)(hd:A.handled=none)(e0:Env0 P w K mg base A outer s H)(hl:vs.length=ps.length)(r:Vals vs us)(ns:h1.Ns s.heap.objs.size fun x=>(ps.zip us).reverse.lookup x)(hk:∀b o,s.heap.get? b=some o->h1.get? b=some o):
  Inv (cxC CX P w K mg base N qual scope f cd cl A outer s H E) [] (start N (vs++frv)) H { s with heap:=h1,toks:=tk }:=by
 have J  := by have:=congrArg ybq S.pre;rw[yal] at this;omega
 have j:∀b:Addr,b ∉ (cxC CX P w K mg base N qual scope f cd cl A outer s H E).ex:=fun b z=>absurd (show b∈([]:List _) from z) (by simp)
 have G:(vs++frv).length=(ps++fv).length:=by rw[yd,yd,hl,C.len]
 have k  := fun c o e=>e0.bs c o (e0.mod.kin c o e)
 refine⟨⟨e0.mod,S.kind,rfl,rfl,zg _,C.inj,fun y l=>?_,fun y c z _=>(nomatch (z)),fun _=>hd,Around.frames_deeper e0.frames,.inr ⟨rfl,rfl⟩,fun b z=>absurd z (j b),e0.bs,e0.bsz,fun b _ _=>j b,fun b z=>absurd z (j b),e0.funs,e0.frf⟩,
  rfl,e0.bare,Un.kept hk,⟨_,ns,fun i y v h1 g L=>?_⟩,fun y c h=>?_,e0.hok.fresh (zg _),fun y c h=>?_,fun p d=>absurd (show p∈([]:List _) from d) (by simp),e0.hok.kept hk,?_⟩
 ·rcases l with l | l
  ·exact absurd rfl (S.nocell _ (yah l))
  ·exact C.has y l
 ·have B:i < (vs++frv).length:=by
   unfold start at g
   by_cases B:i < (vs++frv).length
   ·omega
   ·rw[yk (by simpa using B)] at g
    rw[zcp] at g
    split at g<;>cases g
  have n:(vs++frv)[i]?=some v:=by
   unfold start at g;rw[yh (by simpa using B),yba] at g
   cases e:(vs++frv)[i]? with
   |none=>simp_all
   |some a=>simp_all
  have d:(ps++fv)[i]?=some y:=by
   rw[<- S.pre,List.getElem?_take_of_lt (by omega)];exact h1
  have D:(ps++fv).Nodup:=by rw[<- S.pre];exact S.nd.sublist (List.take_sublist _ _)
  by_cases hv:i < vs.length
  ·rw[yh hv] at n
   rw[yh (by omega)] at d;obtain⟨u,F,t⟩:=r.get n;exact⟨u,t,.inl ⟨S.par y (yo d),Zq2 (D.sublist (by simp)) d F⟩⟩
  ·rw[yk (by omega)] at n
   rw[yk (by omega),<- hl] at d;obtain⟨c,o,u,m,q,I,t⟩:=C.cell _ y v d n;refine⟨u,t,.inr ⟨.inr (S.fr y (yo d)),c,m,o,hk c o (k c o q).1,I⟩⟩
 ·obtain⟨o,v,m,q⟩:=C.all y c h
  exact⟨v,o,hk c o (k c o m).1,q⟩
 ·obtain⟨o,v,m,q⟩:=C.all y c h
  exact (k c o m).2
 ·unfold start
  show _=N.length;rw[yd,yn,ybb];omega
theorem Ws8 {P:zf}{base:Heap}{k:Nat}{params:zdh}{body:List Stmt}{cdv:Value}{N:List Str}(lk:K.lookup f=some ⟨oc,od,.func (W.fnX name qual params body scope cl .none .none doc pm none cdv ct),osl⟩)(hcd:yci K cdv qual=true)(S:FnScopeC N ps fv scope)(C:Caught K scope cl fv frv)(len:∀vs H Q E,sp vs H Q E->vs.length=ps.length) (hbody:∀(A:Around) (outer:List Env) (s:Shared) (H:Hp) (vs:List V) (Q:VK) (E:XK),Room k (A.deeper (W.envX qual scope s.heap.objs.size f cdv cl))->sp vs H Q E ->
   ∃t,PSs (cxC CX P w K mg base N qual scope f cdv cl A outer s H E) body t/\t { nx:=fun _ H'=>Q .non H',rt:=Q } (start N (vs++frv)) H):
  FnOk P w K mg base CX (k+1) f (W.fnX name qual params body scope cl .none .none doc pm none cdv ct) ps sp:=by with_unfolding_all
 refine⟨len,fun A outer s H O y vs Q E j d L r g=>?_⟩;have G:=len _ _ _ _ g;have x:K.In s.heap:=d.mod.kin.keeps fun b o e=>(d.bs b o e).1;have l:s.heap.NoLimit:=d.mod.nolimit.keeps fun b o e=>(d.bs b o e).1;refine codeAny_call_function j.depth (x _ _ lk) rfl S.co S.gen rfl (W.codeRec_of x hcd) (L _ _ _ _ ?_);refine wpAny_newFunctionEnv S.nocell (fun⟨n,v⟩ hy=>S.par n (yco hy).1) (fun p B z=>?_) S.kind
 have m:∀b o,s.heap.get? b=some o->p.get? b=some o:=fun b o e=>by
  rw[z.2 b (yq (zj e))];exact ya _ e
 refine⟨l.keeps m,codeAny_func ?_⟩;obtain⟨t,D,F⟩:=hbody A outer s H vs Q E (j.deeper _) g;have I:Inv (cxC CX P w K mg base N qual scope f cdv cl A outer s H E) [] (start N (vs++frv)) H { s with heap:=p,toks:=s.toks+(ps.zip y).length }:=Xd3 S C j.hd d G r B m;refine ybt (D [] _ (start N (vs++frv)) H _ I F) (fun M s' c=>?_) fun e s' c=>c
 have h:∀{a:St} {H':Hp} {v:V} {u:Value},Inv (cxC CX P w K mg base N qual scope f cdv cl A outer s H E) [] a H' s'->RelV v u->Q v H'->CE _ P w H s Q u s' :=
  fun {a H' v u} J i q=>⟨v,H',J.os,J.bare,J.base,J.hok,i,q⟩
 cases M with
 |ret u =>
  obtain⟨v,a,H',J,i,q⟩:=c;exact h J i q
 |next =>
  obtain⟨a,H',J,q⟩:=c;exact h (v:=V.non) J rfl q
 |brk =>
  obtain⟨_,_,_,q⟩:=c
  simp_all
 |cont =>
  obtain⟨_,_,_,q⟩:=c
  simp_all
noncomputable abbrev FZ (o:Obj):HO:=.frz o (.ext fun _=>True)
def SameT (H H':Hp):Prop:=∀b o,(∀ps,o≠.tbl ps)->H b=some o->H' b=some o
theorem SameT.refl (H:Hp):SameT H H:=fun _ _ _ h=>h
theorem SameT.trans (a:SameT H H1)(b:SameT H1 H2):SameT H H2:=fun c o n h=>b c o n (a c o n h)
theorem Same.toT (a:Same H H'):SameT H H':=fun c o _ h=>a c o h
structure SameU (P:Addr)(H H':Hp):Prop where
 toT:SameT H H'
 off:∀b o,b≠P->H b=some o->H' b=some o
 tab:∀o,H P=some o->∃o',H' P=some o'
theorem SameU.trans {P:Addr}(a:SameU P H H1)(b:SameU P H1 H2):SameU P H H2 :=
 ⟨a.toT.trans b.toT,fun c o n h=>b.off c o n (a.off c o n h),fun o h=>by obtain⟨d,e⟩:=a.tab o h;exact b.tab d e⟩
theorem Same.toU {P:Addr}(a:Same H H'):SameU P H H':=⟨a.toT,fun c o _ h=>a c o h,fun o h=>⟨o,a _ _ h⟩⟩
def CodeFz (H:Hp)(cv:Value)(q:Str):Prop:=∃c o vs t,cv=.ref c/\H c=some (FZ o)/\o.data=.fields vs/\vs[1]?=some (.str q t)
theorem CodeFz.keep {cv:Value}{q:Str}(h:CodeFz H cv q)(k:SameT H H'):CodeFz H' cv q:=by
 obtain⟨c,o,a,t,f,e,d,b⟩:=h;exact⟨c,o,a,t,f,k c _ (fun _ z=>nomatch z) e,d,b⟩
def TabOk (H:Hp)(P:Addr)(ds:List (Pos×Str)):Prop :=
 ∃ps,H P=some (.tbl ps)/\TriplesOk ps.toList/\∀d∈ds,∀cv,zcg d.1 ps.toList=some cv->CodeFz H cv d.2
theorem TabOk.keep {P:Addr}(h:TabOk H P ds)(k:Same H H'):TabOk H' P ds:=by
 obtain⟨a,g,f,c⟩:=h;exact⟨a,k _ _ g,f,fun d b i e=>(c d b i e).keep k.toT⟩
theorem TabOk.new {P:Addr}(h:H P=some (.tbl #[])):TabOk H P ds :=
 ⟨#[],h,trivial,fun d _ cv e=>by
  have a:(none:Option _)=some cv:=e
  grind⟩
def FnFz (H:Hp)(f:Addr)(name qual:Str)(params:zdh)(body:List Stmt)(scope:Scope)(cl:List (Str×Addr)):Prop :=
 ∃doc pm ct cv,H f=some (FZ { cls:=.type "function",data:=.func (W.fnX name qual params body scope cl .none .none doc pm none cv ct) })/\CodeFz H cv qual
theorem FnFz.keep {params:zdh}{body:List Stmt}(h:FnFz H f name qual params body scope cl)(k:SameT H H'):FnFz H' f name qual params body scope cl:=by
 obtain⟨a,b,g,e,d,c⟩:=h;exact⟨a,b,g,e,k _ _ (fun _ z=>nomatch z) d,c.keep k⟩
theorem Zz6:∀{l m:List Value},TriplesOk l->TriplesOk m->TriplesOk (l++m)
 | [],m,_,h=>h
 | .int i a::.int j b::c::r,m,h,h'=>by
  show TriplesOk (.int i a::.int j b::c::(r++m));exact Zz6 h h'
theorem Zu5:∀{l m:List Value},TriplesOk l->zcg pos (l++m)=(zcg pos l).or (zcg pos m)
 | [],m,_=>by rfl
 | .int i a::.int j b::c::r,m,h=>by
  show zcg pos (.int i a::.int j b::c::_)=_;rw[zcg,zcg]
  split
  ·rfl
  ·exact Zu5 h
theorem Xu1 {P:zf}{o:Obj}(e:h.get? a=some o):ObjOk P w H h a (FZ o):=⟨e,trivial,⟨o,e⟩,fun _ _ _ _=>trivial⟩
def tDef (i:Nat)(name qual:Str)(params:zdh)(body:List Stmt)(scope:Scope)(cl:List (Str×Addr))(P:Addr)(ds:List (Pos×Str)):TS:=fun D σ H =>
 TabOk H P ds/\∀f H',H f=none->SameU P H H'->TabOk H' P ds->FnFz H' f name qual params body scope cl->D.nx (σ.set i (some (.ref f))) H'
set_option tactic.hygienic true in
theorem Wl0 {params:zdh}{body:List Stmt}{c P:Addr}(hN:X.N.Nodup)(hi:X.N[i]?=some name)(hx:Loc X.env.scope name)(hcl:closureFor scope X.env=pure cl)(hc:X.env.code=.ref c)(hC:∀h,X.K.In h->W.CodeHd h c P)(hB:∀h,X.K.In h->h.BuiltinsAt X.mg P)(hP:ye≠P)(hq:qualnameIn X.env name name=qual)(hd:(pos,qual)∈ds)(hds:∀d∈ds,d.1.line=pos.line->d.1.col=pos.col->d.2=qual)(h1:params.defaults=[])(h2:params.kw_defaults=[])(h3:annTrees params none X.env=[])(hf:X.fn name=true∨X.env.scope.names.lookup name=some .local:=by first | exact .inl rfl | exact .inr rfl | assumption):
  PS X (.FunctionDef name params body [] none [] scope none name pos) (tDef i name qual params body scope cl P ds):=by with_unfolding_all
 intro pins s σ H D I h;obtain⟨⟨ps,hp,ht,hcs⟩,q⟩:=h;refine W.nestDef_K h1 h2 h3 ?_;rw[hq];have kX:=I.kIn;have hPs:s.heap.get? P=some (W.tabObj ps):=I.hok P _ hp
 have mgs:s.heap.Ns ye X.mg:=by
  obtain⟨o,es,ep,e,d,r⟩:=I.ok.mod.glob;exact⟨o,es,ep,I.bk _ _ e,d,r⟩
 have fin:∀{H':Hp} {s':Shared} {f:Addr},Inv X pins σ H' s'->H f=none->SameU P H H'->TabOk H' P ds->FnFz H' f name qual params body scope cl ->
   wpAny (model X.prog X.w) X.A (storeName X.env name (.ref f)) (fun _ s''=>SP X pins D .next s'') X.xe s':=fun {H' s' f} J g1 g2 g3 g4 =>
  Zs6 (v:=.ref f) J hN hi hx rfl (fun s'' J'=>⟨_,_,J',q f H' g1 g2 g3 g4⟩) hf
 cases hm:zcg pos ps.toList with
 |some cv =>
  refine W.makeFunction_hit hcl I.ok.glob mgs hc (hC _ kX) hPs ht hm (hB _ kX) fun ctv doc h' tk hk hsz=>?_
  have kk:∀b o,s.heap.get? b=some o->(h'.push { cls:=zaa "function",data:=Data.func (W.fnX name qual params body scope cl yz yz doc ((X.mg (ze "__name__")).getD yz) none cv ctv) }).get? b=some o :=
   fun b o e=>ya _ (hk b o e)
  have hn:H h'.objs.size=none:=I.hok.fresh hsz;have J:=I.laid (a:=h'.objs.size) (o:=FZ _) (t':=tk) kk hsz (Xu1 (zh _ rfl))
  have e1:Same H (upd H h'.objs.size (FZ { cls:=zaa "function",data:=Data.func (W.fnX name qual params body scope cl yz yz doc ((X.mg (ze "__name__")).getD yz) none cv ctv) })):=fun b u z=>by rw[Za9 (Zb0 z hn)];exact z
  exact fin J hn e1.toU (TabOk.keep ⟨ps,hp,ht,hcs⟩ e1) ⟨_,_,_,_,Za5,(hcs _ hd cv hm).keep e1.toT⟩
 |none =>
  refine W.makeFunction_K hcl I.ok.glob mgs hc (hC _ kX) hPs ht hm hP (hB _ kX) fun c' ctv doc h' tk ext hc1 hc2 hcr htab=>?_;obtain⟨c2,co,vs,t,e1,e2,e3,e4⟩:=hcr;cases e1;have hPl:P < s.heap.objs.size:=zj hPs
  have hsz:s.heap.objs.size<=h'.objs.size:=by omega
  have nf:H h'.objs.size=none:=I.hok.fresh hsz;have nc:H c'=none:=I.hok.fresh hc1
  have ncf:c'≠h'.objs.size:=by omega
  have nPc:P≠c':=yq (zn hPl hc1);have nPf:P≠h'.objs.size:=yq (zn hPl hsz);generalize hfo:({ cls:=zaa "function",data:=Data.func (W.fnX name qual params body scope cl yz yz doc ((X.mg (ze "__name__")).getD yz) none (yt c') ctv) }:Obj)=fo;generalize htr:ps++#[rawInt _,rawInt _,yt c']=ps';rw[htr] at htab
  have hps':ps'.toList=ps.toList++[rawInt pos.line,rawInt pos.col,yt c']:=by rw[<- htr];simp
  have gk:∀b o,b≠P->s.heap.get? b=some o->(h'.push fo).get? b=some o:=fun b o hb e=>ya _ (ext b o hb e)
  have oP:∀b,b≠P->b≠c'->b≠h'.objs.size->(upd (upd (upd H P (.tbl ps')) c' (FZ co)) _ (FZ fo)) b=H b:=fun b n1 n2 n3=>by rw[Za9 n3,Za9 n2,Za9 n1]
  have oPP:upd (upd (upd H P (.tbl ps')) c' (FZ co)) h'.objs.size (FZ fo) P=some (.tbl ps'):=by rw[Za9 nPf,Za9 nPc,Za5]
  have oc:upd (upd (upd H P (.tbl ps')) c' (FZ co)) h'.objs.size (FZ fo) c'=some (FZ co):=by rw[Za9 ncf,Za5]
  have of':upd (upd (upd H P (.tbl ps')) c' (FZ co)) h'.objs.size (FZ fo) _=some _:=Za5;generalize (upd _ _ _)=H' at oP oPP oc of'
  have tr:∀b u,(∀ps,u≠HO.tbl ps)->H b=some u->H' b=some u:=fun b u nu z=>by
   rw[oP b (fun w=>nu ps (by simp_all)) (Zb0 z nc) (Zb0 z nf)];exact z
  have hok:HOk X.prog X.w H' _:=fun b u z=>by
   by_cases b1:b=h'.objs.size
   ·subst b1;rw[of'] at z;cases z;exact Xu1 (zh _ (by rw[<- hfo];rfl))
   by_cases b2:b=c'
   ·subst b2;rw[oc] at z;cases z;exact Xu1 (ya _ e2)
   by_cases b3:b=P
   ·subst b3;rw[oPP] at z;cases z;exact ya _ htab
   rw[oP b b3 b2 b1] at z;refine (I.hok b u z).stay (fun d v hd e=>gk d v (fun w=>?_) e) (fun d z=>tr d _ (fun _ q=>nomatch q) z) fun d xs z=>tr d _ (fun _ q=>nomatch q) z
   grind
  have un:Un X.fs [] H H' s.heap (h'.push fo):=by
   refine⟨fun b o e n _ _=>gk b o (fun w=>by rw[w,hp] at n;cases n) e,fun b o e n _ _=>⟨o.slots,gk b o (fun w=>by rw[w,hp] at n;cases n) e⟩,fun b o e n _=>?_,fun b o e _=>?_,fun b xs z=>tr b _ (fun _ q=>nomatch q) z,fun b o u z=>tr b _ (fun _ q=>nomatch q) z,fun b ps2 z=>?_⟩
   ·rw[oP b (fun w=>by rw[w,hp] at n;cases n) (yq (zn (zj e) hc1)) (yq (zn (zj e) hsz))];exact n
   ·by_cases b3:b=P
    ·subst b3;exact⟨_,ya _ htab⟩
    ·exact⟨o,gk b o b3 e⟩
   ·by_cases b3:b=P
    ·subst b3
     rw[hp] at z;cases z;exact⟨_,by rw[oPP,<- htr]⟩
    ·rw[oP b b3 (Zb0 z nc) (Zb0 z nf),z];simp
  have J:Inv X _ σ H' { s with heap:=h'.push fo,toks:=tk }:=I.un un hok;have sT  := tr;have sU:SameU P H H':=⟨tr,fun b u hb z=>by rw[oP b hb (Zb0 z nc) (Zb0 z nf)];exact z,fun _ _=>⟨_,oPP⟩⟩;have cf:CodeFz H' _ _:=⟨c',co,vs,t,rfl,oc,e3,e4⟩
  have tri  := by
   exact trivial
  have tab:TabOk H' P ds:=by
   refine⟨ps',oPP,by rw[hps'];exact Zz6 ht tri,fun d hd' cv e=>?_⟩;rw[hps',Zu5 ht] at e
   cases hm':zcg d.1 _ with
   |some cv2 =>
    rw[hm'] at e;cases e;exact (hcs d hd' cv hm').keep sT
   |none =>
    rw[hm',ydm] at e;unfold rawInt at e;rw[zcg] at e
    split at e
    ·rename_i hh
     cases e
     have hh':d.1.line=pos.line/\d.1.col=pos.col:=by
      have:=hh;simp at this;omega
     simp[*]
    ·simp[zcg] at e
  rw[show W.fnMade _ _ _ _ _ cl doc _ c' ctv=fo from hfo];exact fin J nf sU tab ⟨doc,_,ctv,.ref c',by rw[of',<- hfo],cf⟩
def KLe (K K':W.Frag):Prop:=∀a o,K.lookup a=some o->K'.lookup a=some o
noncomputable def remX (xs:List (Addr×Obj))(H:Hp):Hp:=fun b=>if b∈xs.map (·.1) then none else H b
noncomputable def Zs0 (xs:List (Addr×Obj))(H H2:Hp):Hp:=fun b=>if b∈xs.map (·.1) then H b else H2 b
theorem Zm4 (h:b∈xs.map (·.1)):remX xs H b=none:=by unfold remX;simp[*]
theorem Zd2 (h:b ∉ xs.map (·.1)):remX xs H b=H b:=by unfold remX;simp[*]
theorem Zl2 (h:b∈xs.map (·.1)):Zs0 xs H H2 b=H b:=by unfold Zs0;simp[*]
theorem Ze5 (h:b ∉ xs.map (·.1)):Zs0 xs H H2 b=H2 b:=by unfold Zs0;simp[*]
theorem Yb7:∀{l:List (Addr×Obj)} {p:Addr×Obj},(∀q∈l,q.1=p.1->q.2=p.2)->p∈l->l.lookup p.1=some p.2
 | [],_,_,h=>absurd h (by simp)
 |q::l,p,hc,h=>by
  rw[show q::l=(q.1,q.2)::l from rfl,yax]
  by_cases e:q.1=p.1
  ·simp[*]
  ·rw[show (p.1 == q.1)=false from by simpa using fun z=>e z.symm]
   exact Yb7 (fun r hr=>hc r (zo _ hr)) (by grind)
theorem Zl4:∀{l:List (Addr×Obj)} {a:Addr} {o:Obj},l.lookup a=some o->(a,o)∈l
 | [],_,_,h=>by cases h
 | (b,u)::l,a,o,h=>by
  rw[yax] at h
  split at h
  ·grind
  ·exact zo _ (Zl4 h)
theorem Zq4 {base base':Heap}:∀{l:List Env},h.FunFrames base l->(∀b∈frs l,base'.get? b=none)->h.FunFrames base' l
 | [],_,_=>trivial
 |env::r,⟨hk,⟨L,o,hf,hn,ho,hd⟩,hr⟩,g=>by
  have e:frs (env::r)=L::frs r:=by unfold frs;simp_all
  rw[e] at g;exact⟨hk,⟨L,o,hf,g L zak,ho,hd⟩,Zq4 hr fun b hb=>g b (zo _ hb)⟩
section
variable {k:Nat}{fd:zc}
theorem Wa8 {Q:VK}{vs:List V}(xs cs:List (Addr×Obj))(I:Inv X pins σ H s)(hxs:∀p∈xs,H p.1=some (FZ p.2))(hcs:∀p∈cs,s.heap.get? p.1=some p.2/\H p.1=none/\p.1 ∉ frs X.stack)(F:∀base,FnOk X.prog X.w (X.K++(xs++cs)) X.mg base CX0 k f fd ps sp)(hr:Room k X.A)(hb:Binds X.K fd ps [])(r:Vals vs us)(h:sp vs (remX xs H) (fun v H2=>(∀p∈xs,H2 p.1=none)->Q v (Zs0 xs H H2)) E0):wpAny (model X.prog X.w) X.A (call (.ref f) us) (EP X pins σ Q) X.xe s:=by
 have T  := fun p j=>(I.hok _ _ (hxs p j)).1;have S  := fun p j=>(yg.mp j).elim (T p) fun z=>(hcs p z).1
 let good:Addr->Prop:=fun b=>(X.base.get? b).isSome=true∨b∈(xs++cs).map (·.1)
 let hid:List _:=(zbt s.heap.objs.size).filter fun b=>!(decide (X.base.get? b).isSome=true||decide (b∈(xs++cs).map (·.1)))
 have O:∀b,good b->b ∉ hid:=fun b g hm=>by
  grind
 have Y:∀b,¬good b->b < s.heap.objs.size->b∈hid:=fun b g hl=>by
  refine List.mem_filter.mpr ⟨List.mem_range.mpr hl,?_⟩;rw[decide_eq_false fun z=>g (.inl z),decide_eq_false fun z=>g (.inr z)];rfl
 let base':Heap:=W.hideAll s.heap hid
 have M:∀b o,s.heap.get? b=some o->good b->base'.get? b=some o:=fun b o e g=>W.hideAll_get _ e (O b g)
 have L:∀b o,base'.get? b=some o->s.heap.get? b=some o/\good b:=fun b o e=>by
  have i  := W.of_hideAll hid e;refine⟨i,?_⟩
  by_cases g:good b
  ·exact g
  ·rw[(W.hideAll_none hid (Y b g (zj i)))] at e;cases e
 have gb  := fun b o e=>M b o (I.bk b o e) (.inl (by simp_all))
 have R:∀b,good b->remX xs H b=none:=fun b g=>by
  rcases g with g | g
  ·obtain⟨o,e⟩:=ybn.mp g
   by_cases z:b∈xs.map (·.1)
   ·exact Zm4 z
   ·rw[Zd2 z];exact (I.bs b o e).2
  ·rw[zam] at g
   rcases yg.mp g with g | g
   ·exact Zm4 g
   ·by_cases z:b∈xs.map (·.1)
    ·exact Zm4 z
    ·rw[Zd2 z]
     obtain⟨p,j,rfl⟩:=zax.mp g;exact (hcs p j).2.1
 have U:W.Frag.In (X.K++(xs++cs)) _:=fun a o e=>by
  rw[ybi] at e
  cases z:zaj a X.K with
  |some C =>
   rw[z] at e;cases e;exact gb a o (I.ok.mod.kin a o z)
  |none =>
   rw[z,ydm] at e;have hm  := Zl4 e;exact M a o (S _ hm) (.inr (zax.mpr ⟨_,hm,rfl⟩))
 have D:∀{b:Addr} {m:Str->Option _},X.base.Ns b m->base'.Ns b m:=fun {b m} ⟨o,es,ep,e,d,r⟩=>⟨o,es,ep,gb b o e,d,r⟩
 have c:∀b,b∈xs.map (·.1)->∃o,H b=some (FZ o)/\s.heap.get? b=some o:=fun b z=>by
  obtain⟨p,j,rfl⟩:=zax.mp z;exact⟨p.2,hxs p j,T p j⟩
 have N:∀b∈frs _,base'.get? b=none:=fun b hb=>by
  cases z:base'.get? b with
  |none=>rfl
  |some o =>
   obtain⟨e,g⟩:=L b o z;rcases g with g | g
   ·have:=(I.stack.mem hb).1
    rw[this] at g;simp at g
   ·rw[zam] at g
    rcases yg.mp g with g | g
    ·obtain⟨C,i,_⟩:=c b g
     rw[I.stkFree b hb] at i;cases i
    ·obtain⟨p,j,rfl⟩:=zax.mp g
     exact absurd hb (hcs p j).2.2
 have e0:Env0 X.prog X.w (X.K++(xs++cs)) X.mg base' X.A X.stack s (remX xs H):=by
  refine⟨I.ok.frames,⟨U,D I.ok.mod.glob,?_,?_⟩,fun b o e=>⟨(L b o e).1,R b (L b o e).2⟩,zcy (W.hideAll_size _ _),Zq4 I.stack N,fun b hb=>?_,fun a o z=>?_,I.bare⟩
  ·obtain⟨mb,h1,h2⟩:=I.ok.mod.blt
   exact⟨mb,D h1,h2⟩
  ·obtain⟨mc,h1,h2⟩:=I.ok.mod.nolimit
   exact⟨mc,D h1,h2⟩
  ·by_cases z:b∈xs.map (·.1)
   ·exact Zm4 z
   ·rw[Zd2 z];exact I.stkFree b hb
  ·by_cases y:a∈xs.map (·.1)
   ·rw[Zm4 y] at z;cases z
   ·rw[Zd2 y] at z
    refine (I.hok a o z).stay (fun b u _ e=>e) (fun b q=>?_) fun b x q=>?_
    ·rw[Zd2 fun y=>by obtain⟨C,i,_⟩:=c b y;rw[q] at i;cases i];exact q
    ·rw[Zd2 fun y=>by obtain⟨C,i,_⟩:=c b y;rw[q] at i;cases i];exact q
 have hl:us.length=ps.length:=by rw[<- r.length];exact (F base').len _ _ _ _ h
 have q1  := by
  have:=hb s us I.kIn (by rw[yac];exact hl);rw[yac] at this;exact this
 refine wpAny_call (zdk ((F _).run X.A _ s _ ⟨us,[]⟩ us vs _ E0 hr e0 q1 r h) fun rr s' J=>?_)
 cases rr with
 |error e=>exact ycm J
 |ok fl =>
  cases fl with
  |next=>exact ycm J
  |brk=>exact ycm J
  |cont=>exact ycm J
  |ret u =>
   obtain⟨v,H2,os,q0,l,Z,rv,q⟩:=J
   have t:∀b,b∈xs.map _->H2 b=none:=fun b z=>by
    obtain⟨o,_,e⟩:=c b z;exact l.free b o e (Zm4 z) (by simp)
   have B:∀{b:Addr} {u:HO},H b=some u->(∀o,u≠FZ o)->b ∉ xs.map (·.1):=fun {b u} e n z=>by
    grind
   refine⟨v,Zs0 xs H H2,I.call' os ⟨fun b o e n hb G=>l.keep b o e ?_ hb G,fun b o e n hb G=>l.slot b o e ?_ hb G,fun b o e n G=>?_,l.there,fun b x e=>?_,fun b o u e=>?_,fun b x e=>?_⟩ (fun a o z=>?_) q0 fun b z=>absurd z (by simp),rv,q fun p j=>t p.1 (zax.mpr ⟨p,j,rfl⟩)⟩
   ·by_cases z:b∈xs.map (·.1)
    ·exact Zm4 z
    ·rw[Zd2 z];exact n
   ·by_cases z:b∈xs.map (·.1)
    ·exact Zm4 z
    ·rw[Zd2 z];exact n
   ·by_cases z:b∈xs.map (·.1)
    ·rw[Zl2 z];exact n
    ·rw[Ze5 z];exact l.free b o e (by rw[Zd2 z];exact n) G
   ·have z:=B e fun _ q=>nomatch q
    rw[Ze5 z];exact l.tups b x (by rw[Zd2 z];exact e)
   ·by_cases z:b∈xs.map (·.1)
    ·rw[Zl2 z];exact e
    ·rw[Ze5 z];exact l.frzs b o u (by rw[Zd2 z];exact e)
   ·have z:=B e fun _ q=>nomatch q
    rw[Ze5 z];exact l.tbls b x (by rw[Zd2 z];exact e)
   ·by_cases y:a∈xs.map (·.1)
    ·rw[Zl2 y] at z
     obtain⟨C,i,g⟩:=c a y;rw[z] at i;cases i;exact Xu1 (l.keep a C g (Zm4 y) (fun hb=>by rw[I.stkFree a hb] at z;cases z) (by simp))
    ·rw[Ze5 y] at z
     refine (Z a o z).stay (fun b u _ e=>e) (fun b q=>?_) fun b x q=>?_
     ·rw[Ze5 fun y=>by rw[t b y] at q;cases q];exact q
     ·rw[Ze5 fun y=>by rw[t b y] at q;cases q];exact q
theorem Ym8 (h:Same (remX xs H) H2):Same H (Zs0 xs H H2):=fun b o e=>by
 by_cases z:b∈xs.map (·.1)
 ·rw[Zl2 z];exact e
 ·rw[Ze5 z];exact h b o (by rw[Zd2 z];exact e)
def Xq0 (X:Cx)(σ:St)(ix:List Nat)(cs:List (Addr×Obj)):Prop :=
 Paired (fun (i:Nat) (p:Addr×Obj)=>∃x v u,X.N[i]?=some x/\σ[i]?=some (some v)/\X.env.cells.lookup x=some p.1/\p.2.data=.cell (some u)/\RelV v u) ix cs
def Zl7 (X:Cx)(k:Nat)(f:Addr)(fd:zc)(ps:List Str)(ix:List Nat)(t:TA):TE:=fun σ H Q=>t σ H fun vs H1=>(∀i∈ix,∃v,σ[i]?=some (some v))/\∃xs:List (Addr×Obj),(∀p∈xs,H1 p.1=some (FZ p.2)) /\
 ∀(K':W.Frag) (cs:List (Addr×Obj)),X.Ok->KLe X.K K'->(∀a o,K'.lookup a=some o->X.K.lookup a=some o∨(a,o)∈xs++cs)->(∀p∈xs++cs,K'.lookup p.1=some p.2)->Xq0 X σ ix cs ->
  ∃sp:Sp,(∀base,FnOk X.prog X.w K' X.mg base CX0 k f fd ps sp)/\sp vs (remX xs H1) (fun v H2=>(∀p∈xs,H2 p.1=none)->Q v (Zs0 xs H1 H2)) E0
theorem Inv.cellsAt (I:Inv X pins σ H s):∀(ix:List Nat),(∀i∈ix,∃x,X.N[i]?=some x/\X.env.scope.names.lookup x=some .cell/\X.fn x=true)->(∀i∈ix,∃v,σ[i]?=some (some v)) ->
  ∃cs,Xq0 X σ ix cs/\∀p∈cs,s.heap.get? p.1=some p.2/\H p.1=none/\p.1 ∉ frs X.stack/\X.K.lookup p.1=none
 | [],_,_=>⟨[],.nil,fun _ h=>absurd h (by simp)⟩
 |i::ix,h1,h2=>by
  obtain⟨cs,g1,g2⟩:=I.cellsAt ix (fun j hj=>h1 j (zo _ hj)) fun j hj=>h2 j (zo _ hj);obtain⟨x,e1,e2,e3⟩:=h1 i zak;obtain⟨v,e4⟩:=h2 i zak;obtain⟨m,_,hm⟩:=I.loc;obtain⟨u,rv,lk⟩:=hm i x v e1 e4 (.inr (.inl e2));rcases lk with ⟨lk,_⟩ | ⟨_,c,lk,o,ho,hd⟩
  ·have lk':X.env.scope.names.lookup x=some .local:=lk
   simp_all
  ·have hc:=I.ok.cab x c e3 lk
   refine⟨(c,o)::cs,.cons ⟨x,v,u,e1,e4,lk,hd,rv⟩ g1,fun p hp=>?_⟩;rcases zd.mp hp with rfl | hp
   ·refine⟨ho,I.freeC x c lk,fun hb=>?_,?_⟩
    ·rcases zd.mp (I.stkSub _ hb) with z | z
     ·exact I.cne x c lk z
     ·obtain⟨_,o',ho',_⟩:=I.ok.funs.mem z
      exact absurd (zj ho') (Nat.not_lt.mpr hc)
    ·cases z:X.K.lookup c with
     |none=>rfl
     |some o'=>exact absurd (zj (I.ok.bs c o' (I.ok.mod.kin c o' z)).1) (Nat.not_lt.mpr hc)
   ·exact g2 p hp
theorem Zp6 {p:Pos}{e:Expr}{es:List Expr}{t:TA}{ix:List Nat}(hr:Room k X.A)(hg:Gl X x)(hm:X.mg x=some (.ref f))(hk:zan X.K (.ref f)=true)(hb:Binds X.K fd ps [])(hix:∀i∈ix,∃x,X.N[i]?=some x/\X.env.scope.names.lookup x=some .cell/\X.fn x=true)(ha:PA X (e::es) t)(hdb:(x == ("__debug__":Str))=false:=by decide)(he:zx (e::es) X.env=(false,eval e X.env)::zx es X.env:=by rfl)(hpl:(backTo pos (zx es X.env)).any (·.1)=false:=by rfl):
  PE X (.Call (.Name x p) (e::es) [] pos) (Zl7 X k f fd ps ix t):=by with_unfolding_all
 intro j s n H Q I h;refine yar (Zo6 I hg hm ?_ hdb);refine W.callWith_K (h₀:=X.base) I.ok.mod.kin hk (thn (ha pos j s n H _ I h) fun us s1 ⟨vs,H1,I1,r,hσ,xs,hxs,q⟩=>⟨I1.kIn,?_⟩) he hpl;obtain⟨d,B,g⟩:=I1.cellsAt ix hix hσ;have l:∀p∈xs,s1.heap.get? p.1=some p.2:=fun p b=>(I1.hok _ _ (hxs p b)).1;have c:∀p∈xs++d,s1.heap.get? p.1=some p.2:=fun p b=>(yg.mp b).elim (l p) fun z=>(g p z).1
 obtain⟨C,F,v⟩:=q _ d I1.ok (fun a o z=>by
   show zaj a (X.K++(xs++d))=some o
   rw[ybi,show zaj a X.K=some o from z];rfl) (fun a o z=>by
   have z:zaj a (X.K++(xs++d))=some o:=z;rw[ybi] at z
   cases y:zaj a X.K with
   |some o' =>
    rw[y] at z;cases z;exact .inl rfl
   |none =>
    rw[y,ydm] at z
    exact .inr (Zl4 z)) (fun p b=>by
   have u:X.K.lookup p.1=none:=by
    rcases yg.mp b with z | z
    ·cases y:X.K.lookup p.1 with
     |none=>rfl
     |some o =>
      have:=(I1.bs p.1 o (I1.ok.mod.kin _ _ y)).2;rw[hxs p z] at this;cases this
    ·exact (g p z).2.2.2
   show zaj p.1 (X.K++(xs++d))=some p.2;rw[ybi,show zaj p.1 X.K=none from u,ydm]
   exact Yb7 (fun q w e=>by
    have m:=c q w;rw[e,c p b] at m
    exact (zu m).symm) b) B
 exact Wa8 xs d I1 hxs (fun p b=>⟨(g p b).1,(g p b).2.1,(g p b).2.2.1⟩) F hr hb r v
end
theorem Xl1 {P:zf}{mb:Str->Option Value}{k:Nat}{fa:Addr}{fd:zc}{s₁:Shared}{ns:List Int}(KX:K.In s₁.heap)(hns:s₁.heap.Ns ye mg)(hb:s₁.heap.Ns zdf mb)(hbb:∀x:Str,x≠"__name__"->mb x=ybc x)(hlim:s₁.heap.NoLimit)(hg:s₁.gens=#[])(ha:s₁.heap.get? a=some { cls:=.type "list",data:=.seq vs.toArray })(hi:IntsAre vs ns)(hl:ns.length<=zi)(hr:Room k callerA)(hT:∀p∈ts,s₁.heap.get? p=some (W.tabObj #[]))(hTK:∀p∈ts,K.lookup p=none)(hTc:∀p∈ts,isCodeTable s₁.heap p)(F:∀base:Heap,K.In base->base.Ns ye mg->FnOk P w K mg base CX k fa fd [x] sp)(hbind:∀(s:Shared) (u:Value),BindsTo s fd ⟨[u],[]⟩ [(x,u)])(hsp:∀H:Hp,(∀p∈ts,H p=some (.tbl #[]))->SqL K H a (ns.map V.int)->sp [.ref a] H (fun v _=>v=.bl true) fun _ _ _=>False)(hCX:∀H e s',CX [] H s₁ (fun _ _ _=>False) e s'->False):
  ycd (model P w) callerA (.call (.ref fa) ⟨[.ref a],[]⟩) (fun r s'=>r=.ok (.ret (.bool true))/\OldK s₁.heap s'.heap/\s'.os=s₁.os/\zdp s'.gens) s₁:=by
 have N:=Zz4 hi;have T:=hi.length
 have i:∀H:Hp,(∀b u,H b=some u->(b=a/\K.lookup a=none/\∃D,u=.frz { cls:=.type "list",data:=.seq vs.toArray } (.lst D))∨b∈ts/\u=.tbl #[])->(∀p∈ts,H p=some (.tbl #[]))->SqL K H a (ns.map V.int)->HOk P w H s₁.heap ->
   ycd (model P w) callerA (.call (.ref fa) ⟨[.ref a],[]⟩) (fun r s'=>r=.ok (.ret (.bool true))/\OldK s₁.heap s'.heap/\s'.os=s₁.os/\zdp s'.gens) s₁:=by
  intro H Y J U l;have c:∀{b:Addr} {o:Obj},s₁.heap.get? b=some o->H b=none->(hidT _ H).get? b=some o:=fun e n=>Xu0 e n
  have G:∀{b:Addr} {o:Obj} {es:Array _} {ep:Nat},s₁.heap.get? b=some o->o.data=.dict es ep->H b=none:=fun {b o es ep} e d=>by
   cases q:H b with
   |none=>rfl
   |some u =>
    grind
  have f:∀{b:Addr} {m:Str->Option _},s₁.heap.Ns b m->(hidT _ H).Ns b m:=fun {b m} ⟨o,es,ep,e,d,r⟩=>⟨o,es,ep,c e (G e d),d,r⟩
  have t  := fun b o e=>c (KX b o e) (by
   cases q:H b with
   |none=>rfl
   |some u =>
    grind)
  have X:Mod K mg _:=⟨t,f hns,⟨mb,f hb,hbb⟩,let ⟨mc,h1,h2⟩:=hlim;⟨mc,f h1,h2⟩⟩;have e0:Env0 P w K mg _ callerA [] _ H:=⟨rfl,X,fun b o e=>Wc9 e,zcy (Xm9 _ _),trivial,fun b hb=>absurd (show b∈([]:List _) from hb) (by simp),l,.of_eq hg⟩;refine zdk ((F _ t (f hns)).run _ [] _ H ⟨[.ref a],[]⟩ [.ref a] [.ref a] _ _ hr e0 (hbind _ _) (.cons rfl .nil) (hsp H J U)) fun r s' h=>?_
  cases r with
  |error e=>exact (hCX H e s' h).elim
  |ok fl =>
   cases fl with
   |next=>exact ycm h
   |brk=>exact ycm h
   |cont=>exact ycm h
   |ret u =>
    obtain⟨v,H',S,B,j,g,O,q⟩:=h;have R  := q;subst R;obtain rfl:u=yde _:=O;refine⟨rfl,⟨fun b o e=>?_,fun b o e=>j.there b o e (by simp)⟩,S,B⟩
    cases q:H b with
    |none=>exact .inl (j.keep b o e q (by intro z;exact absurd (show b∈([]:List _) from z) (by simp)) (by simp))
    |some u =>
     rcases Y b u q with ⟨rfl,_,D,rfl⟩ | ⟨hb,rfl⟩
     ·obtain⟨L,_⟩:=l b _ q
      obtain⟨Z,_⟩:=g b _ (j.frzs b _ _ q);rw[e] at L;cases L;exact .inl Z
     ·obtain⟨y,M⟩:=j.tbls b _ q
      rw[hT b hb] at e;cases e;exact .inr (.inl ⟨hTc b hb,rfl,#[],y,rfl,(g b _ M)⟩)
 have I:a ∉ ts:=fun z=>by
  grind
 cases hk:K.lookup a with
 |some o =>
  have e:=KX a o hk;rw[ha] at e;cases e;refine i (fun b=>if b∈ts then some _ else none) (fun b u z=>?_) (fun p A=>if_pos A) (.inr ⟨_,vs.toArray,_,hk,rfl,rfl,rfl,by simp_all,by omega⟩) fun b u z=>?_
  ·simp_all
  ·by_cases hb:b∈ts
   ·cases ((if_pos hb).symm.trans z)
    exact hT b hb
   simp_all
 |none =>
  refine i (fun b=>if b∈ts then some _ else if b=a then some (.frz { cls:=.type "list",data:=.seq vs.toArray } _) else none) (fun b u z=>?_) (fun p A=>if_pos A) (.inl (.inr ⟨{ cls:=.type "list",data:=.seq _ },(if_neg I).trans (if_pos rfl)⟩)) fun b u z=>?_
  ·grind
  ·by_cases hb:b∈ts
   ·cases ((if_pos hb).symm.trans z)
    exact hT b hb
   ·have C:=(if_neg hb).symm.trans z
    by_cases hba:b=a
    ·rw[if_pos hba] at C
     cases C;subst hba;exact⟨ha,by simp_all,vs,_,N,ha⟩
    simp_all
structure BltK (K:W.Frag)(mg:Str->Option Value)(bm:Addr):Prop where
 m:mg (ze "__builtins__")=some (.ref bm)
 l:∃ob,K.lookup bm=some ob/\ob.cls=.type "module"/\ob.dict=some zdf/\ob.data=.plain
 n1:bm≠zdf
 n2:bm≠ye
theorem BltK.at {bm:Addr}(b:BltK K mg bm)(n:bm≠T)(h:Heap)(k:K.In h):h.BuiltinsAt mg T:=by
 obtain⟨a,l,c,d,e⟩:=b.l;exact⟨bm,a,b.m,b.n1,b.n2,n,k _ _ l,c,d,e⟩
end L2
namespace Ken
open PySem L2
theorem Ze7:ybc "len"=some (.builtin "len"):=by rfl
theorem boot_max:ybc "max"=some (.builtin "max"):=by rfl
theorem Yv7:ybc "sorted"=some (.builtin "sorted"):=by rfl
theorem Yk9:ybc "int"=some (.type "int"):=by rfl
theorem Xe0:ybc "tuple"=some (.type "tuple"):=by rfl
theorem Xp4:ybc "list"=some (.type "list"):=by rfl
inductive Kd where
 |both | one | thn
 deriving DecidableEq
noncomputable def Kd.str:Kd->Str
 | .both=>"both"
 | .one=>"one"
 | .thn=>"then"
inductive Tm where
 |low
 |ltr (w:Str)
 |nd (k:Kd) (a b:Tm)
 deriving DecidableEq
noncomputable def Tm.data:Tm->PyData
 | .low=>.tuple [.str "low"]
 | .ltr w=>.tuple [.str "letter",.str w]
 | .nd k a b=>.tuple [.str k.str,a.data,b.data]
noncomputable def Tm.parts:Tm->Nat
 | .low=>1
 | .ltr _=>1
 | .nd _ a b=>1+a.parts+b.parts
noncomputable def Tm.deep:Tm->Nat
 | .low=>1
 | .ltr _=>1
 | .nd _ a b=>1+max a.deep b.deep
theorem Tm.parts_pos:∀t:Tm,1<=t.parts
 | .low=>zg _
 | .ltr _=>zg _
 | .nd _ a b=>by show 1<=1+a.parts+b.parts;omega
def Word (x:Str):Prop:=1<=x.cps.toList.length/\x.cps.toList.length<=8/\∀c∈x.cps.toList,97<=c/\c<=122
theorem Word.strOk (h:Word x):ybw x=true:=by
 unfold ybw;rw[Array.all_eq_true_iff_forall_mem];intro c a;have:=h.2.2 c (by simp_all);exact decide_eq_true (by omega)
def Tm.ok:Tm->Prop
 | .low=>True
 | .ltr w=>Word w
 | .nd _ a b=>a.ok/\b.ok
abbrev IsT (K:W.Frag)(H:Hp)(v:V)(t:Tm):Prop:=Dn K H v t.data
theorem Tm.noList:∀t:Tm,L2.noList t.data=true
 | .low=>rfl
 | .ltr _=>rfl
 | .nd k a b=>by
  show (true&&(L2.noList _&&(L2.noList _&&true)))=true;rw[a.noList,b.noList];rfl
theorem Tm.lay:∀t:Tm,t.ok->t.data.canLay0=true
 | .low,_=>by
  decide +kernel
 | .ltr w,h=>by
  show (ybw "letter"&&(ybw w&&true))=true;rw[Word.strOk h];decide +kernel
 | .nd k a b,h=>by
  show (ybw _&&(a.data.canLay0&&(b.data.canLay0&&true)))=true;rw[a.lay h.1,b.lay h.2]
  cases k<;>decide +kernel
theorem Tm.depth:∀t:Tm,t.data.depth=t.deep
 | .low=>rfl
 | .ltr _=>rfl
 | .nd k a b=>by
  show max 0 (max _ (max _ 0))+1=1+max _ _;rw[a.depth,b.depth];omega
section
variable {v:V}
theorem IsT.keep {t:Tm}(h:IsT K H v t)(k:KeepT K H H'):IsT K H' v t:=Dn.keepT k t.noList h
theorem isT_low:IsT K H v .low↔∃a,v=.ref a/\SqT K H a [.str "low"]:=by
 constructor
 ·rintro⟨a,f,rfl,b,c⟩
  obtain⟨x,r,rfl,e,d⟩:=c;rw[Dn] at e;rw[DnAll] at d
  simp_all
 ·rintro⟨a,rfl,b⟩
  refine⟨a,_,rfl,b,?_⟩;exact⟨_,_,rfl,by rw[Dn],by rfl⟩
theorem isT_ltr {w:Str}:IsT K H v (.ltr w)↔∃a,v=.ref a/\SqT K H a [.str "letter",.str w]:=by
 constructor
 ·rintro⟨a,h,rfl,b,c⟩
  obtain⟨x,r,rfl,g,f⟩:=c;obtain⟨y,r,rfl,e,d⟩:=f;rw[Dn] at g e;rw[DnAll] at d
  simp_all
 ·rintro⟨a,rfl,b⟩
  refine⟨a,_,rfl,b,?_⟩;refine⟨_,_,rfl,by rw[Dn],?_⟩;exact⟨_,_,rfl,by rw[Dn],by rfl⟩
theorem isT_nd {k:Kd}{a b:Tm}:IsT K H v (.nd k a b)↔∃p x y,v=.ref p/\SqT K H p [.str k.str,x,y]/\IsT K H x a/\IsT K H y b:=by
 constructor
 ·rintro⟨p,l,rfl,c,f⟩
  obtain⟨x,r,rfl,e,d⟩:=f;obtain⟨y,r,rfl,j,i⟩:=d;obtain⟨z,r,rfl,h,g⟩:=i;subst e g;exact⟨p,y,z,rfl,c,j,h⟩
 ·rintro⟨p,x,y,rfl,c,e,d⟩
  refine⟨p,_,rfl,c,?_⟩;refine⟨_,_,rfl,by rw[Dn],?_⟩;refine⟨_,_,rfl,e,?_⟩;exact⟨_,_,rfl,d,by rfl⟩
end
theorem Wf4 (a b c d e f:PyData):zae [a,b,c] [d,e,f]=(yaw a d&&(yaw b e&&yaw c f)):=by
 simp[zae]
theorem Kd.str_inj {a b:Kd}(h:a.str=b.str):a=b:=by
 cases a<;>cases b<;>first | rfl | exact absurd h (by decide)
theorem Tm.eqv:∀s t:Tm,yaw s.data t.data=decide (s=t)
 | .low,.low=>by decide
 | .low,.ltr w=>by
  rfl
 | .low,.nd k a b=>by
  show zae [.str "low"] [.str _,a.data,b.data]=_;simp[zae]
 | .ltr w,.low=>by
  rfl
 | .ltr w,.ltr v=>by
  show (yaw (.str "letter") (.str "letter")&&(yaw _ _&&true))=_;simp;rfl
 | .ltr w,.nd k a b=>by
  show zae [.str "letter",.str w] [.str _,a.data,b.data]=_;simp[zae]
 | .nd k a b,.low=>by
  show zae [.str _,a.data,b.data] [.str "low"]=_;simp[zae]
 | .nd k a b,.ltr w=>by
  show zae [.str _,a.data,b.data] [.str "letter",.str w]=_;simp[zae]
 | .nd k a b,.nd l c d=>by
  show zae [.str _,a.data,b.data] [.str _,c.data,d.data]=_;rw[Wf4,a.eqv c,b.eqv d]
  have e:yaw (.str k.str) (.str l.str)=decide (k=l):=by
   show (k.str == l.str)=_
   by_cases h:k=l
   ·simp_all
   ·have  := fun z=>h (Kd.str_inj z)
    grind
  grind
noncomputable def mix (c k:Int):Int:=((c+1)*(48271+118*k) % 2147483629 / 977*16807+(c+1)*(48271+118*k) % 2147483629*(k*k+7)+k) % 2147483587
theorem Zh2 (c k:Int):0<=mix c k:=by exact yu _ (by decide)
inductive sp_mix:Sp
 |mk {vs H Q E:_} (c k:Int):vs=[.int c,.int k]->0<=k->k<=100000->Q (.int (mix c k)) H->sp_mix vs H Q E
noncomputable def cellOf (ns:List Int)(k:Int):Int:=mix (if k < (ns.length:Int) then (ns[k.toNat]?.getD 0) % 2147483647 else 0) (k+101)
theorem Wg0 (ns:List Int)(k:Int):0<=cellOf ns k:=Zh2 _ _
inductive sp_cell (K:W.Frag):Sp
 |mk {vs H Q E:_} (a:Addr) (ns:List Int) (k:Int):vs=[.ref a,.int k]->SqL K H a (ns.map V.int)->ns.length<=63->0<=k->k<=1000->Q (.int (cellOf ns k)) H->sp_cell K vs H Q E
def Yw0 (ws:List Str):Prop:=2<=ws.length/\ws.length<=6/\∀w∈ws,Word w
inductive sp_words:Sp
 |mk {vs H Q E:_} (c m:Int):vs=[.int c,.int m]->0<=c->2<=m->m<=6->(∀(r:Addr) (H':Hp) (ws:List Str),Same H H'->H r=none->H' r=some (.lst (ws.map V.str))->Yw0 ws->Q (.ref r) H')->sp_words vs H Q E
def Tm.inW (ws:List Str):Tm->Prop
 | .low=>True
 | .ltr w=>w∈ws
 | .nd _ a b=>a.inW ws/\b.inW ws
theorem Tm.inW.ok (hw:∀w∈ws,Word w):∀{t:Tm},t.inW ws->t.ok
 | .low,_=>trivial
 | .ltr w,h=>hw w h
 | .nd _ a b,h=>⟨Tm.inW.ok hw h.1,Tm.inW.ok hw h.2⟩
noncomputable def rk (n:Int):Nat:=if n < 40 then n.toNat else if n<=53 then 40 else if n<=71 then 41 else if n<=95 then 42 else if n<=127 then 43 else if n<=170 then 44 else if n<=227 then 45 else 46
theorem Wk6 {n:Int}(h0:3<=n)(h1:n < 40):rk (n - 2) < rk n:=by
 unfold rk;rw[if_pos (by omega),if_pos (by omega)];omega
theorem Xh7 {n m:Int}(h0:3<=n)(h1:n < 40)(h2:m<=n - 1):rk m < rk n:=by
 unfold rk;rw[if_pos (by omega),if_pos (by omega)];omega
theorem Xq1 {c:Nat}{n:Int}(h1:97<=c)(h2:c<=122)(h3:1<=n)(h4:n<=8):Word (zcv ⟨#[c]⟩ n):=by
 unfold Word;rw[zbm];refine⟨by rw[ybb];omega,by simp_all,fun d a=>?_⟩;rw[List.mem_replicate] at a;omega
theorem Xq2 {c:Nat}{a b:Int}(h1:97<=c)(h2:c<=122)(h3:97<=d)(h4:d<=122)(h5:0<=a)(h6:0<=b)(h7:a+b<=7):Word (zcv ⟨#[c]⟩ a++⟨#[d]⟩++zcv ⟨#[c]⟩ b):=by
 unfold Word;rw[Yf8,Yf8,zbm,zbm];refine⟨by simp only[yd,zac];omega,by simp only[yd,ybb,zac,List.length_nil];omega,fun e f=>?_⟩;simp only[yg,List.mem_replicate,zd,zq,or_false] at f;omega
theorem Xk2 {c:Nat}{n:Int}:(zcv ⟨#[c]⟩ n).length=n.toNat:=by rw[Wd5,zbm,ybb]
noncomputable def Xz2 (x:Str):Bool:=decide (1<=x.cps.toList.length)&&decide (x.cps.toList.length<=8)&&x.cps.toList.all fun c=>decide (97<=c)&&decide (c<=122)
theorem Xz1 (h:Xz2 x=true):Word x:=by
 unfold Xz2 at h;simp only[yr,decide_eq_true_eq,zay] at h;exact⟨h.1.1,h.1.2,fun c a=>by simp[*]⟩
def Six (H0 H:Hp)(p:Addr)(ws:List Str):Prop:=Same H0 H/\H0 p=none/\H p=some (.lst (ws.map V.str))/\ws.length=6/\∀w∈ws,Word w
theorem Yc5 (ws:List Str)(lo hi:Option Int):cutV (ws.map V.str) lo hi=((ws.drop (HT.sIx ws.length 0 lo)).take (HT.sIx ws.length ws.length hi - HT.sIx ws.length 0 lo)).map V.str:=by
 unfold cutV;simp
noncomputable def kd4 (i:Int):Kd:=if i=0 then .both else if i=1 then .one else .thn
theorem Wu4 {i:Int}(h0:0<=i)(h1:i < 4):atI [V.str "both",V.str "one",V.str "then",V.str "then"] i=some (.str (kd4 i).str):=by
 have:i=0∨i=1∨i=2∨i=3:=by omega
 rcases this with rfl | rfl | rfl | rfl<;>rfl
theorem Wg3 {α:Type}{xs:List α}{i:Int}(h0:0<=i)(h1:i < (xs.length:Int)):∃v,v∈xs/\atI xs i=some v:=by
 obtain⟨j,rfl⟩:=Int.eq_ofNat_of_zero_le h0
 have a:j < xs.length:=by omega
 exact⟨xs[j],zcj a,Zc0 (by simp)⟩
theorem Zd9 (h:n<=1000000):n < zi:=ycp h (by decide)
theorem isT_tup {v:V}{t:Tm}(h:IsT K H v t):∃a xs,v=.ref a/\SqT K H a xs:=by
 cases t with
 |low=>obtain⟨a,rfl,b⟩:=isT_low.mp h;exact⟨a,_,rfl,b⟩
 |ltr w=>obtain⟨a,rfl,b⟩:=isT_ltr.mp h;exact⟨a,_,rfl,b⟩
 |nd k x y=>obtain⟨a,d,c,rfl,b,_,_⟩:=isT_nd.mp h;exact⟨a,_,rfl,b⟩
theorem paired_get {α β:Type}{F:α->β->Prop}:∀{l:List α} {m:List β} {i:Nat} {x:α},Paired F l m->l[i]?=some x->∃y,m[i]?=some y/\F x y
 | _,_,0,_,.cons h t,e=>by cases e;exact⟨_,rfl,h⟩
 | _,_,i+1,_,.cons h t,e=>paired_get (i:=i) t (by assumption)
end Ken
variable {S S' Γ Γ0 Γ2:List Ken.Tm}{g0:Ken.Tm}
namespace L2
open PySem PySem.Spec PyProof.Rows
noncomputable def Ite (K:W.Frag)(l:Addr):It :=
  ⟨fun i H=>∃xs x,SqL K H l xs/\xs[i]?=some x,
   fun i H v H'=>∃T x,v=.ref T/\H T=none/\H'=upd H T (.tup [.int i,x])/\∀xs,SqL K H l xs->xs[i]?=some x,
   fun i H=>∃xs,SqL K H l xs/\xs.length<=i⟩
def enSt (e it l:Addr)(i:Nat)(h:Heap):Prop:=(∃old,IsEnum h e it i old)/\h.IsListIter it l i
theorem Xf5 {P:zf}{elts:List Expr}(e it l:Addr)(hne:e≠it):
    Turn P w K (.Tuple elts k0 tpos) (Ite K l) [e,it] e (enSt e it l) where
  mem:=by simp
  obj:=fun i h d b a=>by
    obtain⟨⟨g,f⟩,⟨o1,e1,c1,d1⟩⟩:=d
    grind
  keep:=fun i h h' d k=>by
    obtain⟨⟨g,f⟩,y⟩:=d;exact⟨⟨g,k e (by simp) _ f⟩,y.at fun o q=>k it (by simp) o q⟩
  item:=by
    intro X hP V hK hc i B s O H E I p d Z;subst hP V hK;obtain⟨⟨g,f⟩,y⟩:=d;obtain⟨R,x,M,hx⟩:=Z;obtain⟨U,z,T,_⟩:=I.list M;obtain⟨S,q7,q0⟩:=z.get hx;refine wpAny_pyNext_enum_item f y T.isList (x:=S) (by simp_all) hne fun h' a1 a2 a5 a6 kk=>?_;have t:H s.heap.objs.size=none:=I.hok.fresh (by simp)
    have N:∀b u,H b=some u->b ∉ [e,it]:=fun b u q a=>by rw[(p b a).1] at q;cases q
    have j:∀b o,b ∉ [e,it]->s.heap.get? b=some o->h'.get? b=some o:=fun b o a q=>by
      simp_all
    have C:∀b o,s.heap.get? b=some o->b≠s.heap.objs.size:=fun b o q=>yq (zj q)
    have Y:HOk _ X.w (upd H _ (.tup [.int i,x])) h':=fun b ob q=>by
      by_cases a:b=s.heap.objs.size
      · subst a
        rw[Za5] at q;cases q;exact⟨by show 2<=zi;decide,[.int i _,S],.cons ⟨_,rfl⟩ (.cons q0 .nil),_,a5,rfl,_,rfl⟩
      · rw[Za9 a] at q
        refine (I.hok b ob q).stay (fun c v D A=>j c v ?_ A) (fun c A=>by rw[Za9 (Zb0 A t)];omega) fun c R A=>by rw[Za9 (Zb0 A t)];omega
        rcases D with rfl | D
        · exact N _ _ q
        · exact N _ _ D
    have I1:Inv X B O (upd H s.heap.objs.size (.tup [.int i,x])) { s with heap:=h',toks:=s.toks+1 }:=by
      refine I.step (fun b a=>?_) (fun b o _ _ a q _=>j b o a q) (fun b o _ _ a q _=>⟨o.slots,j b o a q⟩) (fun b o _ q n=>by rw[Za9 (C b o q)];exact n) (fun b o a q=>⟨o,j b o a q⟩)
        (fun b R q=>by rw[Za9 (Zb0 q t)];exact q) (fun b o u q=>by rw[Za9 (Zb0 q t)];exact q) (fun b ps q=>⟨#[],by rw[Za9 (Zb0 q t),q];simp⟩) (fun m hm=>?_) Y I.bare
      · obtain⟨f0,L,f2,J,G,F⟩:=p b a
        exact⟨J,L,G,F⟩
      · obtain⟨o,es,ep,ho,r⟩:=hm
        refine⟨o,es,ep,j _ o ?_ ho,r⟩;simp;exact⟨(p e (by simp)).2.1.symm,(p it (by simp)).2.1.symm⟩
    refine⟨_,rfl,wpAny_letOwnedTupleGo_enum a1 fun q4 q5 sb=>?_⟩;obtain⟨f0,L,f2,J,G,F⟩:=p e (by simp)
    have q2:∀b∈[e,it],b≠s.heap.objs.size:=fun b a=>by
      simp at a;obtain⟨o1,e1,_⟩:=y;rcases a with rfl | rfl
      · exact C _ _ f
      · exact C _ _ e1
    have fn:∀b∈[e,it],upd H _ (.tup [.int i,x]) b=none:=fun b a=>by rw[Za9 (q2 b a)];exact (p b a).1
    have I2:Inv X _ O _ { s with heap:=q4,toks:=s.toks+1 }:=I1.turned (fun b o a q=>(sb.2 b a).trans q) (fn e (by simp)) L J G F;refine⟨.ref _,_,I2,rfl,⟨_,x,rfl,t,rfl,fun ys q3=>by rw[I.list_inj q3 M];omega⟩,⟨⟨S,?_⟩,?_⟩,fn⟩
    · assumption
    · exact a2.extBut sb.extBut (zbe hne)
  done:=by
    intro X hP V hK hc i B s O H E I p d Z;subst hP V hK;obtain⟨⟨g,f⟩,y⟩:=d;obtain⟨R,M,q6⟩:=Z;obtain⟨U,z,T,_⟩:=I.list M;have e1:=z.length;refine wpAny_pyNext_enum_end (I.ok.hd hc) f y T.isList (by simp_all) fun h' eb=>⟨rfl,?_⟩;obtain⟨f0,L,f2,J,G,F⟩:=p it (by simp);exact I.turned (fun b o a q=>eb b o a q) f0 L J G F
  self:=fun _ _ _ _ _ d h=>by
    obtain⟨⟨g,f⟩,_⟩:=d;exact wpAny_pyIter_enum f h
section
def Yu9 (K:W.Frag)(ta:TA):TI:=fun σ H R=>ta σ H fun vs H1=>∃a,vs=[.ref a]/\(∃xs,SqL K H1 a xs)/\R (Ite K a) H1
theorem Wb6 {a:Expr}{ta:TA}{p:Pos}{elts:List Expr}(hg:Gl X "enumerate")(hm:X.mg "enumerate"=none)(ha:PA X [a] ta)(hs:zx [a] X.env=[(false,eval a X.env)]:=by rfl):
  PI X (.Tuple elts k0 tpos) (.Call (.Name "enumerate" p) [a] [] pos) (Yu9 X.K ta):=by with_unfolding_all
 intro f s g H R I h;refine Call_ (Zq3 I hg hm (by rfl) (zaf (thn (ha pos f s g H _ I h) fun us s1 ⟨vs,H1,I1,r1,d⟩=>?_) (by assumption) rfl));obtain⟨l,e,⟨w,d⟩,q⟩:=d;subst e;obtain⟨x,rfl,i⟩:=r1.one;cases i;obtain⟨n,v,m,_⟩:=I1.list d;refine call_enumerate_list m.isList fun t j r _ o=>wpAny_pyIter_enum j ?_;have u:Inv X _ g H1 { s1 with heap:=t }:=I1.kept o;refine⟨_,_,_,_,H1,rfl,u,Xf5 _ _ l (Nat.succ_ne_self _),⟨⟨_,j⟩,r⟩,fun b k=>?_,q⟩
 have c:s1.heap.objs.size<=b:=by
  simp at k
  rcases k with rfl | rfl<;>omega
 exact I1.fpOk c (I1.hok.fresh c)
end
theorem Ys8 {K:W.Frag}{es:List Expr}{k:Nat}{t:TGs}{n:Nat}(hc:X.calm=true)(hK:X.K=K)(h:PGs X es t)(hn:(ycu es X.env).length=n)(hst:(ycu es X.env).findIdx? (·.1)=none):PG X (.Tuple es k pos) (gTup K n t):=hK▸Zi2 hc h hn hst
end L2
namespace Ken
open PySem L2
theorem Zj6 {α β:Type}{F:α->β->Prop}:∀{l:List α} {m:List β},Paired F l m->Paired F l.reverse m.reverse
 | _,_,.nil=>.nil
 | _,_,.cons h t=>by rw[zr,zr];exact Paired.snoc (Zj6 t) h
theorem Zg2 {α β:Type}{F:α->β->Prop}:∀{l l':List α} {m m':List β},Paired F l m->Paired F l' m'->Paired F (l++l') (m++m')
 | _,_,_,_,.nil,q=>q
 | _,_,_,_,.cons h t,q=>.cons h (Zg2 t q)
end Ken
namespace L2
open PySem PySem.Spec PyProof.Rows
noncomputable abbrev TK:=St->Hp->(Hp->Prop)->Prop
def Xp0 (σ0:St)(J:It)(g:TG)(tk:TK)(Q:Hp->Prop)(W:Nat->Nat->Hp->Prop):Prop :=
 ∀i m H2,W i m H2->(J.stop i H2/\Q H2)∨(J.go i H2/\∀x H3,J.yld i H2 x H3->g x σ0 H3 fun σ4 H4=>Wk σ0 σ4/\tk σ4 H4 fun H5=>∃m',m' < m/\W (i+1) m' H5)
def PTn (Y:Cx)(body:Sem Unit)(tk:TK):Prop:=∀(pins:List (Addr×Obj)) (s:Shared) (σ:St) (H:Hp) (N:Hp->Prop),Inv Y pins σ H s->tk σ H N ->
 wpAny (model Y.prog Y.w) Y.A body (fun _ s'=>∃σ' H',Inv Y pins σ' H' s'/\Wk σ σ'/\N H') Y.xe s
def Zq5 (e:Expr)(d:Nat)(tg:Expr)(p:Pos)(acc:Value)(env:Env)(body:Sem Unit):Prop:=∀it,compTurn e d it acc env=(standAt p >>= fun _=>pyNext it >>= fun r=>match r with
   |none=>pure (.done .next)
   |some v=>letOwnedTupleGo tg it v >>= fun _=>assign tg env v >>= fun _=>body >>= fun _=>again (.compLoop e d it acc env))
def Xe9 (prog:zf)(w:World)(A:Around)(e:Expr)(d:Nat)(acc:Value)(env:Env):Prop:=∀it,
 (model prog w).den (.compLoop e d it acc env)=(compTurn e d it acc env).onRaise (fun x=>do noteFrame x env;theTreesLotGoes x)/\A.under (.compLoop e d it acc env)=A /\
 (∃p,(model prog w).den (.compStart e d it acc env)=(compStart e d it acc env).onRaise (fun x=>do noteFrame x env;standAt p))/\A.under (.compStart e d it acc env)=A
theorem Xo8 {Y:Cx}{e tg:Expr}{p:Pos}{g:TG}{tk:TK}{body:Sem Unit}{tn:Nat->Heap->Prop}{J:It}{Q:Hp->Prop}{R:Result->Shared->Prop}{i0 m0:Nat}{W:Nat->Nat->Hp->Prop}(hc:Y.calm=true)(hxe:Y.xe=fun _ _=>False)(hden:Xe9 Y.prog Y.w Y.A e d acc Y.env)(eq:Zq5 e d tg p acc Y.env body)(hg:PG Y tg g)(hb:PTn Y body tk)(T:Turn Y.prog Y.w Y.K tg J fp it tn)(hfp:∀(H':Hp),(∀b∈fp,H' b=none)->∀b∈fp,FpOk Y pins H' b)(hW:Xp0 σ0 J g tk Q W)(hR:∀s' H',Inv Y pins σ0 H' s'->Q H'->R (.ok .next) s')(I:Inv Y pins σ0 H1 s)(hst:tn i0 s.heap)(hfr:∀b∈fp,H1 b=none)(w:W i0 m0 H1):
  ycd (model Y.prog Y.w) Y.A (.compLoop e d (.ref it) acc Y.env) R s:=by with_unfolding_all
 have y:∀{M:Model} {A:Around} {env:Env} {E:Value->Shared->Prop} (x:Value) (s:Shared),Y.xe x s->notedBy M A env E x s:=fun x s z=>by simp_all
 refine codeAny_loop rfl (fun n s=>∃i a,Inv Y pins σ0 a s/\tn i s.heap/\(∀b∈fp,a b=none)/\W i n a) (fun n s O=>?_) m0 ⟨i0,H1,I,hst,hfr,w⟩;obtain⟨i,a,D,h,j,G⟩:=O;rw[(hden (.ref it)).1,(hden (.ref it)).2.1];refine wpAny_noted ?_;rw[eq];refine za (zco (za ?_));rcases hW i n a G with ⟨k,q⟩ | ⟨U,l⟩
 ·refine thn (T.done Y rfl rfl rfl hc i _ s σ0 a _ D (hfp a j) h k) fun r v c=>?_;obtain⟨m,X⟩:=c
  subst m;exact yb (hR v a X q)
 ·refine thn (T.item Y rfl rfl rfl hc i pins s σ0 a _ D (hfp a j) h U) fun r v c=>?_;obtain⟨u,m,S⟩:=c
  subst m;refine za (thn S fun _ L c=>?_);obtain⟨x,t,V,N,F,f,B⟩:=c;have C:=V.pinned (hfp t B) (T.obj _ _ f);refine za (ybt (hg _ L σ0 t x u _ C N (l x t F)) (fun _ s6 ⟨σ6,H6,I6,hw6,q6⟩=>?_) y);refine za (ybt (hb _ s6 σ6 H6 _ I6 q6) (fun _ s8 ⟨σ8,H8,I8,hw8,m',hm',w7⟩=>?_) y);refine yb ⟨rfl,m',hm',i+1,H8,?_,(T.keep _ _ _ f fun b hb o e=>(I8.pin (b,o) (zm _ (zm _ (Zp8 hb e)))).1),fun b hb=>?_,w7⟩
  ·have:=hw6.trans hw8
   exact I8.unpinned.weak this.1.symm this.2
  ·obtain⟨o,e,Z⟩:=T.obj _ _ f b hb
   exact (I8.pin (b,o) (zm _ (zm _ (Zp8 hb e)))).2.1
theorem Zo8 {prog:zf}{R:Result->Shared->Prop}{e:Expr}{g:zbj}{it:Value}(hden:Xe9 prog w A e d acc env)(hcl:(clausesOf e)[d]?=some g)(ha:g.is_async=0)(h0:ycd (model prog w) A (.compLoop e d it acc env) R s)(h:wpAny (model prog w) A (pyIter it) (fun it' s'=>ycd (model prog w) A (.compLoop e d it' acc env) R s') (notedBy (model prog w) A env fun x s'=>R (.error x) s') s):
  ycd (model prog w) A (.compStart e d it acc env) R s:=by
 refine codeAny_of_tree ?_;obtain⟨p,b⟩:=(hden it).2.2.1;rw[b,(hden it).2.2.2];refine wpAny_notedAt ?_;unfold compStart;rw[hcl]
 have c:(some g).elim false fun x=>x.is_async != 0=false:=by simp_all
 rw[c,if_neg yi];refine za (yat ?_)
 split
 ·exact yb ⟨rfl,h0⟩
 ·refine za (ybu (za (zco (za (ybt h (fun it' s' a=>yb ⟨rfl,a⟩) fun _ _ z=>z)))))
theorem Wt6 {prog:zf}{elt:Expr}{gens:List zbj}:Xe9 prog w A (.ListComp elt gens scope pos) d acc env:=fun a=>⟨rfl,rfl,⟨_,rfl⟩,rfl⟩
theorem Wx5 {prog:zf}{elt:Expr}{gens:List zbj}:Xe9 prog w A (.SetComp elt gens scope pos) d acc env:=fun a=>⟨rfl,rfl,⟨_,rfl⟩,rfl⟩
theorem Wx6 {prog:zf}{k v:Expr}{gens:List zbj}:Xe9 prog w A (.DictComp k v gens scope pos) d acc env:=fun a=>⟨rfl,rfl,⟨_,rfl⟩,rfl⟩
noncomputable def Xu5 (elt:Expr)(acc:Value)(env:Env):Sem Unit:=eval elt env >>= fun x=>call (.builtin "list.append") [acc,x] >>= fun _=>pure ()
noncomputable def Wf6 (elt:Expr)(acc:Value)(env:Env):Sem Unit:=eval elt env >>= fun v=>standAt elt.pos >>= fun _=>call (.builtin "set.add") [acc,v] >>= fun _=>pure ()
noncomputable def Wt2 (k v:Expr)(d:Addr)(env:Env):Sem Unit:=eval k env >>= fun kv=>holding [kv] (eval v env) >>= fun vv=>standAt { line:=k.pos.line,col:=k.pos.col,endLine:=v.pos.endLine,endCol:=v.pos.endCol } >>= fun _=>holding [kv,vv] (dictSet d kv vv)
noncomputable def Xg2 (c:Expr)(env:Env)(body:Sem Unit):Sem Unit:=PySem.isTrue c env (eval c env) >>= fun ok=>if ok=true then body else pure ()
noncomputable def Wy2 (e:Expr)(d:Nat)(iter:Expr)(acc:Value)(env:Env):Sem Unit:=eval iter env >>= fun x=>standAt iter.pos >>= fun _=>zba iter env x >>= fun x=>holding [x] (pyIter x) >>= fun it=>runOwn (.compStart e d it acc env) env >>= fun _=>pure ()
theorem Xz7 {elt tg iter:Expr}:Zq5 (.ListComp elt [⟨tg,iter,[],0⟩] scope pos) 0 tg iter.pos acc env (Xu5 elt acc env):=fun a=>by
 rfl
theorem Xz6 {elt tg iter c:Expr}:Zq5 (.ListComp elt [⟨tg,iter,[c],0⟩] scope pos) 0 tg iter.pos acc env (Xg2 c env (Xu5 elt acc env)):=fun b=>by
  simp only[compTurn,Xg2,Xu5,List.getElem?_cons_zero,ydh,bind_assoc,if_true,ycy];refine bind_congr fun _=>bind_congr fun r=>?_
  cases r with
  |none=>rfl
  |some v =>
    refine bind_congr fun _=>bind_congr fun _=>?_
    first
      |rfl
      | (refine bind_congr fun a => ?_
         cases a<;>simp)
      |simp
theorem Xz5 {elt tg iter c:Expr}:Zq5 (.SetComp elt [⟨tg,iter,[c],0⟩] scope pos) 0 tg iter.pos acc env (Xg2 c env (Wf6 elt acc env)):=fun b=>by
  simp only[compTurn,Xg2,Wf6,List.getElem?_cons_zero,ydh,bind_assoc,if_true,ycy];refine bind_congr fun _=>bind_congr fun r=>?_
  cases r with
  |none=>rfl
  |some v =>
    refine bind_congr fun _=>bind_congr fun _=>?_
    first
      |rfl
      | (refine bind_congr fun a => ?_
         cases a<;>simp)
      |simp
theorem Xz8 {elt tg iter iter2:Expr}:Zq5 (.DictComp elt iter2 [⟨tg,iter,[],0⟩] scope pos) 0 tg iter.pos (.ref a) env (Wt2 elt iter2 a env):=fun b=>by
 rfl
def kApp (te:TE)(acc:Addr):TK:=fun σ H N=>te σ H fun y H5=>∃ys,H5 acc=some (.lst ys)/\ys.length < zi/\N (upd H5 acc (.lst (ys++[y])))
def Yt9 (tc:TT)(tk:TK):TK:=fun σ H N=>tc σ H fun b H1=>if b=true then tk σ H1 N else N H1
section
theorem Yy0 {elt:Expr}{acc:Addr}(he:PE Y elt te):PTn Y (Xu5 elt (.ref acc) Y.env) (kApp te acc):=by with_unfolding_all
 intro c s a H N I h;refine za (thn (he c s a H _ I h) fun v j b=>?_);obtain⟨y,g,o,k,i,e,d,n⟩:=b;refine za (thn (Ze6 _ j a g (.ref acc) [y] _ [v] (fun _ f=>f=upd g acc _) o rfl (.cons k .nil) ⟨acc,i,y,rfl,rfl,e,d,rfl⟩) fun _ p b=>?_);obtain⟨_,f,m,_,l⟩:=b;subst l;exact yb ⟨a,_,m,Wk.refl _,n⟩
theorem Xi6 {c:Expr}{tc:TT}{body:Sem Unit}{tk:TK}(ht:PT Y c tc)(hb:PTn Y body tk):PTn Y (Xg2 c Y.env body) (Yt9 tc tk):=by with_unfolding_all
 intro d s a H N I h;refine za (thn (ht d s a H _ I h) fun b j i=>?_);obtain⟨g,f,e⟩:=i
 cases b with
 |true =>
  exact hb _ j a g N f e
 |false =>
  exact yb ⟨a,g,f,Wk.refl _,e⟩
end
def Yd4 (nt:Nat)(ci:List Nat)(wi:TI)(g:TG)(tk:Addr->TK)(o0:HO):TE:=fun σ H Q=>wi σ H fun J H1=>∀acc,H1 acc=none->∃W:Nat->Nat->Hp->Prop,(∃m,W 0 m (upd H1 acc o0))/\Xp0 (capt nt ci σ) J g (tk acc) (fun H2=>Q (.ref acc) H2) W
def Zw4 (nt:Nat)(ci:List Nat)(wi:TI)(g:TG)(tk:Addr->TK)(o0:Addr->HO):TE:=fun σ H Q=>wi σ H fun J H1=>∀acc,H1 acc=none->∃W:Nat->Nat->Hp->Prop,(∃m,W 0 m (upd H1 acc (o0 acc)))/\Xp0 (capt nt ci σ) J g (tk acc) (fun H2=>Q (.ref acc) H2) W
section
theorem Xe2 {o0:HO}(B:BlkOk X scope cl N' nt ci)(I:Inv X pins σ H s)(hf:∀b∈fp,FpOk X pins H b)(ho:∀b∈fp,∃o,s.heap.get? b=some o){acc:Addr}{h1:Heap}{tk:Nat}(hacc:acc=s.heap.objs.size)(hC:C=s.heap.objs.size+1)(k:∀b u,s.heap.get? b=some u->h1.get? b=some u)(ns:h1.Ns C fun _=>none)(ha:ObjOk X.prog X.w (upd H acc o0) h1 acc o0):
    Inv (blk X N' scope cl s H C fp) [] (capt nt ci σ) (upd H acc o0) { s with heap:=h1,toks:=tk }:=by
  have U:H acc=none:=I.hok.fresh (by simp_all);have q1:H C=none:=I.hok.fresh (by simp_all)
  have h:∀x c,cl.lookup x=some c->c < s.heap.objs.size:=fun x c e=>by
    obtain⟨v,q⟩:=I.cell x c (B.sub x c e);exact q.lt
  refine⟨⟨I.ok.mod,B.kind,I.ok.glob,I.ok.blt,?_,fun x y c G f=>I.ok.inj x y c (B.sub _ _ G) (B.sub _ _ f),fun x S=>B.has x S,fun x c z=>Bool.noConfusion z,fun W=>I.ok.hd W,I.ok.frames,.inl rfl,fun b a=>?_,I.bs,?_,fun b o e a=>?_,fun b a=>?_,I.stack,fun b a=>I.stkFree b a⟩,
    rfl,I.bare,Un.laid k (by rw[hacc];exact zg _) U,⟨_,ns,fun i x v G f e3=>?_⟩,fun x c e=>?_,?_,fun x c e=>?_,fun p T=>absurd (show p∈([]:List _) from T) (by simp),I.hok.laid k (by simp_all) ha,?_⟩
  · show s.heap.objs.size<=C
    simp_all
  · obtain⟨L,D,A,t,n,J⟩:=hf b a
    obtain⟨o,e⟩:=ho b a;refine⟨?_,fun x c Z=>n x c (B.sub x c Z)⟩;rw[hC];exact yq (zcc (zj e))
  · exact yj I.ok.bsz I.sz
  · obtain⟨L,D,A,t,n,J⟩:=hf b a
    rcases t with z | z
    · exact I.ok.noex b o e z
    · exact absurd (zn (zj e) (yj I.ok.bsz z)) (by simp)
  · intro z
    obtain⟨L,D,A,t,n,J⟩:=hf b a;rcases zd.mp (I.stkSub b z) with y | y
    · exact D y
    · exact A y
  ·
    obtain⟨m,hm,V⟩:=I.loc;unfold capt at f
    by_cases hi:i < nt
    · rw[yh (by simp_all),zcp] at f
      simp_all
    · rw[yk (by simp_all),ybb,yba] at f
      cases q:ci[i - nt]? with
      |none=>simp_all
      |some j =>
        rw[q] at f;have g:(σ[j]?).join=some v:=zu f;obtain⟨y,O,a2,a3,N⟩:=B.cap _ j q
        have Y:nt+(i - nt)=i:=by omega
        rw[Y,show N'[i]?=some x from G] at O;cases O
        have F:σ[j]?=some (some v):=by
          cases z:σ[j]? with
          |none=>rw[z] at g;cases g
          |some w=>rw[z] at g;exact congrArg some g
        obtain⟨u,r,l⟩:=V j x v a2 F (.inr (.inl a3));refine⟨u,r,.inr ⟨N,?_⟩⟩;rcases l with ⟨R,_⟩ | ⟨_,c,c1,c2⟩
        · have q0:X.env.scope.names.lookup x=some .local:=R
          simp_all
        · obtain⟨c',M⟩:=B.has x N
          have:=B.sub x c' M;rw[c1] at this;cases this;exact⟨c,M,let ⟨o,e,d⟩:=c2;⟨o,k _ _ e,d⟩⟩
  · obtain⟨v,q⟩:=I.cell x c (B.sub x c e)
    exact⟨v,let ⟨o,e,d⟩:=q;⟨o,k _ _ e,d⟩⟩
  · show upd H acc o0 C=none
    rw[Za9 (by simp_all)];omega
  · rw[Za9 (by rw[hacc];exact yq (h x c e))]
    exact I.freeC x c (B.sub x c e)
  · show (capt nt ci σ).length=N'.length
    unfold capt;rw[yd,ybb,yn,B.len]
theorem Zz3 {e:Expr}{gs:List zbj}{ifs:List Expr}{newAcc:Sem Value}{ob:Obj}{o0:Addr->HO}{tk:Addr->TK}{tg iter:Expr}{g:TG}{use:Option (Value->Sem Unit)}{Q:VK}{Qf:Value->Shared->Prop}(B:BlkOk X scope cl N' nt ci)(hc:X.calm=true)(hi:PI X tg iter wi)(hg:∀s H C ex,PG (blk X N' scope cl s H C ex) tg g)(hcl:clausesOf e=⟨tg,iter,ifs,0⟩::gs)(hden:∀acc env,Xe9 X.prog X.w X.A e 0 acc env)(htn:∀a env,Zq5 e 0 tg p0 (.ref a) env (body a env))(hb:∀s H C ex a,PTn (blk X N' scope cl s H C ex) (body a (blk X N' scope cl s H C ex).env) (tk a))(hnew:∀{A:Around} {E:Value->Shared->Prop} {s:Shared} {Q:Value->Shared->Prop},Q (.ref s.heap.objs.size) { s with heap:=s.heap.push ob }->wpAny (model X.prog X.w) A newAcc Q E s)(hfree:ob.isFreed=false)(hobj:∀(H:Hp) (h:Heap) (a:Addr),h.get? a=some ob->zaw < a->ObjOk X.prog X.w (upd H a (o0 a)) h a (o0 a))(hs:∀x,zba iter X.env x=pure x)(I:Inv X pins σ H s)(h:Zw4 nt ci wi g tk o0 σ H Q)(fin:∀(acc C:Addr) (s':Shared) (H':Hp),Inv X pins σ H' s'->Q (.ref acc) H'->(∃m,s'.heap.Ns C m)->FpOk X pins H' C->(∃o,s'.heap.get? C=some o/\∀v,o.data≠.cell v)->compPost (model X.prog X.w) X.A X.xe use Qf (.ref acc) C (.ok .next) s'):
  wpAny (model X.prog X.w) X.A (comprehension e scope X.env pos' newAcc false (eval iter X.env) use) Qf X.xe s:=by with_unfolding_all
 refine wpAny_comprehension_free (use:=use) hcl hs B.clos B.kind B.names (thn (hi pins s σ H _ I h) fun v s1 h1=>thn h1 fun q0 f h2=>?_);obtain⟨it,n,tn,J,t,e,j,T,i,r,q2⟩:=h2;subst e;have O:t f.heap.objs.size=none:=j.hok.fresh (zg _);obtain⟨W,⟨m0,w0⟩,hW⟩:=q2 f.heap.objs.size O;refine hnew (wpAny_newFunctionEnv B.cell (by simp) (fun h₁ hns₁ hsb₁=>?_) B.kind);dsimp only at hns₁ hsb₁ ⊢;have G:(f.heap.push ob).objs.size=f.heap.objs.size+1:=zbd ..;have U:∀b u,f.heap.get? b=some u->h₁.get? b=some u:=fun b u e=>hsb₁.extBut b u (by rw[G];exact yq (zcc (zj e))) (ya _ (ya _ e));have a1:h₁.get? f.heap.objs.size=some ob:=hsb₁.extBut _ _ (by simp) (ya _ (zh _ hfree));rw[G] at hns₁ ⊢;have L:zaw < f.heap.objs.size:=j.big;have I3:=Xe2 (o0:=o0 f.heap.objs.size) (tk:=f.toks+([]:List (Str×Value)).length) B j r (fun b hb=>let ⟨o,e,_⟩:=T.obj _ _ i b hb;⟨o,e⟩) rfl rfl U (by simp_all) (hobj _ _ _ a1 L)
 have N:∀(H':Hp),(∀b∈n,H' b=none)->∀b∈n,FpOk (blk X N' scope cl f t (f.heap.objs.size+1) n) [] H' b:=fun H' hn b hb=>by
  obtain⟨f0,S,f3,Z,R,V⟩:=r b hb;obtain⟨o,e,_⟩:=T.obj _ _ i b hb;refine⟨hn b hb,?_,fun z=>?_,.inl hb,fun x c e'=>R x c (B.sub x c e'),fun p hp=>absurd (show p∈([]:List _) from hp) (by simp)⟩
  ·exact yq (zcc (zj e))
  ·rcases zd.mp (j.stkSub b z) with y | y
   ·exact S y
   ·exact f3 y
 have M:∀b∈n,upd t _ (o0 f.heap.objs.size) b=none:=fun b hb=>by
  obtain⟨o,e,_⟩:=T.obj _ _ i b hb;rw[Za9 (yq (zj e))];exact (r b hb).1
 have D  := T.keep _ _ _ i fun b _ o e=>U b o e;have l:ycd (model X.prog X.w) X.A (.compLoop e 0 (.ref it) (.ref f.heap.objs.size) (compEnvC scope cl (f.heap.objs.size+1) X.env))
   (compPost (model X.prog X.w) X.A X.xe use Qf (.ref f.heap.objs.size) (f.heap.objs.size+1)) { f with heap:=h₁,toks:=f.toks+([]:List (Str×Value)).length }:=by
  refine Xo8 (Y:=blk X N' _ cl f t _ n) (Q:=fun H'=>Q _ H') hc rfl (hden _ _) (htn _ _) (hg _ _ _ _) (hb _ _ _ _ _) T N hW (fun s' H' k q=>?_) I3 D M w0;have un:=k.base;have ns:=k.loc;have fC  := k.free
  have I4  := j.call' k.os un k.hok k.bare fun b hb=>by
   obtain⟨f0,S,f3,Z,R,V⟩:=r b hb;exact⟨Z,S,R,V⟩
  obtain⟨m,hm,_⟩:=ns;have F:s'.heap.Ns (f.heap.objs.size+1) m:=hm;refine fin _ _ s' H' I4 q ⟨m,F⟩ (j.fpOk (Nat.le_succ _) fC) ?_;obtain⟨o,es,ep,e,d,_⟩:=F
  simp_all
 exact Zo8 (hden _ _) (by rw[hcl];rfl) rfl l (T.self _ _ _ _ _ D l)
theorem Xk8 {P:zf}(H:Hp)(h:Heap)(a:Addr)(e:h.get? a=some { cls:=.type "list",dict:=none,data:=.seq ([]:List Value).toArray })(_:zaw < a):ObjOk P w (upd H a (.lst [])) h a (.lst []):=⟨yaq _,[],0,.nil,e⟩
theorem Wl9 {elt tg iter:Expr}{ifs:List Expr}{gs:List zbj}{g:TG}{tk:Addr->TK}(B:X.Ok->BlkOk X scope cl N' nt ci)(hc:X.calm=true)(hi:PI X tg iter wi)(hg:∀s H C ex,PG (blk X N' scope cl s H C ex) tg g)(htn:∀a env,Zq5 (.ListComp elt (⟨tg,iter,ifs,0⟩::gs) scope pos) 0 tg p0 (.ref a) env (body a env))(hb:∀s H C ex a,PTn (blk X N' scope cl s H C ex) (body a (blk X N' scope cl s H C ex).env) (tk a))(hs:∀x,zba iter X.env x=pure x:=by intro _;rfl):
  PE X (.ListComp elt (⟨tg,iter,ifs,0⟩::gs) scope pos) (Yd4 nt ci wi g tk (.lst [])):=by with_unfolding_all
 intro i s v H Q I h;refine Zz3 (o0:=fun _=>.lst []) (B I.ok) hc hi hg rfl (fun _ _=>Wt6) htn hb (fun h=>yab h) rfl Xk8 hs I h fun d C w u t q c j y=>?_;obtain⟨m,c⟩:=c;obtain⟨r,p,A,n,l,k⟩:=j;exact⟨m,c,fun z f=>⟨.ref d,u,t.turned (fun b o hb e=>(f.2 b hb).trans e) r p n l k,rfl,q⟩⟩
theorem Xi4 {elt tg iter:Expr}{ifs:List Expr}{gs:List zbj}{spos:Pos}{g:TG}{tk:Addr->TK}(hN:X.N.Nodup)(hi:X.N[i]?=some x)(hx:Loc X.env.scope x)(B:X.Ok->BlkOk X scope cl N' nt ci)(hc:X.calm=true)(hit:PI X tg iter wi)(hg:∀s H C ex,PG (blk X N' scope cl s H C ex) tg g)(htn:∀a env,Zq5 (.ListComp elt (⟨tg,iter,ifs,0⟩::gs) scope pos) 0 tg p0 (.ref a) env (body a env))(hb:∀s H C ex a,PTn (blk X N' scope cl s H C ex) (body a (blk X N' scope cl s H C ex).env) (tk a))(hsw:zdo (.ListComp elt (⟨tg,iter,ifs,0⟩::gs) scope pos) (some (.Name x pos')) spos.line X.env=pure true)(hs:∀x,zba iter X.env x=pure x:=by intro _;rfl)(hf:X.fn x=true∨X.env.scope.names.lookup x=some .local:=by first | exact .inl rfl | exact .inr rfl | assumption):
  PS X (.Assign [.Name x pos'] (.ListComp elt (⟨tg,iter,ifs,0⟩::gs) scope pos) spos) (tAsg (Yd4 nt ci wi g tk (.lst [])) (Zu3 i)):=by with_unfolding_all
 intro c s j H D I h;rw[exec_Assign_Name_used _ _ _ _ hsw];refine za (zco (za ?_));refine za (Zz3 (o0:=fun _=>.lst []) (Q:=fun v H1=>Zu3 i v j H1 D.nx) (B I.ok) hc hit hg rfl (fun _ _=>Wt6) htn hb (fun h=>yab h) rfl Xk8 hs I h fun t C s' y w q f k G=>?_);obtain⟨r,n,S,R,O,M⟩:=k;obtain⟨m,f⟩:=f;obtain⟨o,e,d⟩:=G
 have Y:Inv X (c++[(C,o)]) j y s':=w.pins_of fun p F=>(yg.mp F).elim (fun z=>w.pin p (zm _ z)) fun z=>by
  have W:p=(C,o):=by simp_all
  subst W;exact⟨e,r,n,S,d⟩
 refine wpAny_assign_Name (Zs6 Y hN hi hx (show RelV (.ref t) _ from rfl) (fun s2 u=>?_) hf);have V:=(u.pin (C,o) (by simp)).1;obtain⟨o',T,U,l,L,J⟩:=f;rw[e] at l;cases l;refine⟨m,⟨o,T,U,V,L,J⟩,fun h' A=>yb (yb ?_)⟩;have Z  := u.unpinned;exact⟨_,y,Z.turned (fun b o hb e=>(A.2 b hb).trans e) r n R O M,q⟩
theorem PE.weak {e:Expr}{t t':TE}(h:PE X e t)(w:∀σ H Q,t' σ H Q->t σ H Q):PE X e t':=by with_unfolding_all exact fun a s σ H Q I z=>h a s σ H Q I (w σ H Q z)
theorem Ww1 {e:Expr}{t:TE}(h:PE X e t):PE X e fun σ H Q=>∃R,t σ H R/\∀v H',R v H'->Q v H':=by with_unfolding_all exact fun pins s σ H Q I zZ=>(by obtain⟨R,z,m⟩:=zZ;exact thn (h pins s σ H R I z) fun _ _ zZ=>by obtain⟨x,H1,I1,r1,q1⟩:=zZ;exact ⟨x,H1,I1,r1,m _ _ q1⟩)
theorem Ww0 {e:Expr}{t:TG}(h:PG X e t):PG X e fun v σ H Q=>∃R,t v σ H R/\∀σ' H',R σ' H'->Q σ' H':=by with_unfolding_all exact fun pins s σ H v u Q I r zZ=>(by obtain⟨R,z,m⟩:=zZ;exact thn (h pins s σ H v u R I r z) fun _ _ zZ=>by obtain⟨x,H1,I1,q1⟩:=zZ;exact ⟨x,H1,I1,m _ _ q1⟩)
theorem Wv9 {tg e:Expr}{t:TI}(h:PI X tg e t):PI X tg e fun σ H Q=>∃R,t σ H R/\∀J H',R J H'->Q J H':=by with_unfolding_all exact fun pins s σ H Q I zZ=>(by obtain⟨R,z,m⟩:=zZ;exact thn (h pins s σ H R I z) fun _ _ q=>thn q fun _ _ zZ=>by obtain⟨a,b,c,J,H1,x1,x2,x3,x4,x5,q1⟩:=zZ;exact ⟨a,b,c,J,H1,x1,x2,x3,x4,x5,m _ _ q1⟩)
theorem Wd6 {g:TG}{Q:VK}(h:tLC K nt ci wi g te σ H Q):
  Yd4 nt ci (fun σ H Q=>∃R,wi σ H R/\∀J H',R J H'->Q J H') (fun v σ H Q=>∃R,g v σ H R/\∀σ' H',R σ' H'->Q σ' H') (kApp fun σ H Q=>∃R,te σ H R/\∀v H',R v H'->Q v H') (.lst []) σ H Q :=
 ⟨_,h,fun J o r d k=>by
  obtain⟨W,⟨m,j⟩,l⟩:=r d k;refine⟨fun i m H=>∃ys,W i m ys H,⟨m,[],j⟩,fun i m H2 ⟨ys,w⟩=>?_⟩;obtain⟨a,b,c⟩:=l i m ys H2 w
  exact c.imp id fun⟨go,y⟩=>⟨go,fun x n f=>⟨_,y x n f,fun σ4 H4 ⟨wk,t⟩=>⟨wk,_,t,fun y H5 zZ=>by obtain⟨e,m',lt,w'⟩:=zZ;exact ⟨ys,e,b,m',lt,_,w'⟩⟩⟩⟩⟩
theorem Yh6 {i:Nat}{tg elt iter:Expr}{spos:Pos}{g:TG}(hN:X.N.Nodup)(hi:X.N[i]?=some x)(hx:Loc X.env.scope x)(B:X.Ok->BlkOk X scope cl N' nt ci)(hc:X.calm=true)(hit:PI X tg iter wi)(hg:∀s H C ex,PG (blk X N' scope cl s H C ex) tg g)(he:∀s H C ex,PE (blk X N' scope cl s H C ex) elt te)(hsw:zdo (.ListComp elt [⟨tg,iter,[],0⟩] scope pos) (some (.Name x pos')) spos.line X.env=pure true)(hs:∀x,zba iter X.env x=pure x:=by intro _;rfl)(hf:X.fn x=true∨X.env.scope.names.lookup x=some .local:=by first | exact .inl rfl | exact .inr rfl | assumption):
  PS X (.Assign [.Name x pos'] (.ListComp elt [⟨tg,iter,[],0⟩] scope pos) spos) (tAsg (tLC X.K nt ci wi g te) (Zu3 i)):=by
 have h:=Xi4 (tk:=kApp fun b H Q=>∃R,te b H R/\∀v H',R v H'->Q v H') hN hi hx B hc (Wv9 hit) (fun s H C ex=>Ww0 (hg s H C ex)) (fun _ _=>Xz7) (fun s H C ex a=>Yy0 (Ww1 (he s H C ex))) hsw hs hf
 with_unfolding_all exact fun c s b H D I z=>h c s b H D I (Wd6 z)
end
end L2
namespace Ken
open PySem L2
end Ken
namespace L2
open PySem PySem.Spec PyProof.Rows
section
variable {v:V}{r:Value}{E:Value->Shared->Prop}
theorem Xo5 {Q:Unit->Shared->Prop}(hu:A.units < cLine)(I:Inv X pins σ H s)(g:DPut H a y v H')(ry:RelV y u)(rv:RelV v r)(h:∀s',Inv X pins σ H' s'->Q () s'):
  wpAny (model X.prog X.w) A (dictSet a u r) Q E s:=by
 rcases g with ⟨f,k,e,p,l,t⟩ | ⟨f,k,b,e,p,B,l,t⟩
 ·subst p t
  obtain⟨z,o,D,d,x⟩:=Wt5 I.hok e
  have F:D.length<=zi:=by rw[<- d.length];exact z
  have n:(putK f k v).length<=zi:=by have:=Zk1 f k v;omega
  refine wpAny_dictSet_pairs (Yt8 ry) x fun N i m=>h _ ?_;exact Yk5 I (by rw[e];exact zbu) m (let ⟨q,_,_,j,_⟩:=i;⟨q,j⟩) (Xy3 n o (d.put k rv) i)
 ·subst p t
  cases (ry);obtain⟨z,o,C,d,x⟩:=Wt3 I.hok e
  have F:C.length<=zi:=by rw[<- zk d];exact z
  have n:(putK f k v).length<=zi:=by have:=Zk1 f k v;omega
  refine wpAny_dictSet_heap (knd:=tupleKind _) hu (Yo6 I.hok B) x fun N i m=>h _ ?_;obtain⟨q,O,R,j,M,L,J,_,G⟩:=i;refine Yk5 I (by rw[e];exact zbu) m ⟨q,j⟩ ⟨n,o,_,(d.put k B rv).keeps fun c T S=>?_,q,O,R,j,M,L,J,G⟩;rw[Za9 (Yt3 S e (by simp))];omega
end
def kPut (tk tv:TE)(acc:Addr):TK:=fun σ H N=>tk σ H fun y H1=>tv σ H1 fun x H2=>∃H3,DPut H2 acc y x H3/\N H3
section
theorem Xs4 {k v:Expr}{tk tv:TE}{acc:Addr}(hu:Y.A.units < cLine)(hk:PE Y k tk)(hv:PE Y v tv):PTn Y (Wt2 k v acc Y.env) (kPut tk tv acc):=by with_unfolding_all
 intro a s b H N I h;refine za (thn (hk a s b H _ I h) fun t d c=>?_);obtain⟨y,o,l,f,i⟩:=c;refine za (zap (thn (hv a d b o _ l i) fun p q c=>?_));obtain⟨x,w,j,e,u,g,n⟩:=c;exact za (zco (zap (Xo5 hu j g f e fun r m=>⟨b,_,m,Wk.refl _,n⟩)))
end
theorem Yp5 {xs:List V}{g:TG}{tk:TK}{Q:Hp->Prop}(Pv:Nat->Hp->Prop)(h0:Pv 0 H)(hl:∀i H,i<=xs.length->Pv i H->SqL K H a xs)(hs:∀i x H (N:Hp->Prop),xs[i]?=some x->Pv i H->(∀H',Pv (i+1) H'->N H')->g x σ0 H fun σ4 H4=>Wk σ0 σ4/\tk σ4 H4 N)(hd:∀H,Pv xs.length H->Q H):
  ∃W:Nat->Nat->Hp->Prop,(∃m,W 0 m H)/\Xp0 σ0 (Itl K a) g tk Q W:=by
 refine⟨fun i m H=>m=xs.length - i/\i<=xs.length/\Pv i H,⟨xs.length,by simp,yaq _,h0⟩,?_⟩;rintro i m H ⟨rfl,c,p⟩;have q:=hl i H c p
 by_cases hlt:i < xs.length
 ·refine .inr ⟨⟨xs,xs[i],q,by simp⟩,fun x H' y=>?_⟩
  obtain⟨e,y⟩:=y;subst e;exact hs i x H' _ (y xs q) p fun d b=>⟨xs.length - _,by omega,rfl,hlt,b⟩
 ·have e:i=xs.length:=by omega
  subst e;exact .inl ⟨⟨xs,q,zg _⟩,hd _ p⟩
end L2
namespace Ken
open PySem L2
noncomputable def Tm.kids:Tm->List Tm
 | .nd _ a b=>[a,b]
 | _=>[]
noncomputable def Tm.pre:Tm->List Tm
 | .low=>[.low]
 | .ltr w=>[.ltr w]
 | .nd k a b=>.nd k a b::(a.pre++b.pre)
theorem Tm.pre_len:∀t:Tm,t.pre.length=t.parts
 | .low=>rfl
 | .ltr _=>rfl
 | .nd _ a b=>by
  show (a.pre++b.pre).length+1=1+a.parts+b.parts;rw[yd,a.pre_len,b.pre_len];omega
theorem Tm.pre_eq (t:Tm):t.pre=t::t.kids.flatMap Tm.pre:=by
 cases t with
 |low=>rfl
 |ltr w=>rfl
 |nd k a b=>show _::_=_::(a.pre++_);simp
end Ken
namespace L2
open PySem PySem.Spec PyProof.Rows
noncomputable def Itv (K:W.Frag)(a:Addr)(n:Nat):It :=
 ⟨fun i H=>i < n/\∃xs x,SqL K H a xs/\xs[n - 1 - i]?=some x,fun i H x H'=>H'=H/\∀xs,SqL K H a xs->xs[n - 1 - i]?=some x,fun i _=>i=n⟩
theorem Xq3 {P:zf}{tg:Expr}(a it:Addr)(n:Nat):Turn P w K tg (Itv K a n) [it] it (fun i h=>h.IsRevIter it a ((n:Int) - 1 - (i:Int))) where
  mem:=by simp
  obj:=fun i h f b g=>by
    obtain⟨o,e,c,d⟩:=f
    simp_all
  keep:=fun i h r f k=>f.at fun o e=>k it (by simp) o e
  item:=by
    intro X L D M J i m s C H E I l f q;subst L D M;obtain⟨hi,xs,x,F,U⟩:=q;obtain⟨q0,R,p,hz⟩:=I.list F;obtain⟨u,hu,S⟩:=R.get U;obtain⟨A,z,V,y,v,t⟩:=l it (by simp)
    have B:(n:Int) - 1 - i=((n - 1 - i:Nat)):=by omega
    rw[B] at f;refine wpAny_pyNext_rev_item f p.isList (x:=u) (by simp_all) fun r j O=>?_;have Z:Inv X _ C H { s with heap:=r }:=I.turned (fun b o g e=>(O.2 b g).trans e) A z y v t
    have N:((n - 1 - i:Nat)) - 1=n - 1 - ((i+1):Int):=by omega
    rw[N] at j;obtain⟨o,e,c,d⟩:=id j;exact⟨u,rfl,Xd4 e c d rfl ⟨x,H,Z,S,⟨rfl,fun ys T=>by rw[I.list_inj T F];omega⟩,j,fun b g=>(l b g).1⟩⟩
  done:=by
    intro X L D M J i m s C H E I l f q;have G  := q;subst G;obtain⟨A,z,V,y,v,t⟩:=l it (by simp)
    have B:(i:Int) - 1 - i=-1:=by omega
    rw[B] at f;exact wpAny_pyNext_rev_end (I.ok.hd J) f fun r Y=>⟨rfl,I.turned (fun b o g e=>Y b o g e) A z y v t⟩
  self:=fun _ _ _ _ _ f h=>wpAny_pyIter_revIter f h
def iRev (K:W.Frag)(ta:TA):TI:=fun σ H R=>ta σ H fun vs H1=>∃a xs,vs=[.ref a]/\SqL K H1 a xs/\R (Itv K a xs.length) H1
section
theorem Wl3 {tg e:Expr}{ta:TA}{p:Pos}(hg:Gl X "reversed")(hm:X.mg "reversed"=none)(ha:PA X [e] ta)(hs:zx [e] X.env=[(false,eval e X.env)]:=by rfl):
  PI X tg (.Call (.Name "reversed" p) [e] [] pos) (iRev X.K ta):=by with_unfolding_all
 intro f s i H R I h;refine Call_ (Zq3 I hg hm (by rfl) (zaf (thn (ha pos f s i H _ I h) fun us s1 ⟨vs,H1,I1,r1,d⟩=>?_) (by assumption) rfl));obtain⟨l,n,e,d,q⟩:=d;subst e;obtain⟨u,rfl,k⟩:=r1.one;cases k;obtain⟨a,j,r,_⟩:=I1.list d;have t:=j.length;refine call_reversed_list r.isList ?_;have c:Heap.IsRevIter (s1.heap.push (revObj l (a.toArray.size - 1))) _ l _:=⟨_,zh _ rfl,rfl,rfl⟩;refine wpAny_pyIter_revIter c ?_;have m:Inv X _ i H1 { s1 with heap:=s1.heap.push (revObj l (a.toArray.size - 1)) }:=I1.kept fun b o e=>ya _ e
 have g:(a.toArray.size:Int) - 1=n.length - 1 - ((0):Int):=by simp_all
 rw[g] at c;rw[g] at m;rw[g];refine⟨_,_,_,_,H1,rfl,m,Xq3 l _ _,c,fun b v=>?_,q⟩
 have e:b=s1.heap.objs.size:=by simp_all
 subst e;exact I1.fpOk (by simp) (I1.hok.fresh (by simp))
end
theorem Wf2 {xs:List V}{g:TG}{tb:TS}{D:Ends}(Pv:Nat->St->Hp->Prop)(h0:Pv 0 σ H)(hl:∀i σ H,i<=xs.length->Pv i σ H->SqL K H a xs)(hs:∀i x σ H,i < xs.length->xs[xs.length - 1 - i]?=some x->Pv i σ H->g x σ H fun σ2 H2=>tb { D with nx:=Pv (i+1),ct:=Pv (i+1),bk:=D.nx } σ2 H2)(hd:∀σ H,Pv xs.length σ H->D.nx σ H):
  ∃W:Nat->Nat->St->Hp->Prop,(∃m,W 0 m σ H)/\∀i m σ H,W i m σ H ->
   ((Itv K a xs.length).stop i H/\D.nx σ H)∨((Itv K a xs.length).go i H/\∃N:St->Hp->Prop,(∀σ' H',N σ' H'->∃m',m' < m/\W (i+1) m' σ' H')/\∀x H',(Itv K a xs.length).yld i H x H'->g x σ H' fun σ2 H2=>tb { D with nx:=N,ct:=N,bk:=D.nx } σ2 H2):=by
 refine⟨fun i m σ H=>m=xs.length - i/\i<=xs.length/\Pv i σ H,⟨xs.length,by simp,yaq _,h0⟩,?_⟩;rintro i m σ H ⟨rfl,c,p⟩;have q:=hl i σ H c p
 by_cases hlt:i < xs.length
 ·refine .inr ⟨⟨hlt,xs,xs[xs.length - 1 - i],q,zb _⟩,Pv _,fun σ' H' b=>⟨xs.length - _,by omega,rfl,hlt,b⟩,fun x H' y=>?_⟩
  obtain⟨e,y⟩:=y
  simp_all
 ·have e:i=xs.length:=by omega
  subst e;exact .inl ⟨rfl,hd _ _ p⟩
def Ya0 (i:Nat)(f:Addr)(t:TE):TE:=fun σ H Q=>σ[i]?=some (some (.ref f))/\t σ H Q
section
theorem Zt2 {k:Nat}{E:XK}{fd:zc}{ds:List Value}{dvs:List V}{p:Pos}{e:Expr}{es:List Expr}{t:TA}{i:Nat}(F:FnOk X.prog X.w X.K X.mg X.base CX k f fd ps sp)(hr:Room k X.A)(hN:X.N[i]?=some x)(hv:Vis X.env.scope x)(hk:zan X.K (.ref f)=true)(hb:Binds X.K fd ps ds)(hd:Vals dvs ds)(hx:Zx4 CX X E)(ha:PA X (e::es) t)(hdb:(x == ("__debug__":Str))=false:=by decide)(hcd:(x == ("__classdict__":Str))=false:=by decide)(he:zx (e::es) X.env=(false,eval e X.env)::zx es X.env:=by rfl)(hpl:(backTo pos (zx es X.env)).any (·.1)=false:=by rfl):
  PE X (.Call (.Name x p) (e::es) [] pos) (Ya0 i f (Yd5 sp dvs E t)):=by with_unfolding_all
 intro a s b H Q I h;obtain⟨n,m⟩:=h;refine yar ?_;refine thn (Xj1 (X:=X) (i:=i) hN hv hdb hcd a s b H (fun v d=>v=.ref f/\d=H) I ⟨_,n,rfl,rfl⟩) fun v j g=>?_;obtain⟨y,z,c,l,u,o⟩:=g;subst u;subst o;cases (show v=yt f from l);refine W.callWith_K (h₀:=X.base) c.ok.mod.kin hk (thn (ha pos a j b z _ c m) fun us s1 ⟨vs,d,I1,r,q⟩=>⟨I1.kIn,?_⟩) he hpl;exact Xw0 F hr hb hd hx I1 r q
end
end L2
namespace Ken
open PySem L2
theorem Yh7:∀(t:Tm) (j:Nat),j < t.pre.length->∃s rest,t.pre[j]?=some s/\t.pre.drop j=s.pre++rest/\s.parts<=t.parts
 | .low,j,h=>by
  have:j=0:=by have h':j < 1:=h;omega
  subst this;exact⟨.low,[],rfl,rfl,zg _⟩
 | .ltr w,j,h=>by
  have:j=0:=by have h':j < 1:=h;omega
  subst this;exact⟨.ltr w,[],rfl,rfl,zg _⟩
 | .nd k a b,0,h=>⟨.nd k a b,[],rfl,by simp,zg _⟩
 | .nd k a b,j+1,h=>by
  have e1:(Tm.nd k a b).pre=.nd k a b::_:=rfl;have e2:(Tm.nd k a b).parts=1+a.parts+b.parts:=rfl;rw[e1] at h ⊢;rw[zac,yd] at h;rw[List.getElem?_cons_succ,List.drop_succ_cons,e2]
  by_cases hj:j < a.pre.length
  ·obtain⟨s,rest,h1,h2,h3⟩:=Yh7 a j hj
   refine⟨s,rest++b.pre,by rw[yh hj];omega,?_,by omega⟩;rw[List.drop_append_of_le_length (zv hj),h2,yam]
  ·obtain⟨s,rest,h1,h2,h3⟩:=Yh7 b (j - a.pre.length) (by omega)
   refine⟨s,rest,by rw[yk (by omega)];omega,?_,by omega⟩;rw[List.drop_append,zcu (by omega),List.nil_append];omega
theorem Zy8 (t:Tm):∃l,t.pre=t::l:=⟨_,t.pre_eq⟩
theorem Zr7 {fs:List Tm}{a:Tm}{rest:List Tm}(h:fs.flatMap Tm.pre=a.pre++rest):∃fs',fs=a::fs'/\fs'.flatMap Tm.pre=rest:=by
 cases fs with
 |nil =>
  obtain⟨l,e⟩:=Zy8 a
  simp_all
 |cons f fs =>
  obtain⟨l,e⟩:=Zy8 f;obtain⟨m,b⟩:=Zy8 a
  simp_all
theorem Xd6 {fs:List Tm}(h:fs.flatMap Tm.pre=[]):fs=[]:=by
 cases fs with
 |nil=>rfl
 |cons f fs =>
  obtain⟨l,e⟩:=Zy8 f
  grind
end Ken
namespace L2
open PySem PySem.Spec PyProof.Rows
noncomputable def posOf (s:Stmt):Pos:=match s with
 | .FunctionDef _ _ _ _ _ _ _ _ _ p=>p
 | _=>⟨0,0,0,0⟩
noncomputable def Yu3 (s:Stmt)(j:Nat):Stmt:=(Zc8 s).getD j (.Pass ⟨0,0,0,0⟩)
theorem Zr2 {i:Nat}{qual:Str}{st:Stmt}{c P:Addr}{ds:List (Pos×Str)}(hst:st=.FunctionDef name (Zd4 st) (Zc8 st) [] none [] (Za3 st) none name (posOf st))(hN:X.N.Nodup)(hi:X.N[i]?=some name)(hx:Loc X.env.scope name)(hcl:closureFor (Za3 st) X.env=pure cl)(hc:X.env.code=.ref c)(hC:∀h,X.K.In h->W.CodeHd h c P)(hB:∀h,X.K.In h->h.BuiltinsAt X.mg P)(hP:ye≠P)(hq:qualnameIn X.env name name=qual)(hd:(posOf st,qual)∈ds)(hds:∀d∈ds,d.1.line=(posOf st).line->d.1.col=(posOf st).col->d.2=qual)(h1:(Zd4 st).defaults=[])(h2:(Zd4 st).kw_defaults=[])(h3:annTrees (Zd4 st) none X.env=[])(hf:X.fn name=true∨X.env.scope.names.lookup name=some .local:=by first | exact .inl rfl | exact .inr rfl | assumption):
  PS X st (tDef i name qual (Zd4 st) (Zc8 st) (Za3 st) cl P ds):=by
 have h:=Wl0 (body:=Zc8 st) hN hi hx hcl hc hC hB hP hq hd hds h1 h2 h3 hf;rw[<- hst] at h;exact h
theorem Yp8 {c:Addr}{o:Obj}{vs:Array Value}{q:Str}{t:Tok}(h:K.lookup c=some o)(hd:o.data=.fields vs)(hv:vs[1]?=some (.str q t)):yci K (.ref c) q=true:=by
 obtain⟨g,e,f,d⟩:=o;unfold yci;obtain⟨l⟩:=vs
 match l,hv with
 |a::b::r,hv =>
  simp_all
theorem Zo7 {fd:zc}{sl:Array (Option Value)}(h:K.lookup f=some ⟨oc,od,.func fd,sl⟩):zan K (.ref f)=true:=by
 unfold zan
 simp_all
theorem Yc7 (k:KLe K K'){q:Str}(h:yci K cd q=true):yci K' cd q=true:=by
 cases cd with
 |ref c =>
  unfold yci at h ⊢;dsimp only at h ⊢
  cases z:zaj c K with
  |none=>simp_all
  |some o =>
   rw[z] at h;rw[k c o z];exact h
 | _=>exact absurd h (by simp[yci])
theorem Fun.le (k:KLe K K'){fd:zc}(F:Fun K x qual st f fd):Fun K' x qual st f fd:=by
 obtain⟨⟨j,i,l,d,h,n,g,m,a,e,b,c⟩,o⟩:=F;exact⟨⟨j,i,l,d,h,n,g,m,a,e,k _ _ b,Yc7 k c⟩,Zo7 (k _ _ b)⟩
theorem Binds.le (k:KLe K K'){fd:zc}{ds:List Value}(b:Binds K fd ps ds):Binds K' fd ps ds:=fun s c h d=>b s c (fun a o e=>h a o (k a o e)) d
theorem SqT.le (k:KLe K K'){xs:List V}(h:SqT K H a xs):SqT K' H a xs:=by
 rcases h with h | ⟨o,b,n,e,r⟩
 ·exact .inl h
 ·exact .inr ⟨o,b,n,k a o e,r⟩
structure FunT (K:W.Frag)(x qual:Str)(st:Stmt)(f:Addr)(fd:zc)(P:Addr):Prop where
 ex:∃(oc:Value) (od:Option Addr) (kV doc pm:Value) (an:Option Addr) (c:Addr) (ct:Value) (osl:Array (Option Value)),
  fd=W.fnOf x qual (Zd4 st) (Zc8 st) (Za3 st) .none kV doc pm an (.ref c) ct/\K.lookup f=some ⟨oc,od,.func fd,osl⟩/\yci K (.ref c) qual=true/\∀h,K.In h->W.CodeHd h c P
 kp:zan K (.ref f)=true
theorem FunT.ok {P:zf}{base:Heap}{fd:zc}{N:List Str}{k:Nat}(F:FunT K x qual st f fd T)(S:FnScope N ps (Za3 st))(len:∀vs H Q E,sp vs H Q E->vs.length=ps.length) (hbody:∀(c:Addr) (A:Around) (outer:List Env) (s:Shared) (H:Hp) (vs:List V) (Q:VK) (E:XK),(∀h,K.In h->W.CodeHd h c T)->Room k (A.deeper (envOfC qual (Za3 st) s.heap.objs.size f (.ref c)))->sp vs H Q E ->
   ∃t,PSs (cxOf CX0 P w K mg base N qual (Za3 st) f (.ref c) A outer s H E).nox (Zc8 st) t/\t { nx:=fun _ H'=>Q .non H',rt:=Q } (start N vs) H):FnOk P w K mg base CX0 (k+1) f fd ps sp:=by
 obtain⟨n,m,o,j,l,r,c,p,i,rfl,d,b,g⟩:=F.ex;refine fn_of d b S len fun A outer s H vs Q E e a=>?_;obtain⟨t,h,q⟩:=hbody c A _ s H vs Q E g e a;exact⟨t,h.nox,q⟩
structure FunC (K:W.Frag)(x qual:Str)(st:Stmt)(cl:List (Str×Addr))(f:Addr)(fd:zc):Prop where
 ex:∃(oc:Value) (od:Option Addr) (doc pm cdv ct:Value) (osl:Array (Option Value)),
  fd=W.fnX x qual (Zd4 st) (Zc8 st) (Za3 st) cl .none .none doc pm none cdv ct/\K.lookup f=some ⟨oc,od,.func fd,osl⟩/\yci K cdv qual=true
 kp:zan K (.ref f)=true
theorem FunC.ok {P:zf}{base:Heap}{fd:zc}{N:List Str}{k:Nat}(F:FunC K x qual st cl f fd)(S:FnScopeC N ps fv (Za3 st))(C:Caught K (Za3 st) cl fv frv)(len:∀vs H Q E,sp vs H Q E->vs.length=ps.length) (hbody:∀(cdv:Value) (A:Around) (outer:List Env) (s:Shared) (H:Hp) (vs:List V) (Q:VK) (E:XK),Room k (A.deeper (W.envX qual (Za3 st) s.heap.objs.size f cdv cl))->sp vs H Q E ->
   ∃t,PSs (cxC CX0 P w K mg base N qual (Za3 st) f cdv cl A outer s H E).nox (Zc8 st) t/\t { nx:=fun _ H'=>Q .non H',rt:=Q } (start N (vs++frv)) H):FnOk P w K mg base CX0 (k+1) f fd ps sp:=by
 obtain⟨l,j,g,i,cdv,m,e,rfl,c,b⟩:=F.ex;refine Ws8 c b S C len fun A outer s H vs Q E d a=>?_;obtain⟨t,h,q⟩:=hbody cdv A _ s H vs Q E d a;exact⟨t,h.nox,q⟩
theorem FunC.binds {fd:zc}{ps:List Str}(F:FunC K x qual st cl f fd)(h:∀(doc pm cdv ct:Value) (us:List Value),us.length=ps.length->bindArgs (W.fnX x qual (Zd4 st) (Zc8 st) (Za3 st) cl .none .none doc pm none cdv ct) ⟨us,[]⟩=pure (ps.zip us)):Binds K fd ps []:=by
 obtain⟨d,c,doc,pm,cdv,ct,a,rfl,e,b⟩:=F.ex;exact .all (h doc pm cdv ct)
theorem FnFz.objs (h:FnFz H f name qual (Zd4 st) (Zc8 st) (Za3 st) cl):
  ∃(o1:Obj) (c:Addr) (o2:Obj),H f=some (FZ o1)/\H c=some (FZ o2)/\(∀its n,o1.data≠.seq its n)/\(∀its n,o2.data≠.seq its n) /\
   ∀K:W.Frag,K.lookup f=some o1->K.lookup c=some o2->∃fd,FunC K name qual st cl f fd:=by
 obtain⟨b,d,l,p,j,c,o,m,t,rfl,i,g,e⟩:=h;refine⟨_,c,o,j,i,?_,?_,fun K a k=>⟨_,⟨_,_,b,d,_,l,_,rfl,a,Yp8 k g e⟩,Zo7 a⟩⟩
 ·simp
 grind
def Zu9 (X:Cx)(K:W.Frag)(x:Str)(v:V):Prop:=∃c o u,X.env.cells.lookup x=some c/\K.lookup c=some o/\o.data=.cell (some u)/\RelV v u
theorem Zk3 (ok:X.Ok)(hlen:frv.length=fv.length)(h1:∀y∈sc.names,y.2=.free->y.1∈fv)(h2:∀x∈fv,(x,yad)∈sc.names)(hc:∀(i:Nat) (x:Str) (v:V),fv[i]?=some x->frv[i]?=some v->Zu9 X K x v):Caught K sc (Zi1 X.env.cells sc.names []) fv frv:=by
 have b:∀x c,(Zi1 X.env.cells sc.names []).lookup x=some c->x∈fv/\c=(X.env.cells.lookup x).getD 0:=fun x c e=>by
  rcases Zu6 (yah e) with z | ⟨w,t⟩
  ·exact absurd z (by simp)
  ·exact⟨h1 _ w rfl,t⟩
 have h:∀x∈fv,∃i v,fv[i]?=some x/\frv[i]?=some v:=fun x a=>by
  obtain⟨i,I,e⟩:=zav a;exact⟨i,frv[i]'(by omega),by rw[zb I,e],zb _⟩
 have q:∀x,x∈fv->∃c,(Zi1 X.env.cells sc.names []).lookup x=some c:=fun x a=>by
  obtain⟨c,G⟩:=Zu7 (.inl (h2 x a));exact Zt6 G
 refine⟨hlen,fun i x v g k=>?_,fun x c e=>?_,fun x y c g k=>?_,fun x e=>?_⟩
 ·obtain⟨c,o,u,f,d,p,r⟩:=hc i x v g k
  obtain⟨s,e⟩:=q x (yo g);have:=(b x s e).2;rw[f] at this;cases this;exact⟨c,o,u,e,d,p,r⟩
 ·obtain⟨a,n⟩:=b x c e
  obtain⟨i,v,g,k⟩:=h x a;obtain⟨s,o,u,f,d,p,r⟩:=hc i x v g k;rw[f] at n;cases n;exact⟨o,_,d,p⟩
 ·obtain⟨a,m⟩:=b x c g
  obtain⟨F,l⟩:=b y c k;obtain⟨i,v,D,C⟩:=h x a;obtain⟨j,u,B,A⟩:=h y F;obtain⟨L,_,_,f,_⟩:=hc i x v D C;obtain⟨J,_,_,d,_⟩:=hc j y u B A;rw[f] at m;rw[d] at l;cases m;cases l;exact ok.inj x y _ f d
 ·exact q x (h1 _ (yah e) rfl)
mutual
theorem Dn.moveT (k:∀a xs,SqT K H a xs->SqT K' H' a xs):∀{d:PyData} {v:V},noList d=true->Dn K H v d->Dn K' H' v d
 | .none,v,_,h=>by rw[Dn] at h ⊢;exact h
 | .bool _,v,_,h=>by rw[Dn] at h ⊢;exact h
 | .int _,v,_,h=>by rw[Dn] at h ⊢;exact h
 | .str _,v,_,h=>by rw[Dn] at h ⊢;exact h
 | .list _,v,n,h=>by rw[noList] at n;cases n
 | .dict _,v,n,h=>by rw[noList] at n;cases n
 | .tuple ds,v,n,h=>by
  rw[Dn] at h ⊢;rw[noList] at n;obtain⟨a,xs,e,hs,hd⟩:=h;exact⟨a,xs,e,k a xs hs,DnAll.moveT k n hd⟩
theorem DnAll.moveT (k:∀a xs,SqT K H a xs->SqT K' H' a xs):∀{ds:List PyData} {xs:List V},noLists ds=true->DnAll K H xs ds->DnAll K' H' xs ds
 | [],xs,_,h=>by rw[DnAll] at h ⊢;exact h
 |d::ds,xs,n,h=>by
  rw[DnAll] at h ⊢;rw[noLists,yr] at n;obtain⟨x,r,e,h1,h2⟩:=h;exact⟨x,r,e,Dn.moveT k n.1 h1,DnAll.moveT k n.2 h2⟩
end
theorem Ya4 (hx:∀p∈xs,H p.1=some (FZ p.2))(k:KLe K K')(a:Addr)(ys:List V)(h:SqT K H a ys):SqT K' (remX xs H) a ys:=by
 have c:∀{b:Addr} {u:HO},H b=some u->(∀o,u≠FZ o)->b ∉ xs.map (·.1):=fun {b u} e n z=>by
  grind
 rcases h with (h | ⟨o,h⟩) | ⟨o,d,n,e,r⟩
 ·exact .inl (.inl (by rw[Zd2 (c h fun _ z=>nomatch z)];exact h))
 ·exact .inl (.inr ⟨o,by rw[Zd2 (c h fun _ z=>by cases z)];exact h⟩)
 ·exact .inr ⟨o,d,n,k a o e,r⟩
theorem Wa4 {cs:List (Addr×Obj)}(k:∀a o,K'.lookup a=some o->K.lookup a=some o∨(a,o)∈xs++cs)(hn:∀p∈xs++cs,∀its n,p.2.data≠.seq its n)(hx:∀p∈xs,H2 p.1=none)(a:Addr)(ys:List V)(h:SqT K' H2 a ys):SqT K (Zs0 xs H H2) a ys:=by
 have c:∀{b:Addr} {u:HO},H2 b=some u->b ∉ xs.map (·.1):=fun {b u} e z=>by
  grind
 rcases h with (h | ⟨o,h⟩) | ⟨o,its,n,e,g,d,f⟩
 ·exact .inl (.inl (by rw[Ze5 (c h)];exact h))
 ·exact .inl (.inr ⟨o,by rw[Ze5 (c h)];exact h⟩)
 ·rcases k a o e with z | z
  ·exact .inr ⟨o,its,n,z,g,d,f⟩
  ·exact absurd d (hn _ z its n)
end L2
namespace Ken
open PySem L2
theorem SameT.keepT (e:SameT H H'):KeepT K H H':=fun a b h=>by
 rcases h with (h | ⟨o,h⟩) | h
 ·exact .inl (.inl (e _ _ (fun _ z=>nomatch z) h))
 ·exact .inl (.inr ⟨o,e _ _ (fun _ z=>nomatch z) h⟩)
 ·exact .inr h
theorem SameT.seq {xs:List V}(e:SameT H H')(h:SqL K H a xs):SqL K H' a xs:=by
 rcases h with (h | ⟨o,h⟩) | h
 ·exact .inl (.inl (e _ _ (fun _ z=>nomatch z) h))
 ·exact .inl (.inr ⟨o,e _ _ (fun _ z=>nomatch z) h⟩)
 ·exact .inr h
end Ken
namespace L2
open PySem PySem.Spec PyProof.Rows
structure CodeFs (vs:Array Value)(T:Addr):Prop where
 a:vs[11]?=some (.ref T)
 b:vs.getD 11 .none=.ref T
 c:∃file tf,vs.getD 18 .none=.str file tf
 d:∃flags tg,vs.getD 7 .none=.int flags tg
 e:∃inF,vs.getD 9 .none=.bool inF
 f:∃text tt,vs.getD 10 .none=.int text tt
theorem Xp2 {c:Addr}{vs:Array Value}{sl:Array (Option Value)}(l:K.lookup c=some ⟨.type "code",od,.fields vs,sl⟩)(x:CodeFs vs T)(n:c≠T)(h:Heap)(k:K.In h):W.CodeHd h c T:=by
 obtain⟨j,q,u⟩:=x.c;obtain⟨g,p,t⟩:=x.d;obtain⟨m,s⟩:=x.e;obtain⟨i,o,r⟩:=x.f;exact⟨_,vs,j,q,g,p,m,i,o,k _ _ l,rfl,rfl,x.a,x.b,u,t,s,r,n⟩
theorem Wf1 {an:Option Addr}{kV:Value}{c:Addr}(l:K.lookup f=some ⟨oc,od,.func (W.fnOf x qual (Zd4 st) (Zc8 st) (Za3 st) .none kV doc pm an (.ref c) ct),osl⟩)(cc:yci K (.ref c) qual=true)(k:zan K (.ref f)=true)(hC:∀h,K.In h->W.CodeHd h c T):FunT K x qual st f (W.fnOf x qual (Zd4 st) (Zc8 st) (Za3 st) .none kV doc pm an (.ref c) ct) T:=⟨⟨oc,od,kV,doc,pm,an,c,ct,osl,rfl,l,cc,hC⟩,k⟩
end L2
namespace Hd
open PySem PySem.W PySem.Calls PyProof.Rows
noncomputable abbrev pos0:Pos:=⟨0,0,0,0⟩
noncomputable def o11:Obj:={ cls:=.type "tuple",data:=.seq #[] }
noncomputable def o12:Obj:={ cls:=.none,data:=.fields #[] }
noncomputable def o13:Obj:={ cls:=.type "code",data:=.fields #[.str (ze "<module>") 182,.str (ze "<module>") 183,.str (ze "/claim/cut.py") 184,.int 1 0,.int 0 0,.int 0 0,.int 0 0,.int 0 0,.ref 11,.bool false,.int 181 0,.ref 12,.none,.none,.none,.none,.int 185 0,.int 1 0,.str (ze "/claim/cut.py") 186] }
noncomputable def o14:Obj:={ cls:=.type "frame",slots:=#[some (.ref 13),some (.ref 3),some (.ref 3),none,some (.str (ze "__main__") 164),none,some (.ref 0)] }
noncomputable def Wv6 (P:Params):BT :=
 (.node (boot_o_0 P) (.node (boot_o_1 P) (.node (boot_o_3 P) (.node (boot_o_7 P) .nil .nil) (.node o11 .nil .nil)) (.node (boot_o_5 P) (.node (boot_o_9 P) .nil .nil) (.node o13 .nil .nil))) (.node (boot_o_2 P) (.node (boot_o_4 P) (.node (boot_o_8 P) .nil .nil) (.node o12 .nil .nil)) (.node (boot_o_6 P) (.node (boot_o_10 P) .nil .nil) (.node o14 .nil .nil))))
noncomputable abbrev annB:Option Value:=some (.ref 6)
noncomputable def Wf5 (p:zf):Env:={ scope:=p.main.scope,locals:=mainNs,globals:=mainNs,cells:=[],code:=.ref 13,frame:=some 14 }
noncomputable def Zx3 (p:zf):Code:=.body (behindTheImports p) (Wf5 p)
noncomputable def SB (w:World)(os:zda):SharedT:=⟨Wv6 w.params,15,{},#[],{},187,os⟩
noncomputable def S0 (w:World)(os:zda):Shared:=⟨boot_heap w.params,Array.mk [],boot_drawn,boot_toks,os⟩
noncomputable def pre (p:zf)(w:World)(os:zda):=topGo treeTable p w 11 annB 12 (S0 w os) (topStub p)
noncomputable def preTo (p:zf)(w:World)(os:zda):Option (Shared×Thread):=some ((SB w os).abs,⟨denote treeTable (Zx3 p),Zx3 p,pos0,[topFrame pos0]⟩)
noncomputable def blk (p:zf)(w:World)(os:zda):=segRun treeTable p w 11 annB 1 1 (SB w os).abs (blockOf (behindTheImports p) (Wf5 p) (Zx3 p) pos0 [topFrame pos0])
noncomputable def blkTo (p:zf)(w:World)(os:zda):Option (Flow×Shared×Code×Pos):=some (.next,(SB w os).abs,Zx3 p,pos0)
noncomputable def run (p:zf)(n:Nat)(w:World)(os:zda):=segRunT treeTable p w 11 annB 1 n (SB w os) (piecesOf (behindTheImports p) (Wf5 p) (Zx3 p) pos0 [topFrame pos0])
noncomputable def fin (p:zf)(e:Pos)(w:World)(x:SharedT):Option Shared:=topRun treeTable p w 11 annB 2 x.abs ⟨doneF .next,Zx3 p,e,[topFrame pos0]⟩
noncomputable def kept (p:zf)(w:World)(s:Shared):Bool:=staticsOk (ybo p.main.body) (boot_heap w.params) s.heap&&namesBound p s.heap&&gensDone s&&laidKept (boot_heap w.params) s.heap
noncomputable def ev {α:Type}(p q:zf)(loose:List Str)(lv:List (Str×WData))(Yf:Shared->α)(n:Nat)(e:Pos)(w:World)(os:zda) :=
 (run p n w os).map fun x=>(x.1,x.2.2,(fin p e w x.2.1).map fun s=>(kept p w s,openSeen q loose (ybo p.main.body) (fun s=>xlAt q lv s&&recOk [] s) true s,Yf s))
noncomputable def evTo {α:Type}(p q:zf)(loose:List Str)(Ya:World->α)(e:Pos)(w:World) :=
 some (Flow.next,(Zx3 p,e),some (true,(expectedOf q,bltViewBooted,true,true,pinGoodD (drecsOf q),
  plainGoodE q (looseW q loose),plainGoodD q loose,wideGood q,clsGoodW q loose),Ya w))
theorem Wh0 (w:World)(os:zda):((S0 w os).heap.isNs ye&&(S0 w os).gens.size == 0)=true/\(S0 w os).heap.objs.size=11/\(S0 w os).heap.nsMap ye "__annotations__"=annB:=by
 refine⟨?_,?_,?_⟩<;>kernel_rfl
theorem left {α:Type}{p q:zf}{loose:List Str}{lv:List (Str×WData)}{Yf:Shared->α}{Ya:World->α}{N:Nat}{e:Pos}(ho:opening p=plainProg p.main.scope.names)(hN:Nat.ble 600 N=true)(hf:∀s,fenceModules? p s=some s)(h1:∀w,(fun os=>pre p w os)=fun os=>preTo p w os)(h2:∀w,(fun os=>blk p w os)=fun os=>blkTo p w os)(h3:∀w,(fun os=>ev p q loose lv Yf n e w os)=fun _=>evTo p q loose Ya e w)(hl:Nat.ble (12+(1+(n+2))) N=true):
  LeftO p q loose (fun s=>xlAt q lv s&&recOk [] s) Yf Ya N:=fun w=>by
 obtain⟨s,C,D⟩:=zai.mp (boot_open ho hN hf w);obtain⟨A,B,G,j,os⟩:=s;have a:=Wh0 w os
 obtain⟨rfl,rfl,rfl,rfl⟩:A=boot_heap _/\B=Array.mk []/\G=boot_drawn/\j=boot_toks:=by
  have:=D;simp at this;omega
 obtain⟨x,ex,b⟩:=zai.mp (congrFun (h3 w) os);obtain⟨f,I,c,J⟩:=x;have u:=(ym b).1;have r:=(ym (ym b).2).1;have o:=(ym (ym b).2).2;subst u;cases r;obtain⟨s1,F,d⟩:=zai.mp o;have g  := piece_app (segRun_of ex) (piece_nil F);rw[yac] at g;have l:=piece_block (congrFun (h2 w) os) g;have m:=go_top (congrFun (h1 w) os) l;have h:=topRun_mono (N - (12+(1+(n+2)))) _ _ _ _ m;rw[show 12+_+_=N by simp_all] at h;have z:=(ym d).1;have y:=(ym (ym d).2).1;have v:=(ym (ym d).2).2
 have t:topFrom treeTable p w N (S0 w os)=some s1:=by
  unfold topFrom;rw[a.1,a.2.1,a.2.2];rw[h,Option.bind_some];have i:(staticsOk _ (S0 w os).heap _&&namesBound p _&&gensDone s1&&laidKept (S0 w os).heap _)=true:=z;rw[i]
 unfold openEnds;rw[C,Option.bind_some];have k:=congrArg (Option.map fun s=>(openSeen q loose (ybo p.main.body) (fun s=>xlAt q lv s&&recOk [] s) true s,Yf s)) t;exact k.trans (congrArg _ (Prod.ext y v))
theorem pre_self:@pre=@pre:=rfl
theorem preTo_self:@preTo=@preTo:=rfl
theorem blk_self:@blk=@blk:=rfl
theorem blkTo_self:@blkTo=@blkTo:=rfl
end Hd
name_quick hdPre for Hd.pre by Hd.pre_self
name_quick hdPreTo for Hd.preTo by Hd.preTo_self
name_quick hdBlk for Hd.blk by Hd.blk_self
name_quick hdBlkTo for Hd.blkTo by Hd.blkTo_self
namespace Hd
open PySem PySem.W PySem.Calls PyProof.Rows
noncomputable def evA (p:zf)(n:Nat)(e:Pos)(w:World)(os:zda):=(run p n w os).map fun x=>(x.1,x.2.2,(fin p e w x.2.1).map fun s=>kept p w s)
noncomputable def evATo (p:zf)(e:Pos):=some (Flow.next,(Zx3 p,e),some true)
noncomputable def Wi6 (p q:zf)(loose:List Str)(lv:List (Str×WData))(s:Shared):=((openSeen q loose (ybo p.main.body) (fun s=>xlAt q lv s&&recOk [] s) true s).1,(openSeen q loose (ybo p.main.body) (fun s=>xlAt q lv s&&recOk [] s) true s).2.1,(openSeen q loose (ybo p.main.body) (fun s=>xlAt q lv s&&recOk [] s) true s).2.2.1)
noncomputable def Wi5 (p q:zf)(loose:List Str)(lv:List (Str×WData))(s:Shared):=(openSeen q loose (ybo p.main.body) (fun s=>xlAt q lv s&&recOk [] s) true s).2.2.2
noncomputable def evB (p q:zf)(loose:List Str)(lv:List (Str×WData))(n:Nat)(e:Pos)(w:World)(os:zda):=(run p n w os).map fun x=>(fin p e w x.2.1).map fun s=>Wi6 p q loose lv s
noncomputable def evBTo (q:zf):=some (some (expectedOf q,bltViewBooted,true))
noncomputable def evD (p q:zf)(loose:List Str)(lv:List (Str×WData))(n:Nat)(e:Pos)(w:World)(os:zda):=(run p n w os).map fun x=>(fin p e w x.2.1).map fun s=>Wi5 p q loose lv s
noncomputable def evDTo (q:zf)(loose:List Str):=some (some (true,pinGoodD (drecsOf q),plainGoodE q (looseW q loose),plainGoodD q loose,wideGood q,clsGoodW q loose))
noncomputable def evC {α:Type}(p:zf)(Yf:Shared->α)(n:Nat)(e:Pos)(w:World)(os:zda):=(run p n w os).map fun x=>(fin p e w x.2.1).map fun s=>Yf s
noncomputable def evCTo {α:Type}(Ya:World->α)(w:World):=some (some (Ya w))
theorem ev_of {α:Type}{p q:zf}{loose:List Str}{lv:List (Str×WData)}{Yf:Shared->α}{Ya:World->α}{e:Pos}(hA:(fun os=>evA p n e w os)=fun _=>evATo p e)(hB:(fun os=>evB p q loose lv n e w os)=fun _=>evBTo q)(hD:(fun os=>evD p q loose lv n e w os)=fun _=>evDTo q loose)(hC:(fun os=>evC p Yf n e w os)=fun _=>evCTo Ya w):
  (fun os=>ev p q loose lv Yf n e w os)=fun _=>evTo p q loose Ya e w:=by
 funext os
 have a:=congrFun hA os;have b:=congrFun hB os;have c:=congrFun hC os;have d:=congrFun hD os;unfold evD evDTo at d;unfold evA evATo at a;unfold evB evBTo at b;unfold evC evCTo at c;unfold ev evTo
 cases hr:run p n w os with
 |none=>simp_all
 |some x =>
  rw[hr] at a b c d;have a:=zu a;obtain⟨h,g⟩:=ym a;obtain⟨g,f⟩:=ym g
  cases hf:fin p e w x.2.1 with
  |none=>rw[hf] at f;cases f
  |some s =>
   unfold Wi6 at b;unfold Wi5 at d
   grind
theorem evA_self:@evA=@evA:=rfl
theorem evB_self:@evB=@evB:=rfl
theorem evD_self:@evD=@evD:=rfl
theorem evDTo_self:@evDTo=@evDTo:=rfl
theorem evC_self:@evC=@evC:=rfl
end Hd
name_quick hdEvA for Hd.evA by Hd.evA_self
name_quick hdEvB for Hd.evB by Hd.evB_self
name_quick hdEvD for Hd.evD by Hd.evD_self
name_quick hdEvDTo for Hd.evDTo by Hd.evDTo_self
name_quick hdEvC for Hd.evC by Hd.evC_self
namespace Hd
open PySem PySem.W PySem.Calls PyProof.Rows L2
noncomputable def pick (h:Heap)(as:List Addr):Frag:=as.filterMap fun a=>(h.get? a).map fun o=>(a,o)
theorem Xi8 (h:Heap):∀as:List Addr,(pick h as).In h
 | []=>fun _ _ e=>by cases e
 |b::as=>fun a o e=>by
  have ih:=Xi8 h as a o;have e'  := e;unfold pick at e';rw[yck] at e'
  cases z:h.get? b with
  |none=>rw[z] at e';exact ih e'
  |some u =>
   rw[z] at e';dsimp only[Option.map] at e';rw[yax] at e'
   split at e'
   ·grind
   ·exact ih e'
noncomputable def stAt (p:zf)(i:Nat):Stmt:=p.main.body.getD i (.Pass ⟨0,0,0,0⟩)
noncomputable def nm:Stmt->Str
 | .FunctionDef n _ _ _ _ _ _ _ _ _=>n
 | .ClassDef n _ _ _ _ _ _ _ _ _ _=>n
 | .Assign [.Name n _] _ _=>n
 | _=>ybx
noncomputable def Xo7:PySem.Expr->Str
 | .Constant (.str s) _ _=>s
 | .Name n _=>n
 | _=>ybx
noncomputable def Yw4:Stmt->List Str
 | .Assign _ (.Tuple es _ _) _=>es.map Xo7
 | _=>[]
noncomputable def Zi5:Stmt->List (Str×Str)
 | .Assign _ (.Dict ks vs _) _=>List.zip (ks.map fun k=>match k with | some e=>Xo7 e | none=>ybx) (vs.map Xo7)
 | _=>[]
structure Ask where
 fns:List Nat
 tups:List Nat
 kfs:List Nat
 kds:List Nat
 bl:List Str
noncomputable abbrev FnD:=Str×Str×zdh×FuncBody×Scope×Addr×List (Str×Addr)×Value×Addr×Bool
noncomputable def fnD (K:Frag)(fd:zc):FnD:=(fd.name,fd.qualname,fd.params,fd.body,fd.scope,fd.globals,fd.closure,fd.defaults,fd.builtins,codeIn K fd.code fd.qualname)
noncomputable def Zj8 (K:Frag)(x:Str):Option (Addr×Obj):=match nsIn K ye x with
 |some (some (.ref f))=>(K.lookup f).map fun o=>(f,o)
 | _=>none
noncomputable def Zx2 (K:Frag)(x:Str):Option FnD:=match Zj8 K x with
 |some (_,⟨_,_,.func fd,_⟩)=>some (fnD K fd)
 | _=>none
noncomputable def Yc4 (st:Stmt):Option FnD:=some (nm st,nm st,Zd4 st,.stmts (Zc8 st),Za3 st,ye,[],.none,zdf,true)
set_option tactic.hygienic true in
theorem Yn1 {r:Addr×Obj}(e:Zj8 K x=some r):nsIn K ye x=some (some (.ref r.1))/\K.lookup r.1=some r.2:=by
 unfold Zj8 at e
 split at e
 ·rename_i f hf
  obtain⟨o,e1,e2⟩:=zai.mp e;subst e2;exact⟨hf,e1⟩
 simp_all
set_option tactic.hygienic true in
theorem fn_of (e:Zx2 K (nm st)=Yc4 st):∃(f:Addr) (oc:Value) (od:Option Addr) (sl:Array (Option Value)) (kV dc pm:Value) (an:Option Addr) (cd ct:Value),
  nsIn K ye (nm st)=some (some (.ref f))/\K.lookup f=some ⟨oc,od,.func (fnOf (nm st) (nm st) (Zd4 st) (Zc8 st) (Za3 st) .none kV dc pm an cd ct),sl⟩/\codeIn K cd (nm st)=true/\keepIn K (.ref f)=true:=by
 unfold Zx2 at e
 split at e
 ·rename_i f oc od fd sl h
  obtain⟨h1,h2⟩:=Yn1 h;dsimp only at h1 h2;obtain⟨a1,a2,a3,a4,a5,a6,a7,a8,a9,a10,a11,a12,a13,a14,a15⟩:=fd;have e:=zu e;simp only[fnD,ycc] at e;obtain⟨rfl,rfl,rfl,rfl,rfl,rfl,rfl,rfl,rfl,hc⟩:=e;refine⟨f,oc,od,sl,_,_,_,_,_,_,h1,h2,hc,?_⟩;show (match K.lookup f with | some ⟨_,_,.func _,_⟩=>true | some ⟨_,_,.cls _,_⟩=>specialIn K (.ref f) "__call__" == some (some (.builtin "type.__call__")) | _=>false)=true;rw[h2]
 ·cases e
noncomputable def Zv1:Value->Option Str
 | .str s _=>some s
 | _=>none
theorem Zs5 {s:Str}(e:Zv1 v=some s):∃t,v=.str s t:=by
 unfold Zv1 at e
 split at e
 ·simp_all
 grind
noncomputable def Zz5 (K:Frag)(x:Str):Option (Value×List (Option Str)):=match Zj8 K x with
 |some (_,⟨c,_,.seq vs _,_⟩)=>some (c,vs.toList.map Zv1)
 | _=>none
noncomputable def Yg4 (st:Stmt):Option (Value×List (Option Str)):=some (.type "tuple",(Yw4 st).map some)
theorem Yl1:∀{l:List Str} {vs:List Value},vs.map Zv1=l.map some->Vals (l.map V.str) vs
 | [],[],_=>.nil
 | [],_::_,e=>by cases e
 | _::_,[],e=>by cases e
 |s::l,v::vs,e=>by
  have e1:=(yy e).1;exact .cons (Zs5 e1) (Yl1 ((yy e).2))
set_option tactic.hygienic true in
theorem Wh6 (e:Zz5 K (nm st)=Yg4 st)(hl:(Yw4 st).length<=zi):∃a:Addr,nsIn K ye (nm st)=some (some (.ref a))/\∀H,SqT K H a ((Yw4 st).map V.str):=by
 unfold Zz5 at e
 split at e
 ·rename_i a c od vs n sl h
  obtain⟨h1,h2⟩:=Yn1 h;have e:=zu e;obtain⟨rfl,e2⟩:=ym e;refine⟨a,h1,fun H=>.inr ⟨_,_,_,h2,rfl,rfl,?_,Yl1 e2⟩⟩;have:=congrArg ybq e2;rw[yn,yn,ybe] at this
  simp_all
 ·cases e
noncomputable abbrev DiD:=Value×Option Addr×Array (Option Value)×Bool×Nat×List (Int×Option Str×Bool)
noncomputable def Wd9 (K:Frag)(e:zbz)(kf:Str×Str):Int×Option Str×Bool:=(e.hash,Zv1 e.key,nsIn K ye kf.2 == some (some e.val))
noncomputable def Yo5 (K:Frag)(x:Str)(kfs:List (Str×Str)):Option DiD:=match Zj8 K x with
 |some (a,⟨c,od,.dict es _,sl⟩)=>some (c,od,sl,a == zaw,es.toList.length,ybp (Wd9 K) es.toList kfs)
 | _=>none
noncomputable def Yz6 (P:Params)(kfs:List (Str×Str)):Option DiD:=some (.type "dict",none,#[],false,kfs.length,kfs.map fun kf=>(zas P kf.1,some kf.1,true))
theorem Yz5:∀{kfs:List (Str×Str)} {es:List zbz} {fs:List Addr},es.length=kfs.length->ybp (Wd9 K) es kfs=kfs.map (fun kf=>(zas w.params kf.1,some kf.1,true)) ->
  Paired (fun (kf:Str×Str) (f:Addr)=>nsIn K ye kf.2=some (some (.ref f))) kfs fs ->
  Paired (fun (p:Str×V) (e:zbz)=>(∃tk,e.key=.str p.1 tk)/\e.hash=zas w.params p.1/\RelV p.2 e.val) (ybp (fun kf f=>(kf.1,V.ref f)) kfs fs) es
 | [],[],_,_,_,r=>by exact .nil
 | [],_::_,_,h,_,_=>by cases h
 | _::_,[],_,h,_,_=>by cases h
 |kf::kfs,e::es,_,h,q,r=>by
  cases r with
  |@cons _ f _ fs h1 t =>
   have q1:=(yy q).1;have q2:=(yy q).2;simp only[Wd9,ycc] at q1;obtain⟨q3,q4,q5⟩:=q1;have q6:=eq_of_beq q5;rw[h1] at q6;refine .cons ⟨Zs5 q4,q3,?_⟩ (Yz5 (Nat.succ.inj h) q2 t);have  := zu (zu q6).symm
   assumption
set_option tactic.hygienic true in
theorem Wx0 (e:Yo5 K (nm st) (Zi5 st)=Yz6 w.params (Zi5 st))(fs:List Addr)(hf:Paired (fun (kf:Str×Str) (f:Addr)=>nsIn K ye kf.2=some (some (.ref f))) (Zi5 st) fs)(nd:((ybp (fun kf f=>(kf.1,V.ref f)) (Zi5 st) fs).map (·.1)).Nodup):∃a:Addr,nsIn K ye (nm st)=some (some (.ref a))/\KDict K w a (ybp (fun kf f=>(kf.1,V.ref f)) (Zi5 st) fs):=by
 unfold Yo5 at e
 split at e
 ·rename_i a c od es n sl h
  obtain⟨h1,h2⟩:=Yn1 h;have e:=zu e;simp only[ycc] at e;obtain⟨rfl,rfl,rfl,e4,e5,e6⟩:=e;exact⟨a,h1,⟨_,es,n,h2,⟨rfl,rfl,rfl⟩,rfl,Yz5 e5 e6 hf⟩,nd,e4⟩
 ·cases e
noncomputable abbrev DsD:=Value×Option Addr×Array (Option Value)×Bool×List (Int×Option Str×Option Str)
noncomputable def Ws3 (K:Frag)(x:Str):Option DsD:=match Zj8 K x with
 |some (a,⟨c,od,.dict es _,sl⟩)=>some (c,od,sl,a == zaw,es.toList.map fun e=>(e.hash,Zv1 e.key,Zv1 e.val))
 | _=>none
noncomputable def Ws2 (P:Params)(kvs:List (Str×Str)):Option DsD:=some (.type "dict",none,#[],false,kvs.map fun kv=>(zas P kv.1,some kv.1,some kv.2))
noncomputable abbrev Obs:=List (Option FnD)×List (Option (Value×List (Option Str)))×List (Option DiD)×List (Option DsD)×List (Option (Option Value))
noncomputable def obsK (p:zf)(A:Ask)(K:Frag):Obs :=
 (A.fns.map fun i=>Zx2 K (nm (stAt p i)),A.tups.map fun i=>Zz5 K (nm (stAt p i)),A.kfs.map fun i=>Yo5 K (nm (stAt p i)) (Zi5 (stAt p i)),A.kds.map fun i=>Ws3 K (nm (stAt p i)),A.bl.map fun x=>nsIn K ye x)
noncomputable def valK (p:zf)(A:Ask)(P:Params):Obs :=
 (A.fns.map fun i=>Yc4 (stAt p i),A.tups.map fun i=>Yg4 (stAt p i),A.kfs.map fun i=>Yz6 P (Zi5 (stAt p i)),A.kds.map fun i=>Ws2 P (Zi5 (stAt p i)),A.bl.map fun _=>some none)
noncomputable def Wy0 (p:zf)(A:Ask)(h:Heap):List Addr :=
 ye::(A.fns++A.tups++A.kfs++A.kds).flatMap fun i=>match nsIn (pick h [ye]) ye (nm (stAt p i)) with
  |some (some (.ref a))=>a::(match h.get? a with
   |some ⟨_,_,.func fd,_⟩=>(match fd.code with | .ref c=>[c] | _=>[])
   | _=>[])
  | _=>[]
theorem Yo1 {α β:Type}{f g:α->β}{l:List α}(e:l.map f=l.map g){a:α}(h:a∈l):f a=g a:=by simp_all
section
variable {p:zf}{A:Ask}{P:Params}(e:obsK p A K=valK p A P)
theorem e_fn (e:obsK p A K=valK p A P)(h:i∈A.fns):Zx2 K (nm (stAt p i))=Yc4 (stAt p i):=Yo1 (ym e).1 h
theorem e_tup (e:obsK p A K=valK p A P)(h:i∈A.tups):Zz5 K (nm (stAt p i))=Yg4 (stAt p i):=Yo1 (ym (ym e).2).1 h
theorem e_kf (e:obsK p A K=valK p A P)(h:i∈A.kfs):Yo5 K (nm (stAt p i)) (Zi5 (stAt p i))=Yz6 P (Zi5 (stAt p i)) :=
 Yo1 (ym (ym (ym e).2).2).1 h
theorem e_bl (e:obsK p A K=valK p A P)(h:x∈A.bl):nsIn K ye x=some none :=
 Yo1 (ym (ym (ym (ym e).2).2).2).2 h
end
open PySem.Spec
noncomputable def posOf:Stmt->Pos
 | .FunctionDef _ _ _ _ _ _ _ _ _ p=>p
 | _=>⟨0,0,0,0⟩
def FnF (K:Frag)(x:Str)(st:Stmt):Prop:=∃(f:Addr) (oc:Value) (od:Option Addr) (sl:Array (Option Value)) (kV dc pm:Value) (an:Option Addr) (cd ct:Value),
 nsIn K ye x=some (some (.ref f))/\K.lookup f=some ⟨oc,od,.func (fnOf x x (Zd4 st) (Zc8 st) (Za3 st) .none kV dc pm an cd ct),sl⟩/\codeIn K cd x=true/\keepIn K (.ref f)=true
theorem fn_ofx (hx:nm st=x)(e:Zx2 K (nm st)=Yc4 st):FnF K x st:=hx▸fn_of e
def FunF (K:Frag)(x:Str)(st:Stmt):Prop:=∃(f:Addr) (fd:zc),nsIn K ye x=some (some (.ref f))/\Fun K x x st f fd
theorem Xn4 (hx:nm st=x)(e:Zx2 K (nm st)=Yc4 st):FunF K x st:=by
 obtain⟨f,h,g,b,i,j,d,o,n,m,a,l,c,k⟩:=fn_ofx hx e;exact⟨f,_,a,Xa0 l c k⟩
def TupF (K:Frag)(x:Str)(l:List Str):Prop:=∃a:Addr,nsIn K ye x=some (some (.ref a))/\∀H,SqT K H a (l.map V.str)
theorem tup_ofx {l:List Str}(hx:nm st=x)(hl:Yw4 st=l)(hz:l.length<=zi)(e:Zz5 K (nm st)=Yg4 st):TupF K x l:=by
 subst hx hl;exact Wh6 e hz
def KfF (K:Frag)(w:World)(x:Str)(l:List (Str×V)):Prop:=∃a:Addr,nsIn K ye x=some (some (.ref a))/\KDict K w a l
theorem kf_ofx {l:List (Str×Str)}(fs:List Addr)(hx:nm st=x)(hl:Zi5 st=l)(hf:Paired (fun (kf:Str×Str) (f:Addr)=>nsIn K ye kf.2=some (some (.ref f))) l fs)(nd:((ybp (fun kf f=>(kf.1,V.ref f)) l fs).map (·.1)).Nodup)(e:Yo5 K (nm st) (Zi5 st)=Yz6 w.params (Zi5 st)):KfF K w x (ybp (fun kf f=>(kf.1,V.ref f)) l fs):=by
 subst hx hl;exact Wx0 e fs hf nd
end Hd
namespace L2
open PySem PySem.Spec PyProof.Rows Ken
theorem Yi4 (t:zau)(n:Nat):(t.orStandIn n).led=t.led:=by
 unfold zau.orStandIn;split<;>rfl
theorem Xc8 (t:zau)(es:Array (Int×Value))(h:Int)(x:Value):(layNew t es h x).2.1.led=t.led:=by
 unfold layNew
 split
 ·rw[Yi4];rfl
 ·rfl
theorem Xc9 {mask finger moves:Nat}{led plain:Bool}{hashes:Array Int}{t:zau}{o:Array Nat}(h:ydd mask finger moves led plain hashes=some (t,o)):t.led=led/\t.plain=plain:=by
 unfold ydd at h
 cases z:zau.layClean _ _ with
 |none=>rw[z] at h;cases h
 |some ow =>
  rw[z] at h;cases h;simp
theorem Yn0 (t:zau)(es:Array (Int×Value))(n:Nat):(relayAll t es n).2.1.led=t.led:=by
 unfold relayAll
 split
 ·have f:=Xc9 (by assumption)
  dsimp only
  split
  ·exact f.1
  ·rfl
 ·rfl
theorem Ya9 {α β:Type}{F:α->β->Prop}{l l':List α}{m:List β}(p:ybj l l')(h:Paired F l m):∃m',ybj m m'/\Paired F l' m':=by
 induction p generalizing m with
 |nil=>cases h;exact⟨[],.nil,.nil⟩
 |cons x _ ih =>
  cases h with
  |cons hx t =>
   obtain⟨m',f,c⟩:=ih t;exact⟨_::m',.cons _ f,.cons hx c⟩
 |swap x y l =>
  cases h with
  |cons hx t =>
   cases t with
   |cons hy t=>exact⟨_,.swap _ _ _,.cons hy (.cons hx t)⟩
 |trans _ _ ih1 ih2 =>
  obtain⟨i,e,b⟩:=ih1 h;obtain⟨g,d,a⟩:=ih2 b;exact⟨g,e.trans d,a⟩
noncomputable def Xh5 (w:World):Obj:={ cls:=.type "set",data:=.set #[] 0 (zau.fresh 0 0 !(w.params.followText "set-order")) }
section
variable {P:zf}{E:Value->Shared->Prop}
theorem Wd3 {Q:Value->Shared->Prop}(h:Q (.ref s.heap.objs.size) { s with heap:=s.heap.push (Xh5 w) }):wpAny (model P w) A (newSet (.type "set")) Q E s:=by
 refine za (za (yat (yb ?_)));exact yab h (hd:=by show _<=zi;decide)
end
section
variable {prog:zf}{E:Value->Shared->Prop}
theorem Ya3 {α:Type}{Q:α->Shared->Prop}(hh:A.handled=none)(hE:∀h' e,(∀b o,s.heap.get? b=some o->h'.get? b=some o)->(∃o,h'.get? e=some o/\o.cls=.type "StopIteration")->E (.ref e) { s with heap:=h' }) :
  wpAny (model prog w) A (zaz:Sem α) Q E s:=by
 refine za ?_;refine za (yab ?_);refine za (zbc rfl (yab ?_));refine za (wpAny_handled ?_);rw[hh];exact wpAny_throw (hE _ _ (fun b o e=>ya _ (ya _ e)) ⟨_,zh _ rfl,rfl⟩)
theorem Zv9 {items:Array Value}{x:Value}{Q:Value->Shared->Prop}(hit:s.heap.IsTupleIter it l i)(hl:s.heap.IsTuple l items)(hx:items[i]?=some x)(hQ:∀h',h'.IsTupleIter it l (i+1)->zal it s.heap h'->Q x { s with heap:=h' }):wpAny (model prog w) A (ycg (yt it)) Q E s:=by
 obtain⟨o,b,e,a⟩:=id hit;obtain⟨f,c,_,g,d⟩:=hl;refine za (zah (zbr hit) zcl (yae zcl (zbr hit) entry_tupleiter_next ?_ (args_tupleiter_next _)));show wpAny _ _ (field _ 0 >>= _) _ _ _;refine za (zad b a rfl ?_);refine za (zad b a rfl ?_);refine za (yao c d ?_);dsimp only;rw[show items[(i:Int).toNat]?=some x from hx];refine za (zch b a (by simp) (yb ⟨x,rfl,yb (hQ _ ⟨_,yaa _ b (Obj.isFreed_of_fields (zcq a _)),(Obj.cls_mapFields o _).trans e,?_⟩ (yav _ it _))⟩));rw[zcq a];rfl
theorem Zx8 {items:Array Value}{Q:Value->Shared->Prop}(hh:A.handled=none)(hit:s.heap.IsTupleIter it l i)(hl:s.heap.IsTuple l items)(hx:items[i]?=none)(hE:∀h' e,zdi it s.heap h'->(∃o,h'.get? e=some o/\o.cls=.type "StopIteration")->E (.ref e) { s with heap:=h' }):wpAny (model prog w) A (ycg (yt it)) Q E s:=by
 obtain⟨o,a,q,c⟩:=id hit;obtain⟨n,d,_,p,f⟩:=hl;refine za (zah (zbr hit) zcl (yae zcl (zbr hit) entry_tupleiter_next ?_ (args_tupleiter_next _)));show wpAny _ _ (field _ 0 >>= _) _ _ _;refine za (zad a c rfl ?_);refine za (zad a c rfl ?_);refine za (yao d f ?_);dsimp only;rw[show items[(i:Int).toNat]?=none from hx];refine za (ybu (za (zch a c (by simp) ?_)));refine Ya3 (by omega) fun h' e k g=>?_;exact hE h' e (fun b h j m=>k b h ((yav _ it _).2 b j |>.trans m)) g
end
theorem slot_si_next:Slot "set_iterator" (ze "__next__") "set_iterator.__next__" :=
 Slot.of (owner:="set_iterator") (n:="__next__") rfl (by rfl) (by rfl) (by rfl) (Or.inl (by rfl)) (by rfl) (by decide +kernel)
theorem Yk1:entryFor table "set_iterator.__next__"=some zdn.«set_iterator.__next__»:=entryFor_of_tree rfl
theorem Yq6 (a:Value):argsOk "set_iterator.__next__" { pos:=[a] }:=by rfl
theorem Yd8:entryFor table "set.__iter__"=some zdn.«frozenset.__iter__» :=
 entryFor_alias (id':="frozenset.__iter__") (by rw[ycv];rfl) (by rfl) (by decide +kernel) (by rw[ycv];rfl)
theorem Zw5:Slot "set_iterator" (ze "__iter__") "set_iterator.__iter__" :=
 Slot.of (owner:="set_iterator") (n:="__iter__") rfl (by rfl) (by rfl) (by rfl) (Or.inl (by rfl)) (by rfl) (by decide +kernel)
theorem Yk2:entryFor table "set_iterator.__iter__"=some zdn.«dict_keyiterator.__iter__» :=
 entryFor_alias (id':="dict_keyiterator.__iter__") (by rw[ycv];rfl) (by rfl) (by decide +kernel) (by rw[ycv];rfl)
noncomputable abbrev Zv2 (first:Value)(i:Nat)(a:Addr)(n ep:Nat):Obj:={ cls:=.type "set_iterator",data:=.fields #[first,.int i 0,.ref a,.int n 0,.int ep 0] }
section
variable {P:zf}{E:Value->Shared->Prop}
theorem Wf9 {α:Type}{src:Source}{k:Nat->Sem α}{Q:α->Shared->Prop}(hn:n≠0)(h:∀i d,i < n->wpAny (model P w) A (k i) Q E { s with drawn:=d }):wpAny (model P w) A (Sem.choose src n k) Q E s:=by
 intro Γ p hΓ;exact⟨hn,h _ _ (Nat.mod_lt _ (Nat.pos_of_ne_zero hn)) Γ p hΓ⟩
theorem Zs7 {first:Value}{n:Nat}{o:Obj}{t:zau}{Q:Option Value->Shared->Prop}(hI:s.heap.get? I=some (Zv2 first i a es.size ep))(ha:s.heap.get? a=some o)(hd:o.data=.set es ep t)(hf:t.fits es.size=true) (h:wpAny (model P w) A.in1 (match first with
     |zcf slot tok=>do
      let __do_lift <- setNext a slot.toNat i ep
      match __do_lift with
       |some (x,next)=>do
        ycw (.ref I) 0 (rawInt ↑next)
        ycw (.ref I) 1 (rawInt (i+1))
        ret x
       |none=>do
        ycw (.ref I) 2 yz
        zaz
     |x=>do
      let __x <- seqItems? first
      match __x with
       |some places =>
        match places[i]? with
        |some (zcf place tok)=>do
         let x <- setNextDrawn a place.toNat ep
         ycw (.ref I) 1 (rawInt (i+1))
         ret x
        |some val=>unsupported "internal:set_iterator"
        |none=>do
         ycw (.ref I) 0 (rawInt 0)
         ycw (.ref I) 2 yz
         zaz
       |x=>unsupported "internal:set_iterator")
   (fun fin s'=>∃v,fin=Fin.done (Flow.ret v)/\Q (some v) s') (fun e s'=>wpAny (model P w) A (isInstance e (zaa "StopIteration") >>= fun b=>if b=true then pure none else throw e) Q E s') s):wpAny (model P w) A (pyNext (.ref I)) Q E s:=by
 have c:s.TypeIs (.ref I) "set_iterator":=⟨_,hI,rfl⟩;refine za (ycq (zah c slot_si_next (yae slot_si_next c Yk1 ?_ (Yq6 _))));show wpAny _ _ (fieldsOf _ >>= _) _ _ _;refine za (wpAny_fieldsOf hI rfl (za (wpAny_setEntries_of ha hd hf ?_)));rw[if_neg (by simp)];refine ybt h (fun fin s' zZ=>by obtain⟨v,e,q⟩:=zZ;exact ⟨v,e,yb q⟩) fun e s' q=>q
theorem Yg8 {o:Obj}{t:zau}{places:List Nat}{pl:Nat}{hx:Int}{x:Value}{Q:Option Value->Shared->Prop}(hI:s.heap.get? I=some (Zv2 (.ref T) i a es.size ep))(ha:s.heap.get? a=some o)(hd:o.data=.set es ep t)(hf:t.fits es.size=true)(hT:s.heap.get? T=some { cls:=.type "tuple",data:=.seq (places.map fun (k:Nat)=>rawInt (k:Int)).toArray })(hp:places[i]?=some pl)(he:es[pl]?=some (hx,x))(hQ:∀h',h'.get? I=some (Zv2 (.ref T) (i+1) a es.size ep)->zal I s.heap h'->Q (some x) { s with heap:=h' }):wpAny (model P w) A (pyNext (.ref I)) Q E s:=by
 refine Zs7 (n:=es.size) hI ha hd hf ?_;refine za (yao hT rfl ?_);dsimp only;rw[show (places.map fun (k:Nat)=>rawInt k).toArray[i]?=some (rawInt pl) from by simp[*]];refine za ?_;refine za (yap ha hd hf ?_);dsimp only;rw[if_neg (by simp),Int.toNat_natCast,he];exact yb (za (zw hI (by simp) fun h' b c=>yb ⟨x,rfl,hQ h' b c⟩))
theorem Ym6 {o:Obj}{t:zau}{places:List Nat}{Q:Option Value->Shared->Prop}(hh:A.handled=none)(hI:s.heap.get? I=some (Zv2 (.ref T) i a es.size ep))(ha:s.heap.get? a=some o)(hd:o.data=.set es ep t)(hf:t.fits es.size=true)(hT:s.heap.get? T=some { cls:=.type "tuple",data:=.seq (places.map fun (k:Nat)=>rawInt (k:Int)).toArray })(hp:places[i]?=none)(hQ:∀h',zdi I s.heap h'->Q none { s with heap:=h' }):wpAny (model P w) A (pyNext (.ref I)) Q E s:=by
 refine Zs7 (n:=es.size) hI ha hd hf ?_;refine za (yao hT rfl ?_);dsimp only;rw[show (places.map fun (k:Nat)=>rawInt k).toArray[i]?=none from by simp[*]];refine za (zw hI (by simp) fun p g d=>za (zw g (by simp) fun m l c=>?_));refine Ya3 hh fun h' e k ⟨oe,he,hc⟩=>za (ybh ⟨oe,he,hc⟩ zcx ?_);exact yb (hQ h' fun b h f j=>k b h ((c.2 b f).trans ((d.2 b f).trans j)))
theorem Ym5 {o:Obj}{t:zau}{e:Int×Value}{Q:Option Value->Shared->Prop}(hb:w.params.followText "set-order"=true)(hI:s.heap.get? I=some (Zv2 (.int 0 0) i a es.size ep))(ha:s.heap.get? a=some o)(hd:o.data=.set es ep t)(hf:t.fits es.size=true)(he:(zcr (w.params.setOrder a ep) es)[i]?=some e)(hQ:∀h',h'.get? I=some (Zv2 (.int 0 0) (i+1) a es.size ep)->zal I s.heap h'->Q (some e.2) { s with heap:=h' }):wpAny (model P w) A (pyNext (.ref I)) Q E s:=by
 refine Zs7 (n:=es.size) hI ha hd hf ?_;refine za ?_;refine za (yap ha hd hf ?_);refine za (za (yat (yb ?_)));rw[if_pos (show (model P w).w.params.followText "set-order"=true from hb),if_neg (by simp)];refine za ?_;refine za (yap ha hd hf ?_);refine za (za (yat (yb ?_)));rw[if_pos (show (model P w).w.params.followText "set-order"=true from hb)];refine za (yat (yb (yb ?_)));rw[show (zcr ((model P w).w.params.setOrder a ep) es)[i]?=some e from he];exact za (zw hI (by simp) fun h f c=>za (zw f (by simp) fun g d b=>yb ⟨_,rfl,hQ g d (c.trans b)⟩))
theorem Yr9 {o:Obj}{t:zau}{Q:Option Value->Shared->Prop}(hh:A.handled=none)(hb:w.params.followText "set-order"=true)(hI:s.heap.get? I=some (Zv2 (.int 0 0) i a es.size ep))(ha:s.heap.get? a=some o)(hd:o.data=.set es ep t)(hf:t.fits es.size=true)(he:(zcr (w.params.setOrder a ep) es)[i]?=none)(hQ:∀h',zdi I s.heap h'->Q none { s with heap:=h' }):wpAny (model P w) A (pyNext (.ref I)) Q E s:=by
 refine Zs7 (n:=es.size) hI ha hd hf ?_;refine za ?_;refine za (yap ha hd hf ?_);refine za (za (yat (yb ?_)));rw[if_pos (show (model P w).w.params.followText "set-order"=true from hb),if_neg (by simp)];refine za ?_;refine za (yap ha hd hf ?_);refine za (za (yat (yb ?_)));rw[if_pos (show (model P w).w.params.followText "set-order"=true from hb)];refine za (yat (yb (yb ?_)));rw[show (zcr ((model P w).w.params.setOrder a ep) es)[i]?=none from he];refine za (zw hI (by simp) fun h g c=>?_);refine Ya3 hh fun h' e k ⟨oe,he,hc⟩=>za (ybh ⟨oe,he,hc⟩ zcx ?_);exact yb (hQ h' fun b d hb f=>k b d ((c.2 b hb).trans f))
theorem Zv6 {α:Type}:∀(l:List α) (i:Nat) (h:i < l.length),ybj (l[i]::l.eraseIdx i) l
 | [],i,h=>absurd h (by simp)
 |x::l,0,h=>.refl _
 |x::l,i+1,h=>by
  have ih:=Zv6 l i (by simp_all);exact (ybj.swap _ _ _).trans (.cons _ ih)
theorem Yf5 {α:Type}:∀(n:Nat) (xs:List α) {s:Shared} {Q:List α->Shared->Prop},xs.length<=n->(∀ys d,ybj ys xs->Q ys { s with drawn:=d })->wpAny (model P w) A (drawOrder n xs) Q E s
 | 0,xs,s,Q,hn,hQ=>by
  have  := ycr.mp (Nat.le_zero.mp hn);subst this;exact yb (hQ [] _ .nil)
 |n+1,[],s,Q,hn,hQ=>by
  exact yb (hQ [] _ .nil)
 |n+1,x::xs,s,Q,hn,hQ=>by
  refine za (Wf9 (by simp) fun i d hi=>yb ?_);rw[zb hi];refine za (Yf5 n _ (by rw[List.length_eraseIdx_of_lt hi];omega) fun ys d' hp=>yb (hQ _ _ ?_));exact (ybj.cons _ hp).trans (Zv6 _ _ hi)
theorem Zl3 {α:Type}(next:Nat->Nat)(xs:Array α):ybj (zcr next xs).toList xs.toList:=by
 have c:∀(f k:Nat) (left:List α) (a:Array α),left.length=f->ybj (zcr.go next f k left a).toList (a.toList++left):=by
  intro f
  induction f with
  |zero =>
   intro k left a h;rw[ycr.mp h,yac,pickOrder.go.eq_def]
  |succ f ih =>
   intro k left a h;rw[pickOrder.go.eq_def];dsimp only;have b:next k % left.length < left.length:=Nat.mod_lt _ (by omega);rw[zb b];refine (ih _ _ _ (by rw[List.length_eraseIdx_of_lt b];omega)).trans ?_;rw[Array.toList_push,yam];exact ybj.append_left _ (Zv6 _ _ b)
 unfold zcr;have:=c xs.size 0 _ #[] rfl
 simp_all
end
section
variable {P:zf}{E:Value->Shared->Prop}
theorem Xt9 {Q:Bool->Shared->Prop}(hT:s.TypeIs (.ref a) "set")(h:Q false s):wpAny (model P w) A (zdn.List.listLengthHint (.ref a)) Q E s:=by
 refine za (yby hT F.slot_set_len.lookup ?_);refine za (ybh hT sub_set_self ?_);rw[if_neg (by decide)];refine wpAny_ite_split (fun _=>za (wpAny_typeOf hT (yb h))) fun b=>absurd rfl b
end
theorem Zm3 (CX:CXT)(P:zf)(w:World)(K:W.Frag)(mg:Str->Option Value)(base:Heap)(N:List Str)(qual:Str)(scope:Scope)(f:Addr)(cd:Value)(A:Around)(outer:List Env)(s:Shared)(H:Hp)(E:XK):(cxOf CX P w K mg base N qual scope f cd A outer s H E).prog=P:=rfl
theorem Yf6 (CX:CXT)(P:zf)(w:World)(K:W.Frag)(mg:Str->Option Value)(base:Heap)(N:List Str)(qual:Str)(scope:Scope)(f:Addr)(cd:Value)(A:Around)(outer:List Env)(s:Shared)(H:Hp)(E:XK):(cxOf CX P w K mg base N qual scope f cd A outer s H E).w=w:=rfl
theorem Zq0 (X:Cx)(N':List Str)(scope:Scope)(cl:List (Str×Addr))(s:Shared)(H:Hp)(C:Addr)(ex:List Addr):(blk X N' scope cl s H C ex).prog=X.prog:=rfl
theorem Xe1 (X:Cx)(N':List Str)(scope:Scope)(cl:List (Str×Addr))(s:Shared)(H:Hp)(C:Addr)(ex:List Addr):(blk X N' scope cl s H C ex).w=X.w:=rfl
end L2
namespace Ken
open PySem L2 PyProof.Rows
end Ken
namespace L2
open PySem PySem.Spec PyProof.Rows Ken
noncomputable def ExcO (e:Addr)(C:Value)(dd T:Option Addr):HO:=.ext fun h=>∃vs sl,h.get? e=some ⟨C,dd,.fields vs,sl⟩/\vs.size=6/\vs[1]?=some (T.elim yz yt)
noncomputable def TbO (t:Addr)(fl:Value):HO:=.ext fun h=>∃c d ts sl,h.get? t=some ⟨c,d,.fields ts,sl⟩/\ts[3]?=some fl
section
variable {P:zf}{e t:Addr}{C fl:Value}{T:Option Addr}
theorem Yv4 (hok:HOk P w H h)(q:H e=some (ExcO e C dd T)):∃vs sl,h.get? e=some ⟨C,dd,.fields vs,sl⟩/\vs.size=6/\vs[1]?=some (T.elim yz yt):=(hok e _ q).1
theorem Xx9 (z:∃vs sl,h.get? e=some ⟨C,dd,.fields vs,sl⟩/\vs.size=6/\vs[1]?=some (T.elim yz yt)):ObjOk P w H h e (ExcO e C dd T) :=
 ⟨z,let ⟨_,_,q,_⟩:=z;⟨_,q⟩,fun _ _ ⟨vs,sl,a,b⟩ k=>⟨vs,sl,k _ a,b⟩⟩
theorem Xg5 (hok:HOk P w H h)(q:H t=some (TbO t fl)):∃c d ts sl,h.get? t=some ⟨c,d,.fields ts,sl⟩/\ts[3]?=some fl:=(hok t _ q).1
theorem Xq5 (z:∃c d ts sl,h.get? t=some ⟨c,d,.fields ts,sl⟩/\ts[3]?=some fl):ObjOk P w H h t (TbO t fl) :=
 ⟨z,let ⟨_,_,_,_,q,_⟩:=z;⟨_,q⟩,fun _ _ ⟨c,d,ts,sl,a,b⟩ k=>⟨c,d,ts,sl,k _ a,b⟩⟩
end
def Wh1 (fl:Value)(H:Hp)(e:Addr)(C:Value)(dd T:Option Addr):Prop:=H e=some (ExcO e C dd T)/\∀t,T=some t->t≠e/\H t=some (TbO t fl)
noncomputable abbrev FlyT:=Wh1 .none
def XStep (e:Addr)(T:Option Addr)(H:Hp)(T':Option Addr)(H':Hp):Prop :=
 (∀b o,H b=some o->b≠e->T≠some b->H' b=some o)/\∀t,T'=some t->t≠e/\(T=some t∨H t=none)
theorem XStep.refl {e:Addr}{T:Option Addr}(h:∀t,T=some t->t≠e):XStep e T H T H:=⟨fun _ _ q _ _=>q,fun t q=>⟨h t q,.inl q⟩⟩
theorem XStep.trans {e:Addr}{T T' T'':Option Addr}{H'':Hp}(a:XStep e T H T' H')(b:XStep e T' H' T'' H''):XStep e T H T'' H'':=by
 refine⟨fun c o q f d=>b.1 c o (a.1 c o q f d) f fun z=>?_,fun t q=>⟨(b.2 t q).1,?_⟩⟩
 ·rcases (a.2 c z).2 with y | y
  ·exact d y
  grind
 ·rcases (b.2 t q).2 with z | z
  ·exact (a.2 t z).2
  ·by_cases hT:T=some t
   ·exact .inl hT
   ·cases e1:H t with
    |none=>simp
    |some o=>rw[a.1 t o e1 (b.2 t q).1 hT] at z;cases z
section
variable {E:Value->Shared->Prop}{e L:Addr}{C:Value}{T:Option Addr}
theorem Inv.noted {t:Addr}{fl:Value}(I:Inv X pins σ H s)(F:FlyT H e C dd T)(hos:s'.os=s.os)(hg:s'.gens=s.gens)(hn:s.heap.objs.size<=t)(keep:∀b o,s.heap.get? b=some o->b ∉ frs X.stack->b≠e->T≠some b->s'.heap.get? b=some o)(slot:∀b o,s.heap.get? b=some o->b∈frs X.stack->∃sl,s'.heap.get? b=some { o with slots:=sl })(old:∀b,T=some b->∃c d ts sl,s'.heap.get? b=some ⟨c,d,.fields ts,sl⟩/\ts[3]?=some yz)(exc:∃vs sl,s'.heap.get? e=some ⟨C,dd,.fields vs,sl⟩/\vs.size=6/\vs[1]?=some (yt t))(tb:∃c d ts sl,s'.heap.get? t=some ⟨c,d,.fields ts,sl⟩/\ts[3]?=some fl):
  Inv X pins σ (upd (upd H t (TbO t fl)) e (ExcO e C dd (some t))) s':=by
 have i  := I.hok.fresh hn
 have f:∀b o,H b=some o->(∀φ,o≠.ext φ)->b≠e/\b≠t/\T≠some b:=fun b o q n=>by
  refine⟨fun z=>?_,Zb0 q i,fun z=>?_⟩
  ·subst z;rw[F.1] at q;cases q;exact n _ rfl
  ·have:=(F.2 b z).2;rw[q] at this;cases this;exact n _ rfl
 have h:∀b o,H b=some o->b≠e->upd (upd H t (TbO t fl)) e (ExcO e C dd (some t)) b=some o:=fun b o q n=>by
  rw[Za9 n,Za9 (Zb0 q i)];exact q
 have j:∀b,H b=none->b≠t->upd (upd H t (TbO t fl)) e (ExcO e C dd (some t)) b=none:=fun b q n=>by
  rw[Za9 (Zb0 F.1 q).symm,Za9 n];exact q
 refine I.call' (ch:=[]) hos ⟨fun b o q n g _=>?_,fun b o q n g _=>slot b o q g,fun b o q n _=>j b n (yq (zn (zj q) hn)),fun b o q _=>?_,fun b l q=>h b _ q (f b _ q fun φ z=>nomatch z).1,fun b o u q=>h b _ q (f b _ q fun φ z=>nomatch z).1,
  fun b p q=>⟨#[],by rw[h b _ q (f b _ q fun φ z=>nomatch z).1];simp⟩⟩ (fun b o q=>?_) (by rw[hg];exact I.bare) fun b z=>nomatch z
 ·exact keep b o q g (Zb0 F.1 n).symm fun z=>by have:=(F.2 b z).2;rw[n] at this;cases this
 ·by_cases g:b∈frs X.stack
  ·obtain⟨sl,z⟩:=slot b o q g;exact⟨_,z⟩
  ·by_cases he:b=e
   ·subst he;obtain⟨_,_,z,_⟩:=exc;exact⟨_,z⟩
   ·by_cases hT:T=some b
    ·obtain⟨_,_,_,_,z,_⟩:=old b hT;exact⟨_,z⟩
    ·exact⟨o,keep b o q g he hT⟩
 ·by_cases he:b=e
  ·subst he;rw[Za5] at q;cases q;exact Xx9 exc
  ·rw[Za9 he] at q
   by_cases ht:b=t
   ·subst ht;rw[Za5] at q;cases q;exact Xq5 tb
   ·rw[Za9 ht] at q
    by_cases hT:T=some b
    ·have k:=(F.2 b hT).2
     rw[q] at k;cases k;exact Xq5 (old b hT)
    ·refine (I.hok b o q).stay (fun c u a z=>keep c u z ?_ ?_ ?_) (fun c z=>h c _ z (f c _ z fun φ y=>nomatch y).1) fun c l z=>h c _ z (f c _ z fun φ y=>nomatch y).1
     ·intro y
      have m:=I.stkFree c y
      grind
     ·rcases a with a | a
      ·rw[a];exact he
      ·exact (f c _ a fun φ y=>nomatch y).1
     ·rcases a with a | a
      ·rw[a];exact hT
      ·exact (f c _ a fun φ y=>nomatch y).2.2
theorem Xa3 {head:Value}{hadNext:Bool}{Q:Unit->Shared->Prop}(I:Inv X pins σ H s)(F:FlyT H e C dd T)(hA:A.frames=some X.stack)(hst:X.stack=X.env::X.outer)(hf:X.env.frame=some L)
  (h:∀s' t,H t=none->Inv X pins σ (upd (upd H t (TbO t (rawInt L))) e (ExcO e C dd (some t))) s'->Q () s') :
  wpAny M A (do let a <- frameOf X.env;let pl <- entryPlaceOf L hadNext;let b <- EntryCells.newEntry head a .none (rawInt L) .none pl;ycw (.ref e) 1 b) Q E s:=by
 obtain⟨v,x,B,D,G⟩:=Yv4 I.hok F.1
 have l:e ∉ frs _:=fun z=>by have:=I.stkFree e z;rw[F.1] at this;simp_all
 have r:=I.stack;rw[hst] at r hA;refine za (wpAny_frameOf_fun hA r hf fun h₁ hs₁=>za (wpAny_entryPlaceOf fun pl m=>?_));refine za (yab ?_ (m.sizeOk5 _ _ _ _ _));have i:∀b,b ∉ frs X.stack->h₁.get? b=s.heap.get? b:=fun b f=>hs₁.2.1 b (by rw[hst] at f;exact f);have he₁  := (i e l).trans B;have he₂:=ya { cls:=.type "traceback",dict:=none,data:=.fields ([head,.ref L,.none,rawInt L,.none]++if pl.isEmpty then ycf 6 yz else pl).toArray } he₁;refine zch he₂ rfl (by simp_all) ?_;have p  := Nat.ne_of_gt (zj he₁);have k  := zcy hs₁.1.symm;refine h _ _ (I.hok.fresh k) (Inv.noted I F rfl rfl k (fun b o q f n j=>?_) (fun b o q f=>?_) (fun b j=>?_) ?_ ?_)
 ·rw[yw _ _ (zbe n)]
  exact ya _ ((i b f).trans q)
 ·obtain⟨g,z⟩:=hs₁.2.2 b o q
  refine⟨g,?_⟩;rw[yw _ _ (fun y=>l (by rw[y];omega))];exact ya _ z
 ·obtain⟨c,d,w,g,z,u⟩:=Xg5 I.hok (F.2 b j).2
  have f:b ∉ frs _:=fun y=>by have:=I.stkFree b y;rw[(F.2 b j).2] at this;grind
  refine⟨c,d,w,g,?_,u⟩;rw[yw _ _ (zbe (F.2 b j).1)];exact ya _ ((i b f).trans z)
 ·refine⟨v.setIfInBounds 1 (.ref h₁.objs.size),x,?_,by simp[*],by simp[*]⟩
  rw[yaa _ he₂ rfl];rfl
 ·exact⟨_,_,_,_,(yw _ _ (zbe p)).trans (zh _ rfl),by simp⟩
theorem Wd2 {Q:Unit->Shared->Prop}(I:Inv X pins σ H s)(F:FlyT H e C dd T)(hA:A.frames=some X.stack)(hst:X.stack=X.env::X.outer)(hf:X.env.frame=some L)
  (h:∀s' H' t,Inv X pins σ H' s'->Wh1 (rawInt L) H' e C dd (some t)->XStep e T H (some t) H'->Q () s'):wpAny M A (noteFrame (.ref e) X.env) Q E s:=by
 obtain⟨w,x,p,B,r⟩:=Yv4 I.hok F.1
 have f:∀s' t,H t=none->Inv X _ σ (upd (upd H t _) e _) s'->Q () s':=fun s' t j J=>by
  have a  := Zb0 F.1 j;refine h s' _ t J ⟨Za5,fun u q=>?_⟩ ⟨fun b o q m y=>?_,fun u q=>?_⟩
  ·cases q;exact⟨a.symm,by rw[Za9 a.symm,Za5]⟩
  ·rw[Za9 m,Za9 (Zb0 q j)];exact q
  ·cases q;exact⟨a.symm,.inr j⟩
 unfold noteFrame;simp only[hf];refine za (zad p rfl r ?_)
 cases hT:T with
 |none =>
  exact Xa3 I F hA hst hf f
 |some t =>
  subst hT;obtain⟨v,i⟩:=F.2 t rfl;obtain⟨c,d,l,k,z,g⟩:=Xg5 I.hok i;refine za (zad z rfl g ?_);refine za (zch z rfl (zbh.mp g).1 ?_);refine Xa3 ?_ F hA hst hf f
  have D:=I.write (o:=TbO t .none) (h':=s.heap.update t (Obj.mapFields _)) (t':=s.toks) (by rw[i];trivial) (.inl rfl) fun b u n q=>by rw[yw _ _ (zbe n)];exact q
   ⟨_,yaa _ z rfl⟩ (Xq5 ⟨c,d,l.setIfInBounds 3 .none,k,by rw[yaa _ z rfl];rfl,by simp[(zbh.mp g).1]⟩)
  have:upd H t (TbO t .none)=H:=by
   funext b
   by_cases hb:b=t
   ·subst hb;rw[Za5,i]
   ·rw[Za9 hb]
  simp_all
theorem Wd8 {Q:Unit->Shared->Prop}{fl:Value}(I:Inv X pins σ H s)(F:Wh1 fl H e C dd T)
  (h:∀s' H',Inv X pins σ H' s'->FlyT H' e C dd T->XStep e T H T H'->Q () s'):wpAny M A (setFlight (.ref e) none) Q E s:=by
 obtain⟨r,v,l,x,m⟩:=Yv4 I.hok F.1;refine za (zad l rfl m ?_)
 cases hT:T with
 |none =>
  subst hT;exact yb (h s H I ⟨F.1,fun t q=>nomatch q⟩ (XStep.refl fun t q=>nomatch q))
 |some t =>
  subst hT;obtain⟨a,i⟩:=F.2 t rfl;obtain⟨c,d,j,g,z,f⟩:=Xg5 I.hok i;refine zch z rfl (zbh.mp f).1 ?_
  have p:=I.write (o:=TbO t .none) (h':=s.heap.update t (Obj.mapFields _)) (t':=s.toks) (by rw[i];trivial) (.inl rfl) fun b u n q=>by rw[yw _ _ (zbe n)];exact q
   ⟨_,yaa _ z rfl⟩ (Xq5 ⟨c,d,j.setIfInBounds 3 .none,g,by rw[yaa _ z rfl];rfl,by simp[(zbh.mp f).1]⟩)
  refine h _ _ p ⟨by rw[Za9 (zbe a)];exact F.1,fun u q=>?_⟩ ⟨fun b o q w k=>?_,fun u q=>?_⟩
  ·cases q;exact⟨a,Za5⟩
  ·rw[Za9 fun y=>k (by rw[y])];exact q
  simp_all
end
noncomputable def CXe (P:zf)(w:World):CXT:=fun outer H s E e s'=>∃ea C dd T H',e=.ref ea/\s'.os=s.os/\zdp s'.gens/\Un (frs outer) [] H H' s.heap s'.heap/\HOk P w H' s'.heap/\FlyT H' ea C dd T /\
 ∀T'' H'',XStep ea T H' T'' H''->FlyT H'' ea C dd T''->E (.ref ea) dd H''
def XOk (X:Cx)(E:XK):Prop:=∀(pins:List (Addr×Obj)) (σ:St) (H:Hp) (s:Shared) (ea:Addr) (C:Value) (dd T:Option Addr),Inv X pins σ H s->FlyT H ea C dd T ->
 (∀T'' H'',XStep ea T H T'' H''->FlyT H'' ea C dd T''->E (.ref ea) dd H'')->X.xe (.ref ea) s
theorem Xt3 {X:Cx}{E:Value->Shared->Prop}{e L:Addr}{C:Value}{T:Option Addr}{Q:Unit->Shared->Prop}(I:Inv X pins σ H s)(F:FlyT H e C dd T)(hA:A.frames=some X.stack)(hst:X.stack=X.env::X.outer)(hf:X.env.frame=some L)(h:∀s' H' T',Inv X pins σ H' s'->FlyT H' e C dd T'->XStep e T H T' H'->Q () s'):wpAny M A (leaving X.env (.ref e)) Q E s:=by
 exact za (Wd2 I F hA hst hf fun k l t f j c=>Wd8 f j fun a g d i b=>h a g _ d i (c.trans b))
theorem Yw1 {P:zf}{base:Heap}{N:List Str}{E:XK}:
  XOk (cxOf (CXe P w) P w K mg base N qual scope f cd A outer s H E) E:=by
 intro d m p o e C g T I F h;refine Xt3 (X:=cxOf _ P w K mg _ N _ _ f cd A _ s H E) I F I.ok.frames rfl rfl fun n k i a l j=>?_;exact⟨e,C,g,i,k,rfl,a.os,a.bare,a.base,a.hok,l,fun b c S F=>h b c (j.trans S) F⟩
noncomputable abbrev bmV:List Value:=[.type "ValueError",.type "Exception",.type "BaseException",.type "object"]
def IsXC (h:Heap)(C:Addr)(bm:List Value)(mN:Str->Option Value):Prop:=∃nm q N bs hdct sn sub ab col dd k0 k1 k2 k3 k5,h.get? C=some (excClassObj nm q C N bs bm hdct sn sub ab col dd k0 k1 k2 k3 k5 "ValueError.__new__")/\h.Ns N mN/\OwnTail h bmV bm
def XCls (K:W.Frag)(C:Addr):Prop:=∀h,K.In h->∃bm mN,IsXC h C bm mN/\mN "__init__"=none
section
variable {P:zf}
theorem ObjOk.obj (x:ObjOk P w H h a o):∃ob,h.get? a=some ob:=by
 cases o with
 |lst xs=>obtain⟨_,_,_,_,e⟩:=x;exact⟨_,e⟩
 |tup xs=>obtain⟨_,_,_,o,e,_⟩:=x;exact⟨_,e⟩
 |dK kvs=>obtain⟨_,_,_,_,o,_,_,e,_⟩:=x;exact⟨_,e⟩
 |dT kvs=>obtain⟨_,_,_,_,o,_,_,e,_⟩:=x;exact⟨_,e⟩
 |set S n=>obtain⟨o,_,_,_,e,_⟩:=x;exact⟨_,e⟩
 |ins C dx fs=>exact⟨_,x.2.2.2.1⟩
 |own y=>exact x
 |xd fs=>obtain⟨_,⟨_,_,_,e,_⟩,_⟩:=x;exact⟨_,e⟩
 |rng lo hi=>obtain⟨_,_,_,e⟩:=x;exact⟨_,e⟩
 |frz ob u=>exact⟨_,x.1⟩
 |tbl ps=>exact⟨_,x⟩
 |met f y=>exact⟨_,x⟩
 |ext φ=>exact x.2.1
theorem HOk.newAt (x:HOk P w H h)(n:h.get? a=none):H a=none:=by
 cases q:H a with
 |none=>rfl
 |some u =>
  obtain⟨b,z⟩:=(x a u q).obj
  grind
theorem Inv.laidN {t':Nat}(I:Inv X pins σ H s)(k:∀b u,s.heap.get? b=some u->h'.get? b=some u)(hn:s.heap.get? a=none)(new:ObjOk X.prog X.w (upd H a o) h' a o):
  Inv X pins σ (upd H a o) { s with heap:=h',toks:=t' }:=by
 have f:=I.hok.newAt hn
 have d:∀b u,H b=some u->upd H a o b=some u:=fun b u q=>by rw[Za9 (Zb0 q f)];exact q
 refine I.un ⟨fun b u q _ _ _=>k b u q,fun b u q _ _ _=>⟨u.slots,k b u q⟩,fun b u q n _=>?_,fun b u q _=>⟨u,k b u q⟩,fun b e q=>d _ _ q,fun b u e q=>d _ _ q,fun b g q=>⟨#[],by simp_all⟩⟩ fun b u q=>?_
 ·rw[Za9 (fun z=>by grind)];exact n
 ·by_cases hb:b=a
  ·subst hb;rw[Za5] at q;simp_all
  ·rw[Za9 hb] at q
   exact (I.hok b u q).stay (fun c v _ z=>k c v z) (fun c z=>d _ _ z) fun c e z=>d _ _ z
end
theorem IsXC.base {mN:Str->Option Value}(x:IsXC h C bm mN):bm.contains (.type "BaseException")=true:=by
 obtain⟨_,_,_,_,_,_,_,_,_,_,_,_,_,_,_,_,_,c⟩:=x;exact c.hasType rfl
theorem Xz0 {N:Addr}{nm q:Str}{bs:List Value}{hdct:Bool}{sn:List Str}{sub:List Value}{ab:Bool}{col:Option Bool}{k0 k1 k2 k3 k5:Option Value}(l:K.lookup C=some (excClassObj nm q C N bs bm hdct sn sub ab col dd k0 k1 k2 k3 k5 "ValueError.__new__"))(t:W.tailIn K bmV bm=true)(n:W.nsOkIn K N=true)(i:W.nsIn K N "__init__"=some none):XCls K C:=fun h X =>
 ⟨bm,h.nsMap N,⟨nm,q,N,bs,hdct,sn,sub,ab,col,dd,k0,k1,k2,k3,k5,X _ _ l,.of_isNs (W.isNs_of_in X n),W.tail_of_in X t⟩,W.nsMap_none_of_in X n i⟩
def Xtd (H:Hp)(e:Addr)(C:Value)(dd:Option Addr)(H':Hp):Prop:=H e=none/\Same H H'/\∃T,FlyT H' e C dd T
theorem Xtd.step {G:Hp}{e:Addr}{C:Value}{T T':Option Addr}(n:G e=none)(nt:∀t,T=some t->G t=none)(s:Same G H)(S:XStep e T H T' H')(F:FlyT H' e C dd T'):Xtd G e C dd H' :=
 ⟨n,fun b o q=>S.1 b o (s b o q) (Zb0 q n) (fun z=>by rw[nt b z] at q;cases q),T',F⟩
def Yl9 (E:XK)(C:Addr)(t:TA):TS:=fun _ σ H=>t σ H fun vs H1=>vs.length<=zi/\∀e H',Xtd H1 e (.ref C) none H'->E (.ref e) none H'
section
variable {E:XK}{np cpos:Pos}{e:Expr}{es:List Expr}{t:TA}
theorem Yx7 (hx:XOk X E)(hc:X.calm=true)(hg:Gl X x)(hm:X.mg x=some (.ref C))(hC:XCls X.K C)(ha:PA X (e::es) t)(hdb:(x == ("__debug__":Str))=false:=by decide)
  (hs:zx (e::es) X.env=(false,eval e X.env)::zx es X.env:=by rfl) (hpl:(backTo cpos (zx es X.env)).any (·.1)=false:=by rfl) :
  PS X (.Raise (some (.Call (.Name x np) (e::es) [] cpos)) none pos) (Yl9 E C t):=by with_unfolding_all
 intro c s f H D I h;obtain⟨bm,mN,j,g⟩:=hC X.base I.ok.mod.kin;obtain⟨nm,q,N,bs,hdct,sn,sub,ab,col,dd,k0,k1,k2,k3,k5,u,p,n⟩:=id j;refine wpAny_Raise_call_subT F.excBase_ValueError (C:=C) (nm:=nm) (q:=q) (N:=N) (bs:=bs) (bm:=bm) (hdct:=hdct) (sn:=sn) (sub:=sub) (ab:=ab) (col:=col) (dd:=dd) (k0:=k0) (k1:=k1) (k2:=k2) (k3:=k3) (k5:=k5) (mN:=mN)
  j.base (I.ok.hd hc) (by rw[hs];exact hpl) g (Zo6 I hg hm ⟨rfl,?_⟩ hdb)
 rw[hs];refine PySem.Calls.evalArgs_plain ?_;have a:=ha cpos c s f H _ I h;rw[hs] at a;refine thn a fun us s1 ⟨vs,H1,I1,r,hl,q1⟩=>⟨rfl,by rw[<- r.length];omega,I1.bk _ _ u,p.keeps I1.bk,n.keeps I1.bk,fun A d m=>?_⟩;obtain⟨w,l,_,y⟩:=m.there;have J:=I1.laidN (o:=ExcO d _ _ none) (t':=s1.toks) m.keeps m.new (Xx9 ⟨_,_,l,rfl,rfl⟩);have i:=I1.hok.newAt m.new;refine hx _ f _ _ d _ _ _ J ⟨Za5,fun t q=>nomatch q⟩ fun v k S F=>q1 d k ?_;exact Xtd.step (T:=none) i (fun t z=>nomatch z) (fun b o q=>by rw[Za9 (Zb0 q i)];exact q) S F
end
open PySem.W
section
variable {prog:zf}{E:Value->Shared->Prop}{x:Addr}{ox:Obj}{od:Option Obj}{nm:Str}{tk:Tok}
structure XGet (K:W.Frag)(C:Addr):Prop where
 ga:findIn K (.ref C) "__getattribute__"=some (some (.builtin "BaseException.__getattribute__"))
 gt:findIn K (.ref C) "__getattr__"=some none
 mb:mroIn K C (.type "BaseException")=some true
end
structure XIsi (K:W.Frag)(C:Addr):Prop extends XGet K C where
 cls:(clsIn K C).isSome=true
 ca:findIn K (.ref C) "__class__"=some (some (.builtin "object.__class__"))
 mo:mroIn K C (.type "object")=some true
section
theorem Xc1 (X:Cx):X.nox.K=X.K:=rfl
theorem Zw2 (CX:CXT)(P:zf)(w:World)(K:W.Frag)(mg:Str->Option Value)(base:Heap)(N:List Str)(qual:Str)(scope:Scope)(f:Addr)(cd:Value)(A:Around)(outer:List Env)(s:Shared)(H:Hp)(E:XK):(cxOf CX P w K mg base N qual scope f cd A outer s H E).K=K:=rfl
end
end L2
namespace Ken
open PySem
end Ken
namespace L2
open PySem PySem.Spec PyProof.Rows PySem.W
open Ken
section
def tFi (te:TE)(t:TF):TF:=fun out σ H Q=>te σ H fun v H1=>∃i:Int,v=.int i/\i.natAbs.log2 < 1920/\(out++ze (zde i)).length<=zi/\t (out++ze (zde i)) σ H1 Q
theorem Wb8 {e:Expr}{es:List Expr}{t:TF}(he:PE X e te)(h:PF X es t)(hs:evalEach (.FormattedValue e (-1) none pos::es) X.env=eval (.FormattedValue e (-1) none pos) X.env::evalEach es X.env:=by rfl):PF X (.FormattedValue e (-1) none pos::es) (tFi te t):=by with_unfolding_all
 intro n a s b H Q I k;rw[hs];refine joinParts_cons (FormattedValue_plain (thn (he a s b H _ I k) fun v p c=>?_));obtain⟨x,m,l,d,f⟩:=c;obtain⟨i,rfl,j,g,q⟩:=f;obtain⟨o,rfl⟩:=d;exact wpAny_formatField_int j ⟨g,h _ _ _ b m Q (l.tok _) q⟩
end
section
theorem Wd0 {N:Addr}{c:Value}{d:Option Addr}{es:Array zbz}{sl:Array (Option Value)}(l:K.lookup N=some ⟨c,d,.dict es ep,sl⟩)(h:(es.toList.all fun e=>match e.key with | .str _ _=>true | _=>false)=true):W.nsOkIn K N=true:=by
 unfold W.nsOkIn;rw[l];show es.all _=true;rw[<- Array.all_toList];exact h
theorem Xq6 {N:Addr}{nm q:Str}{bs:List Value}{hdct:Bool}{sn:List Str}{sub:List Value}{ab:Bool}{col:Option Bool}{k0 k1 k2 k3 k5:Option Value}{nw:String}(l:K.lookup B=some (excClassObj nm q B N bs bm hdct sn sub ab col dd k0 k1 k2 k3 k5 nw))(hn:W.nsOkIn K N=true)(hi:W.nsIn K N "__init__"=some none):W.tailIn K bmV (.ref B::bmV)=true:=by
 rw[W.tailIn.eq_2,l];dsimp only;rw[hn,hi,show W.tailIn K bmV bmV=true by rfl];rfl
theorem Xv2 (h:ydg K C=true):(W.clsIn K C).isSome=true:=by
 unfold ydg at h
 cases e:W.clsIn K C with
 |none=>simp_all
 |some _=>rfl
end
end L2
namespace Hd
open PySem PySem.W PySem.Calls PySem.Spec PyProof.Rows L2
noncomputable def adr (K:Frag)(x:Str):Addr:=match nsIn K ye x with
 |some (some (.ref a))=>a
 | _=>0
noncomputable def We3 (K:Frag)(x:Str):Bool:=match nsIn K ye x with
 |some (some (.ref _))=>true
 | _=>false
theorem Wu5 (h:We3 K x=true):nsIn K ye x=some (some (.ref (adr K x))):=by
 unfold We3 at h;unfold adr
 split at h
 ·omega
 grind
noncomputable def Zw1 (o:Obj)(C:Addr):Option (List Value×Addr):=match o.data with
 | .cls cd=>if o.cls=.type "type"/\cd.mro.head?=some (.ref C)/\cd.hasDel=false/\o.slots.size=6/\o.slots[4]?=some (some (.builtin "ValueError.__new__")) then some (cd.mro.tail,cd.ns) else none
 | _=>none
theorem Xx8 {o:Obj}{N:Addr}(h:Zw1 o C=some (bm,N)):∃(nm q:Str) (bs:List Value) (hdct:Bool) (sn:List Str) (sub:List Value) (ab:Bool) (col:Option Bool) (dd:Option Addr) (k0 k1 k2 k3 k5:Option Value),
  o=excClassObj nm q C N bs bm hdct sn sub ab col dd k0 k1 k2 k3 k5 "ValueError.__new__":=by
 obtain⟨c,dd,i,d⟩:=o
 cases i with
 |cls cd =>
  obtain⟨nm,bs,b,n,q,j,sn,sub,ab,col,g⟩:=cd
  by_cases hc:c=.type "type"/\b.head?=some (.ref C)/\g=false/\d.size=6/\d[4]?=some (some (.builtin "ValueError.__new__"))
  ·cases (if_pos hc).symm.trans h
   obtain⟨rfl,f,rfl,e,k⟩:=hc;obtain⟨l⟩:=d
   cases b with
   |nil=>cases f
   |cons a m =>
    cases f;have e:l.length=6:=e
    rcases l with _ | ⟨k0,_ | ⟨k1,_ | ⟨k2,_ | ⟨k3,_ | ⟨r,_ | ⟨k5,_ | ⟨p,l⟩⟩⟩⟩⟩⟩⟩<;>try cases e
    cases k;exact⟨nm,q,bs,j,sn,sub,ab,col,dd,k0,k1,k2,k3,k5,rfl⟩
  ·cases (if_neg hc).symm.trans h
 | _=>cases h
noncomputable def Xc0 (K:Frag)(N:Addr):Bool:=match K.lookup N with
 |some ⟨_,_,.dict es _,_⟩=>es.toList.all fun e=>match e.key with | .str _ _=>true | _=>false
 | _=>false
set_option tactic.hygienic true in
theorem Yy5 {N:Addr}(h:Xc0 K N=true):nsOkIn K N=true:=by
 unfold Xc0 at h
 split at h
 ·rename_i l
  exact Wd0 l h
 grind
noncomputable def Wf3 (K:Frag)(C B:Addr):Bool:=match (K.lookup C).bind (Zw1 · C),(K.lookup B).bind (Zw1 · B) with
 |some (bm,N),some (_,M)=>bm == .ref B::bmV&&Xc0 K N&&Xc0 K M&&nsIn K N "__init__" == some none&&nsIn K M "__init__" == some none
 | _,_=>false
set_option tactic.hygienic true in
theorem Xy9 (h:Wf3 K C B=true):XCls K C:=by
 unfold Wf3 at h
 split at h
 ·rename_i bm N bm2 M hC hB
  obtain⟨o,l,f⟩:=Option.bind_eq_some_iff.mp hC;obtain⟨o2,l2,f2⟩:=Option.bind_eq_some_iff.mp hB;simp only[yr] at h;obtain⟨⟨⟨⟨h1,h2⟩,h3⟩,h4⟩,h5⟩:=h;have h1:=eq_of_beq h1;have h4:=eq_of_beq h4;subst h1;obtain⟨nm,q,bs,hd,sn,sub,ab,col,dd,k0,k1,k2,k3,k5,rfl⟩:=Xx8 f;obtain⟨nm',q',bs',hd',sn',sub',ab',col',dd',k0',k1',k2',k3',k5',rfl⟩:=Xx8 f2;exact Xz0 l (Xq6 l2 (Yy5 h3) (eq_of_beq h5)) (Yy5 h2) h4
 grind
noncomputable def Xt8 (K:Frag)(C:Addr):Bool:=findIn K (.ref C) "__getattribute__" == some (some (.builtin "BaseException.__getattribute__"))&&findIn K (.ref C) "__getattr__" == some none&&mroIn K C (.type "BaseException") == some true&&hasDictIn K C &&
 findIn K (.ref C) "__class__" == some (some (.builtin "object.__class__"))&&mroIn K C (.type "object") == some true
theorem Xy8 (h:Xt8 K C=true):XIsi K C:=by
 unfold Xt8 at h;simp only[yr] at h;exact⟨⟨eq_of_beq h.1.1.1.1.1,eq_of_beq h.1.1.1.1.2,eq_of_beq h.1.1.1.2⟩,Xv2 h.1.1.2,eq_of_beq h.1.2,eq_of_beq h.2⟩
structure ClsAsk where
 cls:List Nat
 exc:List (Nat×Nat)
 kit:List (Nat×List Nat)
noncomputable def at_ (p:zf)(K:Frag)(i:Nat):Addr:=adr K (nm (stAt p i))
noncomputable def chk (p:zf)(B:ClsAsk)(K:Frag):Bool :=
 (B.cls.all fun i=>We3 K (nm (stAt p i)))&&(B.exc.all fun ij=>Wf3 K (at_ p K ij.1) (at_ p K ij.2)&&Xt8 K (at_ p K ij.1)&&kitOne K (.ref (at_ p K ij.1)) (.ref (at_ p K ij.2)) == some true&&kitOne K (.ref (at_ p K ij.1)) (.type "ValueError") == some true) &&
 B.kit.all fun ij=>kitAny K (.ref (at_ p K ij.1)) (ij.2.map fun j=>.ref (at_ p K j)) == some false
section
variable {p:zf}{B:ClsAsk}
theorem Wx8 (h:chk p B K=true)(hi:i∈B.cls):nsIn K ye (nm (stAt p i))=some (some (.ref (at_ p K i))):=by
 unfold chk at h;simp only[yr] at h;exact Wu5 (zay.mp h.1.1 i hi)
theorem c_refx {x:Str}(h:chk p B K=true)(hx:nm (stAt p i)=x)(hi:i∈B.cls):nsIn K ye x=some (some (.ref (at_ p K i))):=hx▸Wx8 h hi
theorem c_exc (h:chk p B K=true){ij:Nat×Nat}(hi:ij∈B.exc):XCls K (at_ p K ij.1)/\XIsi K (at_ p K ij.1)/\kitOne K (.ref (at_ p K ij.1)) (.ref (at_ p K ij.2))=some true/\kitOne K (.ref (at_ p K ij.1)) (.type "ValueError")=some true:=by
 unfold chk at h;simp only[yr] at h;have:=zay.mp h.1.2 ij hi;simp only[yr] at this;exact⟨Xy9 this.1.1.1,Xy8 this.1.1.2,eq_of_beq this.1.2,eq_of_beq this.2⟩
end
noncomputable def Wv1 (p:zf)(A:Ask)(B:ClsAsk)(h:Heap):List Addr :=
 Wy0 p A h++B.cls.flatMap fun i=>match nsIn (pick h [ye]) ye (nm (stAt p i)) with
  |some (some (.ref a))=>a::(match h.get? a with
   |some ⟨_,_,.cls cd,_⟩=>[cd.ns]
   | _=>[])
  | _=>[]
noncomputable def nsOf (K:Frag)(C:Addr):Option Addr:=((K.lookup C).bind (Zw1 · C)).map (·.2)
noncomputable def Wx2 (K:Frag)(C:Addr):Option (Addr×Obj):=(nsOf K C).bind fun N=>match nsIn K N "__init__" with
 |some (some (.ref f))=>(K.lookup f).map fun o=>(f,o)
 | _=>none
noncomputable def We8 (K:Frag)(C:Addr):Option (Value×FnD):=match Wx2 K C with
 |some (_,⟨c,_,.func fd,_⟩)=>some (c,fnD K fd)
 | _=>none
noncomputable def Yj8 (q:Str)(st:Stmt):Option (Value×FnD):=some (.type "function","__init__",q,Zd4 st,.stmts (Zc8 st),Za3 st,ye,[],.none,zdf,true)
noncomputable def Ws9 (K:Frag)(C B:Addr):Bool:=match (K.lookup C).bind (Zw1 · C),(K.lookup B).bind (Zw1 · B) with
 |some (bm,N),some (_,M)=>bm == .ref B::bmV&&Xc0 K N&&Xc0 K M&&nsIn K M "__init__" == some none
 | _,_=>false
noncomputable def Wv8 (K:Frag)(C:Addr)(x:Str):Bool:=findIn K (.ref C) "__setattr__" == some (some (.builtin "object.__setattr__"))&&findIn K (.ref C) x == some none&&hasDictIn K C&&mroIn K C (.type "object") == some true
noncomputable def fiOk:Option CFound->Bool
 |some (.val (.builtin n))=>n == "ValueError.__init__"
 | _=>false
noncomputable def Wx1 (K:Frag)(B:Addr):Bool:=specialIn K (.ref B) "__getattribute__" == some (some (.builtin "type.__getattribute__"))&&readsIn K B (.type "type")&&fiOk (findCls K (.ref B) (.type "type") "__init__")
structure IniRow where
 cls:Nat
 bas:Nat
 met:Nat
 qual:Str
 fld:Str
noncomputable def Ws7 (K:Frag)(C B:Addr)(fld:Str):Bool:=Ws9 K C B&&Xt8 K C&&Wv8 K C fld&&Wx1 K B&&kitOne K (.ref C) (.ref B) == some true&&kitOne K (.ref C) (.type "ValueError") == some true
noncomputable def We5 (K:Frag)(x:Str)(i:Int):Bool:=match nsIn K ye x with
 |some (some (.int j _))=>decide (j=i)
 | _=>false
theorem Ws6 {i:Int}(h:We5 K x i=true):∃t,nsIn K ye x=some (some (.int i t)):=by
 unfold We5 at h
 split at h
 ·grind
 simp_all
structure MoreAsk where
 ini:List IniRow
 nums:List (Str×Int)
noncomputable def chkM (p:zf)(M:MoreAsk)(K:Frag):Bool:=(M.ini.all fun r=>Ws7 K (at_ p K r.cls) (at_ p K r.bas) r.fld)&&M.nums.all fun xi=>We5 K xi.1 xi.2
noncomputable def iniK (p:zf)(M:MoreAsk)(K:Frag):List (Option (Value×FnD)):=M.ini.map fun r=>We8 K (at_ p K r.cls)
noncomputable def iniV (p:zf)(M:MoreAsk):List (Option (Value×FnD)):=M.ini.map fun r=>Yj8 r.qual (Yc2 (stAt p r.cls) r.met)
theorem m_int {p:zf}{M:MoreAsk}(h:chkM p M K=true){i:Int}(hi:(x,i)∈M.nums):∃t,nsIn K ye x=some (some (.int i t)):=by
 unfold chkM at h;rw[yr] at h;exact Ws6 (zay.mp h.2 _ hi)
noncomputable def Wv0 (p:zf)(A:Ask)(B:ClsAsk)(M:MoreAsk)(h:Heap):List Addr :=
 cStatics::Wv1 p A B h++M.ini.flatMap fun r=>match nsIn (pick h [ye]) ye (nm (stAt p r.cls)) with
  |some (some (.ref a))=>(match h.get? a with
   |some ⟨_,_,.cls cd,_⟩=>(match nsIn (pick h [cd.ns]) cd.ns "__init__" with
    |some (some (.ref f))=>f::(match h.get? f with
     |some ⟨_,_,.func fd,_⟩=>(match fd.code with | .ref c=>[c] | _=>[])
     | _=>[])
    | _=>[])
   | _=>[])
  | _=>[]
noncomputable abbrev Obs3:=Obs×Bool×List (Option (Value×FnD))×Bool
noncomputable def Ww7 (p:zf)(A:Ask)(B:ClsAsk)(M:MoreAsk)(K:Frag):Obs3:=(obsK p A K,chk p B K,iniK p M K,chkM p M K)
noncomputable def val3 (p:zf)(A:Ask)(M:MoreAsk)(w:World):Obs3:=(valK p A w.params,true,iniV p M,true)
end Hd
namespace L2
open PySem PySem.Spec PyProof.Rows
structure Df (K:W.Frag)(mg:Str->Option Value)(x:Str)(st:Stmt)(ps:List Str):Prop where
 ex:∃(f:Addr) (fd:zc),mg x=some (.ref f)/\Fun K x x st f fd/\zan K (.ref f)=true/\Binds K fd ps []
end L2
namespace Hd
open PySem PySem.W PySem.Calls PySem.Spec PyProof.Rows L2
section
variable {p:zf}{A:Ask}{P:Params}{a b c d e f g:Str}
theorem df (X:K.In h)(G:h.Ns ye mg)(E:obsK p A K=valK p A P)(i:Nat)(hx:nm (stAt p i)=x)(hi:i∈A.fns)(hb:∀kV dc pm an cd ct (us:List Value),us.length=ps.length->bindArgs (fnOf x x (Zd4 (stAt p i)) (Zc8 (stAt p i)) (Za3 (stAt p i)) .none kV dc pm an cd ct) ⟨us,[]⟩=pure (ps.zip us)):Df K mg x (stAt p i) ps:=by
 obtain⟨f,b,a,F⟩:=Xn4 hx (e_fn E hi);exact⟨⟨f,b,mg_of X G a,F,F.kp,F.binds hb⟩⟩
theorem nsx {f:Addr}(X:K.In h)(G:h.Ns ye mg)(E:obsK p A K=valK p A P)(i:Nat)(m:mg x=some (.ref f))(hx:nm (stAt p i)=x:=by kernel_rfl)(hi:i∈A.fns:=by decide):nsIn K ye x=some (some (.ref f)):=by
 obtain⟨c,b,a,F⟩:=Xn4 hx (e_fn E hi);have e:=(mg_of X G a).symm.trans m
 grind
theorem lS {α:Type}{us:List α}(h:us.length=n+1):∃u t,us=u::t/\t.length=n:=by
 cases us with
 |nil=>cases h
 |cons u t=>exact⟨u,t,rfl,Nat.succ.inj h⟩
theorem df1 (X:K.In h)(G:h.Ns ye mg)(E:obsK p A K=valK p A P)(i:Nat)(hx:nm (stAt p i)=x:=by kernel_rfl)(hi:i∈A.fns:=by decide)
  (hb:∀kV dc pm an cd ct u1,bindArgs (fnOf x x (Zd4 (stAt p i)) (Zc8 (stAt p i)) (Za3 (stAt p i)) .none kV dc pm an cd ct) ⟨[u1],[]⟩=pure [(a,u1)]:=by intros;rfl):Df K mg x (stAt p i) [a] :=
 df X G E i hx hi fun kV dc pm an cd ct e b=>by
  obtain⟨u,c,rfl,d⟩:=lS b
  simp_all
theorem df2 (X:K.In h)(G:h.Ns ye mg)(E:obsK p A K=valK p A P)(i:Nat)(hx:nm (stAt p i)=x:=by kernel_rfl)(hi:i∈A.fns:=by decide)
  (hb:∀kV dc pm an cd ct u1 u2,bindArgs (fnOf x x (Zd4 (stAt p i)) (Zc8 (stAt p i)) (Za3 (stAt p i)) .none kV dc pm an cd ct) ⟨[u1,u2],[]⟩=pure [(a,u1),(b,u2)]:=by intros;rfl):Df K mg x (stAt p i) [a,b] :=
 df X G E i hx hi fun kV dc pm an cd ct j d=>by
  obtain⟨u,f,rfl,c⟩:=lS d;obtain⟨v,e,rfl,g⟩:=lS c
  simp_all
theorem df3 (X:K.In h)(G:h.Ns ye mg)(E:obsK p A K=valK p A P)(i:Nat)(hx:nm (stAt p i)=x:=by kernel_rfl)(hi:i∈A.fns:=by decide)
  (hb:∀kV dc pm an cd ct u1 u2 u3,bindArgs (fnOf x x (Zd4 (stAt p i)) (Zc8 (stAt p i)) (Za3 (stAt p i)) .none kV dc pm an cd ct) ⟨[u1,u2,u3],[]⟩=pure [(a,u1),(b,u2),(c,u3)]:=by intros;rfl):Df K mg x (stAt p i) [a,b,c] :=
 df X G E i hx hi fun kV dc pm an cd ct m f=>by
  obtain⟨u,k,rfl,e⟩:=lS f;obtain⟨v,j,rfl,d⟩:=lS e;obtain⟨w,g,rfl,l⟩:=lS d
  simp_all
theorem df4 (X:K.In h)(G:h.Ns ye mg)(E:obsK p A K=valK p A P)(i:Nat)(hx:nm (stAt p i)=x:=by kernel_rfl)(hi:i∈A.fns:=by decide)
  (hb:∀kV dc pm an cd ct u1 u2 u3 u4,bindArgs (fnOf x x (Zd4 (stAt p i)) (Zc8 (stAt p i)) (Za3 (stAt p i)) .none kV dc pm an cd ct) ⟨[u1,u2,u3,u4],[]⟩=pure [(a,u1),(b,u2),(c,u3),(d,u4)]:=by intros;rfl):Df K mg x (stAt p i) [a,b,c,d] :=
 df X G E i hx hi fun kV dc pm an cd ct q j=>by
  obtain⟨u,n,rfl,g⟩:=lS j;obtain⟨v,m,rfl,f⟩:=lS g;obtain⟨w,l,rfl,e⟩:=lS f;obtain⟨y,k,rfl,o⟩:=lS e
  simp_all
end
noncomputable def Xp1 (K:Frag):Value->Option (Addr×Obj)
 | .ref c=>(K.lookup c).map fun o=>(c,o)
 | _=>none
noncomputable def Xa4 (K:Frag)(x:Str):Option (Addr×Obj):=match Zj8 K x with
 |some (_,⟨_,_,.func fd,_⟩)=>Xp1 K fd.code
 | _=>none
noncomputable def tabV:Option Value->Addr
 |some (.ref T)=>T
 | _=>0
noncomputable def Wv7:Option (Addr×Obj)->Addr
 |some (_,⟨_,_,.fields vs,_⟩)=>tabV vs[11]?
 | _=>0
noncomputable def tabAt (K:Frag)(x:Str):Addr:=Wv7 (Xa4 K x)
noncomputable def Xx5:Value->Bool
 | .str _ _=>true
 | _=>false
noncomputable def Xm1:Value->Bool
 | .int _ _=>true
 | _=>false
noncomputable def Xm2:Value->Bool
 | .bool _=>true
 | _=>false
noncomputable def Xa2 (c:Addr)(vs:Array Value):Bool:=match (vs[11]?:Option Value) with
 |some (.ref T)=>vs.getD 11 .none == .ref T&&(Xx5 (vs.getD 18 .none)&&(Xm1 (vs.getD 7 .none)&&(Xm2 (vs.getD 9 .none)&&(Xm1 (vs.getD 10 .none)&&(c != T&&ye != T)))))
 | _=>false
theorem Xm0 (h:Xx5 v=true):∃a b,v=.str a b:=by cases v<;>first | exact⟨_,_,rfl⟩ | cases h
theorem Yo9 (h:Xm1 v=true):∃a b,v=.int a b:=by cases v<;>first | exact⟨_,_,rfl⟩ | cases h
theorem Xd2 (h:Xm2 v=true):∃a,v=.bool a:=by cases v<;>first | exact⟨_,rfl⟩ | cases h
noncomputable def Yp7 (K:Frag)(x:Str):Bool:=(match Xa4 K x with
 |some (c,⟨cl,_,.fields vs,_⟩)=>cl == .type "code"&&Xa2 c vs
 | _=>false)&&(K.lookup (tabAt K x)).isNone
theorem Xb7 {o:Obj}(a:nsIn K ye x=some (some (.ref f)))(l:K.lookup f=some o):Zj8 K x=some (f,o):=by
 unfold Zj8
 simp_all
def FunTF (K:Frag)(x:Str)(st:Stmt)(T:Addr):Prop:=∃(f:Addr) (fd:zc),nsIn K ye x=some (some (.ref f))/\FunT K x x st f fd T/\Fun K x x st f fd/\ye≠T/\K.lookup T=none/\∀h,K.In h->isCodeTable h T
set_option tactic.hygienic true in
theorem Xn5 (e:Zx2 K (nm st)=Yc4 st)(h:Yp7 K (nm st)=true):FunTF K (nm st) st (tabAt K (nm st)):=by
 obtain⟨f,oc,od,sl,kV,dc,pm,an,cd,ct,a,l,c,k⟩:=fn_of e;have r:=Xb7 a l
 have q:Xa4 K (nm st)=Xp1 K cd:=by
  unfold Xa4;rw[r]
 unfold Yp7 at h;rw[yr] at h;obtain⟨h,hn⟩:=h;have hn:=Option.isNone_iff_eq_none.mp hn
 split at h
 ·rename_i cc cl od2 vs sl2 hc
  have ht:tabAt K (nm st)=tabV vs[11]?:=by
   unfold tabAt;rw[hc];rfl
  rw[yr] at h;obtain⟨hcl,hf⟩:=h;have hcl:=eq_of_beq hcl;subst hcl;unfold Xa2 at hf
  split at hf
  ·rename_i T g1
   simp only[yr] at hf;obtain⟨g2,g3,g4,g5,g6,f2,f3⟩:=hf;have g2:=eq_of_beq g2
   have f2:cc≠T:=fun z=>by simp_all
   have f3:ye≠T:=fun z=>by simp_all
   have ht:tabAt K (nm st)=T:=by rw[ht,g1];rfl
   rw[ht] at hn ⊢
   cases cd with
   |ref c0 =>
    rw[hc] at q;obtain⟨o,e1,e2⟩:=zai.mp (show (K.lookup c0).map _=_ from q.symm);cases e2;have hC  := fun h kx=>Xp2 e1 ⟨g1,g2,Xm0 g3,Yo9 g4,Xd2 g5,Yo9 g6⟩ f2 h kx;exact⟨f,_,a,Wf1 l c k hC,Xa0 l c k,f3,hn,fun h kx=>⟨cc,_,vs,kx _ _ e1,rfl,rfl,g1⟩⟩
   | _=>exact absurd (hc.symm.trans q) (by intro z;cases z)
  grind
 grind
theorem funT_ofx (hx:nm st=x)(e:Zx2 K (nm st)=Yc4 st)(h:Yp7 K (nm st)=true):FunTF K x st (tabAt K x):=hx▸Xn5 e h
noncomputable def Yk3 (o:Option Obj):Bool:=match o with
 |some ⟨.none,none,.fields vs,sl⟩=>vs.size == 0&&sl.size == 0
 | _=>false
theorem Yv5 {o:Option Obj}(h:Yk3 o=true):o=some (tabObj #[]):=by
 unfold Yk3 at h
 split at h
 ·grind
 simp_all
noncomputable def Wu1 (K:Frag):Bool:=match nsIn K ye (ze "__builtins__") with
 |some (some (.ref b))=>(K.lookup b).isSome
 | _=>false
noncomputable def tabs (p:zf)(TA:List Nat)(K:Frag):List Addr:=TA.map fun i=>tabAt K (nm (stAt p i))
noncomputable def codesOk (p:zf)(TA:List Nat)(K:Frag):Bool:=(TA.all fun i=>Yp7 K (nm (stAt p i)))&&Wu1 K
noncomputable def Wi0 (p:zf)(TA:List Nat)(h:Heap)(K:Frag):Bool:=(tabs p TA K).all fun T=>Yk3 (h.get? T)
noncomputable def Wu9 (p:zf)(A:Ask)(B:ClsAsk)(M:MoreAsk)(h:Heap):List Addr :=
 Wv0 p A B M h++(match nsIn (pick h [ye]) ye (ze "__builtins__") with
  |some (some (.ref b))=>[b]
  | _=>[])
theorem t_code {p:zf}{TA:List Nat}(h:codesOk p TA K=true)(hi:i∈TA):Yp7 K (nm (stAt p i))=true:=by
 unfold codesOk at h
 simp_all
end Hd
namespace Ken
open PySem L2
section
theorem isT_inj (I:Inv X pins σ H s):∀{a b:Tm} {v:V},IsT X.K H v a->IsT X.K H v b->a=b
 | .low,b,v,h,g=>by
  obtain⟨p,rfl,hs⟩:=isT_low.mp h
  cases b with
  |low=>rfl
  |ltr w =>
   obtain⟨q,e,gs⟩:=isT_ltr.mp g;cases e;exact absurd (I.tuple_inj hs gs) (by simp)
  |nd k x y =>
   obtain⟨q,_,_,e,gs,_⟩:=isT_nd.mp g;cases e;exact absurd (I.tuple_inj hs gs) (by simp)
 | .ltr w,b,v,h,g=>by
  obtain⟨p,rfl,hs⟩:=isT_ltr.mp h
  cases b with
  |low =>
   obtain⟨q,e,gs⟩:=isT_low.mp g;cases e;exact absurd (I.tuple_inj hs gs) (by simp)
  |ltr w' =>
   obtain⟨q,e,gs⟩:=isT_ltr.mp g;cases e;have:=I.tuple_inj hs gs
   grind
  |nd k x y =>
   obtain⟨q,_,_,e,gs,_⟩:=isT_nd.mp g;cases e;exact absurd (I.tuple_inj hs gs) (by simp)
 | .nd k x y,b,v,h,g=>by
  obtain⟨p,vx,vy,rfl,hs,hx,hy⟩:=isT_nd.mp h
  cases b with
  |low =>
   obtain⟨q,e,gs⟩:=isT_low.mp g;cases e;exact absurd (I.tuple_inj hs gs) (by simp)
  |ltr w' =>
   obtain⟨q,e,gs⟩:=isT_ltr.mp g;cases e;exact absurd (I.tuple_inj hs gs) (by simp)
  |nd k' x' y' =>
   obtain⟨q,_,_,e,gs,gx,gy⟩:=isT_nd.mp g;cases e;have:=I.tuple_inj hs gs;simp at this;obtain⟨e1,rfl,rfl⟩:=this;rw[Kd.str_inj e1,isT_inj I hx gx,isT_inj I hy gy]
end
end Ken
namespace L2
open PySem PySem.Spec PyProof.Rows
section
def rInT (K:W.Frag)(neg:Bool):R2:=fun x y H Q=>∃(t:Ken.Tm) (p:Addr) (xs:List V) (ts:List Ken.Tm),Ken.IsT K H x t/\y=.ref p/\SqL K H p xs/\Paired (Ken.IsT K H) xs ts/\t.ok/\(∀s∈ts,s.ok)/\t.deep<=140/\Q (.bl (if neg then !decide (t∈ts) else decide (t∈ts))) H
theorem Xx1 {x:V}{t:Ken.Tm}{xs:List V}{ts:List Ken.Tm}(hu:X.A.units+150 < cLine)(I:Inv X pins σ H s)(rx:RelV x v)(hT:Ken.IsT X.K H x t)(hP:Paired (Ken.IsT X.K H) xs ts)(r:Vals xs its)(ho:t.ok)(hs:∀s∈ts,s.ok)(hd:t.deep<=140):
  ∃e:Value->Bool,(∀w∈its,SeqAt.EqAt X.A.in1 s w v (e w))/\its.any e=decide (t∈ts)/\∀(j:Nat) (w:Value),its[j]?=some w->e w=true->ts[j]?=some t:=by
 classical
 have l1:=zk hP;have l2:=r.length
 have k:∀(i j:Nat) (w:Value) (a b:Ken.Tm),its[i]?=some w->its[j]?=some w->ts[i]?=some a->ts[j]?=some b->a=b:=by
  intro i j w a b n f R O
  have N:i < xs.length:=by have:=(yc.mp R).1;omega
  have d:j < xs.length:=by have:=(yc.mp O).1;omega
  obtain⟨a',g,c⟩:=Ken.paired_get hP (zb N);obtain⟨b',T,D⟩:=Ken.paired_get hP (zb d);obtain⟨U,o,l⟩:=r.get (zb N);obtain⟨u2,S,G⟩:=r.get (zb d);rw[R] at g;cases g;rw[O] at T;cases T;rw[n] at o;cases o;rw[f] at S;cases S;obtain⟨u,_,B,_⟩:=Ken.isT_tup c;obtain⟨q,_,z,_⟩:=Ken.isT_tup D;rw[B] at l c;rw[z] at G D;have C  := l;have p  := G;rw[C] at p;cases p;exact Ken.isT_inj I c D
 refine⟨fun w=>decide (∃j:Nat,its[j]?=some w/\ts[j]?=some t),fun w L=>?_,?_,fun j w d Z=>?_⟩
 ·obtain⟨j,d,ej⟩:=List.mem_iff_getElem.mp L
  have y:j < xs.length:=by omega
  obtain⟨a,g,c⟩:=Ken.paired_get hP (zb y);obtain⟨U,o,l⟩:=r.get (zb y)
  have F:its[j]?=some w:=by simp[*]
  rw[F] at o;cases o
  have J:decide (∃j:Nat,its[j]?=some w/\ts[j]?=some t)=decide (a=t):=by
   by_cases h:a=t
   ·rw[decide_eq_true h,decide_eq_true ⟨j,F,by rw[g,h]⟩]
   ·rw[decide_eq_false h,decide_eq_false]
    rintro⟨i,n,f⟩;exact h (k j i w a t F n g f)
  show SeqAt.EqAt _ s w v (decide _);rw[J];obtain⟨u,_,B,_⟩:=Ken.isT_tup c;obtain⟨q,_,z,_⟩:=Ken.isT_tup hT;rw[B] at l c;rw[z] at rx hT;have C  := l;have p  := rx;subst C p
  by_cases h:u=q
  ·subst h
   rw[decide_eq_true (Ken.isT_inj I c hT)];exact SeqAt.EqAt.same _
  ·obtain⟨as,Y⟩:=Dn.reads I c (show RelV (.ref u) (.ref u) from rfl)
   obtain⟨bs,W⟩:=Dn.reads I hT (show RelV (.ref q) (.ref q) from rfl);rw[<- Ken.Tm.eqv];have q0:X.A.in1.units=X.A.units+1:=rfl
   have dm:min a.data.depth t.data.depth<=140:=by rw[Ken.Tm.depth,Ken.Tm.depth];omega
   exact SeqAt.EqAt.of_refs h (SeqAt.rcAt_reads Y W (a.lay (hs a (yo g))) (t.lay ho) (by omega))
 ·rw[Bool.eq_iff_iff,yda,decide_eq_true_iff]
  constructor
  ·rintro⟨w,L,h⟩
   obtain⟨j,_,f⟩:=of_decide_eq_true h;exact yo f
  ·intro h
   obtain⟨j,d,ej⟩:=List.mem_iff_getElem.mp h
   have m:j < its.length:=by omega
   exact⟨its[j],zcj m,decide_eq_true ⟨j,zb m,by simp_all⟩⟩
 ·obtain⟨i,n,f⟩:=of_decide_eq_true Z
  have m  := (yc.mp d).1
  have M:j < ts.length:=by omega
  rw[zb M,k j i w ts[j] t d n (by simp) f]
theorem Xw5 (hu:X.A.units+150 < cLine):OpR X (yai .In) (rInT X.K false):=by
 intro d s o H x y v u Q I b a h;obtain⟨t,p,z,B,l,rfl,g,m,i,f,k,q⟩:=h;cases a;obtain⟨n,r,c,C⟩:=I.list g;obtain⟨e,j,F,_⟩:=Xx1 hu I b l m r i f k;refine SeqAt.in_listAt e c.isList (fun w D=>j w (by simp_all)) ⟨.bl _,H,I,rfl,?_⟩
 simp_all
end
open Ken
end L2
namespace Ken
open PySem L2
end Ken
namespace L2
open PySem PySem.Spec PyProof.Rows
noncomputable def Itd (lo:Int)(n:Nat):It:=⟨fun i _=>i < n,fun i H x H'=>H'=H/\x=.int (lo - i),fun i _=>n<=i⟩
theorem Xf6 {P:zf}{tg:Expr}(it:Addr)(lo:Int)(n:Nat):Turn P w K tg (Itd lo n) [it] it (fun i h=>IsRangeIter h it (lo+(i:Nat)*(-1)) ((n:Int) - (i:Nat)) (-1)) where
  mem:=by simp
  obj:=fun i h a b c=>by
    simp_all
  keep:=fun i h m a k=>k it (by simp) _ a
  item:=by
    intro X A z B l i g s y H E I d a j;subst A z B;obtain⟨x,u,G,r,q,p⟩:=d it (by simp);have W:=Walks.range (prog:=X.prog) (w:=X.w) (I.ok.hd l) it lo (-1) n;refine W.item i s _ _ j a fun v m C F f D=>?_;obtain⟨t,rfl⟩:=F;have L:Inv X _ y H { s with heap:=m,toks:=C }:=I.turned (fun b o c e=>D b o (by simp_all) e) x u r q p;refine⟨_,rfl,Xd4 f rfl rfl rfl ⟨.int _,H,L,⟨t,?_⟩,⟨rfl,rfl⟩,f,fun b c=>(d b c).1⟩⟩;rw[show lo+_*_=lo - i by omega]
  done:=by
    intro X A z B l i g s y H E I d a j;obtain⟨x,u,G,r,q,p⟩:=d it (by simp);exact wpAny_pyNext_range_end (I.ok.hd l) a (by have:n<=i:=j;omega) fun m J=>⟨rfl,I.turned (fun b o c e=>J b o c e) x u r q p⟩
  self:=fun _ _ _ _ _ a h=>yct a h
theorem Xu4 {g:TG}{tb:TS}(Pv:Nat->St->Hp->Prop)(h0:Pv 0 σ H)(hs:∀i σ H,i < n->Pv i σ H->g (.int (lo - i)) σ H fun σ2 H2=>tb { D with nx:=Pv (i+1),ct:=Pv (i+1),bk:=D.nx } σ2 H2)(hd:∀σ H,Pv n σ H->D.nx σ H):
  ∃W:Nat->Nat->St->Hp->Prop,(∃m,W 0 m σ H)/\∀i m σ H,W i m σ H ->
   ((Itd lo n).stop i H/\D.nx σ H)∨((Itd lo n).go i H/\∃N:St->Hp->Prop,(∀σ' H',N σ' H'->∃m',m' < m/\W (i+1) m' σ' H')/\∀x H',(Itd lo n).yld i H x H'->g x σ H' fun σ2 H2=>tb { D with nx:=N,ct:=N,bk:=D.nx } σ2 H2):=by
 refine⟨fun i m σ H=>m=n - i/\i<=n/\Pv i σ H,⟨n,by simp,yaq _,h0⟩,?_⟩;rintro i m σ H ⟨rfl,b,p⟩
 by_cases hlt:i < n
 ·refine .inr ⟨hlt,Pv _,fun σ' H' a=>⟨n - _,by omega,rfl,hlt,a⟩,fun x H' y=>?_⟩
  obtain⟨rfl,rfl⟩:=y;exact hs i σ H' hlt p
 ·have:i=n:=by omega
  subst this;exact .inl ⟨zg _,hd σ H p⟩
section
def Zq9 (K:W.Frag):V->List V->Hp->VK->Prop:=fun x vs H Q=>∃(y:V) (t:Ken.Tm) (p:Addr) (xs:List V) (ts:List Ken.Tm),x=.ref p/\vs=[y]/\Ken.IsT K H y t/\SqL K H p xs/\Paired (Ken.IsT K H) xs ts/\t.ok/\(∀s∈ts,s.ok)/\t.deep<=140/\t∈ts /\
 ∀j:Nat,ts[j]?=some t->Q (.int (j:Nat)) H
theorem Yo0 {K:W.Frag}(hK:X.K=K)(hu:X.A.units+150 < cLine):MtR X "list.index" (Zq9 K):=by
 subst hK;intro S s σ H x vs v us Q I N O h;obtain⟨y,t,p,xs,ts,rfl,rfl,hT,V,hP,Y,U,hd,d,q⟩:=h;cases N;obtain⟨u,rfl,R⟩:=O.one;obtain⟨a,r,k,l⟩:=I.list V;obtain⟨e,C,J,G⟩:=Xx1 hu I R hT hP r Y U hd;obtain⟨⟨q1,dd,q0,M⟩,c,hc,n,D⟩:=id k.isList;subst hc D;rw[decide_eq_true d,yda] at J;have T:=r.length
 have Z:∃j,∃h:j < a.length,e a[j]=true/\∀m (d:m < a.length),m < j->e a[m]=false:=by
  clear C l r k T c G;obtain⟨w,B,ew⟩:=J
  induction a with
  |nil=>cases B
  |cons b a ih =>
   by_cases hb:e b=true
   ·exact⟨0,by simp,hb,fun m _ h=>absurd h (by simp)⟩
   ·rcases zd.mp B with z | z
    ·subst z;exact absurd ew hb
    ·obtain⟨j,h1,f,i⟩:=ih z
     refine⟨j+1,by rw[zac];omega,by simpa using f,fun m d g=>?_⟩
     cases m with
     |zero=>simpa using hb
     |succ m=>simpa using i m _ (by omega)
 obtain⟨j,hj,f,i⟩:=Z
 have L  := by
  exact G j a[j] (by simp) f
 refine call_meets PySem.F.slot_list_index ⟨_,c,rfl⟩ PySem.F.entry_list_index (PySem.F.args_list_index_2 _ _)
  (SeqAt.list_indexAt p _ n dd M u e j (by omega) (by exact Int.lt_of_lt_of_le (show (j:Int) < zi by omega) (by decide)) (by simpa using f) (fun m d g=>by simpa using i m _ g)) ⟨c,fun z l=>C z (by simp_all),?_⟩
 exact⟨.int _,H,I.kept fun b o e=>e,⟨_,rfl⟩,q j L⟩
end
section
theorem Wt7 {P:zf}(H:Hp)(h:Heap)(a:Addr)(e:h.get? a=some { cls:=.type "dict",dict:=none,data:=.dict #[] })(hb:zaw < a):ObjOk P w (upd H a (.dK [])) h a (.dK []) :=
 ⟨yaq _,beq_eq_false_iff_ne.mpr (zbe (yq hb)),[],.nil,_,#[],0,e,⟨rfl,rfl,rfl⟩,rfl,fun _ b=>by simp_all,Pairs.nil,zcw⟩
theorem Wm0 {ek ev tg iter:Expr}{ifs:List Expr}{gs:List zbj}{g:TG}{tk:Addr->TK}(B:X.Ok->BlkOk X scope cl N' nt ci)(hc:X.calm=true)(hi:PI X tg iter wi)(hg:∀s H C ex,PG (blk X N' scope cl s H C ex) tg g)(htn:∀a env,Zq5 (.DictComp ek ev (⟨tg,iter,ifs,0⟩::gs) scope pos) 0 tg p0 (.ref a) env (body a env))(hb:∀s H C ex a,PTn (blk X N' scope cl s H C ex) (body a (blk X N' scope cl s H C ex).env) (tk a))(hs:∀x,zba iter X.env x=pure x:=by intro _;rfl):
  PE X (.DictComp ek ev (⟨tg,iter,ifs,0⟩::gs) scope pos) (Yd4 nt ci wi g tk (.dK [])):=by with_unfolding_all
 intro i s v H Q I h;refine Zz3 (o0:=fun _=>.dK []) (B I.ok) hc hi hg rfl (fun _ _=>Wx6) htn hb (fun h=>yab h) rfl Wt7 hs I h fun d C w u t q c j y=>?_;obtain⟨m,c⟩:=c;obtain⟨r,p,A,n,l,k⟩:=j;exact⟨m,c,fun z f=>⟨.ref d,u,t.turned (fun b o hb e=>(f.2 b hb).trans e) r p n l k,rfl,q⟩⟩
end
end L2
namespace Ken
open PySem L2
end Ken
namespace L2
open PySem PySem.Spec PyProof.Rows
end L2
namespace Ken
open PySem L2
theorem We1 (h:j < n):ixN n (j:Int)=some j:=by
 unfold ixN
 simp_all
end Ken
namespace PySem.SeqAt
open PySem PySem.MeetsSeq L2 PyProof.Rows
end PySem.SeqAt
namespace L2
open PySem PySem.Spec PyProof.Rows
end L2
namespace Ken
open PySem L2
end Ken
namespace PySem.SeqAt
open PySem PySem.MeetsSeq L2 PyProof.Rows
end PySem.SeqAt
namespace Ken
open PySem L2 PySem.SeqAt
end Ken
namespace L2
open PySem PySem.Spec PyProof.Rows
end L2
namespace Ken
open PySem L2
end Ken
namespace L2
open PySem PySem.Spec PyProof.Rows
end L2
namespace Ken
open PySem L2
open PyProof.Rows
inductive U5 where
 |left | right | first | second | off
 deriving DecidableEq
noncomputable def U5.str:U5->Str
 | .left=>"left"
 | .right=>"right"
 | .first=>"first"
 | .second=>"second"
 | .off=>"off"
inductive U2 where
 |pair | use
 deriving DecidableEq
noncomputable def U2.str:U2->Str
 | .pair=>"pair"
 | .use=>"use"
inductive Te where
 |at (k:Nat)
 |one (u:U5) (a:Te) (ss:List Tm)
 |two (u:U2) (a b:Te)
 |fn (s:Tm) (a:Te)
 |cs (a b c:Te)
 deriving DecidableEq
noncomputable def Te.tag:Te->Str
 | .at _=>"at"
 | .one u _ _=>u.str
 | .two u _ _=>u.str
 | .fn _ _=>"fun"
 | .cs _ _ _=>"cases"
noncomputable def Te.data:Te->PyData
 | .at k=>.tuple [.str "at",.int (k:Nat)]
 | .one u a ss=>.tuple (.str u.str::a.data::ss.map Tm.data)
 | .two u a b=>.tuple [.str u.str,a.data,b.data]
 | .fn s a=>.tuple [.str "fun",s.data,a.data]
 | .cs a b c=>.tuple [.str "cases",a.data,b.data,c.data]
noncomputable def Te.items:Te->List PyData
 | .at k=>[.str "at",.int (k:Nat)]
 | .one u a ss=>.str u.str::a.data::ss.map Tm.data
 | .two u a b=>[.str u.str,a.data,b.data]
 | .fn s a=>[.str "fun",s.data,a.data]
 | .cs a b c=>[.str "cases",a.data,b.data,c.data]
theorem Te.data_eq (t:Te):t.data=.tuple t.items:=by cases t<;>rfl
noncomputable def Te.kids:Te->List (Te×Nat)
 | .at _=>[]
 | .one _ a _=>[(a,0)]
 | .two _ a b=>[(a,0),(b,0)]
 | .fn _ a=>[(a,1)]
 | .cs a b c=>[(a,0),(b,1),(c,1)]
noncomputable def Te.plc:Te->List Nat
 | .at _=>[]
 | .one _ _ _=>[1]
 | .two _ _ _=>[1,2]
 | .fn _ _=>[2]
 | .cs _ _ _=>[1,2,3]
noncomputable def Te.inn (t:Te):List (Nat×Nat):=List.zip t.plc (t.kids.map (·.2))
theorem Te.plc_len (t:Te):t.plc.length=t.kids.length:=by cases t<;>rfl
theorem Te.inn_len (t:Te):t.inn.length=t.kids.length:=by cases t<;>rfl
theorem Te.inn_at {t:Te}{p:Nat}(h:t.inn[i]?=some (p,m)):∃k,t.kids[i]?=some (k,m)/\t.items[p]?=some k.data/\t.plc[i]?=some p/\1<=p/\p<=3:=by
 cases t with
 |«at» k=>cases i<;>cases h
 |one u a ss =>
  match i,h with
  | 0,h=>cases h;exact⟨a,rfl,rfl,rfl,by decide,by decide⟩
  |i+1,h=>cases i<;>cases h
 |two u a b =>
  match i,h with
  | 0,h=>cases h;exact⟨a,rfl,rfl,rfl,by decide,by decide⟩
  | 1,h=>cases h;exact⟨b,rfl,rfl,rfl,by decide,by decide⟩
  |i+2,h=>cases i<;>cases h
 |fn s a =>
  match i,h with
  | 0,h=>cases h;exact⟨a,rfl,rfl,rfl,by decide,by decide⟩
  |i+1,h=>cases i<;>cases h
 |cs a b c =>
  match i,h with
  | 0,h=>cases h;exact⟨a,rfl,rfl,rfl,by decide,by decide⟩
  | 1,h=>cases h;exact⟨b,rfl,rfl,rfl,by decide,by decide⟩
  | 2,h=>cases h;exact⟨c,rfl,rfl,rfl,by decide,by decide⟩
  |i+3,h=>cases i<;>cases h
noncomputable def Te.withK:Te->List Te->Te
 | .one u _ ss,[x]=>.one u x ss
 | .two u _ _,[x,y]=>.two u x y
 | .fn s _,[x]=>.fn s x
 | .cs _ _ _,[x,y,z]=>.cs x y z
 |t,_=>t
noncomputable def Zq1 {α:Type}:List α->List Nat->List α->List α
 |xs,p::ps,y::ys=>Zq1 (xs.set p y) ps ys
 |xs,_,_=>xs
noncomputable def Te.size:Te->Nat
 | .at _=>1
 | .one _ a _=>1+a.size
 | .two _ a b=>1+a.size+b.size
 | .fn _ a=>1+a.size
 | .cs a b c=>1+a.size+b.size+c.size
noncomputable def Te.deep:Te->Nat
 | .at _=>1
 | .one _ a _=>1+a.deep
 | .two _ a b=>1+max a.deep b.deep
 | .fn _ a=>1+a.deep
 | .cs a b c=>1+max a.deep (max b.deep c.deep)
def Te.all (p:Tm->Prop):Te->Prop
 | .at _=>True
 | .one _ a ss=>a.all p/\∀s∈ss,p s
 | .two _ a b=>a.all p/\b.all p
 | .fn s a=>p s/\a.all p
 | .cs a b c=>a.all p/\b.all p/\c.all p
abbrev IsE (K:W.Frag)(H:Hp)(v:V)(t:Te):Prop:=Dn K H v t.data
section
variable {v:V}
theorem dn_tup {ds:List PyData}:Dn K H v (.tuple ds)↔∃a xs,v=.ref a/\SqT K H a xs/\DnAll K H xs ds:=by rw[Dn]
theorem Yp4:∀{ds:List PyData} {xs:List V} {i:Nat} {d:PyData},DnAll K H xs ds->ds[i]?=some d->∃u,xs[i]?=some u/\Dn K H u d
 | [],xs,i,d,h,e=>by simp_all
 |d0::ds,xs,i,d,h,e=>by
  obtain⟨x,r,rfl,h1,h2⟩:=h
  cases i with
  |zero=>cases e;exact⟨x,rfl,h1⟩
  |succ i=>exact Yp4 (i:=i) h2 e
where
 h_nil {K:W.Frag} {H:Hp}:DnAll K H [] []:=by rfl
theorem dnAll_nil:DnAll K H [] []:=by rfl
theorem dnAll_cons {x:V}{xs:List V}{d:PyData}{ds:List PyData}(h:Dn K H x d)(t:DnAll K H xs ds):DnAll K H (x::xs) (d::ds):=by exact⟨_,_,rfl,h,t⟩
theorem Ze9 {xs:List V}{d:PyData}{ds:List PyData}(h:DnAll K H xs (d::ds)):∃x r,xs=x::r/\Dn K H x d/\DnAll K H r ds:=by assumption
theorem Xy1 {i:Int}:Dn K H v (.int i)↔v=.int i:=by rw[Dn]
theorem Wt4:Dn K H v (.str x)↔v=.str x:=by rw[Dn]
end
noncomputable abbrev Pf:=Te×Nat
noncomputable def Te.pre:Te->Nat->List Pf
 | .at k,f=>[(.at k,f)]
 | .one u a ss,f=>(.one u a ss,f)::a.pre f
 | .two u a b,f=>(.two u a b,f)::(a.pre f++b.pre f)
 | .fn s a,f=>(.fn s a,f)::a.pre (f+1)
 | .cs a b c,f=>(.cs a b c,f)::(a.pre f++(b.pre (f+1)++c.pre (f+1)))
noncomputable def preP (p:Pf):List Pf:=p.1.pre p.2
noncomputable def Zi4 (p:Pf):List Pf:=p.1.kids.map fun k=>(k.1,p.2+k.2)
theorem Zr3 (p:Pf):preP p=p::(Zi4 p).flatMap preP:=by
 obtain⟨t,f⟩:=p
 cases t<;>simp[preP,Zi4,Te.pre,Te.kids]
theorem Zg0:∀(t:Te) (f:Nat),(t.pre f).length=t.size
 | .at _,f=>rfl
 | .one _ a _,f=>by show (a.pre f).length+1=1+a.size;rw[Zg0 a];omega
 | .two _ a b,f=>by show (a.pre f++b.pre f).length+1=1+a.size+b.size;rw[yd,Zg0 a,Zg0 b];omega
 | .fn _ a,f=>by show (a.pre _).length+1=1+a.size;rw[Zg0 a];omega
 | .cs a b c,f=>by
  show (a.pre f++_).length+1=1+a.size+b.size+c.size;rw[yd,yd,Zg0 a,Zg0 b,Zg0 c];omega
theorem Xn6 {fs:List Pf}{a:Pf}{rest:List Pf}(h:fs.flatMap preP=preP a++rest):∃fs',fs=a::fs'/\fs'.flatMap preP=rest:=by
 cases fs with
 |nil=>rw[Zr3 a] at h;cases h
 |cons f fs =>
  have b:=h;rw[zaq,Zr3 f,Zr3 a] at b
  simp_all
theorem Xa1:∀{ks fs:List Pf} {rest:List Pf},fs.flatMap preP=ks.flatMap preP++rest->∃fs',fs=ks++fs'/\fs'.flatMap preP=rest
 | [],fs,rest,h=>⟨fs,rfl,h⟩
 |k::ks,fs,rest,h=>by
  rw[zaq,yam] at h;obtain⟨f1,rfl,h1⟩:=Xn6 h;obtain⟨f2,rfl,h2⟩:=Xa1 h1;exact⟨f2,rfl,h2⟩
theorem Yv2 {fs:List Pf}(h:fs.flatMap preP=[]):fs=[]:=by
 cases fs with
 |nil=>rfl
 |cons f fs=>rw[zaq,Zr3 f] at h;cases h
def Xe8 (l:List Pf):Prop:=∀j,j < l.length->∃p rest,l[j]?=some p/\l.drop j=preP p++rest
theorem Yc3 {a b:List Pf}(ha:Xe8 a)(hb:Xe8 b):Xe8 (a++b):=fun j h=>by
 by_cases hj:j < a.length
 ·obtain⟨p,c,e,d⟩:=ha j hj
  exact⟨p,c++b,by rw[yh hj];omega,by rw[List.drop_append_of_le_length (zv hj),d,yam]⟩
 ·rw[yd] at h
  obtain⟨p,c,e,d⟩:=hb (j - a.length) (by omega);refine⟨p,c,by rw[yk (by omega)];omega,?_⟩;rw[List.drop_append,zcu (by omega),List.nil_append];omega
theorem Zm2 {p:Pf}{l:List Pf}(e:preP p=p::l)(h:Xe8 l):Xe8 (preP p):=fun j a=>by
 cases j with
 |zero=>exact⟨p,[],by rw[e];rfl,by simp⟩
 |succ j =>
  rw[e] at a ⊢;exact h j (by simp_all)
theorem Zk7:∀(t:Te) (f:Nat),Xe8 (t.pre f)
 | .at k,f=>Zm2 (p:=(.at k,f)) rfl fun j h=>absurd h (by simp)
 | .one u a ss,f=>Zm2 (p:=(.one u a ss,f)) rfl (Zk7 a f)
 | .two u a b,f=>Zm2 (p:=(.two u a b,f)) rfl (Yc3 (Zk7 a f) (Zk7 b f))
 | .fn s a,f=>Zm2 (p:=(.fn s a,f)) rfl (Zk7 a _)
 | .cs a b c,f=>Zm2 (p:=(.cs a b c,f)) rfl (Yc3 (Zk7 a f) (Yc3 (Zk7 b _) (Zk7 c _)))
noncomputable def Te.mp (F:Nat->Nat->Te):Te->Nat->Te
 | .at k,f=>F k f
 | .one u a ss,f=>.one u (a.mp F f) ss
 | .two u a b,f=>.two u (a.mp F f) (b.mp F f)
 | .fn s a,f=>.fn s (a.mp F (f+1))
 | .cs a b c,f=>.cs (a.mp F f) (b.mp F (f+1)) (c.mp F (f+1))
noncomputable def mpP (F:Nat->Nat->Te)(p:Pf):Te:=p.1.mp F p.2
theorem Wd4 (F:Nat->Nat->Te)(p:Pf)(h:∀k,p.1≠.at k):mpP F p=p.1.withK ((Zi4 p).map (mpP F)):=by
 obtain⟨t,f⟩:=p
 cases t with
 |«at» k=>simp_all
 |one u a ss=>rfl
 |two u a b=>rfl
 |fn s a=>rfl
 |cs a b c=>rfl
theorem Zz1 (p:Pf):(Zi4 p).length=p.1.kids.length:=by unfold Zi4;simp
noncomputable def Zl5 (n k f:Nat):Te:=.at (if f<=k then k+n else k)
noncomputable def putF (o:Te)(k f:Nat):Te:=if k=f then o.mp (Zl5 k) 0 else .at (if f < k then k - 1 else k)
end Ken
namespace L2
open PySem PySem.Spec PyProof.Rows
namespace RevT
theorem slot_next:Slot "reversed" "__next__" "reversed.__next__" :=
 .of (owner:="reversed") (n:="__next__") (by rfl) (by rfl) (by rfl) (by rfl)
  (by decide) (by rfl)
theorem Yf4:entryFor table "reversed.__next__"=some zdn.«reversed.__next__»:=entryFor_of_tree (by rfl)
theorem Yq7 (a:Value):argsOk "reversed.__next__" ⟨[a],[]⟩:=by rfl
theorem Ym3:Slot "reversed" "__iter__" "reversed.__iter__" :=
 .of (owner:="reversed") (n:="__iter__") (by rfl) (by rfl) (by rfl) (by rfl)
  (by decide) (by rfl)
theorem Xp5 (a:Value):argsOk "reversed.__iter__" ⟨[a],[]⟩:=by rfl
theorem Xd7:entryFor table "reversed.__iter__"=some zdn.«dict_keyiterator.__iter__» :=
 entryFor_alias (id':="dict_keyiterator.__iter__") (by kernel_rfl) (by rfl) (by decide +kernel) (by kernel_rfl)
theorem Xh3:Slot "reversed" "__init__" "object.__init__" :=
 .of (owner:="object") (n:="__init__") (by rfl) (by rfl) (by rfl) (by rfl)
  (by decide) (by rfl)
theorem Wu0:TypeCalled "reversed" "reversed.__new__" "object.__init__" :=
 ⟨by rfl,by decide +kernel,⟨_,_,F.mro_reversed⟩,F.made_reversed,by decide +kernel,by rfl,Xh3⟩
theorem Xf7:typeLookup (.type "tuple") "__reversed__"=pure none:=by rfl
theorem Xb1:isSubtype (.type "tuple") (.type "dict")=pure false:=by rfl
noncomputable def rvObj (l:Addr)(i:Int):Obj:={ cls:=.type "reversed",data:=.fields #[.ref l,rawInt i] }
theorem Xp6 (obj:Value)(a:Value):argsOk "object.__init__" ⟨[obj,a],[]⟩:=by rfl
section
variable {prog:zf}{E:Value->Shared->Prop}
theorem Xk3 (l:Addr)(items:Array Value):Meets (zdn.«reversed.__new__» ⟨[.type "reversed",.ref l],[]⟩) (fun _ R s=>IsTup s.heap l items/\(items.size:Int) < 2 ^ 63 /\
  R (.ok (.ret (.ref s.heap.objs.size))) { s with heap:=s.heap.push (rvObj l ((items.size:Int) - 1)),toks:=s.toks+1+1 }) :=
 .of_wp fun c w A R s h=>by
  obtain⟨b,d,h⟩:=h;have a  := b.typeIs;refine za (zbc rfl ?_);refine za (zbc rfl ?_);refine za (zbc rfl ?_);refine za (yby a Xf7 ?_);refine za ?_;refine za (ybh a Xb1 ?_);refine za (yby a slot_tuple_getitem.lookup (yb ?_));refine za (len_tuple b d ?_);show wpAny _ _ (newObj _ (.fields #[.ref l,rawInt _]) >>= _) _ _ _;refine za (yab ?_);exact yb ⟨_,rfl,h⟩
theorem call_rev {items:Array Value}{Q:Value->Shared->Prop}(hl:IsTup s.heap l items)(hz:(items.size:Int) < 2 ^ 63)(h:Q (.ref s.heap.objs.size) { s with heap:=s.heap.push (rvObj l ((items.size:Int) - 1)),toks:=s.toks+1+1 }):wpAny (model prog w) A (call (.type "reversed") [.ref l]) Q E s :=
 callType_new Wu0 (by decide) rfl (F.newCall_reversed_1 _) (fun a=>Xp6 a _) F.entry_reversed_new (Xk3 l items) ⟨hl,hz,⟨_,zh _ rfl,rfl⟩,h⟩
theorem iter_rev {i:Int}{Q:Value->Shared->Prop}(hit:s.heap.get? it=some (rvObj l i))(h:Q (.ref it) s):wpAny (model prog w) A (pyIter (.ref it)) Q E s:=by
 have a:s.TypeIs (.ref it) "reversed":=⟨_,hit,rfl⟩;refine wpAny_pyIter_slot a Ym3 (yae Ym3 a Xd7 ?_ (Xp5 _));exact yb ⟨_,rfl,"reversed",_,a,slot_next.lookup,h⟩
theorem next_item {items:Array Value}{x:Value}{Q:Option Value->Shared->Prop}(hit:s.heap.get? it=some (rvObj l (i:Int)))(hl:IsTup s.heap l items)(hz:(items.size:Int) < 2 ^ 63)(hx:items[i]?=some x)(hQ:∀h' tk,h'.get? it=some (rvObj l ((i:Int) - 1))->zal it s.heap h'->Q (some x) { s with heap:=h',toks:=tk }):wpAny (model prog w) A (pyNext (.ref it)) Q E s:=by
 have b:s.TypeIs (.ref it) "reversed":=⟨_,hit,rfl⟩;have a  := hl.typeIs
 have e:i < items.size:=by
  grind
 refine za (ycq (zah b slot_next (yae slot_next b Yf4 ?_ (Yq7 _))));refine za (zbc rfl ?_);refine za (zad hit rfl rfl ?_);refine za (zad hit rfl (x:=rawInt _) rfl ?_);refine za (yby a slot_tuple_getitem.lookup ?_);refine za (wpAny_mkInt ?_);refine za (ycq (getItem_tuple hl (by omega) (by omega) (by unfold seqIndex?;simp;omega) hx ?_));refine za (zad hit rfl (x:=rawInt i) rfl ?_);refine za (zw hit (by simp) fun h' d c=>yb ⟨x,rfl,yb (hQ h' _ d c)⟩)
theorem next_end {Q:Option Value->Shared->Prop}(hh:A.handled=none)(hit:s.heap.get? it=some (rvObj l (-1)))(hQ:∀h',zdi it s.heap h'->Q none { s with heap:=h' }):wpAny (model prog w) A (pyNext (.ref it)) Q E s:=by
 have f:s.TypeIs (.ref it) "reversed":=⟨_,hit,rfl⟩;refine za (ycq (zah f slot_next (yae slot_next f Yf4 ?_ (Yq7 _))));refine za (zbc rfl ?_);refine za (zad hit rfl rfl ?_);refine za (zad hit rfl (x:=rawInt _) rfl ?_);refine za (ybu (za ?_));refine za (zw hit (by simp) fun n g c=>zw g (by simp) fun m j a=>?_);refine za (Ya3 hh fun h' e k ⟨oe,he,hc⟩=>za (ybh ⟨oe,he,hc⟩ zcx ?_));exact yb (hQ h' fun b h d i=>k b h ((a.2 b d).trans ((c.2 b d).trans i)))
end
end RevT
noncomputable def ItvT (K:W.Frag)(a:Addr)(n:Nat):It :=
 ⟨fun i H=>i < n/\∃xs x,SqT K H a xs/\xs[n - 1 - i]?=some x,fun i H x H'=>H'=H/\∀xs,SqT K H a xs->xs[n - 1 - i]?=some x,fun i _=>i=n⟩
theorem Xf3 {P:zf}{tg:Expr}(a it:Addr)(n:Nat):Turn P w K tg (ItvT K a n) [it] it (fun i h=>h.get? it=some (RevT.rvObj a ((n:Int) - 1 - (i:Int)))) where
  mem:=by simp
  obj:=fun i h c b d=>by
    have e:b=it:=by simp_all
    subst e
    exact⟨_,c,fun v z=>by
      have R  := z
      cases R⟩
  keep:=fun i h m c k=>k it (by simp) _ c
  item:=by
    intro X M F N L i j s C H E I g c l;subst M F N;obtain⟨hi,xs,x,G,Y⟩:=l;obtain⟨q0,D,p,hz⟩:=I.tuple G;obtain⟨u,hu,U⟩:=D.get Y;obtain⟨A,y,f2,t,r,q⟩:=g it (by simp)
    have B:(n:Int) - 1 - i=((n - 1 - i:Nat)):=by omega
    rw[B] at c;have hn:=Zx1;have Z:=D.length;refine RevT.next_item c p (by rw[ybd];omega) (x:=u) (by simp_all) fun m S f T=>?_;have I1:Inv X _ C H { s with heap:=m,toks:=S }:=I.turned (fun b o d e=>(T.2 b d).trans e) A y t r q
    have O:((n - 1 - i:Nat)) - 1=n - 1 - ((i+1):Int):=by omega
    rw[O] at f;exact⟨u,rfl,Xd4 f rfl rfl rfl ⟨x,H,I1,U,⟨rfl,fun ys V=>by rw[I.tuple_inj V G];omega⟩,f,fun b d=>(g b d).1⟩⟩
  done:=by
    intro X M F N L i j s C H E I g c l;have J  := l;subst J;obtain⟨A,y,f2,t,r,q⟩:=g it (by simp)
    have B:(i:Int) - 1 - i=-1:=by omega
    rw[B] at c;exact RevT.next_end (I.ok.hd L) c fun m eb=>⟨rfl,I.turned (fun b o d e=>eb b o d e) A y t r q⟩
  self:=fun _ _ _ _ _ c h=>RevT.iter_rev c h
def Yu6 (K:W.Frag)(ta:TA):TI:=fun σ H R=>ta σ H fun vs H1=>∃a xs,vs=[.ref a]/\SqT K H1 a xs/\R (ItvT K a xs.length) H1
def Yu7 (ta:TA):TI:=fun σ H R=>ta σ H fun vs H1=>∃n:Nat,vs=[.int (n:Nat)]/\n<=1000000/\R (Itd ((n:Int) - 1) n) H1
section
theorem Wb4 {tg e:Expr}{ta:TA}{p:Pos}(hg:Gl X "reversed")(hm:X.mg "reversed"=none)(ha:PA X [e] ta)(hs:zx [e] X.env=[(false,eval e X.env)]:=by rfl):
  PI X tg (.Call (.Name "reversed" p) [e] [] pos) (Yu6 X.K ta):=by with_unfolding_all
 intro f s i H R I h;refine Call_ (Zq3 I hg hm (by rfl) (zaf (thn (ha pos f s i H _ I h) fun us s1 ⟨vs,H1,I1,r1,d⟩=>?_) (by assumption) rfl));obtain⟨l,n,e,d,q⟩:=d;subst e;obtain⟨v,rfl,k⟩:=r1.one;cases k;obtain⟨a,j,r,u⟩:=I1.tuple d;have t:=j.length;have w:=Zx1;refine RevT.call_rev r (by rw[ybd];omega) ?_;have c:Heap.get? (s1.heap.push (RevT.rvObj l (a.toArray.size - 1))) _=some _:=zh _ rfl;refine RevT.iter_rev c ?_;have m:Inv X _ i H1 { s1 with heap:=s1.heap.push (RevT.rvObj l (a.toArray.size - 1)),toks:=s1.toks+1+1 }:=I1.kept fun b o e=>ya _ e
 have g:(a.toArray.size:Int) - 1=n.length - 1 - ((0):Int):=by simp_all
 rw[g] at c;rw[g] at m;rw[g];refine⟨_,_,_,_,H1,rfl,m,Xf3 l _ _,c,fun b x=>?_,q⟩
 have e:b=s1.heap.objs.size:=by simp_all
 subst e;exact I1.fpOk (by simp) (I1.hok.fresh (by simp))
end
theorem Xu3 {xs:List V}{g:TG}{tb:TS}{D:Ends}(Pv:Nat->St->Hp->Prop)(h0:Pv 0 σ H)(hl:∀i σ H,i<=xs.length->Pv i σ H->SqT K H a xs)(hs:∀i x σ H,i < xs.length->xs[xs.length - 1 - i]?=some x->Pv i σ H->g x σ H fun σ2 H2=>tb { D with nx:=Pv (i+1),ct:=Pv (i+1),bk:=D.nx } σ2 H2)(hd:∀σ H,Pv xs.length σ H->D.nx σ H):
  ∃W:Nat->Nat->St->Hp->Prop,(∃m,W 0 m σ H)/\∀i m σ H,W i m σ H ->
   ((ItvT K a xs.length).stop i H/\D.nx σ H)∨((ItvT K a xs.length).go i H/\∃N:St->Hp->Prop,(∀σ' H',N σ' H'->∃m',m' < m/\W (i+1) m' σ' H')/\∀x H',(ItvT K a xs.length).yld i H x H'->g x σ H' fun σ2 H2=>tb { D with nx:=N,ct:=N,bk:=D.nx } σ2 H2):=by
 refine⟨fun i m σ H=>m=xs.length - i/\i<=xs.length/\Pv i σ H,⟨xs.length,by simp,yaq _,h0⟩,?_⟩;rintro i m σ H ⟨rfl,c,p⟩;have q:=hl i σ H c p
 by_cases hlt:i < xs.length
 ·refine .inr ⟨⟨hlt,xs,xs[xs.length - 1 - i],q,zb _⟩,Pv _,fun σ' H' b=>⟨xs.length - _,by omega,rfl,hlt,b⟩,fun x H' y=>?_⟩
  obtain⟨e,y⟩:=y
  simp_all
 ·have e:i=xs.length:=by omega
  subst e;exact .inl ⟨rfl,hd _ _ p⟩
open Ken
open AutoSeq1 (wpAny_loadPart')
namespace RevT
theorem Xb4:isSubtype (.type "range_iterator") (.type "reversed")=pure false:=by rfl
section
variable {prog:zf}{E:Value->Shared->Prop}
theorem Ye0 {r:Addr}{t u v:Tok}{Q:Value->Shared->Prop}(hr:IsRange s.heap r 0 (n:Nat) 1 t u v)(hn:n<=1000000)(h:Q (.ref s.heap.objs.size) { s with heap:=s.heap.push { cls:=.type "range_iterator",data:=.fields #[rawInt ((n:Int) - 1),rawInt (n:Int),rawInt (-1)] } }):
  wpAny (model prog w) A (call (.builtin "range.__reversed__") [.ref r]) Q E s:=by
 have e:s.TypeIs (.ref r) "range":=⟨_,hr,rfl⟩
 have a:zdn.Range.rangeSize 0 (n:Int) 1=(n:Int):=by rw[rangeSize_one];split<;>omega
 have f:(0:Int)+((n:Int) - 1)*1=(n:Int) - 1:=by omega
 have b:(yaj 0&&yaj (n:Int)&&yaj 1&&yaj (-1)&&yaj (0 - 1)&&yaj (n:Int))=true:=by
  simp only[yaj,yr,decide_eq_true_eq];omega
 refine yae F.slot_range_reversed e F.entry_range_reversed ?_ (F.args_range_reversed_1 _);unfold zdn.«range.__reversed__»;refine za (zbc rfl ?_)
 have c:∀{Q:Int×Int×Int->Shared->Prop} {A:Around} {E:Value->Shared->Prop},Q (0,n,1) s->wpAny (model prog w) A (zdn.Range.rangeFields (.ref r)) Q E s:=fun {Q A E} q=>by
  obtain⟨k,g,d,i,j⟩:=s
  wp_walk using wpAny_loadPart' hr
  exact q
 refine za (c ?_);dsimp only;rw[a,b,f];exact za (yab (yb ⟨_,rfl,h⟩))
theorem Yd9 {r:Addr}{t u v:Tok}{Q₁:Value->Shared->Prop}(hr:IsRange s.heap r 0 (n:Nat) 1 t u v)(hn:n<=1000000)(h:Q₁ (.ref s.heap.objs.size) { s with heap:=s.heap.push { cls:=.type "range_iterator",data:=.fields #[rawInt ((n:Int) - 1),rawInt (n:Int),rawInt (-1)] } }):
  ycd (model prog w) A (.call (.builtin "reversed.__new__") ⟨[.type "reversed",.ref r],[]⟩) (wants Q₁ E) s:=by
 have a:s.TypeIs (.ref r) "range":=⟨_,hr,rfl⟩;refine codeAny_of_tree ?_;show wpAny _ A.in1 (do checkBuiltinCall "reversed.__new__" ⟨[.type "reversed",.ref r],[]⟩;again (.builtin "reversed.__new__" ⟨[.type "reversed",.ref r],[]⟩)) _ _ s;refine za (zbc (F.newCall_reversed_1 _) (yb ⟨ybr F.plain_reversed_new _,ybz F.entry_reversed_new ?_⟩));rw[zce F.plain_reversed_new _];unfold zdn.«reversed.__new__»;refine za (zbc rfl ?_);refine za (zbc rfl ?_);refine za (zbc rfl ?_);refine za (yby a F.slot_range_reversed.lookup ?_);refine za (m:=runValue _) (show wpAny _ _ _ _ _ _ from Ye0 hr hn ?_)
 first
 |exact yb h
 |exact za _
theorem call_rev_range {r:Addr}{t u v:Tok}{Q:Value->Shared->Prop}(hr:IsRange s.heap r 0 (n:Nat) 1 t u v)(hn:n<=1000000)(h:Q (.ref s.heap.objs.size) { s with heap:=s.heap.push { cls:=.type "range_iterator",data:=.fields #[rawInt ((n:Int) - 1),rawInt (n:Int),rawInt (-1)] } }):
  wpAny (model prog w) A (call (.type "reversed") [.ref r]) Q E s:=by
 refine callType_other (Q₁:=fun a s₁=>a=.ref _/\s₁={ s with heap:=s.heap.push { cls:=.type "range_iterator",data:=.fields #[rawInt _,rawInt n,rawInt _] } }) rfl F.create_reversed ⟨_,_,F.mro_reversed⟩ F.made_reversed Xb4 (F.typeCall_reversed_1 _) (Yd9 hr hn ⟨rfl,rfl⟩) ?_;rintro a s₁ ⟨rfl,rfl⟩;exact⟨⟨_,zh _ rfl,rfl⟩,h⟩
end
end RevT
section
theorem Wb5 {tg e:Expr}{ta:TA}{p p2 pos2:Pos}(hg:Gl X "reversed")(hm:X.mg "reversed"=none)(hg2:Gl X "range")(hm2:X.mg "range"=none)(ha:PA X [e] ta)(he:zx [e] X.env=[(false,eval e X.env)]:=by rfl)(he2:zx [.Call (.Name "range" p2) [e] [] pos2] X.env=[(false,eval (.Call (.Name "range" p2) [e] [] pos2) X.env)]:=by rfl):
  PI X tg (.Call (.Name "reversed" p) [.Call (.Name "range" p2) [e] [] pos2] [] pos) (Yu7 ta):=by with_unfolding_all
 intro d s c H R I h;refine Call_ (Zq3 I hg hm (by rfl) ?_);refine zaf ?_ he2 rfl;rw[he2];show wpAny _ _ (spliced ((false,eval (.Call (.Name "range" p2) [e] [] pos2) X.env)::backTo pos (zx [] X.env))) _ _ s;refine Calls.spliced_cons (yar (Zq3 I hg2 hm2 PyProof.Rows.boot_range ?_));refine zaf (thn (ha pos2 d s c H _ I h) fun us s1 ⟨vs,H1,I1,r1,q1⟩=>?_) he rfl;obtain⟨n,rfl,j,q⟩:=q1
 cases r1 with
 |cons r rr =>
  cases rr;obtain⟨f,rfl⟩:=r;refine call_range_1 (Calls.spliced_nil ?_);have a:Inv X _ c H1 { s1 with heap:=s1.heap.push { cls:=.type "range",data:=.fields #[.int 0 s1.toks,.int n f,.int 1 (s1.toks+1)] },toks:=s1.toks+1+1 }:=I1.kept fun b o e=>ya _ e;refine RevT.call_rev_range (IsRange.new ..) j ?_;generalize (s1.heap.push { cls:=.type "range",data:=.fields #[.int 0 _,.int n f,.int 1 _] }:Heap)=g at a;have i:IsRangeIter (g.push { cls:=.type "range_iterator",data:=.fields #[rawInt (n - 1),rawInt n,rawInt (-1)] }) _ _ n _:=zh _ rfl;refine yct i ?_;have m:Inv X _ c H1 { s1 with heap:=g.push { cls:=.type "range_iterator",data:=.fields #[rawInt (n - 1),rawInt n,rawInt (-1)] },toks:=s1.toks+1+1 }:=a.kept fun b o e=>ya _ e;refine⟨_,_,_,_,H1,rfl,m,Xf6 _ _ n,?_,fun b t=>?_,q⟩
  ·have l:(n:Int) - 1+((0:Nat))*-1=n - 1:=by omega
   have k:(n:Int) - ((0:Nat))=n:=by omega
   rw[l,k];omega
  ·have e:b=g.objs.size:=by simp_all
   subst e;exact a.fpOk (by simp) (a.hok.fresh (by simp))
end
noncomputable abbrev Yr4 (l:Addr):Obj:={ cls:=zaa "tuple_iterator",data:=Data.fields #[yt l,zcf 0 0] }
section
variable {prog:zf}{E:Value->Shared->Prop}
theorem Zx9 {items:Array Value}{x:Value}{Q:Value->Shared->Prop}(hit:s.heap.IsListIter it l i)(hl:s.heap.IsList l items)(hx:items[i]?=some x)(hQ:∀h',h'.IsListIter it l (i+1)->zal it s.heap h'->Q x { s with heap:=h' }):wpAny (model prog w) A (ycg (yt it)) Q E s:=by
 obtain⟨o,b,e,a⟩:=id hit;obtain⟨f,c,_,g,d⟩:=hl;refine za (zah (Heap.IsListIter.typeIs hit) slot_listiter_next (yae slot_listiter_next (Heap.IsListIter.typeIs hit) entry_listiter_next ?_ (args_listiter_next _)));show wpAny _ _ (field _ 0 >>= _) _ _ _;refine za (zad b a rfl ?_);refine za (zad b a rfl ?_);refine za (yao c d ?_);dsimp only;rw[show items[(i:Int).toNat]?=some x from hx];refine za (zch b a (by simp) (yb ⟨x,rfl,yb (hQ _ ⟨_,yaa _ b (Obj.isFreed_of_fields (zcq a _)),(Obj.cls_mapFields o _).trans e,?_⟩ (yav _ it _))⟩));rw[zcq a];rfl
theorem Yd2 {TI TO:Addr}{xs:Array Value}{x y a b:Value}{Q:Value->Shared->Prop}(D:ZipApart z TI TO i1 i2 l1 l2)(hz:IsZip s.heap z TI TO .none)(hTI:IsPair s.heap TI (.ref i1) (.ref i2))(hTO:IsPair s.heap TO a b)(h1:s.heap.IsTupleIter i1 l1 k1)(h2:s.heap.IsListIter i2 l2 k2)(hl1:s.heap.IsTuple l1 xs)(hl2:s.heap.IsList l2 ys)(hx:xs[k1]?=some x)(hy:ys[k2]?=some y) (hQ:∀h',IsZip h' z TI TO (rawInt ↑s.heap.objs.size)->IsPair h' TO x y->h'.IsTupleIter i1 l1 (k1+1)->h'.IsListIter i2 l2 (k2+1)->IsPair h' s.heap.objs.size x y->h'.objs.size=s.heap.objs.size+1 ->
   (∀c o,c≠z->c≠TO->c≠i1->c≠i2->s.heap.get? c=some o->h'.get? c=some o)->Q (.ref s.heap.objs.size) { s with heap:=h' }):
  wpAny (model prog w) A (zdn.«zip.__next__» { pos:=[.ref z] }) (fun fin s'=>∃v,fin=Fin.done (Flow.ret v)/\Q v s') E s:=by
 show wpAny _ _ (field (yt z) 2 >>= _) _ _ _;refine za (zad hz rfl rfl ?_);show wpAny _ _ (field (yt z) 3 >>= _) _ _ _;refine za (zad hz rfl rfl ?_);refine za (yao hTI rfl ?_);show wpAny _ _ (zdn.SmallTypes.ownedTupleIsFree (yt z) >>= _) _ _ _;refine za ?_;show wpAny _ _ (field (yt z) 0 >>= _) _ _ _;refine za (zad hz rfl rfl (yb ?_));dsimp only;rw[if_pos rfl];refine za (ybu (za (zad hz rfl rfl ?_)));show wpAny _ _ (ycw (yt z) 0 Value.ellipsis >>= _) _ _ _;refine za (zw hz (by simp) fun g1 z1 f=>?_);simp only[List.zipIdx_cons,List.zipIdx_nil,ydh,List.forIn_nil];have d:∀{g g':Heap} {c:Addr},zal c g g'->zdi c g g':=fun p b o hb e=>(p.2 b hb).trans e;have M:∀{g g':Heap} {c t:Addr} {vs:Array Value},zal c g g'->t≠c->g.IsTuple t vs->g'.IsTuple t vs:=fun p hne zZ=>(by obtain⟨o,e,r⟩:=zZ;exact ⟨o,(p.2 _ hne).trans e,r⟩);have l:∀{g g':Heap} {c t:Addr} {vs:Array Value},zal c g g'->t≠c->g.IsList t vs->g'.IsList t vs:=fun p hne zZ=>(by obtain⟨o,e,r⟩:=zZ;exact ⟨o,(p.2 _ hne).trans e,r⟩);have q9:=h1.extBut (d f) D.i1z;have q4:=h2.extBut (d f) D.i2z;have S:=M f D.l1z hl1;have R:=l f D.l2z hl2;have V  := (f.2 TO D.TOz).trans hTO;refine za (za (za (wpAny_onRaise ?_)));refine za (Zv9 q9 S hx fun g2 q8 i=>yb ?_);have q3:=q4.extBut (d i) D.i12.symm;have O:=l i D.l2i1 R;have B  := (i.2 TO D.TOi1).trans V;have z2:=(i.2 z D.i1z.symm).trans z1;refine za (yao B rfl ?_);refine za (wpAny_updateSeq_pair B fun g3 U h=>za (ydi (yb ?_)));have I  := U;have q7:=q8.extBut (d h) D.TOi1.symm;have q2:=q3.extBut (d h) D.TOi2.symm;have N:=l h D.l2TO O;have z3:=(h.2 z D.TOz.symm).trans z2;refine za (za (wpAny_onRaise ?_));refine za (Zx9 q2 N hy fun g4 q1 k=>yb ?_);have q6:=q7.extBut (d k) D.i12;have u  := (k.2 TO D.TOi2).trans I;have z4:=(k.2 z D.i2z.symm).trans z3;refine za (yao u rfl ?_);refine za (wpAny_updateSeq_pair u fun C T j=>za (ydi (yb (yb ?_))));have n  := T;have q5:=q6.extBut (d j) D.TOi1.symm;have q0:=q1.extBut (d j) D.TOi2.symm;have z5:=(j.2 z D.TOz.symm).trans z4
 have m:C.objs.size=s.heap.objs.size:=by rw[j.1,k.1,h.1,i.1,f.1]
 refine za (yao n rfl ?_);refine za (wpAny_newTuple ?_ (by show 2<=zi;decide));have z6:(C.push { cls:=zaa "tuple",data:=zbx #[x,y] }).get? z=_:=ya _ z5;refine za ?_;refine za (zw z6 (by simp) fun g7 z7 L=>zw z7 (by simp) fun g8 z8 J=>yb ⟨_,rfl,?_⟩);have Y  := zj hz;have Z:∀c o,c≠z->(C.push { cls:=zaa "tuple",data:=zbx #[x,y] }).get? c=some o->g8.get? c=some o:=fun c o G e=>(J.2 c G).trans ((L.2 c G).trans e);have F  := fun c o G e=>Z c o G (ya _ e)
 have nz:C.objs.size≠z:=by rw[m];exact (yq Y).symm
 have j0:(C.push { cls:=zaa "tuple",data:=zbx #[x,y] }).get? _=some { cls:=zaa "tuple",data:=zbx #[x,y] }:=zh _ rfl;have q:=hQ g8 (by rw[<- m];exact z8) (F TO _ D.TOz n) (q5.at fun o e=>F i1 o D.i1z e) (q0.at fun o e=>F i2 o D.i2z e) (by rw[<- m];exact Z _ _ nz j0)
  (by rw[J.1,L.1,zbd,m]) fun c o X W n3 n4 e=>F c o X ((j.2 c W).trans ((k.2 c n4).trans ((h.2 c W).trans ((i.2 c n3).trans ((f.2 c X).trans e)))))
 simp_all
theorem Yg0 {TI TO:Addr}{xs:Array Value}{a b:Value}{Q:PySem.Fin->Shared->Prop}(hh:A.handled=none)(D:ZipApart z TI TO i1 i2 l1 l2)(hz:IsZip s.heap z TI TO .none)(hTI:IsPair s.heap TI (.ref i1) (.ref i2))(hTO:IsPair s.heap TO a b)(h1:s.heap.IsTupleIter i1 l1 k1)(h2:s.heap.IsListIter i2 l2 k2)(hl1:s.heap.IsTuple l1 xs)(hl2:s.heap.IsList l2 ys)(hx:xs[k1]?=none)(hE:∀h' e,(∀c o,c≠z->c≠TO->c≠i1->c≠i2->s.heap.get? c=some o->h'.get? c=some o)->(∃o,h'.get? e=some o/\o.cls=.type "StopIteration")->E (.ref e) { s with heap:=h' }):
  wpAny (model prog w) A (zdn.«zip.__next__» { pos:=[.ref z] }) Q E s:=by
 show wpAny _ _ (field _ 2 >>= _) _ _ _;refine za (zad hz rfl rfl ?_);refine za (zad hz rfl rfl (za (yao hTI rfl ?_)));refine za ?_;refine za (zad hz rfl rfl (yb ?_));refine za (ybu (za (zad hz rfl rfl ?_)));refine za (zw hz (by simp) fun O x d=>?_);have k:∀{g g':Heap} {c:Addr},zal c g g'->zdi c g g':=fun i b o F e=>(i.2 b F).trans e;have h:∀{g g':Heap} {c t:Addr} {vs:Array _},zal c g g'->t≠c->g.IsTuple t vs->g'.IsTuple t vs:=fun i hne zZ=>(by obtain⟨o,e,r⟩:=zZ;exact ⟨o,(i.2 _ hne).trans e,r⟩);have p:=h1.extBut (k d) D.i1z;have j:=h d D.l1z hl1;refine za (za (za (wpAny_onRaise ?_)));refine za (Zx8 hh p j hx fun N e q u=>?_);obtain⟨y,C,n⟩:=u;have v:=q z _ D.i1z.symm x;refine zw v (by simp) fun G J f=>?_
 have l:e≠z:=fun w=>by
  grind
 exact hE G e (fun c o m M B L I=>(f.2 c m).trans (q c o B ((d.2 c m).trans I))) ⟨y,(f.2 e l).trans C,n⟩
end
noncomputable abbrev Xt4 (l:Addr):Obj:={ cls:=zaa "list_iterator",data:=Data.fields #[yt l,zcf 0 0] }
theorem Yd7 (l1 l2:Addr)(xs ys:Array Value):Meets (zdn.«zip.__new__» { pos:=[zaa "zip",yt l1,yt l2] }) fun x R s =>
  s.heap.IsTuple l1 xs/\s.heap.IsList l2 ys/\(∀g:Heap,g=((((s.heap.push (Yr4 l1)).push (Xt4 l2)).push { cls:=zaa "tuple",data:=zbx #[yt s.heap.objs.size,yt (s.heap.objs.size+1)] }).push { cls:=zaa "tuple",data:=zbx #[yz,yz] }).push
    { cls:=zaa "zip",data:=Data.fields #[yz,yde false,yde false,yt (s.heap.objs.size+2),yt (s.heap.objs.size+3)] } ->
   R (Except.ok (Flow.ret (yt (s.heap.objs.size+4)))) { s with heap:=g }) :=
 Meets.of_wp fun f w A R s h=>by
  obtain⟨d,c,h⟩:=h;have a:=sub_zip;refine za ?_;refine za (zbc a (wpAny_ite_false rfl (yb ?_)));refine za ?_
  have b:(s.heap.push (Yr4 l1)).IsList l2 ys:=by
   obtain⟨o,e,r⟩:=c;exact⟨o,ya _ e,r⟩
  refine za (za (za (zap (wpAny_pyIter_tuple d (yb ?_)))));refine za (za (zap (wpAny_pyIter_list (s:={ s with heap:=s.heap.push _ }) b (yb (yb (yb ?_))))));refine za (wpAny_newTuple (za (wpAny_newTuple ?_ (by show 2<=zi;decide))) (by show 2<=zi;decide));refine za ?_;unfold zdn.SmallTypes.newRecord;refine yab (yb ⟨_,rfl,?_⟩) (hd:=by first | exact zbu | (unfold sizeOk;first | exact zbu | (show ¬_) | (simp[ycl];done) | (simp[ycl,zi])));have q:=h _ rfl;simp only[zbd] at q ⊢;exact q
theorem Xd8 {prog:zf}{E:Value->Shared->Prop}{xs:Array Value}{Q:Value->Shared->Prop}(hl1:s.heap.IsTuple l1 xs)(hl2:s.heap.IsList l2 ys) (h:∀h':Heap,IsZip h' (s.heap.objs.size+4) (s.heap.objs.size+2) (s.heap.objs.size+3) yz->IsPair h' (s.heap.objs.size+2) (yt s.heap.objs.size) (yt (s.heap.objs.size+1))->IsPair h' (s.heap.objs.size+3) yz yz ->
   h'.IsTupleIter s.heap.objs.size l1 0->h'.IsListIter (s.heap.objs.size+1) l2 0->h'.objs.size=s.heap.objs.size+5->(∀c o,s.heap.get? c=some o->h'.get? c=some o)->Q (yt (s.heap.objs.size+4)) { s with heap:=h' }):
  wpAny (model prog w) A (call (zaa "zip") [yt l1,yt l2]) Q E s:=by
 refine callType_new F.called_zip rfl (F.typeCall_zip_2 _ _) (F.newCall_zip_2 _ _) (fun j=>F.args_object_init_3 j _ _) F.entry_zip_new (Yd7 l1 l2 xs ys) ⟨hl1,hl2,fun g a=>?_⟩;have u:(s.heap.push (Yr4 l1)).objs.size=s.heap.objs.size+1:=zbd _ _
 have i:((s.heap.push (Yr4 l1)).push (Xt4 l2)).objs.size=s.heap.objs.size+2:=by simp
 have z:(s.heap.push (Yr4 l1)).get? _=some _:=zh _ rfl
 have n:((s.heap.push (Yr4 l1)).push (Xt4 l2)).get? (s.heap.objs.size+1)=some (Xt4 l2):=by rw[<- u];exact zh _ rfl
 generalize b:(s.heap.push _).push _=p1 at a i n
 have p:p1.get? s.heap.objs.size=some (Yr4 l1):=by rw[<- b];exact ya _ z
 have v:∀c o,s.heap.get? c=some o->p1.get? c=some o:=fun c o e=>by rw[<- b];exact ya _ (ya _ e)
 generalize l:({ cls:=zaa "tuple",data:=zbx #[yt _,yt _] }:Obj)=o2 at a;generalize k:({ cls:=zaa "tuple",data:=zbx #[yz,yz] }:Obj)=o3 at a;generalize d:({ cls:=zaa "zip",data:=Data.fields #[yz,yde _,yde _,yt _,yt _] }:Obj)=o4 at a
 have t:(p1.push o2).objs.size=s.heap.objs.size+3:=by simp_all
 have r:((p1.push o2).push o3).objs.size=s.heap.objs.size+4:=by simp[*]
 have q:g.objs.size=s.heap.objs.size+5:=by simp[*]
 have m:g.get? (s.heap.objs.size+4)=some o4:=by rw[a,<- r];exact zh _ (by rw[<- d];rfl)
 have x:g.get? (s.heap.objs.size+3)=some o3:=by rw[a,<- t];exact ya _ (zh _ (by rw[<- k];rfl))
 have y:g.get? (s.heap.objs.size+2)=some o2:=by rw[a,<- i];exact ya _ (ya _ (zh _ (by rw[<- l];rfl)))
 have f:∀c o,p1.get? c=some o->g.get? c=some o:=fun c o e=>by rw[a];exact ya _ (ya _ (ya _ e))
 refine⟨⟨_,m,by rw[<- d]⟩,?_⟩;exact h g (m.trans (by simp_all)) (y.trans (by simp_all)) (x.trans (by simp_all)) ⟨_,f _ _ p,rfl,rfl⟩ ⟨_,f _ _ n,rfl,rfl⟩ q fun c o e=>f c o (v c o e)
section
variable {prog:zf}{E:Value->Shared->Prop}
theorem Zx7 {TI TO:Addr}{xs:Array Value}{x y a b:Value}{Q:Option Value->Shared->Prop}(D:ZipApart z TI TO i1 i2 l1 l2)(hz:IsZip s.heap z TI TO .none)(hTI:IsPair s.heap TI (.ref i1) (.ref i2))(hTO:IsPair s.heap TO a b)(h1:s.heap.IsTupleIter i1 l1 k1)(h2:s.heap.IsListIter i2 l2 k2)(hl1:s.heap.IsTuple l1 xs)(hl2:s.heap.IsList l2 ys)(hx:xs[k1]?=some x)(hy:ys[k2]?=some y) (hQ:∀h',IsZip h' z TI TO (rawInt ↑s.heap.objs.size)->IsPair h' TO x y->h'.IsTupleIter i1 l1 (k1+1)->h'.IsListIter i2 l2 (k2+1)->IsPair h' s.heap.objs.size x y->h'.objs.size=s.heap.objs.size+1 ->
   (∀c o,c≠z->c≠TO->c≠i1->c≠i2->s.heap.get? c=some o->h'.get? c=some o)->Q (some (.ref s.heap.objs.size)) { s with heap:=h' }):
  wpAny (model prog w) A (pyNext (.ref z)) Q E s:=by
 have d:s.TypeIs (.ref z) "zip":=⟨_,hz,rfl⟩;exact id (za (ycq (zah d zdj (yae zdj d F.entry_zip_next (Yd2 D hz hTI hTO h1 h2 hl1 hl2 hx hy fun h' k j i h g f e=>yb (hQ h' k j i h g f e)) (F.args_zip_next_1 _)))))
theorem Ya7 {TI TO:Addr}{xs:Array Value}{a b:Value}{Q:Option Value->Shared->Prop}(hh:A.handled=none)(D:ZipApart z TI TO i1 i2 l1 l2)(hz:IsZip s.heap z TI TO .none)(hTI:IsPair s.heap TI (.ref i1) (.ref i2))(hTO:IsPair s.heap TO a b)(h1:s.heap.IsTupleIter i1 l1 k1)(h2:s.heap.IsListIter i2 l2 k2)(hl1:s.heap.IsTuple l1 xs)(hl2:s.heap.IsList l2 ys)(hx:xs[k1]?=none)(hQ:∀h',(∀c o,c≠z->c≠TO->c≠i1->c≠i2->s.heap.get? c=some o->h'.get? c=some o)->Q none { s with heap:=h' }):
  wpAny (model prog w) A (pyNext (.ref z)) Q E s:=by
 have d:s.TypeIs (.ref z) "zip":=⟨_,hz,rfl⟩
 exact id (za (ycq (zah d zdj (yae zdj d F.entry_zip_next (Yg0 hh D hz hTI hTO h1 h2 hl1 hl2 hx fun h' e hk ⟨o,ho,hc⟩ =>
  za (ybh ⟨o,ho,hc⟩ zcx (yb (hQ h' hk)))) (F.args_zip_next_1 _)))))
end
noncomputable def ItzX (K:W.Frag)(a b:Addr):It :=
  ⟨fun i H=>∃xs ys x y,SqT K H a xs/\SqL K H b ys/\xs[i]?=some x/\ys[i]?=some y,
   fun i H v H'=>∃T x y,v=.ref T/\H T=none/\H'=upd H T (.tup [x,y])/\(∀xs,SqT K H a xs->xs[i]?=some x)/\∀ys,SqL K H b ys->ys[i]?=some y,
   fun i H=>∃xs ys,SqT K H a xs/\SqL K H b ys/\xs.length<=i⟩
def Wh3 (z TI TO i1 i2 l1 l2:Addr)(i:Nat)(h:Heap):Prop :=
 IsZip h z TI TO .none/\IsPair h TI (.ref i1) (.ref i2)/\(∃a b,IsPair h TO a b)/\h.IsTupleIter i1 l1 i/\h.IsListIter i2 l2 i
set_option tactic.hygienic true in
theorem Xf2 {P:zf}{elts:List Expr}(z TI TO i1 i2 l1 l2:Addr)(D:ZipApart z TI TO i1 i2 l1 l2):
    Turn P w K (.Tuple elts k0 tpos) (ItzX K l1 l2) [z,TI,TO,i1,i2] z (Wh3 z TI TO i1 i2 l1 l2) where
  mem:=by simp
  obj:=fun i h st b hb=>by
    obtain⟨hz,hTI,⟨a,c,hTO⟩,⟨o1,e1,c1,d1⟩,⟨o2,e2,c2,d2⟩⟩:=st
    grind
  keep:=fun i h h' st k=>by
    obtain⟨hz,hTI,⟨a,c,hTO⟩,h1,h2⟩:=st;exact⟨k z (by simp) _ hz,k TI (by simp) _ hTI,⟨a,c,k TO (by simp) _ hTO⟩,h1.at fun o e=>k i1 (by simp) o e,h2.at fun o e=>k i2 (by simp) o e⟩
  item:=by
    intro X hP hw hK hc i pins s σ H E I hf st hg;subst hP hw hK;obtain⟨hz,hTI,⟨a,c,hTO⟩,h1,h2⟩:=st;obtain⟨xs,ys,x,y,q1,q2,hx,hy⟩:=hg;obtain⟨its1,rv1,p1,_⟩:=I.tuple q1;obtain⟨its2,rv2,p2,_⟩:=I.list q2;obtain⟨u1,hu1,ru1⟩:=rv1.get hx;obtain⟨u2,hu2,ru2⟩:=rv2.get hy;refine Zx7 D hz hTI hTO h1 h2 (show s.heap.IsTuple l1 its1.toArray from p1) p2.isList (x:=u1) (y:=u2) (by simpa using hu1) (by simpa using hu2) fun h' a1 a2 a3 a4 a5 a6 kk=>?_;have hT:H s.heap.objs.size=none:=I.hok.fresh (zg _)
    have nch:∀b u,H b=some u->b ∉ [z,TO,i1,i2]:=fun b u e hb=>by
      have hb':b∈[z,TI,TO,i1,i2]:=by
        simp only[zd,zq,or_false] at hb ⊢
        grind
      rw[(hf b hb').1] at e;cases e
    have kk':∀b o,b ∉ [z,TO,i1,i2]->s.heap.get? b=some o->h'.get? b=some o:=fun b o hb e=>by
      simp_all
    have ltT:∀b o,s.heap.get? b=some o->b≠s.heap.objs.size:=fun b o e=>yq (zj e)
    have hokT:HOk _ X.w (upd H _ (.tup [x,y])) h':=fun b ob e=>by
      by_cases hb:b=s.heap.objs.size
      · subst hb
        rw[Za5] at e;cases e;exact⟨by show 2<=zi;decide,[u1,u2],.cons ru1 (.cons ru2 .nil),_,a5,rfl,_,rfl⟩
      · rw[Za9 hb] at e
        refine (I.hok b ob e).stay (fun c v hcv q=>kk' c v ?_ q) (fun c q=>by rw[Za9 (Zb0 q hT)];exact q) fun c xs q=>by rw[Za9 (Zb0 q hT)];exact q
        rcases hcv with rfl | hcv
        · exact nch _ _ e
        · exact nch _ _ hcv
    have I1:Inv X pins σ (upd H s.heap.objs.size (.tup [x,y])) { s with heap:=h' }:=by
      refine I.step (fun b hb=>?_) (fun b o _ _ hb e _=>kk' b o hb e) (fun b o _ _ hb e _=>⟨o.slots,kk' b o hb e⟩) (fun b o _ e n=>by rw[Za9 (ltT b o e)];exact n) (fun b o hb e=>⟨o,kk' b o hb e⟩)
        (fun b xs q=>by rw[Za9 (Zb0 q hT)];exact q) (fun b o u q=>by rw[Za9 (Zb0 q hT)];exact q) (fun b ps q=>⟨#[],by rw[Za9 (Zb0 q hT),q];simp⟩) (fun m hm=>?_) hokT I.bare
      · have hb':b∈[z,TI,TO,i1,i2]:=by
          grind
        obtain⟨f0,f1,f2,f3,f4,f5⟩:=hf b hb';exact⟨f3,f1,f4,f5⟩
      · obtain⟨o,es,ep,ho,r⟩:=hm
        refine⟨o,es,ep,kk' _ o ?_ ho,r⟩;simp;exact⟨(hf z (by simp)).2.1.symm,(hf TO (by simp)).2.1.symm,(hf i1 (by simp)).2.1.symm,(hf i2 (by simp)).2.1.symm⟩
    refine⟨_,rfl,wpAny_letOwnedTupleGo_zip a1 fun h'' hz'' sb=>?_⟩;obtain⟨f0,f1,f2,f3,f4,f5⟩:=hf z (by simp)
    have ltz:∀b∈[z,TI,TO,i1,i2],b≠s.heap.objs.size:=fun b hb=>by
      simp at hb;obtain⟨o1,e1,_⟩:=h1;obtain⟨o2,e2,_⟩:=h2;rcases hb with rfl | rfl | rfl | rfl | rfl
      · exact ltT _ _ hz
      · exact ltT _ _ hTI
      · exact ltT _ _ hTO
      · exact ltT _ _ e1
      · exact ltT _ _ e2
    have fn:∀b∈[z,TI,TO,i1,i2],upd H _ (.tup [x,y]) b=none:=fun b hb=>by rw[Za9 (ltz b hb)];exact (hf b hb).1
    have I2:Inv X _ σ _ { s with heap:=h'' }:=I1.turned (fun b o hb e=>(sb.2 b hb).trans e) (fn z (by simp)) f1 f3 f4 f5;refine⟨.ref _,_,I2,rfl,⟨_,x,y,rfl,hT,rfl,fun ys hy'=>by rw[I.tuple_inj hy' q1];exact hx,fun ys hy'=>by rw[I.list_inj hy' q2];exact hy⟩,⟨hz'',?_,⟨u1,u2,?_⟩,?_,?_⟩,fn⟩
    · exact (sb.2 TI D.TIz).trans (kk' TI _ (by simp;exact⟨D.TIz,D.TITO,D.TIi1,D.TIi2⟩) hTI)
    · exact (sb.2 TO D.TOz).trans a2
    · exact a3.extBut sb.extBut D.i1z
    · exact a4.extBut sb.extBut D.i2z
  done:=by
    intro X hP hw hK hc i pins s σ H E I hf st hg;subst hP hw hK;obtain⟨hz,hTI,⟨a,c,hTO⟩,h1,h2⟩:=st;obtain⟨xs,ys,q1,q2,hend⟩:=hg;obtain⟨its1,rv1,p1,_⟩:=I.tuple q1;obtain⟨its2,rv2,p2,_⟩:=I.list q2;have e1:=rv1.length;refine Ya7 (I.ok.hd hc) D hz hTI hTO h1 h2 (by assumption) p2.isList ?_ fun h' kk=>⟨rfl,?_⟩
    · simp;omega
    · have nch:∀b u,H b=some u->b ∉ [z,TO,i1,i2]:=fun b u e hb=>by
        have hb':b∈[z,TI,TO,i1,i2]:=by
          grind
        rw[(hf b hb').1] at e;cases e
      have kk':∀b o,b ∉ [z,TO,i1,i2]->s.heap.get? b=some o->h'.get? b=some o:=fun b o hb e=>by
        simp_all
      have hok'  := fun b ob e=>by
        refine (I.hok b ob e).stay (fun c v hcv q=>kk' c v ?_ q) (fun c q=>q) fun c xs q=>q;rcases hcv with rfl | hcv
        · exact nch _ _ e
        · exact nch _ _ hcv
      refine I.step (fun b hb=>?_) (fun b o _ _ hb e _=>kk' b o hb e) (fun b o _ _ hb e _=>⟨o.slots,kk' b o hb e⟩) (fun b o _ e n=>n) (fun b o _ e=>?_)
        (fun b xs q=>q) (fun b o u q=>q) (fun b ps q=>(by simp_all)) (fun m hm=>?_) hok' I.bare
      · have hb':b∈[z,TI,TO,i1,i2]:=by
          grind
        obtain⟨f0,f1,f2,f3,f4,f5⟩:=hf b hb';exact⟨f3,f1,f4,f5⟩
      · rename_i hb
        exact⟨o,kk' b o hb e⟩
      · obtain⟨o,es,ep,ho,r⟩:=hm
        refine⟨o,es,ep,kk' _ o ?_ ho,r⟩;simp;exact⟨(hf z (by simp)).2.1.symm,(hf TO (by simp)).2.1.symm,(hf i1 (by simp)).2.1.symm,(hf i2 (by simp)).2.1.symm⟩
  self:=fun _ _ _ _ _ st h=>wpAny_pyIter_zip st.1 h
section
def Yu4 (K:W.Frag)(ta:TA):TI:=fun σ H R=>ta σ H fun vs H1=>∃a b,vs=[.ref a,.ref b]/\(∃xs,SqT K H1 a xs)/\(∃ys,SqL K H1 b ys)/\R (ItzX K a b) H1
theorem Wb3 {a b:Expr}{ta:TA}{p:Pos}{elts:List Expr}(hg:Gl X "zip")(hm:X.mg "zip"=none)(ha:PA X [a,b] ta)(hs:zx [a,b] X.env=[(false,eval a X.env),(false,eval b X.env)]:=by rfl)(hs2:zx [b] X.env=[(false,eval b X.env)]:=by rfl):
  PI X (.Tuple elts k0 tpos) (.Call (.Name "zip" p) [a,b] [] pos) (Yu4 X.K ta):=by with_unfolding_all
 intro f s g H R I h;refine Call_ (Zq3 I hg hm (by rfl) (zaf (thn (ha pos f s g H _ I h) fun us s1 ⟨vs,H1,I1,r1,d⟩=>?_) (by simp_all) (by rw[hs2];rfl)));obtain⟨y,l,e,⟨N,d⟩,⟨M,w⟩,q⟩:=d;subst e;obtain⟨S,O,rfl,j,i⟩:=Wh4 r1;cases j;cases i;obtain⟨A,L,x,_⟩:=I1.tuple d;obtain⟨z,J,k,_⟩:=I1.list w;have F  := x.lt;have D  := (show l < s1.heap.objs.size by obtain⟨o,e,_⟩:=k.isList;exact zj e);refine Xd8 (by assumption) k.isList fun C m v u r n _ B=>wpAny_pyIter_zip m ?_;have G:Inv X _ g H1 { s1 with heap:=C }:=I1.kept B;refine⟨_,_,_,_,H1,rfl,G,Xf2 _ _ _ _ _ y l (zipApart_new F D),⟨m,v,⟨_,_,u⟩,r,n⟩,fun b t=>?_,q⟩
 have c:s1.heap.objs.size<=b:=by
  simp at t
  rcases t with rfl | rfl | rfl | rfl | rfl<;>omega
 exact I1.fpOk c (I1.hok.fresh c)
end
theorem Xu2 {xs ys:List V}{g:TG}{tb:TS}(Pv:Nat->St->Hp->Prop)(hxy:xs.length=ys.length)(h0:Pv 0 σ H)(hl:∀i σ H,i<=xs.length->Pv i σ H->SqT K H a xs/\SqL K H b ys)(hs:∀i x y σ H T,i < xs.length->xs[i]?=some x->ys[i]?=some y->H T=none->Pv i σ H->g (.ref T) σ (upd H T (.tup [x,y])) fun σ2 H2=>tb { D with nx:=Pv (i+1),ct:=Pv (i+1),bk:=D.nx } σ2 H2)(hd:∀σ H,Pv xs.length σ H->D.nx σ H):
  ∃W:Nat->Nat->St->Hp->Prop,(∃m,W 0 m σ H)/\∀i m σ H,W i m σ H ->
   ((ItzX K a b).stop i H/\D.nx σ H)∨((ItzX K a b).go i H/\∃N:St->Hp->Prop,(∀σ' H',N σ' H'->∃m',m' < m/\W (i+1) m' σ' H')/\∀x H',(ItzX K a b).yld i H x H'->g x σ H' fun σ2 H2=>tb { D with nx:=N,ct:=N,bk:=D.nx } σ2 H2):=by
 refine⟨fun i m σ H=>m=xs.length - i/\i<=xs.length/\Pv i σ H,⟨xs.length,by simp,yaq _,h0⟩,?_⟩;rintro i m σ H ⟨rfl,k,p⟩;obtain⟨d,c⟩:=hl i σ H k p
 by_cases hlt:i < xs.length
 ·refine .inr ⟨⟨xs,ys,xs[i],ys[i],d,c,by simp,by simp⟩,Pv _,fun σ' H' j=>⟨xs.length - _,by omega,rfl,hlt,j⟩,fun x H' y=>?_⟩
  obtain⟨T,x,y,rfl,l,rfl,h,f⟩:=y;exact hs i x y σ H T hlt (h xs d) (f ys c) l p
 ·have e:i=xs.length:=by omega
  subst e;exact .inl ⟨⟨xs,ys,d,c,zg _⟩,hd _ _ p⟩
def Rise (xs:Array Nat):Prop:=xs.toList.Pairwise (· < ·)
theorem Rise.lt {xs:Array Nat}(h:Rise xs){a b:Nat}(hij:i < j)(ha:xs[i]?=some a)(hb:xs[j]?=some b):a < b:=by
 rw[<- Array.getElem?_toList] at ha hb;obtain⟨d,rfl⟩:=yc.mp ha;obtain⟨c,rfl⟩:=yc.mp hb;exact List.pairwise_iff_getElem.mp h i j d c hij
structure Cut (xs:Array Nat)(j c:Nat):Prop where
 le:c<=xs.size
 lo:∀i a,i < c->xs[i]?=some a->a < j
 hi:∀i a,c<=i->xs[i]?=some a->j<=a
theorem Xn2 {xs:Array Nat}(h:Rise xs)(j:Nat):∀(n lo hi:Nat),hi - lo<=n->lo<=hi->hi<=xs.size->(∀i a,i < lo->xs[i]?=some a->a < j)->(∀i a,hi<=i->xs[i]?=some a->j<=a)->Cut xs j (yak.go xs j n lo hi)
 | 0,lo,hi,hn,hl,hz,h1,h2=>by
  have e:lo=hi:=by omega
  subst e;exact⟨hz,h1,h2⟩
 |n+1,lo,hi,hn,hl,hz,h1,h2=>by
  rw[SetTable.below.go.eq_def];dsimp only
  by_cases c:lo < hi
  ·rw[if_pos c]
   have hm:(lo+hi) / 2 < xs.size:=by omega
   have em  := zz hm
   have eg:xs.getD ((lo+hi) / 2) j=xs[_ / 2]:=by simp_all
   rw[eg]
   by_cases q:xs[_ / 2] < j
   ·rw[if_pos q]
    refine Xn2 h j n _ _ (by omega) (by omega) hz (fun i a hi' e=>?_) h2
    by_cases z:i=(lo+hi) / 2
    ·simp_all
    ·exact Nat.lt_trans (h.lt (by omega) e em) q
   ·rw[if_neg q]
    refine Xn2 h j n _ _ (by omega) (by omega) (by omega) h1 fun i a hi' e=>?_
    by_cases z:i=(lo+hi) / 2
    ·simp_all
    ·have:=h.lt (by omega) em e
     omega
  ·rw[if_neg c]
   have e:lo=hi:=by omega
   subst e;exact⟨hz,h1,h2⟩
theorem Yd0 {xs:Array Nat}(h:Rise xs)(j:Nat):Cut xs j (yak xs j) :=
 Xn2 h j _ 0 _ (by omega) (by omega) (by omega) (by simp) fun i a b e=>by
  simp_all
theorem Cut.uniq {xs:Array Nat}{c:Nat}(a:Cut xs j c)(b:Cut xs j d):c=d:=by
 rcases Nat.lt_trichotomy c d with z | z | z
 ·have h  := zn z b.le
  have e  := zz h;have:=b.lo c _ z e;have:=a.hi c _ (by simp) e;omega
 ·exact z
 ·have h  := zn z a.le
  have e  := zz h;have:=a.lo d _ z e;have:=b.hi d _ (by simp) e;omega
theorem Xe5 {xs:Array Nat}(h:Rise xs){a:Nat}(e:xs[i]?=some a):yak xs (a+1)=i+1:=by
 refine (Yd0 h _).uniq ⟨?_,fun k b d c=>?_,fun k b d c=>?_⟩
 ·grind
 ·by_cases z:k=i
  ·simp_all
  ·have:=h.lt (by omega) c e
   omega
 ·have:=h.lt (by omega) e c
  omega
theorem Xe4 {xs:Array Nat}(h:Rise xs):yak xs 0=0 :=
 (Yd0 h 0).uniq ⟨yaq _,fun k b a _=>absurd a (by simp),fun k b _ _=>yaq _⟩
theorem Ys3 {xs:Array Nat}(h:Rise xs)(hj:xs[yak xs j]?≠some j):Rise (zau.insertAt xs (yak xs j) j):=by
 have c:=Yd0 h j;generalize yak xs j=p at c hj;unfold Rise zau.insertAt
 have e:((xs.extract 0 p).push j++xs.extract p xs.size).toList=xs.toList.take p++j::xs.toList.drop p:=by
  simp[ybg]
 rw[e,List.pairwise_append];refine⟨h.sublist (List.take_sublist _ _),List.pairwise_cons.mpr ⟨fun b f=>?_,h.sublist (List.drop_sublist _ _)⟩,fun a m b f=>?_⟩
 ·obtain⟨i,d,e⟩:=zav f
  rw[ybs,ybe] at d
  have g:xs[p+i]?=some b:=by rw[<- e,zz (by omega)];simp
  have k:=c.hi _ _ (by simp) g
  by_cases z:b=j
  ·subst z
   cases i with
   |zero=>exact absurd g hj
   |succ i =>
    have l:xs[p]?=some (xs[p]'(by omega)):=zz _;have:=c.hi _ _ (by simp) l;have:=h.lt (by simp) l g;omega
  ·omega
 ·have k:a < j:=by
   obtain⟨i,d,e⟩:=zav m;rw[yal,ybe] at d;exact c.lo i a (by omega) (by rw[<- e,zz (by omega)];simp)
  rcases zd.mp f with rfl | f
  ·exact k
  ·obtain⟨i,d,e⟩:=zav f
   rw[ybs,ybe] at d;have:=c.hi (p+i) b (by simp) (by rw[<- e,zz (by omega)];simp);omega
theorem Yw9 {t:zau}(h:∀i,t.slot j≠.live i):t.place[yak t.place j]?≠some j:=fun z=>by
 refine h (yak t.place j) ?_;unfold zau.slot
 simp_all
theorem Ya8 {t:zau}{h:Int}:∀(n:Nat) (p:zau.Probe) (j:Nat) (d:Option Nat),(∀k,p.dummy=some k->t.place[yak t.place k]?≠some k)->zau.probe.go t (fun _=>h+1) h n p=some (.empty j d)->t.place[yak t.place (d.getD j)]?≠some (d.getD j)
 | 0,p,j,d,hp,e=>by cases e
 |n+1,p,j,d,hp,e=>by
  rw[SetTable.probe.go.eq_def] at e;dsimp only at e
  have adv:∀q:zau.Probe,(t.advance q).dummy=q.dummy:=fun q=>by
   unfold zau.advance
   split<;>rfl
  cases s:t.slot p.j with
  |empty =>
   rw[s] at e;cases e
   cases z:p.dummy with
   |none=>exact Yw9 fun i w=>by grind
   |some k=>exact hp k z
  |dummy =>
   rw[s] at e;refine Ya8 n _ j d (fun k hk=>?_) e
   exact Yw9 fun i w=>by grind
  |live i =>
   rw[s] at e;dsimp only at e;rw[if_neg (by simp;omega)] at e;exact Ya8 n _ j d (fun k hk=>hp k (by simp_all)) e
set_option tactic.hygienic true in
theorem Yp2 {t:zau}{h:Int}{b:Bool}(e:t.freeSlot h=some (j,b)):t.place[yak t.place j]?≠some j:=by
 unfold zau.freeSlot at e
 split at e
 ·rename_i k d q
  cases e
  exact Ya8 _ _ _ _ (fun k hk=>by
   cases hk) q
 simp_all
theorem Zk6 (t:zau)(n:Nat):Rise (t.standIn n).place:=by
 show (Array.range n).toList.Pairwise _;rw[Array.toList_range];exact List.pairwise_lt_range
theorem Wa9 {t:zau}(n:Nat)(h:Rise t.place):Rise (t.orStandIn n).place:=by
 unfold zau.orStandIn
 split
 ·exact h
 ·exact Zk6 _ _
set_option tactic.hygienic true in
theorem Xr7 {t:zau}(h:Rise t.place)(es:Array (Int×Value))(hh:Int)(x:Value):Rise (layNew t es hh x).2.1.place:=by
 unfold layNew
 split
 ·rename_i j b e
  exact Wa9 _ (Ys3 h (Yp2 e))
 ·exact Zk6 _ _
theorem Xh8 {mask finger moves:Nat}{led plain:Bool}{hashes:Array Int}{t:zau}{o:Array Nat}(h:ydd mask finger moves led plain hashes=some (t,o)):Rise t.place:=by
 unfold ydd at h
 cases z:zau.layClean _ _ with
 |none=>rw[z] at h;cases h
 |some ow =>
  rw[z] at h;cases h;show (ydk _ _).toArray.toList.Pairwise _;rw[List.toList_toArray,List.pairwise_map,List.pairwise_filterMap];refine List.pairwise_lt_range.imp fun {a b} hab x hx y hy=>?_;obtain⟨u,_,rfl⟩:=zai.mp hx;obtain⟨v,_,rfl⟩:=zai.mp hy;exact hab
set_option tactic.hygienic true in
theorem Xr8 {t:zau}(h:Rise t.place)(es:Array (Int×Value))(n:Nat):Rise (relayAll t es n).2.1.place:=by
 unfold relayAll
 split
 ·rename_i t' o e
  dsimp only
  split
  ·exact Xh8 (show ydd _ _ _ _ _ _=some (t',o) from e)
  ·exact Zk6 _ _
 ·exact Zk6 _ _
theorem Xr6:Rise #[]:=List.Pairwise.nil
section
variable {P:zf}{E:Value->Shared->Prop}
set_option tactic.hygienic true in
theorem Yx0 {slot:Nat}{o:Obj}{t:zau}{Q:Option Value->Shared->Prop}(hb:w.params.followText "set-order"=false)(hI:s.heap.get? I=some (Zv2 (.int slot 0) i a es.size ep))(ha:s.heap.get? a=some o)(hd:o.data=.set es ep t)(hf:t.fits es.size=true)(hl:t.led=true)(h1:t.plain=true∨es.size<=1) (h:wpAny (model P w) A.in1 (match (match es[yak t.place slot]?,t.place[yak t.place slot]? with
              |some (_,x),some j=>some (x,j+1)
              | _,_=>none) with
              |some (x,next)=>do
                ycw (.ref I) 0 (rawInt ↑(next:Nat))
                ycw (.ref I) 1 (rawInt (i+1))
                ret x
              |none=>do
                ycw (.ref I) 2 yz
                zaz)
      (fun fin s'=>∃v,fin=Fin.done (Flow.ret v)/\Q (some v) s') (fun e s'=>wpAny (model P w) A (isInstance e (zaa "StopIteration") >>= fun b=>if b=true then pure none else throw e) Q E s') s):wpAny (model P w) A (pyNext (.ref I)) Q E s:=by
  refine Zs7 (n:=es.size) hI ha hd hf ?_;refine za ?_;refine za (yap ha hd hf ?_);refine za (za (yat (yb ?_)));rw[if_neg (show ¬_ from fun z=>by rw[show (model P w).w.params.followText "set-order"=false from hb] at z;cases z)]
  split
  · rename_i hz
    have hz:(!t.plain&&decide _)=true:=hz;rw[yr] at hz;have:=of_decide_eq_true hz.2;rcases h1 with h1 | h1
    · rw[h1] at hz;cases hz.1
    · omega
  refine za ?_;show wpAny _ _ (if _=true then unsupported "set:maker-not-led" else pure ()) _ _ _;rw[if_neg (by rw[hl];simp)];exact yb (yb h)
def SiAtR (w:World)(I a:Addr)(es:Array (Int×Value))(ep:Nat)(t:zau)(ord:List Value)(fs:List Addr)(i:Nat)(h:Heap):Prop :=
  (∃o,h.get? a=some o/\o.data=.set es ep t) /\
  ((∃(T : Addr) (places : List Nat), fs = [T] /\ h.get? I = some (Zv2 (.ref T) i a es.size ep) /\ h.get? T = some { cls := .type "tuple", data := .seq (places.map fun (k : Nat) => rawInt (k : Int)).toArray } /\ ord = places.map (fun k => ((es[k]?).getD (0, .none)).2) /\ places.length = es.size /\ ∀k ∈ places, k < es.size) ∨
   (fs=[]/\w.params.followText "set-order"=true/\h.get? I=some (Zv2 (.int 0 0) i a es.size ep)/\ord=(zcr (w.params.setOrder a ep) es).toList.map (·.2)) ∨
   (fs=[]/\w.params.followText "set-order"=false/\(t.plain=true∨es.size<=1)/\t.led=true/\ord=es.toList.map (·.2)/\∃slot:Nat,h.get? I=some (Zv2 (.int slot 0) i a es.size ep)/\Rise t.place/\yak t.place slot=i))
theorem SiAtR.keep {t:zau}{ord:List Value}{fs:List Addr}(x:SiAtR w I a es ep t ord fs i h)(k:∀b∈I::a::fs,∀o,h.get? b=some o->h'.get? b=some o):SiAtR w I a es ep t ord fs i h':=by
 obtain⟨⟨o,n,m⟩,x⟩:=x;refine⟨⟨o,k a (by simp) o n,m⟩,?_⟩;rcases x with ⟨T,d,e,c,g,r⟩ | ⟨e,b,c,r⟩ | ⟨e,b,z,l,r,f,c,j⟩
 ·exact .inl ⟨T,d,e,k I (by simp) _ c,k T (by simp_all) _ g,r⟩
 ·exact .inr (.inl ⟨e,b,k I (by simp) _ c,r⟩)
 ·exact .inr (.inr ⟨e,b,z,l,r,f,k I (by simp) _ c,j⟩)
theorem Xa7 {I a:Addr}{es:Array (Int×Value)}{ep:Nat}{t:zau}{ord:List Value}{fs:List Addr}(hh:A.handled=none)(hf:t.fits es.size=true)(haI:a≠I)(hfI:∀T∈fs,T≠I) :
  Walks P w A I (I::a::fs) [I] es.size (fun i v=>ord[i]?=some v) (SiAtR w I a es ep t ord fs):=by
 have f:∀{h g:Heap} {b:Addr},zal I h g->b≠I->∀o,h.get? b=some o->g.get? b=some o:=fun j p o e=>(j.2 _ p).trans e;refine⟨fun b p=>by grind,fun i h g x k=>x.keep k,fun i s Q E Z x q=>?_,fun s Q E x q=>?_,fun i s Q E x q=>?_⟩
 ·obtain⟨⟨o,n,m⟩,x⟩:=x
  rcases x with ⟨T,c,e,d,G,S,B,y⟩ | ⟨e,b,d,r⟩ | ⟨e,b,z,l,r,u,d,B,y⟩
  ·have Y:c[i]?=some (c[i]'(by omega)):=zb _
   have V:=y _ (zcj (by omega:i < c.length));refine Yg8 d n m hf G Y (hx:=(es[c[i]'(by omega)]'V).1) (x:=(es[c[i]'(by omega)]'V).2) (by simp_all) fun g D j=>?_;refine q _ g s.toks ?_ ⟨⟨o,f j haI _ n,m⟩,.inl ⟨T,c,e,D,f j (hfI T (by simp_all)) _ G,S,B,y⟩⟩ fun b o p e=>f j (by simp_all) _ e
   simp_all
  ·have U:(zcr (w.params.setOrder a ep) es).size=es.size:=by have:=(Zl3 (w.params.setOrder a ep) es).length_eq;omega
   have N:_[i]?=some ((zcr (w.params.setOrder a ep) es)[i]'(by omega)):=zz _;refine Ym5 b d n m hf N fun g D j=>?_;refine q _ g _ ?_ ⟨⟨o,f j haI _ n,m⟩,.inr (.inl ⟨e,b,D,r⟩)⟩ fun b o p e=>f j (by simp_all) _ e
   simp_all
  ·have q0:t.place.size=es.size:=by
    unfold zau.fits at hf
    grind
   have L:t.place[i]?=some (t.place[i]'(by omega)):=zz _;have W:es[i]?=some (es[i]'Z):=zz _;refine Yx0 b d n m hf l z ?_;rw[y,L,W];refine za (zw d (by simp) fun g1 M C=>za (zw M (by simp) fun g2 q1 R=>yb ⟨_,rfl,?_⟩));have j:=C.trans R;refine q _ g2 _ ?_ ⟨⟨o,f j haI _ n,m⟩,.inr (.inr ⟨e,b,z,l,r,_,?_,B,Xe5 B L⟩)⟩ fun b o p e=>f j (by simp_all) _ e
   ·simp_all
   assumption
 ·obtain⟨⟨o,n,m⟩,x⟩:=x
  rcases x with ⟨T,c,e,d,G,S,B,y⟩ | ⟨e,b,d,r⟩ | ⟨e,b,z,l,r,u,d,B,y⟩
  ·exact Ym6 hh d n m hf G (List.getElem?_eq_none (by omega)) fun g F=>q g _ fun b o p e=>F b o (by simp_all) e
  ·have U:(zcr (w.params.setOrder a ep) es).size=es.size:=by have:=(Zl3 (w.params.setOrder a ep) es).length_eq;omega
   exact Yr9 hh b d n m hf (Array.getElem?_eq_none (by omega)) fun g F=>q g _ fun b o p e=>F b o (by simp_all) e
  ·refine Yx0 b d n m hf l z ?_
   have J:es[yak t.place u]?=none:=by
    simp_all
   rw[J];refine za (zw d (by simp) fun g1 M C=>?_);refine Ya3 hh fun g e k ⟨oe,N,hc⟩=>za (ybh ⟨oe,N,hc⟩ zcx ?_);exact yb (q g _ fun b X p F=>k b X ((C.2 b (by simp_all)).trans F))
 ·have O:s.TypeIs (.ref I) "set_iterator":=by
   rcases x.2 with ⟨T,c,e,d,_⟩ | ⟨e,b,d,r⟩ | ⟨e,b,z,l,r,u,d,B,y⟩
   ·exact⟨_,d,rfl⟩
   ·exact⟨_,d,rfl⟩
   ·exact⟨_,d,rfl⟩
  exact wpAny_pyIter_slot O Zw5 (yae Zw5 O Yk2 (id yb ⟨.ref I,rfl,"set_iterator",.builtin "set_iterator.__next__",O,slot_si_next.lookup,q⟩) rfl)
set_option tactic.hygienic true in
theorem Xl9 {o:Obj}{t:zau}{Q:Value->Shared->Prop}(ha:s.heap.get? a=some o)(hx:o.ExactSet)(hd:o.data=.set es ep t)(hf:t.fits es.size=true)(hl:t.led=!(w.params.followText "set-order"))(hp:Rise t.place)(hz:es.size<=zi)(hQ:∀(I:Addr) (fs:List Addr) (ord:List Value) (h':Heap) (d:Drawn),s.heap.objs.size<=I->(∀T∈fs,s.heap.objs.size<=T/\T≠I)->(∀b∈I::fs,b < h'.objs.size)->(∀b o,s.heap.get? b=some o->h'.get? b=some o)->ybj ord (es.toList.map (·.2))->SiAtR w I a es ep t ord fs 0 h'->Q (.ref I) { s with heap:=h',drawn:=d }):
  wpAny (model P w) A (pyIter (.ref a)) Q E s:=by
 have hT:s.TypeIs (.ref a) "set":=⟨o,ha,hx.1⟩;refine wpAny_pyIter_slot hT F.slot_set_iter (yae F.slot_set_iter hT Yd8 ?_ (F.args_set_iter_1 (.ref a)));show wpAny _ _ (zdn.Frozenset.slot0 "__iter__" { pos:=[.ref a] } >>= _) _ _ _;refine za ?_;show wpAny _ _ (zdn.Frozenset.addrOf (.ref a)) _ _ _;refine yb ?_;refine za (za (wpAny_setEntries_of ha hd hf (yb ?_)));refine za ?_;unfold setDrawn;refine za (yap ha hd hf ?_);dsimp only;refine za (za (yat (yb (yb ?_))));dsimp only
 split
 ·rename_i hc
  have hc:(!(w.params.followText "set-order")&&(!t.plain&&decide (es.size > 1)))=true:=hc;refine za (Yf5 es.size (zbt es.size) (by simp) fun ys d hy=>?_)
  have hyl:ys.length=es.size:=by have:=hy.length_eq;simp_all
  refine za (wpAny_newTuple (s:={ s with drawn:=d }) ?_ (by simp_all));dsimp only;have ha1:(s.heap.push { cls:=zaa "tuple",data:=zbx (ydk (fun (i:Nat)=>rawInt ↑i) ys).toArray }).get? a=some o:=ya _ ha;refine za (za (yap (s:={ s with heap:=s.heap.push { cls:=zaa "tuple",data:=zbx (ydk (fun (i:Nat)=>rawInt ↑i) ys).toArray },drawn:=d }) ha1 hd hf (yb ?_)));dsimp only;refine za (yab ?_);generalize hp1:s.heap.push { cls:=zaa "tuple",data:=zbx (ydk _ ys).toArray }=g1 at ha1
  have z1:g1.objs.size=s.heap.objs.size+1:=by rw[<- hp1];exact zbd _ _
  have eT:g1.get? s.heap.objs.size=some { cls:=zaa "tuple",data:=zbx (ydk (fun (i:Nat)=>rawInt ↑i) ys).toArray }:=by rw[<- hp1];exact zh _ rfl
  have k1:∀b o,s.heap.get? b=some o->g1.get? b=some o:=fun b o e=>by rw[<- hp1];exact ya _ e
  have eI:(g1.push (Zv2 (.ref s.heap.objs.size) 0 a es.size ep)).get? _=some _:=zh _ rfl;refine yb ⟨_,rfl,"set_iterator",_,⟨_,eI,rfl⟩,slot_si_next.lookup,?_⟩;refine hQ _ [s.heap.objs.size] _ _ d (by simp_all) (fun T hT=>by simp_all) (fun b hb=>?_) (fun b o e=>ya _ (k1 b o e)) ?_ ⟨⟨o,ya _ ha1,hd⟩,.inl ⟨_,ys,rfl,eI,ya _ eT,rfl,hyl,fun k hk=>by have:=hy.mem_iff.mp hk;simp_all⟩⟩
  ·rw[zbd]
   rcases zd.mp hb with rfl | hb
   ·simp
   ·rw[yf.mp hb]
    rw[z1];exact zcc (by simp)
  ·refine (hy.map _).trans ?_
   have e:ydk (fun k=>(es[k]?.getD (0,yz)).2) (zbt es.size)=es.toList.map (·.2):=by
    apply List.ext_getElem
    ·simp
    simp_all
   rw[e]
 ·rename_i hc
  have hc:¬((!w.params.followText "set-order"&&(!t.plain&&decide _))=true):=hc;refine za (yb (za (za (yap ha hd hf (yb ?_)))));refine za (yab ?_);have eI:(s.heap.push (Zv2 (.int 0 0) 0 a es.size ep)).get? _=some _:=zh _ rfl;refine yb ⟨_,rfl,"set_iterator",_,⟨_,eI,rfl⟩,slot_si_next.lookup,?_⟩
  by_cases hb:w.params.followText "set-order"=true
  ·refine hQ _ [] _ _ _ (by simp) (by simp) (by simp) (fun b o e=>ya _ e) ((Zl3 _ _).map _) ⟨⟨o,ya _ ha,hd⟩,.inr (.inl ⟨rfl,hb,eI,rfl⟩)⟩
  ·have hb':w.params.followText "set-order"=false:=by simp_all
   have hsz:t.plain=true∨es.size<=1:=by
    grind
   refine hQ _ [] _ _ _ (by simp) (by simp) (by simp) (fun b o e=>ya _ e) (.refl _) ⟨⟨o,ya _ ha,hd⟩,.inr (.inr ⟨rfl,hb',hsz,by simp_all,rfl,0,eI,hp,Xe4 hp⟩)⟩
theorem Yv3 {S:Addr}{o:Obj}{t:zau}{R:Result->Shared->Prop}{res:Value}{c₀:Nat}(hh:A.handled=none)(ha:s.heap.get? a=some o)(hx:o.ExactSet)(hd:o.data=.set es ep t)(hf:t.fits es.size=true)(hl:t.led=!(w.params.followText "set-order"))(hp:Rise t.place)(hz:es.size<=zi)(hS:s.heap.get? S=some { cls:=.type "list",data:=.seq #[] c₀ })(hR:∀(h':Heap) (tk:Nat) (d:Drawn) (vs:List Value) (c':Nat),(∀b o,b≠S->s.heap.get? b=some o->h'.get? b=some o)->h'.get? S=some { cls:=.type "list",data:=.seq vs.toArray c' }->ybj vs (es.toList.map (·.2))->R (.ok (.ret res)) { s with heap:=h',toks:=tk,drawn:=d }):
  wpAny (model P w) A.in1 (ydj (.ref S) (.ref a) res) (fun fin s'=>match fin with
   |Fin.done f=>R (.ok f) s'
   |Fin.again c'=>c'.quiet=true/\ycd (model P w) A c' R s') (fun e s'=>R (.error e) s') s:=by
 have hT:s.TypeIs (.ref a) "set":=⟨o,ha,hx.1⟩
 have U:S≠a:=fun z=>by
  grind
 unfold ydj;refine za (wpAny_typeOf hT ?_)
 rw[if_neg (show ¬((zdn.List.listSameRef (.ref S) (.ref a)||zaa "set" == zaa "list"||zaa "set" == zaa "tuple")=true) from by
  rw[show zdn.List.listSameRef (.ref S) (.ref a)=false from by
   show (S == a)=false
   simp_all]
  decide)]
 refine za (Xl9 ha hx hd hf hl hp hz fun I fs ord p d Y u q0 m n D=>?_)
 have Z:ord.length=es.size:=by have:=n.length_eq;simp_all
 have M:a≠I:=yq (zn (zj ha) Y);have V:S≠I:=yq (zn (zj hS) Y)
 have y:S ∉ I::a::fs:=fun z=>by
  rcases zd.mp z with z | z
  ·exact V z
  rcases zd.mp z with z | z
  ·exact U z
  ·exact yq (zn (zj hS) (u S z).1) rfl
 have l:=m S _ hS;have N:({ s with heap:=p,drawn:=d }:Shared).TypeIs (.ref a) "set":=⟨o,m a _ ha,hx.1⟩;have W:=Xa7 (P:=P) (w:=w) (A:=A.in1) (I:=I) (a:=a) (es:=es) (ep:=ep) (t:=t) (ord:=ord) (fs:=fs) hh hf M fun T O=>(u T O).2
 have r:∀(h:Heap) (c₁ tk:Nat),SiAtR w I a es ep t ord fs 0 h->(∀b o,b≠S->s.heap.get? b=some o->h.get? b=some o)->h.get? S=some { cls:=.type "list",data:=.seq #[] c₁ } ->
   ycd (model P w) A (Code.builtin "list.extend.loop" { pos:=[.ref S,.ref I,res] }) R { s with heap:=h,toks:=tk,drawn:=d }:=fun h c₁ tk J hk hS₁ =>
  codeAny_extend_loopS (Walks.toS W) hz S y res es.size 0 { s with heap:=h,toks:=tk,drawn:=d } #[] c₁ rfl (yaq _) J hS₁ (ItemsOf.nil _) fun s' i c' L q1 k=>by
   rw[Moved.eq_with L];refine hR s'.heap s'.toks d i.toList c' (fun b o g e=>L.heap b o (fun C=>?_) (hk b o g e)) (by omega) ?_
   ·rcases zd.mp C with z | z
    ·exact g z
    ·have z':b=I:=yf.mp z
     exact absurd (zj e) (by simp_all)
   ·have e:i.toList=ord:=by
     apply List.ext_getElem?;intro j
     cases q:i.toList[j]? with
     |none =>
      have:i.toList.length<=j:=List.getElem?_eq_none_iff.mp q;rw[List.getElem?_eq_none (by rw[Z];have:=k.1;simp_all)]
     |some v=>exact (k.2 j v (by simpa using q)).symm
    simp_all
 refine za (zap (Xt9 N ?_));refine wpAny_ite_split (fun _=>?_) fun _=>?_
 ·refine za (ybu (za ?_))
  have B:=yaa (ydf fun x=>x.push yz) l rfl;have X:=yaa (ydf fun x=>x.pop) B rfl
  have G:∀b ob,b≠S->p.get? b=some ob->((p.update S (ydf fun x=>x.push yz)).update S (ydf fun x=>x.pop)).get? b=some ob:=fun b ob g e =>
   ((yav _ S _).2 b g).trans (((yav _ S _).2 b g).trans e)
  refine za (zcs l rfl (zcs B rfl ?_));exact yb ⟨ybr F.plain_extend_loop _,r _ _ _ (D.keep fun b g ob e=>G b ob (fun z=>y (z▸g)) e) (fun b ob g e=>G b ob g (m b ob e)) X⟩
 ·exact yb ⟨ybr F.plain_extend_loop _,r p _ _ D (fun b o _ e=>m b o e) l⟩
theorem Yp6 {o:Obj}{t:zau}{Q:List Value->Shared->Prop}(hh:A.handled=none)(ha:s.heap.get? a=some o)(hx:o.ExactSet)(hd:o.data=.set es ep t)(hf:t.fits es.size=true)(hl:t.led=!(w.params.followText "set-order"))(hp:Rise t.place)(hz:es.size<=zi)(hQ:∀(h':Heap) (tk:Nat) (d:Drawn) (vs:List Value),s.heap.objs.size < h'.objs.size->(∀b o,s.heap.get? b=some o->h'.get? b=some o)->ybj vs (es.toList.map (·.2))->Q vs { s with heap:=h',toks:=tk,drawn:=d }):
  wpAny (model P w) A (collect (.ref a)) Q E s:=by
 refine za (wpAny_runValue (ybz entry_proto_collect' ?_));refine za (yab (yb ⟨ybr F.plain_list_iadd _,ybz entry_list_iadd' ?_⟩));have i:(s.heap.push { cls:=zaa "list",data:=zbx ([]:List _).toArray }).get? _=some { cls:=zaa "list",data:=zbx #[] 0 }:=zh _ rfl
 refine Yv3 (s:={ s with heap:=s.heap.push { cls:=zaa "list",data:=zbx ([]:List _).toArray } }) (R:=fun r f=>match r with
  | .ok (.ret v)=>wpAny _ A (match v with
   | .ref a=>do
    let o <- load a
    match o.data with
     | .seq xs _=>pure xs.toList
     | _=>unsupported "internal:collect"
   | _=>unsupported "internal:collect") Q E f
  | .ok _=>False
  | .error e=>E e f) hh (ya _ ha) hx hd hf hl hp hz i fun h' tk d vs j k g c=>?_
 exact za (wpAny_load g (yb (hQ h' tk d vs (zj g) (fun b h e=>k b h (yq (zj e)) (ya _ e)) c)))
end
def SetAtI (P:zf)(w:World)(h:Heap)(a:Addr)(xs:List Int):Prop :=
 ∃o es ep t ys,h.get? a=some o/\o.ExactSet/\o.data=Data.set es ep t/\ElemsOf (zao P w) es.toList/\Paired (fun (e:Int×Value) (x:Int)=>∃tk,e.2=.int x tk) es.toList ys/\ybj ys xs/\xs.Nodup/\es.size < scanBound/\t.fits es.size=true /\
  t.led=!(w.params.followText "set-order")/\Rise t.place
theorem SetAtI.at {P:zf}{xs:List Int}(s:SetAtI P w h a xs)(k:∀o,h.get? a=some o->h'.get? a=some o):SetAtI P w h' a xs:=by
 obtain⟨o,d,e,t,b,c,r⟩:=s;exact⟨o,d,e,t,b,k o c,r⟩
section
variable {P:zf}{E:Value->Shared->Prop}
theorem Yq8 {g:Bool->Sem Unit}(hg:∀(b:Bool) (s₁:Shared) (Q':Unit->Shared->Prop),Q' () s₁->wpAny (model P w) A (g b) Q' E s₁){o:Obj}{t:zau}(ho:s.heap.get? a=some o)(hx:o.ExactSet)(hd:o.data=.set es ep t){es1:Array (Int×Value)}{t2:zau}{zs ys:List Int}(he:ElemsOf (zao P w) es1.toList)(hp:Paired (fun (e:Int×Value) (x:Int)=>∃tk,e.2=.int x tk) es1.toList ys)(hq:ybj ys zs)(hn:zs.Nodup)(hz:es1.size < scanBound)(hf:t2.fits es1.size=true)(hl:t2.led=!(w.params.followText "set-order"))(hpl:Rise t2.place){wasDummy:Bool}{R:Option Bool->Shared->Prop}(hR:∀h',zal a s.heap h'->SetAtI P w h' a zs->R (some true) { s with heap:=h' }):
  wpAny (model P w) A (do
   storeSet a es1 t2
   if (!wasDummy&&t2.tooFull)=true then do
    g (relayAll t2 es1 (zbv es1.size)).2.2
    storeSet a (relayAll t2 es1 (zbv es1.size)).1 (relayAll t2 es1 (zbv es1.size)).2.1
    pure (some true)
   else pure (some true)) R E s:=by
 have j:=SetOf_store ho hx hd he fun k=>by rw[yda] hz hf
 refine za (wpAny_storeSet_of ho hd ?_ (yj (zv hz) (by decide)))
 split
 ·refine za (hg _ _ _ ?_)
  have d:=relayAll_perm t2 es1 (zbv es1.size);have i:=relayAll_fits t2 es1 (zbv es1.size);have m:=Yn0 t2 es1 (zbv es1.size);have f:=Xr8 hpl es1 (zbv es1.size);generalize relayAll t2 es1 _=rr at d i m f;have h:=he.perm d;obtain⟨l,p,n⟩:=Ya9 d.symm hp
  have r  := by have:=d.length_eq;omega
  have c:rr.1.size < scanBound:=by simp_all
  have q:=SetOf_store j.1 hx rfl h fun k=>by rw[yda] c i
  refine za (wpAny_storeSet_of j.1 rfl (yb ?_) (yj (zv c) (by decide)));refine hR _ ((yav _ _ _).trans (yav _ _ _)) ⟨_,rr.1,_,rr.2.1,l,q.1,hx,rfl,h,n,p.symm.trans hq,hn,c,i,m.trans hl,f⟩
 ·refine yb (hR _ (yav _ _ _) ⟨_,es1,_,t2,ys,j.1,hx,rfl,he,hp,hq,hn,hz,hf,hl,hpl⟩)
theorem Ys0 {x:Int}{tk:Tok}{xs:List Int}{Q:Bool->Shared->Prop}(hs:SetAtI P w s.heap a xs)(hz:xs.length+1 < scanBound)(hQ:∀h',zal a s.heap h'->SetAtI P w h' a (if x∈xs then xs else xs++[x])->∀b,Q b { s with heap:=h' }):
  wpAny (model P w) A (setAddHashed a (.int x tk) ((zao P w).hash x)) Q E s:=by
 obtain⟨o,c,ep,t,ys,v,W,p,F,h,g,h7,h8,V,u,N⟩:=hs
 have q5:c.size=xs.length:=by have:=zk h;have:=g.length_eq;simp_all
 have B:byScan (.int x tk) c=true:=by
  unfold byScan;rw[yr,yr];refine⟨⟨rfl,decide_eq_true h8⟩,?_⟩;rw[Array.all_eq_true_iff_forall_mem];intro e d;exact (F e (by simp_all)).2
 have L:(zao P w).is x (.int x tk)=true:=by
  show zck x (.int x tk)=true;simp[zck]
 unfold setAddHashed;refine zap ?_;rw[setAddHashedIn.eq_def];refine za (yap v p V ?_);dsimp only;rw[if_pos B];unfold setAddByScan;refine za (za (ybu (za (wpAny_setScan_of L v p V F ?_))))
 have f:∀e∈c.toList,(zao P w).is x e.2=true->x∈xs:=fun e d D=>by
  obtain⟨j,n,rfl⟩:=zav d;obtain⟨y,U,G,X⟩:=paired_get h (zb n);rw[X] at D
  have q2  := by
   have D:zck x (.int y G)=true:=D;exact (show y=x by simpa [zck] using D).symm
  rw[q2];exact g.mem_iff.mp (yo U)
 have q0:x∈xs->∃e∈c.toList,(zao P w).is x e.2=true:=fun m=>by
  have U  := g.mem_iff.mpr m;obtain⟨j,n,e⟩:=zav U
  have J:j < c.toList.length:=by rw[zk h];omega
  obtain⟨y,I,G,X⟩:=paired_get h (zb J);rw[zb n] at I;cases I;refine⟨_,zcj J,?_⟩;rw[X,e]
  assumption
 cases hf:List.findIdx? _ c.toList with
 |some j =>
  refine yb (yb ?_)
  have m:x∈xs:=by
   obtain⟨n,hp,_⟩:=List.findIdx?_eq_some_iff_getElem.mp hf;exact f _ (zcj n) hp
  have q:=hQ _ (zal.refl _ _) (by rw[if_pos m];exact⟨o,c,ep,t,ys,v,W,p,F,h,g,h7,h8,V,u,N⟩) false;exact q
 |none =>
  have m:x ∉ xs:=fun z=>by
   grind
  rw[if_neg m] at hQ;have l:=layNew_perm t c ((zao P w).hash x) (.int x tk);have T:=layNew_fits t c ((zao P w).hash x) (.int x tk);have S:=Xc8 t c ((zao P w).hash x) (.int x tk);have k:=Xr7 N c ((zao P w).hash x) (.int x tk);generalize layNew t c _ _=r at l T S k;obtain⟨q4,t1,wd,gv⟩:=r
  have C:(c.push ((zao P w).hash x,zcf x tk)).toList=c.toList++[((zao P w).hash x,zcf x tk)]:=by simp
  rw[C] at l
  have M  := ElemsOf.perm (fun e d=>by
   rcases yg.mp d with d | d
   ·exact F e d
   ·rw[yf.mp d]
    exact⟨⟨x,L,rfl⟩,rfl⟩) l
  have q3:Paired _ (c.toList++[((zao P w).hash x,zcf x tk)]) _:=Zg2 h (.cons ⟨tk,rfl⟩ .nil);obtain⟨q6,Z,Y⟩:=Ya9 l.symm q3
  have q7:q4.size=xs.length+1:=by
   have:=l.length_eq
   simp_all
  have nd:(xs++[x]).Nodup:=by
   grind
  refine za ?_;cases gv
  all_goals first | refine yb ?_ | refine ybu ?_
  all_goals (
   by_cases hpl:t1.plain=true
   ·rw[if_pos hpl]
    refine Yq8 (fun b s₁ Q' i=>by cases b<;>first | exact yb i | exact ybu i) v W p M Y (Z.symm.trans (g.append_right _)) nd (by simp_all) T (S.trans u) k fun h' R O=>yb (hQ h' R O _)
   ·rw[if_neg hpl]
    refine Yq8 (fun b s₁ Q' i=>by cases b<;>first | exact yb i | exact ybu i) v W p M Y (Z.symm.trans (g.append_right _)) nd (by simp_all) T (S.trans u) k fun h' R O=>yb (hQ h' R O _))
end
noncomputable def Yg9 (P:zf)(w:World)(a:Addr)(xs:List Int):HO:=.ext fun h=>SetAtI P w h a xs
theorem Yx1 {P:zf}{xs:List Int}(s:SetAtI P w h a xs):ObjOk P w H h a (Yg9 P w a xs):=by
 obtain⟨o,e,f,t,c,b,r⟩:=id s;exact⟨s,⟨o,b⟩,fun b d z k=>SetAtI.at z k⟩
theorem Yx2 {P:zf}{xs:List Int}(ok:HOk P w H h)(e:H a=some (Yg9 P w a xs)):SetAtI P w h a xs:=(ok a _ e).1
theorem Xb6 {P:zf}(e:h.get? a=some (Xh5 w)):SetAtI P w h a [] :=
 ⟨_,#[],0,_,[],e,⟨rfl,rfl,rfl⟩,rfl,fun e b=>by simp_all,.nil,.nil,zcw,by decide,rfl,rfl,Xr6⟩
section
variable {P:zf}{E:Value->Shared->Prop}
theorem Xd9 {x:Int}{tk:Tok}{xs:List Int}{Q:Value->Shared->Prop}(hs:SetAtI P w s.heap a xs)(hz:xs.length+1 < scanBound)(hQ:∀h' tk',zal a s.heap h'->SetAtI P w h' a (if x∈xs then xs else xs++[x])->Q .none { s with heap:=h',toks:=tk' }):
  wpAny (model P w) A (call (.builtin "set.add") [.ref a,.int x tk]) Q E s:=by
 have f:s.TypeIs (.ref a) "set":=by
  obtain⟨o,j,k,t,i,h,g,r⟩:=id hs;exact⟨o,h,g.1⟩
 have c:(zao P w).is x (.int x tk)=true:=by
  show zck x (.int x tk)=true;simp[zck]
 refine yae F.slot_set_add f F.entry_set_add ?_ (F.args_set_add_2 (.ref a) (.int x tk));show wpAny _ _ (zdn.Frozenset.oneOther "add" { pos:=[.ref a,.int x tk] } >>= _) _ _ _;refine za ?_;refine za (yb (yb ?_));exact za (zap (za ((zao P w).pyHash c (Ys0 hs hz fun h' e d b=>yb ⟨_,rfl,hQ h' _ e d⟩))))
end
def Yu0 (P:zf)(w:World)(te:TE)(acc:Addr):TK:=fun σ H N=>te σ H fun y H5=>∃x xs,y=.int x/\H5 acc=some (Yg9 P w acc xs)/\xs.length < 4000/\N (upd H5 acc (Yg9 P w acc (if x∈xs then xs else xs++[x])))
theorem Xi7 {P:zf}{w:World}{elt:Expr}{acc:Addr}(hP:Y.prog=P)(hw:Y.w=w)(he:PE Y elt te):PTn Y (Wf6 elt (.ref acc) Y.env) (Yu0 P w te acc):=by with_unfolding_all
 subst hP hw;intro d s g H N I h;refine za (thn (he d s g H _ I h) fun v F k=>?_);obtain⟨y,M,j,p,x,C,e,c,f,n⟩:=k;subst e;obtain⟨D,rfl⟩:=p;have l:=Yx2 j.hok c;refine za (zco (za (Xd9 l (zn (Nat.add_lt_add_right f 1) (by decide)) fun G i m a=>yb ?_)));obtain⟨o,J,L,t,B,z,r⟩:=id a;have A:=j.write (o:=Yg9 _ Y.w acc _) (t':=i) (by rw[c];exact zbu) (.inl rfl) (fun b u q e=>(m.2 b q).trans e) ⟨o,z⟩ (Yx1 a);exact⟨g,_,A,Wk.refl _,n⟩
section
theorem Wl6 {P:zf}{w:World}{elt tg iter:Expr}{ifs:List Expr}{gs:List zbj}{g:TG}{tk:Addr->TK}(hP:X.prog=P)(hw:X.w=w)(B:X.Ok->BlkOk X scope cl N' nt ci)(hc:X.calm=true)(hi:PI X tg iter wi)(hg:∀s H C ex,PG (blk X N' scope cl s H C ex) tg g)(htn:∀a env,Zq5 (.SetComp elt (⟨tg,iter,ifs,0⟩::gs) scope pos) 0 tg p0 (.ref a) env (body a env))(hb:∀s H C ex a,PTn (blk X N' scope cl s H C ex) (body a (blk X N' scope cl s H C ex).env) (tk a))(hs:∀x,zba iter X.env x=pure x:=by intro _;rfl):
  PE X (.SetComp elt (⟨tg,iter,ifs,0⟩::gs) scope pos) (Zw4 nt ci wi g tk fun a=>Yg9 P w a []):=by with_unfolding_all
 subst hP hw;intro i s v H Q I h;refine Zz3 (B I.ok) hc hi hg rfl (fun _ _=>Wx5) htn hb (fun h=>Wd3 h) rfl (fun H h a e _=>Yx1 (Xb6 e)) hs I h fun d C y u t q c j z=>?_;obtain⟨m,c⟩:=c;obtain⟨r,p,D,n,l,k⟩:=j;exact⟨m,c,fun A f=>⟨.ref d,u,t.turned (fun b o hb e=>(f.2 b hb).trans e) r p n l k,rfl,q⟩⟩
end
section
variable {P:zf}{E:Value->Shared->Prop}
theorem Yu2 {es:List (Int×Value)}{ys:List Int}(h:Paired (fun (e:Int×Value) (x:Int)=>∃tk,e.2=.int x tk) es ys):IntsAre (es.map (·.2)) ys:=by
 induction h with
 |nil=>exact .nil
 |cons hx _ ih =>
  obtain⟨tk,e⟩:=hx;rw[yan,e];exact .cons _ tk ih
theorem Xm4 {ys:List Int}(p:ybj us vs)(h:IntsAre us ys):∃zs,ybj ys zs/\IntsAre vs zs:=by
 induction p generalizing ys with
 |nil=>cases h;exact⟨[],.nil,.nil⟩
 |cons x _ ih =>
  cases h with
  |cons n tk t =>
   obtain⟨zs,f,c⟩:=ih t;exact⟨_::zs,.cons _ f,.cons _ tk c⟩
 |swap x y l =>
  cases h with
  |cons n tk t =>
   cases t with
   |cons n2 tk2 t=>exact⟨_,.swap _ _ _,.cons _ tk2 (.cons _ tk t)⟩
 |trans _ _ ih1 ih2 =>
  obtain⟨i,e,b⟩:=ih1 h;obtain⟨g,d,a⟩:=ih2 b;exact⟨g,e.trans d,a⟩
theorem Yr7 {xs:List Int}{Q:Value->Shared->Prop}(hh:A.handled=none)(st:SetAtI P w s.heap a xs)(h64:xs.length < 64)(hQ:∀(D:Addr) (h':Heap) (tk:Nat) (d:Drawn) (out:List Value) (c:Nat) (ys:List Int),s.heap.objs.size<=D->(∀b o,s.heap.get? b=some o->h'.get? b=some o)->h'.get? D=some { cls:=.type "list",data:=.seq out.toArray c }->IntsAre out ys->ybj ys xs->Q (.ref D) { s with heap:=h',toks:=tk,drawn:=d }):
  wpAny (model P w) A (call (.builtin "sorted") [.ref a]) Q E s:=by
 obtain⟨o,I,T,t,ys,G,F,C,S,r,q,R,O,B,v,u⟩:=st
 have h:I.size=xs.length:=by have:=zk r;have:=q.length_eq;simp_all
 refine Calls.call_function_entry kind_sorted plain_sorted entry_sorted (args_sorted1 (.ref a)) ?_;show wpAny _ _ (pure () >>= _) _ _ _;refine za (yb (za (Yp6 (A:=A.in1) hh G F C B v u (by rw[h];exact yj (zv h64) (by decide)) fun h' tk d j p k f=>?_)));obtain⟨M,y,x⟩:=Xm4 f.symm (Yu2 r)
 have m:j.length=xs.length:=by have:=f.length_eq;grind
 refine za (wpAny_newList ?_ (by rw[m];exact yj (zv h64) (by decide)));have g:(h'.push (seqObj "list" j.toArray 0)).get? h'.objs.size=some (seqObj "list" _ 0):=zh _ rfl;refine za (zap (yae slot_list_sort ⟨_,g,rfl⟩ entry_list_sort (list_sort_tree g x (by simp_all) fun out l L J U=>⟨_,rfl,?_⟩) rfl));obtain⟨c,N⟩:=sortedHeap_at g;refine yb ⟨_,rfl,?_⟩;have n  := zv p
 exact hQ _ _ tk d _ c l n (fun b z e=>by
  have i:=k b z e;rw[sortedHeap_old (yq (zj i)) (by rw[zbd];exact zcc (zj i))]
  exact ya _ i) (by omega) L (J.trans (y.symm.trans q))
end
section
theorem Yk8 {P:zf}{w:World}(hP:X.prog=P)(hw:X.w=w)(hc:X.calm=true):Yq9 X (.builtin "sorted") (fun vs H Q=>∃(a:Addr) (xs:List Int),vs=[.ref a]/\H a=some (Yg9 P w a xs)/\xs.length < 64/\∀l ys,H l=none->ybj ys xs->Q (.ref l) (upd H l (.lst (ys.map V.int)))):=by
 subst hP hw;intro o s A H vs B Q I r h;obtain⟨a,xs,rfl,x,v,q⟩:=h;obtain⟨u,rfl,n⟩:=Yr0 r;cases n;refine Yr7 (I.ok.hd hc) (Yx2 I.hok x) v fun D y C d f c ys e k j t g=>?_;have i  := I.hok.fresh e
 have m:ys.length < 64:=by rw[g.length_eq];omega
 have p:ObjOk X.prog X.w (upd H D (.lst (ys.map V.int))) y D (.lst _):=⟨by rw[yn];exact yj (zv m) (by decide),f,c,Zz4 t,j⟩;exact⟨.ref D,_,I.call (ch:=[]) (Un.laid k e i) (I.hok.laid k e p) I.bare fun b z=>absurd z (by simp),rfl,q D ys i g⟩
end
theorem Wd7 {xs:List V}{acc:Addr}{g:TG}{Q:VK}(Pv:Nat->List V->Hp->Prop)(h0:Pv 0 [] (upd H acc (.lst [])))(hl:∀i ys H2,i<=xs.length->Pv i ys H2->H2 acc=some (.lst ys)/\ys.length < zi/\SqT K H2 a xs)(hs:∀i x ys H2,xs[i]?=some x->Pv i ys H2->∀C:VK,(∀y H5,H5 acc=some (.lst ys)->Pv (i+1) (ys++[y]) (upd H5 acc (.lst (ys++[y])))->C y H5)->g x σ0 H2 fun σ4 H4=>Wk σ0 σ4/\te σ4 H4 C)(hd:∀ys H2,Pv xs.length ys H2->Q (.ref acc) H2):
  ∃W:Nat->Nat->List V->Hp->Prop,(∃m,W 0 m [] (upd H acc (.lst [])))/\lcW K σ0 (Itt K a) acc g te Q W:=by
 refine⟨fun i m ys H2=>m=xs.length - i/\i<=xs.length/\Pv i ys H2,⟨xs.length,by simp,yaq _,h0⟩,?_⟩;rintro i m ys H2 ⟨rfl,d,p⟩;obtain⟨h,f,q⟩:=hl i ys H2 d p;refine⟨h,f,?_⟩
 by_cases hlt:i < xs.length
 ·refine .inr ⟨⟨xs,xs[i],q,by simp⟩,fun x j y=>?_⟩
  obtain⟨e,y⟩:=y;subst e;exact hs i x ys _ (y xs q) p _ fun v H5 c b=>⟨c,xs.length - _,by omega,rfl,hlt,b⟩
 ·have e:i=xs.length:=by omega
  subst e;exact .inl ⟨⟨xs,q,zg _⟩,hd ys H2 p⟩
section
theorem Wc3 {K:W.Frag}{o:Expr}{to:TE}{apos cpos:Pos}{T:String}{r:V->List V->Hp->VK->Prop}(hK:X.K=K)(pa:PlainAttrs T)(slot:Slot T name id)(hty:typeOf (.builtin id)=pure (.type "method_descriptor"))(hm:MtR X id r)(ho:PE X o to)(hbase:zdd o name X.env (eval o X.env)=eval o X.env:=by rfl)(hline:(apos.endLine == cpos.line)=true:=by rfl):PE X (.Call (.Attribute o name apos) [] [] cpos) (tBM0 K T r to):=by
 subst hK;exact Zw7 pa slot hty hm ho hbase hline
end
theorem Xn8 {lo:Int}{n:Nat}{g:TG}{tb:TS}{D:Ends}(Pv:Nat->St->Hp->Prop)(h0:Pv 0 σ H)(hs:∀i σ H,i < n->Pv i σ H->∀N:St->Hp->Prop,(∀σ' H',Pv (i+1) σ' H'->N σ' H')->g (.int (lo - i)) σ H fun σ2 H2=>tb { D with nx:=N,ct:=N,bk:=D.nx } σ2 H2)(hd:∀σ H,Pv n σ H->D.nx σ H):
  ∃W:Nat->Nat->St->Hp->Prop,(∃m,W 0 m σ H)/\∀i m σ H,W i m σ H ->
   ((Itd lo n).stop i H/\D.nx σ H)∨((Itd lo n).go i H/\∃N:St->Hp->Prop,(∀σ' H',N σ' H'->∃m',m' < m/\W (i+1) m' σ' H')/\∀x H',(Itd lo n).yld i H x H'->g x σ H' fun σ2 H2=>tb { D with nx:=N,ct:=N,bk:=D.nx } σ2 H2) :=
 Xu4 Pv h0 (fun i σ H b a=>hs i σ H b a _ fun _ _ z=>z) hd
theorem Xn7 {xs ys:List V}{g:TG}{tb:TS}{D:Ends}(Pv:Nat->St->Hp->Prop)(hxy:xs.length=ys.length)(h0:Pv 0 σ H)(hl:∀i σ H,i<=xs.length->Pv i σ H->SqT K H a xs/\SqL K H b ys)(hs:∀i x y σ H T,i < xs.length->xs[i]?=some x->ys[i]?=some y->H T=none->Pv i σ H->∀N:St->Hp->Prop,(∀σ' H',Pv (i+1) σ' H'->N σ' H')->g (.ref T) σ (upd H T (.tup [x,y])) fun σ2 H2=>tb { D with nx:=N,ct:=N,bk:=D.nx } σ2 H2)(hd:∀σ H,Pv xs.length σ H->D.nx σ H):
  ∃W:Nat->Nat->St->Hp->Prop,(∃m,W 0 m σ H)/\∀i m σ H,W i m σ H ->
   ((ItzX K a b).stop i H/\D.nx σ H)∨((ItzX K a b).go i H/\∃N:St->Hp->Prop,(∀σ' H',N σ' H'->∃m',m' < m/\W (i+1) m' σ' H')/\∀x H',(ItzX K a b).yld i H x H'->g x σ H' fun σ2 H2=>tb { D with nx:=N,ct:=N,bk:=D.nx } σ2 H2) :=
 Xu2 Pv hxy h0 hl (fun i x y σ H T h f e d c=>hs i x y σ H T h f e d c _ fun _ _ z=>z) hd
end L2
namespace Ken
open PySem L2
noncomputable def innV (aT:Nat->Addr):List (Str×V):=[("at",.ref (aT 0)),("pair",.ref (aT 1)),("left",.ref (aT 2)),("right",.ref (aT 3)),("first",.ref (aT 4)),("second",.ref (aT 5)),("cases",.ref (aT 6)),("fun",.ref (aT 7)),("use",.ref (aT 8)),("off",.ref (aT 9))]
def innRow (K:W.Frag)(a:Addr)(r:List (Nat×Nat)):Prop:=∀H,Dn K H (.ref a) (.tuple (r.map fun p=>.tuple [.int (p.1:Nat),.int (p.2:Nat)]))
noncomputable def We7:List (List (Nat×Nat)):=[[],[(1,0),(2,0)],[(1,0)],[(1,0)],[(1,0)],[(1,0)],[(1,0),(2,1),(3,1)],[(2,1)],[(1,0),(2,0)],[(1,0)]]
structure Inn (K:W.Frag)(aT:Nat->Addr):Prop where
 row:∀i r,We7[i]?=some r->innRow K (aT i) r
theorem Yp0 (h:Inn K aT)(t:Te):∃a,(innV aT).lookup t.tag=some (.ref a)/\innRow K a t.inn:=by
 cases t with
 |«at» k=>exact⟨_,rfl,h.row 0 _ rfl⟩
 |one u a ss =>
  cases u
  ·exact⟨_,rfl,h.row 2 _ rfl⟩
  ·exact⟨_,rfl,h.row 3 _ rfl⟩
  ·exact⟨_,rfl,h.row 4 _ rfl⟩
  ·exact⟨_,rfl,h.row 5 _ rfl⟩
  ·exact⟨_,rfl,h.row 9 _ rfl⟩
 |two u a b =>
  cases u
  ·exact⟨_,rfl,h.row 1 _ rfl⟩
  ·exact⟨_,rfl,h.row 8 _ rfl⟩
 |fn s a=>exact⟨_,rfl,h.row 7 _ rfl⟩
 |cs a b c=>exact⟨_,rfl,h.row 6 _ rfl⟩
theorem innRow.sq {r:List (Nat×Nat)}(h:innRow K a r)(H:Hp):∃xs,SqT K H a xs/\xs.length=r.length/\∀(i p m:Nat),r[i]?=some (p,m)->∃b,xs[i]?=some (V.ref b)/\SqT K H b [.int (p:Nat),.int (m:Nat)]:=by
 obtain⟨t,xs,e,f,c⟩:=dn_tup.mp (h H);cases e;refine⟨xs,f,by rw[DnAll.length c,yn],fun i p m e=>?_⟩;obtain⟨u,s,n⟩:=Yp4 c (by rw[yba,e];rfl);obtain⟨b,o,rfl,q,d⟩:=dn_tup.mp n;obtain⟨x,r,rfl,l,k⟩:=Ze9 d;obtain⟨y,r,rfl,j,g⟩:=Ze9 k;rw[Xy1] at l j;rw[DnAll] at g
 simp_all
noncomputable abbrev RP:=Hp->Pf->V->Prop
inductive sp_ofp (J:Hp->Prop)(R:RP)(p0:Pf):Sp
 |mk {vs H Q E:_} (n:Nat) (p:Pf) (l:Addr) (us:List V):vs=[.int (n:Nat),.ref l]->J H->(preP p0)[n]?=some p->H l=some (.lst us)->Paired (fun u k=>R H k u) us (Zi4 p)->(∀(r:V) (H':Hp),Same H H'->R H' p r->Q r H')->sp_ofp J R p0 vs H Q E
theorem opq {P:(St->Hp->Prop)->Prop}{I:St->Hp->Prop}(h:∀N:St->Hp->Prop,(∀σ' H',I σ' H'->N σ' H')->P N):∃N:St->Hp->Prop,(∀σ' H',N σ' H'->I σ' H')/\P N:=⟨I,fun _ _ z=>z,h I fun _ _ z=>z⟩
theorem Xl4 {p:Pf}{k:Te}(h:p.1.kids[i]?=some (k,m)):(Zi4 p)[i]?=some (k,p.2+m):=by
 unfold Zi4
 simp_all
end Ken
namespace Hd
open PySem PySem.W PySem.Calls PySem.Spec PyProof.Rows L2
noncomputable def We6:Value->Option Int
 | .int i _=>some i
 | _=>none
noncomputable def Wk7:Value->Option Addr
 | .ref a=>some a
 | _=>none
noncomputable def Zz0 (K:Frag)(v:Value):Option (Value×Nat×List (Option Int)):=match v with
 | .ref a=>(match K.lookup a with
  |some ⟨c,_,.seq vs _,_⟩=>some (c,vs.toList.length,vs.toList.map We6)
  | _=>none)
 | _=>none
noncomputable def Yh0 (K:Frag)(v:Value):Option (Value×Nat×List (Option (Value×Nat×List (Option Int)))):=match v with
 | .ref a=>(match K.lookup a with
  |some ⟨c,_,.seq vs _,_⟩=>some (c,vs.toList.length,vs.toList.map (Zz0 K))
  | _=>none)
 | _=>none
noncomputable abbrev InD:=Value×Option Addr×Array (Option Value)×Bool×List (Int×Option Str×Option (Value×Nat×List (Option (Value×Nat×List (Option Int)))))
noncomputable def inSeen (K:Frag)(x:Str):Option InD:=match Zj8 K x with
 |some (a,⟨c,od,.dict es _,sl⟩)=>some (c,od,sl,a == zaw,es.toList.map fun e=>(e.hash,Zv1 e.key,Yh0 K e.val))
 | _=>none
noncomputable def Yi3 (p:Nat×Nat):Option (Value×Nat×List (Option Int)):=some (.type "tuple",2,[some (p.1:Int),some (p.2:Int)])
noncomputable def Ys2 (r:List (Nat×Nat)):Option (Value×Nat×List (Option (Value×Nat×List (Option Int)))):=some (.type "tuple",r.length,r.map Yi3)
noncomputable def inWant (P:Params)(kvs:List (Str×List (Nat×Nat))):Option InD:=some (.type "dict",none,#[],false,kvs.map fun kv=>(zas P kv.1,some kv.1,Ys2 kv.2))
noncomputable def innK:List (Str×List (Nat×Nat)):=[("at",[]),("pair",[(1,0),(2,0)]),("left",[(1,0)]),("right",[(1,0)]),("first",[(1,0)]),("second",[(1,0)]),("cases",[(1,0),(2,1),(3,1)]),("fun",[(2,1)]),("use",[(1,0),(2,0)]),("off",[(1,0)])]
set_option tactic.hygienic true in
theorem Wc5 {p:Nat×Nat}(e:Zz0 K v=Yi3 p):∃b,v=.ref b/\∀H,SqT K H b [.int (p.1:Nat),.int (p.2:Nat)]:=by
 unfold Zz0 at e
 split at e
 ·rename_i a
  split at e
  ·rename_i c od vs n sl h
   have e:=zu e;simp only[ycc] at e;obtain⟨rfl,e2,e3⟩:=e;refine⟨a,rfl,fun H=>.inr ⟨_,vs,n,h,rfl,rfl,?_,?_⟩⟩
   ·rw[ybe] at e2
    rw[e2];decide
   ·match hv:vs.toList,e2,e3 with
    | [x,y],_,e3 =>
     have f1:=(yy e3).1;have f2:=(yy (yy e3).2).1;refine .cons ?_ (.cons ?_ .nil)
     ·unfold We6 at f1;split at f1
      ·cases f1;exact⟨_,rfl⟩
      simp_all
     ·unfold We6 at f2;split at f2
      ·cases f2;exact⟨_,rfl⟩
      simp_all
  ·cases e
 ·cases e
theorem Yy2:∀{r:List (Nat×Nat)} {vs:List Value},vs.map (Zz0 K)=r.map Yi3->∃xs:List V,Vals xs vs/\∀H,DnAll K H xs (r.map fun p=>.tuple [.int (p.1:Nat),.int (p.2:Nat)])
 | [],[],_=>⟨[],.nil,fun H=>Ken.dnAll_nil⟩
 | [],_::_,e=>by cases e
 | _::_,[],e=>by cases e
 |p::r,v::vs,e=>by
  obtain⟨b,rfl,hb⟩:=Wc5 (yy e).1;obtain⟨xs,h1,h2⟩:=Yy2 (yy e).2;exact⟨.ref b::xs,.cons rfl h1,fun H=>Ken.dnAll_cons (Ken.dn_tup.mpr ⟨b,_,rfl,hb H,Ken.dnAll_cons rfl (Ken.dnAll_cons rfl Ken.dnAll_nil)⟩) (h2 H)⟩
set_option tactic.hygienic true in
theorem Wk5 {r:List (Nat×Nat)}(hr:r.length<=zi)(e:Yh0 K v=Ys2 r):∃b,v=.ref b/\Ken.innRow K b r:=by
 unfold Yh0 at e
 split at e
 ·rename_i a
  split at e
  ·rename_i c od vs n sl h
   have e:=zu e;simp at e;obtain⟨rfl,e2,e3⟩:=e;obtain⟨xs,h1,h2⟩:=Yy2 e3;refine⟨a,rfl,fun H=>Ken.dn_tup.mpr ⟨a,xs,rfl,.inr ⟨_,vs,n,h,rfl,rfl,?_,h1⟩,h2 H⟩⟩
   simp_all
  ·cases e
 ·cases e
theorem Xm7:∀{kvs:List (Str×List (Nat×Nat))} {es:List zbz},(∀kv∈kvs,kv.2.length<=zi)->es.map (fun e=>(e.hash,Zv1 e.key,Yh0 K e.val))=kvs.map (fun kv=>(zas w.params kv.1,some kv.1,Ys2 kv.2)) ->
  ∃bs:List Addr,bs.length=kvs.length/\Paired (fun (p:Str×V) (e:zbz)=>(∃tk,e.key=.str p.1 tk)/\e.hash=zas w.params p.1/\RelV p.2 e.val) (ybp (fun kv b=>(kv.1,V.ref b)) kvs bs) es/\∀(i:Nat) (kv:Str×List (Nat×Nat)) (b:Addr),kvs[i]?=some kv->bs[i]?=some b->Ken.innRow K b kv.2
 | [],[],_,_=>⟨[],rfl,.nil,fun i kv b h=>by simp⟩
 | [],_::_,_,h=>by cases h
 | _::_,[],_,h=>by cases h
 |kv::kvs,e::es,hs,h=>by
  have q1:=(yy h).1;simp at q1;obtain⟨q3,q4,q5⟩:=q1;obtain⟨b,e1,hb⟩:=Wk5 (hs _ (.head _)) q5;obtain⟨bs,h1,h2,h3⟩:=Xm7 (fun kv m=>hs kv (.tail _ m)) (yy h).2;refine⟨b::bs,congrArg _ h1,.cons ⟨Zs5 q4,q3,e1⟩ h2,fun i kv' b' z1 z2=>?_⟩
  cases i with
  |zero=>simp_all
  |succ i=>exact h3 i kv' b' z1 z2
set_option tactic.hygienic true in
theorem in_of (e:inSeen K x=inWant w.params innK):∃(a:Addr) (aT:Nat->Addr),nsIn K ye x=some (some (.ref a))/\KDict K w a (Ken.innV aT)/\Ken.Inn K aT:=by
 unfold inSeen at e
 split at e
 ·rename_i a c od es n sl h
  obtain⟨h1,h2⟩:=Yn1 h;have e:=zu e;simp only[ycc] at e;obtain⟨rfl,rfl,rfl,e4,e6⟩:=e;obtain⟨bs,l1,l2,l3⟩:=Xm7 (by decide) e6;refine⟨a,fun i=>bs.getD i 0,h1,⟨⟨_,es,n,h2,⟨rfl,rfl,rfl⟩,rfl,?_⟩,?_,e4⟩,⟨fun i r hr=>?_⟩⟩
  ·match bs,l1,l2 with
   | [b0,b1,b2,b3,b4,b5,b6,b7,b8,b9],_,l2=>exact l2
  ·show (["at","pair","left","right","first","second","cases","fun","use","off"]:List Str).Nodup
   decide
  ·have hi  := (yc.mp hr).1
   have hb:i < bs.length:=by rw[l1];exact hi
   have ek:∃kv,innK[i]?=some kv/\kv.2=r:=by
    have:(innK.map (·.2))[i]?=some r:=hr
    simp_all
   obtain⟨kv,z1,rfl⟩:=ek;refine l3 i kv _ z1 ?_;simp[hb]
 ·cases e
noncomputable def Wu8 (h:Heap):List Addr:=match nsIn (pick h [ye]) ye "INNER" with
 |some (some (.ref a))=>a::(match h.get? a with
  |some ⟨_,_,.dict es _,_⟩=>es.toList.flatMap fun e=>(match e.val with
   | .ref b=>b::(match h.get? b with
    |some ⟨_,_,.seq vs _,_⟩=>vs.toList.filterMap Wk7
    | _=>[])
   | _=>[])
  | _=>[])
 | _=>[]
end Hd
namespace L2
open PySem PySem.Spec PyProof.Rows
structure SameV (ts:List Addr)(H H':Hp):Prop where
 toT:SameT H H'
 off:∀b o,b ∉ ts->H b=some o->H' b=some o
 has:∀b o,H b=some o->∃o',H' b=some o'
theorem SameV.trans (a:SameV ts H H1)(b:SameV ts H1 H2):SameV ts H H2 :=
 ⟨a.toT.trans b.toT,fun c o n h=>b.off c o n (a.off c o n h),fun c o h=>let ⟨o',h'⟩:=a.has c o h;b.has c o' h'⟩
theorem SameV.mono {ts':List Addr}(a:SameV ts H H')(h:∀b∈ts,b∈ts'):SameV ts' H H' :=
 ⟨a.toT,fun c o n e=>a.off c o (fun z=>n (h c z)) e,a.has⟩
theorem Same.toV (a:Same H H'):SameV ts H H':=⟨a.toT,fun c o _ h=>a c o h,fun c o h=>⟨o,a c o h⟩⟩
theorem SameU.toV {P:Addr}(a:SameU P H H'):SameV [P] H H':=⟨a.toT,fun c o n h=>a.off c o (fun z=>n (by simp_all)) h,fun c o h=>by
 by_cases z:c=P
 ·subst z;exact a.tab o h
 ·exact⟨o,a.off c o z h⟩⟩
theorem SameV.free (a:SameV ts H H')(h:H' l=ydp):H l=ydp:=by
 cases e:H l with
 |none=>rfl
 |some o =>
  obtain⟨b,c⟩:=a.has l o e
  grind
theorem SameV.write {o:HO}(e:SameV ts H0 H)(h:H0 l=ydp):SameV ts H0 (upd H l o):=by
 have a:∀{b u},H0 b=some u->b≠l:=fun {b u} q z=>by grind
 refine⟨fun b u n q=>?_,fun b u n q=>?_,fun b u q=>?_⟩
 ·rw[Za9 (a q)];exact e.toT b u n q
 ·rw[Za9 (a q)];exact e.off b u n q
 ·obtain⟨c,d⟩:=e.has b u q
  exact⟨c,by rw[Za9 (a q)];omega⟩
theorem SameV.tab (a:SameV ts H H')(n:T ∉ ts)(h:TabOk H T ds):TabOk H' T ds:=by
 obtain⟨b,i,g,f⟩:=h;exact⟨b,a.off _ _ n i,g,fun d c j e=>(f d c j e).keep a.toT⟩
theorem SameV.back (h:SameV ts (remX xs H) H2):SameV ts H (Zs0 xs H H2):=by
 refine⟨fun b o n e=>?_,fun b o n e=>?_,fun b o e=>?_⟩
 ·by_cases z:b∈xs.map (·.1)
  ·rw[Zl2 z];exact e
  ·rw[Ze5 z];exact h.toT b o n (by rw[Zd2 z];exact e)
 ·by_cases z:b∈xs.map (·.1)
  ·rw[Zl2 z];exact e
  ·rw[Ze5 z];exact h.off b o n (by rw[Zd2 z];exact e)
 ·by_cases z:b∈xs.map (·.1)
  ·exact⟨o,by rw[Zl2 z];exact e⟩
  ·rw[Ze5 z];exact h.has b o (by rw[Zd2 z];exact e)
def Xy6 (xs:List (Addr×Obj))(ds:List (Pos×Str)):Prop:=∀p∈xs,∀vs q t,p.2.data=.fields vs->vs[1]?=some (.str q t)->∀d∈ds,d.2≠q
theorem TabOk.rem (hx:∀p∈xs,H p.1=some (FZ p.2))(hn:Xy6 xs ds)(h:TabOk H T ds):TabOk (remX xs H) T ds:=by
 obtain⟨l,r,q,m⟩:=h
 have g:∀{b u},H b=some u->(∀p∈xs,b=p.1->u≠FZ p.2)->b ∉ xs.map (·.1):=fun {b u} e n z=>by
  obtain⟨p,a,rfl⟩:=zax.mp z;rw[hx p a] at e;exact n p a rfl (zu e).symm
 refine⟨l,by rw[Zd2 (g r fun _ _ _ z=>nomatch z)];omega,q,fun d i w e=>?_⟩;obtain⟨c,o,f,t,v,s,k,j⟩:=m d i w e;refine⟨c,o,f,t,v,?_,k,j⟩;rw[Zd2 (g s fun p a _ z=>?_)]
 ·omega
 ·cases z
  exact hn p a f d.2 t k j d i rfl
theorem TabOk.back (hx:∀p∈xs,H2 p.1=none)(h:TabOk H2 T ds):TabOk (Zs0 xs H H2) T ds:=by
 obtain⟨g,l,k,j⟩:=h
 have a:∀{b:Addr} {u:HO},H2 b=some u->b ∉ xs.map (·.1):=fun {b u} e z=>by
  grind
 refine⟨g,by rw[Ze5 (a l)];omega,k,fun d i s e=>?_⟩;obtain⟨c,o,f,t,r,q,n,m⟩:=j d i s e;exact⟨c,o,f,t,r,by rw[Ze5 (a q)];omega,n,m⟩
theorem TabOk.put {o o':HO}(e:H l=some o)(n1:∀ps,o≠.tbl ps)(n2:∀b,o≠FZ b)(h:TabOk H T ds):TabOk (upd H l o') T ds:=by
 obtain⟨ps,q,i,g⟩:=h;refine⟨ps,by rw[Za9 (fun z=>n1 ps (by simp_all))];omega,i,fun d f p n=>?_⟩;obtain⟨c,b,a,t,m,r,k,j⟩:=g d f p n;exact⟨c,b,a,t,m,by rw[Za9 (fun z=>n2 b (by simp_all))];omega,k,j⟩
theorem FnFz.objs2 (h:FnFz H f name qual (Zd4 st) (Zc8 st) (Za3 st) cl):
  ∃(o1:Obj) (c:Addr) (o2:Obj),(∀p∈[(f,o1),(c,o2)],H p.1=some (FZ p.2))/\(∀p∈[(f,o1),(c,o2)],∀its n,p.2.data≠.seq its n)/\(∀ds:List (Pos×Str),(∀d∈ds,d.2≠qual)->Xy6 [(f,o1),(c,o2)] ds) /\
   ∀K:W.Frag,(∀p∈[(f,o1),(c,o2)],K.lookup p.1=some p.2)->∃fd,FunC K name qual st cl f fd:=by
 obtain⟨g,i,r,z,y,c,o,v,t,rfl,x,m,l⟩:=h;refine⟨{ cls:=.type "function",data:=.func (W.fnX name qual (Zd4 st) (Zc8 st) (Za3 st) cl .none .none g i none (.ref c) r) },c,o,?_,?_,?_,fun K e=>?_⟩
 rotate_right
 ·have a:=e _ zak ..
  have b:=e _ (zo _ zak ..);exact⟨_,⟨_,_,g,i,_,r,_,rfl,a,Yp8 b m l⟩,Zo7 a⟩
 ·simp_all
 ·simp_all
 ·intro ds k p j u q w a b d s
  simp at j;rcases j with rfl | rfl
  ·cases a
  ·rw[m] at a
   cases a;rw[l] at b;cases b;exact k d s
theorem FunC.le (k:KLe K K'){fd:zc}(F:FunC K x qual st cl f fd):FunC K' x qual st cl f fd:=by
 obtain⟨⟨j,i,d,h,g,l,a,e,b,c⟩,m⟩:=F;exact⟨⟨j,i,d,h,g,l,a,e,k _ _ b,Yc7 k c⟩,by exact Zo7 (k _ _ b)⟩
theorem Caught.le (k:KLe K K')(C:Caught K sc cl fv frv):Caught K' sc cl fv frv :=
 ⟨C.len,fun i x v b a=>let ⟨c,o,u,g1,g2,g3,g4⟩:=C.cell i x v b a;⟨c,o,u,g1,k _ _ g2,g3,g4⟩,fun x c e=>let ⟨o,v,g1,g2⟩:=C.all x c e;⟨o,v,k _ _ g1,g2⟩,C.inj,C.has⟩
theorem Wc7 {K:W.Frag}(e:X.K=K)(hu:X.A.units+150 < cLine):OpR X (yai .Eq) (rEqD K false):=e▸Xj6 hu
theorem KDict.le {kvs:List (Str×V)}(k:KLe K K')(h:KDict K w a kvs):KDict K' w a kvs:=by
 obtain⟨⟨o,e,f,d,r⟩,c,b⟩:=h;exact⟨⟨o,e,f,k _ _ d,r⟩,c,b⟩
theorem KLe.trans {K1 K2:W.Frag}(a:KLe K K1)(b:KLe K1 K2):KLe K K2:=fun c o h=>b c o (a c o h)
end L2
namespace Ken
open PySem L2
theorem Zr4 {α β γ:Type}{F:α->β->Prop}{G:α->γ->Prop}{f:β->γ}(h:∀x y,F x y->G x (f y)):∀{l:List α} {m:List β},Paired F l m->Paired G l (m.map f)
 | _,_,.nil=>.nil
 | _,_,.cons a t=>.cons (h _ _ a) (Zr4 h t)
theorem Xg7 {t:Te}(h:t.tag="at"):∃k,t=.at k:=by
 cases t with
 |«at» k=>simp
 |one u a ss=>exact absurd (show u.str="at" from h) (by cases u<;>decide)
 |two u a b=>exact absurd (show u.str="at" from h) (by cases u<;>decide)
 |fn s a=>exact absurd (show ("fun":Str)="at" from h) (by decide)
 |cs a b c=>exact absurd (show ("cases":Str)="at" from h) (by decide)
theorem Yj5:∀{ss:List Tm},(∀s∈ss,s.ok)->zcd (ss.map Tm.data)=true
 | [],_=>rfl
 |s::ss,h=>by
  show (s.data.canLay0&&zcd _)=true;rw[s.lay (h s zak),Yj5 fun x hx=>h x (zo _ hx)];rfl
theorem Te.lay:∀{t:Te},t.all Tm.ok->t.data.canLay0=true
 | .at k,_=>by
  show zdl "at"&&(true&&true)=true;decide +kernel
 | .one u a ss,h=>by
  show (zdl _&&(a.data.canLay0&&zcd _))=true;rw[Te.lay h.1,Yj5 h.2]
  cases u<;>decide +kernel
 | .two u a b,h=>by
  show (zdl _&&(a.data.canLay0&&(b.data.canLay0&&true)))=true;rw[Te.lay h.1,Te.lay h.2]
  cases u<;>decide +kernel
 | .fn s a,h=>by
  show (zdl "fun"&&(s.data.canLay0&&(a.data.canLay0&&true)))=true;rw[s.lay h.1,Te.lay h.2];decide +kernel
 | .cs a b c,h=>by
  show (zdl "cases"&&(a.data.canLay0&&(b.data.canLay0&&(c.data.canLay0&&true))))=true;rw[Te.lay h.1,Te.lay h.2.1,Te.lay h.2.2];decide +kernel
theorem Wu3 (k:Nat):(Te.at k).data.canLay0=true:=Te.lay trivial
theorem Wt0 {t:Te}{f:Nat}:yaw t.data (Te.at f).data=decide (t=.at f):=by
 cases t with
 |«at» k =>
  show zae [.str "at",.int k] [.str "at",.int f]=_
  have e:zae [.str "at",.int k] [.str "at",.int f]=((k:Int) == f):=by simp[zae,yaw]
  rw[e]
  by_cases h:k=f
  ·simp_all
  ·rw[decide_eq_false (by simp_all)]
   exact beq_eq_false_iff_ne.mpr (by omega)
 |one u a ss =>
  have e:yaw (Te.one u a ss).data (Te.at f).data=false:=by
   show zae _ [.str "at",.int f]=false
   have n:¬u.str="at":=by cases u<;>decide
   simp[zae,yaw,n]
  simp_all
 |two u a b =>
  have e:yaw (Te.two u a b).data (Te.at f).data=false:=by
   show zae [.str _,a.data,b.data] [.str "at",.int f]=false;simp[zae]
  grind
 |fn s a =>
  rfl
 |cs a b c =>
  rfl
noncomputable def Te.bnd:Te->Nat
 | .at _=>1
 | .one _ a _=>a.bnd
 | .two _ a b=>max a.bnd b.bnd
 | .fn _ a=>1+a.bnd
 | .cs a b c=>max a.bnd (1+max b.bnd c.bnd)
theorem Yl0:∀t:Te,1<=t.bnd
 | .at _=>zg _
 | .one _ a _=>Yl0 a
 | .two _ a b=>by show 1<=max _ _;have:=Yl0 a;omega
 | .fn _ a=>by show 1<=1+a.bnd;omega
 | .cs a b c=>by show 1<=max _ _;omega
theorem Zj0:∀{t:Te} {f:Nat} {p:Pf},p∈t.pre f->p.2 < f+t.bnd
 | .at k,f,p,h=>by rcases yf.mp h with rfl;show f < f+1;omega
 | .one u a ss,f,p,h=>by
  show p.2 < f+a.bnd;rcases zd.mp h with rfl | h
  ·have:=Yl0 a;omega
  ·have:=Zj0 h;omega
 | .two u a b,f,p,h=>by
  show p.2 < f+max _ _;rcases zd.mp h with rfl | h
  ·have:=Yl0 a;omega
  ·rcases yg.mp h with h | h
   ·have:=Zj0 h;omega
   ·have:=Zj0 h;omega
 | .fn s a,f,p,h=>by
  show p.2 < f+(1+a.bnd);rcases zd.mp h with rfl | h
  ·omega
  ·have:=Zj0 h;omega
 | .cs a b c,f,p,h=>by
  show p.2 < f+max _ _;rcases zd.mp h with rfl | h
  ·omega
  ·rcases yg.mp h with h | h
   ·have:=Zj0 h;omega
   ·rcases yg.mp h with h | h
    ·have:=Zj0 h;omega
    ·have:=Zj0 h;omega
theorem Zm6 {q:Tm->Prop}:∀{t:Te} {f:Nat} {p:Pf},t.all q->p∈t.pre f->p.1.all q
 | .at k,f,p,h0,h=>by rcases yf.mp h with rfl;omega
 | .one u a ss,f,p,h0,h=>by
  rcases zd.mp h with rfl | h
  ·omega
  ·exact Zm6 h0.1 h
 | .two u a b,f,p,h0,h=>by
  rcases zd.mp h with rfl | h
  ·omega
  ·rcases yg.mp h with h | h
   ·exact Zm6 h0.1 h
   ·exact Zm6 h0.2 h
 | .fn s a,f,p,h0,h=>by
  rcases zd.mp h with rfl | h
  ·omega
  ·exact Zm6 h0.2 h
 | .cs a b c,f,p,h0,h=>by
  rcases zd.mp h with rfl | h
  ·omega
  ·rcases yg.mp h with h | h
   ·exact Zm6 h0.1 h
   ·rcases yg.mp h with h | h
    ·exact Zm6 h0.2.1 h
    ·exact Zm6 h0.2.2 h
theorem Yz1:∀{xs ws:List Int},xs.Nodup->(∀x∈xs,x∈ws)->xs.length<=ws.length
 | [],_,_,_=>yaq _
 |x::xs,ws,nd,h=>by
  have hx:=h x zak;have ih:=Yz1 (yaf.mp nd).2 fun y hy=>(List.mem_erase_of_ne (show y≠x from fun z=>(yaf.mp nd).1 (by simp_all))).mpr (h y (zo _ hy));have:=List.length_erase_of_mem hx;have  := List.length_pos_of_mem hx;rw[zac];omega
theorem Zw8:∀r:List (Nat×Nat),noLists (r.map fun p=>PyData.tuple [.int (p.1:Nat),.int (p.2:Nat)])=true
 | []=>rfl
 |p::r=>by rw[yan,noLists,Zw8 r];rfl
theorem innRow.le (k:KLe K K'){r:List (Nat×Nat)}(h:innRow K a r):innRow K' a r:=fun H =>
 Dn.moveT (fun _ _ z=>SqT.le k z) (by exact Zw8 r) (h H)
theorem Inn.le (k:KLe K K')(h:Inn K aT):Inn K' aT:=⟨fun i r e=>(h.row i r e).le k⟩
noncomputable abbrev JP:=W.Frag->Hp->Prop
structure JOk (J:JP):Prop where
 keep:∀K H H',SameT H H'->J K H->J K H'
 inn:∀K K' H xs,(∀p∈xs,H p.1=some (FZ p.2))->KLe K K'->J K H->J K' (remX xs H)
theorem Xt5 {kvs:List (Key×V)}(h:H l=some (.dK kvs)):KeepT K H (upd H l o):=fun a c q=>by
 rcases q with (q | ⟨b,q⟩) | q
 ·exact .inl (.inl (by rw[Za9 (Yt3 q h (by simp))];exact q))
 ·exact .inl (.inr ⟨b,by rw[Za9 (Yt3 q h (by simp))];exact q⟩)
 ·exact .inr q
noncomputable def U5.ar:U5->Nat
 | .left=>0
 | .right=>0
 | _=>1
def okW (ws:List Str)(s:Tm):Prop:=s.inW ws/\s.parts<=60
def Te.fine (ws:List Str):Te->Prop
 | .at _=>True
 | .one u a ss=>a.fine ws/\ss.length=u.ar/\∀s∈ss,okW ws s
 | .two _ a b=>a.fine ws/\b.fine ws
 | .fn s a=>okW ws s/\a.fine ws
 | .cs a b c=>a.fine ws/\b.fine ws/\c.fine ws
theorem Te.fine.ok (hw:∀w∈ws,Word w):∀{t:Te},t.fine ws->t.all Tm.ok
 | .at _,_=>trivial
 | .one u a ss,h=>⟨Te.fine.ok hw h.1,fun s hs=>(h.2.2 s hs).1.ok hw⟩
 | .two _ a b,h=>⟨Te.fine.ok hw h.1,Te.fine.ok hw h.2⟩
 | .fn s a,h=>⟨h.1.1.ok hw,Te.fine.ok hw h.2⟩
 | .cs a b c,h=>⟨Te.fine.ok hw h.1,Te.fine.ok hw h.2.1,Te.fine.ok hw h.2.2⟩
theorem Zh9:∀{t:Te} {f:Nat},(t.mp (Zl5 n) f).deep=t.deep
 | .at k,f=>rfl
 | .one u a ss,f=>by show 1+(a.mp (Zl5 n) f).deep=1+a.deep;rw[Zh9]
 | .two u a b,f=>by show 1+max (a.mp _ f).deep (b.mp _ f).deep=_;rw[Zh9,Zh9];rfl
 | .fn s a,f=>by show 1+(a.mp (Zl5 n) (f+1)).deep=1+a.deep;rw[Zh9]
 | .cs a b c,f=>by show 1+max (a.mp _ f).deep _=_;rw[Zh9,Zh9,Zh9];rfl
theorem Zh8:∀{t:Te} {f:Nat},(t.mp (Zl5 n) f).size=t.size
 | .at k,f=>rfl
 | .one u a ss,f=>by show 1+(a.mp (Zl5 n) f).size=1+a.size;rw[Zh8]
 | .two u a b,f=>by show 1+(a.mp _ f).size+(b.mp _ f).size=_;rw[Zh8,Zh8];rfl
 | .fn s a,f=>by show 1+(a.mp (Zl5 n) (f+1)).size=1+a.size;rw[Zh8]
 | .cs a b c,f=>by show 1+(a.mp _ f).size+(b.mp _ _).size+(c.mp _ _).size=_;rw[Zh8,Zh8,Zh8];rfl
theorem Zj2:∀{t:Te} {f:Nat},t.fine ws->(t.mp (Zl5 n) f).fine ws
 | .at k,f,_=>trivial
 | .one u a ss,f,h=>⟨Zj2 h.1,h.2⟩
 | .two u a b,f,h=>⟨Zj2 h.1,Zj2 h.2⟩
 | .fn s a,f,h=>⟨h.1,Zj2 h.2⟩
 | .cs a b c,f,h=>⟨Zj2 h.1,Zj2 h.2.1,Zj2 h.2.2⟩
section
variable {v:V}
theorem isE_atV {k:Nat}:IsE K H v (.at k)↔∃p,v=.ref p/\SqT K H p [.str "at",.int (k:Nat)]:=by
 constructor
 ·rintro⟨p,f,rfl,a,g⟩
  obtain⟨x,r,rfl,e,d⟩:=Ze9 (by assumption);obtain⟨y,r,rfl,c,b⟩:=Ze9 d;rw[Wt4] at e;rw[Xy1] at c;rw[DnAll] at b
  simp_all
 ·rintro⟨p,rfl,a⟩
  exact⟨p,_,rfl,a,dnAll_cons rfl (dnAll_cons rfl dnAll_nil)⟩
theorem isE_oneV {u:U5}{a:Te}{ss:List Tm}:IsE K H v (.one u a ss)↔∃p x rs,v=.ref p/\SqT K H p (.str u.str::x::rs)/\IsE K H x a/\DnAll K H rs (ss.map Tm.data):=by
 constructor
 ·rintro⟨p,g,rfl,b,h⟩
  obtain⟨x,r,rfl,d,c⟩:=Ze9 (by assumption);obtain⟨y,r,rfl,f,e⟩:=Ze9 c;subst d;exact⟨p,y,r,rfl,b,f,e⟩
 ·rintro⟨p,x,rs,rfl,b,d,c⟩
  exact⟨p,_,rfl,b,dnAll_cons rfl (dnAll_cons d c)⟩
theorem isE_twoV {u:U2}{a b:Te}:IsE K H v (.two u a b)↔∃p x y,v=.ref p/\SqT K H p [.str u.str,x,y]/\IsE K H x a/\IsE K H y b:=by
 constructor
 ·rintro⟨p,j,rfl,c,k⟩
  obtain⟨x,r,rfl,e,d⟩:=Ze9 (by assumption);obtain⟨y,r,rfl,i,h⟩:=Ze9 d;obtain⟨z,r,rfl,g,f⟩:=Ze9 h;subst e f;exact⟨p,y,z,rfl,c,i,g⟩
 ·rintro⟨p,x,y,rfl,c,e,d⟩
  exact⟨p,_,rfl,c,dnAll_cons rfl (dnAll_cons e (dnAll_cons d dnAll_nil))⟩
theorem isE_fnV {s:Tm}{a:Te}:IsE K H v (.fn s a)↔∃p x y,v=.ref p/\SqT K H p [.str "fun",x,y]/\IsT K H x s/\IsE K H y a:=by
 constructor
 ·rintro⟨p,j,rfl,b,e⟩
  obtain⟨x,r,rfl,d,c⟩:=Ze9 (e);obtain⟨y,r,rfl,i,h⟩:=Ze9 c;obtain⟨z,r,rfl,g,f⟩:=Ze9 h;subst d f;exact⟨p,y,z,rfl,b,i,g⟩
 ·rintro⟨p,x,y,rfl,b,d,c⟩
  exact⟨p,_,rfl,b,dnAll_cons rfl (dnAll_cons d (dnAll_cons c dnAll_nil))⟩
theorem isE_csV {a b c:Te}:IsE K H v (.cs a b c)↔∃p x y z,v=.ref p/\SqT K H p [.str "cases",x,y,z]/\IsE K H x a/\IsE K H y b/\IsE K H z c:=by
 constructor
 ·rintro⟨p,o,rfl,d,i⟩
  obtain⟨x,r,rfl,g,f⟩:=Ze9 (i);obtain⟨y,r,rfl,e,n⟩:=Ze9 f;obtain⟨z,r,rfl,m,l⟩:=Ze9 n;obtain⟨h,r,rfl,k,j⟩:=Ze9 l;subst g j;exact⟨p,y,z,h,rfl,d,e,m,k⟩
 ·rintro⟨p,x,y,z,rfl,d,g,f,e⟩
  exact⟨p,_,rfl,d,dnAll_cons rfl (dnAll_cons g (dnAll_cons f (dnAll_cons e dnAll_nil)))⟩
theorem We4 {k:Nat}(h:SqT K H p [.str "at",.int (k:Nat)]):IsE K H (.ref p) (.at k):=isE_atV.mpr ⟨p,rfl,h⟩
theorem Wi2 {xs:List V}:SqT K (upd H p (.tup xs)) p xs:=.inl (.inl Za5)
theorem nw1 {xs:List V}{J:Hp}(h:H p=none)(e:upd H p (.tup xs)=J):Same H J:=e▸Za6 h _
theorem nw2 {xs:List V}{J:Hp}(e:upd H p (.tup xs)=J):SqT K J p xs:=e▸Wi2
end
theorem cut2 (a b:V)(rs:List V):cutV (a::b::rs) (some 2) none=rs:=by
 unfold cutV;rw[show (2:Int)=((2:Nat)) from rfl,HT.sIx_nat,HT.sIx_none,show min 2 (a::b::rs).length=2 by simp];simp
theorem Xv1 (a b:V)(rs:List V):¬(HT.sIx (a::b::rs).length 0 (some 2)=0/\HT.sIx (a::b::rs).length (a::b::rs).length none=(a::b::rs).length):=fun h=>by
 have c:=h.1;rw[show (2:Int)=((2:Nat)) from rfl,HT.sIx_nat,show min 2 (a::b::rs).length=2 by simp] at c
 grind
theorem Zh1:∀t:Tm,t.deep<=t.parts
 | .low=>zg _
 | .ltr _=>zg _
 | .nd _ a b=>by
  show 1+max _ _<=1+a.parts+b.parts;have:=Zh1 a;have:=Zh1 b;omega
theorem Wr7 {t:Te}{k:Te}(hf:t.fine ws)(h:t.kids[i]?=some (k,m)):k.fine ws/\k.deep < t.deep:=by
 have d:=yo h
 cases t with
 |«at» k0=>cases d
 |one u a ss =>
  rw[(ym (yf.mp d)).1];exact⟨hf.1,by show a.deep < 1+a.deep;omega⟩
 |two u a b =>
  rcases zd.mp d with d | d
  ·rw[(ym d).1];exact⟨hf.1,by show a.deep < 1+max _ _;omega⟩
  ·rw[(ym (yf.mp d)).1];exact⟨hf.2,by show b.deep < 1+max _ _;omega⟩
 |fn s a =>
  rw[(ym (yf.mp d)).1];exact⟨hf.2,by show a.deep < 1+a.deep;omega⟩
 |cs a b c =>
  rcases zd.mp d with d | d
  ·rw[(ym d).1];exact⟨hf.1,by show a.deep < 1+max _ _;omega⟩
  ·rcases zd.mp d with d | d
   ·rw[(ym d).1];exact⟨hf.2.1,by show b.deep < 1+max _ _;omega⟩
   ·rw[(ym (yf.mp d)).1];exact⟨hf.2.2,by show c.deep < 1+max _ _;omega⟩
inductive sp_lsize (K:W.Frag):Sp
 |mk {vs H Q E:_} (v:V) (t:Tm):vs=[v]->IsT K H v t->t.ok->t.parts<=400->(∀H',Same H H'->Q (.int (t.parts:Nat)) H')->sp_lsize K vs H Q E
noncomputable def dB (m:Nat):Nat:=2+3*(m - 1)
noncomputable def sB (m:Nat):Nat:=[2,2,14,18,30,34,54,58,66,74,78,82,122,126,130,134,142,146,190,194,198,202,206,210,262].getD m 262
theorem Zz2:∀m:Nat,m<=24->2<=m->2+dB (m - 1)<=dB m/\2+dB (m / 2)<=dB m/\3+dB (m / 3)<=dB m/\4<=dB m/\2<=dB (m - 1)/\2<=dB (m / 3)/\2<=dB (m / 2):=by decide
theorem Zy2:∀m:Nat,m<=24->2<=m->4+sB (m - 1)<=sB m/\2+2*sB (m / 2)<=sB m/\8+sB (m / 2)+2*sB (m / 3)<=sB m/\8<=sB m:=by decide
theorem Wa7:∀m:Nat,m<=10->sB m<=78:=by decide
theorem Xv0:∀m:Nat,m<=24->dB (m / 3)<=29:=by decide
theorem Wx7:∀m:Nat,m<=10->dB m<=29:=by decide
theorem Wt8:∀m:Nat,m<=24->2<=dB m/\2<=sB m:=by decide
noncomputable def Tm.tagS:Tm->Str
 | .low=>"low"
 | .ltr _=>"letter"
 | .nd k _ _=>k.str
theorem Yj7 {v:V}{g:Tm}(h:IsT K H v g):∃p xs,v=.ref p/\SqT K H p xs/\atI xs 0=some (.str g.tagS):=by
 cases g with
 |low=>obtain⟨p,rfl,c⟩:=isT_low.mp h;exact⟨p,_,rfl,c,rfl⟩
 |ltr x=>obtain⟨p,rfl,c⟩:=isT_ltr.mp h;exact⟨p,_,rfl,c,rfl⟩
 |nd k a b=>obtain⟨p,x,y,rfl,c,_⟩:=isT_nd.mp h;exact⟨p,_,rfl,c,rfl⟩
theorem Yr1 {g:Tm}{k:Kd}(h:g.tagS=k.str):∃a b,g=.nd k a b:=by
 cases g with
 |low=>exact absurd (by omega) (by cases k<;>decide)
 |ltr x=>exact absurd (show ("letter")=k.str from h) (by cases k<;>decide)
 |nd k' a b=>exact⟨a,b,by rw[Kd.str_inj (h)]⟩
end Ken
namespace L2
open PySem PySem.Spec PyProof.Rows
end L2
namespace Ken
open PySem L2 PyProof.Rows
end Ken
namespace L2
open PySem PySem.Spec PyProof.Rows
end L2
namespace Ken
open PySem L2
end Ken
namespace L2
open PySem PySem.Spec PyProof.Rows
end L2
namespace Ken
open PySem L2 PyProof.Rows
end Ken
namespace L2
open PySem
theorem Xo9 {xs:List V}{g:TG}{tk:TK}{Q:Hp->Prop}(Pv:Nat->Hp->Prop)(h0:Pv 0 H)(hl:∀i H,i<=xs.length->Pv i H->SqL K H a xs)(hs:∀i x H T (N:Hp->Prop),xs[i]?=some x->H T=none->Pv i H->(∀H',Pv (i+1) H'->N H')->g (.ref T) σ0 (upd H T (.tup [.int i,x])) fun σ4 H4=>Wk σ0 σ4/\tk σ4 H4 N)(hd:∀H,Pv xs.length H->Q H):
  ∃W:Nat->Nat->Hp->Prop,(∃m,W 0 m H)/\Xp0 σ0 (Ite K a) g tk Q W:=by
 refine⟨fun i m H=>m=xs.length - i/\i<=xs.length/\Pv i H,⟨xs.length,by simp,yaq _,h0⟩,?_⟩;rintro i m H ⟨rfl,d,p⟩;have q:=hl i H d p
 by_cases hlt:i < xs.length
 ·refine .inr ⟨⟨xs,xs[i],q,by simp⟩,fun x H' y=>?_⟩
  obtain⟨T,x,rfl,f,rfl,b⟩:=y;exact hs i x _ T _ (b xs q) f p fun h c=>⟨xs.length - _,by omega,rfl,hlt,c⟩
 ·have e:i=xs.length:=by omega
  subst e;exact .inl ⟨⟨xs,q,zg _⟩,hd _ p⟩
end L2
namespace Ken
open PySem L2
end Ken
namespace Ken
noncomputable def topI:Option Int->List Int->Option Int
 |b,[]=>b
 |none,x::xs=>topI (some x) xs
 |some y,x::xs=>topI (some (if x > y then x else y)) xs
end Ken
namespace L2
open PySem PySem.Spec PyProof.Rows
def tKIn (kvs:List (Str×V))(ti:TE):TE:=fun σ H Q=>ti σ H fun y H1=>∃x,y=.str x/\Q (.bl (kvs.lookup x).isSome) H1
def Yr3 (K:W.Frag)(ta td:TE):TE:=fun σ H Q=>ta σ H fun v H1=>td σ H1 fun y H2=>∃(a:Addr) (ns:List Int) (d:Int),v=.ref a/\y=.int d/\SqL K H2 a (ns.map V.int)/\Q (.int ((Ken.topI none ns).getD d)) H2
end L2
namespace Ken
open PySem
def endV (d:Value):Option Int->Value->Prop
 |none,r=>r=d
 |some b,r=>∃k,r=.int b k
theorem Wx9 (a d:Value):argsOk "max" ⟨[a],[("default",d)]⟩:=by rfl
section
variable {prog:zf}{R:Result->Shared->Prop}{wr:List Addr}{P:Nat->Value->Prop}{St:Nat->Heap->Prop}
theorem Xk4 (wk:Walks prog w A.in1 it fp wr n P St){val:Nat->Int}(hval:∀i v,P i v->∃t,v=.int (val i) t){d:Value}(nB:B ∉ fp):
  ∀(m i:Nat) (y:Int) (ty:Tok) (t:Shared) (c:Nat),i+m=n->St i t.heap->t.heap.get? B=some { cls:=.type "list",dict:=none,data:=.seq #[.int y ty,.int y ty] c,slots:=#[] } ->
   (∀r h' tk,endV d (topI (some y) ((List.range' i m).map val)) r->(∀b o,b ∉ wr->b≠B->t.heap.get? b=some o->h'.get? b=some o)->R (.ok (.ret r)) { t with heap:=h',toks:=tk }) ->
   ycd (model prog w) A (.builtin "max.loop" ⟨[.ref it,.none,.ref B],[("default",d)]⟩) R t:=by
 have N:B ∉ wr:=fun z=>nB (wk.sub _ z)
 have X:(zde "max"++zde ".loop":String)="max.loop":=by decide
 have W:=CmpOf.ints_gt (prog:=prog) (w:=w) (A:=A.in1) val hval;intro m
 induction m with
 |zero =>
  intro i y ty t c e G u q
  obtain rfl:i=n:=by omega
  refine ybz F.entry_max_loop (zce zbi _▸?_);refine za (yao u rfl (za (ycx (wk.done t _ _ G fun h' tk k=>?_))));refine za (zcs (k B _ N u) rfl (za (ydi (yb ?_))));exact q _ _ tk ⟨ty,rfl⟩ fun a o f h g=>(yw _ _ (zbe h)).trans (k a o f g)
 |succ m ih =>
  intro i y ty t c e G u q;refine ybz F.entry_max_loop (zce zbi _▸?_);refine za (yao u rfl (za (ycx (wk.item i t _ _ (by omega) G fun v h' tk S x k=>?_))));have s:=k B _ N u;obtain⟨M,rfl⟩:=hval i v S
  have V:∀(D C:Tok) (s1:Shared) (Q:Value->Shared->Prop) (E:Value->Shared->Prop),Q (.bool (decide (val i > y))) s1->wpAny (model prog w) A.in1 (richCompare .Gt (.int (val i) D) (.int y C)) Q E s1:=fun D C s1 Q E U =>
   CmpOf.ints_gt (P:=fun j v=>(j=0/\v=.int (val i) D)∨(j=1/\v=.int y C)) (fun j=>if j=0 then val i else y) (fun j v T=>by rcases T with ⟨rfl,rfl⟩ | ⟨rfl,rfl⟩<;>exact⟨_,rfl⟩) 0 1 _ _ s1 Q E (.inl ⟨rfl,rfl⟩) (.inr ⟨rfl,rfl⟩) U
  refine za (yb (za (ycx (zap (za (V M ty _ _ _ (za (zap (yaz (za (ydi (yb ?_))))))))))));have O:topI (some y) ((List.range' i (m+1)).map val)=topI (some (if val i > y then val i else y)) _:=rfl;rw[O] at q
  by_cases l:val i > y
  ·rw[decide_eq_true l]
   rw[if_pos l] at q;refine za (zcs s rfl (za (ydi ?_)));refine yb ⟨ybr zbi _,ih _ _ M _ _ (by omega) (wk.frame _ _ _ x fun b l o g=>(yw _ _ fun z:B=b=>nB (z▸l)).trans g) (yaa _ s rfl) fun r L p J I=>?_⟩;exact q r L p J fun b o f h g=>I b o f h ((yw _ _ (zbe h)).trans (k b o f g))
  ·rw[decide_eq_false l]
   rw[if_neg l] at q;refine za (ydi ?_);exact yb ⟨ybr zbi _,ih _ y ty _ c (by omega) x s fun r L p J I=>q r L p J fun b o f h g=>I b o f h (k b o f g)⟩
theorem Xc2 (wk:Walks prog w A.in1 it fp wr n P St){val:Nat->Int}(hval:∀i v,P i v->∃t,v=.int (val i) t){d:Value}(nB:B ∉ fp){t:Shared}{c:Nat}(st:St 0 t.heap)(hB:t.heap.get? B=some { cls:=.type "list",dict:=none,data:=.seq #[] c,slots:=#[] })(q:∀r h' tk,endV d (topI none ((List.range' 0 n).map val)) r->(∀b o,b ∉ wr->b≠B->t.heap.get? b=some o->h'.get? b=some o)->R (.ok (.ret r)) { t with heap:=h',toks:=tk }):
  ycd (model prog w) A (.builtin "max.loop" ⟨[.ref it,.none,.ref B],[("default",d)]⟩) R t:=by
 have p  := fun z=>nB (wk.sub _ z);refine ybz F.entry_max_loop (zce zbi _▸za (yao hB rfl ?_))
 cases n with
 |zero =>
  exact za (ycx (wk.done t _ _ st fun h' tk f=>za (ybu (yb (q d h' tk rfl fun b o e _ a=>f b o e a)))))
 |succ m =>
  refine za (ycx (wk.item 0 t _ _ (by simp) st fun v h' tk u j f=>?_));have g:=f B _ p hB;obtain⟨l,rfl⟩:=hval 0 v u;refine za (yb (za (zcs g rfl ?_)));refine yb ⟨ybr zbi _,Xk4 wk hval nB m 1 _ l _ _ (by omega) (wk.frame _ _ _ j fun b y o a=>(yw _ _ fun z:B=b=>nB (z▸y)).trans a) (yaa _ g rfl) fun r C h x s=>?_⟩;exact q r C h x fun b o e k a=>s b o e k ((yw _ _ (zbe k)).trans (f b o e a))
theorem Yt6 {E:Value->Shared->Prop}{xs:Array (Int×Tok)}{d:Value}{Q:Value->Shared->Prop}(hh:A.handled=none)(hl:s.heap.IsList l (intItems xs))(q:∀r h' tk,endV d (topI none (xs.toList.map (·.1))) r->(∀b o,s.heap.get? b=some o->h'.get? b=some o)->Q r { s with heap:=h',toks:=tk }):
  wpAny (model prog w) A (call (.builtin "max") [.ref l] [("default",d)]) Q E s:=by
 refine wpAny_call (codeAny_call_builtin F.plain_max F.entry_max ?_)
 have j:wpAny (model prog w) A.in1 (zdn.max ⟨[.ref l],[("default",d)]⟩) (fun k a=>match k with
   | .done f=>(match (Except.ok f) with | .ok (.ret v)=>Q v a | .ok _=>False | .error e=>E e a)
   | .again c=>c.quiet=true/\ycd (model prog w) A c (fun r a=>match r with | .ok (.ret v)=>Q v a | .ok _=>False | .error e=>E e a) a) E s:=by
  refine za (zbc rfl (za (yb (za (iter_intList hl fun y e m h p=>?_)))));subst e;refine za (yab ?_);have g:=Walks.list (prog:=prog) (w:=w) (A:=A.in1) hh _ l p (intItems xs);refine yb ⟨ybr zbi _,Xc2 g (fun _ _=>intItems_at) (fun x=>Nat.lt_irrefl _ (h _ x)) (g.frame _ _ _ m fun b _ o e=>ya _ e) (zh _ rfl) fun r h' tk z u=>?_⟩;refine q r h' tk ?_ (old_kept fun b o t e=>u b o t (yq (zj e)) (ya _ e))
  have B:(List.range' 0 (intItems xs).size).map (numAt xs)=xs.toList.map (·.1):=by
   apply List.ext_getElem?;intro i
   by_cases hi:i < xs.size
   ·simp[intItems,numAt,hi]
   ·simp[intItems,hi]
  simp_all
 cases hs:Manifest.signature? "max" with
 |none=>exact yb j
 |some sg =>
  have n:Bind.checkArgs "max" sg ⟨[.ref l],[("default",d)]⟩=pure ():=by simpa only[argsOk,hs] using Wx9 _ d
  simp[n];exact yb j
end
end Ken
namespace L2
open PySem PySem.Spec PyProof.Rows Ken
section
theorem Xx7:∀{ns:List Int} {us:List Value},Vals (ns.map V.int) us->∃xs:List (Int×Tok),us=xs.map (fun p=>zcf p.1 p.2)/\xs.map (·.1)=ns
 | [],_,r=>by cases r;exact⟨[],rfl,rfl⟩
 |n::ns,_,r=>by
  cases r with
  |cons h t =>
   obtain⟨tk,rfl⟩:=h;obtain⟨xs,rfl,e⟩:=Xx7 t;exact⟨(n,tk)::xs,rfl,by simp_all⟩
theorem Wc0 {K:W.Frag}{e d:Expr}{td:TE}{p kp:Pos}(hK:X.K=K)(hc:X.calm=true)(hg:Gl X "max")(hm:X.mg "max"=none)(ha:PE X e te)(hd:PE X d td)(he:zx [e] X.env=[(false,eval e X.env)]:=by rfl):PE X (.Call (.Name "max" p) [e] [⟨some "default",d,kp⟩] pos) (Yr3 K te td):=by with_unfolding_all
 subst hK;intro c s i H Q I h;refine yar (Zq3 I hg hm Ken.boot_max ?_ (by decide) (by decide));have n:PA X [e] (Zx5 te tNil):=Za0 ha Za1 he
 refine callWith_kw (thn (n pos c s i H (fun l m=>match l with
  | [v]=>td i m fun y g=>∃(a:Addr) (ns:List Int) (d:Int),v=.ref a/\y=.int d/\SqL X.K g a (ns.map V.int)/\Q (.int ((Ken.topI none ns).getD d)) g
  | _=>False) I h) fun us s1 ⟨l,m,I1,r1,q1⟩=>?_) (by rw[he];rfl) (by rw[he];rfl)
 match l,r1,q1 with
 | [v],r1,q1 =>
  obtain⟨A,rfl,t⟩:=Yr0 r1;refine kws_cons (thn (hd c s1 i m _ I1 q1) fun u s2 ⟨y,g,I2,r2,a,ns,d0,ev,ey,hq,q⟩=>kws_nil ?_);subst ev ey;cases t;obtain⟨C,rfl⟩:=r2;obtain⟨z,o,w,F⟩:=I2.list hq;obtain⟨j,rfl,ex⟩:=Xx7 o
  have x:intItems j.toArray=(j.map fun p=>zcf p.1 p.2).toArray:=by simp[intItems]
  refine Yt6 (I2.ok.hd hc) (by rw[x];exact w.isList) fun r G B f k=>?_;rw[show j.toArray.toList.map _=ns by omega] at f
  cases et:topI _ ns with
  |none =>
   rw[et] at f q;subst f;exact⟨.int d0,g,I2.kept k,⟨_,rfl⟩,q⟩
  |some b =>
   rw[et] at f q;obtain⟨D,rfl⟩:=f;exact⟨.int b,g,I2.kept k,⟨_,rfl⟩,q⟩
theorem Wm3 {kvs:List (Str×V)}{i:Expr}{ti:TE}{p:Pos}(D:KDict X.K X.w a kvs)(hg:Gl X name)(hm:X.mg name=some (.ref a))(hi:PE X i ti)(hd:(name == ("__debug__":Str))=false:=by decide):
  PC X .In i (.Name name p) (tKIn kvs ti):=by with_unfolding_all
 intro b s e H Q I h;refine thn (hi b s e H _ I h) fun r q f=>?_;obtain⟨y,n,c,g,x,l,j⟩:=f;subst l;refine Zo6 c hg hm ?_ hd;obtain⟨o,d,m⟩:=D.of c;refine wpAny_in_of (Yt8 (k:=zbl x) g) D.ns m.mapOf ?_;rw[<- (d.val _).isSome_eq,Yw3];exact⟨.bl _,n,c.tok _,rfl,j⟩
end
noncomputable abbrev TBs:=List (Addr×List (Pos×Str))
def Tabs (H:Hp)(tb:TBs):Prop:=∀x∈tb,TabOk H x.1 x.2
theorem Tabs.keep {tb:TBs}(h:Tabs H tb)(e:Same H H'):Tabs H' tb:=fun x a=>(h x a).keep e
theorem Tabs.put {tb:TBs}{xs:List V}{o:HO}(h:Tabs H tb)(e:H l=some (.lst xs)):Tabs (upd H l o) tb:=fun x a=>TabOk.put e (by simp) (by simp) (h x a)
theorem SameV.nil (h:SameV [] H H'):Same H H':=fun b o e=>h.off b o (by simp) e
theorem FnOk.sub {P:zf}{base:Heap}{k:Nat}{fd:zc}{sp':Sp}(F:FnOk P w K mg base CX k f fd ps sp)(h:∀vs H Q E,sp' vs H Q E->sp vs H Q E):FnOk P w K mg base CX k f fd ps sp' :=
 ⟨fun vs H Q E x=>F.len vs H Q E (h vs H Q E x),fun A e s H i g vs Q E a b c d x=>F.run A _ s H _ g vs Q E a b c d (h vs H Q E x)⟩
end L2
namespace Ken
open PySem L2
noncomputable def numP:Nat->List Pf->List (Nat×Pf)
 | _,[]=>[]
 |n,p::ps=>(n,p)::numP (n+p.1.size) ps
theorem Yx8 (p:Pf):(preP p).length=p.1.size:=Zg0 p.1 p.2
theorem Yy4:∀{a b:List Pf} {n:Nat},numP n (a++b)=numP n a++numP (n+(a.flatMap preP).length) b
 | [],b,n=>rfl
 |p::a,b,n=>by
  show (n,p)::numP _ (a++b)=(n,p)::(numP _ a++_);rw[Yy4,zaq,yd,Yx8,Nat.add_assoc]
theorem Yi8:∀{ps:List Pf} {n:Nat},(numP n ps).map (·.2)=ps
 | [],n=>rfl
 |p::ps,n=>by show p::(numP _ ps).map (·.2)=_;rw[Yi8]
theorem Yy3 {ps:List Pf}:(numP n ps).length=ps.length:=by
 have:=congrArg ybq (Yi8 (ps:=ps) (n:=n))
 simp_all
theorem Xh4 (p:Pf):p.1.size=1+((Zi4 p).flatMap preP).length:=by
 rw[<- Yx8,Zr3,zac];omega
noncomputable abbrev RPn:=Hp->Nat->Pf->V->Prop
inductive sp_ofpN (tb:TBs)(J:Hp->Prop)(R:RPn)(p0:Pf):Sp
 |mk {vs H Q E:_} (n:Nat) (p:Pf) (l:Addr) (us:List V):vs=[.int (n:Nat),.ref l]->J H->Tabs H tb->(preP p0)[n]?=some p->H l=some (.lst us)->Paired (fun u (k:Nat×Pf)=>R H k.1 k.2 u) us (numP (n+1) (Zi4 p))->(∀(r:V) (H':Hp),SameV (tb.map (·.1)) H H'->Tabs H' tb->R H' n p r->Q r H')->sp_ofpN tb J R p0 vs H Q E
theorem Ye7 {α β γ:Type}{F:α->γ->Prop}{g:β->γ}:∀{l:List α} {m:List β},Paired (fun u k=>F u (g k)) l m->Paired F l (m.map g)
 | _,_,.nil=>.nil
 | _,_,.cons a t=>.cons a (Ye7 t)
noncomputable def Te.turns:Te->Bool
 | .one .left (.two .pair _ _) _=>true
 | .one .right (.two .pair _ _) _=>true
 | .two .use (.fn _ _) _=>true
 | .cs (.one .first _ _) _ _=>true
 | .cs (.one .second _ _) _ _=>true
 | _=>false
noncomputable def Te.itself:Te->Te
 | .one .left (.two .pair a _) _=>a
 | .one .right (.two .pair _ b) _=>b
 | .two .use (.fn _ b) o=>b.mp (putF o) 0
 | .cs (.one .first a _) b _=>b.mp (putF a) 0
 | .cs (.one .second a _) _ c=>c.mp (putF a) 0
 |t=>t
noncomputable def Te.tpm (m:Nat):Te->Nat->Te
 | .at k,n=>if n=m then (Te.at k).itself else .at k
 | .one u a ss,n=>if n=m then (Te.one u a ss).itself else .one u (a.tpm m (n+1)) ss
 | .two u a b,n=>if n=m then (Te.two u a b).itself else .two u (a.tpm m (n+1)) (b.tpm m (n+1+a.size))
 | .fn s a,n=>if n=m then (Te.fn s a).itself else .fn s (a.tpm m (n+1))
 | .cs a b c,n=>if n=m then (Te.cs a b c).itself else .cs (a.tpm m (n+1)) (b.tpm m (n+1+a.size)) (c.tpm m (n+1+a.size+b.size))
theorem Yw6:∀t:Te,t.tpm m m=t.itself
 | .at k=>if_pos rfl
 | .one _ _ _=>if_pos rfl
 | .two _ _ _=>if_pos rfl
 | .fn _ _=>if_pos rfl
 | .cs _ _ _=>if_pos rfl
theorem Xq4 (h:n≠m)(p:Pf):p.1.tpm m n=p.1.withK ((numP (n+1) (Zi4 p)).map fun k=>k.2.1.tpm m k.1):=by
 obtain⟨t,f⟩:=p
 cases t with
 |«at» k=>exact if_neg h
 |one u a ss=>exact if_neg h
 |two u a b=>exact if_neg h
 |fn s a=>exact if_neg h
 |cs a b c=>exact if_neg h
theorem size_pos:∀t:Te,1<=t.size
 | .at _=>zg _
 | .one _ a _=>ycj _ _
 | .two _ a b=>by show 1<=1+a.size+b.size;omega
 | .fn _ a=>ycj _ _
 | .cs a b c=>by show 1<=1+a.size+b.size+c.size;omega
theorem Zh4:∀{t:Te} {n:Nat},(m < n∨n+t.size<=m)->t.tpm m n=t
 | .at k,n,h=>if_neg (by have:m < n∨n+1<=m:=h;omega)
 | .one u a ss,n,h=>by
  have h:m < n∨n+(1+a.size)<=m:=h;refine (if_neg (by omega)).trans ?_;rw[Zh4 (by omega)]
 | .two u a b,n,h=>by
  have h:m < n∨n+(1+a.size+b.size)<=m:=h;refine (if_neg (by omega)).trans ?_;rw[Zh4 (by omega),Zh4 (by omega)]
 | .fn s a,n,h=>by
  have h:m < n∨n+(1+a.size)<=m:=h;refine (if_neg (by omega)).trans ?_;rw[Zh4 (by omega)]
 | .cs a b c,n,h=>by
  have h:m < n∨n+(1+a.size+b.size+c.size)<=m:=h;refine (if_neg (by omega)).trans ?_;rw[Zh4 (by omega),Zh4 (by omega),Zh4 (by omega)]
noncomputable def idxT:Nat->List Pf->List Nat
 | _,[]=>[]
 |n,p::ps=>(if p.1.turns then [n] else [])++idxT (n+1) ps
theorem Zu1:∀{a b:List Pf} {n:Nat},idxT n (a++b)=idxT n a++idxT (n+a.length) b
 | [],b,n=>rfl
 |p::a,b,n=>by
  show _++idxT _ (a++b)=(_++idxT _ a)++_;rw[Zu1,yam,zac,show n+1+a.length=n+(a.length+1) by omega]
theorem Yj9:∀{a:List Pf} {n:Nat},(idxT n a).length<=a.length
 | [],n=>zg _
 |p::a,n=>by
  show (_++idxT _ a).length<=a.length+1;have:=Yj9 (a:=a) (n:=n+1)
  split<;>simp<;>omega
noncomputable def Te.paths:Te->List Nat->List (List Nat)
 | .at _,_=>[]
 | .one u a ss,π=>(if (Te.one u a ss).turns then [π] else [])++a.paths (π++[1])
 | .two u a b,π=>(if (Te.two u a b).turns then [π] else [])++(a.paths (π++[1])++b.paths (π++[2]))
 | .fn s a,π=>a.paths (π++[2])
 | .cs a b c,π=>(if (Te.cs a b c).turns then [π] else [])++(a.paths (π++[1])++(b.paths (π++[2])++c.paths (π++[3])))
noncomputable def Te.tat:Te->List Nat->Te
 |t,[]=>t.itself
 | .one u a ss,1::π=>.one u (a.tat π) ss
 | .two u a b,1::π=>.two u (a.tat π) b
 | .two u a b,2::π=>.two u a (b.tat π)
 | .fn s a,2::π=>.fn s (a.tat π)
 | .cs a b c,1::π=>.cs (a.tat π) b c
 | .cs a b c,2::π=>.cs a (b.tat π) c
 | .cs a b c,3::π=>.cs a b (c.tat π)
 |t,_=>t
def Te.okp:Te->List Nat->Prop
 |t,[]=>t.turns=true
 | .one u a ss,1::π=>a.okp π
 | .two u a b,1::π=>a.okp π
 | .two u a b,2::π=>b.okp π
 | .fn s a,2::π=>a.okp π
 | .cs a b c,1::π=>a.okp π
 | .cs a b c,2::π=>b.okp π
 | .cs a b c,3::π=>c.okp π
 | _,_=>False
def Corr (t:Te)(n:Nat)(π:List Nat)(m:Nat)(q:List Nat):Prop:=∃ρ,q=π++ρ/\t.tpm m n=t.tat ρ/\n<=m/\m < n+t.size/\t.okp ρ
theorem Zf8 {α β:Type}{F:α->β->Prop}:∀{l l2:List α} {m m2:List β},Paired F l m->Paired F l2 m2->Paired F (l++l2) (m++m2)
 | _,_,_,_,.nil,h=>h
 | _,_,_,_,.cons a t,h=>.cons a (Zf8 t h)
theorem Zh5 {α β:Type}{F G:α->β->Prop}(h:∀x y,F x y->G x y):∀{l:List α} {m:List β},Paired F l m->Paired G l m
 | _,_,.nil=>.nil
 | _,_,.cons a t=>.cons (h _ _ a) (Zh5 h t)
theorem Xo6 {t:Te}{π:List Nat}(h:t.turns=true):Corr t n π n π:=⟨[],by simp,by rw[Yw6];cases t<;>rfl,zg _,by have:=size_pos t;omega,by cases t<;>exact h⟩
theorem Yc6 {t:Te}{π:List Nat}:Paired (Corr t n π) (if t.turns then [n] else []) (if t.turns then [π] else []):=by
 cases h:t.turns with
 |true=>exact .cons (Xo6 h) .nil
 |false=>exact .nil
theorem Zn0 {t a:Te}{k:Nat}{π:List Nat}{q:List Nat}(h:Corr a k (π++[i]) m q)(h1:∀m ρ,k<=m->m < k+a.size->a.tpm m k=a.tat ρ->t.tpm m n=t.tat (i::ρ))(h2:n<=k)(h3:k+a.size<=n+t.size)(h4:∀ρ,a.okp ρ->t.okp (i::ρ)):Corr t n π m q:=by
 obtain⟨ρ,f,e,d,c,b⟩:=h;exact⟨i::ρ,by simp_all,h1 m ρ d c e,by omega,by omega,h4 ρ b⟩
theorem Zl1:∀{t:Te} {f n:Nat} {π:List Nat},Paired (Corr t n π) (idxT n (t.pre f)) (t.paths π)
 | .at k,f,n,π=>.nil
 | .one u a ss,f,n,π=>by
  refine Zf8 Yc6 (Zh5 (fun m q h=>Zn0 h (fun m ρ e1 e2 e=>?_) (by omega) (by show _<=n+(1+a.size);omega) fun _ z=>z) (Zl1));exact (if_neg (by omega)).trans (by rw[e];rfl)
 | .two u a b,f,n,π=>by
  show Paired _ (_++idxT _ _) _;rw[Zu1,Zg0]
  refine Zf8 Yc6 (Zf8 (Zh5 (fun m q h=>Zn0 h (fun m ρ e1 e2 e=>?_) (by omega) (by show _<=n+(1+a.size+b.size);omega) fun _ z=>z) (Zl1))
   (Zh5 (fun m q h=>Zn0 h (fun m ρ e1 e2 e=>?_) (by omega) (by show _<=n+(1+a.size+b.size);omega) fun _ z=>z) (Zl1)))
  ·exact (if_neg (by omega)).trans (by rw[e,Zh4 (by omega)];rfl)
  ·exact (if_neg (by omega)).trans (by rw[e,Zh4 (by omega)];rfl)
 | .fn s a,f,n,π=>by
  refine Zh5 (fun m q h=>Zn0 h (fun m ρ e1 e2 e=>?_) (by omega) (by show _<=n+(1+a.size);omega) fun _ z=>z) (Zl1 (t:=a));exact (if_neg (by omega)).trans (by rw[e];rfl)
 | .cs a b c,f,n,π=>by
  show Paired _ (_++idxT _ _) _;rw[Zu1,Zu1,Zg0,Zg0]
  refine Zf8 Yc6 (Zf8 (Zh5 (fun m q h=>Zn0 h (fun m ρ e1 e2 e=>?_) (by omega) (by show _<=n+(1+a.size+b.size+c.size);omega) fun _ z=>z) (Zl1))
   (Zf8 (Zh5 (fun m q h=>Zn0 h (fun m ρ e1 e2 e=>?_) (by omega) (by show _<=n+(1+a.size+b.size+c.size);omega) fun _ z=>z) (Zl1))
    (Zh5 (fun m q h=>Zn0 h (fun m ρ e1 e2 e=>?_) (by omega) (by show _<=n+(1+a.size+b.size+c.size);omega) fun _ z=>z) (Zl1))))
  ·exact (if_neg (by omega)).trans (by rw[e,Zh4 (by omega),Zh4 (by omega)];rfl)
  ·exact (if_neg (by omega)).trans (by rw[e,Zh4 (by omega),Zh4 (by omega)];rfl)
  ·exact (if_neg (by omega)).trans (by rw[e,Zh4 (by omega),Zh4 (by omega)];rfl)
theorem Zi7 {o:Te}:∀{b:Te} {f:Nat},3*(b.mp (putF o) f).size+1<=(2*o.size+1)*b.size+o.size
 | .at k,f=>by
  have h:=size_pos o;show 3*(putF o k f).size+1<=_*1+o.size;unfold putF
  split
  ·rw[Zh8];omega
  ·show 3*1+1<=_;omega
 | .one u a ss,f=>by
  have h:=size_pos o;have ih:=Zi7 (o:=o) (b:=a) (f:=f);have e:=zbf (2*o.size+1) 1 a.size;show 3*(1+(a.mp _ f).size)+1<=_*(1+a.size)+o.size;omega
 | .two u a b,f=>by
  have h:=size_pos o;have i1:=Zi7 (o:=o) (b:=a) (f:=f);have i2:=Zi7 (o:=o) (b:=b) (f:=f);show 3*(1+(a.mp _ f).size+(b.mp _ f).size)+1<=_*(1+a.size+b.size)+o.size;have e:=zbf (2*o.size+1) (1+a.size) b.size;have e2:=zbf (2*o.size+1) 1 a.size;omega
 | .fn s a,f=>by
  have h:=size_pos o;have ih:=Zi7 (o:=o) (b:=a) (f:=f+1);have e:=zbf (2*o.size+1) 1 a.size;show 3*(1+(a.mp _ _).size)+1<=_*(1+a.size)+o.size;omega
 | .cs a b c,f=>by
  have i1:=Zi7 (o:=o) (b:=a) (f:=f);have i2:=Zi7 (o:=o) (b:=b) (f:=f+1);have i3:=Zi7 (o:=o) (b:=c) (f:=f+1);show 3*(1+(a.mp _ f).size+(b.mp _ _).size+(c.mp _ _).size)+1<=_*(1+a.size+b.size+c.size)+o.size;have e:=zbf (2*o.size+1) (1+a.size) b.size;have e2:=zbf (2*o.size+1) 1 a.size;have e3:=zbf (2*o.size+1) (1+a.size+b.size) c.size;omega
theorem Zi8 {o:Te}:∀{b:Te} {f:Nat},(b.mp (putF o) f).deep<=b.deep+o.deep
 | .at k,f=>by
  show (putF o k f).deep<=1+o.deep;unfold putF
  split
  ·rw[Zh9];omega
  ·show 1<=_;omega
 | .one u a ss,f=>by
  have ih:=Zi8 (o:=o) (b:=a) (f:=f);show 1+(a.mp _ f).deep<=1+a.deep+o.deep;omega
 | .two u a b,f=>by
  have i1:=Zi8 (o:=o) (b:=a) (f:=f);have i2:=Zi8 (o:=o) (b:=b) (f:=f);show 1+max (a.mp _ f).deep (b.mp _ f).deep<=1+max _ _+o.deep;omega
 | .fn s a,f=>by
  have ih:=Zi8 (o:=o) (b:=a) (f:=f+1);show 1+(a.mp _ _).deep<=1+a.deep+o.deep;omega
 | .cs a b c,f=>by
  have i1:=Zi8 (o:=o) (b:=a) (f:=f);have i2:=Zi8 (o:=o) (b:=b) (f:=f+1);have i3:=Zi8 (o:=o) (b:=c) (f:=f+1);show 1+max (a.mp _ f).deep _<=1+max _ _+o.deep;omega
theorem Zd5:∀t:Te,t.deep<=t.size
 | .at _=>zg _
 | .one _ a _=>by have:=Zd5 a;show 1+a.deep<=1+a.size;omega
 | .two _ a b=>by have:=Zd5 a;have:=Zd5 b;show 1+max _ _<=1+a.size+b.size;omega
 | .fn _ a=>by have:=Zd5 a;show 1+a.deep<=1+a.size;omega
 | .cs a b c=>by have:=Zd5 a;have:=Zd5 b;have:=Zd5 c;show 1+max _ _<=1+a.size+b.size+c.size;omega
theorem sq2 (z b:Nat):2*(z*b)<=b*b+z*z:=by
 rcases Nat.le_total z b with h | h
 ·obtain⟨d,rfl⟩:=ycs h
  grind
 ·obtain⟨d,rfl⟩:=ycs h
  grind
def Gr (x n:Nat):Prop:=6*x+2*n+2<=n*n
theorem We9 {x r:Nat}(hx:1<=x)(h:Gr x n):Gr (x+r) (n+r):=by
 unfold Gr at *
 have a:4<=n:=by
  by_cases c:n<=3
  ·have:n=0∨n=1∨n=2∨n=3:=by omega
   rcases this with rfl | rfl | rfl | rfl<;>omega
  omega
 have e:(n+r)*(n+r)=n*n+n*r+(n*r+r*r):=by rw[Nat.add_mul,zbf,zbf,ydl r n]
 have b  := Nat.mul_le_mul_right r a;omega
theorem Xn1 {x b z:Nat}(h:3*x+1<=(2*z+1)*b+z):Gr x (b+z+2):=by
 unfold Gr
 have c:(2*z+1)*b=2*(z*b)+b:=by rw[Nat.add_mul,Nat.mul_assoc,Nat.one_mul]
 have a:(b+z+2)*(b+z+2)=b*b+z*b+2*b+(z*b+z*z+2*z)+(2*b+2*z+4):=by
  simp[Nat.add_mul,zbf,ydl b z,ydl b 2,ydl z 2]
 have:=sq2 z b;omega
theorem Yz9 {x:Nat}(h:x+3<=n):Gr x n:=by
 unfold Gr;obtain⟨r,rfl⟩:=ycs h
 have e:(x+3+r)*(x+3+r)=x*x+6*x+9+(2*x*r+6*r+r*r):=by
  grind
 have:2*x<=x*x+1:=by
  have:=sq2 1 x
  simp_all
 omega
theorem Yv0 {x r:Nat}(h:Gr x n)(h2:2<=n):Gr x (n+r):=by
 unfold Gr at *
 have e:(n+r)*(n+r)=n*n+n*r+(n*r+r*r):=by rw[Nat.add_mul,zbf,zbf,ydl r n]
 have a  := Nat.mul_le_mul_right r h2;omega
theorem Zs2 {t:Te}(h:t.turns=true):(∃a b ss,t=.one .left (.two .pair a b) ss)∨(∃a b ss,t=.one .right (.two .pair a b) ss)∨(∃s b o,t=.two .use (.fn s b) o)∨(∃a ss b c,t=.cs (.one .first a ss) b c)∨(∃a ss b c,t=.cs (.one .second a ss) b c):=by
 cases t with
 |one u a ss =>
  cases u with
  |left =>
   cases a with
   |two v x y =>
    cases v with
    |pair=>exact .inl ⟨_,_,_,rfl⟩
    |use=>cases h
   | _=>cases h
  |right =>
   cases a with
   |two v x y =>
    cases v with
    |pair=>exact .inr (.inl ⟨_,_,_,rfl⟩)
    |use=>cases h
   | _=>cases h
  | _=>cases h
 |two u a b =>
  cases u with
  |use =>
   cases a with
   |fn s x=>exact .inr (.inr (.inl ⟨_,_,_,rfl⟩))
   | _=>cases h
  |pair=>cases h
 |cs a b c =>
  cases a with
  |one u x ss =>
   cases u with
   |first=>exact .inr (.inr (.inr (.inl ⟨_,_,_,_,rfl⟩)))
   |second=>exact .inr (.inr (.inr (.inr ⟨_,_,_,_,rfl⟩)))
   | _=>cases h
  | _=>cases h
 | _=>cases h
theorem Yt2 {t:Te}(h:t.okp []):t.turns=true:=by cases t<;>exact h
theorem Xg6 {t:Te}:t.tat []=t.itself:=by cases t<;>rfl
theorem Yi6 {t:Te}{ρ:List Nat}(h:t.okp (i::ρ)):(∃u a ss,t=.one u a ss/\i=1/\a.okp ρ)∨(∃u a b,t=.two u a b/\i=1/\a.okp ρ)∨(∃u a b,t=.two u a b/\i=2/\b.okp ρ)∨(∃s a,t=.fn s a/\i=2/\a.okp ρ)∨(∃a b c,t=.cs a b c/\i=1/\a.okp ρ)∨(∃a b c,t=.cs a b c/\i=2/\b.okp ρ)∨(∃a b c,t=.cs a b c/\i=3/\c.okp ρ):=by
 cases t with
 |«at» k=>exact match i,h with | 0,h=>h.elim | 1,h=>h.elim | 2,h=>h.elim | 3,h=>h.elim | _+4,h=>h.elim
 |one u a ss=>exact match i,h with | 0,h=>h.elim | 1,h=>.inl ⟨_,_,_,rfl,rfl,h⟩ | 2,h=>h.elim | 3,h=>h.elim | _+4,h=>h.elim
 |two u a b=>exact match i,h with | 0,h=>h.elim | 1,h=>.inr (.inl ⟨_,_,_,rfl,rfl,h⟩) | 2,h=>.inr (.inr (.inl ⟨_,_,_,rfl,rfl,h⟩)) | 3,h=>h.elim | _+4,h=>h.elim
 |fn s a=>exact match i,h with | 0,h=>h.elim | 1,h=>h.elim | 2,h=>.inr (.inr (.inr (.inl ⟨_,_,rfl,rfl,h⟩))) | 3,h=>h.elim | _+4,h=>h.elim
 |cs a b c=>exact match i,h with | 0,h=>h.elim | 1,h=>.inr (.inr (.inr (.inr (.inl ⟨_,_,_,rfl,rfl,h⟩)))) | 2,h=>.inr (.inr (.inr (.inr (.inr (.inl ⟨_,_,_,rfl,rfl,h⟩))))) | 3,h=>.inr (.inr (.inr (.inr (.inr (.inr ⟨_,_,_,rfl,rfl,h⟩))))) | _+4,h=>h.elim
theorem ar1 (a b:Nat):1+a+b=a+(1+b):=by omega
theorem ar3 (a b c:Nat):1+a+b+c=a+(1+(b+c)):=by omega
theorem ar4 (a b c:Nat):1+a+b+c=b+(1+(a+c)):=by omega
theorem ar5 (a b c:Nat):1+a+b+c=c+(1+(a+b)):=by omega
theorem dpx {x s:Nat}(h:m<=x+s):1+m<=x+(1+s):=(Nat.add_left_comm x 1 s).symm▸Nat.add_le_add_left h 1
theorem mx1 {x b s:Nat}(h:b<=s):max x b<=x+s:=Nat.max_le.mpr ⟨ycj _ _,yj h (by simp)⟩
theorem mx2 {a y s:Nat}(h:a<=s):max a y<=y+s:=Nat.max_le.mpr ⟨yj h (by simp),ycj _ _⟩
theorem mx3 {b c p q:Nat}(h1:b<=p)(h2:c<=q):max b c<=p+q:=Nat.max_le.mpr ⟨yj h1 (by simp),yj h2 (by simp)⟩
theorem Wa0 {t:Te}{ρ:List Nat}(h:t.okp (i::ρ)):∃(k:Te) (r:Nat),k.okp ρ/\t.size=k.size+(1+r)/\(t.tat (i::ρ)).size=(k.tat ρ).size+(1+r)/\(t.tat (i::ρ)).deep<=(k.tat ρ).deep+(1+r):=by
 rcases Yi6 h with ⟨u,a,d,rfl,rfl,h⟩ | ⟨u,a,b,rfl,rfl,h⟩ | ⟨u,a,b,rfl,rfl,h⟩ | ⟨s,a,rfl,rfl,h⟩ | ⟨a,b,c,rfl,rfl,h⟩ | ⟨a,b,c,rfl,rfl,h⟩ | ⟨a,b,c,rfl,rfl,h⟩
 ·exact⟨a,0,h,yca _ _,yca _ _,zcy (yca _ _)⟩
 ·exact⟨a,b.size,h,ar1 _ _,ar1 _ _,dpx (mx1 (Zd5 b))⟩
 ·exact⟨b,a.size,h,yca _ _,yca _ _,dpx (mx2 (Zd5 a))⟩
 ·exact⟨a,0,h,yca _ _,yca _ _,zcy (yca _ _)⟩
 ·exact⟨a,b.size+c.size,h,ar3 _ _ _,ar3 _ _ _,dpx (mx1 (mx3 (Zd5 b) (Zd5 c)))⟩
 ·exact⟨b,a.size+c.size,h,ar4 _ _ _,ar4 _ _ _,dpx (Nat.max_le.mpr ⟨yj (Zd5 a) (yj (by simp) (Nat.le_add_left _ _)),mx1 (yj (Zd5 c) (by simp))⟩)⟩
 ·exact⟨c,a.size+b.size,h,ar5 _ _ _,ar5 _ _ _,dpx (Nat.max_le.mpr ⟨yj (Zd5 a) (yj (by simp) (Nat.le_add_left _ _)),mx2 (yj (Zd5 b) (by simp))⟩)⟩
theorem Xv8:∀{ρ:List Nat} {t:Te},t.okp ρ->Gr (t.tat ρ).size t.size/\(t.tat ρ).deep<=t.size
 | [],t,h=>by
  rcases Zs2 (Yt2 h) with ⟨a,b,ss,rfl⟩ | ⟨a,b,ss,rfl⟩ | ⟨s,b,o,rfl⟩ | ⟨a,ss,b,c,rfl⟩ | ⟨a,ss,b,c,rfl⟩
  ·have h1:=size_pos b
   have h2:=Zd5 a;exact⟨Yz9 (by show a.size+3<=1+(1+a.size+b.size);omega),by show a.deep<=1+(1+a.size+b.size);omega⟩
  ·have h1:=size_pos a
   have h2:=Zd5 b;exact⟨Yz9 (by show b.size+3<=1+(1+a.size+b.size);omega),by show b.deep<=1+(1+a.size+b.size);omega⟩
  ·have h1:=Zi8 (o:=o) (b:=b) (f:=0)
   have h2:=Zd5 b;have h3:=Zd5 o;refine⟨?_,by show (b.mp _ 0).deep<=1+(1+b.size)+o.size;omega⟩;show Gr (b.mp _ 0).size (1+(1+b.size)+o.size);rw[show 1+_+o.size=b.size+o.size+2 by omega];exact Xn1 Zi7
  ·have h1:=Zi8 (o:=a) (b:=b) (f:=0)
   have h2:=Zd5 a;have h3:=Zd5 b;refine⟨?_,by show (b.mp _ 0).deep<=1+(1+a.size)+b.size+c.size;omega⟩;show Gr (b.mp _ 0).size (1+(1+a.size)+b.size+c.size);rw[show 1+_+b.size+c.size=b.size+a.size+2+c.size by omega];exact Yv0 (Xn1 Zi7) (by omega)
  ·have h1:=Zi8 (o:=a) (b:=c) (f:=0)
   have h2:=Zd5 a;have h3:=Zd5 c;refine⟨?_,by show (c.mp _ 0).deep<=1+(1+a.size)+b.size+c.size;omega⟩;show Gr (c.mp _ 0).size (1+(1+a.size)+b.size+c.size);rw[show 1+_+b.size+c.size=c.size+a.size+2+b.size by omega];exact Yv0 (Xn1 Zi7) (by omega)
 |i::ρ,t,h=>by
  obtain⟨k,r,ho,e1,e2,e3⟩:=Wa0 h;obtain⟨h1,h2⟩:=Xv8 ho;rw[e1,e2];exact⟨We9 (size_pos _) h1,yj e3 (Nat.add_le_add_right h2 _)⟩
theorem Wx4 {x:Nat}(h:Gr x n)(h2:n<=78):x<=1000:=by
 by_cases c:2<=n
 ·have:=Yv0 (r:=78 - n) h c
  rw[show n+_=78 by omega] at this;unfold Gr at this;omega
 ·unfold Gr at h
  have:n=0∨n=1:=by omega
  rcases this with rfl | rfl<;>omega
end Ken
namespace L2
open PySem PySem.Spec PyProof.Rows
theorem FunT.okX {P:zf}{base:Heap}{fd:zc}{N:List Str}{k:Nat}(F:FunT K x qual st f fd T)(S:FnScope N ps (Za3 st))(len:∀vs H Q E,sp vs H Q E->vs.length=ps.length) (hbody:∀(c:Addr) (A:Around) (outer:List Env) (s:Shared) (H:Hp) (vs:List V) (Q:VK) (E:XK),(∀h,K.In h->W.CodeHd h c T)->Room k (A.deeper (envOfC qual (Za3 st) s.heap.objs.size f (.ref c)))->sp vs H Q E ->
   ∃t,PSs (cxOf (CXe P w) P w K mg base N qual (Za3 st) f (.ref c) A outer s H E) (Zc8 st) t/\t { nx:=fun _ H'=>Q .non H',rt:=Q } (start N vs) H):FnOk P w K mg base (CXe P w) (k+1) f fd ps sp:=by
 obtain⟨n,m,o,j,l,q,c,p,i,rfl,d,b,g⟩:=F.ex;exact fn_of d b S len fun A outer s H vs Q E e a=>hbody c A _ s H vs Q E g e a
end L2
namespace Ken
open PySem L2
theorem Xu9 (p:Pf):1+(topI none ((Zi4 p).map fun k=>((k.1.deep:Nat):Int))).getD 0=((p.1.deep:Nat):Int):=by
 obtain⟨t,f⟩:=p
 cases t with
 |«at» k=>rfl
 |one u a ss=>rfl
 |two u a b =>
  show 1+(if (b.deep:Int) > (a.deep:Int) then (b.deep:Int) else (a.deep:Int))=((1+max _ _:Nat):Int)
  split<;>omega
 |fn s a=>rfl
 |cs a b c =>
  show 1+(if (c.deep:Int) > (if (b.deep:Int) > (a.deep:Int) then (b.deep:Int) else (a.deep:Int)) then (c.deep:Int) else (if _ > _ then (b.deep:Int) else (a.deep:Int)))=((1+max _ _:Nat):Int)
  split<;>split<;>omega
noncomputable def turnV (aT:Nat->Addr):List (Str×V):=[("left",.ref (aT 0)),("right",.ref (aT 1)),("use",.ref (aT 2)),("cases",.ref (aT 3))]
structure Tng (K:W.Frag)(aT:Nat->Addr):Prop where
 l:∀H,SqT K H (aT 0) [.str "pair"]
 r:∀H,SqT K H (aT 1) [.str "pair"]
 u:∀H,SqT K H (aT 2) [.str "fun"]
 c:∀H,SqT K H (aT 3) [.str "first",.str "second"]
noncomputable abbrev natW (ns:List Nat):List V:=ns.map fun (n:Nat)=>V.int (n:Nat)
theorem Yz8:∀{ps:List Pf} {n m:Nat},m∈idxT n ps->∃p,n<=m/\ps[m - n]?=some p/\p.1.turns=true
 | [],n,m,h=>nomatch h
 |p::ps,n,m,h=>by
  rcases yg.mp (show m∈_++idxT _ ps from h) with h | h
  ·simp_all
  ·obtain⟨q,h1,h2,h3⟩:=Yz8 h
   exact⟨q,by omega,by rw[show m - n=m - (n+1)+1 by omega];exact h2,h3⟩
theorem Zv5:∀{t:Te} {f:Nat} {p:Pf},p∈t.pre f->p.1.size<=t.size/\p.1.deep<=t.deep
 | .at k,f,p,h=>by rcases yf.mp h with rfl;simp
 | .one u a ss,f,p,h=>by
  rcases zd.mp h with rfl | h
  ·simp
  ·obtain⟨h1,h2⟩:=Zv5 h
   exact⟨by show _<=1+a.size;omega,by show _<=1+a.deep;omega⟩
 | .two u a b,f,p,h=>by
  rcases zd.mp h with rfl | h
  ·simp
  ·rcases yg.mp h with h | h<;>obtain⟨h1,h2⟩:=Zv5 h<;>exact⟨by show _<=1+a.size+b.size;omega,by show _<=1+max _ _;omega⟩
 | .fn s a,f,p,h=>by
  rcases zd.mp h with rfl | h
  ·simp
  ·obtain⟨h1,h2⟩:=Zv5 h
   exact⟨by show _<=1+a.size;omega,by show _<=1+a.deep;omega⟩
 | .cs a b c,f,p,h=>by
  rcases zd.mp h with rfl | h
  ·simp
  ·rcases yg.mp h with h | h
   ·obtain⟨h1,h2⟩:=Zv5 h
    exact⟨by show _<=1+a.size+b.size+c.size;omega,by show _<=1+max _ _;omega⟩
   ·rcases yg.mp h with h | h<;>obtain⟨h1,h2⟩:=Zv5 h<;>exact⟨by show _<=1+a.size+b.size+c.size;omega,by show _<=1+max _ _;omega⟩
end Ken
namespace Hd
open PySem PySem.W PySem.Calls PySem.Spec PyProof.Rows L2
noncomputable def Yw5 (K:Frag)(v:Value):Option (Value×Nat×List (Option Str)):=match v with
 | .ref a=>(match K.lookup a with
  |some ⟨c,_,.seq vs _,_⟩=>some (c,vs.toList.length,vs.toList.map Zv1)
  | _=>none)
 | _=>none
noncomputable abbrev TrD:=Value×Option Addr×Array (Option Value)×Bool×List (Int×Option Str×Option (Value×Nat×List (Option Str)))
noncomputable def trSeen (K:Frag)(x:Str):Option TrD:=match Zj8 K x with
 |some (a,⟨c,od,.dict es _,sl⟩)=>some (c,od,sl,a == zaw,es.toList.map fun e=>(e.hash,Zv1 e.key,Yw5 K e.val))
 | _=>none
noncomputable def Xf8 (r:List Str):Option (Value×Nat×List (Option Str)):=some (.type "tuple",r.length,r.map some)
noncomputable def trWant (P:Params)(kvs:List (Str×List Str)):Option TrD:=some (.type "dict",none,#[],false,kvs.map fun kv=>(zas P kv.1,some kv.1,Xf8 kv.2))
noncomputable def trK:List (Str×List Str):=[("left",["pair"]),("right",["pair"]),("use",["fun"]),("cases",["first","second"])]
theorem Xh1:∀{r:List Str} {vs:List Value},vs.map Zv1=r.map some->Vals (r.map V.str) vs
 | [],[],_=>.nil
 | [],_::_,e=>by cases e
 | _::_,[],e=>by cases e
 |p::r,v::vs,e=>.cons (Zs5 (yy e).1) (Xh1 (yy e).2)
set_option tactic.hygienic true in
theorem Wv5 {r:List Str}(hr:r.length<=zi)(e:Yw5 K v=Xf8 r):∃b,v=.ref b/\∀H,SqT K H b (r.map V.str):=by
 unfold Yw5 at e
 split at e
 ·rename_i a
  split at e
  ·rename_i c od vs n sl h
   have e:=zu e;simp at e;obtain⟨rfl,e2,e3⟩:=e;refine⟨a,rfl,fun H=>.inr ⟨_,vs,n,h,rfl,rfl,?_,Xh1 e3⟩⟩
   simp_all
  ·cases e
 ·cases e
theorem Xf9:∀{kvs:List (Str×List Str)} {es:List zbz},(∀kv∈kvs,kv.2.length<=zi)->es.map (fun e=>(e.hash,Zv1 e.key,Yw5 K e.val))=kvs.map (fun kv=>(zas w.params kv.1,some kv.1,Xf8 kv.2)) ->
  ∃bs:List Addr,bs.length=kvs.length/\Paired (fun (p:Str×V) (e:zbz)=>(∃tk,e.key=.str p.1 tk)/\e.hash=zas w.params p.1/\RelV p.2 e.val) (ybp (fun kv b=>(kv.1,V.ref b)) kvs bs) es/\∀(i:Nat) (kv:Str×List Str) (b:Addr),kvs[i]?=some kv->bs[i]?=some b->∀H,SqT K H b (kv.2.map V.str)
 | [],[],_,_=>⟨[],rfl,.nil,fun i kv b h=>by simp⟩
 | [],_::_,_,h=>by cases h
 | _::_,[],_,h=>by cases h
 |kv::kvs,e::es,hs,h=>by
  have q1:=(yy h).1;simp at q1;obtain⟨q3,q4,q5⟩:=q1;obtain⟨b,e1,hb⟩:=Wv5 (hs _ (.head _)) q5;obtain⟨bs,h1,h2,h3⟩:=Xf9 (fun kv m=>hs kv (.tail _ m)) (yy h).2;refine⟨b::bs,congrArg _ h1,.cons ⟨Zs5 q4,q3,e1⟩ h2,fun i kv' b' z1 z2=>?_⟩
  cases i with
  |zero=>cases z1;cases z2;omega
  |succ i=>exact h3 i kv' b' z1 z2
set_option tactic.hygienic true in
theorem tr_of (e:trSeen K x=trWant w.params trK):∃(a:Addr) (aU:Nat->Addr),nsIn K ye x=some (some (.ref a))/\KDict K w a (Ken.turnV aU)/\Ken.Tng K aU:=by
 unfold trSeen at e
 split at e
 ·rename_i a c od es n sl h
  obtain⟨h1,h2⟩:=Yn1 h;have e:=zu e;simp only[ycc] at e;obtain⟨rfl,rfl,rfl,e4,e6⟩:=e;obtain⟨bs,l1,l2,l3⟩:=Xf9 (by decide) e6
  match bs,l1,l2,l3 with
  | [b0,b1,b2,b3],_,l2,l3 =>
   refine⟨a,fun i=>[b0,b1,b2,b3].getD i 0,h1,⟨⟨_,es,n,h2,⟨rfl,rfl,rfl⟩,rfl,l2⟩,?_,e4⟩,⟨l3 0 _ b0 rfl rfl,l3 1 _ b1 rfl rfl,l3 2 _ b2 rfl rfl,l3 3 _ b3 rfl rfl⟩⟩;show (["left","right","use","cases"]:List Str).Nodup;decide
 ·cases e
noncomputable def Wu6 (h:Heap):List Addr:=match nsIn (pick h [ye]) ye "TURNING" with
 |some (some (.ref a))=>a::(match h.get? a with
  |some ⟨_,_,.dict es _,_⟩=>es.toList.filterMap fun e=>Wk7 e.val
  | _=>[])
 | _=>[]
structure PlRow where
 cls:Nat
 met:Nat
 qual:Str
 flds:List Str
noncomputable def Yx9 (K:Frag)(C:Addr):Option (Value×FnD):=match findIn K (.ref C) "__init__" with
 |some (some (.ref f))=>(match K.lookup f with
  |some ⟨c,_,.func fd,_⟩=>some (c,fnD K fd)
  | _=>none)
 | _=>none
noncomputable def plOk (K:Frag)(C:Addr)(flds:List Str):Bool:=plainGet K C ybx&&(hasDictIn K C&&(plainOver K C&&(findIn K (.ref C) "__setattr__" == some (some (.builtin "object.__setattr__"))&&(makesIn K C&&(keepIn K (.ref C)&&flds.all fun x=>findIn K (.ref C) x == some none)))))
structure PlF (K:Frag)(C:Addr)(q:Str)(flds:List Str)(st:Stmt)(f:Addr)(fd:zc):Prop where
 fn:Fun K "__init__" q st f fd
 mkc:L2.Mk K C f
 c:Cls K C
 na:∀x∈flds,NoAttr K C x
set_option tactic.hygienic true in
theorem Wl1 {q:Str}{flds:List Str}(h:plOk K C flds=true)(e:Yx9 K C=Yj8 q st):∃f fd,PlF K C q flds st f fd:=by
 unfold plOk at h;simp only[yr] at h;obtain⟨h1,h2,h3,h4,h5,h6,h7⟩:=h;unfold Yx9 at e
 split at e
 ·rename_i f hf
  split at e
  ·rename_i c od fd sl lf
   obtain⟨a1,a2,a3,a4,a5,a6,a7,a8,a9,a10,a11,a12,a13,a14,a15⟩:=fd;have e:=zu e;simp[fnD,ycc] at e;obtain⟨rfl,rfl,rfl,rfl,rfl,rfl,rfl,rfl,rfl,rfl,hc⟩:=e
   have kp:keepIn K (.ref f)=true:=by
    show (match K.lookup f with | some ⟨_,_,.func _,_⟩=>true | some ⟨_,_,.cls _,_⟩=>specialIn K _ "__call__" == some _ | _=>false)=true;rw[lf]
   have fnk:isFn K (.ref f)=true:=by
    unfold isFn
    rw[show typeIn K _=some (.type "function") by
     show (K.lookup f).map _=_
     simp_all]
    rfl
   exact⟨f,_,Xa0 lf hc kp,⟨h5,hf,fnk,h6⟩,⟨h1,h2,h3,eq_of_beq h4⟩,fun x hx=>eq_of_beq (zay.mp h7 x hx)⟩
  ·cases e
 ·cases e
noncomputable def plK (p:zf)(Pl:List PlRow)(K:Frag):List (Bool×Option (Value×FnD)):=Pl.map fun r=>(plOk K (at_ p K r.cls) r.flds,Yx9 K (at_ p K r.cls))
noncomputable def plV (p:zf)(Pl:List PlRow):List (Bool×Option (Value×FnD)):=Pl.map fun r=>(true,Yj8 r.qual (Yc2 (stAt p r.cls) r.met))
theorem pl_of {p:zf}{Pl:List PlRow}(e:plK p Pl K=plV p Pl){r:PlRow}(hr:r∈Pl):∃f fd,PlF K (at_ p K r.cls) r.qual r.flds (Yc2 (stAt p r.cls) r.met) f fd:=by
 have:=Yo1 (f:=fun r:PlRow=>(plOk K _ _,Yx9 K _)) (g:=fun r:PlRow=>(true,Yj8 _ _)) e hr;exact Wl1 (ym this).1 (ym this).2
noncomputable def Wu7 (p:zf)(Pl:List PlRow)(h:Heap):List Addr:=Pl.flatMap fun r=>match nsIn (pick h [ye]) ye (nm (stAt p r.cls)) with
  |some (some (.ref a))=>a::(match h.get? a with
   |some ⟨_,_,.cls cd,_⟩=>cd.ns::(match nsIn (pick h [cd.ns]) cd.ns "__init__" with
    |some (some (.ref f))=>f::(match h.get? f with
     |some ⟨_,_,.func fd,_⟩=>(match fd.code with | .ref c=>[c] | _=>[])
     | _=>[])
    | _=>[])
   | _=>[])
  | _=>[]
noncomputable def Wg9 (p:zf)(A:Ask)(B:ClsAsk)(M:MoreAsk)(Pl:List PlRow)(ut:Bool)(h:Heap):List Addr:=Wu9 p A B M h++(Wu8 h++((match ut with | true=>Wu6 h | false=>[])++Wu7 p Pl h))
noncomputable abbrev Xv5:=Obs3×Bool×Bool×Option InD×Option TrD×Bool×List (Bool×Option (Value×FnD))
noncomputable def Wr5 (p:zf)(A:Ask)(B:ClsAsk)(M:MoreAsk)(TA:List Nat)(Pl:List PlRow)(ut:Bool)(h:Heap)(K:Frag):Xv5 :=
 (Ww7 p A B M K,codesOk p TA K,Wi0 p TA h K,inSeen K "INNER",(match ut with | true=>trSeen K "TURNING" | false=>none),decide (tabs p TA K).Nodup,plK p Pl K)
noncomputable def obs10 (p:zf)(A:Ask)(B:ClsAsk)(M:MoreAsk)(TA:List Nat)(Pl:List PlRow)(ut:Bool)(s:Shared):Xv5:=Wr5 p A B M TA Pl ut s.heap (pick s.heap (Wg9 p A B M Pl ut s.heap))
noncomputable def val10 (p:zf)(A:Ask)(M:MoreAsk)(Pl:List PlRow)(ut:Bool)(w:World):Xv5:=(val3 p A M w,true,true,inWant w.params innK,(match ut with | true=>trWant w.params trK | false=>none),true,plV p Pl)
noncomputable def hook10 (p:zf)(A:Ask)(B:ClsAsk)(M:MoreAsk)(TA:List Nat)(Pl:List PlRow)(ut:Bool):Hook :=
 ⟨Xv5,obs10 p A B M TA Pl ut,val10 p A M Pl ut,fun w h=>∃K:Frag,K.In h/\(obsK p A K=valK p A w.params/\chk p B K=true/\iniK p M K=iniV p M/\chkM p M K=true)/\codesOk p TA K=true/\inSeen K "INNER"=inWant w.params innK/\(ut=true->trSeen K "TURNING"=trWant w.params trK)/\(tabs p TA K).Nodup/\plK p Pl K=plV p Pl/\∀T∈tabs p TA K,h.get? T=some (tabObj #[]),
  fun w s e=>by
   obtain⟨e1,e2⟩:=ym e;obtain⟨e2,e3⟩:=ym e2;obtain⟨e3,e4⟩:=ym e3;obtain⟨e4,e5⟩:=ym e4;obtain⟨e5,e6⟩:=ym e5;obtain⟨e6,e7⟩:=ym e6;refine⟨_,Xi8 _ _,⟨(ym e1).1,(ym (ym e1).2).1,(ym (ym (ym e1).2).2).1,(ym (ym (ym e1).2).2).2⟩,e2,e4,fun z=>by cases z;exact e5,of_decide_eq_true e6,e7,fun T hT=>?_⟩
   exact Yv5 (zay.mp e3 T hT),
  fun w h h' x k=>by
   obtain⟨K,i,e,c,a1,a2,a3,a4,t⟩:=x
   exact⟨K,fun a o z=>k _ _ (i a o z),e,c,a1,a2,a3,a4,fun T hT=>k _ _ (t T hT)⟩⟩
set_option tactic.hygienic true in
theorem walkH10 {l:OpenLaw}{n k:Nat}{q p:zf}{A:Ask}{B:ClsAsk}{M:MoreAsk}{TA:List Nat}{Pl:List PlRow}{ut:Bool}{loose:List Str}{XP:(Str->Option Value)->Heap->Prop}{d:DefRec}{CX:CXT}{sp:Frag->List Addr->Sp}{x:Str}
  (hn:l.most=some n) (hn2:n<=zi) (hdf:d.params.defaults=[]) (hr:Room k callerA) (hTA:∀i∈TA,i∈A.fns)
  (F:∀(w:World) (mg:Str->Option Value) (fa:Addr) (h:Heap) (K:Frag) (bm:Addr),K.In h->h.Ns ye mg->mg d.name=some (.ref fa)->obsK p A K=valK p A w.params->chk p B K=true->iniK p M K=iniV p M->chkM p M K=true->codesOk p TA K=true->inSeen K "INNER"=inWant w.params innK->(ut=true->trSeen K "TURNING"=trWant w.params trK)->(tabs p TA K).Nodup->plK p Pl K=plV p Pl->BltK K mg bm->(∀T∈tabs p TA K,bm≠T) ->
   ∃fd:zc,(∀(s:Shared) (u:Value),BindsTo s fd ⟨[u],[]⟩ [(x,u)])/\∀base:Heap,K.In base->base.Ns ye mg->FnOk l.prog w K mg base CX k fa fd [x] (sp K (tabs p TA K)))
  (hsp:∀(K:Frag) (ts:List Addr) (H:Hp) (a:Addr) (ns:List Int),ns.length<=n->ts.length=TA.length->(∀T∈ts,H T=some (.tbl #[]))->SqL K H a (ns.map V.int)->sp K ts [.ref a] H (fun v _=>v=.bl true) fun _ _ _=>False)
  (hCX:∀(H:Hp) (s:Shared) (e:Value) (s':Shared),CX [] H s (fun _ _ _=>False) e s'->False) :
  WalkO q loose XP (hook10 p A B M TA Pl ut).says l.row.toRowW d [] (fun f vs=>PySem.call f vs) :=
 Att.attach_call hn hdf fun w s₀ s₁ mg mb fa o pm cd doc a vs ns G Y ho hd hcd hmg hobj hints hlen hg=>by
  obtain⟨K,KX,⟨E,D,E2,D2⟩,hc,hI,hU,hN,hP,TX⟩:=Y;obtain⟨bm,ob,b1,b2,b3,b4,b5,b6⟩:=G.T.bmain
  have hblt:K.lookup bm=some ob:=by
   have hb:=hc;unfold codesOk at hb;rw[yr] at hb;have hb:=hb.2;unfold Wu1 at hb
   split at hb
   ·rename_i b e
    have e1:=(mg_of KX G.T.g e).symm.trans b1;obtain⟨o',e2⟩:=ybn.mp hb;have e3:=KX _ _ e2
    grind
   grind
  have nT:∀T∈tabs p TA K,bm≠T:=fun T hT z=>by
   grind
  have nM:bm≠ye:=fun z=>by
   obtain⟨o',es,ep,e,d',_⟩:=G.T.g
   grind
  have fact:∀T∈tabs p TA K,K.lookup T=none/\isCodeTable s₁.heap T:=fun T hT=>by
   obtain⟨i,hi,rfl⟩:=zax.mp hT;obtain⟨_,_,_,_,_,_,h1,h2⟩:=Xn5 (e_fn E (hTA i hi)) (t_code hc hi);exact⟨h1,h2 _ KX⟩
  obtain⟨fd,hb,hF⟩:=F w mg fa _ K bm KX G.T.g hmg E D E2 D2 hc hI hU hN hP ⟨b1,⟨ob,hblt,b4,b5,b6⟩,b2,nM⟩ nT;exact Xl1 KX G.T.g G.T.b G.T.builtins G.T.nolimit hg hobj hints (yj hlen hn2) hr TX (fun T hT=>(fact T hT).1) (fun T hT=>(fact T hT).2) hF hb
   (fun H hO hS=>hsp K _ H a ns hlen (by simp[tabs]) hO hS) fun H e s'=>hCX H _ e s'
theorem obs10_self:@obs10=@obs10:=rfl
theorem val10_self:@val10=@val10:=rfl
end Hd
name_quick hdObs10 for Hd.obs10 by Hd.obs10_self
name_quick hdVal10 for Hd.val10 by Hd.val10_self
namespace Ken
open PySem L2
def HasK:List Tm->Te->Tm->Prop
 | Γ,.at k,g=>Γ[k]?=some g
 | Γ,.one .left a _,g=>∃h,HasK Γ a (.nd .both g h)
 | Γ,.one .right a _,g=>∃h,HasK Γ a (.nd .both h g)
 | Γ,.one .first a ss,g=>∃h s,ss=[s]/\HasK Γ a h/\g=.nd .one h s
 | Γ,.one .second a ss,g=>∃h s,ss=[s]/\HasK Γ a h/\g=.nd .one s h
 | Γ,.one .off a ss,g=>ss=[g]/\HasK Γ a .low
 | Γ,.two .pair a b,g=>∃h k,HasK Γ a h/\HasK Γ b k/\g=.nd .both h k
 | Γ,.two .use a b,g=>∃h,HasK Γ a (.nd .thn h g)/\HasK Γ b h
 | Γ,.fn s a,g=>∃h,HasK (s::Γ) a h/\g=.nd .thn s h
 | Γ,.cs a b c,g=>∃h k,HasK Γ a (.nd .one h k)/\HasK (h::Γ) b g/\HasK (k::Γ) c g
theorem Zc9:∀{t:Te} {Γ:List Tm} {g h:Tm},HasK Γ t g->HasK Γ t h->g=h
 | .at k,Γ,g,h,a,b=>zu ((a).symm.trans b)
 | .one .left t ss,Γ,g,h,⟨_,a⟩,⟨_,b⟩=>by cases Zc9 a b;rfl
 | .one .right t ss,Γ,g,h,⟨_,a⟩,⟨_,b⟩=>by cases Zc9 a b;rfl
 | .one .first t ss,Γ,g,h,⟨_,_,e1,a,e2⟩,⟨_,_,e3,b,e4⟩=>by
  cases Zc9 a b
  grind
 | .one .second t ss,Γ,g,h,⟨_,_,e1,a,e2⟩,⟨_,_,e3,b,e4⟩=>by
  cases Zc9 a b
  grind
 | .one .off t ss,Γ,g,h,⟨e1,_⟩,⟨e2,_⟩=>by grind
 | .two .pair t u,Γ,g,h,⟨_,_,a1,a2,e1⟩,⟨_,_,b1,b2,e2⟩=>by
  cases Zc9 a1 b1;cases Zc9 a2 b2
  simp_all
 | .two .use t u,Γ,g,h,⟨_,a1,a2⟩,⟨_,b1,b2⟩=>by cases Zc9 a1 b1;rfl
 | .fn s t,Γ,g,h,⟨_,a,e1⟩,⟨_,b,e2⟩=>by
  cases Zc9 a b
  simp_all
 | .cs t u v,Γ,g,h,⟨_,_,a1,a2,a3⟩,⟨_,_,b1,b2,b3⟩=>by
  cases Zc9 a1 b1;exact Zc9 a2 b2
theorem Zf1 {Δ:List Tm}:∀{t:Te} {Γ1:List Tm} {g:Tm},HasK (Γ1++Γ2) t g->HasK (Γ1++(Δ++Γ2)) (t.mp (Zl5 Δ.length) Γ1.length) g
 | .at k,Γ1,g,h=>by
  have h:_[k]?=some g:=h;show _[if Γ1.length<=k then k+Δ.length else k]?=some g
  by_cases c:Γ1.length<=k
  ·rw[if_pos c,yk (by omega),yk (by omega)]
   rw[yk c] at h;rw[show k+Δ.length - Γ1.length - Δ.length=k - Γ1.length by omega];exact h
  ·rw[if_neg c,yh (by omega)]
   rw[yh (by omega)] at h;exact h
 | .one .left a ss,Γ1,g,⟨h,a1⟩=>⟨h,Zf1 a1⟩
 | .one .right a ss,Γ1,g,⟨h,a1⟩=>⟨h,Zf1 a1⟩
 | .one .first a ss,Γ1,g,⟨h,s,e1,a1,e2⟩=>⟨h,s,e1,Zf1 a1,e2⟩
 | .one .second a ss,Γ1,g,⟨h,s,e1,a1,e2⟩=>⟨h,s,e1,Zf1 a1,e2⟩
 | .one .off a ss,Γ1,g,⟨e1,a1⟩=>⟨e1,Zf1 a1⟩
 | .two .pair a b,Γ1,g,⟨h,k,a1,a2,e⟩=>⟨h,k,Zf1 a1,Zf1 a2,e⟩
 | .two .use a b,Γ1,g,⟨h,a1,a2⟩=>⟨h,Zf1 a1,Zf1 a2⟩
 | .fn s a,Γ1,g,⟨h,a1,e⟩=>⟨h,Zf1 (Γ1:=s::Γ1) a1,e⟩
 | .cs a b c,Γ1,g,⟨h,k,a1,a2,a3⟩=>⟨h,k,Zf1 a1,Zf1 (Γ1:=h::Γ1) a2,Zf1 (Γ1:=k::Γ1) a3⟩
theorem Yf1 {Δ:List Tm}{t:Te}{g:Tm}(h:HasK Γ t g):HasK (Δ++Γ) (t.mp (Zl5 Δ.length) 0) g:=Zf1 (Γ1:=[]) h
theorem Xc7 {s:Tm}{t:Te}{g:Tm}(h:HasK Γ t g):HasK (s::Γ) (t.mp (Zl5 1) 0) g:=Yf1 (Δ:=[s]) h
theorem Zg9 {s:Tm}{o:Te}(ho:HasK Γ2 o s):∀{t:Te} {Γ1:List Tm} {g:Tm},HasK (Γ1++s::Γ2) t g->HasK (Γ1++Γ2) (t.mp (putF o) Γ1.length) g
 | .at k,Γ1,g,h=>by
  have h:_[k]?=some g:=h;show HasK _ (putF o k _) g;unfold putF
  by_cases c:k=Γ1.length
  ·rw[if_pos c]
   rw[c,yk (by simp),zbk] at h;cases h;rw[c];exact Yf1 ho
  ·rw[if_neg c]
   show _[if Γ1.length < k then k - 1 else k]?=some g
   by_cases d:Γ1.length < k
   ·rw[if_pos d,yk (by omega)]
    rw[yk (by omega),show k - Γ1.length=k - 1 - Γ1.length+1 by omega] at h;exact h
   ·rw[if_neg d,yh (by omega)]
    rw[yh (by omega)] at h;exact h
 | .one .left a ss,Γ1,g,⟨h,a1⟩=>⟨h,Zg9 ho a1⟩
 | .one .right a ss,Γ1,g,⟨h,a1⟩=>⟨h,Zg9 ho a1⟩
 | .one .first a ss,Γ1,g,⟨h,s,e1,a1,e2⟩=>⟨h,s,e1,Zg9 ho a1,e2⟩
 | .one .second a ss,Γ1,g,⟨h,s,e1,a1,e2⟩=>⟨h,s,e1,Zg9 ho a1,e2⟩
 | .one .off a ss,Γ1,g,⟨e1,a1⟩=>⟨e1,Zg9 ho a1⟩
 | .two .pair a b,Γ1,g,⟨h,k,a1,a2,e⟩=>⟨h,k,Zg9 ho a1,Zg9 ho a2,e⟩
 | .two .use a b,Γ1,g,⟨h,a1,a2⟩=>⟨h,Zg9 ho a1,Zg9 ho a2⟩
 | .fn s a,Γ1,g,⟨h,a1,e⟩=>⟨h,Zg9 ho (Γ1:=s::Γ1) a1,e⟩
 | .cs a b c,Γ1,g,⟨h,k,a1,a2,a3⟩=>⟨h,k,Zg9 ho a1,Zg9 ho (Γ1:=h::Γ1) a2,Zg9 ho (Γ1:=k::Γ1) a3⟩
inductive Rw where
 |sim (t:Tm)
 |par (k:Kd) (i j:Nat)
 deriving DecidableEq
noncomputable def denR (S:List Tm):Rw->Option Tm
 | .sim t=>some t
 | .par k i j=>match S[i]?,S[j]? with
  |some a,some b=>some (.nd k a b)
  | _,_=>none
structure Bk (R:List Rw)(S:List Tm):Prop where
 len:R.length=S.length
 den:∀(i:Nat) (r:Rw) (t:Tm),R[i]?=some r->S[i]?=some t->(∃u,r=.sim u/\t=u/\∀k a b,u≠.nd k a b)∨∃k a b x y,r=.par k a b/\a < i/\b < i/\S[a]?=some x/\S[b]?=some y/\t=.nd k x y
 nd:R.Nodup
theorem Yi9 {α:Type}:∀{l:List α} {i j:Nat} {x:α},l.Nodup->l[i]?=some x->l[j]?=some x->i=j
 | [],i,j,x,_,h,_=>by simp_all
 |a::l,0,0,x,_,_,_=>rfl
 |a::l,0,j+1,x,n,h1,h2=>by cases h1;exact absurd (yo (by assumption)) (yaf.mp n).1
 |a::l,i+1,0,x,n,h1,h2=>by cases h2;exact absurd (yo (by assumption)) (yaf.mp n).1
 |a::l,i+1,j+1,x,n,h1,h2=>congrArg _ (Yi9 (yaf.mp n).2 h1 h2)
theorem Bk.inj {R:List Rw}(B:Bk R S):∀(t:Tm) (i j:Nat),S[i]?=some t->S[j]?=some t->i=j:=by
 have c:∀{i:Nat} {t:Tm},S[i]?=some t->∃r,R[i]?=some r:=fun {i t} h=>⟨_,zb (by rw[B.len];exact (yc.mp h).1)⟩;intro t
 induction t with
 |nd k a b iha ihb =>
  intro i j e d;obtain⟨p,g⟩:=c e;obtain⟨o,f⟩:=c d;rcases B.den i p _ g e with ⟨u,rfl,z,n⟩ | ⟨G,M,J,D,A,rfl,_,_,w,v,m⟩
  ·exact absurd z.symm (n k a b)
  rcases B.den j o _ f d with ⟨u,rfl,z,n⟩ | ⟨F,L,I,C,y,rfl,_,_,s,q,l⟩
  ·simp_all
  cases m;cases l;cases iha _ _ w s;cases ihb _ _ v q;exact Yi9 B.nd g f
 | _ =>
  intro i j e d;obtain⟨p,g⟩:=c e;obtain⟨o,f⟩:=c d;rcases B.den i p _ g e with ⟨u,rfl,z,n⟩ | ⟨G,M,J,D,A,rfl,_,_,w,v,m⟩
  ·rcases B.den j o _ f d with ⟨N,rfl,x,O⟩ | ⟨F,L,I,C,y,rfl,_,_,s,q,l⟩
   ·subst z x
    exact Yi9 B.nd g f
   ·cases l
  ·cases m
def Lt:Tm->Hp->V->Prop
 | .low,H,v=>∃a,v=.ref a/\H a=some (.tup [.str "low"])
 | .ltr x,H,v=>∃a,v=.ref a/\H a=some (.tup [.str "letter",.str x])
 | .nd k s t,H,v=>∃a x y,v=.ref a/\H a=some (.tup [.str k.str,x,y])/\Lt s H x/\Lt t H y
theorem Lt.isT:∀{t:Tm} {v:V},Lt t H v->IsT K H v t
 | .low,_,⟨a,e,h⟩=>isT_low.mpr ⟨a,e,.inl (.inl h)⟩
 | .ltr _,_,⟨a,e,h⟩=>isT_ltr.mpr ⟨a,e,.inl (.inl h)⟩
 | .nd _ _ _,_,⟨a,x,y,e,h,h1,h2⟩=>isT_nd.mpr ⟨a,x,y,e,.inl (.inl h),h1.isT,h2.isT⟩
theorem Lt.keepT (k:∀a xs,H a=some (.tup xs)->H' a=some (.tup xs)):∀{t:Tm} {v:V},Lt t H v->Lt t H' v
 | .low,_,⟨a,e,h⟩=>⟨a,e,k _ _ h⟩
 | .ltr _,_,⟨a,e,h⟩=>⟨a,e,k _ _ h⟩
 | .nd _ _ _,_,⟨a,x,y,e,h,h1,h2⟩=>⟨a,x,y,e,k _ _ h,h1.keepT k,h2.keepT k⟩
theorem Lt.keep {t:Tm}{v:V}(h:Lt t H v)(e:Same H H'):Lt t H' v:=h.keepT fun a b z=>e _ _ z
def LE (K:W.Frag):Te->Hp->V->Prop
 | .at k,H,v=>∃p,v=.ref p/\SqT K H p [.str "at",.int (k:Nat)]
 | .one u a ss,H,v=>∃p x rs,v=.ref p/\SqT K H p (.str u.str::x::rs)/\LE K a H x/\Paired (fun r s=>Lt s H r) rs ss
 | .two u a b,H,v=>∃p x y,v=.ref p/\SqT K H p [.str u.str,x,y]/\LE K a H x/\LE K b H y
 | .fn s a,H,v=>∃p x y,v=.ref p/\SqT K H p [.str "fun",x,y]/\Lt s H x/\LE K a H y
 | .cs a b c,H,v=>∃p x y z,v=.ref p/\SqT K H p [.str "cases",x,y,z]/\LE K a H x/\LE K b H y/\LE K c H z
theorem Xx3:∀{rs:List V} {ss:List Tm},Paired (fun r s=>Lt s H r) rs ss->DnAll K H rs (ss.map Tm.data)
 | _,_,.nil=>dnAll_nil
 | _,_,.cons a t=>dnAll_cons (Lt.isT a) (Xx3 t)
theorem LE.isE:∀{t:Te} {v:V},LE K t H v->IsE K H v t
 | .at _,_,h=>isE_atV.mpr h
 | .one _ _ _,_,⟨p,x,rs,e,h,h1,h2⟩=>isE_oneV.mpr ⟨p,x,rs,e,h,h1.isE,Xx3 h2⟩
 | .two _ _ _,_,⟨p,x,y,e,h,h1,h2⟩=>isE_twoV.mpr ⟨p,x,y,e,h,h1.isE,h2.isE⟩
 | .fn _ _,_,⟨p,x,y,e,h,h1,h2⟩=>isE_fnV.mpr ⟨p,x,y,e,h,h1.isT,h2.isE⟩
 | .cs _ _ _,_,⟨p,x,y,z,e,h,h1,h2,h3⟩=>isE_csV.mpr ⟨p,x,y,z,e,h,h1.isE,h2.isE,h3.isE⟩
theorem LE.keepT (k:∀a xs,H a=some (.tup xs)->H' a=some (.tup xs))(kt:KeepT K H H'):∀{t:Te} {v:V},LE K t H v->LE K t H' v
 | .at _,_,⟨p,e,h⟩=>⟨p,e,kt _ _ h⟩
 | .one _ _ _,_,⟨p,x,rs,e,h,h1,h2⟩=>⟨p,x,rs,e,kt _ _ h,h1.keepT k kt,Paired.mapP h2 fun _ _ z=>z.keepT k⟩
 | .two _ _ _,_,⟨p,x,y,e,h,h1,h2⟩=>⟨p,x,y,e,kt _ _ h,h1.keepT k kt,h2.keepT k kt⟩
 | .fn _ _,_,⟨p,x,y,e,h,h1,h2⟩=>⟨p,x,y,e,kt _ _ h,h1.keepT k,h2.keepT k kt⟩
 | .cs _ _ _,_,⟨p,x,y,z,e,h,h1,h2,h3⟩=>⟨p,x,y,z,e,kt _ _ h,h1.keepT k kt,h2.keepT k kt,h3.keepT k kt⟩
theorem LE.keep {t:Te}{v:V}(h:LE K t H v)(e:Same H H'):LE K t H' v:=h.keepT (fun a b z=>e _ _ z) e.keepT
def MadeK (K:W.Frag)(H:Hp)(Γ:List Tm)(ws:List Str)(d s b:Nat)(r:V):Prop:=∃p x y t g,r=.ref p/\SqT K H p [x,y]/\LE K t H x/\Lt g H y/\HasK Γ t g/\t.fine ws/\t.deep<=d/\t.size<=s/\g.inW ws/\g.parts<=b
noncomputable def Rw.key:Rw->List Key
 | .sim .low=>[zbl "low"]
 | .sim (.ltr x)=>[zbl "letter",zbl x]
 | .sim (.nd k _ _)=>[zbl k.str]
 | .par k i j=>[zbl k.str,ycn (i:Nat),ycn (j:Nat)]
def RowV (H:Hp)(u:V)(r:Rw):Prop:=∃a,u=.ref a/\H a=some (.tup (r.key.map kV))
def Rw.ok (n:Nat):Rw->Prop
 | .sim t=>∀k a b,t≠.nd k a b
 | .par _ i j=>i < n/\j < n
theorem Rw.key_inj {r q:Rw}(hr:r.ok n)(hq:q.ok m)(h:r.key=q.key):r=q:=by
 cases r with
 |sim t =>
  cases t with
  |nd k a b=>exact absurd rfl (hr k a b)
  |low =>
   cases q with
   |sim u =>
    cases u with
    |nd k a b=>exact absurd rfl (hq k a b)
    |low=>rfl
    |ltr x=>exact absurd (congrArg ybq h) (by decide:¬_=2)
   |par k i j=>exact absurd (congrArg ybq h) (by decide:¬_=3)
  |ltr x =>
   cases q with
   |sim u =>
    cases u with
    |nd k a b=>exact absurd rfl (hq k a b)
    |low=>exact absurd (congrArg ybq h) (by decide:¬(2)=1)
    |ltr y =>
     have:=(yy (yy h).2).1
     grind
   |par k i j=>exact absurd (congrArg ybq h) (by decide:¬(2)=3)
 |par k i j =>
  cases q with
  |sim u =>
   cases u with
   |nd k a b=>exact absurd rfl (hq k a b)
   |low=>exact absurd (congrArg ybq h) (by decide:¬(3)=1)
   |ltr y=>exact absurd (congrArg ybq h) (by decide:¬(3)=2)
  |par k' i' j' =>
   have f  := zbl.inj (yy h).1;have c:=(yy h).2;have e  := ycn.inj (yy c).1;have d  := ycn.inj (yy (yy c).2).1;rw[Kd.str_inj f,Int.ofNat_inj.mp e,Int.ofNat_inj.mp d]
structure BkA where
 C:Addr
 b:Addr
 dx:Addr
 lr:Addr
 ls:Addr
 dn:Addr
structure BkH (A:BkA)(R:List Rw)(S:List Tm)(H:Hp):Prop where
 ins:H A.b=some (.ins A.C A.dx [("rows",.ref A.lr),("statements",.ref A.ls),("numbers",.ref A.dn)])
 rows:∃us,H A.lr=some (.lst us)/\Paired (RowV H) us R
 sts:∃vs,H A.ls=some (.lst vs)/\Paired (fun v t=>Lt t H v) vs S
 num:∃kvs,H A.dn=some (.dT kvs)/\kvs.length=R.length/\(∀(i:Nat) (r:Rw),R[i]?=some r->valV kvs r.key=some (.int (i:Nat)))/\∀r n,r.ok n->r ∉ R->valV kvs r.key=none
 bk:Bk R S
 okr:∀r∈R,∃n,r.ok n
 ne:A.lr≠A.ls
def SameK (A:BkA)(H H':Hp):Prop:=∀a o,a≠A.lr->a≠A.ls->a≠A.dn->H a=some o->H' a=some o
theorem Same.toK {A:BkA}(e:Same H H'):SameK A H H':=fun a o _ _ _ h=>e a o h
theorem RowV.keep {u:V}{r:Rw}(k:∀a xs,H a=some (.tup xs)->H' a=some (.tup xs))(h:RowV H u r):RowV H' u r:=by
 obtain⟨a,e,h⟩:=h;exact⟨a,e,k _ _ h⟩
theorem BkH.keep {A:BkA}{R:List Rw}(B:BkH A R S H)(e:Same H H'):BkH A R S H':=by
 obtain⟨d,k,j⟩:=B.rows;obtain⟨c,i,h⟩:=B.sts;obtain⟨b,g,f⟩:=B.num;exact⟨e _ _ B.ins,⟨d,e _ _ k,Paired.mapP j fun _ _ z=>z.keep fun a l y=>e _ _ y⟩,⟨c,e _ _ i,Paired.mapP h fun _ _ z=>z.keep e⟩,⟨b,e _ _ g,f⟩,B.bk,B.okr,B.ne⟩
theorem Bk.more {R:List Rw}{r:Rw}{t:Tm}(B:Bk R S)(ho:r.ok R.length)(hd:denR S r=some t)(hn:r ∉ R):Bk (R++[r]) (S++[t]):=by
 refine⟨by rw[yd,yd,B.len];rfl,fun i q u d e=>?_,List.nodup_append.mpr ⟨B.nd,yaf.mpr (by simp),fun a g b f=>?_⟩⟩
 ·have h:=(yc.mp d).1
  rw[yd,zab] at h
  by_cases c:i < R.length
  ·rw[yh c] at d
   rw[yh (by rw[<- B.len];exact c)] at e;rcases B.den i q u d e with z | ⟨k,a,b,x,y,s,p,o,n,m,l⟩
   ·exact .inl z
   ·refine .inr ⟨k,a,b,x,y,s,p,o,?_,?_,l⟩
    ·rw[yh (yc.mp n).1];omega
    ·rw[yh (yc.mp m).1];omega
  ·have j:i=R.length:=by lia
   subst j;rw[yk (by simp),zbk] at d;cases d;rw[B.len,yk (by simp),zbk] at e;cases e
   cases r with
   |sim v=>cases hd;exact .inl ⟨_,rfl,rfl,ho⟩
   |par k a b =>
    have g:a < S.length:=by rw[<- B.len];exact ho.1
    have f:b < S.length:=by rw[<- B.len];exact ho.2
    have hd:(match S[a]?,S[b]? with
     |some x,some y=>some _
     | _,_=>none)=some t:=hd
    rw[zb g,zb f] at hd;cases hd;refine .inr ⟨k,a,b,_,_,rfl,ho.1,ho.2,?_,?_,rfl⟩
    ·rw[yh g];simp
    ·rw[yh f];simp
 grind
inductive sp_noted (A:BkA):Sp
 |mk {vs H Q E:_} (u:V) (r:Rw) (R:List Rw) (S:List Tm) (t:Tm):vs=[.ref A.b,u]->BkH A R S H->RowV H u r->r.ok R.length->denR S r=some t->R.length<=400000->(∀(k:Nat) (H':Hp) (R':List Rw) (S':List Tm),SameK A H H'->BkH A R' S' H'->R <+: R'->S <+: S'->R'.length<=R.length+1->S'[k]?=some t->Q (.int (k:Nat)) H')->sp_noted A vs H Q E
theorem BkH.grow {A:BkA}{R:List Rw}(B:BkH A R S H){us vs:List V}{r:Rw}{t:Tm}{v:V}{ra:Addr}(h2:Paired (RowV H) us R)(h4:Paired (fun v t=>Lt t H v) vs S)(h6:kvs.length=R.length)(h7:∀(i:Nat) (r:Rw),R[i]?=some r->valV kvs r.key=some (.int (i:Nat)))(h8:∀r n,r.ok n->r ∉ R->valV kvs r.key=none)(kt:∀a xs,H a=some (.tup xs)->H' a=some (.tup xs))(gi:H' A.b=some (.ins A.C A.dx [("rows",.ref A.lr),("statements",.ref A.ls),("numbers",.ref A.dn)]))(g1:H' A.lr=some (.lst (us++[.ref ra])))(gr:H' ra=some (.tup (r.key.map kV)))(g3:H' A.ls=some (.lst (vs++[v])))(gv:Lt t H' v)(g5:H' A.dn=some (.dT (putK kvs r.key (.int (R.length:Nat)))))(ho:r.ok R.length)(hd:denR S r=some t)(hn:r ∉ R):BkH A (R++[r]) (S++[t]) H':=by
 refine⟨gi,⟨_,g1,Zf8 (Paired.mapP h2 fun _ _ z=>z.keep kt) (.cons ⟨ra,rfl,gr⟩ .nil)⟩,⟨_,g3,Zf8 (Paired.mapP h4 fun _ _ z=>z.keepT kt) (.cons gv .nil)⟩,⟨_,g5,?_,fun i q d=>?_,fun q n d f=>?_⟩,B.bk.more ho hd hn,fun q d=>?_,B.ne⟩
 ·rw[Xs2 _ (h8 r _ ho hn),yd,yd,h6];rfl
 ·rw[Yg2]
  have g:=(yc.mp d).1;rw[yd,zab] at g
  by_cases c:i < R.length
  ·rw[yh c] at d
   obtain⟨n,e⟩:=B.okr q (yo d);rw[if_neg fun z=>hn (Rw.key_inj e ho z▸yo d)];exact h7 i q d
  ·have h:i=R.length:=by lia
   simp_all
 ·rw[Yg2,if_neg fun z=>f (Rw.key_inj d ho z▸zm _ (.head _))]
  exact h8 q n d fun z=>f (zy _ z)
 ·rcases yg.mp d with z | z
  ·exact B.okr q z
  grind
def TKp (H H':Hp):Prop:=∀a xs,H a=some (.tup xs)->H' a=some (.tup xs)
theorem TKp.trans (a:TKp H H1)(b:TKp H1 H2):TKp H H2:=fun c d h=>b c d (a c d h)
theorem Zv0 (e:Same H H'):TKp H H':=fun a b h=>e _ _ h
theorem Ye2 (h:H p=none):TKp H (upd H p o):=Zv0 (Za6 h _)
theorem Zn4 {xs:List V}(h:H l=some (.lst xs)):TKp H (upd H l o):=fun a b e=>by rw[Za9 (fun z=>by grind)];exact e
def LtV (H:Hp)(v:V)(t:Tm):Prop:=Lt t H v
theorem LtV.k {v:V}{t:Tm}(h:LtV H v t)(k:TKp H H'):LtV H' v t:=Lt.keepT k h
theorem Zl9 {us:List V}{ts:List Tm}(k:TKp H H')(h:Paired (LtV H) us ts):Paired (LtV H') us ts:=Paired.mapP h fun _ _ z=>z.k k
theorem Xk7 {K:W.Frag}{v:V}(h:LtV H v .low):∃a,v=.ref a/\SqT K H a [.str "low"]:=by
 obtain⟨a,e,h⟩:=h;exact⟨a,e,.inl (.inl h)⟩
theorem Xk6 {K:W.Frag}{v:V}(h:LtV H v (.ltr x)):∃a,v=.ref a/\SqT K H a [.str "letter",.str x]:=by
 obtain⟨a,e,h⟩:=h;exact⟨a,e,.inl (.inl h)⟩
theorem Xx2 {K:W.Frag}{v:V}{k:Kd}{s t:Tm}(h:LtV H v (.nd k s t)):∃a x y,v=.ref a/\SqT K H a [.str k.str,x,y]/\LtV H x s/\LtV H y t:=by
 obtain⟨a,x,y,e,h,c,b⟩:=h;exact⟨a,x,y,e,.inl (.inl h),c,b⟩
inductive sp_withinV:Sp
 |mk {vs H Q E:_} (v:V) (t:Tm):vs=[v]->LtV H v t->(∀(r:Addr) (H':Hp) (us:List V),Same H H'->H r=none->H' r=some (.lst us)->Paired (LtV H') us t.kids->Q (.ref r) H')->sp_withinV vs H Q E
inductive sp_piecesV:Sp
 |mk {vs H Q E:_} (v:V) (t:Tm):vs=[v]->LtV H v t->t.parts<=400->(∀(r:Addr) (H':Hp) (us:List V),Same H H'->H r=none->H' r=some (.lst us)->Paired (LtV H') us t.pre->Q (.ref r) H')->sp_piecesV vs H Q E
def FrB (bad:List Addr)(H H':Hp):Prop:=∀a o,a ∉ bad->H a=some o->H' a=some o
theorem FrB.trans (a:FrB bad H H1)(b:FrB bad H1 H2):FrB bad H H2:=fun c o n e=>b c o n (a c o n e)
theorem FrB.of (e:Same H H'):FrB bad H H':=fun a o _ h=>e _ _ h
theorem FrB.write {o:HO}(e:FrB bad H0 H)(h:H0 l=none):FrB bad H0 (upd H l o):=fun a u n q=>by rw[Za9 (fun z=>by grind)];exact e a u n q
structure SF {σ:Type}(bad:List Addr)(St:Nat->σ->Hp->Prop)(le:σ->σ->Prop)(R:σ->Tm->V->Prop):Prop where
 refl:∀s,le s s
 trans:∀a b c,le a b->le b c->le a c
 keep:∀i s H H',Same H H'->St i s H->St i s H'
 put:∀i s H l xs o,H l=some (.lst xs)->l ∉ bad->St i s H->St i s (upd H l o)
 mono:∀s s' t v,le s s'->R s t v->R s' t v
 tup:∀i s H H',St i s H->FrB bad H H'->TKp H H'
 has:∀i s H a,St i s H->a∈bad->∃o,H a=some o
inductive sp_of1S {σ:Type}(N:Nat)(bad:List Addr)(St:Nat->σ->Hp->Prop)(le:σ->σ->Prop)(R:σ->Tm->V->Prop):Sp
 |mk {vs H Q E:_} (v:V) (t:Tm) (s:σ) (i:Nat):vs=[v]->i < N->St i s H->LtV H v t->t.kids=[]->(∀(r:V) (H':Hp) (s':σ),FrB bad H H'->le s s'->St (i+1) s' H'->R s' t r->Q r H')->sp_of1S N bad St le R vs H Q E
inductive sp_of2S {σ:Type}(N:Nat)(bad:List Addr)(St:Nat->σ->Hp->Prop)(le:σ->σ->Prop)(R:σ->Tm->V->Prop):Sp
 |mk {vs H Q E:_} (k:Kd) (a b:Tm) (x y:V) (s:σ) (i:Nat):vs=[.str k.str,x,y]->i < N->St i s H->R s a x->R s b y->(∀(r:V) (H':Hp) (s':σ),FrB bad H H'->le s s'->St (i+1) s' H'->R s' (.nd k a b) r->Q r H')->sp_of2S N bad St le R vs H Q E
inductive sp_foldedS {σ:Type}(N:Nat)(bad:List Addr)(St:Nat->σ->Hp->Prop)(le:σ->σ->Prop)(R:σ->Tm->V->Prop)(fs fp:Addr):Sp
 |mk {vs H Q E:_} (v:V) (t:Tm) (s:σ):vs=[v,.ref fs,.ref fp]->St 0 s H->LtV H v t->t.parts<=N->N<=400->(∀(r:V) (H':Hp) (s':σ),FrB bad H H'->le s s'->St t.parts s' H'->R s' t r->Q r H')->sp_foldedS N bad St le R fs fp vs H Q E
def StB (A:BkA)(n:Nat)(i:Nat)(s:List Rw×List Tm)(H:Hp):Prop:=BkH A s.1 s.2 H/\s.1.length<=n+i
def leB (a b:List Rw×List Tm):Prop:=a.1 <+: b.1/\a.2 <+: b.2
def RB (s:List Rw×List Tm)(t:Tm)(v:V):Prop:=∃k:Nat,v=.int (k:Nat)/\s.2[k]?=some t
noncomputable abbrev badK (A:BkA):List Addr:=[A.lr,A.ls,A.dn]
theorem Yn3 {α:Type}{l m:List α}{k:Nat}{x:α}(h:l <+: m)(e:l[k]?=some x):m[k]?=some x:=by
 obtain⟨z,rfl⟩:=h;rw[yh (yc.mp e).1];exact e
theorem BkH.put {A:BkA}{R:List Rw}{xs:List V}{o:HO}(B:BkH A R S H)(h:H l=some (.lst xs))(n:l ∉ badK A):BkH A R S (upd H l o):=by
 simp at n;obtain⟨e,m,i⟩:=B.rows;obtain⟨d,k,g⟩:=B.sts;obtain⟨b,j,f⟩:=B.num;have c:∀a xs,H a=some _->upd H l o a=some _:=Zn4 h;exact⟨by rw[Za9 (fun z=>by have:=B.ins;simp_all)];exact B.ins,⟨e,by rw[Za9 fun z=>n.1 z.symm];omega,Paired.mapP i fun _ _ z=>z.keep c⟩,⟨d,by rw[Za9 fun z=>n.2.1 z.symm];omega,Paired.mapP g fun _ _ z=>z.keepT c⟩,⟨b,by rw[Za9 fun z=>n.2.2 z.symm];omega,f⟩,B.bk,B.okr,B.ne⟩
theorem sfB (A:BkA)(n:Nat):SF (badK A) (StB A n) leB RB:=by
 refine⟨fun s=>⟨yau _,yau _⟩,fun a b c d j=>⟨d.1.trans j.1,d.2.trans j.2⟩,fun i s H x e h=>⟨h.1.keep e,h.2⟩,fun i s H l p o e n h=>⟨h.1.put e n,h.2⟩,fun s s' t v h zZ=>(by obtain⟨k,e1,e2⟩:=zZ;exact ⟨k,e1,Yn3 h.2 e2⟩),fun i s H x h f a p e=>?_,fun i s H a h m=>?_⟩
 ·obtain⟨r,d,_⟩:=h.1.rows
  obtain⟨q,w,_⟩:=h.1.sts;obtain⟨g,u,_⟩:=h.1.num;refine f a _ (fun z=>?_) e
  grind
 ·obtain⟨r,d,_⟩:=h.1.rows
  obtain⟨q,w,_⟩:=h.1.sts;obtain⟨g,u,_⟩:=h.1.num
  grind
theorem SameK.fr {A:BkA}(h:SameK A H H'):FrB (badK A) H H':=fun a o n e=>by
 simp at n;exact h a o n.1 n.2.1 n.2.2 e
end Ken
variable {A0:Ken.BkA}{R:List Ken.Rw}
namespace L2
open PySem PySem.Spec PyProof.Rows
section
variable {t:TA}{es:List Expr}
theorem Zc5 {es':List Expr}{k:Nat}{p:Pos}(ha:PE X (.Tuple es' k p) te)(hr:PA X es t):PA X (.Tuple es' k p::es) (Zx5 te t):=Za0 ha hr rfl
theorem Zb3 {c:Const}{k:Nat}{p:Pos}(ha:PE X (.Constant c k p) te)(hr:PA X es t):PA X (.Constant c k p::es) (Zx5 te t):=Za0 ha hr rfl
theorem Za8 {p:Pos}(ha:PE X (.Name x p) te)(hr:PA X es t):PA X (.Name x p::es) (Zx5 te t):=Za0 ha hr rfl
theorem Zp7 {a b:Expr}{p:Pos}(ha:PE X (.Subscript a b p) te)(hr:PA X es t):PA X (.Subscript a b p::es) (Zx5 te t):=Za0 ha hr rfl
end
end L2
namespace Ken
open PySem L2
def LtK (_:W.Frag)(H:Hp)(v:V)(t:Tm):Prop:=Lt t H v
def LEK (K:W.Frag)(H:Hp)(v:V)(t:Te):Prop:=LE K t H v
structure KeepL (K:W.Frag)(H H':Hp):Prop where
 t:TKp H H'
 k:KeepT K H H'
section
variable {v:V}
theorem KeepL.refl (H:Hp):KeepL K H H:=⟨fun _ _ h=>h,KeepT.refl _⟩
theorem KeepL.trans (a:KeepL K H H1)(b:KeepL K H1 H'):KeepL K H H':=⟨a.t.trans b.t,a.k.trans b.k⟩
theorem _root_.L2.Same.keepL {K:W.Frag}(e:Same H H'):KeepL K H H':=⟨Zv0 e,e.keepT⟩
theorem Ze3 {o:HO}(h:H p=none):KeepL K H (upd H p o):=(Za6 h o).keepL
theorem Zg5 {xs:List V}{o:HO}(h:H l=some (.lst xs)):KeepL K H (upd H l o):=⟨Zn4 h,Zm1 h⟩
theorem LtK.isT {t:Tm}(h:LtK K H v t):IsT K H v t:=Lt.isT h
theorem LtK.keep {t:Tm}(h:LtK K H v t)(k:KeepL K H H'):LtK K H' v t:=Lt.keepT k.t h
theorem LEK.isE {t:Te}(h:LEK K H v t):IsE K H v t:=LE.isE h
theorem LEK.keep {t:Te}(h:LEK K H v t)(k:KeepL K H H'):LEK K H' v t:=LE.keepT k.t k.k h
theorem ltK_low:LtK K H v .low↔∃p,v=.ref p/\H p=some (.tup [.str "low"]):=zdq
theorem ltK_ltr:LtK K H v (.ltr x)↔∃p,v=.ref p/\H p=some (.tup [.str "letter",.str x]):=zdq
theorem ltK_nd {k:Kd}{a b:Tm}:LtK K H v (.nd k a b)↔∃p x y,v=.ref p/\H p=some (.tup [.str k.str,x,y])/\LtK K H x a/\LtK K H y b:=zdq
theorem leK_atV {k:Nat}:LEK K H v (.at k)↔∃p,v=.ref p/\SqT K H p [.str "at",.int (k:Nat)]:=zdq
theorem leK_oneV {u:U5}{a:Te}{ss:List Tm}:LEK K H v (.one u a ss)↔∃p x rs,v=.ref p/\SqT K H p (.str u.str::x::rs)/\LEK K H x a/\Paired (LtK K H) rs ss:=zdq
theorem leK_twoV {u:U2}{a b:Te}:LEK K H v (.two u a b)↔∃p x y,v=.ref p/\SqT K H p [.str u.str,x,y]/\LEK K H x a/\LEK K H y b:=zdq
theorem leK_fnV {s:Tm}{a:Te}:LEK K H v (.fn s a)↔∃p x y,v=.ref p/\SqT K H p [.str "fun",x,y]/\LtK K H x s/\LEK K H y a:=zdq
theorem leK_csV {a b c:Te}:LEK K H v (.cs a b c)↔∃p x y z,v=.ref p/\SqT K H p [.str "cases",x,y,z]/\LEK K H x a/\LEK K H y b/\LEK K H z c:=zdq
theorem Zp9 {x:V}{u:U5}{a:Te}(h:SqT K H p [.str u.str,x])(h1:LEK K H x a):LEK K H (.ref p) (.one u a []):=leK_oneV.mpr ⟨p,x,[],rfl,h,h1,.nil⟩
theorem Zt8 {x:V}{u:U5}{a:Te}{s:Tm}(h:SqT K H p [.str u.str,x,y])(h1:LEK K H x a)(h2:LtK K H y s):LEK K H (.ref p) (.one u a [s]):=leK_oneV.mpr ⟨p,x,[y],rfl,h,h1,.cons h2 .nil⟩
theorem Zl0 {x:V}{u:U2}{a b:Te}(h:SqT K H p [.str u.str,x,y])(h1:LEK K H x a)(h2:LEK K H y b):LEK K H (.ref p) (.two u a b):=leK_twoV.mpr ⟨p,x,y,rfl,h,h1,h2⟩
theorem Yt7 {x:V}{s:Tm}{a:Te}(h:SqT K H p [.str "fun",x,y])(h1:LtK K H x s)(h2:LEK K H y a):LEK K H (.ref p) (.fn s a):=leK_fnV.mpr ⟨p,x,y,rfl,h,h1,h2⟩
theorem Zw0 {k:Nat}(h:SqT K H p [.str "at",.int (k:Nat)]):LEK K H (.ref p) (.at k):=leK_atV.mpr ⟨p,rfl,h⟩
theorem Xr1 {ss:List Tm}{rs:List V}(k:KeepL K H H')(h:Paired (LtK K H) rs ss):Paired (LtK K H') rs ss:=Paired.mapP h fun _ _ z=>z.keep k
theorem nw3 {xs:List V}{J:Hp}(e:upd H p (.tup xs)=J):J p=some (.tup xs):=e▸Za5
end
def MadeL (K:W.Frag)(H:Hp)(ws:List Str)(p d:Nat)(r:V)(t:Tm):Prop:=LtK K H r t/\t.inW ws/\t.parts<=p/\t.deep<=d
theorem MadeL.mono {p p' d':Nat}{r:V}{t:Tm}(h:MadeL K H ws p d r t)(k:KeepL K H H')(hp:p<=p')(hd:d<=d'):MadeL K H' ws p' d' r t :=
 ⟨h.1.keep k,h.2.1,yj h.2.2.1 hp,yj h.2.2.2 hd⟩
section
theorem Yo2 (ws:List Str)(hp:H p=none):MadeL K (upd H p (.tup [.str "low"])) ws 1 1 (.ref p) .low :=
 ⟨ltK_low.mpr ⟨p,rfl,Za5⟩,trivial,zg _,zg _⟩
theorem Xk5 {w:Str}(hw:w∈ws)(hp:H p=none):MadeL K (upd H p (.tup [.str "letter",.str w])) ws 1 1 (.ref p) (.ltr w) :=
 ⟨ltK_ltr.mpr ⟨p,rfl,Za5⟩,hw,zg _,zg _⟩
theorem Yy7 {k:Kd}{x:V}{a b:Tm}{pa da pb db:Nat}(ha:MadeL K H ws pa da x a)(hb:MadeL K H ws pb db y b)(hp:H p=none):
  MadeL K (upd H p (.tup [.str k.str,x,y])) ws (1+pa+pb) (1+max da db) (.ref p) (.nd k a b):=by
 refine⟨ltK_nd.mpr ⟨p,x,y,rfl,Za5,ha.1.keep (Ze3 hp),hb.1.keep (Ze3 hp)⟩,⟨ha.2.1,hb.2.1⟩,?_,?_⟩
 ·show 1+a.parts+b.parts<=_
  have:=ha.2.2.1;have:=hb.2.2.1;omega
 ·show 1+max _ _<=_
  have:=ha.2.2.2;have:=hb.2.2.2;omega
end
inductive sp_leafL (K:W.Frag):Sp
 |mk {vs H Q E:_} (c:Int) (wa:Addr) (ws:List Str):vs=[.int c,.ref wa]->SqL K H wa (ws.map V.str)->Yw0 ws->(∀(r:V) (H':Hp) (t:Tm),Same H H'->MadeL K H' ws 1 1 r t->Q r H')->sp_leafL K vs H Q E
inductive sp_stmL (K:W.Frag)(n:Nat):Sp
 |mk {vs H Q E:_} (c size:Int) (wa:Addr) (ws:List Str):vs=[.int c,.int size,.ref wa]->0<=c->0<=size->size<=39->rk size < n->SqL K H wa (ws.map V.str)->Yw0 ws->(∀(r:V) (H':Hp) (t:Tm),Same H H'->MadeL K H' ws (max 1 size.toNat) (rk size+1) r t->Q r H')->sp_stmL K n vs H Q E
theorem Zl8 {c n:Int}{wa:Addr}{Q:VK}{E:XK}(hc:0<=c)(h0:0<=n)(h1:n<=11)(hS:SqL K H wa (ws.map V.str))(hw:Yw0 ws)(q:∀(r:V) (H':Hp) (t:Tm),Same H H'->LtK K H' r t->t.inW ws->t.parts<=max 1 n.toNat->Q r H'):sp_stmL K 12 [.int c,.int n,.ref wa] H Q E:=by
 refine⟨c,n,wa,ws,rfl,hc,h0,by omega,?_,hS,hw,fun r H' t e m=>q r H' t e m.1 m.2.1 m.2.2.1⟩;unfold rk;rw[if_pos (by omega)];omega
inductive sp_lliftL (K:W.Frag)(n:Nat):Sp
 |mk {vs H Q E:_} (v:V) (t:Te) (f:Nat) (ws:List Str):vs=[v,.int (f:Nat)]->LEK K H v t->t.fine ws->t.deep<=n->(∀(r:V) (H':Hp),Same H H'->LEK K H' r (t.mp (Zl5 1) f)->Q r H')->sp_lliftL K n vs H Q E
theorem MadeK.mono {s b d' s' b':Nat}{r:V}(h:MadeK K H Γ ws d s b r)(k:KeepL K H H')(h1:d<=d')(h2:s<=s')(h3:b<=b'):MadeK K H' Γ ws d' s' b' r:=by
 obtain⟨p,x,y,t,g,e,o,n,m,a,l,j,i,f,c⟩:=h;exact⟨p,x,y,t,g,e,k.k _ _ o,LEK.keep n k,LtK.keep m k,a,l,yj j h1,yj i h2,f,yj c h3⟩
structure GvL (K:W.Frag)(H:Hp)(ws:List Str)(wa ga:Addr)(gs:List V)(ts:List Tm):Prop where
 w:SqL K H wa (ws.map V.str)
 wo:Yw0 ws
 g:H ga=some (.lst gs)
 p:Paired (LtK K H) gs ts
 o:∀s∈ts,okW ws s
theorem GvL.keep {wa:Addr}{ts:List Tm}(h:GvL K H ws wa ga gs ts)(e:Same H H'):GvL K H' ws wa ga gs ts :=
 ⟨e.seq h.w,h.wo,e _ _ h.g,Paired.mapP h.p fun _ _ z=>LtK.keep z e.keepL,h.o⟩
theorem GvL.pT {wa:Addr}{ts:List Tm}(h:GvL K H ws wa ga gs ts):Paired (IsT K H) gs ts:=Paired.mapP h.p fun _ _ z=>LtK.isT z
theorem Zg3 {x:V}{s b:Nat}{t:Te}{g:Tm}(h:SqT K H p [x,y])(h1:LEK K H x t)(h2:LtK K H y g)(h3:t.fine ws)(h4:t.deep<=d)(h5:t.size<=s)(h6:g.inW ws)(h7:g.parts<=b)(hk:HasK Γ t g):MadeK K H Γ ws d s b (.ref p) :=
 ⟨p,x,y,t,g,rfl,h,h1,h2,hk,h3,h4,h5,h6,h7⟩
inductive sp_lsimpleL (K:W.Frag):Sp
 |mk {vs H Q E:_} (c:Int) (ga wa:Addr) (ws:List Str) (gs:List V) (ts:List Tm):vs=[.int c,.ref ga,.ref wa]->0<=c->GvL K H ws wa ga gs ts->ts.length<=40->(∀(r:V) (H':Hp),Same H H'->MadeK K H' ts ws 2 2 60 r->Q r H')->sp_lsimpleL K vs H Q E
inductive sp_drawL (K:W.Frag)(lo n b:Nat):Sp
 |mk {vs H Q E:_} (c:Int) (m:Nat) (ga wa:Addr) (ws:List Str) (gs:List V) (ts:List Tm):vs=[.int c,.int (m:Nat),.ref ga,.ref wa]->0<=c->lo<=m->m<=n->m<=24->GvL K H ws wa ga gs ts->ts.length+m<=40->(∀(r:V) (H':Hp),Same H H'->MadeK K H' ts ws (dB m) (sB m) b r->Q r H')->sp_drawL K lo n b vs H Q E
def LI (K:W.Frag)(H:Hp):Te->List V->Prop
 | .at k,xs=>xs=[.str "at",.int (k:Nat)]
 | .one u a ss,xs=>∃x rs,xs=.str u.str::x::rs/\LEK K H x a/\Paired (fun r s=>Lt s H r) rs ss
 | .two u a b,xs=>∃x y,xs=[.str u.str,x,y]/\LEK K H x a/\LEK K H y b
 | .fn s a,xs=>∃x y,xs=[.str "fun",x,y]/\Lt s H x/\LEK K H y a
 | .cs a b c,xs=>∃x y z,xs=[.str "cases",x,y,z]/\LEK K H x a/\LEK K H y b/\LEK K H z c
section
variable {v:V}{t:Te}{xs:List V}
theorem leK_view:LEK K H v t↔∃p xs,v=.ref p/\SqT K H p xs/\LI K H t xs:=by
 cases t with
 |«at» k =>
  constructor
  ·rintro⟨p,e,h⟩;exact⟨p,_,e,h,rfl⟩
  ·rintro⟨p,xs,e,h,rfl⟩;exact⟨p,e,h⟩
 |one u a ss =>
  constructor
  ·rintro⟨p,x,g,e,h,f,d⟩;exact⟨p,_,e,h,x,g,rfl,f,d⟩
  ·rintro⟨p,xs,e,h,x,g,rfl,f,d⟩;exact⟨p,x,g,e,h,f,d⟩
 |two u a b =>
  constructor
  ·rintro⟨p,x,y,e,h,f,d⟩;exact⟨p,_,e,h,x,y,rfl,f,d⟩
  ·rintro⟨p,xs,e,h,x,y,rfl,f,d⟩;exact⟨p,x,y,e,h,f,d⟩
 |fn s a =>
  constructor
  ·rintro⟨p,x,y,e,h,f,d⟩;exact⟨p,_,e,h,x,y,rfl,f,d⟩
  ·rintro⟨p,xs,e,h,x,y,rfl,f,d⟩;exact⟨p,x,y,e,h,f,d⟩
 |cs a b c =>
  constructor
  ·rintro⟨p,x,y,z,e,h,f,d,i⟩;exact⟨p,_,e,h,x,y,z,rfl,f,d,i⟩
  ·rintro⟨p,xs,e,h,x,y,z,rfl,f,d,i⟩;exact⟨p,x,y,z,e,h,f,d,i⟩
theorem LI.len (h:LI K H t xs):xs.length=t.items.length:=by
 cases t with
 |«at» k=>cases h;rfl
 |one u a ss=>obtain⟨x,d,rfl,_,e⟩:=h;show d.length+1+1=(ss.map _).length+1+1;rw[yn,zk e]
 |two u a b=>obtain⟨x,y,rfl,_⟩:=h;rfl
 |fn s a=>obtain⟨x,y,rfl,_⟩:=h;rfl
 |cs a b c=>obtain⟨x,y,z,rfl,_⟩:=h;rfl
theorem LI.tag (h:LI K H t xs):xs[0]?=some (.str t.tag):=by
 cases t with
 |«at» k=>cases h;rfl
 |one u a ss=>obtain⟨x,d,rfl,_,e⟩:=h;rfl
 |two u a b=>obtain⟨x,y,rfl,_⟩:=h;rfl
 |fn s a=>obtain⟨x,y,rfl,_⟩:=h;rfl
 |cs a b c=>obtain⟨x,y,z,rfl,_⟩:=h;rfl
theorem LI.kid {p:Nat}{k:Te}(h:LI K H t xs)(hr:t.inn[i]?=some (p,m))(hk:t.kids[i]?=some (k,m)):∃u,xs[p]?=some u/\LEK K H u k:=by
 cases t with
 |«at» k=>cases i<;>cases hk
 |one u a ss =>
  obtain⟨x,g,rfl,e,d⟩:=h
  match i,hr,hk with
  | 0,hr,hk=>cases hr;cases hk;exact⟨x,rfl,e⟩
 |two u a b =>
  obtain⟨x,y,rfl,e,d⟩:=h
  match i,hr,hk with
  | 0,hr,hk=>cases hr;cases hk;exact⟨x,rfl,e⟩
  | 1,hr,hk=>cases hr;cases hk;exact⟨y,rfl,d⟩
 |fn s a =>
  obtain⟨x,y,rfl,e,d⟩:=h
  match i,hr,hk with
  | 0,hr,hk=>cases hr;cases hk;exact⟨y,rfl,d⟩
 |cs a b c =>
  obtain⟨x,y,z,rfl,e,d,f⟩:=h
  match i,hr,hk with
  | 0,hr,hk=>cases hr;cases hk;exact⟨x,rfl,e⟩
  | 1,hr,hk=>cases hr;cases hk;exact⟨y,rfl,d⟩
  | 2,hr,hk=>cases hr;cases hk;exact⟨z,rfl,f⟩
theorem LI.keep (k:KeepL K H H')(h:LI K H t xs):LI K H' t xs:=by
 cases t with
 |«at» k=>exact h
 |one u a ss=>obtain⟨x,g,e,f,d⟩:=h;exact⟨x,g,e,f.keep k,Paired.mapP d fun _ _ z=>Lt.keepT k.t z⟩
 |two u a b=>obtain⟨x,y,e,f,d⟩:=h;exact⟨x,y,e,f.keep k,d.keep k⟩
 |fn s a=>obtain⟨x,y,e,f,d⟩:=h;exact⟨x,y,e,Lt.keepT k.t f,d.keep k⟩
 |cs a b c=>obtain⟨x,y,z,e,f,d,i⟩:=h;exact⟨x,y,z,e,f.keep k,d.keep k,i.keep k⟩
theorem LI.set {us:List V}{ks:List Te}(h:LI K H t xs)(hU:Paired (LEK K H) us ks)(hk:ks.length=t.kids.length):LI K H (t.withK ks) (Zq1 xs t.plc us):=by
 cases t with
 |«at» k =>
  cases hU with
  |nil=>assumption
  |cons _ _=>cases hk
 |one u a ss =>
  obtain⟨x,f,rfl,e,d⟩:=h
  cases hU with
  |nil=>cases hk
  |cons g1 t1=>cases t1 with
   |nil=>exact⟨_,f,rfl,g1,d⟩
   |cons _ _=>cases hk
 |two u a b =>
  obtain⟨x,y,rfl,e,d⟩:=h
  cases hU with
  |nil=>cases hk
  |cons g1 t1=>cases t1 with
   |nil=>cases hk
   |cons g2 t2=>cases t2 with
    |nil=>exact⟨_,_,rfl,g1,g2⟩
    |cons _ _=>cases hk
 |fn s a =>
  obtain⟨x,y,rfl,e,d⟩:=h
  cases hU with
  |nil=>cases hk
  |cons g1 t1=>cases t1 with
   |nil=>exact⟨_,_,rfl,e,g1⟩
   |cons _ _=>cases hk
 |cs a b c =>
  obtain⟨x,y,z,rfl,e,d,g⟩:=h
  cases hU with
  |nil=>cases hk
  |cons g1 t1=>cases t1 with
   |nil=>cases hk
   |cons g2 t2=>cases t2 with
    |nil=>cases hk
    |cons g3 t3=>cases t3 with
     |nil=>exact⟨_,_,_,rfl,g1,g2,g3⟩
     |cons _ _=>cases hk
def LPf (K:W.Frag)(H:Hp)(v:V)(p:Pf):Prop:=∃a x,v=.ref a/\SqT K H a [x,.int (p.2:Nat)]/\LEK K H x p.1
theorem LPf.keep {p:Pf}(h:LPf K H v p)(k:KeepL K H H'):LPf K H' v p:=by
 obtain⟨a,x,e,c,b⟩:=h;exact⟨a,x,e,k.k _ _ c,b.keep k⟩
theorem lPf {p:Pf}:LPf K H v p↔∃a x,v=.ref a/\SqT K H a [x,.int (p.2:Nat)]/\LEK K H x p.1:=zdq
theorem tk_T (e:SameT H H'):TKp H H':=fun a b z=>e _ _ (by simp) z
theorem _root_.L2.SameT.keepL {K:W.Frag}(e:SameT H H'):KeepL K H H':=⟨tk_T e,SameT.keepT e⟩
theorem Ww8 {xs:List (Addr×Obj)}(hx:∀p∈xs,H p.1=some (FZ p.2)):TKp H (remX xs H):=fun a b h=>by
 rw[Zd2 fun z=>?_]
 ·exact h
 grind
theorem LE.move (k:TKp H H')(kt:∀a xs,SqT K H a xs->SqT K' H' a xs):∀{t:Te} {v:V},LE K t H v->LE K' t H' v
 | .at _,_,⟨p,e,h⟩=>⟨p,e,kt _ _ h⟩
 | .one _ _ _,_,⟨p,x,rs,e,h,h1,h2⟩=>⟨p,x,rs,e,kt _ _ h,LE.move k kt h1,Paired.mapP h2 fun _ _ z=>z.keepT k⟩
 | .two _ _ _,_,⟨p,x,y,e,h,h1,h2⟩=>⟨p,x,y,e,kt _ _ h,LE.move k kt h1,LE.move k kt h2⟩
 | .fn _ _,_,⟨p,x,y,e,h,h1,h2⟩=>⟨p,x,y,e,kt _ _ h,h1.keepT k,LE.move k kt h2⟩
 | .cs _ _ _,_,⟨p,x,y,z,e,h,h1,h2,h3⟩=>⟨p,x,y,z,e,kt _ _ h,LE.move k kt h1,LE.move k kt h2,LE.move k kt h3⟩
theorem Yz3 {xs:List (Addr×Obj)}(hx:∀p∈xs,H p.1=some (FZ p.2))(k:KLe K K'){v:V}{t:Te}(h:LEK K H v t):LEK K' (remX xs H) v t:=LE.move (Ww8 hx) (Ya4 hx k) h
theorem Xk9 {xs:List (Addr×Obj)}(hx:∀p∈xs,H p.1=some (FZ p.2))(k:KLe K K'){v:V}{p:Pf}(h:LPf K H v p):LPf K' (remX xs H) v p:=by
 obtain⟨a,x,e,c,b⟩:=h;exact⟨a,x,e,Ya4 hx k _ _ c,Yz3 hx k b⟩
theorem Wr6 {xs:List (Addr×Obj)}(hx:∀p∈xs,H2 p.1=none):TKp H2 (Zs0 xs H H2):=fun a b h=>by
 rw[Ze5 fun z=>?_]
 ·exact h
 grind
theorem Yj4 {xs cs:List (Addr×Obj)}(k:∀a o,K'.lookup a=some o->K.lookup a=some o∨(a,o)∈xs++cs)(hn:∀p∈xs++cs,∀its n,p.2.data≠.seq its n)(hx:∀p∈xs,H2 p.1=none){v:V}{t:Te}(h:LEK K' H2 v t):LEK K (Zs0 xs H H2) v t:=LE.move (Wr6 hx) (Wa4 k hn hx) h
theorem Xt6 {kvs:List (Key×V)}(h:H l=some (.dK kvs)):KeepL K H (upd H l o):=⟨fun a b q=>by rw[Za9 (Yt3 q h (by simp))];exact q,Xt5 h⟩
end
instance {K:W.Frag} {H H':Hp}:CoeFun (KeepL K H H') (fun _=>∀a xs,SqT K H a xs->SqT K H' a xs):=⟨fun h=>h.k⟩
inductive sp_standingL (K:W.Frag):Sp
 |mk {vs H Q E:_} (v:V) (t:Te):vs=[v]->LEK K H v t->t.size<=20000->(∀(r:Addr) (H':Hp) (us:List V),Same H H'->H r=none->H' r=some (.lst us)->Paired (LPf K H') us (t.pre 0)->Q (.ref r) H')->sp_standingL K vs H Q E
inductive sp_withL (K:W.Frag):Sp
 |mk {vs H Q E:_} (v:V) (t:Te) (l:Addr) (us:List V) (ks:List Te):vs=[v,.ref l]->LEK K H v t->SqL K H l us->Paired (LEK K H) us ks->ks.length=t.kids.length->(∀(r:V) (H':Hp),Same H H'->LEK K H' r (t.withK ks)->Q r H')->sp_withL K vs H Q E
inductive sp_ofatL (K:W.Frag)(J:Hp->Prop)(F:Nat->Nat->Te)(A:Nat->Nat->Prop):Sp
 |mk {vs H Q E:_} (k f:Nat):vs=[.int (k:Nat),.int (f:Nat)]->J H->A k f->(∀(r:V) (H':Hp),Same H H'->LEK K H' r (F k f)->Q r H')->sp_ofatL K J F A vs H Q E
noncomputable def Xv6 (dl:Addr)(kvs:List (Key×V))(fr:List Int)(o:Te):JP:=fun K H=>H dl=some (.dK kvs)/\∀f:Nat,(f:Int)∈fr->∃u,valV kvs (ycn (f:Int))=some u/\LEK K H u (o.mp (Zl5 f) 0)
theorem Yj6 (dl:Addr)(kvs:List (Key×V))(fr:List Int)(o:Te):JOk (Xv6 dl kvs fr o):=by
 refine⟨fun K H l e h=>⟨e _ _ (fun _ z=>nomatch z) h.1,fun f a=>?_⟩,fun K j H i d k h=>⟨?_,fun f a=>?_⟩⟩
 ·obtain⟨u,c,b⟩:=h.2 f a
  exact⟨u,c,LEK.keep b (SameT.keepL e)⟩
 ·rw[Zd2 fun z=>?_]
  ·exact h.1
  ·obtain⟨p,g,e⟩:=zax.mp z
   have:=d p g;rw[e,h.1] at this
   grind
 ·obtain⟨u,c,b⟩:=h.2 f a
  exact⟨u,c,Yz3 d k b⟩
inductive sp_changedL (K:W.Frag)(T:Addr)(ds:List (Pos×Str))(J:JP)(F:Nat->Nat->Te)(A:Nat->Nat->Prop)(f:Addr):Sp
 |mk {vs H Q E:_} (v:V) (t:Te):vs=[v,.ref f]->LEK K H v t->t.size<=20000->J K H->(∀k f,(Te.at k,f)∈t.pre 0->A k f)->TabOk H T ds->(∀(r:V) (H':Hp),SameV [T] H H'->TabOk H' T ds->LEK K H' r (t.mp F 0)->Q r H')->sp_changedL K T ds J F A f vs H Q E
inductive sp_liftedL (K:W.Frag)(T1 T2:Addr)(d1 d2:List (Pos×Str)):Sp
 |mk {vs H Q E:_} (v:V) (t:Te) (n:Nat):vs=[v,.int (n:Nat)]->LEK K H v t->t.size<=20000->TabOk H T1 d1->TabOk H T2 d2->(∀(r:V) (H':Hp),SameV [T1,T2] H H'->TabOk H' T1 d1->TabOk H' T2 d2->LEK K H' r (t.mp (Zl5 n) 0)->Q r H')->sp_liftedL K T1 T2 d1 d2 vs H Q E
inductive sp_tfoldL (K:W.Frag)(J:Hp->Prop)(R:RP)(p0:Pf)(f:Addr):Sp
 |mk {vs H Q E:_} (l:Addr) (us:List V):vs=[.ref l,.ref f]->J H->SqL K H l us->Paired (LPf K H) us (preP p0)->p0.1.size<=20000->(∀(r:V) (H':Hp),Same H H'->R H' p0 r->Q r H')->sp_tfoldL K J R p0 f vs H Q E
inductive sp_tfoldNL (K:W.Frag)(tb:TBs)(J:Hp->Prop)(R:RPn)(p0:Pf)(f:Addr):Sp
 |mk {vs H Q E:_} (l:Addr) (us:List V):vs=[.ref l,.ref f]->J H->Tabs H tb->SqL K H l us->Paired (LPf K H) us (preP p0)->p0.1.size<=20000->(∀(r:V) (H':Hp),SameV (tb.map (·.1)) H H'->Tabs H' tb->R H' 0 p0 r->Q r H')->sp_tfoldNL K tb J R p0 f vs H Q E
inductive sp_tpartsL (K:W.Frag):Sp
 |mk {vs H Q E:_} (v:V) (t:Te):vs=[v]->LEK K H v t->t.size<=20000->(∀H',Same H H'->Q (.int (t.size:Nat)) H')->sp_tpartsL K vs H Q E
inductive sp_tdeepL (K:W.Frag)(T:Addr)(d:List (Pos×Str)):Sp
 |mk {vs H Q E:_} (v:V) (t:Te):vs=[v]->LEK K H v t->t.size<=20000->TabOk H T d->(∀H',SameV [T] H H'->TabOk H' T d->Q (.int (t.deep:Nat)) H')->sp_tdeepL K T d vs H Q E
inductive sp_turningsL (K:W.Frag):Sp
 |mk {vs H Q E:_} (v:V) (t:Te):vs=[v]->LEK K H v t->t.size<=20000->(∀H',Same H H'->Q (.int ((idxT 0 (t.pre 0)).length:Nat)) H')->sp_turningsL K vs H Q E
inductive sp_tplacesL (K:W.Frag):Sp
 |mk {vs H Q E:_} (l:Addr) (us:List V) (ps:List Pf):vs=[.ref l]->H l=some (.lst us)->Paired (LPf K H) us ps->ps.length<=20000->(∀(r:Addr) (H':Hp),Same H H'->H r=none->H' r=some (.lst (natW (idxT 0 ps)))->Q (.ref r) H')->sp_tplacesL K vs H Q E
noncomputable abbrev RTnL (K:W.Frag)(m:Nat):RPn:=fun H n p v=>LEK K H v (p.1.tpm m n)
noncomputable def Te.lvs:Te->Nat
 | .at _=>1
 | .one _ a _=>a.lvs
 | .two _ a b=>a.lvs+b.lvs
 | .fn _ a=>a.lvs
 | .cs a b c=>a.lvs+b.lvs+c.lvs
theorem Zk9:∀t:Te,3*t.lvs<=2*t.size+1
 | .at _=>zg _
 | .one u a ss=>by have:=Zk9 a;show 3*a.lvs<=2*(1+a.size)+1;omega
 | .two u a b=>by have:=Zk9 a;have:=Zk9 b;show 3*(a.lvs+b.lvs)<=2*(1+a.size+b.size)+1;omega
 | .fn s a=>by have:=Zk9 a;show 3*a.lvs<=2*(1+a.size)+1;omega
 | .cs a b c=>by have:=Zk9 a;have:=Zk9 b;have:=Zk9 c;show 3*(a.lvs+b.lvs+c.lvs)<=2*(1+a.size+b.size+c.size)+1;omega
noncomputable def Te.lfs:Te->Nat->List Nat
 | .at _,f=>[f]
 | .one _ a _,f=>a.lfs f
 | .two _ a b,f=>a.lfs f++b.lfs f
 | .fn _ a,f=>a.lfs (f+1)
 | .cs a b c,f=>a.lfs f++(b.lfs (f+1)++c.lfs (f+1))
theorem Zo5:∀{t:Te} {f:Nat},(t.lfs f).length=t.lvs
 | .at _,f=>rfl
 | .one u a ss,f=>Zo5 (t:=a)
 | .two u a b,f=>by show (a.lfs f++b.lfs f).length=_;rw[yd,Zo5,Zo5];rfl
 | .fn s a,f=>Zo5 (t:=a)
 | .cs a b c,f=>by show (a.lfs f++_).length=a.lvs+b.lvs+c.lvs;rw[yd,yd,Zo5,Zo5,Zo5];omega
theorem Zo4:∀{t:Te} {f k g:Nat},(Te.at k,g)∈t.pre f->g∈t.lfs f
 | .at _,f,k,g,h=>by cases yf.mp h;exact .head _
 | .one u a ss,f,k,g,h=>by
  rcases zd.mp h with z | h
  ·cases z
  ·exact Zo4 (t:=a) h
 | .two u a b,f,k,g,h=>by
  rcases zd.mp h with z | h
  ·cases z
  ·exact yg.mpr ((yg.mp h).imp (Zo4) (Zo4))
 | .fn s a,f,k,g,h=>by
  rcases zd.mp h with z | h
  ·cases z
  ·exact Zo4 (t:=a) h
 | .cs a b c,f,k,g,h=>by
  rcases zd.mp h with z | h
  ·cases z
  ·exact yg.mpr ((yg.mp h).imp (Zo4) fun h=>yg.mpr ((yg.mp h).imp (Zo4) (Zo4)))
theorem Yf2 {xs:List Int}{t:Te}(nd:xs.Nodup)(h:∀x∈xs,∃f:Nat,x=(f:Int)/\f∈t.lfs 0):xs.length<=t.lvs:=by
 have:=Yz1 (ws:=(t.lfs 0).map fun _=>_) nd fun x a=>by
  obtain⟨f,rfl,b⟩:=h x a;exact zax.mpr ⟨f,b,rfl⟩
 rwa [yn,Zo5] at this
theorem Zp5:∀{t:Te} {f:Nat} {p:Pf},p∈t.pre f->p.1.lvs<=t.lvs
 | .at k,f,p,h=>by rcases yf.mp h with rfl;simp
 | .one u a ss,f,p,h=>by
  rcases zd.mp h with rfl | h
  ·simp
  ·exact Zp5 (t:=a) h
 | .two u a b,f,p,h=>by
  rcases zd.mp h with rfl | h
  ·simp
  ·rcases yg.mp h with h | h<;>have:=Zp5 h<;>(show _<=a.lvs+b.lvs;omega)
 | .fn s a,f,p,h=>by
  rcases zd.mp h with rfl | h
  ·simp
  ·exact Zp5 (t:=a) h
 | .cs a b c,f,p,h=>by
  rcases zd.mp h with rfl | h
  ·simp
  ·rcases yg.mp h with h | h
   ·have:=Zp5 h
    show _<=a.lvs+b.lvs+c.lvs;omega
   ·rcases yg.mp h with h | h<;>have:=Zp5 h<;>(show _<=a.lvs+b.lvs+c.lvs;omega)
inductive sp_turnsL (K:W.Frag):Sp
 |mk {vs H Q E:_} (v:V) (t:Te):vs=[v]->LEK K H v t->Q (.bl t.turns) H->sp_turnsL K vs H Q E
inductive sp_putL (K:W.Frag)(T1 T2 T3:Addr)(d1 d2 d3:List (Pos×Str)):Sp
 |mk {vs H Q E:_} (v:V) (t:Te) (ov:V) (o:Te):vs=[v,ov]->LEK K H v t->LEK K H ov o->t.size<=20000->o.size<=20000->t.lvs<=60->t.all Tm.ok->TabOk H T1 d1->TabOk H T2 d2->TabOk H T3 d3->(∀(r:V) (H':Hp),SameV [T1,T2,T3] H H'->TabOk H' T1 d1->TabOk H' T2 d2->TabOk H' T3 d3->LEK K H' r (t.mp (putF o) 0)->Q r H')->sp_putL K T1 T2 T3 d1 d2 d3 vs H Q E
inductive sp_itselfL (K:W.Frag)(tb:TBs):Sp
 |mk {vs H Q E:_} (v:V) (t:Te):vs=[v]->LEK K H v t->t.turns=true->t.size<=20000->t.lvs<=60->t.all Tm.ok->Tabs H tb->(∀(r:V) (H':Hp),SameV (tb.map (·.1)) H H'->Tabs H' tb->LEK K H' r t.itself->Q r H')->sp_itselfL K tb vs H Q E
inductive sp_turnedL (K:W.Frag)(tb:TBs)(aN aL:Addr):Sp
 |mk {vs H Q E:_} (v:V) (t:Te) (i:Int):vs=[v,.int i]->LEK K H v t->t.size<=5000->t.lvs<=60->t.all Tm.ok->Tabs H tb->(∀j m:Nat,i=(j:Nat)->(idxT 0 (t.pre 0))[j]?=some m->(t.tpm m 0).size<=20000)->(¬(0<=i/\i < ((idxT 0 (t.pre 0)).length:Nat))->∀e H1 H',SameV (tb.map (·.1)) H H1->Tabs H1 tb->Xtd H1 e (.ref aN) none H'->E (.ref e) none H')->(∀(j m:Nat),i=(j:Nat)->(idxT 0 (t.pre 0))[j]?=some m->((t.tpm m 0).size<=1000/\(t.tpm m 0).deep<=120->∀(r:V) (H':Hp),SameV (tb.map (·.1)) H H'->Tabs H' tb->LEK K H' r (t.tpm m 0)->Q r H')/\(¬((t.tpm m 0).size<=1000/\(t.tpm m 0).deep<=120)->∀e H1 H',SameV (tb.map (·.1)) H H1->Tabs H1 tb->Xtd H1 e (.ref aL) none H'->E (.ref e) none H'))->sp_turnedL K tb aN aL vs H Q E
def JPtL (K:W.Frag)(lp pl:Addr)(us:List V)(p0:Pf)(ms:List Nat)(H:Hp):Prop:=SqL K H lp us/\Paired (LPf K H) us (preP p0)/\SqL K H pl (natW ms)
theorem Xl7 {pl:Addr}{us:List V}{p0:Pf}{ms:List Nat}(H H':Hp)(e:SameV ts H H')(h:JPtL K lp pl us p0 ms H):JPtL K lp pl us p0 ms H' :=
 ⟨SameT.seq e.toT h.1,Paired.mapP h.2.1 fun _ _ z=>LPf.keep z (SameT.keepL e.toT),SameT.seq e.toT h.2.2⟩
structure SubL (a t:Te):Prop where
 sz:a.size < t.size
 bd:a.lvs<=t.lvs
 al:t.all Tm.ok->a.all Tm.ok
inductive TViewL (K:W.Frag)(H:Hp)(t:Te):Str->Str->List V->List V->Prop where
 |left {ti:Str} {r:List V} {x y:V} {a:Te}:LEK K H x a->t.itself=a->SubL a t->TViewL K H t "left" ti r [x,y]
 |right {ti:Str} {r:List V} {x y:V} {a:Te}:LEK K H y a->t.itself=a->SubL a t->TViewL K H t "right" ti r [x,y]
 |use {ti:Str} {x y z:V} {b o:Te}:LEK K H y b->LEK K H z o->t.itself=b.mp (putF o) 0->SubL b t->SubL o t->TViewL K H t "use" ti [z] [x,y]
 |cases {ti:Str} {x y z:V} {rs:List V} {b o:Te}:LEK K H (if ti="first" then y else z) b->LEK K H x o->t.itself=b.mp (putF o) 0->SubL b t->SubL o t->(ti="first"∨ti="second")->TViewL K H t "cases" ti [y,z] (x::rs)
theorem Wh5 {t:Te}{v:V}(hT:LEK K H v t)(ht:t.turns=true):∃(p pi:Addr) (tg ti:Str) (r ry:List V),v=.ref p/\SqT K H p (.str tg::.ref pi::r)/\SqT K H pi (.str ti::ry)/\TViewL K H t tg ti r ry:=by
 rcases Zs2 ht with ⟨a,b,m,rfl⟩ | ⟨a,b,m,rfl⟩ | ⟨u,b,o,rfl⟩ | ⟨a,m,b,c,rfl⟩ | ⟨a,m,b,c,rfl⟩
 ·obtain⟨p,x,n,rfl,f,e,_⟩:=hT
  obtain⟨d,k,q,rfl,g,i,j⟩:=e;exact⟨p,d,_,_,_,_,rfl,f,g,.left i rfl ⟨by show a.size < 1+(1+a.size+b.size);omega,by show a.lvs<=a.lvs+b.lvs;omega,fun h=>h.1.1⟩⟩
 ·obtain⟨p,x,n,rfl,f,e,_⟩:=hT
  obtain⟨d,k,q,rfl,g,i,j⟩:=e;exact⟨p,d,_,_,_,_,rfl,f,g,.right j rfl ⟨by show b.size < 1+(1+a.size+b.size);omega,by show b.lvs<=a.lvs+b.lvs;omega,fun h=>h.1.2⟩⟩
 ·obtain⟨p,x,z,rfl,f,e,l⟩:=hT
  obtain⟨d,k,q,rfl,g,i,j⟩:=e;exact⟨p,d,_,_,_,_,rfl,f,g,.use j l rfl ⟨by show b.size < 1+(1+b.size)+o.size;omega,by show b.lvs<=b.lvs+o.lvs;omega,fun h=>h.1.2⟩ ⟨by show o.size < 1+_+o.size;omega,by show o.lvs<=b.lvs+o.lvs;omega,fun h=>h.2⟩⟩
 ·obtain⟨p,x,y,z,rfl,f,e,l,s⟩:=hT
  obtain⟨d,k,n,rfl,g,i,j⟩:=e;exact⟨p,d,_,_,_,_,rfl,f,g,.cases l i rfl ⟨by show b.size < 1+_+b.size+c.size;omega,by show b.lvs<=a.lvs+b.lvs+c.lvs;omega,fun h=>h.2.1⟩ ⟨by show a.size < 1+(1+a.size)+b.size+c.size;omega,by show a.lvs<=a.lvs+b.lvs+c.lvs;omega,fun h=>h.1.1⟩ (.inl rfl)⟩
 ·obtain⟨p,x,y,z,rfl,f,e,l,s⟩:=hT
  obtain⟨d,k,n,rfl,g,i,j⟩:=e;exact⟨p,d,_,_,_,_,rfl,f,g,.cases s i rfl ⟨by show c.size < 1+_+b.size+c.size;omega,by show c.lvs<=a.lvs+b.lvs+c.lvs;omega,fun h=>h.2.2⟩ ⟨by show a.size < 1+(1+a.size)+b.size+c.size;omega,by show a.lvs<=a.lvs+b.lvs+c.lvs;omega,fun h=>h.1.1⟩ (.inr rfl)⟩
theorem BkH.via {A:BkA}(k:∀a o,(∀b,o≠FZ b)->(∀ps,o≠.tbl ps)->H a=some o->H' a=some o)(B:BkH A R S H):BkH A R S H':=by
 obtain⟨g,p,n⟩:=B.rows;obtain⟨f,m,l⟩:=B.sts;obtain⟨d,j,i⟩:=B.num;have e:∀a c,H a=some _->H' a=some (.tup c):=fun a c h=>k a _ (fun _ z=>nomatch z) (fun _ z=>nomatch z) h;exact⟨k _ _ (fun _ z=>nomatch z) (fun _ z=>nomatch z) B.ins,⟨g,k _ _ (fun _ z=>nomatch z) (fun _ z=>nomatch z) p,Paired.mapP n fun _ _ z=>z.keep e⟩,⟨f,k _ _ (fun _ z=>nomatch z) (fun _ z=>nomatch z) m,Paired.mapP l fun _ _ z=>z.keepT e⟩,⟨d,k _ _ (fun _ z=>nomatch z) (fun _ z=>nomatch z) j,i⟩,B.bk,B.okr,B.ne⟩
theorem Wb0 (hx:∀p∈xs,H p.1=some (FZ p.2))(a:Addr)(o:HO)(n:∀b,o≠FZ b)(h:H a=some o):remX xs H a=some o:=by
 rw[Zd2 fun z=>?_]
 ·exact h
 ·obtain⟨p,c,rfl⟩:=zax.mp z
  rw[hx p c] at h;exact n _ (zu h).symm
theorem Xv3 (hx:∀p∈xs,H2 p.1=none)(a:Addr)(o:HO)(h:H2 a=some o):Zs0 xs H H2 a=some o:=by
 rw[Ze5 fun z=>?_]
 ·exact h
 grind
theorem FrB.back (h:FrB bad (remX xs H) H2):FrB bad H (Zs0 xs H H2):=fun b o n e=>by
 by_cases z:b∈xs.map (·.1)
 ·rw[Zl2 z];exact e
 ·rw[Ze5 z];exact h b o n (by rw[Zd2 z];exact e)
theorem FrB.mono {bad':List Addr}(h:FrB bad H H')(m:∀a∈bad,a∈bad'):FrB bad' H H':=fun a o n e=>h a o (fun z=>n (m a z)) e
theorem FrB.ofU (h:SameU T H H'):FrB (T::bad) H H':=fun a o n e=>h.off a o (fun z=>n (by simp[*])) e
def Mut (bad:List Addr)(H:Hp):Prop:=∀a∈bad,∃o,H a=some o/\(∀xs,o≠.tup xs)/\∀b u,o≠.frz b u
theorem FrB.tk (h:FrB bad H H')(m:Mut bad H):TKp H H':=fun a b e=>h a _ (fun z=>by
 obtain⟨o,d,c,_⟩:=m a z
 simp_all) e
theorem FrB.keepT (h:FrB bad H H')(m:Mut bad H):KeepT K H H':=fun a b e=>by
 rcases e with (e | ⟨o,e⟩) | e
 ·exact .inl (.inl (h.tk m a b e))
 ·refine .inl (.inr ⟨o,h a _ (fun z=>?_) e⟩)
  obtain⟨c,f,_,d⟩:=m a z
  simp_all
 ·exact .inr e
theorem BkH.mut {A:BkA}(B:BkH A R S H):Mut (badK A) H:=fun a m=>by
 obtain⟨g,d,_⟩:=B.rows;obtain⟨f,c,_⟩:=B.sts;obtain⟨e,b,_⟩:=B.num;simp at m;rcases m with rfl | rfl | rfl
 ·exact⟨_,d,(fun _ z=>nomatch z),fun _ _ z=>nomatch z⟩
 ·exact⟨_,c,(fun _ z=>nomatch z),fun _ _ z=>nomatch z⟩
 ·exact⟨_,b,(fun _ z=>nomatch z),fun _ _ z=>nomatch z⟩
theorem TabOk.mut (h:TabOk H T ds)(m:Mut bad H):Mut (T::bad) H:=fun a z=>by
 rcases zd.mp z with rfl | z
 ·obtain⟨c,b,_⟩:=h
  exact⟨_,b,(fun _ z=>nomatch z),fun _ _ z=>nomatch z⟩
 ·exact m a z
theorem TabOk.frB {A:BkA}(B:BkH A R S H)(h:TabOk H T ds)(f:FrB (badK A) H H'):TabOk H' T ds:=by
 have m:=B.mut;obtain⟨u,D,_⟩:=B.rows;obtain⟨a,C,_⟩:=B.sts;obtain⟨s,y,_⟩:=B.num;obtain⟨b,k,j,i⟩:=h;refine⟨b,f _ _ (fun z=>?_) k,j,fun d g r e=>?_⟩
 ·grind
 ·obtain⟨c,o,a,t,q,p,n,l⟩:=i d g r e
  refine⟨c,o,a,t,q,f _ _ (fun z=>?_) p,n,l⟩;obtain⟨v,x,_,w⟩:=m c z
  simp_all
structure NumT where
 T:Addr
 ds:List (Pos×Str)
structure BkT (A:BkA)(N:NumT)(R:List Rw)(S:List Tm)(H:Hp):Prop where
 b:BkH A R S H
 t:TabOk H N.T N.ds
noncomputable abbrev badT (A:BkA)(N:NumT):List Addr:=N.T::badK A
theorem BkT.keep {A:BkA}{N:NumT}(B:BkT A N R S H)(e:Same H H'):BkT A N R S H':=⟨B.b.keep e,B.t.keep e⟩
theorem BkT.mut {A:BkA}{N:NumT}(B:BkT A N R S H):Mut (badT A N) H:=TabOk.mut B.t B.b.mut
theorem BkT.has {A:BkA}{N:NumT}(B:BkT A N R S H)(h:H l=none):l ∉ badT A N:=fun z=>by
 obtain⟨o,e,_⟩:=B.mut l z
 grind
inductive sp_number (A:BkA)(N:NumT):Sp
 |mk {vs H Q E:_} (v:V) (t:Tm) (R:List Rw) (S:List Tm):vs=[.ref A.b,v]->BkT A N R S H->LtV H v t->t.parts<=400->R.length<=350000->(∀(k:Nat) (H':Hp) (R':List Rw) (S':List Tm),FrB (badT A N) H H'->BkT A N R' S' H'->R <+: R'->S <+: S'->R'.length<=R.length+t.parts->S'[k]?=some t->Q (.int (k:Nat)) H')->sp_number A N vs H Q E
end Ken
variable {N:Ken.NumT}
namespace L2
open PySem PySem.Spec PyProof.Rows
section
def Xv9 {ι:Type}(i:Nat)(f:ι->Addr)(sp:ι->Sp)(t:TA):TE:=fun σ H Q=>∃r,σ[i]?=some (some (.ref (f r)))/\t σ H fun vs H1=>sp r vs H1 Q (fun _ _ _=>False)
theorem Xs9 {ι:Type}{k:Nat}{f:ι->Addr}{fd:ι->zc}{sp:ι->Sp}{p:Pos}{e:Expr}{es:List Expr}{t:TA}{i:Nat}(F:∀r,FnOk X.prog X.w X.K X.mg X.base (fun _ _ _ _ _ _=>False) k (f r) (fd r) ps (sp r))(hr:Room k X.A)(hN:X.N[i]?=some x)(hk:∀r,zan X.K (.ref (f r))=true)(hb:∀r,Binds X.K (fd r) ps [])(ha:PA X (e::es) t)(hv:Vis X.env.scope x:=by first | exact .inl rfl | exact .inr (.inl rfl) | exact .inr (.inr rfl))(hdb:(x == ("__debug__":Str))=false:=by decide)(hcd:(x == ("__classdict__":Str))=false:=by decide)(he:zx (e::es) X.env=(false,eval e X.env)::zx es X.env:=by rfl)(hpl:(backTo pos (zx es X.env)).any (·.1)=false:=by rfl):
  PE X (.Call (.Name x p) (e::es) [] pos) (Xv9 i f sp t):=by with_unfolding_all
 intro a s b H Q I h;obtain⟨r,c,l⟩:=h;refine Zt2 (F r) hr hN hv (hk r) (hb r) .nil (E:=fun _ _ _=>False) (fun a b H s e j _ z=>z.elim) ha hdb hcd he hpl a s b H Q I ⟨c,?_⟩;show t b H fun g d=>sp r _ d Q _
 simp_all
end
end L2
namespace Ken
open PySem L2
def Xp9:Te->List Tm->Tm->Prop
 | .at _,_,_=>False
 | .one .left _ _,gs,g=>∃h,gs=[.nd .both g h]
 | .one .right _ _,gs,g=>∃h,gs=[.nd .both h g]
 | .one .first _ ss,gs,g=>∃h s,ss=[s]/\gs=[h]/\g=.nd .one h s
 | .one .second _ ss,gs,g=>∃h s,ss=[s]/\gs=[h]/\g=.nd .one s h
 | .one .off _ ss,gs,g=>ss=[g]/\gs=[.low]
 | .two .pair _ _,gs,g=>∃h k,gs=[h,k]/\g=.nd .both h k
 | .two .use _ _,gs,g=>∃h,gs=[.nd .thn h g,h]
 | .fn s _,gs,g=>∃h,gs=[h]/\g=.nd .thn s h
 | .cs _ _ _,gs,g=>∃h k,gs=[.nd .one h k,g,g]
noncomputable def Zw3:Te->List Tm->List Tm
 | .fn s _,_=>[s]
 | .cs _ _ _,[.nd .one h _]=>[h]
 | .cs _ _ _,[.nd .one _ k,_]=>[k]
 | _,_=>[]
def KidsK (Γ:List Tm)(t:Te)(gs:List Tm):Prop:=∀i g,gs[i]?=some g->∃kid m,t.kids[i]?=some (kid,m)/\HasK (Zw3 t (gs.take i)++Γ) kid g
theorem Yo4 (Γ:List Tm)(t:Te):KidsK Γ t []:=fun i g h=>by cases h
theorem KidsK.more {t:Te}{gs:List Tm}(h:KidsK Γ t gs){kid:Te}{g:Tm}(h1:t.kids[gs.length]?=some (kid,m))(h2:HasK (Zw3 t gs++Γ) kid g):KidsK Γ t (gs++[g]):=fun i b e=>by
 have a:=(yc.mp e).1;rw[yd,zab] at a
 by_cases c:i < gs.length
 ·rw[yh c] at e
  rw[List.take_append_of_le_length (zv c)];exact h i b e
 ·have d:i=gs.length:=by omega
  subst d;rw[yk (by simp),zbk] at e;cases e;rw[List.take_left];exact⟨kid,m,h1,h2⟩
theorem Zu0 {a b c:Te}{gs:List Tm}{g h k:Tm}(hk:KidsK Γ (.cs a b c) (g0::gs))(ha:HasK Γ a (.nd .one h k)):g0=.nd .one h k:=by
 obtain⟨d,m,e,z⟩:=hk 0 g0 rfl;cases e;exact Zc9 z ha
theorem Xk1 {t:Te}{g:Tm}{gs:List Tm}(h:HasK Γ t g)(hk:KidsK Γ t gs){kid:Te}(e:t.kids[gs.length]?=some (kid,m)):(∃g',HasK (Zw3 t gs++Γ) kid g')/\((m=0/\Zw3 t gs=[])∨(m=1/\∃s,Zw3 t gs=[s])):=by
 cases t with
 |«at» k=>cases e
 |one u a ss =>
  match gs,e with
  | [],e =>
   cases e;refine⟨?_,.inl ⟨rfl,rfl⟩⟩
   cases u with
   |left=>obtain⟨_,z⟩:=h;exact⟨_,z⟩
   |right=>obtain⟨_,z⟩:=h;exact⟨_,z⟩
   |first=>obtain⟨_,_,_,z,_⟩:=h;exact⟨_,z⟩
   |second=>obtain⟨_,_,_,z,_⟩:=h;exact⟨_,z⟩
   |off=>exact⟨_,h.2⟩
 |two u a b =>
  match gs,e with
  | [],e =>
   cases e;refine⟨?_,.inl ⟨rfl,rfl⟩⟩
   cases u with
   |pair=>obtain⟨_,_,z,_,_⟩:=h;exact⟨_,z⟩
   |use=>obtain⟨_,z,_⟩:=h;exact⟨_,z⟩
  | [x],e =>
   cases e;refine⟨?_,.inl ⟨rfl,rfl⟩⟩
   cases u with
   |pair=>obtain⟨_,_,_,z,_⟩:=h;exact⟨_,z⟩
   |use=>obtain⟨_,_,z⟩:=h;exact⟨_,z⟩
 |fn s a =>
  match gs,e with
  | [],e =>
   cases e;obtain⟨_,z,_⟩:=h;exact⟨⟨_,z⟩,.inr ⟨rfl,s,rfl⟩⟩
 |cs a b c =>
  obtain⟨p,q,d,i,f⟩:=h
  match gs,e with
  | [],e=>cases e;exact⟨⟨_,d⟩,.inl ⟨rfl,rfl⟩⟩
  | [x],e =>
   cases e;cases Zu0 (g:=g) hk d;exact⟨⟨_,i⟩,.inr ⟨rfl,p,rfl⟩⟩
  | [x,y],e =>
   cases e;cases Zu0 (g:=g) hk d;exact⟨⟨_,f⟩,.inr ⟨rfl,q,rfl⟩⟩
theorem Xl3 {t:Te}{g:Tm}{gs:List Tm}(h:HasK Γ t g)(hk:KidsK Γ t gs)(hl:gs.length=t.kids.length)(hn:∀k,t≠.at k):Xp9 t gs g:=by
 cases t with
 |«at» k=>grind
 |one u a ss =>
  match gs,hl with
  | [x],_ =>
   obtain⟨_,_,e,z⟩:=hk 0 x rfl;cases e
   cases u with
   |left=>obtain⟨y,w⟩:=h;cases Zc9 z w;exact⟨y,rfl⟩
   |right=>obtain⟨y,w⟩:=h;cases Zc9 z w;exact⟨y,rfl⟩
   |first=>obtain⟨y,s,j,w,i⟩:=h;cases Zc9 z w;exact⟨_,s,j,rfl,i⟩
   |second=>obtain⟨y,s,j,w,i⟩:=h;cases Zc9 z w;exact⟨_,s,j,rfl,i⟩
   |off=>cases Zc9 z h.2;exact⟨h.1,rfl⟩
 |two u a b =>
  match gs,hl with
  | [x,y],_ =>
   obtain⟨_,_,e,z⟩:=hk 0 x rfl;cases e;obtain⟨_,_,e,l⟩:=hk 1 y rfl;cases e
   cases u with
   |pair=>obtain⟨p,q,f,d,e⟩:=h;cases Zc9 z f;cases Zc9 l d;exact⟨_,_,rfl,e⟩
   |use=>obtain⟨p,f,d⟩:=h;cases Zc9 z f;cases Zc9 l d;exact⟨_,rfl⟩
 |fn s a =>
  match gs,hl with
  | [x],_ =>
   obtain⟨_,_,e,z⟩:=hk 0 x rfl;cases e;obtain⟨p,w,e⟩:=h;cases Zc9 z w;exact⟨_,rfl,e⟩
 |cs a b c =>
  match gs,hl with
  | [x,y,y'],_ =>
   obtain⟨p,q,f,d,o⟩:=h;cases Zu0 (g:=g) hk f;obtain⟨_,_,e,n⟩:=hk 1 y rfl;cases e;obtain⟨_,_,e,m⟩:=hk 2 y' rfl;cases e;cases Zc9 n d;cases Zc9 m o;exact⟨p,q,rfl⟩
noncomputable abbrev nI (k:Nat):V:=.int (k:Nat)
def NumS (S:List Tm)(k:Nat)(s:Tm):Prop:=S[k]?=some s
theorem Yb3 (h:S <+: S'){ks:List Nat}{gs:List Tm}(p:Paired (NumS S) ks gs):Paired (NumS S') ks gs:=Paired.mapP p fun _ _ z=>Yn3 h z
theorem BkH.row {A:BkA}(B:BkH A R S H){k:Nat}{t:Tm}(h:S[k]?=some t):∃us u r,H A.lr=some (.lst us)/\us[k]?=some u/\RowV H u r /\
  ((r=.sim t/\∀k a b,t≠.nd k a b)∨∃kk i j x y,r=.par kk i j/\t=.nd kk x y/\S[i]?=some x/\S[j]?=some y):=by
 obtain⟨us,m,f⟩:=B.rows
 have q:k < R.length:=by rw[B.bk.len];exact (yc.mp h).1
 have e:k < us.length:=by rw[zk f];omega
 obtain⟨r,l,g⟩:=paired_get f (zb e);refine⟨us,us[k],r,m,zb e,g,?_⟩;rcases B.bk.den k r t l h with ⟨u,d,c,n⟩ | ⟨kk,i,j,x,y,d,_,_,c,p,o⟩
 ·subst c;exact .inl ⟨d,n⟩
 ·exact .inr ⟨kk,i,j,x,y,d,o,c,p⟩
inductive sp_binit (C:Addr):Sp
 |mk {vs H Q E:_} x dx:vs=[.ref x]->H x=some (.ins C dx [])->(∀(lr ls dn:Addr) (H':Hp),FrB [x] H H'->H' x=some (.ins C dx [("rows",.ref lr),("statements",.ref ls),("numbers",.ref dn)])->H' lr=some (.lst [])->H' ls=some (.lst [])->H' dn=some (.dT [])->H lr=none->H ls=none->H dn=none->lr≠ls->Q .non H')->sp_binit C vs H Q E
inductive sp_ainit (C:Addr):Sp
 |mk {vs H Q E:_} x dx t f:vs=[.ref x,t,f]->H x=some (.ins C dx [])->(∀(lk:Addr) (H':Hp),FrB [x] H H'->H' x=some (.ins C dx [("term",t),("front",f),("kinds",.ref lk)])->H' lk=some (.lst [])->H lk=none->Q .non H')->sp_ainit C vs H Q E
inductive sp_row (A:BkA):Sp
 |mk {vs H Q E:_} (R:List Rw) (S:List Tm) (k:Nat) (nm:Str) (t:Tm):vs=[.ref A.b,nI k,.str nm]->BkH A R S H->S[k]?=some t->(t=.low/\nm="low"∨∃kk a b,t=.nd kk a b/\nm=kk.str)->(∀(u:V),(∀kk a b,t=.nd kk a b->∃i j p,u=.ref p/\H p=some (.tup [.str kk.str,nI i,nI j])/\S[i]?=some a/\S[j]?=some b)->Q u H)->sp_row A vs H Q E
def ToldK (A:BkA)(N:NumT)(R:List Rw)(S:List Tm)(H:Hp)(n:Nat)(g:Tm)(Q:VK):Prop :=
 ∀(k:Nat) (H':Hp) (R':List Rw) (S':List Tm),FrB (badT A N) H H'->BkT A N R' S' H'->R <+: R'->S <+: S'->R'.length<=R.length+n->S'[k]?=some g->Q (nI k) H'
inductive Dd where
 |pair | left | right | first | second | cases | fn | use | off
noncomputable def Dd.str:Dd->Str
 | .pair=>"pair" | .left=>"left" | .right=>"right" | .first=>"first" | .second=>"second" | .cases=>"cases" | .fn=>"fun" | .use=>"use" | .off=>"off"
inductive sp_deed (K:W.Frag)(A:BkA)(N:NumT)(d:Dd):Sp
 |mk {vs H Q E:_} (v:V) (lk:Addr) (t:Te) (ws:List Str) (ks:List Nat) (gs:List Tm) (g:Tm) (R:List Rw) (S:List Tm):vs=[.ref A.b,v,.ref lk]->t.tag=d.str->BkT A N R S H->LE K t H v->H lk=some (.lst (ks.map nI))->lk ∉ badT A N->Paired (NumS S) ks gs->Xp9 t gs g->t.fine ws->R.length<=300000->ToldK A N R S H 100 g Q->sp_deed K A N d vs H Q E
inductive DView:Te->Dd->List Tm->Tm->Prop
 |pair (a b:Te) (h k:Tm):DView (.two .pair a b) .pair [h,k] (.nd .both h k)
 |left (a:Te) (ss:List Tm) (g h:Tm):DView (.one .left a ss) .left [.nd .both g h] g
 |right (a:Te) (ss:List Tm) (g h:Tm):DView (.one .right a ss) .right [.nd .both h g] g
 |first (a:Te) (s h:Tm):DView (.one .first a [s]) .first [h] (.nd .one h s)
 |second (a:Te) (s h:Tm):DView (.one .second a [s]) .second [h] (.nd .one s h)
 |cases (a b c:Te) (h k g:Tm):DView (.cs a b c) .cases [.nd .one h k,g,g] g
 |fn (s:Tm) (a:Te) (h:Tm):DView (.fn s a) .fn [h] (.nd .thn s h)
 |use (a b:Te) (h g:Tm):DView (.two .use a b) .use [.nd .thn h g,h] g
 |off (a:Te) (g:Tm):DView (.one .off a [g]) .off [.low] g
theorem Dd.str_inj:∀{d e:Dd},d.str=e.str->d=e:=fun {d e} h=>by
 cases d<;>cases e<;>first | rfl | exact absurd h (by decide)
theorem Zi0 {t:Te}{d:Dd}(h:t.tag=d.str){gs:List Tm}{g:Tm}(kb:Xp9 t gs g):DView t d gs g:=by
 have f:∀{e:Dd},t.tag=e.str->DView t e gs g->DView t d gs g:=fun {e} h' v=>Dd.str_inj (h'.symm.trans h)▸v
 match t,kb with
 | .one .left a ss,⟨x,e⟩=>subst e;exact f rfl (.left ..)
 | .one .right a ss,⟨x,e⟩=>subst e;exact f rfl (.right ..)
 | .one .first a ss,⟨x,s,e1,e2,e3⟩=>subst e1;subst e2 e3;exact f rfl (.first ..)
 | .one .second a ss,⟨x,s,e1,e2,e3⟩=>subst e1;subst e2 e3;exact f rfl (.second ..)
 | .one .off a ss,⟨e1,e2⟩=>subst e1 e2;exact f rfl (.off ..)
 | .two .pair a b,⟨x,y,e1,e2⟩=>subst e1 e2;exact f rfl (.pair ..)
 | .two .use a b,⟨x,e1⟩=>subst e1;exact f rfl (.use ..)
 | .fn s a,⟨x,e1,e2⟩=>subst e1 e2;exact f rfl (.fn ..)
 | .cs a b c,⟨x,y,e⟩=>subst e;exact f rfl (.cases ..)
theorem ToldK.noted {A:BkA}{kk:Kd}{x y:Tm}{Q:VK}{E:XK}(q:ToldK A N R S H n (.nd kk x y) Q)(B:BkT A N R S H)(hn:1<=n)(hR:R.length<=350000)(hi:S[i]?=some x)(hj:S[j]?=some y)(hp:H p=none):
  sp_noted A [.ref A.b,.ref p] (upd H p (.tup [.str kk.str,nI i,nI j])) Q E:=by
 have d:=Za6 hp (.tup [.str kk.str,nI i,nI j]);have c:=B.keep d;have v:=(yc.mp hi).1;have u:=(yc.mp hj).1;refine⟨_,.par kk i j,R,S,.nd kk x y,rfl,c.b,⟨p,rfl,Za5⟩,⟨by rw[B.b.bk.len];omega,by rw[B.b.bk.len];omega⟩,?_,by omega,fun k o m l e r g f s h=>q k o m l (FrB.trans (.of d) (e.fr.mono fun a z=>.tail _ z)) ⟨r,TabOk.frB c.b c.t e.fr⟩ g f (by omega) h⟩
 show (match S[i]?,S[j]? with
  |some x,some y=>some _
  | _,_=>none)=_
 rw[hi,hj]
theorem ToldK.after {A:BkA}{R1:List Rw}{S1:List Tm}{m:Nat}{g:Tm}{Q:VK}(q:ToldK A N R S H n g Q)(f:FrB (badT A N) H H1)(p1:R <+: R1)(p2:S <+: S1)(hl:R1.length+m<=R.length+n):ToldK A N R1 S1 H1 m g Q :=
 fun k i h e d j b a l c=>q k i h e (f.trans d) j (p1.trans b) (p2.trans a) (by omega) c
theorem ToldK.here {A:BkA}{k:Nat}{g:Tm}{Q:VK}(q:ToldK A N R S H n g Q)(B:BkT A N R S H)(h:S[k]?=some g):Q (nI k) H :=
 q k H R S (fun _ _ _ e=>e) B (by simp) (by simp) (by simp) h
theorem BkT.number {A:BkA}{v:V}{t:Tm}{Q:VK}{E:XK}(B:BkT A N R S H)(hv:LtV H v t)(ht:t.parts<=60)(hR:R.length<=350000)(q:ToldK A N R S H 60 t Q):sp_number A N [.ref A.b,v] H Q E :=
 ⟨v,t,R,S,rfl,B,hv,by omega,hR,fun k h g e f i c a j d=>q k h g e f i c a (by omega) d⟩
inductive HasQ (q:Tm->Prop):List Tm->Te->Tm->Prop
 |at {Γ k g:_}:q g->Γ[k]?=some g->HasQ q Γ (.at k) g
 |left {Γ a ss g h:_}:q g->HasQ q Γ a (.nd .both g h)->HasQ q Γ (.one .left a ss) g
 |right {Γ a ss g h:_}:q g->HasQ q Γ a (.nd .both h g)->HasQ q Γ (.one .right a ss) g
 |first {Γ a s h:_}:q (.nd .one h s)->HasQ q Γ a h->HasQ q Γ (.one .first a [s]) (.nd .one h s)
 |second {Γ a s h:_}:q (.nd .one s h)->HasQ q Γ a h->HasQ q Γ (.one .second a [s]) (.nd .one s h)
 |off {Γ a g:_}:q g->HasQ q Γ a .low->HasQ q Γ (.one .off a [g]) g
 |pair {Γ a b h k:_}:q (.nd .both h k)->HasQ q Γ a h->HasQ q Γ b k->HasQ q Γ (.two .pair a b) (.nd .both h k)
 |use {Γ a b h g:_}:q g->HasQ q Γ a (.nd .thn h g)->HasQ q Γ b h->HasQ q Γ (.two .use a b) g
 |fn {Γ s a h:_}:q (.nd .thn s h)->HasQ q (s::Γ) a h->HasQ q Γ (.fn s a) (.nd .thn s h)
 |cs {Γ a b c h k g:_}:q g->HasQ q Γ a (.nd .one h k)->HasQ q (h::Γ) b g->HasQ q (k::Γ) c g->HasQ q Γ (.cs a b c) g
variable {q:Tm->Prop}
theorem HasQ.here {t:Te}{g:Tm}(h:HasQ q Γ t g):q g:=by cases h<;>assumption
theorem HasQ.k {t:Te}{g:Tm}(h:HasQ q Γ t g):HasK Γ t g:=by
 induction h with
 |«at» _ h=>exact h
 |left _ _ ih=>exact⟨_,ih⟩
 |right _ _ ih=>exact⟨_,ih⟩
 |first _ _ ih=>exact⟨_,_,rfl,ih,rfl⟩
 |second _ _ ih=>exact⟨_,_,rfl,ih,rfl⟩
 |off _ _ ih=>exact⟨rfl,ih⟩
 |pair _ _ _ i1 i2=>exact⟨_,_,i1,i2,rfl⟩
 |use _ _ _ i1 i2=>exact⟨_,i1,i2⟩
 |fn _ _ ih=>exact⟨_,ih,rfl⟩
 |cs _ _ _ _ i1 i2 i3=>exact⟨_,_,i1,i2,i3⟩
theorem Zt7 {Δ:List Tm}:∀{t:Te} {Γ1:List Tm} {g:Tm},HasQ q (Γ1++Γ2) t g->HasQ q (Γ1++(Δ++Γ2)) (t.mp (Zl5 Δ.length) Γ1.length) g
 | _,Γ1,g,.at (k:=k) z h=>.at z (Zf1 (t:=.at k) h)
 | _,_,_,.left z a=>.left z (Zt7 a)
 | _,_,_,.right z a=>.right z (Zt7 a)
 | _,_,_,.first z a=>.first z (Zt7 a)
 | _,_,_,.second z a=>.second z (Zt7 a)
 | _,_,_,.off z a=>.off z (Zt7 a)
 | _,_,_,.pair z a b=>.pair z (Zt7 a) (Zt7 b)
 | _,_,_,.use z a b=>.use z (Zt7 a) (Zt7 b)
 | _,Γ1,_,.fn (s:=s) z a=>.fn z (Zt7 (Γ1:=s::Γ1) a)
 | _,Γ1,_,.cs (h:=h) (k:=k) z a b c=>.cs z (Zt7 a) (Zt7 (Γ1:=h::Γ1) b) (Zt7 (Γ1:=k::Γ1) c)
theorem putQ {s:Tm}{o:Te}(ho:HasQ q Γ2 o s):∀{t:Te} {Γ1:List Tm} {g:Tm},HasQ q (Γ1++s::Γ2) t g->HasQ q (Γ1++Γ2) (t.mp (putF o) Γ1.length) g
 | _,Γ1,g,.at (k:=k) z h=>by
  show HasQ q _ (putF o k _) g;have kk:=Zg9 ho.k (t:=.at k) h;unfold putF
  by_cases c:k=Γ1.length
  ·rw[if_pos c]
   rw[c,yk (by simp),zbk] at h;cases h;rw[c];exact Zt7 (Γ1:=[]) ho
  ·rw[if_neg c]
   have kk:HasK _ (putF o k _) g:=kk;unfold putF at kk;rw[if_neg c] at kk;exact .at z kk
 | _,_,_,.left z a=>.left z (putQ ho a)
 | _,_,_,.right z a=>.right z (putQ ho a)
 | _,_,_,.first z a=>.first z (putQ ho a)
 | _,_,_,.second z a=>.second z (putQ ho a)
 | _,_,_,.off z a=>.off z (putQ ho a)
 | _,_,_,.pair z a b=>.pair z (putQ ho a) (putQ ho b)
 | _,_,_,.use z a b=>.use z (putQ ho a) (putQ ho b)
 | _,Γ1,_,.fn (s:=s) z a=>.fn z (putQ ho (Γ1:=s::Γ1) a)
 | _,Γ1,_,.cs (h:=h) (k:=k) z a b c=>.cs z (putQ ho a) (putQ ho (Γ1:=h::Γ1) b) (putQ ho (Γ1:=k::Γ1) c)
theorem We2 {t:Te}{g:Tm}(ht:t.turns=true)(h:HasQ q Γ t g):HasQ q Γ t.itself g:=by
 rcases Zs2 ht with ⟨a,b,d,rfl⟩ | ⟨a,b,d,rfl⟩ | ⟨e,b,o,rfl⟩ | ⟨a,d,b,c,rfl⟩ | ⟨a,d,b,c,rfl⟩
 ·cases h with | left _ h=>cases h with | pair _ h1 h2=>exact h1
 ·cases h with | right _ h=>cases h with | pair _ h1 h2=>exact h2
 ·cases h with | use _ h h2=>cases h with | fn _ h1=>exact putQ h2 (Γ1:=[]) h1
 ·cases h with | cs _ h h2 h3=>cases h with | first _ h1=>exact putQ h1 (Γ1:=[]) h2
 ·cases h with | cs _ h h2 h3=>cases h with | second _ h1=>exact putQ h1 (Γ1:=[]) h3
theorem tatQ:∀{ρ:List Nat} {t:Te} {Γ:List Tm} {g:Tm},t.okp ρ->HasQ q Γ t g->HasQ q Γ (t.tat ρ) g
 | [],t,Γ,g,ho,h=>by rw[Xg6];exact We2 (Yt2 ho) h
 |i::ρ,t,Γ,g,ho,h=>by
  rcases Yi6 ho with ⟨u,a,ss,rfl,rfl,ho⟩ | ⟨u,a,b,rfl,rfl,ho⟩ | ⟨u,a,b,rfl,rfl,ho⟩ | ⟨s,a,rfl,rfl,ho⟩ | ⟨a,b,c,rfl,rfl,ho⟩ | ⟨a,b,c,rfl,rfl,ho⟩ | ⟨a,b,c,rfl,rfl,ho⟩
  ·cases h with
   |left z h=>exact .left z (tatQ ho h)
   |right z h=>exact .right z (tatQ ho h)
   |first z h=>exact .first z (tatQ ho h)
   |second z h=>exact .second z (tatQ ho h)
   |off z h=>exact .off z (tatQ ho h)
  ·cases h with
   |pair z h1 h2=>exact .pair z (tatQ ho h1) h2
   |use z h1 h2=>exact .use z (tatQ ho h1) h2
  ·cases h with
   |pair z h1 h2=>exact .pair z h1 (tatQ ho h2)
   |use z h1 h2=>exact .use z h1 (tatQ ho h2)
  ·cases h with | fn z h=>exact .fn z (tatQ ho h)
  ·cases h with | cs z h1 h2 h3=>exact .cs z (tatQ ho h1) h2 h3
  ·cases h with | cs z h1 h2 h3=>exact .cs z h1 (tatQ ho h2) h3
  ·cases h with | cs z h1 h2 h3=>exact .cs z h1 h2 (tatQ ho h3)
def qk (s:Tm):Prop:=s.ok/\s.deep<=140
theorem Zt9 (hw:∀w∈ws,Word w):∀{t:Te} {Γ:List Tm} {g:Tm} {D:Nat},HasK Γ t g->t.fine ws->(∀s∈Γ,s.ok/\s.deep<=D)->60<=D->D+t.size<=140->HasQ qk Γ t g/\g.ok/\g.deep<=D+t.size
 | .at k,Γ,g,D,h,f,hΓ,hD,hM=>by
  have z:=hΓ g (yo h);have hM:D+1<=140:=hM;exact⟨.at ⟨z.1,by omega⟩ h,z.1,by show g.deep<=D+1;omega⟩
 | .one .left a ss,Γ,g,D,⟨x,h⟩,f,hΓ,hD,hM=>by
  have e:(Te.one .left a ss).size=1+a.size:=rfl;obtain⟨h1,h0,h2⟩:=Zt9 hw h f.1 hΓ hD (by omega);have e2:(Tm.nd .both g x).deep=1+max g.deep x.deep:=rfl;exact⟨.left ⟨h0.1,by omega⟩ h1,h0.1,by omega⟩
 | .one .right a ss,Γ,g,D,⟨x,h⟩,f,hΓ,hD,hM=>by
  have e:(Te.one .right a ss).size=1+a.size:=rfl;obtain⟨h1,h0,h2⟩:=Zt9 hw h f.1 hΓ hD (by omega);have e2:(Tm.nd .both x g).deep=1+max _ _:=rfl;exact⟨.right ⟨h0.2,by omega⟩ h1,h0.2,by omega⟩
 | .one .first a ss,Γ,g,D,⟨x,s,e1,h,e2⟩,f,hΓ,hD,hM=>by
  subst e1 e2;have e:(Te.one .first a [s]).size=1+a.size:=rfl;obtain⟨h1,h0,h2⟩:=Zt9 hw h f.1 hΓ hD (by omega);have e2:(Tm.nd .one x s).deep=1+max _ _:=rfl;have z:=f.2.2 s (by simp);have:=z.2;have:=Zh1 s;exact⟨.first ⟨⟨h0,z.1.ok hw⟩,by omega⟩ h1,⟨h0,z.1.ok hw⟩,by omega⟩
 | .one .second a ss,Γ,g,D,⟨x,s,e1,h,e2⟩,f,hΓ,hD,hM=>by
  subst e1 e2;have e:(Te.one .second a [s]).size=1+a.size:=rfl;obtain⟨h1,h0,h2⟩:=Zt9 hw h f.1 hΓ hD (by omega);have e2:(Tm.nd .one s x).deep=1+max _ _:=rfl;have z:=f.2.2 s (by simp);have:=z.2;have:=Zh1 s;exact⟨.second ⟨⟨z.1.ok hw,h0⟩,by omega⟩ h1,⟨z.1.ok hw,h0⟩,by omega⟩
 | .one .off a ss,Γ,g,D,⟨e1,h⟩,f,hΓ,hD,hM=>by
  subst e1;have e:(Te.one .off a [g]).size=1+a.size:=rfl;obtain⟨h1,h0,h2⟩:=Zt9 hw h f.1 hΓ hD (by omega);have z:=f.2.2 g (by simp);have:=z.2;have:=Zh1 g;exact⟨.off ⟨z.1.ok hw,by omega⟩ h1,z.1.ok hw,by omega⟩
 | .two .pair a b,Γ,g,D,⟨x,y,h,h',e2⟩,f,hΓ,hD,hM=>by
  subst e2;have e:(Te.two .pair a b).size=1+a.size+b.size:=rfl;obtain⟨h1,h0,h2⟩:=Zt9 hw h f.1 hΓ hD (by omega);obtain⟨h3,h5,h4⟩:=Zt9 hw h' f.2 hΓ hD (by omega);have e2:(Tm.nd .both x y).deep=1+max _ _:=rfl;exact⟨.pair ⟨⟨h0,h5⟩,by omega⟩ h1 h3,⟨h0,h5⟩,by omega⟩
 | .two .use a b,Γ,g,D,⟨x,h,h'⟩,f,hΓ,hD,hM=>by
  have e:(Te.two .use a b).size=1+a.size+b.size:=rfl;obtain⟨h1,h0,h2⟩:=Zt9 hw h f.1 hΓ hD (by omega);obtain⟨h3,h5,h4⟩:=Zt9 hw h' f.2 hΓ hD (by omega);have e2:(Tm.nd .thn x g).deep=1+max _ _:=rfl;exact⟨.use ⟨h0.2,by omega⟩ h1 h3,h0.2,by omega⟩
 | .fn s a,Γ,g,D,⟨x,h,e2⟩,f,hΓ,hD,hM=>by
  subst e2;have e:(Te.fn s a).size=1+a.size:=rfl;have:=f.1.2;have:=Zh1 s;have so:=f.1.1.ok hw
  obtain⟨h1,h0,h2⟩:=Zt9 hw h f.2 (fun z hz=>by
   rcases zd.mp hz with rfl | hz
   ·exact⟨so,by omega⟩
   ·exact hΓ z hz) hD (by omega)
  have e2:(Tm.nd .thn s x).deep=1+max _ _:=rfl;exact⟨.fn ⟨⟨so,h0⟩,by omega⟩ h1,⟨so,h0⟩,by omega⟩
 | .cs a b c,Γ,g,D,⟨x,y,h,h',h''⟩,f,hΓ,hD,hM=>by
  have e:(Te.cs a b c).size=1+a.size+b.size+c.size:=rfl;obtain⟨h1,h0,h2⟩:=Zt9 hw h f.1 hΓ hD (by omega);have e2:(Tm.nd .one x y).deep=1+max x.deep y.deep:=rfl
  obtain⟨h3,h7,h4⟩:=Zt9 hw h' f.2.1 (D:=D+a.size) (fun z hz=>by
   rcases zd.mp hz with rfl | hz
   ·exact⟨h0.1,by omega⟩
   ·exact⟨(hΓ z hz).1,yj (hΓ z hz).2 (by omega)⟩) (by omega) (by omega)
  obtain⟨h5,h8,h6⟩:=Zt9 hw h'' f.2.2 (D:=D+a.size) (fun z hz=>by
   rcases zd.mp hz with rfl | hz
   ·exact⟨h0.2,by omega⟩
   ·exact⟨(hΓ z hz).1,yj (hΓ z hz).2 (by omega)⟩) (by omega) (by omega)
  exact⟨.cs ⟨h7,by omega⟩ h1 h3 h5,h7,by omega⟩
theorem Xy7 {P:zf}{base:Heap}{k:Nat}{fd:zc}{ι:Type}{sp:ι->Sp}(h:∀i,FnOk P w K mg base CX0 k f fd ps (sp i)):FnOk P w K mg base CX0 k f fd ps (fun vs H Q E=>∃i,sp i vs H Q E) :=
 ⟨fun vs H Q E ⟨i,z⟩=>(h i).len vs H Q E z,fun A outer s H args us vs Q E hr e0 hb r ⟨i,z⟩=>(h i).run A _ s H _ us vs Q E hr e0 hb r z⟩
structure Frm where
 a:Addr
 dx:Addr
 la:Addr
 lk:Addr
 v:V
 t:Te
 fs:List Nat
 Γ:List Tm
 ks:List Nat
 gs:List Tm
 g:Tm
structure FrmOk (K:W.Frag)(C:Addr)(bad:List Addr)(Γ0:List Tm)(ws:List Str)(S:List Tm)(H:Hp)(f:Frm):Prop where
 ins:H f.a=some (.ins C f.dx [("term",f.v),("front",.ref f.la),("kinds",.ref f.lk)])
 tm:LE K f.t H f.v
 fr:H f.la=some (.lst (f.fs.map nI))
 fS:Paired (NumS S) f.fs f.Γ
 kd:H f.lk=some (.lst (f.ks.map nI))
 kS:Paired (NumS S) f.ks f.gs
 kk:KidsK (f.Γ++Γ0) f.t f.gs
 has:HasK (f.Γ++Γ0) f.t f.g
 fine:f.t.fine ws
 na:f.a ∉ bad
 nl:f.la ∉ bad
 nk:f.lk ∉ bad
theorem FrmOk.mono {f:Frm}(h:FrmOk K C bad Γ0 ws S H f)(e:FrB bad H H')(m:Mut bad H)(p:S <+: S'):FrmOk K C bad Γ0 ws S' H' f :=
 ⟨e _ _ h.na h.ins,LE.keepT (e.tk m) (e.keepT m) h.tm,e _ _ h.nl h.fr,Yb3 p h.fS,e _ _ h.nk h.kd,Yb3 p h.kS,h.kk,h.has,h.fine,h.na,h.nl,h.nk⟩
theorem FrmOk.put {f:Frm}{xs:List V}{o:HO}(h:FrmOk K C bad Γ0 ws S H f)(hl:H l=some (.lst xs))(n1:f.la≠l)(n2:f.lk≠l):FrmOk K C bad Γ0 ws S (upd H l o) f :=
 ⟨by rw[Za9 (fun z=>by have:=h.ins;simp_all)];exact h.ins,LE.keepT (Zn4 hl) (Zm1 hl) h.tm,by rw[Za9 n1];exact h.fr,h.fS,by rw[Za9 n2];exact h.kd,h.kS,h.kk,h.has,h.fine,h.na,h.nl,h.nk⟩
theorem FrmOk.told {f:Frm}{k:Nat}{g:Tm}(h:FrmOk K C bad Γ0 ws S H f)(n1:f.la≠f.lk)(hk:S[k]?=some g)(kk:KidsK (f.Γ++Γ0) f.t (f.gs++[g])):
  FrmOk K C bad Γ0 ws S (upd H f.lk (.lst (f.ks.map nI++[nI k]))) { f with ks:=f.ks++[k],gs:=f.gs++[g] }:=by
 have a:=h.kd;exact⟨by rw[Za9 (fun z=>by have:=h.ins;simp_all)];exact h.ins,LE.keepT (Zn4 a) (Zm1 a) h.tm,by rw[Za9 n1];exact h.fr,h.fS,by rw[Za5,zam];rfl,Zf8 h.kS (.cons hk .nil),kk,h.has,h.fine,h.na,h.nl,h.nk⟩
theorem BkT.free {A:BkA}(B:BkT A N R S H')(f:FrB (badT A N) H H')(h:H' l=none):H l=none:=by
 cases e:H l with
 |none=>rfl
 |some o =>
  have:=f l o (B.has h) e
  grind
structure GivK (bad:List Addr)(Γ0:List Tm)(ga:Addr)(gs:List V)(H:Hp):Prop where
 l:H ga=some (.lst gs)
 p:Paired (LtV H) gs Γ0
 n:ga ∉ bad
 s:∀s∈Γ0,s.parts<=60
theorem GivK.mono (h:GivK bad Γ0 ga gs H)(e:FrB bad H H')(m:Mut bad H):GivK bad Γ0 ga gs H':=⟨e _ _ h.n h.l,Zl9 (e.tk m) h.p,h.n,h.s⟩
theorem GivK.put {xs:List V}{o:HO}(h:GivK bad Γ0 ga gs H)(hl:H l=some (.lst xs))(n:ga≠l):GivK bad Γ0 ga gs (upd H l o):=⟨by rw[Za9 n];exact h.l,Zl9 (Zn4 hl) h.p,h.n,h.s⟩
theorem Yz2 {t:Te}{v:V}(h:LE K t H v):∃p xs,v=.ref p/\SqT K H p xs/\atI xs 0=some (.str t.tag):=by
 cases t with
 |«at» k=>obtain⟨p,e,d⟩:=h;exact⟨p,_,e,d,rfl⟩
 |one u a ss=>obtain⟨p,x,f,e,d,_⟩:=h;exact⟨p,_,e,d,Zc0 rfl⟩
 |two u a b=>obtain⟨p,x,y,e,d,_⟩:=h;exact⟨p,_,e,d,rfl⟩
 |fn s a=>obtain⟨p,x,y,e,d,_⟩:=h;exact⟨p,_,e,d,rfl⟩
 |cs a b c=>obtain⟨p,x,y,z,e,d,_⟩:=h;exact⟨p,_,e,d,rfl⟩
theorem Xx4 {t:Te}{v:V}(h:LE K t H v){kid:Te}(e:t.kids[i]?=some (kid,m)):∃q xs p x,v=.ref q/\SqT K H q xs/\t.inn[i]?=some (p,m)/\atI xs ((p:Nat):Int)=some x/\LE K kid H x:=by
 cases t with
 |«at» k=>cases e
 |one u a ss =>
  obtain⟨p,x,n,f,d,g,_⟩:=h
  match i,e with
  | 0,e=>cases e;exact⟨p,_,1,x,f,d,rfl,Zc0 rfl,g⟩
 |two u a b =>
  obtain⟨p,x,y,f,d,g,j⟩:=h
  match i,e with
  | 0,e=>cases e;exact⟨p,_,1,x,f,d,rfl,rfl,g⟩
  | 1,e=>cases e;exact⟨p,_,2,y,f,d,rfl,rfl,j⟩
 |fn s a =>
  obtain⟨p,x,y,f,d,g,j⟩:=h
  match i,e with
  | 0,e=>cases e;exact⟨p,_,2,y,f,d,rfl,rfl,j⟩
 |cs a b c =>
  obtain⟨p,x,y,z,f,d,g,j,l⟩:=h
  match i,e with
  | 0,e=>cases e;exact⟨p,_,1,x,f,d,rfl,rfl,g⟩
  | 1,e=>cases e;exact⟨p,_,2,y,f,d,rfl,rfl,j⟩
  | 2,e=>cases e;exact⟨p,_,3,z,f,d,rfl,rfl,l⟩
noncomputable def tblD (fD:Dd->Addr):List (Str×V):=[("pair",.ref (fD .pair)),("left",.ref (fD .left)),("right",.ref (fD .right)),("first",.ref (fD .first)),("second",.ref (fD .second)),("cases",.ref (fD .cases)),("fun",.ref (fD .fn)),("use",.ref (fD .use)),("off",.ref (fD .off))]
theorem Xz9 (fD:Dd->Addr){t:Te}(h:∀k,t≠.at k):∃d,t.tag=d.str/\(tblD fD).lookup t.tag=some (.ref (fD d)):=by
 cases t with
 |«at» k=>simp_all
 |one u a ss=>cases u<;>exact⟨_,rfl,rfl⟩
 |two u a b=>cases u<;>exact⟨_,rfl,rfl⟩
 |fn s a=>exact⟨_,rfl,rfl⟩
 |cs a b c=>exact⟨_,rfl,rfl⟩
structure ClsA (K:W.Frag)(C:Addr):Prop where
 c:Cls K C
 t:NoAttr K C "term"
 f:NoAttr K C "front"
 k:NoAttr K C "kinds"
inductive sp_ofat4 (K:W.Frag)(C:Addr)(A:BkA)(N:NumT):Sp
 |mk {vs H Q E:_} (f:Frm) (ga:Addr) (gs:List V) (Γ0:List Tm) (ws:List Str) (k:Nat) (R:List Rw) (S:List Tm):vs=[.ref A.b,.ref f.a,.ref ga]->f.t=.at k->BkT A N R S H->FrmOk K C (badT A N) Γ0 ws S H f->GivK (badT A N) Γ0 ga gs H->f.fs.length+gs.length<=10000->R.length<=300000->ToldK A N R S H 100 f.g Q->sp_ofat4 K C A N vs H Q E
inductive sp_kindby (K:W.Frag)(C:Addr)(A:BkA)(N:NumT):Sp
 |mk {vs H Q E:_} (f:Frm) (ga:Addr) (gs:List V) (Γ0:List Tm) (ws:List Str) (R:List Rw) (S:List Tm):vs=[.ref A.b,.ref f.a,.ref ga]->f.gs.length=f.t.kids.length->BkT A N R S H->FrmOk K C (badT A N) Γ0 ws S H f->GivK (badT A N) Γ0 ga gs H->f.fs.length+gs.length<=10000->R.length<=300000->ToldK A N R S H 100 f.g Q->sp_kindby K C A N vs H Q E
inductive sp_front (K:W.Frag)(C:Addr)(A:BkA)(N:NumT):Sp
 |mk {vs H Q E:_} (f:Frm) (Γ0:List Tm) (ws:List Str) (R:List Rw) (S:List Tm) (kid:Te) (s:Tm):vs=[.ref A.b,.ref f.a]->f.t.kids[f.gs.length]?=some (kid,1)->Zw3 f.t f.gs=[s]->BkT A N R S H->FrmOk K C (badT A N) Γ0 ws S H f->R.length<=300000->ToldK A N R S H 60 s Q->sp_front K C A N vs H Q E
inductive sp_next (K:W.Frag)(C:Addr)(A:BkA)(N:NumT):Sp
 |mk {vs H Q E:_} (f:Frm) (Γ0:List Tm) (ws:List Str) (R:List Rw) (S:List Tm) (kid:Te) (m:Nat):vs=[.ref A.b,.ref f.a]->f.t.kids[f.gs.length]?=some (kid,m)->BkT A N R S H->FrmOk K C (badT A N) Γ0 ws S H f->R.length<=300000->f.fs.length<=9000->(∀(n:Frm) (H':Hp) (R':List Rw) (S':List Tm),FrB (badT A N) H H'->BkT A N R' S' H'->R <+: R'->S <+: S'->R'.length<=R.length+60->FrmOk K C (badT A N) Γ0 ws S' H' n->n.t=kid->n.gs=[]->n.Γ=Zw3 f.t f.gs++f.Γ->H n.lk=none->(n.la=f.la∨H n.la=none)->n.la≠n.lk->Q (.ref n.a) H')->sp_next K C A N vs H Q E
noncomputable def Ww9 (l:List (Te×Nat)):Nat:=(l.map fun p=>2*p.1.size).sum
noncomputable def remK (t:Te)(i:Nat):Nat:=Ww9 (t.kids.drop i)
theorem Xh9 {t kid:Te}(h:t.kids[i]?=some (kid,m)):remK t i=2*kid.size+remK t (i+1):=by
 obtain⟨a,e⟩:=yc.mp h;unfold remK;rw[ych a,e];rfl
theorem Ym9 (t:Te):remK t 0+2=2*t.size:=by
 cases t with
 |«at» k=>rfl
 |one u a ss=>show 2*a.size+0+2=2*(1+a.size);omega
 |two u a b=>show 2*a.size+2*b.size+0+2=2*(1+a.size+b.size);omega
 |fn s a=>show 2*a.size+0+2=2*(1+a.size);omega
 |cs a b c=>show 2*a.size+(2*b.size+2*c.size+0)+2=2*(1+a.size+b.size+c.size);omega
noncomputable def Xa8:List Frm->Nat
 | []=>0
 |f::fs=>1+remK f.t (f.gs.length+1)+Xa8 fs
noncomputable def wStk:List Frm->Nat
 | []=>0
 |f::fs=>1+remK f.t f.gs.length+Xa8 fs
def lnk (g0:Tm)(f:Frm):List Frm->Prop
 | []=>f.Γ=[]/\f.g=g0
 |p::_=>(∃m,p.t.kids[p.gs.length]?=some (f.t,m))/\f.Γ=Zw3 p.t p.gs++p.Γ
def StkOk (P:Frm->Prop)(g0:Tm):List Frm->Prop
 | []=>True
 |f::fs=>P f/\(∀q∈fs,q.lk≠f.lk/\q.lk≠f.la/\q.la≠f.lk)/\lnk g0 f fs/\StkOk P g0 fs
theorem StkOk.map {P P':Frm->Prop}:∀{fs:List Frm},StkOk P g0 fs->(∀f∈fs,P f->P' f)->StkOk P' g0 fs
 | [],_,_=>trivial
 |f::fs,⟨h1,h2,h3,h4⟩,m=>⟨m f (.head _) h1,h2,h3,h4.map fun q hq=>m q (.tail _ hq)⟩
theorem StkOk.all {P:Frm->Prop}:∀{fs:List Frm},StkOk P g0 fs->∀f∈fs,P f
 | [],_,_,h=>nomatch h
 |f::fs,⟨h1,h2,h3,h4⟩,q,h=>by
  rcases zd.mp h with rfl | h
  ·omega
  ·exact h4.all q h
theorem Wt9 (t:Te)(gs:List Tm):(Zw3 t gs).length<=1:=by
 unfold Zw3
 split<;>exact zcb rfl
theorem StkOk.ctx {P:Frm->Prop}:∀{fs:List Frm} {f:Frm},StkOk P g0 (f::fs)->f.Γ.length<=fs.length
 | [],f,⟨_,_,h,_⟩=>by rw[h.1];simp
 |p::fs,f,⟨_,_,h,h4⟩=>by
  have:=h4.ctx;have:=Wt9 p.t p.gs;rw[h.2,yd,zac];omega
structure FrL (K:W.Frag)(C:Addr)(bad:List Addr)(Γ0:List Tm)(ws:List Str)(H0:Hp)(lw ga:Addr)(S:List Tm)(H:Hp)(f:Frm):Prop where
 ok:FrmOk K C bad Γ0 ws S H f
 n1:f.la≠lw
 n2:f.lk≠lw
 n3:f.la≠f.lk
 n4:ga≠f.lk
 fresh:H0 f.lk=none
noncomputable abbrev stkV (fs:List Frm):List V:=(fs.map fun f=>V.ref f.a).reverse
theorem Zj7 (f:Frm)(fs:List Frm):stkV (f::fs)=stkV fs++[.ref f.a]:=by simp
inductive sp_kindT (K:W.Frag)(N:NumT):Sp
 |mk {vs H Q E:_} (v:V) (t:Te) (g:Tm) (ga:Addr) (gs:List V) (Γ0:List Tm) (ws:List Str):vs=[v,.ref ga]->LE K t H v->HasK Γ0 t g->t.fine ws->t.size<=1000->H ga=some (.lst gs)->Paired (LtV H) gs Γ0->(∀s∈Γ0,s.parts<=60)->gs.length<=900->TabOk H N.T N.ds->(∀(r:V) (H':Hp),SameV [N.T] H H'->TabOk H' N.T N.ds->LtV H' r g->Q r H')->sp_kindT K N vs H Q E
structure LpK (K:W.Frag)(C:Addr)(A:BkA)(N:NumT)(Γ0:List Tm)(ws:List Str)(g0:Tm)(H0:Hp)(lw ga:Addr)(gs:List V)(R:List Rw)(S:List Tm)(fs:List Frm)(H:Hp):Prop where
 e:FrB [N.T] H0 H
 b:BkT A N R S H
 w:H lw=some (.lst (stkV fs))
 st:StkOk (FrL K C (badT A N) Γ0 ws H0 lw ga S H) g0 fs
 g:GivK (badT A N) Γ0 ga gs H
 r:R.length+100*wStk fs<=300000
 l:fs.length+wStk fs<=4000
theorem BkT.put {A:BkA}{xs:List V}{o:HO}(B:BkT A N R S H)(h:H l=some (.lst xs))(n:l ∉ badT A N):BkT A N R S (upd H l o):=⟨B.b.put h fun z=>n (.tail _ z),TabOk.put h (by simp) (by simp) B.t⟩
structure LpF (A:BkA)(N:NumT)(H0:Hp)(lw ga:Addr):Prop where
 a1:H0 A.lr=none
 a2:H0 A.ls=none
 a3:H0 A.dn=none
 w:H0 lw=none
 nw:lw ∉ badT A N
 ng:ga≠lw
theorem LpF.step {A:BkA}(F:LpF A N H0 lw ga)(e:FrB [N.T] H0 H)(f:FrB (badT A N) H H'):FrB [N.T] H0 H':=fun a o n h=>f a o (fun z=>by
 rcases zd.mp z with rfl | z
 ·exact n (.head _)
 simp at z;rcases z with rfl | rfl | rfl
 ·rw[F.a1] at h;cases h
 ·rw[F.a2] at h;cases h
 ·rw[F.a3] at h;cases h) (e a o n h)
theorem FrB.putN (e:FrB bad H0 H)(h:H0 l=none):FrB bad H0 (upd H l o):=e.write h
theorem LpK.push {A:BkA}{R':List Rw}{f n:Frm}{fs:List Frm}{kid:Te}(F:LpF A N H0 lw ga)(L:LpK K C A N Γ0 ws g0 H0 lw ga gs R S (f::fs) H)(ek:f.t.kids[f.gs.length]?=some (kid,m))(fb:FrB (badT A N) H H')(B':BkT A N R' S' H')(p2:S <+: S')(rl:R'.length<=R.length+60)(ok:FrmOk K C (badT A N) Γ0 ws S' H' n)(nt:n.t=kid)(ng:n.gs=[])(nΓ:n.Γ=Zw3 f.t f.gs++f.Γ)(fl:H n.lk=none)(al:n.la=f.la∨H n.la=none)(ne:n.la≠n.lk):
  LpK K C A N Γ0 ws g0 H0 lw ga gs R' S' (n::f::fs) (upd H' lw (.lst (stkV (f::fs)++[.ref n.a])))/\wStk (n::f::fs) < wStk (f::fs)/\H' lw=some (.lst (stkV (f::fs))):=by
 have h  := fb _ _ F.nw L.w;have u:=Xh9 ek;have G:=Ym9 kid
 have D:wStk (n::f::fs)+1=wStk (f::fs):=by
  show 1+remK n.t _+(1+remK f.t _+Xa8 fs)+1=1+remK f.t _+Xa8 fs;rw[nt,ng,u];show 1+remK kid 0+_+1=_;omega
 have s:H0 n.lk=none:=by
  cases e:H0 _ with
  |none=>rfl
  |some o =>
   have:=L.e _ o (fun z=>?_) e
   ·grind
   ·obtain⟨x,B,_⟩:=L.b.t
    simp_all
 have d:=L.st.all;have p:=d f (.head _)
 have i:n.lk≠lw:=fun z=>by rw[z,L.w] at fl;cases fl
 have j:n.la≠lw:=by
  rcases al with al | al
  ·rw[al];exact p.n1
  ·exact fun z=>by rw[z,L.w] at al;cases al
 have k:StkOk (FrL K C _ Γ0 ws H0 lw ga S' (upd H' lw (.lst (stkV (f::fs)++[.ref n.a])))) g0 _:=L.st.map fun q c z=>⟨(z.ok.mono fb L.b.mut p2).put h z.n1 z.n2,z.n1,z.n2,z.n3,z.n4,z.fresh⟩;have v:=L.r;have y:=L.l;refine⟨⟨(F.step L.e fb).putN F.w,B'.put h F.nw,by rw[Za5,Zj7 n],⟨⟨ok.put h j i,j,i,ne,fun z=>?_,s⟩,fun q c=>⟨fun z=>?_,fun z=>?_,fun z=>?_⟩,⟨⟨m,by simp_all⟩,nΓ⟩,k⟩,(L.g.mono fb L.b.mut).put h F.ng,by omega,by rw[zac];omega⟩,by omega,h⟩
 ·have:=L.g.l
  grind
 ·have:=(d q c).ok.kd
  grind
 ·rcases al with al | al
  ·rcases zd.mp c with rfl | c
   ·exact p.n3 (al▸z.symm)
   ·exact (L.st.2.1 q c).2.1 (al▸z)
  ·have:=(d q c).ok.kd
   grind
 ·have:=(d q c).ok.fr
  grind
theorem LpK.pop {A:BkA}{R':List Rw}{f p:Frm}{fs:List Frm}{k:Nat}(F:LpF A N H0 lw ga)(L:LpK K C A N Γ0 ws g0 H0 lw ga gs R S (f::p::fs) H)(el:f.gs.length=f.t.kids.length)(fb:FrB (badT A N) H H')(B':BkT A N R' S' H')(p2:S <+: S')(rl:R'.length<=R.length+100)(hk:S'[k]?=some f.g):
  H' lw=some (.lst (stkV (p::fs)++[.ref f.a]))/\FrmOk K C (badT A N) Γ0 ws S' (upd H' lw (.lst (stkV (p::fs)))) p/\p.ks.length<=3 /\
  LpK K C A N Γ0 ws g0 H0 lw ga gs R' S' ({ p with ks:=p.ks++[k],gs:=p.gs++[f.g] }::fs) (upd (upd H' lw (.lst (stkV (p::fs)))) p.lk (.lst (p.ks.map nI++[nI k])))/\wStk ({ p with ks:=p.ks++[k],gs:=p.gs++[f.g] }::fs) < wStk (f::p::fs):=by
 have i:H' lw=some (.lst (stkV (p::fs)++[.ref f.a])):=by rw[<- Zj7];exact fb _ _ F.nw L.w
 obtain⟨G,_,⟨⟨m,u⟩,eΓ⟩,j,h,D,x⟩:=L.st;have n:∀{q:Frm},FrL K C _ Γ0 ws H0 lw ga S H q->FrL K C _ Γ0 ws H0 lw ga S' (upd H' lw (.lst (stkV (p::fs)))) q:=fun {q} z=>⟨(z.ok.mono fb L.b.mut p2).put i z.n1 z.n2,z.n1,z.n2,z.n3,z.n4,z.fresh⟩;have c:=n j;have M:=B'.put (o:=.lst (stkV (p::fs))) i F.nw;have I:=(L.g.mono fb L.b.mut).put (o:=.lst (stkV (p::fs))) i F.ng;have v:upd H' lw (.lst (stkV (p::fs))) lw=some _:=Za5;have J:FrB [N.T] H0 (upd H' lw (.lst (stkV (p::fs)))):=(F.step L.e fb).putN F.w
 have X:wStk ({ p with ks:=p.ks++[k],gs:=p.gs++[f.g] }::fs)+1<=wStk (f::p::fs):=by
  show 1+remK p.t (p.gs++[f.g]).length+Xa8 fs+1<=1+remK f.t _+(1+remK p.t _+Xa8 fs);rw[yd,zab];omega
 have O:=L.r;have y:=L.l
 have B:p.ks.length<=3:=by
  have n:=(yc.mp u).1
  have U:p.t.kids.length<=3:=by cases p.t<;>exact zcb rfl
  rw[zk j.ok.kS];omega
 refine⟨i,c.ok,B,⟨J.putN j.fresh,M.put c.ok.kd c.ok.nk,by rw[Za9 c.n2.symm,v];rfl,⟨⟨c.ok.told c.n3 hk (c.ok.kk.more u (by rw[<- yam,<- eΓ];exact G.ok.has)),c.n1,c.n2,c.n3,c.n4,c.fresh⟩,h,D,x.map fun q s z=>?_⟩,I.put c.ok.kd c.n4,by omega,?_⟩,by omega⟩
 ·have d:=n z
  exact⟨d.ok.put c.ok.kd (h q s).2.2 (h q s).1,d.n1,d.n2,d.n3,d.n4,d.fresh⟩
 ·have:fs.length+1+1+wStk _<=4000:=y
  rw[zac];omega
theorem LpK.last {A:BkA}{R':List Rw}{f:Frm}{k:Nat}(F:LpF A N H0 lw ga)(L:LpK K C A N Γ0 ws g0 H0 lw ga gs R S [f] H)(t0:TabOk H0 N.T N.ds)(fb:FrB (badT A N) H H')(B':BkT A N R' S' H')(hk:S'[k]?=some f.g):
  H' lw=some (.lst ([]++[.ref f.a]))/\∃vs r,upd H' lw (.lst []) A.b=some (.ins A.C A.dx [("rows",.ref A.lr),("statements",.ref A.ls),("numbers",.ref A.dn)])/\upd H' lw (.lst []) A.ls=some (.lst vs)/\vs[k]?=some r/\SameV [N.T] H0 (upd H' lw (.lst []))/\TabOk (upd H' lw (.lst [])) N.T N.ds/\LtV (upd H' lw (.lst [])) r g0:=by
 have i  := fb _ _ F.nw L.w;have c:=B'.put (o:=.lst []) i F.nw;have h:FrB [N.T] H0 (upd H' lw (.lst [])):=(F.step L.e fb).putN F.w;obtain⟨vs,p,j⟩:=c.b.sts;have q  := L.st.2.2.1.2;subst q
 have d:k < vs.length:=by rw[zk j];exact (yc.mp hk).1
 obtain⟨B,l,s⟩:=paired_get j (zb d);rw[hk] at l;cases l;obtain⟨x,m,_⟩:=t0;obtain⟨u,v,_⟩:=c.t;refine⟨i,vs,vs[k],c.b.ins,p,zb d,⟨fun b o n e=>h b o (fun z=>?_) e,fun b o n e=>h b o n e,fun b o e=>?_⟩,c.t,s⟩
 ·rw[yf.mp z,m] at e
  exact n _ (zu e).symm
 ·by_cases z:b=N.T
  ·simp_all
  ·exact⟨o,h b o (fun y=>z (yf.mp y)) e⟩
theorem Wu2 {A:BkA}(h1:H A.b=some (.ins A.C A.dx [("rows",.ref A.lr),("statements",.ref A.ls),("numbers",.ref A.dn)]))(h2:H A.lr=some (.lst []))(h3:H A.ls=some (.lst []))(h4:H A.dn=some (.dT []))(ne:A.lr≠A.ls)(t:TabOk H N.T N.ds):BkT A N [] [] H :=
 ⟨⟨h1,⟨[],h2,.nil⟩,⟨[],h3,.nil⟩,⟨[],h4,rfl,(fun i r e=>nomatch e),fun r n _ _=>rfl⟩,⟨rfl,(fun i r t e=>nomatch e),zcw⟩,(by simp),ne⟩,t⟩
end Ken
namespace L2
open PySem PySem.Spec PyProof.Rows
section
def Yn2 (K:W.Frag)(neg:Bool):R2:=fun x y H Q=>∃d e,Dn K H x d/\Dn K H y e/\d.canLay0=true/\e.canLay0=true/\min d.depth e.depth<=200/\Q (.bl (if neg then !PyData.eqv d e else yaw d e)) H
theorem Wc8 (hu:X.A.units+200 < cLine):OpR X (yai .Eq) (Yn2 X.K false):=by
 intro g s m H x y v u Q I b a h;obtain⟨d,e,l,k,j,i,n,q⟩:=h;obtain⟨p,f⟩:=l.reads I b;obtain⟨o,c⟩:=k.reads I a;exact W.cmp_ofEq (SeqAt.rcAt_reads f c j i (by omega) _ _ _ _ ⟨.bl _,H,I,rfl,q⟩)
theorem Yi5 (hu:X.A.units+200 < cLine):OpR X (yai .NotEq) (Yn2 X.K true):=by
 intro g s m H x y v u Q I b a h;obtain⟨d,e,l,k,j,i,n,q⟩:=h;obtain⟨p,f⟩:=l.reads I b;obtain⟨o,c⟩:=k.reads I a;exact W.cmp_ofNotEq (SeqAt.rcNeAt_reads f c j i (by omega) _ _ _ _ ⟨.bl _,H,I,rfl,q⟩)
end
theorem Yp1 {k:Nat}(hr:Room k A):A.units+200 < cLine:=by have:=hr.un;omega
end L2
namespace Ken
open PySem L2
theorem Wx3 (u:U5):inV (.str u.str) [.str "left",.str "right"]=decide (u=.left∨u=.right):=by cases u<;>decide
structure LkQ (H:Hp)(ga:Addr)(gs:List V)(Γ:List Tm):Prop where
 l:H ga=some (.lst gs)
 p:Paired (fun r s=>Lt s H r) gs Γ
theorem LkQ.keep (h:LkQ H ga gs Γ)(e:Same H H'):LkQ H' ga gs Γ:=⟨e _ _ h.l,Paired.mapP h.p fun _ _ z=>z.keep e⟩
theorem LkQ.more {pa:Addr}{x:V}{s:Tm}(h:LkQ H ga gs Γ)(e:Same H H')(hl:H' pa=some (.lst (x::gs)))(hx:Lt s H' x):LkQ H' pa (x::gs) (s::Γ):=⟨hl,.cons hx (h.keep e).p⟩
inductive sp_lkQ (K:W.Frag)(n:Nat):Sp
 |mk {vs H Q E:_} (v:V) (t:Te) (g:Tm) (ga:Addr) (gs:List V) (Γ:List Tm):vs=[v,.ref ga]->LEK K H v t->HasQ qk Γ t g->t.deep<=n->LkQ H ga gs Γ->gs.length+t.size<=4000->(∀r H',Same H H'->Lt g H' r->Q r H')->sp_lkQ K n vs H Q E
inductive sp_lkQ2 (K:W.Frag)(n:Nat):Sp
 |mk {vs H Q E:_} (v:V) (u:U2) (a b:Te) (g:Tm) (ga:Addr) (gs:List V) (Γ:List Tm):vs=[v,.ref ga]->LEK K H v (.two u a b)->HasQ qk Γ (.two u a b) g->a.deep<=n->b.deep<=n->LkQ H ga gs Γ->gs.length+(1+a.size+b.size)<=4000->(∀r H',Same H H'->Lt g H' r->Q r H')->sp_lkQ2 K n vs H Q E
inductive sp_lkQ3 (K:W.Frag)(n:Nat):Sp
 |mk {vs H Q E:_} (v:V) (a b c:Te) (g:Tm) (ga:Addr) (gs:List V) (Γ:List Tm):vs=[v,.ref ga]->LEK K H v (.cs a b c)->HasQ qk Γ (.cs a b c) g->a.deep<=n->b.deep<=n->c.deep<=n->LkQ H ga gs Γ->gs.length+(1+a.size+b.size+c.size)<=4000->(∀r H',Same H H'->Lt g H' r->Q r H')->sp_lkQ3 K n vs H Q E
inductive sp_lcountL (K:W.Frag):Sp
 |mk {vs H Q E:_} (v:V) (t:Te):vs=[v]->LEK K H v t->t.size<=5000->t.all Tm.ok->(∀H',Same H H'->Q (.int (t.size:Nat)) H')->sp_lcountL K vs H Q E
theorem Zm0 {g:Tm}{r:V}(h:Lt g H r):r≠.non:=fun e=>by
 subst e
 cases g with
 |low=>obtain⟨_,z,_⟩:=h;cases z
 |ltr x=>obtain⟨_,z,_⟩:=h;cases z
 |nd k a b=>obtain⟨_,_,_,z,_⟩:=h;cases z
theorem tg5 (u:U5):inV (V.str u.str) [.str "pair",.str "use"]=false/\u.str≠"cases"/\u.str≠"fun"/\u.str≠"at":=by cases u<;>decide
theorem tg2 (u:U2):inV (V.str u.str) [.str "pair",.str "use"]=true/\u.str≠"cases"/\u.str≠"fun"/\u.str≠"at":=by cases u<;>decide
theorem Xq7 {t:Te}(h:inV (V.str t.tag) [.str "pair",.str "use"]=true):∃u a b,t=.two u a b:=by
 cases t with
 |two u a b=>exact⟨u,a,b,rfl⟩
 |«at» k=>exact absurd (show inV (V.str "at") [.str "pair",.str "use"]=true from h) (by decide)
 |one u a ss=>exact absurd ((tg5 u).1.symm.trans h) (by decide)
 |fn s a=>exact absurd (show inV (V.str "fun") [.str "pair",.str "use"]=true from h) (by decide)
 |cs a b c=>exact absurd (show inV (V.str "cases") [.str "pair",.str "use"]=true from h) (by decide)
theorem Wa2 {t:Te}(h:t.tag="cases"):∃a b c,t=.cs a b c:=by
 cases t with
 |two u a b=>exact absurd h (tg2 u).2.1
 |«at» k=>exact absurd (show ("at":Str)="cases" from h) (by decide)
 |one u a ss=>exact absurd h (tg5 u).2.1
 |fn s a=>exact absurd (show ("fun":Str)="cases" from h) (by decide)
 |cs a b c=>exact⟨a,b,c,rfl⟩
theorem Wa1 {t:Te}(h:t.tag="fun"):∃s a,t=.fn s a:=by
 cases t with
 |two u a b=>exact absurd h (tg2 u).2.2.1
 |«at» k=>exact absurd (show ("at":Str)="fun" from h) (by decide)
 |one u a ss=>exact absurd h (tg5 u).2.2.1
 |fn s a=>exact⟨s,a,rfl⟩
 |cs a b c=>exact absurd (show ("cases":Str)="fun" from h) (by decide)
theorem Xq8 {t:Te}(h1:¬t.tag="at")(h2:¬inV (V.str t.tag) [.str "pair",.str "use"]=true)(h3:¬t.tag="cases")(h4:¬t.tag="fun"):∃u a ss,t=.one u a ss:=by
 cases t with
 |two u a b=>exact absurd (tg2 u).1 h2
 |«at» k=>exact absurd rfl h1
 |one u a ss=>exact⟨u,a,ss,rfl⟩
 |fn s a=>exact absurd rfl h4
 |cs a b c=>exact absurd rfl h3
theorem Zm8 {g:Nat->Nat->Te}(hg:∀k f,(g k f).fine ws):∀{t:Te} {f:Nat},t.fine ws->(t.mp g f).fine ws
 | .at k,f,_=>hg k f
 | .one u a ss,f,h=>⟨Zm8 hg h.1,h.2⟩
 | .two u a b,f,h=>⟨Zm8 hg h.1,Zm8 hg h.2⟩
 | .fn s a,f,h=>⟨h.1,Zm8 hg h.2⟩
 | .cs a b c,f,h=>⟨Zm8 hg h.1,Zm8 hg h.2.1,Zm8 hg h.2.2⟩
theorem Yh5 {o t:Te}(ho:o.fine ws)(h:t.fine ws):(t.mp (putF o) 0).fine ws:=Zm8 (fun k f=>by
 unfold putF
 split
 ·exact Zm8 (g:=Zl5 k) (fun a b=>trivial) ho
 ·trivial) h
theorem Yu1 {t:Te}(ht:t.turns=true)(h:t.fine ws):t.itself.fine ws:=by
 rcases Zs2 ht with ⟨a,b,d,rfl⟩ | ⟨a,b,d,rfl⟩ | ⟨e,b,o,rfl⟩ | ⟨a,d,b,c,rfl⟩ | ⟨a,d,b,c,rfl⟩
 ·exact h.1.1
 ·exact h.1.2
 ·exact Yh5 h.2 h.1.2
 ·exact Yh5 h.1.1 h.2.1
 ·exact Yh5 h.1.1 h.2.2
theorem Zk5:∀{ρ:List Nat} {t:Te},t.okp ρ->t.fine ws->(t.tat ρ).fine ws
 | [],t,ho,h=>by rw[Xg6];exact Yu1 (Yt2 ho) h
 |i::ρ,t,ho,h=>by
  rcases Yi6 ho with ⟨u,a,ss,rfl,rfl,ho⟩ | ⟨u,a,b,rfl,rfl,ho⟩ | ⟨u,a,b,rfl,rfl,ho⟩ | ⟨s,a,rfl,rfl,ho⟩ | ⟨a,b,c,rfl,rfl,ho⟩ | ⟨a,b,c,rfl,rfl,ho⟩ | ⟨a,b,c,rfl,rfl,ho⟩
  ·exact⟨Zk5 ho h.1,h.2⟩
  ·exact⟨Zk5 ho h.1,h.2⟩
  ·exact⟨h.1,Zk5 ho h.2⟩
  ·exact⟨h.1,Zk5 ho h.2⟩
  ·exact⟨Zk5 ho h.1,h.2⟩
  ·exact⟨h.1,Zk5 ho h.2.1,h.2.2⟩
  ·exact⟨h.1,h.2.1,Zk5 ho h.2.2⟩
structure Lp54 (K:W.Frag)(H:Hp)(ws:List Str)(ts:List Tm)(g:Tm)(x:V)(t:Te):Prop where
 e:LEK K H x t
 q:HasQ qk ts t g
 f:t.fine ws
 s:t.size<=1000
 d:t.deep<=80
theorem Lp54.keep {ts:List Tm}{g:Tm}{x:V}{t:Te}(h:Lp54 K H ws ts g x t)(e:SameT H H'):Lp54 K H' ws ts g x t:=⟨LEK.keep h.e (SameT.keepL e),h.q,h.f,h.s,h.d⟩
end Ken
namespace L2
open PySem PySem.Spec PyProof.Rows
theorem Wd1 (k:KLe K K'){ns:Addr}{r:Option Value}(h:W.nsIn K ns x=some r):W.nsIn K' ns x=some r:=by
 unfold W.nsIn at h ⊢
 cases z:zaj ns K with
 |none=>simp_all
 |some o=>rw[z] at h;rw[k ns o z];exact h
theorem Xa5 (k:KLe K K'){r:ClassData}(h:W.clsIn K C=some r):W.clsIn K' C=some r:=by
 unfold W.clsIn at h ⊢
 cases z:zaj C K with
 |none=>simp_all
 |some o=>rw[z] at h;rw[k C o z];exact h
theorem Xt0 (k:KLe K K'){c:Value}{r:Option Value}(h:W.ownIn K x c=some r):W.ownIn K' x c=some r:=by
 cases c with
 |ref a =>
  unfold W.ownIn at h ⊢;dsimp only at h ⊢
  cases z:zaj a K with
  |none=>simp_all
  |some o =>
   rw[z] at h;rw[k a o z]
   split at h
   ·exact Wd1 k h
   omega
 | _=>exact h
theorem Yf9 (k:KLe K K'):∀{m:List Value} {r:Option Value},W.alongIn K x m=some r->W.alongIn K' x m=some r
 | [],r,h=>h
 |c::m,r,h=>by
  rw[W.alongIn.eq_def] at h ⊢;dsimp only at h ⊢
  cases z:W.ownIn K x c with
  |none=>simp_all
  |some o =>
   rw[z] at h;rw[Xt0 k z]
   cases o with
   |some v=>exact h
   |none=>exact Yf9 k h
theorem Zu4 (k:KLe K K'){t:Value}{r:Option Value}(h:ydc K t x=some r):ydc K' t x=some r:=by
 cases t with
 |ref a =>
  unfold ydc at h ⊢;dsimp only at h ⊢
  cases z:zaj a K with
  |none=>simp_all
  |some o =>
   rw[z] at h;rw[k a o z]
   split at h
   ·exact Yf9 k h
   omega
 | _=>exact h
theorem Cls.le (k:KLe K K')(c:Cls K C):Cls K' C:=by
 obtain⟨a,d,b,e⟩:=c;refine⟨?_,?_,?_,Zu4 k e⟩
 ·unfold W.plainGet at a ⊢
  rw[yr] at a ⊢;exact⟨by rw[Zu4 k (eq_of_beq a.1)];rfl,by rw[Zu4 k (eq_of_beq a.2)];rfl⟩
 ·unfold ydg at d ⊢
  cases z:W.clsIn K C with
  |none=>simp_all
  |some o=>rw[z] at d;rw[Xa5 k z];omega
 ·unfold W.plainOver at b ⊢
  cases z:W.clsIn K C with
  |none=>simp_all
  |some o=>rw[z] at b;rw[Xa5 k z];omega
theorem NoAttr.le (k:KLe K K')(n:NoAttr K C x):NoAttr K' C x:=Zu4 k n
end L2
namespace Ken
@[elab_as_elim] theorem len1 {α:Type}{P:List α->Prop}{us:List α}(h:us.length=1)(k:∀a0,P [a0]):P us:=match us,h with | [_],_=>k _
@[elab_as_elim] theorem len2 {α:Type}{P:List α->Prop}{us:List α}(h:us.length=2)(k:∀a0 a1,P [a0,a1]):P us:=match us,h with | [_,_],_=>k _ _
@[elab_as_elim] theorem len3 {α:Type}{P:List α->Prop}{us:List α}(h:us.length=3)(k:∀a0 a1 a2,P [a0,a1,a2]):P us:=match us,h with | [_,_,_],_=>k _ _ _
end Ken
namespace L2
open PySem PySem.Spec PyProof.Rows
structure Cl (P:zf)(w:World)(K:W.Frag)(mg:Str->Option Value)(base:Heap)(k:Nat)(x:Str)(ps:List Str)(sp:Sp):Prop where
 ex:∃(f:Addr) (fd:zc),FnOk P w K mg base CX0 k f fd ps sp/\mg x=some (.ref f)/\zan K (.ref f)=true/\Binds K fd ps []
section
variable {P:zf}{base:Heap}{k:Nat}
theorem Cl.of {fd:zc}(G:FnOk P w K mg base CX0 k f fd ps sp)(m:mg x=some (.ref f))(kp:zan K (.ref f)=true)(b:Binds K fd ps []):Cl P w K mg base k x ps sp:=⟨⟨f,fd,G,m,kp,b⟩⟩
theorem Cl.up (C:Cl P w K mg base j x ps sp)(h:j<=k):Cl P w K mg base k x ps sp:=by
 obtain⟨f,a,G,r⟩:=C.ex;exact⟨⟨f,a,G.mono h,r⟩⟩
theorem Df.okG {N:List Str}(D:Df K mg x st ps)(S:FnScope N ps (Za3 st))(hbody:∀(f:Addr) (cdv:Value) (A:Around) (outer:List Env) (s:Shared) (H:Hp) (vs:List V) (Q:VK) (E:XK),Room k (A.deeper (envOfC x (Za3 st) s.heap.objs.size f cdv))->sp vs H Q E->∀G:List V->Prop,(∀us:List V,(∃t,PSs (cxOf CX0 P w K mg base N x (Za3 st) f cdv A outer s H E).nox (Zc8 st) t/\t { nx:=fun _ H'=>Q .non H',rt:=Q } (start N us) H)->G us)->G vs)(len:∀vs H Q E,sp vs H Q E->vs.length=ps.length:=by intro _ _ _ _ h;first | (cases h;subst_vars;rfl) | (repeat (first | (obtain⟨rfl,_⟩:=h;rfl) | obtain⟨_,h⟩:=h))):Cl P w K mg base (k+1) x ps sp:=by
 obtain⟨f,c,m,F,a,b⟩:=D.ex;exact⟨⟨f,c,F.okG S (hbody f) len,m,a,b⟩⟩
end
section
theorem Zb8 {k:Nat}{e:Expr}{es:List Expr}{t:TA}{p:Pos}(C:Cl X.prog X.w X.K X.mg X.base k x ps sp)(hr:Room k X.A)(ha:PA X (e::es) t)(hg:Gl X x:=by exact rfl)(hdb:(x == ("__debug__":Str))=false:=by decide)(he:zx (e::es) X.env=(false,eval e X.env)::zx es X.env:=by rfl)(hpl:(backTo pos (zx es X.env)).any (·.1)=false:=by rfl):
  PE X (.Call (.Name x p) (e::es) [] pos) (Yd5 sp [] E0 t):=by
 obtain⟨f,c,G,m,a,b⟩:=C.ex;exact Yt0 G hr hg m a b .nil Yi2 ha hdb he hpl
end
abbrev pq0:List Str:=["_law_cell_here","_law_given_here","_law_words_here"]
abbrev pq1:List Str:=["_law_cell_here","_law_k"]
abbrev pq3:List Str:=["_law_cell_here","_law_size_here","_law_given_here","_law_words_here"]
abbrev pq4:List Str:=["_law_cell_here","_law_size_here","_law_words_here"]
abbrev pq5:List Str:=["_law_cell_here","_law_words_here"]
abbrev pq10:List Str:=["_law_term","_law_given_here"]
abbrev pq11:List Str:=["_law_term","_law_own"]
abbrev pq13:List Str:=["book","asked","given"]
abbrev pq14:List Str:=["book","asked"]
abbrev pq15:List Str:=["book","number","name"]
abbrev pq16:List Str:=["book","row"]
abbrev pq17:List Str:=["book","statement"]
abbrev pq18:List Str:=["book","term","kinds"]
abbrev pq20:List Str:=["piece","inner"]
abbrev pq21:List Str:=["pieces","of_piece"]
abbrev pq23:List Str:=["self","term","front"]
abbrev pq25:List Str:=["statement","of_simple","of_pair"]
abbrev pq29:List Str:=["term","number"]
abbrev pq30:List Str:=["term","of_at"]
abbrev pq32:List Str:=["term"]
abbrev KpI (K:W.Frag)(f:Addr):Prop:=zan K (.ref f)=true
abbrev MgI (mg:Str->Option Value)(x:Str)(f:Addr):Prop:=mg x=some (.ref f)
abbrev Fk0 (P:zf)(w:World)(K:W.Frag)(mg:Str->Option Value)(base:Heap):Nat->Addr->zc->List Str->Sp->Prop:=FnOk P w K mg base CX0
section
theorem ndS (l:List Str)(h:l.Nodup:=by decide +kernel):l.Nodup:=h
theorem pgn (i:Nat)(hN:X.N.Nodup)(hi:X.N[i]?=some x:=by exact rfl)(hx:Loc X.env.scope x:=by exact Or.inl rfl)(hf:X.fn x=true∨X.env.scope.names.lookup x=some .local:=by first | exact .inl rfl | exact .inr rfl | assumption):PG X (.Name x pos) (Zu3 i):=Wb7 hN hi hx hf
theorem pcl {k:Nat}{fd:zc}{e:Expr}{es:List Expr}{t:TA}{p:Pos}(G:FnOk X.prog X.w X.K X.mg X.base CX0 k f fd ps sp)(hr:Room k X.A)(hm:X.mg x=some (.ref f))(hk:zan X.K (.ref f)=true)(hb:Binds X.K fd ps [])(ha:PA X (e::es) t)(hg:Gl X x:=by exact rfl)(hdb:(x == ("__debug__":Str))=false:=by decide)(he:zx (e::es) X.env=(false,eval e X.env)::zx es X.env:=by rfl)(hpl:(backTo pos (zx es X.env)).any (·.1)=false:=by rfl):
  PE X (.Call (.Name x p) (e::es) [] pos) (Yd5 sp [] E0 t):=Yt0 G hr hg hm hk hb .nil Yi2 ha hdb he hpl
theorem pxt {a b:Expr}(ha:PE X a ta)(hb:PE X b tb)(hs:Yd1 b:=by exact fun _ _=>rfl):PE X (.Subscript a b pos) (tOp (rIxT X.K) ta tb):=Wc1 Ws4 ha hb hs
theorem pxl {a b:Expr}(ha:PE X a ta)(hb:PE X b tb)(hs:Yd1 b:=by exact fun _ _=>rfl):PE X (.Subscript a b pos) (tOp (rIxL X.K) ta tb):=Wc1 We0 ha hb hs
theorem pst (i:Nat){e:Expr}(hN:X.N.Nodup)(he:PE X e te)(hi:X.N[i]?=some x:=by exact rfl)(hx:Loc X.env.scope x:=by exact Or.inl rfl)(hs:zdo e (some (.Name x pos')) pos.line X.env=pure false:=by rfl)(hf:X.fn x=true∨X.env.scope.names.lookup x=some .local:=by first | exact .inl rfl | exact .inr rfl | assumption):
  PS X (.Assign [.Name x pos'] e pos) (tAsg te (Zu3 i)):=Zw6 hN hi hx he hs hf
end
theorem scm {N:List Str}(h:(decide (sc.kind=.function)&&(!sc.isCoroutine&&(!sc.isGenerator&&(decide N.Nodup&&(decide (N.take ps.length=ps)&&(ps.all (fun x=>decide (sc.names.lookup x=some .local∨sc.names.lookup x=some .cell))&&sc.names.all fun y=>decide (y.2≠.free)))))))=true):FnScope N ps sc:=by
 simp only[yr,decide_eq_true_eq,zay,Bool.not_eq_true'] at h;exact⟨h.1,h.2.1,h.2.2.1,h.2.2.2.1,h.2.2.2.2.1,h.2.2.2.2.2.1,h.2.2.2.2.2.2⟩
def varM:Option (Option V)->Hp->VK->Prop
 |some (some v),H,Q=>Q v H
 | _,_,_=>False
def Yl7 (i:Nat):TE:=fun σ H Q=>varM σ[i]? H Q
theorem Zl6 {v:V}{Q:VK}:varM (some (some v)) H Q=Q v H:=rfl
theorem Xz3 {o:Option (Option V)}{Q:VK}:varM o H Q=∃v,o=some (some v)/\Q v H:=propext ⟨fun h=>by
 unfold varM at h
 split at h
 ·exact⟨_,rfl,h⟩
 ·exact h.elim,fun⟨v,e,h⟩=>by rw[e];exact h⟩
theorem Xq9:Yl7=tVar:=by
 funext i σ H Q
 exact Xz3
def bM:V->Hp->(Bool->Hp->Prop)->Prop
 | .bl c,H,Q=>Q c H
 | _,_,_=>False
theorem Xe6 {c:Bool}{Q:Bool->Hp->Prop}:bM (.bl c) H Q=Q c H:=rfl
theorem Xv4 {x:V}{Q:Bool->Hp->Prop}:bM x H Q=∃k,x=.bl k/\Q k H:=propext ⟨fun h=>by
 unfold bM at h
 split at h
 ·exact⟨_,rfl,h⟩
 ·exact h.elim,fun⟨v,e,h⟩=>by rw[e];exact h⟩
def Zs4 (t:TE):TT:=fun σ H Q=>t σ H fun x H1=>bM x H1 Q
theorem Yl8:Zs4=Yd3:=by
 funext t σ H Q
 show t σ H (fun x a=>bM x a Q)=t σ H _
 congr 1
 funext x a
 exact Xv4
def rI0M (g:Int->Int->V):R2
 | .int i,.int j,H,Q=>Q (g i j) H
 | _,_,_,_=>False
theorem Zp2 {i j:Int}{Q:VK}:rI0M g (.int i) (.int j) H Q=Q (g i j) H:=rfl
theorem Yh1 {x:V}{Q:VK}:rI0M g x y H Q=∃i j,x=.int i/\y=.int j/\Q (g i j) H:=propext ⟨fun h=>by
 unfold rI0M at h
 split at h
 ·exact⟨_,_,rfl,rfl,h⟩
 ·exact h.elim,fun⟨i,j,e,f,h⟩=>by rw[e,f];exact h⟩
theorem Zv4:rI0M=rI0:=by
 funext g x y H Q
 exact Yh1
def rIM (C:Int->Int->Prop)(g:Int->Int->V):R2
 | .int i,.int j,H,Q=>C i j/\Q (g i j) H
 | _,_,_,_=>False
theorem Zv3 {C:Int->Int->Prop}{i j:Int}{Q:VK}:rIM C g (.int i) (.int j) H Q=(C i j/\Q (g i j) H):=rfl
theorem Yx5 {C:Int->Int->Prop}{x:V}{Q:VK}:rIM C g x y H Q=∃i j,x=.int i/\y=.int j/\C i j/\Q (g i j) H:=propext ⟨fun h=>by
 unfold rIM at h
 split at h
 ·exact⟨_,_,rfl,rfl,h⟩
 ·exact h.elim,fun⟨i,j,e,f,h⟩=>by rw[e,f];exact h⟩
theorem Xi2:rIM=rI:=by
 funext C g x y H Q
 exact Yx5
def Xi0 (K:W.Frag):R2
 | .ref p,.int i,H,Q=>∃xs,SqT K H p xs/\∃v,atI xs i=some v/\Q v H
 | _,_,_,_=>False
theorem Zp0 {i:Int}{Q:VK}:Xi0 K (.ref p) (.int i) H Q=∃xs,SqT K H p xs/\∃v,atI xs i=some v/\Q v H:=rfl
theorem Zy3 {x:V}{Q:VK}:Xi0 K x y H Q=∃p xs i v,x=.ref p/\y=.int i/\SqT K H p xs/\atI xs i=some v/\Q v H:=propext ⟨fun h=>by
 unfold Xi0 at h
 split at h
 ·obtain⟨xs,b,v,a⟩:=h
  exact⟨_,xs,_,v,rfl,rfl,b,a⟩
 ·exact h.elim,fun⟨p,xs,i,v,e,f,b,a⟩=>by rw[e,f];exact⟨xs,b,v,a⟩⟩
theorem Xs0:Xi0=rIxT:=by
 funext K x y H Q
 exact Zy3
def Xi1 (K:W.Frag):R2
 | .ref p,.int i,H,Q=>∃xs,SqL K H p xs/\∃v,atI xs i=some v/\Q v H
 | _,_,_,_=>False
theorem Zp1 {i:Int}{Q:VK}:Xi1 K (.ref p) (.int i) H Q=∃xs,SqL K H p xs/\∃v,atI xs i=some v/\Q v H:=rfl
theorem Zy4 {x:V}{Q:VK}:Xi1 K x y H Q=∃p xs i v,x=.ref p/\y=.int i/\SqL K H p xs/\atI xs i=some v/\Q v H:=propext ⟨fun h=>by
 unfold Xi1 at h
 split at h
 ·obtain⟨xs,b,v,a⟩:=h
  exact⟨_,xs,_,v,rfl,rfl,b,a⟩
 ·exact h.elim,fun⟨p,xs,i,v,e,f,b,a⟩=>by rw[e,f];exact⟨xs,b,v,a⟩⟩
theorem Xs1:Xi1=rIxL:=by
 funext K x y H Q
 exact Zy4
def rEqM:R2
 | .str a,.str b,H,Q=>Q (.bl (decide (V.str a=V.str b))) H
 | .int a,.int b,H,Q=>Q (.bl (decide (V.int a=V.int b))) H
 |x,y,H,Q=>scal x y=true/\Q (.bl (decide (x=y))) H
theorem Zp3 {a b:Str}{Q:VK}:rEqM (.str a) (.str b) H Q=Q (.bl (decide (V.str a=V.str b))) H:=rfl
theorem Zp4 {a b:Int}{Q:VK}:rEqM (.int a) (.int b) H Q=Q (.bl (decide (V.int a=V.int b))) H:=rfl
theorem Yh2 {x:V}{Q:VK}:rEqM x y H Q=(scal x y=true/\Q (.bl (decide (x=y))) H):=by
 unfold rEqM
 split
 ·exact propext ⟨fun h=>⟨Zy0 _ _,h⟩,fun h=>h.2⟩
 ·exact propext ⟨fun h=>⟨Zy1 _ _,h⟩,fun h=>h.2⟩
 ·rfl
theorem Wb1:rEqM=rEq:=by
 funext x y H Q
 exact Yh2
section
theorem pvM (i:Nat)(hN:X.N[i]?=some x:=by rfl)(hv:Vis X.env.scope x:=by first | exact Or.inl rfl | exact Or.inr (Or.inl rfl) | exact Or.inr (Or.inr rfl))(hd:(x == ("__debug__":Str))=false:=by decide)(hcd:(x == ("__classdict__":Str))=false:=by decide):PE X (.Name x pos) (Yl7 i):=Xq9▸Xj1 hN hv hd hcd
theorem ptcM {a b:Expr}(ho:OpR X (yai op) r)(ha:PE X a ta)(hb:PE X b tb)(h:op≠.In:=by decide)(h2:op≠.NotIn:=by decide):PT X (.Compare a [op] [b] pos) (Zs4 (tOp r ta tb)):=Yl8▸Ys7 ho ha hb (Yn8 _ h h2)
theorem Zj4 {a b:Expr}(ho:OpR X (yai op) r)(ha:PE X a ta)(hb:PE X b tb)(hm:ycb op b=false):PT X (.Compare a [op] [b] pos) (Zs4 (tOp r ta tb)):=Yl8▸Ys7 ho ha hb hm
theorem pxtM {a b:Expr}(ha:PE X a ta)(hb:PE X b tb)(hs:Yd1 b:=by exact fun _ _=>rfl):PE X (.Subscript a b pos) (tOp (Xi0 X.K) ta tb):=Xs0▸pxt ha hb hs
theorem pxlM {a b:Expr}(ha:PE X a ta)(hb:PE X b tb)(hs:Yd1 b:=by exact fun _ _=>rfl):PE X (.Subscript a b pos) (tOp (Xi1 X.K) ta tb):=Xs1▸pxl ha hb hs
theorem Ze0:OpR X (yai .Eq) rEqM:=Wb1▸Ww6
theorem Ze4:OpR X (zbq .Add) (rI0M fun i j=>.int (i+j)):=Zv4▸Wm8
theorem Zj3:OpR X (zbq .Sub) (rI0M fun i j=>.int (i - j)):=Zv4▸Wm5
theorem Yb0:OpR X (zbq .Mult) (rIM CMul fun i j=>.int (i*j)):=Xi2▸Wm6
theorem Zd8:OpR X (zbq .FloorDiv) (rIM CDiv fun i j=>.int (i / j)):=Xi2▸Wc6
theorem Zd0:OpR X (zbq .Mod) (rIM (fun _ j=>0 < j) fun i j=>.int (i % j)):=Xi2▸Wm7
theorem Zt3:OpR X (yai .Lt) (rI0M fun i j=>.bl (decide (i < j))):=Zv4▸Ww2
theorem Yn5:OpR X (yai .LtE) (rI0M fun i j=>.bl (decide (i<=j))):=Zv4▸Ww3
theorem Yn6:OpR X (yai .Gt) (rI0M fun i j=>.bl (decide (j < i))):=Zv4▸Ww4
theorem Xj5:OpR X (yai .GtE) (rI0M fun i j=>.bl (decide (j<=i))):=Zv4▸Ww5
end
section
variable {α β:Type}{a b:α}{l m:List α}
theorem zmc {f:α->β}:(a::l).map f=f a::l.map f:=rfl
theorem zmn {f:α->β}:([]:List α).map f=[]:=rfl
theorem zlc:(a::l).length=l.length+1:=rfl
theorem zln:([]:List α).length=0:=rfl
theorem zca:(a::l)++m=a::(l++m):=rfl
theorem zna:[]++m=m:=rfl
theorem zrs:ycf (n+1) a=a::ycf n a:=rfl
theorem zrz:ycf 0 a=[]:=rfl
theorem zg0:(a::l)[0]?=some a:=rfl
theorem zgs:(a::l)[n+1]?=l[n]?:=rfl
theorem zgn:([]:List α)[n]?=none:=rfl
theorem zs0:(a::l).set 0 b=b::l:=rfl
theorem zss:(a::l).set (n+1) b=a::l.set n b:=rfl
theorem zjs {x:Option α}:(some x).join=x:=rfl
theorem zjn:(none:Option (Option α)).join=none:=rfl
end
end L2
namespace KLaw
noncomputable abbrev pg:=PySem.Challenge.pw_ken_k54_kind_stays
open PySem L2 Ken
noncomputable def ask:Hd.Ask:=⟨[53,54,55,56,57,58,59,60,61,62,63,64,65,66,68,67,69,70,47,49,13,14,15,16,41,42,38,39,48,51,50,8,9,10,20,21,22,23,24,25,26,27,28,29,30,31,33,34,35,36,37,71],[7,6],[32],[],[ze "len",ze "range",ze "max",ze "enumerate",ze "reversed",ze "list",ze "zip",ze "tuple",ze "sorted",ze "int",ze "isinstance",ze "bool",ze "str"]⟩
noncomputable def cask:Hd.ClsAsk:=⟨[1,3,4,18,19],[(3,1),(4,1)],[]⟩
noncomputable def mask:Hd.MoreAsk:=⟨[],[(ze "MOST_PARTS",1000),(ze "MOST_DEEP",120)]⟩
noncomputable def tas:List Nat:=[21,16,41,42,39,51]
noncomputable def ut:Bool:=true
noncomputable def pls:List Hd.PlRow:=[⟨18,0,ze "Book.__init__",[ze "rows",ze "statements",ze "numbers"]⟩,⟨19,0,ze "Asked.__init__",[ze "term",ze "front",ze "kinds"]⟩]
noncomputable def q:zf:=W.view pg [1,2,3,4,6,7,8,9,10,12,13,14,15,16,18,19,20,21,22,23,24,25,26,27,28,29,30,31,32,33,34,35,36,37,38,39,41,42,44,45,46,47,48,49,50,51,53,54,55,56,57,58,59,60,61,62,63,64,65,66,67,68,69,70,71]
noncomputable def loose:List Str:=[ze "INNER",ze "DEEDS",ze "TURNING"]
open PySem.W.Fast
theorem h1 (w:World):(fun os=>Hd.pre pg w os)=fun os=>Hd.preTo pg w os:=by
 rw[hdPre_eq,hdPreTo_eq]
 kernel_rfl
theorem h2 (w:World):(fun os=>Hd.blk pg w os)=fun os=>Hd.blkTo pg w os:=by
 rw[hdBlk_eq,hdBlkTo_eq]
 kernel_rfl
theorem h3fA (w:World):(fun os=>Hd.evA pg 3491 ⟨407,0,419,15⟩ (yag w "special-get-raises" false) os)=fun _=>Hd.evATo pg ⟨407,0,419,15⟩:=by
 rw[hdEvA_eq]
 kernel_rfl
theorem h3fB (w:World):(fun os=>Hd.evB pg q loose [] 3491 ⟨407,0,419,15⟩ (yag w "special-get-raises" false) os)=fun _=>Hd.evBTo q:=by
 rw[hdEvB_eq]
 kernel_rfl
theorem h3fD (w:World):(fun os=>Hd.evD pg q loose [] 3491 ⟨407,0,419,15⟩ (yag w "special-get-raises" false) os)=fun _=>Hd.evDTo q loose:=by
 rw[hdEvD_eq,hdEvDTo_eq]
 kernel_rfl
theorem h3fC (w:World):(fun os=>Hd.evC pg (Hd.obs10 pg ask cask mask tas pls ut) 3491 ⟨407,0,419,15⟩ (yag w "special-get-raises" false) os)=fun _=>Hd.evCTo (Hd.val10 pg ask mask pls ut) (yag w "special-get-raises" false):=by
 rw[hdEvC_eq,hdObs10_eq,hdVal10_eq]
 kernel_rfl
theorem h3f (w:World):(fun os=>Hd.ev pg q loose [] (Hd.obs10 pg ask cask mask tas pls ut) 3491 ⟨407,0,419,15⟩ (yag w "special-get-raises" false) os)=fun _=>Hd.evTo pg q loose (Hd.val10 pg ask mask pls ut) ⟨407,0,419,15⟩ (yag w "special-get-raises" false) :=
 Hd.ev_of (h3fA w) (h3fB w) (h3fD w) (h3fC w)
theorem h3tA (w:World):(fun os=>Hd.evA pg 3491 ⟨407,0,419,15⟩ (yag w "special-get-raises" true) os)=fun _=>Hd.evATo pg ⟨407,0,419,15⟩:=by
 rw[hdEvA_eq]
 kernel_rfl
theorem h3tB (w:World):(fun os=>Hd.evB pg q loose [] 3491 ⟨407,0,419,15⟩ (yag w "special-get-raises" true) os)=fun _=>Hd.evBTo q:=by
 rw[hdEvB_eq]
 kernel_rfl
theorem h3tD (w:World):(fun os=>Hd.evD pg q loose [] 3491 ⟨407,0,419,15⟩ (yag w "special-get-raises" true) os)=fun _=>Hd.evDTo q loose:=by
 rw[hdEvD_eq,hdEvDTo_eq]
 kernel_rfl
theorem h3tC (w:World):(fun os=>Hd.evC pg (Hd.obs10 pg ask cask mask tas pls ut) 3491 ⟨407,0,419,15⟩ (yag w "special-get-raises" true) os)=fun _=>Hd.evCTo (Hd.val10 pg ask mask pls ut) (yag w "special-get-raises" true):=by
 rw[hdEvC_eq,hdObs10_eq,hdVal10_eq]
 kernel_rfl
theorem h3t (w:World):(fun os=>Hd.ev pg q loose [] (Hd.obs10 pg ask cask mask tas pls ut) 3491 ⟨407,0,419,15⟩ (yag w "special-get-raises" true) os)=fun _=>Hd.evTo pg q loose (Hd.val10 pg ask mask pls ut) ⟨407,0,419,15⟩ (yag w "special-get-raises" true) :=
 Hd.ev_of (h3tA w) (h3tB w) (h3tD w) (h3tC w)
theorem h3 (w:World):(fun os=>Hd.ev pg q loose [] (Hd.obs10 pg ask cask mask tas pls ut) 3491 ⟨407,0,419,15⟩ w os)=fun _=>Hd.evTo pg q loose (Hd.val10 pg ask mask pls ut) ⟨407,0,419,15⟩ w :=
 W.byRow2 "special-get-raises" (P:=fun w=>(fun os=>Hd.ev pg q loose [] (Hd.obs10 pg ask cask mask tas pls ut) 3491 ⟨407,0,419,15⟩ w os)=fun _=>Hd.evTo pg q loose (Hd.val10 pg ask mask pls ut) ⟨407,0,419,15⟩ w) h3f h3t w
theorem lft:W.LeftO pg q loose (fun s=>W.xlAt q [] s&&W.recOk [] s) (Hd.hook10 pg ask cask mask tas pls ut).obs (Hd.hook10 pg ask cask mask tas pls ut).val 7106 :=
 Hd.left (by kernel_rfl) rfl (fun s=>by kernel_rfl) h1 h2 h3 rfl
theorem Zo3:Hd.nm (Hd.stAt pg 21)="number_of":=by kernel_rfl
theorem Yl6 (K:W.Frag):(Hd.tabs pg tas K).getD 0 0=Hd.tabAt K "number_of":=congrArg (Hd.tabAt K) Zo3
theorem Yl4 (K:W.Frag):Hd.tabAt K "number_of"∈Hd.tabs pg tas K:=Zo3▸(.head _)
theorem Zv8:Hd.nm (Hd.stAt pg 16)="changed":=by kernel_rfl
theorem Xb3 (K:W.Frag):(Hd.tabs pg tas K).getD 1 0=Hd.tabAt K "changed":=congrArg (Hd.tabAt K) Zv8
theorem Xb2 (K:W.Frag):Hd.tabAt K "changed"∈Hd.tabs pg tas K:=Zv8▸(.tail _ (.head _))
theorem Yb5:Hd.nm (Hd.stAt pg 41)="lifted":=by kernel_rfl
theorem Xg4 (K:W.Frag):(Hd.tabs pg tas K).getD 2 0=Hd.tabAt K "lifted":=congrArg (Hd.tabAt K) Yb5
theorem Xg1 (K:W.Frag):Hd.tabAt K "lifted"∈Hd.tabs pg tas K:=Yb5▸(.tail _ (.tail _ (.head _)))
theorem Xk0:Hd.nm (Hd.stAt pg 42)="put":=by kernel_rfl
theorem Wh9 (K:W.Frag):(Hd.tabs pg tas K).getD 3 0=Hd.tabAt K "put":=congrArg (Hd.tabAt K) Xk0
theorem Wh8 (K:W.Frag):Hd.tabAt K "put"∈Hd.tabs pg tas K:=Xk0▸(.tail _ (.tail _ (.tail _ (.head _))))
theorem Zo2:Hd.nm (Hd.stAt pg 39)="term_deep":=by kernel_rfl
theorem Yl5 (K:W.Frag):(Hd.tabs pg tas K).getD 4 0=Hd.tabAt K "term_deep":=congrArg (Hd.tabAt K) Zo2
theorem Yl3 (K:W.Frag):Hd.tabAt K "term_deep"∈Hd.tabs pg tas K:=Zo2▸(.tail _ (.tail _ (.tail _ (.tail _ (.head _)))))
theorem Yb4:Hd.nm (Hd.stAt pg 51)="turned":=by kernel_rfl
theorem Xg3 (K:W.Frag):(Hd.tabs pg tas K).getD 5 0=Hd.tabAt K "turned":=congrArg (Hd.tabAt K) Yb4
theorem Xg0 (K:W.Frag):Hd.tabAt K "turned"∈Hd.tabs pg tas K:=Yb4▸(.tail _ (.tail _ (.tail _ (.tail _ (.tail _ (.head _))))))
local macro_rules | `(tactic| walk_at $s:str)=>do
 let i:=fun(t:String)=>(t.splitOn " ").toArray.map fun x=>Lean.mkIdent x.toName
 let d:=i "Ya1 tFld sFld Ym0 Zz8 tKIn Yr3 Ys6 rSlT Yu6 Yu7 Yu4 Yu0 tFi Zw4 Zq9 tIf rInT iRev Ya0 Yd4 Yt9 kApp kPut tVar tC tOp rI0 rI rU tUn Yd3 tB Zx5 tNil tCB Yd5 tTup tLst ipI tAnd tOr tNot Yr6 tBM tBM0 Zr1 Zr0 rPop rIxL rIxT rIxS rCat rEq rNe Ys5 tSl rSlL Yr2 Zq6 tRev Yr5 tFs tFc tF0 tKD rEqD Yn2 Zz7 Zz9 rIn Ys4 Yu9 Zq7 Yu5 Yu8 iTup L2.start capt zmc zmn zlc zln zca zna zrs zrz Nat.reduceAdd Nat.reduceSub zcz ybk zg0 zgs zgn zs0 zss zjs zjn Yf7 Zw2 Xc1 Zm3 Yf6 Zq0 Xe1 Xe3 Yl7 Zl6 Zs4 Xe6 Zp2 Zv3 Zp0 Zp1 Zp3 Zp4"++i (if s.getString=="1" then "Yl9 tSeq tAsg Zu3 tRet tIfS Xg8 Wa3 tAug gSub Wa6 gTup Xn3 gNil" else if s.getString=="2" then "Yl9 tFor tLC" else "Zu3 tIfS Xg8 gSub gTup Xn3 gNil")
 let e:=d++i "yac ycy ydo L2.V.int.injEq L2.V.str.injEq L2.V.ref.injEq L2.V.bl.injEq L2.V.ty.injEq List.cons.injEq and_true true_and exists_eq_left' exists_eq_left exists_and_left exists_eq exists_eq' and_assoc Zy1 Zy0 Ys1 decide_eq_true_eq Xv4 Yh1 Yx5 Zy3 Zy4 Yh2"
 `(tactic| ((try dsimp only[$[$d:ident],*]);(try simp only[$[$e:ident],*])))
noncomputable def top (i:Nat):Stmt:=pg.main.body.getD i (.Pass ⟨0,0,0,0⟩)
theorem sc_be0:FnScope ["_law_cell_here","_law_k","_law_first"] ["_law_cell_here","_law_k"] (Za3 (top 53)):=scm (by decide +kernel)
theorem sc_ao0:FnScope ["_law_script","_law_k","_law_cell_here"] ["_law_script","_law_k"] (Za3 (top 54)):=scm (by decide +kernel)
abbrev nn0:List Str:=["_law_cell_here","_law_many","_law_some","_law_size_here","_law_at","_law_start"]
theorem sc_bq0:FnScope nn0 ["_law_cell_here","_law_many"] (Za3 (top 55)):=scm (by decide +kernel)
theorem Wk2:FnScope ["_law_cell_here","_law_words_here"] ["_law_cell_here","_law_words_here"] (Za3 (top 56)):=scm (by decide +kernel)
theorem sc_bo0:FnScope ["_law_cell_here","_law_size_here","_law_words_here","_law_rest","_law_few","_law_one","_law_other"] ["_law_cell_here","_law_size_here","_law_words_here"] (Za3 (top 57)):=scm (by decide +kernel)
section
variable {P:zf}{base:Heap}
theorem Xw8 {k:Nat}{f_be0:Addr}{fd_be0:zc}(F_be0:Fun K "_law_mix" "_law_mix" (top 53) f_be0 fd_be0):Fk0 P w K mg base (k+1) f_be0 fd_be0 pq1 sp_mix:=by
 refine F_be0.okG sc_be0 fun d A b s H e Q E f h m a=>?_;obtain⟨c,k,rfl,i,g,q⟩:=h
 refine a _ ⟨_,(Za2 (pst 2 sc_be0.nd (Zb6 Zd0 (Zb6 Yb0 (Zb6 Ze4 (pvM 0) Za4) (Zb6 Ze4 Za4 (Zb6 Yb0 Za4 (pvM 1)))) Za4))
 (Za7 (Zb2 (Zb6 Zd0 (Zb6 Ze4 (Zb6 Ze4 (Zb6 Yb0 (Zb6 Zd8 (pvM 2) Za4) Za4) (Zb6 Yb0 (pvM 2) (Zb6 Ze4 (Zb6 Yb0 (pvM 1) (pvM 1)) Za4))) (pvM 1)) Za4)))),?_⟩
 walk_at "1";have l:0<=(c+1)*(48271+118*k) % 2147483629:=yu _ (by decide);have j:(c+1)*(48271+118*k) % 2147483629 < 2147483629:=yp _ (by decide);refine⟨Yj0 (by decide) (by decide),Yn9 (by omega) (by omega),by decide,⟨by decide,by decide⟩,Yn9 (by decide) (by decide),Yj0 (by omega) (by omega),Yj0 (by omega) (by omega),by decide,?_⟩;exact q
theorem Wr1 {k:Nat}(F_ao0:Df K mg "_law_cell" (top 54) ["_law_script","_law_k"])(C__law_mix:Cl P w K mg base k "_law_mix" pq1 (sp_mix))(m_len:mg "len"=none):Cl P w K mg base (k+1) "_law_cell" ["_law_script","_law_k"] (sp_cell K):=by
 refine F_ao0.okG sc_ao0 fun u o A i s H p Q E l h v g=>?_;obtain⟨a,b,j,rfl,f,n,t,r,q⟩:=h
 refine g _ ⟨_,(Za2 (pst 2 sc_ao0.nd Za4)
 (Za2 (Zd1 (ptcM (Zt3) (pvM 1) (Ze2 Zc6 (by exact rfl) m_len Ze7 (Za0 (pvM 0) Za1)))
  (Za7 (pst 2 sc_ao0.nd (Zb6 Zd0 (pxlM (pvM 0) (pvM 1)) Za4)))
  Zb4)
 (Za7 (Zb2 (Zb8 C__law_mix l (Za0 (pvM 2) (Za0 (Zb6 Ze4 (pvM 1) Za4) Za1))))))),?_⟩
 walk_at "1";refine⟨_,.inl f,?_⟩;rw[yn];have e:cellOf b j=mix (if j < (b.length:Int) then (b[j.toNat]?.getD 0) % 2147483647 else 0) (j+101):=rfl;refine ite2 (fun c=>?_) (fun c=>?_)
 ·rw[if_pos c] at e
  have d:j.toNat < b.length:=by omega
  refine⟨_,f,V.int (b[j.toNat]),?_,_,rfl,by decide,?_⟩
  ·have m:j=((j.toNat:Nat):Int):=by omega
   have q:atI (b.map V.int) ((j.toNat:Nat):Int)=some (.int b[j.toNat]):=Zc0 (by rw[yba,zb d]<;>rfl);rw[<- m] at q;exact q
  ·rw[zb d] at e
   rw[e] at q;exact⟨_,_,rfl,by omega,by omega,q⟩
 ·rw[if_neg c] at e
  rw[e] at q;exact⟨_,_,rfl,by omega,by omega,q⟩
theorem Xx0 {k:Nat}{f_bb0:Addr}{fd_bb0:zc}(F_bb0:Fun K "_law_leaf" "_law_leaf" (top 56) f_bb0 fd_bb0)(m_len:mg "len"=none):Fk0 P w K mg base (k+1) f_bb0 fd_bb0 pq5 (sp_leafL K):=by
 refine F_bb0.okG Wk2 fun o A j s H t Q E u h z g=>?_;obtain⟨c,r,a,rfl,f,m,q⟩:=h
 refine g _ ⟨_,(Za2 (Zd1 (ptcM (Ze0) (Zb6 Zd0 (pvM 0) Za4) Za4)
  (Za7 (Zb2 (Zb5 (Za0 Zb1 Za1))))
  Zb4)
 (Za7 (Zb2 (Zb5 (Za0 Zb1 (Za0 (pxlM (pvM 1) (Zb6 Zd0 (Zb6 Zd8 (pvM 0) Za4) (Ze2 Zc6 (by exact rfl) m_len Ze7 (Za0 (pvM 1) Za1)))) Za1)))))),?_⟩
 walk_at "1";refine⟨by decide,ite2 (fun _=>?_) (fun _=>?_)⟩
 ·exact⟨by decide,fun p b=>q _ _ _ (Za6 b _) (Yo2 a b)⟩
 ·have d:((a.map V.str).length:Int)=a.length:=by rw[yn]
  have y:=m.1;refine⟨⟨by decide,by decide⟩,_,.inl f,by rw[d];omega,_,f,?_⟩;rw[d];obtain⟨v,n,e⟩:=Wg3 (xs:=a.map V.str) (i:=c / 6 % (a.length:Int)) (yu _ (by omega)) (by rw[d];exact yp _ (by omega));obtain⟨x,l,rfl⟩:=zax.mp n;exact⟨_,e,by decide,fun p b=>q _ _ _ (Za6 b _) (Xk5 l b)⟩
theorem Wq1 {k:Nat}{f_bo0:Addr}{fd_bo0:zc}(F_bo0:Fun K "_law_statement" "_law_statement" (top 57) f_bo0 fd_bo0)(G_bo0:Fk0 P w K mg base k f_bo0 fd_bo0 pq4 (sp_stmL K n))(m_bo0:MgI mg "_law_statement" f_bo0)(k_bo0:KpI K f_bo0)(b_bo0:Binds K fd_bo0 pq4 [])(C__law_mix:Cl P w K mg base k "_law_mix" pq1 (sp_mix))(C__law_leaf:Cl P w K mg base k "_law_leaf" pq5 (sp_leafL K)):Fk0 P w K mg base (k+1) f_bo0 fd_bo0 pq4 (sp_stmL K (n+1)):=by
 refine F_bo0.okG sc_bo0 fun q2 A q0 s H vs Q E j h Gx T=>?_;obtain⟨c,d,M,v,rfl,q1,h0,h1,hn,D,B,q⟩:=h
 refine T _ ⟨_,(Za2 (Zd1 (ptcM (Zt3) (pvM 1) Za4)
  (Za7 (Zb2 (Zb8 C__law_leaf j (Za0 (Zb6 Zd8 (pvM 0) Za4) (Za0 (pvM 2) Za1)))))
  Zb4)
 (Za2 (Zd1 ((Yx6 (ptcM (Zt3) (pvM 1) Za4) (Yh4 (ptcM (Ze0) (Zb6 Zd0 (Zb6 Zd8 (pvM 0) Za4) Za4) Za4)))).pt
  (Za7 (Zb2 (Zb5 (Za0 Zb1 (Za0 (pcl G_bo0 j m_bo0 k_bo0 b_bo0 (Za0 (Zb8 C__law_mix j (Za0 (pvM 0) (Za0 Za4 Za1))) (Za0 (Zb6 Zj3 (pvM 1) Za4) (Za0 (pvM 2) Za1)))) (Za0 (Zb5 (Za0 Zb1 Za1)) Za1))))))
  Zb4)
 (Za2 (pst 3 sc_bo0.nd (Zb6 Zj3 (pvM 1) Za4))
 (Za2 (pst 4 sc_bo0.nd (Zb6 Ze4 Za4 (Zb6 Zd0 (Zb8 C__law_mix j (Za0 (pvM 0) (Za0 Za4 Za1))) (Zb6 Zj3 (pvM 3) Za4))))
 (Za2 (Zd1 (ptcM (Xj5) (pvM 1) Za4)
  (Za7 (pst 4 sc_bo0.nd (Zb6 Ze4 (Zb6 Zd8 (pvM 3) Za4) (Zb6 Zd0 (Zb8 C__law_mix j (Za0 (pvM 0) (Za0 Za4 Za1))) (Zb6 Zd8 (pvM 3) Za4)))))
  Zb4)
 (Za2 (pst 5 sc_bo0.nd (pcl G_bo0 j m_bo0 k_bo0 b_bo0 (Za0 (Zb8 C__law_mix j (Za0 (pvM 0) (Za0 Za4 Za1))) (Za0 (pvM 4) (Za0 (pvM 2) Za1)))))
 (Za2 (pst 6 sc_bo0.nd (pcl G_bo0 j m_bo0 k_bo0 b_bo0 (Za0 (Zb8 C__law_mix j (Za0 (pvM 0) (Za0 Za4 Za1))) (Za0 (Zb6 Zj3 (pvM 3) (pvM 4)) (Za0 (pvM 2) Za1)))))
 (Za7 (Zb2 (Zb5 (Za0 (pxlM (Ze1 (Za0 Zb1 (Za0 Zb1 (Za0 Zb1 (Za0 Zb1 Za1))))) (Zb6 Zd0 (pvM 0) Za4)) (Za0 (pvM 5) (Za0 (pvM 6) Za1))))))))))))),?_⟩
 walk_at "1";have h2:=B.1
 have G:∀(g:Int),1<=g->g<=d - 2->rk g < rk d->rk (d - 1 - g) < rk d ->
   sp_mix [V.int c,V.int 3] H (fun x f=>sp_stmL K n [x,V.int g,V.ref M] f (fun x f=>sp_mix [V.int c,V.int 4] f (fun L f=>sp_stmL K n [L,V.int (d - 1 - g),V.ref M] f (fun J f =>
    4<=zi/\∀(p:Addr),f p=none->(0:Int) < 4/\∃x_3,SqL K (upd f p (.lst [V.str "both",V.str "one",V.str "then",V.str "then"])) p x_3/\∃x_4,atI x_3 (c % 4)=some x_4/\3<=zi /\
     ∀(p_1:Addr),upd f p (.lst [V.str "both",V.str "one",V.str "then",V.str "then"]) p_1=none->Q (V.ref p_1) (upd (upd f p (.lst [V.str "both",V.str "one",V.str "then",V.str "then"])) p_1 (.tup [x_4,x,J]))) E0) E0) E0) E0:=by
  intro g W U O N;refine⟨_,_,rfl,by decide,by decide,?_⟩;refine⟨_,_,_,v,rfl,Zh2 _ _,by omega,by omega,by omega,D,B,fun x f a F I=>?_⟩;refine⟨_,_,rfl,by decide,by decide,?_⟩;refine⟨_,_,_,v,rfl,Zh2 _ _,by omega,by omega,by omega,F.seq D,B,fun y Z b X m2=>?_⟩;refine⟨by decide,fun p u=>⟨by decide,_,.inl (.inl Za5),_,Wu4 (yu _ (by decide)) (yp _ (by decide)),by decide,fun p1 l=>?_⟩⟩;have S:KeepL K Z (upd Z p (.lst [V.str "both",V.str "one",V.str "then",V.str "then"])):=Ze3 u;have z:=I.mono (X.keepL.trans S) (zg _) (zg _);have R:=m2.mono S (zg _) (zg _);refine q _ _ _ (((F.trans X).trans (Za6 u _)).trans (Za6 l _)) ((Yy7 z R l).mono (KeepL.refl _) (by omega) (by omega))
 refine ite2 (fun c3=>?_) (fun c3=>?_)
 ·exact⟨⟨by decide,by decide⟩,_,_,v,rfl,D,B,fun r H' t e m=>q r H' t e (m.mono (KeepL.refl _) (by omega) (by omega))⟩
 have d4:CDiv c 4:=⟨by decide,by decide⟩
 have C:d < 40->∀m:Int,rk (1+m % (d - 1 - 1)) < rk d/\rk (d - 1 - (1+m % (d - 1 - 1))) < rk d/\1<=1+m % (d - 1 - 1)/\1+m % (d - 1 - 1)<=d - 2:=fun i m=>by
  have b0:=yu m (show d - 1 - 1≠0 by omega);have b1:=yp m (show 0 < d - 1 - 1 by omega);exact⟨Xh7 (by omega) i (by omega),Xh7 (by omega) i (by omega),by omega,by omega⟩
 refine ite2 (fun i=>?_) (fun i=>?_)
 ·refine⟨d4,by decide,ite2 (fun c0=>?_) (fun c0=>?_)⟩
  ·refine⟨_,_,rfl,by decide,by decide,?_⟩
   have r0:=Wk6 (by omega) i;refine⟨_,_,_,v,rfl,Zh2 _ _,by omega,by omega,by omega,D,B,fun x f a F I=>?_⟩;refine⟨by decide,fun p u=>⟨by decide,fun p1 l=>?_⟩⟩;have z:=I.mono (Ze3 (o:=.tup [V.str "low"]) u) (zg _) (zg _);refine q _ _ _ ((F.trans (Za6 u _)).trans (Za6 l _)) ((Yy7 (k:=.thn) z (Yo2 v u) l).mono (KeepL.refl _) (by omega) (by omega))
  ·refine⟨_,_,rfl,by decide,by decide,_,rfl,by omega,ite2 (fun Y=>by omega) (fun Y=>?_)⟩
   obtain⟨O,N,W,U⟩:=C i (mix c 2);exact G _ W U O N
 ·omega
theorem Xr0 {fd:zc}{k:Nat}:Fk0 P w K mg base k f fd ps (sp_stmL K 0):=by
 have b:∀a H Q E,¬sp_stmL K 0 a H Q E:=fun a H Q E h=>by
  obtain⟨c,e,l,j,_,_,_,_,g,_⟩:=h;exact absurd g (Nat.not_lt_zero _)
 exact⟨fun a H Q E h=>absurd h (b a H Q E),fun A d s H i m a Q E _ _ _ _ h=>absurd h (b a H Q E)⟩
theorem Xp7 {f_bo0:Addr}{fd_bo0:zc}(F_bo0:Fun K "_law_statement" "_law_statement" (top 57) f_bo0 fd_bo0)(m_bo0:MgI mg "_law_statement" f_bo0)(b_bo0:Binds K fd_bo0 pq4 [])
  {f_be0:Addr}{fd_be0:zc}(G_be0:∀k,Fk0 P w K mg base (k+1) f_be0 fd_be0 pq1 sp_mix)(m_be0:MgI mg "_law_mix" f_be0)(k_be0:KpI K f_be0)(b_be0:Binds K fd_be0 pq1 [])
  {f_bb0:Addr}{fd_bb0:zc}(G_bb0:∀k,Fk0 P w K mg base (k+1) f_bb0 fd_bb0 pq5 (sp_leafL K))(m_bb0:MgI mg "_law_leaf" f_bb0)(k_bb0:KpI K f_bb0)(b_bb0:Binds K fd_bb0 pq5 []) :
  ∀n:Nat,Fk0 P w K mg base (n+1) f_bo0 fd_bo0 pq4 (sp_stmL K n)
 | 0=>Xr0
 |n+1=>Wq1 F_bo0 (Xp7 F_bo0 m_bo0 b_bo0 G_be0 m_be0 k_be0 b_be0 G_bb0 m_bb0 k_bb0 b_bb0 n) m_bo0 F_bo0.kp b_bo0 (.of (G_be0 n) m_be0 k_be0 b_be0) (.of (G_bb0 n) m_bb0 k_bb0 b_bb0)
theorem Wp9 {k:Nat}(F_bq0:Df K mg "_law_words" (top 55) ["_law_cell_here","_law_many"])(m_range:mg "range"=none):Cl P w K mg base (k+1) "_law_words" ["_law_cell_here","_law_many"] sp_words:=by
 refine F_bq0.okG sc_bq0 fun fx q9 A q6 s H vs Q E hr h Gx q5=>?_;obtain⟨c,m,rfl,q8,h0,h1,q⟩:=h
 refine q5 _ ⟨_,(Za2 (pst 2 sc_bq0.nd (Ze1 (Za0 Zb1 (Za0 Zb1 (Za0 Zb1 (Za0 Zb1 (Za0 Zb1 (Za0 Zb1 Za1))))))))
 (Za2 (Zd1 (ptcM (Ze0) (Zb6 Zd0 (pvM 0) Za4) Za4)
  (Za7 (Yh6 (i:=2) sc_bq0.nd rfl (Or.inl rfl) (blk0 (N':=["_law_k"]) (by decide +kernel) (by decide +kernel) rfl (by decide +kernel)) rfl (Zt1 rfl m_range (Za0 Za4 Za1)) (fun _ _ _ _=>(pgn 0 (ndS ["_law_k"]))) (fun _ _ _ _=>(Zb6 Yt1 Zb1 (Zb6 Ze4 Za4 (pvM 0)))) rfl))
  Zb4)
 (Za2 (Zd1 (ptcM (Ze0) (Zb6 Zd0 (pvM 0) Za4) Za4)
  (Za2 (Zw6 (i:=3) sc_bq0.nd rfl (Or.inr rfl) (Zb6 Ze4 Za4 (Zb6 Zd0 (Zb6 Zd8 (pvM 0) Za4) Za4)))
 (Za2 (Zw6 (i:=4) sc_bq0.nd rfl (Or.inr rfl) (Zb6 Zd0 (Zb6 Zd8 (pvM 0) Za4) (pvM 3)))
 (Za7 (Yh6 (i:=2) sc_bq0.nd rfl (Or.inl rfl) (blkD (N':=["_law_k","_law_at","_law_size_here"]) (nt:=1) (ci:=[4,3]) nn0 (Za3 (top 55))) rfl (Zt1 rfl m_range (Za0 Za4 Za1)) (fun _ _ _ _=>(pgn 0 (ndS ["_law_k","_law_at","_law_size_here"]))) (fun _ _ _ _=>(Zb6 Ye9 (Zb6 Ye9 (Zb6 Yt1 Zb1 (pvM 1)) (Wc1 Ws5 Zb1 (pvM 0) (fun _ _=>rfl))) (Zb6 Yt1 Zb1 (Zb6 Zj3 (Zb6 Zj3 (pvM 2) Za4) (pvM 1))))) rfl))))
  Zb4)
 (Za2 (Zd1 (ptcM (Ze0) (Zb6 Zd0 (pvM 0) Za4) Za4)
  (Za7 (pst 2 sc_bq0.nd (Ze1 (Za0 Zb1 (Za0 Zb1 (Za0 Zb1 (Za0 Zb1 (Za0 Zb1 (Za0 Zb1 Za1)))))))))
  Zb4)
 (Za2 (pst 5 sc_bq0.nd (Zb6 Zd0 (Zb6 Zd8 (pvM 0) Za4) Za4))
 (Za7 (Zb2 (Zy9 Yr8 (Zb6 Yb1 (Zy9 Yr8 (pvM 2) (Yh8 (pvM 5)) Yh9) (Zy9 Yr8 (pvM 2) Yh9 (Yh8 (pvM 5)))) Yh9 (Yh8 (pvM 1)))))))))),?_⟩
 have G:∀(ws:List Str) (B:Hp) (p:Addr),Same H B->B p=none->ws.length=6->(ws.all Xz2)=true->Six H (upd B p (.lst (ws.map V.str))) p ws:=fun ws B p e u hl hw =>
  ⟨e.trans (Za6 u _),e.free u,Za5,hl,fun x t=>Xz1 (zay.mp hw x t)⟩
 refine sqk (fun C=>∀H' p ws b a,Six H H' p ws->C [some (.int c),some (.int m),some (.ref p),b,a,none] H') (fun C l=>?_) fun B p1 w1 b a S=>?_
 ·walk_at "1"
  exact⟨by decide,fun p u=>l _ p ["a","b","c","d","e","f"] none none (G ["a","b","c","d","e","f"] H p (Same.refl H) u rfl (by decide +kernel))⟩
 refine sqk (fun C=>∀H' p ws b a,Six H H' p ws->C [some (.int c),some (.int m),some (.ref p),b,a,none] H') (fun C l=>?_) fun y p2 w2 b a R=>?_
 ·walk_at "1"
  refine⟨by decide,ite2 (fun _=>?_) (fun _=>l _ p1 w1 b a S)⟩;unfold tLC;walk_at "1";refine⟨by decide,by decide,fun r g=>?_⟩;refine Yo3 (n:=6) (lo:=0) (fun i f y=>y=upd B r (.lst f)/\∃ws,f=ws.map V.str/\ws.length=i/\∀x∈ws,Word x) ⟨rfl,[],rfl,rfl,by simp⟩ (fun i f y hi ⟨e,ws,e2,e3,_⟩=>?_) (fun i f y hi ⟨e,ws,e2,e3,o⟩ C' hC'=>?_) (fun f y ⟨e,ws,e2,e3,o⟩=>?_)
  ·subst e;subst e2
   refine⟨Za5,?_⟩;rw[yn,e3];exact Zi9 (by omega)
  ·subst e;subst e2
   walk_at "1";refine⟨Yg1,by decide,by omega,by omega,?_⟩;refine hC' _ _ Za5 ⟨by rw[Yg3],ws++[zcv "k" (1+(0+(i:Int)))],by rw[zam];rfl,by rw[yd,e3];rfl,fun x t=>?_⟩;rcases yg.mp t with z | z
   ·exact o x z
   ·have M:x=zcv "k" (1+(0+(i:Int))):=by simpa using z
    rw[M];exact Xq1 (c:=107) (by decide) (by decide) (by omega) (by omega)
  ·subst e;subst e2
   exact l _ r ws b a ⟨S.1.trans (Za6 g _),S.1.free g,Za5,e3,o⟩
 refine sqk (fun C=>∀H' p ws b a,Six H H' p ws->C [some (.int c),some (.int m),some (.ref p),b,a,none] H') (fun C l=>?_) fun v p3 w3 b a S3=>?_
 ·walk_at "1"
  refine⟨by decide,ite2 (fun _=>?_) (fun _=>l _ p2 w2 b a R)⟩;refine⟨⟨by decide,by decide⟩,by decide,⟨by decide,by decide⟩,by omega,?_⟩;unfold tLC;walk_at "1";refine⟨by decide,by decide,fun r g=>?_⟩;have a0:=yu (c / 32) (show 1+c / 4 % 8≠0 by omega);have a1:=yp (c / 32) (show 0 < 1+c / 4 % 8 by omega);generalize ea:c / 32 % (1+c / 4 % 8)=at' at a0 a1 ⊢;generalize es:1+c / 4 % 8=size at a1 ⊢
  have q7:size<=8:=by omega
  refine Yo3 (n:=6) (lo:=0) (fun i f v=>v=upd y r (.lst f)/\∃ws,f=ws.map V.str/\ws.length=i/\∀x∈ws,Word x) ⟨rfl,[],rfl,rfl,by simp⟩ (fun i f v hi ⟨e,ws,e2,e3,_⟩=>?_) (fun i f v hi ⟨e,ws,e2,e3,o⟩ C' hC'=>?_) (fun f v ⟨e,ws,e2,e3,o⟩=>?_)
  ·subst e;subst e2
   refine⟨Za5,?_⟩;rw[yn,e3];exact Zi9 (by omega)
  ·subst e;subst e2
   walk_at "1"
   have q0:∃d:Nat,atI ("aghmxz":Str).cps.toList (0+(i:Int))=some d/\97<=d/\d<=122:=by
    have:i=0∨i=1∨i=2∨i=3∨i=4∨i=5:=by omega
    rcases this with rfl | rfl | rfl | rfl | rfl | rfl
    ·exact⟨97,rfl,by decide,by decide⟩
    ·exact⟨103,rfl,by decide,by decide⟩
    ·exact⟨104,rfl,by decide,by decide⟩
    ·exact⟨109,rfl,by decide,by decide⟩
    ·exact⟨120,rfl,by decide,by decide⟩
    ·exact⟨122,rfl,by decide,by decide⟩
   obtain⟨d,hd,d1,d2⟩:=q0
   have l1:(zcv "m" at').length<=8:=by rw[show ("m":Str)=⟨#[109]⟩ from rfl,Xk2];omega
   have l2:(zcv "m" (size - 1 - at')).length<=8:=by rw[show ("m":Str)=⟨#[109]⟩ from rfl,Xk2];omega
   have l3:(⟨#[d]⟩:Str).length=1:=rfl
   have N:(zcv "m" at'++(⟨#[d]⟩:Str)).length<=9:=by rw[strLen_append];omega
   refine⟨Yg1,by decide,by omega,by omega,by decide,d,hd,?_,by decide,by omega,by omega,?_,?_⟩
   ·exact zv (Zi9 (by omega))
   ·exact zv (Zi9 (by omega))
   refine hC' _ _ Za5 ⟨by rw[Yg3],ws++[zcv "m" at'++(⟨#[d]⟩:Str)++zcv "m" (size - 1 - at')],by rw[zam];rfl,by rw[yd,e3];rfl,fun x t=>?_⟩;rcases yg.mp t with z | z
   ·exact o x z
   ·have M:x=zcv "m" at'++(⟨#[d]⟩:Str)++zcv "m" (size - 1 - at'):=by simpa using z
    rw[M];exact Xq2 (c:=109) (by decide) (by decide) d1 d2 (by omega) (by omega) (by omega)
  ·subst e;subst e2
   exact l _ r ws _ _ ⟨R.1.trans (Za6 g _),R.1.free g,Za5,e3,o⟩
 refine sqk (fun C=>∀H' p ws b a,Six H H' p ws->C [some (.int c),some (.int m),some (.ref p),b,a,none] H') (fun C l=>?_) fun H4 p4 j b a S4=>?_
 ·walk_at "1"
  refine⟨by decide,ite2 (fun _=>?_) (fun _=>l _ p3 w3 b a S3)⟩;exact⟨by decide,fun p u=>l _ p ["low","one","both","then","letter","lows"] _ _ (G ["low","one","both","then","letter","lows"] v p S3.1 u rfl (by decide +kernel))⟩
 walk_at "1";have b0:=yu (c / 256) (show (6:Int)≠0 by decide);have b1:=yp (c / 256) (show (0:Int) < 6 by decide);generalize c / 256 % 6=st at b0 b1 ⊢;obtain⟨o,f4,O,N,U⟩:=S4;refine⟨⟨by decide,by decide⟩,by decide,j.map V.str,.inl (.inl O),fun q1 J=>⟨j.map V.str,?_,fun T F=>?_⟩⟩
 ·exact Wi3 (.inl (.inl O)) (Zb0 O J)
 have W:T≠q1:=fun z=>by subst z;rw[Za5] at F;cases F
 refine⟨cutV (j.map V.str) (some st) none,?_,cutV (j.map V.str) none (some st),Za5,?_,fun q3 Y=>⟨_,.inl (.inl Za5),fun q4 D=>?_⟩⟩
 ·rw[Za9 (zbe W),Za5]
 ·have z1:=Zm9 (j.map V.str) (some st) none
  have z2:=Zm9 (j.map V.str) none (some st);rw[yn] at z1 z2;exact zv (Zi9 (by omega))
 rw[Yc5,Yc5,<- zam] at D ⊢;rw[Yc5];have L:Same H4 (upd (upd (upd H4 q1 (.lst (cutV (j.map V.str) (some st) none))) T (.lst (cutV (j.map V.str) none (some st)))) q3 (.lst (cutV (j.map V.str) (some st) none++cutV (j.map V.str) none (some st)))):=((Za6 J _).trans (Za6 F _)).trans (Za6 Y _);rw[Yc5,Yc5,<- zam] at L;have eA:=o.trans L
 have I:st=((st.toNat:Nat):Int):=by omega
 have Z:m=((m.toNat:Nat):Int):=by omega
 refine q _ _ _ (eA.trans (Za6 D _)) (eA.free D) Za5 ⟨?_,?_,fun x t=>?_⟩
 ·rw[I,Z]
  simp only[yal,ybs,yd,HT.sIx_nat,HT.sIx_none,N];omega
 ·rw[I,Z]
  simp only[yal,ybs,yd,HT.sIx_nat,HT.sIx_none,N];omega
 ·have X:=ydb (zdc t)
  rcases yg.mp X with z | z
  ·exact U x (ydb (zdc z))
  ·exact U x (ydb (zdc z))
theorem sc_bm0:FnScope ["_law_statement_here","_law_many","_law_todo","_law_here"] ["_law_statement_here"] (Za3 (top 59)):=scm (by decide +kernel)
noncomputable def sumP (ts:List Tm):Nat:=(ts.map Tm.parts).sum
theorem Zh3 (t:Tm)(ts:List Tm):sumP (t::ts)=t.parts+sumP ts:=by unfold sumP;rw[yan,List.sum_cons]
theorem Yy9:∀ts:List Tm,ts.length<=sumP ts
 | []=>zg _
 |t::ts=>by
  rw[Zh3,zac];have:=Yy9 ts;have:=t.parts_pos;omega
theorem Yk4:∀{us:List V} {ts:List Tm},Paired (IsT K H) us ts->DnAll K H us (ts.map Tm.data)
 | _,_,.nil=>dnAll_nil
 | _,_,.cons h t=>dnAll_cons h (Yk4 t)
theorem Zx0 (ds:List PyData):yaw (.list ds) (.list [])=ds.isEmpty:=by
 cases ds<;>simp[yaw,zae]
theorem Wq2 {k:Nat}(F_bm0:Df K mg "_law_size" (top 59) ["_law_statement_here"])(m_len:mg "len"=none):Cl P w K mg base (k+1) "_law_size" ["_law_statement_here"] (sp_lsize K):=by
 refine F_bm0.okG sc_bm0 fun fx q4 A q2 s H vs Q E hr h Gx q1=>?_;obtain⟨v,t,rfl,hT,q0,hp,q⟩:=h
 refine q1 _ ⟨_,(Za2 (pst 1 sc_bm0.nd Za4)
 (Za2 (pst 2 sc_bm0.nd (Ze1 (Za0 (pvM 0) Za1)))
 (Za2 (Zt0 yas (ptcM (Xw4 (Zu2 hr)) (pvM 2) (Ze1 Za1))
  (Za2 (pst 3 sc_bm0.nd (Zw7 yl zbb ybf Zw9 (pvM 2)))
 (Za2 (Xw2 (i:=1) sc_bm0.nd rfl (Or.inl rfl) Za4 Xx6)
 (Za7 (Zd1 (ptcM (Ze0) (Ze2 Zc6 (by exact rfl) m_len Ze7 (Za0 (pvM 3) Za1)) Za4)
  (Za7 (Zf3 (Zk4 yl zbw zct Zt5 (pvM 2) (Za0 (Ze1 (Za0 (pxtM (pvM 3) Za4) (Za0 (pxtM (pvM 3) Za4) Za1))) Za1))))
  Zb4)))))
 (Za7 (Zb2 (pvM 1)))))),?_⟩
 refine sqk (fun C=>C [some v,some (.int 0),none,none] H) (fun C O=>?_) ?_
 ·walk_at "1"
  exact O
 refine sqk (fun C=>∀d l,Same H d->H l=none->d l=some (.lst [v])->C [some v,some (.int 0),some (.ref l),none] d) (fun C O=>?_) fun S l e2 f2 h2=>?_
 ·walk_at "1"
  exact⟨by decide,fun l J=>O _ l (Za6 J _) J Za5⟩
 refine sqt (fun y d=>∃D,y=[some v,some (.int (t.parts:Nat)),some (.ref l),D]/\Same H d) ?_ ?_
 ·intro C O
  refine⟨fun m y d=>∃c ts n D,m=sumP ts/\n+m=t.parts/\y=[some v,some (.int (n:Nat)),some (.ref l),D]/\Same H d/\d l=some (.lst c.reverse)/\Paired (IsT K d) c ts/\∀s∈ts,s.ok,
   ⟨_,[v],[t],0,none,rfl,by rw[Zh3];show 0+(t.parts+0)=_;omega,rfl,e2,h2,.cons (IsT.keep hT e2.keepT) .nil,fun s f=>by rw[yf.mp f];exact q0⟩,?_⟩
  rintro m y d ⟨c,ts,n,D,rfl,hn,rfl,e,J,hd,Z⟩;walk_at "3";refine⟨by decide,fun p B=>?_⟩
  have r:upd d p (.lst []) l=some (.lst c.reverse):=by rw[Za9 (Zb0 J B)];exact J
  have kA:=Yo7 (K:=K) (o:=.lst []) B;have V:Paired (IsT K (upd d p (.lst []))) c ts:=Paired.mapP hd fun _ _ z=>IsT.keep z kA;refine⟨.list (ts.reverse.map Tm.data),by rw[Dn];exact⟨l,_,rfl,SqL.of r,Yk4 (Zj6 V)⟩,.list [],by rw[Dn];exact⟨p,_,rfl,SqL.of Za5,dnAll_nil⟩,Yj5 (fun s f=>Z s (ycz.mp f)),rfl,yj (zbs _ _) (by decide),?_⟩;rw[if_pos trivial,Zx0]
  cases V with
  |nil =>
   rw[if_neg (by decide)];refine O _ _ ⟨D,?_,e.trans (Za6 B _)⟩
   have:n=t.parts:=by rw[<- hn];rfl
   rw[this]
  |@cons u i c is hi hst =>
   have Y:(u::c).reverse=c.reverse++[u]:=zr;rw[if_pos (by rw[zr,zam];simp)];refine opq fun N hN=>?_;rw[Y] at r;rw[Zh3] at hn;have f1:∀{b:Addr} {o:HO},H b=some o->d b=some o:=fun h=>e _ _ h;refine sqk (fun C=>∀S,Same H S->KeepT K (upd d p (.lst [])) S->S l=some (.lst c.reverse)->C [some v,some (.int (n:Nat)),some (.ref l),some u] S) (fun C' M=>?_) fun H4 e4 k4 R=>?_
   ·walk_at "1"
    refine⟨.inl ⟨rfl,_,SqL.of r⟩,_,r,u,by simp,?_⟩;rw[zar];exact M _ ((e.trans (Za6 B _)).write f2) (Zm1 r) Za5
   refine sqk (fun C=>C [some v,some (.int ((n+1:Nat):Int)),some (.ref l),some u] H4) (fun C' M=>?_) ?_
   ·walk_at "1"
    exact M
   have L:=IsT.keep hi k4;have g:Paired (IsT K H4) c is:=Paired.mapP hst fun _ _ z=>IsT.keep z k4;have oi:=Z i zak;have G:∀s∈is,s.ok:=fun s f=>Z s (zo _ f);have l3:=zk g;have l4:=Yy9 is;walk_at "1"
   cases i with
   |low =>
    obtain⟨a,rfl,f⟩:=isT_low.mp L;refine⟨_,rfl,_,.inr f,?_⟩;rw[if_neg (by decide)];exact hN _ _ ⟨sumP is,by rw[Zh3];show _ < 1+_;omega,c,is,rfl,n+1,by have:Tm.low.parts=1:=rfl;omega,_,rfl,e4,R,g,G⟩
   |ltr x =>
    obtain⟨a,rfl,f⟩:=isT_ltr.mp L;refine⟨_,rfl,_,.inr f,?_⟩;rw[if_neg (by simp)];exact hN _ _ ⟨sumP is,by rw[Zh3];show _ < 1+_;omega,c,is,rfl,n+1,by have:(Tm.ltr x).parts=1:=rfl;omega,_,rfl,e4,R,g,G⟩
   |nd kd a b =>
    obtain⟨pt,U,T,rfl,f,hx,hy⟩:=isT_nd.mp L;refine⟨_,rfl,_,.inr f,?_⟩;rw[if_pos (by rfl)];have pe:(Tm.nd kd a b).parts=1+a.parts+b.parts:=rfl;refine⟨.inl ⟨rfl,_,SqL.of R⟩,pt,rfl,_,f,_,rfl,pt,rfl,_,f,_,rfl,by decide,fun p2 I=>?_⟩
    have W:upd H4 p2 (.lst [U,T]) l=some (.lst c.reverse):=by rw[Za9 (Zb0 R I)];exact R
    have X:=(Yo7 (K:=K) (o:=.lst [U,T]) I).trans (Zm1 (o:=.lst (c.reverse++[U,T])) W);refine⟨_,W,_,Za5,?_,hN _ _ ⟨sumP (b::a::is),?_,T::U::c,b::a::is,rfl,n+1,?_,_,rfl,(e4.trans (Za6 I _)).write f2,?_,?_,?_⟩⟩
    ·rw[zag];exact zv (Zd9 (by show c.length+2<=_;omega))
    ·rw[Zh3,Zh3,Zh3];omega
    ·rw[Zh3,Zh3];omega
    ·rw[Za5,zr,zr,yam];rfl
    ·exact .cons (IsT.keep hy X) (.cons (IsT.keep hx X) (Paired.mapP g fun _ _ z=>IsT.keep z X))
    ·intro s j
     rcases zd.mp j with rfl | j
     ·exact oi.2
     ·rcases zd.mp j with rfl | j
      ·exact oi.1
      ·exact G s j
 rintro q3 H3 ⟨D,rfl,e3⟩;walk_at "1";exact q _ e3
theorem sc_bl0:FnScope ["_law_cell_here","_law_given_here","_law_words_here","_law_here"] ["_law_cell_here","_law_given_here","_law_words_here"] (Za3 (top 60)):=scm (by decide +kernel)
theorem Wf7 {us:List V}{ts:List Tm}(h:SqL K H l us)(p:Paired (IsT K H) us ts):Dn K H (.ref l) (.list (ts.map Tm.data)):=by rw[Dn];exact⟨l,us,rfl,h,Yk4 p⟩
theorem Wq3 {k:Nat}(F_bl0:Df K mg "_law_simple" (top 60) pq0)(C__law_statement:Cl P w K mg base k "_law_statement" pq4 (sp_stmL K 12))(m_len:mg "len"=none):Cl P w K mg base (k+1) "_law_simple" pq0 (sp_lsimpleL K):=by
 refine F_bl0.okG sc_bl0 fun fx q0 A Z s H vs Q E R h Gx V=>?_;obtain⟨c,ga,J,ws,a,n,rfl,hc,G,hl,q⟩:=h;have lg:=zk G.p
 refine V _ ⟨_,(Za2 (Zd1 ((Yh3 (ptcM (Xj6 (Zu2 R)) (pvM 1) (Ze1 Za1)) (Zs9 (ptcM (Ze0) (Zb6 Zd0 (pvM 0) Za4) Za4)))).pt
  (Za2 (pst 3 sc_bl0.nd (Zb8 C__law_statement R (Za0 (Zb6 Zd8 (pvM 0) Za4) (Za0 (Zb6 Ze4 Za4 (Zb6 Zd0 (Zb6 Zd8 (pvM 0) Za4) Za4)) (Za0 (pvM 2) Za1)))))
 (Za7 (Zb2 (Zb5 (Za0 (Zb5 (Za0 Zb1 (Za0 (pvM 3) (Za0 (Zb5 (Za0 Zb1 (Za0 Za4 Za1))) Za1)))) (Za0 (Zb5 (Za0 Zb1 (Za0 (pvM 3) (Za0 (pvM 3) Za1)))) Za1))))))
  Zb4)
 (Za7 (Zb2 (Zb5 (Za0 (Zb5 (Za0 Zb1 (Za0 (Zb6 Zd0 (Zb6 Zd8 (pvM 0) Za4) (Ze2 Zc6 (by exact rfl) m_len Ze7 (Za0 (pvM 1) Za1))) Za1))) (Za0 (pxlM (pvM 1) (Zb6 Zd0 (Zb6 Zd8 (pvM 0) Za4) (Ze2 Zc6 (by exact rfl) m_len Ze7 (Za0 (pvM 1) Za1)))) Za1)))))),?_⟩
 refine sqk (fun C=>∀H' I,Same H H'->n≠[]->C [some (.int c),some (.ref ga),some (.ref J),I] H') (fun C hC=>?_) fun m I X S=>?_
 ·walk_at "1"
  refine⟨by decide,fun M h1=>?_⟩;have y:=Za6 h1 (.lst []);have e:=G.keep y;refine⟨_,Wf7 (SqL.of e.g) e.pT,.list [],by rw[Dn];exact⟨M,_,rfl,SqL.of Za5,dnAll_nil⟩,Yj5 (fun s hs=>(G.o s hs).1.ok G.wo.2.2),rfl,yj (zbs _ _) (by decide),?_⟩;rw[if_neg yi,Zx0];have a0:=yu (c / 7) (show (4:Int)≠0 by decide);have a1:=yp (c / 7) (show (0:Int) < 4 by decide)
  have v:sp_stmL K 12 [.int (c / 7),.int (1+c / 7 % 4),.ref J] (upd H M (.lst [])) (fun x m=>2<=zi/\∀p,m p=none->3<=zi/\∀p_1,upd m p (.tup [.str "at",.int 0]) p_1=none->3<=zi/\∀p_2,upd (upd m p (.tup [.str "at",.int 0])) p_1 (.tup [.str "fun",x,.ref p]) p_2=none->2<=zi /\
    ∀p_3,upd (upd (upd m p (.tup [.str "at",.int 0])) p_1 (.tup [.str "fun",x,.ref p])) p_2 (.tup [.str "then",x,x]) p_3=none->Q (.ref p_3) (upd (upd (upd (upd m p (.tup [.str "at",.int 0])) p_1 (.tup [.str "fun",x,.ref p])) p_2 (.tup [.str "then",x,x])) p_3 (.tup [.ref p_1,.ref p_2]))) E0:=by
   refine Zl8 (by omega) (by omega) (by omega) e.w G.wo fun r H2 t e2 D B hp=>⟨by decide,fun l F=>⟨by decide,fun z u=>⟨by decide,fun L h4=>⟨by decide,fun p5 h5=>?_⟩⟩⟩⟩;have b:=Za6 F (.tup [.str "at",.int 0]);have d:=Za6 u (.tup [.str "fun",r,.ref l]);have i:=Za6 h4 (.tup [.str "then",r,r]);have f:=Za6 h5 (.tup [.ref z,.ref L])
   have pt:t.parts<=4:=by omega
   refine q _ _ ((((y.trans e2).trans b).trans d).trans (i.trans f)) (Zg3 (t:=.fn t (.at 0)) (g:=.nd .thn t t) (.inl (.inl Za5)) ?_ ?_ ⟨⟨B,by omega⟩,trivial⟩ (zg _) (zg _) ⟨B,B⟩ (by show 1+t.parts+t.parts<=60;omega) ⟨t,rfl,rfl⟩)
   ·exact leK_fnV.mpr ⟨z,r,.ref l,rfl,(i.trans f).sqt (.inl (.inl Za5)),LtK.keep D (((b.trans d).trans i).trans f).keepL,leK_atV.mpr ⟨l,rfl,((d.trans i).trans f).sqt (.inl (.inl Za5))⟩⟩
   ·exact ltK_nd.mpr ⟨L,r,r,rfl,f _ _ Za5,LtK.keep D (((b.trans d).trans i).trans f).keepL,LtK.keep D (((b.trans d).trans i).trans f).keepL⟩
  by_cases ce:n=[]
  ·rw[if_pos (by rw[ce];rfl),if_pos trivial]
   exact⟨⟨by decide,by decide⟩,⟨by decide,by decide⟩,by decide,v⟩
  ·rw[if_neg (by cases n with | nil=>exact absurd rfl ce | cons _ _=>simp)]
   refine⟨by decide,ite2 (fun _=>⟨⟨by decide,by decide⟩,⟨by decide,by decide⟩,by decide,v⟩) fun _=>hC _ _ y ce⟩
 walk_at "1";have e:=G.keep X
 have lp:0 < a.length:=by
  rw[lg]
  cases n with
  |nil=>exact absurd rfl S
  |cons _ _=>simp
 have Y:=yu (c / 7) (show (a.length:Int)≠0 by omega);have b1:=yp (c / 7) (show (0:Int) < (a.length:Int) by omega);refine⟨⟨by decide,by decide⟩,a,.inl (SqL.of e.g),by omega,by decide,?_⟩;generalize W:c / 7 % (a.length:Int)=jj at Y b1 ⊢;obtain⟨j,rfl⟩:=Int.eq_ofNat_of_zero_le Y;intro l F;have b:=Za6 F (.tup [.str "at",.int (j:Nat)])
 have O:j < a.length:=by omega
 obtain⟨g,U,T⟩:=paired_get e.p (zb O);have N:=G.o g (yo U);refine⟨⟨by decide,by decide⟩,a,.inl (SqL.of (b _ _ e.g)),by omega,a,SqL.of (b _ _ e.g),a[j],by rw[W];exact Zc0 (zb O),by decide,fun z u=>?_⟩;have d:=Za6 u (.tup [.ref l,a[j]]);refine q _ _ ((X.trans b).trans d) (Zg3 (t:=.at j) (g:=g) (.inl (.inl Za5)) ?_ (LtK.keep T (b.trans d).keepL) trivial (by show 1<=2;omega) (by show 1<=2;omega) N.1 N.2 U);exact leK_atV.mpr ⟨l,rfl,(Ze3 u).k _ _ (.inl (.inl Za5))⟩
theorem sc_bk0:FnScope ["_law_cell_here","_law_size_here","_law_given_here","_law_words_here","_law_term","_law_shape","_law_other"] ["_law_cell_here","_law_size_here","_law_given_here","_law_words_here"] (Za3 (top 61)):=scm (by decide +kernel)
theorem sc_bd0:FnScope ["_law_cell_here","_law_size_here","_law_given_here","_law_words_here","_law_found","_law_more"] ["_law_cell_here","_law_size_here","_law_given_here","_law_words_here"] (Za3 (top 65)):=scm (by decide +kernel)
theorem sc_al0:FnScope ["_law_cell_here","_law_size_here","_law_given_here","_law_words_here","_law_form","_law_seed","_law_one","_law_shape","_law_other","_law_more","_law_term","_law_here"] ["_law_cell_here","_law_size_here","_law_given_here","_law_words_here"] (Za3 (top 64)):=scm (by decide +kernel)
theorem at2 {a b:V}{c:Int}(h0:0<=c)(h1:c < 2){p:V->Prop}(ha:c=0->p a)(hb:c=1->p b):∃x,atI [a,b] c=some x/\p x:=by
 have:c=0∨c=1:=by omega
 rcases this with rfl | rfl
 ·exact⟨a,rfl,ha rfl⟩
 ·exact⟨b,rfl,hb rfl⟩
theorem Wq4 {k:Nat}{f_bk0:Addr}{fd_bk0:zc}(F_bk0:Fun K "_law_sided" "_law_sided" (top 61) f_bk0 fd_bk0)(C__law_made:Cl P w K mg base k "_law_made" pq3 (sp_drawL K 0 n 60))(C__law_simple:Cl P w K mg base k "_law_simple" pq0 (sp_lsimpleL K))(C__law_mix:Cl P w K mg base k "_law_mix" pq1 (sp_mix)):Fk0 P w K mg base (k+1) f_bk0 fd_bk0 pq3 (sp_drawL K 2 (n+1) 60):=by
 refine F_bk0.okG sc_bk0 fun j6 A j4 s H vs Q E hr h Gx j3=>?_;obtain⟨c,m,ga,wa,ws,gs,ts,rfl,hc,lo,hn,q0,G,hl,q⟩:=h;have c0:=yu c (show (2:Int)≠0 by decide);have c1:=yp c (show (0:Int) < 2 by decide);obtain⟨d1,d2,d3,d4,d5,d6,d7⟩:=Zz2 m q0 lo;obtain⟨z1,z2,z3,z4⟩:=Zy2 m q0 lo
 refine j3 _ ⟨_,(Za2 (Zj9 (Zb8 C__law_made hr (Za0 (Zb8 C__law_mix hr (Za8 (pvM 0) (Zb3 Za4 Za1))) (Za0 (Zb6 Zj3 (pvM 1) Za4) (Za8 (pvM 2) (Za8 (pvM 3) Za1))))) (Zi2 rfl (Zc2 (pgn 4 sc_bk0.nd) (Zc2 (pgn 5 sc_bk0.nd) Zg1))))
 (Za2 (Zd1 (ptcM (Ze0) (pxtM (pvM 5) Za4) Zb1)
  (Za7 (Zb2 (pxlM (Ze1 (Zc5 (Zb5 (Zc5 (Zb5 (Zb3 Zb1 (Za8 (pvM 4) Za1))) (Zp7 (pxtM (pvM 5) Za4) Za1))) (Zc5 (Zb5 (Zc5 (Zb5 (Zb3 Zb1 (Za8 (pvM 4) Za1))) (Zp7 (pxtM (pvM 5) Za4) Za1))) Za1))) (Zb6 Zd0 (pvM 0) Za4))))
  Zb4)
 (Za2 (pst 6 sc_bk0.nd (pxtM (Zb8 C__law_simple hr (Za0 (Zb8 C__law_mix hr (Za8 (pvM 0) (Zb3 Za4 Za1))) (Za8 (pvM 2) (Za8 (pvM 3) Za1)))) Za4))
 (Za7 (Zb2 (Zb5 (Zp7 (pxlM (Ze1 (Zc5 (Zb5 (Zb3 Zb1 (Zc5 (Zb5 (Zb3 Zb1 (Za8 (pvM 4) (Za8 (pvM 6) Za1)))) Za1))) (Zc5 (Zb5 (Zb3 Zb1 (Zc5 (Zb5 (Zb3 Zb1 (Za8 (pvM 6) (Za8 (pvM 4) Za1)))) Za1))) Za1))) (Zb6 Zd0 (pvM 0) Za4)) (Za8 (pvM 5) Za1)))))))),?_⟩
 refine sqh (fun C=>∀H' x y t g,Same H H'->LEK K H' x t->LtK K H' y g->HasK ts t g->t.fine ws->t.deep<=dB (m - 1)->t.size<=sB (m - 1)->g.inW ws->g.parts<=60->C [some (.int c),some (.int (m:Nat)),some (.ref ga),some (.ref wa),some x,some y,none] H') (fun C hC=>?_) fun Ux j2 H1 x y t g R hx hy tk tf td tz gw gp=>?_
 ·walk_at "1"
  refine⟨_,_,rfl,by omega,by omega,_,m - 1,ga,wa,ws,gs,ts,by rw[show (m:Int) - 1=((m - 1:Nat):Int) by omega],Zh2 _ _,by omega,by omega,by omega,G,by omega,fun r H1 R hm=>?_⟩;refine hid fun Gz Y=>?_;obtain⟨p,x,y,t,g,rfl,h1,h2,h3,hk,h4,Z,h6,h7,h8⟩:=hm;refine Y ?_;exact⟨p,rfl,_,h1,rfl,_,_,rfl,_,_,rfl,rfl,hC _ x y t g R h2 h3 hk h4 Z h6 h7 h8⟩
 obtain⟨py,ys,rfl,j1,q8⟩:=Yj7 (LtK.isT hy);refine j2 _ _ ?_;refine sqk (fun C=>C [some (.int c),some (.int (m:Nat)),some (.ref ga),some (.ref wa),some x,some (.ref py),none] H1) (fun C hC=>?_) ?_
 ·walk_at "1"
  refine⟨_,j1,_,q8,rfl,?_⟩
  by_cases ca:g.tagS="both"
  ·obtain⟨q7,q5,rfl⟩:=Yr1 (k:=.both) ca
   obtain⟨p,u1,u2,e,hs,j0,q9⟩:=ltK_nd.mp hy;cases e;rw[if_pos (by rfl)];have j5:1+q7.parts+q5.parts<=60:=gp;refine⟨by decide,?_⟩;intro X O;generalize j:upd H1 X (.tup [.str "left",x])=J1;have U:=nw1 O j;have q1:=nw2 (K:=K) j;refine⟨_,U.sqt (.inl (.inl hs)),u1,rfl,by decide,?_⟩;intro F N;generalize i:upd J1 F (.tup [.ref X,u1])=J2;have s2:=nw1 N i;have q2:=nw2 (K:=K) i;refine⟨by decide,?_⟩;intro W M;generalize f:upd J2 W (.tup [.str "right",x])=J3;have s3:=nw1 M f;have q3:=nw2 (K:=K) f;refine⟨_,((U.trans s2).trans s3).sqt (.inl (.inl hs)),u2,rfl,by decide,?_⟩;intro D L;generalize d:upd J3 D (.tup [.ref W,u2])=J4;have s4:=nw1 L d;have q4:=nw2 (K:=K) d;refine⟨by decide,fun p5 Z=>⟨by decide,_,SqL.of Za5,?_⟩⟩;have I:=Za6 Z (.lst [.ref F,.ref D]);generalize upd J4 p5 (.lst [.ref F,.ref D])=J5 at I ⊢;have o:=s4.trans I;have v:=s3.trans o;have B:=s2.trans v;have l:=U.trans B;refine at2 c0 c1 (fun _=>q _ _ (R.trans l) (Zg3 (t:=.one .left t []) (g:=q7) (v.sqt q2) (Zp9 (u:=.left) (B.sqt q1) (LEK.keep hx l.keepL)) (LtK.keep j0 l.keepL) ⟨tf,rfl,fun _ h=>nomatch h⟩ (by show 1+t.deep<=_;omega) (by show 1+t.size<=_;omega) gw.1 (by omega) ⟨_,tk⟩))
    (fun _=>q _ _ (R.trans l) (Zg3 (t:=.one .right t []) (g:=q5) (I.sqt q4) (Zp9 (u:=.right) (o.sqt q3) (LEK.keep hx l.keepL)) (LtK.keep q9 l.keepL) ⟨tf,rfl,fun _ h=>nomatch h⟩ (by show 1+t.deep<=_;omega) (by show 1+t.size<=_;omega) gw.2 (by omega) ⟨_,tk⟩))
  ·rw[if_neg (fun z=>ca (V.str.inj z))]
   exact hC
 walk_at "1";refine⟨_,_,rfl,by omega,by omega,_,ga,wa,ws,gs,ts,rfl,Zh2 _ _,G.keep R,by omega,fun r H3 e3 hm=>?_⟩;refine hid fun Gz Y=>?_;obtain⟨p,x',y',S,g',rfl,a1,a2,a3,ak,a4,a5,a6,a7,a8⟩:=hm;refine Y ?_;refine⟨p,rfl,_,a1,_,rfl,by decide,?_⟩;intro X O;generalize j:upd H3 X (.tup [.str "pair",x,x'])=J1;have U:=nw1 O j;have q1:=nw2 (K:=K) j;refine⟨by decide,?_⟩;intro F N;generalize i:upd J1 F (.tup [.str "left",.ref X])=J2;have s2:=nw1 N i;have q2:=nw2 (K:=K) i;refine⟨by decide,?_⟩;intro W M;generalize f:upd J2 W (.tup [.str "pair",x',x])=J3;have s3:=nw1 M f;have q3:=nw2 (K:=K) f;refine⟨by decide,?_⟩;intro D L;generalize d:upd J3 D (.tup [.str "right",.ref W])=J4;have s4:=nw1 L d;have q4:=nw2 (K:=K) d;refine⟨by decide,fun p5 Z=>⟨by decide,_,SqL.of Za5,?_⟩⟩;have I:=Za6 Z (.lst [.ref F,.ref D]);generalize upd J4 p5 (.lst [.ref F,.ref D])=J5 at I ⊢;have o:=s4.trans I;have v:=s3.trans o;have B:=s2.trans v;have l:=U.trans B;have T:=e3.trans l;refine at2 c0 c1 (fun _=>⟨by decide,?_⟩) (fun _=>⟨by decide,?_⟩)
 ·intro p6 J;generalize b:upd J5 p6 (.tup [.ref F,.ref py])=J6;have a:=nw1 J b;have q6:=nw2 (K:=K) b
  refine q _ _ (R.trans (T.trans a)) (Zg3 (t:=.one .left (.two .pair t S) []) (g:=g) q6 (Zp9 (u:=.left) ((v.trans a).sqt q2) (Zl0 (u:=.pair) ((B.trans a).sqt q1) (LEK.keep hx (T.trans a).keepL) (LEK.keep a2 (l.trans a).keepL))) (LtK.keep hy (T.trans a).keepL) ⟨⟨tf,a4⟩,rfl,fun _ h=>nomatch h⟩ (by show 1+(1+max t.deep S.deep)<=_;omega) (by show 1+(1+t.size+S.size)<=_;omega) gw gp ⟨_,_,_,tk,ak,rfl⟩)
 ·intro p6 J;generalize b:upd J5 p6 (.tup [.ref D,.ref py])=J6;have a:=nw1 J b;have q6:=nw2 (K:=K) b
  refine q _ _ (R.trans (T.trans a)) (Zg3 (t:=.one .right (.two .pair S t) []) (g:=g) q6 (Zp9 (u:=.right) ((I.trans a).sqt q4) (Zl0 (u:=.pair) ((o.trans a).sqt q3) (LEK.keep a2 (l.trans a).keepL) (LEK.keep hx (T.trans a).keepL))) (LtK.keep hy (T.trans a).keepL) ⟨⟨a4,tf⟩,rfl,fun _ h=>nomatch h⟩ (by show 1+(1+max S.deep t.deep)<=_;omega) (by show 1+(1+S.size+t.size)<=_;omega) gw gp ⟨_,_,_,ak,tk,rfl⟩)
theorem sc_ar0:FnScope ["_law_script","_law_words_here","_law_given_here","_law_k","_law_cell_here"] ["_law_script","_law_words_here"] (Za3 (top 66)):=scm (by decide +kernel)
inductive sp_lgivenL (K:W.Frag):Sp
 |mk {vs H Q E:_} (sa wa:Addr) (ns:List Int) (ws:List Str):vs=[.ref sa,.ref wa]->SqL K H sa (ns.map V.int)->ns.length<=63->SqL K H wa (ws.map V.str)->Yw0 ws->(∀(r:Addr) (H':Hp) (gs:List V) (ts:List Tm),Same H H'->H' r=some (.lst gs)->Paired (LtK K H') gs ts->(∀s∈ts,okW ws s)->ts.length<=4->Q (.ref r) H')->sp_lgivenL K vs H Q E
theorem Wq9 {k:Nat}(F_ar0:Df K mg "_law_given" (top 66) ["_law_script","_law_words_here"])(C__law_cell:Cl P w K mg base k "_law_cell" ["_law_script","_law_k"] (sp_cell K))(C__law_mix:Cl P w K mg base k "_law_mix" pq1 (sp_mix))(C__law_statement:Cl P w K mg base k "_law_statement" pq4 (sp_stmL K 12))(m_range:mg "range"=none)(m_max:mg "max"=none)(m_len:mg "len"=none):Cl P w K mg base (k+1) "_law_given" ["_law_script","_law_words_here"] (sp_lgivenL K):=by
 refine F_ar0.okG sc_ar0 fun fx q5 A q3 s H vs Q E N h Gx q1=>?_;obtain⟨L,I,d,G,rfl,U,O,hW,hw,q⟩:=h
 refine q1 _ ⟨_,(Za2 (pst 2 sc_ar0.nd (Ze1 Za1))
 (Za2 (Ye5 yas rfl (Zt1 rfl m_range (Za0 (Zb6 Zd0 (Zb6 Zd8 (Zb8 C__law_cell N (Za0 (pvM 0) (Za0 Za4 Za1))) Za4) Za4) Za1)) (pgn 3 sc_ar0.nd)
  (Za2 (pst 4 sc_ar0.nd (Zb8 C__law_mix N (Za0 (Zb8 C__law_cell N (Za0 (pvM 0) (Za0 (Zb6 Ze4 Za4 (Zb6 Zd0 (pvM 3) (Ze2 (Yq0 rfl) (by exact rfl) m_max boot_max (Za0 Za4 (Za0 (Ze2 Zc6 (by exact rfl) m_len Ze7 (Za0 (pvM 0) Za1)) Za1))))) Za1))) (Za0 (Zb6 Ze4 (pvM 3) Za4) Za1))))
 (Za7 (Zd1 (ptcM (Ze0) (Zb6 Zd0 (pvM 4) Za4) Za4)
  (Za7 (Zf3 (Zk4 yl yv yx Ze6 (pvM 2) (Za0 (Zb5 (Za0 Zb1 Za1)) Za1))))
  (Za7 (Zf3 (Zk4 yl yv yx Ze6 (pvM 2) (Za0 (Zb8 C__law_statement N (Za0 (Zb6 Zd8 (pvM 4) Za4) (Za0 (Zb6 Ze4 Za4 (Zb6 Zd0 (pvM 4) Za4)) (Za0 (pvM 1) Za1)))) Za1))))))))
 (Za7 (Zb2 (pvM 2))))),?_⟩
 refine sqk (fun C=>∀b l,Same H b->H l=none->b l=some (.lst [])->C [some (.ref L),some (.ref I),some (.ref l),none,none] b) (fun C W=>?_) fun H1 l e1 f1 X=>?_
 ·walk_at "1"
  exact⟨by decide,fun l t=>W _ l (Za6 t _) t Za5⟩
 refine sqt (fun f b=>∃m j a c,f=[some (.ref L),some (.ref I),some (.ref l),m,j]/\Same H b/\b l=some (.lst a)/\Paired (LtK K b) a c/\(∀s∈c,okW G s)/\c.length<=4) ?_ ?_
 ·intro C W
  walk_at "2";have b0:=yu (cellOf d 1 / 5) (show (5:Int)≠0 by decide);have b1:=yp (cellOf d 1 / 5) (show (0:Int) < 5 by decide);refine⟨_,d,_,rfl,e1.seq U,O,by decide,by decide,_,rfl,⟨by decide,by decide⟩,by decide,by omega,by omega,?_⟩;generalize cellOf d 1 / 5 % 5=cnt at b0 b1 ⊢;refine Yp3 (D:={ nx:=C,rt:=Q }) (n:=cnt.toNat) (lo:=0) (fun i f b=>∃m j a c,f=[some (.ref L),some (.ref I),some (.ref l),m,j]/\Same H b/\b l=some (.lst a)/\Paired (LtK K b) a c/\(∀s∈c,okW G s)/\c.length=i) ⟨none,none,[],[],rfl,e1,X,.nil,fun s p=>absurd p (by simp),rfl⟩ (fun i f b hi g=>?_) (fun f b zZ=>by obtain⟨m,j,a,c,e0,e,h,g,y,t⟩:=zZ;exact W _ _ ⟨m,j,a,c,e0,e,h,g,y,by omega⟩);refine hid fun Gz q0=>?_;obtain⟨m,j,a,c,rfl,e,h,g,y,t⟩:=g;refine q0 ?_;unfold Zu3;refine sqk (fun C=>∀(x:Int),0<=x->C [some (.ref L),some (.ref I),some (.ref l),some (.int (0+(i:Int))),some (.int x)] b) (fun C' q2=>?_) fun x hx=>?_
  ·walk_at "1"
   refine⟨d.map V.int,.inl (e.seq U),?_⟩
   have S:0 < (if ((d.map V.int).length:Int) > 1 then ((d.map V.int).length:Int) else 1):=by split<;>omega
   have m1:(if ((d.map V.int).length:Int) > 1 then ((d.map V.int).length:Int) else 1)<=63:=by rw[yn];split<;>omega
   generalize (if ((d.map V.int).length:Int) > 1 then ((d.map V.int).length:Int) else 1)=M at S m1 ⊢;have a0:=yu (0+(i:Int)) (show M≠0 by omega);have a1:=yp (0+(i:Int)) S;exact⟨S,_,d,_,rfl,e.seq U,O,by omega,by omega,_,_,rfl,by omega,by omega,q2 _ (Zh2 _ _)⟩
  have lg:=zk g;have c0:=yu x (show (7:Int)≠0 by decide);have c1:=yp x (show (0:Int) < 7 by decide)
  have R:∀{J:Hp} {v:V} {u:Tm},Same b J->LtK K J v u->okW G u->J l=some (.lst a)/\a.length < zi/\Same H (upd J l (.lst (a++[v])))/\∃x_1,upd J l (.lst (a++[v])) l=some (.lst x_1)/\∃x_2,Paired (LtK K (upd J l (.lst (a++[v])))) x_1 x_2/\(∀s∈x_2,okW G s)/\x_2.length=i+1:=fun {J v u} B hv T=>by
   have Z:=B _ _ h;have Y:=Zg5 (K:=K) (o:=.lst (a++[v])) Z;refine⟨Z,Zd9 (by omega),(e.trans B).write f1,_,Za5,c++[u],Zg2 (Paired.mapP g fun _ _ z=>LtK.keep z (B.keepL.trans Y)) (.cons (LtK.keep hv Y) .nil),fun s p=>?_,by rw[yd,t];rfl⟩;rcases yg.mp p with p | p
   ·exact y s p
   ·rw[yf.mp p];exact T
  walk_at "1";refine⟨by decide,ite2 (fun _=>⟨.inl ⟨rfl,_,SqL.of h⟩,by decide,fun p1 X=>?_⟩) (fun _=>⟨.inl ⟨rfl,_,SqL.of h⟩,⟨by decide,by decide⟩,by decide,Zl8 (by omega) (by omega) (by omega) (e.seq hW) hw fun r J u B T uw up=>?_⟩)⟩
  ·exact⟨a,R (Za6 X _) (ltK_low.mpr ⟨p1,rfl,Za5⟩) ⟨trivial,by decide⟩⟩
  ·exact⟨a,R B T ⟨uw,by omega⟩⟩
 rintro q4 H2 ⟨m,j,a,c,rfl,e2,h2,g,y,t⟩;walk_at "1";exact q _ _ a c e2 h2 g y t
theorem Xw9 {k:Nat}{f_bd0:Addr}{fd_bd0:zc}(F_bd0:Fun K "_law_made" "_law_made" (top 65) f_bd0 fd_bd0)(C__law_any:Cl P w K mg base k "_law_any" pq3 (sp_drawL K 2 n 150))(C__law_simple:Cl P w K mg base k "_law_simple" pq0 (sp_lsimpleL K))(C__law_mix:Cl P w K mg base k "_law_mix" pq1 (sp_mix))(C__law_size:Cl P w K mg base k "_law_size" ["_law_statement_here"] (sp_lsize K)):Fk0 P w K mg base (k+1) f_bd0 fd_bd0 pq3 (sp_drawL K 0 n 60):=by
 refine F_bd0.okG sc_bd0 fun q0 A O s H vs Q E d h Gx I=>?_;obtain⟨c,m,v,l,j,J,o,rfl,hc,lo,S,B,G,T,q⟩:=h;have z:=Wt8 m B
 refine I _ ⟨_,(Za2 (pst 4 sc_bd0.nd (Zb8 C__law_simple d (Za0 (Zb8 C__law_mix d (Za0 (pvM 0) (Za0 Za4 Za1))) (Za0 (pvM 2) (Za0 (pvM 3) Za1)))))
 (Za2 (Zd1 (ptcM (Yn6) (pvM 1) Za4)
  (Za2 (pst 5 sc_bd0.nd (Zb8 C__law_any d (Za0 (Zb8 C__law_mix d (Za0 (pvM 0) (Za0 Za4 Za1))) (Za0 (pvM 1) (Za0 (pvM 2) (Za0 (pvM 3) Za1))))))
 (Za7 (Zd1 (ptcM (Yn5) (Zb8 C__law_size d (Za0 (pxtM (pvM 5) Za4) Za1)) Za4)
  (Za7 (pst 4 sc_bd0.nd (pvM 5)))
  Zb4)))
  Zb4)
 (Za7 (Zb2 (pvM 4))))),?_⟩
 refine sqk (fun C=>∀H' r,Same H H'->MadeK K H' o j 2 2 60 r->C [some (.int c),some (.int (m:Nat)),some (.ref v),some (.ref l),some r,none] H') (fun C f=>?_) fun H1 r b u=>?_
 ·walk_at "1"
  exact⟨_,_,rfl,by omega,by omega,_,v,l,j,J,o,rfl,Zh2 _ _,G,by omega,fun r H1 b u=>f _ r b u⟩
 refine sqk (fun C=>∀H' r D,Same H H'->MadeK K H' o j (dB m) (sB m) 60 r->C [some (.int c),some (.int (m:Nat)),some (.ref v),some (.ref l),some r,D] H') (fun C f=>?_) fun H2 R D i e=>?_
 ·walk_at "1"
  refine ite2 (fun V=>?_) (fun V=>f _ r none b (u.mono (KeepL.refl _) z.1 z.2 (zg _)));refine⟨_,_,rfl,by omega,by omega,_,m,v,l,j,J,o,rfl,Zh2 _ _,by omega,S,B,G.keep b,T,fun R H2 i e=>?_⟩;refine hid fun Gz F=>?_;obtain⟨p,x,y,t,g,rfl,N,a2,M,W,Z,Y,X,L,a8⟩:=e;refine F ?_;refine⟨p,rfl,_,N,_,rfl,_,g,rfl,LtK.isT M,L.ok G.wo.2.2,by omega,fun H3 a=>?_⟩;refine⟨_,rfl,ite2 (fun U=>f _ (.ref p) _ ((b.trans i).trans a) (Zg3 (a.sqt N) (LEK.keep a2 a.keepL) (LtK.keep M a.keepL) Z Y X L (by omega) W)) (fun U=>f _ r _ ((b.trans i).trans a) (u.mono (i.trans a).keepL z.1 z.2 (zg _)))⟩
 walk_at "1";exact q _ _ i e
theorem sc_cr0:FnScope ["term","found","waiting","piece","front","place","more"] ["term"] (Za3 (top 13)):=scm (by decide +kernel)
noncomputable def sumE (ts:List Pf):Nat:=(ts.map fun p=>p.1.size).sum
theorem Ya2 (t:Pf)(ts:List Pf):sumE (t::ts)=t.1.size+sumE ts:=by unfold sumE;rw[yan,List.sum_cons]
theorem Yw8 (a b:List Pf):sumE (a++b)=sumE a+sumE b:=by unfold sumE;rw[zam,List.sum_append]
theorem Ym1 (p:Pf):sumE (Zi4 p)+1=p.1.size:=by
 obtain⟨t,f⟩:=p
 cases t<;>simp[sumE,Zi4,Te.kids,Te.size]<;>omega
theorem size_pos (t:Te):1<=t.size:=by cases t<;>simp[Te.size]<;>omega
theorem Yz0:∀ts:List Pf,ts.length<=sumE ts
 | []=>zg _
 |t::ts=>by
  rw[Ya2,zac];have:=Yz0 ts;have:=size_pos t.1;omega
theorem Ys9 (k:KeepL K H H'){us:List V}{ts:List Pf}(h:Paired (LPf K H) us ts):Paired (LPf K H') us ts:=Paired.mapP h fun _ _ z=>z.keep k
theorem Xj8 {k:Nat}{f_cr0:Addr}{fd_cr0:zc}(F_cr0:Fun K "standing" "standing" (top 13) f_cr0 fd_cr0)(m_af0:MgI mg "INNER" aINNER)(D_INNER:KDict K w aINNER (innV aT))(hI:Inn K aT)(m_reversed:mg "reversed"=none):Fk0 P w K mg base (k+1) f_cr0 fd_cr0 pq32 (sp_standingL K):=by
 refine F_cr0.okG sc_cr0 fun z7 A z3 s H vs Q E hr h Gx z0=>?_;obtain⟨v,t,rfl,hT,hz,q⟩:=h
 refine z0 _ ⟨_,(Za2 (pst 1 sc_cr0.nd (Ze1 Za1))
 (Za2 (pst 2 sc_cr0.nd (Ze1 (Za0 (Zb5 (Za0 (pv 0) (Za0 Za4 Za1))) Za1)))
 (Za2 (Zt0 yas (Zy5 (pv 2) (fun _=>rfl))
  (Za2 (Zj9 (Zw7 yl zbb ybf Zw9 (pv 2)) (Zi2 rfl (Zc2 (pgn 3 sc_cr0.nd) (Zc2 (pgn 4 sc_cr0.nd) Zg1))))
 (Za2 (Zf3 (Zk4 yl yv yx Ze6 (pv 1) (Za0 (Zb5 (Za0 (pv 3) (Za0 (pv 4) Za1))) Za1)))
 (Za7 (Ye5 yas rfl (Wb4 rfl m_reversed (Za0 (Zm7 D_INNER rfl m_af0 (pxt (pv 3) Za4)) Za1)) (Zi2 rfl (Zc2 (pgn 5 sc_cr0.nd) (Zc2 (pgn 6 sc_cr0.nd) Zg1)))
  (Za7 (Zf3 (Zk4 yl yv yx Ze6 (pv 2) (Za0 (Zb5 (Za0 (pxt (pv 3) (pv 5)) (Za0 (Zb6 Ze4 (pv 4) (pv 6)) Za1))) Za1)))))))))
 (Za7 (Zb2 (pv 1)))))),?_⟩
 refine sqk (fun C=>∀a f,Same H a->H f=none->a f=some (.lst [])->C [some v,some (.ref f),none,none,none,none,none] a) (fun C hC=>?_) fun T f V f1 S=>?_
 ·walk_at "1"
  exact⟨by decide,fun p g=>hC _ p (Za6 g _) g Za5⟩
 refine sqk (fun C=>∀a lw u,Same H a->a f=some (.lst [])->H lw=none->lw≠f->a lw=some (.lst [u])->LPf K a u (t,0)->C [some v,some (.ref f),some (.ref lw),none,none,none,none] a) (fun C hC=>?_) fun H2 lw u0 e2 R f2 q9 h3 j4=>?_
 ·walk_at "1"
  refine⟨by decide,fun p g=>⟨by decide,fun p2 q2=>?_⟩⟩;have L:T p2=none:=(Za6 g _).free q2;refine hC _ p2 _ ((V.trans (Za6 g _)).trans (Za6 q2 _)) ?_ (V.free L) (fun z=>by rw[z,S] at L;cases L) Za5 ?_
  ·rw[Za9 (Zb0 S L),Za9 (Zb0 S g)];exact S
  ·refine (lPf.mpr ⟨p,v,rfl,.inl (.inl Za5),hT.keep ((V.trans (Za6 g _)).keepL)⟩:LPf K _ (.ref p) (t,0)).keep (Ze3 q2)
 refine sqk (fun C=>∀a y X W G B,Same H a->a f=some (.lst y)->Paired (LPf K a) y (t.pre 0)->C [some v,some (.ref f),some (.ref lw),X,W,G,B] a) (fun C hC=>?_) fun H3 y X W G B e3 z1 hu=>?_
 ·refine⟨fun m J a=>∃j Z y ds X W G B,m=sumE Z/\J=[some v,some (.ref f),some (.ref lw),X,W,G,B]/\Same H a/\a f=some (.lst y)/\a lw=some (.lst j.reverse)/\Paired (LPf K a) j Z/\Paired (LPf K a) y ds/\ds++Z.flatMap preP=t.pre 0/\y.length+sumE Z<=20000,
   ⟨_,[u0],[(t,0)],[],[],none,none,none,none,rfl,rfl,e2,R,h3,.cons j4 .nil,.nil,?_,?_⟩,?_⟩
  ·show []++(t.pre 0++[])=t.pre 0
   simp
  ·show 0+(t.size+0)<=20000
   omega
  rintro m z4 T ⟨j,Z,y,ds,X,W,G,B,rfl,rfl,V,S,R,hd,hu,ht,hn⟩;refine⟨_,rfl,!j.reverse.isEmpty,.inl ⟨_,SqL.of R,rfl⟩,?_⟩
  cases hd with
  |nil =>
   rw[if_neg (by decide)];rw[List.flatMap_nil,yac] at ht;rw[ht] at hu;exact hC _ y _ _ _ _ V S hu
  |@cons u i j is hi hst =>
   have q1:(u::j).reverse=j.reverse++[u]:=zr;rw[if_pos (by rw[q1];simp)];refine opq fun N hN=>?_;rw[q1] at R;have q6:f≠lw:=zbe q9;obtain⟨p0,x0,rfl,j7,q8⟩:=lPf.mp hi;obtain⟨c,d⟩:=i;have k1:KeepL K T (upd T lw (.lst j.reverse)):=Zg5 R
   have O:upd T lw (.lst j.reverse) f=some (.lst y):=by rw[Za9 q6];exact S
   rw[Ya2] at hn;have pp:=size_pos c;refine sqk (fun C=>C [some v,some (.ref f),some (.ref lw),some x0,some (.int (d:Nat)),G,B] (upd T lw (.lst j.reverse))) (fun C' q5=>?_) ?_
   ·walk_at "1"
    refine⟨.inl ⟨rfl,_,SqL.of R⟩,_,R,.ref p0,by simp,?_⟩;rw[zar];exact⟨p0,rfl,_,k1 _ _ j7,rfl,_,_,rfl,_,_,rfl,rfl,q5⟩
   refine sqh (fun C=>∀a,Same H a->KeepL K T a->a lw=some (.lst j.reverse)->∀Y,a f=some (.lst (y++[Y]))->LPf K a Y (c,d)->C [some v,some (.ref f),some (.ref lw),some x0,some (.int (d:Nat)),G,B] a) (fun C' q5=>?_) fun Ux j9 H3 e3 k3 j2 Y j6 j5=>?_
   ·walk_at "1"
    refine⟨.inl ⟨rfl,_,SqL.of O⟩,by decide,fun p g=>?_⟩;have n1:=Zb0 O g;refine⟨_,by rw[Za9 n1];exact O,Zd9 (by omega),q5 _ ?_ ?_ ?_ _ Za5 ?_⟩
    ·exact ((V.write f2).trans (Za6 g _)).write f1
    ·exact (k1.trans (Ze3 g)).trans (Zg5 (by rw[Za9 n1];exact O))
    ·rw[Za9 q9,Za9 (Zb0 Za5 g),Za5]
    ·exact (lPf.mpr ⟨p,x0,rfl,.inl (.inl Za5),q8.keep (k1.trans (Ze3 g))⟩:LPf K _ (.ref p) (c,d)).keep (Zg5 (by rw[Za9 n1];exact O))
   obtain⟨pt,xs,rfl,hs,hd⟩:=leK_view.mp (q8.keep k3);obtain⟨ai,la,ri⟩:=Yp0 hI c;obtain⟨n,q7,q0,j1⟩:=ri.sq H3;refine j9 _ _ ?_;walk_at "2";refine⟨_,hs,_,Zc0 (LI.tag hd),c.tag,rfl,_,la,ai,rfl,n,q7,?_⟩
   have lk:n.length=(Zi4 (c,d)).length:=by rw[q0,c.inn_len,Zz1]
   have z5:n.length<=3:=by rw[q0];cases c<;>simp[Te.inn,Te.plc,Te.kids]
   refine Xu3 (D:={ nx:=N,rt:=Q }) (xs:=n) (fun i J a=>∃G B I,J=[some v,some (.ref f),some (.ref lw),some (.ref pt),some (.int (d:Nat)),G,B]/\Same H a/\KeepL K H3 a/\a f=some (.lst (y++[Y]))/\a lw=some (.lst (j.reverse++I))/\I.length=i/\Paired (LPf K a) I ((Zi4 (c,d)).drop (n.length - i)).reverse)
    ⟨G,B,[],rfl,e3,KeepL.refl _,j6,by rw[yac];exact j2,rfl,?_⟩ (fun i J a _ zZ=>by obtain⟨G,B,I,_,_,kk,_⟩:=zZ;exact kk _ _ q7) (fun i x J a hi hx q3=>?_) (fun J a q3=>?_)
   ·rw[ybk,lk,List.drop_length];exact .nil
   ·refine hid fun Gz q4=>?_
    obtain⟨y5,y6,I,rfl,e4,M,h4,h5,hl,g⟩:=q3;refine q4 ?_;obtain⟨⟨pl,mo⟩,hr⟩:∃r,c.inn[n.length - 1 - i]?=some r:=⟨_,zb (by rw[<- q0];omega)⟩;obtain⟨b,eb,sb⟩:=j1 _ _ _ hr;rw[hx] at eb;cases eb;obtain⟨kd,hk,z6,_,_,_⟩:=Te.inn_at hr;obtain⟨ux,j3,z2⟩:=LI.kid hd hr hk;have j8:(Zi4 (c,d))[n.length - 1 - i]?=some (kd,d+mo):=Xl4 hk;walk_at "1";refine⟨_,M _ _ sb,rfl,_,_,rfl,_,_,rfl,rfl,.inl ⟨rfl,_,SqL.of h5⟩,_,_,rfl,M _ _ hs,ux,Zc0 j3,_,rfl,by decide,fun p U=>?_⟩;have n5:=Zb0 h5 U
    have j0:upd a p (.tup [ux,.int ((d:Int)+mo)]) lw=some (.lst (j.reverse++I)):=by rw[Za9 n5];exact h5
    have kA:=Ze3 (K:=K) (o:=.tup [ux,.int ((d:Int)+mo)]) U;have kB:=Zg5 (K:=K) (o:=.lst (j.reverse++I++[.ref p])) j0;have l3:=zk hst;have l4:=Yz0 is;refine⟨_,j0,Zd9 ?_,(e4.trans (Za6 U _)).write f2,(M.trans kA).trans kB,?_,I++[.ref p],?_,?_,?_⟩
    ·rw[yd,zag];omega
    ·rw[Za9 q6,Za9 (Zb0 h4 U)];exact h4
    ·rw[Za5,yam]
    ·rw[yd,hl];rfl
    ·have e:(Zi4 (c,d)).drop (n.length - (i+1))=(kd,d+mo)::(Zi4 (c,d)).drop (n.length - i):=by
      have h':n.length - (i+1)=n.length - 1 - i:=by omega
      rw[h',ych (by rw[<- lk];omega),show n.length - 1 - i+1=n.length - i by omega]
      congr 1
      have:=zb (l:=Zi4 (c,d)) (i:=n.length - 1 - i) (by rw[<- lk];omega);rw[j8] at this;exact (zu this).symm
     rw[e,zr];refine Zg2 (Ys9 (kA.trans kB) g) (.cons ?_ .nil);exact LPf.keep (p:=(kd,d+mo)) (lPf.mpr ⟨p,ux,rfl,.inl (.inl Za5),LEK.keep (t:=kd) z2 (M.trans kA)⟩) kB
   ·refine hid fun Gz q4=>?_
    obtain⟨y5,y6,I,rfl,e4,M,h4,h5,hl,g⟩:=q3;refine q4 ?_;rw[zbk,ydn] at g;refine hN _ _ ⟨sumE (Zi4 (c,d)++is),?_,I.reverse++j,Zi4 (c,d)++is,y++[Y],ds++[(c,d)],_,_,_,_,rfl,rfl,e4,h4,?_,?_,?_,?_,?_⟩
    ·rw[Yw8,Ya2]
     have:=Ym1 (c,d);have e:(c,d).1.size=c.size:=rfl;omega
    ·rw[zcm,ybm];exact h5
    ·refine Zg2 ?_ (Ys9 (k3.trans M) hst)
     have:=Zj6 g
     rwa [ybm] at this
    ·exact Zg2 (Ys9 (k3.trans M) hu) (.cons (j5.keep M) .nil)
    ·rw[<- ht,List.flatMap_append,zaq,Zr3 (c,d)];simp
    ·rw[yd,zab,Yw8]
     have:=Ym1 (c,d);have e:(c,d).1.size=c.size:=rfl;rw[e] at hn;omega
 walk_at "1";exact q _ _ _ e3 f1 z1 hu
theorem Wi8:FnScope ["term"] ["term"] (Za3 (top 47)):=scm (by decide +kernel)
theorem Wj1:FnScope ["term"] ["term"] (Za3 (top 38)):=scm (by decide +kernel)
theorem Wn0 {k:Nat}(F_cz0:Df K mg "turns" (top 47) pq32){aTURNING:Addr}{aU:Nat->Addr}(m_ak0:MgI mg "TURNING" aTURNING)(D_TURNING:KDict K w aTURNING (turnV aU))(hU:Tng K aU):Cl P w K mg base (k+1) "turns" pq32 (sp_turnsL K):=by
 refine F_cz0.okG Wi8 fun Z T A G s H W Q E Y h Gx F=>?_;obtain⟨v,t,rfl,i,q⟩:=h;obtain⟨D,U,rfl,J,M⟩:=leK_view.mp i;refine F _ ⟨_,(Za7 (Zb2 (Wm2 (Wm1 (Wm3 D_TURNING rfl m_ak0 (pxtM (pvM 0) Za4)) (by with_unfolding_all rfl)) (Wl8 (Yi1 (Zj1) (pxtM (pxtM (pvM 0) Za4) Za4) (Zm7 D_TURNING rfl m_ak0 (pxtM (pvM 0) Za4)) (by with_unfolding_all rfl)))))),?_⟩;walk_at "1"
 have B:∀{x:V} {a:Te},LEK K H x a->∃p m,x=.ref p/\SqT K H p m/\atI m 0=some (.str a.tag):=fun {x a} h=>by
  obtain⟨p,m,e,d,f⟩:=leK_view.mp h;exact⟨p,m,e,d,Zc0 (LI.tag f)⟩
 have N:(∃(g:Str) (r:List V),SqT K H D (.str g::r)/\(zaj g (turnV aU)).isSome=false/\t.turns=false)∨(∃(g:Str) (x:V) (r:List V) (a:Te) (o:Addr) (n:List V),SqT K H D (.str g::x::r)/\zaj g (turnV aU)=some (.ref o)/\LEK K H x a/\SqT K H o n/\n.all Yk0=true/\inV (.str a.tag) n=t.turns):=by
  clear q J M
  cases t with
  |«at» k0 =>
   obtain⟨p,e,d⟩:=leK_atV.mp i;cases e;exact .inl ⟨_,_,d,rfl,rfl⟩
  |one u a ss =>
   obtain⟨p,x,X,e,d,f,_⟩:=leK_oneV.mp i;cases e
   cases u with
   |left=>exact .inr ⟨_,_,_,_,_,_,d,rfl,f,hU.l H,rfl,(by cases a with | two u2 _ _=>cases u2<;>rfl | one u1 _ _=>cases u1<;>rfl | _=>rfl)⟩
   |right=>exact .inr ⟨_,_,_,_,_,_,d,rfl,f,hU.r H,rfl,(by cases a with | two u2 _ _=>cases u2<;>rfl | one u1 _ _=>cases u1<;>rfl | _=>rfl)⟩
   |first=>exact .inl ⟨_,_,d,rfl,rfl⟩
   |second=>exact .inl ⟨_,_,d,rfl,rfl⟩
   |off=>exact .inl ⟨_,_,d,rfl,rfl⟩
  |two u a b =>
   obtain⟨p,x,y,e,d,f,_⟩:=leK_twoV.mp i;cases e
   cases u with
   |pair=>exact .inl ⟨_,_,d,rfl,rfl⟩
   |use=>exact .inr ⟨_,_,_,_,_,_,d,rfl,f,hU.u H,rfl,(by cases a with | two u2 _ _=>cases u2<;>rfl | one u1 _ _=>cases u1<;>rfl | _=>rfl)⟩
  |fn st a =>
   obtain⟨p,x,y,e,d,_⟩:=leK_fnV.mp i;cases e;exact .inl ⟨_,_,d,rfl,rfl⟩
  |cs a b c =>
   obtain⟨p,x,y,z,e,d,f,_⟩:=leK_csV.mp i;cases e;exact .inr ⟨_,_,_,_,_,_,d,rfl,f,hU.c H,rfl,(by cases a with | two u2 _ _=>cases u2<;>rfl | one u1 _ _=>cases u1<;>rfl | _=>rfl)⟩
 rcases N with ⟨g,r,d,f,C⟩ | ⟨g,x,r,a,o,n,d,f,C,S,R,O⟩
 ·refine⟨_,d,_,Zc0 (j:=0) rfl,_,rfl,?_⟩
  rw[f,if_neg (by decide),<- C];exact q
 ·obtain⟨p,m,rfl,L,I⟩:=B C
  refine⟨_,d,_,Zc0 (j:=0) rfl,_,rfl,?_⟩;rw[f,if_pos (by rfl)];refine⟨_,d,_,Zc0 (j:=1) rfl,p,rfl,_,L,_,I,_,d,_,Zc0 (j:=0) rfl,_,rfl,_,f,o,rfl,n,.inr S,rfl,R,?_⟩;rw[if_neg (by decide),O];exact q
theorem Wn5 {k:Nat}{f_cu0:Addr}{fd_cu0:zc}(F_cu0:Fun K "term_parts" "term_parts" (top 38) f_cu0 fd_cu0)(C_standing:Cl P w K mg base k "standing" pq32 (sp_standingL K))(m_len:mg "len"=none):Fk0 P w K mg base (k+1) f_cu0 fd_cu0 pq32 (sp_tpartsL K):=by
 refine F_cu0.okG Wj1 fun j A b s H l Q E g h n a=>?_;obtain⟨v,t,rfl,i,d,q⟩:=h;refine a _ ⟨_,(Za7 (Zb2 (Ze2 Zc6 (by exact rfl) m_len Ze7 (Za0 (Zb8 C_standing g (Za0 (pvM 0) Za1)) Za1)))),?_⟩;walk_at "1";refine⟨v,t,rfl,i,d,fun r m c e _ h f=>⟨r,rfl,c,.inl (SqL.of h),?_⟩⟩;have:=zk f;rw[Zg0] at this;rw[this];exact q _ e
theorem Wj0:FnScope ["pieces"] ["pieces"] (Za3 (top 49)):=scm (by decide +kernel)
theorem Wn2 {k:Nat}(F_cx0:Df K mg "turning_places" (top 49) ["pieces"])(C_turns:Cl P w K mg base k "turns" pq32 (sp_turnsL K))(m_enumerate:mg "enumerate"=none):Cl P w K mg base (k+1) "turning_places" ["pieces"] (sp_tplacesL K):=by
 refine F_cx0.okG Wj0 fun U O A F s H R Q E L h V C=>?_;obtain⟨l,G,b,rfl,v,B,T,q⟩:=h;have S:=zk B;refine C _ ⟨_,(Za7 (Zb2 (Wl9 (blk0 (N':=["place","piece","front"]) (by decide +kernel) (by decide +kernel) rfl (by decide +kernel)) rfl (Wb6 rfl m_enumerate (Za0 (pvM 0) Za1)) (fun _ _ _ _=>(Ys8 (K:=K) (n:=2) rfl rfl (Zc2 (pgn 0 (ndS ["place","piece","front"])) (Zc2 (Ys8 (K:=K) (n:=2) rfl rfl (Zc2 (pgn 1 (ndS ["place","piece","front"])) (Zc2 (pgn 2 (ndS ["place","piece","front"])) Zg1)) rfl rfl) Zg1)) rfl rfl)) (fun _ _=>Xz6) (fun _ _ _ _ _=>(Xi6 (Xw1 (Zb8 C_turns L (Za0 (pvM 1) Za1))) (Yy0 (pvM 0))))))),?_⟩;walk_at "1";refine⟨⟨_,SqL.of v⟩,fun f c=>?_⟩
 have o:∀{i:Nat} {p:Pf},b[i]?=some p->idxT 0 (b.take (i+1))=idxT 0 (b.take i)++(if p.1.turns then [i] else []):=fun {i p} h=>by
  have z:=(yc.mp h).1;rw[List.take_add_one,h,Zu1,yal,Nat.min_eq_left (zv z),ycy];show _++((if p.1.turns then [i] else [])++[])=_;rw[yac]
 refine Xo9 (xs:=G) (fun i d=>Same H d/\d f=some (.lst (natW (idxT 0 (b.take i))))) ⟨Za6 c _,by rw[List.take_zero];exact Za5⟩ (fun i d _ ⟨e,_⟩=>SqL.of (e _ _ v)) (fun i x d T0 N hx hT0 ⟨e,h⟩ hN=>?_) (fun d ⟨e,h⟩=>?_)
 ·obtain⟨p,g,u⟩:=paired_get B hx
  have r:=Za6 hT0 (.tup [.int (i:Nat),x]);have m:=e.trans r;obtain⟨t,y,rfl,J,I⟩:=lPf.mp (LPf.keep u m.keepL);have z:=(yc.mp g).1
  have j:(natW (idxT 0 (b.take i))).length < zi:=by
   rw[yn];have M:=Yj9 (a:=b.take i) (n:=0);rw[yal] at M;exact Zd9 (by omega)
  have D:upd d T0 (.tup [.int (i:Nat),.ref t]) f=some (.lst (natW (idxT 0 (b.take i)))):=r _ _ h;walk_at "1";refine⟨_,.inl (.inl Za5),rfl,_,_,rfl,_,_,rfl,t,rfl,_,J,rfl,_,_,rfl,_,_,rfl,rfl,rfl,Wk.trans (Ye1 (i:=0) rfl) (Wk.trans (Ye1 (i:=1) rfl) (Ye1 (i:=2) rfl)),y,p.1,rfl,I,p.1.turns,rfl,?_⟩
  by_cases hb:p.1.turns=true
  ·rw[if_pos hb]
   refine⟨_,D,j,hN _ ⟨m.write c,?_⟩⟩;rw[Za5,o g,if_pos hb];show some (HO.lst (_++_))=some (HO.lst (ydk _ (_++_)));rw[zam];rfl
  ·rw[if_neg hb]
   refine hN _ ⟨m,?_⟩;rw[D,o g,if_neg hb,yac]
 ·rw[ybg (by omega)] at h
  exact q f d e c h
theorem sc_ct0:FnScope ["pieces","of_piece","told","number","inner"] ["pieces","of_piece"] (Za3 (top 14)):=scm (by decide +kernel)
theorem Ym2 {α β:Type}{F:α->β->Prop}:∀{l:List α} {m ks:List β},Paired F l (m++ks)->∃l1 l2,l=l1++l2/\Paired F l1 m/\Paired F l2 ks
 |l,[],ks,h=>⟨[],l,rfl,.nil,h⟩
 | _,z::m,ks,h=>by
  cases h with
  |cons hx t =>
   obtain⟨l1,l2,rfl,h1,h2⟩:=Ym2 t;exact⟨_::l1,l2,rfl,.cons hx h1,h2⟩
theorem Zo0 {k:Nat}{tb:TBs}{J:Hp->Prop}(hJ:∀H H',SameV (tb.map (·.1)) H H'->J H->J H'){R:RPn}(hR:∀H H' n p v,KeepL K H H'->R H n p v->R H' n p v){p0:Pf}{ps_of_piece:List Str}{fd_ct0:zc}(F_ct0:Fun K "term_folded" "term_folded" (top 14) f_ct0 fd_ct0)(m_af0:MgI mg "INNER" aINNER)(D_INNER:KDict K w aINNER (innV aT))(hI:Inn K aT)(m_reversed:mg "reversed"=none)(m_range:mg "range"=none)(m_len:mg "len"=none){f_ch0:Addr}{fd_ch0:zc}(G_ch0:Fk0 P w K mg base k f_ch0 fd_ch0 ps_of_piece (sp_ofpN tb J R p0))(k_ch0:KpI K f_ch0)(b_ch0:Binds K fd_ch0 ps_of_piece []):Fk0 P w K mg base (k+1) f_ct0 fd_ct0 pq21 (sp_tfoldNL K tb J R p0 f_ch0):=by
 refine F_ct0.okG sc_ct0 fun z6 A j8 s H vs Q E hr h Gx j6=>?_;obtain⟨lp,a,rfl,j0,t0,hS,hU,hz,q⟩:=h;have q2:∀{H4 H5:Hp} {a:List V} {fs:List (Nat×Pf)},KeepL K H4 H5->Paired (fun u s=>R H4 s.1 s.2 u) a fs->Paired (fun u s=>R H5 s.1 s.2 u) a fs:=fun k z=>Paired.mapP z fun _ _ y=>hR _ _ _ _ _ k y;have lu:=zk hU
 have lz:a.length<=20000:=by rw[lu];unfold preP;rw[Zg0];exact hz
 refine j6 _ ⟨_,(Za2 (Zw6 (i:=2) sc_ct0.nd rfl (Or.inr rfl) (Ze1 Za1))
 (Za2 (Ye5 yas rfl (Wb5 rfl m_reversed rfl m_range (Za0 (Ze2 Zc6 (by exact rfl) m_len Ze7 (Za0 (pvM 0) Za1)) Za1)) (pgn 3 sc_ct0.nd)
  (Za2 (Yh6 (i:=4) sc_ct0.nd rfl (Or.inl rfl) (blkD (N':=["place","told"]) (nt:=1) (ci:=[2]) ["pieces","of_piece","told","number","inner"] (Za3 (top 14))) rfl (Wl2 (Zm7 D_INNER rfl m_af0 (pxtM (pxtM (pxlM (pvM 0) (pvM 3)) Za4) Za4))) (fun _ _ _ _=>(pgn 0 (ndS ["place","told"]))) (fun _ _ _ _=>(Wc3 (K:=K) rfl yl zbb ybf Zw9 (pvM 1))) rfl)
 (Za7 (Zf3 (Zk4 yl yv yx Ze6 (pvM 2) (Za0 (Zt2 (i:=1) G_ch0 hr rfl (Or.inl rfl) k_ch0 b_ch0 .nil Yi2 (Za0 (pvM 3) (Za0 (pvM 4) Za1))) Za1))))))
 (Za7 (Zb2 (pxlM (pvM 2) Za4))))),?_⟩
 refine sqk (fun C=>∀H' l,Same H H'->H l=none->H' l=some (.lst [])->C [some (.ref lp),some (.ref f_ch0),some (.ref l),none,none] H') (fun C hC=>?_) fun H1 l e1 f1 h1=>?_
 ·walk_at "1"
  exact⟨by decide,fun l hl=>hC _ l (Za6 hl _) hl Za5⟩
 refine sqk (fun C=>∀H' B t u,SameV (tb.map (·.1)) H H'->Tabs H' tb->H' l=some (.lst [u])->R H' 0 p0 u->C [some (.ref lp),some (.ref f_ch0),some (.ref l),B,t] H') (fun C hC=>?_) fun b B t u e2 t2 h2 ru=>?_
 ·walk_at "2"
  refine⟨_,.inl (e1.seq hS),a.length,rfl,by omega,?_⟩;refine Xn8 (D:={ nx:=C,rt:=Q }) (lo:=(a.length:Int) - 1) (n:=a.length) (fun i L H'=>∃B t O fs,L=[some (.ref lp),some (.ref f_ch0),some (.ref l),B,t]/\SameV (tb.map (·.1)) H H'/\Tabs H' tb/\H' l=some (.lst O)/\Paired (fun u s=>R H' s.1 s.2 u) O (numP (a.length - i) fs).reverse/\fs.flatMap preP=(preP p0).drop (a.length - i)/\O.length<=i)
   ⟨none,none,[],[],rfl,e1.toV,t0.keep e1,h1,.nil,?_,zg _⟩ (fun i L H' hi X N hN=>?_) (fun L H' X=>?_)
  ·rw[ybk,lu,List.drop_length];rfl
  ·refine hid fun Gz Y=>?_
   obtain⟨B,t,O,fs,rfl,e,tt,I,g,W,hn⟩:=X;refine Y ?_;have kk:KeepL K H H':=SameT.keepL e.toT
   have hj:a.length - 1 - i < a.length:=by omega
   obtain⟨p,q6,q7⟩:=paired_get hU (zb hj);obtain⟨p',rest,g1,g2⟩:=Zk7 p0.1 p0.2 (a.length - 1 - i) (by rw[show (p0.1.pre p0.2).length=a.length from lu.symm];exact hj);rw[show (p0.1.pre p0.2)[a.length - 1 - i]?=some p from q6] at g1;cases g1
   have ej:a.length - i=a.length - 1 - i+1:=by omega
   have eu:a.length - (i+1)=a.length - 1 - i:=by omega
   have dr:(preP p0).drop (a.length - i)=(Zi4 p).flatMap preP++rest:=by
    have:=congrArg List.tail g2;rw[List.tail_drop,<- ej,Zr3 p,List.cons_append,List.tail_cons] at this;exact this
   rw[dr] at W;obtain⟨Z,rfl,U⟩:=Xa1 W;rw[Yy4,zcm,ej] at g;obtain⟨f,G,rfl,j4,q3⟩:=Ym2 g;have lr:=zk q3;rw[zag,Yy3] at lr;rw[yd] at hn;obtain⟨pa,x0,q9,j1,q8⟩:=lPf.mp (q7.keep kk);obtain⟨pt,xs,rfl,hs,hd⟩:=leK_view.mp q8;obtain⟨ai,la,ri⟩:=Yp0 hI p.1;obtain⟨ys,q0,q1,z5⟩:=ri.sq H'
   have lk:ys.length=(Zi4 p).length:=by rw[q1,p.1.inn_len,Zz1]
   have j9:ys.length<=3:=by rw[q1];cases p.1<;>simp[Te.inn,Te.plc,Te.kids]
   have en:((a.length:Int) - 1 - (i:Nat))=((a.length - 1 - i:Nat):Int):=by omega
   unfold Zu3;rw[en];refine sqk (fun C=>∀b c,SameV (tb.map (·.1)) H b->Tabs b tb->KeepL K H' b->c≠l->H c=none->b l=some (.lst f)->b c=some (.lst G.reverse)->C [some (.ref lp),some (.ref f_ch0),some (.ref l),some (.int ((a.length - 1 - i:Nat):Int)),some (.ref c)] b) (fun C' j7=>?_) fun b c e2 t2 k2 S fa q4 j5=>?_
   ·unfold tLC
    walk_at "1";refine⟨_,SameT.seq e.toT hS,_,Zc0 (zb hj),pa,q9,_,j1,_,rfl,pt,rfl,_,hs,_,Zc0 (LI.tag hd),_,rfl,_,la,ai,rfl,⟨ys,q0⟩,fun c d=>?_⟩;have fa:H c=none:=e.free d
    have S:c≠l:=fun z=>by rw[z,I] at d;cases d
    refine Wd7 (xs:=ys) (fun j m b=>m=G.reverse.take j/\KeepL K H' b/\SameV (tb.map (·.1)) H b/\Tabs b tb/\b l=some (.lst (f++(G.reverse.drop j).reverse))/\b c=some (.lst m))
     ⟨rfl,Ze3 d,e.write fa,tt.keep (Za6 d _),?_,Za5⟩ (fun j m b hj2 ⟨z0,z1,z2,zt,z3,z4⟩=>⟨z4,?_,z1 _ _ q0⟩) (fun j x m b hx ⟨z0,z1,z2,zt,z3,z4⟩ C2 hC2=>?_) (fun m b ⟨z0,z1,z2,zt,z3,z4⟩=>?_)
    ·rw[Za9 S.symm,ydn,ybm];exact I
    ·rw[z0,yal];exact Zd9 (by omega)
    ·have q5:j < G.reverse.length:=by
      rw[zag,lr,<- lk];exact (yc.mp hx).1
     rw[ych q5,zr,<- yam] at z3;walk_at "1";refine⟨Yg1,.inl ⟨rfl,_,SqL.of z3⟩,_,z3,G.reverse[j],by simp,?_⟩;rw[zar]
     have M:∀o,upd b l o c=some (.lst m):=fun o=>by rw[Za9 S];exact z4
     refine hC2 _ _ (M _) ⟨by rw[z0,<- List.take_append_getElem q5],?_,(z2.write f1).write fa,(zt.put z3).put (M _),?_,Za5⟩
     ·exact (z1.trans (Zg5 z3)).trans (Zg5 (xs:=m) (M _))
     ·rw[Za9 S.symm,Za5]
    ·rw[zcu (by rw[zag,lr,<- lk];exact zg _),List.reverse_nil,yac] at z3
     rw[ybg (by rw[zag,lr,<- lk];exact zg _)] at z0;exact j7 _ c z2 zt z1 S fa z3 (z0▸z4)
   walk_at "1"
   have j3:Paired (fun u k=>R b k.1 k.2 u) G.reverse (numP (a.length - 1 - i+1) (Zi4 p)):=by
    have:=q2 k2 (Zj6 q3)
    rwa [ybm] at this
   refine⟨.inl ⟨rfl,_,SqL.of q4⟩,_,p,c,G.reverse,rfl,hJ _ _ e2 j0,t2,q6,j5,j3,fun r H3 e3 t3 j2=>?_⟩;have T:H3 l=some (.lst f):=e3.toT _ _ (fun _ z=>nomatch z) q4;have k3:KeepL K b H3:=SameT.keepL e3.toT;have kl:=Zg5 (K:=K) (o:=.lst (f++[r])) T;refine⟨f,T,Zd9 (by omega),hN _ _ ⟨_,_,f++[r],p::Z,rfl,(e2.trans e3).write f1,t3.put T,Za5,?_,?_,?_⟩⟩
   ·rw[eu]
    show Paired _ _ ((a.length - 1 - i,p)::numP (a.length - 1 - i+p.1.size) Z).reverse;rw[zr,Xh4,<- Nat.add_assoc];exact Zg2 (q2 (k2.trans (k3.trans kl)) j4) (.cons (hR _ _ _ _ _ kl j2) .nil)
   ·rw[zaq,U,eu];exact g2.symm
   ·rw[yd,zab];omega
  ·refine hid fun Gz Y=>?_
   obtain⟨B,t,O,fs,rfl,e,tt,I,g,W,hn⟩:=X;refine Y ?_;rw[zbk,ydn,<- yac (preP p0)] at W;obtain⟨Z,rfl,U⟩:=Xn6 W;rw[Yv2 U,zbk] at g
   cases g with
   |cons hu' hnil =>
    cases hnil;exact hC _ B t _ e tt I hu'
 walk_at "1";exact⟨_,SqL.of h2,u,rfl,q _ _ e2 t2 ru⟩
theorem Xw7 {k:Nat}{J:Hp->Prop}(hJ:∀H H',Same H H'->J H->J H'){R:RP}(hR:∀H H' p v,KeepL K H H'->R H p v->R H' p v){p0:Pf}{ps_of_piece:List Str}{fd_ct0:zc}(F_ct0:Fun K "term_folded" "term_folded" (top 14) f_ct0 fd_ct0)(m_af0:MgI mg "INNER" aINNER)(D_INNER:KDict K w aINNER (innV aT))(hI:Inn K aT)(m_reversed:mg "reversed"=none)(m_range:mg "range"=none)(m_len:mg "len"=none){f_ch0:Addr}{fd_ch0:zc}(G_ch0:Fk0 P w K mg base k f_ch0 fd_ch0 ps_of_piece (sp_ofp J R p0))(k_ch0:KpI K f_ch0)(b_ch0:Binds K fd_ch0 ps_of_piece []):Fk0 P w K mg base (k+1) f_ct0 fd_ct0 pq21 (sp_tfoldL K J R p0 f_ch0):=by
 refine (Zo0 (tb:=[]) (J:=J) (R:=fun H _ p v=>R H p v) (p0:=p0) (fun H H' e=>hJ H H' e.nil) (fun H H' _ p v=>hR H H' p v) F_ct0 m_af0 D_INNER hI m_reversed m_range m_len (G_ch0.sub ?_) k_ch0 b_ch0).sub ?_
 ·rintro m H Q E ⟨n,p,l,a,j,i,_,f,d,c,q⟩
  refine⟨n,p,l,a,j,i,f,d,?_,fun r H' e b=>q r H' e.toV (fun _ h=>nomatch h) b⟩;have:=Ye7 (F:=fun u p=>R H p u) (g:=fun (k:Nat×Pf)=>k.2) c
  rwa [Yi8] at this
 ·rintro m H Q E ⟨l,a,j,i,f,d,c,q⟩
  exact⟨l,a,j,i,(fun _ h=>nomatch h),f,d,c,fun r H' e _ b=>q r H' e.nil b⟩
theorem sc_cs0:FnScope ["term","of_piece"] ["term"] (Za3 (top 39)):=scm (by decide +kernel)
noncomputable abbrev Zb9:Stmt:=Yu3 (top 39) 0
theorem Zn6:FnScopeC ["number","inner"] ["number","inner"] [] (Za3 Zb9):=⟨rfl,rfl,rfl,by decide +kernel,rfl,by decide +kernel,by decide +kernel,by decide +kernel⟩
noncomputable abbrev Zf9:Str:=("term_deep":Str)++ze ".<locals>."++"of_piece"
theorem Zo9:∀y∈(Za3 Zb9).names,y.2=yad->(Za3 (top 39)).names.lookup y.1=some zat:=by decide +kernel
noncomputable def Zf0:List (Pos×Str):=[(posOf Zb9,Zf9)]
theorem Xm5 {H:Hp}:∀{us:List V} {ps:List Pf},Paired (fun u (p:Pf)=>u=V.int (p.1.deep:Nat)) us ps->us=(ps.map fun p=>((p.1.deep:Nat):Int)).map V.int
 | _,_,.nil=>rfl
 | _,_,.cons a t=>by rw[a,Xm5 (H:=H) t];rfl
theorem Zo1 {k:Nat}{fd:zc}(F:FunC K "of_piece" Zf9 Zb9 cl f fd){p0:Pf}(C:Caught K (Za3 Zb9) cl [] [])(m_max:mg "max"=none):Fk0 P w K mg base (k+1) f fd ["number","inner"] (sp_ofp (fun _=>True) (fun _ p v=>v=V.int (p.1.deep:Nat)) p0):=by
 refine F.ok Zn6 C (fun c H Q E h=>?_) (fun i A b s H c Q E j h=>?_)
 ·obtain⟨n,p,l,a,rfl,_⟩:=h
  rfl
 obtain⟨n,p,l,a,rfl,_,m,d,e,q⟩:=h;have g:=Xm5 (H:=H) e;refine⟨_,(Za7 (Zb2 (Zb6 Ze4 Za4 (Wc0 (K:=K) rfl rfl (by exact rfl) m_max (pvM 1) Za4)))),?_⟩;walk_at "1";refine⟨_,SqL.of (g▸d),?_⟩;have:=Xu9 p;rw[this];exact q _ _ (Same.refl _) rfl
theorem Wn6 {j:Nat}{f_cs0:Addr}{fd_cs0:zc}(F_cs0:FunT K "term_deep" "term_deep" (top 39) f_cs0 fd_cs0 T)(hB:∀h,K.In h->h.BuiltinsAt mg T)(hT:ye≠T)(C_standing:Cl P w K mg base (j+2) "standing" pq32 (sp_standingL K)){fd_ct0:zc}(m_ct0:MgI mg "term_folded" f_ct0)(k_ct0:KpI K f_ct0)(b_ct0:Binds K fd_ct0 pq21 []) (GF:∀(K':W.Frag) (base:Heap) (J:Hp->Prop) (R:RP) (p0:Pf) (f1:Addr) (fd1:zc),KLe K K'->(∀H H',Same H H'->J H->J H')->(∀H H' p v,KeepL K' H H'->R H p v->R H' p v) ->
   FnOk P w K' mg base CX0 (j+1) f1 fd1 ["number","inner"] (sp_ofp J R p0)->zan K' (.ref f1)=true->Binds K' fd1 ["number","inner"] []->FnOk P w K' mg base CX0 (j+2) f_ct0 fd_ct0 pq21 (sp_tfoldL K' J R p0 f1)) (m_max:mg "max"=none):
  Fk0 P w K mg base (j+3) f_cs0 fd_cs0 pq32 (sp_tdeepL K T Zf0):=by
 refine F_cs0.ok sc_cs0 (fun vs H Q E h=>?_) (fun c A m s H vs Q E hC hr h=>?_)
 ·obtain⟨v,t,rfl,_⟩:=h
  rfl
 obtain⟨v,t,rfl,q7,hz,Z,q⟩:=h;have q5:∀i∈([]:List Nat),∃x,(["term","of_piece"]:List Str)[i]?=some x/\(Za3 (top 39)).names.lookup x=some .cell/\(fun _:Str=>true) x=true:=fun i M=>nomatch M
 refine⟨_,(Za2 (Zr2 (st:=Zb9) (i:=1) (qual:=Zf9) (ds:=Zf0) rfl sc_cs0.nd rfl (Or.inl rfl) (Zf7 (fun y hy hf=>Zj5 (Zo9 y hy hf))) rfl hC hB hT rfl (by simp[Zf0]) (by decide +kernel) rfl rfl rfl)
 (Za7 (Zb2 (Zp6 (ix:=[]) hr (by exact rfl) m_ct0 k_ct0 b_ct0 q5 (Za0 (Zb8 C_standing hr (Za0 (pvM 0) Za1)) (Za0 (pvM 1) Za1)))))),?_⟩
 generalize l:(cxOf CX0 P w K mg base ["term","of_piece"] "term_deep" (Za3 (top 39)) f_cs0 (.ref c) A m s H E).nox=X
 have eP:X.prog=P:=by rw[<- l];rfl
 have ew:X.w=w:=by rw[<- l];rfl
 have eK:X.K=K:=by rw[<- l];rfl
 have em:X.mg=mg:=by rw[<- l];rfl
 have ec:(zbg "term_deep" (Za3 (top 39)) s.heap.objs.size f_cs0 (.ref c)).cells=X.env.cells:=by rw[<- l];rfl
 refine sqk (fun C=>∀H' f1,SameU T H H'->TabOk H' T Zf0->FnFz H' f1 "of_piece" Zf9 (Zd4 Zb9) (Zc8 Zb9) (Za3 Zb9) (Zi1 X.env.cells (Za3 Zb9).names [])->C [some v,some (.ref f1)] H') (fun C q8=>?_) fun H2 f1 s2 Y q9=>?_
 ·exact⟨Z,fun f H' n sm tb fn=>q8 _ f sm tb (ec▸fn)⟩
 obtain⟨I,N,G,O,a2,a3,a4⟩:=q9.objs2;show Zl7 X _ _ _ _ [] _ _ _ _;unfold Zl7;walk_at "1";refine⟨v,t,rfl,LEK.keep q7 (SameT.keepL s2.toT),hz,fun L S us o _ F q1=>⟨fun i M=>(nomatch M),[(f1,I),(N,G)],fun p a=>o _ _ (O p a),fun K' cs ok b d D q6=>?_⟩⟩;rw[eK] at b d;obtain⟨fd1,U⟩:=a4 K' fun p a=>D p (zy _ a)
 have j0:cs=[]:=by cases q6;rfl
 subst j0
 have C1:Caught K' (Za3 Zb9) (Zi1 X.env.cells (Za3 Zb9).names []) [] [] :=
  Zk3 ok rfl (by decide +kernel) (by decide +kernel) fun i y u e1 e2=>by cases i<;>cases e1
 have g:∀p∈[(f1,I),(N,G)],S p.1=some (FZ p.2):=fun p a=>o _ _ (O p a);generalize [(f1,I),(N,G)]=xs at O g a2 a3 D d ⊢;have j1:=Ya4 g b
 have q0:L ∉ xs.map (·.1):=fun z=>by
  obtain⟨p,a,e⟩:=zax.mp z;have:=g p a;rw[e,F] at this;cases this
 refine⟨sp_tfoldL K' (fun _=>True) (fun _ p v=>v=V.int (p.1.deep:Nat)) (t,0) f1,fun B=>?_,?_⟩
 ·rw[eP,ew,em]
  exact GF K' B _ _ (t,0) f1 fd1 b (fun _ _ _ _=>trivial) (fun H H' p v k h=>h) (Zo1 U C1 m_max) U.kp (U.binds fun _ _ _ _ us hl=>Ken.len2 hl fun _ _=>rfl)
 ·have q4:SqL K' (remX xs S) L us:=.inl (.inl (by rw[Zd2 q0];exact F))
  have q2:Paired (LPf K' (remX xs S)) us (preP (t,0)):=Paired.mapP q1 fun _ p z=>Xk9 g b z;refine⟨L,us,rfl,trivial,q4,q2,hz,fun r H4 e4 q3 n4=>?_⟩;have sb:=Ym8 e4;rw[q3];exact q _ ((s2.toV.trans o.toV).trans sb.toV) ((Y.keep o).keep sb)
theorem sc_da0:FnScope ["piece","inner","told","place","more","term"] ["piece","inner"] (Za3 (top 15)):=scm (by decide +kernel)
theorem Ya5 {α:Type}:∀{ps:List Nat} {ys:List α} {xs:List α} {p:Nat} {y:α},ps.length=ys.length->Zq1 xs (ps++[p]) (ys++[y])=(Zq1 xs ps ys).set p y
 | [],[],xs,p,y,_=>rfl
 |q::ps,z::ys,xs,p,y,h=>Ya5 (xs:=xs.set q z) (by simpa using h)
 | [],_::_,_,_,_,h=>by cases h
 | _::_,[],_,_,_,h=>by cases h
theorem Ye4 {α:Type}:∀{ps:List Nat} {ys:List α} {xs:List α},(Zq1 xs ps ys).length=xs.length
 | [],ys,xs=>by cases ys<;>rfl
 |q::ps,[],xs=>rfl
 |q::ps,z::ys,xs=>by rw[Zq1,Ye4,List.length_set]
theorem Zs3 {α:Type}{l:List α}{x:α}(h:l[i]?=some x):l.take (i+1)=l.take i++[x]:=by
 obtain⟨a,rfl⟩:=yc.mp h;exact (List.take_append_getElem a).symm
theorem Xw6 {k:Nat}{fd_da0:zc}(F_da0:Fun K "with_inner" "with_inner" (top 15) f_da0 fd_da0)(m_af0:MgI mg "INNER" aINNER)(D_INNER:KDict K w aINNER (innV aT))(hI:Inn K aT)(m_list:mg "list"=none)(m_zip:mg "zip"=none)(m_tuple:mg "tuple"=none):Fk0 P w K mg base (k+1) f_da0 fd_da0 pq20 (sp_withL K):=by
 refine F_da0.okG sc_da0 fun q5 A q2 s H vs Q E hr h Gx q1=>?_;obtain⟨v,t,L,j,ks,rfl,hT,hL,hU,m,q⟩:=h;obtain⟨G,xs,rfl,Y,M⟩:=leK_view.mp hT;have J:=zk hU;have lx:=LI.len M
 refine q1 _ ⟨_,(Za2 (pst 2 sc_da0.nd (Zn9 Yq1 (by exact rfl) m_list Xp4 (Za0 (pvM 0) Za1)))
 (Za2 (Ye5 yas rfl (Wb3 rfl m_zip (Za0 (Zm7 D_INNER rfl m_af0 (pxtM (pvM 0) Za4)) (Za0 (pvM 1) Za1))) (Zi2 rfl (Zc2 (Zi2 rfl (Zc2 (pgn 3 sc_da0.nd) (Zc2 (pgn 4 sc_da0.nd) Zg1))) (Zc2 (pgn 5 sc_da0.nd) Zg1)))
  (Za7 (Zj9 (pvM 5) (Wl4 (pvM 2) (pvM 3) Xr3))))
 (Za7 (Zb2 (Zn9 Yk7 (by exact rfl) m_tuple Xe0 (Za0 (pvM 2) Za1)))))),?_⟩
 refine sqk (fun C=>∀a l,Same H a->H l=none->a l=some (.lst xs)->C [some (.ref G),some (.ref L),some (.ref l),none,none,none] a) (fun C O=>?_) fun H1 l R f1 h1=>?_
 ·walk_at "1"
  exact⟨_,.inr Y,fun l hl=>O _ l (Za6 hl _) hl Za5⟩
 obtain⟨ai,U,ri⟩:=Yp0 hI t;refine sqt (fun c a=>∃g f d,c=[some (.ref G),some (.ref L),some (.ref l),g,f,d]/\Same H a/\a l=some (.lst (Zq1 xs t.plc j))) ?_ ?_
 ·intro C O
  obtain⟨ys,n,x,X⟩:=ri.sq H1
  have I:ys.length=j.length:=by rw[x,t.inn_len,J,m]
  walk_at "2";refine⟨_,R.sqt Y,_,Zc0 (LI.tag M),_,rfl,_,U,ai,rfl,⟨ys,n⟩,⟨j,R.seq hL⟩,?_⟩;refine Xn7 (D:={ nx:=C,rt:=Q }) (xs:=ys) (ys:=j) (fun i c a=>∃g f d,c=[some (.ref G),some (.ref L),some (.ref l),g,f,d]/\Same H a/\KeepL K H1 a/\a l=some (.lst (Zq1 xs (t.plc.take i) (j.take i)))) I
   ⟨none,none,none,rfl,R,KeepL.refl _,h1⟩ (fun i c a hi zZ=>by obtain⟨g,f,d,_,e,kk,_⟩:=zZ;exact ⟨kk _ _ n,e.seq hL⟩) (fun i y u c a T hi hy hu hT' ⟨g,f,d,e0,e,kk,h⟩ N hN=>?_) (fun c a ⟨g,f,d,e0,e,kk,h⟩=>?_)
  ·subst e0
   obtain⟨⟨S,mo⟩,B⟩:∃r,t.inn[i]?=some r:=⟨_,zb (by rw[<- x];exact hi)⟩;obtain⟨b,eb,sb⟩:=X _ _ _ B;rw[hy] at eb;cases eb;obtain⟨kd,q4,q0,Z,p1,p3⟩:=Te.inn_at B;have ip:S < t.items.length:=(yc.mp q0).1;walk_at "1"
   have F:upd a T (.tup [.ref b,u]) l=some (.lst (Zq1 xs (t.plc.take i) (j.take i))):=by rw[Za9 (Zb0 h hT')];exact h
   have V:=Ze3 (K:=K) (o:=.tup [.ref b,u]) hT';refine⟨_,.inl (.inl Za5),rfl,_,_,rfl,b,rfl,_,V _ _ (kk _ _ sb),rfl,_,_,rfl,_,_,rfl,rfl,_,_,rfl,rfl,_,_,rfl,F,S,We1 (by rw[Ye4,lx];exact ip),hN _ _ ⟨_,_,_,rfl,(e.trans (Za6 hT' _)).write f1,(kk.trans V).trans (Zg5 F),?_⟩⟩;rw[Za5,Zs3 Z,Zs3 hu,Ya5 (by rw[yal,yal,t.plc_len,J,m])]
  ·rw[ybg (by rw[t.plc_len,I,J,m];exact zg _),ybg (by rw[I];exact zg _)] at h
   exact O _ _ ⟨g,f,d,e0,e,h⟩
 rintro q3 H2 ⟨g,f,d,rfl,e2,h2⟩;walk_at "1";refine⟨_,.inl ⟨SqL.of h2,fun p hp=>q _ _ (e2.trans (Za6 hp _)) ?_⟩⟩;have W:KeepL K H (upd H2 p (.tup (Zq1 xs t.plc j))):=e2.keepL.trans (Ze3 hp);refine leK_view.mpr ⟨p,_,rfl,.inl (.inl Za5),?_⟩;exact LI.set (LI.keep W M) (Paired.mapP hU fun _ _ z=>LEK.keep z W) m
theorem sc_br0:FnScope ["term","of_at","pieces","of_piece"] ["term","of_at"] (Za3 (top 16)):=scm (by decide +kernel)
noncomputable abbrev Zc4:Stmt:=Yu3 (top 16) 1
theorem sc_changed_of_piece:FnScopeC ["number","inner","pieces","of_at","piece","front"] ["number","inner"] ["pieces","of_at"] (Za3 Zc4):=⟨rfl,rfl,rfl,by decide +kernel,rfl,by decide +kernel,by decide +kernel,by decide +kernel⟩
noncomputable abbrev Zg8:Str:=("changed":Str)++ze ".<locals>."++"of_piece"
theorem Zr9:∀y∈(Za3 Zc4).names,y.2=yad->(Za3 (top 16)).names.lookup y.1=some zat:=by decide +kernel
noncomputable def Zc1:List (Pos×Str):=[(posOf Zc4,Zg8)]
def JPc (K:W.Frag)(J:JP)(lp:Addr)(us:List V)(p0:Pf)(H:Hp):Prop:=J K H/\SqL K H lp us/\Paired (LPf K H) us (preP p0)
theorem Xt7 {J:JP}(hJ:JOk J){us:List V}{p0:Pf}(H H':Hp)(e:Same H H')(h:JPc K J lp us p0 H):JPc K J lp us p0 H' :=
 ⟨hJ.keep _ _ _ e.toT h.1,e.seq h.2.1,Paired.mapP h.2.2 fun _ _ z=>LPf.keep z e.keepL⟩
theorem Zr6 {k:Nat}{fd:zc}(F:FunC K "of_piece" Zg8 Zc4 cl f fd){J:JP}{FF:Nat->Nat->Te}{AA:Nat->Nat->Prop}{us:List V}{p0:Pf}{fd_ca0:zc}(C:Caught K (Za3 Zc4) cl ["pieces","of_at"] [.ref lp,.ref f_ca0])(hA:∀k f,(Te.at k,f)∈preP p0->AA k f)(G_ca0:Fk0 P w K mg base k f_ca0 fd_ca0 ["k","front"] (sp_ofatL K (J K) FF AA))(k_ca0:KpI K f_ca0)(b_ca0:Binds K fd_ca0 ["k","front"] [])(C_with_inner:Cl P w K mg base k "with_inner" pq20 (sp_withL K)):
  Fk0 P w K mg base (k+1) f fd ["number","inner"] (sp_ofp (JPc K J lp us p0) (fun H p v=>LEK K H v (mpP FF p)) p0):=by
 refine F.ok sc_changed_of_piece C (fun S H Q E h=>?_) (fun q0 A O s H S Q E I h=>?_)
 ·obtain⟨n,p,l,g,rfl,_⟩:=h
  rfl
 obtain⟨n,p,l,g,rfl,hj,t,hl,hU,q⟩:=h;obtain⟨Z,Y,x⟩:=hj;have X:=zk x;obtain⟨u,B⟩:∃u,us[n]?=some u:=⟨_,zb (by rw[X];exact (yc.mp t).1)⟩;obtain⟨p',o,y⟩:=paired_get x B;rw[t] at o;cases o;obtain⟨a,d⟩:=p;obtain⟨U,x0,rfl,D,m⟩:=lPf.mp y;obtain⟨T,R,rfl,G,L⟩:=leK_view.mp m
 refine⟨_,(Za2 (Zj9 (pxlM (pvM 2) (pvM 0)) (Zi2 rfl (Zc2 (pgn 4 sc_changed_of_piece.nd) (Zc2 (pgn 5 sc_changed_of_piece.nd) Zg1))))
 (Za2 (Zd1 (ptcM (Ze0) (pxtM (pvM 4) Za4) Zb1)
  (Za7 (Zb2 (Zt2 (i:=3) G_ca0 I rfl (Or.inr (Or.inr rfl)) k_ca0 b_ca0 .nil Yi2 (Za0 (pxtM (pvM 4) Za4) (Za0 (pvM 5) Za1)))))
  Zb4)
 (Za7 (Zb2 (Zb8 C_with_inner I (Za0 (pvM 4) (Za0 (pvM 1) Za1))))))),?_⟩
 refine sqk (fun C=>C [some (.int (n:Nat)),some (.ref l),some (.ref lp),some (.ref f_ca0),some (.ref T),some (.int (d:Nat))] H) (fun C' M=>?_) ?_
 ·walk_at "1"
  exact⟨_,Y,_,Zc0 B,U,rfl,_,D,rfl,_,_,rfl,_,_,rfl,rfl,M⟩
 walk_at "1";refine⟨_,G,_,Zc0 (LI.tag L),rfl,?_⟩
 by_cases ca:∃b,a=.at b
 ·obtain⟨b,rfl⟩:=ca
  rw[if_pos (by rfl)];cases (show R=[.str "at",.int (b:Nat)] from L);refine⟨_,G,_,Zc0 (j:=1) rfl,b,d,rfl,Z,hA _ _ (yo t),fun r N e c=>q _ _ e c⟩
 ·have W:¬(a.tag="at"):=fun z=>ca (Xg7 z)
  rw[if_neg (by simpa using W)];refine⟨_,a,l,g,(Zi4 (a,d)).map (mpP FF),rfl,m,SqL.of hl,Zr4 (f:=mpP FF) (fun _ _ z=>z) hU,by rw[yn,Zz1],fun r N e c=>q _ _ e ?_⟩;show LEK K N r (mpP FF (a,d));rw[Wd4 FF (a,d) fun b z=>ca ⟨b,z⟩];exact c
theorem Wp8 {j:Nat}{fd_br0:zc}(F_br0:FunT K "changed" "changed" (top 16) f_br0 fd_br0 T)(hB:∀h,K.In h->h.BuiltinsAt mg T)(hT:ye≠T){J:JP}(hJ:JOk J){FF:Nat->Nat->Te}{AA:Nat->Nat->Prop}(C_standing:Cl P w K mg base (j+2) "standing" pq32 (sp_standingL K)){fd_da0:zc}(G_da0:∀K' base,KLe K K'->FnOk P w K' mg base CX0 j f_da0 fd_da0 pq20 (sp_withL K'))(m_da0:MgI mg "with_inner" f_da0)(k_da0:∀K',KLe K K'->zan K' (.ref f_da0)=true)(b_da0:Binds K fd_da0 pq20 []){fd_ct0:zc}(m_ct0:MgI mg "term_folded" f_ct0)(k_ct0:KpI K f_ct0)(b_ct0:Binds K fd_ct0 pq21 []) (GF:∀(K':W.Frag) (base:Heap) (J:Hp->Prop) (R:RP) (p0:Pf) (f1:Addr) (fd1:zc),KLe K K'->(∀H H',Same H H'->J H->J H')->(∀H H' p v,KeepL K' H H'->R H p v->R H' p v) ->
   FnOk P w K' mg base CX0 (j+1) f1 fd1 ["number","inner"] (sp_ofp J R p0)->zan K' (.ref f1)=true->Binds K' fd1 ["number","inner"] []->FnOk P w K' mg base CX0 (j+2) f_ct0 fd_ct0 pq21 (sp_tfoldL K' J R p0 f1)) {fd_ca0:zc} (G_ca0:∀K' base,KLe K K'->FnOk P w K' mg base CX0 j f_ca0 fd_ca0 ["k","front"] (sp_ofatL K' (J K') FF AA)) (k_ca0:∀K',KLe K K'->zan K' (.ref f_ca0)=true) (b_ca0:Binds K fd_ca0 ["k","front"] []):
  Fk0 P w K mg base (j+3) f_br0 fd_br0 pq30 (sp_changedL K T Zc1 J FF AA f_ca0):=by
 refine F_br0.ok sc_br0 (fun vs H Q E h=>?_) (fun c A M s H vs Q E hC hr h=>?_)
 ·obtain⟨v,t,rfl,_⟩:=h
  rfl
 obtain⟨v,t,rfl,q8,hz,j0,hA,q1,q⟩:=h
 have q6:∀i∈([1,2]:List Nat),∃x,(["term","of_at","pieces","of_piece"]:List Str)[i]?=some x/\(Za3 (top 16)).names.lookup x=some .cell/\(fun _:Str=>true) x=true:=by
  intro i G;simp only[zd,zq,or_false] at G;rcases G with rfl | rfl
  ·exact⟨"of_at",rfl,rfl,rfl⟩
  ·exact⟨"pieces",rfl,rfl,rfl⟩
 refine⟨_,(Za2 (Zw6 (i:=2) sc_br0.nd rfl (Or.inr rfl) (Zb8 C_standing hr (Za0 (pvM 0) Za1)))
 (Za2 (Zr2 (st:=Zc4) (i:=3) (qual:=Zg8) (ds:=Zc1) rfl sc_br0.nd rfl (Or.inl rfl) (Zf7 (fun y hy hf=>Zj5 (Zr9 y hy hf))) rfl hC hB hT rfl (by simp[Zc1]) (by decide +kernel) rfl rfl rfl)
 (Za7 (Zb2 (Zp6 (ix:=[1,2]) hr (by exact rfl) m_ct0 k_ct0 b_ct0 q6 (Za0 (pvM 2) (Za0 (pvM 3) Za1))))))),?_⟩
 generalize D:(cxOf CX0 P w K mg base ["term","of_at","pieces","of_piece"] "changed" (Za3 (top 16)) f_br0 (.ref c) A M s H E).nox=X
 have eP:X.prog=P:=by rw[<- D];rfl
 have ew:X.w=w:=by rw[<- D];rfl
 have eK:X.K=K:=by rw[<- D];rfl
 have em:X.mg=mg:=by rw[<- D];rfl
 have eN:X.N=(["term","of_at","pieces","of_piece"]:List Str):=by rw[<- D];rfl
 have ec:(zbg "changed" (Za3 (top 16)) s.heap.objs.size f_br0 (.ref c)).cells=X.env.cells:=by rw[<- D];rfl
 refine sqk (fun C=>∀H' d us,Same H H'->H' d=some (.lst us)->Paired (LPf K H') us (t.pre 0)->C [some v,some (.ref f_ca0),some (.ref d),none] H') (fun C L=>?_) fun H1 d us g q5 q3=>?_
 ·walk_at "1"
  exact⟨v,t,rfl,q8,hz,fun r H' us e _ h hu=>L _ r us e h hu⟩
 refine sqk (fun C=>∀H' f1,SameU T H1 H'->TabOk H' T Zc1->FnFz H' f1 "of_piece" Zg8 (Zd4 Zc4) (Zc8 Zc4) (Za3 Zc4) (Zi1 X.env.cells (Za3 Zc4).names [])->C [some v,some (.ref f_ca0),some (.ref d),some (.ref f1)] H') (fun C L=>?_) fun H2 f1 Y q0 q9=>?_
 ·exact⟨q1.keep g,fun f H' n sm tb fn=>L _ f sm tb (ec▸fn)⟩
 obtain⟨o1,c1,p1,F,a2,a3,a4⟩:=q9.objs2;have sA:SameV [T] H H2:=g.toV.trans Y.toV;show Zl7 X _ _ _ _ [1,2] _ _ _ _;unfold Zl7;walk_at "1";refine⟨fun i G=>?_,[(f1,o1),(c1,p1)],F,fun K' cs ok a l B q7=>?_⟩
 ·simp only[zd,zq,or_false] at G
  rcases G with rfl | rfl
  ·exact⟨_,rfl⟩
  ·exact⟨_,rfl⟩
 rw[eK] at a l;obtain⟨fd1,G1⟩:=a4 K' fun p b=>B p (zy _ b)
 have cw:Zu9 X K' "of_at" (.ref f_ca0)/\Zu9 X K' "pieces" (.ref d)/\∀p∈cs,∀O n,p.2.data≠.seq O n:=by
  cases q7 with
  |cons h1 r1 =>
   cases r1 with
   |cons h2 r2 =>
    cases r2;refine hid fun Gz I=>?_;obtain⟨x1,v1,u1,g,o,Z,e4,e5⟩:=h1;refine I ?_;refine hid fun Gz I=>?_;obtain⟨x2,v2,u2,g1,g2,g3,g4,g5⟩:=h2;refine I ?_;rw[eN] at g g1;cases g;cases o;cases g1;cases g2;refine⟨⟨_,_,u1,Z,B _ (zm _ (by simp)),e4,e5⟩,⟨_,_,u2,g3,B _ (zm _ (by simp)),g4,g5⟩,fun p b O n z=>?_⟩;simp only[zd,zq,or_false] at b;rcases b with rfl | rfl
    ·rw[e4] at z;cases z
    ·rw[g4] at z;cases z
 have C1:Caught K' (Za3 Zc4) (Zi1 X.env.cells (Za3 Zc4).names []) ["pieces","of_at"] [.ref d,.ref f_ca0] :=
  Zk3 ok rfl (by decide +kernel) (by decide +kernel) fun i y u g o=>by
   match i,g,o with
   | 0,g,o=>cases g;cases o;exact cw.2.1
   | 1,g,o=>cases g;cases o;exact cw.1
 generalize [(f1,o1),(c1,p1)]=xs at F a2 a3 B l ⊢;have j1:=Ya4 F a;have V:H2 d=some (.lst us):=Y.toT _ _ (fun _ z=>nomatch z) q5
 have q2:d ∉ xs.map (·.1):=fun z=>by
  obtain⟨p,b,e⟩:=zax.mp z;have:=F p b;rw[e,V] at this;cases this
 refine⟨sp_tfoldL K' (JPc K' J d us (t,0)) (fun H p v=>LEK K' H v (mpP FF p)) (t,0) f1,fun m=>?_,?_⟩
 ·rw[eP,ew,em]
  exact GF K' m _ _ (t,0) f1 fd1 a (Xt7 hJ) (fun H H' p v k h=>LEK.keep h k)
   (Zr6 G1 C1 hA (G_ca0 K' m a) (k_ca0 K' a) (b_ca0.le a) (.of (G_da0 K' m a) m_da0 (k_da0 K' a) (b_da0.le a))) G1.kp (G1.binds fun _ _ _ _ us hl=>Ken.len2 hl fun _ _=>rfl)
 ·have U:SqL K' (remX xs H2) d us:=.inl (.inl (by rw[Zd2 q2];exact V))
  have S:Paired (LPf K' (remX xs H2)) us (preP (t,0)):=Paired.mapP q3 fun _ p z=>Xk9 F a (LPf.keep z (SameT.keepL Y.toT));refine⟨d,us,rfl,⟨hJ.inn _ _ _ _ F a (hJ.keep _ _ _ sA.toT j0),U,S⟩,U,S,hz,fun r H3 Z q4 n3=>?_⟩;have sb:=Ym8 Z;refine q _ _ (sA.trans sb.toV) (q0.keep sb) (Yj4 l (fun p b=>?_) n3 q4);rcases yg.mp b with b | b
  ·exact a2 p b
  ·exact cw.2.2 p b
theorem sc_bw0:FnScope ["term","by","of_at"] ["term","by"] (Za3 (top 41)):=scm (by decide +kernel)
noncomputable abbrev Zd6:Stmt:=Yu3 (top 41) 0
theorem Ya6:FnScopeC ["k","front","by"] ["k","front"] ["by"] (Za3 Zd6):=⟨rfl,rfl,rfl,by decide +kernel,rfl,by decide +kernel,by decide +kernel,by decide +kernel⟩
noncomputable abbrev Zi6:Str:=("lifted":Str)++ze ".<locals>."++"of_at"
theorem Yc8:∀y∈(Za3 Zd6).names,y.2=yad->(Za3 (top 41)).names.lookup y.1=some zat:=by decide +kernel
noncomputable def Zd7:List (Pos×Str):=[(posOf Zd6,Zi6)]
theorem Yz4 {k:Nat}(h:SqT K H p [.str "at",.int (k:Nat)]):LEK K H (.ref p) (.at k):=leK_view.mpr ⟨p,_,rfl,h,rfl⟩
theorem Yb2 {k:Nat}{fd:zc}(F:FunC K "of_at" Zi6 Zd6 cl f fd){J:Hp->Prop}{AA:Nat->Nat->Prop}(C:Caught K (Za3 Zd6) cl ["by"] [.int (n:Nat)]):Fk0 P w K mg base (k+1) f fd ["k","front"] (sp_ofatL K J (Zl5 n) AA):=by
 refine F.ok Ya6 C (fun g H Q E h=>?_) (fun i A e s H g Q E l h=>?_)
 ·obtain⟨a,b,rfl,_⟩:=h
  rfl
 obtain⟨a,b,rfl,j,m,q⟩:=h;refine⟨_,(Za7 (Zb2 (Zb5 (Za0 Zb1 (Za0 (Yi0 (ptcM (Xj5) (pvM 0) (pvM 1)) (Zb6 Ze4 (pvM 0) (pvM 2)) (pvM 0)) Za1))))),?_⟩;walk_at "1"
 by_cases c:b<=a
 ·rw[if_pos (by omega)]
  refine⟨by decide,fun p d=>q _ _ (Za6 d _) ?_⟩;show LEK K _ _ (.at (if b<=a then a+n else a));rw[if_pos c];exact Yz4 (.inl (.inl Za5))
 ·rw[if_neg (by omega)]
  refine⟨by decide,fun p d=>q _ _ (Za6 d _) ?_⟩;show LEK K _ _ (.at (if b<=a then a+n else a));rw[if_neg c];exact Yz4 (.inl (.inl Za5))
abbrev GCh (P:zf)(w:World)(K:W.Frag)(mg:Str->Option Value)(j:Nat)(T:Addr)(f_br0:Addr)(fd_br0:zc):Prop:=∀(K':W.Frag) (base:Heap) (J:JP) (FF:Nat->Nat->Te) (AA:Nat->Nat->Prop) (f1:Addr) (fd1:zc),KLe K K'->JOk J ->
 (∀K2 base,KLe K' K2->FnOk P w K2 mg base CX0 j f1 fd1 ["k","front"] (sp_ofatL K2 (J K2) FF AA))->(∀K2,KLe K' K2->zan K2 (.ref f1)=true)->Binds K' fd1 ["k","front"] []->FnOk P w K' mg base CX0 (j+3) f_br0 fd_br0 pq30 (sp_changedL K' T Zc1 J FF AA f1)
theorem Wp4 {j:Nat}{f_bw0:Addr}{fd_bw0:zc}(F_bw0:FunT K "lifted" "lifted" (top 41) f_bw0 fd_bw0 T)(hB:∀h,K.In h->h.BuiltinsAt mg T)(hT:ye≠T)(hne:T≠T1){fd_br0:zc}(m_br0:MgI mg "changed" f_br0)(k_br0:KpI K f_br0)(b_br0:Binds K fd_br0 pq30 [])(GC:GCh P w K mg (j+1) T1 f_br0 fd_br0):
  Fk0 P w K mg base (j+5) f_bw0 fd_bw0 ["term","by"] (sp_liftedL K T1 T Zc1 Zd7):=by
 refine F_bw0.ok sc_bw0 (fun vs H Q E h=>?_) (fun c A F s H vs Q E hC hr h=>?_)
 ·obtain⟨v,t,n,rfl,_⟩:=h
  rfl
 obtain⟨v,t,n,rfl,q3,hz,M,Y,q⟩:=h
 have q1:∀i∈([1]:List Nat),∃x,(["term","by","of_at"]:List Str)[i]?=some x/\(Za3 (top 41)).names.lookup x=some .cell/\(fun _:Str=>true) x=true:=by
  intro i R;rcases yf.mp R with rfl;exact⟨"by",rfl,rfl,rfl⟩
 refine⟨_,(Za2 (Zr2 (st:=Zd6) (i:=2) (qual:=Zi6) (ds:=Zd7) rfl sc_bw0.nd rfl (Or.inl rfl) (Zf7 (fun y hy hf=>Zj5 (Yc8 y hy hf))) rfl hC hB hT rfl (by simp[Zd7]) (by decide +kernel) rfl rfl rfl)
 (Za7 (Zb2 (Zp6 (ix:=[1]) hr (by exact rfl) m_br0 k_br0 b_br0 q1 (Za0 (pvM 0) (Za0 (pvM 2) Za1)))))),?_⟩
 generalize g:(cxOf CX0 P w K mg base ["term","by","of_at"] "lifted" (Za3 (top 41)) f_bw0 (.ref c) A F s H E).nox=X
 have eP:X.prog=P:=by rw[<- g];rfl
 have ew:X.w=w:=by rw[<- g];rfl
 have eK:X.K=K:=by rw[<- g];rfl
 have em:X.mg=mg:=by rw[<- g];rfl
 have eN:X.N=(["term","by","of_at"]:List Str):=by rw[<- g];rfl
 have ec:(zbg "lifted" (Za3 (top 41)) s.heap.objs.size f_bw0 (.ref c)).cells=X.env.cells:=by rw[<- g];rfl
 refine sqk (fun C=>∀D d,SameU T H D->TabOk D T Zd7->FnFz D d "of_at" Zi6 (Zd4 Zd6) (Zc8 Zd6) (Za3 Zd6) (Zi1 X.env.cells (Za3 Zd6).names [])->C [some v,some (.int (n:Nat)),some (.ref d)] D) (fun C q5=>?_) fun H2 d O V q6=>?_
 ·exact⟨Y,fun f D n sm tb fn=>q5 _ f sm tb (ec▸fn)⟩
 obtain⟨o1,c1,p1,o,a2,J,a4⟩:=q6.objs2;have W:TabOk H2 T1 Zc1:=O.toV.tab (by simpa using fun z=>hne z.symm) M;show Zl7 X _ _ _ _ [1] _ _ _ _;unfold Zl7;walk_at "1";refine⟨fun i R=>?_,[(d,o1),(c1,p1)],o,fun B cs ok e a l q2=>?_⟩
 ·rcases yf.mp R with rfl
  exact⟨_,rfl⟩
 rw[eK] at e a;obtain⟨q7,U⟩:=a4 B fun p b=>l p (zy _ b)
 have cw:Zu9 X B "by" (.int (n:Nat))/\∀p∈cs,∀L n,p.2.data≠.seq L n:=by
  cases q2 with
  |cons h1 r1 =>
   cases r1;refine hid fun Gz q4=>?_;obtain⟨x1,v1,u1,k,m,S,e4,e5⟩:=h1;refine q4 ?_;rw[eN] at k;cases k;cases m;refine⟨⟨_,_,u1,S,l _ (zm _ (by simp)),e4,e5⟩,fun p b L n z=>?_⟩;rcases yf.mp b with rfl;rw[e4] at z;cases z
 have C1:Caught B (Za3 Zd6) (Zi1 X.env.cells (Za3 Zd6).names []) ["by"] [.int (n:Nat)] :=
  Zk3 ok rfl (by decide +kernel) (by decide +kernel) fun i y u k m=>by
   match i,k,m with
   | 0,k,m=>cases k;cases m;exact cw.1
 have J:=J Zc1 (by decide +kernel);generalize [(d,o1),(c1,p1)]=xs at o a2 J l a ⊢;have q9:=Ya4 o e;refine⟨sp_changedL B T1 Zc1 (fun _ _=>True) (Zl5 n) (fun _ _=>True) d,fun I=>?_,?_⟩
 ·rw[eP,ew,em]
  exact GC B I _ _ _ d q7 e ⟨fun _ _ _ _ _=>trivial,fun _ _ _ _ _ _ _=>trivial⟩ (fun K2 q8 G=>Yb2 (U.le G) (C1.le G)) (fun K2 G=>(U.le G).kp) (U.binds fun _ _ _ _ us hl=>Ken.len2 hl fun _ _=>rfl)
 ·refine⟨v,t,rfl,Yz3 o e (LEK.keep q3 (SameT.keepL O.toT)),hz,trivial,fun _ _ _=>trivial,W.rem o J,fun r H3 S t3 q0 n3=>?_⟩
  have Z:=S.back;refine q _ _ ((O.toV.mono (by simp)).trans (Z.mono (by simp))) (t3.back n3) (Z.tab (by simpa using hne) V) (Yj4 a (fun p b=>?_) n3 q0);rcases yg.mp b with b | b
  ·exact a2 p b
  ·exact cw.2 p b
abbrev nn1:List Str:=["term","other","fronts","lifts","of_at"]
theorem sc_co0:FnScope nn1 ["term","other"] (Za3 (top 42)):=scm (by decide +kernel)
noncomputable abbrev Ze8:Stmt:=Yu3 (top 42) 2
theorem Ym7:FnScopeC ["k","front","lifts"] ["k","front"] ["lifts"] (Za3 Ze8):=⟨rfl,rfl,rfl,by decide +kernel,rfl,by decide +kernel,by decide +kernel,by decide +kernel⟩
noncomputable abbrev Zm5:Str:=("put":Str)++ze ".<locals>."++"of_at"
theorem Yp9:∀y∈(Za3 Ze8).names,y.2=yad->(Za3 (top 42)).names.lookup y.1=some zat:=by decide +kernel
noncomputable def Zi3:List (Pos×Str):=[(posOf Ze8,Zm5)]
theorem Yn7 {k:Nat}{fd:zc}(F:FunC K "of_at" Zm5 Ze8 cl f fd){dl:Addr}{kvs:List (Key×V)}{fr:List Int}{o:Te}(C:Caught K (Za3 Ze8) cl ["lifts"] [.ref dl]):Fk0 P w K mg base (k+1) f fd ["k","front"] (sp_ofatL K (Xv6 dl kvs fr o K) (Ken.putF o) (fun k f=>k=f->(f:Int)∈fr)):=by
 refine F.ok Ym7 C (fun l H Q E h=>?_) (fun x A j s H l Q E m h=>?_)
 ·obtain⟨a,b,rfl,_⟩:=h
  rfl
 obtain⟨a,b,rfl,g,n,q⟩:=h
 refine⟨_,(Za2 (Zd1 (ptcM (Ze0) (pvM 0) (pvM 1))
  (Za7 (Zb2 (Xj3 (Xm8 m) (pvM 2) (pvM 1) (fun _ _=>rfl))))
  Zb4)
 (Za7 (Zb2 (Zb5 (Za0 Zb1 (Za0 (Yi0 (ptcM (Yn6) (pvM 0) (pvM 1)) (Zb6 Zj3 (pvM 0) Za4) (pvM 0)) Za1)))))),?_⟩
 walk_at "1"
 by_cases c:a=b
 ·subst c
  obtain⟨u,t,r⟩:=g.2 a (n rfl);rw[if_pos (by simp)];refine⟨u,?_,q _ _ (Same.refl _) ?_⟩
  ·have:=DGet.k (k:=ycn (a:Int)) g.1
   rw[t] at this;exact this
  ·show LEK K H u (if a=a then o.mp (Zl5 a) 0 else _)
   rw[if_pos rfl];exact r
 ·rw[if_neg (by simpa using fun z:(a:Int)=b=>c (by omega))]
  have i:Ken.putF o a b=.at (if b < a then a - 1 else a):=by unfold Ken.putF;rw[if_neg c]
  by_cases d:b < a
  ·rw[if_pos (by omega)]
   refine⟨by decide,fun p e=>q _ _ (Za6 e _) ?_⟩;rw[i,if_pos d]
   have v:((a:Int) - 1)=((a - 1:Nat):Int):=by omega
   rw[v];exact Yz4 (.inl (.inl Za5))
  ·rw[if_neg (by omega)]
   refine⟨by decide,fun p e=>q _ _ (Za6 e _) ?_⟩;rw[i,if_neg d];exact Yz4 (.inl (.inl Za5))
theorem Wn9 {j:Nat}{f_co0:Addr}{fd_co0:zc}(F_co0:FunT K "put" "put" (top 42) f_co0 fd_co0 T)(hB:∀h,K.In h->h.BuiltinsAt mg T)(hT:ye≠T)(ne1:T≠T1)(ne2:T≠T2)(ne12:T1≠T2){fd_br0:zc}(m_br0:MgI mg "changed" f_br0)(k_br0:KpI K f_br0)(b_br0:Binds K fd_br0 pq30 [])(GC:GCh P w K mg (j+3) T1 f_br0 fd_br0)(C_standing:Cl P w K mg base (j+6) "standing" pq32 (sp_standingL K))(C_lifted:Cl P w K mg base (j+6) "lifted" ["term","by"] (sp_liftedL K T1 T2 Zc1 Zd7))(m_sorted:mg "sorted"=none):
  Fk0 P w K mg base (j+7) f_co0 fd_co0 ["term","other"] (sp_putL K T1 T2 T Zc1 Zd7 Zi3):=by
 refine F_co0.ok sc_co0 (fun vs H Q E h=>?_) (fun c A q8 s H vs Q E hC hr h=>?_)
 ·obtain⟨v,t,ov,o,rfl,_⟩:=h
  rfl
 obtain⟨v,t,ov,o,rfl,j2,hO,hz,z9,v6,y0,j4,j3,z0,q⟩:=h
 have y3:∀i∈([1,3]:List Nat),∃x,(nn1:List Str)[i]?=some x/\(Za3 (top 42)).names.lookup x=some .cell/\(fun _:Str=>true) x=true:=by
  intro i hi;simp only[zd,zq,or_false] at hi;rcases hi with rfl | rfl
  ·exact⟨"other",rfl,rfl,rfl⟩
  ·exact⟨"lifts",rfl,rfl,rfl⟩
 refine⟨_,(Za2 (pst 2 sc_co0.nd (Ze2 (Yk8 (P:=P) (w:=w) rfl rfl rfl) (by exact rfl) m_sorted Yv7 (Za0 (Wl6 (P:=P) (w:=w) rfl rfl (blk0 (N':=["piece","front"]) (by decide +kernel) (by decide +kernel) rfl (by decide +kernel)) rfl (Xj0 (Zb8 C_standing hr (Za0 (pvM 0) Za1))) (fun _ _ _ _=>(Ys8 (K:=K) (n:=2) rfl rfl (Zc2 (pgn 0 (ndS ["piece","front"])) (Zc2 (pgn 1 (ndS ["piece","front"])) Zg1)) rfl rfl)) (fun _ _=>Xz5) (fun _ _ _ _ _=>(Xi6 (ptcM (Wc7 (K:=K) rfl (Zu2 hr)) (pvM 0) (Zb5 (Za0 Zb1 (Za0 (pvM 1) Za1)))) (Xi7 (P:=P) (w:=w) rfl rfl (pvM 1))))) Za1)))
 (Za2 (Zw6 (i:=3) sc_co0.nd rfl (Or.inr rfl) (Wm0 (blkD (N':=["front","other"]) (nt:=1) (ci:=[1]) nn1 (Za3 (top 42))) rfl (Xj0 (pvM 2)) (fun _ _ _ _=>(pgn 0 (ndS ["front","other"]))) (fun _ _=>Xz8) (fun _ _ _ _ _=>(Xs4 (Nat.lt_of_succ_lt (Xm8 hr)) (pvM 0) (Zb8 C_lifted hr (Za0 (pvM 1) (Za0 (pvM 0) Za1)))))))
 (Za2 (Zr2 (st:=Ze8) (i:=4) (qual:=Zm5) (ds:=Zi3) rfl sc_co0.nd rfl (Or.inl rfl) (Zf7 (fun y J F=>Zj5 (Yp9 y J F))) rfl hC hB hT rfl (by simp[Zi3]) (by decide +kernel) rfl rfl rfl)
 (Za7 (Zb2 (Zp6 (ix:=[1,3]) hr (by exact rfl) m_br0 k_br0 b_br0 y3 (Za0 (pvM 0) (Za0 (pvM 4) Za1)))))))),?_⟩
 generalize hX:(cxOf CX0 P w K mg base nn1 "put" (Za3 (top 42)) f_co0 (.ref c) A q8 s H E).nox=X
 have eP:X.prog=P:=by rw[<- hX];rfl
 have ew:X.w=w:=by rw[<- hX];rfl
 have eK:X.K=K:=by rw[<- hX];rfl
 have em:X.mg=mg:=by rw[<- hX];rfl
 have eN:X.N=(nn1:List Str):=by rw[<- hX];rfl
 have ec:(zbg "put" (Za3 (top 42)) s.heap.objs.size f_co0 (.ref c)).cells=X.env.cells:=by rw[<- hX];rfl
 refine sqk (fun C=>∀d (lf:Addr) (B:List Int),Same H d->d lf=some (.lst (B.map V.int))->B.length < 64->(∀x∈B,0<=x)->(∀f,(Te.at f,f)∈t.pre 0->(f:Int)∈B)->C [some v,some ov,some (.ref lf),none,none] d) (fun C q0=>?_) fun H1 lf B G Y v5 y5 y4=>?_
 ·rw[eK]
  walk_at "1";refine⟨v,t,rfl,j2,hz,fun r H1 us G f1 h1 hu=>⟨r,rfl,⟨_,SqL.of h1⟩,fun acc m=>?_⟩⟩;have lu:=zk hu;refine Yp5 (xs:=us) (fun i d=>Same H1 d/\∃xs,d acc=some (Yg9 P w acc xs)/\xs.Nodup/\(∀x∈xs,∃f:Nat,x=(f:Int)/\f∈t.lfs 0)/\∀f:Nat,(Te.at f,f)∈(t.pre 0).take i->(f:Int)∈xs) ⟨Za6 m _,[],Za5,zcw,fun x W=>absurd W (by simp),fun f F=>absurd F (by simp)⟩ (fun i d _ ⟨e,_⟩=>SqL.of (e _ _ h1)) (fun i u d N W ⟨e,xs,O,nd,S,hm⟩ hN=>?_) (fun d ⟨e,xs,O,nd,S,hm⟩=>?_)
  ·obtain⟨p,D,z5⟩:=paired_get hu W
   obtain⟨tp,fp⟩:=p;have pm:(tp,fp)∈t.pre 0:=yo D;have pf:=Zj0 pm;obtain⟨pa,x0,rfl,z6,q2⟩:=lPf.mp (z5.keep e.keepL);have xl:=Yf2 nd S;have eo:(t.pre 0).take (i+1)=(t.pre 0).take i++[(tp,fp)]:=Zs3 D;walk_at "1";have j5:Wk [none,none] [some x0,some (.int (fp:Nat))]:=(Ye1 (σ:=[none,none]) (i:=0) rfl).trans (Ye1 (σ:=[some x0,none]) (i:=1) rfl);refine⟨_,z6,rfl,_,_,rfl,_,_,rfl,rfl,j5,by decide,fun p q1=>?_⟩;have kA:=Ze3 (K:=K) (o:=.tup [.str "at",.int (fp:Nat)]) q1;refine⟨tp.data,(LEK.keep q2 kA).isE,(Te.at fp).data,We4 (k:=fp) (.inl (.inl Za5)),Te.lay (Zm6 y0 pm),Wu3 fp,yj (zbs _ _) (by show (1:Nat)<=150;decide),?_⟩;rw[if_neg yi,Wt0]
   have j1:upd d p (.tup [.str "at",.int (fp:Nat)]) acc=some (Yg9 P w acc xs):=by rw[Za9 (Zb0 O q1)];exact O
   by_cases ca:tp=.at fp
   ·subst ca
    rw[if_pos (by simp)];refine⟨_,rfl,xs,j1,by omega,hN _ ⟨(e.trans (Za6 q1 _)).write m,_,Za5,?_,fun x I=>?_,fun f F=>?_⟩⟩
    ·by_cases J:(fp:Int)∈xs
     ·rw[if_pos J];exact nd
     ·rw[if_neg J,List.nodup_append]
      exact⟨nd,by simp,fun a O b S=>by rw[yf.mp S];exact fun z=>J (z▸O)⟩
    ·by_cases J:(fp:Int)∈xs
     ·rw[if_pos J] at I;exact S x I
     ·rw[if_neg J] at I
      rcases yg.mp I with z | z
      ·exact S x z
      ·exact⟨fp,yf.mp z,Zo4 pm⟩
    ·rw[eo] at F
     have Z:(f:Int)∈xs∨f=fp:=by
      rcases yg.mp F with z | z
      ·exact .inl (hm f z)
      ·have:=yf.mp z
       exact .inr (ym this).2
     by_cases J:(fp:Int)∈xs
     ·rw[if_pos J]
      rcases Z with z | z
      ·exact z
      ·rw[z];exact J
     ·rw[if_neg J]
      rcases Z with z | z
      ·exact zy _ z
      ·rw[z];exact zm _ (yf.mpr rfl)
   ·rw[if_neg (by simpa using ca)]
    refine hN _ ⟨e.trans (Za6 q1 _),xs,j1,nd,S,fun f F=>?_⟩;rw[eo] at F;rcases yg.mp F with z | z
    ·exact hm f z
    ·have:=yf.mp z
     obtain⟨z1,z2⟩:=ym this;exact absurd (by rw[<- z1,z2]) ca
  ·have xl:=Yf2 nd S
   refine⟨xs,O,by omega,fun l ys hl q3=>q0 _ l ys ((G.trans e).trans (Za6 hl _)) Za5 (by rw[q3.length_eq];omega) (fun x W=>?_) (fun f F=>?_)⟩
   ·obtain⟨f,rfl,_⟩:=S x (q3.mem_iff.mp W)
    omega
   ·rw[lu,List.take_length] at hm
    exact q3.mem_iff.mpr (hm f F)
 refine sqk (fun C=>∀d M g,SameV [T1,T2] H1 d->TabOk d T1 Zc1->TabOk d T2 Zd7->d M=some (.dK g)->(∀f:Nat,(f:Int)∈B->∃u,valV g (ycn (f:Int))=some u/\LEK K d u (o.mp (Zl5 f) 0))->C [some v,some ov,some (.ref lf),some (.ref M),none] d) (fun C q0=>?_) fun H2 M g L t1 t2 y6 y1=>?_
 ·rw[eK]
  walk_at "1"
  have f0:∀acc,H1 acc=none->H1 lf≠none:=fun acc _ z=>by rw[Y] at z;cases z
  refine⟨⟨_,SqL.of Y⟩,fun acc m=>?_⟩
  have v3:lf≠acc:=fun z=>by rw[z,m] at Y;cases Y
  refine Yp5 (xs:=B.map V.int) (fun i d=>SameV [T1,T2] H1 d/\TabOk d T1 Zc1/\TabOk d T2 Zd7/\∃g,d acc=some (.dK g)/\g.length<=i/\∀f:Nat,(f:Int)∈B.take i->∃u,valV g (ycn (f:Int))=some u/\LEK K d u (o.mp (Zl5 f) 0))
   ⟨(Za6 m _).toV,(j4.keep G).keep (Za6 m _),(j3.keep G).keep (Za6 m _),[],Za5,zg _,fun f F=>absurd F (by simp)⟩ (fun i d _ ⟨e,_⟩=>SqL.of (e.toT _ _ (fun _ z=>nomatch z) Y)) (fun i u d N W ⟨e,t1,t2,g,O,hkl,hm⟩ hN=>?_) (fun d ⟨e,t1,t2,g,O,hkl,hm⟩=>?_)
  ·rw[yba] at W
   obtain⟨x,I,rfl⟩:=zai.mp W;have q2:=y5 x (yo I);obtain⟨f,rfl⟩:=Int.eq_ofNat_of_zero_le q2;have il:i < B.length:=(yc.mp I).1;walk_at "1";refine⟨Yg1,ov,o,f,rfl,LEK.keep hO (G.keepL.trans (SameT.keepL e.toT)),z9,t1,t2,fun r H2 L z4 z3 z8=>?_⟩;have q5:H2 acc=some (.dK g):=L.toT _ _ (fun _ z=>nomatch z) O;have kB:=Xt6 (K:=K) (o:=.dK (putK g (ycn (f:Int)) r)) q5;have wr:∀{T:Addr} {ds:List (Pos×Str)},TabOk H2 T ds->TabOk (upd H2 acc (.dK (putK g (ycn (f:Int)) r))) T ds:=fun h=>h.put q5 (fun _ z=>nomatch z) (fun _ z=>nomatch z);refine⟨_,DPut.k (k:=ycn (f:Int)) q5 (Zd9 (by omega)),hN _ ⟨(e.trans L).write m,wr z4,wr z3,_,Za5,?_,fun f' Z=>?_⟩⟩
   ·have:=Zk1 g (ycn (f:Int)) r
    omega
   ·rw[Yg2]
    by_cases ef:f'=f
    ·subst ef
     exact⟨r,by rw[if_pos rfl],LEK.keep z8 kB⟩
    ·rw[Zs3 I] at Z
     rcases yg.mp Z with z | z
     ·obtain⟨u,h1,h2⟩:=hm f' z
      exact⟨u,by rw[if_neg (fun q=>ef (by have:=ycn.inj q;omega))];exact h1,LEK.keep h2 ((SameT.keepL L.toT).trans kB)⟩
     ·exact absurd (by have:=yf.mp z;omega) ef
  ·rw[yn,List.take_length] at hm
   exact q0 _ acc g e t1 t2 O hm
 have q7:SameV [T1,T2] H H2:=G.toV.trans L;have j9:TabOk H2 T Zi3:=q7.tab (by simp[ne1,ne2]) z0;refine sqk (fun C=>∀d f1,SameU T H2 d->TabOk d T Zi3->FnFz d f1 "of_at" Zm5 (Zd4 Ze8) (Zc8 Ze8) (Za3 Ze8) (Zi1 X.env.cells (Za3 Ze8).names [])->C [some v,some ov,some (.ref lf),some (.ref M),some (.ref f1)] d) (fun C q0=>?_) fun H3 f1 s3 j6 y8=>?_
 ·exact⟨j9,fun f d n sm tb fn=>q0 _ f sm tb (ec▸fn)⟩
 obtain⟨o1,c1,p1,a1,a2,a3,a4⟩:=y8.objs2;have j8:TabOk H3 T1 Zc1:=s3.toV.tab (by simpa using fun z=>ne1 z.symm) t1;have j7:TabOk H3 T2 Zd7:=s3.toV.tab (by simpa using fun z=>ne2 z.symm) t2;have jp:Xv6 M g B o K H3:=(Yj6 M g B o).keep _ _ _ s3.toT ⟨y6,y1⟩;show Zl7 X _ _ _ _ [1,3] _ _ _ _;unfold Zl7;walk_at "1";refine⟨fun i hi=>?_,[(f1,o1),(c1,p1)],a1,fun K' cs ok U R q4 y7=>?_⟩
 ·simp only[zd,zq,or_false] at hi
  rcases hi with rfl | rfl
  ·exact⟨_,rfl⟩
  ·exact⟨_,rfl⟩
 rw[eK] at U R;obtain⟨y9,G1⟩:=a4 K' fun p D=>q4 p (zy _ D)
 have cw:Zu9 X K' "lifts" (.ref M)/\∀p∈cs,∀j0 n,p.2.data≠.seq j0 n:=by
  cases y7 with
  |cons h1 r1 =>
   cases r1 with
   |cons h2 r2 =>
    cases r2;refine hid fun Gz q6=>?_;obtain⟨x1,v1,u1,G,L,e3,e4,e5⟩:=h1;refine q6 ?_;refine hid fun Gz q6=>?_;obtain⟨x2,v2,u2,g1,g2,g3,g4,g5⟩:=h2;refine q6 ?_;rw[eN] at G g1;cases G;cases L;cases g1;cases g2;refine⟨⟨_,_,u2,g3,q4 _ (zm _ (by simp)),g4,g5⟩,fun p D j0 n z=>?_⟩;simp only[zd,zq,or_false] at D;rcases D with rfl | rfl
    ·rw[e4] at z;cases z
    ·rw[g4] at z;cases z
 have C1:Caught K' (Za3 Ze8) (Zi1 X.env.cells (Za3 Ze8).names []) ["lifts"] [.ref M] :=
  Zk3 ok rfl (by decide +kernel) (by decide +kernel) fun i y u G L=>by
   match i,G,L with
   | 0,G,L=>cases G;cases L;exact cw.1
 have a3:=a3 Zc1 (by decide +kernel);generalize [(f1,o1),(c1,p1)]=xs at a1 a2 a3 q4 R ⊢;have v4:=Ya4 a1 U;refine⟨sp_changedL K' T1 Zc1 (Xv6 M g B o) (Ken.putF o) (fun k f=>k=f->(f:Int)∈B) f1,fun q9=>?_,?_⟩
 ·rw[eP,ew,em]
  exact GC K' q9 _ _ _ f1 y9 U (Yj6 M g B o) (fun K2 v0 k2=>Yn7 (G1.le k2) (C1.le k2)) (fun K2 k2=>(G1.le k2).kp) (G1.binds fun _ _ _ _ us hl=>Ken.len2 hl fun _ _=>rfl)
 ·refine⟨v,t,rfl,Yz3 a1 U (LEK.keep j2 ((SameT.keepL q7.toT).trans (SameT.keepL s3.toT))),hz,(Yj6 M g B o).inn _ _ _ _ a1 U jp,fun k f y2 e=>y4 f (e▸y2),j8.rem a1 a3,fun r H4 e4 t4 z7 n4=>?_⟩
  have sb:=e4.back;refine q _ _ (((q7.mono (by simp)).trans (s3.toV.mono (by simp))).trans (sb.mono (by simp))) (t4.back n4) (sb.tab (by simpa using fun z=>ne12 z.symm) j7) (sb.tab (by simpa using ne1) j6) (Yj4 R (fun p D=>?_) n4 z7);rcases yg.mp D with D | D
  ·exact a2 p D
  ·exact cw.2 p D
theorem sc_cw0:FnScope ["term","inner"] ["term"] (Za3 (top 48)):=scm (by decide +kernel)
theorem Wn3 {k:Nat}{f_cw0:Addr}{fd_cw0:zc}(F_cw0:Fun K "turned_itself" "turned_itself" (top 48) f_cw0 fd_cw0)(C_put:Cl P w K mg base k "put" ["term","other"] (sp_putL K T1 T2 T3 Zc1 Zd7 Zi3)):Fk0 P w K mg base (k+1) f_cw0 fd_cw0 pq32 (sp_itselfL K [(T1,Zc1),(T2,Zd7),(T3,Zi3)]):=by
 refine F_cw0.okG sc_cw0 fun q0 A S s H vs Q E B h Gx R=>?_;obtain⟨v,t,rfl,hT,ht,hz,N,M,n,q⟩:=h;have W:TabOk H T1 Zc1:=n (T1,Zc1) (by simp);have U:TabOk H T2 Zd7:=n (T2,Zd7) (by simp);have T:TabOk H T3 Zi3:=n (T3,Zi3) (by simp)
 have J:∀{b o:Te} {vb vo:V},LEK K H vb b->LEK K H vo o->b.size<=20000->o.size<=20000->b.lvs<=60->b.all Tm.ok->b.mp (Ken.putF o) 0=t.itself->sp_putL K T1 T2 T3 Zc1 Zd7 Zi3 [vb,vo] H Q E0:=fun {b o vb vo} d h2 h3 h4 h5 h6 h7 =>
  ⟨vb,b,vo,o,rfl,d,h2,h3,h4,h5,h6,W,U,T,fun r H' e k1 k2 k3 B=>q r H' e (fun x L=>by
   simp only[zd,zq,or_false] at L;rcases L with rfl | rfl | rfl
   ·exact k1
   ·exact k2
   ·exact k3) (h7▸B)⟩
 have i:∀{b:Te},SubL b t->b.size<=20000/\b.lvs<=60/\b.all Tm.ok:=fun s=>⟨yj (zv s.sz) hz,yj s.bd N,s.al M⟩;refine hid fun Gz O=>?_;obtain⟨p,u,f,I,r,ry,rfl,d,m,D⟩:=Wh5 hT ht;refine O ?_;have y:∀{a b:Str},a≠b->¬V.str a=V.str b:=fun h z=>h (V.str.inj z);have G:atI (.str f::.ref u::r) 0=some (.str f):=Zc0 (j:=0) rfl
 refine R _ ⟨_,(Za2 (pst 1 sc_cw0.nd (pxtM (pvM 0) Za4))
 (Za2 (Zd1 (ptcM (Ze0) (pxtM (pvM 0) Za4) Zb1)
  (Za7 (Zb2 (pxtM (pvM 1) Za4)))
  Zb4)
 (Za2 (Zd1 (ptcM (Ze0) (pxtM (pvM 0) Za4) Zb1)
  (Za7 (Zb2 (pxtM (pvM 1) Za4)))
  Zb4)
 (Za2 (Zd1 (ptcM (Ze0) (pxtM (pvM 0) Za4) Zb1)
  (Za7 (Zb2 (Zb8 C_put B (Za0 (pxtM (pvM 1) Za4) (Za0 (pxtM (pvM 0) Za4) Za1)))))
  Zb4)
 (Za7 (Zb2 (Zb8 C_put B (Za0 (pxtM (pvM 0) (Yi0 (ptcM (Ze0) (pxtM (pvM 1) Za4) Zb1) Za4 Za4)) (Za0 (pxtM (pvM 1) Za4) Za1))))))))),?_⟩
 refine sqk (fun C=>C [some (.ref p),some (.ref u)] H) (fun C l=>?_) ?_
 ·walk_at "1"
  exact⟨_,d,_,Zc0 (j:=1) rfl,l⟩
 refine sqk (fun C=>f≠"left"->C [some (.ref p),some (.ref u)] H) (fun C l=>?_) fun Z=>?_
 ·walk_at "1"
  refine⟨_,d,_,G,rfl,?_⟩
  by_cases c:f="left"
  ·rw[if_pos (by rw[c])]
   cases D with
   |left g e _=>exact⟨_,m,_,rfl,q _ _ (Same.refl _).toV n (e▸g)⟩
   | _=>exact absurd c (by decide)
  ·rw[if_neg (y c)]
   exact l c
 refine sqk (fun C=>f≠"right"->C [some (.ref p),some (.ref u)] H) (fun C l=>?_) fun Y=>?_
 ·walk_at "1"
  refine⟨_,d,_,G,rfl,?_⟩
  by_cases c:f="right"
  ·rw[if_pos (by rw[c])]
   cases D with
   |right g e _=>exact⟨_,m,_,rfl,q _ _ (Same.refl _).toV n (e▸g)⟩
   | _=>exact absurd c (by decide)
  ·rw[if_neg (y c)]
   exact l c
 refine sqk (fun C=>f≠"use"->C [some (.ref p),some (.ref u)] H) (fun C l=>?_) fun X=>?_
 ·walk_at "1"
  refine⟨_,d,_,G,rfl,?_⟩
  by_cases c:f="use"
  ·rw[if_pos (by rw[c])]
   cases D with
   |use d1 d2 d3 d4 d5=>exact⟨_,m,_,rfl,_,d,_,rfl,J d1 d2 (i d4).1 (i d5).1 (i d4).2.1 (i d4).2.2 d3.symm⟩
   | _=>exact absurd c (by decide)
  ·rw[if_neg (y c)]
   exact l c
 cases D with
 |left=>exact absurd rfl Z
 |right=>exact absurd rfl Y
 |use=>exact absurd rfl X
 |@cases I _ _ _ _ _ _ d1 d2 d3 d4 d5 _ =>
  walk_at "1";refine⟨_,m,_,Zc0 (j:=0) rfl,rfl,?_⟩;have F:=fun {vb:V} (h:LEK K H vb _)=>J h d2 (i d4).1 (i d5).1 (i d4).2.1 (i d4).2.2 d3.symm
  by_cases cf:I="first"
  ·rw[if_pos cf] at d1
   rw[if_pos (by rw[cf])];exact⟨_,d,_,rfl,_,m,_,Zc0 (j:=1) rfl,F d1⟩
  ·rw[if_neg cf] at d1
   rw[if_neg (y cf)];exact⟨_,d,_,rfl,_,m,_,Zc0 (j:=1) rfl,F d1⟩
theorem sc_cv0:FnScope ["term","number","pieces","places","of_piece","told"] ["term","number"] (Za3 (top 51)):=scm (by decide +kernel)
noncomputable abbrev Zc7:Stmt:=Yu3 (top 51) 3
theorem Zs8:FnScopeC ["place","inner","places","number","pieces"] ["place","inner"] ["places","number","pieces"] (Za3 Zc7):=⟨rfl,rfl,rfl,by decide +kernel,rfl,by decide +kernel,by decide +kernel,by decide +kernel⟩
noncomputable abbrev Zh0:Str:=("turned":Str)++ze ".<locals>."++"of_piece"
theorem Zu8:∀y∈(Za3 Zc7).names,y.2=yad->(Za3 (top 51)).names.lookup y.1=some zat:=by decide +kernel
noncomputable def Zk2:List (Pos×Str):=[(posOf Zc7,Zh0)]
theorem Zt4 {k:Nat}{fd:zc}(F:FunC K "of_piece" Zh0 Zc7 cl f fd){tb:TBs}{pl:Addr}{us:List V}{p0:Pf}{ms:List Nat}(hm:ms[i]?=some m)(hms:ms=idxT 0 (preP p0))(hz:p0.1.size<=5000)(hdp:p0.1.lvs<=60)(hok:p0.1.all Tm.ok)(C:Caught K (Za3 Zc7) cl ["places","number","pieces"] [.ref pl,.int (i:Nat),.ref lp])(C_with_inner:Cl P w K mg base k "with_inner" pq20 (sp_withL K))(C_turned_itself:Cl P w K mg base k "turned_itself" pq32 (sp_itselfL K tb)):
  Fk0 P w K mg base (k+1) f fd ["place","inner"] (sp_ofpN tb (JPtL K lp pl us p0 ms) (RTnL K m) p0):=by
 refine F.ok Zs8 C (fun U H Q E h=>?_) (fun q0 A T s H U Q E O h=>?_)
 ·obtain⟨n,p,l,g,rfl,_⟩:=h
  rfl
 obtain⟨n,p,l,g,rfl,hj,o,d,Z,hU,q⟩:=h;obtain⟨M,L,Y⟩:=hj;have X:=zk L;obtain⟨u,B⟩:∃u,us[n]?=some u:=⟨_,zb (by rw[X];exact (yc.mp d).1)⟩;obtain⟨p',x,N⟩:=paired_get L B;rw[d] at x;cases x;obtain⟨a,S⟩:=p;obtain⟨J,G,rfl,v,j⟩:=lPf.mp N
 refine⟨_,(Za2 (Zd1 (ptcM (Ze0) (pvM 0) (pxlM (pvM 2) (pvM 3)))
  (Za7 (Zb2 (Zb8 C_turned_itself O (Za0 (pxtM (pxlM (pvM 4) (pvM 0)) Za4) Za1))))
  Zb4)
 (Za7 (Zb2 (Zb8 C_with_inner O (Za0 (pxtM (pxlM (pvM 4) (pvM 0)) Za4) (Za0 (pvM 1) Za1)))))),?_⟩
 walk_at "1";refine⟨_,Y,.int (m:Nat),Zc0 (by show (ydk _ ms)[i]?=_;rw[yba,hm];rfl),rfl,?_⟩
 by_cases c:n=m
 ·subst c
  rw[if_pos rfl];obtain⟨p2,_,R,h3⟩:=Yz8 (show n∈idxT 0 (preP p0) by rw[<- hms];exact yo hm);rw[ybk,d] at R;cases R;have y:=yo d;have I:=Zv5 (t:=p0.1) (f:=p0.2) y;refine⟨_,M,_,Zc0 B,J,rfl,_,v,_,rfl,G,a,rfl,j,h3,by have:a.size<=p0.1.size:=I.1;omega,yj (Zp5 y) hdp,Zm6 hok y,o,fun r D e W b=>q _ _ e W ?_⟩;show LEK K D r (a.tpm n n);rw[Yw6];exact b
 ·rw[if_neg (fun z=>c (by have:=V.int.inj z;omega))]
  refine⟨_,M,_,Zc0 B,J,rfl,_,v,_,rfl,G,a,l,g,(numP (n+1) (Zi4 (a,S))).map (fun k=>k.2.1.tpm m k.1),rfl,j,SqL.of Z,Zr4 (f:=fun (k:Nat×Pf)=>k.2.1.tpm m k.1) (fun _ _ z=>z) hU,by rw[yn,Yy3,Zz1],fun r D e b=>q _ _ e.toV (o.keep e) ?_⟩;show LEK K D r (a.tpm m n);rw[Xq4 c (a,S)];exact b
noncomputable abbrev tb3 (T1 T2 T3:Addr):TBs:=[(T1,Zc1),(T2,Zd7),(T3,Zi3)]
noncomputable abbrev tb5 (T1 T2 T3 T4 T5:Addr):TBs:=[(T1,Zc1),(T2,Zd7),(T3,Zi3),(T4,Zf0),(T5,Zk2)]
theorem Xf1 (i:Nat)(h:i<=5000):(ze "there are ").length+(ze (zde ((i:Nat):Int))).length+(ze " turnings").length<=100:=by
 have c:(ze (zde ((i:Nat):Int))).length<=10:=W.KT.len_num (by omega) (Int.lt_of_le_of_lt (show ((i:Nat):Int)<=5000 by omega) (by decide))
 have b:(ze "there are ").length=10:=by decide +kernel
 have a:(ze " turnings").length=9:=by decide +kernel
 omega
theorem Xz4 (i:Nat)(h:i<=5000):((i:Nat):Int).natAbs.log2 < 1920:=by
 have:((i:Nat):Int).natAbs=i:=rfl;rw[this]
 by_cases h0:i=0
 ·subst h0;decide
 ·rw[Nat.log2_lt h0]
  exact ycp h (by decide)
theorem Wn4 {j:Nat}{T4 T5:Addr}(hN:[T1,T2,T3,T4,T5].Nodup){f_cv0:Addr}{fd_cv0:zc}(F_cv0:FunT K "turned" "turned" (top 51) f_cv0 fd_cv0 T5)(hB:∀h,K.In h->h.BuiltinsAt mg T5)(hT:ye≠T5){aNoTurning aLarge:Addr}(m_ai0:MgI mg "NoTurning" aNoTurning)(x_NoTurning:XCls K aNoTurning)(m_Large:MgI mg "Large" aLarge)(x_Large:XCls K aLarge){k1 k2:Tok}(m_ah0:mg "MOST_PARTS"=some (.int 1000 k1))(m_ag0:mg "MOST_DEEP"=some (.int 120 k2))(C_standing:Cl P w K mg base (j+2) "standing" pq32 (sp_standingL K))(C_turning_places:Cl P w K mg base (j+2) "turning_places" ["pieces"] (sp_tplacesL K))(C_term_parts:Cl P w K mg base (j+2) "term_parts" pq32 (sp_tpartsL K))(C_term_deep:Cl P w K mg base (j+2) "term_deep" pq32 (sp_tdeepL K T4 Zf0)){fd_da0:zc}(G_da0:∀K' base,KLe K K'->FnOk P w K' mg base CX0 j f_da0 fd_da0 pq20 (sp_withL K'))(m_da0:MgI mg "with_inner" f_da0)(k_da0:∀K',KLe K K'->zan K' (.ref f_da0)=true)(b_da0:Binds K fd_da0 pq20 []){f_cw0:Addr}{fd_cw0:zc}(G_cw0:∀K' base,KLe K K'->FnOk P w K' mg base CX0 j f_cw0 fd_cw0 pq32 (sp_itselfL K' (tb3 T1 T2 T3)))(m_cw0:MgI mg "turned_itself" f_cw0)(k_cw0:∀K',KLe K K'->zan K' (.ref f_cw0)=true)(b_cw0:Binds K fd_cw0 pq32 []){fd_ct0:zc}(m_ct0:MgI mg "term_folded" f_ct0)(k_ct0:KpI K f_ct0)(b_ct0:Binds K fd_ct0 pq21 []) (GF:∀(K':W.Frag) (base:Heap) (tb:TBs) (J:Hp->Prop) (R:RPn) (p0:Pf) (f1:Addr) (fd1:zc),KLe K K'->(∀H H',SameV (tb.map (·.1)) H H'->J H->J H')->(∀H H' n p v,KeepL K' H H'->R H n p v->R H' n p v) ->
   FnOk P w K' mg base CX0 (j+1) f1 fd1 ["place","inner"] (sp_ofpN tb J R p0)->zan K' (.ref f1)=true->Binds K' fd1 ["place","inner"] []->FnOk P w K' mg base CX0 (j+2) f_ct0 fd_ct0 pq21 (sp_tfoldNL K' tb J R p0 f1)) (m_len:mg "len"=none):
  FnOk P w K mg base (CXe P w) (j+3) f_cv0 fd_cv0 pq29 (sp_turnedL K (tb5 T1 T2 T3 T4 T5) aNoTurning aLarge):=by
 refine F_cv0.okX sc_cv0 (fun vs H Q E h=>?_) (fun c A q9 s H vs Q E hC hr h=>?_)
 ·obtain⟨v,t,i,rfl,_⟩:=h
  rfl
 obtain⟨v,t,i,rfl,v4,hz,y9,y6,q6,q4,qe,q⟩:=h
 have y8:∀i∈([1,2,3]:List Nat),∃x,(["term","number","pieces","places","of_piece","told"]:List Str)[i]?=some x/\(Za3 (top 51)).names.lookup x=some .cell/\(fun _:Str=>true) x=true:=by
  intro i hi;simp only[zd,zq,or_false] at hi;rcases hi with rfl | rfl | rfl
  ·exact⟨"number",rfl,rfl,rfl⟩
  ·exact⟨"pieces",rfl,rfl,rfl⟩
  ·exact⟨"places",rfl,rfl,rfl⟩
 refine⟨_,(Za2 (Zw6 (i:=2) sc_cv0.nd rfl (Or.inr rfl) (Zb8 C_standing hr (Za0 (pvM 0) Za1)))
 (Za2 (Zw6 (i:=3) sc_cv0.nd rfl (Or.inr rfl) (Zb8 C_turning_places hr (Za0 (pvM 2) Za1)))
 (Za2 (Zd1 (Xi3 (Zy6 (Yn5) (Zt3) Za4 (pvM 1) (Ze2 Zc6 (by exact rfl) m_len Ze7 (Za0 (pvM 3) Za1))))
  (Za7 (Yx7 Yw1 rfl (by exact rfl) m_ai0 x_NoTurning (Za0 (Wc2 (Xw3 (Wb8 (Ze2 Zc6 (by exact rfl) m_len Ze7 (Za0 (pvM 3) Za1)) (Xw3 Wl5)))) Za1)))
  Zb4)
 (Za2 (Zr2 (st:=Zc7) (i:=4) (qual:=Zh0) (ds:=Zk2) rfl sc_cv0.nd rfl (Or.inl rfl) (Zf7 (fun y hy hf=>Zj5 (Zu8 y hy hf))) rfl hC hB hT rfl (by simp[Zk2]) (by decide +kernel) rfl rfl rfl)
 (Za2 (pst 5 sc_cv0.nd (Zp6 (ix:=[1,2,3]) hr (by exact rfl) m_ct0 k_ct0 b_ct0 y8 (Za0 (pvM 2) (Za0 (pvM 4) Za1))))
 (Za2 (Zd1 ((Yh3 (ptcM (Yn6) (Zb8 C_term_parts hr (Za0 (pvM 5) Za1)) (Zv7 (v:=.int 1000) (by exact rfl) m_ah0 ⟨_,rfl⟩)) (Zs9 (ptcM (Yn6) (Zb8 C_term_deep hr (Za0 (pvM 5) Za1)) (Zv7 (v:=.int 120) (by exact rfl) m_ag0 ⟨_,rfl⟩))))).pt
  (Za7 (Yx7 Yw1 rfl (by exact rfl) m_Large x_Large (Za0 Zb1 Za1)))
  Zb4)
 (Za7 (Zb2 (pvM 5))))))))),?_⟩
 generalize hX:cxOf (CXe P w) P w K mg base ["term","number","pieces","places","of_piece","told"] "turned" (Za3 (top 51)) f_cv0 (.ref c) A q9 s H E=X
 have eP:X.prog=P:=by rw[<- hX];rfl
 have ew:X.w=w:=by rw[<- hX];rfl
 have eK:X.K=K:=by rw[<- hX];rfl
 have em:X.mg=mg:=by rw[<- hX];rfl
 have eN:X.N=(["term","number","pieces","places","of_piece","told"]:List Str):=by rw[<- hX];rfl
 have ec:(zbg "turned" (Za3 (top 51)) s.heap.objs.size f_cv0 (.ref c)).cells=X.env.cells:=by rw[<- hX];rfl
 refine sqk (fun C=>∀H' o us,Same H H'->H' o=some (.lst us)->Paired (LPf K H') us (t.pre 0)->C [some v,some (.int i),some (.ref o),none,none,none] H') (fun C a=>?_) fun H1 o us G z3 z1=>?_
 ·walk_at "1"
  exact⟨v,t,rfl,v4,by omega,fun r H' us e _ h hu=>a _ r us e h hu⟩
 refine sqk (fun C=>∀H' B,Same H1 H'->H' B=some (.lst (natW (idxT 0 (t.pre 0))))->C [some v,some (.int i),some (.ref o),some (.ref B),none,none] H') (fun C a=>?_) fun O B F q8=>?_
 ·walk_at "1"
  exact⟨o,us,t.pre 0,rfl,z3,z1,by rw[Zg0];omega,fun r H' e _ h=>a _ r e h⟩
 have q5:=G.trans F;have q7:(idxT 0 (t.pre 0)).length<=5000:=yj Yj9 (by rw[Zg0];omega);generalize y7:idxT 0 (t.pre 0)=ms at q8 q4 qe q q7;refine sqk (fun C=>0<=i->i < (ms.length:Nat)->C [some v,some (.int i),some (.ref o),some (.ref B),none,none] O) (fun C a=>?_) fun i0 i1=>?_
 ·walk_at "1"
  have z7:¬(0<=i/\i < (ms.length:Nat))->∀I:List V,I=natW ms->(ybx++ze "there are ").length<=zi/\((I.length:Nat):Int).natAbs.log2 < 1920/\(ybx++ze "there are "++ze (zde ((I.length:Nat):Int))).length<=zi/\(ybx++ze "there are "++ze (zde ((I.length:Nat):Int))++ze " turnings").length<=zi/\1<=zi/\∀(e:Addr) (H':Hp),Xtd O e (yt aNoTurning) none H'->E (yt e) none H':=fun S I ey=>by
   have hy:I.length<=5000:=by rw[ey,yn];exact q7
   have h1:=Xf1 _ hy;have h2:=Xz4 _ hy
   have h3:(ybx++ze "there are ").length<=100:=by rw[zbp];show 0+_<=_;omega
   have h4:(ybx++ze "there are "++ze (zde ((I.length:Nat):Int))).length<=100:=by rw[zbp,zbp];show 0+_+_<=_;omega
   have h5:(ybx++ze "there are "++ze (zde ((I.length:Nat):Int))++ze " turnings").length<=100:=by rw[zbp,zbp,zbp];show 0+_+_+_<=_;omega
   exact⟨zv (Zi9 (by omega)),h2,zv (Zi9 (by omega)),zv (Zi9 (by omega)),by decide,fun e H' x=>qe S e O H' q5.toV (q6.keep q5) x⟩
  have sq:SqL X.K O B (natW ms):=SqL.of q8
  by_cases c0:0<=i
  ·rw[if_pos c0]
   refine⟨natW ms,.inl sq,?_⟩;rw[yn]
   by_cases Y:i < (ms.length:Nat)
   ·rw[decide_eq_true Y,if_neg (by decide)]
    exact a c0 Y
   ·rw[decide_eq_false Y,if_pos (by rfl)]
    obtain⟨b1,b2,b3,b4,b5,b6⟩:=z7 (fun z=>Y z.2) _ rfl;exact⟨b1,natW ms,.inl sq,b2,b3,b4,b4,b5,b6⟩
  ·rw[if_neg c0,if_pos (by rfl)]
   obtain⟨b1,b2,b3,b4,b5,b6⟩:=z7 (fun z=>c0 z.1) _ rfl;exact⟨b1,natW ms,.inl sq,b2,b3,b4,b4,b5,b6⟩
 obtain⟨ix,rfl⟩:=Int.eq_ofNat_of_zero_le i0;obtain⟨m,hm⟩:∃m,ms[ix]?=some m:=⟨_,zb (by omega)⟩;obtain⟨q1,q2⟩:=q ix m rfl hm;have hmm:=yo hm;have L:∀{T:Addr} {d:List (Pos×Str)},(T,d)∈tb5 T1 T2 T3 T4 T5->TabOk O T d:=fun h=>(q6 _ h).keep q5;have y3:TabOk O T1 Zc1:=L (by simp);have y2:TabOk O T2 Zd7:=L (by simp);have y1:TabOk O T3 Zi3:=L (by simp);have y0:TabOk O T4 Zf0:=L (by simp);have z9:TabOk O T5 Zk2:=L (by simp);simp only[yaf,zd,zq,or_false,not_or] at hN;refine hid fun Gz M=>?_;obtain⟨⟨n12,n13,j8,j7⟩,⟨v9,j6,j5⟩,⟨j4,j3⟩,j2,_⟩:=hN;refine M ?_;refine sqk (fun C=>∀H' f1,SameU T5 O H'->TabOk H' T5 Zk2->FnFz H' f1 "of_piece" Zh0 (Zd4 Zc7) (Zc8 Zc7) (Za3 Zc7) (Zi1 X.env.cells (Za3 Zc7).names [])->C [some v,some (.int (ix:Nat)),some (.ref o),some (.ref B),some (.ref f1),none] H') (fun C a=>?_) fun H4 f1 s4 z8 v8=>?_
 ·exact⟨z9,fun f H' n sm tb fn=>a _ f sm tb (ec▸fn)⟩
 have u1:TabOk H4 T1 Zc1:=s4.toV.tab (by simpa using j7) y3;have u2:TabOk H4 T2 Zd7:=s4.toV.tab (by simpa using j5) y2;have u3:TabOk H4 T3 Zi3:=s4.toV.tab (by simpa using j3) y1;have u4:TabOk H4 T4 Zf0:=s4.toV.tab (by simpa using j2) y0;refine sqk (fun C=>∀H' r,SameV ((tb5 T1 T2 T3 T4 T5).map (·.1)) H H'->Tabs H' (tb5 T1 T2 T3 T4 T5)->LEK K H' r (t.tpm m 0)->C [some v,some (.int (ix:Nat)),some (.ref o),some (.ref B),some (.ref f1),some r] H') (fun C a=>?_) fun H5 r v5 t5 q0=>?_
 ·obtain⟨o1,Y,p1,a1,a2,a3,a4⟩:=v8.objs2
  show Zl7 X _ _ _ _ [1,2,3] _ _ _ _;unfold Zl7;walk_at "1";refine⟨fun i hi=>?_,[(f1,o1),(Y,p1)],a1,fun K' cs ok g U q3 v0=>?_⟩
  ·simp only[zd,zq,or_false] at hi
   rcases hi with rfl | rfl | rfl
   ·exact⟨_,rfl⟩
   ·exact⟨_,rfl⟩
   ·exact⟨_,rfl⟩
  rw[eK] at g U;obtain⟨fd1,G1⟩:=a4 K' fun p D=>q3 p (zy _ D)
  have cw:Zu9 X K' "number" (.int (ix:Nat))/\Zu9 X K' "pieces" (.ref o)/\Zu9 X K' "places" (.ref B)/\∀p∈cs,∀j9 n,p.2.data≠.seq j9 n:=by
   cases v0 with
   |cons h1 r1 =>
    cases r1 with
    |cons h2 r2 =>
     cases r2 with
     |cons h3 r3 =>
      cases r3;refine hid fun Gz M=>?_;obtain⟨x1,v1,u1,G,F,e3,e4,e5⟩:=h1;refine M ?_;refine hid fun Gz M=>?_;obtain⟨x2,v2,u2,g1,g2,g3,g4,g5⟩:=h2;refine M ?_;refine hid fun Gz M=>?_;obtain⟨x3,v3,u3,f1,f2,f3,f4,f5⟩:=h3;refine M ?_;rw[eN] at G g1 f1;cases G;cases F;cases g1;cases g2;cases f1;cases f2;refine⟨⟨_,_,u1,e3,q3 _ (zm _ (by simp)),e4,e5⟩,⟨_,_,u2,g3,q3 _ (zm _ (by simp)),g4,g5⟩,⟨_,_,u3,f3,q3 _ (zm _ (by simp)),f4,f5⟩,fun p D j9 n z=>?_⟩;simp only[zd,zq,or_false] at D;rcases D with rfl | rfl | rfl
      ·rw[e4] at z;cases z
      ·rw[g4] at z;cases z
      ·rw[f4] at z;cases z
  have C1:Caught K' (Za3 Zc7) (Zi1 X.env.cells (Za3 Zc7).names []) ["places","number","pieces"] [.ref B,.int (ix:Nat),.ref o] :=
   Zk3 ok rfl (by decide +kernel) (by decide +kernel) fun i y u G F=>by
    match i,G,F with
    | 0,G,F=>cases G;cases F;exact cw.2.2.1
    | 1,G,F=>cases G;cases F;exact cw.1
    | 2,G,F=>cases G;cases F;exact cw.2.1
  have x1:=a3 Zc1 (by decide +kernel);have x2:=a3 Zd7 (by decide +kernel);have x3:=a3 Zi3 (by decide +kernel);generalize [(f1,o1),(Y,p1)]=xs at a1 a2 x1 x2 x3 q3 U ⊢;have inn:=Ya4 a1 g;have z6:SameT H1 H4:=F.toT.trans s4.toT;have z5:H4 o=some (.lst us):=z6 _ _ (fun _ z=>nomatch z) z3;have z4:H4 B=some (.lst (natW ms)):=s4.toT _ _ (fun _ z=>nomatch z) q8
  have j1:∀{l:Addr} {I:List V},H4 l=some (.lst I)->l ∉ xs.map (·.1):=fun {l I} h z=>by
   obtain⟨p,D,e⟩:=zax.mp z;have:=a1 p D;rw[e,h] at this;cases this
  refine⟨sp_tfoldNL K' (tb3 T1 T2 T3) (JPtL K' o B us (t,0) ms) (RTnL K' m) (t,0) f1,fun Z=>?_,?_⟩
  ·rw[eP,ew,em]
   exact GF K' Z _ _ _ (t,0) f1 fd1 g Xl7 (fun H H' n p v k h=>LEK.keep h k)
    (Zt4 G1 hm y7.symm hz y9 y6 C1 (.of (G_da0 K' Z g) m_da0 (k_da0 K' g) (b_da0.le g)) (.of (G_cw0 K' Z g) m_cw0 (k_cw0 K' g) (b_cw0.le g))) G1.kp (G1.binds fun _ _ _ _ us hl=>Ken.len2 hl fun _ _=>rfl)
  ·have z2:SqL K' (remX xs H4) o us:=.inl (.inl (by rw[Zd2 (j1 z5)];exact z5))
   have y5:SqL K' (remX xs H4) B (natW ms):=.inl (.inl (by rw[Zd2 (j1 z4)];exact z4));have z0:Paired (LPf K' (remX xs H4)) us (preP (t,0)):=Paired.mapP z1 fun _ p z=>Xk9 a1 g (LPf.keep z (SameT.keepL z6));refine⟨o,us,rfl,⟨z2,z0,y5⟩,?_,z2,z0,by show t.size<=20000;omega,fun r H5 e5 t5 q0 n5=>?_⟩
   ·intro x hx
    simp only[zd,zq,or_false] at hx;rcases hx with rfl | rfl | rfl
    ·exact u1.rem a1 x1
    ·exact u2.rem a1 x2
    ·exact u3.rem a1 x3
   have sb:=e5.back
   refine a _ r ((q5.toV.trans (s4.toV.mono (by simp))).trans (sb.mono (by
    intro b S;simp only[yan,List.map_nil,zd,zq,or_false] at S ⊢;rcases S with S | S | S
    ·exact .inl S
    ·exact .inr (.inl S)
    ·exact .inr (.inr (.inl S))))) ?_ (Yj4 U (fun p D=>?_) n5 q0)
   ·intro x hx
    simp only[zd,zq,or_false] at hx;rcases hx with rfl | rfl | rfl | rfl | rfl
    ·exact (t5 _ (by simp)).back n5
    ·exact (t5 _ (by simp)).back n5
    ·exact (t5 _ (by simp)).back n5
    ·exact sb.tab (by simp only[yan,List.map_nil,zd,zq,or_false,not_or];exact⟨fun z=>j8 z.symm,fun z=>j6 z.symm,fun z=>j4 z.symm⟩) u4
    ·exact sb.tab (by simp only[yan,List.map_nil,zd,zq,or_false,not_or];exact⟨fun z=>j7 z.symm,fun z=>j5 z.symm,fun z=>j3 z.symm⟩) z8
   ·rcases yg.mp D with D | D
    ·exact a2 p D
    ·exact cw.2.2.2 p D
 refine sqk (fun C=>∀H',SameV ((tb5 T1 T2 T3 T4 T5).map (·.1)) H H'->Tabs H' (tb5 T1 T2 T3 T4 T5)->LEK K H' r (t.tpm m 0)->(t.tpm m 0).size<=1000->(t.tpm m 0).deep<=120->C [some v,some (.int (ix:Nat)),some (.ref o),some (.ref B),some (.ref f1),some r] H') (fun C a=>?_) fun H6 v6 t6 y4 g1 g2=>?_
 ·walk_at "1"
  refine⟨r,_,rfl,q0,q4 ix m rfl hm,fun H6 e6=>⟨_,rfl,?_⟩⟩;have v6:=v5.trans e6.toV;have t6:=t5.keep e6;refine ite2 (fun Y=>?_) (fun Y=>?_)
  ·rw[if_pos trivial]
   exact⟨by decide,fun e H' x=>q2 (fun z=>by have:=z.1;omega) e _ H' v6 t6 x⟩
  ·refine⟨r,_,rfl,LEK.keep q0 e6.keepL,q4 ix m rfl hm,t6 (T4,Zf0) (by simp),fun H7 e7 t7=>⟨_,rfl,?_⟩⟩
   have v7:=v6.trans (e7.mono (by simp))
   have j0:Tabs H7 (tb5 T1 T2 T3 T4 T5):=by
    intro x hx;simp only[zd,zq,or_false] at hx;rcases hx with rfl | rfl | rfl | rfl | rfl
    ·exact e7.tab (by simpa using j8) (t6 (T1,Zc1) (by simp))
    ·exact e7.tab (by simpa using j6) (t6 (T2,Zd7) (by simp))
    ·exact e7.tab (by simpa using j4) (t6 (T3,Zi3) (by simp))
    ·exact t7
    ·exact e7.tab (by simpa using fun z=>j2 z.symm) (t6 (T5,Zk2) (by simp))
   refine ite2 (fun c2=>⟨by decide,fun e H' x=>q2 (fun z=>by have:=z.2;omega) e _ H' v7 j0 x⟩) (fun c2=>a _ v7 j0 (LEK.keep q0 (e6.keepL.trans (SameT.keepL e7.toT))) (by omega) (by omega))
 walk_at "1";exact q1 ⟨g1,g2⟩ _ _ v6 t6 y4
theorem Wi9:FnScope ["term"] ["term"] (Za3 (top 50)):=scm (by decide +kernel)
theorem Wn1 {k:Nat}(F_cy0:Df K mg "turnings" (top 50) pq32)(C_standing:Cl P w K mg base k "standing" pq32 (sp_standingL K))(C_turning_places:Cl P w K mg base k "turning_places" ["pieces"] (sp_tplacesL K))(m_len:mg "len"=none):Cl P w K mg base (k+1) "turnings" pq32 (sp_turningsL K):=by
 refine F_cy0.okG Wi9 fun p n A d s H o Q E b h y c=>?_;obtain⟨v,t,rfl,j,a,q⟩:=h;refine c _ ⟨_,(Za7 (Zb2 (Ze2 Zc6 (by exact rfl) m_len Ze7 (Za0 (Zb8 C_turning_places b (Za0 (Zb8 C_standing b (Za0 (pvM 0) Za1)) Za1)) Za1)))),?_⟩;walk_at "1";refine⟨v,t,rfl,j,a,fun r x f e _ h i=>⟨r,f,t.pre 0,rfl,h,i,by rw[Zg0];exact a,fun g u m _ l=>⟨g,rfl,_,.inl (SqL.of l),?_⟩⟩⟩;rw[yn];exact q _ (e.trans m)
theorem sc_ba0:FnScope ["_law_term","_law_given_here","_law_one","_law_other"] ["_law_term","_law_given_here"] (Za3 (top 68)):=scm (by decide +kernel)
theorem sc_az0:FnScope ["_law_term","_law_given_here","_law_shape","_law_one","_law_other"] ["_law_term","_law_given_here"] (Za3 (top 67)):=scm (by decide +kernel)
theorem sc_ay0:FnScope ["_law_term","_law_given_here","_law_head","_law_inner"] ["_law_term","_law_given_here"] (Za3 (top 69)):=scm (by decide +kernel)
theorem Wq6 {k:Nat}{f_ba0:Addr}{fd_ba0:zc}(F_ba0:Fun K "_law_kind_of_two" "_law_kind_of_two" (top 68) f_ba0 fd_ba0)(C__law_kind:Cl P w K mg base k "_law_kind" pq10 (sp_lkQ K n)):Fk0 P w K mg base (k+1) f_ba0 fd_ba0 pq10 (sp_lkQ2 K n):=by
 refine F_ba0.okG sc_ba0 fun q1 A X s H vs Q E N h Gx T=>?_;obtain⟨v,u,a,b,g0,i,U,Γ,rfl,hv,O,da,db,G,hl,q⟩:=h;obtain⟨p,x,y,rfl,M,ha,hb⟩:=hv
 obtain⟨g,h,F,D⟩:∃g h,HasQ qk Γ a g/\HasQ qk Γ b h:=by cases O<;>exact⟨_,_,by assumption,by assumption⟩
 refine T _ ⟨_,(Za2 (pst 2 sc_ba0.nd (Zb8 C__law_kind N (Za0 (pxtM (pvM 0) Za4) (Za0 (pvM 1) Za1))))
 (Za2 (pst 3 sc_ba0.nd (Zb8 C__law_kind N (Za0 (pxtM (pvM 0) Za4) (Za0 (pvM 1) Za1))))
 (Za2 (Zd1 ((Yh3 (ptcM (Ye8) (pvM 2) Zk8) (Zs9 (ptcM (Ye8) (pvM 3) Zk8)))).pt
  (Za7 (Zb2 Zk8))
  Zb4)
 (Za2 (Zd1 (ptcM (Ze0) (pxtM (pvM 0) Za4) Zb1)
  (Za7 (Zb2 (Zb5 (Za0 Zb1 (Za0 (pvM 2) (Za0 (pvM 3) Za1))))))
  Zb4)
 (Za2 (Zd1 ((Yh3 (ptcM (Yn4) (pxtM (pvM 2) Za4) Zb1) (Zs9 (ptcM (Yi5 (Yp1 N)) (pxtM (pvM 2) Za4) (pvM 3))))).pt
  (Za7 (Zb2 Zk8))
  Zb4)
 (Za7 (Zb2 (pxtM (pvM 2) Za4)))))))),?_⟩
 refine sqk (fun C=>∀c r,Same H c->Lt g c r->C [some (.ref p),some (.ref i),some r,none] c) (fun C d=>?_) fun H1 B I l=>?_
 ·walk_at "1"
  exact⟨_,M,_,rfl,x,a,g,i,U,Γ,rfl,ha,F,da,G,by omega,fun r c e o=>d _ r e o⟩
 refine sqk (fun C=>∀c r,Same H1 c->Lt h c r->C [some (.ref p),some (.ref i),some B,some r] c) (fun C d=>?_) fun W t V J=>?_
 ·walk_at "1"
  exact⟨_,I.sqt M,_,rfl,y,b,h,i,U,Γ,rfl,LEK.keep hb I.keepL,D,db,G.keep I,by omega,fun r c e o=>d _ r e o⟩
 have m:=I.trans V;have l:=Lt.keep l V;have Y:=m.sqt M;refine sqk (fun C=>C [some (.ref p),some (.ref i),some B,some t] W) (fun C d=>?_) ?_
 ·walk_at "1"
  rw[if_neg (Zm0 l),if_neg (Zm0 J)];exact d
 refine sqt (fun S c=>S=[some (.ref p),some (.ref i),some B,some t]/\c=W/\u=.use) ?_ ?_
 ·intro C d
  walk_at "1";refine⟨_,Y,_,rfl,rfl,?_⟩
  cases u with
  |pair =>
   rw[if_pos (by rfl)]
   cases O with
   |pair z f h2 =>
    cases Zc9 f.k F.k;cases Zc9 h2.k D.k;exact⟨by decide,fun p1 f=>q _ _ (m.trans (Za6 f _)) ⟨p1,B,t,rfl,Za5,Lt.keep l (Za6 f _),Lt.keep J (Za6 f _)⟩⟩
  |use =>
   rw[if_neg (by decide)];exact d _ _ ⟨rfl,rfl,rfl⟩
 rintro q0 H4 ⟨rfl,rfl,rfl⟩
 obtain rfl:g=.nd .thn h g0:=by
  cases O with
  |use z f h2=>rw[Zc9 h2.k D.k] at f;exact Zc9 F.k f.k
 obtain⟨Z,x1,y1,rfl,R,l1,l2⟩:=l;have kg:=F.here;refine sqk (fun C=>C [some (.ref p),some (.ref i),some (.ref Z),some t] H4) (fun C d=>?_) ?_
 ·walk_at "1"
  refine⟨_,.inl (.inl R),_,Zc0 (j:=0) rfl,rfl,?_⟩;rw[if_neg (by decide)];have L:=D.here;refine⟨_,.inl (.inl R),_,rfl,h.data,Lt.isT l1,h.data,Lt.isT J,h.lay L.1,h.lay L.1,by rw[Tm.depth];have:=L.2;omega,?_⟩;rw[if_pos trivial,Tm.eqv,if_neg (by simp)];exact d
 walk_at "1";exact⟨_,.inl (.inl R),_,rfl,q _ _ m l2⟩
theorem Wq7 {k:Nat}{f_az0:Addr}{fd_az0:zc}(F_az0:Fun K "_law_kind_of_cases" "_law_kind_of_cases" (top 67) f_az0 fd_az0)(C__law_kind:Cl P w K mg base k "_law_kind" pq10 (sp_lkQ K n)):Fk0 P w K mg base (k+1) f_az0 fd_az0 pq10 (sp_lkQ3 K n):=by
 refine F_az0.okG sc_az0 fun q3 A q2 s H vs Q E J h Gx q0=>?_;obtain⟨v,a,b,c,g0,F,g,Γ,rfl,hv,hq,da,db,dc,G,hl,q⟩:=h;refine hid fun Gz Z=>?_;obtain⟨p,x,y,z,rfl,V,ha,hb,hc⟩:=hv;refine Z ?_
 obtain⟨h,u,S,qa,qb,qc⟩:∃h u,qk g0/\HasQ qk Γ a (.nd .one h u)/\HasQ qk (h::Γ) b g0/\HasQ qk (u::Γ) c g0:=by
  cases hq with | cs z D B h3=>exact⟨_,_,z,D,B,h3⟩
 refine q0 _ ⟨_,(Za2 (pst 2 sc_az0.nd (Zb8 C__law_kind J (Za0 (pxtM (pvM 0) Za4) (Za0 (pvM 1) Za1))))
 (Za2 (Zd1 ((Yh3 (ptcM (Ye8) (pvM 2) Zk8) (Zs9 (ptcM (Yn4) (pxtM (pvM 2) Za4) Zb1)))).pt
  (Za7 (Zb2 Zk8))
  Zb4)
 (Za2 (pst 3 sc_az0.nd (Zb8 C__law_kind J (Za0 (pxtM (pvM 0) Za4) (Za0 (Zb6 Yb1 (Ze1 (Za0 (pxtM (pvM 2) Za4) Za1)) (pvM 1)) Za1))))
 (Za2 (pst 4 sc_az0.nd (Zb8 C__law_kind J (Za0 (pxtM (pvM 0) Za4) (Za0 (Zb6 Yb1 (Ze1 (Za0 (pxtM (pvM 2) Za4) Za1)) (pvM 1)) Za1))))
 (Za2 (Zd1 ((Yh3 (ptcM (Ye8) (pvM 3) Zk8) (Zs9 (ptcM (Yi5 (Yp1 J)) (pvM 3) (pvM 4))))).pt
  (Za7 (Zb2 Zk8))
  Zb4)
 (Za7 (Zb2 (pvM 3)))))))),?_⟩
 refine sqh (fun C=>∀f r,Same H f->Lt (.nd .one h u) f r->C [some (.ref p),some (.ref F),some r,none,none] f) (fun C i=>?_) fun Ux Y H1 r1 M o1=>?_
 ·walk_at "1"
  exact⟨_,V,_,rfl,x,a,_,F,g,Γ,rfl,ha,qa,da,G,by omega,fun r f e o=>i _ r e o⟩
 obtain⟨T,O,N,rfl,W,l1,l2⟩:=o1;refine Y _ _ ?_;refine sqk (fun C=>C [some (.ref p),some (.ref F),some (.ref T),none,none] H1) (fun C i=>?_) ?_
 ·walk_at "1"
  rw[if_neg (fun z=>nomatch z)];refine⟨_,.inl (.inl W),_,Zc0 (j:=0) rfl,rfl,?_⟩;rw[if_neg (by decide)];exact i
 have X:=G.keep M;refine sqk (fun C=>∀f r,Same H1 f->Lt g0 f r->C [some (.ref p),some (.ref F),some (.ref T),some r,none] f) (fun C i=>?_) fun H3 r2 L t=>?_
 ·walk_at "1"
  refine⟨_,M.sqt V,_,rfl,_,.inl (.inl W),_,rfl,by decide,fun p1 D=>?_⟩;have m:=Za6 D (.lst [O]);refine⟨_,Za5,g,m _ _ X.l,zv (Zd9 (by show 1+g.length<=_;omega)),fun U B=>?_⟩;have R:=Za6 B (.lst ([O]++g));have d:=m.trans R;exact⟨y,b,g0,U,O::g,h::Γ,rfl,LEK.keep hb (M.trans d).keepL,qb,db,X.more d Za5 (Lt.keep l1 d),by show g.length+1+b.size<=4000;omega,fun r f e o=>i _ r (d.trans e) o⟩
 have G3:=X.keep L;have I:=M.trans L;refine sqk (fun C=>∀f r,Same H3 f->Lt g0 f r->C [some (.ref p),some (.ref F),some (.ref T),some r2,some r] f) (fun C i=>?_) fun H4 r3 e4 o3=>?_
 ·walk_at "1"
  refine⟨_,I.sqt V,_,rfl,_,.inl (.inl (L _ _ W)),_,rfl,by decide,fun p1 D=>?_⟩;have m:=Za6 D (.lst [N]);refine⟨_,Za5,g,m _ _ G3.l,zv (Zd9 (by show 1+g.length<=_;omega)),fun U B=>?_⟩;have R:=Za6 B (.lst ([N]++g));have d:=m.trans R;exact⟨z,c,g0,U,N::g,u::Γ,rfl,LEK.keep hc (I.trans d).keepL,qc,dc,G3.more d Za5 (Lt.keep l2 (L.trans d)),by show g.length+1+c.size<=4000;omega,fun r f e o=>i _ r (d.trans e) o⟩
 have t:=Lt.keep t e4;have q1:=I.trans e4;walk_at "1";rw[if_neg (Zm0 t)];refine⟨g0.data,Lt.isT t,g0.data,Lt.isT o3,g0.lay S.1,g0.lay S.1,by rw[Tm.depth];have:=S.2;omega,?_⟩;rw[if_pos trivial,Tm.eqv,if_neg (by simp)];exact q _ _ q1 t
theorem Wq8 {k:Nat}{f_ay0:Addr}{fd_ay0:zc}(F_ay0:Fun K "_law_kind" "_law_kind" (top 69) f_ay0 fd_ay0)(G_ay0:Fk0 P w K mg base k f_ay0 fd_ay0 pq10 (sp_lkQ K n))(m_ay0:MgI mg "_law_kind" f_ay0)(k_ay0:KpI K f_ay0)(b_ay0:Binds K fd_ay0 pq10 [])(C__law_kind_of_two:Cl P w K mg base k "_law_kind_of_two" pq10 (sp_lkQ2 K n))(C__law_kind_of_cases:Cl P w K mg base k "_law_kind_of_cases" pq10 (sp_lkQ3 K n))(m_len:mg "len"=none)(m_int:mg "int"=none):Fk0 P w K mg base (k+1) f_ay0 fd_ay0 pq10 (sp_lkQ K (n+1)):=by
 refine F_ay0.okG sc_ay0 fun z4 A z0 s H vs Q E hr h Gx j5=>?_;obtain⟨v,t,g0,F,D,Γ,rfl,hv,N,dt,G,hl,q⟩:=h
 refine j5 _ ⟨_,(Za2 (pst 2 sc_ay0.nd (pxtM (pvM 0) Za4))
 (Za2 (Zd1 (ptcM (Ze0) (pvM 2) Zb1)
  (Za2 (Zd1 (Zy6 (Yn5) (Zt3) Za4 (pxtM (pvM 0) Za4) (Ze2 Zc6 (by exact rfl) m_len Ze7 (Za0 (pvM 1) Za1)))
  (Za7 (Zb2 (pxlM (pvM 1) (pxtM (pvM 0) Za4))))
  Zb4)
 (Za7 (Zb2 Zk8)))
  Zb4)
 (Za2 (Zd1 (Zj4 (Zj1) (pvM 2) (Zb5 (Za0 Zb1 (Za0 Zb1 Za1))) (by with_unfolding_all rfl))
  (Za7 (Zb2 (Zb8 C__law_kind_of_two hr (Za0 (pvM 0) (Za0 (pvM 1) Za1)))))
  Zb4)
 (Za2 (Zd1 (ptcM (Ze0) (pvM 2) Zb1)
  (Za7 (Zb2 (Zb8 C__law_kind_of_cases hr (Za0 (pvM 0) (Za0 (pvM 1) Za1)))))
  Zb4)
 (Za2 (Zd1 (ptcM (Ze0) (pvM 2) Zb1)
  (Za2 (pst 3 sc_ay0.nd (pcl G_ay0 hr m_ay0 k_ay0 b_ay0 (Za0 (pxtM (pvM 0) Za4) (Za0 (Zb6 Yb1 (Ze1 (Za0 (pxtM (pvM 0) Za4) Za1)) (pvM 1)) Za1))))
 (Za2 (Zd1 (ptcM (Ye8) (pvM 3) Zk8)
  (Za7 (Zb2 Zk8))
  Zb4)
 (Za7 (Zb2 (Zb5 (Za0 Zb1 (Za0 (pxtM (pvM 0) Za4) (Za0 (pvM 3) Za1))))))))
  Zb4)
 (Za2 (pst 3 sc_ay0.nd (pcl G_ay0 hr m_ay0 k_ay0 b_ay0 (Za0 (pxtM (pvM 0) Za4) (Za0 (pvM 1) Za1))))
 (Za2 (Zd1 ((Yh3 (ptcM (Ye8) (pvM 3) Zk8) (Zs9 ((Yx6 (Zj4 (Zj1) (pvM 2) (Zb5 (Za0 Zb1 (Za0 Zb1 Za1))) (by with_unfolding_all rfl)) (Yh4 (ptcM (Yn4) (pxtM (pvM 3) Za4) Zb1)))).pt))).pt
  (Za7 (Zb2 Zk8))
  Zb4)
 (Za2 (Zd1 (ptcM (Ze0) (pvM 2) Zb1)
  (Za7 (Zb2 (pxtM (pvM 3) Za4)))
  Zb4)
 (Za2 (Zd1 (ptcM (Ze0) (pvM 2) Zb1)
  (Za7 (Zb2 (pxtM (pvM 3) Za4)))
  Zb4)
 (Za2 (Zd1 (ptcM (Ze0) (pvM 2) Zb1)
  (Za7 (Zb2 (pxlM (Ze1 (Za0 Zk8 (Za0 (pxtM (pvM 0) Za4) Za1))) (Zn9 Yc9 (by exact rfl) m_int Yk9 (Za0 (Yi1 (Wc8 (Yp1 hr)) (pvM 3) (Zb5 (Za0 Zb1 Za1)) (Yn8 _)) Za1)))))
  Zb4)
 (Za7 (Zb2 (pxlM (Ze1 (Za0 (Zb5 (Za0 Zb1 (Za0 (pvM 3) (Za0 (pxtM (pvM 0) Za4) Za1)))) (Za0 (Zb5 (Za0 Zb1 (Za0 (pxtM (pvM 0) Za4) (Za0 (pvM 3) Za1)))) Za1))) (Zn9 Yc9 (by exact rfl) m_int Yk9 (Za0 (Yi1 (Ze0) (pvM 2) Zb1 (Yn8 _)) Za1))))))))))))))),?_⟩
 obtain⟨p,xs,rfl,hp,hd⟩:=leK_view.mp hv;have h0:atI xs 0=some (.str t.tag):=Zc0 (LI.tag hd);refine sqk (fun C=>C [some (.ref p),some (.ref F),some (.str t.tag),none] H) (fun C f=>?_) ?_
 ·walk_at "1"
  exact⟨_,hp,_,h0,f⟩
 refine sqk (fun C=>¬t.tag="at"->C [some (.ref p),some (.ref F),some (.str t.tag),none] H) (fun C f=>?_) fun n1=>?_
 ·walk_at "1"
  by_cases c:t.tag="at"
  ·rw[if_pos c]
   obtain⟨i,rfl⟩:=Xg7 c;obtain⟨p',e,T⟩:=hv;cases e
   cases N with
   |«at» z hk =>
    have lg:=zk G.p
    have d:i < D.length:=by rw[lg];exact (yc.mp hk).1
    refine⟨_,T,_,rfl,_,rfl,?_⟩;rw[if_pos (by omega)];refine⟨D,.inl (SqL.of G.l),_,rfl,?_⟩;rw[if_pos (by omega)];obtain⟨g',S,R⟩:=paired_get G.p (zb d);rw[hk] at S;cases S;exact⟨_,T,_,rfl,D,_,rfl,SqL.of G.l,D[i],Zc0 (zb d),q _ _ (Same.refl _) R⟩
  ·rw[if_neg c]
   exact f c
 refine sqk (fun C=>∀B,Same H B->¬inV (V.str t.tag) [.str "pair",.str "use"]=true->C [some (.ref p),some (.ref F),some (.str t.tag),none] B) (fun C f=>?_) fun H2 e2 n2=>?_
 ·walk_at "1"
  refine⟨by decide,?_⟩;intro L M;generalize m:upd H L (.tup [.str "pair",.str "use"])=J1;have I:=nw1 M m;have q1:=nw2 (K:=K) m;refine⟨_,.inr q1,rfl,rfl,?_⟩;rw[if_neg yi]
  by_cases c:inV (V.str t.tag) [.str "pair",.str "use"]=true
  ·rw[if_pos c]
   obtain⟨u,a,b,rfl⟩:=Xq7 c;have dt:1+max a.deep b.deep<=n+1:=dt;exact⟨_,u,a,b,g0,F,D,Γ,rfl,LEK.keep hv I.keepL,N,by omega,by omega,G.keep I,hl,fun r B e o=>q _ _ (I.trans e) o⟩
  ·rw[if_neg c]
   exact f _ I c
 have q4:=LEK.keep hv e2.keepL;have G2:=G.keep e2;refine sqk (fun C=>¬t.tag="cases"->C [some (.ref p),some (.ref F),some (.str t.tag),none] H2) (fun C f=>?_) fun n3=>?_
 ·walk_at "1"
  by_cases c:t.tag="cases"
  ·rw[if_pos c]
   obtain⟨a,b,d,rfl⟩:=Wa2 c;have dt:1+max a.deep (max b.deep d.deep)<=n+1:=dt;exact⟨_,a,b,d,g0,F,D,Γ,rfl,q4,N,by omega,by omega,by omega,G2,hl,fun r B e o=>q _ _ (e2.trans e) o⟩
  ·rw[if_neg c]
   exact f c
 refine sqh (fun C=>¬t.tag="fun"->C [some (.ref p),some (.ref F),some (.str t.tag),none] H2) (fun C f=>?_) fun Ux q6 n4=>?_
 ·walk_at "3"
  refine ite2 (fun c=>?_) (fun c=>f c);obtain⟨I,a,rfl⟩:=Wa1 c;obtain⟨p',x,y,e,T,hx,hy⟩:=q4;cases e;have dt:1+a.deep<=n+1:=dt;have hl:D.length+(1+a.size)<=4000:=hl
  obtain⟨h,Y,eg⟩:∃h,HasQ qk (I::Γ) a h/\g0=.nd .thn I h:=by cases N with | fn z h=>exact⟨_,h,rfl⟩
  subst eg;refine sqk (fun C=>∀B r,Same H2 B->Lt h B r->C [some (.ref p),some (.ref F),some (.str "fun"),some r] B) (fun C' j6=>?_) fun H4 r e4 o4=>?_
  ·walk_at "1"
   refine⟨_,T,_,rfl,_,T,_,rfl,by decide,fun L U=>?_⟩;have q8:=Za6 U (.lst [x]);refine⟨_,Za5,D,q8 _ _ G2.l,zv (Zd9 (by show 1+D.length<=_;omega)),fun p2 h2=>?_⟩;have s2:=Za6 h2 (.lst ([x]++D));have q0:=q8.trans s2;exact⟨y,a,h,p2,x::D,I::Γ,rfl,LEK.keep hy q0.keepL,Y,by omega,G2.more q0 Za5 (Lt.keep hx q0),by show D.length+1+a.size<=4000;omega,fun r B e o=>j6 _ r (q0.trans e) o⟩
  have j9:=e2.trans e4;walk_at "1";rw[if_neg (Zm0 o4)];exact⟨_,e4.sqt T,_,rfl,by decide,fun L U=>q _ _ (j9.trans (Za6 U _)) ⟨L,x,r,rfl,Za5,Lt.keep hx (e4.trans (Za6 U _)),Lt.keep o4 (Za6 U _)⟩⟩
 obtain⟨u,a,ss,rfl⟩:=Xq8 n1 n2 n3 n4;obtain⟨p',x,rs,e,T,hx,j4⟩:=q4;cases e;have dt:1+a.deep<=n+1:=dt;have hl:D.length+(1+a.size)<=4000:=hl
 obtain⟨g,Y⟩:∃g,HasQ qk Γ a g:=by cases N<;>exact⟨_,by assumption⟩
 refine q6 _ _ ?_;refine sqk (fun C=>∀B r,Same H2 B->Lt g B r->C [some (.ref p),some (.ref F),some (.str u.str),some r] B) (fun C f=>?_) fun H5 r e5 o5=>?_
 ·walk_at "1"
  exact⟨_,T,_,Zc0 (j:=1) rfl,x,a,g,F,D,Γ,rfl,hx,Y,by omega,G2,by omega,fun r B e o=>f _ r e o⟩
 have j8:=e2.trans e5;have j3:=e5.sqt T;have j0:Paired (fun r s=>Lt s H5 r) rs ss:=Paired.mapP j4 fun _ _ z=>Lt.keep z e5
 have hb:(u=.left->∃x,g=.nd .both g0 x)/\(u=.right->∃x,g=.nd .both x g0):=by
  constructor
  ·rintro rfl;cases N with | left z h=>exact⟨_,Zc9 Y.k h.k⟩
  ·rintro rfl;cases N with | right z h=>exact⟨_,Zc9 Y.k h.k⟩
 refine sqk (fun C=>∀B,Same H5 B->C [some (.ref p),some (.ref F),some (.str u.str),some r] B) (fun C f=>?_) fun H6 e6=>?_
 ·walk_at "1"
  rw[if_neg (Zm0 o5)];refine⟨by decide,?_⟩;intro L M;generalize m:upd H5 L (.tup [.str "left",.str "right"])=J1;have I:=nw1 M m;have q1:=nw2 (K:=K) m;refine⟨_,.inr q1,rfl,rfl,?_⟩;rw[if_neg yi,Wx3]
  by_cases c:u=.left∨u=.right
  ·rw[if_pos (decide_eq_true c)]
   obtain⟨J,X,W,rfl,hg⟩:∃J X W,r=.ref J/\H5 J=some (.tup [.str "both",X,W]):=by
    rcases c with c | c
    ·obtain⟨_,rfl⟩:=hb.1 c
     obtain⟨J,X,W,e,h,_⟩:=o5;exact⟨J,X,W,e,h⟩
    ·obtain⟨_,rfl⟩:=hb.2 c
     obtain⟨J,X,W,e,h,_⟩:=o5;exact⟨J,X,W,e,h⟩
   refine⟨J,rfl,_,.inl (.inl (I _ _ hg)),_,Zc0 (j:=0) rfl,rfl,?_⟩;rw[if_neg (by decide)];exact f _ I
  ·rw[if_neg (fun z=>c (of_decide_eq_true z))]
   exact f _ I
 have Z:=j8.trans e6;have q5:=e6.sqt j3;have o6:Lt g H6 r:=Lt.keep o5 e6;have q9:Paired (fun r s=>Lt s H6 r) rs ss:=Paired.mapP j0 fun _ _ z=>Lt.keep z e6;refine sqk (fun C=>u≠.left->C [some (.ref p),some (.ref F),some (.str u.str),some r] H6) (fun C f=>?_) fun n5=>?_
 ·walk_at "1"
  by_cases c:u=.left
  ·obtain⟨_,rfl⟩:=hb.1 c
   subst c;rw[if_pos (by rfl)];obtain⟨J,X,W,rfl,hg,l1,l2⟩:=o6;exact⟨J,rfl,_,.inl (.inl hg),_,rfl,q _ _ Z l1⟩
  ·rw[if_neg (by cases u<;>first | exact absurd rfl c | decide)]
   exact f c
 refine sqh (fun C=>u≠.right->C [some (.ref p),some (.ref F),some (.str u.str),some r] H6) (fun C f=>?_) fun Ux q6 n6=>?_
 ·walk_at "1"
  by_cases c:u=.right
  ·obtain⟨_,rfl⟩:=hb.2 c
   subst c;rw[if_pos (by rfl)];obtain⟨J,X,W,rfl,hg,l1,l2⟩:=o6;exact⟨J,rfl,_,.inl (.inl hg),_,rfl,q _ _ Z l2⟩
  ·rw[if_neg (by cases u<;>first | exact absurd rfl c | decide)]
   exact f c
 obtain⟨sv,s0,rfl,rfl,U⟩:∃sv s0,rs=[sv]/\ss=[s0]/\Lt s0 H6 sv:=by
  have:∃s0,ss=[s0]:=by cases N<;>first | exact⟨_,rfl⟩ | exact absurd rfl n5 | exact absurd rfl n6
  obtain⟨s0,rfl⟩:=this
  cases q9 with
  |cons S R=>cases R;exact⟨_,_,rfl,rfl,S⟩
 refine q6 _ _ ?_;refine sqk (fun C=>u≠.off->C [some (.ref p),some (.ref F),some (.str u.str),some r] H6) (fun C f=>?_) fun n7=>?_
 ·walk_at "1"
  by_cases c:u=.off
  ·subst c
   rw[if_pos (by rfl)]
   obtain⟨eg,e0⟩:g=.low/\s0=g0:=by cases N with | off z h=>exact⟨Zc9 Y.k h.k,rfl⟩
   subst eg e0;refine⟨_,q5,_,rfl,by decide,fun L j7=>⟨by decide,fun p2 h2=>?_⟩⟩;have S:=Za6 j7 (.lst [.non,sv]);have R:=Za6 h2 (.tup [.str "low"]);have q3:=S.trans R;refine⟨_,Lt.isT (Lt.keep o6 q3),Tm.low.data,isT_low.mpr ⟨p2,rfl,.inl (.inl Za5)⟩,Tm.lay .low trivial,Tm.lay .low trivial,yj (zbs _ _) (by decide),.inr ⟨_,SqL.of (R _ _ Za5),?_⟩⟩;rw[if_neg yi,Tm.eqv];exact⟨sv,rfl,q _ _ (Z.trans q3) (Lt.keep U q3)⟩
  ·rw[if_neg (by cases u<;>first | exact absurd rfl c | decide)]
   exact f c
 walk_at "1";refine⟨_,q5,_,rfl,by decide,?_⟩;intro L M;generalize m:upd H6 L (.tup [.str "one",r,sv])=J1;have S:=nw1 M m;have q1:=nw3 m;refine⟨_,S.sqt q5,_,rfl,by decide,?_⟩;intro p2 j1;generalize q7:upd J1 p2 (.tup [.str "one",sv,r])=J2;have R:=nw1 j1 q7;have q2:=nw3 q7;refine⟨by decide,fun p3 h3=>.inr ⟨_,SqL.of Za5,?_⟩⟩;have z3:=Za6 h3 (.lst [.ref L,.ref p2]);have O:=(S.trans R).trans z3;have j2:=R.trans z3
 cases N with
 |first z h =>
  cases Zc9 Y.k h.k;exact⟨_,rfl,q _ _ (Z.trans O) ⟨L,r,sv,rfl,j2 _ _ q1,Lt.keep o6 O,Lt.keep U O⟩⟩
 |second z h =>
  cases Zc9 Y.k h.k;exact⟨_,rfl,q _ _ (Z.trans O) ⟨p2,sv,r,rfl,z3 _ _ q2,Lt.keep U O,Lt.keep o6 O⟩⟩
 |left _ _=>exact absurd rfl n5
 |right _ _=>exact absurd rfl n6
 |off _ _=>exact absurd rfl n7
theorem sc__law_count:FnScope ["_law_term","_law_many","_law_todo","_law_here"] ["_law_term"] (Za3 (top 70)):=scm (by decide +kernel)
noncomputable def sumT (ts:List Te):Nat:=(ts.map Te.size).sum
theorem Zf4 (t:Te)(ts:List Te):sumT (t::ts)=t.size+sumT ts:=by unfold sumT;rw[yan,List.sum_cons]
theorem Yg6 (a b:List Te):sumT (a++b)=sumT a+sumT b:=by unfold sumT;rw[zam,List.sum_append]
theorem Yg5:∀a:List Te,sumT a.reverse=sumT a
 | []=>rfl
 |t::a=>by rw[zr,Yg6,Yg5 a,Zf4,Zf4];show _+(t.size+0)=_;omega
theorem Yy8:∀a:List Te,a.length<=sumT a
 | []=>zg _
 |t::a=>by rw[Zf4,zac];have:=Yy8 a;have:=size_pos t;omega
theorem Xy2:∀{us:List V} {ts:List Te},Paired (LEK K H) us ts->DnAll K H us (ts.map Te.data)
 | _,_,.nil=>dnAll_nil
 | _,_,.cons h t=>dnAll_cons (LEK.isE h) (Xy2 t)
theorem layE:∀{ts:List Te},(∀s∈ts,s.all Tm.ok)->(PyData.list (ts.map Te.data)).canLay0=true
 | [],_=>rfl
 |t::ts,h=>by
  show (t.data.canLay0&&zcd (ts.map Te.data))=true;rw[Te.lay (h t (.head _)),show zcd (ts.map Te.data)=true from layE fun s hs=>h s (.tail _ hs)];rfl
theorem Yj2 (ds:List PyData):yaw (.list ds) (.list [])=ds.isEmpty:=by
 cases ds<;>simp[yaw,zae]
theorem Yi7 {k:Nat}(F__law_count:Df K mg "_law_count" (top 70) ["_law_term"]):Cl P w K mg base (k+1) "_law_count" ["_law_term"] (sp_lcountL K):=by
 refine F__law_count.okG sc__law_count fun fx j2 A j0 s H vs Q E hr h Gx q9=>?_;obtain⟨v,t,rfl,hT,hz,q6,q⟩:=h
 refine q9 _ ⟨_,(Za2 (pst 1 sc__law_count.nd Za4)
 (Za2 (pst 2 sc__law_count.nd (Ze1 (Za0 (pvM 0) Za1)))
 (Za2 (Zt0 yas (ptcM (Xw4 (Zu2 hr)) (pvM 2) (Ze1 Za1))
  (Za2 (pst 3 sc__law_count.nd (Zw7 yl zbb ybf Zw9 (pvM 2)))
 (Za2 (Xw2 (i:=1) sc__law_count.nd rfl (Or.inl rfl) Za4 Xx6)
 (Za7 (Zd1 (Zj4 (Zj1) (pxtM (pvM 3) Za4) (Zb5 (Za0 Zb1 (Za0 Zb1 Za1))) (by with_unfolding_all rfl))
  (Za7 (Zf3 (Zk4 yl zbw zct Zt5 (pvM 2) (Za0 (Ze1 (Za0 (pxtM (pvM 3) Za4) (Za0 (pxtM (pvM 3) Za4) Za1))) Za1))))
  (Za7 (Zd1 (ptcM (Ze0) (pxtM (pvM 3) Za4) Zb1)
  (Za7 (Zf3 (Zk4 yl zbw zct Zt5 (pvM 2) (Za0 (Ze1 (Za0 (pxtM (pvM 3) Za4) (Za0 (pxtM (pvM 3) Za4) (Za0 (pxtM (pvM 3) Za4) Za1)))) Za1))))
  (Za7 (Zd1 (ptcM (Ze0) (pxtM (pvM 3) Za4) Zb1)
  (Za7 (Zf3 (Zk4 yl yv yx Ze6 (pvM 2) (Za0 (pxtM (pvM 3) Za4) Za1))))
  (Za7 (Zd1 (ptcM (Yn4) (pxtM (pvM 3) Za4) Zb1)
  (Za7 (Zf3 (Zk4 yl yv yx Ze6 (pvM 2) (Za0 (pxtM (pvM 3) Za4) Za1))))
  Zb4)))))))))))
 (Za7 (Zb2 (pvM 1)))))),?_⟩
 refine sqk (fun C=>C [some v,some (.int 0),none,none] H) (fun C Z=>?_) ?_
 ·walk_at "1"
  exact Z
 refine sqk (fun C=>∀r l,Same H r->H l=none->r l=some (.lst [v])->C [some v,some (.int 0),some (.ref l),none] r) (fun C Z=>?_) fun H2 l e2 f2 h2=>?_
 ·walk_at "1"
  exact⟨by decide,fun l X=>Z _ l (Za6 X _) X Za5⟩
 refine sqt (fun S r=>∃U,S=[some v,some (.int (t.size:Nat)),some (.ref l),U]/\Same H r) ?_ ?_
 ·intro C Z
  refine⟨fun m S r=>∃g ts n U,m=sumT ts/\n+m=t.size/\S=[some v,some (.int (n:Nat)),some (.ref l),U]/\Same H r/\r l=some (.lst g.reverse)/\Paired (LEK K r) g ts/\(∀s∈ts,s.all Tm.ok),
   ⟨_,[v],[t],0,none,rfl,by rw[Zf4];show 0+(t.size+0)=_;omega,rfl,e2,h2,.cons (LEK.keep hT e2.keepL) .nil,fun s d=>by rw[yf.mp d];exact q6⟩,?_⟩
  rintro m S r ⟨g,ts,n,U,rfl,hn,rfl,e,X,hd,ho⟩;walk_at "3";refine⟨by decide,fun p T=>?_⟩
  have L:upd r p (.lst []) l=some (.lst g.reverse):=by rw[Za9 (Zb0 X T)];exact X
  have kA:=Ze3 (K:=K) (o:=.lst []) T;have q3:Paired (LEK K (upd r p (.lst []))) g ts:=Paired.mapP hd fun _ _ z=>LEK.keep z kA;refine⟨.list (ts.reverse.map Te.data),by rw[Dn];exact⟨l,_,rfl,SqL.of L,Xy2 (Zj6 q3)⟩,.list [],by rw[Dn];exact⟨p,_,rfl,SqL.of Za5,dnAll_nil⟩,layE (fun s d=>ho s (ycz.mp d)),rfl,yj (zbs _ _) (by decide),?_⟩;rw[if_pos trivial,Yj2]
  cases q3 with
  |nil =>
   rw[if_neg (by decide)];refine Z _ _ ⟨U,?_,e.trans (Za6 T _)⟩
   have:n=t.size:=by rw[<- hn];rfl
   rw[this]
  |@cons u i g is hi hst =>
   have q4:(u::g).reverse=g.reverse++[u]:=zr;rw[if_pos (by rw[zr,zam];simp)];refine opq fun N hN=>?_;rw[q4] at L;rw[Zf4] at hn;refine sqk (fun C=>∀H2,Same H H2->KeepL K (upd r p (.lst [])) H2->H2 l=some (.lst g.reverse)->C [some v,some (.int (n:Nat)),some (.ref l),some u] H2) (fun C' Y=>?_) fun W e4 k4 h4=>?_
   ·walk_at "1"
    refine⟨.inl ⟨rfl,_,SqL.of L⟩,_,L,u,by simp,?_⟩;rw[zar];exact Y _ ((e.trans (Za6 T _)).write f2) (Zg5 L) Za5
   refine sqh (fun C=>C [some v,some (.int ((n+1:Nat):Int)),some (.ref l),some u] W) (fun C' Y=>?_) fun Ux q8=>?_
   ·walk_at "1"
    exact Y
   have q7:=LEK.keep hi k4;have O:Paired (LEK K W) g is:=Paired.mapP hst fun _ _ z=>LEK.keep z k4;have M:=ho i zak;have q2:∀s∈is,s.all Tm.ok:=fun s d=>ho s (zo _ d);have l3:=zk O;have l4:=Yy8 is;have zp:=size_pos i
   have go:∀{J:Hp} {us:List V} {ks:List Te},Same W J->Paired (LEK K J) us ks->sumT ks+1=i.size->(∀s∈ks,s.all Tm.ok)->N [some v,some (.int ((n+1:Nat):Int)),some (.ref l),some u] (upd J l (.lst (g.reverse++us))):=fun {J us ks} ej hu ez ok=>by
    have hJ:=ej _ _ h4;have kl:=Zg5 (K:=K) (o:=.lst (g.reverse++us)) hJ;refine hN _ _ ⟨sumT (ks.reverse++is),by rw[Yg6,Yg5,Zf4];omega,us.reverse++g,ks.reverse++is,rfl,n+1,by rw[Yg6,Yg5];omega,_,rfl,(e4.trans ej).write f2,by rw[Za5,zcm,ybm],Zg2 (Zj6 (Paired.mapP hu fun _ _ z=>LEK.keep z kl)) (Paired.mapP O fun _ _ z=>LEK.keep z (ej.keepL.trans kl)),fun s d=>?_⟩;rcases yg.mp d with d | d
    ·exact ok s (ycz.mp d)
    ·exact q2 s d
   have le:∀{us:List V},us.length<=3->g.reverse.length+us.length<=zi:=fun h=>zv (Zd9 (by rw[zag];omega));have zl:∀{J:Hp},Same W J->L2.Same W J/\J l=some (.lst g.reverse):=fun e=>⟨e,e _ _ h4⟩;obtain⟨pt,xs,rfl,d,I⟩:=leK_view.mp q7;have ht:=LI.tag I;refine q8 _ _ ?_;walk_at "1";refine⟨xs,d,_,Zc0 ht,by decide,?_⟩;intro p2 q5;generalize q0:upd W p2 (.tup [.str "pair",.str "use"])=J1;have G:=nw1 q5 q0;have q1:=nw2 (K:=K) q0;refine⟨_,.inr q1,rfl,rfl,?_⟩;rw[if_neg yi];have B:=G _ _ h4;have f:=G.sqt d
   cases i with
   |two u a b =>
    obtain⟨x,y,rfl,R,hb⟩:=I;rw[if_pos (show inV (V.str (Te.two u a b).tag) [.str "pair",.str "use"]=true from (tg2 u).1)];refine⟨.inl ⟨rfl,_,SqL.of B⟩,_,f,_,rfl,_,f,_,rfl,by decide,fun p3 h3=>?_⟩;have D:=G.trans (Za6 h3 (.lst [x,y]))
    exact⟨_,D _ _ h4,_,Za5,le (us:=[x,y]) (zcb rfl),go D (.cons (LEK.keep R D.keepL) (.cons (LEK.keep hb D.keepL) .nil)) (by rw[Zf4,Zf4];show a.size+(b.size+0)+1=1+a.size+b.size;omega) fun s d=>by
     rcases zd.mp d with rfl | d
     ·exact M.1
     ·rw[yf.mp d];exact M.2⟩
   |cs a b c =>
    obtain⟨x,y,z,rfl,R,hb,hc⟩:=I;rw[if_neg (show ¬inV (V.str (Te.cs a b c).tag) [.str "pair",.str "use"]=true from (by decide:¬inV (V.str "cases") [.str "pair",.str "use"]=true))];refine⟨_,f,_,rfl,rfl,?_⟩;rw[if_pos (by rfl)];refine⟨.inl ⟨rfl,_,SqL.of B⟩,_,f,_,rfl,_,f,_,rfl,_,f,_,rfl,by decide,fun p3 h3=>?_⟩;have D:=G.trans (Za6 h3 (.lst [x,y,z]))
    exact⟨_,D _ _ h4,_,Za5,le (us:=[x,y,z]) (zcb rfl),go D (.cons (LEK.keep R D.keepL) (.cons (LEK.keep hb D.keepL) (.cons (LEK.keep hc D.keepL) .nil))) (by rw[Zf4,Zf4,Zf4];show a.size+(b.size+(c.size+0))+1=1+a.size+b.size+c.size;omega) fun s d=>by
     rcases zd.mp d with rfl | d
     ·exact M.1
     ·rcases zd.mp d with rfl | d
      ·exact M.2.1
      ·rw[yf.mp d];exact M.2.2⟩
   |fn s a =>
    obtain⟨x,y,rfl,hx,R⟩:=I;rw[if_neg (show ¬inV (V.str (Te.fn s a).tag) [.str "pair",.str "use"]=true from (by decide:¬inV (V.str "fun") [.str "pair",.str "use"]=true))];refine⟨_,f,_,rfl,rfl,?_⟩;rw[if_neg (by decide)];refine⟨_,f,_,rfl,rfl,?_⟩;rw[if_pos (by rfl)];exact⟨.inl ⟨rfl,_,SqL.of B⟩,_,f,_,rfl,_,B,Zd9 (by rw[zag];omega),go G (.cons (LEK.keep R G.keepL) .nil) (by rw[Zf4];show a.size+0+1=1+a.size;omega) fun s d=>by rw[yf.mp d];exact M.2⟩
   |one u a ss =>
    obtain⟨x,rs,rfl,R,_⟩:=I;rw[if_neg (show ¬inV (V.str (Te.one u a ss).tag) [.str "pair",.str "use"]=true from fun z=>yi ((tg5 u).1.symm.trans z))];refine⟨_,f,_,Zc0 (j:=0) rfl,rfl,?_⟩;rw[if_neg (by cases u<;>decide)];refine⟨_,f,_,Zc0 (j:=0) rfl,rfl,?_⟩;rw[if_neg (by cases u<;>decide)];refine⟨_,f,_,Zc0 (j:=0) rfl,rfl,?_⟩;rw[if_pos (by cases u<;>decide)];exact⟨.inl ⟨rfl,_,SqL.of B⟩,_,f,_,Zc0 (j:=1) rfl,_,B,Zd9 (by rw[zag];omega),go G (.cons (LEK.keep R G.keepL) .nil) (by rw[Zf4];show a.size+0+1=1+a.size;omega) fun s d=>by rw[yf.mp d];exact M.1⟩
   |«at» k0 =>
    cases I;rw[if_neg (show ¬inV (V.str (Te.at k0).tag) [.str "pair",.str "use"]=true from (by decide:¬inV (V.str "at") [.str "pair",.str "use"]=true))];refine⟨_,f,_,rfl,rfl,?_⟩;rw[if_neg (by decide)];refine⟨_,f,_,rfl,rfl,?_⟩;rw[if_neg (by decide)];refine⟨_,f,_,rfl,rfl,?_⟩;rw[if_neg (by decide)];have z1:(Te.at k0).size=1:=rfl;exact hN _ _ ⟨sumT is,by rw[Zf4];omega,g,is,rfl,n+1,by omega,_,rfl,e4.trans G,B,Paired.mapP O fun _ _ z=>LEK.keep z G.keepL,q2⟩
 rintro j1 H3 ⟨U,rfl,e3⟩;walk_at "1";exact q _ e3
theorem Wk1:FnScope ["book","row"] ["book","row"] (Za3 (top 20)):=scm (by decide +kernel)
structure ClsB (K:W.Frag)(C:Addr):Prop where
 c:Cls K C
 r:NoAttr K C "rows"
 s:NoAttr K C "statements"
 n:NoAttr K C "numbers"
theorem Wp2 {k:Nat}{A0:BkA}(CB:ClsB K A0.C){f_by0:Addr}{fd_by0:zc}(F_by0:Fun K "noted" "noted" (top 20) f_by0 fd_by0)(m_aj0:MgI mg "PAIRED" aPAIRED)(t_PAIRED:∀H,SqT K H aPAIRED [.str "both",.str "one",.str "then"])(m_len:mg "len"=none):Fk0 P w K mg base (k+1) f_by0 fd_by0 pq16 (sp_noted A0):=by
 refine F_by0.okG Wk1 fun j6 A j2 s H d Q E hr h Gx j1=>?_;obtain⟨u,r,R,S,t,rfl,B,⟨ra,rfl,Z⟩,W,l,hl,q⟩:=h;obtain⟨us,h1,h2⟩:=B.rows;obtain⟨d,h3,h4⟩:=B.sts;obtain⟨q8,h5,h6,h7,h8⟩:=B.num
 refine j1 _ ⟨_,(Za2 (Zd1 (Wk9 (Xj4 (Xm8 hr) (pvM 1) (Zf6 (pvM 0) rfl)) (by with_unfolding_all rfl))
  (Za2 (Wb2 (Xm8 hr) (Zf6 (pvM 0) rfl) (pvM 1) (Ze2 Zc6 (by exact rfl) m_len Ze7 (Za0 (Zf6 (pvM 0) rfl) Za1)) rfl)
 (Za2 (Zf3 (Zk4 yl yv yx Ze6 (Zf6 (pvM 0) rfl) (Za0 (pvM 1) Za1)))
 (Za7 (Zd1 (Zj4 (Zj1) (pxtM (pvM 1) Za4) (Zv7 (v:=.ref aPAIRED) (by exact rfl) m_aj0 (by exact rfl)) (by with_unfolding_all rfl))
  (Za7 (Zf3 (Zk4 yl yv yx Ze6 (Zf6 (pvM 0) rfl) (Za0 (Zb5 (Za0 (pxtM (pvM 1) Za4) (Za0 (pxlM (Zf6 (pvM 0) rfl) (pxtM (pvM 1) Za4)) (Za0 (pxlM (Zf6 (pvM 0) rfl) (pxtM (pvM 1) Za4)) Za1)))) Za1))))
  (Za7 (Zf3 (Zk4 yl yv yx Ze6 (Zf6 (pvM 0) rfl) (Za0 (pvM 1) Za1))))))))
  Zb4)
 (Za7 (Zb2 (Xj3 (Xm8 hr) (Zf6 (pvM 0) rfl) (pvM 1) (fun _ _=>rfl))))),?_⟩
 have st:∀{G:List Rw} {I:List Tm} {i:Nat},Bk G I->S <+: I->G[i]?=some r->I[i]?=some t:=fun {G I i} b pf N=>by
  have q0:i < I.length:=by rw[<- b.len];exact (yc.mp N).1
  have e:=zb q0;rw[e];rcases b.den i r _ N e with ⟨u,rfl,z,_⟩ | ⟨O,x,y,a,c,rfl,_,_,e1,e2,z⟩
  ·cases l
   rw[z]
  ·have hx:x < S.length:=by rw[<- B.bk.len];exact W.1
   have hy:y < S.length:=by rw[<- B.bk.len];exact W.2
   have l:(match S[x]?,S[y]? with
     |some x,some y=>some (Tm.nd O x y)
     | _,_=>none)=some t:=l
   obtain⟨tl,rfl⟩:=pf;rw[yh hx] at e1;rw[yh hy] at e2;rw[e1,e2] at l;cases l;rw[z]
 refine sqh (fun C=>∀f G I,SameK A0 H f->BkH A0 G I f->R <+: G->S <+: I->G.length<=R.length+1->r∈G->f ra=some (.tup (r.key.map kV))->C [some (.ref A0.b),some (.ref ra)] f) (fun C hC=>?_) fun Ux j0 H1 G I s1 B1 p1 p2 pl hm q9=>?_
 ·walk_at "3"
  refine⟨_,_,_,B.ins,CB.c,CB.n,_,rfl,_,rfl,_,DGet.t h5 Z,?_⟩
  by_cases hm:r∈R
  ·obtain⟨i,N,e⟩:=zav hm
   rw[h7 i r (by rw[zb N,e])];exact hC _ R S (Same.toK (Same.refl _)) B (yau _) (yau _) (Nat.le_succ _) hm Z
  rw[h8 r _ W hm,if_pos (by rfl)]
  have q7:A0.lr≠A0.dn:=fun z=>by rw[z,h5] at h1;cases h1
  have q6:A0.ls≠A0.dn:=fun z=>by rw[z,h5] at h3;cases h3
  have q3:∀{a:Addr} {g:List V},H a=some (.tup g)->a≠A0.lr/\a≠A0.ls/\a≠A0.dn:=fun {a g} h=>⟨fun z=>(by rw[z,h1] at h;cases h),fun z=>(by rw[z,h3] at h;cases h),fun z=>(by rw[z,h5] at h;cases h)⟩;have M:A0.b≠A0.lr/\A0.b≠A0.ls/\A0.b≠A0.dn:=⟨fun z=>(by have:=B.ins;rw[z,h1] at this;cases this),fun z=>(by have:=B.ins;rw[z,h3] at this;cases this),fun z=>(by have:=B.ins;rw[z,h5] at this;cases this)⟩;have lu:=zk h2;have lv:=zk h4;have ls:=B.bk.len;refine Yx3 (D:={ nx:=C,rt:=Q }) (fun q1 f=>q1=[some (.ref A0.b),some (.ref ra)]/\SameK A0 H f/\f A0.lr=some (.lst us)/\f A0.ls=some (.lst d)/\f A0.dn=some (.dT (putK q8 r.key (.int (R.length:Nat))))) ?_ ?_
  rotate_left
  ·intro C' q4
   walk_at "1";refine⟨_,_,_,B.ins,CB.c,CB.r,_,rfl,_,rfl,us,.inl (SqL.of h1),_,_,_,B.ins,CB.c,CB.n,_,rfl,_,rfl,_,DPut.t h5 Z (Zd9 (by lia)),q4 _ _ ⟨rfl,fun a o _ _ n e=>by rw[Za9 n];exact e,by rw[Za9 q7];exact h1,by rw[Za9 q6];exact h3,by rw[Za5,lu]⟩⟩
  rintro j5 H2 ⟨rfl,s2,k1,k3,k5⟩;refine Yx3 (D:={ nx:=C,rt:=Q }) (fun q1 f=>q1=[some (.ref A0.b),some (.ref ra)]/\SameK A0 H f/\f A0.lr=some (.lst (us++[.ref ra]))/\f A0.ls=some (.lst d)/\f A0.dn=some (.dT (putK q8 r.key (.int (R.length:Nat))))) ?_ ?_
  rotate_left
  ·intro C' q4
   walk_at "1";exact⟨_,_,_,s2 _ _ M.1 M.2.1 M.2.2 B.ins,CB.c,CB.r,_,rfl,.inl ⟨rfl,_,SqL.of k1⟩,_,rfl,us,k1,Zd9 (by lia),q4 _ _ ⟨rfl,fun a o n1 n2 n3 e=>by rw[Za9 n1];exact s2 a o n1 n2 n3 e,Za5,by rw[Za9 B.ne.symm];exact k3,by rw[Za9 q7.symm];exact k5⟩⟩
  rintro j4 H3 ⟨rfl,s3,l1,U,l5⟩;have Y:∀a g,H a=some (.tup g)->H3 a=some (.tup g):=fun a g h=>s3 a _ (q3 h).1 (q3 h).2.1 (q3 h).2.2 h;have T:=Y _ _ Z;have L:SqT K H3 ra (r.key.map kV):=.inl (.inl T)
  have q5:∀{J:Hp} {v:V},Same H3 J->Lt t J v->C [some (.ref A0.b),some (.ref ra)] (upd J A0.ls (.lst (d++[v]))):=fun {J v} sj hv=>by
   have X:∀a g,J a=some (.tup g)->upd J A0.ls (.lst (d++[v])) a=some (.tup g):=fun a g h=>by rw[Za9 (fun z=>by rw[z,sj _ _ U] at h;cases h)];exact h
   have sk:SameK A0 H (upd J A0.ls (.lst (d++[v]))):=fun a o n1 n2 n3 e=>by rw[Za9 n2];exact sj _ _ (s3 a o n1 n2 n3 e)
   refine hC _ (R++[r]) (S++[t]) sk (B.grow h2 h4 h6 h7 h8 (ra:=ra) (fun a g h=>X _ _ (sj _ _ (Y _ _ h))) (sk _ _ M.1 M.2.1 M.2.2 B.ins) (by rw[Za9 B.ne];exact sj _ _ l1) (X _ _ (sj _ _ T)) Za5 (hv.keepT X) (by rw[Za9 q6.symm];exact sj _ _ l5) W l hm) (List.prefix_append _ _) (List.prefix_append _ _) (by rw[yd];exact zg _) (zm _ (.head _)) (X _ _ (sj _ _ T))
  have m:=s3 _ _ M.1 M.2.1 M.2.2 B.ins;have q2:tyV K "list" (.ref A0.ls) H3:=.inl ⟨rfl,_,SqL.of U⟩;walk_at "1"
  cases r with
  |sim v =>
   cases v with
   |nd O a c=>exact absurd rfl (W O a c)
   |low =>
    cases l;refine⟨_,L,.str "low",rfl,_,.inr (t_PAIRED H3),rfl,rfl,?_⟩;rw[if_neg (by decide)];exact⟨_,_,_,m,CB.c,CB.s,_,rfl,q2,_,rfl,d,U,Zd9 (by lia),q5 (Same.refl _) ⟨ra,rfl,T⟩⟩
   |ltr x =>
    cases l;refine⟨_,L,.str "letter",rfl,_,.inr (t_PAIRED H3),rfl,rfl,?_⟩;rw[if_neg (by decide)];exact⟨_,_,_,m,CB.c,CB.s,_,rfl,q2,_,rfl,d,U,Zd9 (by lia),q5 (Same.refl _) ⟨ra,rfl,T⟩⟩
  |par O i j =>
   refine⟨_,L,.str O.str,rfl,_,.inr (t_PAIRED H3),rfl,rfl,?_⟩;rw[if_pos (by cases O<;>decide)]
   have N:i < d.length:=by rw[lv,<- ls];exact W.1
   have hj:j < d.length:=by rw[lv,<- ls];exact W.2
   refine⟨_,_,_,m,CB.c,CB.s,_,rfl,q2,_,L,_,rfl,_,_,_,m,CB.c,CB.s,_,rfl,_,L,_,rfl,?_⟩;refine⟨_,rfl,d,(i:Nat),rfl,SqL.of U,d[i],Zc0 (zb N),_,_,_,m,CB.c,CB.s,_,rfl,_,L,_,rfl,_,rfl,d,(j:Nat),rfl,SqL.of U,d[j],Zc0 (zb hj),by decide,fun p hp=>?_⟩;have sp:=Za6 hp (.tup [.str O.str,d[i],d[j]]);obtain⟨x,hx,lx⟩:=paired_get h4 (zb N);obtain⟨y,hy,ly⟩:=paired_get h4 (zb hj)
   have l:(match S[i]?,S[j]? with
     |some x,some y=>some (Tm.nd O x y)
     | _,_=>none)=some t:=l
   rw[hx,hy] at l;cases l;exact⟨_,rfl,d,sp _ _ U,Zd9 (by lia),q5 sp ⟨p,_,_,rfl,Za5,lx.keepT (fun a g h=>sp _ _ (Y _ _ h)),ly.keepT (fun a g h=>sp _ _ (Y _ _ h))⟩⟩
 obtain⟨j3,g5,g6,g7,g8⟩:=B1.num;obtain⟨i,N,e⟩:=zav hm
 have q0:G[i]?=some r:=by rw[zb N,e]
 refine j0 _ _ ?_;walk_at "1";exact⟨_,_,_,B1.ins,CB.c,CB.n,_,rfl,_,rfl,.int (i:Nat),by rw[<- g7 i r q0];exact DGet.t g5 q9,q i H1 G I s1 B1 p1 p2 pl (st B1.bk p2 q0)⟩
theorem Wi7:FnScope ["statement"] ["statement"] (Za3 (top 8)):=scm (by decide +kernel)
theorem sc_cn0:FnScope ["statement","found","waiting","piece"] ["statement"] (Za3 (top 9)):=scm (by decide +kernel)
theorem Wm9 {k:Nat}{f_db0:Addr}{fd_db0:zc}(F_db0:Fun K "within" "within" (top 8) f_db0 fd_db0)(m_aj0:MgI mg "PAIRED" aPAIRED)(t_PAIRED:∀H,SqT K H aPAIRED [.str "both",.str "one",.str "then"]):Fk0 P w K mg base (k+1) f_db0 fd_db0 ["statement"] (sp_withinV):=by
 refine F_db0.okG Wi7 fun j A f s H n Q E o h r e=>?_;obtain⟨v,t,rfl,d,q⟩:=h
 refine e _ ⟨_,(Za2 (Zd1 (Zj4 (Zj1) (pxtM (pvM 0) Za4) (Zv7 (v:=.ref aPAIRED) (by exact rfl) m_aj0 (by exact rfl)) (by with_unfolding_all rfl))
  (Za7 (Zb2 (Ze1 (Za0 (pxtM (pvM 0) Za4) (Za0 (pxtM (pvM 0) Za4) Za1)))))
  Zb4)
 (Za7 (Zb2 (Ze1 Za1)))),?_⟩
 walk_at "1"
 cases t with
 |low =>
  obtain⟨a,rfl,c⟩:=Xk7 (K:=K) d;refine⟨a,rfl,_,c,_,rfl,_,.inr (t_PAIRED H),rfl,rfl,?_⟩;rw[if_neg (by decide)];exact⟨by decide,fun p b=>q p _ _ (Za6 b _) b Za5 .nil⟩
 |ltr x =>
  obtain⟨a,rfl,c⟩:=Xk6 (K:=K) d;refine⟨a,rfl,_,c,_,rfl,_,.inr (t_PAIRED H),rfl,rfl,?_⟩;rw[if_neg (by decide)];exact⟨by decide,fun p b=>q p _ _ (Za6 b _) b Za5 .nil⟩
 |nd kd x y =>
  obtain⟨a,m,l,rfl,c,i,g⟩:=Xx2 (K:=K) d;refine⟨a,rfl,_,c,_,rfl,_,.inr (t_PAIRED H),rfl,rfl,?_⟩;rw[if_pos (by cases kd<;>decide)];exact⟨a,rfl,_,c,_,rfl,a,rfl,_,c,_,rfl,by decide,fun p b=>q p _ _ (Za6 b _) b Za5 (.cons (i.k (Ye2 b)) (.cons (g.k (Ye2 b)) .nil))⟩
noncomputable def sumQ (ts:List Tm):Nat:=(ts.map Tm.parts).sum
theorem Zn5 (t:Tm)(ts:List Tm):sumQ (t::ts)=t.parts+sumQ ts:=by unfold sumQ;rw[yan,List.sum_cons]
theorem Yw7 (a b:List Tm):sumQ (a++b)=sumQ a+sumQ b:=by unfold sumQ;rw[zam,List.sum_append]
theorem Xg9 (t:Tm):sumQ t.kids+1=t.parts:=by
 cases t with
 |low=>rfl
 |ltr w=>rfl
 |nd k a b=>show sumQ [a,b]+1=1+a.parts+b.parts;rw[Zn5,Zn5];show a.parts+(b.parts+0)+1=_;omega
theorem Yj3:∀ts:List Tm,ts.length<=sumQ ts
 | []=>zg _
 |t::ts=>by
  rw[Zn5,zac];have:=Yj3 ts;have:=t.parts_pos;omega
theorem Wo0 {k:Nat}{f_cn0:Addr}{fd_cn0:zc}(F_cn0:Fun K "pieces" "pieces" (top 9) f_cn0 fd_cn0)(C_within:Cl P w K mg base k "within" ["statement"] (sp_withinV)):Fk0 P w K mg base (k+1) f_cn0 fd_cn0 ["statement"] (sp_piecesV):=by
 refine F_cn0.okG sc_cn0 fun q2 A Z s H vs Q E hr h Gx W=>?_;obtain⟨v,t,rfl,hT,d,q⟩:=h
 refine W _ ⟨_,(Za2 (pst 1 sc_cn0.nd (Ze1 Za1))
 (Za2 (pst 2 sc_cn0.nd (Ze1 (Za0 (pv 0) Za1)))
 (Za2 (Zt0 yas (Zy5 (pv 2) (fun _=>rfl))
  (Za2 (pst 3 sc_cn0.nd (Zw7 yl zbb ybf Zw9 (pv 2)))
 (Za2 (Zf3 (Zk4 yl yv yx Ze6 (pv 1) (Za0 (pv 3) Za1)))
 (Za7 (Zf3 (Zk4 yl zbw zct Zt5 (pv 2) (Za0 (Wl7 (Zb8 C_within hr (Za0 (pv 3) Za1)) (Wb9 Xf0 Za4)) Za1)))))))
 (Za7 (Zb2 (pv 1)))))),?_⟩
 walk_at "1";refine⟨by decide,fun lt f=>⟨by decide,fun lw e=>?_⟩⟩;have B:H lw=none:=(Za6 f _).free e
 have y:lw≠lt:=fun z=>by subst z;rw[Za5] at e;cases e
 refine⟨fun m M n=>∃a o c L T,m=sumQ o/\M=[some v,some (.ref lt),some (.ref lw),T]/\Same H n/\n lt=some (.lst c)/\n lw=some (.lst a.reverse)/\Paired (LtV n) a o/\Paired (LtV n) c L/\L++o.flatMap Tm.pre=t.pre/\c.length+sumQ o<=400,
  ⟨_,[v],[t],[],[],none,rfl,rfl,(Za6 f _).trans (Za6 e _),?_,Za5,.cons ((hT.k (Ye2 f)).k (Ye2 e)) .nil,.nil,?_,?_⟩,?_⟩
 ·rw[Za9 (zbe y),Za5]
 ·show []++(t.pre++[])=t.pre
  simp
 ·show 0+(t.parts+0)<=400
  omega
 rintro m q0 j ⟨a,o,c,L,T,rfl,rfl,Y,X,D,hd,R,S,hn⟩;refine⟨_,rfl,!a.reverse.isEmpty,.inl ⟨_,SqL.of D,rfl⟩,?_⟩
 cases hd with
 |nil =>
  rw[if_neg (by decide)];walk_at "1";rw[List.flatMap_nil,yac] at S;rw[S] at R;exact q lt j c Y f X R
 |@cons u i a is hi hst =>
  have x:(u::a).reverse=a.reverse++[u]:=zr;rw[if_pos (by rw[x];simp)];refine⟨_,fun M n z=>z,?_⟩;walk_at "1";rw[x] at D;have N:lt≠lw:=zbe y;refine⟨.inl ⟨rfl,_,SqL.of D⟩,_,D,u,by simp,?_⟩;rw[zar];have k1:TKp j (upd j lw (.lst a.reverse)):=Zn4 D;rw[Zn5] at hn;have pp:=i.parts_pos
  have G:upd j lw (.lst a.reverse) lt=some (.lst c):=by rw[Za9 N];exact X
  have O:TKp j (upd (upd j lw (.lst a.reverse)) lt (.lst (c++[u]))):=k1.trans (Zn4 G);refine⟨.inl ⟨rfl,_,SqL.of G⟩,_,G,Zd9 (by omega),?_⟩
  have l:upd (upd j lw (.lst a.reverse)) lt (.lst (c++[u])) lw=some (.lst a.reverse):=by rw[Za9 y,Za5]
  refine⟨.inl ⟨rfl,_,SqL.of l⟩,u,i,rfl,hi.k O,fun r H2 g I q1 V U=>?_⟩;have b:=I lw _ l;have C:=I lt _ Za5;have l1:=zk U;have l2:=zk hst;have l3:=Yj3 is;have l4:=Yj3 i.kids;have l5:=Xg9 i;have E2:Same H H2:=((Y.write B).write f).trans I;refine⟨r,rfl,g,SqL.of V,fun p d=>⟨a.reverse,by rw[Za9 (Zb0 b d)];exact b,g.reverse,Za5,?_,sumQ (i.kids++is),?_,g++a,i.kids++is,rfl,?_,c++[u],?_,?_,?_,L++[i],?_,?_,?_⟩⟩
  ·rw[zag,zag]
   exact zv (Zd9 (by omega))
  ·rw[Yw7,Zn5];omega
  ·exact (E2.trans (Za6 d _)).write B
  ·rw[Za9 N,Za9 (Zb0 C d)];exact C
  ·rw[Za5,zcm]
  ·have J:TKp H2 (upd (upd H2 p (.lst g.reverse)) lw (.lst (a.reverse++g.reverse))):=(Ye2 d).trans (Zn4 (by rw[Za9 (Zb0 b d)];exact b))
   exact Zg2 (Zl9 J U) (Zl9 ((O.trans (Zv0 I)).trans J) hst)
  ·have J:TKp H2 (upd (upd H2 p (.lst g.reverse)) lw (.lst (a.reverse++g.reverse))):=(Ye2 d).trans (Zn4 (by rw[Za9 (Zb0 b d)];exact b))
   exact Zl9 ((O.trans (Zv0 I)).trans J) (Zg2 R (.cons hi .nil))
  ·rw[<- S,List.flatMap_append,zaq,Tm.pre_eq i];simp
  ·rw[yd,zab,Yw7];omega
theorem sc_bs0:FnScope ["statement","of_simple","of_pair","told","piece","first","second"] ["statement","of_simple","of_pair"] (Za3 (top 10)):=scm (by decide +kernel)
theorem Zk0 {α β:Type}{F:α->β->Prop}:∀{l:List α} {m:List β} {y:β},Paired F l (m++[y])->∃l' x,l=l'++[x]/\Paired F l' m/\F x y
 | _,[],_,h=>by
  cases h with
  |cons hx t=>cases t;exact⟨[],_,rfl,.nil,hx⟩
 | _,z::m,_,h=>by
  cases h with
  |cons hx t =>
   obtain⟨l',x,rfl,h1,h2⟩:=Zk0 t;exact⟨_::l',x,rfl,.cons hx h1,h2⟩
theorem Xb9 {k:Nat}{τ:Type}{N:Nat}{St:Nat->τ->Hp->Prop}{le:τ->τ->Prop}{R:τ->Tm->V->Prop}(S:SF bad St le R){ps_of_simple ps_of_pair:List Str}{f_bs0:Addr}{fd_bs0:zc}(F_bs0:Fun K "folded" "folded" (top 10) f_bs0 fd_bs0)(C_pieces:Cl P w K mg base k "pieces" ["statement"] (sp_piecesV))(m_aj0:MgI mg "PAIRED" aPAIRED)(t_PAIRED:∀H,SqT K H aPAIRED [.str "both",.str "one",.str "then"])(m_reversed:mg "reversed"=none){f_ck0:Addr}{fd_ck0:zc}(G_ck0:Fk0 P w K mg base k f_ck0 fd_ck0 ps_of_simple (sp_of1S N bad St le R))(k_ck0:KpI K f_ck0)(b_ck0:Binds K fd_ck0 ps_of_simple []){f_cg0:Addr}{fd_cg0:zc}(G_cg0:Fk0 P w K mg base k f_cg0 fd_cg0 ps_of_pair (sp_of2S N bad St le R))(k_cg0:KpI K f_cg0)(b_cg0:Binds K fd_cg0 ps_of_pair []):Fk0 P w K mg base (k+1) f_bs0 fd_bs0 pq25 (sp_foldedS N bad St le R f_ck0 f_cg0):=by
 refine F_bs0.okG sc_bs0 fun y1 A z4 s H vs Q E hr h Gx z1=>?_;obtain⟨v,t,s0,rfl,j0,hT,hp,z9,q⟩:=h;have q6:∀{s1 s2:τ} {f:List V} {fs:List Tm},le s1 s2->Paired (fun u q=>R s1 q u) f fs->Paired (fun u q=>R s2 q u) f fs:=fun k z=>Paired.mapP z fun _ _ y=>S.mono _ _ _ _ k y
 have q4:∀{l:Addr},H l=none->l ∉ bad:=fun {l} h z=>by
  obtain⟨o,e⟩:=S.has 0 s0 H l j0 z;rw[h] at e;cases e
 refine z1 _ ⟨_,(Za2 (pst 3 sc_bs0.nd (Ze1 Za1))
 (Za2 (Ye5 yas rfl (Wl3 rfl m_reversed (Za0 (Zb8 C_pieces hr (Za0 (pvM 0) Za1)) Za1)) (pgn 4 sc_bs0.nd)
  (Za7 (Zd1 (Zj4 (Zj1) (pxtM (pvM 4) Za4) (Zv7 (v:=.ref aPAIRED) (by exact rfl) m_aj0 (by exact rfl)) (by with_unfolding_all rfl))
  (Za2 (pst 5 sc_bs0.nd (Zw7 yl zbb ybf Zw9 (pvM 3)))
 (Za2 (pst 6 sc_bs0.nd (Zw7 yl zbb ybf Zw9 (pvM 3)))
 (Za7 (Zf3 (Zk4 yl yv yx Ze6 (pvM 3) (Za0 (Zt2 (i:=2) G_cg0 hr rfl (Or.inl rfl) k_cg0 b_cg0 .nil Yi2 (Za0 (pxtM (pvM 4) Za4) (Za0 (pvM 5) (Za0 (pvM 6) Za1)))) Za1))))))
  (Za7 (Zf3 (Zk4 yl yv yx Ze6 (pvM 3) (Za0 (Zt2 (i:=1) G_ck0 hr rfl (Or.inl rfl) k_ck0 b_ck0 .nil Yi2 (Za0 (pvM 4) Za1)) Za1)))))))
 (Za7 (Zb2 (pxlM (pvM 3) Za4))))),?_⟩
 refine sqk (fun C=>∀c l,Same H c->H l=none->c l=some (.lst [])->C [some v,some (.ref f_ck0),some (.ref f_cg0),some (.ref l),none,none,none] c) (fun C hC=>?_) fun H1 l e1 f1 h1=>?_
 ·walk_at "1"
  exact⟨by decide,fun l hl=>hC _ l (Za6 hl _) hl Za5⟩
 have Y:=q4 f1;refine sqk (fun C=>∀c U T O u j,FrB bad H c->le s0 j->St t.parts j c->c l=some (.lst [u])->R j t u->C [some v,some (.ref f_ck0),some (.ref f_cg0),some (.ref l),U,T,O] c) (fun C hC=>?_) fun H2 U T O u j e2 J n h2 ru=>?_
 ·walk_at "2"
  refine⟨v,t,rfl,hT.k (Zv0 e1),by omega,fun r H2 f e2 f2 h2 hu=>⟨r,rfl,f,SqL.of h2,?_⟩⟩;have lu:=zk hu;have l2:=e2 l _ h1;have fr:H r=none:=e1.free f2;have nr:=q4 fr
  have q9:r≠l:=fun z=>by rw[z] at f2;rw[f2] at h1;cases h1
  have j2:=e1.trans e2;refine Wf2 (D:={ nx:=C,rt:=Q }) (xs:=f) (fun i q1 c=>∃U T O W fs j,q1=[some v,some (.ref f_ck0),some (.ref f_cg0),some (.ref l),U,T,O]/\FrB bad H c/\TKp H2 c/\le s0 j/\St i j c/\c r=some (.lst f)/\c l=some (.lst W)/\Paired (fun u q=>R j q u) W fs.reverse/\fs.flatMap Tm.pre=t.pre.drop (f.length - i)/\W.length<=i)
   ⟨none,none,none,[],[],s0,rfl,.of j2,fun _ _ z=>z,S.refl _,S.keep _ _ _ _ j2 j0,h2,l2,.nil,?_,zg _⟩ (fun i q1 c _ zZ=>by obtain⟨U,T,O,W,fs,j,_,_,_,_,_,h,_⟩:=zZ;exact SqL.of h) (fun i x q1 c hi hx hI=>?_) (fun q1 c hI=>?_)
  ·rw[ybk,lu,List.drop_length];rfl
  ·refine hid fun Gz q7=>?_
   obtain⟨U,T,O,W,fs,j,rfl,e,kk,J,n,q3,d,I,Z,hn⟩:=hI;refine q7 ?_;obtain⟨q',j4,j3⟩:=paired_get hu hx
   have hj:f.length - 1 - i < t.pre.length:=by rw[<- lu];omega
   obtain⟨q2,rest,g1,g2,g3⟩:=Yh7 t _ hj;rw[j4] at g1;cases g1;have G:=j3.k kk
   have ej:f.length - i=f.length - 1 - i+1:=by omega
   have dr:t.pre.drop (f.length - i)=q'.kids.flatMap Tm.pre++rest:=by
    have:=congrArg List.tail g2;rw[List.tail_drop,<- ej,q'.pre_eq,List.cons_append,List.tail_cons] at this;exact this
   rw[dr] at Z
   have eu:f.length - (i+1)=f.length - 1 - i:=by omega
   have lp:t.pre.length<=400:=by rw[Tm.pre_len];omega
   have z6:t.pre.length=t.parts:=Tm.pre_len t
   have q8:∀(m:List V) (q0:List Tm) (L:Hp) (u:V) (s4:τ),FrB bad H L->TKp H2 L->le s0 s4->St (i+1) s4 L->L r=some (.lst f)->L l=some (.lst m)->Paired (fun u q=>R s4 q u) m q0.reverse->m.length<=i->q0.flatMap Tm.pre=rest->R s4 q' u ->
     FrB bad H (upd L l (HO.lst (m++[u])))/\TKp H2 (upd L l (HO.lst (m++[u])))/\∃x x_1 x_2,le s0 x_2/\St (i+1) x_2 (upd L l (HO.lst (m++[u])))/\upd L l (HO.lst (m++[u])) r=some (HO.lst f)/\upd L l (HO.lst (m++[u])) l=some (HO.lst x)/\Paired (fun u q=>R x_2 q u) x x_1.reverse/\List.flatMap Tm.pre x_1=List.drop (f.length - (i+1)) t.pre/\x.length<=i+1:=fun m q0 L u s4 a1 a2 a3 a4 a5 a6 a7 a8 a9 z3=>by
    refine⟨a1.write f1,a2.trans (Zn4 a6),m++[u],q'::q0,s4,a3,S.put _ _ _ _ _ _ a6 Y a4,by rw[Za9 q9];exact a5,Za5,?_,?_,?_⟩
    ·rw[zr];exact Zg2 a7 (.cons z3 .nil)
    ·rw[zaq,a9,eu,g2]
    ·rw[yd,zab];omega
   walk_at "1"
   cases q' with
   |low =>
    obtain⟨a,rfl,hs⟩:=Xk7 (K:=K) G;refine⟨a,rfl,_,hs,_,rfl,_,.inr (t_PAIRED c),rfl,rfl,?_⟩;rw[if_neg (by decide)];refine⟨.inl ⟨rfl,_,SqL.of d⟩,_,.low,j,i,rfl,by omega,n,G,rfl,fun u H3 s3 g B X ru=>?_⟩;exact⟨_,g _ _ Y d,Zd9 (by omega),q8 W fs H3 u s3 (e.trans g) (kk.trans (S.tup _ _ _ _ n g)) (S.trans _ _ _ J B) X (g _ _ nr q3) (g _ _ Y d) (q6 B I) hn Z ru⟩
   |ltr w =>
    obtain⟨a,rfl,hs⟩:=Xk6 (K:=K) G;refine⟨a,rfl,_,hs,_,rfl,_,.inr (t_PAIRED c),rfl,rfl,?_⟩;rw[if_neg (by decide)];refine⟨.inl ⟨rfl,_,SqL.of d⟩,_,.ltr w,j,i,rfl,by omega,n,G,rfl,fun u H3 s3 g B X ru=>?_⟩;exact⟨_,g _ _ Y d,Zd9 (by omega),q8 W fs H3 u s3 (e.trans g) (kk.trans (S.tup _ _ _ _ n g)) (S.trans _ _ _ J B) X (g _ _ nr q3) (g _ _ Y d) (q6 B I) hn Z ru⟩
   |nd kd a b =>
    obtain⟨p,vx,vy,rfl,hs,z8,z7⟩:=Xx2 (K:=K) G;refine⟨p,rfl,_,hs,_,rfl,_,.inr (t_PAIRED c),rfl,rfl,?_⟩;rw[if_pos (by cases kd<;>decide)];rw[show Tm.kids (.nd kd a b)=[a,b] from rfl,zaq,zaq,List.flatMap_nil,yac,yam] at Z;obtain⟨y0,rfl,j9⟩:=Zr7 Z;obtain⟨z2,rfl,j8⟩:=Zr7 j9;rw[zr,zr] at I;obtain⟨z5,u1,rfl,j7,r1⟩:=Zk0 I;obtain⟨M,u2,rfl,j6,r2⟩:=Zk0 j7;rw[yd,yd,zab,zab] at hn;refine⟨.inl ⟨rfl,_,SqL.of d⟩,_,d,u1,by simp,?_⟩;rw[zar];refine⟨.inl ⟨rfl,_,SqL.of Za5⟩,_,Za5,u2,by simp,?_⟩;rw[zar,Yg3];have k1:KeepT K c (upd c l (.lst M)):=Zm1 d;have q5:=S.put _ _ _ _ _ (.lst M) d Y n
    have j5:upd c l (.lst M) r=some (.lst f):=by rw[Za9 q9];exact q3
    have j1:upd c l (.lst M) l=some (.lst M):=Za5;refine⟨.inl ⟨rfl,_,SqL.of Za5⟩,p,rfl,_,k1 _ _ hs,_,rfl,kd,a,b,u1,u2,j,i,rfl,by omega,q5,r1,r2,fun u H3 s3 g B X ru=>?_⟩;exact⟨_,g _ _ Y j1,Zd9 (by omega),q8 M z2 H3 u s3 ((e.write f1).trans g) ((kk.trans (Zn4 d)).trans (S.tup _ _ _ _ q5 g)) (S.trans _ _ _ J B) X (g _ _ nr j5) (g _ _ Y j1) (q6 B j6) (by omega) j8 ru⟩
  ·refine hid fun Gz q7=>?_
   obtain⟨U,T,O,W,fs,j,rfl,e,kk,J,n,q3,d,I,Z,hn⟩:=hI;refine q7 ?_;rw[zbk,ydn,<- yac t.pre] at Z;obtain⟨q0,rfl,z0⟩:=Zr7 Z;rw[Xd6 z0] at I
   cases I with
   |cons hu' hnil =>
    cases hnil;exact hC _ U T O _ j e J (by rw[<- Tm.pre_len t,<- lu];exact n) d hu'
 walk_at "1";exact⟨_,SqL.of h2,u,rfl,q _ _ j e2 J n ru⟩
theorem sc_bz0:FnScope ["book","statement","of_simple","of_two"] ["book","statement"] (Za3 (top 21)):=scm (by decide +kernel)
noncomputable abbrev Zb7:Stmt:=Yu3 (top 21) 0
theorem Zn1:FnScopeC ["piece","book"] ["piece"] ["book"] (Za3 Zb7):=⟨rfl,rfl,rfl,by decide +kernel,rfl,by decide +kernel,by decide +kernel,by decide +kernel⟩
noncomputable abbrev Zf5:Str:=("number_of":Str)++ze ".<locals>."++"of_simple"
theorem Zn3:∀y∈(Za3 Zb7).names,y.2=yad->(Za3 (top 21)).names.lookup y.1=some zat:=by decide +kernel
noncomputable abbrev Zc3:Stmt:=Yu3 (top 21) 1
theorem Zq8:FnScopeC ["name","first","second","book"] ["name","first","second"] ["book"] (Za3 Zc3):=⟨rfl,rfl,rfl,by decide +kernel,rfl,by decide +kernel,by decide +kernel,by decide +kernel⟩
noncomputable abbrev Zg7:Str:=("number_of":Str)++ze ".<locals>."++"of_two"
theorem Zr8:∀y∈(Za3 Zc3).names,y.2=yad->(Za3 (top 21)).names.lookup y.1=some zat:=by decide +kernel
theorem Zn2 {k:Nat}{fd:zc}(F:FunC K "of_simple" Zf5 Zb7 cl f fd){N:Nat}(hn:n+N<=400000)(C:Caught K (Za3 Zb7) cl ["book"] [.ref A0.b])(C_noted:Cl P w K mg base k "noted" pq16 (sp_noted A0)):Fk0 P w K mg base (k+1) f fd ["piece"] (sp_of1S N (badK A0) (StB A0 n) leB RB):=by
 refine F.ok Zn1 C (fun m H Q E h=>?_) (fun G A l s H m Q E r h=>?_)
 ·obtain⟨v,t,s,i,rfl,_⟩:=h
  rfl
 obtain⟨v,t,s,i,rfl,L,⟨B,J⟩,g,d,q⟩:=h
 have c:RowV H v (.sim t)/\∀k a b,t≠.nd k a b:=by
  cases t with
  |low=>obtain⟨a,e,h⟩:=g;exact⟨⟨a,e,h⟩,fun _ _ _ z=>nomatch z⟩
  |ltr x=>obtain⟨a,e,h⟩:=g;exact⟨⟨a,e,h⟩,fun _ _ _ z=>nomatch z⟩
  |nd kk a b=>cases d
 refine⟨_,(Za7 (Zb2 (Zb8 C_noted r (Za0 (pvM 1) (Za0 (pvM 0) Za1))))),?_⟩;walk_at "1";exact⟨v,.sim t,s.1,s.2,t,rfl,B,c.1,c.2,rfl,by omega,fun k y j u e D p o I d=>q _ y (j,u) e.fr ⟨p,o⟩ ⟨D,by show j.length<=_;omega⟩ ⟨k,rfl,d⟩⟩
theorem Zr5 {k:Nat}{fd:zc}(F:FunC K "of_two" Zg7 Zc3 cl f fd){N:Nat}(hn:n+N<=400000)(C:Caught K (Za3 Zc3) cl ["book"] [.ref A0.b])(C_noted:Cl P w K mg base k "noted" pq16 (sp_noted A0)):Fk0 P w K mg base (k+1) f fd ["name","first","second"] (sp_of2S N (badK A0) (StB A0 n) leB RB):=by
 refine F.ok Zq8 C (fun u H Q E h=>?_) (fun S A t s H u Q E I h=>?_)
 ·refine hid fun W o=>?_
  obtain⟨c,a,b,x,y,s,i,rfl,_⟩:=h;refine o ?_;rfl
 obtain⟨c,a,b,x,y,s,i,rfl,V,⟨B,U⟩,⟨g,rfl,m⟩,⟨d,rfl,l⟩,q⟩:=h;refine⟨_,(Za7 (Zb2 (Zb8 C_noted I (Za0 (pvM 3) (Za0 (Zb5 (Za0 (pvM 0) (Za0 (pvM 1) (Za0 (pvM 2) Za1)))) Za1))))),?_⟩;walk_at "1";refine⟨by decide,fun p J=>?_⟩;have j:=Za6 J (.tup [.str c.str,.int (g:Nat),.int (d:Nat)]);have G:=(yc.mp m).1;have D:=(yc.mp l).1;refine⟨_,.par c g d,s.1,s.2,.nd c a b,rfl,B.keep j,⟨p,rfl,Za5⟩,⟨by rw[B.bk.len];exact G,by rw[B.bk.len];exact D⟩,?_,by omega,fun k O r M e R z v T L=>q _ O (r,M) (FrB.trans (.of j) e.fr) ⟨z,v⟩ ⟨R,by show r.length<=_;omega⟩ ⟨k,rfl,L⟩⟩
 show (match s.2[g]?,s.2[d]? with
  |some x,some y=>some (Tm.nd c x y)
  | _,_=>none)=_
 rw[m,l]
noncomputable def Zd3:List (Pos×Str):=[(posOf Zb7,Zf5),(posOf Zc3,Zg7)]
theorem Wp1 {j:Nat}{f_bz0:Addr}{fd_bz0:zc}(F_bz0:FunT K "number_of" "number_of" (top 21) f_bz0 fd_bz0 T)(hB:∀h,K.In h->h.BuiltinsAt mg T)(hT:ye≠T){f_bs0:Addr}{fd_bs0:zc}(m_bs0:MgI mg "folded" f_bs0)(k_bs0:KpI K f_bs0)(b_bs0:Binds K fd_bs0 pq25 []){f_by0:Addr}{fd_by0:zc}(G_by0:∀K' base,KLe K K'->FnOk P w K' mg base CX0 j f_by0 fd_by0 pq16 (sp_noted A0))(m_by0:MgI mg "noted" f_by0)(k_by0:∀K',KLe K K'->zan K' (.ref f_by0)=true)(b_by0:Binds K fd_by0 pq16 []) (GF:∀(K':W.Frag) (base:Heap) (n:Nat) (f1 f2:Addr) (fd1 fd2:zc),KLe K K' ->
   FnOk P w K' mg base CX0 (j+1) f1 fd1 ["piece"] (sp_of1S 400 (badK A0) (StB A0 n) leB RB)->zan K' (.ref f1)=true->Binds K' fd1 ["piece"] [] ->
   FnOk P w K' mg base CX0 (j+1) f2 fd2 ["name","first","second"] (sp_of2S 400 (badK A0) (StB A0 n) leB RB)->zan K' (.ref f2)=true->Binds K' fd2 ["name","first","second"] [] ->
   FnOk P w K' mg base CX0 (j+2) f_bs0 fd_bs0 pq25 (sp_foldedS 400 (badK A0) (StB A0 n) leB RB f1 f2)):
  Fk0 P w K mg base (j+3) f_bz0 fd_bz0 pq17 (sp_number A0 ⟨T,Zd3⟩):=by
 refine F_bz0.ok sc_bz0 (fun vs H Q E h=>?_) (fun c A Y s H vs Q E hC hr h=>?_)
 ·obtain⟨v,t,R,S,rfl,_⟩:=h
  rfl
 obtain⟨v,t,R,S,rfl,⟨B,q3⟩,q6,Z,hR,q⟩:=h
 have q4:∀i∈([0]:List Nat),∃x,(["book","statement","of_simple","of_two"]:List Str)[i]?=some x/\(Za3 (top 21)).names.lookup x=some .cell/\(fun _:Str=>true) x=true:=by
  intro i M;simp only[zd,zq,or_false] at M;subst M;exact⟨"book",rfl,rfl,rfl⟩
 refine⟨_,(Za2 (Zr2 (st:=Zb7) (i:=2) (qual:=Zf5) (ds:=Zd3) rfl sc_bz0.nd rfl (Or.inl rfl) (Zf7 (fun y hy hf=>Zj5 (Zn3 y hy hf))) rfl hC hB hT rfl (by simp[Zd3]) (by decide +kernel) rfl rfl rfl)
 (Za2 (Zr2 (st:=Zc3) (i:=3) (qual:=Zg7) (ds:=Zd3) rfl sc_bz0.nd rfl (Or.inl rfl) (Zf7 (fun y hy hf=>Zj5 (Zr8 y hy hf))) rfl hC hB hT rfl (by simp[Zd3]) (by decide +kernel) rfl rfl rfl)
 (Za7 (Zb2 (Zp6 (ix:=[0]) hr (by exact rfl) m_bs0 k_bs0 b_bs0 q4 (Za0 (pvM 1) (Za0 (pvM 2) (Za0 (pvM 3) Za1)))))))),?_⟩
 generalize L:(cxOf CX0 P w K mg base ["book","statement","of_simple","of_two"] "number_of" (Za3 (top 21)) f_bz0 (.ref c) A Y s H E).nox=X
 have eP:X.prog=P:=by rw[<- L];rfl
 have ew:X.w=w:=by rw[<- L];rfl
 have eK:X.K=K:=by rw[<- L];rfl
 have em:X.mg=mg:=by rw[<- L];rfl
 have eN:X.N=(["book","statement","of_simple","of_two"]:List Str):=by rw[<- L];rfl
 have ec:(zbg "number_of" (Za3 (top 21)) s.heap.objs.size f_bz0 (.ref c)).cells=X.env.cells:=by rw[<- L];rfl
 refine sqk (fun C=>∀g f1,SameU T H g->TabOk g T Zd3->FnFz g f1 "of_simple" Zf5 (Zd4 Zb7) (Zc8 Zb7) (Za3 Zb7) (Zi1 X.env.cells (Za3 Zb7).names [])->C [some (.ref A0.b),some v,some (.ref f1),none] g) (fun C U=>?_) fun H1 f1 s1 q2 V=>?_
 ·exact⟨q3,fun f g n sm tb fn=>U _ f sm tb (ec▸fn)⟩
 refine sqk (fun C=>∀g f2,SameU T H1 g->TabOk g T Zd3->FnFz g f2 "of_two" Zg7 (Zd4 Zc3) (Zc8 Zc3) (Za3 Zc3) (Zi1 X.env.cells (Za3 Zc3).names [])->C [some (.ref A0.b),some v,some (.ref f1),some (.ref f2)] g) (fun C U=>?_) fun H2 f2 s2 q1 q7=>?_
 ·exact⟨q2,fun f g n sm tb fn=>U _ f sm tb (ec▸fn)⟩
 have V:=V.keep s2.toT;have s3:=s1.trans s2;refine hid fun Gz I=>?_;obtain⟨o1,c1,p1,a1,a2,a3,a4,a5⟩:=V.objs;refine I ?_;refine hid fun Gz I=>?_;obtain⟨o2,c2,p2,b1,b2,b3,b4,b5⟩:=q7.objs;refine I ?_;show Zl7 X _ _ _ _ [0] _ _ _ _;unfold Zl7;walk_at "1"
 have O:∀p∈[(f1,o1),(c1,p1),(f2,o2),(c2,p2)],H2 p.1=some (FZ p.2):=by
  intro p Z;simp only[zd,zq,or_false] at Z;rcases Z with rfl | rfl | rfl | rfl
  ·exact a1
  ·exact a2
  ·exact b1
  ·exact b2
 refine⟨fun i M=>?_,[(f1,o1),(c1,p1),(f2,o2),(c2,p2)],O,fun K' cs ok d J D q5=>?_⟩
 ·simp only[zd,zq,or_false] at M
  subst M;exact⟨_,rfl⟩
 rw[eK] at d J;obtain⟨fd1,G1⟩:=a5 K' (D _ (zy _ (.head _))) (D _ (zy _ (.tail _ (.head _))));obtain⟨fd2,G2⟩:=b5 K' (D _ (zy _ (.tail _ (.tail _ (.head _))))) (D _ (zy _ (.tail _ (.tail _ (.tail _ (.head _))))))
 have cw:Zu9 X K' "book" (.ref A0.b):=by
  cases q5 with
  |cons h1 r1 =>
   cases r1;refine hid fun Gz I=>?_;obtain⟨x1,v1,u1,l,F,e3,e4,e5⟩:=h1;refine I ?_;rw[eN] at l;cases l;cases F;exact⟨_,_,u1,e3,D _ (zm _ (by simp)),e4,e5⟩
 have C1:Caught K' (Za3 Zb7) (Zi1 X.env.cells (Za3 Zb7).names []) ["book"] [.ref A0.b] :=
  Zk3 ok rfl (by decide +kernel) (by decide +kernel) fun i y u l F=>by
   match i,l,F with
   | 0,l,F=>cases l;cases F;exact cw
 have C2:Caught K' (Za3 Zc3) (Zi1 X.env.cells (Za3 Zc3).names []) ["book"] [.ref A0.b] :=
  Zk3 ok rfl (by decide +kernel) (by decide +kernel) fun i y u l F=>by
   match i,l,F with
   | 0,l,F=>cases l;cases F;exact cw
 generalize [(f1,o1),(c1,p1),(f2,o2),(c2,p2)]=xs at D O J ⊢;have q0:∀a o,(∀b,o≠FZ b)->(∀ps,o≠.tbl ps)->H a=some o->remX xs H2 a=some o:=fun a o n m h=>Wb0 O a o n (s3.toT a o m h);refine⟨sp_foldedS 400 (badK A0) (StB A0 R.length) leB RB f1 f2,fun G=>?_,?_⟩
 ·rw[eP,ew,em]
  exact GF K' G R.length f1 f2 fd1 fd2 d
   (Zn2 G1 (by omega) C1 (.of (G_by0 K' G d) m_by0 (k_by0 K' d) (b_by0.le d))) G1.kp (G1.binds fun _ _ _ _ us hl=>Ken.len1 hl fun _=>rfl)
   (Zr5 G2 (by omega) C2 (.of (G_by0 K' G d) m_by0 (k_by0 K' d) (b_by0.le d))) G2.kp (G2.binds fun _ _ _ _ us hl=>Ken.len3 hl fun _ _ _=>rfl)
 have B2:BkH A0 R S H2:=B.via fun a o n m h=>s3.toT a o m h;refine⟨v,t,(R,S),rfl,⟨B.via q0,zg _⟩,q6.k fun a xs h=>q0 a _ (fun _ z=>nomatch z) (fun _ z=>nomatch z) h,Z,by decide,fun r H3 s' fr le st ⟨k,e,hk⟩ n3=>?_⟩;subst e;have fb:=fr.back;exact q k _ s'.1 s'.2 (FrB.trans (.ofU s3) (fb.mono fun a z=>.tail _ z)) ⟨st.1.via fun a o _ _ h=>Xv3 n3 a o h,TabOk.frB B2 q1 fb⟩ le.1 le.2 st.2 hk
noncomputable abbrev Xr4:Stmt:=Yc2 (top 18) 0
theorem Wk3:FnScope ["self"] ["self"] (Za3 Xr4):=scm (by decide +kernel)
noncomputable abbrev Xr5:Stmt:=Yc2 (top 19) 0
theorem Wk4:FnScope ["self","term","front"] ["self","term","front"] (Za3 Xr5):=scm (by decide +kernel)
theorem sc_cq0:FnScope ["book","number","name","row"] ["book","number","name"] (Za3 (top 22)):=scm (by decide +kernel)
theorem Wr3 {k:Nat}(CB:ClsB K C0){f_ad0:Addr}{fd_ad0:zc}(F_ad0:Fun K "__init__" "Book.__init__" Xr4 f_ad0 fd_ad0):Fk0 P w K mg base (k+1) f_ad0 fd_ad0 ["self"] (sp_binit C0):=by
 refine F_ad0.okG Wk3 fun C A B s H D Q E F h I y=>?_;obtain⟨x,G,rfl,v,q⟩:=h
 refine y _ ⟨_,(Za2 (Ye6 (pvM 0) (Ze1 Za1) rfl)
 (Za2 (Ye6 (pvM 0) (Ze1 Za1) rfl)
 (Za7 (Ye6 (pvM 0) Xs8 rfl)))),?_⟩
 walk_at "1";refine⟨by decide,fun lr f=>?_⟩;have j:x≠lr:=Zb0 v f;refine⟨_,_,_,by rw[Za9 j];exact v,CB.c,CB.r,by decide,by decide,fun ls d=>?_⟩
 have i:ls≠x:=fun z=>by rw[z,Za5] at d;cases d
 rw[Za9 i] at d
 have p:ls≠lr:=fun z=>by rw[z,Za5] at d;cases d
 rw[Za9 p] at d;refine⟨_,_,_,by rw[Za9 i.symm];exact Za5,CB.c,CB.s,by show 1 < 1000;decide,fun l b=>?_⟩
 have g:l≠x:=fun z=>by rw[z,Za5] at b;cases b
 rw[Za9 g] at b
 have u:l≠ls:=fun z=>by rw[z,Za5] at b;cases b
 rw[Za9 u,Za9 g] at b
 have t:l≠lr:=fun z=>by rw[z,Za5] at b;cases b
 rw[Za9 t] at b;refine⟨_,_,_,by rw[Za9 g.symm];exact Za5,CB.c,CB.n,by show 2 < 1000;decide,q lr ls l _ (fun a o m e=>?_) Za5 ?_ ?_ ?_ f d b p.symm⟩
 ·have m:a≠x:=fun z=>m (by rw[z];exact .head _)
  rw[Za9 m,Za9 (Zb0 e b),Za9 m,Za9 (Zb0 e d),Za9 m,Za9 (Zb0 e f)];exact e
 ·rw[Za9 j.symm,Za9 t.symm,Za9 j.symm,Za9 p.symm,Za9 j.symm];exact Za5
 ·rw[Za9 i,Za9 u.symm,Za9 i];exact Za5
 ·rw[Za9 g];exact Za5
theorem Wr4 {k:Nat}(c:Cls K C0)(n1:NoAttr K C0 "term")(n2:NoAttr K C0 "front")(n3:NoAttr K C0 "kinds"){fd_ab0:zc}(F_ab0:Fun K "__init__" "Asked.__init__" Xr5 f_ab0 fd_ab0):Fk0 P w K mg base (k+1) f_ab0 fd_ab0 pq23 (sp_ainit C0):=by
 refine F_ab0.okG Wk4 fun n A j s H p Q E r h v i=>?_;obtain⟨x,u,t,f,rfl,l,q⟩:=h
 refine i _ ⟨_,(Za2 (Ye6 (pvM 0) (pvM 1) rfl)
 (Za2 (Ye6 (pvM 0) (pvM 2) rfl)
 (Za7 (Ye6 (pvM 0) (Ze1 Za1) rfl)))),?_⟩
 walk_at "1";refine⟨_,_,_,l,c,n1,by decide,_,_,_,Za5,c,n2,by show 1 < 1000;decide,by decide,fun g b=>?_⟩;rw[Yg3] at b ⊢
 have d:g≠x:=fun z=>by rw[z,Za5] at b;cases b
 refine⟨_,_,_,by rw[Za9 d.symm];exact Za5,c,n3,by show 2 < 1000;decide,?_⟩;rw[Za9 d] at b;refine q g _ (fun a o m e=>?_) Za5 (by rw[Za9 d];exact Za5) b;have m:a≠x:=fun z=>m (by rw[z];exact .head _);rw[Za9 m,Za9 (Zb0 e b),Za9 m];exact e
theorem Wn7 {k:Nat}{A0:BkA}(CB:ClsB K A0.C){f_cq0:Addr}{fd_cq0:zc}(F_cq0:Fun K "row_of" "row_of" (top 22) f_cq0 fd_cq0):Fk0 P w K mg base (k+1) f_cq0 fd_cq0 pq15 (sp_row A0):=by
 refine F_cq0.okG sc_cq0 fun T A F s H U Q E l h X D=>?_;obtain⟨R,S,k,f,t,rfl,B,J,o,q⟩:=h
 refine D _ ⟨_,(Za2 (pst 3 sc_cq0.nd (pxlM (Zf6 (pvM 0) rfl) (pvM 1)))
 (Za2 (Zd1 (ptcM (Yn4) (pxtM (pvM 3) Za4) (pvM 2))
  (Za7 Zy7)
  Zb4)
 (Za7 (Zb2 (pvM 3))))),?_⟩
 walk_at "1";refine hid fun W v=>?_;obtain⟨G,u,r,L,I,⟨p,rfl,m⟩,l⟩:=B.row J;refine v ?_;have g:∀{ys:List V},r.key.map kV=V.str f::ys->(∀d a b,t=.nd d a b->∃i j p',V.ref p=.ref p'/\H p'=some (.tup [.str d.str,nI i,nI j])/\S[i]?=some a/\S[j]?=some b)->_:=fun {ys} e z=>(⟨_,_,_,B.ins,CB.c,CB.r,_,rfl,_,rfl,G,SqL.of L,.ref p,Zc0 I,p,rfl,_,.inl (.inl m),.str f,by rw[e];exact Zc0 (j:=0) rfl,rfl,by rw[if_neg (by simp)];exact q _ z⟩:∃x x_1 x_2,H A0.b=some (HO.ins x x_1 x_2)/\Cls K x/\NoAttr K x "rows"/\∃x,zaj ("rows":Str) x_2=some x/\∃p,x=V.ref p/\∃x,SqL K H p x/\∃x_3,atI x ((k:Nat):Int)=some x_3/\∃p,x_3=V.ref p/\∃x,SqT K H p x/\∃x_4,atI x 0=some x_4/\scal x_4 (V.str f)=true/\if (!decide (x_4=V.str f))=true then False else Q x_3 H);rcases l with ⟨rfl,n⟩ | ⟨d,i,j,x,y,rfl,rfl,N,M⟩
 ·rcases o with ⟨rfl,rfl⟩ | ⟨d,a,b,rfl,_⟩
  ·exact g rfl fun _ _ _ z=>nomatch z
  ·exact absurd rfl (n d a b)
 ·rcases o with ⟨z,_⟩ | ⟨O,a,b,z,rfl⟩
  ·cases z
  ·cases z
   exact g rfl fun _ _ _ z=>by cases z;exact⟨i,j,p,rfl,m,N,M⟩
theorem Wj5:FnScope ["book","term","kinds"] ["book","term","kinds"] (Za3 (top 23)):=scm (by decide +kernel)
theorem Wj7:FnScope ["book","term","kinds"] ["book","term","kinds"] (Za3 (top 24)):=scm (by decide +kernel)
theorem Wj4:FnScope ["book","term","kinds"] ["book","term","kinds"] (Za3 (top 25)):=scm (by decide +kernel)
theorem Wj9:FnScope ["book","term","kinds"] ["book","term","kinds"] (Za3 (top 26)):=scm (by decide +kernel)
theorem Wj3:FnScope ["book","term","kinds"] ["book","term","kinds"] (Za3 (top 27)):=scm (by decide +kernel)
theorem Wk0:FnScope ["book","term","kinds"] ["book","term","kinds"] (Za3 (top 28)):=scm (by decide +kernel)
theorem Wj8:FnScope ["book","term","kinds"] ["book","term","kinds"] (Za3 (top 29)):=scm (by decide +kernel)
theorem sc_cm0:FnScope ["book","term","kinds","row"] ["book","term","kinds"] (Za3 (top 30)):=scm (by decide +kernel)
theorem Wj6:FnScope ["book","term","kinds"] ["book","term","kinds"] (Za3 (top 31)):=scm (by decide +kernel)
theorem Wo4 {k:Nat}{f_cg0:Addr}{fd_cg0:zc}(F_cg0:Fun K "of_pair" "of_pair" (top 23) f_cg0 fd_cg0)(C_noted:Cl P w K mg base k "noted" pq16 (sp_noted A0)):Fk0 P w K mg base (k+1) f_cg0 fd_cg0 pq18 (sp_deed K A0 N .pair):=by
 refine F_cg0.okG Wj5 fun o A c s H u Q E l h I b=>?_;obtain⟨v,y,t,r,z,F,g,R,S,rfl,d,B,C,n,x,e,j,G,D,q⟩:=h;refine b _ ⟨_,(Za7 (Zb2 (Zb8 C_noted l (Za0 (pvM 0) (Za0 (Zb5 (Za0 Zb1 (Za0 (pxlM (pvM 2) Za4) (Za0 (pxlM (pvM 2) Za4) Za1)))) Za1))))),?_⟩;walk_at "1";cases Zi0 d j;obtain _ | ⟨i,_ | ⟨f,_ | _⟩⟩:=e;have a:=SqL.of (K:=K) n;exact⟨_,a,_,rfl,_,a,_,rfl,by decide,fun p m=>q.noted B (by decide) (by omega) i f m⟩
theorem Wo6 {k:Nat}{f_ce0:Addr}{fd_ce0:zc}(F_ce0:Fun K "of_left" "of_left" (top 24) f_ce0 fd_ce0)(C_row_of:Cl P w K mg base k "row_of" pq15 (sp_row A0)):Fk0 P w K mg base (k+1) f_ce0 fd_ce0 pq18 (sp_deed K A0 N .left):=by
 refine F_ce0.okG Wj7 fun z A c s H D Q E n h U a=>?_;obtain⟨v,G,t,C,I,M,g,R,S,rfl,d,B,J,x,F,e,l,O,L,q⟩:=h;refine a _ ⟨_,(Za7 (Zb2 (pxtM (Zb8 C_row_of n (Za0 (pvM 0) (Za0 (pxlM (pvM 2) Za4) (Za0 Zb1 Za1)))) Za4))),?_⟩;walk_at "1";cases Zi0 d l;obtain _ | ⟨f,_ | _⟩:=e;have r:=SqL.of (K:=K) x;exact⟨_,r,_,rfl,R,S,_,_,_,rfl,B.b,f,.inr ⟨_,_,_,rfl,rfl⟩,fun u m=>by obtain⟨i,j,p,rfl,o,y,T⟩:=m _ _ _ rfl;exact⟨p,rfl,_,.inl (.inl o),_,rfl,q.here B y⟩⟩
theorem Wo3 {k:Nat}{f_ci0:Addr}{fd_ci0:zc}(F_ci0:Fun K "of_right" "of_right" (top 25) f_ci0 fd_ci0)(C_row_of:Cl P w K mg base k "row_of" pq15 (sp_row A0)):Fk0 P w K mg base (k+1) f_ci0 fd_ci0 pq18 (sp_deed K A0 N .right):=by
 refine F_ci0.okG Wj4 fun z A c s H D Q E n h U a=>?_;obtain⟨v,G,t,C,I,M,g,R,S,rfl,d,B,J,x,F,e,l,O,L,q⟩:=h;refine a _ ⟨_,(Za7 (Zb2 (pxtM (Zb8 C_row_of n (Za0 (pvM 0) (Za0 (pxlM (pvM 2) Za4) (Za0 Zb1 Za1)))) Za4))),?_⟩;walk_at "1";cases Zi0 d l;obtain _ | ⟨f,_ | _⟩:=e;have r:=SqL.of (K:=K) x;exact⟨_,r,_,rfl,R,S,_,_,_,rfl,B.b,f,.inr ⟨_,_,_,rfl,rfl⟩,fun u m=>by obtain⟨i,j,p,rfl,o,T,y⟩:=m _ _ _ rfl;exact⟨p,rfl,_,.inl (.inl o),_,rfl,q.here B y⟩⟩
theorem Wo8 {k:Nat}{f_cc0:Addr}{fd_cc0:zc}(F_cc0:Fun K "of_first" "of_first" (top 26) f_cc0 fd_cc0)(C_noted:Cl P w K mg base k "noted" pq16 (sp_noted A0))(C_number_of:Cl P w K mg base k "number_of" pq17 (sp_number A0 N)):Fk0 P w K mg base (k+1) f_cc0 fd_cc0 pq18 (sp_deed K A0 N .first):=by
 refine F_cc0.okG Wj9 fun M A e s H T Q E b h Gx d=>?_;obtain⟨v,X,t,O,Y,gs,g,R,S,rfl,i,B,u,G,W,n,r,J,hR,q⟩:=h;refine d _ ⟨_,(Za7 (Zb2 (Zb8 C_noted b (Za0 (pvM 0) (Za0 (Zb5 (Za0 Zb1 (Za0 (pxlM (pvM 2) Za4) (Za0 (Zb8 C_number_of b (Za0 (pvM 0) (Za0 (pxtM (pvM 1) Za4) Za1))) Za1)))) Za1))))),?_⟩;walk_at "1";cases Zi0 i r;obtain _ | ⟨o,_ | _⟩:=n;have F:=SqL.of (K:=K) G;obtain⟨l,x,U,rfl,y,Z,z⟩:=u;obtain _ | ⟨I,D⟩:=z;obtain _ | _:=D;exact⟨_,F,_,rfl,l,rfl,_,y,_,rfl,B.number I (J.2.2 _ (.head _)).2 (by omega) fun k H' R' S' f L j a V c=>⟨by decide,fun p C=>(q.after (m:=1) f j a (by omega)).noted L (zg _) (by omega) (Yn3 a o) c C⟩⟩
theorem Wo2 {k:Nat}{f_cj0:Addr}{fd_cj0:zc}(F_cj0:Fun K "of_second" "of_second" (top 27) f_cj0 fd_cj0)(C_noted:Cl P w K mg base k "noted" pq16 (sp_noted A0))(C_number_of:Cl P w K mg base k "number_of" pq17 (sp_number A0 N)):Fk0 P w K mg base (k+1) f_cj0 fd_cj0 pq18 (sp_deed K A0 N .second):=by
 refine F_cj0.okG Wj3 fun M A i s H T Q E b h Gx e=>?_;obtain⟨v,W,t,O,X,gs,g,R,S,rfl,j,B,z,d,u,o,y,J,hR,q⟩:=h;refine e _ ⟨_,(Za7 (Zb2 (Zb8 C_noted b (Za0 (pvM 0) (Za0 (Zb5 (Za0 Zb1 (Za0 (Zb8 C_number_of b (Za0 (pvM 0) (Za0 (pxtM (pvM 1) Za4) Za1))) (Za0 (pxlM (pvM 2) Za4) Za1)))) Za1))))),?_⟩;walk_at "1";cases Zi0 j y;obtain _ | ⟨r,_ | _⟩:=o;have Y:=SqL.of (K:=K) d;obtain⟨n,x,U,rfl,C,Z,D⟩:=z;obtain _ | ⟨I,G⟩:=D;obtain _ | _:=G;exact⟨n,rfl,_,C,_,rfl,B.number I (J.2.2 _ (.head _)).2 (by omega) fun k H' R' S' f L l a V c=>⟨_,SqL.of (f _ _ u d),_,rfl,by decide,fun p F=>(q.after (m:=1) f l a (by omega)).noted L (zg _) (by omega) c (Yn3 a r) F⟩⟩
theorem Wo9 {k:Nat}{f_cb0:Addr}{fd_cb0:zc}(F_cb0:Fun K "of_cases" "of_cases" (top 28) f_cb0 fd_cb0): Fk0 P w K mg base (k+1) f_cb0 fd_cb0 pq18 (sp_deed K A0 N .cases):=by
 refine F_cb0.okG Wk0 fun n A e s H p Q E C h I d=>?_;obtain⟨v,x,t,o,y,F,g,R,S,rfl,f,B,z,m,u,i,l,G,D,q⟩:=h
 refine d _ ⟨_,(Za2 (Zd1 (ptcM (Yn4) (pxlM (pvM 2) Za4) (pxlM (pvM 2) Za4))
  (Za7 Zy7)
  Zb4)
 (Za7 (Zb2 (pxlM (pvM 2) Za4)))),?_⟩
 walk_at "1";cases Zi0 f l;obtain _ | ⟨r,_ | ⟨c,_ | ⟨j,_ | _⟩⟩⟩:=i;have a:=SqL.of (K:=K) m;cases B.b.bk.inj _ _ _ c j;exact⟨_,a,_,rfl,_,a,_,rfl,rfl,by rw[if_neg (by simp)];exact⟨_,a,_,rfl,q.here B c⟩⟩
theorem Wo7 {k:Nat}{f_cd0:Addr}{fd_cd0:zc}(F_cd0:Fun K "of_fun" "of_fun" (top 29) f_cd0 fd_cd0)(C_noted:Cl P w K mg base k "noted" pq16 (sp_noted A0))(C_number_of:Cl P w K mg base k "number_of" pq17 (sp_number A0 N)):Fk0 P w K mg base (k+1) f_cd0 fd_cd0 pq18 (sp_deed K A0 N .fn):=by
 refine F_cd0.okG Wj8 fun L A i s H O Q E b h Gx e=>?_;obtain⟨v,U,t,M,V,Z,g,R,S,rfl,j,B,C,d,u,o,z,I,Y,q⟩:=h;refine e _ ⟨_,(Za7 (Zb2 (Zb8 C_noted b (Za0 (pvM 0) (Za0 (Zb5 (Za0 Zb1 (Za0 (Zb8 C_number_of b (Za0 (pvM 0) (Za0 (pxtM (pvM 1) Za4) Za1))) (Za0 (pxlM (pvM 2) Za4) Za1)))) Za1))))),?_⟩;walk_at "1";cases Zi0 j z;obtain _ | ⟨r,_ | _⟩:=o;have W:=SqL.of (K:=K) d;obtain⟨n,x,y,rfl,D,G,X⟩:=C;exact⟨n,rfl,_,D,_,rfl,B.number G I.1.2 (by omega) fun k H' R' S' f J l a T c=>⟨_,SqL.of (f _ _ u d),_,rfl,by decide,fun p F=>(q.after (m:=1) f l a (by omega)).noted J (zg _) (by omega) c (Yn3 a r) F⟩⟩
theorem Wo1 {k:Nat}{f_cm0:Addr}{fd_cm0:zc}(F_cm0:Fun K "of_use" "of_use" (top 30) f_cm0 fd_cm0)(C_row_of:Cl P w K mg base k "row_of" pq15 (sp_row A0)):Fk0 P w K mg base (k+1) f_cm0 fd_cm0 pq18 (sp_deed K A0 N .use):=by
 refine F_cm0.okG sc_cm0 fun D A e s H G Q E x h V d=>?_;obtain⟨v,J,t,F,L,T,g,R,S,rfl,f,B,M,y,I,l,o,U,O,q⟩:=h
 refine d _ ⟨_,(Za2 (pst 3 sc_cm0.nd (Zb8 C_row_of x (Za0 (pvM 0) (Za0 (pxlM (pvM 2) Za4) (Za0 Zb1 Za1)))))
 (Za2 (Zd1 (ptcM (Yn4) (pxtM (pvM 3) Za4) (pxlM (pvM 2) Za4))
  (Za7 Zy7)
  Zb4)
 (Za7 (Zb2 (pxtM (pvM 3) Za4))))),?_⟩
 walk_at "1";cases Zi0 f o;obtain _ | ⟨n,_ | ⟨m,_ | _⟩⟩:=l;have c:=SqL.of (K:=K) y;refine⟨_,c,_,rfl,R,S,_,_,_,rfl,B.b,n,.inr ⟨_,_,_,rfl,rfl⟩,fun u r=>?_⟩;obtain⟨i,j,p,rfl,a,C,z⟩:=r _ _ _ rfl;cases B.b.bk.inj _ _ _ C m;exact⟨p,rfl,_,.inl (.inl a),_,rfl,_,c,_,rfl,rfl,by rw[if_neg (by simp)];exact⟨p,rfl,_,.inl (.inl a),_,rfl,q.here B z⟩⟩
theorem Wo5 {k:Nat}{f_cf0:Addr}{fd_cf0:zc}(F_cf0:Fun K "of_off" "of_off" (top 31) f_cf0 fd_cf0)(C_row_of:Cl P w K mg base k "row_of" pq15 (sp_row A0))(C_number_of:Cl P w K mg base k "number_of" pq17 (sp_number A0 N)){aLOW:Addr}(m_LOW:MgI mg "LOW" aLOW)(t_LOW:∀H,SqT K H aLOW [.str "low"]):Fk0 P w K mg base (k+1) f_cf0 fd_cf0 pq18 (sp_deed K A0 N .off):=by
 refine F_cf0.okG Wj6 fun G A d s H J Q E a h X c=>?_;obtain⟨v,O,t,I,T,W,g,R,S,rfl,f,B,o,C,M,j,n,F,V,q⟩:=h
 refine c _ ⟨_,(Za2 (Zf3 (Zb8 C_row_of a (Za0 (pvM 0) (Za0 (pxlM (pvM 2) Za4) (Za0 (pxtM (Zv7 (v:=.ref aLOW) (by exact rfl) m_LOW (by exact rfl)) Za4) Za1)))))
 (Za7 (Zb2 (Zb8 C_number_of a (Za0 (pvM 0) (Za0 (pxtM (pvM 1) Za4) Za1)))))),?_⟩
 walk_at "1";cases Zi0 f n;obtain _ | ⟨l,_ | _⟩:=j;have z:=SqL.of (K:=K) C;obtain⟨i,x,L,rfl,p,U,r⟩:=o;obtain _ | ⟨D,y⟩:=r;obtain _ | _:=y;exact⟨_,z,_,rfl,_,t_LOW H,_,rfl,R,S,_,_,_,rfl,B.b,l,.inl ⟨rfl,rfl⟩,fun u _=>⟨i,rfl,_,p,_,rfl,B.number D (F.2.2 _ (.head _)).2 (by omega) (q.after (m:=60) (fun _ _ _ e=>e) (yau _) (yau _) (by omega))⟩⟩
theorem sc_ca0:FnScope ["book","asked","given","k","ahead"] ["book","asked","given"] (Za3 (top 33)):=scm (by decide +kernel)
theorem sc_bu0:FnScope ["book","asked","given","deed"] ["book","asked","given"] (Za3 (top 34)):=scm (by decide +kernel)
theorem Wj2:FnScope ["book","asked"] ["book","asked"] (Za3 (top 35)):=scm (by decide +kernel)
theorem sc_bx0:FnScope ["book","asked","place","more","front"] ["book","asked"] (Za3 (top 36)):=scm (by decide +kernel)
theorem Wp0 {k:Nat}(CA:ClsA K C0){fd_ca0:zc}(F_ca0:Fun K "of_at" "of_at" (top 33) f_ca0 fd_ca0)(C_number_of:Cl P w K mg base k "number_of" pq17 (sp_number A0 N))(m_len:mg "len"=none):Fk0 P w K mg base (k+1) f_ca0 fd_ca0 pq13 (sp_ofat4 K C0 A0 N):=by
 refine F_ca0.okG sc_ca0 fun I A u s H L Q E x h W r=>?_;obtain⟨f,V,b,Γ0,J,j,R,S,rfl,D,B,F,G,T,U,q⟩:=h
 refine r _ ⟨_,(Za2 (pst 3 sc_ca0.nd (pxtM (Zf6 (pvM 1) rfl) Za4))
 (Za2 (pst 4 sc_ca0.nd (Ze2 Zc6 (by exact rfl) m_len Ze7 (Za0 (Zf6 (pvM 1) rfl) Za1)))
 (Za2 (Zd1 (Zy6 (Yn5) (Zt3) Za4 (pvM 3) (pvM 4))
  (Za7 (Zb2 (pxlM (Zf6 (pvM 1) rfl) (pvM 3))))
  Zb4)
 (Za2 (Zd1 (Xi3 (Zy6 (Yn5) (Zt3) (pvM 4) (pvM 3) (Zb6 Ze4 (pvM 4) (Ze2 Zc6 (by exact rfl) m_len Ze7 (Za0 (pvM 2) Za1)))))
  (Za7 Zy7)
  Zb4)
 (Za7 (Zb2 (Zb8 C_number_of x (Za0 (pvM 0) (Za0 (pxlM (pvM 2) (Zb6 Zj3 (pvM 3) (pvM 4))) Za1))))))))),?_⟩
 walk_at "1";have n:=F.tm;have a:=F.has;rw[D] at n a;obtain⟨p,C,y⟩:=n;have a:(f.Γ++Γ0)[j]?=some f.g:=a;have v:=zk F.fS;have M:=zk G.p;refine⟨_,_,_,F.ins,CA.c,CA.t,_,rfl,p,C,_,y,_,rfl,_,_,_,F.ins,CA.c,CA.f,_,rfl,_,rfl,_,.inl (SqL.of F.fr),_,rfl,?_⟩;rw[if_pos (Int.natCast_nonneg _),yn];refine⟨_,rfl,?_⟩
 by_cases c:j < f.fs.length
 ·rw[if_pos (by omega)]
  obtain⟨z,d,i⟩:=paired_get F.fS (zb c);rw[yh (by omega),d] at a;cases a;refine⟨_,_,_,F.ins,CA.c,CA.f,_,rfl,?_⟩;exact⟨_,rfl,_,_,rfl,SqL.of F.fr,_,Zc0 (by rw[yba,zb c];rfl),q.here B i⟩
 ·rw[if_neg (by omega)]
  have O:j < f.Γ.length+Γ0.length:=by
   have:=(yc.mp a).1;rw[yd] at this;exact this
  rw[yk (by omega)] at a;refine⟨_,rfl,?_⟩;rw[if_pos (by omega)]
  have o:j - f.fs.length < b.length:=by omega
  obtain⟨z,d,i⟩:=paired_get G.p (zb o);rw[<- v,d] at a;cases a;refine⟨b,.inl (SqL.of G.l),_,rfl,?_⟩;rw[if_neg (by simp;omega)];refine⟨_,rfl,b,SqL.of G.l,b[j - f.fs.length],?_,B.number i (G.s _ (yo d)) (by omega) (q.after (m:=60) (fun _ _ _ e=>e) (yau _) (yau _) (by omega))⟩;rw[show (j:Int) - (f.fs.length:Int)=((j - f.fs.length:Nat):Int) by omega];exact Zc0 (zb o)
theorem Wp6 {k:Nat}{fD:Dd->Addr}{fdD:Dd->zc}(CA:ClsA K C0){f_bu0:Addr}{fd_bu0:zc}(F_bu0:Fun K "kind_by" "kind_by" (top 34) f_bu0 fd_bu0)(C_of_at:Cl P w K mg base k "of_at" pq13 (sp_ofat4 K C0 A0 N)){aDEEDS:Addr}(m_ae0:MgI mg "DEEDS" aDEEDS)(D_DEEDS:KDict K w aDEEDS (tblD fD))(G_ae0:∀r,Fk0 P w K mg base k (fD r) (fdD r) ["book","term","kinds"] (sp_deed K A0 N r))(k_ae0:∀r,zan K (.ref (fD r))=true)(b_ae0:∀r,Binds K (fdD r) ["book","term","kinds"] []):Fk0 P w K mg base (k+1) f_bu0 fd_bu0 pq13 (sp_kindby K C0 A0 N):=by
 refine F_bu0.okG sc_bu0 fun M A v s H T Q E e h U n=>?_;obtain⟨f,C,y,Γ0,a,R,S,rfl,D,B,F,G,x,m,q⟩:=h
 refine n _ ⟨_,(Za2 (Zd1 (ptcM (Ze0) (pxtM (Zf6 (pvM 1) rfl) Za4) Zb1)
  (Za7 (Zb2 (Zb8 C_of_at e (Za0 (pvM 0) (Za0 (pvM 1) (Za0 (pvM 2) Za1))))))
  Zb4)
 (Za2 (pst 3 sc_bu0.nd (Zm7 D_DEEDS rfl m_ae0 (pxtM (Zf6 (pvM 1) rfl) Za4)))
 (Za7 (Zb2 (Xs9 (i:=3) G_ae0 e rfl k_ae0 b_ae0 (Za0 (pvM 0) (Za0 (Zf6 (pvM 1) rfl) (Za0 (Zf6 (pvM 1) rfl) Za1)))))))),?_⟩
 walk_at "1";simp only[Xv9];walk_at "1";obtain⟨p,O,u,l,o⟩:=Yz2 F.tm;refine⟨_,_,_,F.ins,CA.c,CA.t,_,rfl,p,u,_,l,_,o,rfl,?_⟩
 by_cases c:f.t.tag="at"
 ·obtain⟨j,I⟩:=Xg7 c
  rw[if_pos (by rw[c])];exact⟨f,C,y,Γ0,a,j,R,S,rfl,I,B,F,G,x,m,q⟩
 ·rw[if_neg (fun z=>c (V.str.inj z))]
  have b:∀k,f.t≠.at k:=fun k z=>c (by rw[z];rfl);obtain⟨d,L,J⟩:=Xz9 fD b;refine⟨_,_,_,F.ins,CA.c,CA.t,_,rfl,p,u,_,l,_,o,_,rfl,_,J,d,rfl,_,_,_,F.ins,CA.c,CA.t,_,rfl,_,_,_,F.ins,CA.c,CA.k,_,rfl,?_⟩;exact⟨_,f.lk,f.t,a,f.ks,f.gs,f.g,R,S,rfl,L,B,F.tm,F.kd,F.nk,F.kS,Xl3 F.has F.kk D b,F.fine,m,q⟩
set_option tactic.hygienic true in
theorem Wn8 {k:Nat}(CA:ClsA K C0){f_cp0:Addr}{fd_cp0:zc}(F_cp0:Fun K "put_in_front" "put_in_front" (top 35) f_cp0 fd_cp0)(C_number_of:Cl P w K mg base k "number_of" pq17 (sp_number A0 N))(C_row_of:Cl P w K mg base k "row_of" pq15 (sp_row A0))(m_len:mg "len"=none):Fk0 P w K mg base (k+1) f_cp0 fd_cp0 pq14 (sp_front K C0 A0 N):=by
 refine F_cp0.okG Wj2 fun cdv A outer s H vs Q E hr h Gx hGx=>?_;obtain⟨f,Γ0,ws,R,S,kid,s,rfl,ek,ec,B,F,hR,q⟩:=h
 refine hGx _ ⟨_,(Za2 (Zd1 (ptcM (Ze0) (pxtM (Zf6 (pvM 1) rfl) Za4) Zb1)
  (Za7 (Zb2 (Zb8 C_number_of hr (Za0 (pvM 0) (Za0 (pxtM (Zf6 (pvM 1) rfl) Za4) Za1)))))
  Zb4)
 (Za7 (Zb2 (pxtM (Zb8 C_row_of hr (Za0 (pvM 0) (Za0 (pxlM (Zf6 (pvM 1) rfl) Za4) (Za0 Zb1 Za1)))) (Ze2 Zc6 (by exact rfl) m_len Ze7 (Za0 (Zf6 (pvM 1) rfl) Za1)))))),?_⟩
 walk_at "1";obtain⟨p,xs,ev,hp,h0⟩:=Yz2 F.tm;refine⟨_,_,_,F.ins,CA.c,CA.t,_,rfl,p,ev,_,hp,_,h0,rfl,?_⟩
 by_cases c:f.t.tag="fun"
 ·rw[if_pos (by rw[c])]
  have tm:=F.tm;have fi:=F.fine;generalize f.t=t at *
  cases t with
  |fn s1 a =>
   obtain⟨p1,x,y,ev',hs,h1,ha⟩:=tm;cases ec;exact⟨_,_,_,F.ins,CA.c,CA.t,_,rfl,p1,ev',_,hs,_,rfl,B.number h1 fi.1.2 (by omega) q⟩
  |«at» k=>cases ek
  |one u a ss=>have c:u.str="fun":=c;cases u<;>exact absurd c (by decide)
  |two u a b=>have c:u.str="fun":=c;cases u<;>exact absurd c (by decide)
  |cs a b d=>exact absurd (show ("cases":Str)="fun" from c) (by decide)
 ·rw[if_neg (fun z=>c (V.str.inj z))]
  refine⟨_,_,_,F.ins,CA.c,CA.k,_,rfl,_,rfl,_,SqL.of F.kd,?_⟩;have lk:=zk F.kS;have kS:=F.kS;have kk:=F.kk;have hs:=F.has
  have fin:∀{g0 h k:Tm} {gs:List Tm},f.gs=g0::gs->g0=.nd .one h k->(f.gs.length=1/\s=h∨f.gs.length=2/\s=k)->_:=fun {g0 h k gs} e0 e1 e2=>(by
   rw[e0,e1] at kS;generalize ek':f.ks=ks at kS
   cases kS with
   |cons z1 z2 =>
    rename_i k0 kr;refine⟨_,Zc0 (j:=0) rfl,R,S,k0,_,_,rfl,B.b,z1,.inr ⟨_,_,_,rfl,rfl⟩,fun u hu=>?_⟩;obtain⟨i,j,pp,rfl,hpp,y1,y2⟩:=hu _ _ _ rfl;refine⟨_,_,_,F.ins,CA.c,CA.k,_,rfl,_,rfl,_,.inl (SqL.of F.kd),pp,rfl,_,.inl (.inl hpp),?_⟩;rw[yn,lk];rcases e2 with ⟨e2,rfl⟩ | ⟨e2,rfl⟩
    ·rw[e2];exact⟨_,rfl,q.here B y1⟩
    ·rw[e2];exact⟨_,rfl,q.here B y2⟩:∃x,atI (ydk nI f.ks) 0=some x/\sp_row A0 [V.ref A0.b,x,V.str "one"] H (fun x H1=>∃x_1 x_2 x_3,H1 f.a=some (HO.ins x_1 x_2 x_3)/\Cls K x_1/\NoAttr K x_1 "kinds"/\∃x_4,zaj ("kinds":Str) x_3=some x_4/\∃p,x_4=V.ref p/\∃x_5,(SqL K H1 p x_5∨SqT K H1 p x_5)/\∃p,x=V.ref p/\∃x,SqT K H1 p x/\∃x_6,atI x (x_5.length:Int)=some x_6/\Q x_6 H1) E0)
  have go:∃g0 h k gs,f.gs=g0::gs/\g0=.nd .one h k/\(f.gs.length=1/\s=h∨f.gs.length=2/\s=k):=by
   generalize f.t=t at *;generalize f.gs=gs at *
   cases t with
   |«at» k=>cases ek
   |one u a ss=>match gs,ek with | [],ek=>cases ek
   |two u a b=>match gs,ek with | [],ek=>cases ek | [_],ek=>cases ek
   |fn s1 a=>exact absurd rfl c
   |cs a b d =>
    obtain⟨h,k,z1,_⟩:=hs
    match gs,ek with
    | [],ek=>cases ek
    | [x],ek =>
     have e:=Zu0 (g:=f.g) kk z1;subst e;cases ec;exact⟨_,_,_,[],rfl,rfl,.inl ⟨rfl,rfl⟩⟩
    | [x,y],ek =>
     have e:=Zu0 (g:=f.g) kk z1;subst e;cases ec;exact⟨_,_,_,[y],rfl,rfl,.inr ⟨rfl,rfl⟩⟩
  obtain⟨g0,h,k,gs,z1,z2,z3⟩:=go;exact fin z1 z2 z3
theorem Wp3 {k:Nat}(CA:ClsA K C0){f_bx0:Addr}{fd_bx0:zc}(F_bx0:Fun K "next_within" "next_within" (top 36) f_bx0 fd_bx0)(C_put_in_front:Cl P w K mg base (k+1) "put_in_front" pq14 (sp_front K C0 A0 N)){fd_ab0:zc}(Mk_Asked:Mk K C0 f_ab0)(G_ab0:Fk0 P w K mg base k f_ab0 fd_ab0 pq23 (sp_ainit C0))(m_aa0:MgI mg "Asked" C0)(b_ab0:Binds K fd_ab0 pq23 [])(m_af0:MgI mg "INNER" aINNER)(D_INNER:KDict K w aINNER (innV aT))(hI:Inn K aT)(m_len:mg "len"=none):Fk0 P w K mg base (k+2) f_bx0 fd_bx0 pq14 (sp_next K C0 A0 N):=by
 refine F_bx0.okG sc_bx0 fun z7 A j9 s H vs Q E hr h Gx j5=>?_;obtain⟨f,Γ0,ws,R,S,U,m,rfl,G,B,F,hR,z5,q⟩:=h
 refine j5 _ ⟨_,(Za2 (Zj9 (pxtM (Zm7 D_INNER rfl m_af0 (pxtM (Zf6 (pvM 1) rfl) Za4)) (Ze2 Zc6 (by exact rfl) m_len Ze7 (Za0 (Zf6 (pvM 1) rfl) Za1))) (Zi2 rfl (Zc2 (pgn 2 sc_bx0.nd) (Zc2 (pgn 3 sc_bx0.nd) Zg1))))
 (Za2 (pst 4 sc_bx0.nd (Zf6 (pvM 1) rfl))
 (Za2 (Zd1 (Zy5 (pvM 3) (fun _=>rfl))
  (Za7 (pst 4 sc_bx0.nd (Zb6 Yb1 (Ze1 (Za0 (Zb8 C_put_in_front hr (Za0 (pvM 0) (Za0 (pvM 1) Za1))) Za1)) (pvM 4))))
  Zb4)
 (Za7 (Zb2 (Xj2 Mk_Asked G_ab0 hr (by exact rfl) m_aa0 b_ab0 .nil Yi2 (Za0 (pxtM (Zf6 (pvM 1) rfl) (pvM 2)) (Za0 (pvM 4) Za1)))))))),?_⟩
 obtain⟨p,xs,ev,hp,h0⟩:=Yz2 F.tm;obtain⟨a,ha,q8⟩:=Yp0 hI f.t;refine hid fun Gz D=>?_;obtain⟨p1,z1,Z,x,z6,z4,hi,hx,hk⟩:=Xx4 F.tm G;refine D ?_;refine sqk (fun C=>C [some (.ref A0.b),some (.ref f.a),some (nI Z),some (nI m),none] H) (fun C l=>?_) ?_
 ·walk_at "1"
  obtain⟨ys,r,_,hz⟩:=q8.sq H;obtain⟨b,hb,j4⟩:=hz _ _ _ hi;refine⟨_,_,_,F.ins,CA.c,CA.t,_,rfl,p,ev,_,hp,_,h0,_,rfl,_,ha,_,_,_,F.ins,CA.c,CA.k,_,rfl,_,rfl,_,.inl (SqL.of F.kd),a,rfl,ys,r,?_⟩;rw[yn,zk F.kS];exact⟨_,Zc0 hb,b,rfl,_,j4,rfl,_,_,rfl,_,_,rfl,rfl,l⟩
 refine sqk (fun C=>C [some (.ref A0.b),some (.ref f.a),some (nI Z),some (nI m),some (.ref f.la)] H) (fun C l=>?_) ?_
 ·walk_at "1"
  exact⟨_,_,_,F.ins,CA.c,CA.f,_,rfl,l⟩
 obtain⟨⟨g',j2⟩,hm⟩:=Xk1 F.has F.kk G;refine sqk (fun C=>∀H' (la:Addr) (fs:List Nat) (j:List Rw) (i:List Tm),FrB (badT A0 N) H H'->BkT A0 N j i H'->R <+: j->S <+: i->j.length<=R.length+60->H' la=some (.lst (fs.map nI))->(la=f.la∨H la=none)->Paired (NumS i) fs (Zw3 f.t f.gs++f.Γ)->C [some (.ref A0.b),some (.ref f.a),some (nI Z),some (nI m),some (.ref la)] H') (fun C l=>?_) fun n la fs j i e2 O q1 q2 ql u L q4=>?_
 ·walk_at "1"
  rcases hm with ⟨rfl,M⟩ | ⟨rfl,s0,M⟩
  ·refine⟨false,rfl,?_⟩
   rw[if_neg yi];exact l _ f.la f.fs R S (fun _ _ _ e=>e) B (yau _) (yau _) (ycj _ _) F.fr (.inl rfl) (by rw[M];exact F.fS)
  ·refine⟨true,rfl,?_⟩
   rw[if_pos rfl];refine⟨f,Γ0,ws,R,S,U,s0,rfl,G,M,B,F,hR,fun k H' j i fb B' p1 J q5 j1=>⟨by decide,fun z3 j6=>?_⟩⟩;have Y:=Za6 j6 (.lst [nI k]);refine⟨_,Za5,_,Y _ _ (fb _ _ F.nl F.fr),zv (Zd9 (by show 1+_<=_;rw[yn];omega)),fun p3 h3=>?_⟩;have s3:=Za6 h3 (.lst ([nI k]++f.fs.map nI));have T:=Y.trans s3;refine l _ p3 (k::f.fs) j i (fb.trans (.of T)) (B'.keep T) p1 J q5 Za5 (.inr (B'.free fb (Y.free h3))) (by rw[M];exact .cons j1 (Yb3 J F.fS))
 walk_at "1";have F2:=F.mono e2 B.mut q2;refine hid fun Gz D=>?_;obtain⟨J,z0,z2,x2,j8,q9,W,q7,j0⟩:=Xx4 F2.tm G;refine D ?_;rw[hi] at W;cases W;refine⟨_,_,_,F2.ins,CA.c,CA.t,_,rfl,J,j8,_,q9,_,q7,fun y dx r j3 ne=>?_⟩;have X:Same n (upd (upd n dx (.own y)) y (.ins C0 dx [])):=(Za6 j3 _).trans (Za6 (by rw[Za9 ne.symm];exact r) _);have V:upd (upd n dx (.own y)) y (.ins C0 dx []) y=some (.ins C0 dx []):=Za5;generalize upd (upd n dx (.own y)) y (.ins C0 dx [])=H3 at X V ⊢;refine⟨y,dx,_,_,rfl,V,fun lk H' f4 h4 q0 q6=>⟨rfl,?_⟩⟩;have I:Same n H':=fun a o e=>f4 a o (fun z=>by rw[yf.mp z,r] at e;cases e) (X _ _ e);have B4:=O.keep I;have j7:FrB (badT A0 N) H H':=e2.trans (.of I);have d:n lk=none:=X.free q6;have ny:y ∉ badT A0 N:=O.has r
 have q3:la ∉ badT A0 N:=by
  rcases L with rfl | L
  ·exact F.nl
  ·exact B.has L
 refine q { a:=y,dx:=dx,la:=la,lk:=lk,v:=x2,t:=U,fs:=fs,Γ:=Zw3 f.t f.gs++f.Γ,ks:=[],gs:=[],g:=g' } H' j i j7 B4 q1 q2 ql ⟨h4,LE.keep j0 I,I _ _ u,q4,q0,.nil,Yo4 _ _,by rw[yam];exact j2,(Wr7 F.fine G).1,ny,q3,O.has d⟩ rfl rfl rfl (O.free e2 d) L (fun z=>?_);rw[show la=lk from z,d] at u;cases u
theorem sc_bt0:FnScope ["term","given","book","waiting","asked","found"] ["term","given"] (Za3 (top 37)):=scm (by decide +kernel)
theorem Wp7 {k:Nat}{CB:Addr}(CBB:ClsB K CB)(CA:ClsA K C0){f_bt0:Addr}{fd_bt0:zc}(F_bt0:Fun K "kind" "kind" (top 37) f_bt0 fd_bt0)(C_next_within:Cl P w K mg base (k+1) "next_within" pq14 (fun vs H Q E=>∃A:{ A:BkA // A.C=CB },sp_next K C0 A.1 N vs H Q E))(C_kind_by:Cl P w K mg base (k+1) "kind_by" pq13 (fun vs H Q E=>∃A:{ A:BkA // A.C=CB },sp_kindby K C0 A.1 N vs H Q E)){f_ad0:Addr}{fd_ad0:zc}(Mk_Book:Mk K CB f_ad0)(G_ad0:Fk0 P w K mg base k f_ad0 fd_ad0 ["self"] (sp_binit CB))(m_ac0:MgI mg "Book" CB)(b_ad0:Binds K fd_ad0 ["self"] []){fd_ab0:zc}(Mk_Asked:Mk K C0 f_ab0)(G_ab0:Fk0 P w K mg base k f_ab0 fd_ab0 pq23 (sp_ainit C0))(m_aa0:MgI mg "Asked" C0)(b_ab0:Binds K fd_ab0 pq23 [])(m_af0:MgI mg "INNER" aINNER)(D_INNER:KDict K w aINNER (innV aT))(hI:Inn K aT)(m_len:mg "len"=none):Fk0 P w K mg base (k+2) f_bt0 fd_bt0 ["term","given"] (sp_kindT K N):=by
 refine F_bt0.okG sc_bt0 fun z4 A z1 s H vs Q E hr h Gx z0=>?_;obtain⟨v,t,g,B,gs,Γ0,ws,rfl,hv,hk,fi,hz,d,j7,j1,z3,q0,q⟩:=h
 refine z0 _ ⟨_,(Za2 (pst 2 sc_bt0.nd (Xs7 Mk_Book G_ad0 hr (by exact rfl) m_ac0 b_ad0 .nil Yi2))
 (Za2 (pst 3 sc_bt0.nd (Ze1 (Za0 (Xj2 Mk_Asked G_ab0 hr (by exact rfl) m_aa0 b_ab0 .nil Yi2 (Za0 (pvM 0) (Za0 (Ze1 Za1) Za1))) Za1)))
 (Za7 (Zt0 yas (Xw1 Wc4)
  (Za2 (pst 4 sc_bt0.nd (pxlM (pvM 3) (Wb9 Xf0 Za4)))
 (Za7 (Zd1 (ptcM (Zt3) (Ze2 Zc6 (by exact rfl) m_len Ze7 (Za0 (Zf6 (pvM 4) rfl) Za1)) (Ze2 Zc6 (by exact rfl) m_len Ze7 (Za0 (Zm7 D_INNER rfl m_af0 (pxtM (Zf6 (pvM 4) rfl) Za4)) Za1)))
  (Za7 (Zf3 (Zk4 yl yv yx Ze6 (pvM 3) (Za0 (Zb8 C_next_within hr (Za0 (pvM 2) (Za0 (pvM 4) Za1))) Za1))))
  (Za2 (pst 5 sc_bt0.nd (Zb8 C_kind_by hr (Za0 (pvM 2) (Za0 (pvM 4) (Za0 (pvM 1) Za1)))))
 (Za2 (Zf3 (Zw7 yl zbb ybf Zw9 (pvM 3)))
 (Za2 (Zd1 (Xi3 (Zy5 (pvM 3) (fun _=>rfl)))
  (Za7 (Zb2 (pxlM (Zf6 (pvM 2) rfl) (pvM 5))))
  Zb4)
 (Za7 (Zf3 (Zk4 yl yv yx Ze6 (Zf6 (pxlM (pvM 3) (Wb9 Xf0 Za4)) rfl) (Za0 (pvM 5) Za1)))))))))))))),?_⟩
 refine sqk (fun C=>∀H' (A:BkA),A.C=CB->Same H H'->BkT A N [] [] H'->H A.lr=none->H A.ls=none->H A.dn=none->C [some v,some (.ref B),some (.ref A.b),none,none,none] H') (fun C J=>?_) fun H1 u eC e1 B1 n1 n2 n3=>?_
 ·walk_at "1"
  refine fun y dx I Z ne=>?_;have G:Same H (upd (upd H dx (.own y)) y (.ins CB dx [])):=(Za6 Z _).trans (Za6 (by rw[Za9 ne.symm];exact I) _);have U:upd (upd H dx (.own y)) y (.ins CB dx []) y=some (.ins CB dx []):=Za5;generalize upd (upd H dx (.own y)) y (.ins CB dx [])=H3 at G U ⊢;refine⟨y,dx,rfl,U,fun lr ls dn H' f4 h4 h5 h6 h7 n5 n6 n7 j4=>⟨rfl,?_⟩⟩;have sB:Same H H':=fun a o e=>f4 a o (fun z=>by rw[yf.mp z,I] at e;cases e) (G _ _ e);exact J _ ⟨CB,y,dx,lr,ls,dn⟩ rfl sB (Wu2 h4 h5 h6 h7 j4 (q0.keep sB)) (G.free n5) (G.free n6) (G.free n7)
 refine sqk (fun C=>∀H' (j:Addr) (f:Frm),LpF u N H j B->LpK K C0 u N Γ0 ws g H j B gs [] [] [f] H'->C [some v,some (.ref B),some (.ref u.b),some (.ref j),none,none] H') (fun C J=>?_) fun H2 j f0 F L0=>?_
 ·walk_at "1"
  refine⟨by decide,fun la q9 y dx I Z ne=>?_⟩;have s1:=Za6 q9 (.lst []);have l1:upd H1 la (.lst []) la=some (.lst []):=Za5;generalize upd H1 la (.lst [])=H2 at s1 l1 I Z ⊢;have G:Same H2 (upd (upd H2 dx (.own y)) y (.ins C0 dx [])):=(Za6 Z _).trans (Za6 (by rw[Za9 ne.symm];exact I) _);have U:upd (upd H2 dx (.own y)) y (.ins C0 dx []) y=some (.ins C0 dx []):=Za5;generalize upd (upd H2 dx (.own y)) y (.ins C0 dx [])=H3 at G U ⊢;refine⟨y,dx,_,_,rfl,U,fun lk H' f4 h4 q3 j3=>⟨rfl,by decide,fun j D=>?_⟩⟩;have sB:Same H2 H':=fun a o e=>f4 a o (fun z=>by rw[yf.mp z,I] at e;cases e) (G _ _ e);have sC:=s1.trans sB;have sD:=Za6 D (.lst [.ref y]);have sE:=sC.trans sD;have sF:=e1.trans sE;have W:=G.free j3;have q1:H1 j=none:=sC.free D;have q2:H1 lk=none:=s1.free W;have ny:H1 y=none:=s1.free I
  have j8:B ∉ badT u N:=fun z=>by
   obtain⟨ps,t1,_⟩:=q0;rcases zd.mp z with rfl | z
   ·rw[d] at t1;cases t1
   simp only[zd,zq,or_false] at z;rcases z with rfl | rfl | rfl
   ·rw[n1] at d;cases d
   ·rw[n2] at d;cases d
   ·rw[n3] at d;cases d
  have w0:=Ym9 t;refine J _ j ({ a:=y,dx:=dx,la:=la,lk:=lk,v:=v,t:=t,fs:=[],Γ:=[],ks:=[],gs:=[],g:=g }) ⟨n1,n2,n3,e1.free q1,B1.has q1,fun z=>by rw[z,e1.free q1] at d;cases d⟩ ⟨fun a o _ e=>sF _ _ e,B1.keep sE,Za5,⟨⟨⟨sD _ _ h4,LE.keep hv sF,(sB.trans sD) _ _ l1,.nil,sD _ _ q3,.nil,Yo4 _ _,hk,fi,B1.has ny,B1.has q9,B1.has q2⟩,?_,?_,?_,?_,e1.free q2⟩,(fun q hq=>nomatch hq),⟨rfl,rfl⟩,trivial⟩,⟨sF _ _ d,Zl9 (Zv0 sF) j7,j8,j1⟩,?_,?_⟩
  ·exact fun z=>by rw[<- show la=j from z,sB _ _ l1] at D;cases D
  ·exact fun z=>by rw[<- show lk=j from z,q3] at D;cases D
  ·exact fun z=>by rw[<- show la=lk from z,l1] at W;cases W
  ·exact fun z=>by rw[show B=lk from z,e1.free q2] at d;cases d
  ·show 0+100*(1+remK t 0+0)<=300000
   omega
  ·show 1+(1+remK t 0+0)<=4000
   omega
 refine⟨fun m j2 H'=>∃(R:List Rw) (S:List Tm) (f:Frm) (fs:List Frm) (x4 x5:Option V),m=wStk (f::fs)/\j2=[some v,some (.ref B),some (.ref u.b),some (.ref j),x4,x5]/\LpK K C0 u N Γ0 ws g H j B gs R S (f::fs) H',⟨_,[],[],f0,[],none,none,rfl,rfl,L0⟩,?_⟩;rintro m z2 H3 ⟨R,S,f,fs,x4,x5,rfl,rfl,L⟩;have q8:=L.w;rw[Zj7] at q8;have T:=L.st.1.ok;have lf:=zk T.fS;have lk:=zk T.kS;have lc:=L.st.ctx;have ll:fs.length+1+wStk (f::fs)<=4000:=L.l;have rr:=L.r;obtain⟨p,xs,ev,hp,h0⟩:=Yz2 T.tm;obtain⟨a,ha,j6⟩:=Yp0 hI f.t;obtain⟨ys,I,q6,_⟩:=j6.sq H3;rw[Te.inn_len] at q6;refine⟨true,rfl,?_⟩;show (if true=true then _ else _);rw[if_pos rfl];refine opq fun Nx j0=>?_;refine sqk (fun C=>C [some v,some (.ref B),some (.ref u.b),some (.ref j),some (.ref f.a),x5] H3) (fun C J=>?_) ?_
 ·walk_at "1"
  exact⟨_,SqL.of q8,_,Xa6 _ _,J⟩
 walk_at "3";refine⟨_,_,_,T.ins,CA.c,CA.k,_,rfl,_,rfl,_,.inl (SqL.of T.kd),_,_,_,T.ins,CA.c,CA.t,_,rfl,p,ev,_,hp,_,h0,_,rfl,_,ha,a,rfl,_,.inr I,?_⟩;rw[q6,yn,lk];refine ite2 (fun c=>?_) (fun c=>?_)
 ·have c':f.gs.length < f.t.kids.length:=by omega
  obtain⟨⟨q5,mm⟩,ek⟩:∃x,f.t.kids[f.gs.length]?=some x:=⟨_,zb c'⟩;walk_at "1";refine⟨.inl ⟨rfl,_,SqL.of L.w⟩,⟨u,eC⟩,f,Γ0,ws,R,S,q5,mm,rfl,ek,L.b,T,by omega,by omega,fun n H' O M X B' p1 p2 rl ok nt ng nΓ fl al ne=>?_⟩;obtain⟨L',lt,j5⟩:=L.push F ek X B' p2 rl ok nt ng nΓ fl al ne;exact⟨_,j5,Zd9 (by rw[Zj7,yd,zag,yn];show fs.length+1<=_;omega),j0 _ _ ⟨_,lt,O,M,n,f::fs,_,_,rfl,rfl,L'⟩⟩
 ·have c':f.gs.length=f.t.kids.length:=by
   have h1:=(fun i g e=>let ⟨q5,m,z,_⟩:=T.kk i g e;(yc.mp z).1:∀i g,f.gs[i]?=some g->i < f.t.kids.length);rcases Nat.lt_or_ge f.t.kids.length f.gs.length with z | z
   ·exact absurd (h1 _ _ (zb z)) (Nat.lt_irrefl _)
   ·omega
  refine sqk (fun C=>∀H' (k:Nat) (O:List Rw) (M:List Tm),FrB (badT u N) H3 H'->BkT u N O M H'->R <+: O->S <+: M->O.length<=R.length+100->M[k]?=some f.g->C [some v,some (.ref B),some (.ref u.b),some (.ref j),some (.ref f.a),some (nI k)] H') (fun C J=>?_) fun H5 k O M X B' p1 p2 rl Y=>?_
  ·walk_at "1"
   exact⟨⟨u,eC⟩,f,B,gs,Γ0,ws,R,S,rfl,c',L.b,T,L.g,by omega,by omega,fun k H' O M X B' p1 p2 rl Y=>J _ k O M X B' p1 p2 rl Y⟩
  have q7:H5 j=some (.lst (stkV fs++[.ref f.a])):=by rw[<- Zj7];exact X _ _ F.nw L.w
  refine sqk (fun C=>C [some v,some (.ref B),some (.ref u.b),some (.ref j),some (.ref f.a),some (nI k)] (upd H5 j (.lst (stkV fs)))) (fun C J=>?_) ?_
  ·walk_at "1"
   exact⟨.inl ⟨rfl,_,SqL.of q7⟩,_,q7,.ref f.a,by rw[yd,zab,Nat.add_sub_cancel,yk (zg _),zbk];rfl,by rw[zar];exact J⟩
  cases fs with
  |nil =>
   refine hid fun Gz j9=>?_;obtain⟨_,vs,r,g1,g2,g3,g4,g5,g6⟩:=L.last F q0 X B' Y;refine j9 ?_;walk_at "1";refine⟨false,.inl ⟨_,SqL.of Za5,rfl⟩,?_⟩;rw[if_pos (by rfl)];exact⟨_,_,_,g1,eC▸CBB.c,eC▸CBB.s,_,rfl,_,rfl,vs,SqL.of g2,r,Zc0 g3,q r _ g4 g5 g6⟩
  |cons pf fs =>
   obtain⟨_,q4,kl,L',lt⟩:=L.pop F c' X B' p2 rl Y;walk_at "1";refine⟨true,.inl ⟨_,SqL.of Za5,by rw[Zj7];simp⟩,?_⟩;rw[if_neg (by decide)];exact⟨_,SqL.of Za5,.ref pf.a,by rw[Zj7];exact Xa6 _ _,_,rfl,_,_,_,q4.ins,CA.c,CA.k,_,rfl,.inl ⟨rfl,_,SqL.of q4.kd⟩,_,rfl,_,q4.kd,Zd9 (by rw[yn];omega),j0 _ _ ⟨_,lt,O,M,_,fs,_,_,rfl,rfl,L'⟩⟩
theorem sc_bv0:FnScope ["_law_script","_law_words_here","_law_given_here","_law_term","_law_shape","_law_k","_law_many","_law_cell_here"] ["_law_script"] (Za3 (top 71)):=scm (by decide +kernel)
theorem Wm4 {P:zf}:Zx4 (CXe P w) X E0:=fun _ _ _ _ _ _ _ h=>by
 obtain⟨c,C,e,T,f,_,_,_,_,_,g,h⟩:=h;exact (h none (upd f c (ExcO c C e none)) ⟨fun b o d a _=>by rw[Za9 a];exact d,fun t q=>nomatch q⟩ ⟨Za5,fun t q=>nomatch q⟩).elim
inductive sp_law54h (K:W.Frag)(N:NumT)(T1 T2 T3 T4 T5:Addr):Sp
 |mk {vs H Q E:_} (a:Addr) (ns:List Int):vs=[.ref a]->SqL K H a (ns.map V.int)->ns.length<=63->TabOk H N.T N.ds->TabOk H T1 Zc1->TabOk H T2 Zd7->TabOk H T3 Zi3->TabOk H T4 Zf0->TabOk H T5 Zk2->(∀H',Q (.bl true) H')->sp_law54h K N T1 T2 T3 T4 T5 vs H Q E
theorem Wp5 {k:Nat}{N:NumT}{T1 T2 T3 T4 T5:Addr}{aNoTurning aLarge:Addr}(hnN:N.T ∉ (tb5 T1 T2 T3 T4 T5).map (·.1)){f_bv0:Addr}{fd_bv0:zc}(F_bv0:Fun K "law" "law" (top 71) f_bv0 fd_bv0)(C__law_words:Cl P w K mg base k "_law_words" ["_law_cell_here","_law_many"] (sp_words))(C__law_cell:Cl P w K mg base k "_law_cell" ["_law_script","_law_k"] (sp_cell K))(C__law_mix:Cl P w K mg base k "_law_mix" pq1 (sp_mix))(C__law_given:Cl P w K mg base k "_law_given" ["_law_script","_law_words_here"] (sp_lgivenL K))(C__law_made:Cl P w K mg base k "_law_made" pq3 (sp_drawL K 0 10 60))(C_turnings:Cl P w K mg base k "turnings" pq32 (sp_turningsL K))(C__law_count:Cl P w K mg base k "_law_count" ["_law_term"] (sp_lcountL K)){f_cv0:Addr}{fd_cv0:zc}(G_cv0:FnOk P w K mg base (CXe P w) k f_cv0 fd_cv0 pq29 (sp_turnedL K (tb5 T1 T2 T3 T4 T5) aNoTurning aLarge))(m_cv0:MgI mg "turned" f_cv0)(k_cv0:KpI K f_cv0)(b_cv0:Binds K fd_cv0 pq29 [])(C__law_kind:Cl P w K mg base k "_law_kind" pq10 (sp_lkQ K 80))(C_kind:Cl P w K mg base k "kind" ["term","given"] (sp_kindT K N))(m_range:mg "range"=none)(m_max:mg "max"=none)(m_len:mg "len"=none):Fk0 P w K mg base (k+1) f_bv0 fd_bv0 ["_law_script"] (sp_law54h K N T1 T2 T3 T4 T5):=by
 refine F_bv0.okG sc_bv0 fun y5 A z6 s H vs Q E u h Gx z5=>?_;obtain⟨a,l,rfl,hS,U,j5,y4,y3,y0,z9,z7,q⟩:=h
 have j4:Tabs H (tb5 T1 T2 T3 T4 T5):=by
  intro x hx;simp only[tb5,zd,zq,or_false] at hx
  rcases hx with rfl | rfl | rfl | rfl | rfl<;>assumption
 have cn:=Wg0 l
 refine z5 _ ⟨_,(Za2 (pst 1 sc_bv0.nd (Zb8 C__law_words u (Za0 (Zb8 C__law_cell u (Za0 (pvM 0) (Za0 Za4 Za1))) (Za0 (Zb6 Ze4 Za4 (Zb6 Zd0 (Zb8 C__law_cell u (Za0 (pvM 0) (Za0 Za4 Za1))) Za4)) Za1))))
 (Za2 (pst 2 sc_bv0.nd (Zb8 C__law_given u (Za0 (pvM 0) (Za0 (pvM 1) Za1))))
 (Za2 (Zj9 (Zb8 C__law_made u (Za0 (Zb8 C__law_cell u (Za0 (pvM 0) (Za0 Za4 Za1))) (Za0 (Zb6 Ze4 Za4 (Zb6 Zd0 (Zb8 C__law_cell u (Za0 (pvM 0) (Za0 Za4 Za1))) Za4)) (Za0 (pvM 2) (Za0 (pvM 1) Za1))))) (Zi2 rfl (Zc2 (pgn 3 sc_bv0.nd) (Zc2 (pgn 4 sc_bv0.nd) Zg1))))
 (Za2 (Ye5 yas rfl (Zt1 rfl m_range (Za0 Za4 Za1)) (pgn 5 sc_bv0.nd)
  (Za2 (pst 6 sc_bv0.nd (Zb8 C_turnings u (Za0 (pvM 3) Za1)))
 (Za2 (Zd1 ((Yh3 (ptcM (Ze0) (pvM 6) Za4) (Zs9 (ptcM (Yn6) (Zb8 C__law_count u (Za0 (pvM 3) Za1)) Za4)))).pt
  (Za7 Xs3)
  Zb4)
 (Za2 (pst 7 sc_bv0.nd (Zb8 C__law_mix u (Za0 (Zb8 C__law_cell u (Za0 (pvM 0) (Za0 (Zb6 Ze4 Za4 (Zb6 Zd0 (pvM 5) (Ze2 (Yq0 rfl) (by exact rfl) m_max boot_max (Za0 Za4 (Za0 (Ze2 Zc6 (by exact rfl) m_len Ze7 (Za0 (pvM 0) Za1)) Za1))))) Za1))) (Za0 (pvM 5) Za1))))
 (Za2 (pst 3 sc_bv0.nd (Yt0 G_cv0 u (by exact rfl) m_cv0 k_cv0 b_cv0 .nil Wm4 (Za0 (pvM 3) (Za0 (Zb6 Zd0 (pvM 7) (pvM 6)) Za1))))
 (Za7 (Zd1 ((Yh3 (ptcM (Yi5 (Yp1 u)) (Zb8 C__law_kind u (Za0 (pvM 3) (Za0 (pvM 2) Za1))) (pvM 4)) (Zs9 (ptcM (Yi5 (Yp1 u)) (Zb8 C_kind u (Za0 (pvM 3) (Za0 (pvM 2) Za1))) (pvM 4))))).pt
  (Za7 (Zb2 Wc4))
  Zb4)))))))
 (Za7 (Zb2 Wc4)))))),?_⟩
 refine sqk (fun C=>∀b O I,Same H b->b O=some (.lst (I.map V.str))->Yw0 I->C [some (.ref a),some (.ref O),none,none,none,none,none,none] b) (fun C X=>?_) fun H1 O I e1 q9 hW=>?_
 ·walk_at "1"
  have b0:=yu (cellOf l 1) (show (5:Int)≠0 by decide);have b1:=yp (cellOf l 1) (show (0:Int) < 5 by decide);exact⟨_,l,_,rfl,hS,U,by decide,by decide,_,l,_,rfl,hS,U,by decide,by decide,_,rfl,by decide,_,_,rfl,cn 0,by omega,by omega,fun r b I e _ h hw=>X _ r I e h hw⟩
 refine sqk (fun C=>∀b B Y ts,Same H1 b->GvL K b I O B Y ts->ts.length<=4->C [some (.ref a),some (.ref O),some (.ref B),none,none,none,none,none] b) (fun C X=>?_) fun H2 B Y ts e2 G hl=>?_
 ·walk_at "1"
  exact⟨_,_,l,I,rfl,e1.seq hS,U,SqL.of q9,hW,fun r b Y ts e h hp ho hl=>X _ r Y ts e ⟨SqL.of (e _ _ q9),hW,h,hp,ho⟩ hl⟩
 have q6:=e1.trans e2;have lg:=zk G.p;refine sqk (fun C=>∀b x y t g,Same H2 b->Lp54 K b I ts g x t->Lt g b y->C [some (.ref a),some (.ref O),some (.ref B),some x,some y,none,none,none] b) (fun C X=>?_) fun H3 x y t g e3 L hy=>?_
 ·have b0:=yu (cellOf l 6) (show (10:Int)≠0 by decide)
  have b1:=yp (cellOf l 6) (show (0:Int) < 10 by decide);walk_at "1";refine⟨_,l,_,rfl,q6.seq hS,U,by decide,by decide,_,l,_,rfl,q6.seq hS,U,by decide,by decide,_,rfl,by decide,?_⟩;generalize cellOf l 6 % 10=j at b0 b1 ⊢;obtain⟨j,rfl⟩:=Int.eq_ofNat_of_zero_le b0;refine⟨_,1+j,B,O,I,Y,ts,by rw[show (1:Int)+(j:Int)=((1+j:Nat):Int) by omega],cn 7,by omega,by omega,by omega,G,by omega,fun r2 J ej hm=>?_⟩;refine hid fun Gz Z=>?_;obtain⟨p,x,y,t,g,rfl,h1,h2,h3,hk,h4,h5,h6,h7,h8⟩:=hm;refine Z ?_;have d1:=yj h5 (Wx7 _ (by omega));have d2:=yj h6 (Wa7 _ (by omega));have hq:=(Zt9 hW.2.2 hk h4 (D:=60) (fun s hs=>⟨(G.o s hs).1.ok hW.2.2,yj (Zh1 s) (G.o s hs).2⟩) (zg _) (by omega)).1;exact⟨p,rfl,_,h1,rfl,_,_,rfl,_,_,rfl,rfl,X _ x y t g ej ⟨h2,hq,h4,by omega,by omega⟩ h3⟩
 have G3:=G.keep e3;have q5:=q6.trans e3;have j0:=hW.2.2;have tp:∀{J J':Hp},SameV (N.T::(tb5 T1 T2 T3 T4 T5).map (·.1)) J J'->SameT J J':=fun e=>e.toT;refine sqt (fun q0 b=>True) ?_ ?_
 ·intro C X
  walk_at "2";refine⟨by decide,by decide,Yp3 (D:={ nx:=C,rt:=Q }) (n:=Int.toNat 12) (lo:=0) (fun i q0 b=>∃x t x5 x6 x7,q0=[some (.ref a),some (.ref O),some (.ref B),some x,some y,x5,x6,x7]/\SameT H3 b/\Tabs b (tb5 T1 T2 T3 T4 T5)/\TabOk b N.T N.ds/\Lp54 K b I ts g x t) ⟨x,t,none,none,none,rfl,SameT.refl _,j4.keep q5,j5.keep q5,L⟩ (fun i q0 b hi hp=>?_) (fun q0 b hp=>X _ _ trivial)⟩;refine hid fun Gz Z=>?_;obtain⟨x,t,x5,x6,x7,rfl,sT,tk,tn,L⟩:=hp;refine Z ?_;have hi:i < 12:=hi;unfold Zu3;refine sqk (fun C=>∀J,Same b J->C [some (.ref a),some (.ref O),some (.ref B),some x,some y,some (.int (0+(i:Int))),some (.int ((idxT 0 (t.pre 0)).length:Nat)),x7] J) (fun C' R=>?_) fun H7 e7=>?_
  ·walk_at "1"
   exact⟨x,t,rfl,L.e,yj L.s (by decide),fun J e=>R _ e⟩
  have L7:=L.keep e7.toT;refine sqk (fun C=>∀J,Same H7 J->(0:Int) < ((idxT 0 (t.pre 0)).length:Nat)->t.size<=74->C [some (.ref a),some (.ref O),some (.ref B),some x,some y,some (.int (0+(i:Int))),some (.int ((idxT 0 (t.pre 0)).length:Nat)),x7] J) (fun C' R=>?_) fun H8 e8 z0 tz=>?_
  ·walk_at "1"
   refine ite2 (fun z=>?_) (fun z=>?_)
   ·rw[if_pos trivial];exact X _ _ trivial
   ·exact⟨x,t,rfl,L7.e,yj L7.s (by decide),L7.f.ok j0,fun J e=>⟨_,rfl,ite2 (fun _=>X _ _ trivial) (fun z2=>R _ e (by omega) (by omega))⟩⟩
  have q2:=e7.trans e8;have L8:=L7.keep e8.toT;refine sqk (fun C=>∀(c:Int),0<=c->C [some (.ref a),some (.ref O),some (.ref B),some x,some y,some (.int (0+(i:Int))),some (.int ((idxT 0 (t.pre 0)).length:Nat)),some (.int c)] H8) (fun C' R=>?_) fun c hc=>?_
  ·walk_at "1"
   have j1:=SameT.seq (sT.trans q2.toT) (q5.seq hS);refine⟨l.map V.int,.inl j1,?_⟩
   have m0:0 < (if ((l.map V.int).length:Int) > 1 then ((l.map V.int).length:Int) else 1):=by split<;>omega
   have m1:(if ((l.map V.int).length:Int) > 1 then ((l.map V.int).length:Int) else 1)<=63:=by rw[yn];split<;>omega
   generalize (if ((l.map V.int).length:Int) > 1 then ((l.map V.int).length:Int) else 1)=M at m0 m1 ⊢;have a0:=yu (0+(i:Int)) (show M≠0 by omega);have a1:=yp (0+(i:Int)) m0;exact⟨m0,_,l,_,rfl,j1,U,by omega,by omega,_,_,rfl,by omega,by omega,R _ (Zh2 _ _)⟩
  refine sqk (fun C=>∀J x t',SameV ((tb5 T1 T2 T3 T4 T5).map (·.1)) H8 J->Tabs J (tb5 T1 T2 T3 T4 T5)->Lp54 K J I ts g x t'->C [some (.ref a),some (.ref O),some (.ref B),some x,some y,some (.int (0+(i:Int))),some (.int ((idxT 0 (t.pre 0)).length:Nat)),some (.int c)] J) (fun C' R=>?_) fun q7 x' t' q4 j3 v=>?_
  ·walk_at "1"
   have n0:=yu c (show (((idxT 0 (t.pre 0)).length:Nat):Int)≠0 by omega);have n1:=yp c z0;have j6:=Zl1 (t:=t) (f:=0) (n:=0) (π:=[])
   have q8:∀{j m:Nat},(idxT 0 (t.pre 0))[j]?=some m->∃S,t.tpm m 0=t.tat S/\t.okp S/\(t.tat S).size<=1000/\(t.tat S).deep<=80:=fun {j m} h=>by
    refine hid fun Gz Z=>?_;obtain⟨_,_,S,_,c2,_,_,c5⟩:=paired_get j6 h;refine Z ?_;obtain⟨g1,g2⟩:=Xv8 c5;exact⟨S,c2,c5,Wx4 g1 (by omega),by omega⟩
   have lv:=Zk9 t;refine⟨by omega,x,t,_,rfl,L8.e,yj L8.s (by decide),by omega,L8.f.ok j0,tk.keep q2,fun j m _ hm=>?_,fun no=>absurd ⟨n0,n1⟩ no,fun j m _ hm=>?_⟩
   ·obtain⟨S,e,_,z,_⟩:=q8 hm
    rw[show t.tpm m 0=t.tat S from e];exact yj z (by decide)
   ·obtain⟨S,e,o,z1,z2⟩:=q8 hm
    rw[show t.tpm m 0=t.tat S from e];exact⟨fun _ y J j9 j8 hy=>R _ y _ j9 j8 ⟨hy,tatQ o L8.q,Zk5 o L8.f,z1,z2⟩,fun no=>absurd ⟨z1,yj z2 (by decide)⟩ no⟩
  have j2:TabOk q7 N.T N.ds:=q4.tab hnN (tn.keep q2);have W:=(sT.trans q2.toT).trans q4.toT;have q3:q7 B=some (.lst Y)/\Paired (fun r s=>Lt s q7 r) Y ts:=⟨W _ _ (fun _ z=>nomatch z) G3.g,Paired.mapP G3.p fun _ _ z=>Lt.keepT (tk_T W) z⟩;walk_at "1";refine⟨x',t',g,B,Y,ts,rfl,v.e,v.q,v.d,⟨q3.1,q3.2⟩,by have:=v.s;omega,fun r1 J1 F z4=>?_⟩;have y1:Lt g J1 y:=Lt.keepT (tk_T (W.trans F.toT)) hy;have kg:=v.q.here;refine⟨g.data,Lt.isT z4,g.data,Lt.isT y1,g.lay kg.1,g.lay kg.1,by rw[Tm.depth];have:=kg.2;omega,?_⟩;rw[if_pos trivial,Tm.eqv,if_neg (by simp)];refine⟨x',t',g,B,Y,ts,I,rfl,LEK.keep v.e F.keepL,v.q.k,v.f,v.s,F _ _ q3.1,Paired.mapP q3.2 fun _ _ z=>Lt.keep z F,fun s hs=>(G.o s hs).2,by omega,j2.keep F,fun r2 J2 q1 j7 z3=>?_⟩;have y2:Lt g J2 y:=Lt.keepT (tk_T q1.toT) y1;refine⟨g.data,Lt.isT z3,g.data,Lt.isT y2,g.lay kg.1,g.lay kg.1,by rw[Tm.depth];have:=kg.2;omega,?_⟩;rw[if_pos trivial,Tm.eqv,if_neg (by simp)];exact⟨W.trans (F.toT.trans q1.toT),fun z hz=>q1.tab (fun e=>hnN (by rw[<- yf.mp e];exact List.mem_map_of_mem hz)) ((j3 z hz).keep F),j7,t',v.keep (F.toT.trans q1.toT)⟩
 rintro z8 H4 _;walk_at "1";exact q _
theorem sc_bp0:FnScope ["_law_cell_here","_law_size_here","_law_given_here","_law_words_here","_law_term","_law_shape","_law_other","_law_here"] ["_law_cell_here","_law_size_here","_law_given_here","_law_words_here"] (Za3 (top 63)):=scm (by decide +kernel)
theorem Wq0 {k:Nat}{f_bp0:Addr}{fd_bp0:zc}(F_bp0:Fun K "_law_used" "_law_used" (top 63) f_bp0 fd_bp0)(C__law_made:Cl P w K mg base k "_law_made" pq3 (sp_drawL K 0 n 60))(C__law_mix:Cl P w K mg base k "_law_mix" pq1 (sp_mix)):Fk0 P w K mg base (k+1) f_bp0 fd_bp0 pq3 (sp_drawL K 2 (n+1) 60):=by
 refine F_bp0.okG sc_bp0 fun z8 A z0 s H vs Q E L h Gx j9=>?_;obtain⟨c,m,ga,O,B,gs,i,rfl,hc,lo,hn,q8,G,hl,q⟩:=h;obtain⟨d1,d2,d3,d4,d5,d6,d7⟩:=Zz2 m q8 lo;obtain⟨z1,z2,z3,z4⟩:=Zy2 m q8 lo;have lg:=zk G.p
 refine j9 _ ⟨_,(Za2 (Zd1 (ptcM (Ze0) (Zb6 Zd0 (pvM 0) Za4) Za4)
  (Za2 (Zj9 (Zb8 C__law_made L (Za0 (Zb8 C__law_mix L (Za8 (pvM 0) (Zb3 Za4 Za1))) (Za0 (Zb6 Zj3 (pvM 1) Za4) (Za8 (pvM 2) (Za8 (pvM 3) Za1))))) (Zi2 rfl (Zc2 (pgn 4 sc_bp0.nd) (Zc2 (pgn 5 sc_bp0.nd) Zg1))))
 (Za7 (Zd1 ((Yx6 (ptcM (Ze0) (pxtM (pvM 5) Za4) Zb1) (Yh4 (Zj4 (Xw5 (Zu2 L)) (pxtM (pvM 5) Za4) (pvM 2) (by with_unfolding_all rfl))))).pt
  (Za7 (Zb2 (Zb5 (Zc5 (Zb5 (Zb3 Zb1 (Za8 (pvM 4) (Zc5 (Zb5 (Zb3 Zb1 (Za0 (Zk4 yl F.slot_list_index F.type_list_index (Yo0 (K:=K) rfl (Zu2 L)) (pvM 2) (Zp7 (pxtM (pvM 5) Za4) Za1)) Za1))) Za1)))) (Zp7 (pxtM (pvM 5) Za4) Za1)))))
  Zb4)))
  Zb4)
 (Za2 (Zj9 (Zb8 C__law_made L (Za0 (Zb8 C__law_mix L (Za8 (pvM 0) (Zb3 Za4 Za1))) (Za0 (Zb6 Zd8 (pvM 1) Za4) (Za8 (pvM 2) (Za8 (pvM 3) Za1))))) (Zi2 rfl (Zc2 (pgn 6 sc_bp0.nd) (Zc2 (pgn 7 sc_bp0.nd) Zg1))))
 (Za2 (Zj9 (Zb8 C__law_made L (Za0 (Zb8 C__law_mix L (Za8 (pvM 0) (Zb3 Za4 Za1))) (Za0 (Zb6 Zd8 (pvM 1) Za4) (Za0 (Zb6 Yb1 (Ze1 (Za8 (pvM 7) Za1)) (pvM 2)) (Za8 (pvM 3) Za1))))) (Zi2 rfl (Zc2 (pgn 4 sc_bp0.nd) (Zc2 (pgn 5 sc_bp0.nd) Zg1))))
 (Za7 (Zb2 (Zb5 (Zc5 (Zb5 (Zb3 Zb1 (Zc5 (Zb5 (Zb3 Zb1 (Za8 (pvM 7) (Za8 (pvM 4) Za1)))) (Za8 (pvM 6) Za1)))) (Za8 (pvM 5) Za1)))))))),?_⟩
 refine sqk (fun C=>∀H' x4 x5,Same H H'->C [some (.int c),some (.int (m:Nat)),some (.ref ga),some (.ref O),x4,x5,none,none] H') (fun C hC=>?_) fun H1 x4 x5 J=>?_
 ·walk_at "3"
  refine⟨by decide,ite2 (fun _=>?_) (fun _=>hC _ none none (Same.refl _))⟩;refine sqh (fun C=>∀H' x y t g,Same H H'->LEK K H' x t->LtK K H' y g->HasK i t g->t.fine B->t.deep<=dB (m - 1)->t.size<=sB (m - 1)->g.inW B->g.parts<=60->C [some (.int c),some (.int (m:Nat)),some (.ref ga),some (.ref O),some x,some y,none,none] H') (fun C' N=>?_) fun Ux j8 H1 x y t g J hx hy tk tf td tz gw gp=>?_
  ·walk_at "1"
   refine⟨_,_,rfl,by omega,by omega,_,m - 1,ga,O,B,gs,i,by rw[show (m:Int) - 1=((m - 1:Nat):Int) by omega],Zh2 _ _,by omega,by omega,by omega,G,by omega,fun r H1 J hm=>?_⟩;refine hid fun Gz M=>?_;obtain⟨p,x,y,t,g,rfl,Y,X,h3,hk,h4,h5,h6,h7,h8⟩:=hm;refine M ?_;exact⟨p,rfl,_,Y,rfl,_,_,rfl,_,_,rfl,rfl,N _ x y t g J X h3 hk h4 h5 h6 h7 h8⟩
  obtain⟨py,ys,rfl,j7,j4⟩:=Yj7 (LtK.isT hy);have G1:=G.keep J;refine j8 _ _ ?_;walk_at "1";refine⟨_,j7,_,j4,rfl,?_⟩
  by_cases ca:g.tagS="then"
  ·obtain⟨v,q9,rfl⟩:=Yr1 (k:=.thn) ca
   obtain⟨p,u1,u2,e,I,q7,j6⟩:=ltK_nd.mp hy;cases e;have z7:1+v.parts+q9.parts<=60:=gp;rw[if_pos (by rfl)];have q4:∀s∈i,s.ok:=fun s I=>(G.o s I).1.ok G.wo.2.2;have dq:v.deep<=140:=yj (Zh1 v) (by omega);refine⟨_,.inl (.inl I),_,rfl,v,LtK.isT q7,_,SqL.of G1.g,i,G1.pT,gw.1.ok G.wo.2.2,q4,dq,?_⟩;rw[if_neg yi]
   by_cases cm:v∈i
   ·rw[if_pos (decide_eq_true cm)]
    refine⟨.inl ⟨rfl,_,SqL.of G1.g⟩,_,.inl (.inl I),_,rfl,v,LtK.isT q7,_,SqL.of G1.g,i,G1.pT,gw.1.ok G.wo.2.2,q4,dq,cm,fun j hj=>⟨by decide,?_⟩⟩;intro Z W;generalize f:upd H1 Z (.tup [.str "at",.int (j:Nat)])=J1;have D:=nw1 W f;have q1:=nw2 (K:=K) f;refine⟨by decide,?_⟩;intro S U;generalize d:upd J1 S (.tup [.str "use",x,.ref Z])=J2;have l:=nw1 U d;have q2:=nw2 (K:=K) d;refine⟨_,(D.trans l).sqt (.inl (.inl I)),_,rfl,by decide,?_⟩;intro p3 T;generalize b:upd J2 p3 (.tup [.ref S,u2])=J3;have R:=nw1 T b;have q3:=nw2 (K:=K) b;have a:=(D.trans l).trans R;exact q _ _ (J.trans a) (Zg3 (t:=.two .use t (.at j)) (g:=q9) q3 (Zl0 (u:=.use) (R.sqt q2) (LEK.keep hx a.keepL) (Zw0 ((l.trans R).sqt q1))) (LtK.keep j6 a.keepL) ⟨tf,trivial⟩ (by show 1+max t.deep 1<=_;omega) (by show 1+t.size+1<=_;omega) gw.2 (by omega) ⟨_,tk,hj⟩)
   ·rw[if_neg (by simpa using cm)]
    exact hC _ _ _ J
  ·rw[if_neg (fun z=>ca (V.str.inj z))]
   exact hC _ _ _ J
 refine sqk (fun C=>∀H' x y t g,Same H H'->LEK K H' x t->LtK K H' y g->HasK i t g->t.fine B->t.deep<=dB (m / 2)->t.size<=sB (m / 2)->g.inW B->g.parts<=60->C [some (.int c),some (.int (m:Nat)),some (.ref ga),some (.ref O),x4,x5,some x,some y] H') (fun C' N=>?_) fun H2 x6 x7 t6 g7 e2 j5 q6 j2 j3 z6 z5 j0 j1=>?_
 ·walk_at "1"
  refine⟨_,_,rfl,by omega,by omega,⟨by decide,by decide⟩,_,m / 2,ga,O,B,gs,i,rfl,Zh2 _ _,by omega,by omega,by omega,G.keep J,by omega,fun r H2 e2 hm=>?_⟩;refine hid fun Gz M=>?_;obtain⟨p,x,y,t,g,rfl,Y,X,h3,hk,h4,h5,h6,h7,h8⟩:=hm;refine M ?_;exact⟨p,rfl,_,Y,rfl,_,_,rfl,_,_,rfl,rfl,N _ x y t g (J.trans e2) X h3 hk h4 h5 h6 h7 h8⟩
 refine sqk (fun C=>∀H' x y t g,Same H2 H'->LEK K H' x t->LtK K H' y g->HasK (g7::i) t g->t.fine B->t.deep<=dB (m / 2)->t.size<=sB (m / 2)->g.inW B->g.parts<=60->C [some (.int c),some (.int (m:Nat)),some (.ref ga),some (.ref O),some x,some y,some x6,some x7] H') (fun C' N=>?_) fun H3 x y t g e3 hx hy tk tf td tz gw gp=>?_
 ·walk_at "1"
  have G2:=G.keep e2;refine⟨_,_,rfl,by omega,by omega,⟨by decide,by decide⟩,by decide,fun Z Y=>?_⟩;have D:=Za6 Y (.lst [x7]);refine⟨_,Za5,gs,D _ _ G2.g,zv (Zd9 (by show 1+gs.length<=_;omega)),fun S X=>?_⟩;have l:=Za6 X (.lst ([x7]++gs));have q5:=(D.trans l).keepL (K:=K);refine⟨_,m / 2,S,O,B,x7::gs,g7::i,rfl,Zh2 _ _,by omega,by omega,by omega,⟨(D.trans l).seq G2.w,G.wo,Za5,.cons (LtK.keep q6 q5) (Paired.mapP G2.p fun _ _ z=>LtK.keep z q5),fun s I=>?_⟩,by rw[zac];omega,fun r H3 e3 hm=>?_⟩
  ·rcases zd.mp I with rfl | I
   ·exact⟨j0,j1⟩
   ·exact G.o s I
  refine hid fun Gz M=>?_;obtain⟨p,x,y,t,g,rfl,Y,X,h3,hk,h4,h5,h6,h7,h8⟩:=hm;refine M ?_;exact⟨p,rfl,_,Y,rfl,_,_,rfl,_,_,rfl,rfl,N _ x y t g ((D.trans l).trans e3) X h3 hk h4 h5 h6 h7 h8⟩
 walk_at "1";refine⟨by decide,?_⟩;intro Z W;generalize f:upd H3 Z (.tup [.str "fun",x7,x])=J1;have D:=nw1 W f;have q1:=nw2 (K:=K) f;refine⟨by decide,?_⟩;intro S U;generalize d:upd J1 S (.tup [.str "use",.ref Z,x6])=J2;have l:=nw1 U d;have q2:=nw2 (K:=K) d;refine⟨by decide,?_⟩;intro p3 T;generalize b:upd J2 p3 (.tup [.ref S,y])=J3;have R:=nw1 T b;have q3:=nw2 (K:=K) b;have a:=(D.trans l).trans R;have q0:=e3.trans a;refine q _ _ (e2.trans q0) (Zg3 (t:=.two .use (.fn g7 t) t6) (g:=g) q3 (Zl0 (u:=.use) (R.sqt q2) (Yt7 ((l.trans R).sqt q1) (LtK.keep q6 q0.keepL) (LEK.keep hx a.keepL)) (LEK.keep j5 q0.keepL)) (LtK.keep hy a.keepL) ⟨⟨⟨j0,j1⟩,tf⟩,j3⟩ (by show 1+max (1+t.deep) t6.deep<=_;omega) (by show 1+(1+t.size)+t6.size<=_;omega) gw gp ⟨_,⟨_,tk,rfl⟩,j2⟩)
theorem Wr2 {k:Nat}{f_al0:Addr}{fd_al0:zc}(F_al0:Fun K "_law_any" "_law_any" (top 64) f_al0 fd_al0)(C__law_made:Cl P w K mg base k "_law_made" pq3 (sp_drawL K 0 n 60))(C__law_sided:Cl P w K mg base k "_law_sided" pq3 (sp_drawL K 2 (n+1) 60))(C__law_chosen:Cl P w K mg base k "_law_chosen" pq3 (sp_drawL K 2 (n+1) 60))(C__law_used:Cl P w K mg base k "_law_used" pq3 (sp_drawL K 2 (n+1) 60))(C__law_mix:Cl P w K mg base k "_law_mix" pq1 (sp_mix))(C__law_statement:Cl P w K mg base k "_law_statement" pq4 (sp_stmL K 12)):Fk0 P w K mg base (k+1) f_al0 fd_al0 pq3 (sp_drawL K 2 (n+1) 150):=by
 refine F_al0.okG sc_al0 fun y2 A z8 s H vs Q E l h Gx z6=>?_;obtain⟨c,m,T,M,L,gs,O,rfl,hc,lo,hn,q7,G,hl,q⟩:=h;obtain⟨d1,d2,d3,d4,d5,d6,d7⟩:=Zz2 m q7 lo;obtain⟨z1,z2,z3,z4⟩:=Zy2 m q7 lo;have lg:=zk G.p
 have sd:0<=c / 8:=by omega
 have qm:∀(r:V) (H':Hp),Same H H'->MadeK K H' O L (dB m) (sB m) 60 r->Q r H':=fun r H' e hm=>q r H' e (hm.mono (KeepL.refl _) (zg _) (zg _) (by omega))
 refine z6 _ ⟨_,(Za2 (pst 4 sc_al0.nd (Zb6 Zd0 (pvM 0) Za4))
 (Za2 (pst 5 sc_al0.nd (Zb6 Zd8 (pvM 0) Za4))
 (Za2 (Zd1 (ptcM (Ze0) (pvM 4) Za4)
  (Za2 (Zj9 (Zb8 C__law_made l (Za0 (Zb8 C__law_mix l (Za8 (pvM 5) (Zb3 Za4 Za1))) (Za0 (Zb6 Zd8 (pvM 1) Za4) (Za8 (pvM 2) (Za8 (pvM 3) Za1))))) (Zi2 rfl (Zc2 (pgn 6 sc_al0.nd) (Zc2 (pgn 7 sc_al0.nd) Zg1))))
 (Za2 (Zj9 (Zb8 C__law_made l (Za0 (Zb8 C__law_mix l (Za8 (pvM 5) (Zb3 Za4 Za1))) (Za0 (Zb6 Zd8 (pvM 1) Za4) (Za8 (pvM 2) (Za8 (pvM 3) Za1))))) (Zi2 rfl (Zc2 (pgn 8 sc_al0.nd) (Zc2 (pgn 9 sc_al0.nd) Zg1))))
 (Za7 (Zb2 (Zb5 (Zc5 (Zb5 (Zb3 Zb1 (Za8 (pvM 6) (Za8 (pvM 8) Za1)))) (Zc5 (Zb5 (Zb3 Zb1 (Za8 (pvM 7) (Za8 (pvM 9) Za1)))) Za1)))))))
  Zb4)
 (Za2 (Zd1 (ptcM (Ze0) (pvM 4) Za4)
  (Za7 (Zb2 (Zb8 C__law_sided l (Za8 (pvM 5) (Za8 (pvM 1) (Za8 (pvM 2) (Za8 (pvM 3) Za1)))))))
  Zb4)
 (Za2 (Zd1 (ptcM (Ze0) (pvM 4) Za4)
  (Za2 (Zj9 (Zb8 C__law_made l (Za0 (Zb8 C__law_mix l (Za8 (pvM 5) (Zb3 Za4 Za1))) (Za0 (Zb6 Zj3 (pvM 1) Za4) (Za8 (pvM 2) (Za8 (pvM 3) Za1))))) (Zi2 rfl (Zc2 (pgn 10 sc_al0.nd) (Zc2 (pgn 7 sc_al0.nd) Zg1))))
 (Za2 (pst 9 sc_al0.nd (Zb8 C__law_statement l (Za0 (Zb8 C__law_mix l (Za8 (pvM 5) (Zb3 Za4 Za1))) (Za0 (Zb6 Ze4 Za4 (Zb6 Zd0 (pvM 5) Za4)) (Za8 (pvM 3) Za1)))))
 (Za2 (Zd1 (ptcM (Ze0) (Zb6 Zd0 (Zb6 Zd8 (pvM 5) Za4) Za4) Za4)
  (Za7 (Zb2 (Zb5 (Zc5 (Zb5 (Zb3 Zb1 (Za8 (pvM 10) (Za8 (pvM 9) Za1)))) (Zc5 (Zb5 (Zb3 Zb1 (Za8 (pvM 7) (Za8 (pvM 9) Za1)))) Za1)))))
  Zb4)
 (Za7 (Zb2 (Zb5 (Zc5 (Zb5 (Zb3 Zb1 (Za8 (pvM 10) (Za8 (pvM 9) Za1)))) (Zc5 (Zb5 (Zb3 Zb1 (Za8 (pvM 9) (Za8 (pvM 7) Za1)))) Za1))))))))
  Zb4)
 (Za2 (Zd1 (ptcM (Ze0) (pvM 4) Za4)
  (Za7 (Zb2 (Zb8 C__law_chosen l (Za8 (pvM 5) (Za8 (pvM 1) (Za8 (pvM 2) (Za8 (pvM 3) Za1)))))))
  Zb4)
 (Za2 (Zd1 ((Yx6 (ptcM (Ze0) (pvM 4) Za4) (Yh4 (Zj4 (Xw5 (Zu2 l)) (Zb5 (Zb3 Zb1 Za1)) (pvM 2) (by with_unfolding_all rfl))))).pt
  (Za2 (pst 11 sc_al0.nd (Zb8 C__law_statement l (Za0 (Zb8 C__law_mix l (Za8 (pvM 5) (Zb3 Za4 Za1))) (Za0 (Zb6 Ze4 Za4 (Zb6 Zd0 (pvM 5) Za4)) (Za8 (pvM 3) Za1)))))
 (Za7 (Zb2 (Zb5 (Zc5 (Zb5 (Zb3 Zb1 (Zc5 (Zb5 (Zb3 Zb1 (Za0 (Zk4 yl F.slot_list_index F.type_list_index (Yo0 (K:=K) rfl (Zu2 l)) (pvM 2) (Zc5 (Zb5 (Zb3 Zb1 Za1)) Za1)) Za1))) (Za8 (pvM 11) Za1)))) (Za8 (pvM 11) Za1))))))
  Zb4)
 (Za2 (Zd1 (ptcM (Zt3) (pvM 4) Za4)
  (Za2 (pst 11 sc_al0.nd (Zb8 C__law_statement l (Za0 (Zb8 C__law_mix l (Za8 (pvM 5) (Zb3 Za4 Za1))) (Za0 (Zb6 Ze4 Za4 (Zb6 Zd0 (pvM 5) Za4)) (Za8 (pvM 3) Za1)))))
 (Za2 (Zj9 (Zb8 C__law_made l (Za0 (Zb8 C__law_mix l (Za8 (pvM 5) (Zb3 Za4 Za1))) (Za0 (Zb6 Zj3 (pvM 1) Za4) (Za0 (Zb6 Yb1 (Ze1 (Za8 (pvM 11) Za1)) (pvM 2)) (Za8 (pvM 3) Za1))))) (Zi2 rfl (Zc2 (pgn 10 sc_al0.nd) (Zc2 (pgn 7 sc_al0.nd) Zg1))))
 (Za7 (Zb2 (Zb5 (Zc5 (Zb5 (Zb3 Zb1 (Za8 (pvM 11) (Za8 (pvM 10) Za1)))) (Zc5 (Zb5 (Zb3 Zb1 (Za8 (pvM 11) (Za8 (pvM 7) Za1)))) Za1)))))))
  Zb4)
 (Za7 (Zb2 (Zb8 C__law_used l (Za8 (pvM 5) (Za8 (pvM 1) (Za8 (pvM 2) (Za8 (pvM 3) Za1))))))))))))))),?_⟩
 refine sqk (fun C=>C [some (.int c),some (.int (m:Nat)),some (.ref T),some (.ref M),some (.int (c % 8)),none,none,none,none,none,none,none] H) (fun C S=>?_) ?_
 ·walk_at "1"
  exact⟨by decide,S⟩
 refine sqk (fun C=>C [some (.int c),some (.int (m:Nat)),some (.ref T),some (.ref M),some (.int (c % 8)),some (.int (c / 8)),none,none,none,none,none,none] H) (fun C S=>?_) ?_
 ·walk_at "1"
  exact⟨⟨by decide,by decide⟩,S⟩
 generalize c / 8=sdv at sd ⊢;generalize c % 8=fm
 let PC0:(St->Hp->Prop)->Prop:=fun C=>C [some (.int c),some (.int (m:Nat)),some (.ref T),some (.ref M),some (.int fm),some (.int sdv),none,none,none,none,none,none] H
 refine sqk PC0 (fun C S=>?_) ?_
 ·walk_at "3"
  refine ite2 (fun _=>?_) (fun _=>S);refine sqk (fun C=>∀H' x y t g,Same H H'->LEK K H' x t->LtK K H' y g->HasK O t g->t.fine L->t.deep<=dB (m / 2)->t.size<=sB (m / 2)->g.inW L->g.parts<=60->C [some (.int c),some (.int (m:Nat)),some (.ref T),some (.ref M),some (.int fm),some (.int sdv),some x,some y,none,none,none,none] H') (fun C' W=>?_) fun H2 x y t g e2 hx hy tk tf td tz gw gp=>?_
  ·walk_at "1"
   refine⟨_,_,rfl,by omega,by omega,⟨by decide,by decide⟩,_,m / 2,T,M,L,gs,O,rfl,Zh2 _ _,by omega,by omega,by omega,G,by omega,fun r J ej hm=>?_⟩;refine hid fun Gz q0=>?_;obtain⟨p,x,y,t,g,rfl,h1,h2,h3,hk,h4,h5,h6,h7,h8⟩:=hm;refine q0 ?_;exact⟨p,rfl,_,h1,rfl,_,_,rfl,_,_,rfl,rfl,W _ x y t g ej h2 h3 hk h4 h5 h6 h7 h8⟩
  refine sqk (fun C=>∀H' x9 y9 t g,Same H2 H'->LEK K H' x9 t->LtK K H' y9 g->HasK O t g->t.fine L->t.deep<=dB (m / 2)->t.size<=sB (m / 2)->g.inW L->g.parts<=60->C [some (.int c),some (.int (m:Nat)),some (.ref T),some (.ref M),some (.int fm),some (.int sdv),some x,some y,some x9,some y9,none,none] H') (fun C' W=>?_) fun H3 x' y' t' g' e3 z5 z0 j7 j8 y0 z9 z7 y1=>?_
  ·walk_at "1"
   refine⟨_,_,rfl,by omega,by omega,⟨by decide,by decide⟩,_,m / 2,T,M,L,gs,O,rfl,Zh2 _ _,by omega,by omega,by omega,G.keep e2,by omega,fun r J ej hm=>?_⟩;refine hid fun Gz q0=>?_;obtain⟨p,x',y',t',g',rfl,h1,h2,h3,hk,h4,h5,h6,h7,h8⟩:=hm;refine q0 ?_;exact⟨p,rfl,_,h1,rfl,_,_,rfl,_,_,rfl,rfl,W _ x' y' t' g' ej h2 h3 hk h4 h5 h6 h7 h8⟩
  walk_at "1";refine⟨by decide,?_⟩;intro U D;generalize d:upd H3 U (.tup [.str "pair",x,x'])=J1;have R:=nw1 D d;have q1:=nw2 (K:=K) d;refine⟨by decide,?_⟩;intro i B;generalize b:upd J1 i (.tup [.str "both",y,y'])=J2;have I:=nw1 B b;have q2:=nw3 b;refine⟨by decide,?_⟩;intro p3 v;generalize a:upd J2 p3 (.tup [.ref U,.ref i])=J3;have N:=nw1 v a;have q3:=nw2 (K:=K) a;have f:=(R.trans I).trans N;have j2:=e3.trans f;exact q _ _ (e2.trans j2) (Zg3 (t:=.two .pair t t') (g:=.nd .both g g') q3 (Zl0 (u:=.pair) ((I.trans N).sqt q1) (LEK.keep hx j2.keepL) (LEK.keep z5 f.keepL)) (ltK_nd.mpr ⟨i,y,y',rfl,N _ _ q2,LtK.keep hy j2.keepL,LtK.keep z0 f.keepL⟩) ⟨tf,j8⟩ (by show 1+max t.deep t'.deep<=_;omega) (by show 1+t.size+t'.size<=_;omega) ⟨gw,z7⟩ (by show 1+g.parts+g'.parts<=_;omega) ⟨_,_,tk,j7,rfl⟩)
 refine sqk PC0 (fun C S=>?_) ?_
 ·walk_at "1"
  refine ite2 (fun _=>?_) (fun _=>S);exact⟨_,m,T,M,L,gs,O,rfl,sd,lo,hn,q7,G,hl,qm⟩
 refine sqk PC0 (fun C S=>?_) ?_
 ·walk_at "3"
  refine ite2 (fun _=>?_) (fun _=>S);refine sqk (fun C=>∀H' x y t g,Same H H'->LEK K H' x t->LtK K H' y g->HasK O t g->t.fine L->t.deep<=dB (m - 1)->t.size<=sB (m - 1)->g.inW L->g.parts<=60->C [some (.int c),some (.int (m:Nat)),some (.ref T),some (.ref M),some (.int fm),some (.int sdv),none,some y,none,none,some x,none] H') (fun C' W=>?_) fun H4 x y t g e4 hx hy tk tf td tz gw gp=>?_
  ·walk_at "1"
   refine⟨_,_,rfl,by omega,by omega,_,m - 1,T,M,L,gs,O,by rw[show (m:Int) - 1=((m - 1:Nat):Int) by omega],Zh2 _ _,by omega,by omega,by omega,G,by omega,fun r J ej hm=>?_⟩;refine hid fun Gz q0=>?_;obtain⟨p,x,y,t,g,rfl,h1,h2,h3,hk,h4,h5,h6,h7,h8⟩:=hm;refine q0 ?_;exact⟨p,rfl,_,h1,rfl,_,_,rfl,_,_,rfl,rfl,W _ x y t g ej h2 h3 hk h4 h5 h6 h7 h8⟩
  have a0:=yu sdv (show (4:Int)≠0 by decide);have a1:=yp sdv (show (0:Int) < 4 by decide);walk_at "1";refine⟨_,_,rfl,by omega,by omega,by decide,Zl8 (Zh2 _ _) (by omega) (by omega) (e4.seq G.w) G.wo fun r H5 u e5 Y X up=>?_⟩
  have pu:u.parts<=4:=by omega
  refine⟨⟨by decide,by decide⟩,by decide,ite2 (fun _=>⟨by decide,?_⟩) (fun _=>⟨by decide,?_⟩)⟩
  ·intro U D;generalize d:upd H5 U (.tup [.str "first",x,r])=J1;have R:=nw1 D d;have q1:=nw2 (K:=K) d
   refine⟨by decide,?_⟩;intro i B;generalize b:upd J1 i (.tup [.str "one",y,r])=J2;have I:=nw1 B b;have q2:=nw3 b;refine⟨by decide,?_⟩;intro p3 v;generalize a:upd J2 p3 (.tup [.ref U,.ref i])=J3;have N:=nw1 v a;have q3:=nw2 (K:=K) a;have f:=(R.trans I).trans N;have q6:=e5.trans f;exact q _ _ (e4.trans q6) (Zg3 (t:=.one .first t [u]) (g:=.nd .one g u) q3 (Zt8 (u:=.first) ((I.trans N).sqt q1) (LEK.keep hx q6.keepL) (LtK.keep Y f.keepL)) (ltK_nd.mpr ⟨i,y,r,rfl,N _ _ q2,LtK.keep hy q6.keepL,LtK.keep Y f.keepL⟩) ⟨tf,rfl,fun s Z=>by rw[yf.mp Z];exact⟨X,by omega⟩⟩ (by show 1+t.deep<=_;omega) (by show 1+t.size<=_;omega) ⟨gw,X⟩ (by show 1+g.parts+u.parts<=_;omega) ⟨_,_,rfl,tk,rfl⟩)
  ·intro U D;generalize d:upd H5 U (.tup [.str "second",x,r])=J1;have R:=nw1 D d;have q1:=nw2 (K:=K) d
   refine⟨by decide,?_⟩;intro i B;generalize b:upd J1 i (.tup [.str "one",r,y])=J2;have I:=nw1 B b;have q2:=nw3 b;refine⟨by decide,?_⟩;intro p3 v;generalize a:upd J2 p3 (.tup [.ref U,.ref i])=J3;have N:=nw1 v a;have q3:=nw2 (K:=K) a;have f:=(R.trans I).trans N;have q6:=e5.trans f;exact q _ _ (e4.trans q6) (Zg3 (t:=.one .second t [u]) (g:=.nd .one u g) q3 (Zt8 (u:=.second) ((I.trans N).sqt q1) (LEK.keep hx q6.keepL) (LtK.keep Y f.keepL)) (ltK_nd.mpr ⟨i,r,y,rfl,N _ _ q2,LtK.keep Y f.keepL,LtK.keep hy q6.keepL⟩) ⟨tf,rfl,fun s Z=>by rw[yf.mp Z];exact⟨X,by omega⟩⟩ (by show 1+t.deep<=_;omega) (by show 1+t.size<=_;omega) ⟨X,gw⟩ (by show 1+u.parts+g.parts<=_;omega) ⟨_,_,rfl,tk,rfl⟩)
 refine sqk PC0 (fun C S=>?_) ?_
 ·walk_at "1"
  refine ite2 (fun _=>?_) (fun _=>S);exact⟨_,m,T,M,L,gs,O,rfl,sd,lo,hn,q7,G,hl,qm⟩
 refine sqk (fun C=>∀H',Same H H'->C [some (.int c),some (.int (m:Nat)),some (.ref T),some (.ref M),some (.int fm),some (.int sdv),none,none,none,none,none,none] H') (fun C S=>?_) fun H6 e6=>?_
 ·walk_at "1"
  refine ite2 (fun _=>⟨by decide,?_⟩) (fun _=>S _ (Same.refl _));intro U D;generalize d:upd H U (.tup [.str "low"])=J1;have R:=nw1 D d;have q1:=nw2 (K:=K) d;have GJ:=G.keep R;have j3:∀s∈O,s.ok:=fun s Z=>(G.o s Z).1.ok G.wo.2.2;have a0:=yu sdv (show (5:Int)≠0 by decide);have a1:=yp sdv (show (0:Int) < 5 by decide);refine⟨.low,isT_low.mpr ⟨U,rfl,q1⟩,_,SqL.of GJ.g,O,GJ.pT,trivial,j3,by decide,?_⟩;rw[if_neg yi]
  by_cases cm:Tm.low∈O
  ·rw[if_pos (decide_eq_true cm)]
   refine⟨_,_,rfl,by omega,by omega,by decide,Zl8 (Zh2 _ _) (by omega) (by omega) GJ.w G.wo fun r H6 u e6 Y X up=>⟨.inl ⟨rfl,_,SqL.of (e6 _ _ GJ.g)⟩,by decide,?_⟩⟩;intro i B;generalize b:upd H6 i (.tup [.str "low"])=J2;have I:=nw1 B b;have q2:=nw2 (K:=K) b;have G2:=(GJ.keep e6).keep I;refine⟨.low,isT_low.mpr ⟨i,rfl,q2⟩,_,SqL.of G2.g,O,G2.pT,trivial,j3,by decide,cm,fun j hj=>⟨by decide,?_⟩⟩;intro p3 v;generalize a:upd J2 p3 (.tup [.str "at",.int (j:Nat)])=J3;have N:=nw1 v a;have q3:=nw2 (K:=K) a;refine⟨by decide,?_⟩;intro p4 j6;generalize j0:upd J3 p4 (.tup [.str "off",.ref p3,r])=J4;have s4:=nw1 j6 j0;have q4:=nw2 (K:=K) j0;refine⟨by decide,?_⟩;intro p5 j5;generalize q9:upd J4 p5 (.tup [.ref p4,r])=J5;have s5:=nw1 j5 q9;have q5:=nw2 (K:=K) q9;have j9:=(N.trans s4).trans s5;have q8:=I.trans j9;exact q _ _ ((R.trans e6).trans q8) (Zg3 (t:=.one .off (.at j) [u]) (g:=u) q5 (Zt8 (u:=.off) (s5.sqt q4) (Zw0 ((s4.trans s5).sqt q3)) (LtK.keep Y q8.keepL)) (LtK.keep Y q8.keepL) ⟨trivial,rfl,fun s Z=>by rw[yf.mp Z];exact⟨X,by omega⟩⟩ (by show 1+1<=_;omega) (by show 1+1<=_;omega) X (by omega) ⟨rfl,hj⟩)
  ·rw[if_neg (by simpa using cm)]
   exact S _ R
 have G6:=G.keep e6;refine sqk (fun C=>C [some (.int c),some (.int (m:Nat)),some (.ref T),some (.ref M),some (.int fm),some (.int sdv),none,none,none,none,none,none] H6) (fun C S=>?_) ?_
 ·walk_at "3"
  refine ite2 (fun _=>?_) (fun _=>S);have a0:=yu sdv (show (5:Int)≠0 by decide);have a1:=yp sdv (show (0:Int) < 5 by decide);refine sqk (fun C=>∀H' r u,Same H6 H'->LtK K H' r u->u.inW L->u.parts<=5->C [some (.int c),some (.int (m:Nat)),some (.ref T),some (.ref M),some (.int fm),some (.int sdv),none,none,none,none,none,some r] H') (fun C' W=>?_) fun H7 r u e7 Y X up=>?_
  ·walk_at "1"
   exact⟨_,_,rfl,by omega,by omega,by decide,Zl8 (Zh2 _ _) (by omega) (by omega) G6.w G.wo fun r J u ej Y X up=>W _ r u ej Y X (by omega)⟩
  have G7:=G6.keep e7;refine sqk (fun C=>∀H' x y t g,Same H7 H'->LEK K H' x t->LtK K H' y g->HasK (u::O) t g->t.fine L->t.deep<=dB (m - 1)->t.size<=sB (m - 1)->g.inW L->g.parts<=60->C [some (.int c),some (.int (m:Nat)),some (.ref T),some (.ref M),some (.int fm),some (.int sdv),none,some y,none,none,some x,some r] H') (fun C' W=>?_) fun H8 x y t g e8 hx hy tk tf td tz gw gp=>?_
  ·walk_at "1"
   refine⟨_,_,rfl,by omega,by omega,by decide,fun U h1=>?_⟩;have R:=Za6 h1 (.lst [r]);refine⟨_,Za5,gs,R _ _ G7.g,zv (Zd9 (by show 1+gs.length<=_;omega)),fun i h2=>?_⟩;have I:=Za6 h2 (.lst ([r]++gs));have j4:=(R.trans I).keepL (K:=K);refine⟨_,m - 1,i,M,L,r::gs,u::O,by rw[show (m:Int) - 1=((m - 1:Nat):Int) by omega],Zh2 _ _,by omega,by omega,by omega,⟨(R.trans I).seq G7.w,G.wo,Za5,.cons (LtK.keep Y j4) (Paired.mapP G7.p fun _ _ z=>LtK.keep z j4),fun s Z=>?_⟩,by rw[zac];omega,fun r2 J ej hm=>?_⟩
   ·rcases zd.mp Z with rfl | Z
    ·exact⟨X,by omega⟩
    ·exact G.o s Z
   refine hid fun Gz q0=>?_;obtain⟨p,x,y,t,g,rfl,h1,h2,h3,hk,h4,h5,h6,h7,h8⟩:=hm;refine q0 ?_;exact⟨p,rfl,_,h1,rfl,_,_,rfl,_,_,rfl,rfl,W _ x y t g ((R.trans I).trans ej) h2 h3 hk h4 h5 h6 h7 h8⟩
  walk_at "1";refine⟨by decide,?_⟩;intro U D;generalize d:upd H8 U (.tup [.str "fun",r,x])=J1;have R:=nw1 D d;have q1:=nw2 (K:=K) d;refine⟨by decide,?_⟩;intro i B;generalize b:upd J1 i (.tup [.str "then",r,y])=J2;have I:=nw1 B b;have q2:=nw3 b;refine⟨by decide,?_⟩;intro p3 v;generalize a:upd J2 p3 (.tup [.ref U,.ref i])=J3;have N:=nw1 v a;have q3:=nw2 (K:=K) a;have f:=(R.trans I).trans N;have j1:=e8.trans f;exact q _ _ ((e6.trans e7).trans j1) (Zg3 (t:=.fn u t) (g:=.nd .thn u g) q3 (Yt7 ((I.trans N).sqt q1) (LtK.keep Y j1.keepL) (LEK.keep hx f.keepL)) (ltK_nd.mpr ⟨i,r,y,rfl,N _ _ q2,LtK.keep Y j1.keepL,LtK.keep hy f.keepL⟩) ⟨⟨X,by omega⟩,tf⟩ (by show 1+t.deep<=_;omega) (by show 1+t.size<=_;omega) ⟨X,gw⟩ (by show 1+u.parts+g.parts<=_;omega) ⟨_,tk,rfl⟩)
 walk_at "1";exact⟨_,m,T,M,L,gs,O,rfl,sd,lo,hn,q7,G6,hl,fun r H' e hm=>qm r H' (e6.trans e) hm⟩
theorem sc_ap0:FnScope ["_law_cell_here","_law_size_here","_law_given_here","_law_words_here","_law_term","_law_shape","_law_more","_law_base","_law_found","_law_ends","_law_one"] ["_law_cell_here","_law_size_here","_law_given_here","_law_words_here"] (Za3 (top 62)):=scm (by decide +kernel)
theorem at4 {a b c d:V}{i:Int}(h0:0<=i)(h1:i < 4):∃x,atI [a,b,c,d] i=some x/\x∈[a,b,c,d]:=by
 have:i=0∨i=1∨i=2∨i=3:=by omega
 rcases this with rfl | rfl | rfl | rfl
 ·exact⟨a,rfl,by simp⟩
 ·exact⟨b,rfl,by simp⟩
 ·exact⟨c,rfl,by simp⟩
 ·exact⟨d,rfl,by simp⟩
def EL (K:W.Frag)(Γ:List Tm)(g:Tm)(H:Hp)(ws:List Str)(d s:Nat)(u:V):Prop:=∃t,LEK K H u t/\(∀x,HasK (x::Γ) t g)/\t.fine ws/\t.deep<=d/\t.size<=s
theorem EL.keep {g:Tm}{s:Nat}{u:V}(h:EL K Γ g H ws d s u)(k:KeepL K H H'):EL K Γ g H' ws d s u:=let ⟨t,h1,h2⟩:=h;⟨t,LEK.keep h1 k,h2⟩
theorem Wr0 {k:Nat}{f_ap0:Addr}{fd_ap0:zc}(F_ap0:Fun K "_law_chosen" "_law_chosen" (top 62) f_ap0 fd_ap0)(C__law_made:Cl P w K mg base k "_law_made" pq3 (sp_drawL K 0 n 60))(C__law_lifted:Cl P w K mg base k "_law_lifted" pq11 (sp_lliftL K 30))(C__law_mix:Cl P w K mg base k "_law_mix" pq1 (sp_mix))(C__law_leaf:Cl P w K mg base k "_law_leaf" pq5 (sp_leafL K)):Fk0 P w K mg base (k+1) f_ap0 fd_ap0 pq3 (sp_drawL K 2 (n+1) 60):=by
 refine F_ap0.okG sc_ap0 fun cdv A outer s H vs Q E hr h Gx hGx=>?_;obtain⟨c,m,X,U,J,gs,ts,rfl,hc,lo,hn,j5,G,hl,q⟩:=h;have c0:=yu c (show (2:Int)≠0 by decide);have c1:=yp c (show (0:Int) < 2 by decide);obtain⟨d1,d2,d3,d4,d5,d6,d7⟩:=Zz2 m j5 lo;obtain⟨z1,z2,z3,z4⟩:=Zy2 m j5 lo;have d8:=Xv0 m j5
 refine hGx _ ⟨_,(Za2 (Zj9 (Zb8 C__law_made hr (Za0 (Zb8 C__law_mix hr (Za8 (pvM 0) (Zb3 Za4 Za1))) (Za0 (Zb6 Zd8 (pvM 1) Za4) (Za8 (pvM 2) (Za8 (pvM 3) Za1))))) (Zi2 rfl (Zc2 (pgn 4 sc_ap0.nd) (Zc2 (pgn 5 sc_ap0.nd) Zg1))))
 (Za2 (Zd1 (ptcM (Yn4) (pxtM (pvM 5) Za4) Zb1)
  (Za2 (pst 6 sc_ap0.nd (Zb8 C__law_leaf hr (Za0 (Zb8 C__law_mix hr (Za8 (pvM 0) (Zb3 Za4 Za1))) (Za8 (pvM 3) Za1))))
 (Za2 (pst 4 sc_ap0.nd (pxlM (Ze1 (Zc5 (Zb5 (Zb3 Zb1 (Za8 (pvM 4) (Za8 (pvM 6) Za1)))) (Zc5 (Zb5 (Zb3 Zb1 (Za8 (pvM 4) (Za8 (pvM 6) Za1)))) Za1))) (Zb6 Zd0 (pvM 0) Za4)))
 (Za7 (pst 5 sc_ap0.nd (pxlM (Ze1 (Zc5 (Zb5 (Zb3 Zb1 (Za8 (pvM 5) (Za8 (pvM 6) Za1)))) (Zc5 (Zb5 (Zb3 Zb1 (Za8 (pvM 6) (Za8 (pvM 5) Za1)))) Za1))) (Zb6 Zd0 (pvM 0) Za4))))))
  Zb4)
 (Za2 (Zj9 (Zb8 C__law_made hr (Za0 (Zb8 C__law_mix hr (Za8 (pvM 0) (Zb3 Za4 Za1))) (Za0 (Zb6 Zd8 (pvM 1) Za4) (Za8 (pvM 2) (Za8 (pvM 3) Za1))))) (Zi2 rfl (Zc2 (pgn 7 sc_ap0.nd) (Zc2 (pgn 8 sc_ap0.nd) Zg1))))
 (Za2 (pst 7 sc_ap0.nd (Zb8 C__law_lifted hr (Za8 (pvM 7) (Zb3 Za4 Za1))))
 (Za2 (pst 9 sc_ap0.nd (Ze1 (Za8 (pvM 7) (Zc5 (Zb5 (Zb3 Zb1 (Zc5 (Zb5 (Zb3 Zb1 (Zc5 (Zb5 (Zb3 Zb1 (Zb3 Za4 Za1))) (Za8 (pvM 7) Za1)))) Za1))) (Zc5 (Zb5 (Zb3 Zb1 (Zc5 (Zb5 (Zb3 Zb1 (Za8 (pvM 7) (Zc5 (Zb5 (Zb3 Zb1 (Zb3 Za4 Za1))) Za1)))) Za1))) Za1)))))
 (Za2 (Zf3 (Zk4 yl yv yx Ze6 (pvM 9) (Zc5 (Zb5 (Zb3 Zb1 (Zc5 (Zb5 (Zb3 Zb1 (Za8 (pvM 8) (Zc5 (Zb5 (Zb3 Zb1 (Zb3 Za4 Za1))) Za1)))) (Za8 (pvM 7) Za1)))) Za1)))
 (Za2 (pst 10 sc_ap0.nd (pxlM (pvM 9) (Zb6 Zd0 (Zb6 Zd8 (pvM 0) Za4) Za4)))
 (Za2 (Zd1 (ptcM (Xj6 (Zu2 hr)) (pxtM (pvM 5) Za4) (pvM 8))
  (Za7 (pst 10 sc_ap0.nd (Zb5 (Zb3 Zb1 (Zb3 Za4 Za1)))))
  Zb4)
 (Za7 (Zb2 (Zb5 (Zc5 (Zb5 (Zb3 Zb1 (Za8 (pvM 4) (Za8 (pvM 10) (Zp7 (pxlM (pvM 9) (Zb6 Zd0 (Zb6 Zd8 (pvM 0) Za4) Za4)) Za1))))) (Za8 (pvM 8) Za1))))))))))))),?_⟩
 refine sqk (fun C=>∀f x y t g,Same H f->LEK K f x t->LtK K f y g->HasK ts t g->t.fine J->t.deep<=dB (m / 2)->t.size<=sB (m / 2)->g.inW J->g.parts<=60->C [some (.int c),some (.int (m:Nat)),some (.ref X),some (.ref U),some x,some y,none,none,none,none,none] f) (fun C M=>?_) fun H1 x y t g e1 hx hy tk tf td tz gw gp=>?_
 ·walk_at "1"
  refine⟨_,_,rfl,by omega,by omega,⟨by decide,by decide⟩,_,m / 2,X,U,J,gs,ts,rfl,Zh2 _ _,by omega,by omega,by omega,G,by omega,fun r H1 e1 hm=>?_⟩;refine hid fun Gz j4=>?_;obtain⟨p,x,y,t,g,rfl,h1,h2,h3,hk,h4,h5,h6,h7,h8⟩:=hm;refine j4 ?_;exact⟨p,rfl,_,h1,rfl,_,_,rfl,_,_,rfl,rfl,M _ x y t g e1 h2 h3 hk h4 h5 h6 h7 h8⟩
 refine sqk (fun C=>∀f x y x6 t a b,Same H f->LEK K f x t->LtK K f y (.nd .one a b)->HasK ts t (.nd .one a b)->t.fine J->t.deep<=1+dB (m / 2)->t.size<=1+sB (m / 2)->a.inW J->a.parts<=60->C [some (.int c),some (.int (m:Nat)),some (.ref X),some (.ref U),some x,some y,x6,none,none,none,none] f) (fun C M=>?_) fun H2 x4 y5 x6 t4 a5 b5 e2 hx4 hy5 t4k t4f t4d t4z a5w a5p=>?_
 ·obtain⟨py,ys,rfl,hsy,hy0⟩:=Yj7 (LtK.isT hy)
  walk_at "3";refine⟨_,hsy,_,hy0,rfl,?_⟩
  by_cases ca:g.tagS="one"
  ·obtain⟨a,b,rfl⟩:=Yr1 (k:=.one) ca
   have gp':1+a.parts+b.parts<=60:=gp;rw[if_neg (by rw[ca];simp)];exact M _ _ _ _ t a b e1 hx hy tk tf (by omega) (by omega) gw.1 (by omega)
  ·rw[if_pos (by simpa using ca)]
   refine sqk (fun C=>∀f r u,Same H1 f->LtK K f r u->u.inW J->u.parts<=1->C [some (.int c),some (.int (m:Nat)),some (.ref X),some (.ref U),some x,some (.ref py),some r,none,none,none,none] f) (fun C' q9=>?_) fun H2 r u e2 L uw up=>?_
   ·walk_at "1"
    exact⟨_,_,rfl,by omega,by omega,_,_,J,rfl,e1.seq G.w,G.wo,fun r f u e m=>q9 _ r u e m.1 m.2.1 m.2.2.1⟩
   refine sqk (fun C=>∀f x' t',Same H2 f->LEK K f x' t'->(c % 2=0->t'=.one .first t [u])->(c % 2=1->t'=.one .second t [u])->t'.fine J->t'.deep<=1+dB (m / 2)->t'.size<=1+sB (m / 2)->C [some (.int c),some (.int (m:Nat)),some (.ref X),some (.ref U),some x',some (.ref py),some r,none,none,none,none] f) (fun C' q9=>?_) fun H3 x' t' e3 y9 k0' k1' z7 z8 z6=>?_
   ·walk_at "1"
    refine⟨by decide,?_⟩;intro D l;generalize i:upd H2 D (.tup [.str "first",x,r])=J1;have W:=nw1 l i;have Y:=nw2 (K:=K) i;refine⟨by decide,?_⟩;intro R I;generalize j:upd J1 R (.tup [.str "second",x,r])=J2;have S:=nw1 I j;have q2:=nw2 (K:=K) j;refine⟨by decide,fun O h3=>⟨by decide,_,SqL.of Za5,?_⟩⟩;have N:=Za6 h3 (.lst [.ref D,.ref R]);generalize upd J2 O (.lst [.ref D,.ref R])=J3 at N ⊢;have B:=(W.trans S).trans N
    have fu:∀s∈[u],okW J s:=fun s hs=>by rw[yf.mp hs];exact⟨uw,by omega⟩
    refine at2 c0 c1 (fun ec=>q9 _ _ (.one .first t [u]) B (Zt8 (u:=.first) ((S.trans N).sqt Y) (LEK.keep hx (e2.trans B).keepL) (LtK.keep L B.keepL)) (fun _=>rfl) (fun z=>absurd (ec.symm.trans z) (by decide)) ⟨tf,rfl,fu⟩ (by show 1+t.deep<=_;omega) (by show 1+t.size<=_;omega))
     (fun ec=>q9 _ _ (.one .second t [u]) B (Zt8 (u:=.second) (N.sqt q2) (LEK.keep hx (e2.trans B).keepL) (LtK.keep L B.keepL)) (fun z=>absurd (ec.symm.trans z) (by decide)) (fun _=>rfl) ⟨tf,rfl,fu⟩ (by show 1+t.deep<=_;omega) (by show 1+t.size<=_;omega))
   walk_at "1";refine⟨by decide,?_⟩;intro D l;generalize i:upd H3 D (.tup [.str "one",.ref py,r])=J1;have W:=nw1 l i;have Y:=nw3 i;refine⟨by decide,?_⟩;intro R I;generalize j:upd J1 R (.tup [.str "one",r,.ref py])=J2;have S:=nw1 I j;have q2:=nw3 j;refine⟨by decide,fun O h3=>⟨by decide,_,SqL.of Za5,?_⟩⟩;have N:=Za6 h3 (.lst [.ref D,.ref R]);generalize upd J2 O (.lst [.ref D,.ref R])=J3 at N ⊢;have B:=(W.trans S).trans N;have z5:=e3.trans B;have j0:=e2.trans z5;refine at2 c0 c1 (fun ec=>M _ x' _ _ t' g u (e1.trans j0) (LEK.keep y9 B.keepL) (ltK_nd.mpr ⟨D,.ref py,r,rfl,(S.trans N) _ _ Y,LtK.keep hy j0.keepL,LtK.keep L z5.keepL⟩) (by rw[k0' ec];exact⟨_,_,rfl,tk,rfl⟩) z7 z8 z6 gw (by omega))
    (fun ec=>M _ x' _ _ t' u g (e1.trans j0) (LEK.keep y9 B.keepL) (ltK_nd.mpr ⟨R,r,.ref py,rfl,N _ _ q2,LtK.keep L z5.keepL,LtK.keep hy j0.keepL⟩) (by rw[k1' ec];exact⟨_,_,rfl,tk,rfl⟩) z7 z8 z6 uw (by omega))
 refine sqk (fun C=>∀f x y t g,Same H2 f->LEK K f x t->LtK K f y g->HasK ts t g->t.fine J->t.deep<=dB (m / 3)->t.size<=sB (m / 3)->g.inW J->g.parts<=60->C [some (.int c),some (.int (m:Nat)),some (.ref X),some (.ref U),some x4,some y5,x6,some x,some y,none,none] f) (fun C M=>?_) fun H3 x7 y8 t7 g8 e3 hx7 j3 t7k z9 t7d t7z j6 v5=>?_
 ·walk_at "1"
  refine⟨_,_,rfl,by omega,by omega,⟨by decide,by decide⟩,_,m / 3,X,U,J,gs,ts,rfl,Zh2 _ _,by omega,by omega,by omega,G.keep e2,by omega,fun r H1 e1 hm=>?_⟩;refine hid fun Gz j4=>?_;obtain⟨p,x,y,t,g,rfl,h1,h2,h3,hk,h4,h5,h6,h7,h8⟩:=hm;refine j4 ?_;exact⟨p,rfl,_,h1,rfl,_,_,rfl,_,_,rfl,rfl,M _ x y t g e1 h2 h3 hk h4 h5 h6 h7 h8⟩
 refine sqk (fun C=>∀f x t,Same H3 f->LEK K f x t->(∀z,HasK (z::ts) t g8)->t.fine J->t.deep<=dB (m / 3)->t.size<=sB (m / 3)->C [some (.int c),some (.int (m:Nat)),some (.ref X),some (.ref U),some x4,some y5,x6,some x,some y8,none,none] f) (fun C M=>?_) fun H4 T t8 e4 y7 q7 q8 t8d t8z=>?_
 ·walk_at "1"
  exact⟨_,t7,0,J,rfl,hx7,z9,by omega,fun r f e hr'=>M _ r _ e hr' (fun z=>Xc7 t7k) (Zj2 z9) (by rw[Zh9];exact t7d) (by rw[Zh8];exact t7z)⟩
 have e04:=e2.trans (e3.trans e4);refine sqk (fun C=>∀f le u1 u2 u3,Same H4 f->H4 le=none->f le=some (.lst [u1,u2,u3])->(∀u∈[u1,u2,u3],EL K ts g8 f J (2+dB (m / 3)) (3+sB (m / 3)) u)->C [some (.int c),some (.int (m:Nat)),some (.ref X),some (.ref U),some x4,some y5,x6,some T,some y8,some (.ref le),none] f) (fun C M=>?_) fun H5 le u1 u2 u3 e5 f5 h5 hE=>?_
 ·walk_at "1"
  refine⟨by decide,?_⟩;intro D l;generalize i:upd H4 D (.tup [.str "at",.int 0])=J1;have W:=nw1 l i;have Y:=nw2 (K:=K) i;refine⟨by decide,?_⟩;intro R I;generalize j:upd J1 R (.tup [.str "pair",.ref D,T])=J2;have S:=nw1 I j;have q2:=nw2 (K:=K) j;refine⟨by decide,?_⟩;intro O q0;generalize Z:upd J2 O (.tup [.str "right",.ref R])=J3;have N:=nw1 q0 Z;have q3:=nw2 (K:=K) Z;refine⟨by decide,?_⟩;intro p4 v8;generalize j9:upd J3 p4 (.tup [.str "at",.int 0])=J4;have s4:=nw1 v8 j9;have q4:=nw2 (K:=K) j9;refine⟨by decide,?_⟩;intro p5 v7;generalize j8:upd J4 p5 (.tup [.str "pair",T,.ref p4])=J5;have s5:=nw1 v7 j8;have q5:=nw2 (K:=K) j8;refine⟨by decide,?_⟩;intro p6 v6;generalize j7:upd J5 p6 (.tup [.str "left",.ref p5])=J6;have s6:=nw1 v6 j7;have q6:=nw2 (K:=K) j7;refine⟨by decide,fun p7 h7=>?_⟩;have s7:=Za6 h7 (.lst [T,.ref O,.ref p6]);have sA:=((((W.trans S).trans N).trans s4).trans s5).trans s6;have f7:H4 p7=none:=sA.free h7;have l7:upd J6 p7 (.lst [T,.ref O,.ref p6]) p7=some (.lst [T,.ref O,.ref p6]):=Za5;generalize upd J6 p7 (.lst [T,.ref O,.ref p6])=J7 at s7 l7 ⊢;have y0:=s6.trans s7;have y1:=s5.trans y0;have y2:=s4.trans y1;have y3:=N.trans y2;have y4:=S.trans y3;have y6:=W.trans y4;have j1:=LEK.keep y7 y6.keepL;refine M _ p7 T (.ref O) (.ref p6) y6 f7 l7 (fun u L=>?_);rcases zd.mp L with rfl | L
  ·exact⟨t8,j1,q7,q8,by omega,by omega⟩
  rcases zd.mp L with rfl | L
  ·exact⟨.one .right (.two .pair (.at 0) t8) [],Zp9 (u:=.right) (y2.sqt q3) (Zl0 (u:=.pair) (y3.sqt q2) (Zw0 (k:=0) (y4.sqt Y)) j1),fun z=>⟨_,_,_,rfl,q7 z,rfl⟩,⟨⟨trivial,q8⟩,rfl,fun _ h=>nomatch h⟩,by show 1+(1+max 1 t8.deep)<=_;omega,by show 1+(1+1+t8.size)<=_;omega⟩
  ·rw[yf.mp L]
   exact⟨.one .left (.two .pair t8 (.at 0)) [],Zp9 (u:=.left) (s7.sqt q6) (Zl0 (u:=.pair) (y0.sqt q5) j1 (Zw0 (k:=0) (y1.sqt q4))),fun z=>⟨_,_,_,q7 z,rfl,rfl⟩,⟨⟨q8,trivial⟩,rfl,fun _ h=>nomatch h⟩,by show 1+(1+max t8.deep 1)<=_;omega,by show 1+(1+t8.size+1)<=_;omega⟩
 refine sqk (fun C=>∀f u4,Same H4 f->f le=some (.lst [u1,u2,u3,u4])->(∀u∈[u1,u2,u3,u4],EL K ts g8 f J (2+dB (m / 3)) (3+sB (m / 3)) u)->C [some (.int c),some (.int (m:Nat)),some (.ref X),some (.ref U),some x4,some y5,x6,some T,some y8,some (.ref le),none] f) (fun C M=>?_) fun H6 u4 e6 h6 v3=>?_
 ·walk_at "1"
  refine⟨.inl ⟨rfl,_,SqL.of h5⟩,by decide,?_⟩;intro D l;generalize i:upd H5 D (.tup [.str "at",.int 0])=J1;have W:=nw1 l i;have Y:=nw2 (K:=K) i;refine⟨by decide,?_⟩;intro R I;generalize j:upd J1 R (.tup [.str "fun",y8,.ref D])=J2;have S:=nw1 I j;have q2:=nw2 (K:=K) j;refine⟨by decide,?_⟩;intro O q0;generalize Z:upd J2 O (.tup [.str "use",.ref R,T])=J3;have N:=nw1 q0 Z;have q3:=nw2 (K:=K) Z;have B:=(W.trans S).trans N;have v4:=B _ _ h5;have kl:=Zg5 (K:=K) (o:=.lst ([u1,u2,u3]++[.ref O])) v4;have wr:=(e5.trans B).write (o:=.lst ([u1,u2,u3]++[.ref O])) f5;refine⟨_,v4,by show 3 < zi;decide,M _ (.ref O) wr Za5 (fun u L=>?_)⟩;have k8:=(wr.keepL (K:=K));have L:u∈[u1,u2,u3]++[V.ref O]:=L;rcases yg.mp L with L | L
  ·exact (hE u L).keep (B.keepL.trans kl)
  ·rw[yf.mp L]
   exact⟨.two .use (.fn g8 (.at 0)) t8,Zl0 (u:=.use) (kl.k _ _ q3) (Yt7 (kl.k _ _ (N.sqt q2)) (LtK.keep j3 (e4.keepL.trans k8)) (Zw0 (k:=0) (kl.k _ _ ((S.trans N).sqt Y)))) (LEK.keep y7 k8),fun z=>⟨_,⟨_,rfl,rfl⟩,q7 z⟩,⟨⟨⟨j6,v5⟩,trivial⟩,q8⟩,by show 1+max (1+1) t8.deep<=_;omega,by show 1+(1+1)+t8.size<=_;omega⟩
 have b0:=yu (c / 2) (show (4:Int)≠0 by decide);have b1:=yp (c / 2) (show (0:Int) < 4 by decide);have b2:=yu (c / 8) (show (4:Int)≠0 by decide);have b3:=yp (c / 8) (show (0:Int) < 4 by decide);refine sqk (fun C=>∀v,EL K ts g8 H6 J (2+dB (m / 3)) (3+sB (m / 3)) v->C [some (.int c),some (.int (m:Nat)),some (.ref X),some (.ref U),some x4,some y5,x6,some T,some y8,some (.ref le),some v] H6) (fun C M=>?_) fun v hv=>?_
 ·walk_at "1"
  obtain⟨v,hv,hm⟩:=at4 (a:=u1) (b:=u2) (c:=u3) (d:=u4) b0 b1;exact⟨⟨by decide,by decide⟩,by decide,_,SqL.of h6,v,hv,M v (v3 v hm)⟩
 have e47:=e6;refine sqt (fun v9 f=>∃v t,v9=[some (.int c),some (.int (m:Nat)),some (.ref X),some (.ref U),some x4,some y5,x6,some T,some y8,some (.ref le),some v]/\Same H6 f/\LEK K f v t/\HasK (a5::ts) t g8/\t.fine J/\t.deep<=2+dB (m / 3)/\t.size<=3+sB (m / 3)) ?_ ?_
 ·intro C M
  obtain⟨p5,v1,v2,rfl,hs5,hv1,v0⟩:=ltK_nd.mp (LtK.keep hy5 (e3.trans (e4.trans e6)).keepL);walk_at "1";refine⟨_,.inl (.inl hs5),v1,rfl,a5.data,LtK.isT hv1,g8.data,LtK.isT (LtK.keep j3 (e4.trans e6).keepL),a5.lay (a5w.ok G.wo.2.2),g8.lay (j6.ok G.wo.2.2),?_,?_⟩
  ·rw[Tm.depth,Tm.depth]
   have:=Zh1 a5;omega
  rw[if_neg yi];refine ite2 (fun ce=>⟨by decide,?_⟩) (fun _=>let ⟨t,z1,z2,z3⟩:=hv;M _ _ ⟨v,t,rfl,Same.refl _,z1,z2 _,z3⟩);intro D l;generalize i:upd H6 D (.tup [.str "at",.int 0])=J1;have W:=nw1 l i;have Y:=nw2 (K:=K) i;exact M _ _ ⟨.ref D,.at 0,rfl,W,Zw0 (k:=0) Y,congrArg some (of_decide_eq_true ((Tm.eqv _ _).symm.trans ce)),trivial,by show 1<=_;omega,by show 1<=_;omega⟩
 rintro σ8 H8 ⟨v,t9,rfl,e8,hv9,t9k,t9f,t9d,t9z⟩;obtain⟨v2,v0,hm2⟩:=at4 (a:=u1) (b:=u2) (c:=u3) (d:=u4) b2 b3;obtain⟨ta,ha,tak,taf,tad,taz⟩:=(v3 v2 hm2).keep e8.keepL;walk_at "1";refine⟨⟨by decide,by decide⟩,by decide,_,SqL.of (e8 _ _ h6),v2,v0,by decide,?_⟩;intro D l;generalize i:upd H8 D (.tup [.str "cases",x4,v,v2])=J1;have W:=nw1 l i;have Y:=nw2 (K:=K) i;refine⟨by decide,?_⟩;intro R I;generalize j:upd J1 R (.tup [.ref D,y8])=J2;have S:=nw1 I j;have q2:=nw2 (K:=K) j;have j2:=W.trans S;have e82:=e8.trans j2;have z0:=(e4.trans e6).trans e82;refine q _ _ (e2.trans (e3.trans z0)) (Zg3 (t:=.cs t4 t9 ta) (g:=g8) q2 (leK_csV.mpr ⟨D,x4,v,v2,rfl,S.sqt Y,LEK.keep hx4 (e3.trans z0).keepL,LEK.keep hv9 j2.keepL,LEK.keep ha j2.keepL⟩) (LtK.keep j3 z0.keepL) ⟨t4f,t9f,taf⟩ (by show 1+max t4.deep (max t9.deep ta.deep)<=_;omega) (by show 1+t4.size+t9.size+ta.size<=_;omega) j6 v5 ⟨_,_,t4k,t9k,tak _⟩)
theorem Xn9 {fd:zc}{k b:Nat}:Fk0 P w K mg base k f fd ps (sp_drawL K 2 0 b):=by
 have d:∀a H Q E,¬sp_drawL K 2 0 b a H Q E:=fun a H Q E h=>by
  obtain⟨c,m,r,j,i,q,n,_,_,p,o,_⟩:=h;omega
 exact⟨fun a H Q E h=>absurd h (d a H Q E),fun A e s H g l a Q E _ _ _ _ h=>absurd h (d a H Q E)⟩
theorem Wg7 {k:Nat}{f_bd0:Addr}{fd_bd0:zc}(F_bd0:Fun K "_law_made" "_law_made" (top 65) f_bd0 fd_bd0)(m_bd0:MgI mg "_law_made" f_bd0)(b_bd0:Binds K fd_bd0 pq3 [])
  {f_al0:Addr}{fd_al0:zc}(F_al0:Fun K "_law_any" "_law_any" (top 64) f_al0 fd_al0)(m_al0:MgI mg "_law_any" f_al0)(b_al0:Binds K fd_al0 pq3 [])
  {f_bk0:Addr}{fd_bk0:zc}(F_bk0:Fun K "_law_sided" "_law_sided" (top 61) f_bk0 fd_bk0)(m_bk0:MgI mg "_law_sided" f_bk0)(b_bk0:Binds K fd_bk0 pq3 [])
  {f_ap0:Addr}{fd_ap0:zc}(F_ap0:Fun K "_law_chosen" "_law_chosen" (top 62) f_ap0 fd_ap0)(m_ap0:MgI mg "_law_chosen" f_ap0)(b_ap0:Binds K fd_ap0 pq3 [])
  {f_bp0:Addr}{fd_bp0:zc}(F_bp0:Fun K "_law_used" "_law_used" (top 63) f_bp0 fd_bp0)(m_bp0:MgI mg "_law_used" f_bp0)(b_bp0:Binds K fd_bp0 pq3 [])
  (C__law_simple:Cl P w K mg base k "_law_simple" pq0 (sp_lsimpleL K)) (C__law_mix:Cl P w K mg base k "_law_mix" pq1 (sp_mix)) (C__law_size:Cl P w K mg base k "_law_size" ["_law_statement_here"] (sp_lsize K)) (C__law_lifted:Cl P w K mg base k "_law_lifted" pq11 (sp_lliftL K 30)) (C__law_leaf:Cl P w K mg base k "_law_leaf" pq5 (sp_leafL K)) (C__law_statement:Cl P w K mg base k "_law_statement" pq4 (sp_stmL K 12)) :
  ∀n,Fk0 P w K mg base (k+3*n+1) f_bd0 fd_bd0 pq3 (sp_drawL K 0 n 60):=by
 intro n
 induction n with
 |zero=>exact Xw9 (k:=k+3*0) F_bd0 (.of Xn9 m_al0 F_al0.kp b_al0) C__law_simple C__law_mix C__law_size
 |succ n ih =>
  have a:k<=k+3*n+1:=by omega
  have c:k<=k+3*n+2:=by omega
  have b:k<=k+3*n+3:=by omega
  have d:k+3*n+1<=k+3*n+2:=by omega
  have i:=Wq4 (k:=k+3*n+1) F_bk0 (.of ih m_bd0 F_bd0.kp b_bd0) (C__law_simple.up a) (C__law_mix.up a);have h:=Wr0 (k:=k+3*n+1) F_ap0 (.of ih m_bd0 F_bd0.kp b_bd0) (C__law_lifted.up a) (C__law_mix.up a) (C__law_leaf.up a);have g:=Wq0 (k:=k+3*n+1) F_bp0 (.of ih m_bd0 F_bd0.kp b_bd0) (C__law_mix.up a);have f:=Wr2 (k:=k+3*n+2) F_al0 (.of (ih.mono d) m_bd0 F_bd0.kp b_bd0) (.of i m_bk0 F_bk0.kp b_bk0) (.of h m_ap0 F_ap0.kp b_ap0) (.of g m_bp0 F_bp0.kp b_bp0) (C__law_mix.up c) (C__law_statement.up c);have e:=Xw9 (k:=k+3*n+3) F_bd0 (.of f m_al0 F_al0.kp b_al0) (C__law_simple.up b) (C__law_mix.up b) (C__law_size.up b);exact e
noncomputable def Xi9 {α:Type}(a b c d e f g h i:α):Dd->α
 | .pair=>a
 | .left=>b
 | .right=>c
 | .first=>d
 | .second=>e
 | .cases=>f
 | .fn=>g
 | .use=>h
 | .off=>i
theorem Wg6 {T:Addr}{CB:Addr}(CBB:ClsB K CB)(CA:ClsA K C0){f_bz0:Addr}{fd_bz0:zc}(F_bz0:FunT K "number_of" "number_of" (top 21) f_bz0 fd_bz0 T)(hB_number_of:∀h,K.In h->h.BuiltinsAt mg T)(v_number_of:ye≠T)(m_bz0:MgI mg "number_of" f_bz0)(k_bz0:KpI K f_bz0)(b_bz0:Binds K fd_bz0 pq17 []){f_db0:Addr}{fd_db0:zc}(F_db0:Fun K "within" "within" (top 8) f_db0 fd_db0)(m_db0:MgI mg "within" f_db0)(b_db0:Binds K fd_db0 ["statement"] []){f_cn0:Addr}{fd_cn0:zc}(F_cn0:Fun K "pieces" "pieces" (top 9) f_cn0 fd_cn0)(m_cn0:MgI mg "pieces" f_cn0)(b_cn0:Binds K fd_cn0 ["statement"] []){f_bs0:Addr}{fd_bs0:zc}(F_bs0:Fun K "folded" "folded" (top 10) f_bs0 fd_bs0)(m_bs0:MgI mg "folded" f_bs0)(b_bs0:Binds K fd_bs0 pq25 []){f_by0:Addr}{fd_by0:zc}(F_by0:Fun K "noted" "noted" (top 20) f_by0 fd_by0)(m_by0:MgI mg "noted" f_by0)(b_by0:Binds K fd_by0 pq16 []){f_cq0:Addr}{fd_cq0:zc}(F_cq0:Fun K "row_of" "row_of" (top 22) f_cq0 fd_cq0)(m_cq0:MgI mg "row_of" f_cq0)(b_cq0:Binds K fd_cq0 pq15 []){f_cg0:Addr}{fd_cg0:zc}(F_cg0:Fun K "of_pair" "of_pair" (top 23) f_cg0 fd_cg0)(m_cg0:MgI mg "of_pair" f_cg0)(b_cg0:Binds K fd_cg0 pq18 []){f_ce0:Addr}{fd_ce0:zc}(F_ce0:Fun K "of_left" "of_left" (top 24) f_ce0 fd_ce0)(m_ce0:MgI mg "of_left" f_ce0)(b_ce0:Binds K fd_ce0 pq18 []){f_ci0:Addr}{fd_ci0:zc}(F_ci0:Fun K "of_right" "of_right" (top 25) f_ci0 fd_ci0)(m_ci0:MgI mg "of_right" f_ci0)(b_ci0:Binds K fd_ci0 pq18 []){f_cc0:Addr}{fd_cc0:zc}(F_cc0:Fun K "of_first" "of_first" (top 26) f_cc0 fd_cc0)(m_cc0:MgI mg "of_first" f_cc0)(b_cc0:Binds K fd_cc0 pq18 []){f_cj0:Addr}{fd_cj0:zc}(F_cj0:Fun K "of_second" "of_second" (top 27) f_cj0 fd_cj0)(m_cj0:MgI mg "of_second" f_cj0)(b_cj0:Binds K fd_cj0 pq18 []){f_cb0:Addr}{fd_cb0:zc}(F_cb0:Fun K "of_cases" "of_cases" (top 28) f_cb0 fd_cb0)(m_cb0:MgI mg "of_cases" f_cb0)(b_cb0:Binds K fd_cb0 pq18 []){f_cd0:Addr}{fd_cd0:zc}(F_cd0:Fun K "of_fun" "of_fun" (top 29) f_cd0 fd_cd0)(m_cd0:MgI mg "of_fun" f_cd0)(b_cd0:Binds K fd_cd0 pq18 []){f_cm0:Addr}{fd_cm0:zc}(F_cm0:Fun K "of_use" "of_use" (top 30) f_cm0 fd_cm0)(m_cm0:MgI mg "of_use" f_cm0)(b_cm0:Binds K fd_cm0 pq18 []){f_cf0:Addr}{fd_cf0:zc}(F_cf0:Fun K "of_off" "of_off" (top 31) f_cf0 fd_cf0)(m_cf0:MgI mg "of_off" f_cf0)(b_cf0:Binds K fd_cf0 pq18 []){fd_ca0:zc}(F_ca0:Fun K "of_at" "of_at" (top 33) f_ca0 fd_ca0)(m_ca0:MgI mg "of_at" f_ca0)(b_ca0:Binds K fd_ca0 pq13 []){f_bu0:Addr}{fd_bu0:zc}(F_bu0:Fun K "kind_by" "kind_by" (top 34) f_bu0 fd_bu0)(m_bu0:MgI mg "kind_by" f_bu0)(b_bu0:Binds K fd_bu0 pq13 []){f_cp0:Addr}{fd_cp0:zc}(F_cp0:Fun K "put_in_front" "put_in_front" (top 35) f_cp0 fd_cp0)(m_cp0:MgI mg "put_in_front" f_cp0)(b_cp0:Binds K fd_cp0 pq14 []){f_bx0:Addr}{fd_bx0:zc}(F_bx0:Fun K "next_within" "next_within" (top 36) f_bx0 fd_bx0)(m_bx0:MgI mg "next_within" f_bx0)(b_bx0:Binds K fd_bx0 pq14 []){f_bt0:Addr}{fd_bt0:zc}(F_bt0:Fun K "kind" "kind" (top 37) f_bt0 fd_bt0)(m_bt0:MgI mg "kind" f_bt0)(b_bt0:Binds K fd_bt0 ["term","given"] []){f_ad0:Addr}{fd_ad0:zc}(F_ad0:Fun K "__init__" "Book.__init__" Xr4 f_ad0 fd_ad0)(Mk_Book:Mk K CB f_ad0)(m_ac0:MgI mg "Book" CB)(b_ad0:Binds K fd_ad0 ["self"] []){fd_ab0:zc}(F_ab0:Fun K "__init__" "Asked.__init__" Xr5 f_ab0 fd_ab0)(Mk_Asked:Mk K C0 f_ab0)(m_aa0:MgI mg "Asked" C0)(b_ab0:Binds K fd_ab0 pq23 [])(m_aj0:MgI mg "PAIRED" aPAIRED)(t_PAIRED:∀H,SqT K H aPAIRED [.str "both",.str "one",.str "then"]){aLOW:Addr}(m_LOW:MgI mg "LOW" aLOW)(t_LOW:∀H,SqT K H aLOW [.str "low"])(m_af0:MgI mg "INNER" aINNER)(D_INNER:KDict K w aINNER (innV aT))(hI:Inn K aT){aDEEDS:Addr}(m_ae0:MgI mg "DEEDS" aDEEDS)(D_DEEDS:KDict K w aDEEDS (tblD (Xi9 f_cg0 f_ce0 f_ci0 f_cc0 f_cj0 f_cb0 f_cd0 f_cm0 f_cf0)))(m_len:mg "len"=none)(m_reversed:mg "reversed"=none):
  Fk0 P w K mg base 7 f_bt0 fd_bt0 ["term","given"] (sp_kindT K ⟨T,Zd3⟩):=by
 have u:∀(A:BkA) (_:A.C=CB) (b:W.Frag) (base:Heap),KLe K b->FnOk P w b mg base CX0 1 f_by0 fd_by0 pq16 (sp_noted A):=fun A e b base a=>Wp2 (k:=0) (A0:=A) (e▸⟨CBB.c.le a,CBB.r.le a,CBB.s.le a,CBB.n.le a⟩) (F_by0.le a) m_aj0 (fun H=>(t_PAIRED H).le a) m_len
 have m:∀(A:BkA),A.C=CB->Fk0 P w K mg base 4 f_bz0 fd_bz0 pq17 (sp_number A ⟨T,Zd3⟩):=fun A e =>
  Wp1 (j:=1) F_bz0 hB_number_of v_number_of m_bs0 F_bs0.kp b_bs0 (u A e) m_by0 (fun b a=>(F_by0.le a).kp) b_by0 fun b base n U S R O a D z I B y G =>
   Xb9 (k:=2) (sfB A n) (F_bs0.le a) (.of (Wo0 (k:=1) (F_cn0.le a) (.of (Wm9 (k:=0) (F_db0.le a) m_aj0 (fun H=>(t_PAIRED H).le a)) m_db0 (F_db0.le a).kp (b_db0.le a))) m_cn0 (F_cn0.le a).kp (b_cn0.le a)) m_aj0 (fun H=>(t_PAIRED H).le a) m_reversed D z I B y G
 have o:KLe K K:=fun _ _ h=>h;have q:∀A:BkA,A.C=CB->Fk0 P w K mg base 4 f_by0 fd_by0 pq16 (sp_noted A):=fun A e=>(u A e K base o).mono (by decide);have p:∀A:BkA,A.C=CB->Fk0 P w K mg base 4 f_cq0 fd_cq0 pq15 (sp_row A):=fun A e=>(Wn7 (k:=0) (A0:=A) (e▸CBB) F_cq0).mono (by decide)
 have M:∀A:BkA,A.C=CB->∀d:Dd,Fk0 P w K mg base 5 (Xi9 f_cg0 f_ce0 f_ci0 f_cc0 f_cj0 f_cb0 f_cd0 f_cm0 f_cf0 d) (Xi9 fd_cg0 fd_ce0 fd_ci0 fd_cc0 fd_cj0 fd_cb0 fd_cd0 fd_cm0 fd_cf0 d) ["book","term","kinds"] (sp_deed K A ⟨T,Zd3⟩ d):=fun A e d=>by
  have l:=q A e;have g:=m A e;have i:=p A e
  cases d with
  |pair=>exact Wo4 (k:=4) F_cg0 (.of l m_by0 F_by0.kp b_by0)
  |left=>exact Wo6 (k:=4) F_ce0 (.of i m_cq0 F_cq0.kp b_cq0)
  |right=>exact Wo3 (k:=4) F_ci0 (.of i m_cq0 F_cq0.kp b_cq0)
  |first=>exact Wo8 (k:=4) F_cc0 (.of l m_by0 F_by0.kp b_by0) (.of g m_bz0 k_bz0 b_bz0)
  |second=>exact Wo2 (k:=4) F_cj0 (.of l m_by0 F_by0.kp b_by0) (.of g m_bz0 k_bz0 b_bz0)
  |cases=>exact Wo9 (k:=4) F_cb0
  |fn=>exact Wo7 (k:=4) F_cd0 (.of l m_by0 F_by0.kp b_by0) (.of g m_bz0 k_bz0 b_bz0)
  |use=>exact Wo1 (k:=4) F_cm0 (.of i m_cq0 F_cq0.kp b_cq0)
  |off=>exact Wo5 (k:=4) F_cf0 (.of i m_cq0 F_cq0.kp b_cq0) (.of g m_bz0 k_bz0 b_bz0) m_LOW t_LOW
 have x:∀d:Dd,zan K (.ref (Xi9 f_cg0 f_ce0 f_ci0 f_cc0 f_cj0 f_cb0 f_cd0 f_cm0 f_cf0 d))=true:=fun d=>match d with
  | .pair=>F_cg0.kp
  | .left=>F_ce0.kp
  | .right=>F_ci0.kp
  | .first=>F_cc0.kp
  | .second=>F_cj0.kp
  | .cases=>F_cb0.kp
  | .fn=>F_cd0.kp
  | .use=>F_cm0.kp
  | .off=>F_cf0.kp
 have F:∀d:Dd,Binds K (Xi9 fd_cg0 fd_ce0 fd_ci0 fd_cc0 fd_cj0 fd_cb0 fd_cd0 fd_cm0 fd_cf0 d) ["book","term","kinds"] []:=fun d=>match d with
  | .pair=>b_cg0
  | .left=>b_ce0
  | .right=>b_ci0
  | .first=>b_cc0
  | .second=>b_cj0
  | .cases=>b_cb0
  | .fn=>b_cd0
  | .use=>b_cm0
  | .off=>b_cf0
 have L:∀A:BkA,A.C=CB->Fk0 P w K mg base 6 f_bu0 fd_bu0 pq13 (sp_kindby K C0 A ⟨T,Zd3⟩):=fun A e =>
  Wp6 (k:=5) CA F_bu0 (.of (Wp0 (k:=4) CA F_ca0 (.of (m A e) m_bz0 k_bz0 b_bz0) m_len) m_ca0 F_ca0.kp b_ca0) m_ae0 D_DEEDS (M A e) x F
 have v:Fk0 P w K mg base 4 f_ab0 fd_ab0 pq23 (sp_ainit C0):=(Wr4 (k:=0) CA.c CA.t CA.f CA.k F_ab0).mono (by decide);have N:Fk0 P w K mg base 5 f_ad0 fd_ad0 ["self"] (sp_binit CB):=(Wr3 (k:=0) CBB F_ad0).mono (by decide)
 have J:∀A:BkA,A.C=CB->Fk0 P w K mg base 6 f_bx0 fd_bx0 pq14 (sp_next K C0 A ⟨T,Zd3⟩):=fun A e =>
  Wp3 (k:=4) CA F_bx0 (.of (Wn8 (k:=4) CA F_cp0 (.of (m A e) m_bz0 k_bz0 b_bz0) (.of (p A e) m_cq0 F_cq0.kp b_cq0) m_len) m_cp0 F_cp0.kp b_cp0) Mk_Asked v m_aa0 b_ab0 m_af0 D_INNER hI m_len
 exact Wp7 (k:=5) CBB CA F_bt0 (.of (Xy7 fun A=>J A.1 A.2) m_bx0 F_bx0.kp b_bx0) (.of (Xy7 fun A=>L A.1 A.2) m_bu0 F_bu0.kp b_bu0) Mk_Book N m_ac0 b_ad0 Mk_Asked (v.mono (by decide)) m_aa0 b_ab0 m_af0 D_INNER hI m_len
theorem Xl2 {fd:zc}{k:Nat}:Fk0 P w K mg base k f fd ps (sp_lkQ K 0):=by
 have b:∀a H Q E,¬sp_lkQ K 0 a H Q E:=fun a H Q E h=>by
  obtain⟨v,t,g,j,i,Γ,_,_,_,h,_⟩:=h;exact absurd h (by cases t<;>simp[Te.deep]<;>omega)
 exact⟨fun a H Q E h=>absurd h (b a H Q E),fun A c s H d e a Q E _ _ _ _ h=>absurd h (b a H Q E)⟩
theorem Wg8 {f_ay0:Addr}{fd_ay0:zc}(F_ay0:Fun K "_law_kind" "_law_kind" (top 69) f_ay0 fd_ay0)(m_ay0:MgI mg "_law_kind" f_ay0)(b_ay0:Binds K fd_ay0 pq10 [])
  {f_ba0:Addr}{fd_ba0:zc}(F_ba0:Fun K "_law_kind_of_two" "_law_kind_of_two" (top 68) f_ba0 fd_ba0)(m_ba0:MgI mg "_law_kind_of_two" f_ba0)(b_ba0:Binds K fd_ba0 pq10 [])
  {f_az0:Addr}{fd_az0:zc}(F_az0:Fun K "_law_kind_of_cases" "_law_kind_of_cases" (top 67) f_az0 fd_az0)(m_az0:MgI mg "_law_kind_of_cases" f_az0)(b_az0:Binds K fd_az0 pq10 [])(m_len:mg "len"=none)(m_int:mg "int"=none) :
  ∀n:Nat,Fk0 P w K mg base (2*n+1) f_ay0 fd_ay0 pq10 (sp_lkQ K n):=by
 intro n
 induction n with
 |zero=>exact Xl2
 |succ n ih =>
  have l:2*n+1<=2*n+2:=Nat.le_succ _;exact Wq8 (k:=2*n+2) F_ay0 (ih.mono l) m_ay0 F_ay0.kp b_ay0 (.of (Wq6 (k:=2*n+1) F_ba0 (.of ih m_ay0 F_ay0.kp b_ay0)) m_ba0 F_ba0.kp b_ba0) (.of (Wq7 (k:=2*n+1) F_az0 (.of ih m_ay0 F_ay0.kp b_ay0)) m_az0 F_az0.kp b_az0) m_len m_int
theorem _root_.L2.FunT.le (k:KLe K K'){fd:FuncData}(F:FunT K x qual st f fd T):FunT K' x qual st f fd T:=by
 obtain⟨⟨l,j,m,g,i,s,c,r,b,e,d,n,q⟩,t⟩:=F;refine⟨⟨l,j,m,g,i,s,c,r,b,e,k _ _ d,Yc7 k n,fun h p=>q h fun a o e=>p a o (k a o e)⟩,?_⟩;exact Zo7 (k _ _ d)
theorem Yv1 {fd_br0:zc}(F_br0:FunT K "changed" "changed" (top 16) f_br0 fd_br0 T)(hB:∀h,K.In h->h.BuiltinsAt mg T)(hT:ye≠T)(m_af0:MgI mg "INNER" aINNER)(D_INNER:KDict K w aINNER (innV aT))(hI:Inn K aT)(m_reversed:mg "reversed"=none)(m_range:mg "range"=none)(m_len:mg "len"=none)(m_list:mg "list"=none)(m_zip:mg "zip"=none)(m_tuple:mg "tuple"=none){f_cr0:Addr}{fd_cr0:zc}(F_cr0:Fun K "standing" "standing" (top 13) f_cr0 fd_cr0)(m_cr0:MgI mg "standing" f_cr0)(b_cr0:Binds K fd_cr0 pq32 []){fd_da0:zc}(F_da0:Fun K "with_inner" "with_inner" (top 15) f_da0 fd_da0)(m_da0:MgI mg "with_inner" f_da0)(b_da0:Binds K fd_da0 pq20 []){fd_ct0:zc}(F_ct0:Fun K "term_folded" "term_folded" (top 14) f_ct0 fd_ct0)(m_ct0:MgI mg "term_folded" f_ct0)(b_ct0:Binds K fd_ct0 pq21 []):
  GCh P w K mg (j+1) T f_br0 fd_br0:=fun x f J y z v s c g q l p =>
 Wp8 (j:=j+1) (F_br0.le c) (fun h n=>hB h fun a o e=>n a o (c a o e)) hT g
  (.of (Xj8 (k:=j+2) (F_cr0.le c) m_af0 (D_INNER.le c) (hI.le c) m_reversed) m_cr0 (F_cr0.le c).kp (b_cr0.le c))
  (fun i f d=>Xw6 (k:=j) (F_da0.le (c.trans d)) m_af0 (D_INNER.le (c.trans d)) (hI.le (c.trans d)) m_list m_zip m_tuple) m_da0 (fun i d=>(F_da0.le (c.trans d)).kp) (b_da0.le c)
  m_ct0 (F_ct0.le c).kp (b_ct0.le c)
  (fun i f J R t u r d g m G k b=>Xw7 (k:=j+2) g m (F_ct0.le (c.trans d)) m_af0 (D_INNER.le (c.trans d)) (hI.le (c.trans d)) m_reversed m_range m_len G k b)
  q l p
theorem Wg5 {T4 T5:Addr}(hN:[T1,T2,T3,T4,T5].Nodup){fd_br0:zc}(F_br0:FunT K "changed" "changed" (top 16) f_br0 fd_br0 T1)(hB_changed:∀h,K.In h->h.BuiltinsAt mg T1)(v_changed:ye≠T1)(m_br0:MgI mg "changed" f_br0)(b_br0:Binds K fd_br0 pq30 []){f_bw0:Addr}{fd_bw0:zc}(F_bw0:FunT K "lifted" "lifted" (top 41) f_bw0 fd_bw0 T2)(hB_lifted:∀h,K.In h->h.BuiltinsAt mg T2)(v_lifted:ye≠T2)(m_bw0:MgI mg "lifted" f_bw0)(b_bw0:Binds K fd_bw0 ["term","by"] []){f_co0:Addr}{fd_co0:zc}(F_co0:FunT K "put" "put" (top 42) f_co0 fd_co0 T3)(hB_put:∀h,K.In h->h.BuiltinsAt mg T3)(v_put:ye≠T3)(m_co0:MgI mg "put" f_co0)(b_co0:Binds K fd_co0 ["term","other"] []){f_cs0:Addr}{fd_cs0:zc}(F_cs0:FunT K "term_deep" "term_deep" (top 39) f_cs0 fd_cs0 T4)(hB_term_deep:∀h,K.In h->h.BuiltinsAt mg T4)(v_term_deep:ye≠T4)(m_cs0:MgI mg "term_deep" f_cs0)(b_cs0:Binds K fd_cs0 pq32 []){f_cv0:Addr}{fd_cv0:zc}(F_cv0:FunT K "turned" "turned" (top 51) f_cv0 fd_cv0 T5)(hB_turned:∀h,K.In h->h.BuiltinsAt mg T5)(v_turned:ye≠T5)(m_cv0:MgI mg "turned" f_cv0)(b_cv0:Binds K fd_cv0 pq29 []){f_cr0:Addr}{fd_cr0:zc}(F_cr0:Fun K "standing" "standing" (top 13) f_cr0 fd_cr0)(m_cr0:MgI mg "standing" f_cr0)(b_cr0:Binds K fd_cr0 pq32 []){fd_da0:zc}(F_da0:Fun K "with_inner" "with_inner" (top 15) f_da0 fd_da0)(m_da0:MgI mg "with_inner" f_da0)(b_da0:Binds K fd_da0 pq20 []){fd_ct0:zc}(F_ct0:Fun K "term_folded" "term_folded" (top 14) f_ct0 fd_ct0)(m_ct0:MgI mg "term_folded" f_ct0)(b_ct0:Binds K fd_ct0 pq21 []){f_cw0:Addr}{fd_cw0:zc}(F_cw0:Fun K "turned_itself" "turned_itself" (top 48) f_cw0 fd_cw0)(m_cw0:MgI mg "turned_itself" f_cw0)(b_cw0:Binds K fd_cw0 pq32 []){f_cu0:Addr}{fd_cu0:zc}(F_cu0:Fun K "term_parts" "term_parts" (top 38) f_cu0 fd_cu0)(m_cu0:MgI mg "term_parts" f_cu0)(b_cu0:Binds K fd_cu0 pq32 [])(m_af0:MgI mg "INNER" aINNER)(D_INNER:KDict K w aINNER (innV aT))(hI:Inn K aT)(m_reversed:mg "reversed"=none)(m_range:mg "range"=none)(m_len:mg "len"=none)(m_list:mg "list"=none)(m_zip:mg "zip"=none)(m_tuple:mg "tuple"=none)(m_sorted:mg "sorted"=none)(m_max:mg "max"=none){aNoTurning aLarge:Addr}(m_ai0:MgI mg "NoTurning" aNoTurning)(x_NoTurning:XCls K aNoTurning)(m_Large:MgI mg "Large" aLarge)(x_Large:XCls K aLarge){k1 k2:Tok}(m_ah0:mg "MOST_PARTS"=some (.int 1000 k1))(m_ag0:mg "MOST_DEEP"=some (.int 120 k2))(C_turning_places:Cl P w K mg base 10 "turning_places" ["pieces"] (sp_tplacesL K)):
  FnOk P w K mg base (CXe P w) 11 f_cv0 fd_cv0 pq29 (sp_turnedL K (tb5 T1 T2 T3 T4 T5) aNoTurning aLarge):=by
 have f:∀(d:W.Frag) (base:Heap) (k:Nat),KLe K d->FnOk P w d mg base CX0 (k+1) f_cr0 fd_cr0 pq32 (sp_standingL d):=fun d base k c=>Xj8 (F_cr0.le c) m_af0 (D_INNER.le c) (hI.le c) m_reversed;have m:∀(d:W.Frag) (j:Nat),KLe K d->GCh P w d mg (j+1) T1 f_br0 fd_br0:=fun d j c=>Yv1 (F_br0.le c) (fun h g=>hB_changed h fun a o e=>g a o (c a o e)) v_changed m_af0 (D_INNER.le c) (hI.le c) m_reversed m_range m_len m_list m_zip m_tuple (F_cr0.le c) m_cr0 (b_cr0.le c) (F_da0.le c) m_da0 (b_da0.le c) (F_ct0.le c) m_ct0 (b_ct0.le c);have l:=hN;simp only[yaf,zd,zq,or_false,not_or] at l;obtain⟨⟨i,s,_,_⟩,⟨r,_,_⟩,_,_,_⟩:=l
 have q:∀(d:W.Frag) (base:Heap),KLe K d->FnOk P w d mg base CX0 7 f_co0 fd_co0 ["term","other"] (sp_putL d T1 T2 T3 Zc1 Zd7 Zi3):=fun d base c =>
  Wn9 (j:=0) (F_co0.le c) (fun h g=>hB_put h fun a o e=>g a o (c a o e)) v_put (fun z=>s z.symm) (fun z=>r z.symm) i m_br0 (F_br0.le c).kp (b_br0.le c) (m d 2 c)
   (.of (f d base 5 c) m_cr0 (F_cr0.le c).kp (b_cr0.le c))
   (.of (Wp4 (j:=1) (F_bw0.le c) (fun h g=>hB_lifted h fun a o e=>g a o (c a o e)) v_lifted (fun z=>i z.symm) m_br0 (F_br0.le c).kp (b_br0.le c) (m d 1 c)) m_bw0 (F_bw0.le c).kp (b_bw0.le c)) m_sorted
 exact Wn4 (j:=8) hN F_cv0 hB_turned v_turned m_ai0 x_NoTurning m_Large x_Large m_ah0 m_ag0
  (.of (f K base 9 fun _ _ z=>z) m_cr0 F_cr0.kp b_cr0) C_turning_places
  (.of (Wn5 (k:=9) F_cu0 (.of (f K base 8 fun _ _ z=>z) m_cr0 F_cr0.kp b_cr0) m_len) m_cu0 F_cu0.kp b_cu0)
  (.of (Wn6 (j:=7) F_cs0 hB_term_deep v_term_deep (.of (f K base 8 fun _ _ z=>z) m_cr0 F_cr0.kp b_cr0) m_ct0 F_ct0.kp b_ct0
   (fun x base J R u v t k2 p n G k b=>Xw7 (k:=8) p n (F_ct0.le k2) m_af0 (D_INNER.le k2) (hI.le k2) m_reversed m_range m_len G k b) m_max) m_cs0 F_cs0.kp b_cs0)
  (fun d base c=>Xw6 (k:=7) (F_da0.le c) m_af0 (D_INNER.le c) (hI.le c) m_list m_zip m_tuple) m_da0 (fun d c=>(F_da0.le c).kp) b_da0
  (fun d base c=>Wn3 (k:=7) (F_cw0.le c) (.of (q d base c) m_co0 (F_co0.le c).kp (b_co0.le c))) m_cw0 (fun d c=>(F_cw0.le c).kp) b_cw0
  m_ct0 F_ct0.kp b_ct0
  (fun x base y J R u v t k2 p n G k b=>Zo0 (k:=9) p n (F_ct0.le k2) m_af0 (D_INNER.le k2) (hI.le k2) m_reversed m_range m_len G k b) m_len
theorem sc_bc0:FnScope ["_law_term","_law_own","_law_rest"] ["_law_term","_law_own"] (Za3 (top 58)):=scm (by decide +kernel)
theorem Wq5 {k:Nat}{f_bc0:Addr}{fd_bc0:zc}(F_bc0:Fun K "_law_lifted" "_law_lifted" (top 58) f_bc0 fd_bc0)(G_bc0:Fk0 P w K mg base k f_bc0 fd_bc0 pq11 (sp_lliftL K n))(m_bc0:MgI mg "_law_lifted" f_bc0)(k_bc0:KpI K f_bc0)(b_bc0:Binds K fd_bc0 pq11 [])(m_int:mg "int"=none):Fk0 P w K mg base (k+1) f_bc0 fd_bc0 pq11 (sp_lliftL K (n+1)):=by
 refine F_bc0.okG sc_bc0 fun q6 A q5 s H vs Q E J h Gx q4=>?_;obtain⟨v,t,f,G,rfl,N,F,hd,q⟩:=h
 refine q4 _ ⟨_,(Za2 (Zd1 (ptcM (Ze0) (pxtM (pvM 0) Za4) Zb1)
  (Za7 (Zb2 (pxlM (Ze1 (Za0 (pvM 0) (Za0 (Zb5 (Za0 Zb1 (Za0 (Zb6 Ze4 (pxtM (pvM 0) Za4) Za4) Za1))) Za1))) (Zn9 Yc9 (by exact rfl) m_int Yk9 (Za0 (Yi1 (Xj5) (pxtM (pvM 0) Za4) (pvM 1) (Yn8 _)) Za1)))))
  Zb4)
 (Za2 (Zd1 (ptcM (Ze0) (pxtM (pvM 0) Za4) Zb1)
  (Za7 (Zb2 (Zb5 (Za0 Zb1 (Za0 (pxtM (pvM 0) Za4) (Za0 (pcl G_bc0 J m_bc0 k_bc0 b_bc0 (Za0 (pxtM (pvM 0) Za4) (Za0 (Zb6 Ze4 (pvM 1) Za4) Za1))) Za1))))))
  Zb4)
 (Za2 (Zd1 (ptcM (Ze0) (pxtM (pvM 0) Za4) Zb1)
  (Za2 (pst 2 sc_bc0.nd (Zb5 (Za0 (pcl G_bc0 J m_bc0 k_bc0 b_bc0 (Za0 (pxtM (pvM 0) Za4) (Za0 (Zb6 Ze4 (pvM 1) Za4) Za1))) (Za0 (pcl G_bc0 J m_bc0 k_bc0 b_bc0 (Za0 (pxtM (pvM 0) Za4) (Za0 (Zb6 Ze4 (pvM 1) Za4) Za1))) Za1))))
 (Za7 (Zb2 (Zb6 Xj7 (Zb5 (Za0 Zb1 (Za0 (pcl G_bc0 J m_bc0 k_bc0 b_bc0 (Za0 (pxtM (pvM 0) Za4) (Za0 (pvM 1) Za1))) Za1))) (pvM 2)))))
  Zb4)
 (Za2 (Zd1 (Zj4 (Zj1) (pxtM (pvM 0) Za4) (Zb5 (Za0 Zb1 (Za0 Zb1 Za1))) (by with_unfolding_all rfl))
  (Za7 (Zb2 (Zb5 (Za0 (pxtM (pvM 0) Za4) (Za0 (pcl G_bc0 J m_bc0 k_bc0 b_bc0 (Za0 (pxtM (pvM 0) Za4) (Za0 (pvM 1) Za1))) (Za0 (pcl G_bc0 J m_bc0 k_bc0 b_bc0 (Za0 (pxtM (pvM 0) Za4) (Za0 (pvM 1) Za1))) Za1))))))
  Zb4)
 (Za7 (Zb2 (Zb6 Xj7 (Zb5 (Za0 (pxtM (pvM 0) Za4) (Za0 (pcl G_bc0 J m_bc0 k_bc0 b_bc0 (Za0 (pxtM (pvM 0) Za4) (Za0 (pvM 1) Za1))) Za1))) (Zy9 Wi4 (pvM 0) (Yh8 Za4) Yh9)))))))),?_⟩
 walk_at "1"
 cases t with
 |«at» k0 =>
  obtain⟨p,rfl,d⟩:=leK_atV.mp N;refine⟨p,rfl,_,d,_,rfl,rfl,?_⟩;rw[if_pos (by rfl)];refine⟨p,rfl,_,d,_,rfl,_,rfl,by decide,fun L C=>⟨by decide,fun Y B=>?_⟩⟩;have D:=(Za6 C (.tup [.str "at",.int ((k0:Int)+1)])).trans (Za6 B (.lst [.ref p,.ref L]));refine⟨p,rfl,_,D.sqt d,_,rfl,_,rfl,.inr ⟨_,SqL.of Za5,?_⟩⟩
  by_cases c:f<=k0
  ·rw[if_pos (by omega)]
   refine⟨_,rfl,q _ _ D ?_⟩;show LEK K _ _ (.at (if f<=k0 then k0+1 else k0));rw[if_pos c];exact leK_atV.mpr ⟨L,rfl,(Ze3 B).k _ _ (.inl (.inl Za5))⟩
  ·rw[if_neg (by omega)]
   refine⟨_,rfl,q _ _ D ?_⟩;show LEK K _ _ (.at (if f<=k0 then k0+1 else k0));rw[if_neg c];exact LEK.keep N D.keepL
 |one u a ss =>
  obtain⟨p,x,O,rfl,d,I,T⟩:=leK_oneV.mp N
  have q2:a.deep<=n:=by have:(Te.one u a ss).deep=1+a.deep:=rfl;omega
  refine⟨p,rfl,_,d,_,Zc0 (j:=0) rfl,rfl,?_⟩;rw[if_neg (by cases u<;>decide)];refine⟨p,rfl,_,d,_,Zc0 (j:=0) rfl,rfl,?_⟩;rw[if_neg (by cases u<;>decide)];refine⟨p,rfl,_,d,_,Zc0 (j:=0) rfl,rfl,?_⟩;rw[if_neg (by cases u<;>decide)];refine⟨p,rfl,_,d,_,Zc0 (j:=0) rfl,by decide,fun L C=>⟨_,.inr (.inl (.inl Za5)),rfl,rfl,?_⟩⟩;have i:=Za6 C (.tup [.str "pair",.str "use"]);rw[if_neg yi,if_neg (by cases u<;>decide)];refine⟨p,rfl,_,i.sqt d,_,Zc0 (j:=0) rfl,p,rfl,_,i.sqt d,_,Zc0 (j:=1) rfl,x,a,f,G,rfl,LEK.keep I i.keepL,F.1,q2,fun m H1 e g=>?_⟩
  have lr:O.length<=1:=by
   rw[zk T,F.2.1]
   cases u<;>decide
  refine⟨by decide,fun Y B=>⟨p,rfl,_,(Za6 B _).sqt (e.sqt (i.sqt d)),Xv1 _ _ _,fun p4 h4=>?_⟩⟩;rw[cut2];have s3:=Za6 B (.tup [.str u.str,m]);have l:=Za6 h4 (.tup O);have D:=((i.trans e).trans s3).trans l;refine⟨_,l.sqt (.inl (.inl Za5)),_,.inl (.inl Za5),by simp,zv (Zd9 (by show 2+O.length<=_;omega)),fun z=>q _ _ D ?_,fun _ p5 V=>q _ _ (D.trans (Za6 V _)) ?_⟩
  ·have q0:ss=[]:=by
    have:=zk T;rw[z] at this;exact ycr.mp this.symm
   subst q0;exact leK_oneV.mpr ⟨Y,m,[],rfl,l.sqt (.inl (.inl Za5)),LEK.keep g (s3.trans l).keepL,.nil⟩
  ·have M:=Ze3 (K:=K) (o:=.tup ([.str u.str,m]++O)) V
   exact leK_oneV.mpr ⟨p5,m,O,rfl,.inl (.inl Za5),LEK.keep g ((s3.trans l).keepL.trans M),Xr1 (D.keepL.trans M) T⟩
 |two u a b =>
  obtain⟨p,x,y,rfl,d,I,S⟩:=leK_twoV.mp N;have ed:(Te.two u a b).deep=1+max a.deep b.deep:=rfl;refine⟨p,rfl,_,d,_,rfl,rfl,?_⟩;rw[if_neg (by cases u<;>decide)];refine⟨p,rfl,_,d,_,rfl,rfl,?_⟩;rw[if_neg (by cases u<;>decide)];refine⟨p,rfl,_,d,_,rfl,rfl,?_⟩;rw[if_neg (by cases u<;>decide)];refine⟨p,rfl,_,d,_,rfl,by decide,fun L C=>⟨_,.inr (.inl (.inl Za5)),rfl,rfl,?_⟩⟩;have i:=Za6 C (.tup [.str "pair",.str "use"]);rw[if_neg yi,if_pos (by cases u<;>decide)];refine⟨p,rfl,_,i.sqt d,_,rfl,p,rfl,_,i.sqt d,_,rfl,x,a,f,G,rfl,LEK.keep I i.keepL,F.1,by omega,fun m H1 e g=>⟨p,rfl,_,e.sqt (i.sqt d),_,rfl,y,b,f,G,rfl,LEK.keep S (i.trans e).keepL,F.2,by omega,fun R H2 W U=>⟨by decide,fun Y B=>q _ _ (((i.trans e).trans W).trans (Za6 B _)) ?_⟩⟩⟩;exact leK_twoV.mpr ⟨Y,m,R,rfl,.inl (.inl Za5),LEK.keep g (W.trans (Za6 B _)).keepL,LEK.keep U (Ze3 B)⟩
 |fn s a =>
  obtain⟨p,x,y,rfl,d,I,S⟩:=leK_fnV.mp N;have ed:(Te.fn s a).deep=1+a.deep:=rfl;refine⟨p,rfl,_,d,_,rfl,rfl,?_⟩;rw[if_neg (by decide)];refine⟨p,rfl,_,d,_,rfl,rfl,?_⟩;rw[if_pos (by rfl)];refine⟨p,rfl,_,d,_,rfl,p,rfl,_,d,_,rfl,y,a,f+1,G,rfl,S,F.2,by omega,fun r H1 e g=>⟨by decide,fun L C=>q _ _ (e.trans (Za6 C _)) ?_⟩⟩;exact leK_fnV.mpr ⟨L,x,r,rfl,.inl (.inl Za5),LtK.keep I (e.trans (Za6 C _)).keepL,LEK.keep g (Ze3 C)⟩
 |cs a b c =>
  refine hid fun Gz q3=>?_;obtain⟨p,x,y,z,rfl,d,I,S,hz⟩:=leK_csV.mp N;refine q3 ?_;have ed:(Te.cs a b c).deep=1+max a.deep (max b.deep c.deep):=rfl;refine⟨p,rfl,_,d,_,rfl,rfl,?_⟩;rw[if_neg (by decide)];refine⟨p,rfl,_,d,_,rfl,rfl,?_⟩;rw[if_neg (by decide)];refine⟨p,rfl,_,d,_,rfl,rfl,?_⟩;rw[if_pos (by rfl)];refine⟨p,rfl,_,d,_,rfl,y,b,f+1,G,rfl,S,F.2.1,by omega,fun m H1 e g=>⟨p,rfl,_,e.sqt d,_,rfl,z,c,f+1,G,rfl,LEK.keep hz e.keepL,F.2.2,by omega,fun R H2 W U=>?_⟩⟩;refine⟨by decide,fun p1 h1=>?_⟩;have X:=(e.trans W).trans (Za6 h1 (.tup [m,R]));refine⟨p,rfl,_,X.sqt d,_,rfl,x,a,f,G,rfl,LEK.keep I X.keepL,F.1,by omega,fun r0 H3 Z q1=>⟨by decide,fun p4 h4=>?_⟩⟩;have l:=Za6 h4 (.tup [.str "cases",r0]);refine⟨_,.inl (.inl Za5),_,l.sqt (Z.sqt (.inl (.inl Za5))),by simp,by show 4<=zi;decide,fun z=>absurd z (by simp),fun _ p5 V=>q _ _ (((X.trans Z).trans l).trans (Za6 V _)) ?_⟩;have M:=Ze3 (K:=K) (o:=.tup [.str "cases",r0,m,R]) V;exact leK_csV.mpr ⟨p5,r0,m,R,rfl,.inl (.inl Za5),LEK.keep q1 (l.keepL.trans M),LEK.keep g ((W.trans (Za6 h1 _)).keepL.trans ((Z.trans l).keepL.trans M)),LEK.keep U ((Za6 h1 _).keepL.trans ((Z.trans l).keepL.trans M))⟩
theorem Xc6 {fd:zc}{k:Nat}(hl:ps.length=2):Fk0 P w K mg base k f fd ps (sp_lliftL K 0):=by
 refine⟨fun d H Q E h=>?_,fun A b s H g i d Q E j m l r a=>?_⟩
 ·obtain⟨v,t,f,c,rfl,_⟩:=h
  exact hl.symm
 ·obtain⟨v,t,f,c,_,_,_,e,_⟩:=a
  exact absurd e (by cases t<;>simp[Te.deep]<;>omega)
theorem Xp8 {f_bc0:Addr}{fd_bc0:zc}(F_bc0:Fun K "_law_lifted" "_law_lifted" (top 58) f_bc0 fd_bc0)(m_bc0:MgI mg "_law_lifted" f_bc0)(b_bc0:Binds K fd_bc0 pq11 [])(m_int:mg "int"=none):∀n,Fk0 P w K mg base n f_bc0 fd_bc0 pq11 (sp_lliftL K n)
 | 0=>Xc6 rfl
 |n+1=>Wq5 F_bc0 (Xp8 F_bc0 m_bc0 b_bc0 m_int n) m_bc0 F_bc0.kp b_bc0 m_int
theorem Wg4 {l:W.OpenLaw}{fa bm:Addr}(X:K.In h)(G:h.Ns ye mg)(hfa:MgI mg "law" fa)(E:Hd.obsK pg ask K=Hd.valK pg ask w.params)(D:Hd.chk pg cask K=true)(E2:Hd.iniK pg mask K=Hd.iniV pg mask)(D2:Hd.chkM pg mask K=true)(hc:Hd.codesOk pg tas K=true)(hIn:Hd.inSeen K "INNER"=Hd.inWant w.params Hd.innK)(hTr:ut=true->Hd.trSeen K "TURNING"=Hd.trWant w.params Hd.trK)(hNd:(Hd.tabs pg tas K).Nodup)(hPl:Hd.plK pg pls K=Hd.plV pg pls)(hblt:BltK K mg bm)(nT:∀T∈Hd.tabs pg tas K,bm≠T):
  ∃fd:zc,(∀(s:Shared) (v:Value),BindsTo s fd ⟨[v],[]⟩ [("_law_script",v)])/\∀base:Heap,K.In base->base.Ns ye mg->FnOk l.prog w K mg base CX0 181 fa fd ["_law_script"] ((fun K=>sp_law54h K ⟨(Hd.tabAt K "number_of"),Zd3⟩ (Hd.tabAt K "changed") (Hd.tabAt K "lifted") (Hd.tabAt K "put") (Hd.tabAt K "term_deep") (Hd.tabAt K "turned")) K):=by
 obtain⟨f_be0,fd_be0,q,v8,t,u⟩:=(show Df K mg "_law_mix" (top 53) pq1 from Hd.df2 X G E 53).ex;obtain⟨f_bb0,fd_bb0,y7,v9,y9,v5⟩:=(show Df K mg "_law_leaf" (top 56) pq5 from Hd.df2 X G E 56).ex;obtain⟨f_bo0,fd_bo0,F,F_bo0,q6,I⟩:=(show Df K mg "_law_statement" (top 57) pq4 from Hd.df3 X G E 57).ex;obtain⟨f_bc0,fd_bc0,y6,F_bc0,k_bc0,v4⟩:=(show Df K mg "_law_lifted" (top 58) pq11 from Hd.df2 X G E 58).ex;obtain⟨f_bk0,fd_bk0,m_bk0,F_bk0,k_bk0,b_bk0⟩:=(show Df K mg "_law_sided" (top 61) pq3 from Hd.df4 X G E 61).ex;obtain⟨f_ap0,fd_ap0,m_ap0,F_ap0,k_ap0,b_ap0⟩:=(show Df K mg "_law_chosen" (top 62) pq3 from Hd.df4 X G E 62).ex;obtain⟨f_bp0,fd_bp0,m_bp0,F_bp0,k_bp0,b_bp0⟩:=(show Df K mg "_law_used" (top 63) pq3 from Hd.df4 X G E 63).ex;obtain⟨f_al0,fd_al0,m_al0,F_al0,k_al0,b_al0⟩:=(show Df K mg "_law_any" (top 64) pq3 from Hd.df4 X G E 64).ex;obtain⟨f_bd0,fd_bd0,y5,F_bd0,k_bd0,v3⟩:=(show Df K mg "_law_made" (top 65) pq3 from Hd.df4 X G E 65).ex;obtain⟨f_ba0,fd_ba0,m_ba0,F_ba0,k_ba0,b_ba0⟩:=(show Df K mg "_law_kind_of_two" (top 68) pq10 from Hd.df2 X G E 68).ex;obtain⟨f_az0,fd_az0,m_az0,F_az0,k_az0,b_az0⟩:=(show Df K mg "_law_kind_of_cases" (top 67) pq10 from Hd.df2 X G E 67).ex;obtain⟨f_ay0,fd_ay0,y8,F_ay0,k_ay0,v6⟩:=(show Df K mg "_law_kind" (top 69) pq10 from Hd.df2 X G E 69).ex;obtain⟨f_cr0,fd_cr0,z4,v7,k_cr0,v1⟩:=(show Df K mg "standing" (top 13) pq32 from Hd.df1 X G E 13).ex;obtain⟨f_ct0,fd_ct0,m_ct0,F_ct0,k_ct0,b_ct0⟩:=(show Df K mg "term_folded" (top 14) pq21 from Hd.df2 X G E 14).ex;obtain⟨f_da0,fd_da0,m_da0,F_da0,k_da0,b_da0⟩:=(show Df K mg "with_inner" (top 15) pq20 from Hd.df2 X G E 15).ex;obtain⟨f_cu0,fd_cu0,m_cu0,F_cu0,k_cu0,b_cu0⟩:=(show Df K mg "term_parts" (top 38) pq32 from Hd.df1 X G E 38).ex;obtain⟨f_cw0,fd_cw0,m_cw0,F_cw0,k_cw0,b_cw0⟩:=(show Df K mg "turned_itself" (top 48) pq32 from Hd.df1 X G E 48).ex;obtain⟨f_db0,fd_db0,m_db0,F_db0,k_db0,b_db0⟩:=(show Df K mg "within" (top 8) ["statement"] from Hd.df1 X G E 8).ex;obtain⟨f_cn0,fd_cn0,m_cn0,F_cn0,k_cn0,b_cn0⟩:=(show Df K mg "pieces" (top 9) ["statement"] from Hd.df1 X G E 9).ex;obtain⟨f_bs0,fd_bs0,m_bs0,F_bs0,k_bs0,b_bs0⟩:=(show Df K mg "folded" (top 10) pq25 from Hd.df3 X G E 10).ex;obtain⟨f_by0,fd_by0,m_by0,F_by0,k_by0,b_by0⟩:=(show Df K mg "noted" (top 20) pq16 from Hd.df2 X G E 20).ex;obtain⟨f_cq0,fd_cq0,m_cq0,F_cq0,k_cq0,b_cq0⟩:=(show Df K mg "row_of" (top 22) pq15 from Hd.df3 X G E 22).ex;obtain⟨f_cg0,fd_cg0,z8,F_cg0,k_cg0,b_cg0⟩:=(show Df K mg "of_pair" (top 23) pq18 from Hd.df3 X G E 23).ex;obtain⟨f_ce0,fd_ce0,y0,F_ce0,k_ce0,b_ce0⟩:=(show Df K mg "of_left" (top 24) pq18 from Hd.df3 X G E 24).ex;obtain⟨f_ci0,fd_ci0,z7,F_ci0,k_ci0,b_ci0⟩:=(show Df K mg "of_right" (top 25) pq18 from Hd.df3 X G E 25).ex;obtain⟨f_cc0,fd_cc0,y2,F_cc0,k_cc0,b_cc0⟩:=(show Df K mg "of_first" (top 26) pq18 from Hd.df3 X G E 26).ex;obtain⟨f_cj0,fd_cj0,z6,F_cj0,k_cj0,b_cj0⟩:=(show Df K mg "of_second" (top 27) pq18 from Hd.df3 X G E 27).ex;obtain⟨f_cb0,fd_cb0,y3,F_cb0,k_cb0,b_cb0⟩:=(show Df K mg "of_cases" (top 28) pq18 from Hd.df3 X G E 28).ex;obtain⟨f_cd0,fd_cd0,y1,F_cd0,k_cd0,b_cd0⟩:=(show Df K mg "of_fun" (top 29) pq18 from Hd.df3 X G E 29).ex;obtain⟨f_cm0,fd_cm0,z5,F_cm0,k_cm0,b_cm0⟩:=(show Df K mg "of_use" (top 30) pq18 from Hd.df3 X G E 30).ex;obtain⟨f_cf0,fd_cf0,z9,F_cf0,k_cf0,b_cf0⟩:=(show Df K mg "of_off" (top 31) pq18 from Hd.df3 X G E 31).ex;obtain⟨f_ca0,fd_ca0,m_ca0,F_ca0,k_ca0,b_ca0⟩:=(show Df K mg "of_at" (top 33) pq13 from Hd.df3 X G E 33).ex;obtain⟨f_bu0,fd_bu0,m_bu0,F_bu0,k_bu0,b_bu0⟩:=(show Df K mg "kind_by" (top 34) pq13 from Hd.df3 X G E 34).ex;obtain⟨f_cp0,fd_cp0,m_cp0,F_cp0,k_cp0,b_cp0⟩:=(show Df K mg "put_in_front" (top 35) pq14 from Hd.df2 X G E 35).ex;obtain⟨f_bx0,fd_bx0,m_bx0,F_bx0,k_bx0,b_bx0⟩:=(show Df K mg "next_within" (top 36) pq14 from Hd.df2 X G E 36).ex;obtain⟨f_bt0,fd_bt0,y4,F_bt0,k_bt0,v2⟩:=(show Df K mg "kind" (top 37) ["term","given"] from Hd.df2 X G E 37).ex;obtain⟨f_bv0,oc_bv0,od_bv0,sl_bv0,kV_bv0,dc_bv0,pm_bv0,an_bv0,cd_bv0,ct_bv0,a_bv0,l_bv0,c_bv0,k_bv0⟩:Hd.FnF K "law" (top 71):=Hd.fn_ofx (by kernel_rfl) (Hd.e_fn E (i:=71) (by decide));obtain⟨f_bz0,fd_bz0,a_bz0,F_bz0,j,Z,_,_⟩:Hd.FunTF K "number_of" (top 21) (Hd.tabAt K "number_of"):=Hd.funT_ofx (by kernel_rfl) (Hd.e_fn E (i:=21) (by decide)) (Hd.t_code hc (by decide));have m_bz0:=ybv X G a_bz0;have k_bz0:=j.kp;have b_bz0:=j.binds (ps:=pq17) fun _ _ _ _ _ _ us p=>Ken.len2 p fun _ _=>rfl;have M:=fun h k=>hblt.at (nT _ (Yl4 K)) h k;obtain⟨f_br0,fd_br0,a_br0,F_br0,y,j1,_,_⟩:Hd.FunTF K "changed" (top 16) (Hd.tabAt K "changed"):=Hd.funT_ofx (by kernel_rfl) (Hd.e_fn E (i:=16) (by decide)) (Hd.t_code hc (by decide));have m_br0:=ybv X G a_br0;have k_br0:=y.kp;have b_br0:=y.binds (ps:=pq30) fun _ _ _ _ _ _ us p=>Ken.len2 p fun _ _=>rfl;have q7:=fun h k=>hblt.at (nT _ (Xb2 K)) h k;obtain⟨f_bw0,fd_bw0,a_bw0,F_bw0,B,j8,_,_⟩:Hd.FunTF K "lifted" (top 41) (Hd.tabAt K "lifted"):=Hd.funT_ofx (by kernel_rfl) (Hd.e_fn E (i:=41) (by decide)) (Hd.t_code hc (by decide));have m_bw0:=ybv X G a_bw0;have k_bw0:=B.kp;have b_bw0:=B.binds (ps:=["term","by"]) fun _ _ _ _ _ _ us p=>Ken.len2 p fun _ _=>rfl;have j3:=fun h k=>hblt.at (nT _ (Xg1 K)) h k;obtain⟨f_co0,fd_co0,a_co0,F_co0,j5,v_put,_,_⟩:Hd.FunTF K "put" (top 42) (Hd.tabAt K "put"):=Hd.funT_ofx (by kernel_rfl) (Hd.e_fn E (i:=42) (by decide)) (Hd.t_code hc (by decide));have m_co0:=ybv X G a_co0;have k_co0:=j5.kp;have b_co0:=j5.binds (ps:=["term","other"]) fun _ _ _ _ _ _ us p=>Ken.len2 p fun _ _=>rfl;have hB_put:=fun h k=>hblt.at (nT _ (Wh8 K)) h k;obtain⟨f_cs0,fd_cs0,a_cs0,F_cs0,g,Y,_,_⟩:Hd.FunTF K "term_deep" (top 39) (Hd.tabAt K "term_deep"):=Hd.funT_ofx (by kernel_rfl) (Hd.e_fn E (i:=39) (by decide)) (Hd.t_code hc (by decide));have m_cs0:=ybv X G a_cs0;have k_cs0:=g.kp;have b_cs0:=g.binds (ps:=pq32) fun _ _ _ _ _ _ us p=>Ken.len1 p fun _=>rfl;have L:=fun h k=>hblt.at (nT _ (Yl3 K)) h k;obtain⟨f_cv0,fd_cv0,a_cv0,F_cv0,A,j7,_,_⟩:Hd.FunTF K "turned" (top 51) (Hd.tabAt K "turned"):=Hd.funT_ofx (by kernel_rfl) (Hd.e_fn E (i:=51) (by decide)) (Hd.t_code hc (by decide));have z3:=ybv X G a_cv0;have k_cv0:=A.kp;have v0:=A.binds (ps:=pq29) fun _ _ _ _ _ _ us p=>Ken.len2 p fun _ _=>rfl;have j2:=fun h k=>hblt.at (nT _ (Xg0 K)) h k;have a_cg0:=Hd.nsx X G E 23 z8;have a_ce0:=Hd.nsx X G E 24 y0;have a_ci0:=Hd.nsx X G E 25 z7;have a_cc0:=Hd.nsx X G E 26 y2;have a_cj0:=Hd.nsx X G E 27 z6;have a_cb0:=Hd.nsx X G E 28 y3;have a_cd0:=Hd.nsx X G E 29 y1;have a_cm0:=Hd.nsx X G E 30 z5;have a_cf0:=Hd.nsx X G E 31 z9;obtain⟨aPAIRED,z1,j9⟩:Hd.TupF K "PAIRED" ["both","one","then"]:=Hd.tup_ofx (by kernel_rfl) (by kernel_rfl) (by decide) (Hd.e_tup E (i:=7) (by decide));obtain⟨aLOW,g_LOW,t_LOW⟩:Hd.TupF K "LOW" ["low"]:=Hd.tup_ofx (by kernel_rfl) (by kernel_rfl) (by decide) (Hd.e_tup E (i:=6) (by decide));obtain⟨aDEEDS,g_DEEDS,D_DEEDS⟩:Hd.KfF K w "DEEDS" _:=Hd.kf_ofx (l:=[("pair","of_pair"),("left","of_left"),("right","of_right"),("first","of_first"),("second","of_second"),("cases","of_cases"),("fun","of_fun"),("use","of_use"),("off","of_off")]) [f_cg0,f_ce0,f_ci0,f_cc0,f_cj0,f_cb0,f_cd0,f_cm0,f_cf0] (by kernel_rfl) (by kernel_rfl) (.cons a_cg0 (.cons a_ce0 (.cons a_ci0 (.cons a_cc0 (.cons a_cj0 (.cons a_cb0 (.cons a_cd0 (.cons a_cm0 (.cons a_cf0 (.nil)))))))))) (show (["pair","left","right","first","second","cases","fun","use","off"]:List Str).Nodup by decide) (Hd.e_kf E (i:=32) (by decide));have q8:=Hd.c_refx (x:="KenError") D (i:=1) (by kernel_rfl) (by decide);have q1:=Hd.c_refx (x:="NoTurning") D (i:=3) (by kernel_rfl) (by decide);have g_Large:=Hd.c_refx (x:="Large") D (i:=4) (by kernel_rfl) (by decide);have g_Book:=Hd.c_refx (x:="Book") D (i:=18) (by kernel_rfl) (by decide);have g_Asked:=Hd.c_refx (x:="Asked") D (i:=19) (by kernel_rfl) (by decide);obtain⟨tk_MOST_PARTS,O⟩:=Hd.m_int D2 (x:="MOST_PARTS") (i:=1000) (.head _);obtain⟨tk_MOST_DEEP,q2⟩:=Hd.m_int D2 (x:="MOST_DEEP") (i:=120) (.tail _ (.head _));obtain⟨V,z_NoTurning,i_1,i_2⟩:=Hd.c_exc D (ij:=(3,1)) (by decide);obtain⟨x_Large,z_Large,i_3,i_4⟩:=Hd.c_exc D (ij:=(4,1)) (by decide);have a:=yay X G (n:="len") (Hd.e_bl E (by decide));have m:=yay X G (n:="range") (Hd.e_bl E (by decide));have q4:=yay X G (n:="max") (Hd.e_bl E (by decide));have q0:=yay X G (n:="enumerate") (Hd.e_bl E (by decide));have f:=yay X G (n:="reversed") (Hd.e_bl E (by decide));have m_list:=yay X G (n:="list") (Hd.e_bl E (by decide));have m_zip:=yay X G (n:="zip") (Hd.e_bl E (by decide));have m_tuple:=yay X G (n:="tuple") (Hd.e_bl E (by decide));have z0:=yay X G (n:="sorted") (Hd.e_bl E (by decide));have z2:=yay X G (n:="int") (Hd.e_bl E (by decide));have m_isinstance:=yay X G (n:="isinstance") (Hd.e_bl E (by decide));have m_bool:=yay X G (n:="bool") (Hd.e_bl E (by decide));have m_str:=yay X G (n:="str") (Hd.e_bl E (by decide));cases hfa.symm.trans (ybv X G a_bv0);have F_bv0:=Xa0 (st:=(top 71)) l_bv0 c_bv0 k_bv0;have m_ah0:=ybv X G O;have m_ag0:=ybv X G q2;have m_aj0:=ybv X G z1;have m_LOW:=ybv X G g_LOW;have m_ae0:=ybv X G g_DEEDS;have m_KenError:=ybv X G q8;have m_ai0:=ybv X G q1;have m_Large:=ybv X G g_Large;have m_ac0:=ybv X G g_Book;have m_aa0:=ybv X G g_Asked;obtain⟨aINNER,aT,g_INNER,z,hI⟩:=Hd.in_of hIn;have q5:=ybv X G g_INNER;obtain⟨aTURNING,aU,j4,j6,hU⟩:=Hd.tr_of (hTr rfl);have m_ak0:=ybv X G j4
 have hN:([Hd.tabAt K "number_of",Hd.tabAt K "changed",Hd.tabAt K "lifted",Hd.tabAt K "put",Hd.tabAt K "term_deep",Hd.tabAt K "turned"]:List Addr).Nodup:=by
  rw[<- Zo3,<- Zv8,<- Yb5,<- Xk0,<- Zo2,<- Yb4];exact hNd
 obtain⟨f_ad0,fd_ad0,e⟩:=Hd.pl_of hPl (r:=⟨18,0,ze "Book.__init__",[ze "rows",ze "statements",ze "numbers"]⟩) (.head _);have F_ad0:Fun K "__init__" "Book.__init__" Xr4 f_ad0 fd_ad0:=e.fn;have b_ad0:=F_ad0.binds (ps:=["self"]) fun _ _ _ _ _ _ us p=>Ken.len1 p (fun _=>rfl);obtain⟨f_ab0,fd_ab0,b⟩:=Hd.pl_of hPl (r:=⟨19,0,ze "Asked.__init__",[ze "term",ze "front",ze "kinds"]⟩) (.tail _ (.head _));have F_ab0:Fun K "__init__" "Asked.__init__" Xr5 f_ab0 fd_ab0:=b.fn;have b_ab0:=F_ab0.binds (ps:=pq23) fun _ _ _ _ _ _ us p=>Ken.len3 p (fun _ _ _=>rfl);have CBB:ClsB K _:=⟨e.c,e.na _ (.head _),e.na _ (.tail _ (.head _)),e.na _ (.tail _ (.tail _ (.head _)))⟩;have CAA:ClsA K _:=⟨b.c,b.na _ (.head _),b.na _ (.tail _ (.head _)),b.na _ (.tail _ (.tail _ (.head _)))⟩;refine⟨W.fnOf "law" "law" (Zd4 (top 71)) (Zc8 (top 71)) (Za3 (top 71)) .none kV_bv0 dc_bv0 pm_bv0 an_bv0 cd_bv0 ct_bv0,fun s v=>.of_eq rfl,fun base _ _=>?_⟩;have J:=Xw8 (P:=l.prog) (w:=w) (mg:=mg) (base:=base) (k:=0) v8;have o:=Wr1 (k:=1) (Hd.df2 X G E 54) (.of (J.mono (by decide)) q t u) a;have R:=Wp9 (P:=l.prog) (w:=w) (mg:=mg) (base:=base) (k:=0) (Hd.df2 X G E 55) m;have G_bb0:=Xx0 (P:=l.prog) (w:=w) (mg:=mg) (base:=base) (k:=0) v9 a;have q9:=Xp7 (P:=l.prog) (w:=w) (mg:=mg) (base:=base) F_bo0 F I (fun k=>Xw8 v8) q t u (fun k=>Xx0 v9 a) y7 y9 v5 12;have G_bc0:=Xp8 (P:=l.prog) (w:=w) (mg:=mg) (base:=base) F_bc0 y6 v4 z2 30;have q3:=Wq2 (P:=l.prog) (w:=w) (mg:=mg) (base:=base) (k:=0) (Hd.df1 X G E 59) a;have C:=Wq3 (k:=13) (Hd.df3 X G E 60) (.of (q9.mono (by decide)) F q6 I) a;have G_bd0:=Wg7 (k:=30) F_bd0 y5 v3 F_al0 m_al0 b_al0 F_bk0 m_bk0 b_bk0 F_ap0 m_ap0 b_ap0 F_bp0 m_bp0 b_bp0 (C.up (by decide)) (.of (J.mono (by decide)) q t u) (q3.up (by decide)) (.of (G_bc0.mono (by decide)) y6 k_bc0 v4) (.of (G_bb0.mono (by decide)) y7 y9 v5) (.of (q9.mono (by decide)) F q6 I) 10;have S:=Wq9 (k:=13) (Hd.df2 X G E 66) (o.up (by decide)) (.of (J.mono (by decide)) q t u) (.of (q9.mono (by decide)) F q6 I) m q4 a;have G_ay0:=Wg8 (P:=l.prog) (w:=w) (mg:=mg) (base:=base) F_ay0 y8 v6 F_ba0 m_ba0 b_ba0 F_az0 m_az0 b_az0 a z2 80;have U:=Yi7 (P:=l.prog) (w:=w) (mg:=mg) (base:=base) (k:=0) (Hd.df1 X G E 70);have C_turns:=Wn0 (P:=l.prog) (w:=w) (mg:=mg) (base:=base) (k:=0) (Hd.df1 X G E 47) m_ak0 j6 hU;have d:=Wn2 (k:=1) (Hd.df1 X G E 49) (C_turns.up (by decide)) q0;have G_cr0:=Xj8 (P:=l.prog) (w:=w) (mg:=mg) (base:=base) (k:=10) v7 q5 z hI f;have G_cv0:=Wg5 (yaf.mp hN).2 F_br0 q7 j1 m_br0 b_br0 F_bw0 j3 j8 m_bw0 b_bw0 F_co0 hB_put v_put m_co0 b_co0 F_cs0 L Y m_cs0 b_cs0 F_cv0 j2 j7 z3 v0 v7 z4 v1 F_da0 m_da0 b_da0 F_ct0 m_ct0 b_ct0 F_cw0 m_cw0 b_cw0 F_cu0 m_cu0 b_cu0 q5 z hI f m a m_list m_zip m_tuple z0 q4 m_ai0 V m_Large x_Large m_ah0 m_ag0 (d.up (by decide));have j0:=Wn1 (k:=11) (Hd.df1 X G E 50) (.of (G_cr0.mono (by decide)) z4 k_cr0 v1) (d.up (by decide)) a;have G_bt0:=Wg6 (P:=l.prog) (w:=w) (mg:=mg) (base:=base) (T:=Hd.tabAt K "number_of") CBB CAA F_bz0 M Z m_bz0 k_bz0 b_bz0 F_db0 m_db0 b_db0 F_cn0 m_cn0 b_cn0 F_bs0 m_bs0 b_bs0 F_by0 m_by0 b_by0 F_cq0 m_cq0 b_cq0 F_cg0 z8 b_cg0 F_ce0 y0 b_ce0 F_ci0 z7 b_ci0 F_cc0 y2 b_cc0 F_cj0 z6 b_cj0 F_cb0 y3 b_cb0 F_cd0 y1 b_cd0 F_cm0 z5 b_cm0 F_cf0 z9 b_cf0 F_ca0 m_ca0 b_ca0 F_bu0 m_bu0 b_bu0 F_cp0 m_cp0 b_cp0 F_bx0 m_bx0 b_bx0 F_bt0 y4 v2 F_ad0 e.mkc m_ac0 b_ad0 F_ab0 b.mkc m_aa0 b_ab0 m_aj0 j9 m_LOW t_LOW q5 z hI m_ae0 D_DEEDS a f;have G_bv0:=Wp5 (k:=180) (N:=⟨Hd.tabAt K "number_of",Zd3⟩) (T1:=Hd.tabAt K "changed") (T2:=Hd.tabAt K "lifted") (T3:=Hd.tabAt K "put") (T4:=Hd.tabAt K "term_deep") (T5:=Hd.tabAt K "turned") (yaf.mp hN).1 F_bv0 (R.up (by decide)) (o.up (by decide)) (.of (J.mono (by decide)) q t u) (S.up (by decide)) (.of (G_bd0.mono (by decide)) y5 k_bd0 v3) (j0.up (by decide)) (U.up (by decide)) (G_cv0.mono (by decide)) z3 k_cv0 v0 (.of (G_ay0.mono (by decide)) y8 k_ay0 v6) (.of (G_bt0.mono (by decide)) y4 k_bt0 v2) m q4 a;exact G_bv0
noncomputable def dLaw:PySem.DefRec:=⟨"law",Zd4 (top 71),Zc8 (top 71),Za3 (top 71),Hd.posOf (top 71)⟩
theorem wlk:W.WalkO q loose (W.XL q []) (Hd.hook10 pg ask cask mask tas pls ut).says (yce).row.toRowW dLaw [] (fun f vs=>PySem.call f vs) :=
 Hd.walkH10 (l:=yce) (n:=63) (k:=181) (x:="_law_script") (CX:=CX0) (sp:=fun K b=>(fun K=>sp_law54h K ⟨(b.getD 0 0),Zd3⟩ (b.getD 1 0) (b.getD 2 0) (b.getD 3 0) (b.getD 4 0) (b.getD 5 0)) K) rfl (by decide) rfl ⟨rfl,by decide,by decide⟩ (by decide) (fun w B C h K F v G e E D y A o u g t s p j=>by
   rw[Yl6,Xb3,Xg4,Wh9,Yl5,Xg3]
   exact Wg4 v G e E D y A o u g t s p j)
  (fun K b H a i m d c r=>by
   have d:b.length=6:=d
   match b,d,c with
   | [T_number_of,T_changed,T_lifted,T_put,T_term_deep,T_turned],_,c=>exact⟨a,i,rfl,r,m,TabOk.new (c T_number_of (by simp)),TabOk.new (c T_changed (by simp)),TabOk.new (c T_lifted (by simp)),TabOk.new (c T_put (by simp)),TabOk.new (c T_term_deep (by simp)),TabOk.new (c T_turned (by simp)),fun _=>rfl⟩) fun _ _ _ _ z=>z
end
end KLaw
open PySem PySem.W PyProof.Rows
set_option maxRecDepth 100000 in
set_option maxHeartbeats 0 in
theorem PySem.Challenge.cw_ken_k54_kind_stays_holds : PySem.Challenge.rw_ken_k54_kind_stays.Holds := by
 refine W.holds_law ws0 fun said=>W.holds_open (q:=KLaw.q) (loose:=KLaw.loose) (XP:=XL KLaw.q []) (d:=KLaw.dLaw) (kwd:=[]) (YP:=(Hd.hook10 KLaw.pg KLaw.ask KLaw.cask KLaw.mask KLaw.tas KLaw.pls KLaw.ut).says)
  KLaw.lft (Hd.hook10 KLaw.pg KLaw.ask KLaw.cask KLaw.mask KLaw.tas KLaw.pls KLaw.ut).of (Hd.hook10 KLaw.pg KLaw.ask KLaw.cask KLaw.mask KLaw.tas KLaw.pls KLaw.ut).keeps
  (fun s e=>xl_of s (Bool.and_eq_true_iff.mp e).1) XL.keeps (by kernel_rfl) (by kernel_rfl) rfl (fun s e=>recFacts_of (Bool.and_eq_true_iff.mp e).2)
  rfl said (by decide +kernel) ⟨rfl,rfl,rfl,rfl,rfl,by decide +kernel⟩ ?hw ?hc
 (case hw=>w_witness2)
 exact KLaw.wlk
