import PyProof.Rows.All
import KE.KLam
import Wide.All
import OpenK.AllK
import Wide.FinOn
import Lean
import PyProof.EqAt
import PyProof.EqKinds
import PyProof.TupleCall
import KE.KRevSl
import PyProof.MeetsStr
import KE.KTryOn
import PyProof.ExcInit
import PyProof.ExcClass3
import PyProof.ExcBaseAll.ValueError
import PyProof.InstStoreFacts
import ObjForm.Fk.InstStore
import PyProof.ExcArgsOwn
import PyProof.ExcAttrAll.ValueError
import PyProof.PureStr
import PyProof.FString2
import PyProof.Rows.FactsFmt
import PyProof.FactsAll.NoneType_2
import PyProof.NsDelKeeps
import PyProof.IsiBase
import PyProof.Rows.MinMaxN
import PyProof.ListRange
import PyProof.AutoListH
import PyProof.AutoSeq1
import PyProof.DictWalks
import PyProof.ListStr
import PyProof.CallStr
import PyProof.StrCalls
import PyProof.Rows.FStr
import PyProof.ReprRoads
import PyProof.FString
import PySem.Challenge.RW_bestcalls_k60_books_of_deeds
set_option genSizeOf false
set_option Elab.async false
set_option linter.all false
set_option maxRecDepth 100000
noncomputable section
open Option renaming bind_eq_some_iff→qA,map_eq_some_iff→qE,bind_some→qj
open PySem.W renaming Frag→qC,mg_of→qy,mg_none_of→qz,kia_one→qAA,fnOf→qAB,looks_findIn→qAG,nsIn→qAM,keepIn→qAX,codeIn→qA1,cellsFrom_some→qA7,callWith_K→qBP,kitx_list→qBW,kitx_dict→qBX,kitx_tuple→qB9,codeRec_of→qCA,kitx_none→qCD,kitx_bool→qCE,kitx_str→qCI,kitx_int→qCJ
open List renaming length_map→qD,length_append→qF,size_toArray→qG,getElem?_set_ne→qH,mem_cons_of_mem→qK,getElem?_eq_getElem→qO,length_set→qR,mem_cons→qW,length_range→qX,getElem?_eq_some_iff→qZ,getElem?_map→qa,mem_append→qb,mem_singleton→qc,mem_append_right→qd,getElem?_set_self→qe,mem_map→qg,map_cons→ql,length_cons→qo,getElem?_append_right→qp,mem_cons_self→qt,contains_cons→qu,getD_eq_getElem?_getD→qw,append_nil→qx,map_append→qAD,all_eq_true→qAE,getElem?_append_left→qAK,length_singleton→qAO,mem_append_left→qAQ,map_map→qAR,lookup_cons→qAW,drop_eq_getElem_cons→qAZ,nodup_cons→qAb,not_mem_nil→qAd,getElem_mem→qAi,isEmpty_iff→qAs,drop_length→qAt,mem_of_getElem?→qAu,all_cons→qAx,length_pos_iff→qAy,filterMap_cons→qAz,mem_range→qA5,append_assoc→qA6,sum_cons→qA9,length_eq_zero_iff→qBA,getElem?_replicate→qBB,cons_append→qBF,of_mem_zip→qBL,length_replicate→qBM,map_congr_left→qBT,mem_filterMap→qBZ,any_cons→qBa,flatten_cons→qBg,eraseIdxIfInBounds_toArray→qBh,mem_flatMap→qBo,length_take→qBp,mem_filter→qBt,foldl_cons→qBu,length_reverse→qCK,findSome?_cons→qCL
open PySem.Heap renaming get?_push_of_some→qI,lt_size→qP,get?_update_other→q9,get?_push_size→qAN,get?_update_self→qAT,get?_none_of_le→qBO,size_push→qBQ,get?_update_ne→qCM
open Nat renaming le_refl→qJ,lt_of_lt_of_le→qM,le_trans→qf,zero_le→qAH,ne_of_lt→qAI,lt_irrefl→qAc,mul_le_mul_right→qAw,lt_of_le_of_lt→qBc,le_succ_of_le→qBj,le_of_succ_le→qBk,le_of_lt→qBn,succ_le_succ→qBr,add_sub_cancel_left→qB7,ne_of_gt→qCF
open Bool renaming false_ne_true→qL,and_eq_true→qk,or_true→qAf,eq_iff_iff→qAm,and_eq_true_iff→qAv,false_eq_true→qA2,or_eq_true_iff→qCO
open PySem.F renaming plainAttrs_list→qN,type_list_append→qS,slot_list_append→qT,plainAttrs_str→qAl,excBase_ValueError→qA0,type_str_join→qBD,slot_str_join→qBE,typeOf_object_class→qBR,store_ValueError→qBl,args_tuple_add_2→qBs,entry_tuple_add→qBy,slot_tuple_add→qB0,type_list_pop→qB4,slot_list_pop→qB5,slot_gs_get→qCG
open PySem renaming sizeLine→qQ,Expr→qU,wpAny_bind→qV,wpAny_loadPart_at→qY,Pos→qh,mainGlobals→qm,FuncData→qq,mem_of_lookup→qs,wpAny_pure→qv,starEach→qAC,sizeLine_eq→qAL,wpAny_isSubtype_exc→qAP,wpAny_Call_Name_kw→qAa,wpAny_passesOwn→qAh,codeAny_call_builtin→qAk,wpAny_getItem_str_slice→qAp,wpAny_execs_nil→qAq,strLen_append→qAr,wpAny_mono→qA4,codeAny_mono→qA8,wpAny_setField→qBC,wpAny_truthy_bool→qBH,call_meets→qBI,wpAny_standAt→qBN,wpAny_pyReprObj_gives→qBU,post_val_or_str→qBV,wpAny_field→qBi,wpAny_holding→qBq,wpAny_call→qBw,typeIs_str→qBx,wpAny_execs_cons→qB1,seqIndex_of→qB6,wpAny_newFunctionEnv_cells→qB8,wpAny_comprehension_free→qCH
open Option.some renaming inj→qi
open PySem.PassesOwn renaming never→qr
open PySem.Str renaming ofString→qAF,ofString_eq_toList→qBJ
open Int renaming emod_lt_of_pos→qAJ,emod_nonneg→qAU
open Array renaming getElem?_eq_some_iff→qAS,length_toList→qAj,getElem?_eq_getElem→qA3,getElem?_toList→qBK,size_append→qBe,mem_toList_iff→qCC
open PySem.Obj renaming data_mapFields→qAV,isFreed_of_fields→qAg
open PySem.PyData renaming eqv→qAY,canLayAll0→qAe,depthAll→qBm
open PySem.SeqAt renaming canLay_of_shaped→qAn,shaped→qBf
open Ne renaming symm→qAo
open PySem.Calls renaming callWith_builtin→qBG,spliced_cons→qBY,spliced_nil→qBd,Name_function_global→qBv,evalArgs_plain→qCB,Constant_str→qCN
open PyProof.Rows renaming callWith_type1→qBS
open PySem.Code renaming quiet_builtin→qBb
open PySem.W.Looks renaming ld→qBz
open PySem.SeqAt.EqAt renaming str_int→qB2,int_str→qB3
namespace L2
open PySem PySem.Spec PyProof.Rows
noncomputable abbrev Key:=Sum Int Str
noncomputable def zaif:Key->Value->Bool
 | .inl k,v=>Value.isInt k v
 | .inr x,v=>Value.isStrOf x v
noncomputable def keyH(w:World):Key->Int
 | .inl k=>hashInt k
 | .inr x=>hashStr w x
theorem zcj:∀{k:Key}{v:Value},zaif k v=true->(∃i t,k=Sum.inl i/\v=Value.int i t)\/(∃x t,k=Sum.inr x/\v=Value.str x t)
 | .inl i,v,h=>by
  obtain⟨t,e⟩:=Value.isInt_shape (k:=i) (v:=v) h
  exact .inl ⟨i,t,rfl,e⟩
 | .inr x,v,h=>by
  obtain⟨t,e⟩:=Value.isStrOf_shape (x:=x) (v:=v) h
  exact .inr ⟨x,t,rfl,e⟩
theorem zaig(a b:Int):decide ((Sum.inl a:Key)=Sum.inl b)=(a==b):=by
 by_cases e:a=b
 ·subst e;simp
 ·have h:¬(Sum.inl a:Key)=Sum.inl b:=λq=>e (Sum.inl.inj q)
  rw[decide_eq_false h]
  exact(beq_eq_false_iff_ne.mpr e).symm
theorem zaih(a b:Str):decide ((Sum.inr a:Key)=Sum.inr b)=decide (a=b):=by
 by_cases e:a=b
 ·subst e;simp
 ·have h:¬(Sum.inr a:Key)=Sum.inr b:=λq=>e (Sum.inr.inj q)
  rw[decide_eq_false h,decide_eq_false e]
theorem zaii(a:Int)(b:Str):decide ((Sum.inl a:Key)=Sum.inr b)=false:=decide_eq_false (λq=>nomatch q)
theorem zaij(a:Str)(b:Int):decide ((Sum.inr a:Key)=Sum.inl b)=false:=decide_eq_false (λq=>nomatch q)
noncomputable def zsi(prog:Program)(w:World):PySem.KeyKind prog w Key where
 is:=zaif
 hash:=keyH w
 inj:=λv a b ha hb=>by
  rcases zcj ha with⟨i,t,rfl,rfl⟩|⟨x,t,rfl,rfl⟩
  ·rcases zcj hb with⟨j,u,rfl,e⟩|⟨y,u,rfl,e⟩
   ·injection e with e1 _;rw[e1]
   ·exact nomatch e
  ·rcases zcj hb with⟨j,u,rfl,e⟩|⟨y,u,rfl,e⟩
   ·exact nomatch e
   ·injection e with e1 _;rw[e1]
 byValue:=λk v h=>by
  rcases zcj h with⟨i,t,rfl,rfl⟩|⟨x,t,rfl,rfl⟩<;>rfl
 pyHash:=λhv h=>by
  rcases zcj hv with⟨i,t,rfl,rfl⟩|⟨x,t,rfl,rfl⟩
  ·exact wpAny_pyHash_int h
  ·exact wpAny_pyHash_str h
 eqBool:=λhu hv h=>by
  rcases zcj hu with⟨i,t,rfl,rfl⟩|⟨x,t,rfl,rfl⟩
  ·rcases zcj hv with⟨j,u,rfl,rfl⟩|⟨y,u,rfl,rfl⟩
   ·rw[zaig]at h;exact wpAny_eqBool_int h
   ·rw[zaii]at h;exact qB3 i t y u _ _ _ _ h
  ·rcases zcj hv with⟨j,u,rfl,rfl⟩|⟨y,u,rfl,rfl⟩
   ·rw[zaij]at h;exact qB2 x t j u _ _ _ _ h
   ·rw[zaih]at h;exact wpAny_eqBool_str h
 «strs»:=λk x t v h=>by
  rcases zcj h with⟨i,u,rfl,e⟩|⟨y,u,rfl,e⟩
  ·exact nomatch e
  ·injection e with e1 _
   subst e1
   cases v<;>rfl
inductive V where
 | non|bl (b:Bool)|int (i:Int)|str (x:Str)|byt (b:Array UInt8)|flt (b:UInt64)|ref (a:Addr)|ty (n:String)
 deriving DecidableEq
noncomputable def RelV:V->Value->Prop
 | .non,u=>u=Value.none
 | .bl b,u=>u=Value.bool b
 | .int i,u=>∃t,u=Value.int i t
 | .str x,u=>∃t,u=Value.str x t
 | .byt b,u=>∃t,u=Value.bytes b t
 | .flt b,u=>∃t,u=Value.float b t
 | .ref a,u=>u=Value.ref a
 | .ty n,u=>u=Value.type n
noncomputable abbrev Vals:List V->List Value->Prop:=Paired RelV
theorem Vals.length{xs:List V}{us:List Value}(r:Vals xs us):xs.length=us.length:=Paired.length r
theorem Vals.get:∀{xs:List V}{us:List Value}{i:Nat}{x:V},Vals xs us->xs[i]?=some x->∃u,us[i]?=some u/\RelV x u
 | _,_,_,_,.nil,e=>by simp at e
 | _,_,0,_,.cons r _,e=>by simp at e;subst e;exact⟨_,rfl,r⟩
 | _,_,i+1,x,.cons _ t,e=>by
  obtain⟨u,h1,h2⟩:=Vals.get (i:=i) (x:=x) t (by simpa using e)
  exact⟨u,by simpa using h1,h2⟩
theorem Vals.set{x:V}{u:Value}(r:RelV x u):∀{xs:List V}{us:List Value}(i:Nat),Vals xs us->Vals (xs.set i x) (us.set i u)
 | _,_,_,.nil=>.nil
 | _,_,0,.cons _ t=>.cons r t
 | _,_,i+1,.cons q t=>.cons q (Vals.set r i t)
theorem Vals.append:∀{xs ys:List V}{us ws:List Value},Vals xs us->Vals ys ws->Vals (xs++ys) (us++ws)
 | _,_,_,_,.nil,s=>s
 | _,_,_,_,.cons r t,s=>.cons r (Vals.append t s)
theorem Vals.take:∀{xs:List V}{us:List Value}(n:Nat),Vals xs us->Vals (xs.take n) (us.take n)
 | _,_,0,_=>.nil
 | _,_,_+1,.nil=>.nil
 | _,_,n+1,.cons r t=>.cons r (Vals.take n t)
theorem Vals.drop:∀{xs:List V}{us:List Value}(n:Nat),Vals xs us->Vals (xs.drop n) (us.drop n)
 | _,_,0,r=>r
 | _,_,_+1,.nil=>.nil
 | _,_,n+1,.cons _ t=>Vals.drop n t
noncomputable def RelO:Option V->Option Value->Prop
 | some v,some u=>RelV v u
 | none,none=>True
 | _,_=>False
noncomputable def KV{κ:Type}:List (κ×V)->List (κ×Value)->Prop:=Paired λ(p:κ×V)(q:κ×Value)=>p.1=q.1/\RelV p.2 q.2
noncomputable def kV:Key->V
 | .inl i=>.int i
 | .inr x=>.str x
inductive HO where
  | lst (xs:List V)
  | tup (xs:List V)
  | dK (kvs:List (Key×V))|dT (kvs:List (List Key×V))
  | set (S:Int->Bool) (n:Nat)
  | ins (C dx:Addr) (fs:List (Str×V))
  | own (x:Addr)
  | xd (fs:List (Str×V))
  | met (f x:Addr)
  | rng (lo hi:Int)
  | frz (o:Obj) (u:HO)
  | tbl (ps:Array Value)
 | tabO (q:Str)
  | ext (φ:Heap->Prop)
noncomputable abbrev Hp:=Addr->Option HO
noncomputable def upd(H:Hp)(a:Addr)(o:HO):Hp:=λb=>if b=a then some o else H b
theorem zan{H:Hp}{a:Addr}{o:HO}:upd H a o a=some o:=by unfold upd;rw[if_pos rfl]
theorem zar{H:Hp}{a b:Addr}{o:HO}(h:b≠a):upd H a o b=H b:=by unfold upd;rw[if_neg h]
theorem zcx{H:Hp}{a b:Addr}{o:HO}(h:H a=some o)(h':H b=none):a≠b:=by
 intro e;subst e;rw[h]at h';cases h'
section
variable(P:Program)(w:World)
noncomputable def zdh(H:Hp)(h:Heap)(a:Addr):HO->Prop
 | .lst xs=>xs.length<=qQ/\∃(its:List Value)(n:Nat),Vals xs its/\h.get? a=some {cls:=.type "list",data:=.seq its.toArray n}
 | .tup xs=>xs.length<=qQ/\∃its:List Value,Vals xs its/\IsTup h a its.toArray
 | .dK kvs=>kvs.length<=qQ/\(a==sysModules)=false/\∃vs,KV kvs vs/\h.DictOf (zsi P w) a vs
 | .dT kvs=>kvs.length<=qQ/\(a==sysModules)=false/\∃xs:List (List Key×Addr×Value),
   Paired (λ(p:List Key×V)(q:List Key×Addr×Value)=>p.1=q.1/\H q.2.1=some (.tup (p.1.map kV))/\RelV p.2 q.2.2) kvs xs/\
   ∃o es ep,h.get? a=some o/\o.ExactDict/\o.data=.dict es ep/\es.toList=xs.map (entryOfKey (tupleKind (zsi P w)))/\(xs.map (·.1)).Nodup
 | .set S n=>h.SetOf (intKind P w) a S n
 | .ins C dx fs=>H dx=some (.own a)/\fs.length<=1000/\dx≠a/\h.get? a=some (PySem.W.instObj C dx)/\
   ∃mA,h.Ns1 dx mA/\(∀f,RelO (fs.lookup f) (mA f))/\PySem.Within mA (fs.map (·.1))
 | .own _=>∃o,h.get? a=some o
 | .xd fs=>∃mA,h.Ns1 a mA/\∀f,RelO (fs.lookup f) (mA f)
 | .rng lo hi=>∃t u v,h.get? a=some {cls:=.type "range",data:=.fields #[.int lo t,.int hi u,.int 1 v]}
 | .frz o u=>h.get? a=some o/\zdh H h a u
 | .tbl ps=>h.get? a=some {cls:=.none,data:=.fields ps}
 | .tabO q=>∃ps:Array Value,h.get? a=some (PySem.W.tabObj ps)/\TriplesOk ps.toList/\∀pos cv,codeAmong pos ps.toList=some cv->∃c o vs t,cv=.ref c/\c≠a/\H c=some (.frz o (.own a))/\o.data=.fields vs/\vs[1]?=some (.str q t)
 | .met f x=>h.get? a=some (PySem.W.methodObj (.ref f) (.ref x))
 | .ext φ=>φ h/\(∃o,h.get? a=some o)/\∀h1 h2:Heap,φ h1->(∀o,h1.get? a=some o->h2.get? a=some o)->φ h2
noncomputable def HOk(H:Hp)(h:Heap):Prop:=∀a o,H a=some o->zdh P w H h a o
end
section
variable{P:Program}{w:World}{H H':Hp}{h h':Heap}{a:Addr}{o:HO}
theorem zdh.lt(x:zdh P w H h a o):a<h.objs.size:=by
 cases o with
 | lst xs=>obtain⟨_,_,_,_,e⟩:=x;exact qP e
 | tup xs=>obtain⟨_,_,_,p⟩:=x;exact p.lt
 | dK kvs=>obtain⟨_,_,_,_,o,_,_,e,_⟩:=x;exact qP e
 | dT kvs=>obtain⟨_,_,_,_,o,_,_,e,_⟩:=x;exact qP e
 | set S n=>obtain⟨o,_,_,_,e,_⟩:=x;exact qP e
 | ins C dx fs=>obtain⟨_,_,_,e,_⟩:=x;exact qP e
 | own y=>obtain⟨_,e⟩:=x;exact qP e
 | xd fs=>obtain⟨_,⟨_,_,_,e,_⟩,_⟩:=x;exact qP e
 | rng lo hi=>obtain⟨_,_,_,e⟩:=x;exact qP e
 | frz ob u=>obtain⟨e,_⟩:=x;exact qP e
 | tbl ps=>exact qP (show h.get? a=some _ from x)
 | tabO q=>obtain⟨_,e,_⟩:=x;exact qP e
 | met f y=>exact qP (show h.get? a=some _ from x)
 | ext φ=>obtain⟨_,⟨_,e⟩,_⟩:=x;exact qP e
theorem Paired.mapP{α β:Type}{F G:α->β->Prop}:∀{l₁:List α}{l₂:List β},Paired F l₁ l₂->(∀a b,F a b->G a b)->Paired G l₁ l₂
 | _,_,.nil,_=>.nil
 | _,_,.cons r t,f=>.cons (f _ _ r) (Paired.mapP t f)
theorem zdh.stay(x:zdh P w H h a o)(k:∀b u,(b=a\/H b=some (.own a))->h.get? b=some u->h'.get? b=some u)
  (ho:∀b,H b=some (.own a)->H' b=some (.own a)) (ht:∀b xs,H b=some (.tup xs)->H' b=some (.tup xs)) (hf:∀(b:Addr)(o':Obj),H b=some (.frz o' (.own a))->H' b=some (.frz o' (.own a)):=by first|exact λ_ _ q=>q|(intro b o' q;rw[zar (zcx q (by assumption))];exact q)|(intro b o' q;rw[zar (λz=>by subst z;simp_all)];exact q)):zdh P w H' h' a o:=by
 induction o with
 | lst xs=>obtain⟨z,its,n,r,e⟩:=x;exact⟨z,its,n,r,k _ _ (.inl rfl) e⟩
 | tup xs=>obtain⟨z,its,r,ob,e,c⟩:=x;exact⟨z,its,r,ob,k _ _ (.inl rfl) e,c⟩
 | dK kvs=>obtain⟨z,y,vs,r,ob,es,ep,e,c⟩:=x;exact⟨z,y,vs,r,ob,es,ep,k _ _ (.inl rfl) e,c⟩
 | dT kvs=>
  obtain⟨z,y,xs,r,ob,es,ep,e,c⟩:=x
  exact⟨z,y,xs,Paired.mapP r λp q z=>⟨z.1,ht _ _ z.2.1,z.2.2⟩,ob,es,ep,k _ _ (.inl rfl) e,c⟩
 | set S n=>obtain⟨ob,es,ep,t,e,c⟩:=x;exact⟨ob,es,ep,t,k _ _ (.inl rfl) e,c⟩
 | ins C dx fs=>
  obtain⟨d,z,ne,e,mA,⟨od,es,ep,e2,c⟩,r⟩:=x
  exact⟨ho _ d,z,ne,k _ _ (.inl rfl) e,mA,⟨od,es,ep,k _ _ (.inr d) e2,c⟩,r⟩
 | own y=>obtain⟨ob,e⟩:=x;exact⟨ob,k _ _ (.inl rfl) e⟩
 | xd fs=>obtain⟨mA,⟨od,es,ep,e,c⟩,r⟩:=x;exact⟨mA,⟨od,es,ep,k _ _ (.inl rfl) e,c⟩,r⟩
 | rng lo hi=>obtain⟨t,u,v,e⟩:=x;exact⟨t,u,v,k _ _ (.inl rfl) e⟩
 | frz ob u ih=>obtain⟨e,q⟩:=x;exact⟨k _ _ (.inl rfl) e,ih q⟩
 | tabO q=>
  obtain⟨ps,e,t,c⟩:=x
  exact⟨ps,k _ _ (.inl rfl) e,t,λpos cv hc=>by
   obtain⟨c',o,vs,tt,e1,e2,e3,e5⟩:=c pos cv hc
   exact⟨c',o,vs,tt,e1,e2,hf _ _ e3,e5⟩⟩
 | tbl ps=>
  have e:h.get? a=some {cls:=.none,data:=.fields ps}:=x
  show h'.get? a=some {cls:=.none,data:=.fields ps}
  exact k a _ (.inl rfl) e
 | met f y=>
  have e:h.get? a=some (PySem.W.methodObj (.ref f) (.ref y)):=x
  show h'.get? a=some (PySem.W.methodObj (.ref f) (.ref y))
  exact k a _ (.inl rfl) e
 | ext φ=>obtain⟨p,⟨o,e⟩,st⟩:=x;exact⟨st _ _ p λo q=>k _ _ (.inl rfl) q,⟨o,k _ _ (.inl rfl) e⟩,st⟩
theorem HOk.lt(x:HOk P w H h)(e:H a=some o):a<h.objs.size:=(x a o e).lt
theorem HOk.fresh(x:HOk P w H h)(e:h.objs.size<=a):H a=none:=by
 cases q:H a with
 | none=>rfl
 | some u=>exact absurd (qM (x.lt q) e) (qAc _)
theorem HOk.kept(x:HOk P w H h)(k:∀b u,h.get? b=some u->h'.get? b=some u):HOk P w H h':=λa o e=>
 (x a o e).stay (λb u _ q=>k b u q) (λ_ q=>q) λ_ _ q=>q
theorem HOk.laid(x:HOk P w H h)(k:∀b u,h.get? b=some u->h'.get? b=some u)(hp:h.objs.size<=a)(new:zdh P w (upd H a o) h' a o):HOk P w (upd H a o) h':=λb u e=>by
 have hn:=x.fresh hp
 by_cases hb:b=a
 ·subst hb;rw[zan]at e;cases e;exact new
 ·rw[zar hb]at e
  exact(x b u e).stay (λc v _ q=>k c v q) (λc q=>by rw[zar (zcx q hn)];exact q) λc xs q=>by rw[zar (zcx q hn)];exact q
end
noncomputable def Rd(H:Hp)(a:Addr)(u:HO):Prop:=H a=some u\/∃o,H a=some (.frz o u)
theorem Rd.ok{P:Program}{w:World}{H:Hp}{h:Heap}{a:Addr}{u:HO}(r:Rd H a u)(x:HOk P w H h):zdh P w H h a u:=by
 rcases r with r|⟨o,r⟩
 ·exact x a u r
 ·obtain⟨_,q⟩:=x a _ r
  exact q
noncomputable def Mut:Option HO->Prop
 | some (.lst _)=>True
 | some (.dK _)=>True
 | some (.dT _)=>True
 | some (.set _ _)=>True
 | some (.ins _ _ _)=>True
 | some (.ext _)=>True
 | _=>False
section
variable{P:Program}{w:World}{H:Hp}{h h':Heap}{x e:Addr}{o':HO}
theorem HOk.write(ok:HOk P w H h)(mu:Mut (H x))(he:e=x\/H e=some (.own x))(k:∀b u,b≠e->h.get? b=some u->h'.get? b=some u)(heo:∃u,h'.get? e=some u)
  (new:zdh P w (upd H x o') h' x o'):HOk P w (upd H x o') h':=λb u q=>by
 have nown:∀c y,H c=some (.own y)->c≠x:=λc y r z=>by subst z;rw[r]at mu;exact mu
 have ntup:∀c xs,H c=some (.tup xs)->c≠x:=λc xs r z=>by subst z;rw[r]at mu;exact mu
 have nfrz:∀c o2 u2,H c=some (.frz o2 u2)->c≠x:=λc o2 u2 r z=>by subst z;rw[r]at mu;exact mu
 by_cases hb:b=x
 ·subst hb;rw[zan]at q;cases q;exact new
 ·rw[zar hb]at q
  by_cases hbe:b=e
  ·have q':H b=some (.own x):=by
    rcases he with z|z
    ·exact absurd (hbe.trans z) hb
    ·rw[hbe];exact z
   rw[q]at q';cases q'
   obtain⟨v,hv⟩:=heo
   exact⟨v,by rw[hbe];exact hv⟩
  ·refine(ok b u q).stay (λc v hc r=>k c v ?_ r) (λc r=>by rw[zar (nown c b r)];exact r) (λc xs r=>by rw[zar (ntup c xs r)];exact r) (λc o2 r=>by rw[zar (nfrz c o2 _ r)];exact r)
   rcases hc with rfl|hc
   ·exact hbe
   ·rintro rfl
    rcases he with z|z
    ·exact nown c b hc z
    ·rw[hc]at z;cases z;exact hb rfl
end
set_option genInjectivity false in
structure Un(fs ex:List Addr)(H H':Hp)(h h':Heap):Prop where
 keep:∀b o,h.get? b=some o->H b=none->b∉fs->b∉ex->h'.get? b=some o
 slot:∀b o,h.get? b=some o->H b=none->b∈fs->b∉ex->∃sl,h'.get? b=some {o with slots:=sl}
 free:∀b o,h.get? b=some o->H b=none->b∉ex->H' b=none
 there:∀b o,h.get? b=some o->b∉ex->∃o',h'.get? b=some o'
 tups:∀b xs,H b=some (.tup xs)->H' b=some (.tup xs)
 frzs:∀b o u,H b=some (.frz o u)->H' b=some (.frz o u)
 tbls:∀b ps,H b=some (.tbl ps)->∃more,H' b=some (.tbl (ps++more))
section
variable{fs fs' ex ex':List Addr}{H H1 H2:Hp}{h h1 h2 h':Heap}{a x e:Addr}{o:HO}
theorem Un.any(u:Un fs ex H H1 h h1){b:Addr}{ob:Obj}(q:h.get? b=some ob)(n:H b=none)(hx:b∉ex):∃sl,h1.get? b=some {ob with slots:=sl}:=by
 by_cases hb:b∈fs
 ·exact u.slot b ob q n hb hx
 ·exact⟨ob.slots,u.keep b ob q n hb hx⟩
theorem Un.kept(k:∀b u,h.get? b=some u->h'.get? b=some u):Un fs ex H H h h':=
 ⟨λb ob q _ _ _=>k b ob q,λb ob q _ _ _=>⟨ob.slots,k b ob q⟩,λ_ _ _ n _=>n,λb ob q _=>⟨ob,k b ob q⟩,λ_ _ q=>q,λ_ _ _ q=>q,λ_ ps q=>⟨#[],by rw[q];simp⟩⟩
theorem Un.refl:Un fs ex H H h h:=Un.kept λ_ _ q=>q
theorem Un.laid(k:∀b u,h.get? b=some u->h'.get? b=some u)(hp:h.objs.size<=a)(hn:H a=none):Un fs ex H (upd H a o) h h' where
 keep:=λb u q _ _ _=>k b u q
 slot:=λb u q _ _ _=>⟨u.slots,k b u q⟩
 free:=λb u q n _=>by rw[zar (qAI (qM (qP q) hp))];exact n
 there:=λb u q _=>⟨u,k b u q⟩
 tups:=λb xs q=>by rw[zar (zcx q hn)];exact q
 frzs:=λb u xs q=>by rw[zar (zcx q hn)];exact q
 tbls:=λb ps q=>⟨#[],by rw[zar (zcx q hn),q];simp⟩
theorem Un.write(mu:Mut (H x))(he:e=x\/H e=some (.own x))(k:∀b u,b≠e->h.get? b=some u->h'.get? b=some u)(heo:∃u,h'.get? e=some u):Un fs ex H (upd H x o) h h':=by
 have hx:∀b,H b=none->b≠x:=λb n z=>by subst z;rw[n]at mu;exact mu
 have hb:∀b,H b=none->b≠e:=λb n z=>by
  subst z
  rcases he with r|r
  ·exact hx b n r
  ·rw[n]at r;cases r
 have hm:∀b u,H b=some u->¬Mut (some u)->b≠x:=λb u q nm z=>by subst z;rw[q]at mu;exact nm mu
 refine⟨λb u q n _ _=>k b u (hb b n) q,λb u q n _ _=>⟨u.slots,k b u (hb b n) q⟩,λb u q n _=>by rw[zar (hx b n)];exact n,λb u q _=>?_,
  λb xs q=>by rw[zar (hm b _ q λz=>z)];exact q,λb u xs q=>by rw[zar (hm b _ q λz=>z)];exact q,λb ps q=>⟨#[],by rw[zar (hm b _ q λz=>z),q];simp⟩⟩
 by_cases hbe:b=e
 ·subst hbe;exact heo
 ·exact⟨u,k b u hbe q⟩
end
noncomputable def trk(h:Heap)(H:Hp):List Addr:=(List.range h.objs.size).filter λa=>(H a).isSome
noncomputable def hidT(h:Heap)(H:Hp):Heap:=PySem.W.hideAll h (trk h H)
theorem zws(h:Heap)(H:Hp):(hidT h H).objs.size=h.objs.size:=PySem.W.hideAll_size _ _
theorem zaaj{h:Heap}{H:Hp}{b:Addr}{o:Obj}(e:h.get? b=some o)(n:H b=none):(hidT h H).get? b=some o:=
 PySem.W.hideAll_get _ e λhm=>by
  have q:(H b).isSome=true:=(qBt.mp hm).2
  rw[n]at q;simp at q
theorem zaeg{h:Heap}{H:Hp}{b:Addr}{o:Obj}(e:(hidT h H).get? b=some o):h.get? b=some o/\H b=none:=by
 have e':h.get? b=some o:=PySem.W.of_hideAll (trk h H) e
 refine⟨e',?_⟩
 cases q:H b with
 | none=>rfl
 | some x=>
  have hm:b∈trk h H:=qBt.mpr ⟨qA5.mpr (qP e'),by simp[q]⟩
  have z:(hidT h H).get? b=none:=PySem.W.hideAll_none (trk h H) hm
  rw[z]at e;cases e
set_option genInjectivity false in
structure Mod(K:qC)(mg:Str->Option Value)(base:Heap):Prop where
 kin:K.In base
 glob:base.Ns qm mg
 blt:∃mb,base.Ns builtinsNs mb/\∀x:Str,x≠"__name__"->mb x=bootBuiltins x
 nolimit:base.NoLimit
set_option genInjectivity false in
structure Cx where
 prog:Program
 w:World
 K:qC
 mg:Str->Option Value
 base:Heap
 A:Around
 N:List Str
 s₀:Shared
 H₀:Hp
 env:Env
 outer:List Env
 stack:List Env
 ex:List Addr
 fn:Str->Bool
 calm:Bool
 pn:List (Addr×Obj)
 xe:Value->Shared->Prop
noncomputable def frs(l:List Env):List Addr:=l.filterMap (·.frame)
noncomputable abbrev Cx.fs(X:Cx):List Addr:=frs X.outer
noncomputable def Vis(sc:Scope)(x:Str):Prop:=sc.names.lookup x=some .local\/sc.names.lookup x=some .cell\/sc.names.lookup x=some .free
noncomputable def visB(sc:Scope)(x:Str):Bool:=match sc.names.lookup x with
 | some .local=>true
 | some .cell=>true
 | some .free=>true
 | _=>false
theorem visB.of{sc:Scope}{x:Str}(h:visB sc x=true):Vis sc x:=by
 unfold visB at h
 cases e:sc.names.lookup x with
 | none=>rw[e]at h;cases h
 | some k=>rw[e]at h;cases k<;>first|exact .inl e|exact .inr (.inl e)|exact .inr (.inr e)|cases h
noncomputable def Loc(sc:Scope)(x:Str):Prop:=sc.names.lookup x=some .local\/sc.names.lookup x=some .cell
noncomputable def Look(env:Env)(h:Heap)(m:Str->Option Value)(x:Str)(u:Value):Prop:=
 (env.kindOf x=some .local/\m x=some u)\/((env.kindOf x=some .cell\/env.kindOf x=some .free)/\∃c,env.cells.lookup x=some c/\h.IsCell c (some u))
set_option genInjectivity false in
structure Cx.Ok(X:Cx):Prop where
 mod:Mod X.K X.mg X.base
 kind:X.env.scope.kind=.function
 glob:X.env.globals=qm
 blt:X.env.builtins=builtinsNs
 above:X.s₀.heap.objs.size<=X.env.locals
 inj:∀x y c,X.env.cells.lookup x=some c->X.env.cells.lookup y=some c->x=y
 has:∀x,(X.env.kindOf x=some .cell\/X.env.kindOf x=some .free)->∃c,X.env.cells.lookup x=some c
 cab:∀x c,X.fn x=true->X.env.cells.lookup x=some c->X.s₀.heap.objs.size<=c
 hd:X.calm=true->X.A.handled=none
 frames:X.A.frames=some X.stack
 stk:X.stack=X.outer\/(X.stack=X.env::X.outer/\X.env.frame=some X.env.locals)
 exf:∀b∈X.ex,b≠X.env.locals/\∀x c,X.env.cells.lookup x=some c->c≠b
 bs:∀b o,X.base.get? b=some o->X.s₀.heap.get? b=some o/\X.H₀ b=none
 bsz:X.base.objs.size<=X.s₀.heap.objs.size
 noex:∀b o,X.base.get? b=some o->b∉X.ex
 exfs:∀b∈X.ex,b∉X.fs
 funs:X.s₀.heap.FunFrames X.base X.outer
 frf:∀b∈X.fs,X.H₀ b=none
set_option genInjectivity false in
structure Inv(X:Cx)(pins:List (Addr×Obj))(σ:List (Option V))(H:Hp)(s:Shared):Prop where
 ok:X.Ok
 os:s.os=X.s₀.os
 bare:AllBare s.gens
 base:Un X.fs X.ex X.H₀ H X.s₀.heap s.heap
 loc:∃m,s.heap.Ns X.env.locals m/\∀(i:Nat)(x:Str)(v:V),X.N[i]?=some x->σ[i]?=some (some v)->Vis X.env.scope x->∃u,RelV v u/\Look X.env s.heap m x u
 cell:∀x c,X.env.cells.lookup x=some c->∃v,s.heap.IsCell c v
 free:H X.env.locals=none
 freeC:∀x c,X.env.cells.lookup x=some c->H c=none
 pin:∀p∈X.pn++pins,s.heap.get? p.1=some p.2/\H p.1=none/\p.1≠X.env.locals/\p.1∉X.fs/\∀v,p.2.data≠.cell v
 hok:HOk X.prog X.w H s.heap
 len:σ.length=X.N.length
section
variable{X:Cx}{pins:List (Addr×Obj)}{σ:List (Option V)}{H H':Hp}{s:Shared}{h':Heap}
theorem Cx.Ok.nofr(ok:X.Ok){b:Addr}{o:Obj}(e:X.base.get? b=some o):b∉X.fs:=λhb=>by
 have:=(ok.funs.mem hb).1
 rw[e]at this;cases this
theorem Inv.bs(I:Inv X pins σ H s):∀b o,X.base.get? b=some o->s.heap.get? b=some o/\H b=none:=λb o e=>
 ⟨I.base.keep b o (I.ok.bs b o e).1 (I.ok.bs b o e).2 (I.ok.nofr e) (I.ok.noex b o e),I.base.free b o (I.ok.bs b o e).1 (I.ok.bs b o e).2 (I.ok.noex b o e)⟩
theorem Inv.bk(I:Inv X pins σ H s):∀b o,X.base.get? b=some o->s.heap.get? b=some o:=λb o e=>(I.bs b o e).1
theorem Inv.mod(I:Inv X pins σ H s):Mod X.K X.mg X.base:=I.ok.mod
theorem Inv.kIn(I:Inv X pins σ H s):X.K.In s.heap:=I.ok.mod.kin.keeps I.bk
theorem Inv.fr(I:Inv X pins σ H s):∃m,Fr X.base X.env.locals s.heap m:=
 let⟨m,hn,_⟩:=I.loc
 ⟨m,hn,I.bk,qf I.ok.bsz I.ok.above⟩
theorem Inv.lt(I:Inv X pins σ H s):X.env.locals<s.heap.objs.size:=let⟨_,hn,_⟩:=I.loc;hn.lt
theorem Inv.sz(I:Inv X pins σ H s):X.s₀.heap.objs.size<=s.heap.objs.size:=qf I.ok.above (qBn I.lt)
theorem Inv.nofs(I:Inv X pins σ H s){a:Addr}(h:s.heap.objs.size<=a):a∉X.fs:=λhb=>by
 obtain⟨_,o,ho,_⟩:=I.ok.funs.mem hb
 exact absurd (qM (qP ho) (qf I.sz h)) (qAc _)
theorem Inv.cne(I:Inv X pins σ H s):∀x c,X.env.cells.lookup x=some c->c≠X.env.locals:=λx c e z=>by
 obtain⟨v,o,ho,hd⟩:=I.cell x c e
 obtain⟨m,⟨o',es,ep,ho',hd',_⟩,_⟩:=I.loc
 rw[z,ho']at ho;cases ho;rw[hd']at hd;cases hd
theorem Inv.funs(I:Inv X pins σ H s):s.heap.FunFrames X.base X.outer:=by
 have all:∀(l:List Env),(∀b∈frs l,b∈X.fs)->X.s₀.heap.FunFrames X.base l->s.heap.FunFrames X.base l:=by
  intro l
  induction l with
  | nil=>intro _ _;trivial
  | cons env r ih=>
   intro hs hl
   obtain⟨hk,⟨L,o,hf,hn,ho,hd⟩,hr⟩:=hl
   have hL:L∈X.fs:=hs L (by unfold frs;rw[qAz,hf];exact qt)
   obtain⟨sl,e⟩:=I.base.slot L o ho (I.ok.frf L hL) hL λz=>I.ok.exfs L z hL
   exact⟨hk,⟨L,_,hf,hn,e,hd⟩,ih (λb hb=>hs b (by unfold frs;rw[qAz,hf];exact qK _ hb)) hr⟩
 exact all X.outer (λ_ hb=>hb) I.ok.funs
theorem Inv.stack(I:Inv X pins σ H s):s.heap.FunFrames X.base X.stack:=by
 rcases I.ok.stk with e|⟨e,hf⟩
 ·rw[e];exact I.funs
 ·rw[e]
  obtain⟨m,hn,_⟩:=I.loc
  refine .cons (by rw[I.ok.kind];decide) hf hn ?_ I.funs
  exact qBO (qf I.ok.bsz I.ok.above)
theorem Inv.stkSub(I:Inv X pins σ H s):∀b∈frs X.stack,b∈X.env.locals::X.fs:=λb hb=>by
 rcases I.ok.stk with e|⟨e,hf⟩
 ·rw[e]at hb;exact qK _ hb
 ·rw[e]at hb
  unfold frs at hb
  rw[qAz,hf]at hb
  exact hb
theorem Inv.stkFree(I:Inv X pins σ H s):∀b∈frs X.stack,H b=none:=λb hb=>by
 rcases qW.mp (I.stkSub b hb)with e|hb
 ·rw[e];exact I.free
 ·obtain⟨_,o,ho,_⟩:=I.ok.funs.mem hb
  exact I.base.free b o ho (I.ok.frf b hb) λz=>I.ok.exfs b z hb
theorem Inv.step{g':Array GenState}{t':Nat}{d':Drawn}{ch:List Addr}(I:Inv X pins σ H s)
  (hch:∀b∈ch,(b∈X.ex\/X.s₀.heap.objs.size<=b)/\b≠X.env.locals/\(∀x c,X.env.cells.lookup x=some c->c≠b)/\∀p∈X.pn++pins,p.1≠b)
  (keep:∀b o,b≠X.env.locals->b∉X.fs->b∉ch->s.heap.get? b=some o->H b=none->h'.get? b=some o)
  (slot:∀b o,b≠X.env.locals->b∈X.fs->b∉ch->s.heap.get? b=some o->H b=none->∃sl,h'.get? b=some {o with slots:=sl}) (free:∀b o,b∉ch->s.heap.get? b=some o->H b=none->H' b=none)
  (there:∀b o,b∉ch->s.heap.get? b=some o->∃o',h'.get? b=some o')
  (tups:∀b xs,H b=some (.tup xs)->H' b=some (.tup xs))(frzs:∀b o u,H b=some (.frz o u)->H' b=some (.frz o u))(tbls:∀b ps,H b=some (.tbl ps)->∃more,H' b=some (.tbl (ps++more)))
  (ns:∀m,s.heap.Ns X.env.locals m->h'.Ns X.env.locals m)(hok:HOk X.prog X.w H' h')(hg:AllBare g') :
  Inv X pins σ H' {s with heap:=h',gens:=g',drawn:=d',toks:=t'}:=by
 have neL:∀b o,X.s₀.heap.get? b=some o->b≠X.env.locals:=λb o e=>qAI (qM (qP e) I.ok.above)
 have neC:∀b o,X.s₀.heap.get? b=some o->b∉X.ex->b∉ch:=λb o e hx hb=>by
  rcases(hch b hb).1 with z|z
  ·exact hx z
  ·exact absurd (qM (qP e) z) (qAc _)
 have cellK:∀x c,X.env.cells.lookup x=some c->∀v,s.heap.IsCell c v->h'.IsCell c v:=λx c e v ⟨o,ho,hd⟩=>by
  have nch:c∉ch:=λz=>(hch c z).2.2.1 x c e rfl
  by_cases hc:c∈X.fs
  ·obtain⟨sl,q⟩:=slot c o (I.cne x c e) hc nch ho (I.freeC x c e)
   exact⟨_,q,hd⟩
  ·exact⟨o,keep c o (I.cne x c e) hc nch ho (I.freeC x c e),hd⟩
 refine⟨I.ok,I.os,hg,⟨λb o e n hb hx=>?_,λb o e n hb hx=>?_,λb o e n hx=>?_,λb o e hx=>?_,λb xs e=>tups b xs (I.base.tups b xs e),λb o xs e=>frzs b o xs (I.base.frzs b o xs e),λb ps e=>?_⟩,?_,λx c e=>?_,?_,λx c e=>?_,λp hp=>?_,hok,I.len⟩
 ·exact keep b o (neL b o e) hb (neC b o e hx) (I.base.keep b o e n hb hx) (I.base.free b o e n hx)
 ·obtain⟨sl,e1⟩:=I.base.slot b o e n hb hx
  obtain⟨sl',e2⟩:=slot b _ (neL b o e) hb (neC b o e hx) e1 (I.base.free b o e n hx)
  exact⟨sl',e2⟩
 ·obtain⟨o',e1⟩:=I.base.there b o e hx
  exact free b o' (neC b o e hx) e1 (I.base.free b o e n hx)
 ·obtain⟨o',e1⟩:=I.base.there b o e hx
  exact there b o' (neC b o e hx) e1
 ·obtain⟨m1,e1⟩:=I.base.tbls b ps e
  obtain⟨m2,e2⟩:=tbls b _ e1
  exact⟨m1++m2,by rw[e2,Array.append_assoc]⟩
 ·obtain⟨m,hn,hl⟩:=I.loc
  refine⟨m,ns m hn,λi x v e1 e2 e3=>?_⟩
  obtain⟨u,r,l⟩:=hl i x v e1 e2 e3
  refine⟨u,r,?_⟩
  rcases l with l|⟨k,c,e,z⟩
  ·exact .inl l
  ·exact .inr ⟨k,c,e,cellK x c e _ z⟩
 ·obtain⟨v,z⟩:=I.cell x c e
  exact⟨v,cellK x c e v z⟩
 ·obtain⟨m,⟨o,_,_,ho,_⟩,_⟩:=I.loc
  exact free _ o (λz=>(hch _ z).2.1 rfl) ho I.free
 ·obtain⟨v,o,ho,hd⟩:=I.cell x c e
  exact free c o (λz=>(hch c z).2.2.1 x c e rfl) ho (I.freeC x c e)
 ·obtain⟨e,n,ne,nf,d⟩:=I.pin p hp
  have nch:p.1∉ch:=λz=>(hch p.1 z).2.2.2 p hp rfl
  exact⟨keep p.1 p.2 ne nf nch e n,free p.1 p.2 nch e n,ne,nf,d⟩
theorem Inv.un{t':Nat}(I:Inv X pins σ H s)(u:Un X.fs [] H H' s.heap h')(hok:HOk X.prog X.w H' h'):Inv X pins σ H' {s with heap:=h',toks:=t'}:=by
 obtain⟨m,⟨o,es,ep,ho,r⟩,_⟩:=id I.loc
 obtain⟨sl,hL⟩:=u.any ho I.free (by simp)
 exact I.step (g':=s.gens) (d':=s.drawn) (ch:=[]) (λ_ z=>nomatch z) (λb o _ hb _ e n=>u.keep b o e n hb (by simp)) (λb o _ hb _ e n=>u.slot b o e n hb (by simp)) (λb o _ e n=>u.free b o e n (by simp)) (λb o _ e=>u.there b o e (by simp)) u.tups u.frzs u.tbls (λm' hm=>by
  obtain⟨o',es',ep',ho',r'⟩:=hm
  rw[ho]at ho';cases ho'
  exact⟨_,es',ep',hL,r'⟩) hok I.bare
theorem Inv.call{g':Array GenState}{t':Nat}{d':Drawn}{ch:List Addr}(I:Inv X pins σ H s)(u:Un (frs X.stack) ch H H' s.heap h')(hok:HOk X.prog X.w H' h')(hg:AllBare g')
  (hch:∀b∈ch,(b∈X.ex\/X.s₀.heap.objs.size<=b)/\b≠X.env.locals/\(∀x c,X.env.cells.lookup x=some c->c≠b)/\∀p∈X.pn++pins,p.1≠b) :
  Inv X pins σ H' {s with heap:=h',gens:=g',drawn:=d',toks:=t'}:=by
 obtain⟨m,⟨o,es,ep,ho,r⟩,_⟩:=id I.loc
 obtain⟨sl,hL⟩:=u.any ho I.free λz=>(hch _ z).2.1 rfl
 exact I.step (ch:=ch) hch (λb o hL hb hc e n=>u.keep b o e n (λz=>(qW.mp (I.stkSub b z)).elim hL hb) hc) (λb o _ _ hc e n=>u.any e n hc) (λb o hc e n=>u.free b o e n hc) (λb o hc e=>u.there b o e hc) u.tups u.frzs u.tbls (λm' hm=>by
  obtain⟨o',es',ep',ho',r'⟩:=hm
  rw[ho]at ho';cases ho'
  exact⟨_,es',ep',hL,r'⟩) hok hg
theorem Inv.turned{t':Nat}{it:Addr}(I:Inv X pins σ H s)(k:∀b o,b≠it->s.heap.get? b=some o->h'.get? b=some o)(hn:H it=none)(hL:it≠X.env.locals)
  (h1:it∈X.ex\/X.s₀.heap.objs.size<=it) (h2:∀x c,X.env.cells.lookup x=some c->c≠it) (h3:∀p∈X.pn++pins,p.1≠it):Inv X pins σ H {s with heap:=h',toks:=t'}:=by
 have nit:∀b u,H b=some u->b≠it:=λb u e z=>by rw[z,hn]at e;cases e
 refine I.step (g':=s.gens) (d':=s.drawn) (ch:=[it]) (λb hb=>?_) (λb o _ _ hc e _=>k b o (λz=>hc (by simp[z])) e) (λb o _ _ hc e _=>⟨o.slots,k b o (λz=>hc (by simp[z])) e⟩) (λ_ _ _ _ n=>n)
  (λb o hc e=>⟨o,k b o (λz=>hc (by simp[z])) e⟩) (λ_ _ e=>e) (λ_ _ _ e=>e) (λb ps e=>⟨#[],by rw[e];simp⟩) (λm hm=>?_) (λb u e=>?_) I.bare
 ·have e:b=it:=by simpa using hb
  subst e
  exact⟨h1,hL,h2,h3⟩
 ·obtain⟨o,es,ep,ho,r⟩:=hm
  exact⟨o,es,ep,k _ o (qAo hL) ho,r⟩
 ·refine(I.hok b u e).stay (λc v hc q=>k c v ?_ q) (λ_ q=>q) λ_ _ q=>q
  rcases hc with z|z
  ·rw[z];exact nit b u e
  ·exact nit c _ z
theorem Inv.tok(I:Inv X pins σ H s)(t:Nat):Inv X pins σ H {s with toks:=t}:=I.un (h':=s.heap) (t':=t) Un.refl I.hok
theorem Inv.kept{t':Nat}(I:Inv X pins σ H s)(k:∀b u,s.heap.get? b=some u->h'.get? b=some u):Inv X pins σ H {s with heap:=h',toks:=t'}:=I.un (Un.kept k) (I.hok.kept k)
theorem Inv.laid{a:Addr}{o:HO}{t':Nat}(I:Inv X pins σ H s)(k:∀b u,s.heap.get? b=some u->h'.get? b=some u)(hp:s.heap.objs.size<=a)(new:zdh X.prog X.w (upd H a o) h' a o) :
  Inv X pins σ (upd H a o) {s with heap:=h',toks:=t'}:=I.un (Un.laid k hp (I.hok.fresh hp)) (I.hok.laid k hp new)
theorem Inv.write{x e:Addr}{o:HO}{t':Nat}(I:Inv X pins σ H s)(mu:Mut (H x))(he:e=x\/H e=some (.own x))(k:∀b u,b≠e->s.heap.get? b=some u->h'.get? b=some u)(heo:∃u,h'.get? e=some u)
  (new:zdh X.prog X.w (upd H x o) h' x o):Inv X pins σ (upd H x o) {s with heap:=h',toks:=t'}:=I.un (Un.write mu he k heo) (I.hok.write mu he k heo new)
theorem Inv.pins_of{pins':List (Addr×Obj)}(I:Inv X pins σ H s)(h:∀p∈pins',s.heap.get? p.1=some p.2/\H p.1=none/\p.1≠X.env.locals/\p.1∉X.fs/\∀v,p.2.data≠.cell v):Inv X pins' σ H s:=
 ⟨I.ok,I.os,I.bare,I.base,I.loc,I.cell,I.free,I.freeC,λp hp=>(qb.mp hp).elim (λz=>I.pin p (qAQ _ z)) (h p),I.hok,I.len⟩
theorem zop{N:List Str}(hN:N.Nodup){i j:Nat}{x:Str}(a:N[i]?=some x)(b:N[j]?=some x):i=j:=by
 obtain⟨h1,e1⟩:=qZ.mp a
 obtain⟨h2,e2⟩:=qZ.mp b
 exact(List.getElem_inj hN).mp (e1.trans e2.symm)
theorem zqb{M:Model}{A:Around}{E:Value->Shared->Prop}{i:Nat}{x:Str}{v:V}{u:Value}{Q:Unit->Shared->Prop}(I:Inv X pins σ H s)(hN:X.N.Nodup)(hi:X.N[i]?=some x)(hx:Loc X.env.scope x)(r:RelV v u)
  (h:∀s',Inv X pins (σ.set i (some v)) H s'->(∃a,Heap.SameBut a s.heap s'.heap/\(a=X.env.locals\/X.env.cells.lookup x=some a))->Q () s') (hf:X.fn x=true\/X.env.scope.names.lookup x=some .local:=by assumption):wpAny M A (storeName X.env x u) Q E s:=by
 obtain⟨m,hn,hl⟩:=id I.loc
 have hcls:(X.env.scope.kind==.class||(X.env.scope.kind==.module&&X.env.locals != X.env.globals))=false:=by rw[I.ok.kind];rfl
 have hiσ:i<σ.length:=by rw[I.len];exact(qZ.mp hi).1
 have cne:=I.cne
 have tracked:∀{a:Addr}{h':Heap},(∃o,s.heap.get? a=some o/\H a=none)->Heap.SameBut a s.heap h'->HOk X.prog X.w H h':=λ{a h'} ha hs b ob e=>by
  obtain⟨_,_,hfree⟩:=ha
  refine(I.hok b ob e).stay (λc w' hc q=>(hs.2 c ?_).trans q) (λ_ q=>q) λ_ _ q=>q
  rintro rfl
  rcases hc with rfl|hc
  ·rw[hfree]at e;cases e
  ·rw[hfree]at hc;cases hc
 rcases hx with hk|hk
 ·refine wpAny_storeName_local hk hn (λh' hn' hs=>?_) hcls
  obtain⟨oL,_,_,hoL,_⟩:=id hn
  refine h _ ⟨I.ok,I.os,I.bare,⟨λb o e n hb hx=>?_,λb o e n hb hx=>?_,I.base.free,λb o e hx=>?_,I.base.tups,I.base.frzs,I.base.tbls⟩,⟨_,hn',λj y v' e1 e2 e3=>?_⟩,λy c e=>?_,I.free,I.freeC,λp hp=>?_,tracked ⟨oL,hoL,I.free⟩ hs,by simpa using I.len⟩ ⟨_,hs,.inl rfl⟩
  ·exact(hs.2 b (qAI (qM (qP e) I.ok.above))).trans (I.base.keep b o e n hb hx)
  ·obtain⟨sl,e1⟩:=I.base.slot b o e n hb hx
   exact⟨sl,(hs.2 b (qAI (qM (qP e) I.ok.above))).trans e1⟩
  ·obtain⟨o',e1⟩:=I.base.there b o e hx
   exact⟨o',(hs.2 b (qAI (qM (qP e) I.ok.above))).trans e1⟩
  ·by_cases hj:j=i
   ·subst hj
    rw[hi]at e1;cases e1
    rw[qe hiσ]at e2
    cases e2
    exact⟨u,r,.inl ⟨hk,by simp⟩⟩
   ·rw[qH (qAo hj)]at e2
    obtain⟨u',r',q⟩:=hl j y v' e1 e2 e3
    refine⟨u',r',?_⟩
    rcases q with⟨k,e⟩|⟨k,c,e,z⟩
    ·refine .inl ⟨k,?_⟩
     have:y≠x:=λe=>hj (zop hN e1 (e▸hi))
     simp[this,e]
    ·exact .inr ⟨k,c,e,z.sameBut hs (cne y c e)⟩
  ·obtain⟨w',z⟩:=I.cell y c e
   exact⟨w',z.sameBut hs (cne y c e)⟩
  ·obtain⟨e,n,ne,nf,d⟩:=I.pin p hp
   exact⟨(hs.2 p.1 ne).trans e,n,ne,nf,d⟩
 ·have hfn:X.fn x=true:=by
   rcases hf with z|z
   ·exact z
   ·rw[z]at hk;cases hk
  obtain⟨c,hc⟩:=I.ok.has x (.inl hk)
  obtain⟨w',z⟩:=I.cell x c hc
  refine wpAny_storeName_cell I.ok.kind hk hc z (λh' hc' hs=>?_)
  obtain⟨oc,hoc,hocd⟩:=id z
  refine h {s with heap:=h'} ⟨I.ok,I.os,I.bare,⟨λb o e n hb hx=>?_,λb o e n hb hx=>?_,I.base.free,λb o e hx=>?_,I.base.tups,I.base.frzs,I.base.tbls⟩,⟨m,hn.sameBut hs (qAo (cne x c hc)),λj y v' e1 e2 e3=>?_⟩,λy c' e=>?_,I.free,I.freeC,λp hp=>?_,tracked ⟨oc,hoc,I.freeC x c hc⟩ hs,by simpa using I.len⟩ ⟨c,hs,.inr hc⟩
  ·exact(hs.2 b (qAI (qM (qP e) (I.ok.cab x c hfn hc)))).trans (I.base.keep b o e n hb hx)
  ·obtain⟨sl,e1⟩:=I.base.slot b o e n hb hx
   exact⟨sl,(hs.2 b (qAI (qM (qP e) (I.ok.cab x c hfn hc)))).trans e1⟩
  ·obtain⟨o',e1⟩:=I.base.there b o e hx
   exact⟨o',(hs.2 b (qAI (qM (qP e) (I.ok.cab x c hfn hc)))).trans e1⟩
  ·by_cases hj:j=i
   ·subst hj
    rw[hi]at e1;cases e1
    rw[qe hiσ]at e2
    cases e2
    exact⟨u,r,.inr ⟨.inl hk,c,hc,hc'⟩⟩
   ·rw[qH (qAo hj)]at e2
    obtain⟨u',r',q⟩:=hl j y v' e1 e2 e3
    refine⟨u',r',?_⟩
    rcases q with q|⟨k,c',e,z'⟩
    ·exact .inl q
    ·refine .inr ⟨k,c',e,z'.sameBut hs ?_⟩
     rintro rfl
     exact hj (zop hN e1 (I.ok.inj _ _ _ e hc▸hi))
  ·by_cases hcc:c'=c
   ·subst hcc;exact⟨_,hc'⟩
   ·obtain⟨w2,z2⟩:=I.cell y c' e
    exact⟨w2,z2.sameBut hs hcc⟩
  ·obtain⟨e,n,ne,nf,d⟩:=I.pin p hp
   refine⟨(hs.2 p.1 ?_).trans e,n,ne,nf,d⟩
   intro q
   rw[q,hoc]at e
   have q':oc=p.2:=qi e
   exact d w' (by rw[<- q'];exact hocd)
theorem zkv{M:Model}{A:Around}{E:Value->Shared->Prop}{i:Nat}{x:Str}{v:V}{u:Value}{Q:Unit->Shared->Prop}(I:Inv X pins σ H s)(hN:X.N.Nodup)(hi:X.N[i]?=some x)(hx:Loc X.env.scope x)(r:RelV v u)
  (h:∀s',Inv X pins (σ.set i (some v)) H s'->Q () s') (hf:X.fn x=true\/X.env.scope.names.lookup x=some .local:=by assumption):wpAny M A (storeName X.env x u) Q E s:=
 zqb I hN hi hx r (λs' I' _=>h s' I') hf
theorem Inv.call'{s':Shared}{ch:List Addr}(I:Inv X pins σ H s)(ho:s'.os=s.os)(u:Un (frs X.stack) ch H H' s.heap s'.heap)(hok:HOk X.prog X.w H' s'.heap)(hg:AllBare s'.gens)
  (hch:∀b∈ch,(b∈X.ex\/X.s₀.heap.objs.size<=b)/\b≠X.env.locals/\(∀x c,X.env.cells.lookup x=some c->c≠b)/\∀p∈X.pn++pins,p.1≠b):Inv X pins σ H' s':=by
 obtain⟨h',g',d',t',o'⟩:=s'
 have e:o'=s.os:=ho
 subst e
 exact I.call (g':=g') (t':=t') (d':=d') u hok hg hch
end
noncomputable abbrev XK:=Value->Option Addr->Hp->Prop
noncomputable abbrev St:=List (Option V)
noncomputable abbrev VK:=V->Hp->Prop
noncomputable abbrev TE:=St->Hp->VK->Prop
noncomputable abbrev TT:=St->Hp->(Bool->Hp->Prop)->Prop
noncomputable abbrev TA:=St->Hp->(List V->Hp->Prop)->Prop
set_option genInjectivity false in
structure Ends where
 nx:St->Hp->Prop
 rt:VK
 bk:St->Hp->Prop:=λ_ _=>False
 ct:St->Hp->Prop:=λ_ _=>False
noncomputable abbrev TS:=Ends->St->Hp->Prop
noncomputable def EP(X:Cx)(pins:List (Addr×Obj))(σ:St)(Q:VK)(u:Value)(s':Shared):Prop:=∃v H',Inv X pins σ H' s'/\RelV v u/\Q v H'
noncomputable def TP(X:Cx)(pins:List (Addr×Obj))(σ:St)(Q:Bool->Hp->Prop)(b:Bool)(s':Shared):Prop:=∃H',Inv X pins σ H' s'/\Q b H'
noncomputable def AP(X:Cx)(pins:List (Addr×Obj))(σ:St)(Q:List V->Hp->Prop)(us:List Value)(s':Shared):Prop:=∃vs H',Inv X pins σ H' s'/\Vals vs us/\Q vs H'
noncomputable def SP(X:Cx)(pins:List (Addr×Obj))(D:Ends)(f:Flow)(s':Shared):Prop:=
 match f with
 | .next=>∃σ' H',Inv X pins σ' H' s'/\D.nx σ' H'
 | .brk=>∃σ' H',Inv X pins σ' H' s'/\D.bk σ' H'
 | .cont=>∃σ' H',Inv X pins σ' H' s'/\D.ct σ' H'
 | .ret u=>∃v σ' H',Inv X pins σ' H' s'/\RelV v u/\D.rt v H'
noncomputable def PE(X:Cx)(e:Expr)(t:TE):Prop:=
 ∀(pins:List (Addr×Obj))(s:Shared)(σ:St)(H:Hp)(Q:VK),Inv X pins σ H s->t σ H Q->wpAny (model X.prog X.w) X.A (eval e X.env) (EP X pins σ Q) X.xe s
noncomputable def PT(X:Cx)(e:Expr)(t:TT):Prop:=
 ∀(pins:List (Addr×Obj))(s:Shared)(σ:St)(H:Hp)(Q:Bool->Hp->Prop),Inv X pins σ H s->t σ H Q->wpAny (model X.prog X.w) X.A (isTrue e X.env (eval e X.env)) (TP X pins σ Q) X.xe s
noncomputable def PW(X:Cx)(e:Expr)(t:TT):Prop:=
 ∀(whole:Sem Value)(pins:List (Addr×Obj))(s:Shared)(σ:St)(H:Hp)(Q:Bool->Hp->Prop),Inv X pins σ H s->t σ H Q->wpAny (model X.prog X.w) X.A (isTrue e X.env whole) (TP X pins σ Q) X.xe s
theorem PW.pt{X:Cx}{e:Expr}{t:TT}(h:PW X e t):PT X e t:=h _
noncomputable def PA(X:Cx)(es:List Expr)(t:TA):Prop:=
 ∀(pos:Pos)(pins:List (Addr×Obj))(s:Shared)(σ:St)(H:Hp)(Q:List V->Hp->Prop),Inv X pins σ H s->t σ H Q->wpAny (model X.prog X.w) X.A (spliced (backTo pos (starEach es X.env))) (AP X pins σ Q) X.xe s
noncomputable def PS(X:Cx)(st:Stmt)(t:TS):Prop:=
 ∀(pins:List (Addr×Obj))(s:Shared)(σ:St)(H:Hp)(D:Ends),Inv X pins σ H s->t D σ H->wpAny (model X.prog X.w) X.A (exec st X.env) (SP X pins D) X.xe s
noncomputable def PSs(X:Cx)(st:List Stmt)(t:TS):Prop:=
 ∀(pins:List (Addr×Obj))(s:Shared)(σ:St)(H:Hp)(D:Ends),Inv X pins σ H s->t D σ H->wpAny (model X.prog X.w) X.A (execs st X.env) (SP X pins D) X.xe s
theorem thn{α:Type}{t:Sem α}{Q Q':α->Shared->Prop}{M:Model}{A:Around}{E:Value->Shared->Prop}{s:Shared}(h:wpAny M A t Q E s)(hQ:∀a s,Q a s->Q' a s):wpAny M A t Q' E s:=qA4 h hQ λ_ _ x=>x
section
variable{X:Cx}
theorem bin{a b:Expr}{ta tb:TE}(ha:PE X a ta)(hb:PE X b tb){pins:List (Addr×Obj)}{s:Shared}{σ:St}{H:Hp}{R:V->V->Hp->Prop}(I:Inv X pins σ H s)(h:ta σ H λx H1=>tb σ H1 λy H2=>R x y H2)
  {α:Type}{Q:α->Shared->Prop}{f:Value->Value->Sem α}
  (hf:∀v u s2 x y H2,Inv X pins σ H2 s2->RelV x v->RelV y u->R x y H2->wpAny (model X.prog X.w) X.A (f v u) Q X.xe s2) :
  wpAny (model X.prog X.w) X.A (eval a X.env) (λv s₁=>wpAny (model X.prog X.w) X.A (eval b X.env) (λu s₂=>wpAny (model X.prog X.w) X.A (f v u) Q X.xe s₂) X.xe s₁) X.xe s:=by
 refine thn (ha pins s σ H _ I h) λv s1 ⟨x,H1,I1,r1,q1⟩=>?_
 refine thn (hb pins s1 σ H1 _ I1 q1) λu s2 ⟨y,H2,I2,r2,q2⟩=>?_
 exact hf v u s2 x y H2 I2 r1 r2 q2
noncomputable def tVar(i:Nat):TE:=λσ H Q=>∃v,σ[i]?=some (some v)/\Q v H
noncomputable def tC(v:V):TE:=λ_ H Q=>Q v H
theorem zacz{i:Nat}{x:Str}{pos:Pos}(hN:X.N[i]?=some x)(hv:Vis X.env.scope x)(hd:(x==("__debug__":Str))=false:=by decide)(hcd:(x==("__classdict__":Str))=false:=by decide):PE X (.Name x pos) (tVar i):=by
 intro pins s σ H Q I h
 obtain⟨v,e,h⟩:=h
 obtain⟨m,hn,hl⟩:=I.loc
 obtain⟨u,r,l⟩:=hl i x v hN e hv
 have fin:EP X pins σ Q u s:=⟨v,H,I,r,h⟩
 rcases l with⟨hk,hm⟩|⟨hk,c,hc,hcell⟩
 ·exact wpAny_Name (wpAny_loadName_local I.ok.kind hk hn hm fin) hd
 ·rcases hk with hk|hk
  ·exact wpAny_Name (wpAny_loadName_cell I.ok.kind hk hc hcell fin) hd
  ·exact wpAny_Name (wpAny_loadName_free I.ok.kind hk hc hcell fin hcd) hd
theorem zaik{i j pos}:PE X (.Constant (.int i) j pos) (tC (.int i)):=λ_ _ _ H _ I h=>wpAny_Constant_int ⟨.int i,H,I.tok _,⟨_,rfl⟩,h⟩
theorem zamo{b j pos}:PE X (.Constant (.bool b) j pos) (tC (.bl b)):=λ_ _ _ H _ I h=>Constant_bool ⟨.bl b,H,I,rfl,h⟩
theorem zwt{j pos}:PE X (.Constant .none j pos) (tC .non):=λ_ _ _ H _ I h=>Constant_none ⟨.non,H,I,rfl,h⟩
theorem zada{x j pos}:PE X (.Constant (.str x) j pos) (tC (.str x)):=λ_ _ _ H _ I h=>qCN ⟨.str x,H,I.tok _,⟨_,rfl⟩,h⟩
noncomputable def Gl(X:Cx)(x:Str):Prop:=X.env.kindOf x=some .globalImplicit
theorem zlh{E:Value->Shared->Prop}{pins:List (Addr×Obj)}{s:Shared}{σ:St}{H:Hp}{x:Str}{u:Value}{pos:Pos}{Q:Value->Shared->Prop}(I:Inv X pins σ H s)(hg:Gl X x)(hm:X.mg x=some u)(h:Q u s)
  (hd:(x==("__debug__":Str))=false:=by decide):wpAny (model X.prog X.w) X.A (eval (.Name x pos) X.env) Q E s:=
 qBv I.ok.kind hg (Calls.loadGlobal_global (by rw[I.ok.glob];exact I.mod.glob.keeps I.bk) hm h) hd
theorem zli{E:Value->Shared->Prop}{pins:List (Addr×Obj)}{s:Shared}{σ:St}{H:Hp}{x:Str}{u:Value}{pos:Pos}{Q:Value->Shared->Prop}(I:Inv X pins σ H s)(hg:Gl X x)(hm:X.mg x=none)(hv:bootBuiltins x=some u)(h:Q u s)
  (hn:x≠"__name__":=by decide) (hd:(x==("__debug__":Str))=false:=by decide):wpAny (model X.prog X.w) X.A (eval (.Name x pos) X.env) Q E s:=by
 obtain⟨mb,h1,h2⟩:=I.mod.blt
 exact qBv I.ok.kind hg (Calls.loadGlobal_builtin (by rw[I.ok.glob];exact I.mod.glob.keeps I.bk) hm (by rw[I.ok.blt];exact h1.keeps I.bk) ((h2 x hn).trans hv) h) hd
theorem zwu{x:Str}{v:V}{u:Value}{pos:Pos}(hg:Gl X x)(hm:X.mg x=none)(hv:bootBuiltins x=some u)(r:RelV v u)(hn:x≠"__name__":=by decide)(hd:(x==("__debug__":Str))=false:=by decide):PE X (.Name x pos) (tC v):=
 λ_ _ _ H _ I h=>zli I hg hm hv ⟨v,H,I,r,h⟩ hn hd
variable{a b:Expr}{ta tb:TE}{pos:Pos}
noncomputable def PC(X:Cx)(op:CmpOp)(a b:Expr)(t:TE):Prop:=
 ∀(pins:List (Addr×Obj))(s:Shared)(σ:St)(H:Hp)(Q:VK),Inv X pins σ H s->t σ H Q->
  wpAny (model X.prog X.w) X.A (eval a X.env) (λv s₁=>wpAny (model X.prog X.w) X.A (eval b X.env) (λu s₂=>wpAny (model X.prog X.w) X.A (compareOp op v u) (EP X pins σ Q) X.xe s₂) X.xe s₁) X.xe s
theorem zaak(b:Expr){op:CmpOp}(h:op≠.In)(h2:op≠.NotIn):behindInMarks op b=false:=by
 have e1:(op==CmpOp.In)=false:=by cases op<;>first|rfl|exact absurd rfl h
 have e2:(op==CmpOp.NotIn)=false:=by cases op<;>first|rfl|exact absurd rfl h2
 cases b<;>simp[behindInMarks,e1,e2]
noncomputable def tIsN(ta:TE):TE:=λσ H Q=>ta σ H λx H1=>Q (.bl (decide (x=.non))) H1
theorem RelV.none_iff{x:V}{v:Value}(r:RelV x v):(v==Value.none)=decide (x=.non):=by
 cases x with
 | non=>cases r;rfl
 | bl _=>cases r;rfl
 | int _=>obtain⟨t,rfl⟩:=r;rfl
 | str _=>obtain⟨t,rfl⟩:=r;rfl
 | byt _=>obtain⟨t,rfl⟩:=r;rfl
 | flt _=>obtain⟨t,rfl⟩:=r;rfl
 | ref _=>cases r;rfl
 | ty _=>cases r;rfl
theorem zail{j pos'}(ha:PE X a ta):PC X .Is a (.Constant .none j pos') (tIsN ta):=by
 intro pins s σ H Q I h
 refine thn (ha pins s σ H _ I h) λv s1 ⟨x,H1,I1,r1,q1⟩=>?_
 exact Constant_none (is_none_gen ⟨.bl _,H1,I1,by rw[r1.none_iff];rfl,q1⟩)
noncomputable def tB(t:TE):TT:=λσ H Q=>t σ H λx H1=>∃c,x=.bl c/\Q c H1
theorem zaim{op:CmpOp}{t:TE}(h:PC X op a b t)(h1:behindInMarks op b=false:=by rfl):PT X (.Compare a [op] [b] pos) (tB t):=by
 intro pins s σ H Q I hw
 refine wpAny_isTrue_Compare1 (thn (h pins s σ H _ I hw) λv s1 h1=>thn h1 λu s2 h2=>thn h2 λc s3 ⟨x,H1,I1,r1,q1⟩=>?_) h1
 obtain⟨d,rfl,q⟩:=q1
 cases r1
 exact qBH ⟨H1,I1,q⟩
variable{tA tB':TT}{rest:List Expr}
noncomputable def tAnd(t u:TT):TT:=λσ H Q=>t σ H λc H1=>if c=true then u σ H1 Q else Q false H1
noncomputable def tOr(t u:TT):TT:=λσ H Q=>t σ H λc H1=>if c=true then Q true H1 else u σ H1 Q
noncomputable def tNot(t:TT):TT:=λσ H Q=>t σ H λc H1=>Q (!c) H1
theorem zaeh(ha:PT X a tA):PW X (.BoolOp .And [a] pos) tA:=by
 intro wh pins s σ H Q I h
 refine isTrue_and (thn (ha pins s σ H Q I h) λc s1 e=>?_)
 cases c with
 | true=>exact isTrue_and_nil e
 | false=>exact e
theorem zadb(ha:PT X a tA):PW X (.BoolOp .Or [a] pos) tA:=by
 intro wh pins s σ H Q I h
 refine isTrue_or (thn (ha pins s σ H Q I h) λc s1 e=>?_)
 cases c with
 | false=>exact isTrue_or_nil e
 | true=>exact e
theorem zain(ha:PT X a tA)(hb:PW X (.BoolOp .And (b::rest) pos) tB'):PW X (.BoolOp .And (a::b::rest) pos) (tAnd tA tB'):=by
 intro wh pins s σ H Q I h
 refine isTrue_and (thn (ha pins s σ H _ I h) λc s1 ⟨H1,I1,q1⟩=>?_)
 cases c with
 | true=>exact hb wh pins s1 σ H1 Q I1 q1
 | false=>exact⟨H1,I1,q1⟩
theorem zaio(ha:PT X a tA)(hb:PW X (.BoolOp .Or (b::rest) pos) tB'):PW X (.BoolOp .Or (a::b::rest) pos) (tOr tA tB'):=by
 intro wh pins s σ H Q I h
 refine isTrue_or (thn (ha pins s σ H _ I h) λc s1 ⟨H1,I1,q1⟩=>?_)
 cases c with
 | true=>exact⟨H1,I1,q1⟩
 | false=>exact hb wh pins s1 σ H1 Q I1 q1
theorem zadc(ha:PT X a tA):PT X (.UnaryOp .Not a pos) (tNot tA):=by
 intro pins s σ H Q I h
 exact isTrue_not (ha pins s σ H (λc H1=>Q (!c) H1) I h)
end
noncomputable def SqL(K:qC)(H:Hp)(a:Addr)(xs:List V):Prop:=
 Rd H a (.lst xs)\/
  ∃(o:Obj)(its:Array Value)(n:Nat),K.lookup a=some o/\o.cls=.type "list"/\o.dict=none/\o.data=.seq its n/\its.size<=qQ/\Vals xs its.toList
noncomputable def SqT(K:qC)(H:Hp)(a:Addr)(xs:List V):Prop:=
 Rd H a (.tup xs)\/
  ∃(o:Obj)(its:Array Value)(n:Nat),K.lookup a=some o/\o.cls=.type "tuple"/\o.data=.seq its n/\its.size<=qQ/\Vals xs its.toList
noncomputable def absV:Value->Option V
 | .none=>some .non
 | .bool b=>some (.bl b)
 | .int i _=>some (.int i)
 | .str x _=>some (.str x)
 | .bytes b _=>some (.byt b)
 | .float b _=>some (.flt b)
 | .ref a=>some (.ref a)
 | .type n=>some (.ty n)
 | _=>none
theorem RelV.abs{x:V}{u:Value}(r:RelV x u):absV u=some x:=by
 cases x with
 | non=>cases r;rfl
 | bl _=>cases r;rfl
 | int _=>obtain⟨t,rfl⟩:=r;rfl
 | str _=>obtain⟨t,rfl⟩:=r;rfl
 | byt _=>obtain⟨t,rfl⟩:=r;rfl
 | flt _=>obtain⟨t,rfl⟩:=r;rfl
 | ref _=>cases r;rfl
 | ty _=>cases r;rfl
theorem RelV.inj{x y:V}{u:Value}(r:RelV x u)(q:RelV y u):x=y:=qi (r.abs.symm.trans q.abs)
theorem Vals.inj:∀{xs ys:List V}{us:List Value},Vals xs us->Vals ys us->xs=ys
 | _,_,_,.nil,.nil=>rfl
 | _,_,_,.cons r t,.cons r' t'=>by rw[r.inj r',Vals.inj t t']
section
variable{X:Cx}{pins:List (Addr×Obj)}{σ:St}{H:Hp}{s:Shared}{a:Addr}{xs ys:List V}
theorem SqL.of{K:qC}(h:H a=some (.lst xs)):SqL K H a xs:=.inl (.inl h)
theorem SqT.of{K:qC}(h:H a=some (.tup xs)):SqT K H a xs:=.inl (.inl h)
theorem Inv.list(I:Inv X pins σ H s)(h:SqL X.K H a xs):∃its:List Value,Vals xs its/\PlainL s.heap a its.toArray/\xs.length<=qQ:=by
 rcases h with h|⟨o,its,n,hk,hc,hd,hs,hz,r⟩
 ·obtain⟨z,its,n,r,e⟩:=h.ok I.hok
  exact⟨its,r,⟨_,n,e,rfl,rfl,rfl⟩,z⟩
 ·refine⟨its.toList,r,⟨o,n,I.kIn a o hk,hc,hd,by simpa using hs⟩,?_⟩
  have e:=r.length
  simp only[qAj]at e
  omega
theorem Inv.tuple(I:Inv X pins σ H s)(h:SqT X.K H a xs):∃its:List Value,Vals xs its/\IsTup s.heap a its.toArray/\xs.length<=qQ:=by
 rcases h with h|⟨o,its,n,hk,hc,hs,hz,r⟩
 ·obtain⟨z,its,r,p⟩:=h.ok I.hok
  exact⟨its,r,p,z⟩
 ·refine⟨its.toList,r,⟨o,I.kIn a o hk,hc,n,by simpa using hs⟩,?_⟩
  have e:=r.length
  simp only[qAj]at e
  omega
theorem Inv.list_inj(I:Inv X pins σ H s)(h:SqL X.K H a xs)(h':SqL X.K H a ys):xs=ys:=by
 obtain⟨its,r,⟨o,n,e,_,_,d⟩,_⟩:=I.list h
 obtain⟨its',r',⟨o',n',e',_,_,d'⟩,_⟩:=I.list h'
 rw[e]at e';cases e'
 rw[d]at d'
 injection d' with d1 _
 have:its=its':=by simpa using congrArg Array.toList d1
 subst this
 exact r.inj r'
theorem Inv.tuple_inj(I:Inv X pins σ H s)(h:SqT X.K H a xs)(h':SqT X.K H a ys):xs=ys:=by
 obtain⟨its,r,⟨o,e,_,n,d⟩,_⟩:=I.tuple h
 obtain⟨its',r',⟨o',e',_,n',d'⟩,_⟩:=I.tuple h'
 rw[e]at e';cases e'
 rw[d]at d'
 injection d' with d1 _
 have:its=its':=by simpa using congrArg Array.toList d1
 subst this
 exact r.inj r'
end
noncomputable abbrev Cx.wish(X:Cx)(E:Value->Shared->Prop):Cx:={X with xe:=E}
noncomputable abbrev Cx.nox(X:Cx):Cx:=X.wish λ_ _=>False
theorem Cx.Ok.wish{X:Cx}(ok:X.Ok)(E:Value->Shared->Prop):(X.wish E).Ok:=
 ⟨ok.mod,ok.kind,ok.glob,ok.blt,ok.above,ok.inj,ok.has,ok.cab,ok.hd,ok.frames,ok.stk,ok.exf,ok.bs,ok.bsz,ok.noex,ok.exfs,ok.funs,ok.frf⟩
theorem Cx.Ok.unwish{X:Cx}{E:Value->Shared->Prop}(ok:(X.wish E).Ok):X.Ok:=
 ⟨ok.mod,ok.kind,ok.glob,ok.blt,ok.above,ok.inj,ok.has,ok.cab,ok.hd,ok.frames,ok.stk,ok.exf,ok.bs,ok.bsz,ok.noex,ok.exfs,ok.funs,ok.frf⟩
section
variable{X:Cx}{pins:List (Addr×Obj)}{σ:St}{H:Hp}{s:Shared}{E:Value->Shared->Prop}
theorem Inv.wish(I:Inv X pins σ H s)(E:Value->Shared->Prop):Inv (X.wish E) pins σ H s:=⟨I.ok.wish E,I.os,I.bare,I.base,I.loc,I.cell,I.free,I.freeC,I.pin,I.hok,I.len⟩
theorem Inv.unwish(I:Inv (X.wish E) pins σ H s):Inv X pins σ H s:=⟨I.ok.unwish,I.os,I.bare,I.base,I.loc,I.cell,I.free,I.freeC,I.pin,I.hok,I.len⟩
theorem SP.unwish{D:Ends}{f:Flow}{s':Shared}(h:SP (X.wish E) pins D f s'):SP X pins D f s':=by
 cases f with
 | next=>obtain⟨σ',H',I,q⟩:=h;exact⟨σ',H',I.unwish,q⟩
 | brk=>obtain⟨σ',H',I,q⟩:=h;exact⟨σ',H',I.unwish,q⟩
 | cont=>obtain⟨σ',H',I,q⟩:=h;exact⟨σ',H',I.unwish,q⟩
 | ret u=>obtain⟨v,σ',H',I,r,q⟩:=h;exact⟨v,σ',H',I.unwish,r,q⟩
theorem PSs.nox{st:List Stmt}{t:TS}(h:PSs X.nox st t):PSs X st t:=λpins s σ H D I hw=>
 qA4 (h pins s σ H D (I.wish _) hw) (λ_ _ q=>q.unwish) λ_ _ z=>False.elim z
end
section
variable{X:Cx}{st:Stmt}{rest:List Stmt}{t u:TS}{e:Expr}{te:TE}{pos:Pos}
noncomputable def tNext:TS:=λD σ H=>D.nx σ H
noncomputable def tSeq(t u:TS):TS:=λD σ H=>t {D with nx:=u D} σ H
theorem zoq:PSs X [] tNext:=λ_ _ σ H _ I h=>qAq ⟨σ,H,I,h⟩
theorem zfy(h1:PS X st t)(h2:PSs X rest u):PSs X (st::rest) (tSeq t u):=by
 intro pins s σ H D I h
 refine qB1 (thn (h1 pins s σ H {D with nx:=u D} I h) λf s1 q=>?_)
 cases f with
 | next=>
  obtain⟨σ',H',I',q⟩:=q
  exact h2 pins s1 σ' H' D I' q
 | ret v=>exact q
 | brk=>exact q
 | cont=>exact q
theorem zin(h1:PS X st t):PSs X [st] t:=by
 intro pins s σ H D I h
 refine qB1 (thn (h1 pins s σ H D I h) λf s1 q=>?_)
 cases f with
 | next=>exact qAq q
 | ret v=>exact q
 | brk=>exact q
 | cont=>exact q
theorem Inv.quiet{pins:List (Addr×Obj)}{σ:St}{H:Hp}{s:Shared}(I:Inv X pins σ H s):interactive X.env=false:=by simp[interactive,I.ok.kind]
noncomputable def tDrop(te:TE):TS:=λD σ H=>te σ H λ_ H1=>D.nx σ H1
theorem zwv(he:PE X e te)(hs:swapsWith e none pos.line X.env=pure false:=by rfl):PS X (.Expr e pos) (tDrop te):=by
 intro pins s σ H D I h
 exact wpAny_Expr_any (thn (he pins s σ H _ I h) λv s1 ⟨x,H1,I1,r1,q1⟩=>⟨σ,H1,I1,q1⟩) I.quiet hs
noncomputable def tRet(te:TE):TS:=λD σ H=>te σ H D.rt
theorem zqc(he:PE X e te):PS X (.Return (some e) pos) (tRet te):=by
 intro pins s σ H D I h
 exact wpAny_Return_some (thn (he pins s σ H _ I h) λv s1 ⟨x,H1,I1,r1,q1⟩=>⟨x,σ,H1,I1,r1,q1⟩)
noncomputable def tIfS(c:TT)(t u:TS):TS:=λD σ H=>c σ H λb H1=>if b=true then t D σ H1 else u D σ H1
theorem zaal{c:Expr}{a b:List Stmt}{tc:TT}(hc:PT X c tc)(ha:PSs X a t)(hb:PSs X b u):PS X (.If c a b pos) (tIfS tc t u):=by
 intro pins s σ H D I h
 refine wpAny_If (thn (hc pins s σ H _ I h) λd s1 ⟨H1,I1,q1⟩=>?_)
 cases d with
 | true=>exact ha pins s1 σ H1 D I1 q1
 | false=>exact hb pins s1 σ H1 D I1 q1
end
noncomputable abbrev TG:=V->St->Hp->(St->Hp->Prop)->Prop
noncomputable abbrev TGs:=List V->St->Hp->(St->Hp->Prop)->Prop
noncomputable def PG(X:Cx)(target:Expr)(t:TG):Prop:=
 ∀(pins:List (Addr×Obj))(s:Shared)(σ:St)(H:Hp)(v:V)(u:Value)(Q:St->Hp->Prop),Inv X pins σ H s->RelV v u->t v σ H Q->
  wpAny (model X.prog X.w) X.A (assign target X.env u) (λ_ s'=>∃σ' H',Inv X pins σ' H' s'/\Q σ' H') X.xe s
noncomputable def PGs(X:Cx)(ts:List Expr)(t:TGs):Prop:=
 ∀(pins:List (Addr×Obj))(s:Shared)(σ:St)(H:Hp)(vs:List V)(us:List Value)(Q:St->Hp->Prop),Inv X pins σ H s->Vals vs us->t vs σ H Q->
  wpAny (model X.prog X.w) X.A (assignInOrder ((assignEach ts X.env).map (·.2)) us) (λ_ s'=>∃σ' H',Inv X pins σ' H' s'/\Q σ' H') X.xe s
noncomputable abbrev TSet:=V->V->V->Hp->(Hp->Prop)->Prop
noncomputable def PSet(X:Cx)(t:TSet):Prop:=
 ∀(pins:List (Addr×Obj))(s:Shared)(σ:St)(H:Hp)(o i v:V)(ov iv u:Value)(Q:Hp->Prop),Inv X pins σ H s->RelV o ov->RelV i iv->RelV v u->t o i v H Q->
  wpAny (model X.prog X.w) X.A (setItem ov iv u) (λ_ s'=>∃H',Inv X pins σ H' s'/\Q H') X.xe s
section
variable{X:Cx}{pos:Pos}
noncomputable def gName(i:Nat):TG:=λv σ H Q=>Q (σ.set i (some v)) H
theorem zaei{i:Nat}{x:Str}(hN:X.N.Nodup)(hi:X.N[i]?=some x)(hx:Loc X.env.scope x)(hf:X.fn x=true\/X.env.scope.names.lookup x=some .local:=by assumption):PG X (.Name x pos) (gName i):=by
 intro pins s σ H v u Q I r h
 exact wpAny_assign_Name (zkv I hN hi hx r (λs' I'=>⟨_,H,I',h⟩) hf)
noncomputable def gNil:TGs:=λvs σ H Q=>vs=[]/\Q σ H
noncomputable def gCons(t:TG)(u:TGs):TGs:=λvs σ H Q=>∃v r,vs=v::r/\t v σ H λσ' H'=>u r σ' H' Q
theorem zaej:PGs X [] gNil:=by
 intro pins s σ H vs us Q I r h
 obtain⟨e,h⟩:=h
 subst e
 cases r
 exact assignInOrder_nil ⟨σ,H,I,h⟩
theorem zaam{e:Expr}{es:List Expr}{t:TG}{u:TGs}(h1:PG X e t)(h2:PGs X es u)
  (hs:(assignEach (e::es) X.env).map (·.2)=assign e X.env::(assignEach es X.env).map (·.2):=by rfl):PGs X (e::es) (gCons t u):=by
 intro pins s σ H vs us Q I r h
 obtain⟨v,vr,e1,h⟩:=h
 subst e1
 cases r with
 | cons r rr=>
  rw[hs]
  refine assignInOrder_cons (thn (h1 pins s σ H _ _ _ I r h) λ_ s1 ⟨σ1,H1,I1,q1⟩=>?_)
  exact h2 pins s1 σ1 H1 _ _ Q I1 rr q1
noncomputable def gTup(K:qC)(n:Nat)(t:TGs):TG:=λv σ H Q=>∃a xs,v=.ref a/\SqT K H a xs/\xs.length=n/\t xs σ H Q
theorem zaip{es:List Expr}{k:Nat}{t:TGs}{n:Nat}(hc:X.calm=true)(h:PGs X es t)
  (hn:(assignEach es X.env).length=n:=by rfl) (hst:(assignEach es X.env).findIdx? (·.1)=none:=by rfl):PG X (.Tuple es k pos) (gTup X.K n t):=by
 intro pins s σ H v u Q I r hw
 obtain⟨a,xs,e1,hq,hl,hw⟩:=hw
 subst e1
 cases r
 obtain⟨its,rv,ht,hz⟩:=I.tuple hq
 refine assign_Tuple_tuple (I.ok.hd hc) ht (by simp[hn,<- hl,rv.length]) hst λh' hx=>?_
 have I1:Inv X pins σ H {s with heap:=h'}:=I.kept (t':=s.toks) λb o e=>hx b o (qAI (qP e)) e
 exact h pins _ σ H xs _ Q I1 (by simpa using rv) hw
noncomputable def gSub(to ti:TE)(t:TSet):TG:=λv σ H Q=>to σ H λo H1=>ti σ H1 λi H2=>t o i v H2 λH3=>Q σ H3
theorem zaiq{o i:Expr}{to ti:TE}{t:TSet}(ho:PE X o to)(hi:PE X i ti)(hs:PSet X t)
  (ha:∀v,assign (.Subscript o i pos) X.env v=(do
   let ov <- holding [v] (eval o X.env)
   let iv <- holding [v,ov] (eval i X.env)
   standAt pos
   holding [v,ov,iv] (setItem ov iv v)
   release [v,ov,iv] []):=by intro _;rfl):PG X (.Subscript o i pos) (gSub to ti t):=by
 intro pins s σ H v u Q I r h
 rw[ha]
 refine qV (qBq (thn (ho pins s σ H _ I h) λov s1 ⟨x,H1,I1,r1,q1⟩=>?_))
 refine qV (qBq (thn (hi pins s1 σ H1 _ I1 q1) λiv s2 ⟨y,H2,I2,r2,q2⟩=>?_))
 refine qV (qBN (qV (qBq (thn (hs pins s2 σ H2 x y v ov iv u _ I2 r1 r2 r q2) λ_ s3 ⟨H3,I3,q3⟩=>?_))))
 exact wpAny_release ⟨σ,H3,I3,q3⟩
noncomputable def tAsg(te:TE)(g:TG):TS:=λD σ H=>te σ H λx H1=>g x σ H1 D.nx
theorem zadd{tg e:Expr}{te:TE}{g:TG}(he:PE X e te)(hg:PG X tg g)(hs:swapsWithSole [tg] e pos.line X.env=pure false:=by rfl)(hw:swappedStores [tg] e X.env=pure none:=by rfl)
  (h1:(assignEach [tg] X.env).map (·.2)=[assign tg X.env]:=by rfl):PS X (.Assign [tg] e pos) (tAsg te g):=by
 intro pins s σ H D I h
 refine wpAny_Assign_stores (thn (he pins s σ H _ I h) λv s1 ⟨x,H1,I1,r1,q1⟩=>?_) hs hw
 rw[h1]
 exact thn (hg pins s1 σ H1 x v _ I1 r1 q1) λ_ s2 q=>q
theorem zty{i:Nat}{x:Str}{e:Expr}{te:TE}{pos':Pos}(hN:X.N.Nodup)(hi:X.N[i]?=some x)(hx:Loc X.env.scope x)(he:PE X e te)(hs:swapsWith e (some (.Name x pos')) pos.line X.env=pure false:=by rfl)(hf:X.fn x=true\/X.env.scope.names.lookup x=some .local:=by assumption) :
  PS X (.Assign [.Name x pos'] e pos) (tAsg te (gName i)):=by
 intro pins s σ H D I h
 refine wpAny_Assign_Name (thn (he pins s σ H _ I h) λv s1 ⟨y,H1,I1,r1,q1⟩=>?_) hs
 exact zkv I1 hN hi hx r1 (λs2 I2=>⟨_,H1,I2,q1⟩) hf
end
section
variable{X:Cx}{pos:Pos}
noncomputable def tWhile(c:TT)(tb:TS):TS:=λD σ H=>∃W:Nat->St->Hp->Prop,(∃m,W m σ H)/\∀m σ H,W m σ H->
 c σ H λb H1=>if b=true then ∃N:St->Hp->Prop,(∀σ' H',N σ' H'->∃m',m'<m/\W m' σ' H')/\tb {D with nx:=N,ct:=N,bk:=D.nx} σ H1 else D.nx σ H1
theorem zaan{c:Expr}{body:List Stmt}{tc:TT}{tb:TS}(hp:PassesOwn (model X.prog X.w) X.A X.env X.xe)(hc:PT X c tc)(hb:PSs X body tb):PS X (.While c body [] pos) (tWhile tc tb):=by
 intro pins s σ H D I h
 obtain⟨W,⟨m0,w0⟩,turn⟩:=h
 refine wpAny_While (codeAny_whileLoop (λn s'=>∃σ' H',Inv X pins σ' H' s'/\W n σ' H') ?_ m0 ⟨σ,H,I,w0⟩)
 rintro n s1 ⟨σ1,H1,I1,w1⟩
 refine qAh hp (thn (hc pins s1 σ1 H1 _ I1 (turn n σ1 H1 w1)) λb s2 ⟨H2,I2,q2⟩=>?_)
 cases b with
 | true=>
  obtain⟨N,hN,q2⟩:=q2
  rw[if_pos rfl]
  refine qAh hp (thn (hb pins s2 σ1 H2 _ I2 q2) λf s3 q3=>?_)
  cases f with
  | next=>
   obtain⟨σ3,H3,I3,n3⟩:=q3
   obtain⟨m',hm,w3⟩:=hN σ3 H3 n3
   exact⟨m',hm,σ3,H3,I3,w3⟩
  | cont=>
   obtain⟨σ3,H3,I3,n3⟩:=q3
   obtain⟨m',hm,w3⟩:=hN σ3 H3 n3
   exact⟨m',hm,σ3,H3,I3,w3⟩
  | brk=>exact q3
  | ret v=>exact q3
 | false=>
  rw[if_neg qL]
  exact qAq ⟨σ1,H2,I2,q2⟩
end
set_option genInjectivity false in
structure It where
 go:Nat->Hp->Prop
 yld:Nat->Hp->V->Hp->Prop
 stop:Nat->Hp->Prop
noncomputable def FpOk(X:Cx)(pins:List (Addr×Obj))(H:Hp)(b:Addr):Prop:=
 H b=none/\b≠X.env.locals/\b∉X.fs/\(b∈X.ex\/X.s₀.heap.objs.size<=b)/\(∀x c,X.env.cells.lookup x=some c->c≠b)/\∀p∈X.pn++pins,p.1≠b
theorem Inv.fpOk{X:Cx}{pins:List (Addr×Obj)}{σ:St}{H H':Hp}{s:Shared}{b:Addr}(I:Inv X pins σ H s)(hb:s.heap.objs.size<=b)(hn:H' b=none):FpOk X pins H' b:=by
 refine⟨hn,qCF (qM I.lt hb),I.nofs hb,.inr (qf I.sz hb),λx c e z=>?_,λp hp z=>?_⟩
 ·obtain⟨v,q⟩:=I.cell x c e
  exact absurd (qM q.lt (by rw[z];exact hb)) (qAc _)
 ·exact absurd (qM (qP (I.pin p hp).1) (by rw[z];exact hb)) (qAc _)
set_option genInjectivity false in
structure Turn(P:Program)(w:World)(K:qC)(tg:Expr)(J:It)(fp:List Addr)(it:Addr)(tn:Nat->Heap->Prop):Prop where
 mem:it∈fp
 obj:∀i h,tn i h->∀b∈fp,∃o,h.get? b=some o/\∀v,o.data≠.cell v
 keep:∀i h h',tn i h->(∀b∈fp,∀o,h.get? b=some o->h'.get? b=some o)->tn i h'
 item:∀(X:Cx),X.prog=P->X.w=w->X.K=K->X.calm=true->∀(i:Nat)(pins:List (Addr×Obj))(s:Shared)(σ:St)(H:Hp)(E:Value->Shared->Prop),Inv X pins σ H s->(∀b∈fp,FpOk X pins H b)->tn i s.heap->J.go i H->
  wpAny (model P w) X.A (pyNext (.ref it)) (λr s1=>∃u,r=some u/\
   wpAny (model P w) X.A (letOwnedTupleGo tg (.ref it) u) (λ_ s2=>∃x H',Inv X pins σ H' s2/\RelV x u/\J.yld i H x H'/\tn (i+1) s2.heap/\∀b∈fp,H' b=none) E s1) E s
 done:∀(X:Cx),X.prog=P->X.w=w->X.K=K->X.calm=true->∀(i:Nat)(pins:List (Addr×Obj))(s:Shared)(σ:St)(H:Hp)(E:Value->Shared->Prop),Inv X pins σ H s->(∀b∈fp,FpOk X pins H b)->tn i s.heap->J.stop i H->
  wpAny (model P w) X.A (pyNext (.ref it)) (λr s1=>r=none/\Inv X pins σ H s1) E s
 self:∀(A:Around)(i:Nat)(s:Shared)(Q:Value->Shared->Prop)(E:Value->Shared->Prop),tn i s.heap->Q (.ref it) s->wpAny (model P w) A (pyIter (.ref it)) Q E s
noncomputable abbrev TI:=St->Hp->(It->Hp->Prop)->Prop
noncomputable def PIE(X:Cx)(pins:List (Addr×Obj))(σ:St)(tg:Expr)(R:It->Hp->Prop)(itv:Value)(s2:Shared):Prop:=
 ∃(it:Addr)(fp:List Addr)(tn:Nat->Heap->Prop)(J:It)(H':Hp),itv=.ref it/\Inv X pins σ H' s2/\Turn X.prog X.w X.K tg J fp it tn/\tn 0 s2.heap/\(∀b∈fp,FpOk X pins H' b)/\R J H'
noncomputable def PI(X:Cx)(tg iter:Expr)(wi:TI):Prop:=
 ∀(pins:List (Addr×Obj))(s:Shared)(σ:St)(H:Hp)(R:It->Hp->Prop),Inv X pins σ H s->wi σ H R->
  wpAny (model X.prog X.w) X.A (eval iter X.env) (λv s1=>wpAny (model X.prog X.w) X.A (pyIter v) (PIE X pins σ tg R) X.xe s1) X.xe s
theorem zaek{M:Model}{A:Around}{E:Value->Shared->Prop}{s:Shared}{tg:Expr}{it:Addr}{u:Value}{o:Obj}{n:String}{vs:Array Value}{Q:Unit->Shared->Prop}(ho:s.heap.get? it=some o)(hc:o.cls=.type n)(hd:o.data=.fields vs)
  (hn:["enumerate","zip","dict_itemiterator","dict_reverseitemiterator","odict_iterator","itertools.zip_longest","itertools.pairwise"].contains n=false) (hQ:Q () s):wpAny M A (letOwnedTupleGo tg (.ref it) u) Q E s:=by
 unfold letOwnedTupleGo
 cases tg<;>first
  | exact qv hQ
  | (cases u<;>first
    | exact qv hQ
    | (refine qV (wpAny_load ho ?_)
       rw[hc,hd]
       show wpAny M A (if(["enumerate","zip","dict_itemiterator","dict_reverseitemiterator","odict_iterator","itertools.zip_longest","itertools.pairwise"].contains n&&vs[0]?==some (rawInt _))=true then _ else _) Q E s
       rw[if_neg (by intro h;rw[hn,Bool.false_and]at h;cases h)]
       exact qv hQ))
noncomputable def Itl(K:qC)(a:Addr):It:=
 ⟨λi H=>∃xs x,SqL K H a xs/\xs[i]?=some x,λi H x H'=>H'=H/\∀xs,SqL K H a xs->xs[i]?=some x,λi H=>∃xs,SqL K H a xs/\xs.length<=i⟩
noncomputable def Itt(K:qC)(a:Addr):It:=
 ⟨λi H=>∃xs x,SqT K H a xs/\xs[i]?=some x,λi H x H'=>H'=H/\∀xs,SqT K H a xs->xs[i]?=some x,λi H=>∃xs,SqT K H a xs/\xs.length<=i⟩
noncomputable def Itr(lo:Int)(n:Nat):It:=⟨λi _=>i<n,λi H x H'=>H'=H/\x=.int (lo+i),λi _=>n<=i⟩
theorem zww{P:Program}{w:World}{K:qC}{tg:Expr}(a it:Addr):Turn P w K tg (Itl K a) [it] it (λi h=>h.IsListIter it a i) where
 mem:=by simp
 obj:=λi h st b hb=>by
  have e:b=it:=by simpa using hb
  subst e
  obtain⟨o,e,c,d⟩:=st
  exact⟨o,e,λv z=>by rw[d]at z;cases z⟩
 keep:=λi h h' st k=>st.at λo e=>k it (by simp) o e
 item:=by
  intro X hP hw hK hc i pins s σ H E I hf st hg
  subst hP hw hK
  obtain⟨xs,x,hq,hx⟩:=hg
  obtain⟨its,rv,p,hz⟩:=I.list hq
  obtain⟨u,hu,ru⟩:=rv.get hx
  obtain⟨f0,f1,f2,f3,f4,f5⟩:=hf it (by simp)
  refine wpAny_pyNext_list_item st p.isList (x:=u) (by simpa using hu) λh' st' sb=>?_
  have I1:Inv X pins σ H {s with heap:=h'}:=I.turned (t':=s.toks) (λb o hb e=>(sb.2 b hb).trans e) f0 f1 f3 f4 f5
  obtain⟨o,e,c,d⟩:=id st'
  exact⟨u,rfl,zaek (s:={s with heap:=h'}) e c d (by decide) ⟨x,H,I1,ru,⟨rfl,λys hy=>by rw[I.list_inj hy hq];exact hx⟩,st',λb hb=>(hf b hb).1⟩⟩
 done:=by
  intro X hP hw hK hc i pins s σ H E I hf st hg
  subst hP hw hK
  obtain⟨xs,hq,hx⟩:=hg
  obtain⟨its,rv,p,hz⟩:=I.list hq
  obtain⟨f0,f1,f2,f3,f4,f5⟩:=hf it (by simp)
  have hl:=rv.length
  exact wpAny_pyNext_list_end (I.ok.hd hc) st p.isList (by simp;omega) λh' eb=>⟨rfl,I.turned (t':=s.toks) (λb o hb e=>eb b o hb e) f0 f1 f3 f4 f5⟩
 self:=λ_ _ _ _ _ st h=>wpAny_pyIter_listiter st h
theorem zvb{P:Program}{w:World}{K:qC}{tg:Expr}(a it:Addr):Turn P w K tg (Itt K a) [it] it (λi h=>h.IsTupleIter it a i) where
 mem:=by simp
 obj:=λi h st b hb=>by
  have e:b=it:=by simpa using hb
  subst e
  obtain⟨o,e,c,d⟩:=st
  exact⟨o,e,λv z=>by rw[d]at z;cases z⟩
 keep:=λi h h' st k=>st.at λo e=>k it (by simp) o e
 item:=by
  intro X hP hw hK hc i pins s σ H E I hf st hg
  subst hP hw hK
  obtain⟨xs,x,hq,hx⟩:=hg
  obtain⟨its,rv,p,hz⟩:=I.tuple hq
  obtain⟨u,hu,ru⟩:=rv.get hx
  obtain⟨f0,f1,f2,f3,f4,f5⟩:=hf it (by simp)
  refine wpAny_pyNext_tuple_item st (show s.heap.IsTuple a its.toArray from p) (x:=u) (by simpa using hu) λh' st' sb=>?_
  have I1:Inv X pins σ H {s with heap:=h'}:=I.turned (t':=s.toks) (λb o hb e=>(sb.2 b hb).trans e) f0 f1 f3 f4 f5
  obtain⟨o,e,c,d⟩:=id st'
  exact⟨u,rfl,zaek (s:={s with heap:=h'}) e c d (by decide) ⟨x,H,I1,ru,⟨rfl,λys hy=>by rw[I.tuple_inj hy hq];exact hx⟩,st',λb hb=>(hf b hb).1⟩⟩
 done:=by
  intro X hP hw hK hc i pins s σ H E I hf st hg
  subst hP hw hK
  obtain⟨xs,hq,hx⟩:=hg
  obtain⟨its,rv,p,hz⟩:=I.tuple hq
  obtain⟨f0,f1,f2,f3,f4,f5⟩:=hf it (by simp)
  have hl:=rv.length
  exact wpAny_pyNext_tuple_end (I.ok.hd hc) st (show s.heap.IsTuple a its.toArray from p) (by simp;omega) λh' eb=>⟨rfl,I.turned (t':=s.toks) (λb o hb e=>eb b o hb e) f0 f1 f3 f4 f5⟩
 self:=λ_ _ _ _ _ st h=>wpAny_pyIter_tupleiter st h
theorem zvc{P:Program}{w:World}{K:qC}{tg:Expr}(it:Addr)(lo:Int)(n:Nat):Turn P w K tg (Itr lo n) [it] it (λi h=>IsRangeIter h it (lo+(i:Nat) * 1) ((n:Int) - (i:Nat)) 1) where
 mem:=by simp
 obj:=λi h st b hb=>by
  have e:b=it:=by simpa using hb
  subst e
  exact⟨_,st,λv z=>by
   have z':Data.fields _=Data.cell v:=z
   cases z'⟩
 keep:=λi h h' st k=>k it (by simp) _ st
 item:=by
  intro X hP hw hK hc i pins s σ H E I hf st hg
  subst hP hw hK
  obtain⟨f0,f1,f2,f3,f4,f5⟩:=hf it (by simp)
  have W:=Walks.range (prog:=X.prog) (w:=X.w) (I.ok.hd hc) it lo 1 n
  refine W.item i s _ _ hg st λv h' tk hv st' kk=>?_
  obtain⟨t,rfl⟩:=hv
  have I1:Inv X pins σ H {s with heap:=h',toks:=tk}:=I.turned (λb o hb e=>kk b o (by simpa using hb) e) f0 f1 f3 f4 f5
  refine⟨_,rfl,zaek (s:={s with heap:=h',toks:=tk}) (n:="range_iterator") st' rfl rfl (by decide) ⟨.int (lo+i),H,I1,⟨t,?_⟩,⟨rfl,rfl⟩,st',λb hb=>(hf b hb).1⟩⟩
  rw[Int.mul_one]
 done:=by
  intro X hP hw hK hc i pins s σ H E I hf st hg
  subst hP hw hK
  obtain⟨f0,f1,f2,f3,f4,f5⟩:=hf it (by simp)
  exact wpAny_pyNext_range_end (I.ok.hd hc) st (by have:n<=i:=hg;omega) λh' eb=>⟨rfl,I.turned (t':=s.toks) (λb o hb e=>eb b o hb e) f0 f1 f3 f4 f5⟩
 self:=λ_ _ _ _ _ st h=>wpAny_pyIter_rangeiter st h
section
variable{X:Cx}{tg:Expr}
theorem zaao{pins:List (Addr×Obj)}{σ:St}{H:Hp}{s:Shared}{R:It->Hp->Prop}{E:Value->Shared->Prop}{lo hi:Int}{t u v:Tok}{tk:Nat}(I:Inv X pins σ H s)(h1:-(2 ^ 62)<=lo)(h2:lo<2 ^ 62)(h3:-(2 ^ 62)<=hi)(h4:hi<2 ^ 62)
  (q:R (Itr lo (hi - lo).toNat) H):wpAny (model X.prog X.w) X.A (pyIter (.ref s.heap.objs.size)) (PIE X pins σ tg R) E {s with heap:=s.heap.push {cls:=.type "range",data:=.fields #[.int lo t,.int hi u,.int 1 v]},toks:=tk}:=by
 refine wpAny_pyIter_range (IsRange.new ..) (small_one h1 h2 h3 h4) ?_
 have I1:Inv X pins σ H {s with heap:=s.heap.push {cls:=.type "range",data:=.fields #[.int lo t,.int hi u,.int 1 v]},toks:=tk}:=I.kept λb o e=>qI _ e
 refine⟨(s.heap.push {cls:=.type "range",data:=.fields #[.int lo t,.int hi u,.int 1 v]}).objs.size,[(s.heap.push {cls:=.type "range",data:=.fields #[.int lo t,.int hi u,.int 1 v]}).objs.size],_,_,H,rfl,
  I1.kept (t':=tk) λb o e=>qI _ e,zvc _ lo (hi - lo).toNat,?_,λb hb=>?_,q⟩
 ·have e1:lo+((0:Nat):Int) * 1=lo:=by simp
  have e2:(((hi - lo).toNat:Nat):Int) - ((0:Nat):Int)=Builtin.Range.rangeSize lo hi 1:=by rw[rangeSize_one];split<;>omega
  show IsRangeIter _ _ (lo+((0:Nat):Int) * 1) ((((hi - lo).toNat:Nat):Int) - ((0:Nat):Int)) 1
  rw[e1,e2]
  exact qAN _ rfl
 ·have e:b=(s.heap.push {cls:=.type "range",data:=.fields #[.int lo t,.int hi u,.int 1 v]}).objs.size:=by simpa using hb
  subst e
  exact I1.fpOk (qJ _) (I1.hok.fresh (qJ _))
noncomputable def iRng1(ta:TA):TI:=λσ H R=>ta σ H λvs H1=>∃j:Int,vs=[.int j]/\-(2 ^ 62)<=j/\j<2 ^ 62/\R (Itr 0 j.toNat) H1
theorem zwx{a:Expr}{ta:TA}{p pos:Pos}(hg:Gl X "range")(hm:X.mg "range"=none)(ha:PA X [a] ta)(hs:starEach [a] X.env=[(false,eval a X.env)]:=by rfl):PI X tg (.Call (.Name "range" p) [a] [] pos) (iRng1 ta):=by
 intro pins s σ H R I h
 refine Call_ (zli I hg hm boot_range (qBS (thn (ha pos pins s σ H _ I h) λus s1 ⟨vs,H1,I1,r1,q1⟩=>?_) hs rfl))
 obtain⟨j,e,q1,q2,q⟩:=q1
 subst e
 cases r1 with
 | cons r rr=>
  cases rr
  obtain⟨t,rfl⟩:=r
  exact call_range_1 (zaao I1 (by omega) (by omega) q1 q2 (by simpa using q))
noncomputable def tFor(wi:TI)(g:TG)(tb:TS):TS:=λD σ H=>wi σ H λJ H1=>∃W:Nat->Nat->St->Hp->Prop,(∃m,W 0 m σ H1)/\∀i m σ H,W i m σ H->
 (J.stop i H/\D.nx σ H)\/(J.go i H/\∃N:St->Hp->Prop,(∀σ' H',N σ' H'->∃m',m'<m/\W (i+1) m' σ' H')/\∀x H',J.yld i H x H'->g x σ H' λσ2 H2=>tb {D with nx:=N,ct:=N,bk:=D.nx} σ2 H2)
noncomputable def zqd(fp:List Addr)(h:Heap):List (Addr×Obj):=fp.filterMap λb=>(h.get? b).map λo=>(b,o)
theorem zib{fp:List Addr}{h:Heap}{b:Addr}{o:Obj}(hb:b∈fp)(e:h.get? b=some o):(b,o)∈zqd fp h:=qBZ.mpr ⟨b,hb,by rw[e];rfl⟩
theorem zwy{fp:List Addr}{h:Heap}{p:Addr×Obj}(hp:p∈zqd fp h):p.1∈fp/\h.get? p.1=some p.2:=by
 obtain⟨b,hb,e⟩:=qBZ.mp hp
 cases q:h.get? b with
 | none=>rw[q]at e;cases e
 | some o=>
  rw[q]at e
  have e':(b,o)=p:=qi e
  subst e'
  exact⟨hb,q⟩
theorem Inv.pinned{pins:List (Addr×Obj)}{σ:St}{H:Hp}{s:Shared}{fp:List Addr}(I:Inv X pins σ H s)(hf:∀b∈fp,FpOk X pins H b)(ho:∀b∈fp,∃o,s.heap.get? b=some o/\∀v,o.data≠.cell v):Inv X (pins++zqd fp s.heap) σ H s:=
 I.pins_of λp hp=>(qb.mp hp).elim (λz=>I.pin p (qd _ z)) λz=>by
  obtain⟨hb,e⟩:=zwy z
  obtain⟨f0,f1,f2,_⟩:=hf p.1 hb
  obtain⟨o,e',d⟩:=ho p.1 hb
  rw[e]at e';cases e'
  exact⟨e,f0,f1,f2,d⟩
theorem Inv.unpinned{pins pl:List (Addr×Obj)}{σ:St}{H:Hp}{s:Shared}(I:Inv X (pins++pl) σ H s):Inv X pins σ H s:=I.pins_of λp hp=>I.pin p (qd _ (qAQ _ hp))
theorem zair{iter:Expr}{body:List Stmt}{wi:TI}{g:TG}{tb:TS}{pos:Pos}(hp:PassesOwn (model X.prog X.w) X.A X.env X.xe)(hc:X.calm=true)(hi:PI X tg iter wi)(hg:PG X tg g)(hb:PSs X body tb)
  (hs:∀x,foldedSetIterable iter X.env x=pure x:=by intro _;rfl):PS X (.For tg iter body [] pos) (tFor wi g tb):=by
 intro pins s σ H D I h
 refine wpAny_For (thn (hi pins s σ H _ I h) λv s1 h1=>thn h1 λitv s2 h2=>?_) hs
 obtain⟨it,fp,tn,J,H2,e,I2,T,st2,f2,W,⟨m0,w0⟩,turn⟩:=h2
 subst e
 have stat:∀{H':Hp},(∀b∈fp,H' b=none)->∀b∈fp,FpOk X pins H' b:=λhn b hb=>⟨hn b hb,(f2 b hb).2⟩
 refine codeAny_forLoop_any (λn s'=>∃i σ' H',Inv X pins σ' H' s'/\tn i s'.heap/\(∀b∈fp,H' b=none)/\W i n σ' H') ?_ m0 ⟨0,σ,H2,I2,st2,λb hb=>(f2 b hb).1,w0⟩
 rintro n s3 ⟨i,σ3,H3,I3,st3,fr3,w3⟩
 rcases turn i n σ3 H3 w3 with⟨stop,qn⟩|⟨go,N,hN,step⟩
 ·refine qAh hp (thn (T.done X rfl rfl rfl hc i pins s3 σ3 H3 X.xe I3 (stat fr3) st3 stop) λr s4 ⟨hr,I4⟩=>?_)
  subst hr
  exact qAq ⟨σ3,H3,I4,qn⟩
 ·refine qAh hp (thn (T.item X rfl rfl rfl hc i pins s3 σ3 H3 X.xe I3 (stat fr3) st3 go) λr s4 ⟨u,hr,h4⟩=>?_)
  subst hr
  refine qAh hp (thn h4 λ_ s5 ⟨x,H5,I5,r5,y5,st5,fr5⟩=>?_)
  have I5':=I5.pinned (stat fr5) (T.obj _ _ st5)
  refine qAh hp (thn (hg _ s5 σ3 H5 x u _ I5' r5 (step x H5 y5)) λ_ s6 ⟨σ6,H6,I6,q6⟩=>?_)
  refine qAh hp (thn (hb _ s6 σ6 H6 _ I6 q6) λf s7 q7=>?_)
  have again:∀{σ7:St}{H7:Hp},Inv X (pins++zqd fp s5.heap) σ7 H7 s7->N σ7 H7->∃m,m<n/\∃i σ' H',Inv X pins σ' H' s7/\tn i s7.heap/\(∀b∈fp,H' b=none)/\W i m σ' H':=λ{σ7 H7} I7 n7=>by
   obtain⟨m',hm,w7⟩:=hN σ7 H7 n7
   refine⟨m',hm,i+1,σ7,H7,I7.unpinned,T.keep _ _ _ st5 λb hb o e=>(I7.pin (b,o) (qd _ (qd _ (zib hb e)))).1,λb hb=>?_,w7⟩
   obtain⟨o,e,d⟩:=T.obj _ _ st5 b hb
   exact(I7.pin (b,o) (qd _ (qd _ (zib hb e)))).2.1
  cases f with
  | next=>obtain⟨σ7,H7,I7,n7⟩:=q7;exact again I7 n7
  | cont=>obtain⟨σ7,H7,I7,n7⟩:=q7;exact again I7 n7
  | brk=>obtain⟨σ7,H7,I7,q7⟩:=q7;exact⟨σ7,H7,I7.unpinned,q7⟩
  | ret v=>obtain⟨x7,σ7,H7,I7,r7,q7⟩:=q7;exact⟨x7,σ7,H7,I7.unpinned,r7,q7⟩
end
noncomputable abbrev R2:=V->V->Hp->VK->Prop
noncomputable def OpR(X:Cx)(f:Value->Value->Sem Value)(r:R2):Prop:=
 ∀(pins:List (Addr×Obj))(s:Shared)(σ:St)(H:Hp)(x y:V)(v u:Value)(Q:VK),Inv X pins σ H s->RelV x v->RelV y u->r x y H Q->
  wpAny (model X.prog X.w) X.A (f v u) (EP X pins σ Q) X.xe s
noncomputable def UnR(X:Cx)(f:Value->Sem Value)(r:V->Hp->VK->Prop):Prop:=
 ∀(pins:List (Addr×Obj))(s:Shared)(σ:St)(H:Hp)(x:V)(v:Value)(Q:VK),Inv X pins σ H s->RelV x v->r x H Q->
  wpAny (model X.prog X.w) X.A (f v) (EP X pins σ Q) X.xe s
noncomputable def CallR(X:Cx)(f:Value)(r:List V->Hp->VK->Prop):Prop:=
 ∀(pins:List (Addr×Obj))(s:Shared)(σ:St)(H:Hp)(xs:List V)(us:List Value)(Q:VK),Inv X pins σ H s->Vals xs us->r xs H Q->
  wpAny (model X.prog X.w) X.A (call f us) (EP X pins σ Q) X.xe s
noncomputable def TruR(X:Cx)(r:V->Hp->(Bool->Hp->Prop)->Prop):Prop:=
 ∀(pins:List (Addr×Obj))(s:Shared)(σ:St)(H:Hp)(x:V)(v:Value)(Q:Bool->Hp->Prop),Inv X pins σ H s->RelV x v->r x H Q->
  wpAny (model X.prog X.w) X.A (truthy v) (TP X pins σ Q) X.xe s
noncomputable def tOp(r:R2)(ta tb:TE):TE:=λσ H Q=>ta σ H λx H1=>tb σ H1 λy H2=>r x y H2 Q
noncomputable def tUn(r:V->Hp->VK->Prop)(ta:TE):TE:=λσ H Q=>ta σ H λx H1=>r x H1 Q
noncomputable def rI(C:Int->Int->Prop)(g:Int->Int->V):R2:=λx y H Q=>∃i j,x=.int i/\y=.int j/\C i j/\Q (g i j) H
noncomputable def rI0(g:Int->Int->V):R2:=λx y H Q=>∃i j,x=.int i/\y=.int j/\Q (g i j) H
noncomputable def rU(g:Int->V):V->Hp->VK->Prop:=λx H Q=>∃i,x=.int i/\Q (g i) H
section
variable{X:Cx}{a b c:Expr}{ta tb tc:TE}{pos:Pos}
theorem binT(ha:PE X a ta)(hb:PE X b tb){pins:List (Addr×Obj)}{s:Shared}{σ:St}{H:Hp}{R:V->V->Hp->Prop}(I:Inv X pins σ H s)
  (h:ta σ H λx H1=>tb σ H1 λy H2=>R x y H2){Q:Value->Shared->Prop}{f:Value->Value->Sem Value}
  (hf:∀v u s2 x y H2,Inv X pins σ H2 s2->RelV x v->RelV y u->R x y H2->wpAny (model X.prog X.w) X.A (f v u) Q X.xe s2) :
  wpAny (model X.prog X.w) X.A (eval a X.env) (λv s₁=>wpAny (model X.prog X.w) X.A (eval b X.env) (λu s₂=>wpAny (model X.prog X.w) X.A (f v u) Q X.xe s₂) X.xe s₁) X.xe s:=by
 refine thn (ha pins s σ H _ I h) λv s1 ⟨x,H1,I1,r1,q1⟩=>?_
 refine thn (hb pins s1 σ H1 _ I1 q1) λu s2 ⟨y,H2,I2,r2,q2⟩=>?_
 exact hf v u s2 x y H2 I2 r1 r2 q2
theorem zamp{op:Operator}{r:R2}(ho:OpR X (binaryOp op) r)(ha:PE X a ta)(hb:PE X b tb):PE X (.BinOp a op b pos) (tOp r ta tb):=by
 intro pins s σ H Q I h
 exact wpAny_BinOp (binT ha hb I h λv u s2 x y H2 I2 rx ry q=>ho pins s2 σ H2 x y v u Q I2 rx ry q)
theorem zamq{op:UnaryOp}{r:V->Hp->VK->Prop}(ho:UnR X (unaryOp op) r)(ha:PE X a ta):PE X (.UnaryOp op a pos) (tUn r ta):=by
 intro pins s σ H Q I h
 exact UnaryOp_ (thn (ha pins s σ H _ I h) λv s1 ⟨x,H1,I1,r1,q1⟩=>ho pins s1 σ H1 x v Q I1 r1 q1)
theorem opI{f:Value->Value->Sem Value}{C:Int->Int->Prop}{g:Int->Int->Int}
  (rule:∀(i j:Int)(t u:Tok)(s:Shared)(Q:Value->Shared->Prop)(E:Value->Shared->Prop),C i j->Q (.int (g i j) s.toks) {s with toks:=s.toks+1}->wpAny (model X.prog X.w) X.A (f (.int i t) (.int j u)) Q E s) :
  OpR X f (rI C λi j=>.int (g i j)):=by
 intro pins s σ H x y v u Q I rx ry h
 obtain⟨i,j,rfl,rfl,hc,q⟩:=h
 obtain⟨t,rfl⟩:=rx
 obtain⟨t',rfl⟩:=ry
 exact rule i j t t' s _ _ hc ⟨.int (g i j),H,I.tok _,⟨_,rfl⟩,q⟩
theorem opI0{f:Value->Value->Sem Value}{g:Int->Int->Int}
  (rule:∀(i j:Int)(t u:Tok)(s:Shared)(Q:Value->Shared->Prop)(E:Value->Shared->Prop),Q (.int (g i j) s.toks) {s with toks:=s.toks+1}->wpAny (model X.prog X.w) X.A (f (.int i t) (.int j u)) Q E s) :
  OpR X f (rI0 λi j=>.int (g i j)):=by
 intro pins s σ H x y v u Q I rx ry h
 obtain⟨i,j,rfl,rfl,q⟩:=h
 obtain⟨t,rfl⟩:=rx
 obtain⟨t',rfl⟩:=ry
 exact rule i j t t' s _ _ ⟨.int (g i j),H,I.tok _,⟨_,rfl⟩,q⟩
theorem opB0{f:Value->Value->Sem Value}{g:Int->Int->Bool}
  (rule:∀(i j:Int) (t u:Tok) (s:Shared) (Q:Value->Shared->Prop) (E:Value->Shared->Prop),Q (.bool (g i j)) s->wpAny (model X.prog X.w) X.A (f (.int i t) (.int j u)) Q E s) :
  OpR X f (rI0 λi j=>.bl (g i j)):=by
 intro pins s σ H x y v u Q I rx ry h
 obtain⟨i,j,rfl,rfl,q⟩:=h
 obtain⟨t,rfl⟩:=rx
 obtain⟨t',rfl⟩:=ry
 exact rule i j t t' s _ _ ⟨.bl (g i j),H,I,rfl,q⟩
noncomputable def CDiv(i j:Int):Prop:=0<j/\j<1073741824
noncomputable def CMul(i j:Int):Prop:=(-(2 ^ 64)<i/\i<2 ^ 64)\/(-(2 ^ 64)<j/\j<2 ^ 64)
theorem CMul.ok{i j:Int}(h:CMul i j):IntMulOk i j:=by
 rcases h with⟨h1,h2⟩|⟨h1,h2⟩
 ·exact .of_left (intBits_le_64 h1 h2)
 ·exact .of_right (intBits_le_64 h1 h2)
theorem zais:OpR X (binaryOp .Add) (rI0 λi j=>.int (i+j)):=opI0 λ_ _ _ _ _ _ _ q=>add_int q
theorem zait:OpR X (binaryOp .Sub) (rI0 λi j=>.int (i - j)):=opI0 λ_ _ _ _ _ _ _ q=>sub_int q
theorem zaiu:OpR X (binaryOp .Mult) (rI CMul λi j=>.int (i * j)):=opI λ_ _ _ _ _ _ _ hc q=>mul_int q hc.ok
theorem zlj:OpR X (binaryOp .FloorDiv) (rI CDiv λi j=>.int (i / j)):=opI λi j _ _ _ _ _ hc q=>by
 have h1:(0:Int)<j:=hc.1
 have h2:j<1073741824:=hc.2
 exact floordiv_int (by omega) (by rw[Int.fdiv_eq_ediv_of_nonneg i (by omega)];exact q) (.inl (PyProof.noPylong_small (by omega)))
theorem zgl:OpR X (binaryOp .Mod) (rI (λ_ j=>0<j) λi j=>.int (i % j)):=opI λi j _ _ _ _ _ hc q=>by
 have h1:(0:Int)<j:=hc
 exact mod_int' (by omega) (by rw[Int.fmod_eq_emod_of_nonneg i (by omega)];exact q)
theorem unI{f:Value->Sem Value}{g:Int->Int}
  (rule:∀(i:Int)(t:Tok)(s:Shared)(Q:Value->Shared->Prop)(E:Value->Shared->Prop),Q (.int (g i) s.toks) {s with toks:=s.toks+1}->wpAny (model X.prog X.w) X.A (f (.int i t)) Q E s) :
  UnR X f (rU λi=>.int (g i)):=by
 intro pins s σ H x v Q I rx h
 obtain⟨i,rfl,q⟩:=h
 obtain⟨t,rfl⟩:=rx
 exact rule i t s _ _ ⟨.int (g i),H,I.tok _,⟨_,rfl⟩,q⟩
theorem zwz:UnR X (unaryOp .USub) (rU λi=>.int (-i)):=unI λ_ _ _ _ _ q=>neg_int q
end
noncomputable def scal:V->V->Bool
 | .non,.non=>true|.non,.int _=>true|.int _,.non=>true|.non,.bl _=>true|.bl _,.non=>true|.non,.str _=>true|.str _,.non=>true
 | .int _,.int _=>true|.bl _,.bl _=>true|.str _,.str _=>true|.byt _,.byt _=>true
 | .int _,.str _=>true|.str _,.int _=>true|.bl _,.str _=>true|.str _,.bl _=>true
 | _,_=>false
noncomputable def rEq:R2:=λx y H Q=>scal x y=true/\Q (.bl (decide (x=y))) H
noncomputable def rNe:R2:=λx y H Q=>scal x y=true/\Q (.bl (!decide (x=y))) H
theorem zsj{i j:Int}:decide (V.int i=V.int j)=(i==j):=by
 rw[qAm]
 simp
theorem zxa{i j:Bool}:decide (V.bl i=V.bl j)=(i==j):=by
 rw[qAm]
 simp
theorem zsk{i j:Str}:decide (V.str i=V.str j)=(i==j):=by
 rw[qAm]
 simp
theorem zxb{i j:Array UInt8}:decide (V.byt i=V.byt j)=(i.toList==j.toList):=by
 rw[qAm]
 cases i
 cases j
 simp
section
variable{X:Cx}{a b c:Expr}{ta tb tc:TE}{pos:Pos}
theorem zbt{pins:List (Addr×Obj)}{σ:St}{H:Hp}{s:Shared}{Q:VK}{k k':Bool}(I:Inv X pins σ H s)(q:Q (.bl k) H)(e:k=k'):EP X pins σ Q (.bool k') s:=by
 subst e
 exact⟨.bl k,H,I,rfl,q⟩
theorem zamr:OpR X (compareOp .Eq) rEq:=by
 intro pins s σ H x y v u Q I rx ry h
 obtain⟨hs,q⟩:=h
 cases x with
 | non=>
  cases rx
  cases y with
  | non=>cases ry;exact PySem.EqNone.eq_none_none (zbt I q (by simp))
  | bl j=>cases ry;exact PySem.EqNone.eq_none_bool (zbt I q (by simp))
  | int j=>obtain⟨t',rfl⟩:=ry;exact PySem.EqNone.eq_none_int (zbt I q (by simp))
  | str j=>obtain⟨t',rfl⟩:=ry;exact PySem.EqNone.eq_none_str (zbt I q (by simp))
  | _=>exact absurd (show false=true from hs) qL
 | bl i=>
  cases rx
  cases y with
  | non=>cases ry;exact PySem.EqNone.eq_bool_none (zbt I q (by simp))
  | bl j=>cases ry;exact eq_bool (zbt I q zxa)
  | str j=>obtain⟨t',rfl⟩:=ry;exact PySem.EqMixed.eq_bool_str (zbt I q (by simp))
  | _=>exact absurd (show false=true from hs) qL
 | int i=>
  obtain⟨t,rfl⟩:=rx
  cases y with
  | non=>cases ry;exact PySem.EqNone.eq_int_none (zbt I q (by simp))
  | int j=>obtain⟨t',rfl⟩:=ry;exact eq_int (zbt I q zsj)
  | str j=>obtain⟨t',rfl⟩:=ry;exact PySem.EqMixed.eq_int_str (zbt I q (by simp))
  | _=>exact absurd (show false=true from hs) qL
 | str i=>
  obtain⟨t,rfl⟩:=rx
  cases y with
  | non=>cases ry;exact PySem.EqNone.eq_str_none (zbt I q (by simp))
  | bl j=>cases ry;exact PySem.EqMixed.eq_str_bool (zbt I q (by simp))
  | int j=>obtain⟨t',rfl⟩:=ry;exact PySem.EqMixed.eq_str_int (zbt I q (by simp))
  | str j=>obtain⟨t',rfl⟩:=ry;exact eq_str (zbt I q zsk)
  | _=>exact absurd (show false=true from hs) qL
 | byt i=>
  obtain⟨t,rfl⟩:=rx
  cases y with
  | byt j=>obtain⟨t',rfl⟩:=ry;exact PySem.W.eq_bytes (zbt I q zxb)
  | _=>exact absurd (show false=true from hs) qL
 | _=>cases y<;>exact absurd (show false=true from hs) qL
theorem zams:OpR X (compareOp .NotEq) rNe:=by
 intro pins s σ H x y v u Q I rx ry h
 obtain⟨hs,q⟩:=h
 cases x with
 | non=>
  cases rx
  cases y with
  | non=>cases ry;exact PySem.EqNone.ne_none_none (zbt I q (by simp))
  | bl j=>cases ry;exact PySem.EqNone.ne_none_bool (zbt I q (by simp))
  | int j=>obtain⟨t',rfl⟩:=ry;exact PySem.EqNone.ne_none_int (zbt I q (by simp))
  | str j=>obtain⟨t',rfl⟩:=ry;exact PySem.EqNone.ne_none_str (zbt I q (by simp))
  | _=>exact absurd (show false=true from hs) qL
 | bl i=>
  cases rx
  cases y with
  | non=>cases ry;exact PySem.EqNone.ne_bool_none (zbt I q (by simp))
  | bl j=>cases ry;exact ne_bool (zbt I q (congrArg not zxa))
  | str j=>obtain⟨t',rfl⟩:=ry;exact PySem.EqMixed.ne_bool_str (zbt I q (by simp))
  | _=>exact absurd (show false=true from hs) qL
 | int i=>
  obtain⟨t,rfl⟩:=rx
  cases y with
  | non=>cases ry;exact PySem.EqNone.ne_int_none (zbt I q (by simp))
  | int j=>obtain⟨t',rfl⟩:=ry;exact ne_int (zbt I q (congrArg not zsj))
  | str j=>obtain⟨t',rfl⟩:=ry;exact PySem.EqMixed.ne_int_str (zbt I q (by simp))
  | _=>exact absurd (show false=true from hs) qL
 | str i=>
  obtain⟨t,rfl⟩:=rx
  cases y with
  | non=>cases ry;exact PySem.EqNone.ne_str_none (zbt I q (by simp))
  | bl j=>cases ry;exact PySem.EqMixed.ne_str_bool (zbt I q (by simp))
  | int j=>obtain⟨t',rfl⟩:=ry;exact PySem.EqMixed.ne_str_int (zbt I q (by simp))
  | str j=>obtain⟨t',rfl⟩:=ry;exact ne_str (zbt I q (congrArg not zsk))
  | _=>exact absurd (show false=true from hs) qL
 | byt i=>
  obtain⟨t,rfl⟩:=rx
  cases y with
  | byt j=>obtain⟨t',rfl⟩:=ry;exact PySem.W.ne_bytes (zbt I q (congrArg not zxb))
  | _=>exact absurd (show false=true from hs) qL
 | _=>cases y<;>exact absurd (show false=true from hs) qL
theorem zael:OpR X (compareOp .Lt) (rI0 λi j=>.bl (decide (i<j))):=opB0 λ_ _ _ _ _ _ _ q=>lt_int q
theorem zvd:OpR X (compareOp .Gt) (rI0 λi j=>.bl (decide (j<i))):=opB0 λ_ _ _ _ _ _ _ q=>gt_int q
theorem zamt:OpR X (compareOp .GtE) (rI0 λi j=>.bl (decide (j<=i))):=opB0 λ_ _ _ _ _ _ _ q=>ge_int q
theorem OpR.or{f:Value->Value->Sem Value}{r r':R2}(h:OpR X f r)(h':OpR X f r'):OpR X f (λx y H Q=>r x y H Q\/r' x y H Q):=by
 intro pins s σ H x y v u Q I rx ry q
 rcases q with q|q
 ·exact h pins s σ H x y v u Q I rx ry q
 ·exact h' pins s σ H x y v u Q I rx ry q
theorem zdd(b:Expr){op:CmpOp}(h:op≠.In:=by decide)(h2:op≠.NotIn:=by decide):behindInMarks op b=false:=by
 have e1:(op==CmpOp.In)=false:=by cases op<;>first|rfl|exact absurd rfl h
 have e2:(op==CmpOp.NotIn)=false:=by cases op<;>first|rfl|exact absurd rfl h2
 cases b<;>simp[behindInMarks,e1,e2]
theorem zaem{op:CmpOp}{r:R2}(ho:OpR X (compareOp op) r)(ha:PE X a ta)(hb:PE X b tb)(hm:behindInMarks op b=false):PE X (.Compare a [op] [b] pos) (tOp r ta tb):=by
 intro pins s σ H Q I h
 exact wpAny_Compare1 (binT ha hb I h λv u s2 x y H2 I2 rx ry q=>ho pins s2 σ H2 x y v u Q I2 rx ry q) hm
noncomputable def tTest(t:TE):TT:=λσ H Q=>t σ H λx H'=>∃k,x=.bl k/\Q k H'
theorem zaen{op:CmpOp}{r:R2}(ho:OpR X (compareOp op) r)(ha:PE X a ta)(hb:PE X b tb)(hm:behindInMarks op b=false):PT X (.Compare a [op] [b] pos) (tTest (tOp r ta tb)):=by
 intro pins s σ H Q I h
 refine wpAny_isTrue_Compare1 (thn (ha pins s σ H _ I h) λv s1 ⟨x,H1,I1,r1,q1⟩=>thn (hb pins s1 σ H1 _ I1 q1) λu s2 ⟨y,H2,I2,r2,q2⟩=>
  thn (ho pins s2 σ H2 x y v u _ I2 r1 r2 q2) λc s3 ⟨z,H3,I3,r3,k,e,q3⟩=>?_) hm
 subst e
 cases r3
 exact qBH ⟨H3,I3,q3⟩
noncomputable def TruV(K:qC)(x:V)(H:Hp)(k:Bool):Prop:=
 match x with
 | .non=>k=false
 | .bl b=>k=b
 | .int i=>k=(i != 0)
 | .str y=>y.length<=qQ/\k=((y.length:Int) != 0)
 | .byt y=>y.size<=qQ/\k=((y.size:Int) != 0)
 | .ref p=>(∃xs,SqL K H p xs/\k=!xs.isEmpty)\/(∃xs,SqT K H p xs/\k=!xs.isEmpty)\/∃kvs,H p=some (.dK kvs)/\k=!kvs.isEmpty
 | _=>False
theorem zve{κ:Type}{kvs:List (κ×V)}{vs:List (κ×Value)}(r:KV kvs vs):(!vs.isEmpty)=!kvs.isEmpty:=by
 cases r<;>rfl
theorem zno{xs:List V}{its:List Value}(r:Vals xs its):(!its.toArray.isEmpty)=!xs.isEmpty:=by
 cases r<;>simp
theorem znp:(qQ:Nat)<2 ^ 63:=by rw[qAL];decide
theorem zaiv:TruR X (λx H Q=>∃k,TruV X.K x H k/\Q k H):=by
 intro pins s σ H x v Q I rx h
 obtain⟨k,e,q⟩:=h
 have hl:=znp
 have hs:qQ=16777216:=qAL
 cases x with
 | non=>
  cases rx
  have e':k=false:=e
  subst e'
  exact truthy_none ⟨H,I,q⟩
 | bl b=>
  cases rx
  have e':k=b:=e
  subst e'
  exact qBH ⟨H,I,q⟩
 | int i=>
  obtain⟨t,rfl⟩:=rx
  have e':k=(i != 0):=e
  subst e'
  exact PySem.P.truthy_int ⟨H,I,q⟩
 | str y=>
  obtain⟨t,rfl⟩:=rx
  obtain⟨hy,e'⟩:y.length<=qQ/\k=((y.length:Int) != 0):=e
  subst e'
  exact PySem.P.truthy_str (by omega) ⟨H,I.tok _,q⟩
 | byt y=>
  obtain⟨t,rfl⟩:=rx
  obtain⟨hy,e'⟩:y.size<=qQ/\k=((y.size:Int) != 0):=e
  subst e'
  exact PySem.W.truthy_bytes (by omega) ⟨H,I.tok _,q⟩
 | ref p=>
  cases rx
  have e':(∃xs,SqL X.K H p xs/\k=!xs.isEmpty)\/(∃xs,SqT X.K H p xs/\k=!xs.isEmpty)\/∃kvs,H p=some (.dK kvs)/\k=!kvs.isEmpty:=e
  rcases e' with⟨xs,hx,e'⟩|⟨xs,hx,e'⟩|⟨kvs,hx,e'⟩
  ·subst e'
   obtain⟨its,r,pl,hz⟩:=I.list hx
   have hlen:=r.length
   exact wpAny_truthy_list pl.isList (by simp only[qG];omega) ⟨H,I.tok _,by rw[zno r];exact q⟩
  ·subst e'
   obtain⟨its,r,pl,hz⟩:=I.tuple hx
   have hlen:=r.length
   exact truthy_tuple pl (by simp only[qG];omega) ⟨H,I.tok _,by rw[zno r];exact q⟩
  ·subst e'
   obtain⟨hz,hS,vs,r,m⟩:kvs.length<=qQ/\(p==sysModules)=false/\∃vs,KV kvs vs/\s.heap.DictOf (zsi X.prog X.w) p vs:=I.hok p _ hx
   have hlen:kvs.length=vs.length:=Paired.length r
   exact wpAny_truthy_dict hS m (by omega) ⟨H,I.tok _,by rw[zve r];exact q⟩
 | _=>exact(show False from e).elim
theorem zaap(ha:PE X a ta)(he:∀whole,isTrue a X.env whole=(do let v <- whole;standAt a.pos;holding [v] (truthy v))) :
  PT X a (λσ H Q=>ta σ H λx H'=>∃k,TruV X.K x H' k/\Q k H'):=by
 intro pins s σ H Q I h
 exact isTrue_plain (thn (ha pins s σ H _ I h) λv s1 ⟨x,H1,I1,r1,q1⟩=>zaiv pins s1 σ H1 x v Q I1 r1 q1) (he _)
theorem zvf:OpR X (binaryOp .Add) (λx y H Q=>∃i j,x=.str i/\y=.str j/\i.length+j.length<=qQ/\Q (.str (i++j)) H):=by
 intro pins s σ H x y v u Q I rx ry h
 obtain⟨i,j,rfl,rfl,hz,q⟩:=h
 obtain⟨t,rfl⟩:=rx
 obtain⟨t',rfl⟩:=ry
 exact add_str (λt' tk=>⟨.str (i++j),H,I.tok _,⟨_,rfl⟩,q⟩) hz
theorem znf{x:V}{us:List Value}(r:Vals [x] us):∃u,us=[u]/\RelV x u:=by
 cases r with
 | cons r1 r2=>cases r2;exact⟨_,rfl,r1⟩
theorem zsl{x y:V}{us:List Value}(r:Vals [x,y] us):∃u w',us=[u,w']/\RelV x u/\RelV y w':=by
 cases r with
 | cons r1 r2=>
  cases r2 with
  | cons r3 r4=>cases r4;exact⟨_,_,rfl,r1,r3⟩
theorem zor:CallR X (.builtin "abs") (λxs H Q=>∃i,xs=[.int i]/\Q (.int (if i<0 then -i else i)) H):=by
 intro pins s σ H xs us Q I r h
 obtain⟨i,rfl,q⟩:=h
 obtain⟨u,rfl,t,rfl⟩:=znf r
 exact call_abs_int λu tk=>⟨.int (if i<0 then -i else i),H,I.tok _,⟨_,rfl⟩,q⟩
theorem zqe(hc:X.calm=true):CallR X (.builtin "min") (λxs H Q=>∃i j,xs=[.int i,.int j]/\Q (.int (if j<i then j else i)) H):=by
 intro pins s σ H xs us Q I r h
 obtain⟨i,j,rfl,q⟩:=h
 obtain⟨u,w',rfl,⟨t,rfl⟩,⟨t',rfl⟩⟩:=zsl r
 refine min_two_ints (I.ok.hd hc) λh' tk k=>⟨_,H,I.kept k,?_,q⟩
 by_cases hj:j<i
 ·rw[if_pos hj,if_pos hj];exact⟨_,rfl⟩
 ·rw[if_neg hj,if_neg hj];exact⟨_,rfl⟩
theorem zqf:CallR X (.type "int") (λxs H Q=>(∃i,xs=[.int i]/\Q (.int i) H)\/∃k,xs=[.bl k]/\Q (.int (if k then 1 else 0)) H):=by
 intro pins s σ H xs us Q I r h
 rcases h with⟨i,rfl,q⟩|⟨k,rfl,q⟩
 ·obtain⟨u,rfl,t,rfl⟩:=znf r
  exact call_int_int ⟨.int i,H,I,⟨_,rfl⟩,q⟩
 ·obtain⟨u,rfl,r1⟩:=znf r
  cases r1
  exact call_int_bool ⟨.int (if k then 1 else 0),H,I.tok _,⟨_,rfl⟩,q⟩
noncomputable def LenV(K:qC)(x:V)(H:Hp)(n:Nat):Prop:=
 match x with
 | .str y=>y.length<=qQ/\n=y.length
 | .byt y=>y.size<=qQ/\n=y.size
 | .ref p=>(∃xs,SqL K H p xs/\n=xs.length)\/∃xs,SqT K H p xs/\n=xs.length
 | _=>False
theorem zaaq:CallR X (.builtin "len") (λxs H Q=>∃x n,xs=[x]/\LenV X.K x H n/\Q (.int n) H):=by
 intro pins s σ H xs us Q I r h
 obtain⟨x,n,rfl,e,q⟩:=h
 obtain⟨u,rfl,rx⟩:=znf r
 have hl:=znp
 have hs:qQ=16777216:=qAL
 cases x with
 | str y=>
  obtain⟨t,rfl⟩:=rx
  obtain⟨hy,e'⟩:y.length<=qQ/\n=y.length:=e
  subst e'
  exact len_str (by omega) ⟨.int _,H,I.tok _,⟨_,rfl⟩,q⟩
 | byt y=>
  obtain⟨t,rfl⟩:=rx
  obtain⟨hy,e'⟩:y.size<=qQ/\n=y.size:=e
  subst e'
  exact PySem.W.len_bytes (by omega) ⟨.int _,H,I.tok _,⟨_,rfl⟩,q⟩
 | ref p=>
  cases rx
  have e':(∃xs,SqL X.K H p xs/\n=xs.length)\/∃xs,SqT X.K H p xs/\n=xs.length:=e
  rcases e' with⟨xs,hx,e'⟩|⟨xs,hx,e'⟩
  ·subst e'
   obtain⟨its,r',pl,hz⟩:=I.list hx
   have hlen:=r'.length
   exact Calls.call_len_list pl.isList (by simp only[qG];omega) ⟨.int xs.length,H,I.tok _,⟨_,by simp only[qG];rw[hlen]⟩,q⟩
  ·subst e'
   obtain⟨its,r',pl,hz⟩:=I.tuple hx
   have hlen:=r'.length
   exact len_tuple pl (by simp only[qG];omega) ⟨.int xs.length,H,I.tok _,⟨_,by simp only[qG];rw[hlen]⟩,q⟩
 | _=>exact(show False from e).elim
end
set_option genInjectivity false in
structure ObjM(h:Heap)(x dx C:Addr)(mA:Str->Option Value):Prop where
 obj:h.get? x=some (PySem.W.instObj C dx)
 ns:h.Ns1 dx mA
 ne:dx≠x
theorem zxc{h:Heap}{dx:Addr}{mA:Str->Option Value}(n:h.Ns1 dx mA):∃od,h.get? dx=some od/\∀name,PySem.W.lookIn name od=some (mA name):=by
 obtain⟨o,es,ep,ho,hd,hk,_,hm⟩:=n
 refine⟨o,ho,λname=>?_⟩
 have e:=hm name
 unfold nsFind findBy at e
 rw[<- Array.find?_toList]at e
 unfold PySem.W.lookIn
 rw[hd]
 dsimp only
 split
 ·rename_i y q
  rw[q]at e
  exact congrArg some e
 ·rename_i q
  rw[q]at e
  have a:es.toList.any (·.refKey)=false:=by
   rw[List.any_eq_false]
   intro y hy
   obtain⟨z,t,hkey⟩:=hk y (qCC.mp hy)
   simp[DictEntry.refKey,hkey]
  have a':¬es.toList.any (·.refKey)=true:=by rw[a];exact qL
  rw[if_neg a']
  exact congrArg some e
theorem ObjM.look{h:Heap}{x dx C:Addr}{mA:Str->Option Value}(I:ObjM h x dx C mA):∃od,PySem.W.InstAt h x (PySem.W.instObj C dx) C (some od)/\∀name,PySem.W.lookIn name od=some (mA name):=
 let⟨od,ho,hl⟩:=zxc I.ns
 ⟨od,⟨I.obj,rfl,rfl,ho⟩,hl⟩
theorem zxd{v:V}{u:Value}(r:RelV v u):PySem.W.handedIn u=true:=by
 cases v with
 | non=>cases(show u=Value.none from r);rfl
 | bl b=>cases(show u=Value.bool b from r);rfl
 | int i=>obtain⟨t,e⟩:=(show ∃t,u=Value.int i t from r);cases e;rfl
 | str x=>obtain⟨t,e⟩:=(show ∃t,u=Value.str x t from r);cases e;rfl
 | byt b=>obtain⟨t,e⟩:=(show ∃t,u=Value.bytes b t from r);cases e;rfl
 | flt b=>obtain⟨t,e⟩:=(show ∃t,u=Value.float b t from r);cases e;rfl
 | ref a=>cases(show u=Value.ref a from r);rfl
 | ty n=>cases(show u=Value.type n from r);rfl
section
variable{P:Program}{w:World}{H H':Hp}{h h':Heap}{a C dx:Addr}{fs fs':List (Str×V)}
theorem zaeo(hok:HOk P w H h)(e:H a=some (.ins C dx fs)):∃mA,ObjM h a dx C mA/\(∀f,RelO (fs.lookup f) (mA f))/\PySem.Within mA (fs.map (·.1))/\fs.length<=1000/\H dx=some (.own a):=by
 obtain⟨d,z,ne,ob,mA,n,r,q⟩:=(show zdh P w H h a (.ins C dx fs)from hok a _ e)
 exact⟨mA,⟨ob,n,ne⟩,r,q,z,d⟩
end
set_option genInjectivity false in
structure Cls(K:qC)(C:Addr):Prop where
 pg:PySem.W.plainGet K C Str.empty=true
 hd:PySem.W.hasDictIn K C=true
 po:PySem.W.plainOver K C=true
 sa:PySem.W.findIn K (.ref C) "__setattr__"=some (some (.builtin "object.__setattr__"))
theorem Cls.get{K:qC}{C:Addr}(c:Cls K C)(f:Str):PySem.W.plainGet K C f=true:=c.pg
set_option genInjectivity false in
set_option genInjectivity false in
section
variable{X:Cx}{pins:List (Addr×Obj)}{σ:St}{H:Hp}{s:Shared}{a C dx:Addr}{fs:List (Str×V)}{f:Str}{v:V}{A:Around}{E:Value->Shared->Prop}
theorem zaep{prog:Program}{w:World}{env:Env}{e:Expr}{f:Str}{pos:Pos}{s:Shared}{Q:Value->Shared->Prop}(hb:attributeBase e f env (eval e env)=eval e env)
  (h:wpAny (model prog w) A (eval e env) (λo s₁=>wpAny (model prog w) A (getAttr o f true) Q E s₁) E s):wpAny (model prog w) A (eval (.Attribute e f pos) env) Q E s:=
 Attribute_any_ h (by rw[arm_eval_Attribute,hb])
end
section
variable{X:Cx}{pins:List (Addr×Obj)}{σ:St}{H:Hp}{s:Shared}{A:Around}{E:Value->Shared->Prop}{Q:Value->Shared->Prop}{c:Value}{b:Bool}
inductive TyOf(K:qC)(H:Hp):V->Value->Prop where
 | non:TyOf K H .non (.type "NoneType")
 | bl (x:Bool):TyOf K H (.bl x) (.type "bool")
 | int (i:Int):TyOf K H (.int i) (.type "int")
 | str (x:Str):TyOf K H (.str x) (.type "str")
 | flt (x:UInt64):TyOf K H (.flt x) (.type "float")
 | lst {a:Addr} {xs:List V} (e:H a=some (.lst xs)):TyOf K H (.ref a) (.type "list")
 | frz {a:Addr} {o:Obj} {xs:List V} (e:H a=some (.frz o (.lst xs))):TyOf K H (.ref a) (.type "list")
 | tup {a:Addr} {xs:List V} (e:H a=some (.tup xs)):TyOf K H (.ref a) (.type "tuple")
 | dK {a:Addr} {kvs:List (Key×V)} (e:H a=some (.dK kvs)):TyOf K H (.ref a) (.type "dict")
 | dT {a:Addr} {kvs:List (List Key×V)} (e:H a=some (.dT kvs)):TyOf K H (.ref a) (.type "dict")
 | ins {a C dx:Addr} {fs:List (Str×V)} (e:H a=some (.ins C dx fs)) (cl:Cls K C) (ha:PySem.W.findIn K (.ref C) "__class__"=some (some (.builtin "object.__class__")))
   (hn:PySem.W.specialIn K (.builtin "object.__class__") "__get__"=some (some (.builtin "getset_descriptor.__get__")))(htk:PySem.W.takesIn K (.builtin "object.__class__")=some true)
   (hm:PySem.W.mroIn K C (.type "object")=some true):TyOf K H (.ref a) (.ref C)
theorem zxe {x:V} {u t:Value} (I:Inv X pins σ H s) (rx:RelV x u) (ty:TyOf X.K H x t) (e:PySem.W.kitOne X.K t c=some b) (h:∀tk,Q (.bool b) {s with toks:=tk}) :
  wpAny (model X.prog X.w) A (call (.builtin "isinstance") [u,c]) Q E s:=by
 cases ty with
 | non=>cases(show u=Value.none from rx);exact qAA qCD I.kIn True.intro e (λz=>nomatch z) h
 | bl y=>cases(show u=Value.bool y from rx);exact qAA qCE I.kIn True.intro e (λz=>nomatch z) h
 | int i=>obtain⟨t,q⟩:=(show ∃t,u=Value.int i t from rx);cases q;exact qAA qCJ I.kIn True.intro e (λz=>nomatch z) h
 | str y=>obtain⟨t,q⟩:=(show ∃t,u=Value.str y t from rx);cases q;exact qAA qCI I.kIn True.intro e (λz=>nomatch z) h
 | flt y=>obtain⟨t,q⟩:=(show ∃t,u=Value.float y t from rx);cases q;exact qAA PySem.W.kitx_float I.kIn True.intro e (λz=>nomatch z) h
 | @lst a xs ea=>
  cases(show u=Value.ref a from rx)
  obtain⟨_,_,n,_,h1⟩:=(show zdh X.prog X.w H s.heap a (.lst xs)from I.hok a _ ea)
  exact qAA qBW I.kIn ⟨_,h1,rfl⟩ e (λz=>nomatch z) h
 | @frz a ob xs ea=>
  cases(show u=Value.ref a from rx)
  obtain⟨_,_,_,n,_,h1⟩:=(show zdh X.prog X.w H s.heap a (.frz ob (.lst xs))from I.hok a _ ea)
  exact qAA qBW I.kIn ⟨_,h1,rfl⟩ e (λz=>nomatch z) h
 | @tup a xs ea=>
  cases(show u=Value.ref a from rx)
  obtain⟨_,_,_,p⟩:=(show zdh X.prog X.w H s.heap a (.tup xs)from I.hok a _ ea)
  obtain⟨o,h1,h2,_⟩:=p
  exact qAA qB9 I.kIn ⟨o,h1,h2⟩ e (λz=>nomatch z) h
 | @dK a kvs ea=>
  cases(show u=Value.ref a from rx)
  obtain⟨_,_,vs,_,p⟩:=(show zdh X.prog X.w H s.heap a (.dK kvs)from I.hok a _ ea)
  obtain⟨o,es,ep,h1,h2,_⟩:=p
  exact qAA qBX I.kIn ⟨o,h1,h2.1⟩ e (λz=>nomatch z) h
 | @dT a kvs ea=>
  cases(show u=Value.ref a from rx)
  obtain⟨_,_,xs,_,o,es,ep,h1,h2,_⟩:=(show zdh X.prog X.w H s.heap a (.dT kvs)from I.hok a _ ea)
  exact qAA qBX I.kIn ⟨o,h1,h2.1⟩ e (λz=>nomatch z) h
 | @ins a C dx fs ea cl ha hn htk hm=>
  cases(show u=Value.ref a from rx)
  obtain⟨mA,O,_⟩:=zaeo I.hok ea
  obtain⟨od,J,_⟩:=O.look
  exact qAA (PySem.W.kitx_own (cl.get _) cl.hd ha hn htk hm) I.kIn J e (λz=>nomatch z) h
end
set_option genInjectivity false in
structure Room(k:Nat)(A:Around):Prop where
 hd:A.handled=none
 dp:A.depth+3 * k+5<recursionLimit
 un:A.units+16 * k+200<cLine
 gd:A.guards=some []
theorem Room.mono{j k:Nat}{A:Around}(r:Room k A)(h:j<=k):Room j A:=⟨r.hd,by have:=r.dp;omega,by have:=r.un;omega,r.gd⟩
theorem Room.deeper{k:Nat}{A:Around}(r:Room (k+1) A)(env:Env):Room k (A.deeper env):=
 ⟨r.hd,by have:=r.dp;show A.depth+1+3 * k+5<_;omega,by have:=r.un;show A.units+3+16 * k+200<_;omega,r.gd⟩
theorem zvg{A:Around}{C:Addr}{us:List Value}{kw:List (Str×Value)}:(A.under (.builtin "type.__call__" ⟨.ref C::us,kw⟩)).depth=A.depth+1:=by
 first|rfl|simp[Around.under,Code.weight,Code.isCreation,Code.isGuard,Code.isCaller,Code.frames,Code.isFrame,guardIds]
theorem zvh{A:Around}{C:Addr}{us:List Value}{kw:List (Str×Value)}:(A.under (.builtin "type.__call__" ⟨.ref C::us,kw⟩)).units=A.units+1:=by
 first|rfl|simp[Around.under,Code.cUnits,Code.frames,Code.isFrame]
theorem Room.make{k:Nat}{A:Around}(r:Room (k+1) A)(C:Addr)(us:List Value)(kw:List (Str×Value)):Room k (A.under (.builtin "type.__call__" ⟨.ref C::us,kw⟩)):=
 ⟨r.hd,by have:=r.dp;rw[zvg];omega,by have:=r.un;rw[zvh];omega,by first|exact r.gd|(simpa [Around.under,Code.isGuard,Code.isFrame,guardIds]using r.gd)⟩
theorem Room.depth{k:Nat}{A:Around}(r:Room k A):A.depth<recursionLimit:=by have:=r.dp;omega
theorem Room.units{k:Nat}{A:Around}(r:Room k A):A.units+64<cLine:=by have:=r.un;omega
noncomputable def tNil:TA:=λ_ H Q=>Q [] H
noncomputable def tCons(ta:TE)(tr:TA):TA:=λσ H Q=>ta σ H λx H1=>tr σ H1 λxs H2=>Q (x::xs) H2
section
variable{X:Cx}{e:Expr}{es:List Expr}{te:TE}{t:TA}{pos:Pos}
theorem zhe:PA X [] tNil:=λ_ _ _ _ H Q I h=>qBd ⟨[],H,I,.nil,h⟩
theorem zbn(ha:PE X e te)(hr:PA X es t)(hs:starEach (e::es) X.env=(false,eval e X.env)::starEach es X.env:=by rfl):PA X (e::es) (tCons te t):=by
 intro pos pins s σ H Q I h
 rw[hs]
 show wpAny _ _ (spliced ((false,eval e X.env)::backTo pos (starEach es X.env))) _ _ s
 refine qBY (thn (ha pins s σ H _ I h) λu s1 ⟨x,H1,I1,r1,q1⟩=>?_)
 exact thn (hr pos pins s1 σ H1 _ I1 q1) λus s2 ⟨xs,H2,I2,r2,q2⟩=>⟨x::xs,H2,I2,.cons r1 r2,q2⟩
noncomputable def tTup(t:TA):TE:=λσ H Q=>t σ H λxs H1=>xs.length<=qQ/\∀p,H1 p=none->Q (.ref p) (upd H1 p (.tup xs))
noncomputable def tLst(t:TA):TE:=λσ H Q=>t σ H λxs H1=>xs.length<=qQ/\∀p,H1 p=none->Q (.ref p) (upd H1 p (.lst xs))
theorem zqg{x1}(h:PA X es t):PE X (.Tuple es x1 pos) (tTup t):=by
 intro pins s σ H Q I hq
 refine wpAny_Tuple_spliced (thn (h pos pins s σ H _ I hq) λus s1 ⟨xs,H1,I1,r,z,q⟩=>⟨by rw[<- r.length];exact z,?_⟩)
 have hf:H1 s1.heap.objs.size=none:=I1.hok.fresh (qJ _)
 refine⟨.ref s1.heap.objs.size,upd H1 s1.heap.objs.size (.tup xs),I1.laid (t':=s1.toks) (λb u e=>qI _ e) (qJ _) ?_,rfl,q _ hf⟩
 exact⟨z,us,r,⟨_,qAN _ rfl,rfl,_,rfl⟩⟩
theorem zade(h:PA X es t):PE X (.List es pos) (tLst t):=by
 intro pins s σ H Q I hq
 refine wpAny_List_spliced (thn (h pos pins s σ H _ I hq) λus s1 ⟨xs,H1,I1,r,z,q⟩=>⟨by rw[<- r.length];exact z,?_⟩)
 have hf:H1 s1.heap.objs.size=none:=I1.hok.fresh (qJ _)
 refine⟨.ref s1.heap.objs.size,upd H1 s1.heap.objs.size (.lst xs),I1.laid (t':=s1.toks) (λb u e=>qI _ e) (qJ _) ?_,rfl,q _ hf⟩
 exact⟨z,us,0,r,qAN _ rfl⟩
end
noncomputable abbrev Sp:=List V->Hp->VK->XK->Prop
noncomputable abbrev CXT:=List Env->Hp->Shared->XK->Value->Shared->Prop
set_option genInjectivity false in
structure Env0(P:Program)(w:World)(K:qC)(mg:Str->Option Value)(base:Heap)(A:Around)(outer:List Env)(s:Shared)(H:Hp):Prop where
 frames:A.frames=some outer
 mod:Mod K mg base
 bs:∀b o,base.get? b=some o->s.heap.get? b=some o/\H b=none
 bsz:base.objs.size<=s.heap.objs.size
 funs:s.heap.FunFrames base outer
 frf:∀b∈frs outer,H b=none
 hok:HOk P w H s.heap
 bare:AllBare s.gens
noncomputable def CE(outer:List Env)(P:Program)(w:World)(H:Hp)(s:Shared)(Q:VK)(u:Value)(s':Shared):Prop:=
 ∃v H',s'.os=s.os/\AllBare s'.gens/\Un (frs outer) [] H H' s.heap s'.heap/\HOk P w H' s'.heap/\RelV v u/\Q v H'
noncomputable def CR(CX:CXT)(outer:List Env)(P:Program)(w:World)(H:Hp)(s:Shared)(Q:VK)(E:XK)(r:Result)(s':Shared):Prop:=
 match r with
 | .ok (.ret u)=>CE outer P w H s Q u s'
 | .ok _=>False
 | .error e=>CX outer H s E e s'
set_option genInjectivity false in
structure FnOk(P:Program)(w:World)(K:qC)(mg:Str->Option Value)(base:Heap)(CX:CXT)(k:Nat)(f:Addr)(fd:qq)(ps:List Str)(sp:Sp):Prop where
 len:∀vs H Q E,sp vs H Q E->vs.length=ps.length
 run:∀(A:Around)(outer:List Env)(s:Shared)(H:Hp)(args:Args)(us:List Value)(vs:List V)(Q:VK)(E:XK),Room k A->Env0 P w K mg base A outer s H->BindsTo s fd args (ps.zip us)->Vals vs us->sp vs H Q E->
  codeAny (model P w) A (.call (.ref f) args) (CR CX outer P w H s Q E) s
theorem Env0.make{P:Program}{w:World}{K:qC}{mg:Str->Option Value}{base:Heap}{A:Around}{outer:List Env}{s:Shared}{H:Hp}(e:Env0 P w K mg base A outer s H)(C:Addr)(us:List Value)(kw:List (Str×Value)) :
  Env0 P w K mg base (A.under (.builtin "type.__call__" ⟨.ref C::us,kw⟩)) outer s H:=⟨by first|exact e.frames|(simpa [Around.under,Code.envs,Code.isFrame,pushEnvs]using e.frames),e.mod,e.bs,e.bsz,e.funs,e.frf,e.hok,e.bare⟩
section
variable{X:Cx}{pins:List (Addr×Obj)}{σ:St}{H:Hp}{s s':Shared}
theorem Inv.env0(I:Inv X pins σ H s):Env0 X.prog X.w X.K X.mg X.base X.A X.stack s H:=
 ⟨I.ok.frames,I.ok.mod,I.bs,qf I.ok.bsz I.sz,I.stack,I.stkFree,I.hok,I.bare⟩
theorem Inv.after{Q:VK}{u:Value}(I:Inv X pins σ H s)(h:CE X.stack X.prog X.w H s Q u s'):EP X pins σ Q u s':=by
 obtain⟨v,H',os,bare,un,hok,r,q⟩:=h
 obtain⟨hh,g,d,t,os'⟩:=s'
 obtain rfl:os'=s.os:=os
 exact⟨v,H',I.call (h':=hh) (g':=g) (d':=d) (t':=t) (ch:=[]) un hok bare (λb z=>absurd z (by simp)),r,q⟩
end
noncomputable def tCall(sp:Sp)(dvs:List V)(E:XK)(t:TA):TE:=λσ H Q=>t σ H λvs H1=>sp (vs++dvs) H1 Q E
noncomputable def zgu(K:qC)(fd:qq)(ps:List Str)(ds:List Value):Prop:=
 ∀(s:Shared)(us:List Value),K.In s.heap->(us++ds).length=ps.length->BindsTo s fd ⟨us,[]⟩ (ps.zip (us++ds))
theorem zgu.all{K:qC}{fd:qq}{ps:List Str}(h:∀us:List Value,us.length=ps.length->bindArgs fd ⟨us,[]⟩=pure (ps.zip us)):zgu K fd ps []:=λs us _ hl=>by
 rw[qx]at hl ⊢
 exact .of_eq (h us hl)
noncomputable def zqh(CX:CXT)(X:Cx)(E:XK):Prop:=∀(pins:List (Addr×Obj))(σ:St)(H:Hp)(s:Shared)(e:Value)(s':Shared),Inv X pins σ H s->CX X.stack H s E e s'->X.xe e s'
section
variable{X:Cx}{CX:CXT}{k:Nat}{f C:Addr}{fd:qq}{ps:List Str}{sp:Sp}{dvs:List V}{ds:List Value}{E:XK}{x m:Str}{p pos apos:Pos}{e o:Expr}{es:List Expr}{ta:TE}{t:TA}
theorem zaiw{pins:List (Addr×Obj)}{σ:St}{H:Hp}{s:Shared}{Q:VK}{us:List Value}{vs:List V}(F:FnOk X.prog X.w X.K X.mg X.base CX k f fd ps sp)(hr:Room k X.A)(hb:zgu X.K fd ps ds)(hd:Vals dvs ds)(hx:zqh CX X E)
  (I:Inv X pins σ H s) (r:Vals vs us) (h:sp (vs++dvs) H Q E):wpAny (model X.prog X.w) X.A (call (.ref f) us) (EP X pins σ Q) X.xe s:=by
 have r2:Vals (vs++dvs) (us++ds):=r.append hd
 have hl:(us++ds).length=ps.length:=by rw[<- r2.length];exact F.len _ _ _ _ h
 refine qBw (qA8 (F.run X.A X.stack s H ⟨us,[]⟩ (us++ds) (vs++dvs) Q E hr I.env0 (hb s us I.kIn hl) r2 h) λr s' hq=>?_)
 cases r with
 | error e=>exact hx pins σ H s e s' I hq
 | ok fl=>
  cases fl with
  | ret u=>exact I.after hq
  | next=>exact False.elim hq
  | brk=>exact False.elim hq
  | cont=>exact False.elim hq
theorem zxf(F:FnOk X.prog X.w X.K X.mg X.base CX k f fd ps sp)(hr:Room k X.A)(hg:Gl X x)(hm:X.mg x=some (.ref f))(hk:qAX X.K (.ref f)=true)(hb:zgu X.K fd ps ds)(hd:Vals dvs ds)(hx:zqh CX X E)
  (ha:PA X (e::es) t)(hdb:(x==("__debug__":Str))=false:=by decide)(he:starEach (e::es) X.env=(false,eval e X.env)::starEach es X.env:=by rfl)(hpl:(backTo pos (starEach es X.env)).any (·.1)=false:=by rfl) :
  PE X (.Call (.Name x p) (e::es) [] pos) (tCall sp dvs E t):=by
 intro pins s σ H Q I h
 refine qAa (zlh I hg hm ?_ hdb)
 refine qBP (h₀:=X.base) I.ok.mod.kin hk (thn (ha pos pins s σ H _ I h) λus s1 ⟨vs,H1,I1,r,q⟩=>⟨I1.kIn,?_⟩) he hpl
 exact zaiw F hr hb hd hx I1 r q
set_option genInjectivity false in
end
section
variable{X:Cx}{CX:CXT}{k:Nat}{f C:Addr}{fd:qq}{ps ks:List Str}{sp:Sp}{E:XK}{x m:Str}{p pos apos kpos:Pos}{e o:Expr}{es:List Expr}{kws:List Keyword}{te ta:TE}{t tk:TA}{nm:Option Str}
set_option genInjectivity false in
variable{g:List Value->List Value->List Value}{gV:List V->List V->List V}
end
set_option genInjectivity false in
structure FnScope(N P:List Str)(sc:Scope):Prop where
 kind:sc.kind=.function
 co:sc.isCoroutine=false
 gen:sc.isGenerator=false
 nd:N.Nodup
 pre:N.take P.length=P
 par:∀x∈P,sc.names.lookup x=some .local\/sc.names.lookup x=some .cell
 nofree:∀y∈sc.names,y.2≠.free
theorem zqi{kindOf:Str->Option NameKind}{x:Str}:∀{binds:List (Str×Value)}{m:Str->Option Value},(∀v,(x,v)∉binds)->bindL kindOf binds m x=m x
 | [],_,_=>rfl
 | (n,v)::r,m,h=>by
  unfold bindL
  rw[zqi λw hw=>h w (qK _ hw)]
  split
  ·have:x≠n:=by rintro rfl;exact h v qt
   simp[this]
  ·rfl
theorem zqj{kindOf:Str->Option NameKind}{x:Str}:∀{binds:List (Str×Value)}{m:Str->Option Value},(∀v,(x,v)∉binds)->bindC kindOf binds m x=m x
 | [],_,_=>rfl
 | (n,v)::r,m,h=>by
  unfold bindC
  rw[zqj λw hw=>h w (qK _ hw)]
  split
  ·rfl
  ·have:x≠n:=by rintro rfl;exact h v qt
   simp[this]
theorem zqk{kindOf:Str->Option NameKind}{x:Str}{v:Value}:∀{P:List Str}{vs:List Value}{i:Nat}{m:Str->Option Value},P.Nodup->P[i]?=some x->vs[i]?=some v->kindOf x=some .local->
  bindL kindOf (P.zip vs) m x=some v
 | [],_,_,_,_,h,_,_=>by simp at h
 | _::_,[],_,_,_,_,h,_=>by simp at h
 | p::P,w::vs,0,m,nd,h1,h2,hk=>by
  simp at h1 h2;subst h1;subst h2
  show bindL kindOf ((p,w)::P.zip vs) m p=_
  unfold bindL
  rw[zqi λv hv=>(qAb.mp nd).1 (qBL hv).1,if_pos hk]
  simp
 | p::P,w::vs,i+1,m,nd,h1,h2,hk=>by
  show bindL kindOf ((p,w)::P.zip vs) m x=_
  unfold bindL
  exact zqk (i:=i) (qAb.mp nd).2 (by simpa using h1) (by simpa using h2) hk
theorem zql{kindOf:Str->Option NameKind}{x:Str}{v:Value}:∀{P:List Str}{vs:List Value}{i:Nat}{m:Str->Option Value},P.Nodup->P[i]?=some x->vs[i]?=some v->kindOf x≠some .local->
  bindC kindOf (P.zip vs) m x=some v
 | [],_,_,_,_,h,_,_=>by simp at h
 | _::_,[],_,_,_,_,h,_=>by simp at h
 | p::P,w::vs,0,m,nd,h1,h2,hk=>by
  simp at h1 h2;subst h1;subst h2
  show bindC kindOf ((p,w)::P.zip vs) m p=_
  unfold bindC
  rw[zqj λv hv=>(qAb.mp nd).1 (qBL hv).1,if_neg hk]
  simp
 | p::P,w::vs,i+1,m,nd,h1,h2,hk=>by
  show bindC kindOf ((p,w)::P.zip vs) m x=_
  unfold bindC
  exact zql (i:=i) (qAb.mp nd).2 (by simpa using h1) (by simpa using h2) hk
noncomputable def zdi(N:List Str)(vs:List V):St:=vs.map some++List.replicate (N.length - vs.length) none
noncomputable def cxOf(CX:CXT)(P:Program)(w:World)(K:qC)(mg:Str->Option Value)(base:Heap)(N:List Str)(qual:Str)(scope:Scope)(f:Addr)(cd:Value)(A:Around)(outer:List Env)(s:Shared)(H:Hp)(E:XK):Cx where
 prog:=P
 w:=w
 K:=K
 mg:=mg
 base:=base
 A:=A.deeper (envOfC qual scope s.heap.objs.size f cd)
 N:=N
 s₀:=s
 H₀:=H
 env:=envOfC qual scope s.heap.objs.size f cd
 outer:=outer
 stack:=envOfC qual scope s.heap.objs.size f cd::outer
 ex:=[]
 calm:=true
 fn:=λ_=>true
 pn:=[]
 xe:=λe s'=>wpAny (model P w) (A.deeper (envOfC qual scope s.heap.objs.size f cd)) (leaving (envOfC qual scope s.heap.objs.size f cd) e) (λ_ s''=>CX outer H s E e s'') (λe' s''=>CX outer H s E e' s'') s'
theorem zos{sc:Scope}{n:Nat}{x:Str}(h:sc.names.lookup x=some .cell):∃c,(cellsFrom n sc.names []).lookup x=some c:=by
 have q:=qA7 sc.names n [] (.inl h)
 exact Option.isSome_iff_exists.mp q
theorem zqm{CX:CXT}{P:Program}{w:World}{K:qC}{mg:Str->Option Value}{base:Heap}{N ps:List Str}{qual:Str}{scope:Scope}{f:Addr}{cd:Value}{A:Around}{outer:List Env}{s s1:Shared}{H:Hp}{E:XK}{us:List Value}{vs:List V}
  (S:FnScope N ps scope)(hd:A.handled=none)(e0:Env0 P w K mg base A outer s H)(hl:vs.length=ps.length)(r:Vals vs us)
  (x:InCallC s s.heap.objs.size (bindL (envOfC qual scope s.heap.objs.size f cd).kindOf (ps.zip us) λ_=>none) (cellsFrom (s.heap.objs.size+1) scope.names []) (bindC (envOfC qual scope s.heap.objs.size f cd).kindOf (ps.zip us) λ_=>none) s1) :
  Inv (cxOf CX P w K mg base N qual scope f cd A outer s H E) [] (zdi N vs) H s1:=by
 have hpl:ps.length<=N.length:=by have:=congrArg List.length S.pre;rw[qBp]at this;omega
 obtain⟨h1,tk,rfl,hk⟩:=x.done
 have noA:∀b:Addr,b∉(cxOf CX P w K mg base N qual scope f cd A outer s H E).ex:=λb z=>absurd (show b∈([]:List Addr)from z) (by simp)
 refine⟨⟨e0.mod,S.kind,rfl,rfl,qJ _,λy z c h1 h2=>?_,λy hy=>?_,λy c _ h=>?_,λ_=>hd,Around.frames_deeper e0.frames,.inr ⟨rfl,rfl⟩,λb z=>absurd z (noA b),e0.bs,e0.bsz,λb _ _=>noA b,λb z=>absurd z (noA b),e0.funs,e0.frf⟩,
  rfl,e0.bare,Un.kept hk,⟨_,x.toInCall.ns,λi y v h1 h2 h3=>?_⟩,λy c h=>⟨_,x.cell y c h⟩,e0.hok.fresh (qJ _),λy c h=>?_,λp hp=>absurd (show p∈([]:List (Addr×Obj))from hp) (by simp),e0.hok.kept hk,?_⟩
 ·exact name_of_addr x.apart (qs h1) (qs h2)
 ·have hy:scope.names.lookup y=some .cell\/scope.names.lookup y=some .free:=hy
  rcases hy with hy|hy
  ·exact zos hy
  ·exact absurd rfl (S.nofree _ (qs hy))
 ·exact qBn (x.above y c (qs h))
 ·have hi:i<vs.length:=by
   unfold zdi at h2
   by_cases hi:i<vs.length
   ·exact hi
   ·rw[qp (by simpa using hi)]at h2
    rw[qBB]at h2
    split at h2<;>cases h2
  have ha:vs[i]?=some v:=by
   unfold zdi at h2
   rw[qAK (by simpa using hi),qa]at h2
   cases e:vs[i]? with
   | none=>rw[e]at h2;cases h2
   | some a=>rw[e]at h2;cases h2;rfl
  obtain⟨u,hu,rv⟩:=r.get ha
  have hp:ps[i]?=some y:=by
   rw[<- S.pre,List.getElem?_take_of_lt (by omega)];exact h1
  have ndP:ps.Nodup:=by rw[<- S.pre];exact S.nd.sublist (List.take_sublist _ _)
  refine⟨u,rv,?_⟩
  rcases S.par y (qAu hp)with k|k
  ·exact .inl ⟨k,zqk ndP hp hu k⟩
  ·obtain⟨c,e⟩:=zos (n:=s.heap.objs.size+1) k
   refine .inr ⟨.inl k,c,e,?_⟩
   have q:=x.cell y c e
   rw[zql ndP hp hu (by show scope.names.lookup y≠_;rw[k];decide)]at q
   exact q
 ·exact e0.hok.fresh (qBn (x.above y c (qs h)))
 ·unfold zdi
  show _=N.length
  rw[qF,qD,qBM]
  omega
theorem zamu{CX:CXT}{P:Program}{w:World}{K:qC}{mg:Str->Option Value}{base:Heap}{k:Nat}{f:Addr}{name qual:Str}{params:Arguments}{body:List Stmt}{scope:Scope}{dV kV doc pm cdv ct oc:Value}{an od:Option Addr}
  {osl:Array (Option Value)}{N ps:List Str}{sp:Sp}(lk:K.lookup f=some ⟨oc,od,.func (qAB name qual params body scope dV kV doc pm an cdv ct),osl⟩)(hcd:qA1 K cdv qual=true)(S:FnScope N ps scope)
  (len:∀vs H Q E,sp vs H Q E->vs.length=ps.length)
  (hbody:∀(A:Around)(outer:List Env)(s:Shared)(H:Hp)(vs:List V)(Q:VK)(E:XK),Room k (A.deeper (envOfC qual scope s.heap.objs.size f cdv))->sp vs H Q E->
   ∃t,PSs (cxOf CX P w K mg base N qual scope f cdv A outer s H E) body t/\t {nx:=λ_ H'=>Q .non H',rt:=Q} (zdi N vs) H) :
  FnOk P w K mg base CX (k+1) f (qAB name qual params body scope dV kV doc pm an cdv ct) ps sp:=by
 refine⟨len,λA outer s H args us vs Q E hr e0 hb r hsp=>?_⟩
 have hl:=len _ _ _ _ hsp
 have KX:K.In s.heap:=e0.mod.kin.keeps λb o e=>(e0.bs b o e).1
 have lim:s.heap.NoLimit:=e0.mod.nolimit.keeps λb o e=>(e0.bs b o e).1
 have hkind:∀y∈ps.zip us,scope.names.lookup y.1=some .local\/(scope.names.lookup y.1=some .cell/\((cellsFrom (s.heap.objs.size+1) scope.names []).lookup y.1).isSome=true):=λ⟨n,v⟩ hy=>by
  rcases S.par n (qBL hy).1 with q|q
  ·exact .inl q
  ·exact .inr ⟨q,qA7 _ _ _ (.inl q)⟩
 refine codeAny_call_function hr.depth (KX _ _ lk) rfl S.co S.gen rfl (qCA KX hcd) (hb _ _ _ _ ?_)
 refine qB8 S.kind hkind λenv he s1 x=>?_
 subst he
 refine⟨lim.keeps x.toInCall.keep,codeAny_func ?_⟩
 obtain⟨t,ht,hq⟩:=hbody A outer s H vs Q E (hr.deeper _) hsp
 have I:Inv (cxOf CX P w K mg base N qual scope f cdv A outer s H E) [] (zdi N vs) H s1:=zqm S hr.hd e0 hl r x
 refine qA4 (ht [] s1 (zdi N vs) H _ I hq) (λfl s' hs=>?_) λe s' hs=>hs
 have fin:∀{σ':St}{H':Hp}{v:V}{u:Value},Inv (cxOf CX P w K mg base N qual scope f cdv A outer s H E) [] σ' H' s'->RelV v u->Q v H'->CE outer P w H s Q u s':=
  λ{σ' H' v u} J rv q=>⟨v,H',J.os,J.bare,J.base,J.hok,rv,q⟩
 cases fl with
 | ret u=>
  obtain⟨v,σ',H',J,rv,q⟩:=hs
  exact fin J rv q
 | next=>
  obtain⟨σ',H',J,q⟩:=hs
  exact fin (v:=V.non) (u:=Value.none) J rfl q
 | brk=>
  obtain⟨_,_,_,q⟩:=hs
  exact False.elim q
 | cont=>
  obtain⟨_,_,_,q⟩:=hs
  exact False.elim q
section
variable{X:Cx}{x:Str}{p pos:Pos}{e:Expr}{es:List Expr}{t:TA}{id T:String}{r:List V->Hp->VK->Prop}
noncomputable def tCB(r:List V->Hp->VK->Prop)(t:TA):TE:=λσ H Q=>t σ H λvs H1=>r vs H1 Q
theorem zkw(hc:CallR X (.builtin id) r)(hg:Gl X x)(hm:X.mg x=none)(hv:bootBuiltins x=some (.builtin id))(ha:PA X (e::es) t)(hn:x≠"__name__":=by decide)(hdb:(x==("__debug__":Str))=false:=by decide)
  (he:starEach (e::es) X.env=(false,eval e X.env)::starEach es X.env:=by rfl) (hpl:(backTo pos (starEach es X.env)).any (·.1)=false:=by rfl):PE X (.Call (.Name x p) (e::es) [] pos) (tCB r t):=by
 intro pins s σ H Q I h
 refine qAa (zli I hg hm hv ?_ hn hdb)
 exact PyProof.Rows.callWith_builtin1 (thn (ha pos pins s σ H _ I h) λus s1 ⟨vs,H1,I1,r1,q1⟩=>hc pins s1 σ H1 vs us Q I1 r1 q1) he hpl
theorem zxg(hc:CallR X (.type T) r)(hg:Gl X x)(hm:X.mg x=none)(hv:bootBuiltins x=some (.type T))(ha:PA X (e::es) t)(hn:x≠"__name__":=by decide)(hdb:(x==("__debug__":Str))=false:=by decide)
  (he:starEach (e::es) X.env=(false,eval e X.env)::starEach es X.env:=by rfl) (hpl:(backTo pos (starEach es X.env)).any (·.1)=false:=by rfl):PE X (.Call (.Name x p) (e::es) [] pos) (tCB r t):=by
 intro pins s σ H Q I h
 refine qAa (zli I hg hm hv ?_ hn hdb)
 exact qBS (thn (ha pos pins s σ H _ I h) λus s1 ⟨vs,H1,I1,r1,q1⟩=>hc pins s1 σ H1 vs us Q I1 r1 q1) he hpl
end
end L2
namespace HT
open PySem PyProof.Rows
section
open PySem.SeqAt
open PySem.AutoSeq1 (wpAny_loadPart')
open PySem.MeetsSeq PySem.MeetsSeq2 PySem.MeetsSeq3
end
section
variable{prog:Program}{w:World}{A:Around}{E:Value->Shared->Prop}{s:Shared}
theorem cat_tup{t b:Addr}{vs ws:List Value}{Q:Value->Shared->Prop}(ht:IsTup s.heap t vs.toArray)(hb:IsTup s.heap b ws.toArray)(hv:vs≠[])
  (h1:ws=[]->Q (.ref t) s) (h2:ws≠[]->Q (.ref s.heap.objs.size) {s with heap:=s.heap.push {cls:=.type "tuple",data:=.seq (vs++ws).toArray}})
  (hsz:vs.length+ws.length<=qQ):wpAny (model prog w) A (binaryOp .Add (.ref t) (.ref b)) Q E s:=by
 obtain⟨⟨cls,dd,data,sl⟩,ho,hc,n,hd⟩:=id ht
 obtain⟨⟨cls2,dd2,data2,sl2⟩,ho2,hc2,n2,hd2⟩:=id hb
 simp only at hc hd hc2 hd2
 subst hc hd hc2 hd2
 have e:vs.toArray++ws.toArray=(vs++ws).toArray:=by simp
 by_cases hw:ws=[]
 ·exact concat_meets ⟨_,ho,rfl⟩ ⟨_,ho2,rfl⟩ noFill_tuple_add seq_tuple_add qB0 qBy (qBs _ _)
   (tuple_addW1 t b vs.toArray ws.toArray n n2 dd dd2 sl sl2 (by simpa using hv) (by simp[hw])) ⟨ho,ho2,h1 hw⟩
 ·refine concat_meets ⟨_,ho,rfl⟩ ⟨_,ho2,rfl⟩ noFill_tuple_add seq_tuple_add qB0 qBy (qBs _ _)
   (tuple_addW2 t b vs.toArray ws.toArray n n2 dd dd2 sl sl2 (by simpa using hv) (by simpa using hw) (by rw[qG,qG];exact hsz)) ⟨ho,ho2,?_⟩
  rw[e]
  exact h2 hw
noncomputable def sIx(n d:Nat):Option Int->Nat
 | none=>d
 | some v=>if v<0 then(v+(n:Int)).toNat else min v.toNat n
end
end HT
namespace L2
open PySem PySem.Spec PyProof.Rows
noncomputable abbrev TO:=St->Hp->(Option Int->Hp->Prop)->Prop
noncomputable def PO(X:Cx)(e:Option Expr)(t:TO):Prop:=
 ∀(pins:List (Addr×Obj))(s:Shared)(σ:St)(H:Hp)(Q:Option Int->Hp->Prop),Inv X pins σ H s->t σ H Q->
  wpAny (model X.prog X.w) X.A (evalPart e X.env) (λu s'=>∃o H',Inv X pins σ H' s'/\IsPart u o/\Q o H') X.xe s
noncomputable def tNoPart:TO:=λ_ H Q=>Q none H
noncomputable def tPart(t:TE):TO:=λσ H Q=>t σ H λx H1=>∃i,x=.int i/\Q (some i) H1
section
variable{X:Cx}{e:Expr}{te:TE}{lo hi:Option Expr}{tl th:TO}{pos p2:Pos}
theorem zaeq:PO X none tNoPart:=by
 intro pins s σ H Q I h
 rw[evalPart_none]
 exact qv ⟨none,H,I,.none,h⟩
theorem zaer(h:PE X e te):PO X (some e) (tPart te):=by
 intro pins s σ H Q I hw
 rw[evalPart_some]
 refine thn (h pins s σ H _ I hw) λu s1 ⟨x,H1,I1,r1,q1⟩=>?_
 obtain⟨i,rfl,q⟩:=q1
 obtain⟨t,rfl⟩:=r1
 exact⟨some i,H1,I1,.int i t,q⟩
noncomputable def SlR(X:Cx)(r:V->Option Int->Option Int->Hp->VK->Prop):Prop:=
 ∀(pins:List (Addr×Obj))(s:Shared)(σ:St)(H:Hp)(x:V)(v vl vu:Value)(lo hi:Option Int)(sl:Addr)(Q:VK),Inv X pins σ H s->RelV x v->s.heap.IsSliceOf sl vl vu .none->IsPart vl lo->IsPart vu hi->r x lo hi H Q->
  ∃T id,typeLookup (.type T) "__getitem__"=pure (some (.builtin id))/\s.TypeIs v T/\wpAny (model X.prog X.w) X.A (getItem v (.ref sl)) (EP X pins σ Q) X.xe s
noncomputable def tSl(r:V->Option Int->Option Int->Hp->VK->Prop)(te:TE)(tl th:TO):TE:=λσ H Q=>te σ H λx H1=>tl σ H1 λl H2=>th σ H2 λu H3=>r x l u H3 Q
theorem zaar{r:V->Option Int->Option Int->Hp->VK->Prop}(hr:SlR X r)(he:PE X e te)(hl:PO X lo tl)(hu:PO X hi th):PE X (.Subscript e (.Slice lo hi none p2) pos) (tSl r te tl th):=by
 intro pins s σ H Q I h
 refine Subscript_ (thn (he pins s σ H _ I h) λv s1 ⟨x,H1,I1,r1,q1⟩=>?_)
 refine wpAny_Slice (thn (hl pins s1 σ H1 _ I1 q1) λvl s2 ⟨l,H2,I2,pl,q2⟩=>thn (hu pins s2 σ H2 _ I2 q2) λvu s3 ⟨u,H3,I3,pu,q3⟩=>?_)
 rw[evalPart_none]
 refine qv ?_
 have I4:Inv X pins σ H3 {s3 with heap:=s3.heap.push {cls:=.type "slice",data:=.fields #[vl,vu,.none]}}:=I3.kept (t':=s3.toks) λb ob q=>qI _ q
 obtain⟨T,id,hT,ht,hg⟩:=hr pins {s3 with heap:=s3.heap.push {cls:=.type "slice",data:=.fields #[vl,vu,.none]}} σ H3 x v vl vu l u s3.heap.objs.size Q I4 r1 (Heap.IsSliceOf.new ..) pl pu q3
 show wpAny (model X.prog X.w) X.A (subscriptTail e (.Slice lo hi none p2) v (.ref s3.heap.objs.size)) (EP X pins σ Q) X.xe {s3 with heap:=s3.heap.push {cls:=.type "slice",data:=.fields #[vl,vu,.none]}}
 exact tail_any (ops:=[.ref s3.heap.objs.size,v]) ht hT hg (by with_unfolding_all rfl)
noncomputable def cutV(xs:List V)(lo hi:Option Int):List V:=(xs.drop (HT.sIx xs.length 0 lo)).take (HT.sIx xs.length xs.length hi - HT.sIx xs.length 0 lo)
theorem zsm(xs:List V)(lo hi:Option Int):(cutV xs lo hi).length<=xs.length:=by
 unfold cutV
 rw[qBp,List.length_drop]
 omega
noncomputable def zaix(K:qC):R2:=λx y H Q=>∃a b xs ys,x=.ref a/\y=.ref b/\SqT K H a xs/\SqT K H b ys/\xs≠[]/\xs.length+ys.length<=qQ/\
 (ys=[]->Q (.ref a) H)/\(ys≠[]->∀p,H p=none->Q (.ref p) (upd H p (.tup (xs++ys))))
theorem Vals.nil_iff{xs:List V}{us:List Value}(r:Vals xs us):us=[]↔xs=[]:=by
 cases r with
 | nil=>simp
 | cons _ _=>simp
theorem zaes:OpR X (binaryOp .Add) (zaix X.K):=by
 intro pins s σ H x y v u Q I rx ry h
 obtain⟨a,b,xs,ys,rfl,rfl,ha,hb,hx,hz,q1,q2⟩:=h
 cases rx
 cases ry
 obtain⟨its,r1,p1,_⟩:=I.tuple ha
 obtain⟨its2,r2,p2,_⟩:=I.tuple hb
 refine HT.cat_tup p1 p2 (λz=>hx (r1.nil_iff.mp z)) (λz=>⟨.ref a,H,I,rfl,q1 (r2.nil_iff.mp z)⟩) (λz=>?_) (by rw[<- r1.length,<- r2.length];exact hz)
 refine⟨.ref s.heap.objs.size,_,I.laid (t':=s.toks) (o:=.tup (xs++ys)) (λb ob q=>qI _ q) (qJ _) ?_,rfl,q2 (λw=>z (r2.nil_iff.mpr w)) _ (I.hok.fresh (qJ _))⟩
 exact⟨by rw[qF];exact hz,_,r1.append r2,IsTup.new _ _⟩
end
noncomputable def ixN(n:Nat)(i:Int):Option Nat:=if 0<=i then(if i<n then some i.toNat else none)else if -(n:Int)<=i then some (i+n).toNat else none
noncomputable def atI{α:Type}(xs:List α)(i:Int):Option α:=(ixN xs.length i).bind λj=>xs[j]?
theorem zxh{n:Nat}{i:Int}{j:Nat}(h:ixN n i=some j):seqIndex? i n=some j/\j<n/\-(n:Int)<=i/\i<n:=by
 unfold ixN at h
 by_cases h0:0<=i
 ·rw[if_pos h0]at h
  by_cases h1:i<n
  ·rw[if_pos h1]at h
   have e:i.toNat=j:=qi h
   exact⟨by rw[qB6 h0 h1,e],by omega,by omega,h1⟩
  ·rw[if_neg h1]at h;cases h
 ·rw[if_neg h0]at h
  by_cases h1:-(n:Int)<=i
  ·rw[if_pos h1]at h
   have e:(i+n).toNat=j:=qi h
   exact⟨by rw[seqIndex_neg (by omega) h1,e],by omega,h1,by omega⟩
  ·rw[if_neg h1]at h;cases h
theorem zsn{α:Type}{xs:List α}{i:Int}{v:α}(h:atI xs i=some v):∃j,seqIndex? i xs.length=some j/\xs[j]?=some v/\j<xs.length/\-(xs.length:Int)<=i/\i<xs.length:=by
 unfold atI at h
 cases e:ixN xs.length i with
 | none=>rw[e]at h;cases h
 | some j=>
  rw[e]at h
  obtain⟨h1,h2,h3,h4⟩:=zxh e
  exact⟨j,h1,h,h2,h3,h4⟩
theorem zlk{α:Type}{xs:List α}{j:Nat}{v:α}(h:xs[j]?=some v):atI xs (j:Int)=some v:=by
 have hj:j<xs.length:=(qZ.mp h).1
 have e:ixN xs.length (j:Int)=some j:=by
  unfold ixN
  rw[if_pos (by omega),if_pos (by omega)];simp
 unfold atI;rw[e];exact h
noncomputable def PlainIx(b:Expr):Prop:=∀o i,subscripted b false o i=operate [o,i] (getItem o i)
noncomputable def IxR(X:Cx)(r:R2):Prop:=
 ∀(value slice:Expr)(pins:List (Addr×Obj))(s:Shared)(σ:St)(H:Hp)(x y:V)(v u:Value)(Q:VK),Inv X pins σ H s->RelV x v->RelV y u->r x y H Q->
  subscripted slice false v u=operate [v,u] (getItem v u)->wpAny (model X.prog X.w) X.A (subscriptTail value slice v u) (EP X pins σ Q) X.xe s
noncomputable def MtR(X:Cx)(id:String)(r:V->List V->Hp->VK->Prop):Prop:=
 ∀(pins:List (Addr×Obj))(s:Shared)(σ:St)(H:Hp)(x:V)(xs:List V)(v:Value)(us:List Value)(Q:VK),Inv X pins σ H s->RelV x v->Vals xs us->r x xs H Q->
  wpAny (model X.prog X.w) X.A (call (.builtin id) (v::us)) (EP X pins σ Q) X.xe s
section
variable{X:Cx}{a b:Expr}{ta tb:TE}{pos:Pos}
theorem zamv{r:R2}(hr:IxR X r)(ha:PE X a ta)(hb:PE X b tb)(hs:PlainIx b):PE X (.Subscript a b pos) (tOp r ta tb):=by
 intro pins s σ H Q I h
 exact Subscript_ (binT ha hb I h λv u s2 x y H2 I2 rx ry q=>hr a b pins s2 σ H2 x y v u Q I2 rx ry q (hs _ _))
noncomputable def rIxL(K:qC):R2:=λx y H Q=>∃p xs i v,x=.ref p/\y=.int i/\SqL K H p xs/\atI xs i=some v/\Q v H
noncomputable def rIxT(K:qC):R2:=λx y H Q=>∃p xs i v,x=.ref p/\y=.int i/\SqT K H p xs/\atI xs i=some v/\Q v H
noncomputable def rIxS:R2:=λx y H Q=>∃z i c,x=.str z/\y=.int i/\z.length<=qQ/\atI z.cps.toList i=some c/\Q (.str ⟨#[c]⟩) H
theorem zaet:IxR X (rIxL X.K):=by
 intro value slice pins s σ H x y v u Q I rx ry h hs
 obtain⟨p,xs,i,z,rfl,rfl,hq,he,q⟩:=h
 cases rx
 obtain⟨t,rfl⟩:=ry
 obtain⟨its,r,pl,hz⟩:=I.list hq
 obtain⟨j,h1,h2,h3,h4,h5⟩:=zsn he
 obtain⟨w,ew,rw'⟩:=r.get h2
 have hl:=r.length
 have hn:=znp
 have fin:EP X pins σ Q w s:=⟨z,H,I,rw',q⟩
 by_cases h0:0<=i
 ·have hj:i.toNat=j:=by
   rw[qB6 h0 h5]at h1
   exact qi h1
  exact item_listR pl.isList h0 (by omega) (by rw[hj];simpa using ew) fin hs
 ·have hj:(i+(its.toArray.size:Int)).toNat=j:=by
   rw[seqIndex_neg (by omega) h4]at h1
   rw[qG,<- hl]
   exact qi h1
  exact subscriptTail_builtinR (x:=w) pl.isList.typeIs slot_list_getitem.lookup
   (wpAny_getItem_list_neg (Q:=λr s'=>r=w/\EP X pins σ Q r s') pl.isList (by omega) (by rw[qG]<;>omega) (by omega) (by rw[hj];simpa using ew) ⟨rfl,fin⟩) hs
theorem zaiy:IxR X (rIxT X.K):=by
 intro value slice pins s σ H x y v u Q I rx ry h hs
 obtain⟨p,xs,i,z,rfl,rfl,hq,he,q⟩:=h
 cases rx
 obtain⟨t,rfl⟩:=ry
 obtain⟨its,r,pl,hz⟩:=I.tuple hq
 obtain⟨j,h1,h2,h3,h4,h5⟩:=zsn he
 obtain⟨w,ew,rw'⟩:=r.get h2
 have hl:=r.length
 have hn:=znp
 have fin:EP X pins σ Q w s:=⟨z,H,I,rw',q⟩
 exact subscriptTail_builtinR (x:=w) pl.typeIs slot_tuple_getitem.lookup
  (getItem_tuple (j:=j) (Q:=λr s'=>r=w/\EP X pins σ Q r s') pl (by omega) (by omega) (by rw[qG,<- hl];exact h1) (by simpa using ew) ⟨rfl,fin⟩) hs
theorem zaiz:IxR X rIxS:=by
 intro value slice pins s σ H x y v u Q I rx ry h hs
 obtain⟨z,i,c,rfl,rfl,hz,he,q⟩:=h
 obtain⟨t,rfl⟩:=rx
 obtain⟨t',rfl⟩:=ry
 obtain⟨j,h1,h2,h3,h4,h5⟩:=zsn he
 have hl:z.cps.toList.length=z.length:=by simp[Str.length]
 rw[hl]at h1 h4 h5
 have hn:=znp
 exact tail_any (qBx s z t) slot_str_getitem.lookup (getItem_str (c:=c) (by
  have e1:decide (i < -(2 ^ 63:Int))=false:=decide_eq_false (by omega)
  have e2:decide (i>=2 ^ 63)=false:=decide_eq_false (by omega)
  rw[e1,e2,Bool.or_false]) (by rw[h1];simpa using h2) ⟨.str ⟨#[c]⟩,H,I.tok _,⟨_,rfl⟩,q⟩) hs
theorem zvi(its:List Value)(n j:Nat)(u:Value):Obj.mapSeq (·.setIfInBounds j u) {cls:=.type "list",data:=.seq its.toArray n}={cls:=.type "list",data:=.seq (its.set j u).toArray n}:=by
 simp[Obj.mapSeq]
theorem Inv.lst{pins:List (Addr×Obj)}{σ:St}{H:Hp}{s:Shared}{p:Addr}{xs:List V}(I:Inv X pins σ H s)(h:H p=some (.lst xs)) :
  ∃(its:List Value)(n:Nat),Vals xs its/\s.heap.get? p=some {cls:=.type "list",data:=.seq its.toArray n}/\xs.length<=qQ:=by
 obtain⟨z,its,n,r,e⟩:=I.hok p _ h
 exact⟨its,n,r,e,z⟩
theorem Inv.lstUpd{pins:List (Addr×Obj)}{σ:St}{H:Hp}{s:Shared}{p:Addr}{xs ys:List V}{its its':List Value}{n n':Nat}{f:Obj->Obj}(I:Inv X pins σ H s)(h:H p=some (.lst xs))
  (ho:s.heap.get? p=some {cls:=.type "list",data:=.seq its.toArray n}) (hf:f {cls:=.type "list",data:=.seq its.toArray n}={cls:=.type "list",data:=.seq its'.toArray n'}) (r:Vals ys its') (hz:ys.length<=qQ) (t:Nat) :
  Inv X pins σ (upd H p (.lst ys)) {s with heap:=s.heap.update p f,toks:=t}:=by
 have e:(s.heap.update p f).get? p=some {cls:=.type "list",data:=.seq its'.toArray n'}:=by
  rw[qAT f ho (by rw[hf]<;>rfl),hf]
 refine I.write (x:=p) (e:=p) (by rw[h];trivial) (.inl rfl) (λb u hb q=>(q9 _ _ (qAo hb)).trans q) ⟨_,e⟩ ?_
 exact⟨hz,its',n',r,e⟩
noncomputable def zaas:V->V->V->Hp->(Hp->Prop)->Prop:=λo i v H Q=>∃p xs k j,o=.ref p/\i=.int k/\H p=some (.lst xs)/\ixN xs.length k=some j/\Q (upd H p (.lst (xs.set j v)))
theorem zaat:PSet X zaas:=by
 intro pins s σ H o i v ov iv u Q I ro ri rv h
 obtain⟨p,xs,k,j,rfl,rfl,hp,hj,q⟩:=h
 cases ro
 obtain⟨t,rfl⟩:=ri
 obtain⟨its,n,r,ho,hz⟩:=I.lst hp
 obtain⟨h1,h2,h3,h4⟩:=zxh hj
 have hl:=r.length
 have hn:=znp
 have I':Inv X pins σ (upd H p (.lst (xs.set j v))) {s with heap:=s.heap.update p (Obj.mapSeq (·.setIfInBounds j u))}:=
  I.lstUpd hp ho (zvi its n j u) (r.set rv j) (by rw[qR];exact hz) s.toks
 by_cases h0:0<=k
 ·have hk:k.toNat=j:=by
   rw[qB6 h0 h4]at h1
   exact qi h1
  exact PySem.W.ki_setAt ho h0 (by omega) (by rw[qG,<- hl];exact h4) (by rw[hk];exact⟨_,I',q⟩)
 ·have hk:(k+(its.toArray.size:Int)).toNat=j:=by
   rw[seqIndex_neg (by omega) h3]at h1
   rw[qG,<- hl]
   exact qi h1
  exact PySem.W.ki_setBack ho (by omega) (by rw[qG,<- hl];exact h3) (by omega) (by rw[hk];exact⟨_,I',q⟩)
theorem zqn(lo hi:Option Int)(n:Nat):(sliceBounds lo hi none n).1=((HT.sIx n 0 lo:Nat):Int)/\(sliceBounds lo hi none n).2.1=((HT.sIx n n hi:Nat):Int)/\(sliceBounds lo hi none n).2.2=1:=by
 refine⟨?_,?_,rfl⟩
 ·cases lo with
  | none=>simp[sliceBounds,HT.sIx]
  | some i=>
   simp only[sliceBounds,HT.sIx,Option.getD_none,show(1:Int) > 0 by decide,if_true]
   by_cases h:i<0
   ·simp only[h,if_true]<;>omega
   ·simp only[h,if_false]<;>omega
 ·cases hi with
  | none=>simp[sliceBounds,HT.sIx]
  | some i=>
   simp only[sliceBounds,HT.sIx,Option.getD_none,show(1:Int) > 0 by decide,if_true]
   by_cases h:i<0
   ·simp only[h,if_true]<;>omega
   ·simp only[h,if_false]<;>omega
theorem zot(its:List Value)(lo hi:Option Int):slicePick its.toArray lo hi none=((its.drop (HT.sIx its.length 0 lo)).take (HT.sIx its.length its.length hi - HT.sIx its.length 0 lo)).toArray:=by
 obtain⟨h1,h2,h3⟩:=zqn lo hi its.toArray.size
 unfold slicePick
 rw[h1,h2,h3]
 simp only[sliceRange_one,pick_run,qG]<;>rfl
noncomputable def rSlL(K:qC):V->Option Int->Option Int->Hp->VK->Prop:=λx lo hi H Q=>∃a xs,x=.ref a/\SqL K H a xs/\∀p,H p=none->Q (.ref p) (upd H p (.lst (cutV xs lo hi)))
theorem zaeu:SlR X (rSlL X.K):=by
 intro pins s σ H x v vl vu lo hi sl Q I rx hs pl pu h
 obtain⟨a,xs,rfl,hx,q⟩:=h
 cases rx
 obtain⟨its,r,ht,hz⟩:=I.list hx
 have hlen:=r.length
 refine⟨"list",_,slot_list_getitem.lookup,ht.isList.typeIs,?_⟩
 refine wpAny_getItem_list_slice ht.isList hs pl pu .none (by simp) ?_ (by rw[qG]<;>omega)
 rw[zot,<- hlen]
 refine⟨.ref s.heap.objs.size,_,I.laid (t':=s.toks) (o:=.lst (cutV xs lo hi)) (λb ob q=>qI _ q) (qJ _) ?_,rfl,q _ (I.hok.fresh (qJ _))⟩
 exact⟨qf (zsm xs lo hi) hz,_,0,(r.drop (HT.sIx xs.length 0 lo)).take (HT.sIx xs.length xs.length hi - HT.sIx xs.length 0 lo),qAN _ rfl⟩
noncomputable def zng:V->Bool
 | .non=>true
 | .bl _=>true
 | .int _=>true
 | .str _=>true
 | _=>false
noncomputable def eqV:V->V->Bool
 | .non,.non=>true
 | .bl a,.bl b=>a==b
 | .bl a,.int b=>(if a then 1 else 0)==b
 | .int a,.bl b=>a==(if b then 1 else 0)
 | .int a,.int b=>a==b
 | .str a,.str b=>a==b
 | _,_=>false
theorem zaja{A:Around}{s:Shared}{y x:V}{u v:Value}(ry:RelV y u)(rx:RelV x v)(fy:zng y=true)(fx:zng x=true):SeqAt.EqAt A s u v (eqV y x):=by
 cases y with
 | non=>
  cases ry
  cases x with
  | non=>cases rx;exact SeqAt.EqAt.same _
  | bl b=>cases rx;exact SeqAt.EqAt.none_bool b
  | int b=>obtain⟨t,rfl⟩:=rx;exact SeqAt.EqAt.none_int b t
  | str b=>obtain⟨t,rfl⟩:=rx;exact SeqAt.EqAt.none_str b t
  | _=>exact absurd (show false=true from fx) qL
 | bl a=>
  cases ry
  cases x with
  | non=>cases rx;exact SeqAt.EqAt.bool_none a
  | bl b=>cases rx;exact SeqAt.EqAt.bool_bool a b
  | int b=>obtain⟨t,rfl⟩:=rx;exact SeqAt.EqAt.bool_int a b t
  | str b=>obtain⟨t,rfl⟩:=rx;exact SeqAt.EqAt.bool_str a b t
  | _=>exact absurd (show false=true from fx) qL
 | int a=>
  obtain⟨t',rfl⟩:=ry
  cases x with
  | non=>cases rx;exact SeqAt.EqAt.int_none a t'
  | bl b=>cases rx;exact SeqAt.EqAt.int_bool a t' b
  | int b=>obtain⟨t,rfl⟩:=rx;exact SeqAt.EqAt.int_int a t' b t
  | str b=>obtain⟨t,rfl⟩:=rx;exact qB3 a t' b t
  | _=>exact absurd (show false=true from fx) qL
 | str a=>
  obtain⟨t',rfl⟩:=ry
  cases x with
  | non=>cases rx;exact SeqAt.EqAt.str_none a t'
  | bl b=>cases rx;exact SeqAt.EqAt.str_bool a t' b
  | int b=>obtain⟨t,rfl⟩:=rx;exact qB2 a t' b t
  | str b=>obtain⟨t,rfl⟩:=rx;exact SeqAt.EqAt.str_str a t' b t
  | _=>exact absurd (show false=true from fx) qL
 | _=>exact absurd (show false=true from fy) qL
noncomputable def eqU(x:V)(u:Value):Bool:=match u with
 | .none=>eqV .non x
 | .bool b=>eqV (.bl b) x
 | .int i _=>eqV (.int i) x
 | .str z _=>eqV (.str z) x
 | _=>false
theorem zadf{x y:V}{u:Value}(r:RelV y u)(f:zng y=true):eqU x u=eqV y x:=by
 cases y with
 | non=>cases r;rfl
 | bl b=>cases r;rfl
 | int i=>obtain⟨t,rfl⟩:=r;rfl
 | str z=>obtain⟨t,rfl⟩:=r;rfl
 | _=>exact absurd (show false=true from f) qL
theorem zso{x:V}:∀{xs:List V}{us:List Value},Vals xs us->xs.all zng=true->us.any (eqU x)=xs.any λy=>eqV y x
 | _,_,.nil,_=>rfl
 | y::xs,u::us,.cons r t,f=>by
  rw[qAx,qk]at f
  rw[qBa,qBa,zadf r f.1,zso t f.2]
theorem zou{A:Around}{s:Shared}{x:V}{v:Value}(rx:RelV x v)(fx:zng x=true):∀{xs:List V}{us:List Value},Vals xs us->xs.all zng=true->∀u∈us,SeqAt.EqAt A s u v (eqU x u)
 | _,_,.nil,_=>λu hu=>by cases hu
 | y::xs,u::us,.cons r t,f=>λu' hu=>by
  rw[qAx,qk]at f
  rcases qW.mp hu with rfl|hu
  ·rw[zadf r f.1];exact zaja r rx f.1 fx
  ·exact zou rx fx t f.2 u' hu
noncomputable def inV(x:V)(xs:List V):Bool:=xs.any λy=>eqV y x
noncomputable def rIn(K:qC)(neg:Bool):R2:=λx y H Q=>∃p xs,y=.ref p/\(SqL K H p xs\/SqT K H p xs)/\zng x=true/\xs.all zng=true/\Q (.bl (if neg then !inV x xs else inV x xs)) H
theorem zqo:OpR X (compareOp .NotIn) (rIn X.K true):=by
 intro pins s σ H x y v u Q I rx ry h
 obtain⟨p,xs,rfl,hq,fx,fs,q⟩:=h
 cases ry
 rcases hq with hq|hq
 ·obtain⟨its,r,pl,hz⟩:=I.list hq
  refine SeqAt.notIn_listAt (eqU x) pl.isList (λw hw=>zou rx fx r fs w (by simpa using hw)) ⟨.bl _,H,I,rfl,?_⟩
  rw[show its.toArray.any (eqU x)=its.any (eqU x) by simp,zso r fs]
  exact q
 ·obtain⟨its,r,pl,hz⟩:=I.tuple hq
  refine SeqAt.notIn_tupleAt (eqU x) pl (λw hw=>zou rx fx r fs w (by simpa using hw)) ⟨.bl _,H,I,rfl,?_⟩
  rw[show its.toArray.any (eqU x)=its.any (eqU x) by simp,zso r fs]
  exact q
theorem zkl:CallR X (.type "list") (λxs H Q=>∃p ys,xs=[.ref p]/\(SqL X.K H p ys\/SqT X.K H p ys)/\∀l,H l=none->Q (.ref l) (upd H l (.lst ys))):=by
 intro pins s σ H xs us Q I r h
 obtain⟨p,ys,rfl,hq,q⟩:=h
 obtain⟨u,rfl,rx⟩:=znf r
 cases rx
 have fin:∀(its:List Value),Vals ys its->ys.length<=qQ->∀(h':Heap)(c':Nat),(∀b o',s.heap.get? b=some o'->h'.get? b=some o')->
   h'.get? s.heap.objs.size=some {cls:=.type "list",dict:=none,data:=.seq its.toArray c',slots:=#[]}->EP X pins σ Q (.ref s.heap.objs.size) {s with heap:=h'}:=λits r' hz h' c' kp e=>
  ⟨.ref s.heap.objs.size,_,I.laid (t':=s.toks) kp (qJ _) (show zdh X.prog X.w _ h' _ (.lst ys)from⟨hz,its,c',r',e⟩),rfl,q _ (I.hok.fresh (qJ _))⟩
 rcases hq with hq|hq
 ·obtain⟨its,r',pl,hz⟩:=I.list hq
  have hlen:=r'.length
  obtain⟨o,ho,hc,n,hd⟩:=pl.isList
  exact call_list_seq p (.inl rfl) ho hc hd (λh' c' kp e=>fin its r' hz h' c' kp e) (by simp only[qG]<;>omega)
 ·obtain⟨its,r',pl,hz⟩:=I.tuple hq
  have hlen:=r'.length
  obtain⟨o,ho,hc,n,hd⟩:=pl
  exact call_list_seq p (.inr rfl) ho hc hd (λh' c' kp e=>fin its r' hz h' c' kp e) (by simp only[qG]<;>omega)
theorem zov:CallR X (.type "tuple") (λxs H Q=>∃p ys,xs=[.ref p]/\((SqL X.K H p ys/\∀l,H l=none->Q (.ref l) (upd H l (.tup ys)))\/(SqT X.K H p ys/\Q (.ref p) H))):=by
 intro pins s σ H xs us Q I r h
 obtain⟨p,ys,rfl,h⟩:=h
 obtain⟨u,rfl,rx⟩:=znf r
 cases rx
 rcases h with⟨hq,q⟩|⟨hq,q⟩
 ·obtain⟨its,r',pl,hz⟩:=I.list hq
  have hlen:=r'.length
  refine call_tuple_list pl.isList (λh' kp=>?_) (by simp only[qG]<;>omega)
  have I1:Inv X pins σ H {s with heap:=h'}:=I.kept (t':=s.toks) kp
  have I2:Inv X pins σ (upd H h'.objs.size (.tup ys)) {s with heap:=h'.push {cls:=.type "tuple",data:=.seq its.toArray}}:=
   I1.laid (t':=s.toks) (λb o e=>qI _ e) (qJ _) (show zdh X.prog X.w _ _ _ (.tup ys)from⟨hz,its,r',IsTup.new _ _⟩)
  exact⟨.ref h'.objs.size,_,I2,rfl,q _ (I1.hok.fresh (qJ _))⟩
 ·obtain⟨its,r',pl,hz⟩:=I.tuple hq
  exact call_tuple_same pl ⟨.ref p,H,I,rfl,q⟩
noncomputable def tyV(K:qC)(T:String)(x:V)(H:Hp):Prop:=match x with
 | .str _=>T="str"
 | .int _=>T="int"
 | .ref p=>(T="list"/\∃xs,SqL K H p xs)\/(T="tuple"/\∃o,K.lookup p=some o/\o.cls=.type "tuple"/\o.dict=none)\/
   (T="dict"/\((∃kvs,H p=some (.dK kvs))\/∃kvs,H p=some (.dT kvs)))\/(T="set"/\∃S n,H p=some (.set S n))
 | _=>False
theorem zadg{pins:List (Addr×Obj)}{σ:St}{H:Hp}{s:Shared}{T:String}{x:V}{v:Value}(I:Inv X pins σ H s)(r:RelV x v)(ty:tyV X.K T x H) :
  s.TypeIs v T/\∀a,v=.ref a->∃ob,s.heap.get? a=some ob/\ob.dict=none:=by
 cases x with
 | str z=>
  obtain⟨t,rfl⟩:=r
  cases(show T="str"from ty)
  exact⟨qBx s z t,λ_ e=>nomatch e⟩
 | int i=>
  obtain⟨t,rfl⟩:=r
  cases(show T="int"from ty)
  exact⟨typeIs_int s i t,λ_ e=>nomatch e⟩
 | ref p=>
  cases r
  rcases ty with⟨rfl,xs,hq⟩|⟨rfl,o,hk,hc,hd⟩|⟨rfl,hk⟩|⟨rfl,S,n,hk⟩
  ·obtain⟨its,_,pl,_⟩:=I.list hq
   refine⟨pl.isList.typeIs,λa e=>?_⟩
   cases e
   obtain⟨o,n,e,c,hd,_⟩:=pl
   exact⟨o,e,hd⟩
  ·refine⟨⟨o,I.kIn p o hk,hc⟩,λa e=>?_⟩
   cases e
   exact⟨o,I.kIn _ o hk,hd⟩
  ·have z:∃o,s.heap.get? p=some o/\o.ExactDict:=by
    rcases hk with⟨kvs,hk⟩|⟨kvs,hk⟩
    ·obtain⟨_,_,_,_,o,_,_,e,ex,_⟩:=I.hok p _ hk
     exact⟨o,e,ex⟩
    ·obtain⟨_,_,_,_,o,_,_,e,ex,_⟩:=I.hok p _ hk
     exact⟨o,e,ex⟩
   obtain⟨o,e,ex⟩:=z
   refine⟨⟨o,e,ex.1⟩,λa e2=>?_⟩
   cases e2
   exact⟨o,e,ex.2.1⟩
  ·obtain⟨o,_,_,_,e,ex,_⟩:=I.hok p _ hk
   refine⟨⟨o,e,ex.1⟩,λa e2=>?_⟩
   cases e2
   exact⟨o,e,ex.2.1⟩
 | _=>exact False.elim ty
noncomputable def tBM0(K:qC)(T:String)(r:V->List V->Hp->VK->Prop)(to:TE):TE:=λσ H Q=>to σ H λx H1=>tyV K T x H1/\r x [] H1 Q
noncomputable def tBM(K:qC)(T:String)(r:V->List V->Hp->VK->Prop)(to:TE)(t:TA):TE:=λσ H Q=>to σ H λx H1=>tyV K T x H1/\t σ H1 λxs H2=>r x xs H2 Q
variable{o e:Expr}{es:List Expr}{to:TE}{t:TA}{name:Str}{apos cpos:Pos}{T id:String}{r:V->List V->Hp->VK->Prop}
theorem zajb(pa:PlainAttrs T)(slot:Slot T name id)(hty:typeOf (.builtin id)=pure (.type "method_descriptor"))(hm:MtR X id r)(ho:PE X o to)
  (hbase:attributeBase o name X.env (eval o X.env)=eval o X.env:=by rfl) (hline:(apos.endLine==cpos.line)=true:=by rfl):PE X (.Call (.Attribute o name apos) [] [] cpos) (tBM0 X.K T r to):=by
 intro pins s σ H Q I h
 refine wpAny_Call_method0_late hbase hline (thn (ho pins s σ H _ I h) λv s1 ⟨x,H1,I1,r1,ty,q1⟩=>?_)
 obtain⟨h1,h2⟩:=zadg I1 r1 ty
 exact⟨T,id,pa,slot,hty,h1,h2,qBG rfl (PySem.evalArgs_none (hm pins s1 σ H1 x [] v [] Q I1 r1 .nil q1))⟩
theorem zamw(pa:PlainAttrs T)(slot:Slot T name id)(hty:typeOf (.builtin id)=pure (.type "method_descriptor"))(hm:MtR X id r)(ho:PE X o to)(ha:PA X (e::es) t)
  (hbase:attributeBase o name X.env (eval o X.env)=eval o X.env:=by rfl)
  (hfew:((backTo cpos (starEach (e::es) X.env)).all (λx=>!x.1)&&(backToKw cpos (keywordEach [] X.env)).all (λx=>x.1.isSome)
   && decide ((e::es).length+([]:List Keyword).length+(if([]:List Keyword).isEmpty then 0 else 1)<30))=true:=by rfl)
  (hline:(apos.endLine==cpos.line)=true:=by rfl)(hs:starEach (e::es) X.env=(false,eval e X.env)::starEach es X.env:=by rfl)(hplain:(backTo cpos (starEach es X.env)).any (·.1)=false:=by rfl) :
  PE X (.Call (.Attribute o name apos) (e::es) [] cpos) (tBM X.K T r to t):=by
 intro pins s σ H Q I h
 refine wpAny_Call_method_late hbase hfew hline rfl (thn (ho pins s σ H _ I h) λv s1 ⟨x,H1,I1,r1,ty,q1⟩=>?_)
 obtain⟨h1,h2⟩:=zadg I1 r1 ty
 refine⟨T,id,pa,slot,hty,h1,h2,?_⟩
 have hA:=ha cpos pins s1 σ H1 _ I1 q1
 rw[hs]at hA ⊢
 refine qBG (by show(false||(backTo cpos (starEach es X.env)).any (·.1))=false;rw[hplain]<;>rfl) (qCB ?_)
 exact thn hA λus s2 ⟨vs,H2,I2,r2,q2⟩=>hm pins s2 σ H2 x vs v us Q I2 r1 r2 q2
end
noncomputable def MtM(X:Cx)(id:String)(r:V->List V->Hp->VK->Prop):Prop:=
 ∀(pins:List (Addr×Obj))(s:Shared)(σ:St)(H:Hp)(x:V)(xs:List V)(v:Value)(us:List Value)(Q:VK),Inv X pins σ H s->RelV x v->Vals xs us->r x xs H Q->
  wpAny (model X.prog X.w) X.A (call (.builtin id) (v::us)) (EP X pins σ Q) X.xe s
theorem Vals.one:∀{x:V}{us:List Value},Vals [x] us->∃u,us=[u]/\RelV x u
 | _,_,.cons r .nil=>⟨_,rfl,r⟩
theorem Vals.zero:∀{us:List Value},Vals [] us->us=[]
 | _,.nil=>rfl
theorem Vals.dropLast{xs:List V}{us:List Value}(h:Vals xs us):Vals xs.dropLast us.dropLast:=by
 induction h with
 | nil=>exact .nil
 | cons r t ih=>
  cases t with
  | nil=>exact .nil
  | cons q t'=>exact .cons r ih
theorem Vals.eraseIdx:∀{xs:List V}{us:List Value}(i:Nat),Vals xs us->Vals (xs.eraseIdx i) (us.eraseIdx i)
 | _,_,_,.nil=>.nil
 | _,_,0,.cons _ t=>t
 | _,_,i+1,.cons r t=>.cons r (Vals.eraseIdx i t)
theorem Vals.reverse{xs:List V}{us:List Value}(h:Vals xs us):Vals xs.reverse us.reverse:=by
 induction h with
 | nil=>exact .nil
 | cons r t ih=>rw[List.reverse_cons,List.reverse_cons];exact Vals.append ih (.cons r .nil)
theorem zvj{α:Type}(l:List α):l.eraseIdx (l.length - 1)=l.dropLast:=by
 induction l with
 | nil=>rfl
 | cons a r ih=>
  cases r with
  | nil=>rfl
  | cons b r=>
   have e:(a::b::r).length - 1=((b::r).length - 1)+1:=by
    have h1:(a::b::r).length=r.length+2:=rfl
    have h2:(b::r).length=r.length+1:=rfl
    omega
   rw[e,List.eraseIdx_cons_succ,ih]
   all_goals rfl
theorem zqp{α:Type}:∀(l:List α)(i:Nat),(l.eraseIdx i).length<=l.length
 | [],_=>qJ _
 | _::_,0=>Nat.le_succ _
 | _::r,i+1=>qBr (zqp r i)
section
variable{X:Cx}{pins:List (Addr×Obj)}{σ:St}{H:Hp}{s:Shared}{l b:Addr}{xs ys zs:List V}
theorem Inv.lset{its its':List Value}{n:Nat}{f:Array Value->Array Value}{t':Nat}(I:Inv X pins σ H s)(hH:H l=some (.lst xs))
  (e:s.heap.get? l=some {cls:=.type "list",data:=.seq its.toArray n}) (hf:f its.toArray=its'.toArray) (hv:Vals ys its') (hz:ys.length<=qQ) :
  Inv X pins σ (upd H l (.lst ys)) {s with heap:=s.heap.update l (Obj.mapSeq f),toks:=t'}:=by
 have q:=PySem.IsL.update e f
 rw[hf]at q
 refine I.write (x:=l) (e:=l) (by rw[hH];exact trivial) (.inl rfl) (λb' u hb hu=>(q9 s.heap (Obj.mapSeq f) (qAo hb)).trans hu) ⟨_,q⟩ ?_
 exact⟨hz,its',_,hv,q⟩
theorem Inv.lnew{its:List Value}{t':Nat}(I:Inv X pins σ H s)(hv:Vals ys its)(hz:ys.length<=qQ) :
  Inv X pins σ (upd H s.heap.objs.size (.lst ys)) {s with heap:=s.heap.push {cls:=.type "list",data:=.seq its.toArray},toks:=t'}:=
 I.laid (λ_ _ q=>qI _ q) (qJ _) ⟨hz,its,0,hv,qAN _ rfl⟩
theorem Inv.fresh(I:Inv X pins σ H s):H s.heap.objs.size=none:=I.hok.fresh (qJ _)
theorem Inv.lstM(I:Inv X pins σ H s)(hH:H l=some (.lst xs)):xs.length<=qQ/\∃(its:List Value)(n:Nat),Vals xs its/\xs.length=its.length/\s.heap.get? l=some {cls:=.type "list",data:=.seq its.toArray n}:=by
 obtain⟨z,its,n,r,e⟩:=I.hok l _ hH
 exact⟨z,its,n,r,r.length,e⟩
theorem ztz{n:Nat}(h:n<=qQ):Builtin.List.listTooLong n=false:=by
 unfold Builtin.List.listTooLong
 exact decide_eq_false (by omega)
end
section
variable{X:Cx}
noncomputable def zfa:V->List V->Hp->VK->Prop:=λx vs H Q=>∃l xs y,x=.ref l/\vs=[y]/\H l=some (.lst xs)/\xs.length<qQ/\Q .non (upd H l (.lst (xs++[y])))
theorem zbl:MtM X "list.append" zfa:=by
 intro pins s σ H x vs v us Q I rx rv h
 obtain⟨l,xs,y,rfl,rfl,hH,hz,q⟩:=h
 cases rx
 obtain⟨u,rfl,ru⟩:=rv.one
 obtain⟨z,its,n,r,hl,e⟩:=I.lstM hH
 refine qBI F.slot_list_append ⟨_,e,rfl⟩ F.entry_list_append (F.args_list_append_2 _ _) (PySem.list_append l its.toArray n u (by rw[qG];omega)) ⟨e,?_⟩
 refine⟨.non,_,I.lset (its':=its++[u]) hH e (by simp) (r.append (.cons ru .nil)) ?_,rfl,q⟩
 rw[qF,qAO]
 omega
noncomputable def zaev:V->List V->Hp->VK->Prop:=λx vs H Q=>∃l b xs zs,x=.ref l/\vs=[.ref b]/\H l=some (.lst xs)/\H b=some (.lst zs)/\xs.length+zs.length<=qQ/\Q .non (upd H l (.lst (xs++zs)))
theorem zxi:MtM X "list.extend" zaev:=by
 intro pins s σ H x vs v us Q I rx rv h
 obtain⟨l,b,xs,zs,rfl,rfl,hH,hB,hz,q⟩:=h
 cases rx
 obtain⟨u,rfl,ru⟩:=rv.one
 cases ru
 obtain⟨z,its,n,r,hl,e⟩:=I.lstM hH
 obtain⟨z2,its2,n2,r2,hl2,e2⟩:=I.lstM hB
 have hsz:its.toArray.size+its2.toArray.size<=qQ:=by rw[qG,qG];omega
 have hlong:¬(!its.toArray.isEmpty&&Builtin.List.listTooLong (its.toArray.size+its2.toArray.size))=true:=by
  rw[ztz hsz,Bool.and_false]
  exact qL
 refine qBI F.slot_list_extend ⟨_,e,rfl⟩ F.entry_list_extend (F.args_list_extend_2 _ _)
  (AutoSeq1.list_extend_list_list_0 l its.toArray n b its2.toArray n2 hlong (by rw[qG];omega) (by omega)) ⟨e,e2,?_⟩
 refine⟨.non,_,I.lset (its':=its++its2) hH e (by simp) (r.append r2) ?_,rfl,q⟩
 rw[qF]
 omega
noncomputable def rPop:V->List V->Hp->VK->Prop:=λx vs H Q=>∃l xs y,x=.ref l/\vs=[]/\H l=some (.lst xs)/\xs[xs.length - 1]?=some y/\Q y (upd H l (.lst xs.dropLast))
theorem zajc:MtM X "list.pop" rPop:=by
 intro pins s σ H x vs v us Q I rx rv h
 obtain⟨l,xs,y,rfl,rfl,hH,hy,q⟩:=h
 cases rx
 have hus:=rv.zero
 subst hus
 obtain⟨z,its,n,r,hl,e⟩:=I.lstM hH
 obtain⟨u,hu,ru⟩:=r.get hy
 have hy':its.toArray[its.toArray.size - 1]?=some u:=by
  show its.toArray[its.length - 1]?=some u
  rw[<- qBK,<- hl]
  exact hu
 refine qBI F.slot_list_pop ⟨_,e,rfl⟩ F.entry_list_pop (F.args_list_pop_1 _) (MeetsSeq.list_pop_last l its.toArray n u hy' (by rw[qG];omega)) ⟨e,?_⟩
 refine⟨y,_,I.lset (its':=its.dropLast) hH e ?_ r.dropLast ?_,ru,q⟩
 ·show its.toArray.eraseIdxIfInBounds (its.toArray.size - 1)=its.dropLast.toArray
  rw[qG,qBh,zvj]
 ·rw[List.length_dropLast]
  omega
noncomputable def zadh:V->List V->Hp->VK->Prop:=λx vs H Q=>∃l xs i k y,x=.ref l/\vs=[.int i]/\H l=some (.lst xs)/\-(2 ^ 63)<=i/\i<2 ^ 63/\seqIndex? i xs.length=some k/\xs[k]?=some y/\Q y (upd H l (.lst (xs.eraseIdx k)))
theorem zaau:MtM X "list.pop" zadh:=by
 intro pins s σ H x vs v us Q I rx rv h
 obtain⟨l,xs,i,k,y,rfl,rfl,hH,h1,h2,hk,hy,q⟩:=h
 cases rx
 obtain⟨u,rfl,ru⟩:=rv.one
 obtain⟨t,rfl⟩:=ru
 obtain⟨z,its,n,r,hl,e⟩:=I.lstM hH
 obtain⟨w,hw,rw'⟩:=r.get hy
 refine qBI F.slot_list_pop ⟨_,e,rfl⟩ F.entry_list_pop (F.args_list_pop_2 _ _)
  (MeetsSeq.list_pop_at l its.toArray n i t k w (fitsIndex_both h1 h2) (by rw[qG,<- hl];exact hk) (by rw[<- qBK];exact hw) (by rw[qG];omega)) ⟨e,?_⟩
 refine⟨y,_,I.lset (its':=its.eraseIdx k) hH e ?_ (r.eraseIdx k) ?_,rw',q⟩
 ·show its.toArray.eraseIdxIfInBounds k=(its.eraseIdx k).toArray
  rw[qBh]
 ·have:=zqp xs k
  omega
noncomputable def zow:V->List V->Hp->VK->Prop:=λx vs H Q=>∃l xs,x=.ref l/\vs=[]/\H l=some (.lst xs)/\Q .non (upd H l (.lst xs.reverse))
theorem zvk:MtM X "list.reverse" zow:=by
 intro pins s σ H x vs v us Q I rx rv h
 obtain⟨l,xs,rfl,rfl,hH,q⟩:=h
 cases rx
 have hus:=rv.zero
 subst hus
 obtain⟨z,its,n,r,hl,e⟩:=I.lstM hH
 refine qBI F.slot_list_reverse ⟨_,e,rfl⟩ F.entry_list_reverse (F.args_list_reverse_1 _) (AutoSeq1.list_reverse_list_0 l its.toArray n (by rw[qG];omega)) ⟨e,?_⟩
 refine⟨.non,_,I.lset (its':=its.reverse) hH e (by simp) r.reverse ?_,rfl,q⟩
 rw[qCK]
 omega
noncomputable def rCat:R2:=λx y H Q=>∃l b xs zs,x=.ref l/\y=.ref b/\H l=some (.lst xs)/\H b=some (.lst zs)/\xs.length+zs.length<=qQ/\∀p,H p=none->Q (.ref p) (upd H p (.lst (xs++zs)))
theorem zajd:OpR X (binaryOp .Add) rCat:=by
 intro pins s σ H x y v u Q I rx ry h
 obtain⟨l,b,xs,zs,rfl,rfl,hH,hB,hz,q⟩:=h
 cases rx
 cases ry
 obtain⟨z,its,n,r,hl,e⟩:=I.lstM hH
 obtain⟨z2,its2,n2,r2,hl2,e2⟩:=I.lstM hB
 refine PySem.P.add_list e e2 ?_ (by rw[qG,qG];omega)
 have ea:its.toArray++its2.toArray=(its++its2).toArray:=by simp
 rw[ea]
 exact⟨.ref _,_,I.lnew (t':=s.toks) (r.append r2) (by rw[qF];omega),rfl,q _ I.fresh⟩
end
section
variable{prog:Program}{w:World}{A:Around}{E:Value->Shared->Prop}{s:Shared}
set_option maxRecDepth 100000 in
end
set_option genInjectivity false in
set_option genInjectivity false in
section
variable{X:Cx}{pins:List (Addr×Obj)}{σ:St}{H:Hp}{s:Shared}{a:Addr}{y d:V}{u r:Value}{o:Option V}{A:Around}{E:Value->Shared->Prop}
end
end L2
namespace Att
open PySem PySem.W PySem.Calls PyProof.Rows
theorem zll{P:Params}{h:Heap}:∀(ns:List Int)(vs:List Value),WellAll P h vs (ns.map WData.int)->IntsAre vs ns:=by
 intro ns
 induction ns with
 | nil=>
  intro vs w
  rw[List.map_nil]at w
  cases w
  exact .nil
 | cons n ns ih=>
  intro vs w
  rw[ql]at w
  cases w with
  | cons a b=>
   cases a
   exact .cons _ _ (ih _ b)
theorem zxj{l:OpenLaw}{n:Nat}(hn:l.most=some n){P:Params}{h:Heap}{args:List WData}{vals:List Value}
  (hpre:l.row.toRowW.claim.pre args=true)(hwl:WellAll P h vals args) :
  ∃a vs ns,vals=[Value.ref a]/\args=[WData.list (ns.map WData.int)]/\h.get? a=some {cls:=.type "list",data:=.seq vs.toArray}/\IntsAre vs ns/\ns.length<=n:=by
 have hsh:WShape.hasAll [] args [.list .int]=true:=(pre_splitW hpre).1
 have hc:l.pre.holds [] {args:=args}=true:=(pre_splitW hpre).2
 obtain⟨d,r,rfl,h1,h2⟩:=hasAllW_cons hsh
 obtain rfl:=hasAllW_nil h2
 obtain⟨xs,rfl,h3⟩:=hasW_list h1
 obtain⟨ns,rfl⟩:=items_int h3
 have hlen:ns.length<=n:=by
  unfold OpenLaw.pre at hc
  have h4:(WTm.not (.lt (.lit (.int (n:Int))) (.len (.arg 0)))).holds [] {args:=[.list (ns.map .int)]}=true:=by
   have h4:=(holds_andW hc).1
   rw[hn]at h4
   exact h4
  have h5:=condW_of h4 (w_not (w_lt w_lit (w_len_list (w_arg rfl))))
  rw[qD]at h5
  refine Nat.le_of_not_lt λq=>?_
  have q':(n:Int)<((ns.length:Nat):Int):=by omega
  first
   | (rw[decide_eq_true q']at h5;exact absurd h5 (by decide))
   | (simp at h5;omega)
 cases hwl with
 | cons w1 w2=>
  cases w2
  cases w1 with
  | list ho hall=>exact⟨_,_,ns,rfl,rfl,ho,zll ns _ hall,hlen⟩
theorem zxk(l:OpenLaw)(args:List WData):l.row.toRowW.claim.post args (.bool true) args=true:=
 postW_of (r:=l.row.toRowW) (X:=(true==true))
  (show WShape.has [] (.bool true) .bool=true by first|rfl|decide|simp[WShape.has,WShape.arms,WShape.armsAll])
  (show(WTm.eq .res (.lit (.bool true))).value [] {args:=args,res:=some (.bool true),after:=args}=some (.bool (true==true))from w_eq_bool (w_res rfl) w_lit) rfl
theorem attach_call{l:OpenLaw}{n:Nat}{q:Program}{loose:List Str}{XP:(Str->Option Value)->Heap->Prop}{YP:World->Heap->Prop}{d:DefRec}
  (hn:l.most=some n)(hdf:d.params.defaults=[])
  (call:∀(w:World)(s₀ s₁:Shared)(mg mb:Str->Option Value)(fa:Addr)(o:Obj)(pm cd doc:Value)(a:Addr)(vs:List Value)(ns:List Int),
   Ground q loose [] XP w s₀ mg mb s₁.heap->YP w s₁.heap->
   s₁.heap.get? fa=some o->o.data=.func (docDef d.name d.params d.body d.scope pm cd doc)->s₁.heap.CodeRec cd d.name->mg d.name=some (.ref fa)->
   s₁.heap.get? a=some {cls:=.type "list",data:=.seq vs.toArray}->IntsAre vs ns->ns.length<=n->s₁.gens=#[]->
   codeAny (model l.prog w) callerA (.call (.ref fa) ⟨[.ref a],[]⟩) (λr s'=>r=.ok (.ret (.bool true))/\OldK s₁.heap s'.heap/\s'.os=s₁.os/\AllBare s'.gens) s₁) :
  WalkO q loose XP YP l.row.toRowW d [] (λf vs=>PySem.call f vs):=by
 intro w s₀ s₁ mg mb G Y fa o pm cd doc dV kV ho hd hcd hD hmg hg args vals as hpre hlay hrd hwl hlo
 obtain rfl:dV=.none:=Dflts.none hD hdf
 obtain rfl:kV=.none:=Dflts.noKw hD
 obtain⟨a,vs,ns,rfl,rfl,hobj,hints,hlen⟩:=zxj hn hpre hwl
 refine enter_call (qA8 (call w s₀ s₁ mg mb fa o pm cd doc a vs ns G Y ho (fd_plain hd) hcd hmg hobj hints hlen hg) λr s' hq=>?_)
 obtain⟨rfl,h2,h3,h4⟩:=hq
 exact⟨.inl ⟨.bool true,.bool true,[],rfl,λ_=>rfl,.bool true,zxk l _,λ_=>⟨List.Pairwise.nil,λ_ hm=>(nomatch hm)⟩⟩,h2,h3,h4⟩
end Att
namespace L2
open PySem PySem.Spec PyProof.Rows
theorem zqq:∀{vs:List Value}{ns:List Int},IntsAre vs ns->Vals (ns.map V.int) vs
 | _,_,.nil=>.nil
 | _,_,.cons n t h=>.cons ⟨t,rfl⟩ (zqq h)
noncomputable def Only(H:Hp):Prop:=∀b,H b=none\/∃o xs,H b=some (.frz o (.lst xs))
theorem zaav{P:Program}{w:World}{K:qC}{mg mb:Str->Option Value}{CX:CXT}{k:Nat}{fa a:Addr}{fd:qq}{x:Str}{sp:Sp}{s₁:Shared}{vs:List Value}{ns:List Int}
  (KX:K.In s₁.heap)(hns:s₁.heap.Ns qm mg)(hb:s₁.heap.Ns builtinsNs mb)(hbb:∀x:Str,x≠"__name__"->mb x=bootBuiltins x)(hlim:s₁.heap.NoLimit)(hg:s₁.gens=#[])
  (ha:s₁.heap.get? a=some {cls:=.type "list",data:=.seq vs.toArray}) (hi:IntsAre vs ns) (hl:ns.length<=qQ) (hr:Room k callerA)
  (F:∀base:Heap,K.In base->base.Ns qm mg->FnOk P w K mg base CX k fa fd [x] sp)(hbind:∀(s:Shared) (u:Value),BindsTo s fd ⟨[u],[]⟩ [(x,u)])
  (hsp:∀H:Hp,Only H->SqL K H a (ns.map V.int)->sp [.ref a] H (λv _=>v=.bl true) λ_ _ _=>False)
  (hCX:∀H e s',CX [] H s₁ (λ_ _ _=>False) e s'->False) :
  codeAny (model P w) callerA (.call (.ref fa) ⟨[.ref a],[]⟩) (λr s'=>r=.ok (.ret (.bool true))/\OldK s₁.heap s'.heap/\s'.os=s₁.os/\AllBare s'.gens) s₁:=by
 have rv:=zqq hi
 have lenV:=hi.length
 have core:∀H:Hp,Only H->SqL K H a (ns.map V.int)->HOk P w H s₁.heap->(∀b,H b≠none->b=a)->(H a≠none->K.lookup a=none)->
   codeAny (model P w) callerA (.call (.ref fa) ⟨[.ref a],[]⟩) (λr s'=>r=.ok (.ret (.bool true))/\OldK s₁.heap s'.heap/\s'.os=s₁.os/\AllBare s'.gens) s₁:=by
  intro H hO hS hok hA hK
  have base_of:∀{b:Addr}{o:Obj},s₁.heap.get? b=some o->H b=none->(hidT s₁.heap H).get? b=some o:=λe n=>zaaj e n
  have noA:∀{b:Addr}{o:Obj}{es:Array DictEntry}{ep:Nat},s₁.heap.get? b=some o->o.data=.dict es ep->H b=none:=λ{b o es ep} e d=>by
   cases q:H b with
   | none=>rfl
   | some u=>
    have e':b=a:=hA b (by rw[q];simp)
    subst e'
    rw[ha]at e;cases e
    have d':Data.seq vs.toArray _=Data.dict es ep:=d
    cases d'
  have nsK:∀{b:Addr}{m:Str->Option Value},s₁.heap.Ns b m->(hidT s₁.heap H).Ns b m:=λ{b m} ⟨o,es,ep,e,d,r⟩=>⟨o,es,ep,base_of e (noA e d),d,r⟩
  have hKb:K.In (hidT s₁.heap H):=λb o e=>base_of (KX b o e) (by
   cases q:H b with
   | none=>rfl
   | some u=>
    have e':b=a:=hA b (by rw[q];simp)
    subst e'
    rw[hK (by rw[q];simp)]at e;cases e)
  have hM:Mod K mg (hidT s₁.heap H):=⟨hKb,nsK hns,⟨mb,nsK hb,hbb⟩,let⟨mc,h1,h2⟩:=hlim;⟨mc,nsK h1,h2⟩⟩
  have e0:Env0 P w K mg (hidT s₁.heap H) callerA [] s₁ H:=⟨rfl,hM,λb o e=>zaeg e,Nat.le_of_eq (zws _ _),trivial,λb hb=>absurd (show b∈([]:List Addr)from hb) (by simp),hok,.of_eq hg⟩
  refine qA8 ((F _ hKb (nsK hns)).run callerA [] s₁ H ⟨[.ref a],[]⟩ [.ref a] [.ref a] _ _ hr e0 (hbind s₁ (.ref a)) (.cons rfl .nil) (hsp H hO hS)) λr s' h=>?_
  cases r with
  | error e=>exact(hCX H e s' h).elim
  | ok fl=>
   cases fl with
   | next=>exact False.elim h
   | brk=>exact False.elim h
   | cont=>exact False.elim h
   | ret u=>
    obtain⟨v,H',os,bare,un,hok',r',q⟩:=h
    have q':v=.bl true:=q
    subst q'
    obtain rfl:u=Value.bool true:=r'
    refine⟨rfl,OldK.of_keep λb o e=>?_,os,bare⟩
    cases q:H b with
    | none=>exact un.keep b o e q (by intro z;exact absurd (show b∈([]:List Addr)from z) (by simp)) (by simp)
    | some u=>
     rcases hO b with z|⟨ob,xs,z⟩
     ·rw[q]at z;cases z
     ·have z2:=un.frzs b ob _ z
      obtain⟨e1,_⟩:=hok b _ z
      obtain⟨e2,_⟩:=hok' b _ z2
      rw[e]at e1;cases e1
      exact e2
 cases hk:K.lookup a with
 | some o=>
  have e:=KX a o hk
  rw[ha]at e
  cases e
  refine core (λ_=>none) (λ_=>.inl rfl) (.inr ⟨_,vs.toArray,_,hk,rfl,rfl,rfl,by rw[qG,lenV];exact hl,by simpa using rv⟩) (λb u z=>by have z':(none:Option HO)=some u:=z;cases z') (λb z=>absurd rfl z) λz=>absurd rfl z
 | none=>
  refine core (λb=>if b=a then some (.frz {cls:=.type "list",data:=.seq vs.toArray} (.lst (ns.map V.int)))else none) (λb=>?_) (.inl (.inr ⟨{cls:=.type "list",data:=.seq vs.toArray},if_pos rfl⟩)) (λb u z=>?_) (λb z=>?_) λ_=>hk
  ·by_cases hb:b=a
   ·exact .inr ⟨_,_,if_pos hb⟩
   ·exact .inl (if_neg hb)
  ·by_cases hb:b=a
   ·have z':=(if_pos hb).symm.trans z
    cases z'
    subst hb
    exact⟨ha,by rw[qD];exact hl,vs,_,rv,ha⟩
   ·have z':=(if_neg hb).symm.trans z
    cases z'
  ·by_cases hb:b=a
   ·exact hb
   ·exact absurd (if_neg hb) z
theorem walk_of{l:PySem.W.OpenLaw}{n k:Nat}{q:Program}{loose:List Str}{XP:(Str->Option Value)->Heap->Prop}{YP:World->Heap->Prop}{d:DefRec}{K:Params->qC}{CX:World->CXT}{sp:World->Sp}{x:Str}
  (hn:l.most=some n)(hn2:n<=qQ)(hdf:d.params.defaults=[])(hr:Room k callerA)
  (hY:∀(w:World) (h:Heap),YP w h->(K w.params).In h)
  (F:∀(w:World)(mg:Str->Option Value)(fa:Addr)(h:Heap),(K w.params).In h->h.Ns qm mg->mg d.name=some (.ref fa)->
   ∃fd:qq,(∀(s:Shared)(u:Value),BindsTo s fd ⟨[u],[]⟩ [(x,u)])/\
    ∀base:Heap,(K w.params).In base->base.Ns qm mg->FnOk l.prog w (K w.params) mg base (CX w) k fa fd [x] (sp w))
  (hsp:∀(w:World) (H:Hp) (a:Addr) (ns:List Int),ns.length<=n->Only H->SqL (K w.params) H a (ns.map V.int)->sp w [.ref a] H (λv _=>v=.bl true) λ_ _ _=>False)
  (hCX:∀(w:World) (H:Hp) (s:Shared) (e:Value) (s':Shared),CX w [] H s (λ_ _ _=>False) e s'->False) :
  PySem.W.WalkO q loose XP YP l.row.toRowW d [] (λf vs=>PySem.call f vs):=by
 refine Att.attach_call hn hdf λw s₀ s₁ mg mb fa o pm cd doc a vs ns G Y ho hd hcd hmg hobj hints hlen hg=>?_
 have KX:=hY w _ Y
 obtain⟨fd,hb,hF⟩:=F w mg fa _ KX G.T.g hmg
 exact zaav KX G.T.g G.T.b G.T.builtins G.T.nolimit hg hobj hints (qf hlen hn2) hr hF hb (λH hO hS=>hsp w H a ns hlen hO hS) λH e s'=>hCX w H s₁ e s'
end L2
namespace L2
open PySem PySem.Spec PyProof.Rows
noncomputable def zaew(s:Stmt)(j:Nat):Stmt:=match s with
 | .ClassDef _ _ _ body _ _ _ _ _ _ _=>body.getD j (.Pass ⟨0,0,0,0⟩)
 | _=>.Pass ⟨0,0,0,0⟩
noncomputable def zdn(s:Stmt):Arguments:=match s with
 | .FunctionDef _ a _ _ _ _ _ _ _ _=>a
 | _=>{posonlyargs:=[],args:=[],vararg:=none,kwonlyargs:=[],kw_defaults:=[],kwarg:=none,defaults:=[]}
noncomputable def zcs(s:Stmt):List Stmt:=match s with
 | .FunctionDef _ _ b _ _ _ _ _ _ _=>b
 | _=>[]
noncomputable def zap(s:Stmt):Scope:=match s with
 | .FunctionDef _ _ _ _ _ _ sc _ _ _=>sc
 | _=>{kind:=.function,names:=[],isGenerator:=false,isCoroutine:=false}
noncomputable abbrev CX0:CXT:=λ_ _ _ _ _ _=>False
noncomputable abbrev E0:XK:=λ_ _ _=>False
theorem zamx{X:Cx}:zqh CX0 X E0:=λ_ _ _ _ _ _ _ h=>h.elim
set_option genInjectivity false in
structure Fun(K:qC)(x qual:Str)(st:Stmt)(f:Addr)(fd:qq):Prop where
 ex:∃(oc:Value)(od:Option Addr)(kV doc pm:Value)(an:Option Addr)(cdv ct:Value)(osl:Array (Option Value)),
  fd=qAB x qual (zdn st) (zcs st) (zap st) .none kV doc pm an cdv ct/\K.lookup f=some ⟨oc,od,.func fd,osl⟩/\qA1 K cdv qual=true
 kp:qAX K (.ref f)=true
section
variable{P:Program}{w:World}{K:qC}{mg:Str->Option Value}{base:Heap}
theorem Fun.ok{x qual:Str}{st:Stmt}{f:Addr}{fd:qq}{N ps:List Str}{k:Nat}{sp:Sp}(F:Fun K x qual st f fd)(S:FnScope N ps (zap st))(len:∀vs H Q E,sp vs H Q E->vs.length=ps.length)
  (hbody:∀(cdv:Value)(A:Around)(outer:List Env)(s:Shared)(H:Hp)(vs:List V)(Q:VK)(E:XK),Room k (A.deeper (envOfC qual (zap st) s.heap.objs.size f cdv))->sp vs H Q E->
   ∃t,PSs (cxOf CX0 P w K mg base N qual (zap st) f cdv A outer s H E).nox (zcs st) t/\t {nx:=λ_ H'=>Q .non H',rt:=Q} (zdi N vs) H):FnOk P w K mg base CX0 (k+1) f fd ps sp:=by
 obtain⟨oc,od,kV,doc,pm,an,cdv,ct,osl,rfl,lk,hcd⟩:=F.ex
 refine zamu lk hcd S len λA outer s H vs Q E hr hsp=>?_
 obtain⟨t,h,q⟩:=hbody cdv A outer s H vs Q E hr hsp
 exact⟨t,h.nox,q⟩
theorem Fun.binds{x qual:Str}{st:Stmt}{f:Addr}{fd:qq}{ps:List Str}(F:Fun K x qual st f fd)
  (h:∀(kV doc pm:Value) (an:Option Addr) (cdv ct:Value) (us:List Value),us.length=ps.length->bindArgs (qAB x qual (zdn st) (zcs st) (zap st) .none kV doc pm an cdv ct) ⟨us,[]⟩=pure (ps.zip us)):zgu K fd ps []:=by
 obtain⟨oc,od,kV,doc,pm,an,cdv,ct,osl,rfl,lk,hcd⟩:=F.ex
 exact .all (h kV doc pm an cdv ct)
theorem zadi{x qual:Str}{st:Stmt}{f:Addr}{oc:Value}{od an:Option Addr}{osl:Array (Option Value)}{kV doc pm cdv ct:Value}(l:K.lookup f=some ⟨oc,od,.func (qAB x qual (zdn st) (zcs st) (zap st) .none kV doc pm an cdv ct),osl⟩)
  (c:qA1 K cdv qual=true) (k:qAX K (.ref f)=true):Fun K x qual st f (qAB x qual (zdn st) (zcs st) (zap st) .none kV doc pm an cdv ct):=⟨⟨oc,od,kV,doc,pm,an,cdv,ct,osl,rfl,l,c⟩,k⟩
end
theorem zhi{A:Around}{k:Nat}(hr:Room k A):A.units+1<cLine:=qBc (Nat.add_le_add_left (by decide:1<=64) _) hr.units
section
variable{X:Cx}
theorem pv(i:Nat){x:Str}{pos:Pos}(hN:X.N[i]?=some x:=by rfl)(hv:visB X.env.scope x=true:=by rfl)(hd:(x==("__debug__":Str))=false:=by decide)
  (hcd:(x==("__classdict__":Str))=false:=by decide):PE X (.Name x pos) (tVar i):=zacz hN (visB.of hv) hd hcd
end
theorem iteF{A B:Prop}(h:B):if false=true then A else B:=by
 rw[if_neg qL]
 exact h
theorem iteT{A B:Prop}(h:A):if true=true then A else B:=by
 rw[if_pos rfl]
 exact h
noncomputable def Same(H H':Hp):Prop:=∀b o,H b=some o->H' b=some o
theorem Same.refl(H:Hp):Same H H:=λ_ _ h=>h
theorem Same.trans{H H1 H2:Hp}(a:Same H H1)(b:Same H1 H2):Same H H2:=λc o h=>b c o (a c o h)
theorem Same.free{H H':Hp}(e:Same H H'){l:Addr}(h:H' l=Option.none):H l=Option.none:=by
 cases q:H l with
 | none=>rfl
 | some o=>
  rw[e l o q]at h
  cases h
theorem Same.seq{K:qC}{H H':Hp}{a:Addr}{xs:List V}(e:Same H H')(h:SqL K H a xs):SqL K H' a xs:=by
 rcases h with(h|⟨o,h⟩)|h
 ·exact .inl (.inl (e _ _ h))
 ·exact .inl (.inr ⟨o,e _ _ h⟩)
 ·exact .inr h
end L2
set_option maxHeartbeats 4000000
namespace L2
open PySem PySem.Spec PyProof.Rows
noncomputable def clos(cells:List (Str×Addr)):List (Str×NameKind)->List (Str×Addr)->List (Str×Addr)
 | [],acc=>acc
 | (n,k)::r,acc=>if k==.free then clos cells r ((n,(cells.lookup n).getD 0)::acc)else clos cells r acc
theorem zox{cells:List (Str×Addr)}:∀{names:List (Str×NameKind)}{acc:List (Str×Addr)},(∀y∈names,y.2=.free->∃c,cells.lookup y.1=some c)->∀p∈clos cells names acc,p∈acc\/((p.1,NameKind.free)∈names/\cells.lookup p.1=some p.2)
 | [],acc,_,p,hp=>.inl hp
 | (n,k)::r,acc,h,p,hp=>by
  unfold clos at hp
  have hr:∀y∈r,y.2=.free->∃c,cells.lookup y.1=some c:=λy hy=>h y (qK _ hy)
  split at hp
  ·rename_i hk
   rcases zox hr p hp with q|q
   ·rcases qW.mp q with q|q
    ·subst q
     have hk':k=.free:=by simpa using hk
     subst hk'
     obtain⟨c,hc⟩:=h (n,.free) qt rfl
     exact .inr ⟨qt,by show cells.lookup n=some ((cells.lookup n).getD 0);rw[hc];rfl⟩
    ·exact .inl q
   ·exact .inr ⟨qK _ q.1,q.2⟩
  ·rcases zox hr p hp with q|q
   ·exact .inl q
   ·exact .inr ⟨qK _ q.1,q.2⟩
theorem zoy{cells:List (Str×Addr)}:∀{names:List (Str×NameKind)}{acc:List (Str×Addr)},∀p∈acc,p∈clos cells names acc
 | [],acc,p,hp=>hp
 | (n,k)::r,acc,p,hp=>by
  unfold clos
  split
  ·exact zoy p (qK _ hp)
  ·exact zoy p hp
theorem zoz{cells:List (Str×Addr)}{x:Str}:∀{names:List (Str×NameKind)}{acc:List (Str×Addr)},(x,NameKind.free)∈names->∃c,(x,c)∈clos cells names acc
 | [],_,h=>by simp at h
 | (n,k)::r,acc,h=>by
  unfold clos
  rcases qW.mp h with e|h
  ·cases e
   rw[if_pos (show(NameKind.free==NameKind.free)=true by decide)]
   exact⟨_,zoy _ qt⟩
  ·split
   ·exact zoz h
   ·exact zoz h
theorem zjb{α:Type}{x:Str}{c:α}:∀{l:List (Str×α)},(x,c)∈l->∃c',l.lookup x=some c'
 | [],h=>by simp at h
 | (k,v)::r,h=>by
  rw[qAW]
  cases hb:x==k with
  | true=>exact⟨v,rfl⟩
  | false=>
   rcases qW.mp h with e|h
   ·cases e;simp at hb
   ·exact zjb h
theorem zjc{scope:Scope}{env:Env}(h:∀y∈scope.names,y.2=.free->∃c,env.cells.lookup y.1=some c):closureFor scope env=pure (clos env.cells scope.names []):=by
 unfold closureFor
 have key:∀(names:List (Str×NameKind))(acc:List (Str×Addr)),(∀y∈names,y.2=.free->∃c,env.cells.lookup y.1=some c)->
   (forIn names acc (λ(x:Str×NameKind) (r:List (Str×Addr))=>(if(x.2==.free)=true then(do let a <- cellOf env x.1;pure (ForInStep.yield ((x.1,a)::r)))else pure (ForInStep.yield r):Sem (ForInStep (List (Str×Addr))))))=pure (clos env.cells names acc):=by
  intro names
  induction names with
  | nil=>intro acc _;rfl
  | cons y r ih=>
   intro acc hy
   obtain⟨n,k⟩:=y
   have hr:=λy (hm:y∈r)=>hy y (qK _ hm)
   rw[List.forIn_cons]
   unfold clos
   cases hk:(k==NameKind.free)with
   | true=>
    have hk':k=.free:=by simpa using hk
    subst hk'
    obtain⟨c,hc⟩:=hy (n,.free) qt rfl
    have e1:cellOf env n=pure c:=by unfold cellOf;rw[hc]
    simp only[if_true]
    have hc':env.cells.lookup n=some c:=hc
    rw[e1,hc']
    simp only[pure_bind,Option.getD_some]
    exact ih _ hr
   | false=>
    simp only[qA2,if_false,pure_bind]
    exact ih _ hr
 simpa using key scope.names [] h
theorem zfe:∀(names:List (Str×NameKind))(n:Nat)(acc:List (Str×Addr)),cellsFrom n names acc=cellsFrom n names []++acc
 | [],_,_=>rfl
 | (name,kind)::r,n,acc=>by
  unfold cellsFrom
  split
  ·rw[zfe r (n+1) ((name,n)::acc),zfe r (n+1) [(name,n)],qA6];rfl
  ·exact zfe r n acc
theorem zff{x:Str}{c:Addr}:∀(names:List (Str×NameKind))(n:Nat)(acc:List (Str×Addr)),(x,c)∈cellsFrom n names acc->(x,c)∈acc\/(x,NameKind.cell)∈names
 | [],_,_,h=>.inl h
 | (name,kind)::r,n,acc,h=>by
  unfold cellsFrom at h
  split at h
  ·rename_i hk
   have hk':kind=.cell:=by simpa using hk
   subst hk'
   rcases zff r _ _ h with q|q
   ·rcases qW.mp q with q|q
    ·cases q;exact .inr qt
    ·exact .inl q
   ·exact .inr (qK _ q)
  ·rcases zff r _ _ h with q|q
   ·exact .inl q
   ·exact .inr (qK _ q)
theorem zic{α:Type}{x:Str}:∀{l r:List (Str×α)},(l++r).lookup x=(l.lookup x).or (r.lookup x)
 | [],_=>by simp
 | (k,v)::l,r=>by
  rw[qBF,qAW,qAW]
  cases x==k with
  | true=>rfl
  | false=>exact zic
theorem zeo{env:Env}{x:Str}{k':NameKind}:∀{names:List (Str×NameKind)},
  (names.map λ(n,k)=>if(k==NameKind.free&&env.scope.kind==.function&&env.kindOf n==some .cell)then(n,NameKind.cell)else(n,k)).lookup x=some k'->
  ∃k,names.lookup x=some k/\(k'=k\/(k=.free/\k'=.cell))
 | [],h=>by simp at h
 | (n,k)::r,h=>by
  rw[ql]at h
  by_cases hc:(k==NameKind.free&&env.scope.kind==.function&&env.kindOf n==some .cell)=true
  ·simp only[hc,if_true]at h
   rw[qAW]at h ⊢
   cases hx:x==n with
   | true=>
    rw[hx]at h
    have hk:k=.free:=by simp at hc;exact hc.1.1
    exact⟨k,rfl,.inr ⟨hk,(qi h).symm⟩⟩
   | false=>rw[hx]at h;exact zeo h
  ·simp only[hc,qA2,if_false]at h
   rw[qAW]at h ⊢
   cases hx:x==n with
   | true=>rw[hx]at h;exact⟨k,rfl,.inl (qi h).symm⟩
   | false=>rw[hx]at h;exact zeo h
theorem zhk{env:Env}{x:Str}:∀{names:List (Str×NameKind)},names.lookup x=some .free->
  ((names.map λ(n,k)=>if(k==NameKind.free&&env.scope.kind==.function&&env.kindOf n==some .cell)then(n,NameKind.cell)else(n,k)).lookup x=some .free\/
   (names.map λ(n,k)=>if(k==NameKind.free&&env.scope.kind==.function&&env.kindOf n==some .cell)then(n,NameKind.cell)else(n,k)).lookup x=some .cell)
 | [],h=>by simp at h
 | (n,k)::r,h=>by
  rw[ql]
  rw[qAW]at h
  by_cases hc:(k==NameKind.free&&env.scope.kind==.function&&env.kindOf n==some .cell)=true
  ·simp only[hc,if_true]
   rw[qAW]
   cases hx:x==n with
   | true=>exact .inr rfl
   | false=>rw[hx]at h;exact zhk h
  ·simp only[hc,qA2,if_false]
   rw[qAW]
   cases hx:x==n with
   | true=>rw[hx]at h;exact .inl h
   | false=>rw[hx]at h;exact zhk h
theorem zvl{M:Model}{A:Around}{E:Value->Shared->Prop}{s:Shared}{scope:Scope}{globals:Addr}{cl:List (Str×Addr)}{qual:Str}{env:Env}{Q:Env->Shared->Prop}
  (hQ:∀h',(∀b o,s.heap.get? b=some o->h'.get? b=some o)->h'.Ns s.heap.objs.size (λ_=>none)->(∀n c,(n,c)∈cellsFrom (s.heap.objs.size+1) scope.names []->h'.IsCell c none/\s.heap.objs.size+1<=c)->
   ((cellsFrom (s.heap.objs.size+1) scope.names []).Pairwise λx y=>x.2≠y.2)->
   Q {scope:=scope,locals:=s.heap.objs.size,globals:=globals,cells:=cellsFrom (s.heap.objs.size+1) scope.names []++cl,qual:=qual,func:=none,code:=env.code,frame:=env.frame,builtins:=env.builtins} {s with heap:=h'}) :
  wpAny M A (newFunctionEnv scope globals cl [] qual none .none (some env)) Q E s:=by
 simp only[newFunctionEnv,Option.isSome_some,if_true]
 refine qV (wpAny_alloc ?_)
 refine qV (wpAny_layCells _ (λname kind cells=>by cases hkc:kind==NameKind.cell<;>simp[hkc]) _ _ _ _ ?_)
 have ok:=cellsFrom_ok scope.names (s.heap.push {cls:=.type "dict",data:=.dict #[]}) (s.heap.objs.size+1) [] ⟨λ_ _ hm=>(nomatch hm),List.Pairwise.nil⟩ (by rw[qBQ];exact qJ _)
 rw[qBQ]at ok
 rw[show({s with heap:=s.heap.push {cls:=.type "dict",data:=.dict #[]}}:Shared).heap.objs.size=s.heap.objs.size+1 from qBQ ..]
 rw[zfe]
 refine qV ?_
 refine qv (qv ?_)
 exact hQ _ (λb o e=>pushCells_keeps _ _ b o (qI _ e)) ((Heap.Ns.new s.heap (.type "dict")).keeps (pushCells_keeps _ _)) ok.empty ok.apart
noncomputable def cxComp(X:Cx)(scope:Scope)(N' own:List Str)(cl:List (Str×Addr))(C:Addr)(s:Shared)(H:Hp)(fp:List Addr):Cx:=
 {X with N:=N',s₀:=s,H₀:=H,env:=compEnvC scope cl C X.env,outer:=X.stack,stack:=X.stack,ex:=fp,fn:=λx=>own.contains x,pn:=[],xe:=λ_ _=>False}
structure CompOk(X:Cx)(scope:Scope)(N' own:List Str)(fr:List Nat):Prop where
 kind:scope.kind=.function
 names:∀y∈scope.names,scope.names.lookup y.1=some y.2
 up:∀y∈scope.names,y.2=.free->(X.env.kindOf y.1=some .cell\/X.env.kindOf y.1=some .free)
 nm:N'=own++fr.map (λj=>X.N.getD j Str.empty)
 fr:∀j∈fr,j<X.N.length/\scope.names.lookup (X.N.getD j Str.empty)=some .free
 own:∀x∈own,scope.names.lookup x=some .local\/scope.names.lookup x=some .cell
noncomputable def tau(own:List Str)(fr:List Nat)(σ:St):St:=own.map (λ_=>none)++fr.map (λj=>σ.getD j none)
section
variable{X:Cx}{pins:List (Addr×Obj)}{σ:St}{H:Hp}{s:Shared}{scope:Scope}{N' own:List Str}{fr:List Nat}
theorem zjv(c:CompOk X scope N' own fr)(ok:X.Ok):∀y∈scope.names,y.2=.free->∃a,X.env.cells.lookup y.1=some a:=λy hy e=>ok.has y.1 (c.up y hy e)
theorem zaaw{fp:List Addr}{h':Heap}(c:CompOk X scope N' own fr)(I:Inv X pins σ H s)
  (hf:∀b∈fp,FpOk X pins H b)(ho:∀b∈fp,∃o,s.heap.get? b=some o/\∀v,o.data≠.cell v)
  (keep:∀b o,s.heap.get? b=some o->h'.get? b=some o)(ns:h'.Ns s.heap.objs.size (λ_=>none))
  (cells:∀n c,(n,c)∈cellsFrom (s.heap.objs.size+1) scope.names []->h'.IsCell c none/\s.heap.objs.size+1<=c)
  (apart:(cellsFrom (s.heap.objs.size+1) scope.names []).Pairwise λx y=>x.2≠y.2) :
  Inv (cxComp X scope N' own (cellsFrom (s.heap.objs.size+1) scope.names []++clos X.env.cells scope.names []) s.heap.objs.size s H fp) [] (tau own fr σ) H {s with heap:=h'}:=by
 have found:=zjv c I.ok
 have clm:∀x a,(x,a)∈clos X.env.cells scope.names []->(x,NameKind.free)∈scope.names/\X.env.cells.lookup x=some a:=λx a hm=>by
  rcases zox found (x,a) hm with q|q
  ·simp at q
  ·exact q
 have look:∀x a,(cellsFrom (s.heap.objs.size+1) scope.names []++clos X.env.cells scope.names []).lookup x=some a->
   ((x,a)∈cellsFrom (s.heap.objs.size+1) scope.names []/\(x,NameKind.cell)∈scope.names)\/((x,NameKind.free)∈scope.names/\X.env.cells.lookup x=some a):=λx a e=>by
  rw[zic]at e
  cases q:(cellsFrom (s.heap.objs.size+1) scope.names []).lookup x with
  | some b=>
   rw[q]at e
   cases e
   have hm:=qs q
   rcases zff _ _ _ hm with z|z
   ·simp at z
   ·exact .inl ⟨hm,z⟩
  | none=>
   rw[q]at e
   exact .inr (clm x a (qs e))
 have lookF:∀x a,(x,NameKind.free)∈scope.names->X.env.cells.lookup x=some a->(cellsFrom (s.heap.objs.size+1) scope.names []++clos X.env.cells scope.names []).lookup x=some a:=λx a hx e=>by
  rw[zic]
  have q:(cellsFrom (s.heap.objs.size+1) scope.names []).lookup x=none:=by
   cases q:(cellsFrom (s.heap.objs.size+1) scope.names []).lookup x with
   | none=>rfl
   | some b=>
    rcases zff _ _ _ (qs q)with z|z
    ·simp at z
    ·have h1:=c.names _ hx
     have h2:=c.names _ z
     rw[h1]at h2
     cases h2
  rw[q]
  obtain⟨d,hd⟩:=zoz (cells:=X.env.cells) (acc:=[]) hx
  obtain⟨d',hd'⟩:=zjb hd
  have:=(clm x d' (qs hd')).2
  rw[e]at this
  cases this
  exact hd'
 have below:∀b o,s.heap.get? b=some o->b<s.heap.objs.size:=λb o e=>qP e
 have cold:∀x a,X.env.cells.lookup x=some a->a<s.heap.objs.size:=λx a e=>let⟨v,q⟩:=I.cell x a e;q.lt
 refine⟨⟨I.ok.mod,c.kind,I.ok.glob,I.ok.blt,qJ _,?inj,?has,?cab,I.ok.hd,I.ok.frames,.inl rfl,?exf,I.bs,qf I.ok.bsz I.sz,?noex,?exfs,I.stack,I.stkFree⟩,
  rfl,I.bare,Un.kept keep,⟨_,ns,?loc⟩,?cell,I.hok.fresh (qJ _),?freeC,?pin,I.hok.kept keep,?len⟩
 case inj=>
  intro x y a h1 h2
  rcases look x a h1 with⟨m1,k1⟩|⟨k1,e1⟩<;>rcases look y a h2 with⟨m2,k2⟩|⟨k2,e2⟩
  ·exact name_of_addr apart m1 m2
  ·exact absurd (qM (cold y a e2) (qBk (cells x a m1).2)) (qAc _)
  ·exact absurd (qM (cold x a e1) (qBk (cells y a m2).2)) (qAc _)
  ·exact I.ok.inj x y a e1 e2
 case has=>
  intro x hx
  have hx':(∃k,scope.names.lookup x=some k/\(k=.cell\/k=.free)):=by
   rcases hx with hx|hx
   ·obtain⟨k,e,q⟩:=zeo (env:=X.env) (names:=scope.names) hx
    rcases q with q|⟨q,_⟩
    ·exact⟨k,e,.inl q.symm⟩
    ·exact⟨k,e,.inr q⟩
   ·obtain⟨k,e,q⟩:=zeo (env:=X.env) (names:=scope.names) hx
    rcases q with q|⟨q,_⟩
    ·exact⟨k,e,.inr q.symm⟩
    ·exact⟨k,e,.inr q⟩
  obtain⟨k,e,q⟩:=hx'
  show ∃a,(cellsFrom (s.heap.objs.size+1) scope.names []++clos X.env.cells scope.names []).lookup x=some a
  rcases q with rfl|rfl
  ·obtain⟨a,ha⟩:=zos (n:=s.heap.objs.size+1) e
   exact⟨a,by rw[zic,ha];rfl⟩
  ·obtain⟨a,ha⟩:=found _ (qs e) rfl
   exact⟨a,lookF x a (qs e) ha⟩
 case cab=>
  intro x a hx e
  have hx:own.contains x=true:=hx
  have hx':x∈own:=by simpa using hx
  rcases look x a e with⟨m1,_⟩|⟨k1,_⟩
  ·have:=(cells x a m1).2
   show s.heap.objs.size<=a
   omega
  ·have h1:=c.names _ k1
   rcases c.own x hx' with h2|h2
   ·rw[h1]at h2;cases h2
   ·rw[h1]at h2;cases h2
 case exf=>
  intro b hb
  obtain⟨o,e,d⟩:=ho b hb
  refine⟨qAI (below b o e),λx a q z=>?_⟩
  subst z
  rcases look x a q with⟨m1,_⟩|⟨k1,e1⟩
  ·exact absurd (qM (below a o e) (qBk (cells x a m1).2)) (qAc _)
  ·obtain⟨v,o',e',d'⟩:=I.cell x a e1
   rw[e]at e'
   cases e'
   exact d v d'
 case noex=>
  intro b o e hb
  rcases(hf b hb).2.2.2.1 with z|z
  ·exact I.ok.noex b o e z
  ·exact absurd (qM (qM (qP e) I.ok.bsz) z) (qAc _)
 case exfs=>
  intro b hb z
  rcases qW.mp (I.stkSub b z)with q|q
  ·exact(hf b hb).2.1 q
  ·exact(hf b hb).2.2.1 q
 case loc=>
  intro i x v h1 h2 h3
  have h1:N'[i]?=some x:=h1
  rw[c.nm]at h1
  unfold tau at h2
  by_cases hi:i<own.length
  ·rw[qAK (by simpa using hi),qa]at h2
   cases q:own[i]? with
   | none=>rw[q]at h2;cases h2
   | some z=>rw[q]at h2;cases h2
  ·rw[qp (by simpa using hi),qa,qD]at h2
   rw[qp (by simpa using hi),qa]at h1
   cases q:fr[i - own.length]? with
   | none=>rw[q]at h2;cases h2
   | some j=>
    rw[q]at h1 h2
    have e1:X.N.getD j Str.empty=x:=qi h1
    have e2:σ.getD j none=some v:=qi h2
    obtain⟨hj,hfree⟩:=c.fr j (qAu q)
    rw[e1]at hfree
    have hNj:X.N[j]?=some x:=by
     rw[<- e1,qw,qO hj];rfl
    have hσj:σ[j]?=some (some v):=by
     rw[qw]at e2
     cases z:σ[j]? with
     | none=>rw[z]at e2;cases e2
     | some w=>rw[z]at e2;rw[show w=some v from e2]
    have hmem:(x,NameKind.free)∈scope.names:=qs hfree
    have hup:=c.up _ hmem rfl
    obtain⟨m,hn,hl⟩:=I.loc
    obtain⟨u,ru,lk⟩:=hl j x v hNj hσj (by rcases hup with z|z;exact .inr (.inl z);exact .inr (.inr z))
    refine⟨u,ru,.inr ⟨?_,?_⟩⟩
    ·rcases zhk (env:=X.env) (names:=scope.names) hfree with z|z
     ·exact .inr z
     ·exact .inl z
    ·rcases lk with⟨k1,_⟩|⟨_,a,ha,hc⟩
     ·rcases hup with z|z
      ·rw[show X.env.kindOf x=some .cell from z]at k1;cases k1
      ·rw[show X.env.kindOf x=some .free from z]at k1;cases k1
     ·exact⟨a,lookF x a hmem ha,hc.keeps keep⟩
 case cell=>
  intro x a e
  rcases look x a e with⟨m1,_⟩|⟨k1,e1⟩
  ·exact⟨_,(cells x a m1).1⟩
  ·obtain⟨v,q⟩:=I.cell x a e1
   exact⟨v,q.keeps keep⟩
 case freeC=>
  intro x a e
  rcases look x a e with⟨m1,_⟩|⟨k1,e1⟩
  ·exact I.hok.fresh (by have:=(cells x a m1).2;omega)
  ·exact I.freeC x a e1
 case pin=>intro p hp;exact absurd (show p∈([]:List (Addr×Obj))from hp) (by simp)
 case len=>
  show(tau own fr σ).length=N'.length
  rw[c.nm];unfold tau;simp
end
noncomputable abbrev TM:=St->Hp->(St->Hp->Prop)->Prop
noncomputable def PM(X:Cx)(act:Sem Unit)(t:TM):Prop:=
 ∀(pins:List (Addr×Obj))(s:Shared)(σ:St)(H:Hp)(Q:St->Hp->Prop),Inv X pins σ H s->t σ H Q->wpAny (model X.prog X.w) X.A act (λ_ s'=>∃σ' H',Inv X pins σ' H' s'/\Q σ' H') X.xe s
noncomputable def PF(X:Cx)(ifs:List Expr)(t:TT):Prop:=
 ∀(pins:List (Addr×Obj))(s:Shared)(σ:St)(H:Hp)(Q:Bool->Hp->Prop),Inv X pins σ H s->t σ H Q->
  wpAny (model X.prog X.w) X.A (forIn ifs true λc r=>if r=true then do let ok <- isTrue c X.env (eval c X.env);pure (ForInStep.yield ok)else pure (ForInStep.yield r)) (TP X pins σ Q) X.xe s
noncomputable def tAll:TT:=λ_ H Q=>Q true H
section
variable{X:Cx}
theorem zaje:PF X [] tAll:=λ_ s σ H Q I h=>wpAny_tests_nil ⟨H,I,h⟩
noncomputable def zaex(p:Addr)(te:TE):TM:=λσ H Q=>te σ H λv H1=>∃ys,H1 p=some (.lst ys)/\ys.length<qQ/\Q σ (upd H1 p (.lst (ys++[v])))
theorem zxl{elt:Expr}{te:TE}{p:Addr}(h:PE X elt te):PM X (do let _ <- call (.builtin "list.append") [.ref p,<- eval elt X.env]) (zaex p te):=by
 intro pins s σ H Q I q
 refine qV (thn (h pins s σ H _ I q) λu s1 ⟨v,H1,I1,r,ys,hp,hz,q1⟩=>?_)
 refine qV (thn (zbl pins s1 σ H1 (.ref p) [v] (.ref p) [u] (λ_ H2=>Q σ H2) I1 rfl (.cons r .nil) ⟨p,ys,v,rfl,rfl,hp,hz,q1⟩) λ_ s2 ⟨_,H2,I2,_,q2⟩=>?_)
 exact qv ⟨σ,H2,I2,q2⟩
noncomputable def zaax(J:It)(g:TG)(tt:TT)(tm:TM):TM:=λσ H Q=>∃W:Nat->Nat->St->Hp->Prop,(∃m,W 0 m σ H)/\∀i m σ H,W i m σ H->
 (J.stop i H/\Q σ H)\/(J.go i H/\∃N:St->Hp->Prop,(∀σ' H',N σ' H'->∃m',m'<m/\W (i+1) m' σ' H')/\∀x H',J.yld i H x H'->g x σ H' λσ2 H2=>tt σ2 H2 λb H3=>if b=true then tm σ2 H3 N else N σ2 H3)
theorem zsp{elt0:Expr}{gens:List Comprehension}{scope:Scope}{cpos:Pos}{depth:Nat}{target:Expr}{ifs:List Expr}{emit:Sem Unit}{acc:Value}{ip:Pos}{it:Addr}{fp:List Addr}{tn:Nat->Heap->Prop}{J:It}{g:TG}{tt:TT}{tm:TM}{pins:List (Addr×Obj)}{σ:St}{H:Hp}{s:Shared}{Q:St->Hp->Prop}
  (hx:X.xe=λ_ _=>False)(hc:X.calm=true)
  (eq:compTurn (.ListComp elt0 gens scope cpos) depth (.ref it) acc X.env=(do
   standAt ip
   match <- pyNext (.ref it)with
   | none=>pure (.done .next)
   | some v=>
    letOwnedTupleGo target (.ref it) v
    assign target X.env v
    let mut ok:=true
    for c in ifs do
     if ok then ok <- isTrue c X.env (eval c X.env)
    if ok then emit
    again (.compLoop (.ListComp elt0 gens scope cpos) depth (.ref it) acc X.env)))
  (T:Turn X.prog X.w X.K target J fp it tn)(hg:PG X target g)(ht:PF X ifs tt)(hm:PM X emit tm)
  (I:Inv X pins σ H s)(st:tn 0 s.heap)(hf:∀b∈fp,FpOk X pins H b)(h:zaax J g tt tm σ H Q) :
  codeAny (model X.prog X.w) X.A (.compLoop (.ListComp elt0 gens scope cpos) depth (.ref it) acc X.env) (λr s'=>r=.ok .next/\∃σ' H',Inv X pins σ' H' s'/\Q σ' H') s:=by
 obtain⟨W,⟨m0,w0⟩,turn⟩:=h
 have stat:∀{H':Hp},(∀b∈fp,H' b=none)->∀b∈fp,FpOk X pins H' b:=λhn b hb=>⟨hn b hb,(hf b hb).2⟩
 have xe:∀{α:Type}{m:Sem α}{Q':α->Shared->Prop}{E:Value->Shared->Prop}{s:Shared},wpAny (model X.prog X.w) X.A m Q' X.xe s->wpAny (model X.prog X.w) X.A m Q' E s:=λq=>qA4 q (λ_ _ z=>z) λ_ _ z=>by rw[hx]at z;exact z.elim
 refine codeAny_loop rfl (λn s'=>∃i σ' H',Inv X pins σ' H' s'/\tn i s'.heap/\(∀b∈fp,H' b=none)/\W i n σ' H') ?_ m0 ⟨0,σ,H,I,st,λb hb=>(hf b hb).1,w0⟩
 rintro n s3 ⟨i,σ3,H3,I3,st3,fr3,w3⟩
 show wpAny _ X.A ((compTurn (.ListComp elt0 gens scope cpos) depth (.ref it) acc X.env).onRaise (λx=>do noteFrame x X.env;theTreesLotGoes x)) _ _ s3
 refine wpAny_noted ?_
 rw[eq]
 refine qV (qBN (qV ?_))
 rcases turn i n σ3 H3 w3 with⟨stop,qn⟩|⟨go,N,hN,step⟩
 ·refine thn (T.done X rfl rfl rfl hc i pins s3 σ3 H3 _ I3 (stat fr3) st3 stop) λr s4 ⟨hr,I4⟩=>?_
  subst hr
  exact qv ⟨rfl,σ3,H3,I4,qn⟩
 ·refine thn (T.item X rfl rfl rfl hc i pins s3 σ3 H3 _ I3 (stat fr3) st3 go) λr s4 ⟨u,hr,h4⟩=>?_
  subst hr
  refine qV (thn h4 λ_ s5 ⟨x,H5,I5,r5,y5,st5,fr5⟩=>?_)
  have I5':=I5.pinned (stat fr5) (T.obj _ _ st5)
  refine qV (xe (thn (hg _ s5 σ3 H5 x u _ I5' r5 (step x H5 y5)) λ_ s6 ⟨σ6,H6,I6,q6⟩=>?_))
  have again:∀{σ7:St}{H7:Hp}{s7:Shared},Inv X (pins++zqd fp s5.heap) σ7 H7 s7->N σ7 H7->∃m,m<n/\∃i σ' H',Inv X pins σ' H' s7/\tn i s7.heap/\(∀b∈fp,H' b=none)/\W i m σ' H':=λ{σ7 H7 s7} I7 n7=>by
   obtain⟨m',hm,w7⟩:=hN σ7 H7 n7
   refine⟨m',hm,i+1,σ7,H7,I7.unpinned,T.keep _ _ _ st5 λb hb o e=>(I7.pin (b,o) (qd _ (qd _ (zib hb e)))).1,λb hb=>?_,w7⟩
   obtain⟨o,e,d⟩:=T.obj _ _ st5 b hb
   exact(I7.pin (b,o) (qd _ (qd _ (zib hb e)))).2.1
  refine qV (xe (thn (ht _ s6 σ6 H6 _ I6 q6) λok s7 ⟨H7,I7,q7⟩=>?_))
  cases ok with
  | false=>
   rw[if_neg (by decide)]at q7
   exact qv ⟨rfl,again I7 q7⟩
  | true=>
   rw[if_pos rfl]at q7
   refine qV (xe (thn (hm _ s7 σ6 H7 _ I7 q7) λ_ s8 ⟨σ8,H8,I8,q8⟩=>?_))
   exact qv ⟨rfl,again I8 q8⟩
end
section
variable{X:Cx}{pins:List (Addr×Obj)}{σ:St}{H:Hp}{s:Shared}{scope:Scope}{N' own:List Str}{fr:List Nat}
theorem zsq{elt0 target iter:Expr}{ifs:List Expr}{rest:List Comprehension}{cpos:Pos}{g:TG}{tt:TT}{tm:Addr->TM}{emit:Value->Env->Sem Unit}{it:Addr}{fp:List Addr}{tn:Nat->Heap->Prop}{J:It}{Q:VK}{E:Value->Shared->Prop}{RR:Value->Addr->Result->Shared->Prop}
  (c:CompOk X scope N' own fr)(hc:X.calm=true)
  (eq:∀it acc env,compTurn (.ListComp elt0 (⟨target,iter,ifs,0⟩::rest) scope cpos) 0 it acc env=(do
   standAt iter.pos
   match <- pyNext it with
   | none=>pure (.done .next)
   | some v=>
    letOwnedTupleGo target it v
    assign target env v
    let mut ok:=true
    for c in ifs do
     if ok then ok <- isTrue c env (eval c env)
    if ok then emit acc env
    again (.compLoop (.ListComp elt0 (⟨target,iter,ifs,0⟩::rest) scope cpos) 0 it acc env)))
  (T:Turn X.prog X.w X.K target J fp it tn)
  (hb:∀(cl:List (Str×Addr)) (C:Addr) (s:Shared) (H:Hp) (fp:List Addr) (p:Addr),Inv X pins σ H s->(∀b∈fp,FpOk X pins H b)->PG (cxComp X scope N' own cl C s H fp) target g/\PF (cxComp X scope N' own cl C s H fp) ifs tt/\PM (cxComp X scope N' own cl C s H fp) (emit (.ref p) (compEnvC scope cl C X.env)) (tm p))
  (I:Inv X pins σ H s)(st:tn 0 s.heap)(hf:∀b∈fp,FpOk X pins H b)
  (h:∀p,H p=none->zaax J g tt (tm p) (tau own fr σ) (upd H p (.lst [])) (λ_ H'=>Q (.ref p) H'))
  (hRR:∀(p C:Addr) (m:Str->Option Value) (H':Hp) (s':Shared),Inv X pins σ H' s'->s'.heap.Ns C m->FpOk X pins H' C->Q (.ref p) H'->RR (.ref p) C (.ok .next) s') :
  wpAny (model X.prog X.w) X.A (newList []) (λacc s₃=>wpAny (model X.prog X.w) X.A (newFunctionEnv scope X.env.globals (clos X.env.cells scope.names []) [] X.env.qual none .none (some X.env)) (λcenv s₄=>
   codeAny (model X.prog X.w) X.A (.compStart (.ListComp elt0 (⟨target,iter,ifs,0⟩::rest) scope cpos) 0 (.ref it) acc {cenv with scope:=relabel scope X.env}) (RR acc cenv.locals) s₄) E s₃) E s:=by
 refine wpAny_newObj_type ?_
 have I3:Inv X pins σ (upd H s.heap.objs.size (.lst [])) {s with heap:=s.heap.push {cls:=.type "list",dict:=none,data:=.seq ([]:List Value).toArray}}:=I.lnew (t':=s.toks) .nil (qAH _)
 have hn0:H s.heap.objs.size=none:=I.hok.fresh (qJ _)
 generalize e3:({s with heap:=s.heap.push {cls:=.type "list",dict:=none,data:=.seq ([]:List Value).toArray}}:Shared)=s3 at I3 ⊢
 have k3:∀b o,s.heap.get? b=some o->s3.heap.get? b=some o:=λb o e=>by rw[<- e3];exact qI _ e
 have hne:∀b∈fp,b≠s.heap.objs.size:=λb hb=>by
  obtain⟨o,e,_⟩:=T.obj _ _ st b hb
  exact qAI (qP e)
 have hf3:∀b∈fp,FpOk X pins (upd H s.heap.objs.size (.lst [])) b:=λb hb=>⟨by rw[zar (hne b hb)];exact(hf b hb).1,(hf b hb).2⟩
 have st3:tn 0 s3.heap:=T.keep _ _ _ st λb _ o e=>k3 b o e
 refine zvl λh' keep ns cells apart=>?_
 have I4:=zaaw c I3 hf3 (T.obj _ _ st3) keep ns cells apart
 have st4:tn 0 h':=T.keep _ _ _ st3 λb _ o e=>keep b o e
 obtain⟨hg,ht,hm⟩:=hb (cellsFrom (s3.heap.objs.size+1) scope.names []++clos X.env.cells scope.names []) s3.heap.objs.size s3 (upd H s.heap.objs.size (.lst [])) fp s.heap.objs.size I3 hf3
 have hf4:∀b∈fp,FpOk (cxComp X scope N' own (cellsFrom (s3.heap.objs.size+1) scope.names []++clos X.env.cells scope.names []) s3.heap.objs.size s3 (upd H s.heap.objs.size (.lst [])) fp) [] (upd H s.heap.objs.size (.lst [])) b:=λb hb=>
  ⟨(hf3 b hb).1,(I4.ok.exf b hb).1,I4.ok.exfs b hb,.inl hb,(I4.ok.exf b hb).2,λp hp=>absurd (show p∈([]:List (Addr×Obj))from hp) (by simp)⟩
 have loop:codeAny (model X.prog X.w) X.A (.compLoop (.ListComp elt0 (⟨target,iter,ifs,0⟩::rest) scope cpos) 0 (.ref it) (.ref s.heap.objs.size) (compEnvC scope (cellsFrom (s3.heap.objs.size+1) scope.names []++clos X.env.cells scope.names []) s3.heap.objs.size X.env)) (RR (.ref s.heap.objs.size) s3.heap.objs.size) {s3 with heap:=h'}:=by
  refine qA8 (zsp (X:=cxComp X scope N' own (cellsFrom (s3.heap.objs.size+1) scope.names []++clos X.env.cells scope.names []) s3.heap.objs.size s3 (upd H s.heap.objs.size (.lst [])) fp) (pins:=[]) rfl hc (eq _ _ _) T hg ht hm I4 st4 hf4 (h _ hn0)) λr s5 hr=>?_
  obtain⟨rfl,σ5,H5,I5,q5⟩:=hr
  obtain⟨m,hn,_⟩:=id I5.loc
  have u5:Un (frs X.stack) fp (upd H s.heap.objs.size (.lst [])) H5 s3.heap s5.heap:=I5.base
  have hok5:HOk X.prog X.w H5 s5.heap:=I5.hok
  have os5:s5.os=s3.os:=I5.os
  have bare5:=I5.bare
  have free5:H5 s3.heap.objs.size=none:=I5.free
  have hn:s5.heap.Ns s3.heap.objs.size m:=hn
  clear I5
  obtain⟨hh,gg,dd,tk,os'⟩:=s5
  obtain rfl:os'=s3.os:=os5
  have I6:Inv X pins σ H5 {s3 with heap:=hh,gens:=gg,drawn:=dd,toks:=tk}:=I3.call (ch:=fp) u5 hok5 bare5 λb hb=>⟨(hf3 b hb).2.2.2.1,(hf3 b hb).2.1,(hf3 b hb).2.2.2.2.1,(hf3 b hb).2.2.2.2.2⟩
  exact hRR _ _ m H5 _ I6 hn (I3.fpOk (qJ _) free5) q5
 exact codeAny_compStart_list loop (T.self _ 0 _ _ _ st4 loop)
theorem znq{elt0 target iter:Expr}{ifs:List Expr}{rest:List Comprehension}{cpos:Pos}{g:TG}{tt:TT}{tm:Addr->TM}{emit:Value->Env->Sem Unit}{it:Addr}{fp:List Addr}{tn:Nat->Heap->Prop}{J:It}{Q:VK}{E:Value->Shared->Prop}{RR:Value->Addr->Result->Shared->Prop}
  (c:CompOk X scope N' own fr)(hc:X.calm=true)
  (eq:∀it acc env,compTurn (.ListComp elt0 (⟨target,iter,ifs,0⟩::rest) scope cpos) 0 it acc env=(do
   standAt iter.pos
   match <- pyNext it with
   | none=>pure (.done .next)
   | some v=>
    letOwnedTupleGo target it v
    assign target env v
    let mut ok:=true
    for c in ifs do
     if ok then ok <- isTrue c env (eval c env)
    if ok then emit acc env
    again (.compLoop (.ListComp elt0 (⟨target,iter,ifs,0⟩::rest) scope cpos) 0 it acc env)))
  (T:Turn X.prog X.w X.K target J fp it tn)
  (hb:∀(cl:List (Str×Addr)) (C:Addr) (s:Shared) (H:Hp) (fp:List Addr) (p:Addr),PG (cxComp X scope N' own cl C s H fp) target g/\PF (cxComp X scope N' own cl C s H fp) ifs tt/\PM (cxComp X scope N' own cl C s H fp) (emit (.ref p) (compEnvC scope cl C X.env)) (tm p))
  (I:Inv X pins σ H s)(st:tn 0 s.heap)(hf:∀b∈fp,FpOk X pins H b)
  (h:∀p,H p=none->zaax J g tt (tm p) (tau own fr σ) (upd H p (.lst [])) (λ_ H'=>Q (.ref p) H'))
  (hRR:∀(p C:Addr) (m:Str->Option Value) (H':Hp) (s':Shared),Inv X pins σ H' s'->s'.heap.Ns C m->FpOk X pins H' C->Q (.ref p) H'->RR (.ref p) C (.ok .next) s') :
  wpAny (model X.prog X.w) X.A (newList []) (λacc s₃=>wpAny (model X.prog X.w) X.A (newFunctionEnv scope X.env.globals (clos X.env.cells scope.names []) [] X.env.qual none .none (some X.env)) (λcenv s₄=>
   codeAny (model X.prog X.w) X.A (.compStart (.ListComp elt0 (⟨target,iter,ifs,0⟩::rest) scope cpos) 0 (.ref it) acc {cenv with scope:=relabel scope X.env}) (RR acc cenv.locals) s₄) E s₃) E s:=zsq c hc eq T (λcl C s H fp p _ _=>hb cl C s H fp p) I st hf h hRR
noncomputable def zaey(wi:TI)(g:TG)(tt:TT)(tm:Addr->TM)(own:List Str)(fr:List Nat):TE:=λσ H Q=>wi σ H λJ H1=>∀p,H1 p=none->zaax J g tt (tm p) (tau own fr σ) (upd H1 p (.lst [])) (λ_ H'=>Q (.ref p) H')
theorem zaay{elt0 target iter:Expr}{ifs:List Expr}{rest:List Comprehension}{cpos:Pos}{wi:TI}{g:TG}{tt:TT}{tm:Addr->TM}{emit:Value->Env->Sem Unit}(c:CompOk X scope N' own fr)(hc:X.calm=true)
  (eq:∀it acc env,compTurn (.ListComp elt0 (⟨target,iter,ifs,0⟩::rest) scope cpos) 0 it acc env=(do
   standAt iter.pos
   match <- pyNext it with
   | none=>pure (.done .next)
   | some v=>
    letOwnedTupleGo target it v
    assign target env v
    let mut ok:=true
    for c in ifs do
     if ok then ok <- isTrue c env (eval c env)
    if ok then emit acc env
    again (.compLoop (.ListComp elt0 (⟨target,iter,ifs,0⟩::rest) scope cpos) 0 it acc env)))
  (hi:PI X target iter wi)
  (hb:∀(cl:List (Str×Addr)) (C:Addr) (s:Shared) (H:Hp) (fp:List Addr) (p:Addr),PG (cxComp X scope N' own cl C s H fp) target g/\PF (cxComp X scope N' own cl C s H fp) ifs tt/\PM (cxComp X scope N' own cl C s H fp) (emit (.ref p) (compEnvC scope cl C X.env)) (tm p))
  (hs:∀x,foldedSetIterable iter X.env x=pure x:=by intro _;rfl) :
  PE X (.ListComp elt0 (⟨target,iter,ifs,0⟩::rest) scope cpos) (zaey wi g tt tm own fr):=by
 intro pins s σ H Q I h
 rw[eval_ListComp]
 refine qCH (use:=none) rfl hs (zjc (zjv c I.ok)) c.kind (λy hy e=>(c.names y hy).trans (by rw[e])) ?_
 refine thn (hi pins s σ H _ I h) λv s1 h1=>thn h1 λitv s2 h2=>?_
 obtain⟨it,fp,tn,J,H2,e,I2,T,st2,f2,q⟩:=h2
 subst e
 refine znq (Q:=Q) c hc eq T hb I2 st2 f2 q λp C m H' s' I' hn hC q'=>?_
 exact⟨m,hn,λh' sb=>⟨.ref p,H',I'.turned (t':=s'.toks) (λb o hb e=>(sb.2 b hb).trans e) hC.1 hC.2.1 hC.2.2.2.1 hC.2.2.2.2.1 hC.2.2.2.2.2,rfl,q'⟩⟩
noncomputable def zajf(wi:TI)(g:TG)(tt:TT)(tm:Addr->TM)(own:List Str)(fr:List Nat)(i:Nat):TS:=λD σ H=>zaey wi g tt tm own fr σ H λv H'=>D.nx (σ.set i (some v)) H'
theorem zaaz{elt0 target iter:Expr}{ifs:List Expr}{rest:List Comprehension}{cpos spos py:Pos}{wi:TI}{g:TG}{tt:TT}{tm:Addr->TM}{emit:Value->Env->Sem Unit}{i:Nat}{y:Str}(c:CompOk X scope N' own fr)(hc:X.calm=true)
  (eq:∀it acc env,compTurn (.ListComp elt0 (⟨target,iter,ifs,0⟩::rest) scope cpos) 0 it acc env=(do
   standAt iter.pos
   match <- pyNext it with
   | none=>pure (.done .next)
   | some v=>
    letOwnedTupleGo target it v
    assign target env v
    let mut ok:=true
    for c in ifs do
     if ok then ok <- isTrue c env (eval c env)
    if ok then emit acc env
    again (.compLoop (.ListComp elt0 (⟨target,iter,ifs,0⟩::rest) scope cpos) 0 it acc env)))
  (hi:PI X target iter wi)
  (hb:∀(cl:List (Str×Addr)) (C:Addr) (s:Shared) (H:Hp) (fp:List Addr) (p:Addr),PG (cxComp X scope N' own cl C s H fp) target g/\PF (cxComp X scope N' own cl C s H fp) ifs tt/\PM (cxComp X scope N' own cl C s H fp) (emit (.ref p) (compEnvC scope cl C X.env)) (tm p))
  (hsw:swapsWith (.ListComp elt0 (⟨target,iter,ifs,0⟩::rest) scope cpos) (some (.Name y py)) spos.line X.env=pure true)
  (hN:X.N.Nodup)(hy:X.N[i]?=some y)(hl:X.env.scope.names.lookup y=some .local)
  (hs:∀x,foldedSetIterable iter X.env x=pure x:=by intro _;rfl) :
  PS X (.Assign [.Name y py] (.ListComp elt0 (⟨target,iter,ifs,0⟩::rest) scope cpos) spos) (zajf wi g tt tm own fr i):=by
 intro pins s σ H D I h
 rw[exec_Assign_Name_used _ _ _ _ hsw]
 refine qV (qBN (qV ?_))
 show wpAny _ X.A (do let _ <- comprehension (.ListComp elt0 (⟨target,iter,ifs,0⟩::rest) scope cpos) scope X.env _ (newList []) false (eval iter X.env) (some (assign (.Name y py) X.env))) _ _ s
 refine qV (thn (qCH (use:=some (assign (.Name y py) X.env)) (Q:=λ_ s'=>SP X pins D .next s') rfl hs (zjc (zjv c I.ok)) c.kind (λy hy e=>(c.names y hy).trans (by rw[e])) ?_) λ_ s' q=>qv (qv q))
 refine thn (hi pins s σ H _ I h) λv s1 h1=>thn h1 λitv s2 h2=>?_
 obtain⟨it,fp,tn,J,H2,e,I2,T,st2,f2,q⟩:=h2
 subst e
 refine znq (Q:=λv H'=>D.nx (σ.set i (some v)) H') c hc eq T hb I2 st2 f2 q λp C m H' s' I' hn hC q'=>?_
 show wpAny _ X.A (assign (.Name y py) X.env (.ref p)) _ _ _
 refine wpAny_assign_Name (zqb I' hN hy (.inl hl) (v:=.ref p) rfl (λs'' I'' ⟨a,sb,ha⟩=>?_) (.inr hl))
 have hCa:C≠a:=by
  rcases ha with rfl|ha
  ·exact hC.2.1
  ·exact qAo (hC.2.2.2.2.1 y a ha)
 refine⟨m,hn.sameBut sb hCa,λh' sb'=>⟨σ.set i (some (.ref p)),H',I''.turned (t':=s''.toks) (λb o hb e=>(sb'.2 b hb).trans e) hC.1 hC.2.1 hC.2.2.2.1 hC.2.2.2.2.1 hC.2.2.2.2.2,q'⟩⟩
end
section
variable{X:Cx}
section
variable{scope:Scope}{N' own:List Str}{fr:List Nat}{elt target iter:Expr}{ifs:List Expr}{cpos:Pos}{wi:TI}{g:TG}{tt:TT}{te:TE}
noncomputable def tComp1(wi:TI)(g:TG)(tt:TT)(te:TE)(own:List Str)(fr:List Nat):TE:=zaey wi g tt (λp=>zaex p te) own fr
theorem zaba(c:CompOk X scope N' own fr)(hc:X.calm=true)(hi:PI X target iter wi)
  (hb:∀(cl:List (Str×Addr)) (C:Addr) (s:Shared) (H:Hp) (fp:List Addr),PG (cxComp X scope N' own cl C s H fp) target g/\PF (cxComp X scope N' own cl C s H fp) ifs tt/\PE (cxComp X scope N' own cl C s H fp) elt te)
  (hs:∀x,foldedSetIterable iter X.env x=pure x:=by intro _;rfl):PE X (.ListComp elt [⟨target,iter,ifs,0⟩] scope cpos) (tComp1 wi g tt te own fr):=
 zaay (emit:=λacc env=>do let _ <- call (.builtin "list.append") [acc,<- eval elt env]) c hc (λ_ _ _=>rfl) hi
  (λcl C s H fp p=>⟨(hb cl C s H fp).1,(hb cl C s H fp).2.1,zxl (hb cl C s H fp).2.2⟩) hs
noncomputable def tAsgC1(wi:TI)(g:TG)(tt:TT)(te:TE)(own:List Str)(fr:List Nat)(i:Nat):TS:=zajf wi g tt (λp=>zaex p te) own fr i
theorem zabb{spos py:Pos}{i:Nat}{y:Str}(c:CompOk X scope N' own fr)(hc:X.calm=true)(hi:PI X target iter wi)
  (hb:∀(cl:List (Str×Addr)) (C:Addr) (s:Shared) (H:Hp) (fp:List Addr),PG (cxComp X scope N' own cl C s H fp) target g/\PF (cxComp X scope N' own cl C s H fp) ifs tt/\PE (cxComp X scope N' own cl C s H fp) elt te)
  (hsw:swapsWith (.ListComp elt [⟨target,iter,ifs,0⟩] scope cpos) (some (.Name y py)) spos.line X.env=pure true)
  (hN:X.N.Nodup)(hy:X.N[i]?=some y)(hl:X.env.scope.names.lookup y=some .local)
  (hs:∀x,foldedSetIterable iter X.env x=pure x:=by intro _;rfl):PS X (.Assign [.Name y py] (.ListComp elt [⟨target,iter,ifs,0⟩] scope cpos) spos) (tAsgC1 wi g tt te own fr i):=
 zaaz (emit:=λacc env=>do let _ <- call (.builtin "list.append") [acc,<- eval elt env]) c hc (λ_ _ _=>rfl) hi
  (λcl C s H fp p=>⟨(hb cl C s H fp).1,(hb cl C s H fp).2.1,zxl (hb cl C s H fp).2.2⟩) hsw hN hy hl hs
end
noncomputable def zamy:R2:=λx y H Q=>∃z n,x=.str z/\y=.int n/\z.length<=1000/\-1000<=n/\n<=1000/\Q (.str (Txt.mul z n)) H
theorem zaez:OpR X (binaryOp .Mult) zamy:=by
 intro pins s σ H x y v u Q I rx ry h
 obtain⟨z,n,rfl,rfl,h1,h2,h3,q⟩:=h
 obtain⟨t,rfl⟩:=rx
 obtain⟨t',rfl⟩:=ry
 exact SB.mul (mulOk_of 1000 1000 h1 (by omega) (by omega) (by decide) (by decide)) λt' k=>⟨.str (Txt.mul z n),H,I.tok _,⟨_,rfl⟩,q⟩
noncomputable def rSlS:V->Option Int->Option Int->Hp->VK->Prop:=λx lo hi H Q=>∃z,x=.str z/\z.length<=qQ/\Q (.str (Txt.slice z lo hi)) H
theorem zajg:SlR X rSlS:=by
 intro pins s σ H x v vl vu lo hi sl Q I rx hs pl pu h
 obtain⟨z,rfl,hz,q⟩:=h
 obtain⟨t,rfl⟩:=rx
 refine⟨"str",_,F.slot_str_getitem.lookup,qBx _ _ _,?_⟩
 have fin:∀t' k,EP X pins σ Q (.str (Txt.slice z lo hi) t') {s with toks:=k}:=λt' k=>⟨.str (Txt.slice z lo hi),H,I.tok _,⟨_,rfl⟩,q⟩
 have fz:(Txt.slice z lo hi).length<=qQ:=qf (Txt.slice_le z _ _) hz
 cases pl with
 | none=>cases pu with
  | none=>exact qAp (l:=none) (u:=none) (st:=none) hs rfl (qBV ⟨fz,fin⟩)
  | int j tj=>exact qAp (l:=none) (u:=some (j,tj)) (st:=none) hs rfl (qBV ⟨fz,fin⟩)
 | int i ti=>cases pu with
  | none=>exact qAp (l:=some (i,ti)) (u:=none) (st:=none) hs rfl (qBV ⟨fz,fin⟩)
  | int j tj=>exact qAp (l:=some (i,ti)) (u:=some (j,tj)) (st:=none) hs rfl (qBV ⟨fz,fin⟩)
theorem zabc{id:String}(hid:id="isinstance"):CallR X (.builtin id) (λxs H Q=>∃x n t b,xs=[x,.ty n]/\TyOf X.K H x t/\PySem.W.kitOne X.K t (.type n)=some b/\Q (.bl b) H):=by
 subst hid
 intro pins s σ H xs us Q I r h
 obtain⟨x,n,t,b,rfl,ty,e,q⟩:=h
 obtain⟨u,w',rfl,rx,ry⟩:=zsl r
 cases ry
 exact zxe I rx ty e λtk=>⟨.bl b,H,I.tok _,rfl,q⟩
end
mutual
def Rep(K:qC)(H:Hp):PyData->V->Prop
 | .none,v=>v=.non
 | .bool b,v=>v=.bl b
 | .int i,v=>v=.int i
 | .str x,v=>v=.str x
 | .list ds,v=>∃a xs,v=.ref a/\SqL K H a xs/\Reps K H ds xs
 | .tuple ds,v=>∃a xs,v=.ref a/\SqT K H a xs/\Reps K H ds xs
 | .dict _,_=>False
def Reps(K:qC)(H:Hp):List PyData->List V->Prop
 | [],xs=>xs=[]
 | d::ds,xs=>∃v vs,xs=v::vs/\Rep K H d v/\Reps K H ds vs
end
mutual
theorem zgm{X:Cx}{pins:List (Addr×Obj)}{σ:St}{H:Hp}{s:Shared}(I:Inv X pins σ H s):∀(d:PyData){v:V}{u:Value},Rep X.K H d v->RelV v u->∃as,Reads s.heap u d as
 | .none,v,u,h,r=>by unfold Rep at h;subst h;cases r;exact⟨_,.none⟩
 | .bool b,v,u,h,r=>by unfold Rep at h;subst h;cases r;exact⟨_,.bool b⟩
 | .int i,v,u,h,r=>by unfold Rep at h;subst h;obtain⟨t,rfl⟩:=r;exact⟨_,.int i t⟩
 | .str x,v,u,h,r=>by unfold Rep at h;subst h;obtain⟨t,rfl⟩:=r;exact⟨_,.str x t⟩
 | .list ds,v,u,h,r=>by
  unfold Rep at h
  obtain⟨a,xs,rfl,hq,hr⟩:=h
  cases r
  obtain⟨its,rv,p,hz⟩:=I.list hq
  obtain⟨as,q⟩:=reps_reads I ds hr rv
  obtain⟨o,h1,h2,n,h3⟩:=p.isList
  exact⟨_,reads_list_at h1 h2 h3 (by simpa using q)⟩
 | .tuple ds,v,u,h,r=>by
  unfold Rep at h
  obtain⟨a,xs,rfl,hq,hr⟩:=h
  cases r
  obtain⟨its,rv,p,hz⟩:=I.tuple hq
  obtain⟨as,q⟩:=reps_reads I ds hr rv
  obtain⟨o,h1,h2,n,h3⟩:=p
  exact⟨_,reads_tuple_at h1 h2 h3 (by simpa using q)⟩
 | .dict _,_,_,h,_=>by unfold Rep at h;exact h.elim
theorem reps_reads{X:Cx}{pins:List (Addr×Obj)}{σ:St}{H:Hp}{s:Shared}(I:Inv X pins σ H s):∀(ds:List PyData){vs:List V}{us:List Value},Reps X.K H ds vs->Vals vs us->∃as,ReadsAll s.heap us ds as
 | [],vs,us,h,r=>by unfold Reps at h;subst h;cases r;exact⟨_,.nil⟩
 | d::ds,vs,us,h,r=>by
  unfold Reps at h
  obtain⟨v,vs',rfl,h1,h2⟩:=h
  cases r with
  | cons r rr=>
   obtain⟨as,q1⟩:=zgm I d h1 r
   obtain⟨bs,q2⟩:=reps_reads I ds h2 rr
   exact⟨_,.cons q1 q2⟩
end
theorem SqT.same{K:qC}{H H':Hp}{a:Addr}{xs:List V}(h:Same H H')(q:SqT K H a xs):SqT K H' a xs:=by
 rcases q with(q|⟨o,q⟩)|q
 ·exact .inl (.inl (h _ _ q))
 ·exact .inl (.inr ⟨o,h _ _ q⟩)
 ·exact .inr q
section
variable{X:Cx}
noncomputable def rEqD(K:qC)(neg:Bool):R2:=λx y H Q=>∃d e,Rep K H d x/\Rep K H e y/\qBf d=true/\qBf e=true/\Q (.bl (if neg then !PyData.eqv d e else qAY d e)) H
theorem zajh(hu:X.A.units+64<cLine):OpR X (compareOp .Eq) (rEqD X.K false):=by
 intro pins s σ H x y v u Q I rx ry h
 obtain⟨d,e,hd,he,sd,se,q⟩:=h
 obtain⟨as,r1⟩:=zgm I d hd rx
 obtain⟨bs,r2⟩:=zgm I e he ry
 exact eq_dataH r1 r2 sd se hu ⟨.bl (qAY d e),H,I,rfl,q⟩
theorem zaji(hu:X.A.units+64<cLine):OpR X (compareOp .NotEq) (rEqD X.K true):=by
 intro pins s σ H x y v u Q I rx ry h
 obtain⟨d,e,hd,he,sd,se,q⟩:=h
 obtain⟨as,r1⟩:=zgm I d hd rx
 obtain⟨bs,r2⟩:=zgm I e he ry
 exact ne_dataH r1 r2 sd se hu ⟨.bl (!PyData.eqv d e),H,I,rfl,q⟩
theorem zafa{bs:List Bool}:∀{its:List Value},Vals (bs.map V.bl) its->its=bs.map Value.bool:=by
 induction bs with
 | nil=>intro its r;cases r;rfl
 | cons b bs ih=>
  intro its r
  cases r with
  | cons r rr=>cases r;rw[ih rr];rfl
theorem zxm(bs:List Bool):(List.range bs.length).all (λi=>bs.getD i false)=bs.all id:=by
 rw[qAm,qAE,qAE]
 constructor
 ·intro h b hb
  obtain⟨i,hi,e⟩:=List.getElem_of_mem hb
  have q:=h i (qA5.mpr hi)
  rw[qw,qO hi,e]at q
  exact q
 ·intro h i hi
  have hi:=qA5.mp hi
  have q:=h _ (qAi hi)
  rw[qw,qO hi]
  exact q
noncomputable def rAny(K:qC)(f:List Bool->Bool):List V->Hp->VK->Prop:=λxs H Q=>∃p bs,xs=[.ref p]/\SqL K H p (bs.map V.bl)/\Q (.bl (f bs)) H
theorem zabd(hc:X.calm=true):CallR X (.builtin "all") (rAny X.K λbs=>bs.all id):=by
 intro pins s σ H xs us Q I r h
 obtain⟨p,bs,rfl,hq,q⟩:=h
 obtain⟨u,rfl,ru⟩:=znf r
 cases ru
 obtain⟨its,rv,pl,hz⟩:=I.list hq
 cases zafa rv
 have hne:p≠s.heap.objs.size:=by obtain⟨o,e,_⟩:=pl.isList;exact qAI (qP e)
 refine call_all_walk (wpAny_pyIter_list pl.isList ⟨s.heap.objs.size,_,_,_,_,_,λi=>bs.getD i false,rfl,Walks.list (A:=X.A.in1) (show X.A.in1.handled=none from I.ok.hd hc) _ p hne (bs.map Value.bool).toArray,⟨⟨_,qAN _ rfl,rfl,rfl⟩,?_⟩,?_,?_⟩)
 ·obtain⟨o,e,z⟩:=pl.isList
  exact⟨o,qI _ e,z⟩
 ·intro i v s' Q' E' hv hQ
  have hv:(bs.map Value.bool)[i]?=some v:=by simpa using hv
  rw[qa]at hv
  cases e:bs[i]? with
  | none=>rw[e]at hv;cases hv
  | some b=>
   rw[e]at hv
   cases hv
   have z:bs.getD i false=b:=by rw[qw,e];rfl
   have hQ:Q' (bs.getD i false) s':=hQ
   rw[z]at hQ
   exact qBH hQ
 ·intro h' tk hk
  refine⟨.bl (bs.all id),H,?_,by rw[<- zxm bs];simp;rfl,q⟩
  exact I.kept (t':=tk) λb o e=>hk b o (by have:=qP e;simp;exact qAI this) (qI _ e)
end
noncomputable def zxn(o:Option NameKind):Bool:=o==some .cell||o==some .free
noncomputable def zxo(sc:Scope)(N:List Str)(scope:Scope)(N' own:List Str)(fr:List Nat):Bool:=
 (scope.kind==.function)&&(scope.names.all λy=>scope.names.lookup y.1==some y.2)&&(scope.names.all λy=>!(y.2==.free)||zxn (sc.names.lookup y.1))&&
 (N'==own++fr.map λj=>N.getD j Str.empty)&&(fr.all λj=>decide (j<N.length)&&(scope.names.lookup (N.getD j Str.empty)==some .free))&&
 (own.all λx=>scope.names.lookup x==some .local||scope.names.lookup x==some .cell)
section
variable{X:Cx}
theorem zbx{scope:Scope}{N' own:List Str}{fr:List Nat}(h:zxo X.env.scope X.N scope N' own fr=true):CompOk X scope N' own fr:=by
 unfold zxo at h
 simp only[qk]at h
 obtain⟨⟨⟨⟨⟨h1,h2⟩,h3⟩,h4⟩,h5⟩,h6⟩:=h
 refine⟨eq_of_beq h1,λy hy=>eq_of_beq (qAE.mp h2 y hy),λy hy e=>?_,eq_of_beq h4,λj hj=>?_,λx hx=>?_⟩
 ·have q:=qAE.mp h3 y hy
  rw[e]at q
  have q:zxn (X.env.scope.names.lookup y.1)=true:=by simpa using q
  unfold zxn at q
  rcases qCO.mp q with z|z
  ·exact .inl (eq_of_beq z)
  ·exact .inr (eq_of_beq z)
 ·have q:=qAE.mp h5 j hj
  rw[qk]at q
  exact⟨of_decide_eq_true q.1,eq_of_beq q.2⟩
 ·have q:=qAE.mp h6 x hx
  rcases qCO.mp q with z|z
  ·exact .inl (eq_of_beq z)
  ·exact .inr (eq_of_beq z)
noncomputable def zafb(K:qC):R2:=λx y H Q=>match x,y with
 | .int i,.int j=>Q (.int (i+j)) H
 | .str a,.str b=>a.length+b.length<=qQ/\Q (.str (a++b)) H
 | .ref _,.ref _=>rCat x y H Q\/zaix K x y H Q
 | _,_=>False
theorem zafc:OpR X (binaryOp .Add) (zafb X.K):=by
 intro pins s σ H x y v u Q I rx ry h
 cases x<;>cases y<;>first
  | exact h.elim
  | exact zais pins s σ H _ _ v u Q I rx ry ⟨_,_,rfl,rfl,h⟩
  | exact zvf pins s σ H _ _ v u Q I rx ry ⟨_,_,rfl,rfl,h.1,h.2⟩
  | exact(zajd.or zaes) pins s σ H _ _ v u Q I rx ry h
noncomputable def zajj:R2:=λx y H Q=>match x,y with
 | .int i,.int j=>CMul i j/\Q (.int (i * j)) H
 | .str z,.int n=>z.length<=1000/\-1000<=n/\n<=1000/\Q (.str (Txt.mul z n)) H
 | _,_=>False
theorem zgc:OpR X (binaryOp .Mult) zajj:=by
 intro pins s σ H x y v u Q I rx ry h
 cases x<;>cases y<;>first
  | exact h.elim
  | exact zaiu pins s σ H _ _ v u Q I rx ry ⟨_,_,rfl,rfl,h.1,h.2⟩
  | exact zaez pins s σ H _ _ v u Q I rx ry ⟨_,_,rfl,rfl,h.1,h.2.1,h.2.2.1,h.2.2.2⟩
noncomputable def rIxU(K:qC):R2:=λx y H Q=>match x,y with
 | .str z,.int i=>z.length<=qQ/\∃c,atI z.cps.toList i=some c/\Q (.str ⟨#[c]⟩) H
 | .ref p,.int i=>∃xs v,(SqL K H p xs\/SqT K H p xs)/\atI xs i=some v/\Q v H
 | _,_=>False
theorem ix_U:IxR X (rIxU X.K):=by
 intro value slice pins s σ H x y v u Q I rx ry h hs
 cases x<;>cases y<;>first
  | exact h.elim
  | (obtain⟨h1,c,h2,h3⟩:=h;exact zaiz value slice pins s σ H _ _ v u Q I rx ry ⟨_,_,c,rfl,rfl,h1,h2,h3⟩ hs)
  | (obtain⟨xs,w,h1,h2,h3⟩:=h
     rcases h1 with h1|h1
     ·exact zaet value slice pins s σ H _ _ v u Q I rx ry ⟨_,xs,_,w,rfl,rfl,h1,h2,h3⟩ hs
     ·exact zaiy value slice pins s σ H _ _ v u Q I rx ry ⟨_,xs,_,w,rfl,rfl,h1,h2,h3⟩ hs)
noncomputable def rSlU(K:qC):V->Option Int->Option Int->Hp->VK->Prop:=λx lo hi H Q=>match x with
 | .str z=>z.length<=qQ/\Q (.str (Txt.slice z lo hi)) H
 | .ref _=>rSlL K x lo hi H Q
 | _=>False
theorem sl_U:SlR X (rSlU X.K):=by
 intro pins s σ H x v vl vu lo hi sl Q I rx hs pl pu h
 cases x<;>first
  | exact h.elim
  | exact zajg pins s σ H _ v vl vu lo hi sl Q I rx hs pl pu ⟨_,rfl,h.1,h.2⟩
  | exact zaeu pins s σ H _ v vl vu lo hi sl Q I rx hs pl pu h
noncomputable def Dn(P:Program)(w:World)(K:qC)(mg:Str->Option Value)(base:Heap)(x:Str)(ps:List Str)(k:Nat)(sp:Sp):Prop:=
 ∃f fd,FnOk P w K mg base CX0 k f fd ps sp/\mg x=some (.ref f)/\qAX K (.ref f)=true/\zgu K fd ps []
theorem zamz{x:Str}{p pos:Pos}{e:Expr}{es:List Expr}{t:TA}{ps:List Str}{k:Nat}{sp:Sp}(D:Dn X.prog X.w X.K X.mg X.base x ps k sp)(hr:Room k X.A)(hg:Gl X x)(ha:PA X (e::es) t)
  (hdb:(x==("__debug__":Str))=false:=by decide)(he:starEach (e::es) X.env=(false,eval e X.env)::starEach es X.env:=by rfl)(hpl:(backTo pos (starEach es X.env)).any (·.1)=false:=by rfl) :
  PE X (.Call (.Name x p) (e::es) [] pos) (tCall sp [] E0 t):=by
 obtain⟨f,fd,F,hm,hk,hb⟩:=D
 exact zxf F hr hg hm hk hb .nil zamx ha hdb he hpl
end
theorem Same.upd{H H':Hp}{p:Addr}{o:HO}(h:Same H H')(hp:H p=none):Same H (upd H' p o):=λb u e=>by rw[zar (zcx e hp)];exact h b u e
theorem Same.new{H:Hp}{p:Addr}{o:HO}(hp:H p=none):Same H (L2.upd H p o):=(Same.refl H).upd hp
end L2
namespace Bc
open PySem L2
end Bc
namespace L2
open PySem PySem.Spec PyProof.Rows
section
variable{X:Cx}{K:qC}(hK:X.K=K)
include hK
theorem zafd{es:List Expr}{k:Nat}{t:TGs}{n:Nat}{pos:Pos}(hc:X.calm=true)(h:PGs X es t)
  (hn:(assignEach es X.env).length=n:=by rfl) (hst:(assignEach es X.env).findIdx? (·.1)=none:=by rfl):PG X (.Tuple es k pos) (gTup K n t):=by subst hK;exact zaip hc h hn hst
theorem zde:IxR X (rIxU K):=by subst hK;exact ix_U
theorem zafe:SlR X (rSlU K):=by subst hK;exact sl_U
theorem zbr:OpR X (binaryOp .Add) (zafb K):=by subst hK;exact zafc
theorem zqr:OpR X (compareOp .NotIn) (rIn K true):=by subst hK;exact zqo
theorem zbp:CallR X (.builtin "len") (λxs H Q=>∃x n,xs=[x]/\LenV K x H n/\Q (.int n) H):=by subst hK;exact zaaq
theorem zxp(hc:X.calm=true):CallR X (.builtin "all") (rAny K λbs=>bs.all id):=by subst hK;exact zabd hc
theorem zxq:CallR X (.builtin "isinstance") (λxs H Q=>∃x n t b,xs=[x,.ty n]/\TyOf K H x t/\PySem.W.kitOne K t (.type n)=some b/\Q (.bl b) H):=by subst hK;exact zabc rfl
theorem zvm:CallR X (.type "list") (λxs H Q=>∃p ys,xs=[.ref p]/\(SqL K H p ys\/SqT K H p ys)/\∀l,H l=none->Q (.ref l) (upd H l (.lst ys))):=by subst hK;exact zkl
theorem zajk{T:String}{name:Str}{id:String}{r:V->List V->Hp->VK->Prop}{o e:Expr}{es:List Expr}{to:TE}{t:TA}{apos cpos:Pos}(pa:PlainAttrs T)(slot:Slot T name id)(hty:typeOf (.builtin id)=pure (.type "method_descriptor"))(hm:MtR X id r)(ho:PE X o to)(ha:PA X (e::es) t)
  (hbase:attributeBase o name X.env (eval o X.env)=eval o X.env:=by rfl)
  (hfew:((backTo cpos (starEach (e::es) X.env)).all (λx=>!x.1)&&(backToKw cpos (keywordEach [] X.env)).all (λx=>x.1.isSome)
   && decide ((e::es).length+([]:List Keyword).length+(if([]:List Keyword).isEmpty then 0 else 1)<30))=true:=by rfl)
  (hline:(apos.endLine==cpos.line)=true:=by rfl)(hs:starEach (e::es) X.env=(false,eval e X.env)::starEach es X.env:=by rfl)(hplain:(backTo cpos (starEach es X.env)).any (·.1)=false:=by rfl) :
  PE X (.Call (.Attribute o name apos) (e::es) [] cpos) (tBM K T r to t):=by subst hK;exact zamw pa slot hty hm ho ha hbase hfew hline hs hplain
end
noncomputable def keyD:PyData->Option Key
 | .int i=>some (Sum.inl i)
 | .str s=>some (Sum.inr s)
 | _=>none
mutual
def Rp(H:Hp):PyData->V->Prop
 | .none,v=>v=.non
 | .bool b,v=>v=.bl b
 | .int i,v=>v=.int i
 | .str x,v=>v=.str x
 | .list ds,v=>∃a xs,v=.ref a/\H a=some (.lst xs)/\Rps H ds xs
 | .tuple ds,v=>∃a xs,v=.ref a/\H a=some (.tup xs)/\Rps H ds xs
 | .dict kvs,v=>∃a ps,v=.ref a/\H a=some (.dK ps)/\Rpd H kvs ps
def Rps(H:Hp):List PyData->List V->Prop
 | [],xs=>xs=[]
 | d::ds,xs=>∃v vs,xs=v::vs/\Rp H d v/\Rps H ds vs
def Rpd(H:Hp):List (PyData×PyData)->List (Key×V)->Prop
 | [],ps=>ps=[]
 | (k,d)::r,ps=>∃k' v vs,ps=(k',v)::vs/\keyD k=some k'/\Rp H d v/\Rpd H r vs
end
mutual
theorem Rp.same{H H':Hp}(h:Same H H'):∀(d:PyData){v:V},Rp H d v->Rp H' d v
 | .none,v,q=>by unfold Rp at q ⊢;exact q
 | .bool b,v,q=>by unfold Rp at q ⊢;exact q
 | .int i,v,q=>by unfold Rp at q ⊢;exact q
 | .str x,v,q=>by unfold Rp at q ⊢;exact q
 | .list ds,v,q=>by
  unfold Rp at q ⊢
  obtain⟨a,xs,e,hq,hr⟩:=q
  exact⟨a,xs,e,h _ _ hq,Rps.same h ds hr⟩
 | .tuple ds,v,q=>by
  unfold Rp at q ⊢
  obtain⟨a,xs,e,hq,hr⟩:=q
  exact⟨a,xs,e,h _ _ hq,Rps.same h ds hr⟩
 | .dict kvs,v,q=>by
  unfold Rp at q ⊢
  obtain⟨a,xs,e,hq,hr⟩:=q
  exact⟨a,xs,e,h _ _ hq,Rpd.same h kvs hr⟩
theorem Rps.same{H H':Hp}(h:Same H H'):∀(ds:List PyData){vs:List V},Rps H ds vs->Rps H' ds vs
 | [],vs,q=>by unfold Rps at q ⊢;exact q
 | d::ds,vs,q=>by
  unfold Rps at q ⊢
  obtain⟨v,vs',e,h1,h2⟩:=q
  exact⟨v,vs',e,Rp.same h d h1,Rps.same h ds h2⟩
theorem Rpd.same{H H':Hp}(h:Same H H'):∀(ds:List (PyData×PyData)){vs:List (Key×V)},Rpd H ds vs->Rpd H' ds vs
 | [],vs,q=>by unfold Rpd at q ⊢;exact q
 | (k,d)::ds,vs,q=>by
  unfold Rpd at q ⊢
  obtain⟨k',v,vs',e,h0,h1,h2⟩:=q
  exact⟨k',v,vs',e,h0,Rp.same h d h1,Rpd.same h ds h2⟩
end
theorem zcr{H:Hp}:∀{ds:List PyData}{xs:List V},Rps H ds xs↔Paired (Rp H) ds xs
 | [],xs=>by
  constructor
  ·intro h;unfold Rps at h;subst h;exact .nil
  ·intro h;cases h;unfold Rps;rfl
 | d::ds,xs=>by
  constructor
  ·intro h
   unfold Rps at h
   obtain⟨v,vs,rfl,h1,h2⟩:=h
   exact .cons h1 (zcr.mp h2)
  ·intro h
   cases h with
   | cons h1 h2=>unfold Rps;exact⟨_,_,rfl,h1,zcr.mpr h2⟩
theorem Rps.length{H:Hp}{ds:List PyData}{xs:List V}(h:Rps H ds xs):ds.length=xs.length:=(zcr.mp h).length
theorem zct{H:Hp}{ds:List PyData}{v:V}(h:Rp H (.list ds) v):∃a xs,v=.ref a/\H a=some (.lst xs)/\Rps H ds xs:=by unfold Rp at h;exact h
theorem zby{H:Hp}{ds:List PyData}{v:V}(h:Rp H (.tuple ds) v):∃a xs,v=.ref a/\H a=some (.tup xs)/\Rps H ds xs:=by unfold Rp at h;exact h
theorem zpa{H:Hp}{ds:List (PyData×PyData)}{v:V}(h:Rp H (.dict ds) v):∃a xs,v=.ref a/\H a=some (.dK xs)/\Rpd H ds xs:=by unfold Rp at h;exact h
theorem zcb{H:Hp}{i:Int}{v:V}(h:Rp H (.int i) v):v=.int i:=by unfold Rp at h;exact h
theorem zes{H:Hp}{i:Str}{v:V}(h:Rp H (.str i) v):v=.str i:=by unfold Rp at h;exact h
theorem zhl{H:Hp}{i:Bool}{v:V}(h:Rp H (.bool i) v):v=.bl i:=by unfold Rp at h;exact h
theorem zpb{H:Hp}{v:V}(h:Rp H .none v):v=.non:=by unfold Rp at h;exact h
theorem zaa{H:Hp}{i:Int}:Rp H (.int i) (.int i):=by unfold Rp;rfl
theorem zat{H:Hp}{i:Str}:Rp H (.str i) (.str i):=by unfold Rp;rfl
theorem zce{H:Hp}{i:Bool}:Rp H (.bool i) (.bl i):=by unfold Rp;rfl
theorem zjw{H:Hp}:Rp H .none .non:=by unfold Rp;rfl
theorem zcy{H:Hp}{ds:List PyData}{a:Addr}{xs:List V}(h:H a=some (.lst xs))(r:Rps H ds xs):Rp H (.list ds) (.ref a):=by unfold Rp;exact⟨a,xs,rfl,h,r⟩
theorem zfl{H:Hp}{ds:List PyData}{a:Addr}{xs:List V}(h:H a=some (.tup xs))(r:Rps H ds xs):Rp H (.tuple ds) (.ref a):=by unfold Rp;exact⟨a,xs,rfl,h,r⟩
theorem zvn{H:Hp}{ds:List (PyData×PyData)}{a:Addr}{xs:List (Key×V)}(h:H a=some (.dK xs))(r:Rpd H ds xs):Rp H (.dict ds) (.ref a):=by unfold Rp;exact⟨a,xs,rfl,h,r⟩
theorem zbf{H:Hp}:Rps H [] []:=by unfold Rps;rfl
theorem zbc{H:Hp}{d:PyData}{ds:List PyData}{v:V}{vs:List V}(h:Rp H d v)(r:Rps H ds vs):Rps H (d::ds) (v::vs):=by
 show Rps H (d::ds) _
 unfold Rps;exact⟨v,vs,rfl,h,r⟩
theorem Rps.append{H:Hp}{ds es:List PyData}{vs ws:List V}(h:Rps H ds vs)(r:Rps H es ws):Rps H (ds++es) (vs++ws):=by
 replace h:=zcr.mp h
 refine zcr.mpr ?_
 induction h with
 | nil=>exact zcr.mp r
 | cons h _ ih=>exact .cons h ih
theorem Rps.get2{H:Hp}{ds:List PyData}{vs:List V}(h:Rps H ds vs){i:Nat}{d:PyData}(e:ds[i]?=some d):∃v,vs[i]?=some v/\Rp H d v:=by
 replace h:=zcr.mp h
 induction h generalizing i with
 | nil=>simp at e
 | cons h _ ih=>
  cases i with
  | zero=>simp at e;subst e;exact⟨_,rfl,h⟩
  | succ i=>simpa using ih (by simpa using e)
open Classical in
noncomputable def Offs(A:Addr->Prop)(H:Hp):Hp:=λb=>if A b then none else H b
theorem Offs.get{A:Addr->Prop}{H:Hp}{b:Addr}(h:¬A b):Offs A H b=H b:=if_neg h
theorem Offs.out{A:Addr->Prop}{H:Hp}{b:Addr}(h:A b):Offs A H b=none:=if_pos h
theorem Offs.of{A:Addr->Prop}{H:Hp}{b:Addr}{o:HO}(h:Offs A H b=some o):¬A b/\H b=some o:=by
 by_cases hb:A b
 ·rw[Offs.out hb]at h;cases h
 ·rw[Offs.get hb]at h;exact⟨hb,h⟩
theorem Offs.mono{A B:Addr->Prop}{H H':Hp}(s:Same H H')(h:∀b o,H b=some o->¬A b->¬B b):Same (Offs A H) (Offs B H'):=λb o e=>by
 obtain⟨h1,h2⟩:=Offs.of e
 rw[Offs.get (h b o h2 h1)]
 exact s b o h2
theorem Offs.same(A:Addr->Prop)(H:Hp):Same (Offs A H) H:=λb o e=>(Offs.of e).2
theorem Offs.sub{A B:Addr->Prop}{H:Hp}(h:∀b,B b->A b):Same (Offs A H) (Offs B H):=Offs.mono (Same.refl _) λb _ _ n z=>n (h b z)
theorem Offs.grow{A:Addr->Prop}{H H':Hp}(s:Same H H'):Same (Offs A H) (Offs A H'):=Offs.mono s λ_ _ _ z=>z
theorem Offs.upd{A:Addr->Prop}{H:Hp}{a:Addr}{o:HO}(h:A a):Offs A (upd H a o)=Offs A H:=by
 funext b
 by_cases hb:A b
 ·rw[Offs.out hb,Offs.out hb]
 ·rw[Offs.get hb,Offs.get hb,zar (λe=>hb (by rw[e];exact h))]
inductive Sl where
 | no
  | pl (d:PyData)
  | ac (d:PyData)
noncomputable abbrev DEnv:=List Sl
noncomputable def own(env:DEnv)(σ:St)(a:Addr):Prop:=∃(i:Nat)(d:PyData),env[i]?=some (.ac d)/\σ[i]?=some (some (.ref a))
noncomputable def zfm(Ho H:Hp)(a:Addr):PyData->Prop
 | .list ds=>∃xs,H a=some (.lst xs)/\Rps Ho ds xs
 | .dict kvs=>∃ps,H a=some (.dK ps)/\Rpd Ho kvs ps
 | _=>False
theorem zfm.rp{Ho H H':Hp}{a:Addr}{d:PyData}(h:zfm Ho H a d)(s:Same Ho H')(e:∀o,H a=some o->H' a=some o):Rp H' d (.ref a):=by
 cases d with
 | list ds=>
  obtain⟨xs,h1,h2⟩:=h
  exact zcy (e _ h1) (Rps.same s _ h2)
 | dict ds=>
  obtain⟨xs,h1,h2⟩:=h
  exact zvn (e _ h1) (Rpd.same s _ h2)
 | _=>exact h.elim
theorem zfm.same{Ho H Ho' H':Hp}{a:Addr}{d:PyData}(h:zfm Ho H a d)(s:Same Ho Ho')(e:∀o,H a=some o->H' a=some o):zfm Ho' H' a d:=by
 cases d with
 | list ds=>
  obtain⟨xs,h1,h2⟩:=h
  exact⟨xs,e _ h1,Rps.same s _ h2⟩
 | dict ds=>
  obtain⟨xs,h1,h2⟩:=h
  exact⟨xs,e _ h1,Rpd.same s _ h2⟩
 | _=>exact h.elim
theorem zfm.ex{Ho H:Hp}{a:Addr}{d:PyData}(h:zfm Ho H a d):∃o,H a=some o:=by
 cases d with
 | list ds=>obtain⟨xs,h1,h2⟩:=h;exact⟨_,h1⟩
 | dict ds=>obtain⟨xs,h1,h2⟩:=h;exact⟨_,h1⟩
 | _=>exact h.elim
structure EnvOk(fx:Addr->Prop)(H0:Hp)(env:DEnv)(σ:St)(H:Hp):Prop where
 len:env.length=σ.length
 pl:∀(i:Nat)(d:PyData),env[i]?=some (.pl d)->∃v,σ[i]?=some (some v)/\Rp (Offs (λa=>fx a\/own env σ a) H) d v
 ac:∀(i:Nat)(d:PyData),env[i]?=some (.ac d)->∃a,σ[i]?=some (some (.ref a))/\H0 a=none/\¬fx a/\zfm (Offs (λa=>fx a\/own env σ a) H) H a d
 inj:∀(i j:Nat)(d e:PyData)(a:Addr),env[i]?=some (.ac d)->env[j]?=some (.ac e)->σ[i]?=some (some (.ref a))->σ[j]?=some (some (.ref a))->i=j
 base:Same H0 H
 fxs:∀b,fx b->∃o,H b=some o
theorem EnvOk.grow{fx fx':Addr->Prop}{H0:Hp}{env:DEnv}{σ:St}{H H':Hp}(h:EnvOk fx H0 env σ H)(s:Same H H')(f:∀b o,H b=some o->¬fx b->¬fx' b)(g:∀b,fx' b->∃o,H' b=some o):EnvOk fx' H0 env σ H':=by
 have so:Same (Offs (λa=>fx a\/own env σ a) H) (Offs (λa=>fx' a\/own env σ a) H'):=Offs.mono s λb o e n=>λz=>z.elim (f b o e λy=>n (.inl y)) λy=>n (.inr y)
 refine⟨h.len,λi d e=>?_,λi d e=>?_,h.inj,h.base.trans s,g⟩
 ·obtain⟨v,h1,h2⟩:=h.pl i d e
  exact⟨v,h1,Rp.same so d h2⟩
 ·obtain⟨a,h1,h2,h3,h4⟩:=h.ac i d e
  obtain⟨o,ho⟩:=h4.ex
  exact⟨a,h1,h2,f a o ho h3,h4.same so λo=>s a o⟩
theorem EnvOk.up{fx:Addr->Prop}{H0:Hp}{env:DEnv}{σ:St}{H H':Hp}(h:EnvOk fx H0 env σ H)(s:Same H H'):EnvOk fx H0 env σ H':=
 h.grow s (λ_ _ _ z=>z) λb z=>let⟨o,e⟩:=h.fxs b z;⟨o,s b o e⟩
structure Val where
 d:PyData
 fr:Bool
 bs:List Nat
noncomputable def lim(fx:Addr->Prop)(env:DEnv)(σ:St)(bs:List Nat)(a:Addr):Prop:=fx a\/∃(i:Nat)(d:PyData),i∉bs/\env[i]?=some (.ac d)/\σ[i]?=some (some (.ref a))
structure ValOk(A:Addr->Prop)(H H':Hp)(r:Val)(v:V):Prop where
 rp:Rp (Offs A H') r.d v
 fr:r.fr=true->∃a,v=.ref a/\H a=none/\zfm (Offs (λb=>A b\/b=a) H') H' a r.d
theorem zlm{fx:Addr->Prop}{env:DEnv}{σ:St}{bs cs:List Nat}(h:∀i∈bs,i∈cs):∀a,lim fx env σ cs a->lim fx env σ bs a:=by
 rintro a (z|⟨i,d,h1,h2,h3⟩)
 ·exact .inl z
 ·exact .inr ⟨i,d,λq=>h1 (h i q),h2,h3⟩
theorem zln{fx:Addr->Prop}{env:DEnv}{σ:St}{bs:List Nat}:∀a,lim fx env σ bs a->fx a\/own env σ a:=by
 rintro a (z|⟨i,d,h1,h2,h3⟩)
 ·exact .inl z
 ·exact .inr ⟨i,d,h2,h3⟩
theorem zgv{fx:Addr->Prop}{env:DEnv}{σ:St}:∀a,fx a\/own env σ a->lim fx env σ [] a:=by
 rintro a (z|⟨i,d,h2,h3⟩)
 ·exact .inl z
 ·exact .inr ⟨i,d,by simp,h2,h3⟩
theorem EnvOk.lims{fx:Addr->Prop}{H0:Hp}{env:DEnv}{σ:St}{H:Hp}(h:EnvOk fx H0 env σ H)(bs:List Nat):∀b,lim fx env σ bs b->∃o,H b=some o:=by
 rintro b (z|⟨i,d,h1,h2,h3⟩)
 ·exact h.fxs b z
 ·obtain⟨a,g1,g2,g3,g4⟩:=h.ac i d h2
  rw[h3]at g1
  cases g1
  exact g4.ex
theorem ValOk.later{A B:Addr->Prop}{H0 H H' H'':Hp}{r:Val}{v:V}(h:ValOk A H H' r v)(s0:Same H0 H)(s:Same H' H'')(hB:∀b,B b->A b):ValOk B H0 H'' r v:=by
 refine⟨Rp.same (Offs.mono s λb _ _ n z=>n (hB b z)) _ h.rp,λe=>?_⟩
 obtain⟨a,h1,h2,h3⟩:=h.fr e
 exact⟨a,h1,s0.free h2,h3.same (Offs.mono s λb _ _ n z=>n (z.elim (λy=>.inl (hB b y)) .inr)) λo=>s a o⟩
noncomputable def zef:PyData->Bool
 | .list _=>false
 | .tuple _=>false
 | .dict _=>false
 | _=>true
theorem zio{H H':Hp}{d:PyData}{v:V}(f:zef d=true)(h:Rp H d v):Rp H' d v:=by
 cases d<;>first
  | (unfold Rp at h ⊢;exact h)
  | cases f
noncomputable def bsOf(d:PyData)(bs:List Nat):List Nat:=if zef d=true then[]else bs
theorem zlo{fx:Addr->Prop}{env:DEnv}{σ:St}{bs:List Nat}{H:Hp}{d:PyData}{v:V}(h:Rp (Offs (lim fx env σ bs) H) d v):Rp (Offs (lim fx env σ (bsOf d bs)) H) d v:=by
 unfold bsOf
 split
 ·rename_i e;exact zio e h
 ·exact h
noncomputable abbrev EF:=DEnv->Option Val
noncomputable def SE(te:TE)(f:EF):Prop:=∀(fx:Addr->Prop)(H0:Hp)(env:DEnv)(σ:St)(H:Hp),EnvOk fx H0 env σ H->∀r,f env=some r->∀Q:VK,(∀v H',Same H H'->ValOk (lim fx env σ r.bs) H H' r v->Q v H')->te σ H Q
noncomputable abbrev TF:=DEnv->Option Bool
noncomputable def ST(tt:TT)(f:TF):Prop:=∀(fx:Addr->Prop)(H0:Hp)(env:DEnv)(σ:St)(H:Hp),EnvOk fx H0 env σ H->∀b,f env=some b->∀Q:Bool->Hp->Prop,(∀H',Same H H'->Q b H')->tt σ H Q
noncomputable abbrev AF:=DEnv->Option (List Val)
noncomputable def SA(ta:TA)(f:AF):Prop:=∀(fx:Addr->Prop)(H0:Hp)(env:DEnv)(σ:St)(H:Hp),EnvOk fx H0 env σ H->∀rs,f env=some rs->∀Q:List V->Hp->Prop,
 (∀vs H',Same H H'->Paired (λr v=>ValOk (lim fx env σ r.bs) H H' r v) rs vs->Q vs H')->ta σ H Q
section
variable{X:Cx}
noncomputable def eVar(i:Nat):EF:=λenv=>match env[i]? with
 | some (.pl d)=>some ⟨d,false,[]⟩
 | some (.ac d)=>some ⟨d,false,[i]⟩
 | _=>none
theorem zae(i:Nat):SE (tVar i) (eVar i):=by
 intro fx H0 env σ H h r hr Q q
 unfold eVar at hr
 cases e:env[i]? with
 | none=>rw[e]at hr;cases hr
 | some sl=>
  rw[e]at hr
  cases sl with
  | no=>cases hr
  | pl d=>
   cases hr
   obtain⟨v,h1,h2⟩:=h.pl i d e
   exact⟨v,h1,q v H (Same.refl _) ⟨Rp.same (Offs.sub zln) _ h2,λz=>by cases z⟩⟩
  | ac d=>
   cases hr
   obtain⟨a,h1,h2,h3,h4⟩:=h.ac i d e
   have hna:¬lim fx env σ [i] a:=by
    rintro(z|⟨j,d',g1,g2,g3⟩)
    ·exact h3 z
    ·exact g1 (qc.mpr (h.inj j i d' d a g2 e g3 h1))
   exact⟨_,h1,q _ H (Same.refl _) ⟨h4.rp (Offs.sub zln) λo z=>by rw[Offs.get hna];exact z,λz=>by cases z⟩⟩
noncomputable def eC(d:PyData):EF:=λ_=>some ⟨d,false,[]⟩
theorem se_c{d:PyData}{v:V}(h:∀H,Rp H d v):SE (tC v) (eC d):=by
 intro fx H0 env σ H _ r hr Q q
 cases hr
 exact q v H (Same.refl _) ⟨h _,λz=>by cases z⟩
noncomputable abbrev OF:=PyData->PyData->Option (PyData×Bool)
noncomputable def SO(r:R2)(f:OF):Prop:=∀(A:Addr->Prop)(H:Hp)(x y:V)(dx dy:PyData),(∀b,A b->∃o,H b=some o)->Rp (Offs A H) dx x->Rp (Offs A H) dy y->∀d fr,f dx dy=some (d,fr)->∀Q:VK,
 (∀v H',Same H H'->Rp (Offs A H') d v->(fr=true->∃a,v=.ref a/\H a=none/\zfm (Offs (λb=>A b\/b=a) H') H' a d)->Q v H')->r x y H Q
noncomputable def eOp(f:OF)(a b:EF):EF:=λenv=>(a env).bind λx=>(b env).bind λy=>(f x.d y.d).bind λz=>some ⟨z.1,z.2,bsOf z.1 (x.bs++y.bs)⟩
theorem zbd{r:R2}{f:OF}{ta tb:TE}{fa fb:EF}(ho:SO r f)(ha:SE ta fa)(hb:SE tb fb):SE (tOp r ta tb) (eOp f fa fb):=by
 intro fx H0 env σ H h rr hr Q q
 unfold eOp at hr
 obtain⟨x,ex,hr⟩:=qA.mp hr
 obtain⟨y,ey,hr⟩:=qA.mp hr
 obtain⟨⟨d,fr⟩,ez,hr⟩:=qA.mp hr
 cases hr
 refine ha fx H0 env σ H h x ex _ λv H1 s1 v1=>hb fx H0 env σ H1 (h.up s1) y ey _ λu H2 s2 v2=>?_
 have l1:∀b,lim fx env σ (x.bs++y.bs) b->lim fx env σ x.bs b:=zlm λi hi=>qAQ _ hi
 have l2:∀b,lim fx env σ (x.bs++y.bs) b->lim fx env σ y.bs b:=zlm λi hi=>qd _ hi
 refine ho (lim fx env σ (x.bs++y.bs)) H2 v u x.d y.d ((h.up (s1.trans s2)).lims _) (v1.later (Same.refl _) s2 l1).rp (v2.later (Same.refl _) (Same.refl _) l2).rp d fr ez _ λw H3 s3 rp fr3=>q w H3 ((s1.trans s2).trans s3) ⟨zlo rp,λe=>?_⟩
 obtain⟨a,g1,g2,g3⟩:=fr3 e
 refine⟨a,g1,(s1.trans s2).free g2,?_⟩
 have nf:zef d=false:=by cases d<;>first|rfl|exact g3.elim
 show zfm (Offs (λb=>lim fx env σ (bsOf d (x.bs++y.bs)) b\/b=a) H3) H3 a d
 rw[show bsOf d (x.bs++y.bs)=x.bs++y.bs by unfold bsOf;rw[if_neg (by rw[nf];decide)]]
 exact g3
end
theorem zdf{n:Nat}(h:n<=100000):n<=qQ:=qf h (by decide)
theorem zgd{n:Nat}(h:n<100000):n<qQ:=Nat.lt_trans h (by decide)
theorem zej{A:Addr->Prop}{H:Hp}(hA:∀b,A b->∃o,H b=some o){p:Addr}(hp:H p=none):¬A p:=λz=>by
 obtain⟨o,e⟩:=hA p z
 rw[hp]at e;cases e
theorem ziq{A:Addr->Prop}{H:Hp}{p:Addr}{ds:List PyData}{xs:List V}(hp:H p=none)(r:Rps (Offs A H) ds xs):zfm (Offs (λb=>A b\/b=p) (upd H p (.lst xs))) (upd H p (.lst xs)) p (.list ds):=by
 refine⟨xs,zan,Rps.same (Offs.mono (Same.new hp) λb o e n z=>?_) _ r⟩
 rcases z with z|z
 ·exact n z
 ·rw[z,hp]at e;cases e
theorem zlp{A:Addr->Prop}{H:Hp}{p:Addr}{ds:List PyData}{xs:List V}(hp:H p=none)(hA:¬A p)(r:Rps (Offs A H) ds xs):Rp (Offs A (upd H p (.lst xs))) (.list ds) (.ref p):=
 zcy (by rw[Offs.get hA];exact zan) (Rps.same (Offs.grow (Same.new hp)) _ r)
theorem zlq{A:Addr->Prop}{H:Hp}{p:Addr}{ds:List PyData}{xs:List V}(hp:H p=none)(hA:¬A p)(r:Rps (Offs A H) ds xs):Rp (Offs A (upd H p (.tup xs))) (.tuple ds) (.ref p):=
 zfl (by rw[Offs.get hA];exact zan) (Rps.same (Offs.grow (Same.new hp)) _ r)
theorem zeg{A:Addr->Prop}{H:Hp}{a:Addr}{o:HO}(h:Offs A H a=some o):H a=some o:=(Offs.of h).2
noncomputable def addD:OF
 | .int i,.int j=>some (.int (i+j),false)
 | .str a,.str b=>if a.length+b.length<=100000 then some (.str (a++b),false)else none
 | .list a,.list b=>if a.length+b.length<=100000 then some (.list (a++b),true)else none
 | .tuple a,.tuple b=>if a.isEmpty=false/\a.length+b.length<=100000 then some (.tuple (a++b),false)else none
 | _,_=>none
theorem zeh{K:qC}:SO (zafb K) addD:=by
 intro A H x y dx dy hA rx ry d fr e Q q
 unfold addD at e
 split at e
 ·cases e
  cases zcb rx;cases zcb ry
  exact q _ H (Same.refl _) zaa (λz=>by cases z)
 ·split at e
  ·rename_i hl
   cases e
   cases zes rx;cases zes ry
   exact⟨zdf hl,q _ H (Same.refl _) zat (λz=>by cases z)⟩
  ·cases e
 ·split at e
  ·rename_i hl
   cases e
   obtain⟨p,xs,rfl,hp,r1⟩:=zct rx
   obtain⟨p',ys,rfl,hp',r2⟩:=zct ry
   refine .inl ⟨p,p',xs,ys,rfl,rfl,zeg hp,zeg hp',zdf (by rw[<- r1.length,<- r2.length];exact hl),λb hb=>?_⟩
   exact q _ _ (Same.new hb) (zlp hb (zej hA hb) (r1.append r2)) λ_=>⟨b,rfl,hb,ziq hb (r1.append r2)⟩
  ·cases e
 ·split at e
  ·rename_i hl
   cases e
   obtain⟨p,xs,rfl,hp,r1⟩:=zby rx
   obtain⟨p',ys,rfl,hp',r2⟩:=zby ry
   refine .inr ⟨p,p',xs,ys,rfl,rfl,SqT.of (zeg hp),SqT.of (zeg hp'),λz=>?_,zdf (by rw[<- r1.length,<- r2.length];exact hl.2),λz=>?_,λ_ b hb=>?_⟩
   ·have h1:=r1.length
    have h0:=hl.1
    rw[z]at h1
    rw[List.isEmpty_eq_false_iff]at h0
    exact h0 (qBA.mp h1)
   ·have h2:=r2.length
    rw[z]at h2
    have:=qBA.mp h2
    subst this
    rw[qx]at q
    exact q _ H (Same.refl _) rx (λz=>by cases z)
   ·exact q _ _ (Same.new hb) (zlq hb (zej hA hb) (r1.append r2)) (λz=>by cases z)
  ·cases e
 ·cases e
noncomputable def intD(c:Int->Int->Bool)(f:Int->Int->PyData):OF
 | .int i,.int j=>if c i j=true then some (f i j,false)else none
 | _,_=>none
theorem zxr{C:Int->Int->Prop}{g:Int->Int->V}{c:Int->Int->Bool}{f:Int->Int->PyData}(hc:∀i j,c i j=true->C i j)(hf:∀H i j,Rp H (f i j) (g i j)):SO (rI C g) (intD c f):=by
 intro A H x y dx dy hA rx ry d fr e Q q
 unfold intD at e
 split at e
 ·split at e
  ·rename_i h
   cases e
   cases zcb rx;cases zcb ry
   exact⟨_,_,rfl,rfl,hc _ _ h,q _ H (Same.refl _) (hf _ _ _) (λz=>by cases z)⟩
  ·cases e
 ·cases e
theorem zpc{g:Int->Int->V}{f:Int->Int->PyData}(hf:∀H i j,Rp H (f i j) (g i j)):SO (rI0 g) (intD (λ_ _=>true) f):=by
 intro A H x y dx dy hA rx ry d fr e Q q
 unfold intD at e
 split at e
 ·split at e
  ·cases e
   cases zcb rx;cases zcb ry
   exact⟨_,_,rfl,rfl,q _ H (Same.refl _) (hf _ _ _) (λz=>by cases z)⟩
  ·cases e
 ·cases e
noncomputable def subD:OF:=intD (λ_ _=>true) λi j=>.int (i - j)
theorem zajl:SO (rI0 λi j=>.int (i - j)) subD:=zpc λ_ _ _=>zaa
noncomputable def ltD:OF:=intD (λ_ _=>true) λi j=>.bool (decide (i<j))
theorem zaff:SO (rI0 λi j=>.bl (decide (i<j))) ltD:=zpc λ_ _ _=>zce
noncomputable def gtD:OF:=intD (λ_ _=>true) λi j=>.bool (decide (j<i))
theorem zvo:SO (rI0 λi j=>.bl (decide (j<i))) gtD:=zpc λ_ _ _=>zce
noncomputable def geD:OF:=intD (λ_ _=>true) λi j=>.bool (decide (j<=i))
theorem zana:SO (rI0 λi j=>.bl (decide (j<=i))) geD:=zpc λ_ _ _=>zce
noncomputable def modD:OF:=intD (λ_ j=>decide (0<j)) λi j=>.int (i % j)
theorem zhf:SO (rI (λ_ j=>0<j) λi j=>.int (i % j)) modD:=zxr (λ_ _ h=>of_decide_eq_true h) λ_ _ _=>zaa
noncomputable def zku:OF:=intD (λ_ j=>decide (0<j/\j<1073741824)) λi j=>.int (i / j)
theorem zlr:SO (rI CDiv λi j=>.int (i / j)) zku:=zxr (λi j h=>(of_decide_eq_true h:0<j/\j<1073741824)) λ_ _ _=>zaa
noncomputable def mulD:OF
 | .int i,.int j=>if(-(2 ^ 64)<i/\i<2 ^ 64)\/(-(2 ^ 64)<j/\j<2 ^ 64)then some (.int (i * j),false)else none
 | .str z,.int n=>if z.length<=1000/\-1000<=n/\n<=1000 then some (.str (Txt.mul z n),false)else none
 | _,_=>none
theorem zij:SO zajj mulD:=by
 intro A H x y dx dy hA rx ry d fr e Q q
 unfold mulD at e
 split at e
 ·split at e
  ·rename_i h
   cases e
   cases zcb rx;cases zcb ry
   exact⟨h,q _ H (Same.refl _) zaa (λz=>by cases z)⟩
  ·cases e
 ·split at e
  ·rename_i h
   cases e
   cases zes rx;cases zcb ry
   exact⟨h.1,h.2.1,h.2.2,q _ H (Same.refl _) zat (λz=>by cases z)⟩
  ·cases e
 ·cases e
mutual
theorem znr{K:qC}{H:Hp}:∀{d:PyData}{v:V},d.canLay0=true->Rp H d v->Rep K H d v
 | .none,v,_,h=>by unfold Rp at h;unfold Rep;exact h
 | .bool b,v,_,h=>by unfold Rp at h;unfold Rep;exact h
 | .int i,v,_,h=>by unfold Rp at h;unfold Rep;exact h
 | .str x,v,_,h=>by unfold Rp at h;unfold Rep;exact h
 | .list ds,v,c,h=>by
  obtain⟨a,xs,e,h1,h2⟩:=zct h
  unfold Rep
  exact⟨a,xs,e,SqL.of h1,rps_reps (by simpa [PyData.canLay0]using c) h2⟩
 | .tuple ds,v,c,h=>by
  obtain⟨a,xs,e,h1,h2⟩:=zby h
  unfold Rep
  exact⟨a,xs,e,SqT.of h1,rps_reps (by simpa [PyData.canLay0]using c) h2⟩
 | .dict _,v,c,h=>by simp[PyData.canLay0]at c
theorem rps_reps{K:qC}{H:Hp}:∀{ds:List PyData}{vs:List V},qAe ds=true->Rps H ds vs->Reps K H ds vs
 | [],vs,_,h=>by unfold Rps at h;unfold Reps;exact h
 | d::ds,vs,c,h=>by
  unfold Rps at h
  obtain⟨v,ws,e,h1,h2⟩:=h
  have c:d.canLay0=true/\qAe ds=true:=by simpa [qAe]using c
  unfold Reps
  exact⟨v,ws,e,znr c.1 h1,rps_reps c.2 h2⟩
end
noncomputable def zabe:PyData->PyData->Bool
 | .none,.none=>true|.none,.int _=>true|.int _,.none=>true|.none,.bool _=>true|.bool _,.none=>true|.none,.str _=>true|.str _,.none=>true
 | .int _,.int _=>true|.bool _,.bool _=>true|.str _,.str _=>true
 | .int _,.str _=>true|.str _,.int _=>true|.bool _,.str _=>true|.str _,.bool _=>true
 | _,_=>false
noncomputable def eqOk(dx dy:PyData):Bool:=zabe dx dy||(qBf dx&&qBf dy)
noncomputable def eqD:OF:=λdx dy=>if eqOk dx dy=true then some (.bool (qAY dx dy),false)else none
noncomputable def neD:OF:=λdx dy=>if eqOk dx dy=true then some (.bool (!PyData.eqv dx dy),false)else none
theorem zxs{H:Hp}{dx dy:PyData}{x y:V}(s:zabe dx dy=true)(rx:Rp H dx x)(ry:Rp H dy y):scal x y=true/\decide (x=y)=qAY dx dy:=by
 cases dx<;>cases dy<;>first
  | (exact absurd (show false=true from s) qL)
  | (unfold Rp at rx ry;subst rx;subst ry;refine⟨rfl,?_⟩;first|rfl|exact zsj|exact zxa|exact zsk|simp[qAY])
theorem zqs{K:qC}:SO (λx y H Q=>rEq x y H Q\/rEqD K false x y H Q) eqD:=by
 intro A H x y dx dy hA rx ry d fr e Q q
 unfold eqD at e
 split at e
 ·rename_i h
  cases e
  cases hs:zabe dx dy with
  | true=>
   obtain⟨h1,h2⟩:=zxs hs rx ry
   exact .inl ⟨h1,by rw[h2];exact q _ H (Same.refl _) zce (λz=>by cases z)⟩
  | false=>
   unfold eqOk at h
   rw[hs,Bool.false_or,qk]at h
   have rx:=Rp.same (Offs.same A H) _ rx
   have ry:=Rp.same (Offs.same A H) _ ry
   exact .inr ⟨dx,dy,znr (qAn h.1) rx,znr (qAn h.2) ry,h.1,h.2,q _ H (Same.refl _) zce (λz=>by cases z)⟩
 ·cases e
theorem zabf{K:qC}:SO (λx y H Q=>rNe x y H Q\/rEqD K true x y H Q) neD:=by
 intro A H x y dx dy hA rx ry d fr e Q q
 unfold neD at e
 split at e
 ·rename_i h
  cases e
  cases hs:zabe dx dy with
  | true=>
   obtain⟨h1,h2⟩:=zxs hs rx ry
   exact .inl ⟨h1,by rw[h2];exact q _ H (Same.refl _) zce (λz=>by cases z)⟩
  | false=>
   unfold eqOk at h
   rw[hs,Bool.false_or,qk]at h
   have rx:=Rp.same (Offs.same A H) _ rx
   have ry:=Rp.same (Offs.same A H) _ ry
   exact .inr ⟨dx,dy,znr (qAn h.1) rx,znr (qAn h.2) ry,h.1,h.2,q _ H (Same.refl _) zce (λz=>by cases z)⟩
 ·cases e
noncomputable def zdj(ds:List PyData):Bool:=ds.all zef
theorem zadj{H:Hp}{d:PyData}{v:V}(f:zef d=true)(h:Rp H d v):zng v=true:=by
 cases d<;>first
  | (unfold Rp at h;subst h;rfl)
  | cases f
theorem zafg{H:Hp}{ds:List PyData}{vs:List V}(f:zdj ds=true)(h:Rps H ds vs):vs.all zng=true:=by
 replace h:=zcr.mp h
 induction h with
 | nil=>rfl
 | cons h _ ih=>
  unfold zdj at f
  rw[qAx,qk]at f
  rw[qAx,zadj f.1 h,ih f.2];rfl
theorem zafh{H:Hp}{d e:PyData}{v u:V}(f:zef d=true)(g:zef e=true)(h:Rp H d v)(k:Rp H e u):eqV v u=qAY d e:=by
 cases d<;>cases e<;>first
  | (unfold Rp at h k;subst h;subst k;rfl)
  | exact absurd (show false=true from f) qL
  | exact absurd (show false=true from g) qL
theorem zafi{H:Hp}{d:PyData}{v:V}(f:zef d=true)(h:Rp H d v){ds:List PyData}{vs:List V}(g:zdj ds=true)(r:Rps H ds vs):inV v vs=ds.any λe=>qAY e d:=by
 replace r:=zcr.mp r
 unfold inV
 induction r with
 | nil=>rfl
 | cons r _ ih=>
  unfold zdj at g
  rw[qAx,qk]at g
  rw[qBa,qBa,zafh g.1 f r h,ih g.2]
noncomputable def zns:PyData->Option (List PyData)
 | .list ds=>some ds
 | .tuple ds=>some ds
 | _=>none
noncomputable def inD(neg:Bool):OF:=λd c=>match zns c with
 | some ds=>if zef d=true/\zdj ds=true then some (.bool (if neg then !(ds.any λe=>qAY e d)else ds.any λe=>qAY e d),false)else none
 | none=>none
theorem zua{K:qC}{H:Hp}{c:PyData}{v:V}{ds:List PyData}(h:Rp H c v)(e:zns c=some ds):∃p xs,v=.ref p/\(SqL K H p xs\/SqT K H p xs)/\Rps H ds xs:=by
 cases c<;>first
  | cases e
  | skip
 ·obtain⟨a,xs,e,h1,h2⟩:=zct h;exact⟨a,xs,e,.inl (SqL.of h1),h2⟩
 ·obtain⟨a,xs,e,h1,h2⟩:=zby h;exact⟨a,xs,e,.inr (SqT.of h1),h2⟩
theorem zajm{K:qC}{neg:Bool}:SO (rIn K neg) (inD neg):=by
 intro A H x y dx dy hA rx ry d fr e Q q
 unfold inD at e
 split at e
 ·rename_i ds hi
  split at e
  ·rename_i h
   cases e
   have rx:=Rp.same (Offs.same A H) _ rx
   obtain⟨p,xs,rfl,hq,r⟩:=zua (K:=K) (Rp.same (Offs.same A H) _ ry) hi
   refine⟨p,xs,rfl,hq,zadj h.1 rx,zafg h.2 r,?_⟩
   rw[zafi h.1 rx h.2 r]
   refine q _ H (Same.refl _) ?_ (λz=>by cases z)
   cases neg<;>exact zce
  ·cases e
 ·cases e
noncomputable def ixD:OF
 | .str z,.int i=>if z.length<=100000 then(atI z.cps.toList i).map λc=>(.str ⟨#[c]⟩,false)else none
 | .list ds,.int i=>(atI ds i).map λd=>(d,false)
 | .tuple ds,.int i=>(atI ds i).map λd=>(d,false)
 | _,_=>none
theorem Rps.atI{H:Hp}{ds:List PyData}{vs:List V}(h:Rps H ds vs){i:Int}{d:PyData}(e:atI ds i=some d):∃v,L2.atI vs i=some v/\Rp H d v:=by
 unfold L2.atI at e ⊢
 rw[<- h.length]
 cases g:ixN ds.length i with
 | none=>rw[g]at e;cases e
 | some j=>
  rw[g]at e
  exact h.get2 e
theorem znh{K:qC}:SO (rIxU K) ixD:=by
 intro A H x y dx dy hA rx ry d fr e Q q
 unfold ixD at e
 split at e
 ·split at e
  ·rename_i z i hl
   obtain⟨c,hc,e⟩:=qE.mp e
   cases e
   cases zes rx;cases zcb ry
   exact⟨zdf hl,c,hc,q _ H (Same.refl _) zat (λz=>by cases z)⟩
  ·cases e
 ·obtain⟨c,hc,e⟩:=qE.mp e
  cases e
  obtain⟨p,xs,rfl,hp,r⟩:=zct rx
  cases zcb ry
  obtain⟨v,hv,rv⟩:=r.atI hc
  exact⟨xs,v,.inl (SqL.of (zeg hp)),hv,q _ H (Same.refl _) rv (λz=>by cases z)⟩
 ·obtain⟨c,hc,e⟩:=qE.mp e
  cases e
  obtain⟨p,xs,rfl,hp,r⟩:=zby rx
  cases zcb ry
  obtain⟨v,hv,rv⟩:=r.atI hc
  exact⟨xs,v,.inr (SqT.of (zeg hp)),hv,q _ H (Same.refl _) rv (λz=>by cases z)⟩
 ·cases e
noncomputable def zafj:List (PyData×PyData)->Key->Option PyData
 | [],_=>none
 | (k,d)::r,j=>if keyD k=some j then some d else zafj r j
theorem zvp{H:Hp}{k d:PyData}{r:List (PyData×PyData)}{ps:List (Key×V)}(h:Rpd H ((k,d)::r) ps):∃k' v vs,ps=(k',v)::vs/\keyD k=some k'/\Rp H d v/\Rpd H r vs:=by
 unfold Rpd at h;exact h
theorem Rpd.length{H:Hp}:∀{kvs:List (PyData×PyData)}{ps:List (Key×V)},Rpd H kvs ps->kvs.length=ps.length
 | [],ps,h=>by unfold Rpd at h;subst h;rfl
 | (k,d)::r,ps,h=>by
  obtain⟨k',v,vs,rfl,_,_,h3⟩:=zvp h
  rw[qo,qo,h3.length]
noncomputable def zdt(f:EF):TF:=λenv=>(f env).bind λr=>match r.d with|.bool b=>some b|_=>none
theorem st_b{te:TE}{f:EF}(h:SE te f):ST (tB te) (zdt f):=by
 intro fx H0 env σ H hE b hb Q q
 unfold zdt at hb
 obtain⟨⟨d,fr,bs⟩,e,hb⟩:=qA.mp hb
 cases d with
 | bool c=>
  have hb:some c=some b:=hb
  cases hb
  exact h fx H0 env σ H hE _ e _ λv H' s v1=>⟨_,zhl v1.rp,q H' s⟩
 | _=>cases hb
theorem st_t{te:TE}{f:EF}(h:SE te f):ST (tTest te) (zdt f):=st_b h
noncomputable def truD:PyData->Option Bool
 | .none=>some false
 | .bool b=>some b
 | .int i=>some (i != 0)
 | .str x=>if x.length<=100000 then some ((x.length:Int) != 0)else none
 | .list ds=>some (!ds.isEmpty)
 | .tuple ds=>some (!ds.isEmpty)
 | .dict ds=>some (!ds.isEmpty)
noncomputable def tTru(f:EF):TF:=λenv=>(f env).bind λr=>truD r.d
theorem zir{α β:Type}{xs:List α}{ys:List β}(h:xs.length=ys.length):xs.isEmpty=ys.isEmpty:=by
 cases xs<;>cases ys<;>simp at h<;>rfl
theorem zanb{K:qC}{H:Hp}{d:PyData}{v:V}{b:Bool}(h:Rp H d v)(e:truD d=some b):TruV K v H b:=by
 cases d with
 | none=>cases e;cases zpb h;rfl
 | bool c=>cases e;cases zhl h;rfl
 | int i=>cases e;cases zcb h;rfl
 | str x=>
  have e:(if x.length<=100000 then some ((x.length:Int) != 0)else none)=some b:=e
  split at e
  ·rename_i hl;cases e;cases zes h;exact⟨zdf hl,rfl⟩
  ·cases e
 | list ds=>cases e;obtain⟨a,xs,rfl,h1,h2⟩:=zct h;exact .inl ⟨xs,SqL.of h1,by rw[zir h2.length]⟩
 | tuple ds=>cases e;obtain⟨a,xs,rfl,h1,h2⟩:=zby h;exact .inr (.inl ⟨xs,SqT.of h1,by rw[zir h2.length]⟩)
 | dict ds=>cases e;obtain⟨a,xs,rfl,h1,h2⟩:=zpa h;exact .inr (.inr ⟨xs,h1,by rw[zir h2.length]⟩)
theorem zadk{K:qC}{te:TE}{f:EF}(h:SE te f):ST (λσ H Q=>te σ H λx H1=>∃k,TruV K x H1 k/\Q k H1) (tTru f):=by
 intro fx H0 env σ H hE b hb Q q
 unfold tTru at hb
 obtain⟨r,e,hb⟩:=qA.mp hb
 exact h fx H0 env σ H hE _ e _ λv H' s v1=>⟨b,zanb (Rp.same (Offs.same _ _) _ v1.rp) hb,q H' s⟩
noncomputable def zxt(f g:TF):TF:=λenv=>(f env).bind λb=>if b=true then g env else some false
noncomputable def tOrF(f g:TF):TF:=λenv=>(f env).bind λb=>if b=true then some true else g env
theorem zajn{t u:TT}{f g:TF}(h:ST t f)(k:ST u g):ST (tAnd t u) (zxt f g):=by
 intro fx H0 env σ H hE b hb Q q
 unfold zxt at hb
 obtain⟨c,e,hb⟩:=qA.mp hb
 refine h fx H0 env σ H hE c e _ λH' s=>?_
 cases c with
 | true=>exact iteT (k fx H0 env σ H' (hE.up s) b hb _ λH'' s'=>q H'' (s.trans s'))
 | false=>cases hb;exact iteF (q H' s)
theorem zajo{t u:TT}{f g:TF}(h:ST t f)(k:ST u g):ST (tOr t u) (tOrF f g):=by
 intro fx H0 env σ H hE b hb Q q
 unfold tOrF at hb
 obtain⟨c,e,hb⟩:=qA.mp hb
 refine h fx H0 env σ H hE c e _ λH' s=>?_
 cases c with
 | false=>exact iteF (k fx H0 env σ H' (hE.up s) b hb _ λH'' s'=>q H'' (s.trans s'))
 | true=>cases hb;exact iteT (q H' s)
noncomputable def aNil:AF:=λ_=>some []
noncomputable def zah(a:EF)(r:AF):AF:=λenv=>(a env).bind λx=>(r env).map λxs=>x::xs
theorem zau:SA tNil aNil:=by
 intro fx H0 env σ H h rs hr Q q
 cases hr
 exact q [] H (Same.refl _) .nil
theorem zag{te:TE}{ta:TA}{f:EF}{g:AF}(h1:SE te f)(h2:SA ta g):SA (tCons te ta) (zah f g):=by
 intro fx H0 env σ H h rs hr Q q
 unfold zah at hr
 obtain⟨x,ex,hr⟩:=qA.mp hr
 obtain⟨xs,exs,rfl⟩:=qE.mp hr
 exact h1 fx H0 env σ H h x ex _ λv H1 s1 v1=>h2 fx H0 env σ H1 (h.up s1) xs exs _ λvs H2 s2 vs2=>q (v::vs) H2 (s1.trans s2)
  (.cons (v1.later (Same.refl _) s2 λ_ z=>z) (Paired.mapP vs2 λ_ _ z=>z.later s1 (Same.refl _) λ_ y=>y))
noncomputable def zcu(rs:List Val):List PyData:=rs.map (·.d)
noncomputable def bss(rs:List Val):List Nat:=rs.flatMap (·.bs)
theorem zep{fx:Addr->Prop}{env:DEnv}{σ:St}{H H':Hp}:∀{rs:List Val}{vs:List V}{cs:List Nat},(∀i∈bss rs,i∈cs)->Paired (λr v=>ValOk (lim fx env σ r.bs) H H' r v) rs vs->Rps (Offs (lim fx env σ cs) H') (zcu rs) vs
 | _,_,_,_,.nil=>zbf
 | r::rs,v::vs,cs,hc,.cons h t=>zbc (Rp.same (Offs.sub (zlm λi hi=>hc i (qBo.mpr ⟨r,qt,hi⟩))) _ h.rp)
   (zep (λi hi=>hc i (by obtain⟨x,h1,h2⟩:=qBo.mp hi;exact qBo.mpr ⟨x,qK _ h1,h2⟩)) t)
noncomputable def eTup(f:AF):EF:=λenv=>(f env).bind λrs=>if rs.length<=100000 then some ⟨.tuple (zcu rs),false,bss rs⟩else none
noncomputable def eLst(f:AF):EF:=λenv=>(f env).bind λrs=>if rs.length<=100000 then some ⟨.list (zcu rs),true,bss rs⟩else none
theorem zet(rs:List Val):(zcu rs).length=rs.length:=by unfold zcu;rw[qD]
theorem zkm{ta:TA}{f:AF}(ha:SA ta f):SE (tTup ta) (eTup f):=by
 intro fx H0 env σ H h rr hr Q q
 unfold eTup at hr
 obtain⟨rs,er,hr⟩:=qA.mp hr
 split at hr
 ·rename_i hl
  cases hr
  refine ha fx H0 env σ H h rs er _ λvs H1 s1 v1=>?_
  have r:=zep (λi hi=>hi) v1
  have hA:=(h.up s1).lims (bss rs)
  refine⟨zdf (by rw[<- r.length,zet];exact hl),λp hp=>q _ _ (s1.trans (Same.new hp)) ⟨zlq hp (zej hA hp) r,λz=>by cases z⟩⟩
 ·cases hr
theorem zeu{ta:TA}{f:AF}(ha:SA ta f):SE (tLst ta) (eLst f):=by
 intro fx H0 env σ H h rr hr Q q
 unfold eLst at hr
 obtain⟨rs,er,hr⟩:=qA.mp hr
 split at hr
 ·rename_i hl
  cases hr
  refine ha fx H0 env σ H h rs er _ λvs H1 s1 v1=>?_
  have r:=zep (λi hi=>hi) v1
  have hA:=(h.up s1).lims (bss rs)
  refine⟨zdf (by rw[<- r.length,zet];exact hl),λp hp=>q _ _ (s1.trans (Same.new hp)) ⟨zlp hp (zej hA hp) r,λ_=>⟨p,rfl,s1.free hp,ziq hp r⟩⟩⟩
 ·cases hr
noncomputable abbrev GF:=List PyData->Option (PyData×Bool)
noncomputable def SC(r:List V->Hp->VK->Prop)(g:GF):Prop:=∀(A:Addr->Prop)(H:Hp)(vs:List V)(ds:List PyData),(∀b,A b->∃o,H b=some o)->Rps (Offs A H) ds vs->∀d fr,g ds=some (d,fr)->∀Q:VK,
 (∀v H',Same H H'->Rp (Offs A H') d v->(fr=true->∃a,v=.ref a/\H a=none/\zfm (Offs (λb=>A b\/b=a) H') H' a d)->Q v H')->r vs H Q
noncomputable def eCB(g:GF)(f:AF):EF:=λenv=>(f env).bind λrs=>(g (zcu rs)).bind λz=>some ⟨z.1,z.2,bsOf z.1 (bss rs)⟩
theorem zdk{r:List V->Hp->VK->Prop}{g:GF}{ta:TA}{f:AF}(hc:SC r g)(ha:SA ta f):SE (tCB r ta) (eCB g f):=by
 intro fx H0 env σ H h rr hr Q q
 unfold eCB at hr
 obtain⟨rs,er,hr⟩:=qA.mp hr
 obtain⟨⟨d,fr⟩,ez,hr⟩:=qA.mp hr
 cases hr
 refine ha fx H0 env σ H h rs er _ λvs H1 s1 v1=>hc (lim fx env σ (bss rs)) H1 vs (zcu rs) ((h.up s1).lims _) (zep (λi hi=>hi) v1) d fr ez _ λw H3 s3 rp fr3=>q w H3 (s1.trans s3) ⟨zlo rp,λe=>?_⟩
 obtain⟨a,g1,g2,g3⟩:=fr3 e
 refine⟨a,g1,s1.free g2,?_⟩
 have nf:zef d=false:=by cases d<;>first|rfl|exact g3.elim
 show zfm (Offs (λb=>lim fx env σ (bsOf d (bss rs)) b\/b=a) H3) H3 a d
 rw[show bsOf d (bss rs)=bss rs by unfold bsOf;rw[if_neg (by rw[nf];decide)]]
 exact g3
theorem rps1{H:Hp}{d:PyData}{vs:List V}(h:Rps H [d] vs):∃v,vs=[v]/\Rp H d v:=by
 unfold Rps at h
 obtain⟨v,ws,rfl,h1,h2⟩:=h
 unfold Rps at h2
 subst h2
 exact⟨v,rfl,h1⟩
theorem rps2{H:Hp}{d e:PyData}{vs:List V}(h:Rps H [d,e] vs):∃v u,vs=[v,u]/\Rp H d v/\Rp H e u:=by
 unfold Rps at h
 obtain⟨v,ws,rfl,h1,h2⟩:=h
 obtain⟨u,rfl,h3⟩:=rps1 h2
 exact⟨v,u,rfl,h1,h3⟩
noncomputable def lenD:GF
 | [.str x]=>if x.length<=100000 then some (.int x.length,false)else none
 | [.list ds]=>some (.int ds.length,false)
 | [.tuple ds]=>some (.int ds.length,false)
 | _=>none
theorem zhg{K:qC}:SC (λxs H Q=>∃x n,xs=[x]/\LenV K x H n/\Q (.int n) H) lenD:=by
 intro A H vs ds hA rv d fr e Q q
 unfold lenD at e
 split at e
 ·split at e
  ·rename_i hl
   cases e
   obtain⟨v,rfl,r⟩:=rps1 rv
   cases zes r
   exact⟨_,_,rfl,⟨zdf hl,rfl⟩,q _ H (Same.refl _) zaa (λz=>by cases z)⟩
  ·cases e
 ·cases e
  obtain⟨v,rfl,r⟩:=rps1 rv
  obtain⟨a,xs,rfl,h1,h2⟩:=zct r
  exact⟨_,_,rfl,.inl ⟨xs,SqL.of (zeg h1),rfl⟩,by rw[<- h2.length];exact q _ H (Same.refl _) zaa (λz=>by cases z)⟩
 ·cases e
  obtain⟨v,rfl,r⟩:=rps1 rv
  obtain⟨a,xs,rfl,h1,h2⟩:=zby r
  exact⟨_,_,rfl,.inr ⟨xs,SqT.of (zeg h1),rfl⟩,by rw[<- h2.length];exact q _ H (Same.refl _) zaa (λz=>by cases z)⟩
 ·cases e
noncomputable def minD:GF
 | [.int i,.int j]=>some (.int (if j<i then j else i),false)
 | _=>none
theorem zadl:SC (λxs H Q=>∃i j,xs=[.int i,.int j]/\Q (.int (if j<i then j else i)) H) minD:=by
 intro A H vs ds hA rv d fr e Q q
 unfold minD at e
 split at e
 ·cases e
  obtain⟨v,u,rfl,r1,r2⟩:=rps2 rv
  cases zcb r1;cases zcb r2
  exact⟨_,_,rfl,q _ H (Same.refl _) zaa (λz=>by cases z)⟩
 ·cases e
noncomputable def absD:GF
 | [.int i]=>some (.int (if i<0 then -i else i),false)
 | _=>none
theorem zxu:SC (λxs H Q=>∃i,xs=[.int i]/\Q (.int (if i<0 then -i else i)) H) absD:=by
 intro A H vs ds hA rv d fr e Q q
 unfold absD at e
 split at e
 ·cases e
  obtain⟨v,rfl,r1⟩:=rps1 rv
  cases zcb r1
  exact⟨_,rfl,q _ H (Same.refl _) zaa (λz=>by cases z)⟩
 ·cases e
noncomputable def zxv:GF
 | [c]=>(zns c).map λds=>(.list ds,true)
 | _=>none
theorem zxw{K:qC}:SC (λxs H Q=>∃p ys,xs=[.ref p]/\(SqL K H p ys\/SqT K H p ys)/\∀l,H l=none->Q (.ref l) (upd H l (.lst ys))) zxv:=by
 intro A H vs ds hA rv d fr e Q q
 unfold zxv at e
 split at e
 ·obtain⟨es,he,e⟩:=qE.mp e
  cases e
  obtain⟨v,rfl,r1⟩:=rps1 rv
  obtain⟨p,xs,rfl,hq,r⟩:=zua (K:=K) r1 he
  refine⟨p,xs,rfl,hq.imp (Offs.same A H).seq (SqT.same (Offs.same A H)),λl hl=>?_⟩
  exact q _ _ (Same.new hl) (zlp hl (zej hA hl) r) λ_=>⟨l,rfl,hl,ziq hl r⟩
 ·cases e
noncomputable def zxx:GF
 | [c]=>(zns c).map λds=>(.tuple ds,false)
 | _=>none
theorem zabg{K:qC}:SC (λxs H Q=>∃p ys,xs=[.ref p]/\((SqL K H p ys/\∀l,H l=none->Q (.ref l) (upd H l (.tup ys)))\/(SqT K H p ys/\Q (.ref p) H))) zxx:=by
 intro A H vs ds hA rv d fr e Q q
 unfold zxx at e
 split at e
 ·obtain⟨es,he,e⟩:=qE.mp e
  cases e
  obtain⟨v,rfl,r1⟩:=rps1 rv
  rename_i c
  cases c with
  | list ds=>
   cases he
   obtain⟨p,xs,rfl,h1,r⟩:=zct r1
   exact⟨p,xs,rfl,.inl ⟨SqL.of (zeg h1),λl hl=>q _ _ (Same.new hl) (zlq hl (zej hA hl) r) (λz=>by cases z)⟩⟩
  | tuple ds=>
   cases he
   obtain⟨p,xs,rfl,h1,r⟩:=zby r1
   exact⟨p,xs,rfl,.inr ⟨SqT.of (zeg h1),q _ H (Same.refl _) r1 (λz=>by cases z)⟩⟩
  | _=>cases he
 ·cases e
noncomputable def znt:List PyData->Option (List Bool)
 | []=>some []
 | .bool b::r=>(znt r).map λbs=>b::bs
 | _=>none
theorem zqt{H:Hp}:∀{ds:List PyData}{vs:List V}{bs:List Bool},Rps H ds vs->znt ds=some bs->vs=bs.map V.bl
 | [],vs,bs,h,e=>by unfold Rps at h;cases e;exact h
 | d::ds,vs,bs,h,e=>by
  unfold Rps at h
  obtain⟨v,ws,rfl,h1,h2⟩:=h
  cases d with
  | bool b=>
   obtain⟨cs,ec,rfl⟩:=qE.mp e
   rw[zhl h1,zqt h2 ec];rfl
  | _=>cases e
noncomputable def anyD(f:List Bool->Bool):GF
 | [.list ds]=>(znt ds).map λbs=>(.bool (f bs),false)
 | _=>none
theorem zajp{K:qC}{f:List Bool->Bool}:SC (rAny K f) (anyD f):=by
 intro A H vs ds hA rv d fr e Q q
 unfold anyD at e
 split at e
 ·obtain⟨bs,he,e⟩:=qE.mp e
  cases e
  obtain⟨v,rfl,r1⟩:=rps1 rv
  obtain⟨p,xs,rfl,h1,r⟩:=zct r1
  cases zqt r he
  exact⟨p,bs,rfl,SqL.of (zeg h1),q _ H (Same.refl _) zce (λz=>by cases z)⟩
 ·cases e
noncomputable def zjd:PyData->String
 | .none=>"NoneType"|.bool _=>"bool"|.int _=>"int"|.str _=>"str"|.list _=>"list"|.tuple _=>"tuple"|.dict _=>"dict"
theorem zanc{K:qC}{H:Hp}{d:PyData}{v:V}(h:Rp H d v):TyOf K H v (.type (zjd d)):=by
 cases d with
 | list ds=>obtain⟨a,xs,rfl,h1,_⟩:=zct h;exact .lst h1
 | tuple ds=>obtain⟨a,xs,rfl,h1,_⟩:=zby h;exact .tup h1
 | dict ds=>obtain⟨a,xs,rfl,h1,_⟩:=zpa h;exact .dK h1
 | none=>cases zpb h;exact .non
 | bool b=>cases zhl h;exact .bl _
 | int b=>cases zcb h;exact .int _
 | str b=>cases zes h;exact .str _
noncomputable def isiB(n:String)(d:PyData):Bool:=zjd d==n||(zjd d=="bool"&&n=="int")
noncomputable def eIsi(n:String)(a:EF):EF:=λenv=>(a env).map λx=>⟨.bool (isiB n x.d),false,[]⟩
theorem zajq{K:qC}{n:String}{te:TE}{f:EF}(h1:SE te f)(hk:∀d,PySem.W.kitOne K (.type (zjd d)) (.type n)=some (isiB n d)) :
  SE (tCB (λxs H Q=>∃x n t b,xs=[x,.ty n]/\TyOf K H x t/\PySem.W.kitOne K t (.type n)=some b/\Q (.bl b) H) (tCons te (tCons (tC (.ty n)) tNil))) (eIsi n f):=by
 intro fx H0 env σ H h rr hr Q q
 unfold eIsi at hr
 obtain⟨x,ex,rfl⟩:=qE.mp hr
 refine h1 fx H0 env σ H h _ ex _ λv H1 s1 v1=>?_
 exact⟨v,n,_,_,rfl,zanc (Rp.same (Offs.same _ _) _ v1.rp),hk _,q _ H1 s1 ⟨zce,λz=>by cases z⟩⟩
theorem zabh{K:qC}:∀d,PySem.W.kitOne K (.type (zjd d)) (.type "list")=some (isiB "list" d):=by intro d;cases d<;>rfl
noncomputable abbrev PF':=DEnv->Option (Option Int)
noncomputable def SPt(t:TO)(f:PF'):Prop:=∀(fx:Addr->Prop)(H0:Hp)(env:DEnv)(σ:St)(H:Hp),EnvOk fx H0 env σ H->∀r,f env=some r->∀Q:Option Int->Hp->Prop,(∀H',Same H H'->Q r H')->t σ H Q
noncomputable def zni:PF':=λ_=>some none
noncomputable def zls(a:EF):PF':=λenv=>(a env).bind λx=>match x.d with|.int i=>some (some i)|_=>none
theorem zsr:SPt tNoPart zni:=by
 intro fx H0 env σ H h r hr Q q
 cases hr
 exact q H (Same.refl _)
theorem zss{te:TE}{f:EF}(h1:SE te f):SPt (tPart te) (zls f):=by
 intro fx H0 env σ H h r hr Q q
 unfold zls at hr
 obtain⟨⟨d,fr,bs⟩,ex,hr⟩:=qA.mp hr
 cases d with
 | int i=>
  cases hr
  exact h1 fx H0 env σ H h _ ex _ λv H1 s1 v1=>⟨i,zcb v1.rp,q H1 s1⟩
 | _=>cases hr
noncomputable def cutD(xs:List PyData)(lo hi:Option Int):List PyData:=(xs.drop (HT.sIx xs.length 0 lo)).take (HT.sIx xs.length xs.length hi - HT.sIx xs.length 0 lo)
theorem Rps.drop{H:Hp}{ds:List PyData}{vs:List V}(h:Rps H ds vs)(n:Nat):Rps H (ds.drop n) (vs.drop n):=by
 induction n generalizing ds vs with
 | zero=>exact h
 | succ n ih=>
  cases ds with
  | nil=>unfold Rps at h;subst h;exact zbf
  | cons d ds=>unfold Rps at h;obtain⟨v,ws,rfl,h1,h2⟩:=h;exact ih h2
theorem Rps.take{H:Hp}{ds:List PyData}{vs:List V}(h:Rps H ds vs)(n:Nat):Rps H (ds.take n) (vs.take n):=by
 induction n generalizing ds vs with
 | zero=>exact zbf
 | succ n ih=>
  cases ds with
  | nil=>unfold Rps at h;subst h;exact zbf
  | cons d ds=>unfold Rps at h;obtain⟨v,ws,rfl,h1,h2⟩:=h;exact zbc h1 (ih h2)
theorem Rps.cut{H:Hp}{ds:List PyData}{vs:List V}(h:Rps H ds vs)(lo hi:Option Int):Rps H (cutD ds lo hi) (cutV vs lo hi):=by
 unfold cutD cutV
 rw[<- h.length]
 exact(h.drop _).take _
noncomputable def slD(d:PyData)(lo hi:Option Int):Option (PyData×Bool):=match d with
 | .str z=>if z.length<=100000 then some (.str (Txt.slice z lo hi),false)else none
 | .list ds=>some (.list (cutD ds lo hi),true)
 | _=>none
noncomputable def eSl(a:EF)(l h:PF'):EF:=λenv=>(a env).bind λx=>(l env).bind λlo=>(h env).bind λhi=>(slD x.d lo hi).bind λz=>some ⟨z.1,z.2,bsOf z.1 x.bs⟩
theorem zafk{K:qC}{te:TE}{tl th:TO}{f:EF}{fl fh:PF'}(h1:SE te f)(h2:SPt tl fl)(h3:SPt th fh):SE (tSl (rSlU K) te tl th) (eSl f fl fh):=by
 intro fx H0 env σ H h rr hr Q q
 unfold eSl at hr
 obtain⟨⟨d,frd,bs⟩,ex,hr⟩:=qA.mp hr
 obtain⟨lo,el,hr⟩:=qA.mp hr
 obtain⟨hi,eh,hr⟩:=qA.mp hr
 obtain⟨⟨d',fr'⟩,ez,hr⟩:=qA.mp hr
 cases hr
 refine h1 fx H0 env σ H h _ ex _ λv H1 s1 v1=>h2 fx H0 env σ H1 (h.up s1) _ el _ λH2 s2=>h3 fx H0 env σ H2 (h.up (s1.trans s2)) _ eh _ λH3 s3=>?_
 have v3:=(v1.later (Same.refl _) (s2.trans s3) λ_ z=>z).rp
 have t3:=(s1.trans s2).trans s3
 cases d with
 | str z=>
  have ez:(if z.length<=100000 then some (PyData.str (Txt.slice z lo hi),false)else none)=some (d',fr'):=ez
  split at ez
  ·rename_i hl
   cases ez
   cases zes v3
   exact⟨zdf hl,q _ H3 t3 ⟨zat,λz=>by cases z⟩⟩
  ·cases ez
 | list ds=>
  cases ez
  obtain⟨p,xs,rfl,hp,r⟩:=zct v3
  refine⟨p,xs,rfl,SqL.of (zeg hp),λl hl=>q _ _ (t3.trans (Same.new hl)) ?_⟩
  have hA:=(h.up t3).lims bs
  exact⟨zlp hl (zej hA hl) (r.cut lo hi),λ_=>⟨l,rfl,t3.free hl,ziq hl (r.cut lo hi)⟩⟩
 | _=>cases ez
noncomputable def zpd(fx:Addr->Prop)(H0:Hp)(d:PyData)(fr:Bool)(v:V)(H:Hp):Prop:=Rp (Offs fx H) d v/\(fr=true->∃a,v=.ref a/\H0 a=none/\zfm (Offs (λb=>fx b\/b=a) H) H a d)
noncomputable def spD(n:Nat)(g:GF):Sp:=λvs H Q _=>∃(fx:Addr->Prop)(ds:List PyData)(d:PyData)(fr:Bool),ds.length=n/\(∀b,fx b->∃o,H b=some o)/\Rps (Offs fx H) ds vs/\g ds=some (d,fr)/\∀v H',Same H H'->zpd fx H d fr v H'->Q v H'
inductive Out where
 | nx (env:DEnv)
 | bk (env:DEnv)
 | ct (env:DEnv)
 | rt (d:PyData) (fr:Bool)
noncomputable def Sat(fx:Addr->Prop)(H0:Hp)(D:Ends):Out->Prop
 | .nx env=>∀σ H,EnvOk fx H0 env σ H->D.nx σ H
 | .bk env=>∀σ H,EnvOk fx H0 env σ H->D.bk σ H
 | .ct env=>∀σ H,EnvOk fx H0 env σ H->D.ct σ H
 | .rt d fr=>∀v H,Same H0 H->zpd fx H0 d fr v H->D.rt v H
noncomputable abbrev SF:=DEnv->Option Out
noncomputable def SS(ts:TS)(F:SF):Prop:=∀(fx:Addr->Prop)(H0:Hp)(env:DEnv)(σ:St)(H:Hp)(D:Ends),EnvOk fx H0 env σ H->∀o,F env=some o->Sat fx H0 D o->ts D σ H
noncomputable def frz1(env:DEnv)(i:Nat):DEnv:=match env[i]? with
 | some (.ac d)=>env.set i (.pl d)
 | _=>env
noncomputable def frzs(env:DEnv)(bs:List Nat):DEnv:=bs.foldl frz1 env
theorem zabi(env:DEnv)(i:Nat):(frz1 env i).length=env.length:=by
 unfold frz1;split
 ·rw[qR]
 ·rfl
theorem zck{α:Type}{l:List α}{i j:Nat}{x y:α}(h:(l.set i x)[j]?=some y):(j=i/\y=x)\/(j≠i/\l[j]?=some y):=by
 rw[List.getElem?_set]at h
 by_cases e:i=j
 ·subst e
  rw[if_pos rfl]at h
  split at h
  ·exact .inl ⟨rfl,(qi h).symm⟩
  ·cases h
 ·rw[if_neg e]at h
  exact .inr ⟨λz=>e z.symm,h⟩
theorem zjx{env:DEnv}{i j:Nat}{d:PyData}(h:(frz1 env i)[j]?=some (.ac d)):env[j]?=some (.ac d)/\j≠i:=by
 unfold frz1 at h
 split at h
 ·rcases zck h with⟨_,e⟩|⟨e,h⟩
  ·cases e
  ·exact⟨h,e⟩
 ·rename_i hn
  refine⟨h,λe=>?_⟩
  subst e
  exact hn d h
theorem zafl{env:DEnv}{i j:Nat}{d:PyData}(h:(frz1 env i)[j]?=some (.pl d)):env[j]?=some (.pl d)\/(j=i/\env[i]?=some (.ac d)):=by
 unfold frz1 at h
 split at h
 ·rename_i d' hd
  rcases zck h with⟨e1,e⟩|⟨e,h⟩
  ·cases e;exact .inr ⟨e1,hd⟩
  ·exact .inl h
 ·exact .inl h
theorem zabj{env:DEnv}{σ:St}{i:Nat}:∀a,own (frz1 env i) σ a->own env σ a:=by
 rintro a ⟨j,d,h1,h2⟩
 exact⟨j,d,(zjx h1).1,h2⟩
theorem EnvOk.frz1{fx:Addr->Prop}{H0:Hp}{env:DEnv}{σ:St}{H:Hp}(h:EnvOk fx H0 env σ H)(i:Nat):EnvOk fx H0 (frz1 env i) σ H:=by
 have so:Same (Offs (λa=>fx a\/own env σ a) H) (Offs (λa=>fx a\/own (L2.frz1 env i) σ a) H):=Offs.sub λb z=>z.imp (λy=>y) (zabj b)
 refine⟨by rw[zabi];exact h.len,λj d e=>?_,λj d e=>?_,λj k d d' a h1 h2 h3 h4=>h.inj j k d d' a (zjx h1).1 (zjx h2).1 h3 h4,h.base,h.fxs⟩
 ·rcases zafl e with e|⟨rfl,e⟩
  ·obtain⟨v,h1,h2⟩:=h.pl j d e
   exact⟨v,h1,Rp.same so _ h2⟩
  ·obtain⟨a,h1,h2,h3,h4⟩:=h.ac j d e
   refine⟨_,h1,h4.rp so λo eo=>?_⟩
   rw[Offs.get]
   ·exact eo
   ·rintro(z|⟨k,d',z1,z2⟩)
    ·exact h3 z
    ·obtain⟨z1,z3⟩:=zjx z1
     exact z3 (h.inj k j d' d a z1 e z2 h1)
 ·obtain⟨a,h1,h2,h3,h4⟩:=h.ac j d (zjx e).1
  exact⟨a,h1,h2,h3,h4.same so λo z=>z⟩
theorem EnvOk.frzs{fx:Addr->Prop}{H0:Hp}{σ:St}{H:Hp}:∀(bs:List Nat){env:DEnv},EnvOk fx H0 env σ H->EnvOk fx H0 (frzs env bs) σ H
 | [],_,h=>h
 | i::bs,_,h=>EnvOk.frzs bs (h.frz1 i)
theorem zxy:∀{bs:List Nat}{env:DEnv}{j:Nat}{d:PyData},(frzs env bs)[j]?=some (.ac d)->env[j]?=some (.ac d)/\j∉bs
 | [],_,_,_,h=>⟨h,by simp⟩
 | i::bs,env,j,d,h=>by
  obtain⟨h1,h2⟩:=zxy (bs:=bs) h
  obtain⟨h3,h4⟩:=zjx h1
  exact⟨h3,by simp[h4,h2]⟩
theorem zgw{fx:Addr->Prop}{env:DEnv}{σ:St}{bs:List Nat}:∀a,fx a\/own (frzs env bs) σ a->lim fx env σ bs a:=by
 rintro a (z|⟨i,d,h1,h2⟩)
 ·exact .inl z
 ·obtain⟨h3,h4⟩:=zxy h1
  exact .inr ⟨i,d,h4,h3,h2⟩
theorem zst{env:DEnv}{σ:St}{i:Nat}{d:PyData}{v:V}:∀a,own (env.set i (.pl d)) (σ.set i (some v)) a->own env σ a:=by
 rintro a ⟨j,e,h1,h2⟩
 rcases zck h1 with⟨_,z⟩|⟨ne,h1⟩
 ·cases z
 ·rcases zck h2 with⟨z,_⟩|⟨_,h2⟩
  ·exact absurd z ne
  ·exact⟨j,e,h1,h2⟩
theorem EnvOk.setPl{fx:Addr->Prop}{H0:Hp}{env:DEnv}{σ:St}{H:Hp}(h:EnvOk fx H0 env σ H)(i:Nat){d:PyData}{v:V}(r:Rp (Offs (λa=>fx a\/own env σ a) H) d v):EnvOk fx H0 (env.set i (.pl d)) (σ.set i (some v)) H:=by
 have so:Same (Offs (λa=>fx a\/own env σ a) H) (Offs (λa=>fx a\/own (env.set i (.pl d)) (σ.set i (some v)) a) H):=Offs.sub λb z=>z.imp (λy=>y) (zst b)
 have kept:∀{j:Nat},j≠i->(σ.set i (some v))[j]?=σ[j]?:=λ{j} n=>qH λz=>n z.symm
 refine⟨by rw[qR,qR];exact h.len,λj e hj=>?_,λj e hj=>?_,λj k d1 d2 a h1 h2 h3 h4=>?_,h.base,h.fxs⟩
 ·rcases zck hj with⟨rfl,z⟩|⟨ne,hj'⟩
  ·cases z
   have hl:j<env.length:=by have:=(qZ.mp hj).1;rwa [qR]at this
   exact⟨v,by rw[qe (by rw[<- h.len];exact hl)],Rp.same so _ r⟩
  ·obtain⟨u,h1,h2⟩:=h.pl j e hj'
   exact⟨u,by rw[kept ne];exact h1,Rp.same so _ h2⟩
 ·rcases zck hj with⟨_,z⟩|⟨ne,hj'⟩
  ·cases z
  ·obtain⟨a,h1,h2,h3,h4⟩:=h.ac j e hj'
   exact⟨a,by rw[kept ne];exact h1,h2,h3,h4.same so λo z=>z⟩
 ·rcases zck h1 with⟨_,z⟩|⟨n1,h1⟩
  ·cases z
  rcases zck h2 with⟨_,z⟩|⟨n2,h2⟩
  ·cases z
  rw[kept n1]at h3
  rw[kept n2]at h4
  exact h.inj j k d1 d2 a h1 h2 h3 h4
theorem EnvOk.setAc {fx:Addr->Prop} {H0:Hp} {env:DEnv} {σ:St} {H:Hp} {a:Addr} (h:EnvOk (λb=>fx b\/b=a) H0 env σ H) (i:Nat) {d:PyData} (r:zfm (Offs (λb=>(fx b\/own env σ b)\/b=a) H) H a d) (h0:H0 a=none) (hf:¬fx a) :
  EnvOk fx H0 (env.set i (.ac d)) (σ.set i (some (.ref a))) H:=by
 have kept:∀{j:Nat},j≠i->(σ.set i (some (V.ref a)))[j]?=σ[j]?:=λ{j} n=>qH λz=>n z.symm
 have sub:∀b,fx b\/own (env.set i (.ac d)) (σ.set i (some (.ref a))) b->(fx b\/b=a)\/own env σ b:=by
  rintro b (z|⟨j,e,h1,h2⟩)
  ·exact .inl (.inl z)
  ·rcases zck h1 with⟨rfl,z⟩|⟨ne,h1⟩
   ·have hl:j<env.length:=by have:=(qZ.mp ‹(env.set j (.ac d))[j]?=_›).1;rwa [qR]at this
    rw[qe (by rw[<- h.len];exact hl)]at h2
    cases h2
    exact .inl (.inr rfl)
   ·rw[kept ne]at h2
    exact .inr ⟨j,e,h1,h2⟩
 have so:Same (Offs (λb=>(fx b\/b=a)\/own env σ b) H) (Offs (λb=>fx b\/own (env.set i (.ac d)) (σ.set i (some (.ref a))) b) H):=Offs.sub sub
 have so2:Same (Offs (λb=>(fx b\/own env σ b)\/b=a) H) (Offs (λb=>fx b\/own (env.set i (.ac d)) (σ.set i (some (.ref a))) b) H):=Offs.sub λb z=>by
  rcases sub b z with(y|y)|y
  ·exact .inl (.inl y)
  ·exact .inr y
  ·exact .inl (.inr y)
 refine⟨by rw[qR,qR];exact h.len,λj e hj=>?_,λj e hj=>?_,λj k d1 d2 b h1 h2 h3 h4=>?_,h.base,λb z=>h.fxs b (.inl z)⟩
 ·rcases zck hj with⟨_,z⟩|⟨ne,hj'⟩
  ·cases z
  ·obtain⟨u,h1,h2⟩:=h.pl j e hj'
   exact⟨u,by rw[kept ne];exact h1,Rp.same so _ h2⟩
 ·rcases zck hj with⟨rfl,z⟩|⟨ne,hj'⟩
  ·cases z
   have hl:j<env.length:=by have:=(qZ.mp hj).1;rwa [qR]at this
   exact⟨a,by rw[qe (by rw[<- h.len];exact hl)],h0,hf,r.same so2 λo z=>z⟩
  ·obtain⟨b,h1,h2,h3,h4⟩:=h.ac j e hj'
   exact⟨b,by rw[kept ne];exact h1,h2,λz=>h3 (.inl z),h4.same so λo z=>z⟩
 ·rcases zck h1 with⟨e1,z1⟩|⟨n1,h1'⟩<;>rcases zck h2 with⟨e2,z2⟩|⟨n2,h2'⟩
  ·rw[e1,e2]
  ·subst e1
   have hl:j<env.length:=by have:=(qZ.mp h1).1;rwa [qR]at this
   rw[qe (by rw[<- h.len];exact hl)]at h3
   rw[kept n2]at h4
   cases h3
   obtain⟨b,g1,g2,g3,g4⟩:=h.ac k d2 h2'
   rw[h4]at g1
   cases g1
   exact absurd (.inr rfl) g3
  ·subst e2
   have hl:k<env.length:=by have:=(qZ.mp h2).1;rwa [qR]at this
   rw[qe (by rw[<- h.len];exact hl)]at h4
   rw[kept n1]at h3
   cases h4
   obtain⟨b,g1,g2,g3,g4⟩:=h.ac j d1 h1'
   rw[h3]at g1
   cases g1
   exact absurd (.inr rfl) g3
  ·rw[kept n1]at h3
   rw[kept n2]at h4
   exact h.inj j k d1 d2 b h1' h2' h3 h4
noncomputable def slOf(r:Val):Sl:=if r.fr=true then .ac r.d else .pl r.d
noncomputable def putV(env:DEnv)(i:Nat)(r:Val):DEnv:=(frzs env r.bs).set i (slOf r)
theorem EnvOk.put{fx:Addr->Prop}{H0:Hp}{env:DEnv}{σ:St}{H H':Hp}(h:EnvOk fx H0 env σ H)(s:Same H H'){r:Val}{v:V}(hv:ValOk (lim fx env σ r.bs) H H' r v)(i:Nat):EnvOk fx H0 (putV env i r) (σ.set i (some v)) H':=by
 unfold putV slOf
 cases e:r.fr with
 | false=>
  rw[if_neg qL]
  exact((h.up s).frzs r.bs).setPl i (Rp.same (Offs.sub zgw) _ hv.rp)
 | true=>
  rw[if_pos rfl]
  obtain⟨a,rfl,ha,hacc⟩:=hv.fr e
  have nfx:¬fx a:=zej h.fxs ha
  have g:EnvOk (λb=>fx b\/b=a) H0 env σ H':=h.grow s (λb o eo n z=>z.elim n λy=>by rw[y,ha]at eo;cases eo) λb z=>by
   rcases z with z|z
   ·obtain⟨o,eo⟩:=h.fxs b z;exact⟨o,s b o eo⟩
   ·rw[z];exact hacc.ex
  refine(g.frzs r.bs).setAc i (hacc.same (Offs.sub λb z=>?_) λo z=>z) (h.base.free ha) nfx
  rcases z with z|z
  ·exact .inl (zgw b z)
  ·exact .inr z
noncomputable def sNil:SF:=λenv=>some (.nx env)
noncomputable def sSeq(f g:SF):SF:=λenv=>(f env).bind λo=>match o with
 | .nx env'=>g env'
 | o=>some o
theorem zadm:SS tNext sNil:=by
 intro fx H0 env σ H D h o e q
 cases e
 exact q σ H h
theorem zadn{t u:TS}{f g:SF}(h1:SS t f)(h2:SS u g):SS (tSeq t u) (sSeq f g):=by
 intro fx H0 env σ H D h o e q
 unfold sSeq at e
 obtain⟨o1,e1,e⟩:=qA.mp e
 refine h1 fx H0 env σ H _ h o1 e1 ?_
 cases o1 with
 | nx env'=>exact λσ' H' h'=>h2 fx H0 env' σ' H' D h' o e q
 | bk env'=>cases e;exact q
 | ct env'=>cases e;exact q
 | rt d fr=>cases e;exact q
noncomputable def sRet(f:EF):SF:=λenv=>(f env).map λr=>.rt r.d r.fr
theorem zub{te:TE}{f:EF}(h1:SE te f):SS (tRet te) (sRet f):=by
 intro fx H0 env σ H D h o e q
 unfold sRet at e
 obtain⟨r,er,rfl⟩:=qE.mp e
 refine h1 fx H0 env σ H h r er _ λv H' s hv=>q v H' (h.base.trans s) ⟨Rp.same (Offs.sub λb z=>.inl z) _ hv.rp,λz=>?_⟩
 obtain⟨a,g1,g2,g3⟩:=hv.fr z
 exact⟨a,g1,h.base.free g2,g3.same (Offs.sub λb y=>y.imp .inl id) λo z=>z⟩
noncomputable def zjy(i:Nat):SF:=λenv=>match env[i]? with
 | some (.pl d)=>some (.rt d false)
 | some (.ac d)=>some (.rt d true)
 | _=>none
theorem zafm{i:Nat}:SS (tRet (tVar i)) (zjy i):=by
 intro fx H0 env σ H D h o e q
 unfold zjy at e
 cases ei:env[i]? with
 | none=>rw[ei]at e;cases e
 | some sl=>
  rw[ei]at e
  cases sl with
  | no=>cases e
  | pl d=>
   cases e
   obtain⟨v,h1,h2⟩:=h.pl i d ei
   exact⟨v,h1,q v H h.base ⟨Rp.same (Offs.sub λb z=>.inl z) _ h2,λz=>by cases z⟩⟩
  | ac d=>
   cases e
   obtain⟨a,h1,h2,h3,h4⟩:=h.ac i d ei
   refine⟨_,h1,q _ H h.base ⟨h4.rp (Offs.sub λb z=>.inl z) λo eo=>by rw[Offs.get h3];exact eo,λ_=>⟨a,rfl,h2,h4.same (Offs.sub λb z=>?_) λo z=>z⟩⟩⟩
   rcases z with z|z
   ·exact .inl z
   ·rw[z];exact .inr ⟨i,d,ei,h1⟩
noncomputable def sIf(c:TF)(f g:SF):SF:=λenv=>(c env).bind λb=>if b=true then f env else g env
theorem zajr{tc:TT}{t u:TS}{c:TF}{f g:SF}(hc:ST tc c)(h1:SS t f)(h2:SS u g):SS (tIfS tc t u) (sIf c f g):=by
 intro fx H0 env σ H D h o e q
 unfold sIf at e
 obtain⟨b,eb,e⟩:=qA.mp e
 refine hc fx H0 env σ H h b eb _ λH' s=>?_
 cases b with
 | true=>exact iteT (h1 fx H0 env σ H' D (h.up s) o e q)
 | false=>exact iteF (h2 fx H0 env σ H' D (h.up s) o e q)
noncomputable abbrev GT:=PyData->DEnv->Option DEnv
noncomputable def SG(g:TG)(f:GT):Prop:=∀(fx:Addr->Prop)(H0:Hp)(env:DEnv)(σ:St)(H:Hp)(d:PyData)(v:V),EnvOk fx H0 env σ H->Rp (Offs (λa=>fx a\/own env σ a) H) d v->∀env',f d env=some env'->∀Q:St->Hp->Prop,
 (∀σ',EnvOk fx H0 env' σ' H->Q σ' H)->g v σ H Q
noncomputable abbrev GTs:=List PyData->DEnv->Option DEnv
noncomputable def SGs(g:TGs)(f:GTs):Prop:=∀(fx:Addr->Prop)(H0:Hp)(env:DEnv)(σ:St)(H:Hp)(ds:List PyData)(vs:List V),EnvOk fx H0 env σ H->Rps (Offs (λa=>fx a\/own env σ a) H) ds vs->∀env',f ds env=some env'->∀Q:St->Hp->Prop,
 (∀σ',EnvOk fx H0 env' σ' H->Q σ' H)->g vs σ H Q
noncomputable def gN(i:Nat):GT:=λd env=>some (env.set i (.pl d))
theorem zjz{i:Nat}:SG (gName i) (gN i):=by
 intro fx H0 env σ H d v h r env' e Q q
 cases e
 exact q _ (h.setPl i r)
noncomputable def zdu:GTs:=λds env=>match ds with|[]=>some env|_=>none
noncomputable def zav(i:Nat)(g:GTs):GTs:=λds env=>match ds with|d::r=>g r (env.set i (.pl d))|[]=>none
theorem zfn:SGs gNil zdu:=by
 intro fx H0 env σ H ds vs h r env' e Q q
 cases ds with
 | nil=>cases e;unfold Rps at r;exact⟨r,q _ h⟩
 | cons _ _=>cases e
theorem zbe{i:Nat}{t:TGs}{g:GTs}(h1:SGs t g):SGs (gCons (gName i) t) (zav i g):=by
 intro fx H0 env σ H ds vs h r env' e Q q
 cases ds with
 | nil=>cases e
 | cons d ds=>
  unfold Rps at r
  obtain⟨v,ws,rfl,r1,r2⟩:=r
  refine⟨v,ws,rfl,h1 fx H0 (env.set i (.pl d)) _ H ds ws (h.setPl i r1) (Rps.same (Offs.sub λb z=>z.imp (λy=>y) (zst b)) _ r2) env' e Q q⟩
noncomputable def gT(n:Nat)(g:GTs):GT:=λd env=>match d with|.tuple ds=>if ds.length=n then g ds env else none|_=>none
theorem zhm{K:qC}{n:Nat}{t:TGs}{g:GTs}(h1:SGs t g):SG (gTup K n t) (gT n g):=by
 intro fx H0 env σ H d v h r env' e Q q
 unfold gT at e
 cases d with
 | tuple ds=>
  have e:(if ds.length=n then g ds env else none)=some env':=e
  split at e
  ·rename_i hn
   obtain⟨a,xs,rfl,ha,rs⟩:=zby r
   exact⟨a,xs,rfl,SqT.of (zeg ha),by rw[<- rs.length];exact hn,h1 fx H0 env σ H ds xs h rs env' e Q q⟩
  ·cases e
 | _=>cases e
noncomputable def sAsg(f:EF)(g:GT):SF:=λenv=>(f env).bind λr=>(g r.d (frzs env r.bs)).map .nx
theorem zajs{te:TE}{f:EF}{g:TG}{gf:GT}(h1:SE te f)(h2:SG g gf):SS (tAsg te g) (sAsg f gf):=by
 intro fx H0 env σ H D h o e q
 unfold sAsg at e
 obtain⟨r,er,e⟩:=qA.mp e
 obtain⟨env',e',rfl⟩:=qE.mp e
 exact h1 fx H0 env σ H h r er _ λv H' s hv=>h2 fx H0 _ σ H' r.d v ((h.up s).frzs r.bs) (Rp.same (Offs.sub zgw) _ hv.rp) env' e' _ λσ' h'=>q σ' H' h'
theorem EnvOk.mut{fx:Addr->Prop}{H0:Hp}{env:DEnv}{σ:St}{H:Hp}(h:EnvOk fx H0 env σ H){i:Nat}{d d':PyData}{a:Addr}{o:HO}(e:env[i]?=some (.ac d))(ea:σ[i]?=some (some (.ref a)))
  (r:zfm (Offs (λb=>fx b\/own env σ b) H) (upd H a o) a d'):EnvOk fx H0 (env.set i (.ac d')) σ (upd H a o):=by
 have hl:i<env.length:=(qZ.mp e).1
 have oa:own env σ a:=⟨i,d,e,ea⟩
 have ow:∀b,own (env.set i (.ac d')) σ b↔own env σ b:=by
  intro b
  constructor
  ·rintro⟨j,d1,h1,h2⟩
   rcases zck h1 with⟨rfl,z⟩|⟨ne,h1⟩
   ·exact⟨j,d,e,h2⟩
   ·exact⟨j,d1,h1,h2⟩
  ·rintro⟨j,d1,h1,h2⟩
   by_cases hj:j=i
   ·subst hj;exact⟨j,d',by rw[qe hl],h2⟩
   ·exact⟨j,d1,by rw[qH λz=>hj z.symm];exact h1,h2⟩
 have so:Same (Offs (λb=>fx b\/own env σ b) H) (Offs (λb=>fx b\/own (env.set i (.ac d')) σ b) (upd H a o)):=by
  have:Same (Offs (λb=>fx b\/own env σ b) (upd H a o)) (Offs (λb=>fx b\/own (env.set i (.ac d')) σ b) (upd H a o)):=Offs.sub λb z=>z.imp (λy=>y) (ow b).mp
  rw[Offs.upd (.inr oa)]at this
  exact this
 obtain⟨a',g1,g2,g3,g4⟩:=h.ac i d e
 rw[ea]at g1
 cases g1
 refine⟨by rw[qR];exact h.len,λj d1 hj=>?_,λj d1 hj=>?_,λj k d1 d2 b h1 h2 h3 h4=>?_,λb u eb=>by rw[zar (zcx eb g2)];exact h.base b u eb,λb z=>?_⟩
 ·rcases zck hj with⟨_,z⟩|⟨ne,hj'⟩
  ·cases z
  ·obtain⟨u,h1,h2⟩:=h.pl j d1 hj'
   exact⟨u,h1,Rp.same so _ h2⟩
 ·rcases zck hj with⟨rfl,z⟩|⟨ne,hj'⟩
  ·cases z
   exact⟨a,ea,g2,g3,r.same so λo z=>z⟩
  ·obtain⟨b,h1,h2,h3,h4⟩:=h.ac j d1 hj'
   refine⟨b,h1,h2,h3,h4.same so λo' z=>?_⟩
   rw[zar λy=>ne (h.inj j i d1 d a hj' e (by rw[<- y];exact h1) ea)]
   exact z
 ·have f:∀{j:Nat}{d1:PyData},(env.set i (.ac d'))[j]?=some (.ac d1)->∃d2,env[j]?=some (.ac d2):=λ{j d1} hj=>by
   rcases zck hj with⟨rfl,z⟩|⟨ne,hj'⟩
   ·exact⟨d,e⟩
   ·exact⟨d1,hj'⟩
  obtain⟨e1,h1⟩:=f h1
  obtain⟨e2,h2⟩:=f h2
  exact h.inj j k e1 e2 b h1 h2 h3 h4
 ·obtain⟨u,eu⟩:=h.fxs b z
  exact⟨u,by rw[zar λy=>g3 (by rw[<- y];exact z)];exact eu⟩
theorem zkx{env:DEnv}{i:Nat}{d:PyData}:∀{bs:List Nat},i∉bs->env[i]?=some (.ac d)->(frzs env bs)[i]?=some (.ac d):=by
 intro bs
 induction bs generalizing env with
 | nil=>intro _ e;exact e
 | cons j bs ih=>
  intro hn e
  have hj:i≠j:=λz=>hn (by simp[z])
  refine ih (λz=>hn (qK _ z)) ?_
  unfold frz1
  split
  ·rw[qH λz=>hj z.symm];exact e
  ·exact e
theorem EnvOk.rebase{fx:Addr->Prop}{H0:Hp}{env:DEnv}{σ:St}{H:Hp}(h:EnvOk fx H0 env σ H):EnvOk fx (Offs (own env σ) H) env σ H:=by
 refine⟨h.len,h.pl,λi d e=>?_,h.inj,Offs.same _ _,h.fxs⟩
 obtain⟨a,h1,h2,h3,h4⟩:=h.ac i d e
 exact⟨a,h1,Offs.out ⟨i,d,e,h1⟩,h3,h4⟩
theorem EnvOk.floor{fx:Addr->Prop}{H0:Hp}{env:DEnv}{σ:St}{H:Hp}(h:EnvOk fx H0 env σ H):Same H0 (Offs (own env σ) H):=λb o e=>by
 rw[Offs.get]
 ·exact h.base b o e
 ·rintro⟨i,d,h1,h2⟩
  obtain⟨a,g1,g2,_⟩:=h.ac i d h1
  rw[h2]at g1
  cases g1
  rw[g2]at e
  cases e
theorem EnvOk.unbase{fx:Addr->Prop}{H0 F:Hp}{env:DEnv}{σ:St}{H:Hp}(h:EnvOk fx F env σ H)(s:Same H0 F):EnvOk fx H0 env σ H:=by
 refine⟨h.len,h.pl,λi d e=>?_,h.inj,s.trans h.base,h.fxs⟩
 obtain⟨a,h1,h2,h3,h4⟩:=h.ac i d e
 exact⟨a,h1,s.free h2,h3,h4⟩
theorem zpd.unbase{fx:Addr->Prop}{H0 F:Hp}{d:PyData}{fr:Bool}{v:V}{H:Hp}(h:zpd fx F d fr v H)(s:Same H0 F):zpd fx H0 d fr v H:=
 ⟨h.1,λe=>let⟨a,h1,h2,h3⟩:=h.2 e;⟨a,h1,s.free h2,h3⟩⟩
theorem EnvOk.seen{fx:Addr->Prop}{env env':DEnv}{σ σ':St}{H H':Hp}(h:EnvOk fx (Offs (own env σ) H) env' σ' H'):Same (Offs (λb=>fx b\/own env σ b) H) (Offs (λb=>fx b\/own env' σ' b) H'):=λb o e=>by
 obtain⟨h1,h2⟩:=Offs.of e
 have hF:Offs (own env σ) H b=some o:=by rw[Offs.get λz=>h1 (.inr z)];exact h2
 rw[Offs.get]
 ·exact h.base b o hF
 ·rintro(z|⟨i,d,g1,g2⟩)
  ·exact h1 (.inl z)
  ·obtain⟨a,k1,k2,_⟩:=h.ac i d g1
   rw[g2]at k1
   cases k1
   rw[k2]at hF
   cases hF
theorem EnvOk.all{fx:Addr->Prop}{H0:Hp}{env:DEnv}{σ:St}{H:Hp}(h:EnvOk fx H0 env σ H):∀b,fx b\/own env σ b->∃o,H b=some o:=λb z=>h.lims [] b (zgv b z)
noncomputable def Yl(A0:Addr->Prop)(H1:Hp)(J:It)(ds:List PyData):Prop:=∀(A:Addr->Prop)(H':Hp),(∀b,A b->∃o,H' b=some o)->Same (Offs A0 H1) (Offs A H')->
 (∀i d,ds[i]?=some d->J.go i H'/\∀x H'',J.yld i H' x H''->Same H' H''/\Rp (Offs A H'') d x)/\J.stop ds.length H'
noncomputable abbrev IF':=DEnv->Option (List PyData×List Nat)
noncomputable def SI(wi:TI)(f:IF'):Prop:=∀(fx:Addr->Prop)(H0:Hp)(env:DEnv)(σ:St)(H:Hp),EnvOk fx H0 env σ H->∀ds bs,f env=some (ds,bs)->∀R:It->Hp->Prop,
 (∀J H1,Same H H1->Yl (λb=>fx b\/own (frzs env bs) σ b) H1 J ds->R J H1)->wi σ H R
noncomputable def iSeq(K:qC)(te:TE):TI:=λσ H R=>te σ H λx H1=>∃a,x=.ref a/\((∃xs,SqL K H1 a xs)/\R (Itl K a) H1\/(∃xs,SqT K H1 a xs)/\R (Itt K a) H1)
theorem zajt{X:Cx}{tg l:Expr}{tl:TE}(hl:PE X l tl):PI X tg l (iSeq X.K tl):=by
 intro pins s σ H R I h
 refine thn (hl pins s σ H _ I h) λv s1 ⟨x,H1,I1,r1,q1⟩=>?_
 obtain⟨a,e,q⟩:=q1
 subst e
 cases r1
 rcases q with⟨⟨xs,hq⟩,q⟩|⟨⟨xs,hq⟩,q⟩
 ·obtain⟨its,rv,p,hz⟩:=I1.list hq
  refine wpAny_pyIter_list p.isList ?_
  refine⟨s1.heap.objs.size,[s1.heap.objs.size],_,_,H1,rfl,I1.kept (t':=s1.toks) λb o e=>qI _ e,zww a _,⟨_,qAN _ rfl,rfl,rfl⟩,λb hb=>?_,q⟩
  have e:b=s1.heap.objs.size:=by simpa using hb
  subst e
  exact I1.fpOk (qJ _) (I1.hok.fresh (qJ _))
 ·obtain⟨its,rv,p,hz⟩:=I1.tuple hq
  refine wpAny_pyIter_tuple (show s1.heap.IsTuple a its.toArray from p) ?_
  refine⟨s1.heap.objs.size,[s1.heap.objs.size],_,_,H1,rfl,I1.kept (t':=s1.toks) λb o e=>qI _ e,zvb a _,⟨_,qAN _ rfl,rfl,rfl⟩,λb hb=>?_,q⟩
  have e:b=s1.heap.objs.size:=by simpa using hb
  subst e
  exact I1.fpOk (qJ _) (I1.hok.fresh (qJ _))
theorem zafn{X:Cx}{K:qC}(hK:X.K=K){tg l:Expr}{tl:TE}(hl:PE X l tl):PI X tg l (iSeq K tl):=by subst hK;exact zajt hl
noncomputable def zbq(f:EF):IF':=λenv=>(f env).bind λr=>(zns r.d).map λds=>(ds,r.bs)
theorem zafo{K:qC}{A0:Addr->Prop}{H1:Hp}{a:Addr}{ds:List PyData}{xs:List V}(h:Offs A0 H1 a=some (.lst xs))(r:Rps (Offs A0 H1) ds xs):Yl A0 H1 (Itl K a) ds:=by
 intro A H' hA s
 have ha:=zeg (s _ _ h)
 have r':=Rps.same s _ r
 refine⟨λi d e=>?_,⟨xs,SqL.of ha,by rw[r.length];exact qJ _⟩⟩
 obtain⟨v,hv,rv⟩:=r'.get2 e
 refine⟨⟨xs,v,SqL.of ha,hv⟩,λx H'' y=>?_⟩
 obtain⟨rfl,y⟩:=y
 have:=y xs (SqL.of ha)
 rw[hv]at this
 cases this
 exact⟨Same.refl _,rv⟩
theorem zaju{K:qC}{A0:Addr->Prop}{H1:Hp}{a:Addr}{ds:List PyData}{xs:List V}(h:Offs A0 H1 a=some (.tup xs))(r:Rps (Offs A0 H1) ds xs):Yl A0 H1 (Itt K a) ds:=by
 intro A H' hA s
 have ha:=zeg (s _ _ h)
 have r':=Rps.same s _ r
 refine⟨λi d e=>?_,⟨xs,SqT.of ha,by rw[r.length];exact qJ _⟩⟩
 obtain⟨v,hv,rv⟩:=r'.get2 e
 refine⟨⟨xs,v,SqT.of ha,hv⟩,λx H'' y=>?_⟩
 obtain⟨rfl,y⟩:=y
 have:=y xs (SqT.of ha)
 rw[hv]at this
 cases this
 exact⟨Same.refl _,rv⟩
theorem zei{K:qC}{te:TE}{f:EF}(h1:SE te f):SI (iSeq K te) (zbq f):=by
 intro fx H0 env σ H h ds bs e R q
 unfold zbq at e
 obtain⟨⟨d,fr,bs'⟩,er,e⟩:=qA.mp e
 obtain⟨es,he,e⟩:=qE.mp e
 cases e
 refine h1 fx H0 env σ H h _ er _ λv H1 s hv=>?_
 have rp:=Rp.same (Offs.sub (zgw (bs:=bs'))) _ hv.rp
 cases d with
 | list ds=>
  cases he
  obtain⟨a,xs,rfl,ha,r⟩:=zct rp
  exact⟨a,rfl,.inl ⟨⟨xs,SqL.of (zeg ha)⟩,q _ H1 s (zafo ha r)⟩⟩
 | tuple ds=>
  cases he
  obtain⟨a,xs,rfl,ha,r⟩:=zby rp
  exact⟨a,rfl,.inr ⟨⟨xs,SqT.of (zeg ha)⟩,q _ H1 s (zaju ha r)⟩⟩
 | _=>cases he
noncomputable def zand(ds:List PyData):List PyData:=ds.zipIdx.map λp=>.tuple [.int p.2,p.1]
noncomputable def zaoh(f:AF):IF':=λenv=>(f env).bind λrs=>match rs with
 | [r]=>match r.d with
  | .list ds=>some (zand ds,r.bs)
  | _=>none
 | _=>none
noncomputable def zlt(lo:Int)(n:Nat):List PyData:=(List.range n).map λ(k:Nat)=>.int (lo+(k:Int))
theorem zabk{A0:Addr->Prop}{H1:Hp}{lo:Int}{n:Nat}:Yl A0 H1 (Itr lo n) (zlt lo n):=by
 intro A H' hA s
 have hl:(zlt lo n).length=n:=by unfold zlt;simp
 refine⟨λi d e=>?_,by rw[hl];exact qJ _⟩
 unfold zlt at e
 rw[qa]at e
 by_cases hi:i<n
 ·rw[List.getElem?_range hi]at e
  cases e
  exact⟨hi,λx H'' ⟨e1,e2⟩=>by subst e1;subst e2;exact⟨Same.refl _,zaa⟩⟩
 ·rw[List.getElem?_eq_none (by simpa using hi)]at e
  cases e
noncomputable def zcl(f:AF):IF':=λenv=>(f env).bind λrs=>match rs with
 | [⟨.int j,_,_⟩]=>if -(2 ^ 62)<=j/\j<2 ^ 62 then some (zlt 0 j.toNat,[])else none
 | _=>none
theorem zdv{ta:TA}{f:AF}(h1:SA ta f):SI (iRng1 ta) (zcl f):=by
 intro fx H0 env σ H h ds bs e R q
 unfold zcl at e
 obtain⟨rs,er,e⟩:=qA.mp e
 split at e
 ·split at e
  ·rename_i hj
   cases e
   refine h1 fx H0 env σ H h _ er _ λvs H1 s hv=>?_
   cases hv with
   | cons hv t=>
    cases t
    cases zcb hv.rp
    exact⟨_,rfl,hj.1,hj.2,q _ H1 s zabk⟩
  ·cases e
 ·cases e
noncomputable def forL(g:GT)(body:SF):List PyData->DEnv->Option Out
 | [],env=>some (.nx env)
 | d::ds,env=>(g d env).bind λe1=>(body e1).bind λo=>match o with
  | .nx e2=>forL g body ds e2
  | .ct e2=>forL g body ds e2
  | .bk e2=>some (.nx e2)
  | .rt d fr=>some (.rt d fr)
noncomputable def sFor(f:IF')(g:GT)(body:SF):SF:=λenv=>(f env).bind λz=>forL g body z.1 (frzs env z.2)
theorem zado{wi:TI}{g:TG}{tb:TS}{f:IF'}{gf:GT}{body:SF}(h1:SI wi f)(h2:SG g gf)(h3:SS tb body):SS (tFor wi g tb) (sFor f gf body):=by
 intro fx H0 env σ H D h o e q
 unfold sFor at e
 obtain⟨⟨ds,bs⟩,er,e⟩:=qA.mp e
 refine h1 fx H0 env σ H h ds bs er _ λJ H1 s yl=>?_
 have hE:=(h.up s).frzs bs
 have fl:=hE.floor
 refine⟨λi m σ' H'=>m=ds.length - i/\i<=ds.length/\∃env',forL gf body (ds.drop i) env'=some o/\EnvOk fx (Offs (own (frzs env bs) σ) H1) env' σ' H',⟨ds.length,rfl,qAH _,_,e,hE.rebase⟩,?_⟩
 rintro i m σ' H' ⟨rfl,hi,env',e',h'⟩
 obtain⟨yi,ys⟩:=yl _ H' h'.all h'.seen
 by_cases hlt:i<ds.length
 ·obtain⟨yg,yy⟩:=yi i ds[i] (qO hlt)
  refine .inr ⟨yg,λσ'' H''=>i+1<=ds.length/\∃env'',forL gf body (ds.drop (i+1)) env''=some o/\EnvOk fx (Offs (own (frzs env bs) σ) H1) env'' σ'' H'',?_,?_⟩
  ·rintro σ'' H'' ⟨hle,env'',e'',h''⟩
   exact⟨ds.length - (i+1),by omega,rfl,hle,env'',e'',h''⟩
  ·intro x H'' hy
   obtain⟨sy,ry⟩:=yy x H'' hy
   rw[qAZ hlt]at e'
   obtain⟨e1,ee1,e'⟩:=qA.mp e'
   obtain⟨o1,eo1,e'⟩:=qA.mp e'
   refine h2 fx _ env' σ' H'' _ x (h'.up sy) ry e1 ee1 _ λσ2 h2'=>h3 fx _ e1 σ2 H'' _ h2' o1 eo1 ?_
   cases o1 with
   | nx e2=>exact λσ3 H3 hh=>⟨hlt,e2,e',hh⟩
   | ct e2=>exact λσ3 H3 hh=>⟨hlt,e2,e',hh⟩
   | bk e2=>cases e';exact λσ3 H3 hh=>q σ3 H3 (hh.unbase fl)
   | rt d fr=>cases e';exact λv H3 sh rt=>q v H3 (fl.trans sh) (rt.unbase fl)
 ·have hi':i=ds.length:=by omega
  subst hi'
  rw[qAt]at e'
  cases e'
  exact .inl ⟨ys,q σ' H' (h'.unbase fl)⟩
noncomputable def zgn(n:Nat)(ds:List PyData):DEnv:=ds.map .pl++List.replicate (n - ds.length) .no
noncomputable def fnD(n:Nat)(f:SF):GF:=λds=>match f (zgn n ds)with
 | some (.rt d fr)=>some (d,fr)
 | some (.nx _)=>some (.none,false)
 | _=>none
theorem zlu{ds:List PyData}{n i:Nat}{sl:Sl}(e:(zgn n ds)[i]?=some sl):(∃d,ds[i]?=some d/\sl=.pl d)\/sl=.no:=by
 unfold zgn at e
 by_cases hi:i<ds.length
 ·rw[qAK (by simpa using hi),qa,qO hi]at e
  cases e
  exact .inl ⟨_,qO hi,rfl⟩
 ·rw[qp (by simpa using hi),qBB]at e
  split at e
  ·cases e;exact .inr rfl
  ·cases e
theorem zev{fx:Addr->Prop}{H:Hp}{N:List Str}{ds:List PyData}{vs:List V}(hf:∀b,fx b->∃o,H b=some o)(r:Rps (Offs fx H) ds vs):EnvOk fx H (zgn N.length ds) (zdi N vs) H:=by
 have no:∀(i:Nat)(d:PyData),(zgn N.length ds)[i]?≠some (Sl.ac d):=λi d e=>by
  rcases zlu e with⟨d',_,z⟩|z<;>cases z
 refine⟨?_,λi d e=>?_,λi d e=>absurd e (no i d),λi j d e a h1=>absurd h1 (no i d),Same.refl _,hf⟩
 ·unfold zgn zdi
  rw[qF,qF,qD,qD,qBM,qBM,r.length]
 ·rcases zlu e with⟨d',hd,z⟩|z
  ·cases z
   obtain⟨v,hv,rv⟩:=r.get2 hd
   refine⟨v,?_,Rp.same (Offs.sub λb z=>?_) _ rv⟩
   ·unfold zdi
    have hi:i<vs.length:=(qZ.mp hv).1
    rw[qAK (by simpa using hi),qa,hv];rfl
   ·rcases z with z|⟨j,d',z,_⟩
    ·exact z
    ·exact absurd z (no j d')
  ·cases z
theorem fn_d{N:List Str}{n:Nat}{f:SF}{t:TS}(hs:SS t f){vs:List V}{H:Hp}{Q:VK}{E:XK}(h:spD n (fnD N.length f) vs H Q E):t {nx:=λ_ H'=>Q .non H',rt:=Q} (zdi N vs) H:=by
 obtain⟨fx,ds,d,fr,hn,hf,r,g,k⟩:=h
 unfold fnD at g
 split at g
 ·rename_i d' fr' eo
  cases g
  exact hs fx H _ _ H _ (zev hf r) _ eo λv H' s rt=>k v H' s rt
 ·rename_i e' eo
  cases g
  exact hs fx H _ _ H _ (zev hf r) _ eo λσ H' hE=>k .non H' hE.base ⟨zjw,λz=>by cases z⟩
 ·cases g
theorem zxz{n:Nat}{g:GF}{vs:List V}{H:Hp}{Q:VK}{E:XK}(h:spD n g vs H Q E):vs.length=n:=by
 obtain⟨fx,ds,d,fr,hn,hf,r,_⟩:=h
 rw[<- r.length];exact hn
noncomputable def zafp:Sl->Sl
 | .ac d=>.pl d
 | s=>s
noncomputable def envB(own:List Str)(fr:List Nat)(env:DEnv):DEnv:=own.map (λ_=>Sl.no)++fr.map (λj=>zafp (env.getD j .no))
noncomputable def isAc:Option Sl->Bool
 | some (.ac _)=>true
 | _=>false
noncomputable def capA(fr:List Nat)(env:DEnv):List Nat:=fr.filter λj=>isAc env[j]?
theorem zky{own:List Str}{fr:List Nat}{env:DEnv}{i:Nat}{d:PyData}(e:(envB own fr env)[i]?=some (.pl d)):∃j k,i=own.length+k/\fr[k]?=some j/\(env[j]?=some (.pl d)\/env[j]?=some (.ac d)):=by
 unfold envB at e
 by_cases hi:i<own.length
 ·rw[qAK (by simpa using hi),qa,qO hi]at e
  cases e
 ·rw[qp (by simpa using hi),qD,qa]at e
  cases ej:fr[i - own.length]? with
  | none=>rw[ej]at e;cases e
  | some j=>
   rw[ej]at e
   refine⟨j,i - own.length,by omega,ej,?_⟩
   have e:zafp (env.getD j .no)=.pl d:=qi e
   rw[qw]at e
   cases ev:env[j]? with
   | none=>rw[ev]at e;cases e
   | some s=>
    rw[ev]at e
    cases s with
    | no=>cases e
    | pl d'=>cases e;exact .inl rfl
    | ac d'=>cases e;exact .inr rfl
theorem zge{own:List Str}{fr:List Nat}{env:DEnv}{i:Nat}{d:PyData}:(envB own fr env)[i]?≠some (.ac d):=by
 intro e
 unfold envB at e
 by_cases hi:i<own.length
 ·rw[qAK (by simpa using hi),qa,qO hi]at e
  cases e
 ·rw[qp (by simpa using hi),qD,qa]at e
  cases ej:fr[i - own.length]? with
  | none=>rw[ej]at e;cases e
  | some j=>
   rw[ej]at e
   have e:zafp (env.getD j .no)=.ac d:=qi e
   cases ev:env.getD j .no with
   | no=>rw[ev]at e;cases e
   | pl d'=>rw[ev]at e;cases e
   | ac d'=>rw[ev]at e;cases e
theorem zsu{own:List Str}{fr:List Nat}{σ:St}{k j:Nat}{v:V}(hk:fr[k]?=some j)(hv:σ[j]?=some (some v)):(tau own fr σ)[own.length+k]?=some (some v):=by
 unfold tau
 rw[qp (by simp),qD,qB7,qa,hk]
 show some (σ.getD j none)=_
 rw[qw,hv];rfl
theorem zlv{fx:Addr->Prop}{H0:Hp}{env:DEnv}{σ:St}{H H1:Hp}{p:Addr}(h:EnvOk fx H0 env σ H)(s:Same H H1)(hp:H1 p=none)(own:List Str)(fr:List Nat)(bs:List Nat) :
  EnvOk (λb=>lim fx env σ (bs++capA fr env) b\/b=p) H1 (envB own fr env) (tau own fr σ) (upd H1 p (.lst [])):=by
 have h1:=h.up s
 have sp:Same H1 (upd H1 p (.lst [])):=Same.new hp
 have so:Same (Offs (λb=>fx b\/L2.own env σ b) H1) (Offs (λb=>(lim fx env σ (bs++capA fr env) b\/b=p)\/L2.own (envB own fr env) (tau own fr σ) b) (upd H1 p (.lst []))):=Offs.mono sp λb o e n z=>by
  rcases z with(z|z)|⟨i,d,z,_⟩
  ·exact n (zln b z)
  ·rw[z,hp]at e;cases e
  ·exact absurd z zge
 refine⟨?_,λi d e=>?_,λi d e=>absurd e zge,λi j d e a z=>absurd z zge,sp,λb z=>?_⟩
 ·unfold envB tau;simp
 ·obtain⟨j,k,rfl,hk,hj⟩:=zky e
  rcases hj with hj|hj
  ·obtain⟨v,h2,h3⟩:=h1.pl j d hj
   exact⟨v,zsu hk h2,Rp.same so _ h3⟩
  ·obtain⟨a,h2,h3,h4,h5⟩:=h1.ac j d hj
   refine⟨_,zsu hk h2,h5.rp so λo eo=>?_⟩
   rw[Offs.get]
   ·exact sp _ _ eo
   ·rintro((z|⟨i',d',z1,z2,z3⟩)|⟨i',d',z,_⟩)
    ·rcases z with z|⟨i',d',z1,z2,z3⟩
     ·exact h4 z
     ·have e2:=h1.inj i' j d' d a z2 hj z3 h2
      subst e2
      refine z1 (qd _ (qBt.mpr ⟨qAu hk,?_⟩))
      rw[hj];rfl
    ·rw[hp]at eo;cases eo
    ·exact absurd z zge
 ·rcases z with z|z
  ·obtain⟨o,e⟩:=h1.lims _ b z;exact⟨o,sp b o e⟩
  ·rw[z];exact⟨_,zan⟩
theorem EnvOk.weaken{fx:Addr->Prop}{H0:Hp}{env e1:DEnv}{σ:St}{H:Hp}(h:EnvOk fx H0 e1 σ H)(hl:env.length=e1.length)(hp:∀(i:Nat) (d:PyData),env[i]?=some (.pl d)->e1[i]?=some (.pl d))(ha:∀(i:Nat) (d:PyData),env[i]?≠some (.ac d)):EnvOk fx H0 env σ H:=by
 refine⟨hl.trans h.len,λi d e=>?_,λi d e=>absurd e (ha i d),λi j d e a z=>absurd z (ha i d),h.base,h.fxs⟩
 obtain⟨v,h1,h2⟩:=h.pl i d (hp i d e)
 exact⟨v,h1,Rp.same (Offs.sub λb z=>z.imp (λy=>y) λ⟨j,d',z,_⟩=>absurd z (ha j d')) _ h2⟩
theorem EnvOk.updFx{fx:Addr->Prop}{H0:Hp}{env:DEnv}{σ:St}{H:Hp}{p:Addr}{o:HO}(h:EnvOk fx H0 env σ H)(hp:fx p)(h0:H0 p=none):EnvOk fx H0 env σ (upd H p o):=by
 have so:Offs (λb=>fx b\/own env σ b) (upd H p o)=Offs (λb=>fx b\/own env σ b) H:=Offs.upd (.inl hp)
 refine⟨h.len,λi d e=>?_,λi d e=>?_,h.inj,λb u e=>by rw[zar (zcx e h0)];exact h.base b u e,λb z=>?_⟩
 ·rw[so];exact h.pl i d e
 ·obtain⟨a,h1,h2,h3,h4⟩:=h.ac i d e
  rw[so]
  exact⟨a,h1,h2,h3,h4.same (Same.refl _) λu z=>by rw[zar λy=>h3 (by rw[y];exact hp)];exact z⟩
 ·by_cases e:b=p
  ·rw[e];exact⟨_,zan⟩
  ·obtain⟨u,hu⟩:=h.fxs b z
   exact⟨u,by rw[zar e];exact hu⟩
noncomputable def GX(n:Nat)(g:GT):Prop:=∀d env e1,g d env=some e1->e1.length=env.length/\∀i,n<=i->e1[i]?=env[i]?
noncomputable def GXs(n:Nat)(g:GTs):Prop:=∀ds env e1,g ds env=some e1->e1.length=env.length/\∀i,n<=i->e1[i]?=env[i]?
theorem zis{n i:Nat}(h:i<n):GX n (gN i):=by
 intro d env e1 e
 cases e
 exact⟨qR,λj hj=>qH (by omega)⟩
theorem zit{n:Nat}:GXs n zdu:=by
 intro ds env e1 e
 cases ds with
 | nil=>cases e;exact⟨rfl,λ_ _=>rfl⟩
 | cons _ _=>cases e
theorem zcc{n i:Nat}{g:GTs}(h:i<n)(hg:GXs n g):GXs n (zav i g):=by
 intro ds env e1 e
 cases ds with
 | nil=>cases e
 | cons d ds=>
  obtain⟨h1,h2⟩:=hg ds _ e1 e
  rw[qR]at h1
  exact⟨h1,λj hj=>(h2 j hj).trans (qH (by omega))⟩
theorem zlw{n m:Nat}{g:GTs}(hg:GXs n g):GX n (gT m g):=by
 intro d env e1 e
 unfold gT at e
 cases d with
 | tuple ds=>
  have e:(if ds.length=m then g ds env else none)=some e1:=e
  split at e
  ·exact hg ds env e1 e
  ·cases e
 | _=>cases e
noncomputable def zii(g:GT)(t:TF)(e:EF)(env:DEnv):List PyData->Option (List PyData)
 | []=>some []
 | d::ds=>(g d env).bind λe1=>(t e1).bind λb=>if b=true then(e e1).bind λr=>(zii g t e env ds).map λrs=>r.d::rs else zii g t e env ds
noncomputable def zhj(own:List Str)(fr:List Nat)(fi:IF')(g:GT)(t:TF)(e:EF):EF:=λenv=>(fi env).bind λz=>if z.1.length<100000 then
 (zii g t e (envB own fr env) z.1).map λrs=>⟨.list rs,true,if zdj rs=true then[]else z.2++capA fr env⟩else none
theorem zhn{H H':Hp}{ds:List PyData}{vs:List V}(f:zdj ds=true)(h:Rps H ds vs):Rps H' ds vs:=by
 replace h:=zcr.mp h
 induction h with
 | nil=>exact zbf
 | cons h _ ih=>
  unfold zdj at f
  rw[qAx,qk]at f
  exact zbc (zio f.1 h) (ih f.2)
theorem zfo{own:List Str}{fr:List Nat}{wi:TI}{g:TG}{tt:TT}{te:TE}{fi:IF'}{gf:GT}{t:TF}{e:EF}(h1:SI wi fi)(h2:SG g gf)(hx:GX own.length gf)(h3:ST tt t)(h4:SE te e) :
  SE (tComp1 wi g tt te own fr) (zhj own fr fi gf t e):=by
 intro fx H0 env σ H h rr hr Q q
 unfold zhj at hr
 obtain⟨⟨ds,bs⟩,ei,hr⟩:=qA.mp hr
 split at hr
 ·rename_i hlen
  have hlen:ds.length<100000:=hlen
  obtain⟨rs,ers,rfl⟩:=qE.mp hr
  refine h1 fx H0 env σ H h ds bs ei _ λJ H1 s yl=>λp hp=>?_
  have hB:=zlv h s hp own fr bs
  generalize hA:(λb=>lim fx env σ (bs++capA fr env) b)=A
  have hA':∀b,lim fx env σ (bs++capA fr env) b↔A b:=λb=>by rw[<- hA]
  have eA:(λb=>lim fx env σ (bs++capA fr env) b\/b=p)=λb=>A b\/b=p:=by rw[<- hA]
  rw[eA]at hB
  have nA:¬A p:=λz=>by
   obtain⟨o,eo⟩:=(h.up s).lims _ p ((hA' p).mpr z)
   rw[hp]at eo;cases eo
  have seen:∀{σ':St}{H':Hp},EnvOk (λb=>A b\/b=p) H1 (envB own fr env) σ' H'->Same (Offs (λb=>fx b\/L2.own (frzs env bs) σ b) H1) (Offs (λb=>A b\/b=p) H'):=λ{σ' H'} hE=>Offs.mono hE.base λb o eo n z=>by
   rcases z with z|z
   ·rcases(hA' b).mpr z with z|⟨i,d,z1,z2,z3⟩
    ·exact n (.inl z)
    ·exact n (.inr ⟨i,d,zkx (λy=>z1 (qAQ _ y)) z2,z3⟩)
   ·rw[z,hp]at eo;cases eo
  refine⟨λi m σ' H'=>m=ds.length - i/\i<=ds.length/\∃vs done rest,H' p=some (.lst vs)/\Rps (Offs (λb=>A b\/b=p) H') done vs/\done.length<=i/\zii gf t e (envB own fr env) (ds.drop i)=some rest/\done++rest=rs/\EnvOk (λb=>A b\/b=p) H1 (envB own fr env) σ' H',
   ⟨ds.length,rfl,qAH _,[],[],rs,zan,zbf,qAH _,ers,rfl,hB⟩,?_⟩
  rintro i m σ' H' ⟨rfl,hi,vs,done,rest,ep,rd,dl,ec,edr,hE⟩
  obtain⟨yi,ys⟩:=yl _ H' hE.fxs (seen hE)
  by_cases hlt:i<ds.length
  ·obtain⟨yg,yy⟩:=yi i ds[i] (qO hlt)
   refine .inr ⟨yg,λσ'' H''=>i+1<=ds.length/\∃vs done rest,H'' p=some (.lst vs)/\Rps (Offs (λb=>A b\/b=p) H'') done vs/\done.length<=i+1/\zii gf t e (envB own fr env) (ds.drop (i+1))=some rest/\done++rest=rs/\EnvOk (λb=>A b\/b=p) H1 (envB own fr env) σ'' H'',?_,?_⟩
   ·rintro σ'' H'' ⟨hle,hh⟩
    exact⟨ds.length - (i+1),by omega,rfl,hle,hh⟩
   ·intro x H'' hy
    obtain⟨sy,ry⟩:=yy x H'' hy
    rw[qAZ hlt]at ec
    obtain⟨e1,ee1,ec⟩:=qA.mp ec
    obtain⟨b,eb,ec⟩:=qA.mp ec
    have ry':Rp (Offs (λa=>(A a\/a=p)\/L2.own (envB own fr env) σ' a) H'') ds[i] x:=Rp.same (Offs.sub λb z=>z.elim (λy=>y) λ⟨j,d',z,_⟩=>absurd z zge) _ ry
    refine h2 _ H1 (envB own fr env) σ' H'' _ x (hE.up sy) ry' e1 ee1 _ λσ2 hE2=>?_
    refine h3 _ H1 e1 σ2 H'' hE2 b eb _ λH3 s3=>?_
    have hE3:=hE2.up s3
    obtain⟨gl,gk⟩:=hx _ _ _ ee1
    have back:∀{H4:Hp},EnvOk (λb=>A b\/b=p) H1 e1 σ2 H4->EnvOk (λb=>A b\/b=p) H1 (envB own fr env) σ2 H4:=λ{H4} hh=>hh.weaken gl.symm (λj d' ej=>by
     by_cases hj:own.length<=j
     ·rw[gk j hj];exact ej
     ·obtain⟨_,k,rfl,_⟩:=zky ej;omega) λj d'=>zge
    cases b with
    | false=>
     have ec:zii gf t e (envB own fr env) (ds.drop (i+1))=some rest:=ec
     exact iteF ⟨hlt,vs,done,rest,s3 _ _ (sy _ _ ep),Rps.same (Offs.grow (sy.trans s3)) _ rd,qBj dl,ec,edr,back hE3⟩
    | true=>
     have ec:((e e1).bind λr=>(zii gf t e (envB own fr env) (ds.drop (i+1))).map λrs=>r.d::rs)=some rest:=ec
     obtain⟨r,er,ec⟩:=qA.mp ec
     obtain⟨rest',er',rfl⟩:=qE.mp ec
     refine iteT (h4 _ H1 e1 σ2 H3 hE3 r er _ λv H4 s4 hv=>?_)
     have t4:=(sy.trans s3).trans s4
     refine⟨vs,t4 _ _ ep,zgd (by rw[<- rd.length];omega),hlt,vs++[v],done++[r.d],rest',zan,?_,by rw[qF];simp;omega,er',by rw[<- edr];simp,(back (hE3.up s4)).updFx (.inr rfl) hp⟩
     rw[Offs.upd (.inr rfl)]
     exact(Rps.same (Offs.grow t4) _ rd).append (zbc (Rp.same (Offs.sub λb z=>.inl z) _ hv.rp) zbf)
  ·have hi':i=ds.length:=by omega
   subst hi'
   rw[qAt]at ec
   cases ec
   rw[qx]at edr
   subst edr
   refine .inl ⟨ys,q _ H' (s.trans hE.base) ⟨?_,λ_=>⟨p,rfl,s.free hp,?_⟩⟩⟩
   ·show Rp (Offs (lim fx env σ (if zdj done=true then[]else bs++capA fr env)) H') (.list done) (.ref p)
    have nl:∀cs,¬lim fx env σ cs p:=λcs z=>by
     obtain⟨o,eo⟩:=(h.up s).lims _ p z
     rw[hp]at eo;cases eo
    refine zcy (by rw[Offs.get (nl _)];exact ep) ?_
    split
    ·rename_i f;exact zhn f rd
    ·exact Rps.same (Offs.sub λb z=>.inl ((hA' b).mp z)) _ rd
   ·show zfm (Offs (λb=>lim fx env σ (if zdj done=true then[]else bs++capA fr env) b\/b=p) H') H' p (.list done)
    refine⟨vs,ep,?_⟩
    split
    ·rename_i f;exact zhn f rd
    ·exact Rps.same (Offs.sub λb z=>z.imp (hA' b).mp id) _ rd
 ·cases hr
section
variable{X:Cx}{K:qC}
theorem zje(hK:X.K=K){a:Expr}{ta:TE}(ha:PE X a ta)(he:∀whole,isTrue a X.env whole=(do let v <- whole;standAt a.pos;holding [v] (truthy v))) :
  PT X a (λσ H Q=>ta σ H λx H'=>∃k,TruV K x H' k/\Q k H'):=by subst hK;exact zaap ha he
theorem zsv(hK:X.K=K):CallR X (.type "tuple") (λxs H Q=>∃p ys,xs=[.ref p]/\((SqL K H p ys/\∀l,H l=none->Q (.ref l) (upd H l (.tup ys)))\/(SqT K H p ys/\Q (.ref p) H))):=by subst hK;exact zov
theorem zkn(hK:X.K=K)(hu:X.A.units+64<cLine):OpR X (compareOp .Eq) (λx y H Q=>rEq x y H Q\/rEqD K false x y H Q):=by subst hK;exact zamr.or (zajh hu)
theorem zuc(hK:X.K=K)(hu:X.A.units+64<cLine):OpR X (compareOp .NotEq) (λx y H Q=>rNe x y H Q\/rEqD K true x y H Q):=by subst hK;exact zams.or (zaji hu)
noncomputable def zdl:TF:=λ_=>some true
theorem zfz:ST tAll zdl:=by
 intro fx H0 env σ H hE b hb Q q
 cases hb
 exact q H (Same.refl _)
noncomputable def eNeg(a:EF):EF:=λenv=>(a env).bind λx=>match x.d with|.int i=>some ⟨.int (-i),false,[]⟩|_=>none
theorem zya{te:TE}{f:EF}(h1:SE te f):SE (tUn (rU λi=>.int (-i)) te) (eNeg f):=by
 intro fx H0 env σ H h rr hr Q q
 unfold eNeg at hr
 obtain⟨⟨d,fr,bs⟩,ex,hr⟩:=qA.mp hr
 cases d with
 | int i=>
  cases hr
  exact h1 fx H0 env σ H h _ ex _ λv H1 s1 v1=>⟨i,zcb v1.rp,q _ H1 s1 ⟨zaa,λz=>by cases z⟩⟩
 | _=>cases hr
end
end L2
namespace PySem
open Sem (wp)
end PySem
namespace L2
open PySem PySem.Spec PyProof.Rows
theorem Rps.erase{H:Hp}{ds:List PyData}{vs:List V}(h:Rps H ds vs)(n:Nat):Rps H (ds.eraseIdx n) (vs.eraseIdx n):=by
 induction n generalizing ds vs with
 | zero=>
  cases ds with
  | nil=>unfold Rps at h;subst h;exact zbf
  | cons d ds=>unfold Rps at h;obtain⟨v,ws,rfl,h1,h2⟩:=h;exact h2
 | succ n ih=>
  cases ds with
  | nil=>unfold Rps at h;subst h;exact zbf
  | cons d ds=>unfold Rps at h;obtain⟨v,ws,rfl,h1,h2⟩:=h;exact zbc h1 (ih h2)
theorem zafq{X:Cx}{K:qC}(hK:X.K=K){T:String}{name:Str}{id:String}{r:V->List V->Hp->VK->Prop}{o:Expr}{to:TE}{apos cpos:Pos}(pa:PlainAttrs T)(slot:Slot T name id)(hty:typeOf (.builtin id)=pure (.type "method_descriptor"))(hm:MtR X id r)(ho:PE X o to)
  (hbase:attributeBase o name X.env (eval o X.env)=eval o X.env:=by rfl)
  (hline:(apos.endLine==cpos.line)=true:=by rfl) :
  PE X (.Call (.Attribute o name apos) [] [] cpos) (tBM0 K T r to):=by subst hK;exact zajb pa slot hty hm ho hbase hline
noncomputable def zaoi(i:Nat)(b:EF):EF:=λenv=>match env[i]? with
 | some (.pl (.dict kvs))=>(b env).bind λy=>(keyD y.d).bind λk=>(zafj kvs k).bind λd=>some ⟨d,false,[]⟩
 | some (.ac (.dict kvs))=>(b env).bind λy=>(keyD y.d).bind λk=>(zafj kvs k).bind λd=>some ⟨d,false,[]⟩
 | _=>none
noncomputable def eIxV(i:Nat)(b:EF):EF:=λenv=>match env[i]? with
 | some (.ac (.list ds))=>(b env).bind λy=>match y.d with
  | .int k=>(atI ds k).map λd=>⟨d,false,[]⟩
  | _=>none
 | _=>eOp ixD (eVar i) b env
theorem zfp{K:qC}{i:Nat}{tb:TE}{fb:EF}(hb:SE tb fb):SE (tOp (rIxU K) (tVar i) tb) (eIxV i fb):=by
 intro fx H0 env σ H h rr hr Q q
 unfold eIxV at hr
 split at hr
 ·rename_i ds ei
  obtain⟨⟨dy,fy,bys⟩,ey,hr⟩:=qA.mp hr
  cases dy with
  | int k=>
   obtain⟨d,ed,rfl⟩:=qE.mp hr
   obtain⟨a,h1,h2,h3,xs,ha,r⟩:=h.ac i _ ei
   refine⟨_,h1,hb fx H0 env σ H h _ ey _ λu H2 s2 v2=>?_⟩
   cases zcb v2.rp
   obtain⟨v,hv,rv⟩:=(Rps.same (Offs.grow s2) _ r).atI ed
   exact⟨xs,v,.inl (SqL.of (s2 _ _ ha)),hv,q _ H2 s2 ⟨Rp.same (Offs.sub zln) _ rv,λz=>by cases z⟩⟩
  | _=>cases hr
 ·exact zbd znh (zae i) hb fx H0 env σ H h rr hr Q q
end L2
namespace PySem
open Sem (wp)
end PySem
namespace L2
open PySem PySem.Spec PyProof.Rows
end L2
namespace PySem
open Sem (wp)
end PySem
namespace L2
open PySem PySem.Spec PyProof.Rows
end L2
namespace PySem
open Sem (wp)
end PySem
namespace L2
open PySem PySem.Spec PyProof.Rows
end L2
namespace PySem
open Sem (wp)
open AutoSeq1 (wpAny_loadPart')
end PySem
namespace L2
open PySem PySem.Spec PyProof.Rows
noncomputable def strD:GF
 | [.int i]=>if i.natAbs<10 ^ 101 then some (.str (toString i),false)else none
 | _=>none
noncomputable def isStar:Expr->Bool
 | .Starred ..=>true
 | _=>false
theorem zay{e:Expr}{es:List Expr}{env:Env}(h:isStar e=false):starEach (e::es) env=(false,eval e env)::starEach es env:=by
 cases e<;>first
  | rfl
  | cases h
theorem zabl{X:Cx}{e:Expr}{es:List Expr}{te:TE}{t:TA}(ha:PE X e te)(hr:PA X es t)(hs:isStar e=false:=by rfl):PA X (e::es) (tCons te t):=zbn ha hr (zay hs)
end L2
namespace PySem.SeqAt
open AutoSeq1 (wpAny_loadPart')
open MeetsSeq PyProof.Rows
end PySem.SeqAt
namespace L2
open PySem PySem.Spec PyProof.Rows
theorem Rps.setAt{H:Hp}{ds:List PyData}{vs:List V}(h:Rps H ds vs){d:PyData}{v:V}(hv:Rp H d v)(n:Nat):Rps H (ds.set n d) (vs.set n v):=by
 induction n generalizing ds vs with
 | zero=>
  cases ds with
  | nil=>unfold Rps at h;subst h;exact zbf
  | cons e ds=>unfold Rps at h;obtain⟨w,ws,rfl,h1,h2⟩:=h;exact zbc hv h2
 | succ n ih=>
  cases ds with
  | nil=>unfold Rps at h;subst h;exact zbf
  | cons e ds=>unfold Rps at h;obtain⟨w,ws,rfl,h1,h2⟩:=h;exact zbc h1 (ih h2)
structure Bx(p:Prop):Prop where
 out:p
theorem Bx.pt{X:Cx}{e:Expr}{t:TT}(h:Bx (PW X e t)):Bx (PT X e t):=⟨h.out.pt⟩
theorem zaf{X:Cx}{i:Int}{j:Nat}{pos:qh}:Bx (PE X (qU.Constant (PySem.Const.int i) j pos) (tC (L2.V.int i))):=⟨zaik⟩
theorem zab{X:Cx}:Bx (PA X [] tNil):=⟨zhe⟩
theorem zfq{X:Cx}{e:qU}{es:List qU}{te:TE}{t:TA}(ha:Bx (PE X e te))(hr:Bx (PA X es t))(hs:L2.isStar e=Bool.false):Bx (PA X (e::es) (tCons te t)):=⟨zabl ha.out hr.out hs⟩
theorem zba{X:Cx}{a b:qU}{ta tb:TE}{pos:qh}{op:PySem.Operator}{r:L2.R2}(ho:OpR X (PySem.binaryOp op) r)(ha:Bx (PE X a ta))(hb:Bx (PE X b tb)):Bx (PE X (a.BinOp op b pos) (tOp r ta tb)):=⟨zamp ho ha.out hb.out⟩
theorem zao{X:Cx}{st:Stmt}{t:TS}(h1:Bx (PS X st t)):Bx (PSs X [st] t):=⟨zin h1.out⟩
theorem zad{X:Cx}{st:Stmt}{rest:List Stmt}{t u:TS}(h1:Bx (PS X st t))(h2:Bx (PSs X rest u)):Bx (PSs X (st::rest) (L2.tSeq t u)):=⟨zfy h1.out h2.out⟩
theorem zajv {X:Cx} {x:Str} {p pos:qh} {e:qU} {es:List qU} {t:TA} {ps:List Str} {k:Nat} {sp:L2.Sp} (D:L2.Dn X.prog X.w X.K X.mg X.base x ps k sp) (hr:L2.Room k X.A) (hg:Gl X x) (ha:Bx (PA X (e::es) t)) (hdb:(x==qAF "__debug__")=Bool.false) (he:qAC (e::es) X.env=(Bool.false,PySem.eval e X.env)::qAC es X.env) (hpl:((PySem.backTo pos (qAC es X.env)).any λ(x:Bool×PySem.Sem Value)=>x.fst)=Bool.false):Bx (PE X ((qU.Name x p).Call (e::es) [] pos) (L2.tCall sp [] L2.E0 t)):=⟨zamz D hr hg ha.out hdb he hpl⟩
theorem zbh{X:Cx}{e:qU}{te:TE}{pos:qh}(he:Bx (PE X e te)):Bx (PS X (PySem.Stmt.Return (Option.some e) pos) (L2.tRet te)):=⟨zqc he.out⟩
theorem zafr{X:Cx}{pos:qh}{i:Nat}{x:Str}{e:qU}{te:TE}{pos':qh}(hN:X.N.Nodup)(hi:X.N[i]?=Option.some x)(hx:L2.Loc X.env.scope x)(he:Bx (PE X e te))(hs:PySem.swapsWith e (Option.some (qU.Name x pos')) pos.line X.env=Pure.pure Bool.false)(hf:X.fn x=Bool.true\/List.lookup x X.env.scope.names=Option.some PySem.NameKind.local):Bx (PS X (PySem.Stmt.Assign [qU.Name x pos'] e pos) (L2.tAsg te (L2.gName i))):=⟨zty hN hi hx he.out hs hf⟩
theorem zlx {X:Cx} {x:Str} {p pos:qh} {e:qU} {es:List qU} {t:TA} {id:String} {r:List L2.V->Hp->VK->Prop} (hc:CallR X (PySem.Value.builtin id) r) (hg:Gl X x) (hm:X.mg x=Option.none) (hv:PySem.bootBuiltins x=Option.some (PySem.Value.builtin id)) (ha:Bx (PA X (e::es) t)) (hn:x≠qAF "__name__") (hdb:(x==qAF "__debug__")=Bool.false) (he:qAC (e::es) X.env=(Bool.false,PySem.eval e X.env)::qAC es X.env) (hpl:((PySem.backTo pos (qAC es X.env)).any λ(x:Bool×PySem.Sem Value)=>x.fst)=Bool.false):Bx (PE X ((qU.Name x p).Call (e::es) [] pos) (L2.tCB r t)):=⟨zkw hc hg hm hv ha.out hn hdb he hpl⟩
theorem zadp{X:Cx}{b:Bool}{j:Nat}{pos:qh}:Bx (PE X (qU.Constant (PySem.Const.bool b) j pos) (tC (L2.V.bl b))):=⟨zamo⟩
theorem zajw{X:Cx}{a b:qU}{ta tb:TE}{pos:qh}{r:L2.R2}(hr:IxR X r)(ha:Bx (PE X a ta))(hb:Bx (PE X b tb))(hs:L2.PlainIx b):Bx (PE X (a.Subscript b pos) (tOp r ta tb)):=⟨zamv hr ha.out hb.out hs⟩
theorem zew{X:Cx}{t u:TS}{pos:qh}{c:qU}{a b:List Stmt}{tc:TT}(hc:Bx (PT X c tc))(ha:Bx (PSs X a t))(hb:Bx (PSs X b u)):Bx (PS X (PySem.Stmt.If c a b pos) (L2.tIfS tc t u)):=⟨zaal hc.out ha.out hb.out⟩
theorem zcd{X:Cx}:Bx (PSs X [] L2.tNext):=⟨zoq⟩
theorem znu:∀{X:Cx}{K:qC},
 X.K=K->
  ∀{a:qU}{ta:TE},
   Bx (PE X a ta)->
    (∀(whole:PySem.Sem Value),
      PySem.isTrue a X.env whole=do
       let v <- whole
       PySem.standAt a.pos
       PySem.holding [v] (PySem.truthy v))->
     Bx (PT X a λ(σ:L2.St)(H:Hp)(Q:Bool->Hp->Prop)=>ta σ H λ(x:L2.V)(H':Hp)=>∃(k:Bool),L2.TruV K x H' k/\Q k H'):=by
 intro X K hK a ta ha he
 exact⟨zje hK ha.out he⟩
theorem zabm{X:Cx}{pos:qh}{i:Nat}{x:Str}(hN:X.N.Nodup)(hi:X.N[i]?=Option.some x)(hx:L2.Loc X.env.scope x)(hf:X.fn x=Bool.true\/List.lookup x X.env.scope.names=Option.some PySem.NameKind.local):Bx (PG X (qU.Name x pos) (L2.gName i)):=⟨zaei hN hi hx hf⟩
theorem zca{X:Cx}{es:List qU}{t:TA}{pos:qh}(h:Bx (PA X es t)):Bx (PE X (qU.List es pos) (tLst t)):=⟨zade h.out⟩
theorem zdg{X:Cx}{tg iter:qU}{body:List Stmt}{wi:TI}{g:TG}{tb:TS}{pos:qh}(hp:PySem.PassesOwn (PySem.model X.prog X.w) X.A X.env X.xe)(hc:X.calm=Bool.true)(hi:Bx (PI X tg iter wi))(hg:Bx (PG X tg g))(hb:Bx (PSs X body tb))(hs:(∀(x:Value),PySem.foldedSetIterable iter X.env x=Pure.pure x)):Bx (PS X (PySem.Stmt.For tg iter body [] pos) (L2.tFor wi g tb)):=⟨zair hp hc hi.out hg.out hb.out hs⟩
theorem zbi{X:Cx}{a b:qU}{ta tb:TE}{pos:qh}{op:PySem.CmpOp}{r:L2.R2}(ho:OpR X (PySem.compareOp op) r)(ha:Bx (PE X a ta))(hb:Bx (PE X b tb))(hm:PySem.behindInMarks op b=Bool.false):Bx (PT X (a.Compare [op] [b] pos) (L2.tTest (tOp r ta tb))):=⟨zaen ho ha.out hb.out hm⟩
theorem zbu{X:Cx}{x:Str}{j:Nat}{pos:qh}:Bx (PE X (qU.Constant (PySem.Const.str x) j pos) (tC (L2.V.str x))):=⟨zada⟩
theorem zbs{X:Cx}{e:qU}{te:TE}{pos:qh}(he:Bx (PE X e te))(hs:PySem.swapsWith e Option.none pos.line X.env=Pure.pure Bool.false):Bx (PS X (PySem.Stmt.Expr e pos) (L2.tDrop te)):=⟨zwv he.out hs⟩
theorem zbv{X:Cx}{es:List qU}{t:TA}{pos:qh}{x1:Nat}(h:Bx (PA X es t)):Bx (PE X (qU.Tuple es x1 pos) (tTup t)):=⟨zqg h.out⟩
theorem zpe{X:Cx}{a b:qU}{ta tb:TE}{pos:qh}{op:PySem.CmpOp}{r:L2.R2}(ho:OpR X (PySem.compareOp op) r)(ha:Bx (PE X a ta))(hb:Bx (PE X b tb))(hm:PySem.behindInMarks op b=Bool.false):Bx (PE X (a.Compare [op] [b] pos) (tOp r ta tb)):=⟨zaem ho ha.out hb.out hm⟩
theorem zvq {X:Cx} {x:Str} {p pos:qh} {e:qU} {es:List qU} {t:TA} {T:String} {r:List L2.V->Hp->VK->Prop} (hc:CallR X (PySem.Value.type T) r) (hg:Gl X x) (hm:X.mg x=Option.none) (hv:PySem.bootBuiltins x=Option.some (PySem.Value.type T)) (ha:Bx (PA X (e::es) t)) (hn:x≠qAF "__name__") (hdb:(x==qAF "__debug__")=Bool.false) (he:qAC (e::es) X.env=(Bool.false,PySem.eval e X.env)::qAC es X.env) (hpl:((PySem.backTo pos (qAC es X.env)).any λ(x:Bool×PySem.Sem Value)=>x.fst)=Bool.false):Bx (PE X ((qU.Name x p).Call (e::es) [] pos) (L2.tCB r t)):=⟨zxg hc hg hm hv ha.out hn hdb he hpl⟩
theorem zpf{X:Cx}{x:Str}{v:L2.V}{u:Value}{pos:qh}(hg:Gl X x)(hm:X.mg x=Option.none)(hv:PySem.bootBuiltins x=Option.some u)(r:L2.RelV v u)(hn:x≠qAF "__name__")(hd:(x==qAF "__debug__")=Bool.false):Bx (PE X (qU.Name x pos) (tC v)):=⟨zwu hg hm hv r hn hd⟩
theorem zafs{X:Cx}{a:qU}{pos:qh}{tA:TT}(ha:Bx (PT X a tA)):Bx (PW X (qU.BoolOp PySem.BoolOp.Or [a] pos) tA):=⟨zadb ha.out⟩
theorem zadq {X:Cx} {a b:qU} {pos:qh} {tA tB':TT} {rest:List qU} (ha:Bx (PT X a tA)) (hb:Bx (PW X (qU.BoolOp PySem.BoolOp.Or (b::rest) pos) tB')):Bx (PW X (qU.BoolOp PySem.BoolOp.Or (a::b::rest) pos) (L2.tOr tA tB')):=⟨zaio ha.out hb.out⟩
theorem zpg{X:Cx}{e:qU}{te:TE}(h:Bx (PE X e te)):Bx (PO X (Option.some e) (tPart te)):=⟨zaer h.out⟩
theorem zph{X:Cx}:Bx (PO X Option.none L2.tNoPart):=⟨zaeq⟩
theorem zly{X:Cx}{e:qU}{te:TE}{lo hi:Option qU}{tl th:TO}{pos p2:qh}{r:L2.V->Option Int->Option Int->Hp->VK->Prop}(hr:SlR X r)(he:Bx (PE X e te))(hl:Bx (PO X lo tl))(hu:Bx (PO X hi th)):Bx (PE X (e.Subscript (qU.Slice lo hi Option.none p2) pos) (L2.tSl r te tl th)):=⟨zaar hr he.out hl.out hu.out⟩
theorem zcf {X:Cx} {scope:Scope} {N' own:List Str} {fr:List Nat} {elt target iter:qU} {ifs:List qU} {cpos:qh} {wi:TI} {g:TG} {tt:TT} {te:TE} (c:L2.CompOk X scope N' own fr) (hc:X.calm=Bool.true) (hi:Bx (PI X target iter wi)) (hb:(∀(cl:List (Str×Addr))(C:Addr)(s:Shared)(H:Hp)(fp:List Addr),PG (cxComp X scope N' own cl C s H fp) target g/\PF (cxComp X scope N' own cl C s H fp) ifs tt/\PE (cxComp X scope N' own cl C s H fp) elt te)) (hs:(∀(x:Value),PySem.foldedSetIterable iter X.env x=Pure.pure x)):Bx (PE X (elt.ListComp [{target:=target,iter:=iter,ifs:=ifs,is_async:=0}] scope cpos) (L2.tComp1 wi g tt te own fr)):=⟨zaba c hc hi.out hb hs⟩
theorem zbw {X:Cx} {K:qC} (hK:X.K=K) {T:String} {name:Str} {id:String} {r:L2.V->List L2.V->Hp->VK->Prop} {o e:qU} {es:List qU} {to:TE} {t:TA} {apos cpos:qh} (pa:PySem.PlainAttrs T) (slot:PySem.Slot T name id) (hty:PySem.typeOf (PySem.Value.builtin id)=Pure.pure (PySem.Value.type "method_descriptor")) (hm:MtR X id r) (ho:Bx (PE X o to)) (ha:Bx (PA X (e::es) t)) (hbase:PySem.attributeBase o name X.env (PySem.eval o X.env)=PySem.eval o X.env) (hfew:((((PySem.backTo cpos (qAC (e::es) X.env)).all λ(x:Bool×PySem.Sem Value)=>!x.fst)&&(PySem.backToKw cpos (PySem.keywordEach [] X.env)).all λ(x:Option Str×PySem.Sem Value)=>x.fst.isSome)&&Decidable.decide (((e::es).length+([]:List Keyword).length+if([]:List Keyword).isEmpty=Bool.true then 0 else 1)<30))=Bool.true) (hline:(apos.endLine==cpos.line)=Bool.true) (hs:qAC (e::es) X.env=(Bool.false,PySem.eval e X.env)::qAC es X.env) (hplain:((PySem.backTo cpos (qAC es X.env)).any λ(x:Bool×PySem.Sem Value)=>x.fst)=Bool.false):Bx (PE X ((o.Attribute name apos).Call (e::es) [] cpos) (L2.tBM K T r to t)):=⟨zajk hK pa slot hty hm ho.out ha.out hbase hfew hline hs hplain⟩
theorem zbj{X:Cx}{K:qC}(hK:X.K=K){tg l:qU}{tl:TE}(hl:Bx (PE X l tl)):Bx (PI X tg l (L2.iSeq K tl)):=⟨zafn hK hl.out⟩
theorem zcz{X:Cx}{tg a:qU}{ta:TA}{p pos:qh}(hg:Gl X (qAF "range"))(hm:X.mg (qAF "range")=Option.none)(ha:Bx (PA X [a] ta))(hs:qAC [a] X.env=[(Bool.false,PySem.eval a X.env)]):Bx (PI X tg ((qU.Name (qAF "range") p).Call [a] [] pos) (L2.iRng1 ta)):=⟨zwx hg hm ha.out hs⟩
theorem zdw{X:Cx}:Bx (PF X [] L2.tAll):=⟨zaje⟩
theorem zaft{X:Cx}{j:Nat}{pos:qh}:Bx (PE X (qU.Constant PySem.Const.none j pos) (tC L2.V.non)):=⟨zwt⟩
theorem zpi{X:Cx}{a:qU}{pos:qh}{tA:TT}(ha:Bx (PT X a tA)):Bx (PW X (qU.BoolOp PySem.BoolOp.And [a] pos) tA):=⟨zaeh ha.out⟩
theorem zsw {X:Cx} {a b:qU} {pos:qh} {tA tB':TT} {rest:List qU} (ha:Bx (PT X a tA)) (hb:Bx (PW X (qU.BoolOp PySem.BoolOp.And (b::rest) pos) tB')):Bx (PW X (qU.BoolOp PySem.BoolOp.And (a::b::rest) pos) (L2.tAnd tA tB')):=⟨zain ha.out hb.out⟩
theorem zyb{X:Cx}{pos:qh}{c:qU}{body:List Stmt}{tc:TT}{tb:TS}(hp:PySem.PassesOwn (PySem.model X.prog X.w) X.A X.env X.xe)(hc:Bx (PT X c tc))(hb:Bx (PSs X body tb)):Bx (PS X (PySem.Stmt.While c body [] pos) (L2.tWhile tc tb)):=⟨zaan hp hc.out hb.out⟩
theorem zyc {X:Cx} {scope:Scope} {N' own:List Str} {fr:List Nat} {elt target iter:qU} {ifs:List qU} {cpos:qh} {wi:TI} {g:TG} {tt:TT} {te:TE} {spos py:qh} {i:Nat} {y:Str} (c:L2.CompOk X scope N' own fr) (hc:X.calm=Bool.true) (hi:Bx (PI X target iter wi)) (hb:(∀(cl:List (Str×Addr))(C:Addr)(s:Shared)(H:Hp)(fp:List Addr),PG (cxComp X scope N' own cl C s H fp) target g/\PF (cxComp X scope N' own cl C s H fp) ifs tt/\PE (cxComp X scope N' own cl C s H fp) elt te)) (hsw:PySem.swapsWith (elt.ListComp [{target:=target,iter:=iter,ifs:=ifs,is_async:=0}] scope cpos) (Option.some (qU.Name y py)) spos.line X.env=Pure.pure Bool.true) (hN:X.N.Nodup) (hy:X.N[i]?=Option.some y) (hl:List.lookup y X.env.scope.names=Option.some PySem.NameKind.local) (hs:(∀(x:Value),PySem.foldedSetIterable iter X.env x=Pure.pure x)):Bx (PS X (PySem.Stmt.Assign [qU.Name y py] (elt.ListComp [{target:=target,iter:=iter,ifs:=ifs,is_async:=0}] scope cpos) spos) (L2.tAsgC1 wi g tt te own fr i)):=⟨zabb c hc hi.out hb hsw hN hy hl hs⟩
theorem zpj {X:Cx} {pos:qh} {tg e:qU} {te:TE} {g:TG} (he:Bx (PE X e te)) (hg:Bx (PG X tg g)) (hs:PySem.swapsWithSole [tg] e pos.line X.env=Pure.pure Bool.false) (hw:PySem.swappedStores [tg] e X.env=Pure.pure Option.none) (h1:List.map (λ(x:Bool×(Value->PySem.Sem Unit))=>x.snd) (PySem.assignEach [tg] X.env)=[PySem.assign tg X.env]):Bx (PS X (PySem.Stmt.Assign [tg] e pos) (L2.tAsg te g)):=⟨zadd he.out hg.out hs hw h1⟩
theorem zcm{X:Cx}:Bx (PGs X [] L2.gNil):=⟨zaej⟩
theorem zas {X:Cx} {e:qU} {es:List qU} {t:TG} {u:L2.TGs} (h1:Bx (PG X e t)) (h2:Bx (PGs X es u)) (hs:List.map (λ(x:Bool×(Value->PySem.Sem Unit))=>x.snd) (PySem.assignEach (e::es) X.env)=PySem.assign e X.env::List.map (λ(x:Bool×(Value->PySem.Sem Unit))=>x.snd) (PySem.assignEach es X.env)):Bx (PGs X (e::es) (L2.gCons t u)):=⟨zaam h1.out h2.out hs⟩
theorem zcn {X:Cx} {K:qC} (hK:X.K=K) {es:List qU} {k:Nat} {t:L2.TGs} {n:Nat} {pos:qh} (hc:X.calm=Bool.true) (h:Bx (PGs X es t)) (hn:(PySem.assignEach es X.env).length=n) (hst:List.findIdx? (λ(x:Bool×(Value->PySem.Sem Unit))=>x.fst) (PySem.assignEach es X.env)=Option.none):Bx (PG X (qU.Tuple es k pos) (L2.gTup K n t)):=⟨zafd hK hc h.out hn hst⟩
theorem zyd{X:Cx}{a:qU}{ta:TE}{pos:qh}{op:PySem.UnaryOp}{r:L2.V->Hp->VK->Prop}(ho:L2.UnR X (PySem.unaryOp op) r)(ha:Bx (PE X a ta)):Bx (PE X (qU.UnaryOp op a pos) (L2.tUn r ta)):=⟨zamq ho ha.out⟩
theorem zud{X:Cx}{K:qC}(hK:X.K=K){T:String}{name:Str}{id:String}{r:L2.V->List L2.V->Hp->VK->Prop}{o:qU}{to:TE}{apos cpos:qh}(pa:PySem.PlainAttrs T)(slot:PySem.Slot T name id)(hty:PySem.typeOf (PySem.Value.builtin id)=Pure.pure (PySem.Value.type "method_descriptor"))(hm:MtR X id r)(ho:Bx (PE X o to))(hbase:PySem.attributeBase o name X.env (PySem.eval o X.env)=PySem.eval o X.env)(hline:(apos.endLine==cpos.line)=Bool.true):Bx (PE X ((o.Attribute name apos).Call [] [] cpos) (L2.tBM0 K T r to)):=⟨zafq hK pa slot hty hm ho.out hbase hline⟩
theorem zafu{X:Cx}{a:qU}{ta:TE}{j:Nat}{pos':qh}(ha:Bx (PE X a ta)):Bx (L2.PC X PySem.CmpOp.Is a (qU.Constant PySem.Const.none j pos') (L2.tIsN ta)):=⟨zail ha.out⟩
theorem zafv{X:Cx}{a b:qU}{pos:qh}{op:PySem.CmpOp}{t:TE}(h:Bx (L2.PC X op a b t))(h1:PySem.behindInMarks op b=Bool.false):Bx (PT X (a.Compare [op] [b] pos) (L2.tB t)):=⟨zaim h.out h1⟩
theorem bv{X:Cx}(i:Nat){x:Str}{pos:Pos}(hN:X.N[i]?=some x:=by rfl)(hv:visB X.env.scope x=true:=by rfl)(hd:(x==("__debug__":Str))=false:=by decide)
  (hcd:(x==("__classdict__":Str))=false:=by decide):Bx (PE X (.Name x pos) (tVar i)):=⟨zacz hN (visB.of hv) hd hcd⟩
theorem zkz{X:Cx}{i:Nat}{o k e:Expr}{tk tv:TE}{pos pos':Pos}(ho:Bx (PE X o (tVar i)))(hk:Bx (PE X k tk))(hv:Bx (PE X e tv))
  (ha:∀v,assign (.Subscript o k pos') X.env v=(do
   let ov <- holding [v] (eval o X.env)
   let iv <- holding [v,ov] (eval k X.env)
   standAt pos'
   holding [v,ov,iv] (setItem ov iv v)
   release [v,ov,iv] []))
  (hs:swapsWithSole [.Subscript o k pos'] e pos.line X.env=pure false)(hw:swappedStores [.Subscript o k pos'] e X.env=pure none)(h1:(assignEach [.Subscript o k pos'] X.env).map (·.2)=[assign (.Subscript o k pos') X.env]) :
  Bx (PS X (.Assign [.Subscript o k pos'] e pos) (tAsg tv (gSub (tVar i) tk zaas))):=⟨zadd hv.out (zaiq ho.out hk.out zaat ha) hs hw h1⟩
noncomputable def SatK(fx:Addr->Prop)(H0:Hp)(J:Nat->Prop)(σ0:St)(D:Ends):Out->Prop
 | .nx env=>∀σ H,EnvOk fx H0 env σ H->(∀j,J j->σ[j]?=σ0[j]?)->D.nx σ H
 | .bk env=>∀σ H,EnvOk fx H0 env σ H->(∀j,J j->σ[j]?=σ0[j]?)->D.bk σ H
 | .ct env=>∀σ H,EnvOk fx H0 env σ H->(∀j,J j->σ[j]?=σ0[j]?)->D.ct σ H
 | .rt d fr=>∀v H,Same H0 H->zpd fx H0 d fr v H->D.rt v H
noncomputable def SSk(J:Nat->Prop)(ts:TS)(F:SF):Prop:=∀(fx:Addr->Prop)(H0:Hp)(env:DEnv)(σ:St)(H:Hp)(D:Ends),EnvOk fx H0 env σ H->∀o,F env=some o->SatK fx H0 J σ D o->ts D σ H
section
variable{J:Nat->Prop}
noncomputable def SGk(J:Nat->Prop)(g:TG)(f:GT):Prop:=∀(fx:Addr->Prop)(H0:Hp)(env:DEnv)(σ:St)(H:Hp)(d:PyData)(v:V),EnvOk fx H0 env σ H->Rp (Offs (λa=>fx a\/own env σ a) H) d v->∀env',f d env=some env'->∀Q:St->Hp->Prop,
 (∀σ',EnvOk fx H0 env' σ' H->(∀j,J j->σ'[j]?=σ[j]?)->Q σ' H)->g v σ H Q
theorem zeq{i:Nat}(hJ:¬J i):SGk J (gName i) (gN i):=by
 intro fx H0 env σ H d v h r env' e Q q
 cases e
 exact q _ (h.setPl i r) λj hj=>qH λz=>hJ (by rw[z];exact hj)
end
end L2
namespace HT
open PySem PySem.Spec PyProof.Rows L2
end HT
namespace L2
open PySem PySem.Spec PyProof.Rows
end L2
namespace PySem
open Sem (wp)
end PySem
namespace L2
open PySem PySem.Spec PyProof.Rows
end L2
namespace PySem
open Sem (wp)
end PySem
namespace L2
open PySem PySem.Spec PyProof.Rows
structure MvR(R:Addr->Prop)(H H':Hp):Prop where
 keep:∀b o,¬R b->H b=some o->H' b=some o
 live:∀b o,H b=some o->∃o',H' b=some o'
theorem MvR.same{R:Addr->Prop}{H H':Hp}(s:Same H H'):MvR R H H':=⟨λb o _ e=>s b o e,λb o e=>⟨o,s b o e⟩⟩
theorem MvR.trans{R:Addr->Prop}{H H1 H2:Hp}(a:MvR R H H1)(b:MvR R H1 H2):MvR R H H2:=⟨λx o n e=>b.keep x o n (a.keep x o n e),λx o e=>let⟨o',e'⟩:=a.live x o e;b.live x o' e'⟩
theorem MvR.free{R:Addr->Prop}{H H':Hp}(m:MvR R H H'){b:Addr}(h:H' b=none):H b=none:=by
 cases e:H b with
 | none=>rfl
 | some o=>obtain⟨o',e'⟩:=m.live b o e;rw[h]at e';cases e'
theorem MvR.offs{R A:Addr->Prop}{H H':Hp}(m:MvR R H H')(h:∀b,R b->A b):Same (Offs A H) (Offs A H'):=λb o e=>by
 obtain⟨n,e⟩:=Offs.of e
 rw[Offs.get n]
 exact m.keep b o (λz=>n (h b z)) e
structure Kind (T:Type) where
 at_:Hp->V->(Addr->Prop)->T->Prop
 live:∀{H v R st},at_ H v R st->∀b,R b->∃o,H b=some o
 stay:∀{H H' v R st},at_ H v R st->(∀b o,R b->H b=some o->H' b=some o)->at_ H' v R st
structure Has{T:Type}(k:Kind T)(f:Nat)(fx:Addr->Prop)(H0:Hp)(env:DEnv)(σ:St)(H:Hp)(v:V)(R:Addr->Prop)(st:T):Prop where
 ok:EnvOk fx H0 env σ H
 no:env[f]?=some .no
 sl:σ[f]?=some (some v)
 th:k.at_ H v R st
 off:∀b,R b->fx b
 low:∀b,R b->H0 b=none
section
variable{T:Type}{k:Kind T}{f:Nat}{fx:Addr->Prop}{H0:Hp}{env:DEnv}{σ:St}{H H':Hp}{v:V}{R:Addr->Prop}{st st':T}
theorem Has.up(h:Has k f fx H0 env σ H v R st)(s:Same H H'):Has k f fx H0 env σ H' v R st:=⟨h.ok.up s,h.no,h.sl,k.stay h.th λb o _ e=>s b o e,h.off,h.low⟩
theorem Has.mv(h:Has k f fx H0 env σ H v R st)(m:MvR R H H')(t:k.at_ H' v R st'):Has k f fx H0 env σ H' v R st':=by
 have so:Same (Offs (λa=>fx a\/own env σ a) H) (Offs (λa=>fx a\/own env σ a) H'):=m.offs λb z=>.inl (h.off b z)
 refine⟨⟨h.ok.len,λi d e=>?_,λi d e=>?_,h.ok.inj,λb o e=>m.keep b o (λz=>by rw[h.low b z]at e;cases e) (h.ok.base b o e),λb z=>?_⟩,h.no,h.sl,t,h.off,h.low⟩
 ·obtain⟨u,h1,h2⟩:=h.ok.pl i d e
  exact⟨u,h1,Rp.same so d h2⟩
 ·obtain⟨a,h1,h2,h3,h4⟩:=h.ok.ac i d e
  exact⟨a,h1,h2,h3,h4.same so λo z=>m.keep a o (λy=>h3 (h.off a y)) z⟩
 ·obtain⟨o,e⟩:=h.ok.fxs b z
  exact m.live b o e
theorem Has.val(h:Has k f fx H0 env σ H v R st){H1:Hp}(m:MvR R H1 H'){r:Val}{w:V}(l:∀b,R b->∃o,H b=some o)(q:ValOk (lim fx env σ r.bs) H H1 r w):ValOk (lim fx env σ r.bs) H H' r w:=by
 refine⟨Rp.same (m.offs λb z=>.inl (h.off b z)) _ q.rp,λe=>?_⟩
 obtain⟨a,h1,h2,h3⟩:=q.fr e
 refine⟨a,h1,h2,h3.same (m.offs λb z=>.inl (.inl (h.off b z))) λo z=>m.keep a o (λy=>?_) z⟩
 obtain⟨o',e'⟩:=l a y
 rw[h2]at e';cases e'
end
noncomputable abbrev EFr(T:Type):=DEnv->T->Option (Val×T)
noncomputable def SEr{T:Type}(k:Kind T)(f:Nat)(te:TE)(g:EFr T):Prop:=∀(fx:Addr->Prop)(H0:Hp)(env:DEnv)(σ:St)(H:Hp)(v:V)(R:Addr->Prop)(st:T),Has k f fx H0 env σ H v R st->∀r st',g env st=some (r,st')->∀Q:VK,
 (∀w H',MvR R H H'->Has k f fx H0 env σ H' v R st'->ValOk (lim fx env σ r.bs) H H' r w->Q w H')->te σ H Q
noncomputable abbrev AFr(T:Type):=DEnv->T->Option (List Val×T)
noncomputable def SAr{T:Type}(k:Kind T)(f:Nat)(ta:TA)(g:AFr T):Prop:=∀(fx:Addr->Prop)(H0:Hp)(env:DEnv)(σ:St)(H:Hp)(v:V)(R:Addr->Prop)(st:T),Has k f fx H0 env σ H v R st->∀rs st',g env st=some (rs,st')->∀Q:List V->Hp->Prop,
 (∀ws H',MvR R H H'->Has k f fx H0 env σ H' v R st'->Paired (λr w=>ValOk (lim fx env σ r.bs) H H' r w) rs ws->Q ws H')->ta σ H Q
noncomputable abbrev TFr(T:Type):=DEnv->T->Option (Bool×T)
noncomputable def STr{T:Type}(k:Kind T)(f:Nat)(tt:TT)(g:TFr T):Prop:=∀(fx:Addr->Prop)(H0:Hp)(env:DEnv)(σ:St)(H:Hp)(v:V)(R:Addr->Prop)(st:T),Has k f fx H0 env σ H v R st->∀b st',g env st=some (b,st')->∀Q:Bool->Hp->Prop,
 (∀H',MvR R H H'->Has k f fx H0 env σ H' v R st'->Q b H')->tt σ H Q
section
variable{T:Type}{k:Kind T}{f:Nat}
noncomputable def zak(g:EF):EFr T:=λenv st=>(g env).map λr=>(r,st)
theorem zac{te:TE}{g:EF}(h:SE te g):SEr k f te (zak g):=by
 intro fx H0 env σ H v R st hh r st' e Q q
 obtain⟨r',er,e⟩:=qE.mp e
 cases e
 exact h fx H0 env σ H hh.ok r er Q λw H' s hv=>q w H' (MvR.same s) (hh.up s) hv
noncomputable def rNil:AFr T:=λ_ st=>some ([],st)
theorem zaw:SAr k f tNil rNil:=by
 intro fx H0 env σ H v R st hh rs st' e Q q
 cases e
 exact q [] H (MvR.same (Same.refl _)) hh .nil
noncomputable def zaz(a:EFr T)(g:AFr T):AFr T:=λenv st=>(a env st).bind λx=>(g env x.2).bind λy=>some (x.1::y.1,y.2)
theorem zaj{te:TE}{ta:TA}{a:EFr T}{g:AFr T}(h1:SEr k f te a)(h2:SAr k f ta g):SAr k f (tCons te ta) (zaz a g):=by
 intro fx H0 env σ H v R st hh rs st' e Q q
 unfold zaz at e
 obtain⟨⟨x,s1⟩,ex,e⟩:=qA.mp e
 obtain⟨⟨ys,s2⟩,ey,e⟩:=qA.mp e
 cases e
 exact h1 fx H0 env σ H v R st hh x s1 ex _ λw H1 m1 k1 v1=>h2 fx H0 env σ H1 v R s1 k1 ys s2 ey _ λws H2 m2 k2 v2=>q (w::ws) H2 (m1.trans m2) k2
  (.cons (hh.val m2 (k.live hh.th) v1) (Paired.mapP v2 λ_ _ z=>⟨z.rp,λe=>let⟨a,g1,g2,g3⟩:=z.fr e;⟨a,g1,m1.free g2,g3⟩⟩))
noncomputable def rOp(w:OF)(a b:EFr T):EFr T:=λenv st=>(a env st).bind λx=>(b env x.2).bind λy=>(w x.1.d y.1.d).bind λz=>some (⟨z.1,z.2,bsOf z.1 (x.1.bs++y.1.bs)⟩,y.2)
theorem zafw{H:Hp}{Ho:Hp}{a:Addr}{d:PyData}(h:zfm Ho H a d):zef d=false:=by cases d<;>first|rfl|exact h.elim
theorem zcv{r:R2}{w:OF}{ta tb:TE}{fa fb:EFr T}(ho:SO r w)(ha:SEr k f ta fa)(hb:SEr k f tb fb):SEr k f (tOp r ta tb) (rOp w fa fb):=by
 intro fx H0 env σ H v R st hh rr st' hr Q q
 unfold rOp at hr
 obtain⟨⟨x,s1⟩,ex,hr⟩:=qA.mp hr
 obtain⟨⟨y,s2⟩,ey,hr⟩:=qA.mp hr
 obtain⟨⟨d,fr⟩,ez,hr⟩:=qA.mp hr
 cases hr
 refine ha fx H0 env σ H v R st hh x s1 ex _ λu H1 m1 k1 v1=>hb fx H0 env σ H1 v R s1 k1 y s2 ey _ λu2 H2 m2 k2 v2=>?_
 have l1:∀b,lim fx env σ (x.bs++y.bs) b->lim fx env σ x.bs b:=zlm λi hi=>qAQ _ hi
 have l2:∀b,lim fx env σ (x.bs++y.bs) b->lim fx env σ y.bs b:=zlm λi hi=>qd _ hi
 have v1':=hh.val m2 (k.live hh.th) v1
 refine ho (lim fx env σ (x.bs++y.bs)) H2 u u2 x.d y.d (k2.ok.lims _) (v1'.later (Same.refl _) (Same.refl _) l1).rp (v2.later (Same.refl _) (Same.refl _) l2).rp d fr ez _ λz H3 s3 rp fr3=>q z H3 ((m1.trans m2).trans (MvR.same s3)) (k2.up s3) ⟨zlo rp,λe=>?_⟩
 obtain⟨a,g1,g2,g3⟩:=fr3 e
 refine⟨a,g1,(m1.trans m2).free g2,?_⟩
 show zfm (Offs (λb=>lim fx env σ (bsOf d (x.bs++y.bs)) b\/b=a) H3) H3 a d
 rw[show bsOf d (x.bs++y.bs)=x.bs++y.bs by unfold bsOf;rw[if_neg (by rw[zafw g3];decide)]]
 exact g3
noncomputable def rCB(g:GF)(a:AFr T):EFr T:=λenv st=>(a env st).bind λx=>(g (zcu x.1)).bind λz=>some (⟨z.1,z.2,bsOf z.1 (bss x.1)⟩,x.2)
theorem zajx{r:List V->Hp->VK->Prop}{g:GF}{ta:TA}{a:AFr T}(hc:SC r g)(ha:SAr k f ta a):SEr k f (tCB r ta) (rCB g a):=by
 intro fx H0 env σ H v R st hh rr st' hr Q q
 unfold rCB at hr
 obtain⟨⟨rs,s1⟩,er,hr⟩:=qA.mp hr
 obtain⟨⟨d,fr⟩,ez,hr⟩:=qA.mp hr
 cases hr
 refine ha fx H0 env σ H v R st hh rs s1 er _ λvs H1 m1 k1 v1=>?_
 refine hc (lim fx env σ (bss rs)) H1 vs (zcu rs) (k1.ok.lims _) (zep (λi hi=>hi) v1) d fr ez _ λw H3 s3 rp fr3=>q w H3 (m1.trans (MvR.same s3)) (k1.up s3) ⟨zlo rp,λe=>?_⟩
 obtain⟨a,g1,g2,g3⟩:=fr3 e
 refine⟨a,g1,m1.free g2,?_⟩
 show zfm (Offs (λb=>lim fx env σ (bsOf d (bss rs)) b\/b=a) H3) H3 a d
 rw[show bsOf d (bss rs)=bss rs by unfold bsOf;rw[if_neg (by rw[zafw g3];decide)]]
 exact g3
noncomputable def rTup(a:AFr T):EFr T:=λenv st=>(a env st).bind λx=>if x.1.length<=100000 then some (⟨.tuple (zcu x.1),false,bss x.1⟩,x.2)else none
theorem ziu{ta:TA}{a:AFr T}(ha:SAr k f ta a):SEr k f (tTup ta) (rTup a):=by
 intro fx H0 env σ H v R st hh rr st' hr Q q
 unfold rTup at hr
 obtain⟨⟨rs,s1⟩,er,hr⟩:=qA.mp hr
 split at hr
 ·rename_i hl
  cases hr
  refine ha fx H0 env σ H v R st hh rs s1 er _ λvs H1 m1 k1 v1=>?_
  have r:=zep (λi hi=>hi) v1
  have hA:=k1.ok.lims (bss rs)
  exact⟨zdf (by rw[<- r.length,zet];exact hl),λp hp=>q _ _ (m1.trans (MvR.same (Same.new hp))) (k1.up (Same.new hp)) ⟨zlq hp (zej hA hp) r,λz=>by cases z⟩⟩
 ·cases hr
noncomputable def rLst(a:AFr T):EFr T:=λenv st=>(a env st).bind λx=>if x.1.length<=100000 then some (⟨.list (zcu x.1),true,bss x.1⟩,x.2)else none
theorem zafx{ta:TA}{a:AFr T}(ha:SAr k f ta a):SEr k f (tLst ta) (rLst a):=by
 intro fx H0 env σ H v R st hh rr st' hr Q q
 unfold rLst at hr
 obtain⟨⟨rs,s1⟩,er,hr⟩:=qA.mp hr
 split at hr
 ·rename_i hl
  cases hr
  refine ha fx H0 env σ H v R st hh rs s1 er _ λvs H1 m1 k1 v1=>?_
  have r:=zep (λi hi=>hi) v1
  have hA:=k1.ok.lims (bss rs)
  refine⟨zdf (by rw[<- r.length,zet];exact hl),λp hp=>q _ _ (m1.trans (MvR.same (Same.new hp))) (k1.up (Same.new hp)) ⟨zlp hp (zej hA hp) r,λ_=>⟨p,rfl,m1.free hp,ziq hp r⟩⟩⟩
 ·cases hr
end
section
variable{T:Type}{k:Kind T}{f:Nat}
noncomputable def zjf(c:TF):TFr T:=λenv st=>(c env).map λb=>(b,st)
theorem zga{tt:TT}{c:TF}(h:ST tt c):STr k f tt (zjf c):=by
 intro fx H0 env σ H v R st hh b st' e Q q
 obtain⟨b',er,e⟩:=qE.mp e
 cases e
 exact h fx H0 env σ H hh.ok b er Q λH' s=>q H' (MvR.same s) (hh.up s)
noncomputable def qAnd(a b:TFr T):TFr T:=λenv st=>(a env st).bind λx=>if x.1=true then b env x.2 else some (false,x.2)
theorem zye{t u:TT}{a b:TFr T}(h:STr k f t a)(h2:STr k f u b):STr k f (tAnd t u) (qAnd a b):=by
 intro fx H0 env σ H v R st hh b' st' e Q q
 unfold qAnd at e
 obtain⟨⟨c,s1⟩,er,e⟩:=qA.mp e
 refine h fx H0 env σ H v R st hh c s1 er _ λH' m k1=>?_
 cases c with
 | true=>exact iteT (h2 fx H0 env σ H' v R s1 k1 b' st' e _ λH'' m' k2=>q H'' (m.trans m') k2)
 | false=>cases e;exact iteF (q H' m k1)
noncomputable def qB(g:EFr T):TFr T:=λenv st=>(g env st).bind λx=>match x.1.d with
 | .bool b=>some (b,x.2)
 | _=>none
theorem zyf{te:TE}{g:EFr T}(h:SEr k f te g):STr k f (tTest te) (qB g):=by
 intro fx H0 env σ H v R st hh b st' e Q q
 unfold qB at e
 obtain⟨⟨r,s1⟩,er,e⟩:=qA.mp e
 obtain⟨d,fr,bs⟩:=r
 cases d with
 | bool b'=>
  cases e
  exact h fx H0 env σ H v R st hh _ _ er _ λw H' m k1 hv=>⟨_,zhl hv.rp,q H' m k1⟩
 | _=>cases e
end
inductive OutR (T:Type) where
 | nx (env:DEnv) (st:T)
 | bk (env:DEnv) (st:T)
 | ct (env:DEnv) (st:T)
 | rt (d:PyData) (fr:Bool) (st:T)
noncomputable abbrev SFr(T:Type):=DEnv->T->Option (OutR T)
noncomputable def SatR{T:Type}(k:Kind T)(f:Nat)(fx:Addr->Prop)(H0:Hp)(D:Ends)(v:V)(R:Addr->Prop):OutR T->Prop
 | .nx env st=>∀σ H,Has k f fx H0 env σ H v R st->D.nx σ H
 | .bk env st=>∀σ H,Has k f fx H0 env σ H v R st->D.bk σ H
 | .ct env st=>∀σ H,Has k f fx H0 env σ H v R st->D.ct σ H
 | .rt d fr st=>∀w H,Same H0 H->(∀b,fx b->∃o,H b=some o)->k.at_ H v R st->zpd fx H0 d fr w H->(fr=true->∀a,w=.ref a->¬R a)->D.rt w H
noncomputable def SSr{T:Type}(k:Kind T)(f:Nat)(ts:TS)(F:SFr T):Prop:=∀(fx:Addr->Prop)(H0:Hp)(env:DEnv)(σ:St)(H:Hp)(v:V)(R:Addr->Prop)(st:T)(D:Ends),Has k f fx H0 env σ H v R st->∀o,F env st=some o->SatR k f fx H0 D v R o->ts D σ H
section
variable{T:Type}{k:Kind T}{f:Nat}{fx:Addr->Prop}{H0:Hp}{env:DEnv}{σ:St}{H H':Hp}{v:V}{R:Addr->Prop}{st st':T}
theorem Has.notOwn(h:Has k f fx H0 env σ H v R st){b:Addr}(hb:R b):¬own env σ b:=λ⟨i,d,h1,h2⟩=>by
 obtain⟨a,g1,g2,g3,g4⟩:=h.ok.ac i d h1
 rw[h2]at g1
 cases g1
 exact g3 (h.off _ hb)
noncomputable abbrev flr(env:DEnv)(σ:St)(R:Addr->Prop)(H:Hp):Hp:=Offs (λb=>own env σ b\/R b) H
theorem Has.rebase(h:Has k f fx H0 env σ H v R st):Has k f fx (flr env σ R H) env σ H v R st:=by
 refine⟨⟨h.ok.len,h.ok.pl,λi d e=>?_,h.ok.inj,Offs.same _ _,h.ok.fxs⟩,h.no,h.sl,h.th,h.off,λb hb=>Offs.out (.inr hb)⟩
 obtain⟨a,h1,h2,h3,h4⟩:=h.ok.ac i d e
 exact⟨a,h1,Offs.out (.inl ⟨i,d,e,h1⟩),h3,h4⟩
theorem Has.floor(h:Has k f fx H0 env σ H v R st):Same H0 (flr env σ R H):=λb o e=>by
 show Offs (λb=>own env σ b\/R b) H b=some o
 rw[Offs.get]
 ·exact h.ok.base b o e
 ·rintro(⟨i,d,h1,h2⟩|z)
  ·obtain⟨a,g1,g2,g3,g4⟩:=h.ok.ac i d h1
   rw[h2]at g1
   cases g1
   rw[g2]at e;cases e
  ·rw[h.low b z]at e;cases e
theorem Has.unbase{F:Hp}(h:Has k f fx F env σ H v R st)(s:Same H0 F):Has k f fx H0 env σ H v R st:=⟨h.ok.unbase s,h.no,h.sl,h.th,h.off,λb hb=>s.free (h.low b hb)⟩
theorem Has.seen{env':DEnv}{σ':St}(h:Has k f fx H0 env σ H v R st)(h':Has k f fx (flr env σ R H) env' σ' H' v R st'):Same (Offs (λb=>fx b\/own env σ b) H) (Offs (λb=>fx b\/own env' σ' b) H'):=λb o e=>by
 obtain⟨n,e⟩:=Offs.of e
 have hF:flr env σ R H b=some o:=by
  show Offs (λb=>own env σ b\/R b) H b=some o
  rw[Offs.get]
  ·exact e
  ·rintro(z|z)
   ·exact n (.inr z)
   ·exact n (.inl (h.off b z))
 rw[Offs.get]
 ·exact h'.ok.base b o hF
 ·rintro(z|⟨i,d,h1,h2⟩)
  ·exact n (.inl z)
  ·obtain⟨a,g1,g2,g3,g4⟩:=h'.ok.ac i d h1
   rw[h2]at g1
   cases g1
   rw[g2]at hF;cases hF
theorem zafy{env:DEnv}{i j:Nat}(h:env[j]?=some .no):(frz1 env i)[j]?=some .no:=by
 unfold frz1
 split
 ·rename_i d e
  rw[qH λz=>by subst z;rw[h]at e;cases e]
  exact h
 ·exact h
theorem zka:∀(bs:List Nat){env:DEnv}{j:Nat},env[j]?=some .no->(frzs env bs)[j]?=some .no
 | [],_,_,h=>h
 | i::bs,_,_,h=>zka bs (zafy h)
theorem zafz{r:Val}{i:Nat}(h:env[f]?=some .no)(hi:i≠f):(putV env i r)[f]?=some .no:=by
 unfold putV
 rw[qH hi]
 exact zka _ h
theorem Has.put(hh:Has k f fx H0 env σ H v R st)(m:MvR R H H')(k1:Has k f fx H0 env σ H' v R st'){r:Val}{w:V}(hv:ValOk (lim fx env σ r.bs) H H' r w){i:Nat}(hi:i≠f):Has k f fx H0 (putV env i r) (σ.set i (some w)) H' v R st':=by
 classical
 let H1:Hp:=λb=>if R b then H b else H' b
 have hR:∀b,R b->H1 b=H b:=λb z=>if_pos z
 have hN:∀b,¬R b->H1 b=H' b:=λb z=>if_neg z
 have s1:Same H H1:=λb o e=>by
  by_cases z:R b
  ·rw[hR b z];exact e
  ·rw[hN b z];exact m.keep b o z e
 have nl:∀b,¬lim fx env σ r.bs b->¬R b:=λb n z=>n (.inl (hh.off b z))
 have v1:ValOk (lim fx env σ r.bs) H H1 r w:=by
  refine⟨Rp.same (λb o e=>?_) _ hv.rp,λe=>?_⟩
  ·obtain⟨n,e⟩:=Offs.of e
   rw[Offs.get n,hN b (nl b n)];exact e
  ·obtain⟨a,g1,g2,g3⟩:=hv.fr e
   have na:¬R a:=λz=>by obtain⟨o,eo⟩:=k.live hh.th a z;rw[g2]at eo;cases eo
   refine⟨a,g1,g2,g3.same (λb o e=>?_) λo e=>by rw[hN a na];exact e⟩
   obtain⟨n,e⟩:=Offs.of e
   rw[Offs.get n,hN b (nl b λz=>n (.inl z))];exact e
 have ok1:=hh.ok.put s1 v1 i
 have sl:(σ.set i (some w))[f]?=some (some v):=by rw[qH hi];exact hh.sl
 have h1:Has k f fx H0 (putV env i r) (σ.set i (some w)) H1 v R st:=⟨ok1,zafz hh.no hi,sl,k.stay hh.th λb o z e=>by rw[hR b z];exact e,hh.off,hh.low⟩
 refine h1.mv ⟨λb o z e=>by rw[hN b z]at e;exact e,λb o e=>?_⟩ k1.th
 by_cases z:R b
 ·exact k.live k1.th b z
 ·rw[hN b z]at e;exact⟨o,e⟩
end
section
variable{T:Type}{k:Kind T}{f:Nat}
noncomputable def rS(f:Nat)(F:SF):SFr T:=λenv st=>(F env).bind λo=>match o with
 | .nx e=>(match e[f]? with|some .no=>some (.nx e st)|_=>none)
 | .bk e=>(match e[f]? with|some .no=>some (.bk e st)|_=>none)
 | .ct e=>(match e[f]? with|some .no=>some (.ct e st)|_=>none)
 | .rt d fr=>some (.rt d fr st)
theorem zqu{ts:TS}{F:SF}(h:SSk (λj=>j=f) ts F):SSr k f ts (rS f F):=by
 intro fx H0 env σ H v R st D hh o e q
 unfold rS at e
 obtain⟨o1,e1,e⟩:=qA.mp e
 have fl:=hh.ok.floor
 have st':∀{env':DEnv}{σ':St}{H':Hp},EnvOk fx (Offs (own env σ) H) env' σ' H'->(∀j,j=f->σ'[j]?=σ[j]?)->env'[f]?=some .no->Has k f fx H0 env' σ' H' v R st:=λ{env' σ' H'} h' kp hn=>⟨h'.unbase fl,hn,(kp f rfl).trans hh.sl,k.stay hh.th λb o hb eb=>h'.base b o (by rw[Offs.get (hh.notOwn hb)];exact eb),hh.off,hh.low⟩
 refine h fx _ env σ H _ hh.ok.rebase o1 e1 ?_
 cases o1 with
 | nx e2=>
  dsimp only at e
  split at e
  ·rename_i hn;cases e;exact λσ' H' h' kp=>q σ' H' (st' h' kp hn)
  ·cases e
 | bk e2=>
  dsimp only at e
  split at e
  ·rename_i hn;cases e;exact λσ' H' h' kp=>q σ' H' (st' h' kp hn)
  ·cases e
 | ct e2=>
  dsimp only at e
  split at e
  ·rename_i hn;cases e;exact λσ' H' h' kp=>q σ' H' (st' h' kp hn)
  ·cases e
 | rt d fr=>
  cases e
  intro w H' s' rt
  have kp:∀b o,R b->H b=some o->H' b=some o:=λb o hb eb=>s' b o (by rw[Offs.get (hh.notOwn hb)];exact eb)
  have lv:∀b,fx b->∃o,H' b=some o:=λb hb=>by
   obtain⟨o,eo⟩:=hh.ok.fxs b hb
   have no:¬own env σ b:=λ⟨i,d,h1,h2⟩=>by
    obtain⟨a,g1,g2,g3,g4⟩:=hh.ok.ac i d h1
    rw[h2]at g1
    cases g1
    exact g3 hb
   exact⟨o,s' b o (by rw[Offs.get no];exact eo)⟩
  refine q w H' (fl.trans s') lv (k.stay hh.th kp) (rt.unbase fl) λhfr a ew hR=>?_
  obtain⟨a',g1,g2,_⟩:=rt.2 hfr
  rw[ew]at g1
  cases g1
  obtain⟨o,eo⟩:=k.live hh.th a hR
  rw[Offs.get (hh.notOwn hR),eo]at g2;cases g2
noncomputable def rSeq(a b:SFr T):SFr T:=λenv st=>(a env st).bind λo=>match o with
 | .nx e s=>b e s
 | o=>some o
theorem zal{t u:TS}{a b:SFr T}(h1:SSr k f t a)(h2:SSr k f u b):SSr k f (tSeq t u) (rSeq a b):=by
 intro fx H0 env σ H v R st D hh o e q
 unfold rSeq at e
 obtain⟨o1,e1,e⟩:=qA.mp e
 refine h1 fx H0 env σ H v R st _ hh o1 e1 ?_
 cases o1 with
 | nx e2 s2=>exact λσ' H' h'=>h2 fx H0 e2 σ' H' v R s2 D h' o e q
 | bk e2 s2=>cases e;exact q
 | ct e2 s2=>cases e;exact q
 | rt d fr s2=>cases e;exact q
noncomputable def rSet(i:Nat)(g:EFr T):SFr T:=λenv st=>(g env st).map λx=>.nx (putV env i x.1) x.2
theorem zax{te:TE}{g:EFr T}{i:Nat}(h1:SEr k f te g)(hi:i≠f):SSr k f (tAsg te (gName i)) (rSet i g):=by
 intro fx H0 env σ H v R st D hh o e q
 obtain⟨⟨r,s1⟩,er,rfl⟩:=qE.mp e
 exact h1 fx H0 env σ H v R st hh r s1 er _ λw H' m k1 hv=>q _ H' (hh.put m k1 hv hi)
noncomputable def rIf(c:TFr T)(a b:SFr T):SFr T:=λenv st=>(c env st).bind λx=>if x.1=true then a env x.2 else b env x.2
theorem zho{tc:TT}{t u:TS}{c:TFr T}{a b:SFr T}(hc:STr k f tc c)(h1:SSr k f t a)(h2:SSr k f u b):SSr k f (tIfS tc t u) (rIf c a b):=by
 intro fx H0 env σ H v R st D hh o e q
 unfold rIf at e
 obtain⟨⟨b',s1⟩,eb,e⟩:=qA.mp e
 refine hc fx H0 env σ H v R st hh b' s1 eb _ λH' m k1=>?_
 cases b' with
 | true=>exact iteT (h1 fx H0 env σ H' v R s1 D k1 o e q)
 | false=>exact iteF (h2 fx H0 env σ H' v R s1 D k1 o e q)
noncomputable def rNx:SFr T:=λenv st=>some (.nx env st)
theorem zgf:SSr k f tNext rNx:=by
 intro fx H0 env σ H v R st D hh o e q
 cases e
 exact q σ H hh
noncomputable def rRet(g:EFr T):SFr T:=λenv st=>(g env st).map λx=>.rt x.1.d x.1.fr x.2
theorem zfb{te:TE}{g:EFr T}(h1:SEr k f te g):SSr k f (tRet te) (rRet g):=by
 intro fx H0 env σ H v R st D hh o e q
 obtain⟨⟨r,s1⟩,er,rfl⟩:=qE.mp e
 refine h1 fx H0 env σ H v R st hh r s1 er _ λw H' m k1 hv=>q w H' k1.ok.base k1.ok.fxs k1.th ⟨Rp.same (Offs.sub λb z=>.inl z) _ hv.rp,λe=>?_⟩ λhfr a ew hR=>?_
 ·obtain⟨a,g1,g2,g3⟩:=hv.fr e
  exact⟨a,g1,hh.ok.base.free g2,g3.same (Offs.sub λb y=>y.imp .inl id) λo z=>z⟩
 ·obtain⟨a',g1,g2,_⟩:=hv.fr hfr
  rw[ew]at g1
  cases g1
  obtain⟨o,eo⟩:=k.live hh.th a hR
  rw[g2]at eo;cases eo
noncomputable def rApp(i:Nat)(g:EFr T):SFr T:=λenv st=>match env[i]? with
 | some (.ac (.list ds))=>(g env st).bind λx=>if ds.length<100000/\i∉x.1.bs then some (.nx ((frzs env x.1.bs).set i (.ac (.list (ds++[x.1.d])))) x.2)else none
 | _=>none
theorem zgg{K:qC}{i:Nat}{te:TE}{g:EFr T}(h1:SEr k f te g):SSr k f (tDrop (tBM K "list" zfa (tVar i) (tCons te tNil))) (rApp i g):=by
 intro fx H0 env σ H v R st D hh o e q
 unfold rApp at e
 split at e
 ·rename_i ds ei
  obtain⟨⟨r,s1⟩,er,e⟩:=qA.mp e
  dsimp only at e
  split at e
  ·rename_i hl
   cases e
   have hif:i≠f:=λz=>by rw[z,hh.no]at ei;cases ei
   obtain⟨a,g1,g2,g3,g4⟩:=hh.ok.ac i _ ei
   obtain⟨xs0,hx0,_⟩:=g4
   refine⟨_,g1,.inl ⟨rfl,_,SqL.of hx0⟩,h1 fx H0 env σ H v R st hh r s1 er _ λw H' m k1 hv=>?_⟩
   have h':=k1.ok.frzs r.bs
   have ei':=zkx hl.2 ei
   obtain⟨a',z1,_,z3,z4⟩:=h'.ac i _ ei'
   rw[g1]at z1
   cases z1
   obtain⟨xs,hx',rx'⟩:=z4
   refine⟨a,xs,w,rfl,rfl,hx',zgd (by rw[<- rx'.length];exact hl.1),?_⟩
   refine q σ _ ⟨h'.mut ei' g1 ⟨_,zan,rx'.append (zbc (Rp.same (Offs.sub zgw) _ hv.rp) zbf)⟩,?_,hh.sl,k.stay k1.th λb o hb eb=>?_,hh.off,hh.low⟩
   ·rw[qH hif];exact zka _ hh.no
   ·rw[zar λz=>g3 (by rw[<- z];exact hh.off b hb)];exact eb
  ·cases e
 ·cases e
noncomputable abbrev IFr(T:Type):=DEnv->T->Option (List PyData×List Nat×T)
noncomputable def SIr(k:Kind T)(f:Nat)(wi:TI)(g:IFr T):Prop:=∀(fx:Addr->Prop)(H0:Hp)(env:DEnv)(σ:St)(H:Hp)(v:V)(R:Addr->Prop)(st:T),Has k f fx H0 env σ H v R st->∀ds bs st',g env st=some (ds,bs,st')->∀Rk:It->Hp->Prop,
 (∀J H1,MvR R H H1->Has k f fx H0 env σ H1 v R st'->Yl (λb=>fx b\/own (frzs env bs) σ b) H1 J ds->Rk J H1)->wi σ H Rk
noncomputable def rIP(g:IF'):IFr T:=λenv st=>(g env).map λz=>(z.1,z.2,st)
theorem zdm{wi:TI}{g:IF'}(h:SI wi g):SIr k f wi (rIP g):=by
 intro fx H0 env σ H v R st hh ds bs st' e Rk q
 obtain⟨⟨d1,b1⟩,er,e⟩:=qE.mp e
 cases e
 exact h fx H0 env σ H hh.ok _ _ er Rk λJ H1 s y=>q J H1 (MvR.same s) (hh.up s) y
noncomputable def zpk(g:GT)(body:SFr T):List PyData->DEnv->T->Option (OutR T)
 | [],env,st=>some (.nx env st)
 | d::ds,env,st=>(g d env).bind λe1=>(body e1 st).bind λo=>match o with
  | .nx e2 s2=>zpk g body ds e2 s2
  | .ct e2 s2=>zpk g body ds e2 s2
  | .bk e2 s2=>some (.nx e2 s2)
  | .rt d fr s2=>some (.rt d fr s2)
noncomputable def rFor(it:IFr T)(g:GT)(body:SFr T):SFr T:=λenv st=>(it env st).bind λz=>zpk g body z.1 (frzs env z.2.1) z.2.2
noncomputable def GTno(f:Nat)(g:GT):Prop:=∀d env env',g d env=some env'->env[f]?=some .no->env'[f]?=some .no
theorem zdx{i:Nat}(h:i≠f):GTno f (gN i):=λd env env' e hn=>by
 cases e
 rw[qH h];exact hn
theorem zfr{wi:TI}{g:TG}{tb:TS}{it:IFr T}{gf:GT}{body:SFr T}(h1:SIr k f wi it)(h2:SGk (λj=>j=f) g gf)(h2n:GTno f gf)(h3:SSr k f tb body):SSr k f (tFor wi g tb) (rFor it gf body):=by
 intro fx H0 env σ H v R st D hh o e q
 unfold rFor at e
 obtain⟨⟨ds,bs,s0⟩,er,e⟩:=qA.mp e
 refine h1 fx H0 env σ H v R st hh ds bs s0 er _ λJ H1 m0 k0 yl=>?_
 have hE:Has k f fx H0 (frzs env bs) σ H1 v R s0:=⟨k0.ok.frzs bs,zka _ k0.no,k0.sl,k0.th,k0.off,k0.low⟩
 have fl:=hE.floor
 refine⟨λi n σ' H'=>n=ds.length - i/\i<=ds.length/\∃env' st',zpk gf body (ds.drop i) env' st'=some o/\Has k f fx (flr (frzs env bs) σ R H1) env' σ' H' v R st',⟨ds.length,rfl,qAH _,_,_,e,hE.rebase⟩,?_⟩
 rintro i n σ' H' ⟨rfl,hi,env',st',e',h'⟩
 obtain⟨yi,ys⟩:=yl _ H' h'.ok.all (hE.seen h')
 by_cases hlt:i<ds.length
 ·obtain⟨yg,yy⟩:=yi i ds[i] (qO hlt)
  refine .inr ⟨yg,λσ'' H''=>i+1<=ds.length/\∃env'' st'',zpk gf body (ds.drop (i+1)) env'' st''=some o/\Has k f fx (flr (frzs env bs) σ R H1) env'' σ'' H'' v R st'',?_,?_⟩
  ·rintro σ'' H'' ⟨hle,env'',st'',e'',h''⟩
   exact⟨ds.length - (i+1),by omega,rfl,hle,env'',st'',e'',h''⟩
  ·intro x H'' hy
   obtain⟨sy,ry⟩:=yy x H'' hy
   rw[qAZ hlt]at e'
   obtain⟨e1,ee1,e'⟩:=qA.mp e'
   obtain⟨o1,eo1,e'⟩:=qA.mp e'
   have hu:=h'.up sy
   refine h2 fx _ env' σ' H'' _ x hu.ok ry e1 ee1 _ λσ2 h2' k2=>h3 fx _ e1 σ2 H'' v R st' _ ⟨h2',h2n _ _ _ ee1 hu.no,(k2 f rfl).trans hu.sl,hu.th,hu.off,hu.low⟩ o1 eo1 ?_
   cases o1 with
   | nx e2 s2=>exact λσ3 H3 hq=>⟨hlt,e2,s2,e',hq⟩
   | ct e2 s2=>exact λσ3 H3 hq=>⟨hlt,e2,s2,e',hq⟩
   | bk e2 s2=>cases e';exact λσ3 H3 hq=>q σ3 H3 (hq.unbase fl)
   | rt d fr s2=>cases e';exact λw H3 sh l t rt nr=>q w H3 (fl.trans sh) l t (rt.unbase fl) nr
 ·have hi':i=ds.length:=by omega
  subst hi'
  rw[qAt]at e'
  cases e'
  exact .inl ⟨ys,q σ' H' (h'.unbase fl)⟩
end
noncomputable abbrev GR(T:Type):=List PyData->T->Option (PyData×Bool×T)
noncomputable def spR{T:Type}(k:Kind T)(n:Nat)(g:GR T):Sp:=λvs H Q _=>∃(fx:Addr->Prop)(v:V)(vs':List V)(ds:List PyData)(R:Addr->Prop)(st:T)(d:PyData)(fr:Bool)(st':T),vs=v::vs'/\ds.length+1=n/\(∀b,fx b->∃o,H b=some o)/\(∀b,R b->fx b)/\k.at_ H v R st/\Rps (Offs fx H) ds vs'/\g ds st=some (d,fr,st')/\
 ∀w H',MvR R H H'->k.at_ H' v R st'->zpd fx H d fr w H'->Q w H'
theorem zgx{T:Type}{k:Kind T}{n:Nat}{g:GR T}{vs:List V}{H:Hp}{Q:VK}{E:XK}(h:spR k n g vs H Q E):vs.length=n:=by
 obtain⟨fx,v,vs',ds,R,st,d,fr,st',rfl,hn,_,_,_,r,_⟩:=h
 rw[qo,<- r.length];exact hn
section
variable{T:Type}{k:Kind T}{f:Nat}
noncomputable def zbb(n:Nat)(g:GR T)(a:AFr T):EFr T:=λenv st=>(a env st).bind λx=>if x.1.length+1=n then(g (zcu x.1) x.2).bind λz=>some (⟨z.1,z.2.1,bsOf z.1 (bss x.1)⟩,z.2.2)else none
theorem zaq{n:Nat}{g:GR T}{ta:TA}{a:AFr T}(ha:SAr k f ta a):SEr k f (tCall (spR k n g) [] E0 (tCons (tVar f) ta)) (zbb n g a):=by
 intro fx H0 env σ H v R st hh rr st' hr Q q
 unfold zbb at hr
 obtain⟨⟨rs,s1⟩,er,hr⟩:=qA.mp hr
 split at hr
 ·rename_i hn
  obtain⟨⟨d,fr,s2⟩,ez,hr⟩:=qA.mp hr
  cases hr
  refine⟨v,hh.sl,ha fx H0 env σ H v R st hh rs s1 er _ λvs H1 m1 k1 v1=>?_⟩
  show spR k n g ((v::vs)++[]) H1 Q E0
  rw[qx]
  refine⟨lim fx env σ (bss rs),v,vs,zcu rs,R,s1,d,fr,_,rfl,by rw[zet];exact hn,k1.ok.lims _,λb hb=>.inl (hh.off b hb),k1.th,zep (λi hi=>hi) v1,ez,λw H3 m3 t3 ⟨rp,fr3⟩=>q w H3 (m1.trans m3) (k1.mv m3 t3) ⟨zlo rp,λe=>?_⟩⟩
  obtain⟨a,g1,g2,g3⟩:=fr3 e
  refine⟨a,g1,m1.free g2,?_⟩
  show zfm (Offs (λb=>lim fx env σ (bsOf d (bss rs)) b\/b=a) H3) H3 a d
  rw[show bsOf d (bss rs)=bss rs by unfold bsOf;rw[if_neg (by rw[zafw g3];decide)]]
  exact g3
 ·cases hr
noncomputable def znv(n:Nat)(ds:List PyData):DEnv:=.no::zgn (n - 1) ds
noncomputable def fnR(n:Nat)(F:SFr T):GR T:=λds st=>match F (znv n ds) st with
 | some (.rt d fr s)=>some (d,fr,s)
 | some (.nx _ s)=>some (.none,false,s)
 | _=>none
theorem zyg{fx:Addr->Prop}{H:Hp}{N:List Str}{v:V}{ds:List PyData}{vs:List V}{R:Addr->Prop}{st:T}(hN:0<N.length)(hf:∀b,fx b->∃o,H b=some o)(hR:∀b,R b->fx b)(t:k.at_ H v R st)(r:Rps (Offs fx H) ds vs) :
  Has k 0 fx (Offs R H) (znv N.length ds) (zdi N (v::vs)) H v R st:=by
 obtain⟨x,N',rfl⟩:∃x N',N=x::N':=by
  cases N with
  | nil=>cases hN
  | cons x N'=>exact⟨x,N',rfl⟩
 have e0:=zev (N:=N') hf r
 have es:zdi (x::N') (v::vs)=some v::zdi N' vs:=by
  unfold zdi
  rw[ql,qBF]
  congr 3
  simp
 have no:∀(i:Nat)(d:PyData),(znv (x::N').length ds)[i]?≠some (Sl.ac d):=λi d e=>by
  cases i with
  | zero=>cases e
  | succ i=>
   have e:(zgn N'.length ds)[i]?=some (Sl.ac d):=e
   rcases zlu e with⟨d',_,z⟩|z<;>cases z
 have ow:∀b,¬own (znv (x::N').length ds) (zdi (x::N') (v::vs)) b:=λb ⟨i,d,h1,_⟩=>no i d h1
 rw[es]at ow ⊢
 refine⟨⟨?_,λi d e=>?_,λi d e=>absurd e (no i d),λi j d e a h1=>absurd h1 (no i d),Offs.same _ _,hf⟩,rfl,rfl,t,hR,λb hb=>Offs.out hb⟩
 ·show(zgn N'.length ds).length+1=(zdi N' vs).length+1
  rw[e0.len]
 ·cases i with
  | zero=>cases e
  | succ i=>
   obtain⟨u,h1,h2⟩:=e0.pl i d e
   exact⟨u,h1,Rp.same (Offs.sub λb z=>z.elim .inl λy=>absurd y (ow b)) _ h2⟩
theorem fn_r{N:List Str}{n:Nat}{F:SFr T}{t:TS}(hN:0<N.length)(hs:SSr k 0 t F){vs:List V}{H:Hp}{Q:VK}{E:XK}(h:spR k n (fnR N.length F) vs H Q E):t {nx:=λ_ H'=>Q .non H',rt:=Q} (zdi N vs) H:=by
 obtain⟨fx,v,vs',ds,R,st,d,fr,st',rfl,hn,hf,hR,ht,r,g,q⟩:=h
 have hh:=zyg (N:=N) (k:=k) hN hf hR ht r
 have mv:∀{H':Hp},Same (Offs R H) H'->(∀b,fx b->∃o,H' b=some o)->MvR R H H':=λ{H'} s l=>⟨λb o nb e=>s b o (by rw[Offs.get nb];exact e),λb o e=>by
  by_cases z:R b
  ·exact l b (hR b z)
  ·exact⟨o,s b o (by rw[Offs.get z];exact e)⟩⟩
 unfold fnR at g
 split at g
 ·rename_i d' fr' s' eo
  cases g
  refine hs fx _ _ _ H v R st _ hh _ eo λw H' s l t rt nr=>q w H' (mv s l) t ⟨rt.1,λe=>?_⟩
  obtain⟨a,g1,g2,g3⟩:=rt.2 e
  refine⟨a,g1,?_,g3⟩
  rw[Offs.get (nr e a g1)]at g2
  exact g2
 ·rename_i e' s' eo
  cases g
  exact hs fx _ _ _ H v R st _ hh _ eo λσ H' h'=>q .non H' (mv h'.ok.base h'.ok.fxs) h'.th ⟨zjw,λz=>by cases z⟩
 ·cases g
end
section
variable{J:Nat->Prop}{f:Nat}
noncomputable def SGks(J:Nat->Prop)(g:TGs)(f:GTs):Prop:=∀(fx:Addr->Prop)(H0:Hp)(env:DEnv)(σ:St)(H:Hp)(ds:List PyData)(vs:List V),EnvOk fx H0 env σ H->Rps (Offs (λa=>fx a\/own env σ a) H) ds vs->∀env',f ds env=some env'->∀Q:St->Hp->Prop,
 (∀σ',EnvOk fx H0 env' σ' H->(∀j,J j->σ'[j]?=σ[j]?)->Q σ' H)->g vs σ H Q
theorem zla:SGks J gNil zdu:=by
 intro fx H0 env σ H ds vs h r env' e Q q
 cases ds with
 | nil=>cases e;unfold Rps at r;exact⟨r,q _ h λ_ _=>rfl⟩
 | cons _ _=>cases e
theorem zdy{i:Nat}{t:TGs}{g:GTs}(hJ:¬J i)(h1:SGks J t g):SGks J (gCons (gName i) t) (zav i g):=by
 intro fx H0 env σ H ds vs h r env' e Q q
 cases ds with
 | nil=>cases e
 | cons d ds=>
  unfold Rps at r
  obtain⟨v,ws,rfl,r1,r2⟩:=r
  refine⟨v,ws,rfl,h1 fx H0 (env.set i (.pl d)) _ H ds ws (h.setPl i r1) (Rps.same (Offs.sub λb z=>z.imp (λy=>y) (zst b)) _ r2) env' e Q λσ' k1 k2=>q σ' k1 λj hj=>(k2 j hj).trans (qH λz=>hJ (by rw[z];exact hj))⟩
theorem zpl{K:qC}{n:Nat}{t:TGs}{g:GTs}(h1:SGks J t g):SGk J (gTup K n t) (gT n g):=by
 intro fx H0 env σ H d v h r env' e Q q
 unfold gT at e
 cases d with
 | tuple ds=>
  have e:(if ds.length=n then g ds env else none)=some env':=e
  split at e
  ·rename_i hn
   obtain⟨a,xs,rfl,ha,rs⟩:=zby r
   exact⟨a,xs,rfl,SqT.of (zeg ha),by rw[<- rs.length];exact hn,h1 fx H0 env σ H ds xs h rs env' e Q q⟩
  ·cases e
 | _=>cases e
end
section
variable{T:Type}{k:Kind T}{f:Nat}
noncomputable def zhp(g:GT)(t:TF)(e:EFr T)(env:DEnv):List PyData->T->Option (List PyData×T)
 | [],st=>some ([],st)
 | d::ds,st=>(g d env).bind λe1=>(t e1).bind λb=>if b=true then(e e1 st).bind λx=>(zhp g t e env ds x.2).map λy=>(x.1.d::y.1,y.2)else zhp g t e env ds st
noncomputable def zyh(own:List Str)(fr:List Nat)(it:IFr T)(g:GT)(t:TF)(e:EFr T):EFr T:=λenv st=>(it env st).bind λz=>if z.1.length<100000 then
 (zhp g t e (envB own fr env) z.1 z.2.2).map λy=>(⟨.list y.1,true,if zdj y.1=true then[]else z.2.1++capA fr env⟩,y.2)else none
theorem zaga{own:List Str}{fr:List Nat}{env:DEnv}{kk:Nat}(hk:fr[kk]?=some f)(hn:env[f]?=some .no):(envB own fr env)[own.length+kk]?=some .no:=by
 unfold envB
 rw[qp (by simp)]
 simp only[qD,qB7,qa,hk,Option.map_some]
 rw[qw,hn];rfl
theorem zabn{own:List Str}{fr:List Nat}{kk:Nat}{wi:TI}{g:TG}{tt:TT}{te:TE}{it:IFr T}{gf:GT}{t:TF}{e:EFr T}(hk:fr[kk]?=some f)(h1:SIr k f wi it)(h2:SGk (λj=>own.length<=j) g gf)(hx:GX own.length gf)(h3:ST tt t)(h4:SEr k (own.length+kk) te e) :
  SEr k f (tComp1 wi g tt te own fr) (zyh own fr it gf t e):=by
 intro fx H0 env σ H v R st hh rr st' hr Q q
 unfold zyh at hr
 obtain⟨⟨ds,bs,s0⟩,ei,hr⟩:=qA.mp hr
 split at hr
 ·rename_i hlen
  have hlen:ds.length<100000:=hlen
  obtain⟨⟨rs,sE⟩,ers,hr⟩:=qE.mp hr
  cases hr
  refine h1 fx H0 env σ H v R st hh ds bs s0 ei _ λJ H1 m0 k0 yl=>λp hp=>?_
  have pR:¬R p:=λz=>by obtain⟨o,eo⟩:=k.live k0.th p z;rw[hp]at eo;cases eo
  have hB:=zlv k0.ok (Same.refl H1) hp own fr bs
  generalize hA:(λb=>lim fx env σ (bs++capA fr env) b)=A
  have hA':∀b,lim fx env σ (bs++capA fr env) b↔A b:=λb=>by rw[<- hA]
  have eA:(λb=>lim fx env σ (bs++capA fr env) b\/b=p)=λb=>A b\/b=p:=by rw[<- hA]
  rw[eA]at hB
  have RA:∀b,R b->A b\/b=p:=λb z=>.inl ((hA' b).mp (.inl (hh.off b z)))
  have hB:Has k (own.length+kk) (λb=>A b\/b=p) (Offs R H1) (envB own fr env) (tau own fr σ) (upd H1 p (.lst [])) v R s0:=⟨hB.unbase (Offs.same _ _),zaga hk hh.no,zsu hk hh.sl,k.stay k0.th λb o z eo=>by rw[zar λy=>pR (by rw[<- y];exact z)];exact eo,RA,λb z=>Offs.out z⟩
  have nA:¬A p:=λz=>by
   obtain⟨o,eo⟩:=k0.ok.lims _ p ((hA' p).mpr z)
   rw[hp]at eo;cases eo
  have seen:∀{σ':St}{H':Hp}{s':T},Has k (own.length+kk) (λb=>A b\/b=p) (Offs R H1) (envB own fr env) σ' H' v R s'->Same (Offs (λb=>fx b\/L2.own (frzs env bs) σ b) H1) (Offs (λb=>A b\/b=p) H'):=λ{σ' H' s'} hE b o eb=>by
   obtain⟨n,eb⟩:=Offs.of eb
   have hb:H' b=some o:=hE.ok.base b o (by rw[Offs.get λz=>n (.inl (hh.off b z))];exact eb)
   rw[Offs.get]
   ·exact hb
   ·rintro(z|z)
    ·rcases(hA' b).mpr z with z|⟨i,d,z1,z2,z3⟩
     ·exact n (.inl z)
     ·exact n (.inr ⟨i,d,zkx (λy=>z1 (qAQ _ y)) z2,z3⟩)
    ·rw[z,hp]at eb;cases eb
  refine⟨λi m σ' H'=>m=ds.length - i/\i<=ds.length/\∃vs done rest s',H' p=some (.lst vs)/\Rps (Offs (λb=>A b\/b=p) H') done vs/\done.length<=i/\zhp gf t e (envB own fr env) (ds.drop i) s'=some (rest,sE)/\done++rest=rs/\Has k (own.length+kk) (λb=>A b\/b=p) (Offs R H1) (envB own fr env) σ' H' v R s',
   ⟨ds.length,rfl,qAH _,[],[],rs,s0,zan,zbf,qAH _,ers,rfl,hB⟩,?_⟩
  rintro i m σ' H' ⟨rfl,hi,vs,done,rest,s',ep,rd,dl,ec,edr,hE⟩
  obtain⟨yi,ys⟩:=yl _ H' hE.ok.fxs (seen hE)
  by_cases hlt:i<ds.length
  ·obtain⟨yg,yy⟩:=yi i ds[i] (qO hlt)
   refine .inr ⟨yg,λσ'' H''=>i+1<=ds.length/\∃vs done rest s'',H'' p=some (.lst vs)/\Rps (Offs (λb=>A b\/b=p) H'') done vs/\done.length<=i+1/\zhp gf t e (envB own fr env) (ds.drop (i+1)) s''=some (rest,sE)/\done++rest=rs/\Has k (own.length+kk) (λb=>A b\/b=p) (Offs R H1) (envB own fr env) σ'' H'' v R s'',?_,?_⟩
   ·rintro σ'' H'' ⟨hle,hq⟩
    exact⟨ds.length - (i+1),by omega,rfl,hle,hq⟩
   ·intro x H'' hy
    obtain⟨sy,ry⟩:=yy x H'' hy
    rw[qAZ hlt]at ec
    obtain⟨e1,ee1,ec⟩:=qA.mp ec
    obtain⟨b,eb,ec⟩:=qA.mp ec
    have ry':Rp (Offs (λa=>(A a\/a=p)\/L2.own (envB own fr env) σ' a) H'') ds[i] x:=Rp.same (Offs.sub λb z=>z.elim (λy=>y) λ⟨j,d',z,_⟩=>absurd z zge) _ ry
    have hU:=hE.up sy
    obtain⟨gl,gk⟩:=hx _ _ _ ee1
    refine h2 _ (Offs R H1) (envB own fr env) σ' H'' _ x hU.ok ry' e1 ee1 _ λσ2 hE2 k2=>?_
    refine h3 _ (Offs R H1) e1 σ2 H'' hE2 b eb _ λH3 s3=>?_
    have hE3:Has k (own.length+kk) (λb=>A b\/b=p) (Offs R H1) e1 σ2 H3 v R s':=⟨hE2.up s3,by rw[gk _ (by omega)];exact hU.no,(k2 _ (by omega)).trans hU.sl,(hU.up s3).th,hU.off,hU.low⟩
    have back:∀{H4:Hp}{s4:T},Has k (own.length+kk) (λb=>A b\/b=p) (Offs R H1) e1 σ2 H4 v R s4->Has k (own.length+kk) (λb=>A b\/b=p) (Offs R H1) (envB own fr env) σ2 H4 v R s4:=λ{H4 s4} hq=>⟨hq.ok.weaken gl.symm (λj d' ej=>by
     by_cases hj:own.length<=j
     ·rw[gk j hj];exact ej
     ·obtain⟨_,k,rfl,_⟩:=zky ej;omega) λj d'=>zge,hU.no,hq.sl,hq.th,hq.off,hq.low⟩
    cases b with
    | false=>
     have ec:zhp gf t e (envB own fr env) (ds.drop (i+1)) s'=some (rest,sE):=ec
     exact iteF ⟨hlt,vs,done,rest,s',s3 _ _ (sy _ _ ep),Rps.same (Offs.grow (sy.trans s3)) _ rd,qBj dl,ec,edr,back hE3⟩
    | true=>
     have ec:((e e1 s').bind λx=>(zhp gf t e (envB own fr env) (ds.drop (i+1)) x.2).map λy=>(x.1.d::y.1,y.2))=some (rest,sE):=ec
     obtain⟨⟨r,s4⟩,er,ec⟩:=qA.mp ec
     obtain⟨⟨rest',sE'⟩,er',ec⟩:=qE.mp ec
     cases ec
     refine iteT (h4 _ (Offs R H1) e1 σ2 H3 v R s' hE3 r s4 er _ λw H4 m4 k4 hv=>?_)
     have t3:=sy.trans s3
     have ep4:H4 p=some (.lst vs):=m4.keep p _ pR (t3 _ _ ep)
     have so:Same (Offs (λb=>A b\/b=p) H') (Offs (λb=>A b\/b=p) H4):=λb o eb=>by
      obtain⟨n,eb⟩:=Offs.of eb
      rw[Offs.get n]
      exact m4.keep b o (λz=>n (RA b z)) (t3 _ _ eb)
     have k5:=back k4
     refine⟨vs,ep4,zgd (by rw[<- rd.length];omega),hlt,vs++[w],done++[r.d],rest',s4,zan,?_,by rw[qF];simp;omega,er',by rw[<- edr];simp,⟨k5.ok.updFx (.inr rfl) (by rw[Offs.get pR];exact hp),k5.no,k5.sl,k.stay k5.th λb o z eo=>by rw[zar λy=>pR (by rw[<- y];exact z)];exact eo,k5.off,k5.low⟩⟩
     rw[Offs.upd (.inr rfl)]
     exact(Rps.same so _ rd).append (zbc (Rp.same (Offs.sub λb z=>.inl z) _ hv.rp) zbf)
  ·have hi':i=ds.length:=by omega
   subst hi'
   rw[qAt]at ec
   cases ec
   rw[qx]at edr
   subst edr
   have m1:MvR R H1 H':=⟨λb o n eb=>hE.ok.base b o (by rw[Offs.get n];exact eb),λb o eb=>by
    by_cases z:R b
    ·exact k.live hE.th b z
    ·exact⟨o,hE.ok.base b o (by rw[Offs.get z];exact eb)⟩⟩
   refine .inl ⟨ys,q _ H' (m0.trans m1) (k0.mv m1 hE.th) ⟨?_,λ_=>⟨p,rfl,m0.free hp,?_⟩⟩⟩
   ·show Rp (Offs (lim fx env σ (if zdj done=true then[]else bs++capA fr env)) H') (.list done) (.ref p)
    have nl:∀cs,¬lim fx env σ cs p:=λcs z=>by
     obtain⟨o,eo⟩:=k0.ok.lims _ p z
     rw[hp]at eo;cases eo
    refine zcy (by rw[Offs.get (nl _)];exact ep) ?_
    split
    ·rename_i f;exact zhn f rd
    ·exact Rps.same (Offs.sub λb z=>.inl ((hA' b).mp z)) _ rd
   ·show zfm (Offs (λb=>lim fx env σ (if zdj done=true then[]else bs++capA fr env) b\/b=p) H') H' p (.list done)
    refine⟨vs,ep,?_⟩
    split
    ·rename_i f;exact zhn f rd
    ·exact Rps.same (Offs.sub λb z=>z.elim (λy=>.inl ((hA' b).mp y)) .inr) _ rd
 ·cases hr
end
noncomputable def zane(K:qC)(H:Hp)(v:V)(R:Addr->Prop)(ns:List Int):Prop:=∃a,v=.ref a/\(∀b,R b->b=a/\∃o,H b=some o)/\SqL K H a (ns.map .int)/\(R a\/∀H',SqL K H' a (ns.map .int))
theorem zajy{K:qC}{H:Hp}{a:Addr}{ns:List Int}(h:SqL K H a (ns.map .int)):∃R:Addr->Prop,(∀b,R b->∃o,H b=some o)/\zane K H (.ref a) R ns:=by
 rcases h with(h|⟨o,h⟩)|h
 ·have l:∀b,b=a->∃o,H b=some o:=λb hb=>⟨_,hb▸h⟩
  exact⟨λb=>b=a,l,a,rfl,λb hb=>⟨hb,l b hb⟩,.inl (.inl h),.inl rfl⟩
 ·have l:∀b,b=a->∃o,H b=some o:=λb hb=>⟨_,hb▸h⟩
  exact⟨λb=>b=a,l,a,rfl,λb hb=>⟨hb,l b hb⟩,.inl (.inr ⟨o,h⟩),.inl rfl⟩
 ·exact⟨λ_=>False,λb hb=>hb.elim,a,rfl,λb hb=>hb.elim,.inr h,.inr λ_=>.inr h⟩
noncomputable abbrev zajz(xs:List Str):Str:=Builtin.Str.glued "" xs
theorem zqv:∀{xs:List Str}{us:List Value},Vals (xs.map V.str) us->∃l:List (Str×Tok),us=strValues l/\l.map (·.1)=xs
 | [],us,h=>by cases h;exact⟨[],rfl,rfl⟩
 | x::xs,us,h=>by
  cases h with
  | cons r h=>
   obtain⟨t,rfl⟩:=r
   obtain⟨l,rfl,rfl⟩:=zqv h
   exact⟨(x,t)::l,rfl,rfl⟩
noncomputable def zvr:PyData->Option PyData
 | .list ds=>(unT ds).bind λxs=>if xs.foldl (λn z=>n+z.length+0) 0<=100000/\(zajz xs).length<=100000 then some (.str (zajz xs))else none
 | _=>none
where unT:List PyData->Option (List Str)
 | []=>some []
 | .str x::r=>(unT r).map λxs=>x::xs
 | _::_=>none
theorem zue:∀{ds:List PyData}{xs:List Str},zvr.unT ds=some xs->ds=xs.map .str
 | [],xs,h=>by cases h;rfl
 | d::r,xs,h=>by
  cases d with
  | str x=>
   obtain⟨ys,hy,rfl⟩:=qE.mp h
   rw[zue hy];rfl
  | _=>cases h
theorem zlz{H:Hp}:∀{cs:List Str}{xs:List V},Rps H (cs.map .str) xs->xs=cs.map .str
 | [],xs,h=>by unfold Rps at h;exact h
 | c::cs,xs,h=>by
  rw[ql]at h
  unfold Rps at h
  obtain⟨v,vs,rfl,h1,h2⟩:=h
  rw[zes h1,zlz h2];rfl
theorem zjg{J:Nat->Prop}{i:Nat}:SSk J (tRet (tVar i)) (zjy i):=λfx H0 env σ H D h o e q=>zafm fx H0 env σ H D h o e (by
 unfold zjy at e
 split at e
 ·cases e;exact q
 ·cases e;exact q
 ·cases e)
theorem zlb{f m:Nat}{g:GTs}(h:∀ds env env',g ds env=some env'->env[f]?=some .no->env'[f]?=some .no):GTno f (gT m g):=λd env env' e hn=>by
 unfold gT at e
 cases d with
 | tuple ds=>
  have e:(if ds.length=m then g ds env else none)=some env':=e
  split at e
  ·exact h ds env env' e hn
  ·cases e
 | _=>cases e
theorem zlc{f:Nat}:∀ds env env',zdu ds env=some env'->env[f]?=some Sl.no->env'[f]?=some .no:=λds env env' e hn=>by
 cases ds with
 | nil=>cases e;exact hn
 | cons _ _=>cases e
theorem zdz{f i:Nat}{g:GTs}(hi:i≠f)(h:∀ds env env',g ds env=some env'->env[f]?=some .no->env'[f]?=some .no):∀ds env env',zav i g ds env=some env'->env[f]?=some Sl.no->env'[f]?=some .no:=λds env env' e hn=>by
 cases ds with
 | nil=>cases e
 | cons d ds=>exact h ds _ env' e (by rw[qH hi];exact hn)
section
variable{T:Type}{k:Kind T}{f:Nat}
noncomputable def zyi(i:Nat)(gk gv:EFr T):SFr T:=λenv st=>match env[i]? with
 | some (.ac (.list ds))=>(gv env st).bind λx=>(gk env x.2).bind λy=>(match y.1.d with
  | .int z=>(ixN ds.length z).bind λj=>if i∉x.1.bs then some (.nx ((frzs env x.1.bs).set i (.ac (.list (ds.set j x.1.d)))) y.2)else none
  | _=>none)
 | _=>none
theorem zabo{i:Nat}{tk tv:TE}{gk gv:EFr T}(h1:SEr k f tk gk)(h2:SEr k f tv gv):SSr k f (tAsg tv (gSub (tVar i) tk zaas)) (zyi i gk gv):=by
 intro fx H0 env σ H v R st D hh o e q
 unfold zyi at e
 split at e
 ·rename_i ds ei
  obtain⟨⟨r,s1⟩,er,e⟩:=qA.mp e
  obtain⟨⟨⟨kd,kf,kb⟩,s2⟩,ek,e⟩:=qA.mp e
  cases kd with
  | int z=>
   obtain⟨j,ej,e⟩:=qA.mp e
   split at e
   ·rename_i hl
    cases e
    have hif:i≠f:=λz=>by rw[z,hh.no]at ei;cases ei
    obtain⟨a,g1,g2,g3,g4⟩:=hh.ok.ac i _ ei
    refine h2 fx H0 env σ H v R st hh r s1 er _ λw H1 m1 k1 hv=>⟨_,g1,h1 fx H0 env σ H1 v R s1 k1 _ s2 ek _ λu H2 m2 k2 hk=>?_⟩
    cases zcb hk.rp
    have hv2:=hh.val m2 (k.live hh.th) hv
    have h':=k2.ok.frzs r.bs
    have ei':=zkx hl ei
    obtain⟨a',z1,_,z3,z4⟩:=h'.ac i _ ei'
    rw[g1]at z1
    cases z1
    obtain⟨xs,hx',rx'⟩:=z4
    refine⟨a,xs,z,j,rfl,rfl,hx',by rw[<- rx'.length];exact ej,?_⟩
    refine q σ _ ⟨h'.mut ei' g1 ⟨_,zan,rx'.setAt (Rp.same (Offs.sub zgw) _ hv2.rp) j⟩,?_,hh.sl,k.stay k2.th λb o hb eb=>?_,hh.off,hh.low⟩
    ·rw[qH hif];exact zka _ hh.no
    ·rw[zar λz=>g3 (by rw[<- z];exact hh.off b hb)];exact eb
   ·cases e
  | _=>cases e
 ·cases e
end
noncomputable def zaka(i j:Int):Prop:=0<=j/\j<=1000/\i.natAbs<2 ^ 1000
theorem zgh{X:Cx}:OpR X (binaryOp .Pow) (rI zaka λi j=>.int (i ^ j.toNat)):=opI λi j _ _ _ _ _ hc q=>pow_int hc.1 (by
 have hb:Builtin.Int.intBits i<=1000:=intBits_le hc.2.2
 have h0:(0:Int)<=j:=hc.1
 have hj:j<=1000:=hc.2.1
 have h1:(Builtin.Int.intBits i:Int) * j<=1000 * j:=Int.mul_le_mul_of_nonneg_right (by omega) h0
 omega) q
noncomputable def powB:OF:=intD (λi j=>decide (0<=j/\j<=1000)&&decide (i.natAbs<2 ^ 1000)) λi j=>.int (i ^ j.toNat)
theorem zgi:SO (rI zaka λi j=>.int (i ^ j.toNat)) powB:=zxr (λi j h=>by
 rw[qk]at h
 exact⟨(of_decide_eq_true h.1).1,(of_decide_eq_true h.1).2,of_decide_eq_true h.2⟩) λ_ _ _=>zaa
section
variable{T:Type}
theorem zek{a b:SFr T}{env e1:DEnv}{st s1:T}{o:Option (OutR T)}(h:a env st=some (.nx e1 s1))(k:b e1 s1=o):rSeq a b env st=o:=by unfold rSeq;rw[h];exact k
theorem zsx{a b:SFr T}{env:DEnv}{st s1:T}{d:PyData}{fr:Bool}(h:a env st=some (.rt d fr s1)):rSeq a b env st=some (.rt d fr s1):=by unfold rSeq;rw[h];rfl
theorem ziv{i:Nat}{g:EFr T}{env:DEnv}{st s1:T}{r:Val}(h:g env st=some (r,s1)):rSet i g env st=some (.nx (putV env i r) s1):=by unfold rSet;rw[h];rfl
theorem zsy{g:EFr T}{env:DEnv}{st s1:T}{d:PyData}{fr:Bool}{bs:List Nat}(h:g env st=some (⟨d,fr,bs⟩,s1)):rRet g env st=some (.rt d fr s1):=by unfold rRet;rw[h];rfl
theorem zagb{c:TFr T}{a b:SFr T}{env:DEnv}{st s1:T}{o:Option (OutR T)}(h:c env st=some (true,s1))(k:a env s1=o):rIf c a b env st=o:=by unfold rIf;rw[h];exact k
theorem zagc{c:TFr T}{a b:SFr T}{env:DEnv}{st s1:T}{o:Option (OutR T)}(h:c env st=some (false,s1))(k:b env s1=o):rIf c a b env st=o:=by unfold rIf;rw[h];exact k
theorem zer{g:EF}{env:DEnv}{st:T}{r:Val}(h:g env=some r):zak g env st=some (r,st):=by unfold zak;rw[h];rfl
theorem zuf{c:TF}{env:DEnv}{st:T}{b:Bool}(h:c env=some b):zjf c env st=some (b,st):=by unfold zjf;rw[h];rfl
theorem znw{w:OF}{a b:EFr T}{env:DEnv}{st s1 s2:T}{x y:Val}{d:PyData}{fr:Bool}(h1:a env st=some (x,s1))(h2:b env s1=some (y,s2))(h3:w x.d y.d=some (d,fr)):rOp w a b env st=some (⟨d,fr,bsOf d (x.bs++y.bs)⟩,s2):=by unfold rOp;rw[h1];show((b env s1).bind _)=_;rw[h2];show((w x.d y.d).bind _)=_;rw[h3];rfl
theorem zabp{a:EFr T}{g:AFr T}{env:DEnv}{st s1 s2:T}{x:Val}{xs:List Val}(h1:a env st=some (x,s1))(h2:g env s1=some (xs,s2)):zaz a g env st=some (x::xs,s2):=by unfold zaz;rw[h1];show((g env s1).bind _)=_;rw[h2];rfl
theorem zyj{n:Nat}{g:GR T}{a:AFr T}{env:DEnv}{st s1 s2:T}{rs:List Val}{d:PyData}{fr:Bool}(h:a env st=some (rs,s1))(hn:rs.length+1=n)(k:g (zcu rs) s1=some (d,fr,s2)):zbb n g a env st=some (⟨d,fr,bsOf d (bss rs)⟩,s2):=by unfold zbb;rw[h];show(if rs.length+1=n then _ else _)=_;rw[if_pos hn,k];rfl
theorem zyk{n:Nat}{F:SFr T}{ds:List PyData}{env:DEnv}{st s1:T}{d:PyData}{fr:Bool}(h:znv n ds=env)(e:F env st=some (.rt d fr s1)):fnR n F ds st=some (d,fr,s1):=by unfold fnR;rw[h,e]
end
noncomputable def xcIn(K:qC)(C:Addr):Bool:=match K.lookup C with
 | some ⟨.type "type",_,.cls cd,sl⟩=>(match cd.mro,sl.toList with
  | .ref C'::bm,[_,_,_,_,some (.builtin n),_]=>C'==C&&!cd.hasDel&&cd.hasDict&&n=="ValueError.__new__"&&bm.contains (.type "ValueError")&&bm.contains (.type "BaseException")&&!bm.contains (.type "AttributeError")&&!bm.contains (.type "NameError")
  | _,_=>false)
 | _=>false
theorem zakb{K:qC}{h:Heap}{C:Addr}(X:K.In h)(q:xcIn K C=true):∃nm qn N bs bm sn sub ab col dd k0 k1 k2 k3 k5,
  h.get? C=some (excClassObj nm qn C N bs bm true sn sub ab col dd k0 k1 k2 k3 k5 "ValueError.__new__")/\(Value.ref C::bm).contains (.type "ValueError")=true/\(Value.ref C::bm).contains (.type "BaseException")=true/\(Value.ref C::bm).contains (.type "AttributeError")=false/\(Value.ref C::bm).contains (.type "NameError")=false:=by
 unfold xcIn at q
 split at q
 ·rename_i dd cd sl ho
  split at q
  ·rename_i C' bm k0 k1 k2 k3 n k5 hm hs
   simp only[qk,beq_iff_eq,Bool.not_eq_true']at q
   obtain⟨⟨⟨⟨⟨⟨⟨rfl,hdel⟩,hdc⟩,rfl⟩,hv⟩,hb⟩,ha⟩,hn⟩:=q
   obtain⟨nm,bs,mro,ns,qn,hd,sn,sub,ab,col,del⟩:=cd
   dsimp only at hm hdel hdc
   subst hm hdel hdc
   have hsl:sl=#[k0,k1,k2,k3,some (.builtin "ValueError.__new__"),k5]:=by
    obtain⟨l⟩:=sl
    simp only at hs
    rw[hs]
   subst hsl
   refine⟨nm,qn,ns,bs,bm,sn,sub,ab,col,dd,k0,k1,k2,k3,k5,X _ _ ho,?_,?_,?_,?_⟩
   ·rw[qu,hv,qAf]
   ·rw[qu,hb,qAf]
   ·rw[qu,ha];rfl
   ·rw[qu,hn];rfl
  ·cases q
 ·cases q
end L2
namespace PySem
open Sem (wp)
section
variable{prog:Program}{w:World}{A:Around}{E:Value->Shared->Prop}{h:Heap}{g:Array GenState}{d:Drawn}{t:Nat}{os:OsState}
variable{nm q:Str}{C N:Addr}{bs bm:List Value}{sn:List Str}{sub:List Value}{ab:Bool}{col:Option Bool}{dd:Option Addr}{k0 k1 k2 k3 k5:Option Value}
theorem zvs{M:Model}{rest:List Value}{Q:Unit->Shared->Prop}(hC:h.get? C=some (excClassObj nm q C N bs bm true sn sub ab col dd k0 k1 k2 k3 k5 "ValueError.__new__"))(hv:(Value.ref C::bm).contains (.type "ValueError")=true)
  (hq:Q () ⟨h,g,d,t,os⟩):wpAny M A (checkBuiltinCall "ValueError.__new__" ⟨.ref C::rest,[]⟩) Q E ⟨h,g,d,t,os⟩:=by
 have F:=qA0
 have f0:=F.noStar
 simp only[checkBuiltinCall,F.newKind,F.newSplit,F.newRow]
 repeat (first|refine qY hC ?_|(refine qAP hC ?_;rw[hv])|refine wpAny_staticBase_exc hC ?_|refine wpAny_madeBy_exc hC ?_|simp only[bne_self_eq_false,qA2,if_false]|wp_step)
 exact hq
theorem zyl{rest:List Value}{R:Result->Shared->Prop}(hC:h.get? C=some (excClassObj nm q C N bs bm true sn sub ab col dd k0 k1 k2 k3 k5 "ValueError.__new__"))(hv:(Value.ref C::bm).contains (.type "ValueError")=true)(ha:(Value.ref C::bm).contains (.type "AttributeError")=false)(hn:(Value.ref C::bm).contains (.type "NameError")=false)
  (hq:R (.ok (.ret (.ref (h.objs.size+1)))) ⟨(h.push {cls:=.type "tuple",data:=.seq rest.toArray}).push {cls:=.ref C,data:=.fields #[.ref h.objs.size,.none,.none,.none,.bool false,.none]},g,d,t,os⟩) (hr:rest.length<=qQ) :
  codeAny (model prog w) A (.builtin "ValueError.__new__" ⟨.ref C::rest,[]⟩) R ⟨h,g,d,t,os⟩:=by
 have F:=qA0
 have f0:=F.ends
 refine codeAny_builtinAt F.entry ?_
 unfold Builtin.«BaseException.__new__»
 refine wpAt_bind ?_
 show wpAt _ _ _ (stack >>=_) _ _ _
 refine wpAt_bind (wpAt_stack λp below=>wpAt_of_wpAny ?_)
 wp_walk
 refine wpAt_of_wpAny ?_
 rw[F.owner]
 repeat (first|with_reducible refine wpAny_madeHere_exc F.canon hC ?_|with_reducible refine qY hC ?_|(with_reducible refine qAP hC ?_;first|rw[hv]|rw[ha]|rw[hn])|wp_step)
 show R _ _
 rw[qBQ]
 exact hq
theorem zanf{rest:List Value}{fI:Addr}{oI:Obj}{Q:Value->Shared->Prop}(hC:h.get? C=some (excClassObj nm q C N bs bm true sn sub ab col dd k0 k1 k2 k3 k5 "ValueError.__new__"))(hv:(Value.ref C::bm).contains (.type "ValueError")=true)(ha:(Value.ref C::bm).contains (.type "AttributeError")=false)(hn:(Value.ref C::bm).contains (.type "NameError")=false)
  (LI:W.Looks (model prog w) h (typeLookup (.ref C) "__init__") (some (.ref fI)))(hfI:h.get? fI=some oI)(hfc:oI.cls=.type "function")(hr:rest.length<=qQ)
  (hq:∀h' e,Heap.MadeExcOf h h' e (.ref C) rest->wpAny (model prog w) (A.under (.builtin "type.__call__" ⟨.ref C::rest,[]⟩)) (call (.ref fI) (.ref e::rest)) (λr s'=>r=.none/\Q (.ref e) s') E ⟨h',g,d,t,os⟩) :
  wpAny (model prog w) A (call (.ref C) rest) Q E ⟨h,g,d,t,os⟩:=by
 have F:=qA0
 have f1:=tc_lookup
 have f2:=tc_bind (.ref C)
 have hT:(⟨h,g,d,t,os⟩:Shared).TypeIs (.ref C) "type":=⟨_,hC,rfl⟩
 refine qBw (codeAny_of_tree ?_)
 show wpAny _ _ (callAny (.ref C) _) _ _ _
 repeat (any_goals (first|assumption|with_reducible refine qY hC ?_|wp_step))
 refine⟨rfl,?_⟩
 refine codeAny_call_builtin_at (qBb _ (by decide +kernel)) entry_typeCall (wpAny_check_type_call_sub hC ?_)
 repeat (first|with_reducible refine qY hC ?_|with_reducible refine wpAny_madeBy_exc hC ?_|wp_step)
 refine codeAny_call_builtin_code (qBb _ F.quiet) (zvs hC hv ?_)
 refine zyl hC hv ha hn ?_ hr
 show wpAny _ _ _ _ _ _
 have kp:∀b o,h.get? b=some o->((h.push {cls:=.type "tuple",data:=.seq rest.toArray}).push {cls:=.ref C,data:=.fields #[.ref h.objs.size,.none,.none,.none,.bool false,.none]}).get? b=some o:=λb o e=>qI _ (qI _ e)
 have hC1:=kp _ _ hC
 have he:((h.push {cls:=.type "tuple",data:=.seq rest.toArray}).push {cls:=.ref C,data:=.fields #[.ref h.objs.size,.none,.none,.none,.bool false,.none]}).get? (h.objs.size+1)=some {cls:=.ref C,data:=.fields #[.ref h.objs.size,.none,.none,.none,.bool false,.none]}:=by heap_get
 have hcC:(Value.ref C::bm).contains (.ref C)=true:=by simp
 unfold isInstance
 repeat (first|with_reducible refine qY he ?_|(refine qAP hC1 ?_;rw[hcC])|wp_step)
 show wpAny _ _ (typeLookup (.ref C) _) _ _ _
 refine(LI.keeps kp).here ?_
 refine qBq (qV ?_)
 unfold bindSpecial
 refine qV (wpAny_typeOf (T:="function") ⟨_,kp _ _ hfI,hfc⟩ ?_)
 rw[if_pos (by decide)]
 refine qv (qV (qA4 (hq _ (h.objs.size+1) ⟨kp,qBO (Nat.le_succ _),h.objs.size,he,qBO (qJ _),?_⟩) (λr s' hh=>?_) λ_ _ x=>x))
 ·exact qI _ (Heap.get?_push_at rfl rfl)
 ·obtain⟨rfl,hQ⟩:=hh
  wp_walk
  exact hQ
end
open Builtin Builtin.ObjectAttr
noncomputable def vmro:List Value:=[.type "ValueError",.type "Exception",.type "BaseException",.type "object"]
noncomputable def zda:List Value->Bool
 | .ref _::r=>zda r
 | l=>l==vmro
theorem zjh(self:Value)(what:Str):∀{l:List Value},zda l=true->refuseLoop self what l=refuseLoop self what vmro
 | [],h=>by cases h
 | v::r,h=>by
  cases v with
  | ref a=>rw[refuseLoop_ref];exact zjh self what h
  | _=>rw[eq_of_beq (show(_==vmro)=true from h)]
theorem zcg{T:Value}(hT:vmro.contains T=true):∀{l:List Value},zda l=true->l.contains T=true
 | [],h=>by cases h
 | v::r,h=>by
  cases v with
  | ref a=>rw[qu,zcg hT (l:=r) h,qAf]
  | _=>rw[eq_of_beq (show(_==vmro)=true from h)];exact hT
section
variable{prog:Program}{w:World}{A:Around}{E:Value->Shared->Prop}{h:Heap}{g:Array GenState}{d:Drawn}{t:Nat}{os:OsState}
variable{nm q:Str}{C N x:Addr}{bs bm:List Value}{sn:List Str}{sub:List Value}{ab:Bool}{col:Option Bool}{dd:Option Addr}{k0 k1 k2 k3 k5:Option Value}{newId:String}{name:Str}{v:Value}
theorem zqw{M:Model}{o:Obj}{nameV:Value}{Q:Unit->Shared->Prop}(hr:zda bm=true)
  (hC:h.get? C=some (excClassObj nm q C N bs bm true sn sub ab col dd k0 k1 k2 k3 k5 newId))(hx:h.get? x=some o)(hc:o.cls=.ref C)(hq:Q () ⟨h,g,d,t,os⟩) :
  wpAny M A (checkBuiltinCall "object.__setattr__" ⟨[.ref x,nameV,v],[]⟩) Q E ⟨h,g,d,t,os⟩:=by
 have SF:=qBl
 have hcB:(Value.ref C::bm).contains (.type "object")=true:=by rw[qu,zcg (by decide) hr,qAf]
 have ha:=SF.args (.ref x) nameV v
 simp only[checkBuiltinCall,SF.kind,SF.split]
 refine qV ?_
 ·unfold isInstance
  repeat (first|(with_reducible refine qY hx ?_;rw[hc])|(with_reducible refine qAP hC ?_;rw[hcB])|wp_step)
  exact hq
theorem zqx{tk:Tok}{Q:Fin->Shared->Prop}{o:Obj}(hr:zda bm=true)
  (hC:h.get? C=some (excClassObj nm q C N bs bm true sn sub ab col dd k0 k1 k2 k3 k5 newId))(hx:h.get? x=some o)(hc:o.cls=.ref C)(hnc:∀c,o.data≠.cls c)(hdn:o.dict=none)
  (LA:W.Looks (model prog w) h (typeLookup (.ref C) name) none)
  (hq:∀h' tk' dx,h.objs.size<=dx->h'.Ns1 dx (λy=>if y=name then some v else none)->h'.get? x=some {o with dict:=some dx}->
   (∀b o,b≠x->h.get? b=some o->h'.get? b=some o)->Q (.done (.ret .none)) ⟨h',g,d,tk',os⟩) :
  wpAny (model prog w) A (Builtin.«object.__setattr__» ⟨[.ref x,.str name tk,v],[]⟩) Q E ⟨h,g,d,t,os⟩:=by
 have SF:=qBl
 have hpass:refuseLoop (.ref x) "__setattr__" bm=pure ():=by rw[zjh _ _ hr];exact SF.passes (.ref x)
 unfold Builtin.«object.__setattr__»
 repeat (first|rw[refuse_eq]|(rw[refuseLoop_ref,hpass])|(with_reducible refine qY hx ?_;rw[hc])|with_reducible refine wpAny_mroOf_exc hC ?_|(with_reducible refine LA.here ?_)|wp_step)
 rw[hdn,if_neg (by simp[typeHasDict])]
 split
 ·rename_i hcd
  cases hcd
 split
 ·rename_i c hcd
  exact absurd hcd (hnc c)
 ·have hx₁:(h.push {cls:=.type "dict",data:=.dict #[]}).get? x=some o:=qI _ hx
  have hxs:x≠h.objs.size:=qAI (qP hx)
  refine qV (wpAny_alloc' ?_)
  refine qV (wpAny_update' hx₁ ?_)
  refine qv ?_
  have hgd:((h.push {cls:=.type "dict",data:=.dict #[]}).update x λo=>{cls:=o.cls,dict:=some h.objs.size,data:=o.data,slots:=o.slots}).get? h.objs.size
    = some {cls:=.type "dict",data:=.dict #[]}:=
   (qCM _ _ _ _ hxs.symm).trans (Heap.get?_push_at rfl rfl)
  have hnd:((h.push {cls:=.type "dict",data:=.dict #[]}).update x λo=>{cls:=o.cls,dict:=some h.objs.size,data:=o.data,slots:=o.slots}).Ns h.objs.size (λ_=>none):=
   ⟨_,#[],_,hgd,rfl,λe he=>absurd he (by simp),λ_=>rfl⟩
  show wpAny _ _ (storeInDict h.objs.size (.str name tk) name v) _ _ _
  unfold storeInDict newKeyGuard
  refine qV (qv (qV (wpAny_nsSet1EFk (Heap.Ns1.of_empty hnd) λh' hn' hs hkeepD=>?_)))
  obtain⟨oD,esD,epD,hoD,hdD,hcD⟩:=hn'.count (Within.cons name v Within.nil)
  refine qV (wpAny_lookBehind hoD (by rw[hdD];exact pastItsLine_dict (qf hcD (by rw[qo,List.length_nil,qAL];omega))) ?_)
  wp_walk
  refine hq h' _ h.objs.size (qJ _) hn' ?_ (λb ob hbx hb=>?_)
  ·refine(hs.2 x hxs).trans (qAT _ hx₁ ?_)
   have hfr:=(Heap.get?_some_iff.mp hx).2
   obtain⟨oc,od,odt,osl⟩:=o
   cases odt<;>first|rfl|exact hfr
  ·exact(hs.2 b (qAI (qP hb))).trans ((qCM _ _ _ _ hbx).trans (qI _ hb))
theorem zakc{Q:Unit->Shared->Prop}{o:Obj}(hr:zda bm=true)
  (hC:h.get? C=some (excClassObj nm q C N bs bm true sn sub ab col dd k0 k1 k2 k3 k5 newId))(hx:h.get? x=some o)(hc:o.cls=.ref C)(hnc:∀c,o.data≠.cls c)(hdn:o.dict=none)
  (LS:W.Looks (model prog w) h (typeLookup (.ref C) "__setattr__") (some (.builtin "object.__setattr__")))(LA:W.Looks (model prog w) h (typeLookup (.ref C) name) none)
  (hq:∀h' tk' dx,h.objs.size<=dx->h'.Ns1 dx (λy=>if y=name then some v else none)->h'.get? x=some {o with dict:=some dx}->
   (∀b o,b≠x->h.get? b=some o->h'.get? b=some o)->Q () ⟨h',g,d,tk',os⟩) :
  wpAny (model prog w) A (setAttr (.ref x) name v) Q E ⟨h,g,d,t,os⟩:=by
 have SF:=qBl
 have f3:=SF.slot.bind (.ref x)
 unfold setAttr callSpecial? specialOf
 repeat (any_goals (first|assumption|(with_reducible refine qY hx ?_;rw[hc])|(with_reducible refine LS.here ?_)|wp_step))
 refine qAk SF.slot.plain SF.entry (zqw hr hC hx hc (zqx hr hC hx hc hnc hdn LA λh' tk' dx a1 a2 a3 a4=>?_))
 repeat (any_goals (first|assumption|wp_step))
 exact hq h' tk' dx a1 a2 a3 a4
theorem zang{Q:Value->Shared->Prop}{o:Obj}{dx:Addr}{vs:Array Value}{mA:Str->Option Value}{expr:Bool}(hr:zda bm=true)
  (hC:h.get? C=some (excClassObj nm q C N bs bm true sn sub ab col dd k0 k1 k2 k3 k5 newId))(hx:h.get? x=some o)(hc:o.cls=.ref C)(hd:o.data=.fields vs)(hdd:o.dict=some dx)
  (hns:h.Ns dx mA)(hv:mA name=some v)
  (LG:W.Looks (model prog w) h (typeLookup (.ref C) "__getattribute__") (some (.builtin "BaseException.__getattribute__")))(LH:W.Looks (model prog w) h (typeLookup (.ref C) "__getattr__") none)(LA:W.Looks (model prog w) h (typeLookup (.ref C) name) none)
  (hh:W.handedIn v=true)(hq:∀tk',Q v ⟨h,g,d,tk',os⟩) :
  wpAny (model prog w) A (getAttr (.ref x) name expr) Q E ⟨h,g,d,t,os⟩:=by
 have hk:builtinKind "BaseException.__getattribute__"=some .slot:=by decide +kernel
 have hsplit:splitId "BaseException.__getattribute__"=some ("BaseException","__getattribute__"):=by decide +kernel
 have hcB:(Value.ref C::bm).contains (.type "BaseException")=true:=by rw[qu,zcg (by decide) hr,qAf]
 have hx0:(expr&&onTheHeap (Value.builtin "BaseException.__getattribute__"))=false:=by cases expr<;>rfl
 have hx2:(Value.builtin "BaseException.__getattribute__"==Value.builtin "object.__getattribute__")=false:=by decide +kernel
 have hx1:(onTheHeap (Value.ref C)&&Value.builtin "BaseException.__getattribute__"==Value.builtin "object.__getattribute__")=false:=by rw[hx2];rfl
 have FB:=F.attr_ValueError
 have f3:=FB.ga.bind (.ref x)
 have ha:=F.args_bexc_ga (.ref x)
 unfold getAttr getAttrBy
 repeat (any_goals (first|assumption|(with_reducible refine qY hx ?_;rw[hc])|(with_reducible refine LG.here ?_)|(with_reducible refine LH.here ?_)|wp_step))
 refine qAk FB.ga.plain F.entry_bexc_ga ?_
 simp only[checkBuiltinCall,hk,hsplit]
 refine qV ?_
 unfold isInstance
 repeat (first|(with_reducible refine qY hx ?_;rw[hc])|(with_reducible refine qAP hC ?_;rw[hcB])|wp_step)
 repeat (any_goals (first|assumption|(with_reducible refine qY hx ?_;rw[hc])|(with_reducible refine LA.here ?_)|wp_step))
 rw[hd]
 dsimp only
 unfold instanceDict
 repeat (any_goals (first|assumption|(with_reducible refine qY hx ?_;rw[hc])|(with_reducible refine qY hC ?_)|wp_step))
 rw[hdd]
 dsimp only
 refine qv ?_
 unfold inDict
 refine wpAny_nsGet hns ?_
 rw[hv]
 dsimp only
 repeat (any_goals (first|assumption|wp_step))
 show wpAny _ _ (handedOut v) _ _ _
 rw[W.handedOut_of hh]
 exact qv (hq _)
theorem zanh{Q:Value->Shared->Prop}{o:Obj}{vs:Array Value}{rest:List Value}(hr:zda bm=true)(hl:rest.length<=qQ)
  (hC:h.get? C=some (excClassObj nm q C N bs bm true sn sub ab col dd k0 k1 k2 k3 k5 newId))(hx:h.get? x=some o)(hc:o.cls=.ref C)(hd:o.data=.fields vs)(hs:0<vs.size)
  (hq:∀h' p,h'.get? x=some {o with data:=.fields (vs.setIfInBounds 0 (.ref p))}->(∀b o,b≠x->h.get? b=some o->h'.get? b=some o)->Q .none ⟨h',g,d,t,os⟩) :
  wpAny (model prog w) A (call (.builtin "ValueError.__init__") (.ref x::rest)) Q E ⟨h,g,d,t,os⟩:=by
 have F:=qA0
 have hcB:(Value.ref C::bm).contains (.type "ValueError")=true:=by rw[qu,zcg (by decide) hr,qAf]
 have hshort:=F.noStar
 refine qBw (qAk F.init.plain F.initEntry ?_)
 simp only[checkBuiltinCall,F.initKind,F.initSplit,F.initRow]
 repeat (first|(with_reducible refine qY hx ?_;rw[hc])|with_reducible refine qY hC ?_|(with_reducible refine qAP hC ?_;rw[hcB])|wp_step)
 refine wpAny_onRaise ?_
 rw[show ∀(a b:String)(n:Nat),Bind.check ⟨.positional,"*","ValueError",.self,[⟨"args",.varPos,false⟩]⟩ a b n (List.map (λx=>x.fst) ({pos:=Value.ref x::rest}:Args).kw)=pure ()from
  λa b n=>check_star_args _ _ _ _ _ _]
 refine qv ?_
 unfold Builtin.«BaseException.__init__»
 repeat (any_goals (first|assumption|wp_step))
 rw[hd]
 dsimp only
 refine qv ?_
 rw[qA3 hs]
 dsimp only
 refine qv (qV ?_)
 have hx':(h.push {cls:=.type "tuple",data:=.seq rest.toArray}).get? x=some o:=qI _ hx
 refine qBC hx' hd hs ?_
 have fin:Q .none ⟨(h.push {cls:=.type "tuple",data:=.seq rest.toArray}).update x (Obj.mapFields (·.setIfInBounds 0 (Value.ref h.objs.size))),g,d,t,os⟩:=by
  refine hq _ h.objs.size ?_ λb ob hb e=>by rw[q9 _ _ (qAo hb)];exact qI _ e
  have hd₃:=qAV hd (·.setIfInBounds 0 (Value.ref h.objs.size))
  rw[qAT _ hx' (qAg hd₃)]
  unfold Obj.mapFields
  obtain⟨oc,od,odt,osl⟩:=o
  cases hd
  rfl
 cases vs[0]<;>(repeat (any_goals (first|exact fin|assumption|wp_step)))
end
noncomputable def Heap.Tb(h:Heap)(T:Addr):Prop:=∃oT ts,h.get? T=some oT/\oT.data=.fields ts/\ts[3]?=some .none
section
variable{M:Model}{A:Around}{E:Value->Shared->Prop}{s:Shared}{base:Heap}{env:Env}{outer:List Env}{L e:Addr}{oe:Obj}{vs:Array Value}
theorem mapf{o:Obj}{vs:Array Value}(hd:o.data=.fields vs)(f:Array Value->Array Value):Obj.mapFields f o={o with data:=.fields (f vs)}:=by
 unfold Obj.mapFields
 obtain⟨oc,od,odt,osl⟩:=o
 cases hd
 rfl
theorem zma{head:Value}{hadNext:Bool}{Q:Unit->Shared->Prop}
  (hfr:A.frames=some (env::outer))(hl:s.heap.FunFrames base (env::outer))(hf:env.frame=some L)(he:s.heap.get? e=some oe)(hd:oe.data=.fields vs)(hsz:1<vs.size)
  (hQ:∀h' T,s.heap.objs.size<=T->T≠e->(∀b o,b≠e->b∉(env::outer).filterMap (·.frame)->s.heap.get? b=some o->h'.get? b=some o)->
   (∀b o,b≠e->s.heap.get? b=some o->∃sl,h'.get? b=some {o with slots:=sl})->h'.get? e=some {oe with data:=.fields (vs.setIfInBounds 1 (.ref T))}->h'.Tb T->Q () {s with heap:=h'}) :
  wpAny M A (do let a <- frameOf env;let pl <- entryPlaceOf L hadNext;let b <- EntryCells.newEntry head a .none (rawInt L) .none pl;setField (.ref e) 1 b) (λ_ s'=>wpAny M A (setFlight (.ref e) none) Q E s') E s:=by
 have hene:e∉(env::outer).filterMap (·.frame):=λhm=>by
  obtain⟨_,o,ho,hnf⟩:=hl.mem hm
  rw[he]at ho;injection ho with ho;subst ho;exact hnf vs hd
 refine qV (wpAny_frameOf_fun hfr hl hf λh₁ hs₁=>?_)
 refine qV (wpAny_entryPlaceOf λpl hpl=>?_)
 unfold EntryCells.newEntry newFields
 refine qV (wpAny_newObj_type ?_ (hpl.sizeOk5 _ _ _ _ _))
 have he₁:h₁.get? e=some oe:=(hs₁.2.1 e hene).trans he
 have he₂:=qI (h:=h₁) {cls:=.type "traceback",dict:=none,data:=.fields ([head,.ref L,.none,rawInt L,.none]++(if pl.isEmpty then List.replicate 6 Value.none else pl)).toArray} he₁
 refine qBC he₂ hd hsz ?_
 have hTe:h₁.objs.size≠e:=qCF (qP he₁)
 have hd₃:=qAV hd (·.setIfInBounds 1 (Value.ref h₁.objs.size))
 have he₃:=qAT (Obj.mapFields (·.setIfInBounds 1 (Value.ref h₁.objs.size))) he₂ (qAg hd₃)
 have hT₃:=(q9 (h₁.push {cls:=.type "traceback",dict:=none,data:=.fields ([head,.ref L,.none,rawInt L,.none]++(if pl.isEmpty then List.replicate 6 Value.none else pl)).toArray})
  (Obj.mapFields (·.setIfInBounds 1 (Value.ref h₁.objs.size))) (qAo hTe)).trans (qAN h₁ rfl)
 unfold setFlight
 refine qV (qBi he₃ hd₃ (x:=.ref h₁.objs.size) (by simp[hsz]) ?_)
 rw[if_pos (show(Value.ref h₁.objs.size != Value.none)=true from by simp)]
 refine qBC hT₃ rfl (by simp only[qG,qF,qo,List.length_nil]<;>omega) ?_
 have keep:∀b o,b≠e->h₁.get? b=some o->
   (((h₁.push {cls:=.type "traceback",dict:=none,data:=.fields ([head,.ref L,.none,rawInt L,.none]++(if pl.isEmpty then List.replicate 6 Value.none else pl)).toArray}).update e (Obj.mapFields (·.setIfInBounds 1 (Value.ref h₁.objs.size)))).update h₁.objs.size
    (Obj.mapFields (·.setIfInBounds 3 ((none:Option Addr).elim Value.none λf=>rawInt f)))).get? b=some o:=λb o hbe hb=>by
  have hbT:h₁.objs.size≠b:=qCF (qP hb)
  rw[q9 _ _ hbT,q9 _ _ (qAo hbe)]
  exact qI _ hb
 refine hQ _ h₁.objs.size (Nat.le_of_eq hs₁.1.symm) hTe (λb o hb hn ho=>keep b o hb ((hs₁.2.1 b hn).trans ho)) (λb o hb ho=>?_) ?_ ?_
 ·obtain⟨sl,hs⟩:=hs₁.2.2 b o ho
  exact⟨sl,keep b _ hb hs⟩
 ·rw[q9 _ _ hTe,he₃,mapf hd]
 ·exact⟨_,_,qAT _ hT₃ (qAg (qAV rfl _)),qAV rfl _,by first|(simp;done)|(rcases hpl with rfl|⟨_,_,_,_,_,_,_,rfl⟩<;>simp)⟩
theorem zsz{Q:Unit->Shared->Prop}
  (hfr:A.frames=some (env::outer))(hl:s.heap.FunFrames base (env::outer))(hf:env.frame=some L)(he:s.heap.get? e=some oe)(hd:oe.data=.fields vs)
  (h1:vs[1]?=some .none\/∃T,vs[1]?=some (.ref T)/\T≠e/\s.heap.Tb T)
  (hQ:∀h' T,s.heap.objs.size<=T->T≠e->(∀b o,b≠e->vs[1]?≠some (.ref b)->b∉(env::outer).filterMap (·.frame)->s.heap.get? b=some o->h'.get? b=some o)->
   (∀b o,b≠e->vs[1]?≠some (.ref b)->s.heap.get? b=some o->∃sl,h'.get? b=some {o with slots:=sl})->(∀b,vs[1]?=some (.ref b)->h'.Tb b)->
   h'.get? e=some {oe with data:=.fields (vs.setIfInBounds 1 (.ref T))}->h'.Tb T->Q () {s with heap:=h'}) :
  wpAny M A (noteFrame (.ref e) env) (λ_ s'=>wpAny M A (setFlight (.ref e) none) Q E s') E s:=by
 unfold noteFrame
 simp only[hf]
 rcases h1 with h1|⟨T,h1,hTe,oT,ts,hT,hdT,h3⟩
 ·refine(qV (qBi he hd h1 ?_))
  rw[if_neg (by decide)]
  exact zma hfr hl hf he hd (qAS.mp h1).1 λh' T a1 a2 a3 a4 a5 a6=>hQ h' T a1 a2 (λb o q _=>a3 b o q) (λb o q _=>a4 b o q) (λb q=>by rw[h1]at q;cases q) a5 a6
 ·refine(qV (qBi he hd h1 ?_))
  rw[if_pos (show(Value.ref T != Value.none)=true from by simp)]
  refine qV (qBi hT hdT h3 ?_)
  rw[if_neg (show ¬((Value.none==rawInt L)=true)from by simp[rawInt])]
  have hsz3:=(qAS.mp h3).1
  refine qV (qBC hT hdT hsz3 ?_)
  have other:∀b,b≠T->(s.heap.update T (Obj.mapFields (·.setIfInBounds 3 Value.none))).get? b=s.heap.get? b:=λb hb=>q9 _ _ (qAo hb)
  have hT':=qAT (Obj.mapFields (·.setIfInBounds 3 Value.none)) hT (qAg (qAV hdT _))
  have noRecord:∀b o,s.heap.get? b=some o->(∀vs,o.data≠.fields vs)->b≠T:=λb o hb hnf q=>by
   rw[q,hT]at hb;injection hb with hb;subst hb;exact hnf ts hdT
  have ne:∀{b:Addr},vs[1]?≠some (.ref b)->b≠T:=λq z=>q (by rw[h1,z])
  refine zma hfr (hl.of_keeps λb o hb hnf=>⟨o,(other b (noRecord b o hb hnf)).trans hb,rfl⟩) hf ((other e (qAo hTe)).trans he) hd (qAS.mp h1).1 λh' T' a1 a2 a3 a4 a5 a6=>?_
  refine hQ h' T' (by rw[Heap.size_update]at a1;exact a1) a2 (λb o q n z ho=>a3 b o q z ((other b (ne n)).trans ho)) (λb o q n ho=>a4 b o q ((other b (ne n)).trans ho)) (λb q=>?_) a5 a6
  rw[h1]at q
  cases q
  obtain⟨sl,hs⟩:=a4 T _ hTe hT'
  exact⟨_,_,hs,qAV hdT _,by simp[hsz3]⟩
theorem zym{Q:Unit->Shared->Prop}{T:Addr}(he:s.heap.get? e=some oe)(hd:oe.data=.fields vs)(h1:vs[1]?=some (.ref T))(hT:s.heap.Tb T)
  (hQ:∀h',(∀b o,b≠T->s.heap.get? b=some o->h'.get? b=some o)->h'.Tb T->Q () {s with heap:=h'}):wpAny M A (setFlight (.ref e) none) Q E s:=by
 obtain⟨oT,ts,hT,hdT,h3⟩:=hT
 have hsz3:=(qAS.mp h3).1
 unfold setFlight
 refine qV (qBi he hd h1 ?_)
 rw[if_pos (show(Value.ref T != Value.none)=true from by simp)]
 refine qBC hT hdT hsz3 (hQ _ (λb o hb ho=>by rw[q9 _ _ (qAo hb)];exact ho) ?_)
 exact⟨_,_,qAT _ hT (qAg (qAV hdT _)),qAV hdT _,by simp[hsz3]⟩
end
end PySem
namespace L2
open PySem PySem.Spec PyProof.Rows
noncomputable def xeD(e C dx:Addr)(tv:Value)(h:Heap):Prop:=∃vs sl,h.get? e=some {cls:=.ref C,dict:=some dx,data:=.fields vs,slots:=sl}/\vs[1]?=some tv
theorem xeD.stay{e C dx:Addr}{tv:Value}(h1 h2:Heap)(h:xeD e C dx tv h1)(k:∀o,h1.get? e=some o->h2.get? e=some o):xeD e C dx tv h2:=
 let⟨vs,sl,a,b⟩:=h;⟨vs,sl,k _ a,b⟩
theorem zagd{T:Addr}(h1 h2:Heap)(h:h1.Tb T)(k:∀o,h1.get? T=some o->h2.get? T=some o):h2.Tb T:=
 let⟨oT,ts,a,b⟩:=h;⟨oT,ts,k _ a,b⟩
theorem zadr{P:Program}{w:World}{H:Hp}{h:Heap}{e C dx:Addr}{tv:Value}(q:xeD e C dx tv h):zdh P w H h e (.ext (xeD e C dx tv)):=
 ⟨q,let⟨_,_,a,_⟩:=q;⟨_,a⟩,λh1 h2=>xeD.stay h1 h2⟩
theorem zyn{P:Program}{w:World}{H:Hp}{h:Heap}{T:Addr}(q:h.Tb T):zdh P w H h T (.ext λh=>h.Tb T):=
 ⟨q,let⟨_,_,a,_⟩:=q;⟨_,a⟩,λh1 h2=>zagd h1 h2⟩
theorem zdh.there{P:Program}{w:World}{H:Hp}{h:Heap}{a:Addr}{o:HO}(x:zdh P w H h a o):∃ob,h.get? a=some ob:=by
 cases o with
 | lst xs=>obtain⟨_,_,_,_,e⟩:=x;exact⟨_,e⟩
 | tup xs=>obtain⟨_,_,_,ob,e,_⟩:=x;exact⟨_,e⟩
 | dK kvs=>obtain⟨_,_,_,_,o,_,_,e,_⟩:=x;exact⟨_,e⟩
 | dT kvs=>obtain⟨_,_,_,_,o,_,_,e,_⟩:=x;exact⟨_,e⟩
 | set S n=>obtain⟨o,_,_,_,e,_⟩:=x;exact⟨_,e⟩
 | ins C dx fs=>obtain⟨_,_,_,e,_⟩:=x;exact⟨_,e⟩
 | own y=>exact x
 | xd fs=>obtain⟨_,⟨_,_,_,e,_⟩,_⟩:=x;exact⟨_,e⟩
 | rng lo hi=>obtain⟨_,_,_,e⟩:=x;exact⟨_,e⟩
 | frz ob u=>obtain⟨e,_⟩:=x;exact⟨_,e⟩
 | tbl ps=>exact⟨_,x⟩
 | tabO q=>obtain⟨_,e,_⟩:=x;exact⟨_,e⟩
 | met f y=>exact⟨_,x⟩
 | ext φ=>exact x.2.1
theorem HOk.no{P:Program}{w:World}{H:Hp}{h:Heap}{a:Addr}(x:HOk P w H h)(n:h.get? a=none):H a=none:=by
 cases q:H a with
 | none=>rfl
 | some u=>obtain⟨ob,z⟩:=(x a u q).there;rw[n]at z;cases z
noncomputable def zabq(H H':Hp):Prop:=∀b o,H b=some o->(∀φ,o≠.ext φ)->H' b=some o
noncomputable def StX(H0:Hp)(E:XK):XK:=λc dx H'=>∀H3,(∀b o,H0 b=some o->H' b=some o->H3 b=some o)->zabq H' H3->E c dx H3
structure Flt(h:Heap)(H':Hp)(e C dx:Addr):Prop where
 new:h.get? e=none
 st:∃tv,H' e=some (.ext (xeD e C dx tv))/\(tv=.none\/∃T,tv=.ref T/\T≠e/\h.get? T=none/\H' T=some (.ext λh=>h.Tb T))
noncomputable def CXE(P:Program)(w:World):CXT:=λouter H s E e s'=>∃ea C dx H',e=.ref ea/\s'.os=s.os/\AllBare s'.gens/\Un (frs outer) [] H H' s.heap s'.heap/\HOk P w H' s'.heap/\Flt s.heap H' ea C dx/\StX H E (.ref C) (some dx) H'
section
variable{X:Cx}{pins:List (Addr×Obj)}{σ:St}{H1:Hp}{s:Shared}{e C dx:Addr}{E:Value->Shared->Prop}
theorem zqy{h0:Heap}{Q:Unit->Shared->Prop}(I:Inv X pins σ H1 s)(hst:X.stack=X.env::X.outer)(hfr:X.env.frame=some X.env.locals)(hz:∀b ob,h0.get? b=some ob->∃o',s.heap.get? b=some o')(F:Flt h0 H1 e C dx)
  (k:∀s' H2,Inv X pins σ H2 s'->(∃T,H2 e=some (.ext (xeD e C dx (.ref T)))/\T≠e/\h0.get? T=none/\H2 T=some (.ext λh=>h.Tb T))->
   (∀b o ob,h0.get? b=some ob->H1 b=some o->H2 b=some o)->zabq H1 H2->(s.heap.objs.size<=s'.heap.objs.size)->Q () s') :
  wpAny (model X.prog X.w) X.A (noteFrame (.ref e) X.env) (λ_ s'=>wpAny (model X.prog X.w) X.A (setFlight (.ref e) none) Q E s') E s:=by
 obtain⟨tv,he,ht⟩:=F.st
 obtain⟨⟨vs,sl,oe,h1⟩,_,_⟩:=I.hok e _ he
 have hfs:∀b,b∈(X.env::X.outer).filterMap (·.frame)->H1 b=none:=λb hb=>I.stkFree b (by unfold frs;rw[hst];exact hb)
 have hT1:tv=.none\/∃T,tv=.ref T/\T≠e/\s.heap.Tb T:=ht.imp id λ⟨T,a,b,c,d⟩=>⟨T,a,b,(I.hok T _ d).1⟩
 refine zsz (base:=X.base) (L:=X.env.locals) (by rw[<- hst];exact I.ok.frames) (by rw[<- hst];exact I.stack) hfr oe rfl (hT1.imp (λz=>by rw[h1,z]) λ⟨T,a,b,c⟩=>⟨T,by rw[h1,a],b,c⟩) λh' T a1 a2 a3 a4 a5 a6 a7=>?_
 have nT:H1 T=none:=I.hok.fresh a1
 have tr:∀b,vs[1]?=some (.ref b)->H1 b=some (.ext λh=>h.Tb b)/\b≠e/\h0.get? b=none:=λb q=>by
  rw[h1]at q
  rcases ht with z|⟨T0,z,b1,c1,d1⟩
  ·rw[z]at q;cases q
  ·rw[z]at q;cases q;exact⟨d1,b1,c1⟩
 let H2:Hp:=upd (upd H1 T (.ext λh=>h.Tb T)) e (.ext (xeD e C dx (.ref T)))
 have h2:∀b,b≠e->b≠T->H2 b=H1 b:=λb q z=>by show upd _ _ _ b=_;rw[zar q,zar z]
 have h2e:H2 e=some (.ext (xeD e C dx (.ref T))):=zan
 have h2T:H2 T=some (.ext λh=>h.Tb T):=by show upd _ _ _ T=_;rw[zar a2,zan]
 have ext2:∀b o,H1 b=some o->(∀φ,o≠.ext φ)->H2 b=some o:=λb o q n=>by
  rw[h2 b (λz=>by rw[z,he]at q;cases q;exact n _ rfl) (λz=>by rw[z,nT]at q;cases q)];exact q
 have kp:∀b o,H1 b=some o->b≠e->vs[1]?≠some (.ref b)->∀u,s.heap.get? b=some u->h'.get? b=some u:=λb o q n n2 u z=>a3 b u n n2 (λm=>by rw[hfs b m]at q;cases q) z
 have hsz1:1<vs.size:=(qAS.mp h1).1
 have ok2:HOk X.prog X.w H2 h':=λb o q=>by
  by_cases hb:b=e
  ·subst hb
   rw[h2e]at q
   cases q
   exact zadr ⟨_,_,a6,by rw[Array.getElem?_setIfInBounds_self_of_lt hsz1]⟩
  ·by_cases hbT:b=T
   ·subst hbT
    rw[h2T]at q
    cases q
    exact zyn a7
   ·rw[h2 b hb hbT]at q
    by_cases hv:vs[1]?=some (.ref b)
    ·rw[(tr b hv).1]at q
     cases q
     exact zyn (a5 b hv)
    ·refine(I.hok b o q).stay (λc u hc z=>?_) (λc z=>ext2 c _ z (λφ y=>by cases y)) (λc xs z=>ext2 c _ z (λφ y=>by cases y)) (λc o2 z=>ext2 c _ z (λφ y=>by cases y))
     rcases hc with rfl|hc
     ·exact kp c o q hb hv u z
     ·exact kp c _ hc (λy=>by rw[y,he]at hc;cases hc) (λy=>by rw[(tr c y).1]at hc;cases hc) u z
 have un:Un (frs X.stack) [] H1 H2 s.heap h':=by
  have nb:∀b,H1 b=none->b≠e/\vs[1]?≠some (.ref b):=λb n=>⟨λy=>(by rw[y,he]at n;cases n),λy=>(by rw[(tr b y).1]at n;cases n)⟩
  have hfs':∀b,b∈frs X.stack↔b∈(X.env::X.outer).filterMap (·.frame):=λb=>by unfold frs;rw[hst]
  refine⟨λb o q n hb _=>a3 b o (nb b n).1 (nb b n).2 (λm=>hb ((hfs' b).mpr m)) q,λb o q n hb _=>a4 b o (nb b n).1 (nb b n).2 q,λb o q n _=>?_,λb o q _=>?_,λb xs q=>ext2 b _ q (λφ y=>by cases y),λb o u q=>ext2 b _ q (λφ y=>by cases y),λb ps q=>⟨#[],by rw[ext2 b _ q (λφ y=>by cases y)];simp⟩⟩
  ·rw[h2 b (nb b n).1 (λy=>by rw[y]at q;exact absurd (qP q) (Nat.not_lt.mpr a1))];exact n
  ·by_cases hb:b=e
   ·exact⟨_,by rw[hb];exact a6⟩
   ·by_cases hv:vs[1]?=some (.ref b)
    ·obtain⟨oT,_,z,_⟩:=a5 b hv;exact⟨oT,z⟩
    ·obtain⟨sl,z⟩:=a4 b o hb hv q;exact⟨_,z⟩
 have n0:h0.get? T=none:=by
  cases y:h0.get? T with
  | none=>rfl
  | some ob=>obtain⟨o',z⟩:=hz T ob y;exact absurd (qP z) (Nat.not_lt.mpr a1)
 have hs:s.heap.objs.size<=h'.objs.size:=qBn (qBc a1 (let⟨_,_,z,_⟩:=a7;qP z))
 refine k _ H2 (I.call' (s':={s with heap:=h'}) rfl un ok2 I.bare (λb z=>absurd z (by simp))) ⟨T,h2e,a2,n0,h2T⟩ (λb o ob q z=>?_) ext2 hs
 rw[h2 b (λy=>by rw[y,F.new]at q;cases q) (λy=>by rw[y,nT]at z;cases z)]
 exact z
theorem zabr{h0:Heap}{Q:Unit->Shared->Prop}(I:Inv X pins σ H1 s)(hst:X.stack=X.env::X.outer)(hfr:X.env.frame=some X.env.locals)(hz:∀b ob,h0.get? b=some ob->∃o',s.heap.get? b=some o')(F:Flt h0 H1 e C dx)
  (k:∀s' H2,Inv X pins σ H2 s'->(∃T,H2 e=some (.ext (xeD e C dx (.ref T)))/\T≠e/\h0.get? T=none/\H2 T=some (.ext λh=>h.Tb T))->
   (∀b o ob,h0.get? b=some ob->H1 b=some o->H2 b=some o)->zabq H1 H2->(s.heap.objs.size<=s'.heap.objs.size)->Q () s') :
  wpAny (model X.prog X.w) X.A (leaving X.env (.ref e)) Q E s:=by
 unfold leaving
 exact qV (zqy I hst hfr hz F k)
end
theorem zads{P:Program}{w:World}{K:qC}{mg:Str->Option Value}{base:Heap}{N:List Str}{qual:Str}{scope:Scope}{f:Addr}{cd:Value}{A:Around}{outer:List Env}{s:Shared}{H:Hp}{E:XK}
  {pins:List (Addr×Obj)}{σ:St}{H1:Hp}{s1:Shared}{e C dx:Addr}(I:Inv (cxOf (CXE P w) P w K mg base N qual scope f cd A outer s H E) pins σ H1 s1)(h0k:HOk P w H s.heap)(F:Flt s.heap H1 e C dx)(q:StX H E (.ref C) (some dx) H1) :
  (cxOf (CXE P w) P w K mg base N qual scope f cd A outer s H E).xe (.ref e) s1:=by
 refine zabr (X:=cxOf (CXE P w) P w K mg base N qual scope f cd A outer s H E) I rfl rfl (λb ob z=>I.base.there b ob z (λy=>absurd (show b∈([]:List Addr)from y) (by simp))) F λs' H2 I2 ht hk hx _=>?_
 refine⟨e,C,dx,H2,rfl,I2.os,I2.bare,I2.base,I2.hok,⟨F.new,_,ht.choose_spec.1,.inr ⟨_,rfl,ht.choose_spec.2⟩⟩,λH3 r1 r2=>q H3 (λb o z1 z2=>?_) (λb o z n=>r2 b o (hx b o z n) n)⟩
 obtain⟨ob,y⟩:=(h0k b o z1).there
 exact r1 b o z1 (hk b o ob y z2)
theorem zage{P:Program}{w:World}{K:qC}{mg:Str->Option Value}{base:Heap}{N:List Str}{qual:Str}{scope:Scope}{f:Addr}{cd:Value}{A:Around}{outer:List Env}{s:Shared}{H:Hp}{E:XK}(h0k:HOk P w H s.heap) :
  zqh (CXE P w) (cxOf (CXE P w) P w K mg base N qual scope f cd A outer s H E) (StX H E):=by
 intro pins σ H1 s1 e s2 I h
 obtain⟨ea,C,dx,H2,rfl,os,bare,un,ok,F,q⟩:=h
 have I2:=I.call' (s':=s2) os un ok bare (λb z=>absurd z (by simp))
 have old:∀b ob,s.heap.get? b=some ob->∃o',s1.heap.get? b=some o':=λb ob z=>I.base.there b ob z (λy=>absurd (show b∈([]:List Addr)from y) (by simp))
 have nw:∀b,s1.heap.get? b=none->s.heap.get? b=none:=λb z=>by
  cases y:s.heap.get? b with
  | none=>rfl
  | some ob=>obtain⟨o',y'⟩:=old b ob y;rw[z]at y';cases y'
 refine zads I2 h0k ⟨nw _ F.new,?_⟩ (q H2 (λ_ _ _ z=>z) (λ_ _ z _=>z))
 obtain⟨tv,a,b⟩:=F.st
 exact⟨tv,a,b.imp id λ⟨T,x1,x2,x3,x4⟩=>⟨T,x1,x2,nw _ x3,x4⟩⟩
theorem zadt{CX:CXT}{P:Program}{w:World}{K:qC}{mg:Str->Option Value}{base:Heap}{x qual:Str}{st:Stmt}{f:Addr}{fd:qq}{N ps:List Str}{k:Nat}{sp:Sp}(Fu:Fun K x qual st f fd)(S:FnScope N ps (zap st))(len:∀vs H Q E,sp vs H Q E->vs.length=ps.length)
  (hbody:∀(cdv:Value)(A:Around)(outer:List Env)(s:Shared)(H:Hp)(vs:List V)(Q:VK)(E:XK),Room k (A.deeper (envOfC qual (zap st) s.heap.objs.size f cdv))->HOk P w H s.heap->sp vs H Q E->
   ∃t,PSs (cxOf CX P w K mg base N qual (zap st) f cdv A outer s H E) (zcs st) t/\t {nx:=λ_ H'=>Q .non H',rt:=Q} (zdi N vs) H):FnOk P w K mg base CX (k+1) f fd ps sp:=by
 refine⟨len,λA outer s H args us vs Q E hr e0 hb r hsp=>?_⟩
 obtain⟨oc,od,kV,doc,pm,an,cdv,ct,osl,rfl,lk,hcd⟩:=Fu.ex
 have KX:K.In s.heap:=e0.mod.kin.keeps λb o e=>(e0.bs b o e).1
 refine codeAny_call_function hr.depth (KX _ _ lk) rfl S.co S.gen rfl (qCA KX hcd) (hb _ _ _ _ (qB8 S.kind (λ⟨n,v⟩ hy=>?_) λenv he s1 x=>?_))
 ·rcases S.par n (qBL hy).1 with q|q
  ·exact .inl q
  ·exact .inr ⟨q,qA7 _ _ _ (.inl q)⟩
 ·subst he
  obtain⟨t,ht,hq⟩:=hbody cdv A outer s H vs Q E (hr.deeper _) e0.hok hsp
  have I:=zqm (CX:=CX) (E:=E) S hr.hd e0 (len _ _ _ _ hsp) r x
  refine⟨(e0.mod.nolimit.keeps λb o e=>(e0.bs b o e).1).keeps x.toInCall.keep,codeAny_func (qA4 (ht [] s1 (zdi N vs) H _ I hq) (λfl s' hs=>?_) λe s' hs=>hs)⟩
  cases fl with
  | ret u=>obtain⟨v,σ',H',J,rv,q⟩:=hs;exact⟨v,H',J.os,J.bare,J.base,J.hok,rv,q⟩
  | next=>obtain⟨σ',H',J,q⟩:=hs;exact⟨.non,H',J.os,J.bare,J.base,J.hok,rfl,q⟩
  | brk=>obtain⟨_,_,_,q⟩:=hs;exact q.elim
  | cont=>obtain⟨_,_,_,q⟩:=hs;exact q.elim
noncomputable def xcR(K:qC)(C:Addr):Bool:=match K.lookup C with
 | some ⟨_,_,.cls cd,_⟩=>(match cd.mro with|_::bm=>zda bm|_=>false)
 | _=>false
theorem zhq{K:qC}{h:Heap}{C:Addr}(X:K.In h)(q:xcIn K C=true)(q2:xcR K C=true):∃nm qn N bs bm sn sub ab col dd k0 k1 k2 k3 k5,
  h.get? C=some (excClassObj nm qn C N bs bm true sn sub ab col dd k0 k1 k2 k3 k5 "ValueError.__new__")/\zda bm=true/\(Value.ref C::bm).contains (.type "AttributeError")=false/\(Value.ref C::bm).contains (.type "NameError")=false:=by
 obtain⟨nm,qn,N,bs,bm,sn,sub,ab,col,dd,k0,k1,k2,k3,k5,hC,_,_,ha,hn⟩:=zakb X q
 refine⟨nm,qn,N,bs,bm,sn,sub,ab,col,dd,k0,k1,k2,k3,k5,hC,?_,ha,hn⟩
 unfold xcR at q2
 split at q2
 ·rename_i a b cd sl ho
  have:=X _ _ ho
  rw[hC]at this
  have e:=qi this
  unfold excClassObj at e
  injection e with _ _ e _
  injection e with e
  subst e
  exact q2
 ·cases q2
structure XMk(K:qC)(C f:Addr):Prop where
 cls:xcIn K C=true
 tail:xcR K C=true
 init:PySem.W.findIn K (.ref C) "__init__"=some (some (.ref f))
 fn:PySem.W.isFn K (.ref f)=true
 kp:qAX K (.ref C)=true
 sa:PySem.W.findIn K (.ref C) "__setattr__"=some (some (.builtin "object.__setattr__"))
 at_:PySem.W.findIn K (.ref C) "at"=some none
 ga:PySem.W.findIn K (.ref C) "__getattribute__"=some (some (.builtin "BaseException.__getattribute__"))
 gh:PySem.W.findIn K (.ref C) "__getattr__"=some none
noncomputable def atV:V->Prop
 | .non=>True
 | .str x=>(PySem.reprText x).length<=1000
 | .int n=>0<=n/\n<100
 | _=>False
noncomputable def xe0(e C:Addr)(h:Heap):Prop:=∃vs sl,h.get? e=some {cls:=.ref C,dict:=none,data:=.fields vs,slots:=sl}/\vs[1]?=some .none
theorem zyo{P:Program}{w:World}{H:Hp}{h:Heap}{e C:Addr}(q:xe0 e C h):zdh P w H h e (.ext (xe0 e C)):=
 ⟨q,(let⟨_,_,a,_⟩:=q;⟨_,a⟩),λh1 h2 ⟨vs,sl,a,b⟩ k=>⟨vs,sl,k _ a,b⟩⟩
noncomputable def spI(C:Addr):Sp:=λvs H Q _=>∃e v,vs=[.ref e,v]/\H e=some (.ext (xe0 e C))/\atV v/\∀dx,H dx=none->dx≠e->Q .non (upd (upd H dx (.xd [("at",v)])) e (.ext (xeD e C dx .none)))
section
variable{X:Cx}{pins:List (Addr×Obj)}{σ:St}{H:Hp}{s:Shared}{C f:Addr}{k:Nat}{fd:qq}
theorem Inv.new{h':Heap}{a:Addr}{o:HO}{t':Nat}(I:Inv X pins σ H s)(k:∀b u,s.heap.get? b=some u->h'.get? b=some u)(hn:s.heap.get? a=none)(new:zdh X.prog X.w (upd H a o) h' a o):Inv X pins σ (upd H a o) {s with heap:=h',toks:=t'}:=by
 have hH:=HOk.no I.hok hn
 have ne:∀b u,s.heap.get? b=some u->b≠a:=λb u q z=>by rw[z,hn]at q;cases q
 have neH:∀b u,H b=some u->b≠a:=λb u q z=>by rw[z,hH]at q;cases q
 refine I.un (h':=h') ⟨λb o q _ _ _=>k b o q,λb o q _ _ _=>⟨o.slots,k b o q⟩,λb o q n _=>by rw[zar (ne b o q)];exact n,λb o q _=>⟨o,k b o q⟩,λb xs q=>by rw[zar (neH b _ q)];exact q,λb o u q=>by rw[zar (neH b _ q)];exact q,λb ps q=>⟨#[],by rw[zar (neH b _ q),q];simp⟩⟩ λb u q=>?_
 by_cases hb:b=a
 ·subst hb;rw[zan]at q;cases q;exact new
 ·rw[zar hb]at q
  exact(I.hok b u q).stay (λc v _ q=>k c v q) (λc q=>by rw[zar (neH c _ q)];exact q) λc xs q=>by rw[zar (neH c _ q)];exact q
theorem zyp{v:V}{u:Value}(M:XMk X.K C f)(F:FnOk X.prog X.w X.K X.mg X.base CX0 k f fd ["self","at"] (spI C))(hr:Room (k+1) X.A)(hb:zgu X.K fd ["self","at"] [])(hex:X.ex=[])(I:Inv X pins σ H s)(rv:RelV v u)(av:atV v)
  {Q:Value->Shared->Prop}(q:∀e dx H' s',Inv X pins σ H' s'->Flt X.s₀.heap H' e C dx->H' e=some (.ext (xeD e C dx .none))->H' dx=some (.xd [("at",v)])->Same H H'->Q (.ref e) s') :
  wpAny (model X.prog X.w) X.A (call (.ref C) [u]) Q X.xe s:=by
 obtain⟨nm,qn,N,bs,bm,sn,sub,ab,col,dd,k0,k1,k2,k3,k5,hC,hbm,ha,hn⟩:=zhq I.kIn M.cls M.tail
 obtain⟨hh,g,d,tk,os⟩:=s
 obtain⟨oI,hfI,hfc⟩:∃oI,hh.get? f=some oI/\oI.cls=.type "function":=by
  have z:(X.K.lookup f).map (·.cls)=some (.type "function"):=beq_iff_eq.mp M.fn
  cases y:X.K.lookup f with
  | none=>rw[y]at z;cases z
  | some o=>rw[y]at z;exact⟨o,I.kIn _ _ y,qi z⟩
 refine zanf (C:=C) hC (by rw[qu,zcg (by decide) hbm,qAf]) ha hn (qAG I.kIn M.init) hfI hfc (by show 1<=qQ;rw[qAL];omega) λh' e hm=>?_
 obtain⟨t,he,htn,ht⟩:=hm.there
 have I2:=Inv.new (h':=h') (a:=e) (o:=.ext (xe0 e C)) (t':=tk) I hm.keeps hm.new (zyo ⟨_,_,he,rfl⟩)
 have hHe:H e=none:=HOk.no I.hok hm.new
 have sp:spI C [.ref e,v] (upd H e (.ext (xe0 e C))) (λr H2=>r=.non/\∃dx,H dx=none/\dx≠e/\H2=upd (upd (upd H e (.ext (xe0 e C))) dx (.xd [("at",v)])) e (.ext (xeD e C dx .none))) E0:=
  ⟨e,v,rfl,zan,av,λdx hd ne=>⟨rfl,dx,by rw[zar ne]at hd;exact hd,ne,rfl⟩⟩
 refine qBw (qA8 (F.run _ X.stack _ _ ⟨[.ref e,u],[]⟩ [.ref e,u] _ _ E0 (hr.make C [u] []) (I2.env0.make C [u] []) (by have:=hb ⟨h',g,d,tk,os⟩ [.ref e,u] I2.kIn rfl;rw[qx]at this;exact this) (show Vals [V.ref e,v] [Value.ref e,u]from .cons rfl (.cons rv .nil)) sp) λr s' hq=>?_)
 cases r with
 | error x=>exact hq.elim
 | ok fl=>
  cases fl with
  | ret w=>
   obtain⟨v',H2,I3,rv',rfl,dx,hd,ne,rfl⟩:=I2.after hq
   refine⟨rv',q e dx _ s' I3 ⟨?_,.none,zan,.inl rfl⟩ zan (by rw[zar ne,zan]) λb o z=>?_⟩
   ·cases y:X.s₀.heap.get? e with
    | none=>rfl
    | some ob=>
     obtain⟨o',z⟩:=I.base.there e ob y (by rw[hex];simp)
     have:=hm.new
     rw[show hh.get? e=some o' from z]at this
     cases this
   ·have n1:b≠e:=λy=>by rw[y,hHe]at z;cases z
    have n2:b≠dx:=λy=>by rw[y,hd]at z;cases z
    rw[zar n1,zar n2,zar n1]
    exact z
  | next=>exact False.elim hq
  | brk=>exact False.elim hq
  | cont=>exact False.elim hq
noncomputable def Lvs(X:Cx)(E:XK):Prop:=∀(pins:List (Addr×Obj))(σ:St)(H1:Hp)(s1:Shared)(e C dx:Addr),Inv X pins σ H1 s1->Flt X.s₀.heap H1 e C dx->E (.ref C) (some dx) H1->X.xe (.ref e) s1
noncomputable def zyq(C:Addr)(E:XK)(te:TE):TS:=λ_ σ H=>te σ H λv H1=>atV v/\∀H' dx,Same H1 H'->H' dx=some (.xd [("at",v)])->E (.ref C) (some dx) H'
theorem zabs{E:XK}{x:Str}{np cpos pos:Pos}{a:Expr}{te:TE}(M:XMk X.K C f)(F:FnOk X.prog X.w X.K X.mg X.base CX0 k f fd ["self","at"] (spI C))(hr:Room (k+1) X.A)(hb:zgu X.K fd ["self","at"] [])(hex:X.ex=[])(hc:X.calm=true)(hx:Lvs X E)
  (hg:Gl X x)(hm:X.mg x=some (.ref C))(ha:PE X a te)(hdb:(x==("__debug__":Str))=false:=by decide)(he:starEach [a] X.env=[(false,eval a X.env)]:=by rfl) :
  PS X (.Raise (some (.Call (.Name x np) [a] [] cpos)) none pos) (zyq C E te):=by
 intro pins s σ H D I h
 rw[arm_exec_Raise]
 refine qV (qBN ?_)
 unfold raiseStmt
 simp only[evalOpt,Option.map]
 refine qV ?_
 have hcall:wpAny (model X.prog X.w) X.A (eval (.Call (.Name x np) [a] [] cpos) X.env) (λr s'=>∃e dx H' v H1,r=.ref e/\Inv X pins σ H' s'/\Flt X.s₀.heap H' e C dx/\H' e=some (.ext (xeD e C dx .none))/\H' dx=some (.xd [("at",v)])/\Same H1 H'/\∀H' dx,Same H1 H'->H' dx=some (.xd [("at",v)])->E (.ref C) (some dx) H') X.xe s:=by
  refine qAa (zlh I hg hm ?_ hdb)
  refine qBP (h₀:=X.base) I.ok.mod.kin M.kp (thn (zbn ha zhe he cpos pins s σ H (λvs H1=>match vs with|[v]=>atV v/\∀H' dx,Same H1 H'->H' dx=some (.xd [("at",v)])->E (.ref C) (some dx) H'|_=>False) I h) λus s1 ⟨vs,H1,I1,r,q⟩=>⟨I1.kIn,?_⟩) he rfl
  match vs,q,r with
  | [v],q,r=>
   obtain⟨u,rfl,rv⟩:=znf r
   exact zyp M F hr hb hex I1 rv q.1 λe dx H' s' I' fl he0 hd sm=>⟨e,dx,H',v,H1,rfl,I',fl,he0,hd,sm,q.2⟩
  | [],q,_=>exact q.elim
  | _::_::_,q,_=>exact q.elim
 refine qV (thn hcall λr s' hh=>?_)
 obtain⟨e,dx,H',v,H1,rfl,I',fl,he',hd,sm,q⟩:=hh
 refine qV (qBN (qv ?_))
 obtain⟨nm,qn,N,bs,bm,sn,sub,ab,col,dd,k0,k1,k2,k3,k5,hC,hbm,_,_⟩:=zhq I'.kIn M.cls M.tail
 have hcB:(Value.ref C::bm).contains (.type "BaseException")=true:=by rw[qu,zcg (by decide) hbm,qAf]
 obtain⟨⟨vs,sl,oe,h1⟩,_,_⟩:=I'.hok e _ he'
 have hxe:=hx pins σ H' s' e C dx I' fl (q H' dx sm hd)
 have hh:=I'.ok.hd hc
 obtain⟨hp,g,d,tk,os⟩:=s'
 repeat (first|with_reducible refine qY oe ?_|with_reducible refine qY hC ?_|(with_reducible refine qAP hC ?_;rw[hcB])|wp_step)
 rw[h1]
 dsimp only
 refine qv ?_
 rw[if_neg (by decide)]
 exact qv (wpAny_raiseNew_none hh hxe)
end
section
variable{X:Cx}{pins:List (Addr×Obj)}{σ:St}{H:Hp}{s:Shared}{C f:Addr}{k:Nat}{fd:qq}
noncomputable def tMsg(te:TE):TE:=λσ H Q=>te σ H λv H1=>atV v/\∀m,Q (.str m) H1
theorem zyr:∀m<100,Nat.log2 m<1920:=by decide +kernel
theorem znx:∀m<100,(Str.ofString (toString ((m:Nat):Int))).length<=10:=by decide +kernel
theorem zagf {v:V} {u:Value} {A:Around} {E:Value->Shared->Prop} {Q:Value->Shared->Prop} (r:RelV v u) (av:atV v) (q:∀(m:Str) t,m.length<=1000->Q (.str m s.toks) {s with toks:=t}) :
  wpAny (model X.prog X.w) A (pyReprObj u) Q E s:=by
 cases v with
 | non=>
  cases r
  exact qBU (T:="NoneType") rfl F.slot_NoneType_repr F.entry_NoneType_repr (by unfold argsOk;kernel_rfl) gives_none_repr (q "None" _ (by decide)) (hx:=by decide)
 | str x=>
  obtain⟨t,rfl⟩:=r
  exact qBU (T:="str") rfl PyProof.Rows.slot_str_repr PyProof.Rows.entry_str_repr (PyProof.Rows.args_str_repr _) (gives_str_repr x t) (q _ _ av) (hx:=qf av (by rw[qAL];omega))
 | int n=>
  obtain⟨t,rfl⟩:=r
  obtain⟨n0,n1⟩:=av
  obtain⟨m,rfl⟩:∃m:Nat,n=(m:Int):=⟨n.toNat,by omega⟩
  have hm:m<100:=by omega
  have hb:(m:Int).natAbs.log2<1920:=by
   rw[Int.natAbs_natCast]
   exact zyr m hm
  exact qBU (T:="int") rfl F.slot_int_repr F.entry_int_repr (F.args_int_repr_1 _) (gives_int_repr (m:Int) t hb) (q _ _ (qf (znx m hm) (by decide))) (hx:=qf (znx m hm) (by rw[qAL];omega))
 | _=>exact av.elim
theorem zakd{c:Str}{j p a p2 pos te}(ha:PE X a te)(hc:c.length<=1000):PE X (.JoinedStr [.Constant (.str c) j p,.FormattedValue a 114 none p2] pos) (tMsg te):=by
 intro pins s σ H Q I h
 have la:∀x y:Str,(x++y).length=x.length+y.length:=λx y=>by show(x.cps++y.cps).size=x.cps.size+y.cps.size;exact qBe
 have l0:(Str.empty).length=0:=rfl
 have big:(3000:Nat)<=qQ:=by rw[qAL];omega
 refine wpAny_JoinedStr ?_
 show wpAny _ _ (eval (.Constant (.str c) j p) X.env) (λv s₁=>∃y t,v=.str y t/\(Str.empty++y).length<=qQ/\wpAny _ _ (eval (.FormattedValue a 114 none p2) X.env) (λv s₂=>∃z t,v=.str z t/\((Str.empty++y)++z).length<=qQ/\(((Str.empty++y)++z).length<=qQ/\_)) _ s₁) _ s
 refine qCN ⟨c,_,rfl,by rw[la,l0];omega,?_⟩
 refine wpAny_FormattedValue_repr (thn (ha pins _ σ H _ (I.tok _) h) λu s1 ⟨v,H1,I1,r,av,q⟩=>zagf (X:=X) r av λm t hm=>?_)
 have lz:((Str.empty++c)++m).length<=qQ:=by rw[la,la,l0];omega
 have fin:∀tk,EP X pins σ Q (.str ((Str.empty++c)++m) tk) {s1 with toks:=tk+1}:=λtk=>⟨.str _,H1,I1.tok _,⟨_,rfl⟩,q _⟩
 exact wpAny_formatField_str ⟨m,_,rfl,lz,lz,fin _⟩ ⟨m,_,rfl,lz,lz,fin _⟩ (by omega)
noncomputable def zadu(C:Addr)(t:TA):TE:=λσ H Q=>t σ H λvs H1=>∃e m,vs=[.ref e,m]/\H1 e=some (.ext (xe0 e C))/\Q .non H1
theorem zta{K:qC}:PySem.W.findCls K (.type "ValueError") (.type "type") "__init__"=some (.val (.builtin "ValueError.__init__")):=by
 first|rfl|decide +kernel|kernel_rfl
theorem boot_ValueError:bootBuiltins "ValueError"=some (.type "ValueError"):=by decide +kernel
theorem zabt{p p2 pos:Pos}{e:Expr}{es:List Expr}{t:TA}{pl:Sem Bool}(M:XMk X.K C f)(hg:Gl X "ValueError")(hm:X.mg "ValueError"=none)(ha:PA X (e::es) t)
  (hst:starEach (e::es) X.env=(false,eval e X.env)::starEach es X.env:=by rfl)(hpl:(backTo pos (starEach es X.env)).any (·.1)=false:=by rfl)
  (ht:eval (.Call (.Attribute (.Name "ValueError" p) "__init__" p2) (e::es) [] pos) X.env=(do
   let ov <- eval (.Name "ValueError" p) X.env
   standAt p2.atName
   let(f,first) <- holding [ov] (getMethod ov "__init__" pl)
   callWith pos f first (backTo pos (starEach (e::es) X.env)) (backToKw pos (keywordEach [] X.env))):=by rfl) :
  PE X (.Call (.Attribute (.Name "ValueError" p) "__init__" p2) (e::es) [] pos) (zadu C t):=by
 intro pins s σ H Q I h
 refine PySem.W.methodCall_KW (pl:=pl) (zli I hg hm boot_ValueError ?_ (by decide) (by decide)) ht
 obtain⟨m,fr⟩:=I.fr
 refine PySem.W.method_type fr I.ok.mod.kin (by kernel_rfl) (by decide +kernel) zta (by decide +kernel) ?_
 have hA:=ha pos pins _ σ H _ (I.tok (s.toks+1)) h
 rw[hst]at hA ⊢
 refine qBG (by show(false||(backTo pos (starEach es X.env)).any (·.1))=false;rw[hpl]<;>rfl) (qCB ?_)
 refine thn hA λus s2 ⟨vs,H2,I2,r2,e',mv,ev,he,q⟩=>?_
 subst ev
 obtain⟨u1,u2,rfl,r1,r3⟩:=zsl r2
 cases r1
 obtain⟨nm,qn,N,bs,bm,sn,sub,ab,col,dd,k0,k1,k2,k3,k5,hC,hbm,_,_⟩:=zhq I2.kIn M.cls M.tail
 obtain⟨⟨vs,sl,oe,h1⟩,_,_⟩:=I2.hok e' _ he
 obtain⟨hh,g,d,tk,os⟩:=s2
 refine zanh hbm (by show 1<=qQ;rw[qAL];omega) hC oe rfl rfl (Nat.lt_of_succ_lt (qAS.mp h1).1) λh' p' a1 a2=>?_
 refine⟨.non,H2,?_,rfl,q⟩
 have hup:upd H2 e' (.ext (xe0 e' C))=H2:=by
  funext b
  by_cases hb:b=e'
  ·subst hb;rw[zan,he]
  ·rw[zar hb]
 have:=I2.write (x:=e') (e:=e') (o:=.ext (xe0 e' C)) (h':=h') (t':=tk) (by rw[he];exact True.intro) (.inl rfl) (λb u hb z=>a2 b u hb z) ⟨_,a1⟩ (zyo ⟨_,_,a1,by rw[Array.getElem?_setIfInBounds_ne (by decide)];exact h1⟩)
 rw[hup]at this
 exact this
end
section
variable{X:Cx}{pins:List (Addr×Obj)}{σ:St}{H:Hp}{s:Shared}{C f:Addr}{k:Nat}{fd:qq}
noncomputable def tSat(C:Addr)(ta tv:TE):TS:=λD σ H=>tv σ H λv H1=>ta σ H1 λx H2=>∃e,x=.ref e/\H2 e=some (.ext (xe0 e C))/\∀dx,H2 dx=none->dx≠e->D.nx σ (upd (upd H2 dx (.xd [("at",v)])) e (.ext (xeD e C dx .none)))
theorem zake{o value:Expr}{pos' pos:Pos}{ta tv:TE}(M:XMk X.K C f)(ha:PE X o ta)(hv:PE X value tv)(hs:swapsWith value (some (.Attribute o "at" pos')) pos.line X.env=pure false:=by rfl):PS X (.Assign [.Attribute o "at" pos'] value pos) (tSat C ta tv):=by
 intro pins s σ H D I h
 refine plainObj_wpAny_Assign_Attribute (thn (hv pins s σ H _ I h) λu s1 ⟨y,H1,I1,ry,q⟩=>thn (ha pins s1 σ H1 _ I1 q) λov s2 ⟨x,H2,I2,rx,e,ex,he,q2⟩=>?_) hs
 subst ex
 obtain rfl:ov=Value.ref e:=rx
 obtain⟨nm,qn,N,bs,bm,sn,sub,ab,col,dd,k0,k1,k2,k3,k5,hC,hbm,_,_⟩:=zhq I2.kIn M.cls M.tail
 obtain⟨⟨vs,sl,oe,h1⟩,_,_⟩:=I2.hok e _ he
 obtain⟨hh,g,d,tk,os⟩:=s2
 refine zakc hbm hC oe rfl (λc z=>by cases z) rfl (qAG I2.kIn M.sa) (qAG I2.kIn M.at_) λh' tk' dx a1 a2 a3 a4=>?_
 have hdx:H2 dx=none:=I2.hok.fresh a1
 have ne:dx≠e:=λz=>by rw[z,he]at hdx;cases hdx
 refine⟨σ,upd (upd H2 dx (.xd [("at",y)])) e (.ext (xeD e C dx .none)),?_,q2 dx hdx ne⟩
 have n2:∀b,b≠e->b≠dx->upd (upd H2 dx (.xd [("at",y)])) e (.ext (xeD e C dx .none)) b=H2 b:=λb p q=>by rw[zar p,zar q]
 have nb:∀b o,H2 b=some o->(∀φ,o≠.ext φ)->b≠e/\b≠dx:=λb o z n=>⟨λy=>(by rw[y,he]at z;cases z;exact n _ rfl),λy=>(by rw[y,hdx]at z;cases z)⟩
 have st:∀b o,H2 b=some o->(∀φ,o≠.ext φ)->upd (upd H2 dx (.xd [("at",y)])) e (.ext (xeD e C dx .none)) b=some o:=λb o z n=>by rw[n2 b (nb b o z n).1 (nb b o z n).2];exact z
 have lt:∀b u,hh.get? b=some u->b≠dx:=λb u z y=>by rw[y]at z;exact absurd (qP z) (Nat.not_lt.mpr a1)
 refine Inv.un (s:=⟨hh,g,d,tk,os⟩) I2 (h':=h') ⟨λb o z n _ _=>a4 b o (λy=>by rw[y,he]at n;cases n) z,λb o z n _ _=>⟨o.slots,a4 b o (λy=>by rw[y,he]at n;cases n) z⟩,λb o z n _=>?_,λb o z _=>?_,λb xs z=>st b _ z (λφ y=>by cases y),λb o u z=>st b _ z (λφ y=>by cases y),λb ps z=>⟨#[],by rw[st b _ z (λφ y=>by cases y)];simp⟩⟩ λb o z=>?_
 ·rw[n2 b (λy=>by rw[y,he]at n;cases n) (lt b o z)];exact n
 ·by_cases hb:b=e
  ·exact⟨_,by rw[hb];exact a3⟩
  ·exact⟨o,a4 b o hb z⟩
 ·by_cases hb:b=e
  ·subst hb
   rw[zan]at z
   cases z
   exact zadr ⟨vs,sl,a3,h1⟩
  ·by_cases hd:b=dx
   ·subst hd
    rw[zar hb,zan]at z
    cases z
    refine⟨_,a2,λn=>?_⟩
    by_cases hn:n="at"
    ·subst hn
     exact ry
    ·have:List.lookup n [((("at":Str)),y)]=none:=by
      rw[qAW]
      have:(n==("at":Str))=false:=by rw[beq_eq_false_iff_ne];exact hn
      rw[this]
      rfl
     rw[this]
     show RelO none (if n=("at":Str)then _ else _)
     rw[if_neg hn]
     trivial
   ·rw[n2 b hb hd]at z
    refine(I2.hok b o z).stay (λc u hc y=>a4 c u ?_ y) (λc y=>st c _ y (λφ x=>by cases x)) (λc xs y=>st c _ y (λφ x=>by cases x)) (λc o' y=>st c _ y (λφ x=>by cases x))
    rcases hc with rfl|hc
    ·exact hb
    ·exact λx=>by rw[x,he]at hc;cases hc
noncomputable def tXat(C:Addr)(te:TE):TE:=λσ H Q=>te σ H λx H1=>∃e dx tv v,x=.ref e/\H1 e=some (.ext (xeD e C dx tv))/\H1 dx=some (.xd [("at",v)])/\Q v H1
theorem zakf{o:Expr}{pos:Pos}{te:TE}(M:XMk X.K C f)(ho:PE X o te)(hb:attributeBase o "at" X.env (eval o X.env)=eval o X.env:=by rfl):PE X (.Attribute o "at" pos) (tXat C te):=by
 intro pins s σ H Q I h
 refine zaep hb (thn (ho pins s σ H _ I h) λu s1 ⟨x,H1,I1,rx,e,dx,tv,v,ex,he,hd,q⟩=>?_)
 subst ex
 obtain rfl:u=Value.ref e:=rx
 obtain⟨nm,qn,N,bs,bm,sn,sub,ab,col,dd,k0,k1,k2,k3,k5,hC,hbm,_,_⟩:=zhq I1.kIn M.cls M.tail
 obtain⟨⟨vs,sl,oe,h1⟩,_,_⟩:=I1.hok e _ he
 obtain⟨mA,ns,rl⟩:=I1.hok dx _ hd
 have hv:∃w,mA "at"=some w/\RelV v w:=by
  have:=rl "at"
  rw[show List.lookup ("at":Str) [(("at":Str),v)]=some v from rfl]at this
  cases y:mA "at"with
  | none=>rw[y]at this;exact this.elim
  | some w=>rw[y]at this;exact⟨w,rfl,this⟩
 obtain⟨w,hw,rw'⟩:=hv
 obtain⟨hh,g,d,tk,os⟩:=s1
 refine zang hbm hC oe rfl rfl rfl ns.ns hw (qAG I1.kIn M.ga) (qAG I1.kIn M.gh) (qAG I1.kIn M.at_) (zxd rw') λtk'=>⟨v,H1,I1.tok _,rw',q⟩
end
noncomputable def zabu(c:Str)(p1 p2 p3 p4 p5 p6 p7 p8 p9 p10 p11 p12 p13:Pos):List Stmt:=
 [.Expr (.Call (.Attribute (.Name "ValueError" p1) "__init__" p2) [.Name "self" p3,.JoinedStr [.Constant (.str c) 0 p4,.FormattedValue (.Name "at" p5) 114 none p6] p7] [] p8) p9,
  .Assign [.Attribute (.Name "self" p10) "at" p11] (.Name "at" p12) p13]
noncomputable def zabv(c:Str)(p1 p2 p3 p4 p5 p6 p7 p8:Pos):Prop:=∀env:Env,∃pl:Sem Bool,eval (.Call (.Attribute (.Name "ValueError" p1) "__init__" p2) [.Name "self" p3,.JoinedStr [.Constant (.str c) 0 p4,.FormattedValue (.Name "at" p5) 114 none p6] p7] [] p8) env=(do
   let ov <- eval (.Name "ValueError" p1) env
   standAt p2.atName
   let(f,first) <- holding [ov] (getMethod ov "__init__" pl)
   callWith p8 f first (backTo p8 (starEach [.Name "self" p3,.JoinedStr [.Constant (.str c) 0 p4,.FormattedValue (.Name "at" p5) 114 none p6] p7] env)) (backToKw p8 (keywordEach [] env)))
theorem zagg{P:Program}{w:World}{K:qC}{mg:Str->Option Value}{base:Heap}{C f:Addr}{qual:Str}{st:Stmt}{fd:qq}{c:Str}{p1 p2 p3 p4 p5 p6 p7 p8 p9 p10 p11 p12 p13:Pos}(F:Fun K "__init__" qual st f fd)(M:XMk K C f)(hm:mg "ValueError"=none)
  (hb:zcs st=zabu c p1 p2 p3 p4 p5 p6 p7 p8 p9 p10 p11 p12 p13) (hsc:zap st={kind:=.function,names:=[("self",.local),("at",.local),("ValueError",.globalImplicit)],isGenerator:=false,isCoroutine:=false}) (hc:c.length<=1000) (ht:zabv c p1 p2 p3 p4 p5 p6 p7 p8) :
  FnOk P w K mg base CX0 1 f fd ["self","at"] (spI C):=by
 have nd:(["self","at"]:List Str).Nodup:=by decide +kernel
 have S:FnScope ["self","at"] ["self","at"] (zap st):=by rw[hsc];exact⟨rfl,rfl,rfl,nd,rfl,by decide +kernel,by decide +kernel⟩
 refine F.ok S (λvs H Q E h=>by obtain⟨e,v,rfl,_⟩:=h;rfl) λcdv A outer s H vs Q E hr h=>?_
 obtain⟨e,v,rfl,he,av,q⟩:=h
 have g0:visB (cxOf CX0 P w K mg base ["self","at"] qual (zap st) f cdv A outer s H E).nox.env.scope "self"=true:=by show visB (zap st) _=_;rw[hsc];decide +kernel
 have g1:visB (cxOf CX0 P w K mg base ["self","at"] qual (zap st) f cdv A outer s H E).nox.env.scope "at"=true:=by show visB (zap st) _=_;rw[hsc];decide +kernel
 have g2:Gl (cxOf CX0 P w K mg base ["self","at"] qual (zap st) f cdv A outer s H E).nox "ValueError":=by show(zap st).names.lookup _=_;rw[hsc];decide +kernel
 have e0:∀{p:Pos},PE (cxOf CX0 P w K mg base ["self","at"] qual (zap st) f cdv A outer s H E).nox (.Name "self" p) (tVar 0):=λ{p}=>pv 0 rfl g0
 have e1:∀{p:Pos},PE (cxOf CX0 P w K mg base ["self","at"] qual (zap st) f cdv A outer s H E).nox (.Name "at" p) (tVar 1):=λ{p}=>pv 1 rfl g1
 refine⟨tSeq (tDrop (zadu C (tCons (tVar 0) (tCons (tMsg (tVar 1)) tNil)))) (tSat C (tVar 0) (tVar 1)),?_,?_⟩
 ·rw[hb]
  obtain⟨pl,ht⟩:=ht (cxOf CX0 P w K mg base ["self","at"] qual (zap st) f cdv A outer s H E).nox.env
  exact zfy (zwv (zabt (f:=f) (pl:=pl) M g2 hm (zbn e0 (zbn (zakd e1 hc) zhe)) rfl rfl ht)) (zin (zake M e0 e1))
 ·exact⟨_,rfl,v,rfl,av,λm=>⟨e,_,rfl,he,v,rfl,_,rfl,e,rfl,he,q⟩⟩
noncomputable def atD:PyData->Bool
 | .none=>true
 | .str x=>decide ((PySem.reprText x).length<=1000)
 | .int n=>decide (0<=n/\n<100)
 | _=>false
theorem zug{d:PyData}(h:atD d=true):zef d=true:=by cases d<;>first|rfl|cases h
theorem zani{H:Hp}{d:PyData}{v:V}(h:atD d=true)(r:Rp H d v):atV v:=by
 cases d with
 | none=>rw[zpb r];trivial
 | str x=>rw[zes r];show(PySem.reprText x).length<=1000;exact of_decide_eq_true h
 | int n=>rw[zcb r];show 0<=n/\n<100;exact of_decide_eq_true h
 | _=>cases h
noncomputable def RX(H0:Hp)(C:Addr)(d:PyData):XK:=λc od H'=>c=.ref C/\Same H0 H'/\zef d=true/\∃dx v,od=some dx/\H' dx=some (.xd [("at",v)])/\Rp H' d v
theorem RX.base{H0 H1:Hp}{C:Addr}{d:PyData}(s:Same H0 H1){c:Value}{od:Option Addr}{H':Hp}(h:RX H1 C d c od H'):RX H0 C d c od H':=
 let⟨a,b,r⟩:=h;⟨a,s.trans b,r⟩
theorem RX.stx{H0:Hp}{C:Addr}{d:PyData}{E:XK}(h:∀c od H',RX H0 C d c od H'->E c od H'){c:Value}{od:Option Addr}{H':Hp}(q:RX H0 C d c od H'):StX H0 E c od H':=by
 intro H3 r1 r2
 obtain⟨a,b,f,dx,v,e1,e2,e3⟩:=q
 exact h _ _ _ ⟨a,λx o z=>r1 x o z (b x o z),f,dx,v,e1,r2 _ _ e2 (λφ z=>by cases z),zio f e3⟩
inductive OutX where
 | ok (o:Out)
 | rx (c:Str) (d:PyData)
noncomputable def SatX(cl:Str->Addr)(fx:Addr->Prop)(H0:Hp)(D:Ends)(E:XK):OutX->Prop
 | .ok o=>Sat fx H0 D o
 | .rx c d=>∀k od H',RX H0 (cl c) d k od H'->E k od H'
noncomputable abbrev SFX:=DEnv->Option OutX
noncomputable def SSx(cl:Str->Addr)(ts:XK->TS)(F:SFX):Prop:=∀(fx:Addr->Prop)(H0:Hp)(env:DEnv)(σ:St)(H:Hp)(D:Ends)(E:XK),EnvOk fx H0 env σ H->∀o,F env=some o->SatX cl fx H0 D E o->ts E D σ H
section
variable{cl:Str->Addr}
noncomputable def xOf(f:SF):SFX:=λenv=>(f env).map .ok
theorem zakg{t:TS}{f:SF}(h:SS t f):SSx cl (λ_=>t) (xOf f):=by
 intro fx H0 env σ H D E hE o e q
 obtain⟨o',e',rfl⟩:=qE.mp e
 exact h fx H0 env σ H D hE o' e' q
noncomputable def xSeq(f g:SFX):SFX:=λenv=>(f env).bind λo=>match o with
 | .ok (.nx env')=>g env'
 | o=>some o
theorem zagh{t u:XK->TS}{f g:SFX}(h1:SSx cl t f)(h2:SSx cl u g):SSx cl (λE=>tSeq (t E) (u E)) (xSeq f g):=by
 intro fx H0 env σ H D E hE o e q
 obtain⟨o1,e1,e⟩:=qA.mp e
 refine h1 fx H0 env σ H _ E hE o1 e1 ?_
 cases o1 with
 | rx c d=>cases e;exact q
 | ok o1=>
  cases o1 with
  | nx env'=>exact λσ' H' h'=>h2 fx H0 env' σ' H' D E h' o e q
  | bk env'=>cases e;exact q
  | ct env'=>cases e;exact q
  | rt d fr=>cases e;exact q
noncomputable def zuh(c:Str)(f:EF):SFX:=λenv=>(f env).bind λr=>if atD r.d=true then some (.rx c r.d)else none
theorem zys{c:Str}{te:TE}{f:EF}(h1:SE te f):SSx cl (λE=>zyq (cl c) E te) (zuh c f):=by
 intro fx H0 env σ H D E h o e q
 obtain⟨r,er,e⟩:=qA.mp e
 split at e
 ·rename_i ha
  cases e
  refine h1 fx H0 env σ H h r er _ λv H' s hv=>⟨zani ha hv.rp,λH2 dx s2 hd=>q _ _ _ ⟨rfl,(h.base.trans s).trans s2,zug ha,dx,v,rfl,hd,zio (zug ha) hv.rp⟩⟩
 ·cases e
inductive ResX where
 | ok (d:PyData) (fr:Bool)
 | rx (c:Str) (d:PyData)
noncomputable abbrev GFX:=List PyData->Option ResX
noncomputable def zanj(cl:Str->Addr)(fx:Addr->Prop)(H:Hp)(Q:VK)(E:XK):ResX->Prop
 | .ok d fr=>∀v H',Same H H'->zpd fx H d fr v H'->Q v H'
 | .rx c d=>∀k od H',RX H (cl c) d k od H'->E k od H'
noncomputable def spX(cl:Str->Addr)(n:Nat)(g:GFX):Sp:=λvs H Q E=>∃(fx:Addr->Prop)(ds:List PyData)(r:ResX),ds.length=n/\(∀b,fx b->∃o,H b=some o)/\Rps (Offs fx H) ds vs/\g ds=some r/\zanj cl fx H Q E r
theorem zagi{n:Nat}{g:GFX}{vs:List V}{H:Hp}{Q:VK}{E:XK}(h:spX cl n g vs H Q E):vs.length=n:=by
 obtain⟨fx,ds,r,hn,hf,rr,_⟩:=h
 rw[<- rr.length];exact hn
noncomputable def fnX(n:Nat)(f:SFX):GFX:=λds=>match f (zgn n ds)with
 | some (.ok (.rt d fr))=>some (.ok d fr)
 | some (.ok (.nx _))=>some (.ok .none false)
 | some (.rx c d)=>some (.rx c d)
 | _=>none
theorem fn_x{N:List Str}{n:Nat}{f:SFX}{t:XK->TS}(hs:SSx cl t f){vs:List V}{H:Hp}{Q:VK}{E:XK}(h:spX cl n (fnX N.length f) vs H Q E):t (StX H E) {nx:=λ_ H'=>Q .non H',rt:=Q} (zdi N vs) H:=by
 obtain⟨fx,ds,r,hn,hf,rr,g,k⟩:=h
 unfold fnX at g
 split at g
 ·rename_i d' fr' eo
  cases g
  exact hs fx H _ _ H _ _ (zev hf rr) _ eo λv H' s rt=>k v H' s rt
 ·rename_i e' eo
  cases g
  exact hs fx H _ _ H _ _ (zev hf rr) _ eo λσ H' hE=>k .non H' hE.base ⟨zjw,λz=>by cases z⟩
 ·rename_i c d eo
  cases g
  exact hs fx H _ _ H _ _ (zev hf rr) _ eo λk' od H' q=>RX.stx k q
 ·cases g
end
noncomputable abbrev Cx.hold(X:Cx)(e:Addr):Cx:={X with A:=X.A.mark (some (.ref e)),calm:=false,xe:=λ_ _=>False}
section
variable{X:Cx}{pins:List (Addr×Obj)}{σ:St}{H:Hp}{s:Shared}
theorem Inv.hold(I:Inv X pins σ H s)(e:Addr):Inv (X.hold e) pins σ H s:=
 ⟨⟨I.ok.mod,I.ok.kind,I.ok.glob,I.ok.blt,I.ok.above,I.ok.inj,I.ok.has,I.ok.cab,(λz=>by cases z),I.ok.frames,I.ok.stk,I.ok.exf,I.ok.bs,I.ok.bsz,I.ok.noex,I.ok.exfs,I.ok.funs,I.ok.frf⟩,I.os,I.bare,I.base,I.loc,I.cell,I.free,I.freeC,I.pin,I.hok,I.len⟩
theorem Inv.unhold{e:Addr}(ok:X.Ok)(I:Inv (X.hold e) pins σ H s):Inv X pins σ H s:=
 ⟨ok,I.os,I.bare,I.base,I.loc,I.cell,I.free,I.freeC,I.pin,I.hok,I.len⟩
theorem zyt{A:Around}{E:Value->Shared->Prop}{n:Str}{pos:Pos}{j:Nat}{Q:Unit->Shared->Prop}(I:Inv X pins σ H s)(hN:X.N.Nodup)(hj:X.N[j]?=some n)(hl:X.env.scope.names.lookup n=some .local)
  (h:∀s',Inv X pins (σ.set j none) H s'->Q () s'):wpAny (model X.prog X.w) A (do bindName X.env n .none;unbindBehindTheSuite X.env n pos) Q E s:=by
 obtain⟨m,hn,hlk⟩:=id I.loc
 have hcls:(X.env.scope.kind==.class||(X.env.scope.kind==.module&&X.env.locals != X.env.globals))=false:=by rw[I.ok.kind];rfl
 refine wpAny_nameGoes_keeps hl hn hcls λh' v ns sb=>h _ ?_
 have lo:∀b ob,X.s₀.heap.get? b=some ob->h'.get? b=s.heap.get? b:=λb ob e=>sb.2 b (qAI (qM (qP e) I.ok.above))
 have cne:=I.cne
 refine⟨I.ok,I.os,I.bare,⟨λb o e n hb hx=>(lo b o e).trans (I.base.keep b o e n hb hx),λb o e n hb hx=>?_,I.base.free,λb o e hx=>?_,I.base.tups,I.base.frzs,I.base.tbls⟩,⟨_,ns,λk y v' e1 e2 e3=>?_⟩,λy c e=>?_,I.free,I.freeC,λp hp=>?_,λb ob e=>?_,by simpa using I.len⟩
 ·obtain⟨sl,e1⟩:=I.base.slot b o e n hb hx
  exact⟨sl,(lo b o e).trans e1⟩
 ·obtain⟨o',e1⟩:=I.base.there b o e hx
  exact⟨o',(lo b o e).trans e1⟩
 ·by_cases hk:k=j
  ·subst hk
   rw[qe (by have:=(qZ.mp hj).1;rw[I.len];exact this)]at e2
   cases e2
  ·rw[qH (qAo hk)]at e2
   obtain⟨u',r',q⟩:=hlk k y v' e1 e2 e3
   refine⟨u',r',?_⟩
   rcases q with⟨z,e⟩|⟨z,c,e,y'⟩
   ·refine .inl ⟨z,?_⟩
    have:y≠n:=λe=>hk (zop hN e1 (e▸hj))
    simp[this,e]
   ·exact .inr ⟨z,c,e,y'.sameBut sb (cne y c e)⟩
 ·obtain⟨w',z⟩:=I.cell y c e
  exact⟨w',z.sameBut sb (cne y c e)⟩
 ·obtain⟨e,n,ne,nf,d⟩:=I.pin p hp
  exact⟨(sb.2 p.1 ne).trans e,n,ne,nf,d⟩
 ·refine(I.hok b ob e).stay (λc w' hc q=>(sb.2 c ?_).trans q) (λ_ q=>q) (λ_ _ q=>q) (λ_ _ q=>q)
  rintro rfl
  rcases hc with hc|hc
  ·rw[<- hc,I.free]at e;cases e
  ·rw[I.free]at hc;cases hc
end
end L2
namespace PySem
open Sem (wp)
open Builtin Builtin.ObjectAttr
section
variable{prog:Program}{w:World}{A:Around}{E:Value->Shared->Prop}{h:Heap}{g:Array GenState}{d:Drawn}{t:Nat}{os:OsState}
variable{nm q:Str}{C N x:Addr}{bs bm:List Value}{sn:List Str}{sub:List Value}{ab:Bool}{col:Option Bool}{dd:Option Addr}{k0 k1 k2 k3 k5:Option Value}{newId:String}{o:Obj}
theorem zvt {R:Result->Shared->Prop} (hr:zda bm=true) (hC:h.get? C=some (excClassObj nm q C N bs bm true sn sub ab col dd k0 k1 k2 k3 k5 newId)) (hx:h.get? x=some o) (hc:o.cls=.ref C) (hq:R (.ok (.ret (.ref C))) ⟨h,g,d,t,os⟩) :
  codeAny (model prog w) A (.call (.builtin "getset_descriptor.__get__") ⟨[.builtin "object.__class__",.ref x,.ref C],[]⟩) R ⟨h,g,d,t,os⟩:=by
 have hT5:(⟨h,g,d,t,os⟩:Shared).TypeIs (.builtin "object.__class__") "getset_descriptor":=qBR
 have hcB:(Value.ref C::bm).contains (.type (".".intercalate ("object.__class__".cutAt '.').dropLast))=true:=by
  rw[F.owner_object_class,qu,zcg (by decide) hr];rfl
 refine qAk qCG.plain F.entry_gs_get (qCG.check _ _ _ _ _ _ _ _ hT5 (F.args_gs_get _ _ _) ?_)
 repeat (any_goals (first|assumption|(with_reducible refine qY hx ?_;rw[hc])|(with_reducible refine qAP hC ?_;rw[hcB])|wp_step))
 refine⟨qBb _ (by decide +kernel),codeAny_builtin F.entry_object_class ?_⟩
 repeat (any_goals (first|assumption|(with_reducible refine qY hx ?_;rw[hc])|wp_step))
theorem zakh{Q:Option Value->Shared->Prop}(hr:zda bm=true)(hC:h.get? C=some (excClassObj nm q C N bs bm true sn sub ab col dd k0 k1 k2 k3 k5 newId))(hx:h.get? x=some o)(hc:o.cls=.ref C)
  (LG:W.Looks (model prog w) h (typeLookup (.ref C) "__getattribute__") (some (.builtin "BaseException.__getattribute__")))(LA:W.Looks (model prog w) h (typeLookup (.ref C) "__class__") (some (.builtin "object.__class__")))
  (LH:W.Looks (model prog w) h (typeLookup (.ref C) "__getattr__") none) (hq:Q (some (.ref C)) ⟨h,g,d,t+1,os⟩):wpAny (model prog w) A (getAttr? (.ref x) "__class__") Q E ⟨h,g,d,t,os⟩:=by
 have hk:builtinKind "BaseException.__getattribute__"=some .slot:=by decide +kernel
 have hsplit:splitId "BaseException.__getattribute__"=some ("BaseException","__getattribute__"):=by decide +kernel
 have hcB:(Value.ref C::bm).contains (.type "BaseException")=true:=by rw[qu,zcg (by decide) hr,qAf]
 have hx2:(Value.builtin "BaseException.__getattribute__"==Value.builtin "object.__getattribute__")=false:=by decide +kernel
 have hx1:(onTheHeap (Value.ref C)&&Value.builtin "BaseException.__getattribute__"==Value.builtin "object.__getattribute__")=false:=by rw[hx2];rfl
 have FB:=F.attr_ValueError
 have f3:=FB.ga.bind (.ref x)
 have hT5:(⟨h,g,d,t+1,os⟩:Shared).TypeIs (.builtin "object.__class__") "getset_descriptor":=qBR
 have f5:=qBR
 have f6:=qCG.lookup
 have f7:=F.slot_gs_set.lookup
 unfold getAttr? getAttrBy? getAttrBy
 repeat (any_goals (first|assumption|(with_reducible refine qY hx ?_;rw[hc])|(with_reducible refine LG.here ?_)|(with_reducible refine LH.here ?_)|wp_step))
 refine qAk FB.ga.plain F.entry_bexc_ga ?_
 simp only[checkBuiltinCall,hk,hsplit]
 refine qV ?_
 unfold isInstance
 repeat (first|(with_reducible refine qY hx ?_;rw[hc])|(with_reducible refine qAP hC ?_;rw[hcB])|wp_step)
 repeat (any_goals (first|assumption|(with_reducible refine qY hx ?_;rw[hc])|(with_reducible refine LA.here ?_)|wp_step))
 refine zvt hr hC hx hc ?_
 repeat (any_goals (first|assumption|wp_step))
end
end PySem
namespace L2
open PySem PySem.Spec PyProof.Rows
section
variable{X:Cx}{C f:Addr}
theorem zpm{K:qC}{e C dx f:Addr}(M:XMk K C f)(ha:PySem.W.findIn K (.ref C) "__class__"=some (some (.builtin "object.__class__"))):PySem.W.KitX K (.ref e) (.ref C) (λh=>∃tv,xeD e C dx tv h) where
 ty:=λ_ _ _ ⟨_,_,_,a,_⟩=>(qBz a).andThen .now
 it:=λ_ _ X _=>by
  obtain⟨nm,qn,N,bs,bm,sn,sub,ab,col,dd,k0,k1,k2,k3,k5,hC,_⟩:=zhq X M.cls M.tail
  intro A' Q' E' s' k q
  unfold isType loadHead
  exact qV (wpAny_loadPart (k _ _ hC) (qv q))
 ne:=λh tp dd its n sl X htp=>by
  obtain⟨nm,qn,N,bs,bm,sn,sub,ab,col,dd,k0,k1,k2,k3,k5,hC,_⟩:=zhq X M.cls M.tail
  refine Bool.eq_false_iff.mpr λq=>?_
  have e:C=tp:=Value.ref.inj (beq_iff_eq.mp q)
  subst e
  have z:=congrArg Obj.cls (qi (hC.symm.trans htp))
  unfold excClassObj at z
  injection z with z
  exact absurd z (by decide)
 ca:=λ{prog w A E Q s} X ⟨tv,vs,sl,a,_⟩ k=>by
  obtain⟨nm,qn,N,bs,bm,sn,sub,ab,col,dd,k0,k1,k2,k3,k5,hC,hbm,_⟩:=zhq X M.cls M.tail
  obtain⟨h,g,d,t,os⟩:=s
  exact zakh hbm hC a rfl (qAG X M.ga) (qAG X ha) (qAG X M.gh) k
noncomputable def rIsX(K:qC)(C:Addr):List V->Hp->VK->Prop:=λxs H Q=>∃e dx tv b,H e=some (.ext (xeD e C dx tv))/\Q (.bl b) H/\
 ((∃c,xs=[.ref e,.ref c]/\PySem.W.kitOne K (.ref C) (.ref c)=some b)\/(∃n,xs=[.ref e,.ty n]/\PySem.W.kitOne K (.ref C) (.type n)=some b)\/∃p ys us,xs=[.ref e,.ref p]/\H p=some (.tup ys)/\(∀its,Vals ys its->its=us)/\PySem.W.kitAny K (.ref C) us=some b)
theorem zpn(M:XMk X.K C f)(ha:PySem.W.findIn X.K (.ref C) "__class__"=some (some (.builtin "object.__class__"))):CallR X (.builtin "isinstance") (rIsX X.K C):=by
 intro pins s σ H xs us Q I r h
 obtain⟨e,dx,tv,b,he,q,h⟩:=h
 have hx:=(I.hok e _ he).1
 rcases h with⟨c,rfl,kk⟩|⟨n,rfl,kk⟩|⟨p,ys,us',rfl,hp,hv,kk⟩
 ·obtain⟨u1,u2,rfl,r1,r2⟩:=zsl r
  cases r1
  cases r2
  exact qAA (zpm (dx:=dx) M ha) I.kIn ⟨tv,hx⟩ kk (λz=>nomatch z) λtk=>⟨.bl b,H,I.tok _,rfl,q⟩
 ·obtain⟨u1,u2,rfl,r1,r2⟩:=zsl r
  cases r1
  cases r2
  exact qAA (zpm (dx:=dx) M ha) I.kIn ⟨tv,hx⟩ kk (λz=>nomatch z) λtk=>⟨.bl b,H,I.tok _,rfl,q⟩
 ·obtain⟨u1,u2,rfl,r1,r2⟩:=zsl r
  cases r1
  cases r2
  obtain⟨_,its,vi,op,hop,ho1,n,ho2⟩:=I.hok p _ hp
  cases hv its vi
  obtain⟨oc,od,odt,osl⟩:=op
  cases ho1
  cases ho2
  exact PySem.W.kia_tup (zpm (dx:=dx) M ha) I.kIn ⟨tv,hx⟩ hop kk (λz=>nomatch z) λtk=>⟨.bl b,H,I.tok _,rfl,q⟩
end
theorem zagj{X:Cx}{x:Str}{C:Addr}{pos:Pos}(hg:Gl X x)(hm:X.mg x=some (.ref C))(hd:(x==("__debug__":Str))=false:=by decide):PE X (.Name x pos) (tC (.ref C)):=
 λ_ _ _ H _ I h=>zlh I hg hm ⟨.ref C,H,I,rfl,h⟩ hd
noncomputable def tIsx(K:qC)(C:Addr)(te tc:TE):TE:=tCB (rIsX K C) (tCons te (tCons tc tNil))
noncomputable def DnX(P:Program)(w:World)(K:qC)(mg:Str->Option Value)(base:Heap)(x:Str)(ps:List Str)(k:Nat)(sp:Sp):Prop:=
 ∃f fd,FnOk P w K mg base (CXE P w) k f fd ps sp/\mg x=some (.ref f)/\qAX K (.ref f)=true/\zgu K fd ps []
section
variable{X:Cx}
theorem zagk{x:Str}{p pos:Pos}{e:Expr}{es:List Expr}{t:TA}{ps:List Str}{k:Nat}{sp:Sp}{E:XK}(D:DnX X.prog X.w X.K X.mg X.base x ps k sp)(hx:zqh (CXE X.prog X.w) X E)(hr:Room k X.A)(hg:Gl X x)(ha:Bx (PA X (e::es) t))
  (hdb:(x==("__debug__":Str))=false)(he:starEach (e::es) X.env=(false,eval e X.env)::starEach es X.env)(hpl:(backTo pos (starEach es X.env)).any (·.1)=false) :
  Bx (PE X (.Call (.Name x p) (e::es) [] pos) (tCall sp [] E t)):=by
 obtain⟨f,fd,F,hm,hk,hb⟩:=D
 exact⟨zxf F hr hg hm hk hb .nil hx ha.out hdb he hpl⟩
noncomputable def XcOk(P:Program)(w:World)(K:qC)(mg:Str->Option Value)(base:Heap)(x:Str)(C:Addr):Prop:=
 ∃f fd,XMk K C f/\FnOk P w K mg base CX0 1 f fd ["self","at"] (spI C)/\zgu K fd ["self","at"] []/\mg x=some (.ref C)/\PySem.W.findIn K (.ref C) "__class__"=some (some (.builtin "object.__class__"))/\PySem.W.exmOne K (.ref C) (.ref C)=some true
theorem zyu{E:XK}{C:Addr}{x:Str}{np cpos pos:Pos}{a:Expr}{te:TE}(M:XcOk X.prog X.w X.K X.mg X.base x C)(hr:Room 2 X.A)(hex:X.ex=[])(hc:X.calm=true)(hx:Lvs X E)(hg:Gl X x)(ha:Bx (PE X a te))
  (hdb:(x==("__debug__":Str))=false) (he:starEach [a] X.env=[(false,eval a X.env)]):Bx (PS X (.Raise (some (.Call (.Name x np) [a] [] cpos)) none pos) (zyq C E te)):=by
 obtain⟨f,fd,M,F,hb,hm,_⟩:=M
 exact⟨zabs M F hr hb hex hc hx hg hm ha.out hdb he⟩
end
theorem zaki{P:Program}{w:World}{K:qC}{mg:Str->Option Value}{base:Heap}{N:List Str}{qual:Str}{scope:Scope}{f:Addr}{cd:Value}{A:Around}{outer:List Env}{s:Shared}{H:Hp}{E:XK}(h0k:HOk P w H s.heap) :
  Lvs (cxOf (CXE P w) P w K mg base N qual scope f cd A outer s H E) (StX H E):=λpins σ H1 s1 e C dx I F q=>zads I h0k F q
theorem zakj{X:Cx}{pins:List (Addr×Obj)}{σ:St}{H:Hp}{s:Shared}{d:PyData}{x:V}{u:Value}(I:Inv X pins σ H s)(rx:RelV x u)(rp:Rp H d x):∃Hh:Heap->Prop,PySem.W.KitX X.K u (.type (zjd d)) Hh/\Hh s.heap/\u≠.builtin "__main__.__loader__#opaque":=by
 cases d with
 | none=>rw[zpb rp]at rx;cases rx;exact⟨_,qCD,True.intro,λz=>nomatch z⟩
 | bool b=>rw[zhl rp]at rx;cases rx;exact⟨_,qCE,True.intro,λz=>nomatch z⟩
 | int i=>rw[zcb rp]at rx;obtain⟨t,rfl⟩:=rx;exact⟨_,qCJ,True.intro,λz=>nomatch z⟩
 | str y=>rw[zes rp]at rx;obtain⟨t,rfl⟩:=rx;exact⟨_,qCI,True.intro,λz=>nomatch z⟩
 | list ds=>
  obtain⟨a,xs,rfl,ha,_⟩:=zct rp
  cases rx
  obtain⟨_,_,n,_,h1⟩:=(show zdh X.prog X.w H s.heap a (.lst xs)from I.hok a _ ha)
  exact⟨_,qBW,⟨_,h1,rfl⟩,λz=>nomatch z⟩
 | tuple ds=>
  obtain⟨a,xs,rfl,ha,_⟩:=zby rp
  cases rx
  obtain⟨_,_,_,p⟩:=(show zdh X.prog X.w H s.heap a (.tup xs)from I.hok a _ ha)
  obtain⟨o,h1,h2,_⟩:=p
  exact⟨_,qB9,⟨o,h1,h2⟩,λz=>nomatch z⟩
 | dict ds=>
  obtain⟨a,xs,rfl,ha,_⟩:=zpa rp
  cases rx
  obtain⟨_,_,vs,_,p⟩:=(show zdh X.prog X.w H s.heap a (.dK xs)from I.hok a _ ha)
  obtain⟨o,es,ep,h1,h2,_⟩:=p
  exact⟨_,qBX,⟨o,h1,h2.1⟩,λz=>nomatch z⟩
noncomputable def zakk(K:qC)(m n:String):List V->Hp->VK->Prop:=λxs H Q=>∃x p d b,xs=[x,.ref p]/\H p=some (.tup [.ty m,.ty n])/\Rp H d x/\PySem.W.kitAny K (.type (zjd d)) [.type m,.type n]=some b/\Q (.bl b) H
theorem zyv{X:Cx}{K:qC}(hK:X.K=K){m n:String}:CallR X (.builtin "isinstance") (zakk K m n):=by
 subst hK
 intro pins s σ H xs us Q I r h
 obtain⟨x,p,d,b,rfl,hp,rp,kk,q⟩:=h
 obtain⟨u1,u2,rfl,r1,r2⟩:=zsl r
 cases r2
 obtain⟨Hh,Z,hz,hne⟩:=zakj I r1 rp
 obtain⟨_,its,vi,op,hop,ho1,n',ho2⟩:=I.hok p _ hp
 have hi:its=[.type m,.type n]:=by
  cases vi with
  | cons a t=>
   cases t with
   | cons b t=>
    cases t
    cases a
    cases b
    rfl
 subst hi
 obtain⟨oc,od,odt,osl⟩:=op
 cases ho1
 cases ho2
 exact PySem.W.kia_tup Z I.kIn hz hop kk hne λtk=>⟨.bl b,H,I.tok _,rfl,q⟩
noncomputable def zabw(m n:String)(a:EF):EF:=λenv=>(a env).map λx=>⟨.bool (isiB m x.d||isiB n x.d),false,[]⟩
theorem zagl{K:qC}{m n:String}{te:TE}{f:EF}(h1:SE te f)(hk:∀d,PySem.W.kitAny K (.type (zjd d)) [.type m,.type n]=some (isiB m d||isiB n d)) :
  SE (tCB (zakk K m n) (tCons te (tCons (tTup (tCons (tC (.ty m)) (tCons (tC (.ty n)) tNil))) tNil))) (zabw m n f):=by
 intro fx H0 env σ H h rr hr Q q
 unfold zabw at hr
 obtain⟨r,er,rfl⟩:=qE.mp hr
 refine h1 fx H0 env σ H h r er _ λv H' s hv=>⟨by show 2<=qQ;rw[qAL];omega,λp hp=>?_⟩
 refine⟨v,p,r.d,_,rfl,zan,Rp.same ((Offs.same _ _).trans (Same.new hp)) _ hv.rp,hk _,q _ _ (s.trans (Same.new hp)) ⟨zce,λz=>by cases z⟩⟩
section
variable{X:Cx}
theorem bpaC{e:Expr}{es:List Expr}{te:TE}{t:TA}(h1:Bx (PE X e te))(h2:Bx (PA X es t))(h3:isStar e=false:=by rfl):Bx (PA X (e::es) (tCons te t)):=zfq h1 h2 h3
theorem bpeD{x:Str}{p pos:Pos}{e:Expr}{es:List Expr}{t:TA}{ps:List Str}{k m:Nat}{sp:Sp}(D:Dn X.prog X.w X.K X.mg X.base x ps k sp)(hr:Room m X.A)(ha:Bx (PA X (e::es) t))(hm:k<=m:=by decide)(hg:Gl X x:=by rfl)(hd:(x==("__debug__":Str))=false:=by decide)
  (hs:isStar e=false:=by rfl) (hp:((backTo pos (starEach es X.env)).any λx=>x.1)=false:=by rfl):Bx (PE X (.Call (.Name x p) (e::es) [] pos) (tCall sp [] E0 t)):=zajv D (hr.mono hm) hg ha hd (zay hs) hp
theorem bpeB{x:Str}{p pos:Pos}{e:Expr}{es:List Expr}{t:TA}{id:String}{r:List V->Hp->VK->Prop}(hc:CallR X (.builtin id) r)(hm:X.mg x=none)(hb:bootBuiltins x=some (.builtin id))(ha:Bx (PA X (e::es) t))(hg:Gl X x:=by rfl)(h1:x≠("__name__":Str):=by decide)(h2:(x==("__debug__":Str))=false:=by decide)
  (hs:isStar e=false:=by rfl) (hp:((backTo pos (starEach es X.env)).any λx=>x.1)=false:=by rfl):Bx (PE X (.Call (.Name x p) (e::es) [] pos) (tCB r t)):=zlx hc hg hm hb ha h1 h2 (zay hs) hp
theorem bpeT{x:Str}{p pos:Pos}{e:Expr}{es:List Expr}{t:TA}{T:String}{r:List V->Hp->VK->Prop}(hc:CallR X (.type T) r)(hm:X.mg x=none)(hb:bootBuiltins x=some (.type T))(ha:Bx (PA X (e::es) t))(hg:Gl X x:=by rfl)(h1:x≠("__name__":Str):=by decide)(h2:(x==("__debug__":Str))=false:=by decide)
  (hs:isStar e=false:=by rfl) (hp:((backTo pos (starEach es X.env)).any λx=>x.1)=false:=by rfl):Bx (PE X (.Call (.Name x p) (e::es) [] pos) (tCB r t)):=zvq hc hg hm hb ha h1 h2 (zay hs) hp
theorem bpsS{pos:Pos}{i:Nat}{x:Str}{e:Expr}{te:TE}{pos':Pos}(hN:X.N.Nodup)(hi:X.N[i]?=some x)(hl:Loc X.env.scope x)(he:Bx (PE X e te))(hs:swapsWith e (some (.Name x pos')) pos.line X.env=pure false:=by rfl)(hf:X.fn x=true\/X.env.scope.names.lookup x=some .local:=by exact .inl rfl):Bx (PS X (.Assign [.Name x pos'] e pos) (tAsg te (gName i))):=zafr hN hi hl he hs hf
theorem bpeX{a b:Expr}{ta tb:TE}{pos:Pos}{r:R2}(hr:IxR X r)(h1:Bx (PE X a ta))(h2:Bx (PE X b tb))(hp:PlainIx b:=by exact λ_ _=>rfl):Bx (PE X (.Subscript a b pos) (tOp r ta tb)):=zajw hr h1 h2 hp
theorem bpgN{pos:Pos}{i:Nat}{x:Str}(hN:X.N.Nodup)(hi:X.N[i]?=some x)(hl:Loc X.env.scope x)(hf:X.fn x=true\/X.env.scope.names.lookup x=some .local:=by first|exact .inl rfl|exact .inr rfl|assumption):Bx (PG X (.Name x pos) (gName i)):=zabm hN hi hl hf
end
noncomputable def zagm(te:TE):TE:=λσ H Q=>te σ H λx H1=>∃n:Nat,x=.int (n:Int)/\n<=100000/\∀l,H1 l=none->Q (.ref l) (upd H1 l (.lst ((List.range n).map λ(k:Nat)=>.int (k:Int))))
theorem zagn:bootBuiltins "list"=some (.type "list"):=by decide +kernel
theorem zvu:∀{n:Nat}{acc:Array Value},ItemsOf (λi v=>∃t,v=.int (0+(i:Int) * 1) t) acc n->Vals ((List.range n).map λ(k:Nat)=>V.int (k:Int)) acc.toList:=λ{n acc} h=>by
 have go:∀(m lo:Nat)(l:List Value),l.length=m->(∀j v,l[j]?=some v->∃t,v=Value.int ((lo+j:Nat):Int) t)->Vals ((List.range' lo m).map λ(k:Nat)=>V.int (k:Int)) l:=by
  intro m
  induction m with
  | zero=>intro lo l hl _;rw[qBA.mp hl];exact .nil
  | succ m ih=>
   intro lo l hl hv
   cases l with
   | nil=>cases hl
   | cons v l=>
    obtain⟨t,e⟩:=hv 0 v rfl
    rw[List.range'_succ,ql]
    refine .cons ⟨t,by rw[e];rfl⟩ (ih (lo+1) l (Nat.succ.inj hl) λj u hj=>?_)
    obtain⟨t,e⟩:=hv (j+1) u hj
    exact⟨t,by rw[e];congr 1;omega⟩
 rw[List.range_eq_range']
 refine go n 0 acc.toList (by rw[qAj];exact h.1) λj v hj=>?_
 obtain⟨t,e⟩:=h.2 j v (by rw[<- qBK];exact hj)
 exact⟨t,by rw[e];congr 1;omega⟩
theorem zago{X:Cx}{e:Expr}{te:TE}{p1 p2 pos1 pos2:Pos}(hc:X.calm=true)(hgl:Gl X "list")(hml:X.mg "list"=none)(hgs:Gl X "range")(hms:X.mg "range"=none)(he:PE X e te)
  (hs:starEach [e] X.env=(false,eval e X.env)::starEach [] X.env:=by rfl) :
  PE X (.Call (.Name "list" p1) [.Call (.Name "range" p2) [e] [] pos2] [] pos1) (zagm te):=by
 intro pins s σ H Q I h
 refine qAa (zli I hgl hml zagn ?_ (by decide) (by decide))
 refine callWith_type1 ?_ rfl rfl
 show wpAny _ _ (spliced ((false,eval (.Call (.Name "range" p2) [e] [] pos2) X.env)::[])) _ _ s
 refine qBY ?_
 refine qAa (zli I hgs hms boot_range ?_ (by decide) (by decide))
 refine callWith_type1 ?_ hs rfl
 rw[hs]
 show wpAny _ _ (spliced ((false,eval e X.env)::[])) _ _ s
 refine qBY (thn (he pins s σ H _ I h) λu s1 z=>?_)
 obtain⟨x,H1,I1,r1,n,rfl,hn,q⟩:=z
 obtain⟨t,rfl⟩:=r1
 refine qBd ?_
 refine call_range_1 ?_
 refine qBd ?_
 have I2:Inv X pins σ H1 {s1 with heap:=s1.heap.push {cls:=.type "range",data:=.fields #[.int 0 s1.toks,.int (n:Int) t,.int 1 (s1.toks+1)]},toks:=s1.toks+1+1}:=I1.kept λb o e=>qI _ e
 refine call_list_range (n:=n) (I2.ok.hd hc) (IsRange.new ..) (small_one (by decide) (by decide) (by omega) (by omega)) (by rw[rangeSize_one];split<;>omega) (by omega) λh' tk acc' c' kp e it=>?_
 refine⟨.ref _,_,I2.laid (t':=tk) kp (qJ _) (show zdh X.prog X.w _ h' _ (.lst ((List.range n).map λ(k:Nat)=>.int (k:Int)))from⟨?_,acc'.toList,c',zvu it,?_⟩),rfl,q _ (I2.hok.fresh (qJ _))⟩
 ·rw[qD,qX,qAL];omega
 ·rw[e]
theorem zabx{X:Cx}{e:Expr}{te:TE}{p1 p2 pos1 pos2:Pos}(hc:X.calm=true)(hgl:Gl X "list")(hml:X.mg "list"=none)(hgs:Gl X "range")(hms:X.mg "range"=none)(he:Bx (PE X e te))
  (hs:starEach [e] X.env=(false,eval e X.env)::starEach [] X.env) :
  Bx (PE X (.Call (.Name "list" p1) [.Call (.Name "range" p2) [e] [] pos2] [] pos1) (zagm te)):=⟨zago hc hgl hml hgs hms he.out hs⟩
noncomputable def zyw(f:EF):EF:=λenv=>(f env).bind λr=>match r.d with
 | .int j=>if 0<=j/\j<=100000 then some ⟨.list ((List.range j.toNat).map λ(k:Nat)=>.int (k:Int)),true,[]⟩else none
 | _=>none
theorem zmb{H:Hp}:∀(l:List Nat),Rps H (l.map λ(k:Nat)=>.int (k:Int)) (l.map λ(k:Nat)=>V.int (k:Int))
 | []=>zbf
 | a::l=>zbc zaa (zmb l)
theorem zagp{te:TE}{f:EF}(h:SE te f):SE (zagm te) (zyw f):=by
 intro fx H0 env σ H hE rr hr Q q
 unfold zyw at hr
 obtain⟨⟨d,fr,bs⟩,er,hr⟩:=qA.mp hr
 cases d with
 | int j=>
  have hr:(if 0<=j/\j<=100000 then some (⟨.list ((List.range j.toNat).map λ(k:Nat)=>.int (k:Int)),true,[]⟩:Val)else none)=some rr:=hr
  split at hr
  ·rename_i hj
   cases hr
   refine h fx H0 env σ H hE _ er _ λv H1 s1 hv=>?_
   cases zcb hv.rp
   refine⟨j.toNat,by congr 1;omega,by omega,λl hl=>?_⟩
   have hA:=(hE.up s1).lims []
   exact q _ _ (s1.trans (Same.new hl)) ⟨zlp hl (zej hA hl) (zmb _),λ_=>⟨l,rfl,s1.free hl,ziq hl (zmb (H:=Offs (lim fx env σ []) H1) _)⟩⟩
  ·cases hr
 | _=>cases hr
section
variable{T:Type}{k:Kind T}{f:Nat}
noncomputable def zmc(i j:Nat)(g:EFr T):SFr T:=λenv st=>match env[i]?,env[j]? with
 | some (.ac (.list ds)),some (.ac (.list es))=>(g env st).bind λr=>match r.1.d with
  | .int n=>if 0<=n/\n<100000/\ds.length<100000/\i≠j then(es[n.toNat]?).bind λd=>some (.nx ((env.set j (.ac (.list (es.eraseIdx n.toNat)))).set i (.ac (.list (ds++[d])))) r.2)else none
  | _=>none
 | _,_=>none
theorem zvv{K:qC}{i j:Nat}{te:TE}{g:EFr T}(h1:SEr k f te g):SSr k f (tDrop (tBM K "list" zfa (tVar i) (tCons (tBM K "list" zadh (tVar j) (tCons te tNil)) tNil))) (zmc i j g):=by
 intro fx H0 env σ H v R st D hh o e q
 unfold zmc at e
 split at e
 ·rename_i ds es ei ej
  obtain⟨⟨⟨rd,rfr,rbs⟩,s1⟩,er,e⟩:=qA.mp e
  cases rd with
  | int n=>
   have e:(if 0<=n/\n<100000/\ds.length<100000/\i≠j then(es[n.toNat]?).bind λd=>some (OutR.nx ((env.set j (.ac (.list (es.eraseIdx n.toNat)))).set i (.ac (.list (ds++[d])))) s1)else none)=some o:=e
   split at e
   ·rename_i hl
    obtain⟨d,ed,e⟩:=qA.mp e
    cases e
    have hif:i≠f:=λz=>by rw[z,hh.no]at ei;cases ei
    have hjf:j≠f:=λz=>by rw[z,hh.no]at ej;cases ej
    obtain⟨a,g1,g2,g3,g4⟩:=hh.ok.ac i _ ei
    obtain⟨xs0,hx0,rx0⟩:=g4
    obtain⟨b,k1,k2,k3,k4⟩:=hh.ok.ac j _ ej
    obtain⟨ys0,hy0,ry0⟩:=k4
    have hab:a≠b:=λz=>hl.2.2.2 (hh.ok.inj i j _ _ a ei ej g1 (by rw[z];exact k1))
    refine⟨_,g1,.inl ⟨rfl,_,SqL.of hx0⟩,_,k1,.inl ⟨rfl,_,SqL.of hy0⟩,h1 fx H0 env σ H v R st hh _ s1 er _ λw H' m h' hv=>?_⟩
    cases zcb hv.rp
    obtain⟨b',y1,_,_,ys,hy',ry'⟩:=h'.ok.ac j _ ej
    rw[k1]at y1
    cases y1
    obtain⟨a',y1,_,_,xs,hx',rx'⟩:=h'.ok.ac i _ ei
    rw[g1]at y1
    cases y1
    obtain⟨u,hu,ru⟩:=ry'.get2 ed
    have hlt:n.toNat<ys.length:=(qZ.mp hu).1
    have hsq:seqIndex? n ys.length=some n.toNat:=qB6 hl.1 (by omega)
    refine⟨b,ys,n,n.toNat,u,rfl,rfl,hy',by omega,by omega,hsq,hu,?_⟩
    have h2:=h'.ok.mut ej k1 (d':=.list (es.eraseIdx n.toNat)) (o:=.lst (ys.eraseIdx n.toNat)) ⟨_,zan,ry'.erase _⟩
    have ei2:(env.set j (.ac (.list (es.eraseIdx n.toNat))))[i]?=some (.ac (.list ds)):=by rw[qH (qAo hl.2.2.2)];exact ei
    have hx2:(upd H' b (.lst (ys.eraseIdx n.toNat))) a=some (.lst xs):=by rw[zar hab];exact hx'
    obtain⟨a',z1,_,_,z4⟩:=h2.ac i _ ei2
    rw[g1]at z1
    cases z1
    obtain⟨zs,y1,y2⟩:=z4
    rw[hx2]at y1
    cases y1
    have ow:Same (Offs (λb=>fx b\/own env σ b) H') (Offs (λc=>fx c\/own (env.set j (.ac (.list (es.eraseIdx n.toNat)))) σ c) (upd H' b (.lst (ys.eraseIdx n.toNat)))):=by
     have t:Same (Offs (λb=>fx b\/own env σ b) (upd H' b (.lst (ys.eraseIdx n.toNat)))) (Offs (λc=>fx c\/own (env.set j (.ac (.list (es.eraseIdx n.toNat)))) σ c) (upd H' b (.lst (ys.eraseIdx n.toNat)))):=Offs.sub λc z=>z.imp (λy=>y) λ⟨m,d1,w1,w2⟩=>by
      rcases zck w1 with⟨rfl,_⟩|⟨_,w1⟩
      ·exact⟨m,_,ej,w2⟩
      ·exact⟨m,d1,w1,w2⟩
     rw[Offs.upd (.inr ⟨j,_,ej,k1⟩)]at t
     exact t
    refine⟨a,xs,u,rfl,rfl,hx2,zgd (by rw[<- rx'.length];exact hl.2.2.1),?_⟩
    refine q σ _ ⟨h2.mut ei2 g1 ⟨_,zan,y2.append (zbc (Rp.same ow _ ru) zbf)⟩,?_,hh.sl,k.stay h'.th λc o hb eb=>?_,hh.off,hh.low⟩
    ·rw[qH hif,qH hjf];exact hh.no
    ·rw[zar λz=>g3 (by rw[<- z];exact hh.off c hb),zar λz=>k3 (by rw[<- z];exact hh.off c hb)];exact eb
   ·cases e
  | _=>cases e
 ·cases e
end
section
variable{T:Type}{k:Kind T}{f:Nat}
noncomputable def rAsg(g:EFr T)(gt:GT):SFr T:=λenv st=>(g env st).bind λx=>(gt x.1.d (frzs env x.1.bs)).map λe2=>.nx e2 x.2
theorem zyx{te:TE}{g:EFr T}{tg:TG}{gt:GT}(h1:SEr k f te g)(h2:SGk (λj=>j=f) tg gt)(h2n:GTno f gt):SSr k f (tAsg te tg) (rAsg g gt):=by
 intro fx H0 env σ H v R st D hh o e q
 unfold rAsg at e
 obtain⟨⟨r,s1⟩,er,e⟩:=qA.mp e
 obtain⟨env',e',rfl⟩:=qE.mp e
 refine h1 fx H0 env σ H v R st hh r s1 er _ λw H' m k1 hv=>?_
 have hE:Has k f fx H0 (frzs env r.bs) σ H' v R s1:=⟨k1.ok.frzs r.bs,zka _ k1.no,k1.sl,k1.th,k1.off,k1.low⟩
 exact h2 fx H0 _ σ H' r.d w hE.ok (Rp.same (Offs.sub zgw) _ hv.rp) env' e' _ λσ' h' kj=>q σ' H' ⟨h',h2n _ _ _ e' hE.no,(kj f rfl).trans hE.sl,hE.th,hE.off,hE.low⟩
end
open PySem.AutoSeq1 in
theorem zagq(l:Addr)(items:Array Value)(n:Nat)(b:Addr)(items2:Array Value)(n2:Nat){od:Option Addr}{osl:Array (Option Value)}(hs0:¬(!items.isEmpty&&Builtin.List.listTooLong (items.size+items2.size))=true)(hs1:items.size<=qQ)(hs2:items.size+items2.size<=qQ+1) :
  Meets (Builtin.«list.extend» ⟨[.ref l,.ref b],[]⟩) (λ_ R s=>s.heap.get? l=some {cls:=.type "list",dict:=none,data:=.seq items n,slots:=#[]}/\s.heap.get? b=some {cls:=.type "tuple",dict:=od,data:=.seq items2 n2,slots:=osl}/\R (.ok (.ret Value.none)) {s with heap:=s.heap.update l (Obj.mapSeq λx=>x++items2),toks:=s.toks}):=
 .of_wp λprog w A R s h=>by
  obtain⟨hp,g,d,tk,os⟩:=s;obtain⟨hl,hb,h⟩:=h
  have f3:=AutoSeq1.sub_list_list;have f4:=AutoSeq1.sub_tuple_list;have f2:=AutoSeq1.sub_tuple_tuple;have f5:=AutoSeq1.sub_list_tuple
  have hz':(items++items2).size<=qQ+1:=by rw[qBe];exact hs2
  wp_walk using (wpAny_updateSeq hl rfl (hz:=hs1) (_hz':=hz')),wpAny_loadPart' hl,wpAny_loadPart' hb;exact⟨_,rfl,h⟩
noncomputable def zyy:V->List V->Hp->VK->Prop:=λx vs H Q=>∃l b xs zs,x=.ref l/\vs=[.ref b]/\H l=some (.lst xs)/\(H b=some (.lst zs)\/H b=some (.tup zs))/\xs.length+zs.length<=qQ/\Q .non (upd H l (.lst (xs++zs)))
theorem zagr{X:Cx}:MtM X "list.extend" zyy:=by
 intro pins s σ H x vs v us Q I rx rv h
 obtain⟨l,b,xs,zs,e1,e2,hH,hB,hz,q⟩:=h
 rcases hB with hB|hB
 ·exact zxi pins s σ H x vs v us Q I rx rv ⟨l,b,xs,zs,e1,e2,hH,hB,hz,q⟩
 ·subst e1 e2
  cases rx
  obtain⟨u,rfl,ru⟩:=rv.one
  cases ru
  obtain⟨z,its,n,r,hl,e⟩:=I.lstM hH
  obtain⟨z2,its2,r2,op,hop,ho1,n2,ho2⟩:=(show zdh X.prog X.w H s.heap b (.tup zs)from I.hok b _ hB)
  have hl2:=r2.length
  have hsz:its.toArray.size+its2.toArray.size<=qQ:=by rw[qG,qG];omega
  have hlong:¬(!its.toArray.isEmpty&&Builtin.List.listTooLong (its.toArray.size+its2.toArray.size))=true:=by
   rw[ztz hsz,Bool.and_false]
   exact qL
  obtain⟨oc,od,odt,osl⟩:=op
  cases ho1
  cases ho2
  refine qBI F.slot_list_extend ⟨_,e,rfl⟩ F.entry_list_extend (F.args_list_extend_2 _ _)
   (zagq l its.toArray n b its2.toArray n2 hlong (by rw[qG];omega) (by omega)) ⟨e,hop,?_⟩
  refine⟨.non,_,I.lset (its':=its++its2) hH e (by simp) (r.append r2) ?_,rfl,q⟩
  rw[qF]
  omega
mutual
def szD:PyData->Nat
 | .list ds=>szDs ds+1
 | .tuple ds=>szDs ds+1
 | _=>1
def szDs:List PyData->Nat
 | []=>0
 | d::ds=>szD d+szDs ds
end
theorem zld:∀(a b:List PyData),szDs (a++b)=szDs a+szDs b
 | [],b=>by unfold szDs;simp[szDs]
 | d::a,b=>by
  rw[qBF]
  show szD d+szDs (a++b)=szD d+szDs a+szDs b
  rw[zld a b,Nat.add_assoc]
theorem zags(d:PyData):1<=szD d:=by
 cases d<;>(unfold szD;omega)
theorem zqz:∀ds:List PyData,ds.length<=szDs ds
 | []=>qAH _
 | d::ds=>by
  have:=zqz ds
  have:=zags d
  show ds.length+1<=szD d+szDs ds
  omega
noncomputable def spLs:Sp:=λvs H Q _=>∃(G:Hp)(d:PyData)(v:V),vs=[v]/\Rp G d v/\Same G H/\szD d<50000/\∀l ws H',Same H H'->H l=none->H' l=some (.lst ws)->(∀w∈ws,∃a xs,w=V.ref a/\G a=some (.lst xs))->ws.length<=szD d->Q (.ref l) H'
theorem zaby{vs:List V}{H:Hp}{Q:VK}{E:XK}(h:spLs vs H Q E):vs.length=1:=by
 obtain⟨G,d,v,rfl,_⟩:=h
 rfl
theorem ztb{H:Hp}{σ:St}{env:DEnv}(hl:env.length=σ.length)(hp:∀(i:Nat) (d:PyData),env[i]?=some (.pl d)->∃v,σ[i]?=some (some v)/\Rp H d v)(ha:∀(i:Nat) (d:PyData),env[i]?≠some (.ac d)):EnvOk (λ_=>False) H env σ H:=by
 refine⟨hl,λi d e=>?_,λi d e=>absurd e (ha i d),λi j d e a z=>absurd z (ha i d),Same.refl _,λb z=>z.elim⟩
 obtain⟨v,h1,h2⟩:=hp i d e
 refine⟨v,h1,Rp.same (λb o eb=>?_) _ h2⟩
 rw[Offs.get]
 ·exact eb
 ·rintro(z|⟨i,d,z,_⟩)
  ·exact z
  ·exact ha i d z
theorem zui{G:Hp}{d:PyData}:∀{a:List PyData}{ls:List V},Rps G (a++[d]) ls->∃b v,ls=b++[v]/\Rps G a b/\Rp G d v
 | [],ls,h=>by
  unfold Rps at h
  obtain⟨v,vs,rfl,h1,h2⟩:=h
  unfold Rps at h2
  subst h2
  exact⟨[],v,rfl,zbf,h1⟩
 | x::a,ls,h=>by
  rw[qBF]at h
  unfold Rps at h
  obtain⟨v,vs,rfl,h1,h2⟩:=h
  obtain⟨b,w,rfl,h3,h4⟩:=zui h2
  exact⟨v::b,w,rfl,zbc h1 h3,h4⟩
noncomputable def zvw:PyData->List PyData
 | .list ds=>ds
 | .tuple ds=>ds
 | _=>[]
theorem zagt(d:PyData):szDs (zvw d)+1<=szD d:=by
 cases d<;>(unfold zvw szD;simp[szDs])
theorem zvx {K:qC} {t2 t3:TT} (h2:ST t2 (tTru (eIsi "list" (eVar 3)))) (h3:ST t3 (tTru (zabw "list" "tuple" (eVar 3)))) {G H H2:Hp} (sG:Same G H) {p r:Addr} (hp:H p=none) (hr0:H r=none) (hpr:p≠r) {v vl:V} {x3:Option V} {ini:List PyData} {dl:PyData} {ini' fs:List V} {B:Nat} {D:Ends}
  (hp2:H2 p=some (.lst fs))(hr2:H2 r=some (.lst (ini'++[vl])))(ri:Rps G ini ini')(rdl:Rp G dl vl)(sm:∀b o,H b=some o->H2 b=some o)(hf:∀w∈fs,∃a xs,w=V.ref a/\G a=some (.lst xs))(hm:fs.length+(szDs ini+szD dl)<=B)(hB:B<50000)
  (q:∀(lds':List PyData) (ls fs':List V) (x3:Option V) (H':Hp),H' p=some (.lst fs')->H' r=some (.lst ls)->Rps G lds' ls->(∀b o,H b=some o->H' b=some o)->(∀w∈fs',∃a xs,w=V.ref a/\G a=some (.lst xs))->szDs lds'<szDs ini+szD dl->fs'.length+szDs lds'<=B->D.nx [some v,some (.ref p),some (.ref r),x3] H') :
  tSeq (tAsg (tBM0 K "list" rPop (tVar 2)) (gName 3)) (tSeq (tIfS t2 (tDrop (tBM K "list" zfa (tVar 1) (tCons (tVar 3) tNil))) tNext) (tIfS t3 (tDrop (tBM K "list" zyy (tVar 2) (tCons (tVar 3) tNil))) tNext)) D [some v,some (.ref p),some (.ref r),x3] H2:=by
 refine⟨_,rfl,.inl ⟨rfl,_,SqL.of hr2⟩,r,ini'++[vl],vl,rfl,rfl,hr2,?_,?_⟩
 ·rw[qF,qAO,Nat.add_sub_cancel,qp (qJ _),Nat.sub_self];rfl
 rw[List.dropLast_concat]
 have hks:=zagt dl
 have env3:∀{H':Hp},Same G H'->EnvOk (λ_=>False) H' [.no,.no,.no,.pl dl] [some v,some (.ref p),some (.ref r),some vl] H':=λ{H'} s'=>ztb rfl (λi d e=>by
  match i with
  | 0=>cases e
  | 1=>cases e
  | 2=>cases e
  | 3=>cases e;exact⟨_,rfl,Rp.same s' _ rdl⟩
  | n+4=>cases e) (λi d e=>by
  match i with
  | 0=>cases e
  | 1=>cases e
  | 2=>cases e
  | 3=>cases e
  | n+4=>cases e)
 have up1:∀{H':Hp}{x:Addr}{o:HO},H x=none->(∀b o,H b=some o->H' b=some o)->∀b u,H b=some u->upd H' x o b=some u:=λ{H' x o} hx hh b u eb=>by
  rw[zar (λe=>by rw[e,hx]at eb;cases eb)];exact hh b u eb
 have fin:∀(fs':List V)(H4:Hp),fs'.length+(szDs ini+szDs (zvw dl))<=B->H4 p=some (.lst fs')->H4 r=some (.lst ini')->(∀b o,H b=some o->H4 b=some o)->(∀w∈fs',∃a xs,w=V.ref a/\G a=some (.lst xs))->tIfS t3 (tDrop (tBM K "list" zyy (tVar 2) (tCons (tVar 3) tNil))) tNext D [some v,some (.ref p),some (.ref r),some vl] H4:=by
  intro fs' H4 hfl hp4 hr4 sm4 hf4
  refine h3 _ H4 _ _ H4 (env3 λb o eb=>sm4 b o (sG b o eb)) (isiB "list" dl||isiB "tuple" dl) rfl _ λH5 s5=>?_
  have more:∀(a:Addr)(zs:List V),vl=.ref a->(G a=some (.lst zs)\/G a=some (.tup zs))->Rps G (zvw dl) zs->tDrop (tBM K "list" zyy (tVar 2) (tCons (tVar 3) tNil)) D [some v,some (.ref p),some (.ref r),some vl] H5:=by
   intro a zs ea hz rz
   have sG5:Same G H5:=λb o eb=>s5 _ _ (sm4 b o (sG b o eb))
   have l1:=ri.length
   have l2:=rz.length
   have l3:=zqz ini
   have l4:=zqz (zvw dl)
   refine⟨_,rfl,.inl ⟨rfl,_,SqL.of (s5 _ _ hr4)⟩,vl,rfl,r,a,ini',zs,rfl,by rw[ea],s5 _ _ hr4,hz.imp (sG5 _ _) (sG5 _ _),zdf (by omega),?_⟩
   exact q (ini++zvw dl) (ini'++zs) fs' (some vl) _ (by rw[zar hpr];exact s5 _ _ hp4) zan (ri.append rz) (up1 hr0 λb o eb=>s5 _ _ (sm4 b o eb)) hf4 (by rw[zld];omega) (by rw[zld];omega)
  have noth:tNext D [some v,some (.ref p),some (.ref r),some vl] H5:=q ini ini' fs' (some vl) H5 (s5 _ _ hp4) (s5 _ _ hr4) ri (λb o eb=>s5 _ _ (sm4 b o eb)) hf4 (by omega) (by omega)
  cases dl with
  | list ds=>
   obtain⟨a,zs,ea,ga,rz⟩:=zct rdl
   exact iteT (more a zs ea (.inl ga) rz)
  | tuple ds=>
   obtain⟨a,zs,ea,ga,rz⟩:=zby rdl
   exact iteT (more a zs ea (.inr ga) rz)
  | _=>exact iteF noth
 have sm3:=up1 (o:=.lst ini') hr0 sm
 refine h2 _ _ _ _ _ (env3 λb o eb=>sm3 b o (sG b o eb)) (isiB "list" dl) rfl _ λH4 s4=>?_
 have hp4:H4 p=some (.lst fs):=s4 _ _ (by rw[zar hpr];exact hp2)
 have hr4:H4 r=some (.lst ini'):=s4 _ _ zan
 have keep:=fin fs H4 (by omega) hp4 hr4 (λb o eb=>s4 _ _ (sm3 b o eb)) hf
 have l5:=zqz ini
 cases dl with
 | list ds=>
  obtain⟨a,zs,ea,ga,rz⟩:=zct rdl
  refine iteT ⟨_,rfl,.inl ⟨rfl,_,SqL.of hp4⟩,vl,rfl,p,fs,vl,rfl,rfl,hp4,zgd (by omega),?_⟩
  refine fin (fs++[vl]) _ (by rw[qF,qAO];omega) zan (by rw[zar hpr.symm];exact hr4) (up1 hp λb o eb=>s4 _ _ (sm3 b o eb)) λw hw=>?_
  rcases qb.mp hw with hw|hw
  ·exact hf w hw
  ·rw[qc.mp hw,ea];exact⟨a,zs,rfl,ga⟩
 | _=>exact iteF keep
theorem zabz {K:qC} {N:List Str} (hN:N.length=4) {t1 t2 t3:TT} (h1:ST t1 (zdt (eOp gtD (eCB lenD (zah (eVar 2) aNil)) (eC (.int 0))))) (h2:ST t2 (tTru (eIsi "list" (eVar 3)))) (h3:ST t3 (tTru (zabw "list" "tuple" (eVar 3)))) {vs:List V} {H:Hp} {Q:VK} {E:XK} (h:spLs vs H Q E) :
  tSeq (tAsg (tLst tNil) (gName 1)) (tSeq (tAsg (tLst (tCons (tVar 0) tNil)) (gName 2)) (tSeq (tWhile t1 (tSeq (tAsg (tBM0 K "list" rPop (tVar 2)) (gName 3)) (tSeq (tIfS t2 (tDrop (tBM K "list" zfa (tVar 1) (tCons (tVar 3) tNil))) tNext) (tIfS t3 (tDrop (tBM K "list" zyy (tVar 2) (tCons (tVar 3) tNil))) tNext)))) (tRet (tVar 1)))) {nx:=λ_ H'=>Q .non H',rt:=Q} (zdi N vs) H:=by
 obtain⟨G,d,v,rfl,rd,sG,hsz,q⟩:=h
 have st:zdi N [v]=[some v,none,none,none]:=by
  unfold zdi
  rw[hN];rfl
 rw[st]
 have s0:(0:Nat)<=qQ:=qAH _
 refine⟨by first|exact s0|(show 0<=qQ;exact s0),λp hp=>⟨v,rfl,?_,λr hr=>?_⟩⟩
 ·show 1<=qQ
  rw[qAL];omega
 have hpr:p≠r:=λe=>by rw[<- e,zan]at hr;cases hr
 have hr0:H r=none:=by rw[zar hpr.symm]at hr;exact hr
 have Gp:G p=none:=sG.free hp
 have Gr:G r=none:=sG.free hr0
 refine⟨λm σ H'=>∃(lds:List PyData)(ls fs:List V)(x3:Option V),σ=[some v,some (.ref p),some (.ref r),x3]/\H' p=some (.lst fs)/\H' r=some (.lst ls)/\Rps G lds ls/\(∀b o,H b=some o->H' b=some o)/\(∀w∈fs,∃a xs,w=V.ref a/\G a=some (.lst xs))/\m=szDs lds/\fs.length+m<=szD d,⟨szDs [d],[d],[v],[],none,rfl,?_,zan,zbc rd zbf,?_,(λw hw=>nomatch hw),rfl,?_⟩,?_⟩
 ·rw[zar hpr];exact zan
 ·intro b o eb
  rw[zar (λe=>by rw[e,hr0]at eb;cases eb),zar (λe=>by rw[e,hp]at eb;cases eb)]
  exact eb
 ·show 0+(szD d+0)<=szD d
  omega
 rintro m σ H1 ⟨lds,ls,fs,x3,rfl,hp1,hr1,rl,sm,hf,rfl,hm⟩
 have sG1:Same G H1:=λb o eb=>sm b o (sG b o eb)
 have ln:=rl.length
 have lz:=zqz lds
 have hE:EnvOk (λ_=>False) H1 [.no,.no,.pl (.list lds),.no] [some v,some (.ref p),some (.ref r),x3] H1:=ztb rfl (λi d e=>by
  match i with
  | 0=>cases e
  | 1=>cases e
  | 2=>cases e;exact⟨_,rfl,zcy hr1 (Rps.same sG1 _ rl)⟩
  | 3=>cases e
  | n+4=>cases e) (λi d e=>by
  match i with
  | 0=>cases e
  | 1=>cases e
  | 2=>cases e
  | 3=>cases e
  | n+4=>cases e)
 have tst:zdt (eOp gtD (eCB lenD (zah (eVar 2) aNil)) (eC (.int 0))) [.no,.no,.pl (.list lds),.no]=some (decide ((lds.length:Int) > 0)):=rfl
 refine h1 _ H1 _ _ H1 hE _ tst _ λH2 s2=>?_
 by_cases hl:lds=[]
 ·subst hl
  have el:ls=[]:=by unfold Rps at rl;exact rl
  refine iteF ⟨_,rfl,q p fs H2 (λb o eb=>s2 _ _ (sm b o eb)) hp (s2 _ _ hp1) hf ?_⟩
  have:szDs []=0:=rfl
  omega
 ·have hpos:0<lds.length:=qAy.mpr hl
  rw[decide_eq_true (by omega)]
  refine iteT ⟨λσ H'=>∃(lds':List PyData)(ls fs:List V)(x3:Option V),σ=[some v,some (.ref p),some (.ref r),x3]/\H' p=some (.lst fs)/\H' r=some (.lst ls)/\Rps G lds' ls/\(∀b o,H b=some o->H' b=some o)/\(∀w∈fs,∃a xs,w=V.ref a/\G a=some (.lst xs))/\szDs lds'<szDs lds/\fs.length+szDs lds'<=szD d,?_,?_⟩
  ·rintro σ' H' ⟨lds',ls',fs',x3',e1,e2,e3,e4,e5,e6,e7,e8⟩
   exact⟨_,e7,lds',ls',fs',x3',e1,e2,e3,e4,e5,e6,rfl,e8⟩
  ·obtain⟨ini,dl,rfl⟩:∃ini dl,lds=ini++[dl]:=⟨lds.dropLast,lds.getLast hl,(List.dropLast_concat_getLast hl).symm⟩
   obtain⟨ini',vl,rfl,ri,rdl⟩:=zui rl
   have e1:szDs (ini++[dl])=szDs ini+szD dl:=by rw[zld];show szDs ini+(szD dl+0)=_;omega
   rw[e1]at hm
   exact zvx h2 h3 sG hp hr0 hpr (s2 _ _ hp1) (s2 _ _ hr1) ri rdl (λb o eb=>s2 _ _ (sm b o eb)) hf hm hsz λlds' ls' fs' x3' H' g1 g2 g3 g4 g5 g6 g7=>⟨lds',ls',fs',x3',rfl,g1,g2,g3,g4,g5,by rw[e1];exact g6,g7⟩
theorem EnvOk.kill{fx:Addr->Prop}{H0:Hp}{env:DEnv}{σ:St}{H:Hp}(h:EnvOk fx H0 env σ H)(x:Nat)(w:Option V):EnvOk fx H0 (env.set x .no) (σ.set x w) H:=by
 have get:∀{i:Nat}{s:Sl},(env.set x .no)[i]?=some s->s≠.no->i≠x/\env[i]?=some s:=λ{i s} e ns=>by
  rcases zck e with⟨_,z⟩|⟨ne,e⟩
  ·exact absurd z ns
  ·exact⟨ne,e⟩
 have kept:∀{i:Nat},i≠x->(σ.set x w)[i]?=σ[i]?:=λ{i} ne=>qH (qAo ne)
 have ow:∀b,own (env.set x .no) (σ.set x w) b->own env σ b:=λb ⟨i,d,h1,h2⟩=>by
  obtain⟨ne,e⟩:=get h1 (by simp)
  rw[kept ne]at h2
  exact⟨i,d,e,h2⟩
 have so:Same (Offs (λa=>fx a\/own env σ a) H) (Offs (λa=>fx a\/own (env.set x .no) (σ.set x w) a) H):=Offs.sub λb z=>z.imp id (ow b)
 refine⟨by rw[qR,qR];exact h.len,λi d e=>?_,λi d e=>?_,λi j d e a h1 h2 h3 h4=>?_,h.base,h.fxs⟩
 ·obtain⟨ne,e⟩:=get e (by simp)
  obtain⟨v,h1,h2⟩:=h.pl i d e
  exact⟨v,by rw[kept ne];exact h1,Rp.same so d h2⟩
 ·obtain⟨ne,e⟩:=get e (by simp)
  obtain⟨a,h1,h2,h3,h4⟩:=h.ac i d e
  exact⟨a,by rw[kept ne];exact h1,h2,h3,h4.same so λ_ z=>z⟩
 ·obtain⟨n1,h1⟩:=get h1 (by simp)
  obtain⟨n2,h2⟩:=get h2 (by simp)
  rw[kept n1]at h3
  rw[kept n2]at h4
  exact h.inj i j d e a h1 h2 h3 h4
section
variable{T:Type}{k:Kind T}{f:Nat}
theorem zakl{K:qC}{fx:Addr->Prop}{H0:Hp}{env:DEnv}{σ:St}{H:Hp}{v:V}{R:Addr->Prop}{st s1:T}{D:Ends}{z:Nat}{ds:List PyData}{d:PyData}{te:TE}(hh:Has k f fx H0 env σ H v R st)(ei:env[z]?=some (.ac (.list ds)))(hl:ds.length<100000)
  (h1:∀Q:VK,(∀w H',MvR R H H'->Has k f fx H0 env σ H' v R s1->ValOk (lim fx env σ []) H H' ⟨d,false,[]⟩ w->Q w H')->te σ H Q) (q:∀σ' H',Has k f fx H0 (env.set z (.ac (.list (ds++[d])))) σ' H' v R s1->D.nx σ' H') :
  tDrop (tBM K "list" zfa (tVar z) (tCons te tNil)) D σ H:=by
 have hif:z≠f:=λy=>by rw[y,hh.no]at ei;cases ei
 obtain⟨a,g1,g2,g3,g4⟩:=hh.ok.ac z _ ei
 obtain⟨xs0,hx0,_⟩:=g4
 refine⟨_,g1,.inl ⟨rfl,_,SqL.of hx0⟩,h1 _ λw H' m k1 hv=>?_⟩
 obtain⟨a',z1,_,z3,z4⟩:=k1.ok.ac z _ ei
 rw[g1]at z1
 cases z1
 obtain⟨xs,hx',rx'⟩:=z4
 refine⟨a,xs,w,rfl,rfl,hx',zgd (by rw[<- rx'.length];exact hl),?_⟩
 refine q σ _ ⟨k1.ok.mut ei g1 ⟨_,zan,rx'.append (zbc (Rp.same (Offs.sub λb y=>zgv b y) _ hv.rp) zbf)⟩,?_,hh.sl,k.stay k1.th λb o hb eb=>?_,hh.off,hh.low⟩
 ·rw[qH hif];exact hh.no
 ·rw[zar λy=>g3 (by rw[<- y];exact hh.off b hb)];exact eb
noncomputable def zvy(x y z a:Nat)(e1:EF)(e2:EFr T)(g:GR T)(F4:SFr T):SFr T:=λenv st=>(e1 env).bind λr1=>(e2 (env.set x .no) st).bind λx2=>
 match(putV (env.set x .no) y x2.1)[a]?,(putV (env.set x .no) y x2.1)[z]? with
 | some (.pl da),some (.ac (.list ds))=>(g [r1.d,x2.1.d] x2.2).bind λx3=>match x3.1 with
  | .list d3=>if zef da=true/\zef x2.1.d=true/\zdj d3=true/\x3.2.1=true/\ds.length<100000/\x<env.length/\y<env.length then F4 ((putV (env.set x .no) y x2.1).set z (.ac (.list (ds++[.tuple [da,.list d3]])))) x3.2.2 else none
  | _=>none
 | _,_=>none
theorem zaca{K:qC}{x y z a:Nat}{te1 te2:TE}{e1:EF}{e2:EFr T}{g:GR T}{t4:TS}{F4:SFr T}(h1:SE te1 e1)(h2:SEr k f te2 e2)(h4:SSr k f t4 F4)(hx:x≠f)(hy:y≠f)(hxy:x≠y)(hax:a≠x)(hay:a≠y) :
  SSr k f (tSeq (tAsg te1 (gName x)) (tSeq (tAsg te2 (gName y)) (tSeq (tDrop (tBM K "list" zfa (tVar z) (tCons (tTup (tCons (tVar a) (tCons (tCall (spR k 3 g) [] E0 (tCons (tVar f) (tCons (tVar x) (tCons (tVar y) tNil)))) tNil))) tNil))) t4))) (zvy x y z a e1 e2 g F4):=by
 intro fx H0 env σ H v R st D hh o e q
 unfold zvy at e
 obtain⟨r1,er1,e⟩:=qA.mp e
 obtain⟨⟨r2,s2⟩,er2,e⟩:=qA.mp e
 dsimp only at e
 split at e
 ·rename_i da ds eda eds
  obtain⟨⟨d3,fr3,s3⟩,eg,e⟩:=qA.mp e
  dsimp only at e
  split at e
  ·rename_i l3
   split at e
   ·rename_i hc
    obtain⟨fa,f2,f3,hfr,hl,lx,ly⟩:=hc
    refine h1 fx H0 env σ H hh.ok r1 er1 _ λv1 H1 s1 hv1=>?_
    have k1:Has k f fx H0 (env.set x .no) (σ.set x (some v1)) H1 v R st:=⟨(hh.ok.up s1).kill x (some v1),by rw[qH hx];exact hh.no,by rw[qH hx];exact hh.sl,k.stay hh.th λb o _ e=>s1 b o e,hh.off,hh.low⟩
    refine h2 fx H0 _ _ H1 v R st k1 r2 s2 er2 _ λw2 H2 m2 k2 hv2=>?_
    have k3:=k1.put m2 k2 hv2 hy
    have sx:((σ.set x (some v1)).set y (some w2))[x]?=some (some v1):=by
     rw[qH hxy.symm,qe]
     rw[<- hh.ok.len];exact lx
    have sy:((σ.set x (some v1)).set y (some w2))[y]?=some (some w2):=by
     rw[qe]
     rw[qR,<- hh.ok.len];exact ly
    refine zakl (s1:=s3) (d:=.tuple [da,.list l3]) k3 eds hl (λQ hQ=>?_) λσ' H' h'=>h4 fx H0 _ σ' H' v R s3 D h' o e q
    obtain⟨va,sa,ra⟩:=k3.ok.pl a da eda
    refine⟨va,sa,v,k3.sl,v1,sx,w2,sy,?_⟩
    show spR k 3 g [v,v1,w2] H2 _ E0
    have rv1:Rp (Offs fx H2) r1.d v1:=by
     have:=Rp.same (Offs.sub (B:=fx) λb z=>.inl z) _ hv1.rp
     exact Rp.same (m2.offs hh.off) _ this
    have rv2:Rp (Offs fx H2) r2.d w2:=zio f2 hv2.rp
    refine⟨fx,v,[v1,w2],[r1.d,r2.d],R,s2,.list l3,fr3,s3,rfl,rfl,k3.ok.fxs,hh.off,k3.th,zbc rv1 (zbc rv2 zbf),eg,λw3 H3 m3 t3 rt=>?_⟩
    obtain⟨_,rt2⟩:=rt
    obtain⟨a3,rfl,hn3,xs3,hx3,rx3⟩:=rt2 hfr
    have k4:=k3.mv m3 t3
    refine⟨by show 2<=_;exact zdf (by decide),λp hp=>?_⟩
    have k5:=k4.up (Same.new (o:=.tup [va,.ref a3]) hp)
    refine hQ _ _ (m3.trans (MvR.same (Same.new hp))) k5 ⟨zlq hp (zej (k4.ok.lims []) hp) (zbc (zio fa ra) (zbc (zcy ?_ (zhn f3 rx3)) zbf)),λz=>by cases z⟩
    rw[Offs.get ?_]
    ·exact hx3
    ·intro z
     obtain⟨o',eo'⟩:=k3.ok.lims [] a3 z
     rw[hn3]at eo';cases eo'
   ·cases e
  ·cases e
 ·cases e
end
open Classical in
section
variable{fx:Addr->Prop}{as:List Addr}{H0:Hp}{env:DEnv}{σ:St}{H H':Hp}{st:SyT}
end
inductive NT where
 | lf (d:PyData)
 | ls (ts:List NT)
 | tp (ts:List NT)
mutual
def NewT(L:PyData->V->Prop)(H:Hp):NT->V->List Addr->Prop
 | .lf d,v,as=>as=[]/\L d v
 | .ls ts,v,as=>∃a vs as1,v=.ref a/\H a=some (.lst vs)/\as=a::as1/\NewTs L H ts vs as1
 | .tp ts,v,as=>∃a vs as1,v=.ref a/\H a=some (.tup vs)/\as=a::as1/\NewTs L H ts vs as1
def NewTs(L:PyData->V->Prop)(H:Hp):List NT->List V->List Addr->Prop
 | [],vs,as=>vs=[]/\as=[]
 | t::ts,vs,as=>∃v vs' a1 a2,vs=v::vs'/\as=a1++a2/\NewT L H t v a1/\NewTs L H ts vs' a2
end
mutual
theorem NewT.mono{L L':PyData->V->Prop}{H H':Hp}(hL:∀d v,L d v->L' d v):∀(t:NT){v:V}{as:List Addr},NewT L H t v as->(∀a∈as,∀o,H a=some o->H' a=some o)->NewT L' H' t v as
 | .lf d,v,as,h,_=>by
  unfold NewT at h ⊢
  exact⟨h.1,hL _ _ h.2⟩
 | .ls ts,v,as,h,k=>by
  unfold NewT at h ⊢
  obtain⟨a,vs,as1,h1,h2,h3,h4⟩:=h
  exact⟨a,vs,as1,h1,k a (by rw[h3];exact .head _) _ h2,h3,NewTs.mono hL ts h4 λb hb=>k b (by rw[h3];exact .tail _ hb)⟩
 | .tp ts,v,as,h,k=>by
  unfold NewT at h ⊢
  obtain⟨a,vs,as1,h1,h2,h3,h4⟩:=h
  exact⟨a,vs,as1,h1,k a (by rw[h3];exact .head _) _ h2,h3,NewTs.mono hL ts h4 λb hb=>k b (by rw[h3];exact .tail _ hb)⟩
theorem NewTs.mono{L L':PyData->V->Prop}{H H':Hp}(hL:∀d v,L d v->L' d v):∀(ts:List NT){vs:List V}{as:List Addr},NewTs L H ts vs as->(∀a∈as,∀o,H a=some o->H' a=some o)->NewTs L' H' ts vs as
 | [],vs,as,h,_=>by unfold NewTs at h ⊢;exact h
 | t::ts,vs,as,h,k=>by
  unfold NewTs at h ⊢
  obtain⟨v,vs',a1,a2,h1,h2,h3,h4⟩:=h
  exact⟨v,vs',a1,a2,h1,h2,NewT.mono hL t h3 λb hb=>k b (by rw[h2];exact qAQ _ hb),NewTs.mono hL ts h4 λb hb=>k b (by rw[h2];exact qd _ hb)⟩
end
mutual
theorem NewT.live{L:PyData->V->Prop}{H:Hp}:∀(t:NT){v:V}{as:List Addr},NewT L H t v as->∀a∈as,∃o,H a=some o
 | .lf d,v,as,h=>by
  unfold NewT at h
  intro a ha;rw[h.1]at ha;cases ha
 | .ls ts,v,as,h=>by
  unfold NewT at h
  obtain⟨a,vs,as1,h1,h2,h3,h4⟩:=h
  intro b hb
  rw[h3]at hb
  rcases qW.mp hb with rfl|hb
  ·exact⟨_,h2⟩
  ·exact NewTs.live ts h4 b hb
 | .tp ts,v,as,h=>by
  unfold NewT at h
  obtain⟨a,vs,as1,h1,h2,h3,h4⟩:=h
  intro b hb
  rw[h3]at hb
  rcases qW.mp hb with rfl|hb
  ·exact⟨_,h2⟩
  ·exact NewTs.live ts h4 b hb
theorem NewTs.live{L:PyData->V->Prop}{H:Hp}:∀(ts:List NT){vs:List V}{as:List Addr},NewTs L H ts vs as->∀a∈as,∃o,H a=some o
 | [],vs,as,h=>by
  unfold NewTs at h
  intro a ha;rw[h.2]at ha;cases ha
 | t::ts,vs,as,h=>by
  unfold NewTs at h
  obtain⟨v,vs',a1,a2,h1,h2,h3,h4⟩:=h
  intro b hb
  rw[h2]at hb
  rcases qb.mp hb with hb|hb
  ·exact NewT.live t h3 b hb
  ·exact NewTs.live ts h4 b hb
end
theorem zgo{L:PyData->V->Prop}{H:Hp}:NewTs L H [] [] []:=by unfold NewTs;exact⟨rfl,rfl⟩
theorem zel{L:PyData->V->Prop}{H:Hp}{t:NT}{ts:List NT}{v:V}{vs:List V}{a1 a2:List Addr}(h:NewT L H t v a1)(k:NewTs L H ts vs a2):NewTs L H (t::ts) (v::vs) (a1++a2):=by
 unfold NewTs;exact⟨v,vs,a1,a2,rfl,rfl,h,k⟩
theorem zra{L:PyData->V->Prop}{H:Hp}:∀{ts us:List NT}{vs ws:List V}{a1 a2:List Addr},NewTs L H ts vs a1->NewTs L H us ws a2->NewTs L H (ts++us) (vs++ws) (a1++a2)
 | [],us,vs,ws,a1,a2,h,k=>by
  unfold NewTs at h
  rw[h.1,h.2];exact k
 | t::ts,us,vs,ws,a1,a2,h,k=>by
  unfold NewTs at h
  obtain⟨v,vs',b1,b2,h1,h2,h3,h4⟩:=h
  rw[h1,h2,qA6]
  exact zel h3 (zra h4 k)
theorem zmd{L:PyData->V->Prop}{H:Hp}:∀{ts:List NT}{vs:List V}{a1:List Addr},NewTs L H ts vs a1->ts.length=vs.length
 | [],vs,a1,h=>by
  unfold NewTs at h
  rw[h.1];rfl
 | t::ts,vs,a1,h=>by
  unfold NewTs at h
  obtain⟨v,vs',b1,b2,h1,h2,h3,h4⟩:=h
  rw[h1];exact congrArg (·+1) (zmd h4)
section
variable{fx:Addr->Prop}{as:List Addr}{H0:Hp}{env:DEnv}{σ:St}{H H':Hp}{st:SyT}
theorem EnvOk.more(h:EnvOk fx H0 env σ H)(s:Same H H'){as1:List Addr}(hn:∀a∈as1,H a=none)(hl:∀a∈as1,∃o,H' a=some o):EnvOk (λb=>fx b\/b∈as1) H0 env σ H':=
 h.grow s (λb o e n z=>z.elim n λy=>by rw[hn b y]at e;cases e) λb z=>z.elim (λy=>let⟨o,e⟩:=h.fxs b y;⟨o,s b o e⟩) (hl b)
theorem zyz(s:Same H H'){A:Addr->Prop}{as1:List Addr}(hn:∀a∈as1,H a=none):Same (Offs (λb=>fx b\/A b) H) (Offs (λb=>(fx b\/b∈as1)\/A b) H'):=
 Offs.mono s λb o e n z=>z.elim (λy=>y.elim (λx=>n (.inl x)) λx=>by rw[hn b x]at e;cases e) λy=>n (.inr y)
end
noncomputable abbrev NTF:=DEnv->Option NT
noncomputable def SEt(te:TE)(g:NTF):Prop:=∀(fx:Addr->Prop)(H0:Hp)(env:DEnv)(σ:St)(H:Hp),EnvOk fx H0 env σ H->∀t,g env=some t->∀Q:VK,
 (∀v H' as,Same H H'->NewT (Rp (Offs (λb=>(fx b\/b∈as)\/own env σ b) H')) H' t v as->as.Nodup->(∀a∈as,H a=none)->Q v H')->te σ H Q
noncomputable abbrev NTFs:=DEnv->Option (List NT)
noncomputable def SAt(ta:TA)(g:NTFs):Prop:=∀(fx:Addr->Prop)(H0:Hp)(env:DEnv)(σ:St)(H:Hp),EnvOk fx H0 env σ H->∀ts,g env=some ts->∀Q:List V->Hp->Prop,
 (∀vs H' as,Same H H'->NewTs (Rp (Offs (λb=>(fx b\/b∈as)\/own env σ b) H')) H' ts vs as->as.Nodup->(∀a∈as,H a=none)->Q vs H')->ta σ H Q
noncomputable def pLf(g:EF):NTF:=λenv=>(g env).bind λr=>if r.bs.isEmpty=true then some (.lf r.d)else none
theorem zuj{te:TE}{g:EF}(h:SE te g):SEt te (pLf g):=by
 intro fx H0 env σ H hE t e Q q
 unfold pLf at e
 obtain⟨r,er,e⟩:=qA.mp e
 split at e
 ·rename_i hb
  cases e
  have hb:r.bs=[]:=qAs.mp hb
  refine h fx H0 env σ H hE r er Q λv H' s hv=>q v H' [] s ?_ .nil λa z=>by cases z
  unfold NewT
  refine⟨rfl,Rp.same (Offs.sub λb z=>?_) _ hv.rp⟩
  rw[hb]
  exact zgv b (z.elim (λy=>y.elim .inl λx=>by cases x) .inr)
 ·cases e
theorem zuk{L:PyData->V->Prop}{G H:Hp}(hL:∀d v,Rp G d v->L d v):∀{ds:List PyData}{vs:List V},Rps G ds vs->NewTs L H (ds.map .lf) vs []
 | [],vs,h=>by unfold Rps at h;rw[h];exact zgo
 | d::ds,vs,h=>by
  unfold Rps at h
  obtain⟨v,vs',rfl,h1,h2⟩:=h
  exact zel (a1:=[]) (a2:=[]) (by unfold NewT;exact⟨rfl,hL _ _ h1⟩) (zuk hL h2)
noncomputable def pFr(g:EF):NTF:=λenv=>(g env).bind λr=>if r.bs.isEmpty=true/\r.fr=true then(match r.d with
 | .list ds=>some (.ls (ds.map .lf))
 | _=>none)else none
theorem zakm{te:TE}{g:EF}(h:SE te g):SEt te (pFr g):=by
 intro fx H0 env σ H hE t e Q q
 unfold pFr at e
 obtain⟨r,er,e⟩:=qA.mp e
 split at e
 ·rename_i hb
  have hb1:r.bs=[]:=qAs.mp hb.1
  split at e
  ·rename_i ds ed
   cases e
   refine h fx H0 env σ H hE r er Q λv H' s hv=>?_
   obtain⟨a,h1,h2,h3⟩:=hv.fr hb.2
   rw[ed]at h3
   obtain⟨xs,k1,k2⟩:=h3
   refine q v H' [a] s ?_ (qAb.mpr ⟨(λz=>by cases z),List.nodup_nil⟩) λb z=>by
    rcases qW.mp z with rfl|z
    ·exact h2
    ·cases z
   unfold NewT
   refine⟨a,xs,[],h1,k1,rfl,zuk (λd w y=>Rp.same (Offs.sub λb z=>?_) d y) k2⟩
   rw[hb1]
   rcases z with(z|z)|z
   ·exact .inl (zgv b (.inl z))
   ·exact .inr (by rcases qW.mp z with z|z;exact z;cases z)
   ·exact .inl (zgv b (.inr z))
  ·cases e
 ·cases e
noncomputable def zrb:NTFs:=λ_=>some []
theorem ztc:SAt tNil zrb:=by
 intro fx H0 env σ H hE t e Q q
 cases e
 exact q [] H [] (Same.refl _) zgo .nil λa z=>by cases z
noncomputable def zea(g:NTF)(k:NTFs):NTFs:=λenv=>(g env).bind λt=>(k env).map λts=>t::ts
theorem zadv{as bs:List Addr}{H:Hp}(h1:as.Nodup)(h2:bs.Nodup)(hl:∀a∈as,∃o,H a=some o)(hn:∀a∈bs,H a=none):(as++bs).Nodup:=
 List.nodup_append.mpr ⟨h1,h2,λa ha b hb e=>by obtain⟨o,eo⟩:=hl a ha;rw[e,hn b hb]at eo;cases eo⟩
theorem zank{p q r s t:Prop}(h:q↔r\/s):(p\/q)\/t↔((p\/r)\/s)\/t:=by rw[h,or_assoc (a:=p) (b:=r) (c:=s)]
theorem zgy{te:TE}{ta:TA}{g:NTF}{k:NTFs}(h1:SEt te g)(h2:SAt ta k):SAt (tCons te ta) (zea g k):=by
 intro fx H0 env σ H hE t e Q q
 unfold zea at e
 obtain⟨t1,e1,e⟩:=qA.mp e
 obtain⟨ts,e2,rfl⟩:=qE.mp e
 refine h1 fx H0 env σ H hE t1 e1 _ λv H1 as1 s1 n1 d1 f1=>?_
 have l1:=NewT.live t1 n1
 refine h2 _ H0 env σ H1 (hE.more s1 f1 l1) ts e2 _ λvs H2 as2 s2 n2 d2 f2=>?_
 have sw:∀b,(fx b\/b∈as1++as2)\/own env σ b↔((fx b\/b∈as1)\/b∈as2)\/own env σ b:=λb=>zank qb
 refine q (v::vs) H2 (as1++as2) (s1.trans s2) (zel (NewT.mono (λd w y=>Rp.same (Same.trans (zyz s2 f2) (Offs.sub λb z=>(sw b).mp z)) d y) t1 n1 λa _ o z=>s2 a o z) (NewTs.mono (λd w y=>Rp.same (Offs.sub λb z=>(sw b).mp z) d y) ts n2 λ_ _ _ z=>z)) (zadv d1 d2 l1 f2) λa ha=>?_
 exact(qb.mp ha).elim (f1 a) λz=>s1.free (f2 a z)
noncomputable def pTup(k:NTFs):NTF:=λenv=>(k env).bind λts=>if ts.length<=100000 then some (.tp ts)else none
theorem ztd{ta:TA}{k:NTFs}(h:SAt ta k):SEt (tTup ta) (pTup k):=by
 intro fx H0 env σ H hE t e Q q
 unfold pTup at e
 obtain⟨ts,e1,e⟩:=qA.mp e
 split at e
 ·rename_i hl
  cases e
  refine h fx H0 env σ H hE ts e1 _ λvs H1 as1 s1 n1 d1 f1=>⟨zdf (by rw[<- zmd n1];exact hl),λp hp=>?_⟩
  have l1:=NewTs.live ts n1
  have np:p∉as1:=λz=>by obtain⟨o,eo⟩:=l1 p z;rw[hp]at eo;cases eo
  refine q _ _ (p::as1) (s1.trans (Same.new hp)) ?_ (qAb.mpr ⟨np,d1⟩) λa ha=>by
   rcases qW.mp ha with rfl|ha
   ·exact s1.free hp
   ·exact f1 a ha
  unfold NewT
  refine⟨p,vs,as1,rfl,zan,rfl,NewTs.mono (λd w y=>Rp.same (Offs.mono (Same.new hp) λb o e n z=>?_) d y) ts n1 λa _ o z=>Same.new hp a o z⟩
  rcases z with(z|z)|z
  ·exact n (.inl (.inl z))
  ·rcases qW.mp z with rfl|z
   ·rw[hp]at e;cases e
   ·exact n (.inl (.inr z))
  ·exact n (.inr z)
 ·cases e
noncomputable def zji(g:GT)(t:TF)(e:NTF)(env:DEnv):List PyData->Option (List NT)
 | []=>some []
 | d::ds=>(g d env).bind λe1=>(t e1).bind λb=>if b=true then(e e1).bind λr=>(zji g t e env ds).map λrs=>r::rs else zji g t e env ds
noncomputable def zte(own:List Str)(fr:List Nat)(fi:IF')(g:GT)(t:TF)(e:NTF):NTF:=λenv=>(fi env).bind λz=>if z.1.length<100000/\z.2.isEmpty=true/\(capA fr env).isEmpty=true then
 (zji g t e (envB own fr env) z.1).map .ls else none
theorem zagu{p:Prop}{as bs:List Addr}{b:Addr}:(p\/b∈as)\/b∈bs↔p\/b∈as++bs:=by rw[qb,or_assoc]
theorem zul{own:List Str}{fr:List Nat}{wi:TI}{g:TG}{tt:TT}{te:TE}{fi:IF'}{gf:GT}{t:TF}{e:NTF}(h1:SI wi fi)(h2:SG g gf)(hx:GX own.length gf)(h3:ST tt t)(h4:SEt te e) :
  SEt (tComp1 wi g tt te own fr) (zte own fr fi gf t e):=by
 intro fx H0 env σ H h rr hr Q q
 unfold zte at hr
 obtain⟨⟨ds,bs⟩,ei,hr⟩:=qA.mp hr
 split at hr
 ·rename_i hc
  obtain⟨hlen,hb1,hb2⟩:=hc
  have hlen:ds.length<100000:=hlen
  have hb1:bs=[]:=qAs.mp hb1
  have hb2:=qAs.mp hb2
  subst hb1
  obtain⟨rs,ers,rfl⟩:=qE.mp hr
  refine h1 fx H0 env σ H h ds [] ei _ λJ H1 s yl=>λp hp=>?_
  have hB:=zlv h s hp own fr []
  rw[hb2]at hB
  generalize hA:(λb=>lim fx env σ ([]++[]) b)=A
  have hA':∀b,fx b\/L2.own env σ b↔A b:=λb=>by rw[<- hA];exact⟨zgv b,zln b⟩
  have eA:(λb=>lim fx env σ ([]++[]) b\/b=p)=λb=>(A b\/b=p)\/b∈([]:List Addr):=by
   funext b;rw[<- hA];exact propext ⟨.inl,λz=>z.elim id λy=>by cases y⟩
  rw[eA]at hB
  have seen:∀{σ':St}{H':Hp}{as:List Addr},EnvOk (λb=>(A b\/b=p)\/b∈as) H1 (envB own fr env) σ' H'->(∀a∈as,H1 a=none/\a≠p)->Same (Offs (λb=>fx b\/L2.own (frzs env []) σ b) H1) (Offs (λb=>(A b\/b=p)\/b∈as) H'):=λ{σ' H' as} hE ha=>Offs.mono hE.base λb o eo n z=>by
   rcases z with(z|z)|z
   ·exact n ((hA' b).mpr z)
   ·rw[z,hp]at eo;cases eo
   ·rw[(ha b z).1]at eo;cases eo
  refine⟨λi m σ' H'=>m=ds.length - i/\i<=ds.length/\∃vs done rest as,H' p=some (.lst vs)/\NewTs (Rp (Offs (λb=>(A b\/b=p)\/b∈as) H')) H' done vs as/\as.Nodup/\(∀a∈as,H1 a=none/\a≠p)/\done.length<=i/\zji gf t e (envB own fr env) (ds.drop i)=some rest/\done++rest=rs/\EnvOk (λb=>(A b\/b=p)\/b∈as) H1 (envB own fr env) σ' H',
   ⟨ds.length,rfl,qAH _,[],[],rs,[],zan,zgo,.nil,λa z=>by(cases z),qAH _,ers,rfl,hB⟩,?_⟩
  rintro i m σ' H' ⟨rfl,hi,vs,done,rest,as,ep,rd,nd,ha,dl,ec,edr,hE⟩
  obtain⟨yi,ys⟩:=yl _ H' hE.fxs (seen hE ha)
  by_cases hlt:i<ds.length
  ·obtain⟨yg,yy⟩:=yi i ds[i] (qO hlt)
   refine .inr ⟨yg,λσ'' H''=>i+1<=ds.length/\∃vs done rest as,H'' p=some (.lst vs)/\NewTs (Rp (Offs (λb=>(A b\/b=p)\/b∈as) H'')) H'' done vs as/\as.Nodup/\(∀a∈as,H1 a=none/\a≠p)/\done.length<=i+1/\zji gf t e (envB own fr env) (ds.drop (i+1))=some rest/\done++rest=rs/\EnvOk (λb=>(A b\/b=p)\/b∈as) H1 (envB own fr env) σ'' H'',?_,?_⟩
   ·rintro σ'' H'' ⟨hle,hh⟩
    exact⟨ds.length - (i+1),by omega,rfl,hle,hh⟩
   ·intro x H'' hy
    obtain⟨sy,ry⟩:=yy x H'' hy
    rw[qAZ hlt]at ec
    obtain⟨e1,ee1,ec⟩:=qA.mp ec
    obtain⟨b,eb,ec⟩:=qA.mp ec
    have ry':Rp (Offs (λa=>((A a\/a=p)\/a∈as)\/L2.own (envB own fr env) σ' a) H'') ds[i] x:=Rp.same (Offs.sub λb z=>z.elim (λy=>y) λ⟨j,d',z,_⟩=>absurd z zge) _ ry
    refine h2 _ H1 (envB own fr env) σ' H'' _ x (hE.up sy) ry' e1 ee1 _ λσ2 hE2=>?_
    refine h3 _ H1 e1 σ2 H'' hE2 b eb _ λH3 s3=>?_
    have hE3:=hE2.up s3
    obtain⟨gl,gk⟩:=hx _ _ _ ee1
    have back:∀{fx':Addr->Prop}{H4:Hp},EnvOk fx' H1 e1 σ2 H4->EnvOk fx' H1 (envB own fr env) σ2 H4:=λ{fx' H4} hh=>hh.weaken gl.symm (λj d' ej=>by
     by_cases hj:own.length<=j
     ·rw[gk j hj];exact ej
     ·obtain⟨_,k,rfl,_⟩:=zky ej;omega) λj d'=>zge
    cases b with
    | false=>
     have ec:zji gf t e (envB own fr env) (ds.drop (i+1))=some rest:=ec
     exact iteF ⟨hlt,vs,done,rest,as,s3 _ _ (sy _ _ ep),NewTs.mono (λd w y=>Rp.same (Offs.grow (sy.trans s3)) d y) done rd λa _ o z=>s3 a o (sy a o z),nd,ha,qBj dl,ec,edr,back hE3⟩
    | true=>
     have ec:((e e1).bind λr=>(zji gf t e (envB own fr env) (ds.drop (i+1))).map λrs=>r::rs)=some rest:=ec
     obtain⟨r,er,ec⟩:=qA.mp ec
     obtain⟨rest',er',rfl⟩:=qE.mp ec
     refine iteT (h4 _ H1 e1 σ2 H3 hE3 r er _ λv H4 as1 s4 n1 d1 f1=>?_)
     have t3:=sy.trans s3
     have t4:=t3.trans s4
     have l1:=NewT.live r n1
     have l0:=NewTs.live done rd
     have p3:H3 p=some (.lst vs):=t3 _ _ ep
     have np:∀a∈as1,a≠p:=λa z y=>by rw[y]at z;rw[f1 p z]at p3;cases p3
     have eF:(λb=>((A b\/b=p)\/b∈as)\/b∈as1)=λb=>(A b\/b=p)\/b∈as++as1:=funext λb=>propext zagu
     have hE4:=back (hE3.more s4 f1 l1)
     rw[eF]at hE4
     refine⟨vs,t4 _ _ ep,zgd (by rw[<- zmd rd];omega),hlt,vs++[v],done++[r],rest',as++as1,zan,?_,zadv nd d1 (λa z=>let⟨o,eo⟩:=l0 a z;⟨o,t3 a o eo⟩) f1,λa z=>?_,by rw[qF];simp;omega,er',by rw[<- edr];simp,hE4.updFx (.inl (.inr rfl)) hp⟩
     ·rw[Offs.upd (.inl (.inr rfl))]
      refine zra (NewTs.mono (λd w y=>Rp.same (Offs.mono t4 λb o eo n z=>?_) d y) done rd λa z o eo=>?_) (by
       rw[show as1=as1++[] by simp]
       refine zel (NewT.mono (λd w y=>Rp.same (Offs.sub λb z=>?_) d y) r n1 λa z o eo=>?_) zgo
       ·rw[qx]at z;exact .inl (zagu.mpr z)
       ·rw[zar (np a z)];exact eo)
      ·rcases zagu.mpr z with z|z
       ·exact n z
       ·have y:=f1 b z;rw[t3 b o eo]at y;cases y
      ·rw[zar (ha a z).2];exact t4 a o eo
     ·rcases qb.mp z with z|z
      ·exact ha a z
      ·exact⟨hE3.base.free (f1 a z),np a z⟩
  ·have hi':i=ds.length:=by omega
   subst hi'
   rw[qAt]at ec
   cases ec
   rw[qx]at edr
   subst edr
   refine .inl ⟨ys,q _ H' (p::as) (s.trans hE.base) ?_ (qAb.mpr ⟨λz=>(ha p z).2 rfl,nd⟩) λa z=>?_⟩
   ·unfold NewT
    refine⟨p,vs,as,rfl,ep,rfl,NewTs.mono (λd w y=>Rp.same (Offs.sub λb z=>?_) d y) done rd λ_ _ _ z=>z⟩
    rcases z with(z|z)|z
    ·exact .inl (.inl ((hA' b).mp (.inl z)))
    ·exact(qW.mp z).elim (λy=>.inl (.inr y)) .inr
    ·exact .inl (.inl ((hA' b).mp (.inr z)))
   ·rcases qW.mp z with rfl|z
    ·exact s.free hp
    ·exact s.free (ha a z).1
 ·cases hr
noncomputable def xcB(C:Addr)(cd:ClassData)(sl:Array (Option Value)):Bool:=match cd.mro,sl.toList with
 | .ref C'::bm,[_,_,_,_,some (.builtin n),_]=>C'==C&&!cd.hasDel&&cd.hasDict&&n=="ValueError.__new__"&&bm.contains (.type "ValueError")&&bm.contains (.type "BaseException")&&!bm.contains (.type "AttributeError")&&!bm.contains (.type "NameError")&&zda bm
 | _,_=>false
theorem zakn{K:qC}{C:Addr}{dd:Option Addr}{cd:ClassData}{sl:Array (Option Value)}(l:K.lookup C=some ⟨.type "type",dd,.cls cd,sl⟩)(h:xcB C cd sl=true):xcIn K C=true/\xcR K C=true:=by
 unfold xcB at h
 unfold xcIn xcR
 rw[l]
 split at h
 ·rename_i C' bm a0 a1 a2 a3 n a5 hm hs
  obtain⟨nm,bs,mro,ns,qn,hd,sn,sub,ab,col,del⟩:=cd
  obtain⟨sl⟩:=sl
  dsimp only at hm hs
  subst hm
  have hs:sl=[a0,a1,a2,a3,some (.builtin n),a5]:=hs
  subst hs
  rw[qk]at h
  exact h
 ·cases h
section
variable{K:qC}{C c:Addr}
theorem zpo{b:Bool}(h1:PySem.W.isClsIn K c=true)(h2:PySem.W.typeIn K (.ref c)=some (.type "type"))(h3:PySem.W.subIn K (.ref C) (.ref c)=some b):PySem.W.kitCls K (.ref C) (.ref c)=some b:=by
 unfold PySem.W.kitCls
 dsimp only
 have h1:(PySem.W.clsIn K c).isSome=true:=h1
 rw[if_pos (by rw[h1,h2];rfl)]
 exact h3
theorem zako(h1:PySem.W.isClsIn K c=true)(h2:PySem.W.typeIn K (.ref c)=some (.type "type"))(h3:PySem.W.subIn K (.ref C) (.ref c)=some true):PySem.W.kitOne K (.ref C) (.ref c)=some true:=by
 unfold PySem.W.kitOne
 split
 ·rfl
 ·exact zpo h1 h2 h3
theorem zjj(h0:PySem.W.subIn K (.ref C) (.ref C)=some true)(h1:PySem.W.isClsIn K c=true)(h2:PySem.W.typeIn K (.ref c)=some (.type "type"))(h3:PySem.W.subIn K (.ref C) (.ref c)=some false):PySem.W.kitOne K (.ref C) (.ref c)=some false:=by
 unfold PySem.W.kitOne
 split
 ·rename_i e
  have e:C=c:=Value.ref.inj (beq_iff_eq.mp e)
  rw[<- e,h0]at h3
  cases h3
 ·exact zpo h1 h2 h3
theorem zakp(h3:PySem.W.subIn K (.ref C) (.type "ValueError")=some true):PySem.W.kitOne K (.ref C) (.type "ValueError")=some true:=by
 unfold PySem.W.kitOne
 rw[if_neg (by intro e;cases beq_iff_eq.mp e)]
 unfold PySem.W.kitCls
 dsimp only
 rw[if_pos (show PySem.W.kitMeta "ValueError"=true by decide +kernel)]
 exact h3
theorem zakq(hb:PySem.W.subIn K (.ref C) (.type "BaseException")=some true)(h1:PySem.W.isClsIn K C=true)(h2:PySem.W.typeIn K (.ref C)=some (.type "type"))(h3:PySem.W.subIn K (.ref C) (.ref C)=some true):PySem.W.exmOne K (.ref C) (.ref C)=some true:=by
 unfold PySem.W.exmOne
 rw[hb,if_pos (by rfl)]
 exact zpo h1 h2 h3
end
structure XKit(P:Program)(w:World)(K:qC)(mg:Str->Option Value)(base:Heap)(cl:Str->Addr)(CS KS:List Str)(B:Str):Prop where
 ok:∀c∈CS,XcOk P w K mg base c (cl c)
 ex:∀c∈CS,PySem.W.exmOne K (.ref (cl c)) (.ref (cl B))=some true
 kit:∀c∈CS,∀k∈KS,PySem.W.kitOne K (.ref (cl c)) (.ref (cl k))=some (decide (c=k))
 val:∀c∈CS,PySem.W.kitOne K (.ref (cl c)) (.type "ValueError")=some true
 mgk:∀k∈KS,mg k=some (.ref (cl k))
 mgB:mg B=some (.ref (cl B))
 mgV:mg "ValueError"=none
theorem zny{p:Str->Prop}:∀c∈([]:List Str),p c:=λc h=>absurd h (by simp)
theorem zbo{p:Str->Prop}{a:Str}{l:List Str}(h:p a)(t:∀c∈l,p c):∀c∈a::l,p c:=λc hc=>(qW.mp hc).elim (λe=>e▸h) (t c)
section
variable{K:qC}{C c B:Addr}{a b:Str}
theorem kd_t(h:PySem.W.kitOne K (.ref C) (.ref c)=some true)(e:a=b):PySem.W.kitOne K (.ref C) (.ref c)=some (decide (a=b)):=by rw[h,decide_eq_true e]
theorem kd_f(h:PySem.W.kitOne K (.ref C) (.ref c)=some false)(e:a≠b):PySem.W.kitOne K (.ref C) (.ref c)=some (decide (a=b)):=by rw[h,decide_eq_false e]
theorem zakr(hb:PySem.W.subIn K (.ref B) (.type "BaseException")=some true)(h1:PySem.W.isClsIn K B=true)(h2:PySem.W.typeIn K (.ref B)=some (.type "type"))(h3:PySem.W.subIn K (.ref C) (.ref B)=some true):PySem.W.exmOne K (.ref C) (.ref B)=some true:=by
 unfold PySem.W.exmOne
 rw[hb,if_pos (by rfl)]
 exact zpo h1 h2 h3
end
noncomputable abbrev GFT:=List PyData->Option NT
noncomputable def spT(n:Nat)(g:GFT):Sp:=λvs H Q _=>∃(fx:Addr->Prop)(ds:List PyData)(t:NT),ds.length=n/\(∀b,fx b->∃o,H b=some o)/\Rps (Offs fx H) ds vs/\g ds=some t/\
 ∀v H' as,Same H H'->NewT (Rp (Offs (λb=>fx b\/b∈as) H')) H' t v as->as.Nodup->(∀a∈as,H a=none)->Q v H'
theorem zza{n:Nat}{g:GFT}{vs:List V}{H:Hp}{Q:VK}{E:XK}(h:spT n g vs H Q E):vs.length=n:=by
 obtain⟨fx,ds,r,hn,hf,rr,_⟩:=h
 rw[<- rr.length];exact hn
noncomputable def fnT(n:Nat)(g:NTF):GFT:=λds=>g (zgn n ds)
noncomputable def SSq(ts:XK->TS)(F:NTF):Prop:=∀(fx:Addr->Prop)(H0:Hp)(env:DEnv)(σ:St)(H:Hp)(D:Ends)(E:XK),EnvOk fx H0 env σ H->∀t,F env=some t->
 (∀v H' as,Same H0 H'->NewT (Rp (Offs (λb=>fx b\/b∈as) H')) H' t v as->as.Nodup->(∀a∈as,H0 a=none)->D.rt v H')->ts E D σ H
theorem zagv{te:TE}{g:NTF}(h:SEt te g):SSq (λ_=>tRet te) g:=by
 intro fx H0 env σ H D E hE t e q
 exact h fx H0 env σ H hE t e _ λv H' as s n d f=>q v H' as (hE.base.trans s) (NewT.mono (λd w y=>Rp.same (Offs.sub λb z=>.inl z) d y) t n λ_ _ _ z=>z) d λa ha=>hE.base.free (f a ha)
theorem zanl{N:List Str}{n:Nat}{f:NTF}{t:XK->TS}(hs:SSq t f){vs:List V}{H:Hp}{Q:VK}{E E':XK}(h:spT n (fnT N.length f) vs H Q E):t E' {nx:=λ_ H'=>Q .non H',rt:=Q} (zdi N vs) H:=by
 obtain⟨fx,ds,r,hn,hf,rr,g,k⟩:=h
 exact hs fx H _ _ H _ _ (zev hf rr) r g k
noncomputable def zzb(n:Nat)(g:GFT)(f:AF):NTF:=λenv=>(f env).bind λrs=>if rs.length=n/\(bss rs).isEmpty=true then g (zcu rs)else none
theorem zacb{n:Nat}{g:GFT}{ta:TA}{f:AF}{E:XK}(ha:SA ta f):SEt (tCall (spT n g) [] E ta) (zzb n g f):=by
 intro fx H0 env σ H hE t e Q q
 unfold zzb at e
 obtain⟨rs,er,e⟩:=qA.mp e
 split at e
 ·rename_i hn
  have hb:=qAs.mp hn.2
  refine ha fx H0 env σ H hE rs er _ λvs H1 s1 v1=>?_
  rw[qx]
  refine⟨lim fx env σ (bss rs),zcu rs,t,by rw[zet];exact hn.1,(hE.up s1).lims _,zep (λi hi=>hi) v1,e,λv H' as s n d f=>q v H' as (s1.trans s) (NewT.mono (λd w y=>Rp.same (Offs.sub λb z=>?_) d y) t n λ_ _ _ z=>z) d λa ha=>s1.free (f a ha)⟩
  rw[hb]
  rcases z with(z|z)|z
  ·exact .inl (zgv b (.inl z))
  ·exact .inr z
  ·exact .inl (zgv b (.inr z))
 ·cases e
inductive ResT where
 | ok (t:NT)
 | rx (c:Str) (d:PyData)
noncomputable def zadw(cl:Str->Addr)(fx:Addr->Prop)(H:Hp)(Q:VK)(E:XK):ResT->Prop
 | .ok t=>∀v H' as,Same H H'->NewT (Rp (Offs (λb=>fx b\/b∈as) H')) H' t v as->as.Nodup->(∀a∈as,H a=none)->Q v H'
 | .rx c d=>∀k od H',RX H (cl c) d k od H'->E k od H'
noncomputable def spTX(cl:Str->Addr)(n:Nat)(g:List PyData->Option ResT):Sp:=λvs H Q E=>∃(fx:Addr->Prop)(ds:List PyData)(r:ResT),ds.length=n/\(∀b,fx b->∃o,H b=some o)/\Rps (Offs fx H) ds vs/\g ds=some r/\zadw cl fx H Q E r
theorem zacc{cl:Str->Addr}{n:Nat}{g:List PyData->Option ResT}{vs:List V}{H:Hp}{Q:VK}{E:XK}(h:spTX cl n g vs H Q E):vs.length=n:=by
 obtain⟨fx,ds,r,hn,hf,rp,_⟩:=h
 rw[<- rp.length];exact hn
noncomputable abbrev SFZ:=DEnv->Option ResT
noncomputable def SSz(cl:Str->Addr)(ts:XK->TS)(F:SFZ):Prop:=∀(fx:Addr->Prop)(H0:Hp)(env:DEnv)(σ:St)(H:Hp)(D:Ends)(E:XK),EnvOk fx H0 env σ H->∀r,F env=some r->zadw cl fx H0 D.rt E r->ts E D σ H
noncomputable def zSeq(f:SFX)(g:SFZ):SFZ:=λenv=>(f env).bind λo=>match o with
 | .ok (.nx e)=>g e
 | .rx c d=>some (.rx c d)
 | _=>none
theorem zagw{cl:Str->Addr}{t u:XK->TS}{f:SFX}{g:SFZ}(h1:SSx cl t f)(h2:SSz cl u g):SSz cl (λE=>tSeq (t E) (u E)) (zSeq f g):=by
 intro fx H0 env σ H D E h r e q
 unfold zSeq at e
 obtain⟨o,eo,e⟩:=qA.mp e
 refine h1 fx H0 env σ H _ E h o eo ?_
 cases o with
 | ok o=>
  cases o with
  | nx env'=>exact λσ' H' h'=>h2 fx H0 env' σ' H' D E h' r e q
  | bk env'=>cases e
  | ct env'=>cases e
  | rt d fr=>cases e
 | rx c d=>cases e;exact q
noncomputable def zRet(g:NTF):SFZ:=λenv=>(g env).map .ok
theorem zagx{cl:Str->Addr}{te:TE}{g:NTF}(h:SEt te g):SSz cl (λ_=>tRet te) (zRet g):=by
 intro fx H0 env σ H D E hE r e q
 unfold zRet at e
 obtain⟨t,et,rfl⟩:=qE.mp e
 refine h fx H0 env σ H hE t et _ λv H' as s n nd hn=>q v H' as (hE.base.trans s) (NewT.mono (λd v r=>Rp.same (Offs.sub λb z=>.inl z) _ r) t n λa _ o z=>z) nd λa ha=>hE.base.free (hn a ha)
noncomputable def fnZ(n:Nat)(f:SFZ):List PyData->Option ResT:=λds=>f (zgn n ds)
theorem fn_z{cl:Str->Addr}{N:List Str}{n:Nat}{f:SFZ}{t:XK->TS}(hs:SSz cl t f){vs:List V}{H:Hp}{Q:VK}{E:XK}(h:spTX cl n (fnZ N.length f) vs H Q E):t (StX H E) {nx:=λ_ H'=>Q .non H',rt:=Q} (zdi N vs) H:=by
 obtain⟨fx,ds,r,hn,hf,rp,g,k⟩:=h
 refine hs fx H _ _ H _ _ (zev hf rp) r g ?_
 cases r with
 | ok t=>exact k
 | rx c d=>exact λk' od H' z=>RX.stx k z
noncomputable def ztf(n:Nat)(g:GFX)(f:AF)(gt:GT):SFX:=λenv=>(f env).bind λrs=>if rs.length=n/\bss rs=[]then(g (zcu rs)).bind λr=>match r with
 | .ok d _=>(gt d env).map λe=>.ok (.nx e)
 | .rx c d=>some (.rx c d)else none
theorem zacd{cl:Str->Addr}{n:Nat}{G:GFX}{ta:TA}{f:AF}{g:TG}{gt:GT}(ha:SA ta f)(hg:SG g gt):SSx cl (λE=>tAsg (tCall (spX cl n G) [] E ta) g) (ztf n G f gt):=by
 intro fx H0 env σ H D E h o e q
 unfold ztf at e
 obtain⟨rs,er,e⟩:=qA.mp e
 split at e
 ·rename_i hn
  obtain⟨hn,hb⟩:=hn
  obtain⟨r,ez,e⟩:=qA.mp e
  refine ha fx H0 env σ H h rs er _ λvs H1 s1 v1=>?_
  rw[qx]
  refine⟨lim fx env σ (bss rs),zcu rs,r,by rw[zet];exact hn,(h.up s1).lims _,zep (λi hi=>hi) v1,ez,?_⟩
  cases r with
  | rx c d=>cases e;exact λk od H3 r=>q k od H3 (r.base (h.base.trans s1))
  | ok d fr=>
   obtain⟨env',ee,rfl⟩:=qE.mp e
   intro w H3 s3 rt
   refine hg fx H0 env σ H3 d w ((h.up s1).up s3) (Rp.same (Offs.sub λb z=>?_) _ rt.1) env' ee _ λσ' h'=>q σ' H3 h'
   rw[hb]
   exact zgv b z
 ·cases e
noncomputable def zaks(Ok:Addr->Prop)(ts:Addr->TS)(j:Nat)(D:Ends)(σ:St)(H1:Hp):XK:=λc od H2=>∃C dx,c=.ref C/\Ok C/\od=some dx/\
 ∀e H3,(∀b o,H1 b=some o->H2 b=some o->H3 b=some o)->zabq H2 H3->(∃tv,H3 e=some (.ext (xeD e C dx tv)))->
  ts C {nx:=λσ' H'=>D.nx (σ'.set j none) H',rt:=D.rt} (σ.set j (some (.ref e))) H3
section
variable{X:Cx}{pins:List (Addr×Obj)}{σ:St}{H1:Hp}{s1:Shared}
theorem zace{Ok:Addr->Prop}{ts:Addr->TS}{B:Addr}{n cn:Str}{hpos cp:Pos}{st0:Stmt}{suite:List Stmt}{j:Nat}{D:Ends}{ev:Value}{s':Shared}
  (hN:X.N.Nodup)(hj:X.N[j]?=some n)(hn:X.env.scope.names.lookup n=some .local)(hst:X.stack=X.env::X.outer)(hfr:X.env.frame=some X.env.locals)(hgc:Gl X cn)(hmc:X.mg cn=some (.ref B))
  (hex:∀C,Ok C->PySem.W.exmOne X.K (.ref C) (.ref B)=some true)(hs:∀C,Ok C->∀e,PSs (X.hold e) (st0::suite) (ts C))(hdc:(cn==("__debug__":Str))=false)
  (I1:Inv X pins σ H1 s1)(hq:CXE X.prog X.w X.stack H1 s1 (zaks Ok ts j D σ H1) ev s') :
  wpAny (model X.prog X.w) X.A (noteFrame ev X.env) (λ_ s2=>wpAny (model X.prog X.w) X.A (setFlight ev none) (λ_ s3=>wpAny (model X.prog X.w) X.A (handleBy ev X.env [.ExceptHandler (some (.Name cn cp)) (some n) (st0::suite) hpos]) (SP X pins D) X.xe s3) X.xe s2) X.xe s':=by
 obtain⟨e,C',dx,H2,rfl,os,bare,un,ok,fl,stx⟩:=hq
 have I2:=I1.call' (s':=s') os un ok bare (λb z=>absurd z (by simp))
 refine zqy I2 hst hfr (λb ob z=>un.there b ob z (by simp)) fl λs3 H3 I3 ⟨T,hT1,hT2,hT3,hT4⟩ ho hkx hz3=>?_
 obtain⟨C,dx',eC,hOk,edx,sq⟩:=stx H3 (λb o z1 z2=>ho b o _ (I1.hok b o z1).there.choose_spec z2) hkx
 cases eC
 cases edx
 obtain⟨⟨vs',sl,oe,h1⟩,_,_⟩:=I3.hok e _ hT1
 have tb:=(I3.hok T _ hT4).1
 have J3:=I3.hold e
 refine wpAny_handleBy_cons (codeAny_handlers_test (zlh J3 hgc hmc ?_ hdc)) (by intro z;cases z)
 have LT:PySem.W.Looks (model X.prog X.w) s3.heap (typeOf (.ref e)) (.ref C'):=(qBz oe).andThen .now
 refine(PySem.W.exm_one (I3.kIn) LT (hex C' hOk)).here ?_
 show codeAny _ _ _ _ _
 refine codeAny_handlers_suite_as (zym oe rfl h1 tb λh' kp tb'=>?_)
 have hup:upd H3 T (.ext λh=>h.Tb T)=H3:=by
  funext b
  by_cases hb:b=T
  ·subst hb;rw[zan,hT4]
  ·rw[zar hb]
 have J4:Inv (X.hold e) pins σ H3 {s3 with heap:=h'}:=by
  have:=J3.write (x:=T) (e:=T) (o:=.ext λh=>h.Tb T) (h':=h') (t':=s3.toks) (by rw[hT4];exact True.intro) (.inl rfl) (λb u hb z=>kp b u hb z) (let⟨oT,_,z,_⟩:=tb';⟨oT,z⟩) (zyn tb')
  rw[hup]at this
  exact this
 refine zkv (X:=X) (Inv.unhold I1.ok J4) hN hj (.inl hn) (show RelV (.ref e) (.ref e)from rfl) (λs5 J5=>?_) (.inr hn)
 refine qA4 (hs C' hOk e pins s5 _ H3 _ (J5.hold e) (sq e H3 (λ_ _ _ z=>z) (λ_ _ z _=>z) ⟨_,hT1⟩)) (λfl s6 q6=>?_) λ_ _ z=>z.elim
 cases fl with
 | next=>
  obtain⟨σ',H',J6,q6⟩:=q6
  exact zyt (Inv.unhold I1.ok J6) hN hj hn λs7 I7=>⟨_,_,I7,q6⟩
 | ret u=>
  obtain⟨v,σ',H',J6,rv,q6⟩:=q6
  exact zyt (Inv.unhold I1.ok J6) hN hj hn λs7 I7=>⟨v,_,H',I7,rv,q6⟩
 | brk=>obtain⟨σ',H',J6,q6⟩:=q6;exact q6.elim
 | cont=>obtain⟨σ',H',J6,q6⟩:=q6;exact q6.elim
end
noncomputable def zakt(Ok:Addr->Prop)(sp:Sp)(t:TA)(ts:Addr->TS)(i j:Nat):TS:=λD σ H=>t σ H λvs H1=>sp vs H1 (λv H2=>D.nx (σ.set i (some v)) H2) (zaks Ok ts j D σ H1)
section
variable{X:Cx}{pins:List (Addr×Obj)}{σ:St}{H1:Hp}{s1:Shared}
theorem zagy{Ok:Addr->Prop}{f B:Addr}{k:Nat}{fd:qq}{ps:List Str}{sp:Sp}{fn x n cn:Str}{p cpos pos pos' apos hpos cp:Pos}{a:Expr}{as:List Expr}{st0:Stmt}{suite:List Stmt}{t:TA}{ts:Addr->TS}{i j:Nat}
  (F:FnOk X.prog X.w X.K X.mg X.base (CXE X.prog X.w) k f fd ps sp)(hr:Room k X.A)(hg:Gl X fn)(hm:X.mg fn=some (.ref f))(hk:qAX X.K (.ref f)=true)(hb:zgu X.K fd ps [])(ha:PA X.nox (a::as) t)
  (hN:X.N.Nodup)(hi:X.N[i]?=some x)(hx:X.env.scope.names.lookup x=some .local)(hj:X.N[j]?=some n)(hn:X.env.scope.names.lookup n=some .local)
  (hst:X.stack=X.env::X.outer)(hfr:X.env.frame=some X.env.locals)(hgc:Gl X cn)(hmc:X.mg cn=some (.ref B))(hex:∀C,Ok C->PySem.W.exmOne X.K (.ref C) (.ref B)=some true)(hs:∀C,Ok C->∀e,PSs (X.hold e) (st0::suite) (ts C))
  (hdb:(fn==("__debug__":Str))=false)(hdc:(cn==("__debug__":Str))=false)(he:starEach (a::as) X.env=(false,eval a X.env)::starEach as X.env)(hpl:(backTo cpos (starEach as X.env)).any (·.1)=false)
  (hsw:swapsWith (.Call (.Name fn p) (a::as) [] cpos) (some (.Name x pos')) apos.line X.env=pure false) :
  PS X (.Try [.Assign [.Name x pos'] (.Call (.Name fn p) (a::as) [] cpos) apos] [.ExceptHandler (some (.Name cn cp)) (some n) (st0::suite) hpos] [] [] pos) (zakt Ok sp t ts i j):=by
 intro pins s σ H D I h
 refine wpAny_Try_except ?_
 refine qB1 (wpAny_Assign_Name (qAa (zlh I hg hm ?_ hdb)) hsw)
 refine qBP (h₀:=X.base) I.ok.mod.kin hk (qA4 (ha cpos pins s σ H _ (I.wish _) h) (λus s1 ⟨vs,H1,I1,r,q⟩=>⟨I1.kIn,?_⟩) λ_ _ z=>z.elim) he hpl
 have I1:Inv X pins σ H1 s1:=I1.unwish
 have hl:us.length=ps.length:=by rw[<- r.length];exact F.len _ _ _ _ q
 refine qBw (qA8 (F.run X.A X.stack s1 H1 ⟨us,[]⟩ us vs _ _ hr I1.env0 (by have:=hb s1 us I1.kIn (by rw[qx];exact hl);rw[qx]at this;exact this) r q) λres s' hq=>?_)
 cases res with
 | ok fl=>
  cases fl with
  | ret u=>
   obtain⟨v,H2,I2,rv,q2⟩:=I1.after hq
   exact zkv I2 hN hi (.inl hx) rv (λs3 I3=>qAq (qAq ⟨_,H2,I3,q2⟩)) (.inr hx)
  | next=>exact False.elim hq
  | brk=>exact False.elim hq
  | cont=>exact False.elim hq
 | error ev=>exact zace hN hj hn hst hfr hgc hmc hex hs hdc I1 hq
end
noncomputable def zagz(c:Str)(g:List PyData->Option ResT):GFT:=λds=>(g ds).bind λr=>match r with
 | .ok t=>some (.ls [t])
 | .rx c' d=>if c'=c then some (.tp [.lf (.str "at"),.lf d])else none
noncomputable def zaku(C:Addr)(Ok:Addr->Prop)(sp:Sp)(t1 t2 t3:TT)(r2 r3:TE):TS:=
 tSeq (tAsg (tC .non) (gName 3)) (tSeq (tAsg (tC .non) (gName 4))
 (tSeq (zakt Ok sp (tCons (tVar 0) (tCons (tVar 1) tNil)) (λ_=>tAsg (tVar 2) (gName 3)) 4 2)
 (tSeq (tIfS t1 (tRet (tLst (tCons (tVar 4) tNil))) tNext)
 (tSeq (tIfS t2 (tRet r2) tNext)
 (tSeq (tIfS t3 (tRet r3) tNext)
 (tRet (tTup (tCons (tC (.str "at")) (tCons (tXat C (tVar 3)) tNil)))))))))
theorem zaha{cl:Str->Addr}{c:Str}{Ok:Addr->Prop}{g:List PyData->Option ResT}{t1 t2 t3:TT}{r2 r3:TE}(hOk:Ok (cl c))
  (h1:∀(σ:St) (H:Hp) (Q:Bool->Hp->Prop) (v:V),σ[3]?=some (some v)->Q (decide (v=.non)) H->t1 σ H Q)
  (h2:∀(σ:St)(H:Hp)(Q:Bool->Hp->Prop)(e dx:Addr)(tv:Value),σ[3]?=some (some (.ref e))->H e=some (.ext (xeD e (cl c) dx tv))->(∀H',Same H H'->Q false H')->t2 σ H Q)
  (h3:∀(σ:St)(H:Hp)(Q:Bool->Hp->Prop)(e dx:Addr)(tv:Value),σ[3]?=some (some (.ref e))->H e=some (.ext (xeD e (cl c) dx tv))->(∀H',Same H H'->Q false H')->t3 σ H Q)
  {vs:List V}{H:Hp}{Q:VK}{E:XK}(h:spT 2 (zagz c g) vs H Q E){a0 a1 a2 a3 a4:Str} :
  zaku (cl c) Ok (spTX cl 2 g) t1 t2 t3 r2 r3 {nx:=λ_ H'=>Q .non H',rt:=Q} (zdi [a0,a1,a2,a3,a4] vs) H:=by
 obtain⟨fx,ds,t,hn,hf,r,hg0,k⟩:=h
 obtain⟨res,er,hg⟩:=qA.mp hg0
 clear hg0
 have hl:vs.length=2:=by rw[<- r.length];exact hn
 match vs,hl with
 | [v0,v1],_=>
  refine⟨v0,rfl,v1,rfl,fx,ds,res,hn,hf,r,er,?_⟩
  cases res with
  | ok t'=>
   cases hg
   intro v H2 as s2 nt nd hna
   refine h1 _ _ _ .non rfl ?_
   refine iteT ⟨v,rfl,(by show 1<=qQ;rw[qAL];omega),λp hp=>?_⟩
   have lv:=NewT.live t' nt
   have hp0:p∉as:=λz=>by obtain⟨o,e⟩:=lv p z;rw[hp]at e;cases e
   refine k _ _ (p::as) (s2.trans (Same.new hp)) ?_ (qAb.mpr ⟨hp0,nd⟩) λa ha=>?_
   ·unfold NewT
    refine⟨p,[v],as,rfl,zan,rfl,?_⟩
    have:=zel (NewT.mono (L':=Rp (Offs (λb=>fx b\/b∈p::as) (upd H2 p (.lst [v])))) (H':=upd H2 p (.lst [v])) (λd w z=>Rp.same (Offs.mono (Same.new hp) λb o eb nn zz=>?_) _ z) t' nt λa ha o e=>Same.new hp _ _ e) (zgo (L:=Rp (Offs (λb=>fx b\/b∈p::as) (upd H2 p (.lst [v])))) (H:=upd H2 p (.lst [v])))
    ·rw[qx]at this;exact this
    ·rcases zz with zz|zz
     ·exact nn (.inl zz)
     ·rcases qW.mp zz with zz|zz
      ·rw[zz,hp]at eb;cases eb
      ·exact nn (.inr zz)
   ·rcases qW.mp ha with rfl|ha
    ·exact s2.free hp
    ·exact hna a ha
  | rx c' d'=>
   replace hg:(if c'=c then some (NT.tp [.lf (.str "at"),.lf d'])else none)=some t:=hg
   split at hg
   ·rename_i hc
    subst hc
    cases hg
    intro c0 od H2 rx
    obtain⟨hc,s2,fl,dx,w,rfl,hd,rp⟩:=rx
    refine⟨cl c',dx,hc,hOk,rfl,λe H3 q1 q2 ⟨tv,he⟩=>?_⟩
    have hd3:H3 dx=some (.xd [("at",w)]):=q2 _ _ hd (λφ z=>by cases z)
    have s3:Same H H3:=λb o z=>q1 b o z (s2 b o z)
    refine⟨_,rfl,?_⟩
    refine h1 _ _ _ (.ref e) rfl (iteF ?_)
    refine h2 _ _ _ e dx tv rfl he λH4 s4=>iteF ?_
    refine h3 _ _ _ e dx tv rfl (s4 _ _ he) λH5 s5=>iteF ?_
    refine⟨_,rfl,e,dx,tv,w,rfl,s5 _ _ (s4 _ _ he),s5 _ _ (s4 _ _ hd3),(by show 2<=qQ;rw[qAL];omega),λp hp=>?_⟩
    refine k _ _ [p] (((s3.trans s4).trans s5).trans (Same.new hp)) ?_ (by simp) λa ha=>?_
    ·unfold NewT
     refine⟨p,_,[],rfl,zan,rfl,?_⟩
     have e1:NewT (Rp (Offs (λb=>fx b\/b∈[p]) (upd H5 p (.tup [.str "at",w])))) (upd H5 p (.tup [.str "at",w])) (.lf (.str "at")) (.str "at") []:=by unfold NewT;exact⟨rfl,zat⟩
     have e2:NewT (Rp (Offs (λb=>fx b\/b∈[p]) (upd H5 p (.tup [.str "at",w])))) (upd H5 p (.tup [.str "at",w])) (.lf d') w []:=by unfold NewT;exact⟨rfl,zio fl rp⟩
     exact zel e1 (zel e2 zgo)
    ·rw[qc.mp ha];exact((s3.trans s4).trans s5).free hp
   ·cases hg
theorem zakv {K:qC} {i j:Nat} {tb:TS} (hb:∀(D:Ends)(σ:St)(H:Hp)(a:Addr)(xs:List V),σ[j]?=some (some (.ref a))->H a=some (.lst xs)->xs.length<60000->(∀H' ys,Same H H'->ys.length<=xs.length+1->D.nx σ (upd H' a (.lst ys)))->tb D σ H)
  {σ:St}{H G:Hp}{d:PyData}{v:V}{D:Ends}(hi:σ[i]?=some (some v))(hj:j<σ.length)(rp:Rp G d v)(s:Same G H)(hs:szD d<50000)(hG:∀a xs,G a=some (.lst xs)->xs.length<=1000)
  (q:∀(σ':St)(H':Hp),σ'.length=σ.length->(∀k,k≠j->σ'[k]?=σ[k]?)->(∀b o,H b=some o->(∃xs,G b=some (.lst xs))\/H' b=some o)->(∀b xs,G b=some (.lst xs)->∃ys,H' b=some (.lst ys))->D.nx σ' H') :
  tFor (iSeq K (tCall spLs [] E0 (tCons (tVar i) tNil))) (gName j) tb D σ H:=by
 refine⟨v,hi,G,d,v,rfl,rp,s,hs,λl ws H1 s1 hl hl1 hw hlen=>⟨l,rfl,.inl ⟨⟨ws,SqL.of hl1⟩,?_⟩⟩⟩
 have Gl:G l=none:=s.free hl
 refine⟨λn m σ' H'=>m=ws.length - n/\n<=ws.length/\σ'.length=σ.length/\(∀k,k≠j->σ'[k]?=σ[k]?)/\H' l=some (.lst ws)/\(∀b o,H1 b=some o->(∃xs,G b=some (.lst xs))\/H' b=some o)/\∀b xs,G b=some (.lst xs)->∃ys,H' b=some (.lst ys)/\ys.length<=1000+n,
  ⟨ws.length,rfl,qAH _,rfl,λ_ _=>rfl,hl1,λb o e=>.inr e,λb xs e=>⟨xs,s1 _ _ (s _ _ e),hG b xs e⟩⟩,?_⟩
 rintro n m σ' H' ⟨rfl,hn,hl',hk,hll,hsm,hys⟩
 by_cases hlt:n<ws.length
 ·have hx:ws[n]?=some ws[n]:=qO hlt
  refine .inr ⟨⟨ws,ws[n],SqL.of hll,hx⟩,λσ'' H''=>n+1<=ws.length/\σ''.length=σ.length/\(∀k,k≠j->σ''[k]?=σ[k]?)/\H'' l=some (.lst ws)/\(∀b o,H1 b=some o->(∃xs,G b=some (.lst xs))\/H'' b=some o)/\∀b xs,G b=some (.lst xs)->∃ys,H'' b=some (.lst ys)/\ys.length<=1000+(n+1),?_,?_⟩
  ·rintro σ'' H'' ⟨h1,hh⟩
   exact⟨ws.length - (n+1),by omega,rfl,h1,hh⟩
  ·intro x H'' hy
   obtain⟨rfl,hy⟩:=hy
   have ex:=hy ws (SqL.of hll)
   rw[hx]at ex
   cases ex
   obtain⟨a,xs,ea,ga⟩:=hw ws[n] (qAi hlt)
   obtain⟨ys,hy1,hy2⟩:=hys a xs ga
   have hal:l≠a:=λe=>by rw[<- e,Gl]at ga;cases ga
   refine hb _ _ _ a ys (by rw[qe (by rw[hl'];exact hj),ea]) hy1 (by omega) λH3 zs s3 hz=>?_
   refine⟨hlt,by rw[qR];exact hl',λk hkj=>by rw[qH (λe=>hkj e.symm)];exact hk k hkj,by rw[zar hal];exact s3 _ _ hll,λb o e=>?_,λb us e=>?_⟩
   ·by_cases hba:b=a
    ·rw[hba];exact .inl ⟨xs,ga⟩
    ·rw[zar hba];exact(hsm b o e).imp id (s3 _ _)
   ·by_cases hba:b=a
    ·rw[hba];exact⟨zs,zan,by omega⟩
    ·obtain⟨ts,t1,t2⟩:=hys b us e
     rw[zar hba];exact⟨ts,s3 _ _ t1,by omega⟩
 ·refine .inl ⟨⟨ws,SqL.of hll,by omega⟩,q σ' H' hl' hk (λb o e=>hsm b o (s1 _ _ e)) λb xs e=>?_⟩
  obtain⟨ys,y1,_⟩:=hys b xs e
  exact⟨ys,y1⟩
theorem zzc{K:qC}{j:Nat}(D:Ends)(σ:St)(H:Hp)(a:Addr)(xs:List V)(hj:σ[j]?=some (some (.ref a)))(ha:H a=some (.lst xs))(hx:xs.length<60000)(q:∀H' ys,Same H H'->ys.length<=xs.length+1->D.nx σ (upd H' a (.lst ys))) :
  tDrop (tBM K "list" zfa (tVar j) (tCons (tC .non) tNil)) D σ H:=
 ⟨_,hj,.inl ⟨rfl,_,SqL.of ha⟩,a,xs,.non,rfl,rfl,ha,zgd (by omega),q H _ (Same.refl _) (by rw[qF];simp)⟩
theorem zzd{K:qC}{j:Nat}(D:Ends)(σ:St)(H:Hp)(a:Addr)(xs:List V)(hj:σ[j]?=some (some (.ref a)))(ha:H a=some (.lst xs))(hx:xs.length<60000)(q:∀H' ys,Same H H'->ys.length<=xs.length+1->D.nx σ (upd H' a (.lst ys))) :
  tSeq (tDrop (tBM K "list" zfa (tVar j) (tCons (tTup tNil) tNil))) (tDrop (tBM0 K "list" zow (tVar j))) D σ H:=by
 refine⟨_,hj,.inl ⟨rfl,_,SqL.of ha⟩,qAH _,λp hp=>⟨a,xs,.ref p,rfl,rfl,Same.new hp _ _ ha,zgd (by omega),?_⟩⟩
 refine⟨_,hj,.inl ⟨rfl,_,SqL.of zan⟩,a,_,rfl,rfl,zan,?_⟩
 have e:upd (upd (upd H p (.tup [])) a (.lst (xs++[.ref p]))) a (.lst (xs++[V.ref p]).reverse)=upd (upd H p (.tup [])) a (.lst (xs++[V.ref p]).reverse):=funext λb=>by
  by_cases e:b=a
  ·rw[e,zan,zan]
  ·rw[zar e,zar e,zar e]
 show D.nx σ (upd (upd (upd H p (.tup [])) a (.lst (xs++[.ref p]))) a (.lst (xs++[V.ref p]).reverse))
 rw[e]
 exact q _ _ (Same.new hp) (by rw[qCK,qF];simp)
mutual
def ntD:NT->PyData
 | .lf d=>d
 | .ls ts=>.list (ntDs ts)
 | .tp ts=>.tuple (ntDs ts)
def ntDs:List NT->List PyData
 | []=>[]
 | t::ts=>ntD t::ntDs ts
end
mutual
theorem NewT.rpD{L:PyData->V->Prop}{H G:Hp}(hL:∀d v,L d v->Rp G d v):∀(t:NT){v:V}{as:List Addr},NewT L H t v as->(∀a∈as,∀o,H a=some o->G a=some o)->Rp G (ntD t) v
 | .lf d,v,as,h,k=>by
  unfold NewT at h
  unfold ntD
  exact hL _ _ h.2
 | .ls ts,v,as,h,k=>by
  unfold NewT at h
  obtain⟨a,vs,as1,rfl,h2,h3,h4⟩:=h
  unfold ntD
  exact zcy (k a (by rw[h3];exact .head _) _ h2) (NewTs.rpD hL ts h4 λb hb=>k b (by rw[h3];exact .tail _ hb))
 | .tp ts,v,as,h,k=>by
  unfold NewT at h
  obtain⟨a,vs,as1,rfl,h2,h3,h4⟩:=h
  unfold ntD
  exact zfl (k a (by rw[h3];exact .head _) _ h2) (NewTs.rpD hL ts h4 λb hb=>k b (by rw[h3];exact .tail _ hb))
theorem NewTs.rpD{L:PyData->V->Prop}{H G:Hp}(hL:∀d v,L d v->Rp G d v):∀(ts:List NT){vs:List V}{as:List Addr},NewTs L H ts vs as->(∀a∈as,∀o,H a=some o->G a=some o)->Rps G (ntDs ts) vs
 | [],vs,as,h,k=>by
  unfold NewTs at h
  rw[h.1];unfold ntDs;exact zbf
 | t::ts,vs,as,h,k=>by
  unfold NewTs at h
  obtain⟨v,vs',a1,a2,rfl,h2,h3,h4⟩:=h
  unfold ntDs
  exact zbc (NewT.rpD hL t h3 λb hb=>k b (by rw[h2];exact qAQ _ hb)) (NewTs.rpD hL ts h4 λb hb=>k b (by rw[h2];exact qd _ hb))
end
noncomputable def zik(H:Hp):Hp:=λb=>match H b with
 | some (.lst xs)=>if xs.length<=1000 then some (.lst xs)else none
 | o=>o
theorem zfs(H:Hp):Same (zik H) H:=λb o e=>by
 unfold zik at e
 split at e
 ·rename_i xs hb
  split at e
  ·cases e;exact hb
  ·cases e
 ·exact e
theorem znz{H:Hp}{a:Addr}{xs:List V}(e:zik H a=some (.lst xs)):xs.length<=1000:=by
 unfold zik at e
 split at e
 ·split at e
  ·cases e;assumption
  ·cases e
 ·rename_i h1 h2
  exact absurd e (h2 xs)
mutual
def zbm:PyData->Bool
 | .list ds=>decide (ds.length<=1000)&&shortDs ds
 | .tuple ds=>shortDs ds
 | .dict _=>false
 | _=>true
def shortDs:List PyData->Bool
 | []=>true
 | d::ds=>zbm d&&shortDs ds
end
mutual
theorem zpp{H:Hp}:∀(d:PyData){v:V},zbm d=true->Rp H d v->Rp (zik H) d v
 | .none,v,_,r=>by unfold Rp at r ⊢;exact r
 | .bool b,v,_,r=>by unfold Rp at r ⊢;exact r
 | .int i,v,_,r=>by unfold Rp at r ⊢;exact r
 | .str x,v,_,r=>by unfold Rp at r ⊢;exact r
 | .list ds,v,f,r=>by
  unfold zbm at f
  obtain⟨f1,f2⟩:=qAv.mp f
  obtain⟨a,xs,rfl,h1,h2⟩:=zct r
  refine zcy ?_ (rps_short ds f2 h2)
  unfold zik
  rw[h1]
  exact if_pos (by rw[<- h2.length];exact of_decide_eq_true f1)
 | .tuple ds,v,f,r=>by
  unfold zbm at f
  obtain⟨a,xs,rfl,h1,h2⟩:=zby r
  refine zfl ?_ (rps_short ds f h2)
  unfold zik
  rw[h1]
 | .dict ds,v,f,r=>by unfold zbm at f;cases f
theorem rps_short{H:Hp}:∀(ds:List PyData){vs:List V},shortDs ds=true->Rps H ds vs->Rps (zik H) ds vs
 | [],vs,_,r=>by unfold Rps at r ⊢;exact r
 | d::ds,vs,f,r=>by
  unfold shortDs at f
  obtain⟨f1,f2⟩:=qAv.mp f
  unfold Rps at r ⊢
  obtain⟨v,vs',e,h1,h2⟩:=r
  exact⟨v,vs',e,zpp d f1 h1,rps_short ds f2 h2⟩
end
noncomputable abbrev zgz(sep:Str)(xs:List Str):Str:=Builtin.Str.glued sep xs
noncomputable def zadx(sep:Str):V->List V->Hp->VK->Prop:=λx vs H Q=>∃a xs,x=.str sep/\vs=[.ref a]/\H a=some (.lst (xs.map .str))/\xs.foldl (λn z=>n+z.length+sep.length) 0<=100000/\(zgz sep xs).length<=100000/\Q (.str (zgz sep xs)) H
theorem zpq{X:Cx}{sep:Str}:MtR X "str.join" (zadx sep):=by
 intro pins s σ H x vs v us Q I rx rv h
 obtain⟨a,xs,rfl,rfl,hH,hn,hg,q⟩:=h
 obtain⟨t,rfl⟩:=rx
 obtain⟨u,rfl,ru⟩:=rv.one
 cases ru
 obtain⟨_,its,n,r,hl,e⟩:=I.lstM hH
 obtain⟨l,rfl,hx⟩:=zqv r
 have big:(100000:Nat)<=qQ:=by rw[qAL];omega
 have ht:Builtin.Str.tooLong ((l.map (·.1)).toArray.foldl (·+·.length+sep.length) 0)=false:=by
  unfold Builtin.Str.tooLong
  rw[hx,List.foldl_toArray']
  refine decide_eq_false ?_
  have:xs.foldl (λn z=>n+z.length+sep.length) 0<=100000:=hn
  omega
  simp
 refine qBI F.slot_str_join (qBx s _ _) F.entry_str_join (F.args_str_join_2 _ _) (meets_str_join_list sep t a l ht) ⟨⟨_,e,rfl,n,rfl⟩,?_⟩
 have fin:∀(tk tk':Nat),EP X pins σ Q (.str (zgz sep xs) tk) {s with toks:=tk'}:=λtk tk'=>⟨.str _,H,I.tok _,⟨_,rfl⟩,q⟩
 cases l with
 | nil=>cases hx;exact⟨qf hg big,fin _ _⟩
 | cons p l=>
  cases l with
  | nil=>
   cases hx
   have e1:zgz sep [p.1]=p.1:=by unfold zgz Builtin.Str.glued;rfl
   show EP X pins σ Q (.str p.1 p.2) s
   have:=fin p.2 s.toks
   rw[show[p].map (·.1)=[p.1]from rfl,e1]at this
   exact this
  | cons p2 l=>subst hx;exact⟨qf hg big,fin _ _⟩
noncomputable def zze(sep:Str):PyData->Option PyData
 | .list ds=>(zvr.unT ds).bind λxs=>if xs.foldl (λn z=>n+z.length+sep.length) 0<=100000/\(zgz sep xs).length<=100000 then some (.str (zgz sep xs))else none
 | _=>none
noncomputable def zko(sep:Str)(g:EF):EF:=λenv=>(g env).bind λx=>(zze sep x.d).map λd=>⟨d,false,[]⟩
theorem zpr{K:qC}{sep:Str}{te:TE}{g:EF}(h1:SE te g):SE (tBM K "str" (zadx sep) (tC (.str sep)) (tCons te tNil)) (zko sep g):=by
 intro fx H0 env σ H hh r e Q q
 unfold zko at e
 obtain⟨x,ex,e⟩:=qA.mp e
 obtain⟨d,ed,e⟩:=qE.mp e
 cases e
 refine⟨rfl,h1 fx H0 env σ H hh x ex _ λw H1 s1 hv=>?_⟩
 obtain⟨xd,xf,xb⟩:=x
 cases xd with
 | list ds=>
  have ed:((zvr.unT ds).bind λxs=>if xs.foldl (λn z=>n+z.length+sep.length) 0<=100000/\(zgz sep xs).length<=100000 then some (PyData.str (zgz sep xs))else none)=some d:=ed
  obtain⟨xs,eu,ed⟩:=qA.mp ed
  split at ed
  ·rename_i hl
   cases ed
   have:=zue eu
   subst this
   obtain⟨a,ys,rfl,ha,ry⟩:=zct hv.rp
   have:=zlz ry
   subst this
   exact⟨a,xs,rfl,rfl,(Offs.of ha).2,hl.1,hl.2,q _ H1 s1 ⟨zat,λz=>by cases z⟩⟩
  ·cases ed
 | _=>cases ed
noncomputable def zakw:V->List V->Hp->VK->Prop:=λx vs H Q=>∃a b,x=.str a/\vs=[.str b]/\Q (.int (Txt.find a b)) H
theorem zahb{X:Cx}:MtR X "str.find" zakw:=by
 intro pins s σ H x vs v us Q I rx rv h
 obtain⟨a,b,rfl,rfl,q⟩:=h
 obtain⟨t,rfl⟩:=rx
 obtain⟨u,rfl,ru⟩:=rv.one
 obtain⟨t',rfl⟩:=ru
 exact call_gives F.slot_str_find (qBx _ _ _) F.entry_str_find (F.args_str_find_2 _ _) (gives_str_find a b t t') ⟨.int _,H,I.tok _,⟨_,rfl⟩,q⟩
noncomputable def zzf(g k:EF):EF:=λenv=>(g env).bind λx=>(k env).bind λy=>match x.d,y.d with
 | .str a,.str b=>some ⟨.int (Txt.find a b),false,[]⟩
 | _,_=>none
theorem zahc{K:qC}{ta tb:TE}{g k:EF}(h1:SE ta g)(h2:SE tb k):SE (tBM K "str" zakw ta (tCons tb tNil)) (zzf g k):=by
 intro fx H0 env σ H hh r e Q q
 unfold zzf at e
 obtain⟨⟨xd,xf,xb⟩,ex,e⟩:=qA.mp e
 obtain⟨⟨yd,yf,yb⟩,ey,e⟩:=qA.mp e
 dsimp only at e
 split at e
 ·cases e
  refine h1 fx H0 env σ H hh _ ex _ λw H1 s1 v1=>?_
  cases zes v1.rp
  refine⟨rfl,?_⟩
  refine h2 fx H0 env σ H1 (hh.up s1) _ ey _ λw2 H2 s2 v2=>?_
  cases zes v2.rp
  exact⟨_,_,rfl,rfl,q _ H2 (s1.trans s2) ⟨zaa,λz=>by cases z⟩⟩
 ·cases e
noncomputable def zvz:GF
 | [.bool b]=>some (.int (if b then 1 else 0),false)
 | _=>none
theorem zzg:SC (λxs H Q=>(∃i,xs=[.int i]/\Q (.int i) H)\/∃k,xs=[.bl k]/\Q (.int (if k then 1 else 0)) H) zvz:=by
 intro A H vs ds hA rv d fr e Q q
 unfold zvz at e
 split at e
 ·cases e
  obtain⟨v,rfl,r1⟩:=rps1 rv
  cases zhl r1
  exact .inr ⟨_,rfl,q _ H (Same.refl _) zaa (λz=>by cases z)⟩
 ·cases e
noncomputable def zaoj:GF
 | [.str x]=>some (.str x,false)
 | ds=>strD ds
noncomputable def zkp(x:Str):List Str:=x.cps.toList.map λc=>⟨#[c]⟩
theorem zkb{X:Cx}{K:qC}(hK:X.K=K)(hc:X.calm=true):CallR X (.type "list") (λxs H Q=>(∃p ys,xs=[.ref p]/\(SqL K H p ys\/SqT K H p ys)/\∀l,H l=none->Q (.ref l) (upd H l (.lst ys)))\/
  ∃x,xs=[.str x]/\x.length<=100000/\∀l,H l=none->Q (.ref l) (upd H l (.lst ((zkp x).map V.str)))):=by
 intro pins s σ H xs us Q I r h
 subst hK
 rcases h with h|⟨x,rfl,hl,q⟩
 ·exact zkl pins s σ H xs us Q I r h
 ·obtain⟨u,rfl,t,rfl⟩:=znf r
  have big:(100000:Nat)<=qQ:=by rw[qAL];omega
  refine call_list_str (I.ok.hd hc) x t (λh' tk acc' c' kp e hacc=>?_) (hn:=qf hl big)
  have rv:Vals ((zkp x).map V.str) acc'.toList:=by
   have go:∀(as:List Nat)(bs:List Value),bs.length=as.length->(∀(j:Nat)(v:Value),bs[j]?=some v->∃(c:Nat)(u:Tok),as[j]?=some c/\v=Value.str ⟨#[c]⟩ u)->Vals (as.map λc=>V.str ⟨#[c]⟩) bs:=by
    intro as
    induction as with
    | nil=>intro bs hb _;cases bs with
     | nil=>exact .nil
     | cons _ _=>cases hb
    | cons a as ih=>intro bs hb hv;cases bs with
     | nil=>cases hb
     | cons b bs=>
      obtain⟨c,u,h1,h2⟩:=hv 0 b rfl
      cases h1
      exact .cons ⟨u,h2⟩ (ih bs (by simpa using hb) λj v e=>hv (j+1) v (by simpa using e))
   have:=go x.cps.toList acc'.toList (by simpa using hacc.1) (λj v e=>by
    obtain⟨c,u,h1,h2⟩:=hacc.2 j v (by simpa using e)
    exact⟨c,u,by simpa using h1,h2⟩)
   unfold zkp
   rw[qAR]
   exact this
  refine⟨.ref s.heap.objs.size,_,I.laid (t':=tk) kp (qJ _) (show zdh X.prog X.w _ h' _ (.lst ((zkp x).map V.str))from⟨?_,acc'.toList,c',rv,by simpa using e⟩),rfl,q _ (I.hok.fresh (qJ _))⟩
  unfold zkp
  rw[qD,qD,qAj]
  exact qf hl big
noncomputable def zrc:GF
 | [.str x]=>if x.length<=100000 then some (.list ((zkp x).map .str),true)else none
 | ds=>zxv ds
theorem zps{H:Hp}:∀(cs:List Str),Rps H (cs.map .str) (cs.map .str)
 | []=>zbf
 | c::cs=>zbc zat (zps cs)
theorem zpt{K:qC}:SC (λxs H Q=>(∃p ys,xs=[.ref p]/\(SqL K H p ys\/SqT K H p ys)/\∀l,H l=none->Q (.ref l) (upd H l (.lst ys)))\/
  ∃x,xs=[.str x]/\x.length<=100000/\∀l,H l=none->Q (.ref l) (upd H l (.lst ((zkp x).map V.str)))) zrc:=by
 intro A H vs ds hA rv d fr e Q q
 unfold zrc at e
 split at e
 ·split at e
  ·rename_i hl
   cases e
   obtain⟨v,rfl,r1⟩:=rps1 rv
   cases zes r1
   exact .inr ⟨_,rfl,hl,λl hl=>q _ _ (Same.new hl) (zlp hl (zej hA hl) (zps _)) λ_=>⟨l,rfl,hl,ziq hl (zps _)⟩⟩
  ·cases e
 ·exact .inl (zxw A H vs _ hA rv d fr e Q q)
theorem zex{X:Cx}{K:qC}{m:Nat}(hK:X.K=K)(hr:Room m X.A):CallR X (.builtin "repr") (λxs H Q=>∃a d,xs=[.ref a]/\Rep K H d (.ref a)/\d.showable=true/\d.hasDict=false/\d.depth<=40/\d.shown.length<=1000000/\Q (.str d.shown) H):=by
 intro pins s σ H xs us Q I r h
 subst hK
 obtain⟨a,d,rfl,rp,hs,hd,hdp,hl,q⟩:=h
 obtain⟨u,rfl,ru⟩:=znf r
 cases ru
 obtain⟨as,rd⟩:=zgm I d rp rfl
 have hu:=hr.units
 exact repr_of_reads' rd hs (PyData.noDict_hsm hd) hr.gd (by omega) (λ_ _ e=>e) (λh' u tk hk=>⟨.str _,H,I.kept hk,⟨_,rfl⟩,q⟩) (qf hl (by rw[qAL];omega))
noncomputable def zfc:GF
 | [d]=>if zef d=false/\d.canLay0=true/\d.showable=true/\d.depth<=40/\d.shown.length<=1000000 then some (.str d.shown,false)else none
 | _=>none
theorem zhr{K:qC}:SC (λxs H Q=>∃a d,xs=[.ref a]/\Rep K H d (.ref a)/\d.showable=true/\d.hasDict=false/\d.depth<=40/\d.shown.length<=1000000/\Q (.str d.shown) H) zfc:=by
 intro A H vs ds hA rv d fr e Q q
 unfold zfc at e
 split at e
 ·rename_i d0
  split at e
  ·rename_i hl
   cases e
   obtain⟨v,rfl,r1⟩:=rps1 rv
   obtain⟨h1,h2,h3,h4,h5⟩:=hl
   have rp:=Rp.same (Offs.same A H) _ r1
   have ha:∃a,v=.ref a:=by
    cases d0 with
    | list ds=>obtain⟨a,xs,e,_⟩:=zct rp;exact⟨a,e⟩
    | tuple ds=>obtain⟨a,xs,e,_⟩:=zby rp;exact⟨a,e⟩
    | dict ds=>obtain⟨a,xs,e,_⟩:=zpa rp;exact⟨a,e⟩
    | _=>cases h1
   obtain⟨a,rfl⟩:=ha
   exact⟨a,d0,rfl,znr h2 rp,h3,PyData.hasDict_of_canLay _ h2,h4,h5,q _ H (Same.refl _) zat (λz=>by cases z)⟩
  ·cases e
 ·cases e
structure Pen3 where
 ns:List Int
 at_:Int
 acc:Int
noncomputable def zady(K:qC)(H:Hp)(v:V)(R:Addr->Prop)(st:Pen3):Prop:=∃p q,v=.ref p/\H p=some (.lst [.ref q,.int st.at_,.int st.acc])/\SqL K H q (st.ns.map .int)/\(R q\/∀H',SqL K H' q (st.ns.map .int))/\R p/\∀b,R b->(b=p\/b=q)/\∃o,H b=some o
theorem zacf{K:qC}{H H':Hp}{R:Addr->Prop}{q:Addr}{xs:List V}(h:SqL K H q xs)(r:R q\/∀H',SqL K H' q xs)(k:∀b o,R b->H b=some o->H' b=some o):SqL K H' q xs:=by
 rcases r with r|r
 ·rcases h with(h|⟨o,h⟩)|h
  ·exact .inl (.inl (k q _ r h))
  ·exact .inl (.inr ⟨o,k q _ r h⟩)
  ·exact .inr h
 ·exact r H'
noncomputable def zey(K:qC):Kind Pen3 where
 at_:=zady K
 live:=λ{H v R st} ⟨p,q,_,_,_,_,_,h⟩ b hb=>(h b hb).2
 stay:=λ{H H' v R st} ⟨p,q,e,hp,hq,r,rp,h⟩ k=>⟨p,q,e,k p _ rp hp,zacf hq r k,r,rp,λb hb=>⟨(h b hb).1,let⟨o,eo⟩:=(h b hb).2;⟨o,k b o hb eo⟩⟩⟩
noncomputable def Pen3.get(st:Pen3):Nat->Option Int
 | 1=>some st.at_
 | 2=>some st.acc
 | _=>none
noncomputable def Pen3.set(st:Pen3):Nat->Int->Option Pen3
 | 1,x=>some {st with at_:=x}
 | 2,x=>some {st with acc:=x}
 | _,_=>none
section
variable{K:qC}{f:Nat}
noncomputable def zwa(i:Nat):EFr Pen3:=λ_ st=>(st.get i).map λx=>(⟨.int x,false,[]⟩,st)
theorem zle{i:Nat}:SEr (zey K) f (tOp (rIxU K) (tVar f) (tC (.int (i:Int)))) (zwa i):=by
 intro fx H0 env σ H v R st hh r st' e Q q
 obtain⟨x,ex,e⟩:=qE.mp e
 cases e
 obtain⟨p,q',rfl,hp,hq,_⟩:=id hh.th
 refine⟨.ref p,hh.sl,[.ref q',.int st.at_,.int st.acc],.int x,.inl (SqL.of hp),?_,q _ H (MvR.same (Same.refl _)) hh ⟨zaa,λz=>by cases z⟩⟩
 unfold Pen3.get at ex
 split at ex<;>cases ex<;>rfl
noncomputable def zrd(i:Nat)(g:EFr Pen3):SFr Pen3:=λenv st=>(g env st).bind λx=>match x.1.d with
 | .int y=>(x.2.set i y).map λs=>.nx env s
 | _=>none
theorem Pen3.set_ns{s s':Pen3}{i:Nat}{y:Int}(h:s.set i y=some s'):s'.ns=s.ns:=by
 unfold Pen3.set at h
 split at h<;>cases h<;>rfl
theorem zpu{i:Nat}{te:TE}{g:EFr Pen3}(h1:SEr (zey K) f te g):SSr (zey K) f (tAsg te (gSub (tVar f) (tC (.int (i:Int))) zaas)) (zrd i g):=by
 intro fx H0 env σ H v R st D hh o e q
 unfold zrd at e
 obtain⟨⟨⟨d,fr,bs⟩,s1⟩,er,e⟩:=qA.mp e
 cases d with
 | int y=>
  obtain⟨s2,es,rfl⟩:=qE.mp e
  refine h1 fx H0 env σ H v R st hh _ s1 er _ λw H1 m1 k1 hv=>?_
  cases zcb hv.rp
  obtain⟨p,q',rfl,hp,hq,r,rp,hR⟩:=id k1.th
  have es:s1.set i y=some s2:=es
  have ens:=Pen3.set_ns es
  have fin:∀j,ixN 3 (i:Int)=some j->zady K (upd H1 p (.lst ([.ref q',.int s1.at_,.int s1.acc].set j (.int y)))) (.ref p) R s2:=λj hj=>by
   refine⟨p,q',rfl,?_,?_,by rw[ens];exact r,rp,λb hb=>⟨(hR b hb).1,?_⟩⟩
   ·rw[zan]
    unfold Pen3.set at es
    split at es
    ·cases es;cases hj;rfl
    ·cases es;cases hj;rfl
    ·cases es
   ·rw[ens]
    rcases hq with(hq|⟨o,hq⟩)|hq
    ·have nz:q'≠p:=λz=>by
      rw[z,hp]at hq
      cases hns:s1.ns with
      | nil=>rw[hns]at hq;cases hq
      | cons c cs=>rw[hns]at hq;cases hq
     exact .inl (.inl (by rw[zar nz];exact hq))
    ·have nz:q'≠p:=λz=>by
      rw[z,hp]at hq
      cases hq
     exact .inl (.inr ⟨o,by rw[zar nz];exact hq⟩)
    ·exact .inr hq
   ·by_cases z:b=p
    ·rw[z];exact⟨_,zan⟩
    ·rw[zar z];exact(hR b hb).2
  obtain⟨j,hj⟩:∃j,ixN 3 (i:Int)=some j:=by
   unfold Pen3.set at es
   split at es
   ·exact⟨1,rfl⟩
   ·exact⟨2,rfl⟩
   ·cases es
  refine⟨_,k1.sl,p,_,_,j,rfl,rfl,hp,hj,q _ _ (k1.mv ⟨λc u n e=>by rw[zar λz=>n (by rw[z];exact rp)];exact e,λc u e=>?_⟩ (fin j hj))⟩
  by_cases z:c=p
  ·rw[z];exact⟨_,zan⟩
  ·exact⟨u,by rw[zar z];exact e⟩
 | _=>cases e
noncomputable def zre:EFr Pen3:=λ_ st=>some (⟨.int st.ns.length,false,[]⟩,st)
theorem zum:SEr (zey K) f (tCB (λxs H Q=>∃x n,xs=[x]/\LenV K x H n/\Q (.int n) H) (tCons (tOp (rIxU K) (tVar f) (tC (.int 0))) tNil)) zre:=by
 intro fx H0 env σ H v R st hh r st' e Q q
 cases e
 obtain⟨p,q',rfl,hp,hq,_⟩:=id hh.th
 refine⟨.ref p,hh.sl,[.ref q',.int st.at_,.int st.acc],.ref q',.inl (SqL.of hp),rfl,.ref q',st.ns.length,rfl,?_,q _ H (MvR.same (Same.refl _)) hh ⟨zaa,λz=>by cases z⟩⟩
 exact .inl ⟨st.ns.map .int,hq,by rw[qD]⟩
noncomputable def rIx3(g:EF):EFr Pen3:=λenv st=>(g env).bind λx=>match x.d with
 | .int i=>if st.ns=[]then none else(atI st.ns (i % st.ns.length)).map λy=>(⟨.int y,false,[]⟩,st)
 | _=>none
theorem ztg{α β:Type}{g:α->β}{xs:List α}{i:Int}:atI (xs.map g) i=(atI xs i).map g:=by
 unfold atI
 rw[qD]
 cases ixN xs.length i with
 | none=>rfl
 | some j=>exact qa ..
theorem zahd{te:TE}{g:EF}(h1:SE te g):SEr (zey K) f (tOp (rIxU K) (tOp (rIxU K) (tVar f) (tC (.int 0))) (tOp (rI (λ_ j=>0<j) λi j=>.int (i % j)) te (tCB (λxs H Q=>∃x n,xs=[x]/\LenV K x H n/\Q (.int n) H) (tCons (tOp (rIxU K) (tVar f) (tC (.int 0))) tNil)))) (rIx3 g):=by
 intro fx H0 env σ H v R st hh r st' e Q q
 unfold rIx3 at e
 obtain⟨⟨d,fr,bs⟩,er,e⟩:=qA.mp e
 cases d with
 | int i=>
  have e:(if st.ns=[]then none else(atI st.ns (i % st.ns.length)).map λy=>((⟨.int y,false,[]⟩:Val),st))=some (r,st'):=e
  split at e
  ·cases e
  ·rename_i hne
   obtain⟨y,ey,e⟩:=qE.mp e
   cases e
   obtain⟨p,q',rfl,hp,hq,r,rp,hR⟩:=id hh.th
   refine⟨.ref p,hh.sl,[.ref q',.int st.at_,.int st.acc],.ref q',.inl (SqL.of hp),rfl,?_⟩
   refine h1 fx H0 env σ H hh.ok _ er _ λw H1 s1 hv=>?_
   cases zcb hv.rp
   have hq1:=s1.seq hq
   have hp1:=s1 _ _ hp
   refine⟨.ref p,hh.sl,[.ref q',.int st.at_,.int st.acc],.ref q',.inl (SqL.of hp1),rfl,.ref q',st.ns.length,rfl,(.inl ⟨st.ns.map .int,hq1,by rw[qD]⟩),i,st.ns.length,rfl,rfl,?_,?_⟩
   ·have:=qAy.mpr hne
    omega
   ·exact⟨_,_,.inl hq1,by rw[ztg,ey];rfl,q _ H1 (MvR.same s1) (hh.up s1) ⟨zaa,λz=>by cases z⟩⟩
 | _=>cases e
end
noncomputable def zoa(K:qC):Sp:=λvs H Q _=>∃(a:Addr)(ns:List Int),vs=[.ref a]/\SqL K H a (ns.map .int)/\∀p,H p=none->Q (.ref p) (upd H p (.lst [.ref a,.int 0,.int 0]))
theorem zwb{K:qC}{vs:List V}{H:Hp}{Q:VK}{E:XK}(h:zoa K vs H Q E):vs.length=1:=by
 obtain⟨a,ns,rfl,_⟩:=h
 rfl
theorem zahe{K:qC}{vs:List V}{H:Hp}{Q:VK}{E:XK}(h:zoa K vs H Q E):tRet (tLst (tCons (tVar 0) (tCons (tC (.int 0)) (tCons (tC (.int 0)) tNil)))) {nx:=λ_ H'=>Q .non H',rt:=Q} (zdi ["_law_script"] vs) H:=by
 obtain⟨a,ns,rfl,hS,q⟩:=h
 exact⟨.ref a,rfl,by show 3<=_;exact zdf (by decide),λp hp=>q p hp⟩
mutual
def rgD:PyData->Bool
 | .list _=>false
 | .dict _=>false
 | .tuple ds=>rgDs ds
 | _=>true
def rgDs:List PyData->Bool
 | []=>true
 | d::ds=>rgD d&&rgDs ds
end
mutual
theorem zadz{A:Addr->Prop}{H:Hp}(hA:∀b,A b->∃xs,H b=some (.lst xs)):∀(d:PyData){v:V},rgD d=true->Rp H d v->Rp (Offs A H) d v
 | .none,v,_,r=>by unfold Rp at r ⊢;exact r
 | .bool b,v,_,r=>by unfold Rp at r ⊢;exact r
 | .int i,v,_,r=>by unfold Rp at r ⊢;exact r
 | .str x,v,_,r=>by unfold Rp at r ⊢;exact r
 | .list ds,v,f,r=>by unfold rgD at f;cases f
 | .dict ds,v,f,r=>by unfold rgD at f;cases f
 | .tuple ds,v,f,r=>by
  unfold rgD at f
  obtain⟨a,xs,rfl,h1,h2⟩:=zby r
  refine zfl ?_ (rgs_off hA ds f h2)
  rw[Offs.get λz=>?_]
  ·exact h1
  ·obtain⟨ys,e⟩:=hA a z;rw[h1]at e;cases e
theorem rgs_off{A:Addr->Prop}{H:Hp}(hA:∀b,A b->∃xs,H b=some (.lst xs)):∀(ds:List PyData){vs:List V},rgDs ds=true->Rps H ds vs->Rps (Offs A H) ds vs
 | [],vs,_,r=>by unfold Rps at r ⊢;exact r
 | d::ds,vs,f,r=>by
  unfold rgDs at f
  obtain⟨f1,f2⟩:=qAv.mp f
  unfold Rps at r ⊢
  obtain⟨v,vs',e,h1,h2⟩:=r
  exact⟨v,vs',e,zadz hA d f1 h1,rgs_off hA ds f2 h2⟩
end
mutual
def rgN:NT->Bool
 | .lf d=>rgD d
 | .ls ts=>rgNs ts
 | .tp ts=>rgNs ts
def rgNs:List NT->Bool
 | []=>true
 | t::ts=>rgN t&&rgNs ts
end
mutual
theorem NewT.rg{L:PyData->V->Prop}{H:Hp}:∀(t:NT){v:V}{as:List Addr},rgN t=true->NewT L H t v as->NewT (λd v=>L d v/\rgD d=true) H t v as
 | .lf d,v,as,f,h=>by
  unfold rgN at f
  unfold NewT at h ⊢
  exact⟨h.1,h.2,f⟩
 | .ls ts,v,as,f,h=>by
  unfold rgN at f
  unfold NewT at h ⊢
  obtain⟨a,vs,as1,h1,h2,h3,h4⟩:=h
  exact⟨a,vs,as1,h1,h2,h3,NewTs.rg ts f h4⟩
 | .tp ts,v,as,f,h=>by
  unfold rgN at f
  unfold NewT at h ⊢
  obtain⟨a,vs,as1,h1,h2,h3,h4⟩:=h
  exact⟨a,vs,as1,h1,h2,h3,NewTs.rg ts f h4⟩
theorem NewTs.rg{L:PyData->V->Prop}{H:Hp}:∀(ts:List NT){vs:List V}{as:List Addr},rgNs ts=true->NewTs L H ts vs as->NewTs (λd v=>L d v/\rgD d=true) H ts vs as
 | [],vs,as,f,h=>by unfold NewTs at h ⊢;exact h
 | t::ts,vs,as,f,h=>by
  unfold rgNs at f
  obtain⟨f1,f2⟩:=qAv.mp f
  unfold NewTs at h ⊢
  obtain⟨v,vs',a1,a2,h1,h2,h3,h4⟩:=h
  exact⟨v,vs',a1,a2,h1,h2,NewT.rg t f1 h3,NewTs.rg ts f2 h4⟩
end
theorem zacg{X H:Hp}{A:Addr->Prop}{t:NT}{v:V}{as:List Addr}(h:NewT (Rp X) H t v as)(f:rgN t=true)(s:Same X H)(hA:∀b,A b->∃xs,H b=some (.lst xs))(ha:∀a∈as,¬A a):Rp (Offs A H) (ntD t) v:=
 NewT.rpD (λd v z=>zadz hA d z.2 (Rp.same s _ z.1)) t (NewT.rg t f h) λa m o e=>by rw[Offs.get (ha a m)];exact e
noncomputable def Old(G:Hp)(b:Addr):Prop:=∃xs,G b=some (.lst xs)
noncomputable def zzh(x:PyData×Str):PyData:=.tuple [x.1,.str x.2]
structure At60(G:Hp)(ah:Addr)(prog:PyData)(kept:Str)(vp:V)(hs:List (PyData×Str))(σ:St)(H:Hp):Prop where
 len:σ.length=12
 s4:σ[4]?=some (some vp)
 s5:σ[5]?=some (some (.str kept))
 s6:σ[6]?=some (some (.ref ah))
 held:∃ws,H ah=some (.lst ws)/\Rps (Offs (Old G) H) (hs.map zzh) ws
 keep:∀b o,b≠ah->G b=some o->H b=some o
theorem At60.prog{G:Hp}{ah:Addr}{prog:PyData}{kept:Str}{vp:V}{hs:List (PyData×Str)}{σ:St}{H:Hp}(h:At60 G ah prog kept vp hs σ H)(r:Rp (Offs (λb=>b=ah) G) prog vp):Rp H prog vp:=
 Rp.same (H:=Offs (λb=>b=ah) G) (λb o e=>by obtain⟨e1,e2⟩:=Offs.of e;exact h.keep b o e1 e2) _ r
theorem At60.old{G:Hp}{ah:Addr}{prog:PyData}{kept:Str}{vp:V}{hs:List (PyData×Str)}{σ:St}{H:Hp}(h:At60 G ah prog kept vp hs σ H){b:Addr}(z:Old G b):∃xs,H b=some (.lst xs):=by
 by_cases e:b=ah
 ·obtain⟨ws,h1,_⟩:=h.held;rw[e];exact⟨ws,h1⟩
 ·obtain⟨xs,hx⟩:=z;exact⟨xs,h.keep b _ e hx⟩
noncomputable abbrev zzi(prog:PyData)(kept nm due:Str)(f9 f10:Sl):DEnv:=[.no,.no,.no,.no,.pl prog,.pl (.str kept),.no,.pl (.str nm),.pl (.str due),f9,f10,.no]
theorem zzj{H:Hp}{σ:St}{env:DEnv}(hl:env.length=σ.length)(hp:∀(i:Nat) (s:Sl),env[i]?=some s->match s with|.no=>True|.pl d=>∃v,σ[i]?=some (some v)/\Rp H d v|.ac _=>False):EnvOk (λ_=>False) H env σ H:=
 ztb hl (λi d e=>hp i _ e) λi d e=>hp i _ e
theorem zun{H:Hp}{σ:St}{prog:PyData}{kept nm due:Str}{vp:V}{f9 f10:Sl}(hl:σ.length=12)(s4:σ[4]?=some (some vp))(s5:σ[5]?=some (some (.str kept)))(s7:σ[7]?=some (some (.str nm)))(s8:σ[8]?=some (some (.str due)))(r4:Rp H prog vp)
  (h9:match f9 with|.no=>True|.pl d=>∃v,σ[9]?=some (some v)/\Rp H d v|.ac _=>False) (h10:match f10 with|.no=>True|.pl d=>∃v,σ[10]?=some (some v)/\Rp H d v|.ac _=>False):EnvOk (λ_=>False) H (zzi prog kept nm due f9 f10) σ H:=
 zzj (by rw[hl];rfl) λi s e=>by
  match i,e with
  | 0,e=>cases e;trivial
  | 1,e=>cases e;trivial
  | 2,e=>cases e;trivial
  | 3,e=>cases e;trivial
  | 4,e=>cases e;exact⟨_,s4,r4⟩
  | 5,e=>cases e;exact⟨_,s5,zat⟩
  | 6,e=>cases e;trivial
  | 7,e=>cases e;exact⟨_,s7,zat⟩
  | 8,e=>cases e;exact⟨_,s8,zat⟩
  | 9,e=>cases e;exact h9
  | 10,e=>cases e;exact h10
  | 11,e=>cases e;trivial
  | n+12,e=>cases e
theorem zjk{X:Hp}:Offs (λ_=>False) X=X:=funext λb=>Offs.get (λz=>z)
noncomputable abbrev zzk(K:qC)(spDue spTo:Sp)(t1 t2:TT):TS:=
 tSeq (tAsg (tCall spDue [] E0 (tCons (tVar 4) (tCons (tVar 7) tNil))) (gName 8))
 (tSeq (tAsg (tCall spTo [] E0 (tCons (tVar 4) (tCons (tVar 7) tNil))) (gName 9))
 (tSeq (tAsg (tCall spTo [] E0 (tCons (tVar 4) (tCons (tVar 7) tNil))) (gName 10))
 (tSeq (tIfS t1 (tRet (tC (.bl false))) tNext)
 (tSeq (tFor (iSeq K (tCall spLs [] E0 (tCons (tVar 9) tNil))) (gName 11) (tDrop (tBM K "list" zfa (tVar 11) (tCons (tC .non) tNil))))
 (tSeq (tIfS t2 (tRet (tC (.bl false))) tNext)
 (tDrop (tBM K "list" zfa (tVar 6) (tCons (tTup (tCons (tVar 10) (tCons (tVar 8) tNil))) tNil))))))))
theorem zakx{K:qC}{gd:GF}{gt:GFT}{t1 t2:TT}{f1 f2:TF}(h1:ST t1 f1)(h2:ST t2 f2){G:Hp}{ah:Addr}{prog:PyData}{kept nm due:Str}{vp:V}{hs:List (PyData×Str)}{σ:St}{H:Hp}{t:NT}{fr:Bool}{D:Ends}
  (hG:Old G ah)(rp:Rp (Offs (λb=>b=ah) G) prog vp)(hat:At60 G ah prog kept vp hs σ H)(h7:σ[7]?=some (some (.str nm)))
  (ed:gd [prog,.str nm]=some (.str due,fr))(et:gt [prog,.str nm]=some t)(rg:rgN t=true)(sh:zbm (ntD t)=true)(sz:szD (ntD t)<50000)
  (e1:f1 (zzi prog kept nm due (.pl (ntD t)) (.pl (ntD t)))=some false) (e2:f2 (zzi prog kept nm due .no .no)=some false) (hl:hs.length<60000)
  (q:∀σ' H',At60 G ah prog kept vp (hs++[(ntD t,due)]) σ' H'->D.nx σ' H'):zzk K (spD 2 gd) (spT 2 gt) t1 t2 D σ H:=by
 have hlen:=hat.len
 have sg:∀{σ:St}{i j:Nat}{x:Option V}{y:Option (Option V)},σ[i]?=y->i≠j->(σ.set j x)[i]?=y:=λ{σ i j x y} e n=>by rw[qH λz=>n z.symm];exact e
 have ss:∀{σ:St}{j:Nat}{x:Option V},j<σ.length->(σ.set j x)[j]?=some x:=λ{σ j x} hj=>qe hj
 refine⟨vp,hat.s4,.str nm,h7,λ_=>False,[prog,.str nm],.str due,fr,rfl,(λb z=>z.elim),by rw[zjk];exact zbc (hat.prog rp) (zbc zat zbf),ed,λv H1 s1 rt=>?_⟩
 have ev:=zes rt.1
 subst ev
 refine⟨vp,sg hat.s4 (by decide),.str nm,sg h7 (by decide),λ_=>False,[prog,.str nm],t,rfl,(λb z=>z.elim),by rw[zjk];exact zbc (Rp.same s1 _ (hat.prog rp)) (zbc zat zbf),et,λv1 H2 as1 s2 n1 nd1 hn1=>?_⟩
 refine⟨vp,sg (sg hat.s4 (by decide)) (by decide),.str nm,sg (sg h7 (by decide)) (by decide),λ_=>False,[prog,.str nm],t,rfl,(λb z=>z.elim),by rw[zjk];exact zbc (Rp.same (s1.trans s2) _ (hat.prog rp)) (zbc zat zbf),et,λv2 H3 as2 s3 n2 nd2 hn2=>?_⟩
 show(tSeq (tIfS t1 (tRet (tC (.bl false))) tNext) _) D (((σ.set 8 (some (.str due))).set 9 (some v1)).set 10 (some v2)) H3
 generalize hσ:(((σ.set 8 (some (.str due))).set 9 (some v1)).set 10 (some v2))=σ3
 have l3:σ3.length=12:=by rw[<- hσ,qR,qR,qR];exact hlen
 have g4:σ3[4]?=some (some vp):=by rw[<- hσ];exact sg (sg (sg hat.s4 (by decide)) (by decide)) (by decide)
 have g5:σ3[5]?=some (some (.str kept)):=by rw[<- hσ];exact sg (sg (sg hat.s5 (by decide)) (by decide)) (by decide)
 have g6:σ3[6]?=some (some (.ref ah)):=by rw[<- hσ];exact sg (sg (sg hat.s6 (by decide)) (by decide)) (by decide)
 have g7:σ3[7]?=some (some (.str nm)):=by rw[<- hσ];exact sg (sg (sg h7 (by decide)) (by decide)) (by decide)
 have g8:σ3[8]?=some (some (.str due)):=by rw[<- hσ];exact sg (sg (ss (by rw[hlen];decide)) (by decide)) (by decide)
 have g9:σ3[9]?=some (some v1):=by rw[<- hσ];exact sg (ss (by rw[qR,hlen];decide)) (by decide)
 have g10:σ3[10]?=some (some v2):=by rw[<- hσ];exact ss (by rw[qR,qR,hlen];decide)
 clear hσ
 have s03:Same H H3:=(s1.trans s2).trans s3
 have r1:Rp H3 (ntD t) v1:=by
  have:=zacg (A:=λ_=>False) n1 rg (Offs.same _ _) (λb z=>z.elim) (λa _ z=>z)
  rw[zjk]at this
  exact Rp.same s3 _ this
 have r2:Rp H3 (ntD t) v2:=by
  have:=zacg (A:=λ_=>False) n2 rg (Offs.same _ _) (λb z=>z.elim) (λa _ z=>z)
  rw[zjk]at this
  exact this
 refine h1 _ H3 _ σ3 H3 (zun (f9:=.pl (ntD t)) (f10:=.pl (ntD t)) l3 g4 g5 g7 g8 (Rp.same s03 _ (hat.prog rp)) ⟨v1,g9,r1⟩ ⟨v2,g10,r2⟩) false e1 _ λH4 s4=>iteF ?_
 have q1:Rp (Offs (λb=>b∉as1/\∃xs,H2 b=some (.lst xs)) H2) (ntD t) v1:=zacg n1 rg (Offs.same _ _) (λb z=>z.2) λa ha z=>z.1 ha
 refine zakv zzc g9 (by rw[l3];decide) (zpp _ sh q1) (((zfs _).trans (Offs.same _ _)).trans (s3.trans s4)) sz (λa xs e=>znz e) λσ5 H5 l5 k5 m5 _=>?_
 have in1:∀b xs,zik (Offs (λb=>b∉as1/\∃xs,H2 b=some (.lst xs)) H2) b=some (.lst xs)->b∈as1/\H2 b=some (.lst xs):=λb xs e=>by
  obtain⟨z1,z2⟩:=Offs.of (zfs _ _ _ e)
  exact⟨Classical.byContradiction λn=>z1 ⟨n,_,z2⟩,z2⟩
 have f1':∀b o,H b=some o->b∉as1:=λb o e z=>by
  have:=hn1 b z
  rw[s1 b o e]at this;cases this
 have k45:∀b o,H4 b=some o->(b∉as1\/∀xs,o≠.lst xs)->H5 b=some o:=λb o e z=>by
  rcases m5 b o e with⟨xs,y⟩|y
  ·obtain⟨y1,y2⟩:=in1 b xs y
   rw[s4 _ _ (s3 _ _ y2)]at e
   cases e
   exact z.elim (λz=>absurd y1 z) λz=>absurd rfl (z xs)
  ·exact y
 have k05:∀b o,H b=some o->H5 b=some o:=λb o e=>k45 b o (s4 _ _ (s03 _ _ e)) (.inl (f1' b o e))
 have p5:Rp H5 prog vp:=Rp.same (H:=Offs (λb=>b=ah) G) (λb o e=>by obtain⟨e1,e2⟩:=Offs.of e;exact k05 b o (hat.keep b o e1 e2)) _ rp
 have kk:∀{k:Nat}{y:Option (Option V)},σ3[k]?=y->k≠11->σ5[k]?=y:=λ{k y} e n=>(k5 k n).trans e
 refine h2 _ H5 _ σ5 H5 (zun (f9:=.no) (f10:=.no) (l5.trans l3) (kk g4 (by decide)) (kk g5 (by decide)) (kk g7 (by decide)) (kk g8 (by decide)) p5 trivial trivial) false e2 _ λH6 s6=>iteF ?_
 obtain⟨ws,hw,rw'⟩:=hat.held
 have lw:ws.length<60000:=by rw[<- rw'.length,qD];exact hl
 have hw6:H6 ah=some (.lst ws):=s6 _ _ (k05 _ _ hw)
 have k06:∀b o,H b=some o->H6 b=some o:=λb o e=>s6 _ _ (k05 b o e)
 refine⟨_,kk g6 (by decide),.inl ⟨rfl,_,SqL.of hw6⟩,v2,kk g10 (by decide),.str due,kk g8 (by decide),zdf (by show 2<=100000;decide),λp hp=>⟨ah,ws,.ref p,rfl,rfl,Same.new hp _ _ hw6,zgd (by omega),?_⟩⟩
 have pa:p≠ah:=λz=>by rw[z,hw6]at hp;cases hp
 have kF:∀b o,b≠ah->H6 b=some o->upd (upd H6 p (.tup [v2,.str due])) ah (.lst (ws++[.ref p])) b=some o:=λb o n e=>by
  rw[zar n];exact Same.new hp _ _ e
 have np:¬Old G p:=λz=>by
  obtain⟨xs,e⟩:=hat.old z
  rw[k06 _ _ e]at hp;cases hp
 refine q _ _ ⟨l5.trans l3,kk g4 (by decide),kk g5 (by decide),kk g6 (by decide),⟨ws++[.ref p],zan,?_⟩,λb o n e=>kF b o n (k06 b o (hat.keep b o n e))⟩
 rw[qAD]
 refine(Rps.same (λb o e=>?_) _ rw').append (zbc (zfl (a:=p) (xs:=[v2,.str due]) ?_ (zbc ?_ (zbc zat zbf))) zbf)
 ·obtain⟨z1,z2⟩:=Offs.of e
  rw[Offs.get z1]
  exact kF b o (λz=>z1 (by rw[z];exact hG)) (k06 b o z2)
 ·rw[Offs.get np,zar pa];exact zan
 ·have q2:Rp (Offs (λb=>(Old G b\/b∈as1)/\∃xs,H3 b=some (.lst xs)) H3) (ntD t) v2:=zacg n2 rg (Offs.same _ _) (λb z=>z.2) λa ha z=>by
   have na:=hn2 a ha
   rcases z.1 with z|z
   ·obtain⟨xs,e⟩:=hat.old z
    rw[s2 _ _ (s1 _ _ e)]at na;cases na
   ·obtain⟨o,e⟩:=NewT.live t n1 a z
    rw[e]at na;cases na
  refine Rp.same (λb o e=>?_) _ q2
  obtain⟨z1,z2⟩:=Offs.of e
  have nO:¬Old G b:=λz=>by
   obtain⟨xs,e'⟩:=hat.old z
   exact z1 ⟨.inl z,xs,s03 _ _ e'⟩
  rw[Offs.get nO]
  refine kF b o (λz=>nO (by rw[z];exact hG)) (s6 _ _ (k45 b o (s4 _ _ z2) ?_))
  by_cases hb:b∈as1
  ·exact .inr λxs e'=>z1 ⟨.inr hb,xs,by rw[z2,e']⟩
  ·exact .inl hb
noncomputable def SL(K:qC)(t:TS)(F:DEnv->Pen3->Prop):Prop:=∀(fx:Addr->Prop)(env:DEnv)(σ:St)(H:Hp)(v:V)(R:Addr->Prop)(st:Pen3),Has (zey K) 1 fx (λ_=>none) env σ H v R st->F env st->∀D:Ends,(∀H',D.rt (.bl true) H')->t D σ H
noncomputable def lSeq(a:SFr Pen3)(b:DEnv->Pen3->Prop):DEnv->Pen3->Prop:=λenv st=>∃e s,a env st=some (.nx e s)/\b e s
theorem zrf{K:qC}{t u:TS}{a:SFr Pen3}{b:DEnv->Pen3->Prop}(h1:SSr (zey K) 1 t a)(h2:SL K u b):SL K (tSeq t u) (lSeq a b):=by
 intro fx env σ H v R st hh ⟨e,s,ea,eb⟩ D q
 exact h1 fx _ env σ H v R st _ hh _ ea λσ' H' h'=>h2 fx e σ' H' v R s h' eb D q
theorem At60.set7{G:Hp}{ah:Addr}{prog:PyData}{kept:Str}{vp:V}{hs:List (PyData×Str)}{σ:St}{H:Hp}(h:At60 G ah prog kept vp hs σ H)(x:Option V):At60 G ah prog kept vp hs (σ.set 7 x) H:=by
 have sg:∀{i:Nat}{y:Option (Option V)},σ[i]?=y->7≠i->(σ.set 7 x)[i]?=y:=λ{i y} e n=>by rw[qH n];exact e
 exact⟨by rw[qR];exact h.len,sg h.s4 (by decide),sg h.s5 (by decide),sg h.s6 (by decide),h.held,h.keep⟩
theorem zob{H:Hp}:∀{ns:List Str}{xs:List V},Rps H (ns.map .str) xs->xs=ns.map V.str
 | [],xs,h=>by unfold Rps at h;exact h
 | n::ns,xs,h=>by
  rw[ql]at h
  unfold Rps at h
  obtain⟨v,vs,rfl,h1,h2⟩:=h
  rw[zes h1,zob h2];rfl
noncomputable abbrev zrg(hs:List (PyData×Str)):DEnv:=[.no,.no,.no,.no,.no,.no,.pl (.list (hs.map zzh)),.no,.no,.no,.no,.no]
structure Nm60(gd:GF)(gt:GFT)(f1 f2:TF)(prog:PyData)(kept nm:Str):Prop where
 ok:∃due t fr,gd [prog,.str nm]=some (.str due,fr)/\gt [prog,.str nm]=some t/\rgN t=true/\zbm (ntD t)=true/\szD (ntD t)<50000/\f1 (zzi prog kept nm due (.pl (ntD t)) (.pl (ntD t)))=some false/\f2 (zzi prog kept nm due .no .no)=some false/\zfc [ntD t]=some (.str due,false)
structure Tail60(g:EFr Pen3)(gd:GF)(gt:GFT)(f1 f2:TF)(fe:EF)(env:DEnv)(st:Pen3)(prog:PyData)(kept:Str)(names:List Str)(r:Val)(st':Pen3):Prop where
 len:env.length=12
 e4:env[4]?=some (.pl prog)
 e5:env[5]?=some (.pl (.str kept))
 e6:env[6]?=some (.ac (.list []))
 eg:g env st=some (r,st')
 ed:r.d=.list (names.map .str)
 ef:r.fr=true
 sh:zbm prog=true
 sz:szD prog<50000
 nl:names.length<60000
 nm:∀nm∈names,Nm60 gd gt f1 f2 prog kept nm
 en:∀hs:List (PyData×Str),hs.length=names.length->(∀x∈hs,zfc [x.1]=some (.str x.2,false))->∃fr bs,fe (zrg hs)=some ⟨.bool true,fr,bs⟩
noncomputable def zaea(g:EFr Pen3)(gd:GF)(gt:GFT)(f1 f2:TF)(fe:EF)(env:DEnv)(st:Pen3):Prop:=∃prog kept names r st',Tail60 g gd gt f1 f2 fe env st prog kept names r st'
theorem zzl{K:qC}{te tr:TE}{g:EFr Pen3}{gd:GF}{gt:GFT}{t1 t2:TT}{f1 f2:TF}{fe:EF}(hg:SEr (zey K) 1 te g)(h1:ST t1 f1)(h2:ST t2 f2)(he:SE tr fe) :
  SL K (tSeq (tFor (iSeq K te) (gName 7) (zzk K (spD 2 gd) (spT 2 gt) t1 t2)) (tSeq (tFor (iSeq K (tCall spLs [] E0 (tCons (tVar 4) tNil))) (gName 11) (tSeq (tDrop (tBM K "list" zfa (tVar 11) (tCons (tTup tNil) tNil))) (tDrop (tBM0 K "list" zow (tVar 11))))) (tRet tr))) (zaea g gd gt f1 f2 fe):=by
 intro fx env σ H v R st hh ⟨prog,kept,names,r,st',T⟩ D q
 refine hg fx _ env σ H v R st hh r st' T.eg _ λw H1 m k1 hv=>?_
 obtain⟨l,rfl,hl0,acc⟩:=hv.fr T.ef
 rw[T.ed]at acc
 obtain⟨xs,hl1,rx⟩:=acc
 have ex:=zob rx
 subst ex
 obtain⟨vp,p1,p2⟩:=k1.ok.pl 4 prog T.e4
 obtain⟨vk,c1,c2⟩:=k1.ok.pl 5 _ T.e5
 have ek:=zes c2
 subst ek
 obtain⟨ah,a1,_,a3,ws0,a4,a5⟩:=k1.ok.ac 6 _ T.e6
 have ew:ws0=[]:=by unfold Rps at a5;exact a5
 subst ew
 have hla:l≠ah:=λz=>by
  obtain⟨a',b1,_,_,ws1,b4,_⟩:=hh.ok.ac 6 _ T.e6
  rw[a1]at b1
  cases b1
  rw[z,b4]at hl0;cases hl0
 have rp:Rp (Offs (λb=>b=ah) H1) prog vp:=Rp.same (Offs.sub λb z=>.inr ⟨6,_,T.e6,by rw[z];exact a1⟩) _ p2
 refine⟨l,rfl,.inl ⟨⟨names.map V.str,SqL.of hl1⟩,?_⟩⟩
 refine⟨λn m σ' H'=>m=names.length - n/\n<=names.length/\∃hs:List (PyData×Str),hs.length=n/\(∀x∈hs,zfc [x.1]=some (.str x.2,false))/\At60 H1 ah prog kept vp hs σ' H',
  ⟨names.length,rfl,qAH _,[],rfl,(λx hx=>nomatch hx),⟨k1.ok.len.symm.trans T.len,p1,c1,a1,⟨[],a4,zbf⟩,λb o _ e=>e⟩⟩,?_⟩
 rintro n m σ' H' ⟨rfl,hn,hs,hhs,hP,hat⟩
 have hll:H' l=some (.lst (names.map V.str)):=hat.keep l _ hla hl1
 by_cases hlt:n<names.length
 ·have hx:(names.map V.str)[n]?=some (.str names[n]):=by rw[qa,qO hlt];rfl
  refine .inr ⟨⟨_,_,SqL.of hll,hx⟩,λσ'' H''=>n+1<=names.length/\∃hs:List (PyData×Str),hs.length=n+1/\(∀x∈hs,zfc [x.1]=some (.str x.2,false))/\At60 H1 ah prog kept vp hs σ'' H'',?_,?_⟩
  ·rintro σ'' H'' ⟨z1,z2⟩
   exact⟨names.length - (n+1),by omega,rfl,z1,z2⟩
  ·intro x H'' hy
   obtain⟨rfl,hy⟩:=hy
   have ex:=hy _ (SqL.of hll)
   rw[hx]at ex
   cases ex
   obtain⟨due,t,fr,g1,g2,g3,g4,g5,g6,g7,g8⟩:=(T.nm names[n] (qAi hlt)).ok
   refine zakx h1 h2 ⟨[],a4⟩ rp (hat.set7 _) (qe (by rw[hat.len];decide)) g1 g2 g3 g4 g5 g6 g7 (by have:=T.nl;omega) λσ2 H2 hat2=>⟨hlt,_,by rw[qF,hhs];rfl,λx hx=>?_,hat2⟩
   rcases qb.mp hx with hx|hx
   ·exact hP x hx
   ·rw[qc.mp hx];exact g8
 ·refine .inl ⟨⟨_,SqL.of hll,by rw[qD];omega⟩,?_⟩
  have sG:Same (zik (Offs (λb=>b=ah) H1)) H':=λb o e=>by
   obtain⟨e1,e2⟩:=Offs.of (zfs _ _ _ e)
   exact hat.keep b o e1 e2
  refine zakv zzd hat.s4 (by rw[hat.len];decide) (zpp _ T.sh rp) sG T.sz (λa xs e=>znz e) λσ5 H5 l5 k5 m5 _=>?_
  obtain⟨ws,hw,rw'⟩:=hat.held
  have hw5:H5 ah=some (.lst ws):=by
   rcases m5 ah _ hw with⟨xs,z⟩|z
   ·obtain⟨e1,e2⟩:=Offs.of (zfs _ _ _ z)
    exact absurd rfl e1
   ·exact z
  have r5:Rp H5 (.list (hs.map zzh)) (.ref ah):=zcy hw5 (Rps.same (λb o e=>by
   obtain⟨e1,e2⟩:=Offs.of e
   rcases m5 b o e2 with⟨xs,z⟩|z
   ·obtain⟨_,e4⟩:=Offs.of (zfs _ _ _ z)
    exact absurd ⟨xs,e4⟩ e1
   ·exact z) _ rw')
  have hnl:hs.length=names.length:=by omega
  obtain⟨fr,bs,ee⟩:=T.en hs hnl hP
  refine he (λ_=>False) H5 (zrg hs) σ5 H5 (zzj (by rw[l5,hat.len];rfl) λi s e=>?_) _ ee _ λu H6 _ hu=>?_
  ·match i,e with
   | 0,e=>cases e;trivial
   | 1,e=>cases e;trivial
   | 2,e=>cases e;trivial
   | 3,e=>cases e;trivial
   | 4,e=>cases e;trivial
   | 5,e=>cases e;trivial
   | 6,e=>cases e;exact⟨_,(k5 6 (by decide)).trans hat.s6,r5⟩
   | 7,e=>cases e;trivial
   | 8,e=>cases e;trivial
   | 9,e=>cases e;trivial
   | 10,e=>cases e;trivial
   | 11,e=>cases e;trivial
   | n+12,e=>cases e
  ·rw[zhl hu.rp];exact q H6
theorem zach{K:qC}{N:List Str}{n:Nat}{F:DEnv->Pen3->Prop}{t:TS}{ns:List Int}{a:Addr}{H:Hp}{D:Ends}(hN:N.length=n+2)(hs:SL K t F)(hS:SqL K H a (ns.map .int))
  (ef:F (List.replicate (n+2) .no) ⟨ns,0,0⟩)(q:∀H',D.rt (.bl true) H') :
  tSeq (tAsg (tCall (zoa K) [] E0 (tCons (tVar 0) tNil)) (gName 1)) t D (zdi N [.ref a]) H:=by
 have st:zdi N [.ref a]=some (.ref a)::List.replicate (n+1) none:=by
  unfold zdi
  rw[hN];rfl
 rw[st]
 refine⟨.ref a,rfl,?_⟩
 have key:zoa K [.ref a] H (λx H1=>t D ((some (V.ref a)::List.replicate (n+1) none).set 1 (some x)) H1) E0:=?_
 exact key
 refine⟨a,ns,rfl,hS,λp hp0=>?_⟩
 obtain⟨R,hR,hsc⟩:=zajy hS
 obtain⟨a',ea,h1,h2,h3⟩:=hsc
 cases ea
 have e1:(some (V.ref a)::List.replicate (n+1) none).set 1 (some (.ref p))=some (.ref a)::some (.ref p)::List.replicate n none:=by
  rw[List.replicate_succ];rfl
 rw[e1]
 have noE:∀(i:Nat)(x:Sl),(List.replicate (n+2) Sl.no)[i]?=some x->x=.no:=λi x e=>by
  obtain⟨h1,h2⟩:=qZ.mp e
  rw[List.getElem_replicate]at h2
  exact h2.symm
 have sn:Same H (upd H p (.lst [.ref a,.int 0,.int 0])):=Same.new hp0
 refine hs (λb=>b=p\/R b) _ _ (upd H p (.lst [.ref a,.int 0,.int 0])) (.ref p) (λb=>b=p\/R b) _ ⟨⟨?_,λi d e=>?_,λi d e=>?_,λi j d e a' z=>?_,λb o z=>(nomatch z),λb z=>?_⟩,?_,rfl,⟨p,a,rfl,zan,sn.seq hS,h3.imp .inr id,.inl rfl,λb z=>?_⟩,λb z=>z,λb z=>rfl⟩ ef D q
 ·simp
 ·cases noE i _ e
 ·cases noE i _ e
 ·cases noE i _ z
 ·rcases z with z|z
  ·rw[z];exact⟨_,zan⟩
  ·obtain⟨o,eo⟩:=hR b z;exact⟨o,sn b o eo⟩
 ·rw[qBB];simp
 ·rcases z with z|z
  ·refine⟨.inl z,?_⟩
   rw[z];exact⟨_,zan⟩
  ·obtain⟨o,eo⟩:=hR b z;exact⟨.inr (h1 b z).1,o,sn b o eo⟩
section
variable{P:Program}{w:World}{K:qC}{h:Heap}{mg:Str->Option Value}{base:Heap}{x:Str}{st:Stmt}{f:Addr}{fd:qq}{ps:List Str}{k:Nat}{sp:Sp}
structure DefIn(K:qC)(x:Str)(st:Stmt)(f:Addr)(fd:qq):Prop where
 ns:qAM K qm x=some (some (.ref f))
 fn:Fun K x x st f fd
theorem def_mk{oc:Value}{od an:Option Addr}{osl:Array (Option Value)}{kV doc pm cdv ct:Value}(a:qAM K qm x=some (some (.ref f)))(l:K.lookup f=some ⟨oc,od,.func (qAB x x (zdn st) (zcs st) (zap st) .none kV doc pm an cdv ct),osl⟩)
  (c:qA1 K cdv x=true) (k:qAX K (.ref f)=true):DefIn K x st f (qAB x x (zdn st) (zcs st) (zap st) .none kV doc pm an cdv ct):=⟨a,zadi l c k⟩
theorem DefIn.b1{p:Str}(d:DefIn K x st f fd)(h:∀(kV doc pm:Value) (an:Option Addr) (cdv ct a:Value),bindArgs (qAB x x (zdn st) (zcs st) (zap st) .none kV doc pm an cdv ct) ⟨[a],[]⟩=pure [(p,a)]):zgu K fd [p] []:=
 d.fn.binds λkV doc pm an cdv ct us hl=>match us,hl with|[a],_=>h kV doc pm an cdv ct a
theorem DefIn.b2{p q:Str}(d:DefIn K x st f fd)(h:∀(kV doc pm:Value) (an:Option Addr) (cdv ct a b:Value),bindArgs (qAB x x (zdn st) (zcs st) (zap st) .none kV doc pm an cdv ct) ⟨[a,b],[]⟩=pure [(p,a),(q,b)]):zgu K fd [p,q] []:=
 d.fn.binds λkV doc pm an cdv ct us hl=>match us,hl with|[a,b],_=>h kV doc pm an cdv ct a b
theorem DefIn.b3{p q r:Str}(d:DefIn K x st f fd)(h:∀(kV doc pm:Value) (an:Option Addr) (cdv ct a b c:Value),bindArgs (qAB x x (zdn st) (zcs st) (zap st) .none kV doc pm an cdv ct) ⟨[a,b,c],[]⟩=pure [(p,a),(q,b),(r,c)]):zgu K fd [p,q,r] []:=
 d.fn.binds λkV doc pm an cdv ct us hl=>match us,hl with|[a,b,c],_=>h kV doc pm an cdv ct a b c
theorem DefIn.b4{p q r s:Str}(d:DefIn K x st f fd)(h:∀(kV doc pm:Value) (an:Option Addr) (cdv ct a b c e:Value),bindArgs (qAB x x (zdn st) (zcs st) (zap st) .none kV doc pm an cdv ct) ⟨[a,b,c,e],[]⟩=pure [(p,a),(q,b),(r,c),(s,e)]):zgu K fd [p,q,r,s] []:=
 d.fn.binds λkV doc pm an cdv ct us hl=>match us,hl with|[a,b,c,e],_=>h kV doc pm an cdv ct a b c e
theorem DefIn.b5{p q r s t:Str}(d:DefIn K x st f fd)(h:∀(kV doc pm:Value) (an:Option Addr) (cdv ct a b c e g:Value),bindArgs (qAB x x (zdn st) (zcs st) (zap st) .none kV doc pm an cdv ct) ⟨[a,b,c,e,g],[]⟩=pure [(p,a),(q,b),(r,c),(s,e),(t,g)]):zgu K fd [p,q,r,s,t] []:=
 d.fn.binds λkV doc pm an cdv ct us hl=>match us,hl with|[a,b,c,e,g],_=>h kV doc pm an cdv ct a b c e g
theorem DefIn.b6{p q r s t u:Str}(d:DefIn K x st f fd)(h:∀(kV doc pm:Value) (an:Option Addr) (cdv ct a b c e g i:Value),bindArgs (qAB x x (zdn st) (zcs st) (zap st) .none kV doc pm an cdv ct) ⟨[a,b,c,e,g,i],[]⟩=pure [(p,a),(q,b),(r,c),(s,e),(t,g),(u,i)]):zgu K fd [p,q,r,s,t,u] []:=
 d.fn.binds λkV doc pm an cdv ct us hl=>match us,hl with|[a,b,c,e,g,i],_=>h kV doc pm an cdv ct a b c e g i
theorem DefIn.dn(d:DefIn K x st f fd)(X:K.In h)(G:h.Ns qm mg)(ok:FnOk P w K mg base CX0 k f fd ps sp)(b:zgu K fd ps []):Dn P w K mg base x ps k sp:=⟨f,fd,ok,qy X G d.ns,d.fn.kp,b⟩
theorem DefIn.dx(d:DefIn K x st f fd)(X:K.In h)(G:h.Ns qm mg)(ok:FnOk P w K mg base (CXE P w) k f fd ps sp)(b:zgu K fd ps []):DnX P w K mg base x ps k sp:=⟨f,fd,ok,qy X G d.ns,d.fn.kp,b⟩
structure ClsIn(K:qC)(x:Str)(f:Addr):Prop where
 ns:qAM K qm x=some (some (.ref f))
 cl:PySem.W.isClsIn K f=true
 ty:PySem.W.typeIn K (.ref f)=some (.type "type")
theorem cls_mk(a:qAM K qm x=some (some (.ref f)))(b:PySem.W.isClsIn K f=true)(c:PySem.W.typeIn K (.ref f)=some (.type "type")):ClsIn K x f:=⟨a,b,c⟩
structure XIn(K:qC)(y fI:Addr):Prop where
 mx:XMk K y fI
 cl:PySem.W.findIn K (.ref y) "__class__"=some (some (.builtin "object.__class__"))
 be:PySem.W.subIn K (.ref y) (.type "BaseException")=some true
 ve:PySem.W.subIn K (.ref y) (.type "ValueError")=some true
 se:PySem.W.subIn K (.ref y) (.ref y)=some true
theorem xin_mk{y fI:Addr}{dd:Option Addr}{sl:Array (Option Value)}{cd:ClassData}(xi:PySem.W.findIn K (.ref y) "__init__"=some (some (.ref fI)))(xf:PySem.W.isFn K (.ref fI)=true)(lk:K.lookup y=some ⟨.type "type",dd,.cls cd,sl⟩)(xb:xcB y cd sl=true)(kp:qAX K (.ref y)=true)
  (sa:PySem.W.findIn K (.ref y) "__setattr__"=some (some (.builtin "object.__setattr__")))(at_:PySem.W.findIn K (.ref y) "at"=some none)(ga:PySem.W.findIn K (.ref y) "__getattribute__"=some (some (.builtin "BaseException.__getattribute__")))(gh:PySem.W.findIn K (.ref y) "__getattr__"=some none)
  (cl:PySem.W.findIn K (.ref y) "__class__"=some (some (.builtin "object.__class__")))(be:PySem.W.subIn K (.ref y) (.type "BaseException")=some true)(ve:PySem.W.subIn K (.ref y) (.type "ValueError")=some true)(se:PySem.W.subIn K (.ref y) (.ref y)=some true):XIn K y fI:=
 ⟨⟨(zakn lk xb).1,(zakn lk xb).2,xi,xf,kp,sa,at_,ga,gh⟩,cl,be,ve,se⟩
theorem init_mk{qual:Str}{oc:Value}{od an:Option Addr}{osl:Array (Option Value)}{kV doc pm cdv ct:Value}(l:K.lookup f=some ⟨oc,od,.func (qAB x qual (zdn st) (zcs st) (zap st) .none kV doc pm an cdv ct),osl⟩)
  (c:qA1 K cdv qual=true) (k:qAX K (.ref f)=true):Fun K x qual st f (qAB x qual (zdn st) (zcs st) (zap st) .none kV doc pm an cdv ct):=zadi l c k
universe u9
end
end L2
namespace Bc
open PySem L2
theorem zkq{α:Type}{enc out:α->PyData}{g:GT}{t:TF}{e:EF}{env:DEnv}(p:α->Bool):∀{l:List α},(∀x∈l,∃e1,g (enc x) env=some e1/\t e1=some (p x)/\(p x=true->∃r,e e1=some r/\r.d=out x))->
  zii g t e env (l.map enc)=some ((l.filter p).map out)
 | [],_=>rfl
 | x::l,h=>by
  obtain⟨e1,h1,h2,h3⟩:=h x qt
  have ih:=zkq (l:=l) p λy hy=>h y (qK _ hy)
  rw[ql]
  unfold zii
  rw[h1,qj,h2,qj]
  cases hp:p x with
  | false=>
   rw[if_neg qL,ih,List.filter_cons,hp];rfl
  | true=>
   obtain⟨r,h4,h5⟩:=h3 hp
   rw[if_pos rfl,h4,qj,ih,List.filter_cons,hp]
   simp[h5]
theorem zhs{α:Type}{enc out:α->PyData}{g:GT}{t:TF}{e:EF}{env:DEnv}{l:List α}(h:∀x∈l,∃e1,g (enc x) env=some e1/\t e1=some true/\∃r,e e1=some r/\r.d=out x):zii g t e env (l.map enc)=some (l.map out):=by
 have q:=zkq (enc:=enc) (out:=out) (g:=g) (t:=t) (e:=e) (env:=env) (λ_=>true) (l:=l) λx hx=>let⟨e1,h1,h2,h3⟩:=h x hx;⟨e1,h1,h2,λ_=>h3⟩
 rw[q]
 congr 2
 exact List.filter_eq_self.mpr λ_ _=>rfl
theorem zaeb{f g:SF}{env e1:DEnv}{o:Option Out}(h:f env=some (.nx e1))(k:g e1=o):sSeq f g env=o:=by unfold sSeq;rw[h];exact k
theorem zaky{f g:SF}{env:DEnv}{d:PyData}{fr:Bool}(h:f env=some (.rt d fr)):sSeq f g env=some (.rt d fr):=by unfold sSeq;rw[h];rfl
theorem zuo{f:IF'}{g:GT}{b:SF}{env:DEnv}{ds:List PyData}{bs:List Nat}{o:Option Out}(h:f env=some (ds,bs))(k:forL g b ds (frzs env bs)=o):sFor f g b env=o:=by
 unfold sFor;rw[h];exact k
theorem if_t{c:TF}{f g:SF}{env:DEnv}{o:Option Out}(h:c env=some true)(k:f env=o):sIf c f g env=o:=by unfold sIf;rw[h];exact k
theorem if_f{c:TF}{f g:SF}{env:DEnv}{o:Option Out}(h:c env=some false)(k:g env=o):sIf c f g env=o:=by unfold sIf;rw[h];exact k
theorem zzm{f:EF}{env:DEnv}{d:PyData}{fr:Bool}{bs:List Nat}(h:f env=some ⟨d,fr,bs⟩):sRet f env=some (.rt d fr):=by unfold sRet;rw[h];rfl
theorem zme{own:List Str}{fr:List Nat}{fi:IF'}{g:GT}{t:TF}{e:EF}{env:DEnv}{ds:List PyData}{bs:List Nat}{rs:List PyData}(h:fi env=some (ds,bs))(hl:ds.length<100000)(k:zii g t e (envB own fr env) ds=some rs) :
  zhj own fr fi g t e env=some ⟨.list rs,true,if zdj rs=true then[]else bs++capA fr env⟩:=by
 unfold zhj;rw[h,qj,if_pos hl,k];rfl
theorem zanm{n:Nat}{f:SF}{ds:List PyData}{env:DEnv}{d:PyData}{fr:Bool}(h:zgn n ds=env)(e:f env=some (.rt d fr)):fnD n f ds=some (d,fr):=by
 unfold fnD;rw[h,e]
noncomputable def zam(xs:List Str):PyData:=.list (xs.map .str)
theorem zwc(xs:List Str):zdj (xs.map .str)=true:=by
 unfold zdj
 rw[List.all_map]
 exact qAE.mpr λ_ _=>rfl
theorem zaci(xs:List Str)(x:Str):((xs.map PyData.str).any λe=>qAY e (.str x))=decide (x∈xs):=by
 rw[List.any_map,qAm,List.any_eq_true,decide_eq_true_iff]
 constructor
 ·rintro⟨y,hy,h⟩
  have:y=x:=by simpa [qAY]using h
  rw[<- this];exact hy
 ·exact λh=>⟨x,h,by simp[qAY]⟩
theorem zahf(b:Bool)(xs:List Str)(x:Str):inD b (.str x) (zam xs)=some (.bool (if b then !decide (x∈xs)else decide (x∈xs)),false):=by
 unfold inD zam
 simp only[zns]
 rw[if_pos ⟨rfl,zwc xs⟩,zaci]
noncomputable def ltr(i:Int):Str:=⟨#[97+i.toNat]⟩
noncomputable def Low(x:Str):Prop:=∀c∈x.cps.toList,c<128
theorem zzn{x:Str}(h:Low x):PyData.strOk x=true:=by
 unfold PyData.strOk
 rw[<- Array.all_toList,qAE]
 intro c hc
 have:=h c hc
 exact decide_eq_true (by omega)
theorem zup(a b:Str):(a++b).cps.toList=a.cps.toList++b.cps.toList:=by
 show(a.cps++b.cps).toList=_
 simp
theorem Low.app{a b:Str}(h1:Low a)(h2:Low b):Low (a++b):=λc hc=>by
 rw[zup]at hc
 exact(qb.mp hc).elim (h1 c) (h2 c)
theorem Low.slice{x:Str}(h:Low x)(l u:Option Int):Low (Txt.slice x l u):=λc hc=>by
 unfold Txt.slice at hc
 split at hc
 ·exact h c hc
 ·have hc:c∈(List.filterMap (x.cps[·]?) (Builtin.Str.strSliceIndices l u 1 x.length)):=by simpa using hc
  obtain⟨i,_,e⟩:=qBZ.mp hc
  exact h c (by
   have:=Array.mem_of_getElem? e
   simpa using this)
noncomputable abbrev vi(i:Int):Val:=⟨.int i,false,[]⟩
noncomputable abbrev vs(x:Str):Val:=⟨.str x,false,[]⟩
noncomputable abbrev vb(b:Bool):Val:=⟨.bool b,false,[]⟩
section
variable{a b:EF}{env:DEnv}{i j:Int}
theorem zmf(ha:a env=some (vi i))(hb:b env=some (vi j))(h:0<j):eOp modD a b env=some (vi (i % j)):=by
 unfold eOp;rw[ha,hb];simp[modD,intD,h,bsOf,zef]
theorem zuq(ha:a env=some (vi i))(hb:b env=some (vi j))(h:0<j)(h2:j<1073741824):eOp zku a b env=some (vi (i / j)):=by
 unfold eOp;rw[ha,hb];simp[zku,intD,h,h2,bsOf,zef]
theorem zth(ha:a env=some (vi i))(hb:b env=some (vi j)):eOp addD a b env=some (vi (i+j)):=by
 unfold eOp;rw[ha,hb];simp[addD,bsOf,zef]
theorem zti(ha:a env=some (vi i))(hb:b env=some (vi j))(h:(-(2 ^ 64)<i/\i<2 ^ 64)\/(-(2 ^ 64)<j/\j<2 ^ 64)):eOp mulD a b env=some (vi (i * j)):=by
 unfold eOp;rw[ha,hb]
 simp only[qj,mulD]
 rw[if_pos h];simp[bsOf,zef]
theorem zakz(ha:a env=some (vi i))(hb:b env=some (vi j)):eOp eqD a b env=some (vb (i==j)):=by
 unfold eOp;rw[ha,hb];rfl
theorem zala{x y:Str}(ha:a env=some (vs x))(hb:b env=some (vs y))(h:x.length+y.length<=100000):eOp addD a b env=some (vs (x++y)):=by
 unfold eOp;rw[ha,hb]
 simp only[qj,addD]
 rw[if_pos h];simp[bsOf,zef]
theorem zann{x:Str}{l h:PF'}{lo hi:Option Int}(ha:a env=some (vs x))(hl:l env=some lo)(hh:h env=some hi)(hz:x.length<=100000):eSl a l h env=some (vs (Txt.slice x lo hi)):=by
 unfold eSl;rw[ha,hl,hh]
 simp only[qj,slD]
 rw[if_pos hz];simp[bsOf,zef]
theorem zjl{c:Bool}(ha:a env=some (vb c)):zdt a env=some c:=by unfold zdt;rw[ha];rfl
theorem ziw{r:Val}(ha:a env=some r):zah a aNil env=some [r]:=by unfold zah aNil;rw[ha];rfl
theorem zrh{ds:List PyData}{fr:Bool}{bs:List Nat}(ha:a env=some ⟨.list ds,fr,bs⟩):eCB lenD (zah a aNil) env=some (vi ds.length):=by
 unfold eCB
 rw[ziw ha]
 simp[zcu,lenD,bsOf,zef]
theorem zano{k n:Nat}{b:EF}{ds:List PyData}{d:PyData}(he:env[k]?=some (.pl (.list ds)))(hb:b env=some (vi (n:Int)))(hd:ds[n]?=some d):eIxV k b env=some ⟨d,false,[]⟩:=by
 unfold eIxV
 rw[he]
 unfold eOp eVar
 rw[he,hb]
 simp only[qj,ixD]
 rw[zlk hd]
 simp[bsOf]
theorem zanp{k n:Nat}{b:EF}{ds:List PyData}{d:PyData}(he:env[k]?=some (.ac (.list ds)))(hb:b env=some (vi (n:Int)))(hd:ds[n]?=some d):eIxV k b env=some ⟨d,false,[]⟩:=by
 unfold eIxV
 rw[he]
 simp only
 rw[hb]
 simp only[qj]
 rw[zlk hd];rfl
end
noncomputable def abc:Str:="abcdefghijklmnopqrstuvwxyz"
theorem zahg:(List.range 26).all (λi=>abc.cps.toList[i]?==some (97+i))=true:=by decide +kernel
theorem zahh:abc.length=26:=by decide +kernel
theorem zalb{i:Int}(h0:0<=i)(h1:i<26):atI abc.cps.toList i=some (97+i.toNat):=by
 have q:=qAE.mp zahg i.toNat (qA5.mpr (by omega))
 have e:((i.toNat:Nat):Int)=i:=by omega
 rw[<- e]
 have z:=zlk (eq_of_beq q)
 rw[e]at z ⊢
 exact z
theorem zalc{k:Nat}{b:EF}{env:DEnv}{i:Int}(he:env[k]?=some (.pl (.str abc)))(hb:b env=some (vi i))(h0:0<=i)(h1:i<26):eIxV k b env=some (vs (ltr i)):=by
 unfold eIxV
 rw[he]
 unfold eOp eVar
 rw[he,hb]
 simp only[qj,ixD]
 rw[if_pos (by rw[zahh];decide),zalb h0 h1]
 simp[bsOf,zef,ltr]
theorem zft(n:Nat):zlt 0 n=(List.range n).map (λ(k:Nat)=>PyData.int (k:Int)):=by
 unfold zlt
 refine qBT λk _=>?_
 show PyData.int (0+(k:Int))=_
 rw[Int.zero_add]
theorem zzo(a b:Str):(a++b).length=a.length+b.length:=by
 have:=congrArg List.length (zup a b)
 rw[qF]at this
 simpa [Str.length]using this
theorem zri{α β:Type}(f:α->β):∀(l:List α)(i:Nat),(l.map f).eraseIdx i=(l.eraseIdx i).map f
 | [],_=>rfl
 | _::_,0=>rfl
 | a::l,i+1=>by
  show f a::(l.map f).eraseIdx i=f a::(l.eraseIdx i).map f
  rw[zri f l i]
section
variable{a b:EF}{env:DEnv}{x y:Str}
theorem e_in{neg:Bool}{xs:List Str}{fr:Bool}{bs:List Nat}(ha:a env=some (vs x))(hb:b env=some ⟨zam xs,fr,bs⟩):eOp (inD neg) a b env=some (vb (if neg then !decide (x∈xs)else decide (x∈xs))):=by
 unfold eOp;rw[ha,hb];simp[zahf,bsOf,zef]
end
noncomputable def zil:SFr Pen3:=(rSeq (rIf (qB (rOp gtD (zwa 2) (zak (eC (.int 0))))) (rSeq (rSet 2 (rOp modD (zwa 2) (zak (eVar 1))))
  (rSeq (zrd 2 (rOp zku (zwa 2) (zak (eVar 1))))
  (rS 0 (zjy 2)))) rNx)
  (rSeq (rSet 3 (zwa 1))
  (rSeq (zrd 1 (zak (eOp addD (eVar 3) (eC (.int 1)))))
  (rSeq (rSet 4 (zak (eC (.int 37))))
  (rSeq (rIf (qB (rOp gtD zre (zak (eC (.int 0))))) (rSet 4 (rIx3 (eVar 3))) rNx)
  (rSeq (rIf (qAnd (qB (rOp ltD (zak (eVar 3)) zre)) (zjf (zdt (eOp geD (eCB absD (zah (eVar 4) aNil)) (eOp powB (eC (.int 10)) (eC (.int 18))))))) (rSeq (zrd 2 (zak (eOp zku (eCB absD (zah (eVar 4) aNil)) (eVar 1))))
  (rRet (zak (eOp modD (eCB absD (zah (eVar 4) aNil)) (eVar 1))))) rNx)
  (rSeq (rSet 5 (zak (eOp ixD (eLst (zah (eC (.int 2147483647)) (zah (eC (.int 2147483629)) (zah (eC (.int 2147483587)) (zah (eC (.int 2147483579)) (zah (eC (.int 2147483563)) (zah (eC (.int 2147483549)) (zah (eC (.int 2147483543)) aNil)))))))) (eOp modD (eVar 3) (eC (.int 7))))))
  (rSeq (rSet 6 (zak (eOp ixD (eLst (zah (eC (.int 2147483497)) (zah (eC (.int 2147483489)) (zah (eC (.int 2147483477)) (zah (eC (.int 2147483423)) (zah (eC (.int 2147483399)) aNil)))))) (eOp modD (eVar 3) (eC (.int 5))))))
  (rSeq (rSet 7 (zak (eOp modD (eOp powB (eOp addD (eOp modD (eVar 4) (eVar 5)) (eOp mulD (eOp mulD (eOp addD (eVar 3) (eC (.int 3))) (eOp addD (eVar 3) (eC (.int 3)))) (eC (.int 40503)))) (eC (.int 5))) (eVar 5))))
  (rSeq (rSet 7 (zak (eOp modD (eOp powB (eOp addD (eOp mulD (eVar 7) (eOp addD (eOp mulD (eC (.int 2)) (eVar 3)) (eC (.int 48271)))) (eVar 3)) (eC (.int 3))) (eVar 6))))
  (rRet (zak (eOp modD (eOp zku (eVar 7) (eC (.int 32))) (eVar 1))))))))))))))
noncomputable def zai:GR Pen3:=fnR 8 zil
noncomputable def zoc:SFr Pen3:=(rSeq (rSet 2 (zak (eC (.str "abcdefghijklmnopqrstuvwxyz"))))
  (rSeq (rSet 3 (zbb 2 zai (zaz (zak (eC (.int 3))) rNil)))
  (rSeq (rSet 4 (rOp addD (zak (eC (.int 1))) (zbb 2 zai (zaz (zak (eC (.int 8))) rNil))))
  (rSeq (rSet 5 (zbb 2 zai (zaz (zak (eVar 4)) rNil)))
  (rSeq (rSet 6 (zbb 2 zai (zaz (zak (eOp powB (eC (.int 26)) (eC (.int 4)))) rNil)))
  (rSeq (rSet 6 (rOp addD (zak (eVar 6)) (rOp mulD (zak (eOp powB (eC (.int 26)) (eC (.int 4)))) (zbb 2 zai (zaz (zak (eOp powB (eC (.int 26)) (eC (.int 4)))) rNil)))))
  (rSeq (rSet 7 (zak (eLst aNil)))
  (rSeq (rFor (rIP (zcl (zah (eVar 4) aNil))) (gN 8)
  (rSeq (rApp 7 (zak (eIxV 2 (eOp modD (eVar 6) (eC (.int 26))))))
  (rSet 6 (zak (eOp zku (eVar 6) (eC (.int 26)))))))
  (rSeq (rSet 9 (rOp ixD (zak (eLst (zah (eC (.str "none")) (zah (eC (.str "rule")) (zah (eC (.str "quarrel")) (zah (eC (.str "say")) (zah (eC (.str "tell")) (zah (eC (.str "call")) (zah (eC (.str "onward")) (zah (eC (.str "own")) (zah (eC (.str "new")) (zah (eC (.str "kind")) aNil)))))))))))) (zbb 2 zai (zaz (zak (eC (.int 10))) rNil))))
  (rSeq (rIf (qAnd (qB (rOp eqD (zbb 2 zai (zaz (zak (eC (.int 6))) rNil)) (zak (eC (.int 0))))) (zjf (zdt (eOp (inD true) (eVar 9) (eVar 1))))) (rS 0 (zjy 9)) rNx)
  (rSeq (rIf (zjf (zxt (zdt (eOp eqD (eVar 3) (eC (.int 0)))) (zdt (eOp gtD (eCB lenD (zah (eVar 1) aNil)) (eC (.int 0)))))) (rSeq (rSet 7 (zak (eCB zrc (zah (eIxV 1 (eNeg (eC (.int 1)))) aNil))))
  (rSet 5 (zak (eOp modD (eVar 5) (eCB lenD (zah (eVar 7) aNil)))))) rNx)
  (rSeq (rFor (rIP (zcl (zah (eC (.int 26)) aNil))) (gN 10)
  (rSeq (rIf (zjf (zdt (eOp (inD true) (zko "" (eVar 7)) (eVar 1)))) (rRet (zak (zko "" (eVar 7)))) rNx)
  (zyi 7 (zak (eVar 5)) (zak (eIxV 2 (eOp modD (eOp addD (zzf (eVar 2) (eIxV 7 (eVar 5))) (eC (.int 1))) (eC (.int 26))))))))
  (rRet (zak (zko "" (eVar 7))))))))))))))))
noncomputable def zdo:GR Pen3:=fnR 11 zoc
noncomputable def zod:SFr Pen3:=(rSeq (rSet 3 (zak (eCB zrc (zah (eVar 1) aNil))))
  (rSeq (rSet 4 (zak (eLst aNil)))
  (rSeq (rFor (rIP (zcl (zah (eCB minD (zah (eVar 2) (zah (eCB lenD (zah (eVar 3) aNil)) aNil))) aNil))) (gN 5)
  (zmc 4 3 (zbb 2 zai (zaz (zak (eCB lenD (zah (eVar 3) aNil))) rNil))))
  (rS 0 (zjy 4)))))
noncomputable def zfj:GR Pen3:=fnR 6 zod
noncomputable def zjm:SFr Pen3:=(rSeq (rSet 2 (zbb 2 zai (zaz (zak (eC (.int 5))) rNil)))
  (rSeq (rSet 3 (zak (eLst aNil)))
  (rSeq (rSet 4 (zak (eLst aNil)))
  (rSeq (rFor (rIP (zcl (zah (eVar 1) aNil))) (gN 5)
  (rSeq (rSet 6 (zbb 2 zdo (zaz (zak (eVar 4)) rNil)))
  (zvy 7 8 3 6 (eOp ixD (eLst (zah (eSl (eVar 4) (zls (eNeg (eC (.int 1)))) zni) (zah (eVar 4) (zah (eVar 4) (zah (eSl (eVar 4) zni (zls (eC (.int 2)))) (zah (eVar 4) aNil)))))) (eVar 2)) (rOp ixD (rLst (zaz (zak (eC (.int 1))) (zaz (zak (eC (.int 1))) (zaz (rOp addD (zak (eC (.int 1))) (zbb 2 zai (zaz (zak (eC (.int 2))) rNil))) (zaz (zak (eOp mulD (eC (.int 2)) (eCB zvz (zah (eOp gtD (eVar 5) (eC (.int 1))) aNil)))) (zaz (zbb 2 zai (zaz (zak (eC (.int 5))) rNil)) rNil)))))) (zak (eVar 2))) zfj
  (rApp 4 (zak (eVar 6))))))
  (rS 0 (zjy 3))))))
noncomputable def zeb:GR Pen3:=fnR 9 zjm
noncomputable def zkr:SFr Pen3:=(rSeq (rSet 1 (zbb 2 zai (zaz (zak (eC (.int 4))) rNil)))
  (rSeq (rSet 2 (rOp subD (zak (eC (.int 1))) (rOp mulD (zak (eC (.int 2))) (zbb 2 zai (zaz (zak (eC (.int 2))) rNil)))))
  (rSeq (rIf (zjf (zdt (eOp gtD (eVar 1) (eC (.int 0))))) (rRet (rOp mulD (zak (eVar 2)) (zbb 2 zai (zaz (zak (eC (.int 100))) rNil)))) rNx)
  (rSeq (rSet 3 (zak (eC (.int 0))))
  (rSeq (rFor (rIP (zcl (zah (eC (.int 5)) aNil))) (gN 4)
  (rSet 3 (rOp addD (zak (eOp mulD (eVar 3) (eOp powB (eC (.int 10)) (eC (.int 6))))) (zbb 2 zai (zaz (zak (eOp powB (eC (.int 10)) (eC (.int 6)))) rNil)))))
  (rRet (zak (eOp mulD (eVar 2) (eVar 3)))))))))
noncomputable def zdp:GR Pen3:=fnR 5 zkr
noncomputable def zoe:SFr Pen3:=(rSeq (rSet 4 (zbb 2 zai (zaz (zak (eC (.int 6))) rNil)))
  (rSeq (rAsg (rOp ixD (zak (eVar 2)) (zbb 2 zai (zaz (zak (eCB lenD (zah (eVar 2) aNil))) rNil))) (gT 2 (zav 5 (zav 6 zdu))))
  (rSeq (rIf (zjf (zdt (eOp ltD (eVar 4) (eC (.int 2))))) (rRet (rTup (zaz (zak (eC (.str "say"))) (zaz (zbb 1 zdp rNil) rNil)))) rNx)
  (rSeq (rIf (zjf (zdt (eOp eqD (eVar 4) (eC (.int 2))))) (rRet (rTup (zaz (zak (eC (.str "tell"))) (zaz (zbb 2 zai (zaz (zak (eVar 3)) rNil)) rNil)))) rNx)
  (rSeq (rIf (zjf (zdt (eOp eqD (eVar 4) (eC (.int 3))))) (rRet (zak (eTup (zah (eC (.str "onward")) aNil)))) rNx)
  (rSeq (rSet 7 (zak (eLst aNil)))
  (rSeq (rFor (rIP (zcl (zah (eVar 6) aNil))) (gN 8)
  (rIf (qB (rOp eqD (zbb 2 zai (zaz (zak (eC (.int 2))) rNil)) (zak (eC (.int 0))))) (rApp 7 (rTup (zaz (zak (eC (.str "own"))) (zaz (zbb 2 zai (zaz (zak (eVar 3)) rNil)) rNil)))) (rApp 7 (rTup (zaz (zak (eC (.str "new"))) (zaz (rOp ixD (zak (eVar 1)) (zbb 2 zai (zaz (zak (eCB lenD (zah (eVar 1) aNil))) rNil))) (zaz (zbb 1 zdp rNil) rNil)))))))
  (rRet (zak (eTup (zah (eC (.str "call")) (zah (eVar 5) (zah (eVar 7) aNil)))))))))))))
noncomputable def zid:GR Pen3:=fnR 9 zoe
noncomputable def zht:SFr Pen3:=(rSeq (rSet 6 (zbb 3 zfj (zaz (zak (zyw (eOp ixD (eLst (zah (eC (.int 1)) (zah (eCB lenD (zah (eVar 1) aNil)) (zah (eOp powB (eCB lenD (zah (eVar 1) aNil)) (eC (.int 2))) (zah (eOp powB (eCB lenD (zah (eVar 1) aNil)) (eC (.int 3))) aNil))))) (eVar 3)))) (zaz (zak (eVar 4)) rNil))))
  (rSeq (rSet 7 (zak (eLst aNil)))
  (rSeq (rFor (rIP (zbq (eVar 6))) (gN 8)
  (rSeq (rSet 9 (zak (eLst aNil)))
  (rSeq (rFor (rIP (zcl (zah (eVar 3) aNil))) (gN 10)
  (rSeq (rApp 9 (zak (eIxV 1 (eOp modD (eVar 8) (eCB lenD (zah (eVar 1) aNil))))))
  (rSet 8 (zak (eOp zku (eVar 8) (eCB lenD (zah (eVar 1) aNil)))))))
  (rSeq (rSet 11 (zbb 2 zdo (zaz (zak (zhj ["_law_rule"] [] (zbq (eVar 7)) (gN 0) zdl (eIxV 0 (eC (.int 0))))) rNil)))
  (rApp 7 (rTup (zaz (zak (eVar 11)) (zaz (zak (eCB zxx (zah (eVar 9) aNil))) (zaz (zyh ["_law_k"] [0,1,2,3] (rIP (zcl (zah (eVar 5) aNil))) (gN 0) zdl (zbb 4 zid (zaz (zak (eVar 2)) (zaz (zak (eVar 3)) (zaz (zak (eVar 4)) rNil))))) rNil)))))))))
  (rS 0 (zjy 7)))))
noncomputable def zec:GR Pen3:=fnR 12 zht
noncomputable def zjn:SFr Pen3:=(rSeq (rSet 5 (zbb 2 zeb (zaz (zak (eVar 1)) rNil)))
  (rSeq (rSet 6 (zak (zhj ["_law_name","_law_elders"] [] (zbq (eVar 5)) (gT 2 (zav 0 (zav 1 zdu))) zdl (eVar 0))))
  (rSeq (rSet 7 (zak (eLst aNil)))
  (rSeq (rFor (rIP (zcl (zah (eVar 2) aNil))) (gN 8)
  (rSeq (rSet 9 (rCB minD (zaz (rOp addD (zak (eC (.int 1))) (zbb 2 zai (zaz (zak (eC (.int 3))) rNil))) (zaz (zak (eOp addD (eC (.int 2)) (eCB zvz (zah (eOp ltD (eVar 1) (eC (.int 7))) aNil)))) rNil))))
  (rApp 7 (rTup (zaz (zbb 2 zdo (zaz (zak (zhj ["_law_head"] [] (zbq (eVar 7)) (gN 0) zdl (eIxV 0 (eC (.int 0))))) rNil)) (zaz (zak (eVar 9)) rNil))))))
  (rSeq (rSet 10 (zak (eLst aNil)))
  (rSeq (rFor (rIP (zbq (eVar 7))) (gT 2 (zav 11 (zav 9 zdu)))
  (rApp 10 (rTup (zaz (zak (eVar 11)) (zaz (zak (eVar 9)) (zaz (zbb 6 zec (zaz (zak (eVar 6)) (zaz (zak (eVar 7)) (zaz (zak (eVar 9)) (zaz (zak (eVar 3)) (zaz (zak (eVar 4)) rNil)))))) rNil))))))
  (rRet (zak (eTup (zah (eVar 5) (zah (eVar 10) aNil)))))))))))
noncomputable def zfg:GR Pen3:=fnR 12 zjn
noncomputable def zie:SFX:=(xSeq (xOf (sFor (zbq (eIxV 0 (eC (.int 1)))) (gT 3 (zav 2 (zav 3 (zav 4 zdu))))
  (sIf (zdt (eOp eqD (eVar 2) (eVar 1))) (sRet (eTup (zah (eVar 3) (zah (eVar 4) aNil)))) sNil)))
  (zuh "NoDeed" (eVar 1)))
noncomputable def zdq:GFX:=fnX 5 zie
noncomputable def zjo:SF:=(sSeq (sAsg (eVar 0) (gT 2 (zav 2 (zav 3 zdu))))
  (sSeq (sFor (zbq (eVar 3)) (gT 3 (zav 4 (zav 5 (zav 6 zdu))))
  (sIf (zdt (eOp eqD (eVar 4) (eVar 1))) (sRet (eCB zfc (zah (eLst (zah (eTup (zah (eVar 2) (zah (eVar 5) (zah (zhj ["_law_rule","_law_kinds","_law_steps"] [] (zbq (eVar 6)) (gT 3 (zav 0 (zav 1 (zav 2 zdu)))) zdl (eTup (zah (eVar 0) (zah (eVar 1) aNil)))) aNil)))) aNil)) aNil))) sNil))
  (sRet (eCB zfc (zah (eTup (zah (eC (.str "at")) (zah (eVar 1) aNil))) aNil)))))
noncomputable def zed:GF:=fnD 7 zjo
noncomputable def zhu:SFr Pen3:=(rSeq (rAsg (zak (eVar 1)) (gT 2 (zav 2 (zav 3 zdu))))
  (rSeq (rSet 4 (zak (eOp addD (zhj ["_law_name","_law_elders"] [] (zbq (eVar 2)) (gT 2 (zav 0 (zav 1 zdu))) zdl (eVar 0)) (zhj ["_law_deed"] [] (zbq (eVar 3)) (gN 0) zdl (eIxV 0 (eC (.int 0)))))))
  (rSeq (rFor (rIP (zbq (eVar 3))) (gT 3 (zav 5 (zav 6 (zav 7 zdu))))
  (rSet 4 (zak (eOp addD (eVar 4) (zhj ["_law_rule"] [] (zbq (eVar 7)) (gN 0) zdl (eIxV 0 (eC (.int 0))))))))
  (rSeq (rApp 4 (zbb 2 zdo (zaz (zak (zhj ["_law_deed"] [] (zbq (eVar 3)) (gN 0) zdl (eIxV 0 (eC (.int 0))))) rNil)))
  (rSeq (rApp 4 (zak (eSl (eOp addD (eIxV 4 (eNeg (eC (.int 2)))) (eC (.str "a"))) zni (zls (eC (.int 8))))))
  (rRet (zbb 3 zfj (zaz (zak (eVar 4)) (zaz (zak (eC (.int 12))) rNil)))))))))
noncomputable def zee:GR Pen3:=fnR 8 zhu
theorem zpv:bootBuiltins "abs"=some (.builtin "abs"):=by decide +kernel
theorem zacj:bootBuiltins "all"=some (.builtin "all"):=by decide +kernel
theorem zur:bootBuiltins "int"=some (.type "int"):=by decide +kernel
theorem zcw:bootBuiltins "isinstance"=some (.builtin "isinstance"):=by decide +kernel
theorem zco:bootBuiltins "len"=some (.builtin "len"):=by decide +kernel
theorem zgp:bootBuiltins "list"=some (.type "list"):=by decide +kernel
theorem zus:bootBuiltins "min"=some (.builtin "min"):=by decide +kernel
theorem zez:bootBuiltins "repr"=some (.builtin "repr"):=by decide +kernel
theorem zof:bootBuiltins "tuple"=some (.type "tuple"):=by decide +kernel
noncomputable def top(i:Nat):Stmt:=PySem.Challenge.pw_bestcalls_k60_books_of_deeds.main.body.getD i (.Pass ⟨0,0,0,0⟩)
structure Txt(mg:Str->Option Value):Prop where
 abs:mg "abs"=none
 all:mg "all"=none
 int:mg "int"=none
 isinstance:mg "isinstance"=none
 len:mg "len"=none
 list:mg "list"=none
 min:mg "min"=none
 range:mg "range"=none
 repr:mg "repr"=none
 tuple:mg "tuple"=none
noncomputable abbrev zfh:Stmt:=top 13
noncomputable abbrev zjp:List Str:=["web"]
theorem znj:zjp.Nodup:=by decide +kernel
theorem zim:FnScope zjp ["web"] (zap zfh):=⟨rfl,rfl,rfl,znj,rfl,by decide +kernel,by decide +kernel⟩
noncomputable abbrev zmg:Stmt:=top 15
noncomputable abbrev zrj:List Str:=["program","deed","name","places","rules"]
theorem zif:zrj.Nodup:=by decide +kernel
theorem zwd:FnScope zrj ["program","deed"] (zap zmg):=⟨rfl,rfl,rfl,zif,rfl,by decide +kernel,by decide +kernel⟩
noncomputable abbrev zmh:Stmt:=top 16
noncomputable abbrev zrk:List Str:=["program","deed","places","rules"]
theorem zkc:zrk.Nodup:=by decide +kernel
theorem zwe:FnScope zrk ["program","deed"] (zap zmh):=⟨rfl,rfl,rfl,zkc,rfl,by decide +kernel,by decide +kernel⟩
noncomputable abbrev zmi:Stmt:=top 18
noncomputable abbrev zrl:List Str:=["_law_script"]
theorem zwf:zrl.Nodup:=by decide +kernel
theorem zwg:FnScope zrl ["_law_script"] (zap zmi):=⟨rfl,rfl,rfl,zwf,rfl,by decide +kernel,by decide +kernel⟩
noncomputable abbrev zkd:Stmt:=top 19
noncomputable abbrev zog:List Str:=["_law_pen_here","_law_many","_law_found","_law_at","_law_cell","_law_first","_law_last","_law_number"]
theorem zcp:zog.Nodup:=by decide +kernel
theorem ztj:FnScope zog ["_law_pen_here","_law_many"] (zap zkd):=⟨rfl,rfl,rfl,zcp,rfl,by decide +kernel,by decide +kernel⟩
noncomputable abbrev zke:Stmt:=top 20
noncomputable abbrev zoh:List Str:=["_law_pen_here","_law_taken","_law_abc","_law_way","_law_long","_law_at","_law_code","_law_letters","_law_k","_law_odd","_law_turn"]
theorem zbg:zoh.Nodup:=by decide +kernel
theorem ztk:FnScope zoh ["_law_pen_here","_law_taken"] (zap zke):=⟨rfl,rfl,rfl,zbg,rfl,by decide +kernel,by decide +kernel⟩
noncomputable abbrev zkf:Stmt:=top 21
noncomputable abbrev zoi:List Str:=["_law_pen_here","_law_pool","_law_count","_law_left","_law_found","_law_k"]
theorem zha:zoi.Nodup:=by decide +kernel
theorem ztl:FnScope zoi ["_law_pen_here","_law_pool","_law_count"] (zap zkf):=⟨rfl,rfl,rfl,zha,rfl,by decide +kernel,by decide +kernel⟩
noncomputable abbrev zmj:Stmt:=top 22
noncomputable abbrev zrm:List Str:=["_law_pen_here","_law_many","_law_way","_law_web_here","_law_names","_law_k","_law_name","_law_pool","_law_count"]
theorem zdr:zrm.Nodup:=by decide +kernel
theorem zwh:FnScope zrm ["_law_pen_here","_law_many"] (zap zmj):=⟨rfl,rfl,rfl,zdr,rfl,by decide +kernel,by decide +kernel⟩
noncomputable abbrev zhv:Stmt:=top 23
noncomputable abbrev zks:List Str:=["_law_pen_here","_law_way","_law_sign","_law_found","_law_k"]
theorem zdb:zks.Nodup:=by decide +kernel
theorem zpw:FnScope zks ["_law_pen_here"] (zap zhv):=⟨rfl,rfl,rfl,zdb,rfl,by decide +kernel,by decide +kernel⟩
noncomputable abbrev zkg:Stmt:=top 24
noncomputable abbrev zoj:List Str:=["_law_pen_here","_law_names","_law_heads","_law_places","_law_way","_law_deed","_law_wanted","_law_picks","_law_k"]
theorem zem:zoj.Nodup:=by decide +kernel
theorem ztm:FnScope zoj ["_law_pen_here","_law_names","_law_heads","_law_places"] (zap zkg):=⟨rfl,rfl,rfl,zem,rfl,by decide +kernel,by decide +kernel⟩
noncomputable abbrev zix:Stmt:=top 25
noncomputable abbrev zmk:List Str:=["_law_pen_here","_law_names","_law_heads","_law_places","_law_most","_law_steps","_law_numbers","_law_rules_here","_law_number","_law_kinds","_law_place","_law_name"]
theorem zch:zmk.Nodup:=by decide +kernel
theorem zrn:FnScope zmk ["_law_pen_here","_law_names","_law_heads","_law_places","_law_most","_law_steps"] (zap zix):=⟨rfl,rfl,rfl,zch,rfl,by decide +kernel,by decide +kernel⟩
noncomputable abbrev zhb:Stmt:=top 26
noncomputable abbrev zjq:List Str:=["_law_pen_here","_law_kinds","_law_deeds","_law_rules_here","_law_steps","_law_web_here","_law_names","_law_heads","_law_k","_law_places","_law_made","_law_name"]
theorem zbk:zjq.Nodup:=by decide +kernel
theorem znk:FnScope zjq ["_law_pen_here","_law_kinds","_law_deeds","_law_rules_here","_law_steps"] (zap zhb):=⟨rfl,rfl,rfl,zbk,rfl,by decide +kernel,by decide +kernel⟩
noncomputable abbrev ziy:Stmt:=top 27
noncomputable abbrev zml:List Str:=["_law_thing","_law_found","_law_left","_law_part"]
theorem zgb:zml.Nodup:=by decide +kernel
theorem zro:FnScope zml ["_law_thing"] (zap ziy):=⟨rfl,rfl,rfl,zgb,rfl,by decide +kernel,by decide +kernel⟩
noncomputable abbrev zkh:Stmt:=top 28
noncomputable abbrev zok:List Str:=["_law_program_here","_law_name","e","_law_caught","_law_book"]
theorem zfu:zok.Nodup:=by decide +kernel
theorem ztn:FnScope zok ["_law_program_here","_law_name"] (zap zkh):=⟨rfl,rfl,rfl,zfu,rfl,by decide +kernel,by decide +kernel⟩
noncomputable abbrev zmm:Stmt:=top 29
noncomputable abbrev zrp:List Str:=["_law_program_here","_law_name","_law_web_here","_law_deeds","_law_one","_law_places","_law_rules_here"]
theorem zfk:zrp.Nodup:=by decide +kernel
theorem zwi:FnScope zrp ["_law_program_here","_law_name"] (zap zmm):=⟨rfl,rfl,rfl,zfk,rfl,by decide +kernel,by decide +kernel⟩
noncomputable abbrev ziz:Stmt:=top 30
noncomputable abbrev zmn:List Str:=["_law_pen_here","_law_program_here","_law_web_here","_law_deeds","_law_found","_law_name","_law_places","_law_rules_here"]
theorem zci:zmn.Nodup:=by decide +kernel
theorem zrq:FnScope zmn ["_law_pen_here","_law_program_here"] (zap ziz):=⟨rfl,rfl,rfl,zci,rfl,by decide +kernel,by decide +kernel⟩
noncomputable abbrev zwj:Stmt:=top 31
noncomputable abbrev zahi:List Str:=["_law_script","_law_pen_here","_law_deeds","_law_kinds","_law_program_here","_law_kept","_law_held","_law_name","_law_due_here","_law_first","_law_second","_law_part"]
theorem zgq:zahi.Nodup:=by decide +kernel
theorem zald:FnScope zahi ["_law_script"] (zap zwj):=⟨rfl,rfl,rfl,zgq,rfl,by decide +kernel,by decide +kernel⟩
theorem zdc:(["name","elders"]:List Str).Nodup:=by decide +kernel
theorem zmo:(["_law_rule"]:List Str).Nodup:=by decide +kernel
theorem zmp:(["_law_k","_law_pen_here","_law_names","_law_heads","_law_places"]:List Str).Nodup:=by decide +kernel
theorem zgr:(["_law_name","_law_elders"]:List Str).Nodup:=by decide +kernel
theorem zki:(["_law_head"]:List Str).Nodup:=by decide +kernel
theorem zhc:(["_law_rule","_law_kinds","_law_steps"]:List Str).Nodup:=by decide +kernel
theorem zhw:(["_law_name","_law_elders"]:List Str).Nodup:=by decide +kernel
theorem zmq:(["_law_deed"]:List Str).Nodup:=by decide +kernel
theorem zmr:(["_law_rule"]:List Str).Nodup:=by decide +kernel
theorem zms:(["_law_deed"]:List Str).Nodup:=by decide +kernel
section
variable(P:Program)(w:World)(K:qC)(mg:Str->Option Value)(base:Heap)
noncomputable abbrev zrr(cl:Str->Addr):Prop:=DnX P w K mg base "deed_in" ["program","deed"] 3 (spX cl 2 zdq)
noncomputable abbrev zrs:Prop:=Dn P w K mg base "_law_pen" ["_law_script"] 1 (zoa K)
noncomputable abbrev zds:Prop:=Dn P w K mg base "_law_take" ["_law_pen_here","_law_many"] 1 (spR (zey K) 2 zai)
noncomputable abbrev zgs:Prop:=Dn P w K mg base "_law_word" ["_law_pen_here","_law_taken"] 2 (spR (zey K) 2 zdo)
noncomputable abbrev zig:Prop:=Dn P w K mg base "_law_some" ["_law_pen_here","_law_pool","_law_count"] 2 (spR (zey K) 3 zfj)
noncomputable abbrev zrt:Prop:=Dn P w K mg base "_law_web" ["_law_pen_here","_law_many"] 3 (spR (zey K) 2 zeb)
noncomputable abbrev zkt:Prop:=Dn P w K mg base "_law_figure" ["_law_pen_here"] 2 (spR (zey K) 1 zdp)
noncomputable abbrev zol:Prop:=Dn P w K mg base "_law_step" ["_law_pen_here","_law_names","_law_heads","_law_places"] 3 (spR (zey K) 4 zid)
noncomputable abbrev zmt:Prop:=Dn P w K mg base "_law_rules" ["_law_pen_here","_law_names","_law_heads","_law_places","_law_most","_law_steps"] 4 (spR (zey K) 6 zec)
noncomputable abbrev zjr:Prop:=Dn P w K mg base "_law_program" ["_law_pen_here","_law_kinds","_law_deeds","_law_rules_here","_law_steps"] 5 (spR (zey K) 5 zfg)
noncomputable abbrev zru:Prop:=Dn P w K mg base "_law_due" ["_law_program_here","_law_name"] 1 (spD 2 zed)
noncomputable abbrev zmu:Prop:=Dn P w K mg base "_law_asked" ["_law_pen_here","_law_program_here"] 3 (spR (zey K) 2 zee)
end
section
variable{P:Program}{w:World}{K:qC}{mg:Str->Option Value}{base:Heap}
theorem zwk {f:Addr} {fd:qq} {cl:Str->Addr} (F:Fun K "deed_in" "deed_in" zmg f fd) (T:Txt mg)  (X_NoDeed:XcOk P w K mg base "NoDeed" (cl "NoDeed")):FnOk P w K mg base (CXE P w) 3 f fd ["program","deed"] (spX cl 2 zdq):=by
 refine zadt F zwd (λvs H Q E h=>zagi h) (λcdv A outer s H vs Q E hr h0k h=>?_)
 have hu:=zhi hr
 apply Exists.intro
 apply And.intro
 ·refine' Bx.out (zad (zdg PassesOwn.leaving rfl (zbj (K:=K) rfl (bpeX (zde (K:=K) rfl) (bv 0) zaf)) (zcn (K:=K) (n:=3) rfl rfl (zas (bpgN (i:=2) zif rfl (Or.inl rfl)) (zas (bpgN (i:=3) zif rfl (Or.inl rfl)) (zas (bpgN (i:=4) zif rfl (Or.inl rfl)) zcm (by rfl)) (by rfl)) (by rfl)) (by rfl) (by rfl))
  (zao (zew (zbi (zkn (K:=K) rfl hr.units) (bv 2) (bv 1) (zdd _)) (zao (zbh (zbv (bpaC (bv 3) (bpaC (bv 4) zab))))) zcd)) (by intro _;rfl))
 (zao (zyu (C:=cl "NoDeed") X_NoDeed (hr.mono (by decide)) rfl rfl (zaki h0k) (by rfl) (bv 1) (by decide) (by rfl))))
 exact fn_x (f:=zie) ((zagh (zakg (zado (zei (zfp (se_c λ_=>zaa))) (zhm (zbe (zbe (zbe zfn)))) (zajr (st_t (zbd zqs (zae 2) (zae 1))) (zub (zkm (zag (zae 3) (zag (zae 4) zau)))) zadm))) (zys (zae 1)))) h
theorem zwl{f:Addr}{fd:qq}(F:Fun K "_law_pen" "_law_pen" zmi f fd)(T:Txt mg):FnOk P w K mg base CX0 1 f fd ["_law_script"] (zoa K):=by
 refine F.ok zwg (λvs H Q E h=>zwb h) (λcdv A outer s H vs Q E hr h=>?_)
 have hu:=zhi hr
 apply Exists.intro
 apply And.intro
 ·refine' Bx.out (zao (zbh (zca (bpaC (bv 0) (bpaC zaf (bpaC zaf zab))))))
 exact zahe h
theorem zto {f:Addr} {fd:qq} (F:Fun K "_law_take" "_law_take" zkd f fd) (T:Txt mg)  : FnOk P w K mg base CX0 1 f fd ["_law_pen_here","_law_many"] (spR (zey K) 2 zai):=by
 refine F.ok ztj (λvs H Q E h=>zgx h) (λcdv A outer s H vs Q E hr h=>?_)
 have hu:=zhi hr
 apply Exists.intro
 apply And.intro
 ·refine' Bx.out (zad (zew (zbi zvd (bpeX (zde (K:=K) rfl) (bv 0) zaf) zaf (zdd _)) (zad (bpsS (i:=2) zcp rfl (Or.inl rfl) (zba zgl (bpeX (zde (K:=K) rfl) (bv 0) zaf) (bv 1)))
 (zad (zkz (bv 0) zaf (zba zlj (bpeX (zde (K:=K) rfl) (bv 0) zaf) (bv 1)) (by intro _;rfl) (by rfl) (by rfl) (by rfl))
 (zao (zbh (bv 2))))) zcd)
 (zad (bpsS (i:=3) zcp rfl (Or.inl rfl) (bpeX (zde (K:=K) rfl) (bv 0) zaf))
 (zad (zkz (bv 0) zaf (zba (zbr (K:=K) rfl) (bv 3) zaf) (by intro _;rfl) (by rfl) (by rfl) (by rfl))
 (zad (bpsS (i:=4) zcp rfl (Or.inl rfl) zaf)
 (zad (zew (zbi zvd (bpeB (zbp (K:=K) rfl) T.len zco (bpaC (bpeX (zde (K:=K) rfl) (bv 0) zaf) zab)) zaf (zdd _)) (zao (bpsS (i:=4) zcp rfl (Or.inl rfl) (bpeX (zde (K:=K) rfl) (bpeX (zde (K:=K) rfl) (bv 0) zaf) (zba zgl (bv 3) (bpeB (zbp (K:=K) rfl) T.len zco (bpaC (bpeX (zde (K:=K) rfl) (bv 0) zaf) zab)))))) zcd)
 (zad (zew (zsw (zbi zael (bv 3) (bpeB (zbp (K:=K) rfl) T.len zco (bpaC (bpeX (zde (K:=K) rfl) (bv 0) zaf) zab)) (zdd _)) (zpi (zbi zamt (bpeB zor T.abs zpv (bpaC (bv 4) zab)) (zba zgh zaf zaf) (zdd _)))).pt (zad (zkz (bv 0) zaf (zba zlj (bpeB zor T.abs zpv (bpaC (bv 4) zab)) (bv 1)) (by intro _;rfl) (by rfl) (by rfl) (by rfl))
 (zao (zbh (zba zgl (bpeB zor T.abs zpv (bpaC (bv 4) zab)) (bv 1))))) zcd)
 (zad (bpsS (i:=5) zcp rfl (Or.inl rfl) (bpeX (zde (K:=K) rfl) (zca (bpaC zaf (bpaC zaf (bpaC zaf (bpaC zaf (bpaC zaf (bpaC zaf (bpaC zaf zab)))))))) (zba zgl (bv 3) zaf)))
 (zad (bpsS (i:=6) zcp rfl (Or.inl rfl) (bpeX (zde (K:=K) rfl) (zca (bpaC zaf (bpaC zaf (bpaC zaf (bpaC zaf (bpaC zaf zab)))))) (zba zgl (bv 3) zaf)))
 (zad (bpsS (i:=7) zcp rfl (Or.inl rfl) (zba zgl (zba zgh (zba (zbr (K:=K) rfl) (zba zgl (bv 4) (bv 5)) (zba zgc (zba zgc (zba (zbr (K:=K) rfl) (bv 3) zaf) (zba (zbr (K:=K) rfl) (bv 3) zaf)) zaf)) zaf) (bv 5)))
 (zad (bpsS (i:=7) zcp rfl (Or.inl rfl) (zba zgl (zba zgh (zba (zbr (K:=K) rfl) (zba zgc (bv 7) (zba (zbr (K:=K) rfl) (zba zgc zaf (bv 3)) zaf)) (bv 3)) zaf) (bv 6)))
 (zao (zbh (zba zgl (zba zlj (bv 7) zaf) (bv 1))))))))))))))
 exact fn_r (by decide) (F:=zil) ((zal (zho (zyf (zcv zvo (zle (i:=2)) (zac (se_c λ_=>zaa)))) (zal (zax (zcv zhf (zle (i:=2)) (zac (zae 1))) (by decide)) (zal (zpu (i:=2) (zcv zlr (zle (i:=2)) (zac (zae 1)))) (zqu zjg))) zgf) (zal (zax (zle (i:=1)) (by decide)) (zal (zpu (i:=1) (zac (zbd zeh (zae 3) (se_c λ_=>zaa)))) (zal (zax (zac (se_c λ_=>zaa)) (by decide)) (zal (zho (zyf (zcv zvo zum (zac (se_c λ_=>zaa)))) (zax (zahd (zae 3)) (by decide)) zgf) (zal (zho (zye (zyf (zcv zaff (zac (zae 3)) zum)) (zga (st_t (zbd zana (zdk zxu (zag (zae 4) zau)) (zbd zgi (se_c λ_=>zaa) (se_c λ_=>zaa)))))) (zal (zpu (i:=2) (zac (zbd zlr (zdk zxu (zag (zae 4) zau)) (zae 1)))) (zfb (zac (zbd zhf (zdk zxu (zag (zae 4) zau)) (zae 1))))) zgf) (zal (zax (zac (zbd znh (zeu (zag (se_c λ_=>zaa) (zag (se_c λ_=>zaa) (zag (se_c λ_=>zaa) (zag (se_c λ_=>zaa) (zag (se_c λ_=>zaa) (zag (se_c λ_=>zaa) (zag (se_c λ_=>zaa) zau)))))))) (zbd zhf (zae 3) (se_c λ_=>zaa)))) (by decide)) (zal (zax (zac (zbd znh (zeu (zag (se_c λ_=>zaa) (zag (se_c λ_=>zaa) (zag (se_c λ_=>zaa) (zag (se_c λ_=>zaa) (zag (se_c λ_=>zaa) zau)))))) (zbd zhf (zae 3) (se_c λ_=>zaa)))) (by decide)) (zal (zax (zac (zbd zhf (zbd zgi (zbd zeh (zbd zhf (zae 4) (zae 5)) (zbd zij (zbd zij (zbd zeh (zae 3) (se_c λ_=>zaa)) (zbd zeh (zae 3) (se_c λ_=>zaa))) (se_c λ_=>zaa))) (se_c λ_=>zaa)) (zae 5))) (by decide)) (zal (zax (zac (zbd zhf (zbd zgi (zbd zeh (zbd zij (zae 7) (zbd zeh (zbd zij (se_c λ_=>zaa) (zae 3)) (se_c λ_=>zaa))) (zae 3)) (se_c λ_=>zaa)) (zae 6))) (by decide)) (zfb (zac (zbd zhf (zbd zlr (zae 7) (se_c λ_=>zaa)) (zae 1))))))))))))))) h
theorem ztp{f:Addr}{fd:qq}(F:Fun K "_law_word" "_law_word" zke f fd)(T:Txt mg)(D_law_take:zds P w K mg base):FnOk P w K mg base CX0 2 f fd ["_law_pen_here","_law_taken"] (spR (zey K) 2 zdo):=by
 refine F.ok ztk (λvs H Q E h=>zgx h) (λcdv A outer s H vs Q E hr h=>?_)
 have hu:=zhi hr
 apply Exists.intro
 apply And.intro
 ·refine' Bx.out (zad (bpsS (i:=2) zbg rfl (Or.inl rfl) zbu)
 (zad (bpsS (i:=3) zbg rfl (Or.inl rfl) (bpeD D_law_take hr (bpaC (bv 0) (bpaC zaf zab))))
 (zad (bpsS (i:=4) zbg rfl (Or.inl rfl) (zba (zbr (K:=K) rfl) zaf (bpeD D_law_take hr (bpaC (bv 0) (bpaC zaf zab)))))
 (zad (bpsS (i:=5) zbg rfl (Or.inl rfl) (bpeD D_law_take hr (bpaC (bv 0) (bpaC (bv 4) zab))))
 (zad (bpsS (i:=6) zbg rfl (Or.inl rfl) (bpeD D_law_take hr (bpaC (bv 0) (bpaC (zba zgh zaf zaf) zab))))
 (zad (bpsS (i:=6) zbg rfl (Or.inl rfl) (zba (zbr (K:=K) rfl) (bv 6) (zba zgc (zba zgh zaf zaf) (bpeD D_law_take hr (bpaC (bv 0) (bpaC (zba zgh zaf zaf) zab))))))
 (zad (bpsS (i:=7) zbg rfl (Or.inl rfl) (zca zab))
 (zad (zdg qr rfl (zcz rfl T.range (bpaC (bv 4) zab) (by rfl)) (bpgN (i:=8) zbg rfl (Or.inl rfl))
  (zad (zbs (zbw (K:=K) rfl qN qT qS zbl (bv 7) (bpaC (bpeX (zde (K:=K) rfl) (bv 2) (zba zgl (bv 6) zaf)) zab) (by rfl) (by rfl) (by rfl) (zay (by rfl)) (by rfl)) (by rfl))
 (zao (bpsS (i:=6) zbg rfl (Or.inl rfl) (zba zlj (bv 6) zaf)))) (by intro _;rfl))
 (zad (bpsS (i:=9) zbg rfl (Or.inl rfl) (bpeX (zde (K:=K) rfl) (zca (bpaC zbu (bpaC zbu (bpaC zbu (bpaC zbu (bpaC zbu (bpaC zbu (bpaC zbu (bpaC zbu (bpaC zbu (bpaC zbu zab))))))))))) (bpeD D_law_take hr (bpaC (bv 0) (bpaC zaf zab)))))
 (zad (zew (zsw (zbi (zkn (K:=K) rfl hr.units) (bpeD D_law_take hr (bpaC (bv 0) (bpaC zaf zab))) zaf (zdd _)) (zpi (zbi (zqr (K:=K) rfl) (bv 9) (bv 1) (by rfl)))).pt (zao (zbh (bv 9))) zcd)
 (zad (zew (zsw (zbi (zkn (K:=K) rfl hr.units) (bv 3) zaf (zdd _)) (zpi (zbi zvd (bpeB (zbp (K:=K) rfl) T.len zco (bpaC (bv 1) zab)) zaf (zdd _)))).pt (zad (bpsS (i:=7) zbg rfl (Or.inl rfl) (bpeT (zkb (K:=K) rfl rfl) T.list zgp (bpaC (bpeX (zde (K:=K) rfl) (bv 1) (zyd zwz zaf)) zab)))
 (zao (bpsS (i:=5) zbg rfl (Or.inl rfl) (zba zgl (bv 5) (bpeB (zbp (K:=K) rfl) T.len zco (bpaC (bv 7) zab)))))) zcd)
 (zad (zdg qr rfl (zcz rfl T.range (bpaC zaf zab) (by rfl)) (bpgN (i:=10) zbg rfl (Or.inl rfl))
  (zad (zew (zbi (zqr (K:=K) rfl) (zbw (K:=K) rfl qAl qBE qBD (zpq (sep:="")) zbu (bpaC (bv 7) zab) (by rfl) (by rfl) (by rfl) (zay (by rfl)) (by rfl)) (bv 1) (by rfl)) (zao (zbh (zbw (K:=K) rfl qAl qBE qBD (zpq (sep:="")) zbu (bpaC (bv 7) zab) (by rfl) (by rfl) (by rfl) (zay (by rfl)) (by rfl)))) zcd)
 (zao (zkz (bv 7) (bv 5) (bpeX (zde (K:=K) rfl) (bv 2) (zba zgl (zba (zbr (K:=K) rfl) (zbw (K:=K) rfl qAl PySem.F.slot_str_find PySem.F.type_str_find zahb (bv 2) (bpaC (bpeX (zde (K:=K) rfl) (bv 7) (bv 5)) zab) (by rfl) (by rfl) (by rfl) (zay (by rfl)) (by rfl)) zaf) zaf)) (by intro _;rfl) (by rfl) (by rfl) (by rfl)))) (by intro _;rfl))
 (zao (zbh (zbw (K:=K) rfl qAl qBE qBD (zpq (sep:="")) zbu (bpaC (bv 7) zab) (by rfl) (by rfl) (by rfl) (zay (by rfl)) (by rfl))))))))))))))))
 exact fn_r (by decide) (F:=zoc) ((zal (zax (zac (se_c λ_=>zat)) (by decide)) (zal (zax (zaq (zaj (zac (se_c λ_=>zaa)) zaw)) (by decide)) (zal (zax (zcv zeh (zac (se_c λ_=>zaa)) (zaq (zaj (zac (se_c λ_=>zaa)) zaw))) (by decide)) (zal (zax (zaq (zaj (zac (zae 4)) zaw)) (by decide)) (zal (zax (zaq (zaj (zac (zbd zgi (se_c λ_=>zaa) (se_c λ_=>zaa))) zaw)) (by decide)) (zal (zax (zcv zeh (zac (zae 6)) (zcv zij (zac (zbd zgi (se_c λ_=>zaa) (se_c λ_=>zaa))) (zaq (zaj (zac (zbd zgi (se_c λ_=>zaa) (se_c λ_=>zaa))) zaw)))) (by decide)) (zal (zax (zac (zeu zau)) (by decide)) (zal (zfr (zdm (zdv (zag (zae 4) zau))) (zeq (by decide)) (zdx (by decide)) (zal (zgg (zac (zfp (zbd zhf (zae 6) (se_c λ_=>zaa))))) (zax (zac (zbd zlr (zae 6) (se_c λ_=>zaa))) (by decide)))) (zal (zax (zcv znh (zac (zeu (zag (se_c λ_=>zat) (zag (se_c λ_=>zat) (zag (se_c λ_=>zat) (zag (se_c λ_=>zat) (zag (se_c λ_=>zat) (zag (se_c λ_=>zat) (zag (se_c λ_=>zat) (zag (se_c λ_=>zat) (zag (se_c λ_=>zat) (zag (se_c λ_=>zat) zau)))))))))))) (zaq (zaj (zac (se_c λ_=>zaa)) zaw))) (by decide)) (zal (zho (zye (zyf (zcv zqs (zaq (zaj (zac (se_c λ_=>zaa)) zaw)) (zac (se_c λ_=>zaa)))) (zga (st_t (zbd zajm (zae 9) (zae 1))))) (zqu zjg) zgf) (zal (zho (zga (zajn (st_t (zbd zqs (zae 3) (se_c λ_=>zaa))) (st_t (zbd zvo (zdk zhg (zag (zae 1) zau)) (se_c λ_=>zaa))))) (zal (zax (zac (zdk zpt (zag (zfp (zya (se_c λ_=>zaa))) zau))) (by decide)) (zax (zac (zbd zhf (zae 5) (zdk zhg (zag (zae 7) zau)))) (by decide))) zgf) (zal (zfr (zdm (zdv (zag (se_c λ_=>zaa) zau))) (zeq (by decide)) (zdx (by decide)) (zal (zho (zga (st_t (zbd zajm (zpr (zae 7)) (zae 1)))) (zfb (zac (zpr (zae 7)))) zgf) (zabo (zac (zae 5)) (zac (zfp (zbd zhf (zbd zeh (zahc (zae 2) (zfp (zae 5))) (se_c λ_=>zaa)) (se_c λ_=>zaa))))))) (zfb (zac (zpr (zae 7))))))))))))))))) h
theorem ztq{f:Addr}{fd:qq}(F:Fun K "_law_some" "_law_some" zkf f fd)(T:Txt mg)(D_law_take:zds P w K mg base):FnOk P w K mg base CX0 2 f fd ["_law_pen_here","_law_pool","_law_count"] (spR (zey K) 3 zfj):=by
 refine F.ok ztl (λvs H Q E h=>zgx h) (λcdv A outer s H vs Q E hr h=>?_)
 have hu:=zhi hr
 apply Exists.intro
 apply And.intro
 ·refine' Bx.out (zad (bpsS (i:=3) zha rfl (Or.inl rfl) (bpeT (zkb (K:=K) rfl rfl) T.list zgp (bpaC (bv 1) zab)))
 (zad (bpsS (i:=4) zha rfl (Or.inl rfl) (zca zab))
 (zad (zdg qr rfl (zcz rfl T.range (bpaC (bpeB (zqe rfl) T.min zus (bpaC (bv 2) (bpaC (bpeB (zbp (K:=K) rfl) T.len zco (bpaC (bv 3) zab)) zab))) zab) (by rfl)) (bpgN (i:=5) zha rfl (Or.inl rfl))
  (zao (zbs (zbw (K:=K) rfl qN qT qS zbl (bv 4) (bpaC (zbw (K:=K) rfl qN qB5 qB4 zaau (bv 3) (bpaC (bpeD D_law_take hr (bpaC (bv 0) (bpaC (bpeB (zbp (K:=K) rfl) T.len zco (bpaC (bv 3) zab)) zab))) zab) (by rfl) (by rfl) (by rfl) (zay (by rfl)) (by rfl)) zab) (by rfl) (by rfl) (by rfl) (zay (by rfl)) (by rfl)) (by rfl))) (by intro _;rfl))
 (zao (zbh (bv 4))))))
 exact fn_r (by decide) (F:=zod) ((zal (zax (zac (zdk zpt (zag (zae 1) zau))) (by decide)) (zal (zax (zac (zeu zau)) (by decide)) (zal (zfr (zdm (zdv (zag (zdk zadl (zag (zae 2) (zag (zdk zhg (zag (zae 3) zau)) zau))) zau))) (zeq (by decide)) (zdx (by decide)) (zvv (zaq (zaj (zac (zdk zhg (zag (zae 3) zau))) zaw)))) (zqu zjg))))) h
theorem zwm{f:Addr}{fd:qq}(F:Fun K "_law_web" "_law_web" zmj f fd)(T:Txt mg)(D_law_some:zig P w K mg base)(D_law_take:zds P w K mg base)(D_law_word:zgs P w K mg base):FnOk P w K mg base CX0 3 f fd ["_law_pen_here","_law_many"] (spR (zey K) 2 zeb):=by
 refine F.ok zwh (λvs H Q E h=>zgx h) (λcdv A outer s H vs Q E hr h=>?_)
 have hu:=zhi hr
 apply Exists.intro
 apply And.intro
 ·refine' Bx.out (zad (bpsS (i:=2) zdr rfl (Or.inl rfl) (bpeD D_law_take hr (bpaC (bv 0) (bpaC zaf zab))))
 (zad (bpsS (i:=3) zdr rfl (Or.inl rfl) (zca zab))
 (zad (bpsS (i:=4) zdr rfl (Or.inl rfl) (zca zab))
 (zad (zdg qr rfl (zcz rfl T.range (bpaC (bv 1) zab) (by rfl)) (bpgN (i:=5) zdr rfl (Or.inl rfl))
  (zad (bpsS (i:=6) zdr rfl (Or.inl rfl) (bpeD D_law_word hr (bpaC (bv 0) (bpaC (bv 4) zab))))
 (zad (bpsS (i:=7) zdr rfl (Or.inl rfl) (bpeX (zde (K:=K) rfl) (zca (bpaC (zly (zafe (K:=K) rfl) (bv 4) (zpg (zyd zwz zaf)) zph) (bpaC (bv 4) (bpaC (bv 4) (bpaC (zly (zafe (K:=K) rfl) (bv 4) zph (zpg zaf)) (bpaC (bv 4) zab)))))) (bv 2)))
 (zad (bpsS (i:=8) zdr rfl (Or.inl rfl) (bpeX (zde (K:=K) rfl) (zca (bpaC zaf (bpaC zaf (bpaC (zba (zbr (K:=K) rfl) zaf (bpeD D_law_take hr (bpaC (bv 0) (bpaC zaf zab)))) (bpaC (zba zgc zaf (bpeT zqf T.int zur (bpaC (zpe zvd (bv 5) zaf (zdd _)) zab))) (bpaC (bpeD D_law_take hr (bpaC (bv 0) (bpaC zaf zab))) zab)))))) (bv 2)))
 (zad (zbs (zbw (K:=K) rfl qN qT qS zbl (bv 3) (bpaC (zbv (bpaC (bv 6) (bpaC (bpeD D_law_some hr (bpaC (bv 0) (bpaC (bv 7) (bpaC (bv 8) zab)))) zab))) zab) (by rfl) (by rfl) (by rfl) (zay (by rfl)) (by rfl)) (by rfl))
 (zao (zbs (zbw (K:=K) rfl qN qT qS zbl (bv 4) (bpaC (bv 6) zab) (by rfl) (by rfl) (by rfl) (zay (by rfl)) (by rfl)) (by rfl))))))) (by intro _;rfl))
 (zao (zbh (bv 3)))))))
 exact fn_r (by decide) (F:=zjm) ((zal (zax (zaq (zaj (zac (se_c λ_=>zaa)) zaw)) (by decide)) (zal (zax (zac (zeu zau)) (by decide)) (zal (zax (zac (zeu zau)) (by decide)) (zal (zfr (zdm (zdv (zag (zae 1) zau))) (zeq (by decide)) (zdx (by decide)) (zal (zax (zaq (zaj (zac (zae 4)) zaw)) (by decide)) (zaca (zbd znh (zeu (zag (zafk (zae 4) (zss (zya (se_c λ_=>zaa))) zsr) (zag (zae 4) (zag (zae 4) (zag (zafk (zae 4) zsr (zss (se_c λ_=>zaa))) (zag (zae 4) zau)))))) (zae 2)) (zcv znh (zafx (zaj (zac (se_c λ_=>zaa)) (zaj (zac (se_c λ_=>zaa)) (zaj (zcv zeh (zac (se_c λ_=>zaa)) (zaq (zaj (zac (se_c λ_=>zaa)) zaw))) (zaj (zac (zbd zij (se_c λ_=>zaa) (zdk zzg (zag (zbd zvo (zae 5) (se_c λ_=>zaa)) zau)))) (zaj (zaq (zaj (zac (se_c λ_=>zaa)) zaw)) zaw)))))) (zac (zae 2))) (zgg (zac (zae 6))) (by decide) (by decide) (by decide) (by decide) (by decide)))) (zqu zjg)))))) h
theorem zpx{f:Addr}{fd:qq}(F:Fun K "_law_figure" "_law_figure" zhv f fd)(T:Txt mg)(D_law_take:zds P w K mg base):FnOk P w K mg base CX0 2 f fd ["_law_pen_here"] (spR (zey K) 1 zdp):=by
 refine F.ok zpw (λvs H Q E h=>zgx h) (λcdv A outer s H vs Q E hr h=>?_)
 have hu:=zhi hr
 apply Exists.intro
 apply And.intro
 ·refine' Bx.out (zad (bpsS (i:=1) zdb rfl (Or.inl rfl) (bpeD D_law_take hr (bpaC (bv 0) (bpaC zaf zab))))
 (zad (bpsS (i:=2) zdb rfl (Or.inl rfl) (zba zait zaf (zba zgc zaf (bpeD D_law_take hr (bpaC (bv 0) (bpaC zaf zab))))))
 (zad (zew (zbi zvd (bv 1) zaf (zdd _)) (zao (zbh (zba zgc (bv 2) (bpeD D_law_take hr (bpaC (bv 0) (bpaC zaf zab)))))) zcd)
 (zad (bpsS (i:=3) zdb rfl (Or.inl rfl) zaf)
 (zad (zdg qr rfl (zcz rfl T.range (bpaC zaf zab) (by rfl)) (bpgN (i:=4) zdb rfl (Or.inl rfl))
  (zao (bpsS (i:=3) zdb rfl (Or.inl rfl) (zba (zbr (K:=K) rfl) (zba zgc (bv 3) (zba zgh zaf zaf)) (bpeD D_law_take hr (bpaC (bv 0) (bpaC (zba zgh zaf zaf) zab)))))) (by intro _;rfl))
 (zao (zbh (zba zgc (bv 2) (bv 3)))))))))
 exact fn_r (by decide) (F:=zkr) ((zal (zax (zaq (zaj (zac (se_c λ_=>zaa)) zaw)) (by decide)) (zal (zax (zcv zajl (zac (se_c λ_=>zaa)) (zcv zij (zac (se_c λ_=>zaa)) (zaq (zaj (zac (se_c λ_=>zaa)) zaw)))) (by decide)) (zal (zho (zga (st_t (zbd zvo (zae 1) (se_c λ_=>zaa)))) (zfb (zcv zij (zac (zae 2)) (zaq (zaj (zac (se_c λ_=>zaa)) zaw)))) zgf) (zal (zax (zac (se_c λ_=>zaa)) (by decide)) (zal (zfr (zdm (zdv (zag (se_c λ_=>zaa) zau))) (zeq (by decide)) (zdx (by decide)) (zax (zcv zeh (zac (zbd zij (zae 3) (zbd zgi (se_c λ_=>zaa) (se_c λ_=>zaa)))) (zaq (zaj (zac (zbd zgi (se_c λ_=>zaa) (se_c λ_=>zaa))) zaw))) (by decide))) (zfb (zac (zbd zij (zae 2) (zae 3)))))))))) h
theorem ztr{f:Addr}{fd:qq}(F:Fun K "_law_step" "_law_step" zkg f fd)(T:Txt mg)(D_law_figure:zkt P w K mg base)(D_law_take:zds P w K mg base):FnOk P w K mg base CX0 3 f fd ["_law_pen_here","_law_names","_law_heads","_law_places"] (spR (zey K) 4 zid):=by
 refine F.ok ztm (λvs H Q E h=>zgx h) (λcdv A outer s H vs Q E hr h=>?_)
 have hu:=zhi hr
 apply Exists.intro
 apply And.intro
 ·refine' Bx.out (zad (bpsS (i:=4) zem rfl (Or.inl rfl) (bpeD D_law_take hr (bpaC (bv 0) (bpaC zaf zab))))
 (zad (zpj (bpeX (zde (K:=K) rfl) (bv 2) (bpeD D_law_take hr (bpaC (bv 0) (bpaC (bpeB (zbp (K:=K) rfl) T.len zco (bpaC (bv 2) zab)) zab)))) (zcn (K:=K) (n:=2) rfl rfl (zas (bpgN (i:=5) zem rfl (Or.inl rfl)) (zas (bpgN (i:=6) zem rfl (Or.inl rfl)) zcm (by rfl)) (by rfl)) (by rfl) (by rfl)) (by rfl) (by rfl) (by rfl))
 (zad (zew (zbi zael (bv 4) zaf (zdd _)) (zao (zbh (zbv (bpaC zbu (bpaC (bpeD D_law_figure hr (bpaC (bv 0) zab)) zab))))) zcd)
 (zad (zew (zbi (zkn (K:=K) rfl hr.units) (bv 4) zaf (zdd _)) (zao (zbh (zbv (bpaC zbu (bpaC (bpeD D_law_take hr (bpaC (bv 0) (bpaC (bv 3) zab))) zab))))) zcd)
 (zad (zew (zbi (zkn (K:=K) rfl hr.units) (bv 4) zaf (zdd _)) (zao (zbh (zbv (bpaC zbu zab)))) zcd)
 (zad (bpsS (i:=7) zem rfl (Or.inl rfl) (zca zab))
 (zad (zdg qr rfl (zcz rfl T.range (bpaC (bv 6) zab) (by rfl)) (bpgN (i:=8) zem rfl (Or.inl rfl))
  (zao (zew (zbi (zkn (K:=K) rfl hr.units) (bpeD D_law_take hr (bpaC (bv 0) (bpaC zaf zab))) zaf (zdd _)) (zao (zbs (zbw (K:=K) rfl qN qT qS zbl (bv 7) (bpaC (zbv (bpaC zbu (bpaC (bpeD D_law_take hr (bpaC (bv 0) (bpaC (bv 3) zab))) zab))) zab) (by rfl) (by rfl) (by rfl) (zay (by rfl)) (by rfl)) (by rfl))) (zao (zbs (zbw (K:=K) rfl qN qT qS zbl (bv 7) (bpaC (zbv (bpaC zbu (bpaC (bpeX (zde (K:=K) rfl) (bv 1) (bpeD D_law_take hr (bpaC (bv 0) (bpaC (bpeB (zbp (K:=K) rfl) T.len zco (bpaC (bv 1) zab)) zab)))) (bpaC (bpeD D_law_figure hr (bpaC (bv 0) zab)) zab)))) zab) (by rfl) (by rfl) (by rfl) (zay (by rfl)) (by rfl)) (by rfl))))) (by intro _;rfl))
 (zao (zbh (zbv (bpaC zbu (bpaC (bv 5) (bpaC (bv 7) zab)))))))))))))
 exact fn_r (by decide) (F:=zoe) ((zal (zax (zaq (zaj (zac (se_c λ_=>zaa)) zaw)) (by decide)) (zal (zyx (zcv znh (zac (zae 2)) (zaq (zaj (zac (zdk zhg (zag (zae 2) zau))) zaw))) (zpl (zdy (by decide) (zdy (by decide) zla))) (zlb (zdz (by decide) (zdz (by decide) zlc)))) (zal (zho (zga (st_t (zbd zaff (zae 4) (se_c λ_=>zaa)))) (zfb (ziu (zaj (zac (se_c λ_=>zat)) (zaj (zaq zaw) zaw)))) zgf) (zal (zho (zga (st_t (zbd zqs (zae 4) (se_c λ_=>zaa)))) (zfb (ziu (zaj (zac (se_c λ_=>zat)) (zaj (zaq (zaj (zac (zae 3)) zaw)) zaw)))) zgf) (zal (zho (zga (st_t (zbd zqs (zae 4) (se_c λ_=>zaa)))) (zfb (zac (zkm (zag (se_c λ_=>zat) zau)))) zgf) (zal (zax (zac (zeu zau)) (by decide)) (zal (zfr (zdm (zdv (zag (zae 6) zau))) (zeq (by decide)) (zdx (by decide)) (zho (zyf (zcv zqs (zaq (zaj (zac (se_c λ_=>zaa)) zaw)) (zac (se_c λ_=>zaa)))) (zgg (ziu (zaj (zac (se_c λ_=>zat)) (zaj (zaq (zaj (zac (zae 3)) zaw)) zaw)))) (zgg (ziu (zaj (zac (se_c λ_=>zat)) (zaj (zcv znh (zac (zae 1)) (zaq (zaj (zac (zdk zhg (zag (zae 1) zau))) zaw))) (zaj (zaq zaw) zaw))))))) (zfb (zac (zkm (zag (se_c λ_=>zat) (zag (zae 5) (zag (zae 7) zau)))))))))))))) h
theorem zrv{f:Addr}{fd:qq}(F:Fun K "_law_rules" "_law_rules" zix f fd)(T:Txt mg)(D_law_some:zig P w K mg base)(D_law_step:zol P w K mg base)(D_law_word:zgs P w K mg base):FnOk P w K mg base CX0 4 f fd ["_law_pen_here","_law_names","_law_heads","_law_places","_law_most","_law_steps"] (spR (zey K) 6 zec):=by
 refine F.ok zrn (λvs H Q E h=>zgx h) (λcdv A outer s H vs Q E hr h=>?_)
 have hu:=zhi hr
 apply Exists.intro
 apply And.intro
 ·refine' Bx.out (zad (bpsS (i:=6) zch rfl (Or.inl rfl) (bpeD D_law_some hr (bpaC (bv 0) (bpaC (zabx rfl (by rfl) T.list (by rfl) T.range (bpeX (zde (K:=K) rfl) (zca (bpaC zaf (bpaC (bpeB (zbp (K:=K) rfl) T.len zco (bpaC (bv 1) zab)) (bpaC (zba zgh (bpeB (zbp (K:=K) rfl) T.len zco (bpaC (bv 1) zab)) zaf) (bpaC (zba zgh (bpeB (zbp (K:=K) rfl) T.len zco (bpaC (bv 1) zab)) zaf) zab))))) (bv 3)) (zay (by rfl))) (bpaC (bv 4) zab)))))
 (zad (bpsS (i:=7) zch rfl (Or.inl rfl) (zca zab))
 (zad (zdg qr rfl (zbj (K:=K) rfl (bv 6)) (bpgN (i:=8) zch rfl (Or.inl rfl))
  (zad (bpsS (i:=9) zch rfl (Or.inl rfl) (zca zab))
 (zad (zdg qr rfl (zcz rfl T.range (bpaC (bv 3) zab) (by rfl)) (bpgN (i:=10) zch rfl (Or.inl rfl))
  (zad (zbs (zbw (K:=K) rfl qN qT qS zbl (bv 9) (bpaC (bpeX (zde (K:=K) rfl) (bv 1) (zba zgl (bv 8) (bpeB (zbp (K:=K) rfl) T.len zco (bpaC (bv 1) zab)))) zab) (by rfl) (by rfl) (by rfl) (zay (by rfl)) (by rfl)) (by rfl))
 (zao (bpsS (i:=8) zch rfl (Or.inl rfl) (zba zlj (bv 8) (bpeB (zbp (K:=K) rfl) T.len zco (bpaC (bv 1) zab)))))) (by intro _;rfl))
 (zad (bpsS (i:=11) zch rfl (Or.inl rfl) (bpeD D_law_word hr (bpaC (bv 0) (bpaC (zcf (zbx (N':=["_law_rule"]) (own:=["_law_rule"]) (fr:=[]) (by kernel_rfl)) rfl (zbj (K:=K) rfl (bv 7)) ?hb1 (by intro _;rfl)) zab))))
 (zao (zbs (zbw (K:=K) rfl qN qT qS zbl (bv 7) (bpaC (zbv (bpaC (bv 11) (bpaC (bpeT (zsv (K:=K) rfl) T.tuple zof (bpaC (bv 9) zab)) (bpaC (zcf (zbx (N':=["_law_k","_law_pen_here","_law_names","_law_heads","_law_places"]) (own:=["_law_k"]) (fr:=[0,1,2,3]) (by kernel_rfl)) rfl (zcz rfl T.range (bpaC (bv 5) zab) (by rfl)) ?hb2 (by intro _;rfl)) zab)))) zab) (by rfl) (by rfl) (by rfl) (zay (by rfl)) (by rfl)) (by rfl)))))) (by intro _;rfl))
 (zao (zbh (bv 7))))))
  case hb1=>(intro cl C s H fp;refine'⟨Bx.out (bpgN (i:=0) zmo rfl (Or.inl rfl)),Bx.out zdw,Bx.out (bpeX (zde (K:=K) rfl) (bv 0) zaf)⟩)
  case hb2=>(intro cl C s H fp;refine'⟨Bx.out (bpgN (i:=0) zmp rfl (Or.inl rfl)),Bx.out zdw,Bx.out (bpeD D_law_step hr (bpaC (bv 1) (bpaC (bv 2) (bpaC (bv 3) (bpaC (bv 4) zab)))))⟩)
 exact fn_r (by decide) (F:=zht) ((zal (zax (zaq (zaj (zac (zagp (zbd znh (zeu (zag (se_c λ_=>zaa) (zag (zdk zhg (zag (zae 1) zau)) (zag (zbd zgi (zdk zhg (zag (zae 1) zau)) (se_c λ_=>zaa)) (zag (zbd zgi (zdk zhg (zag (zae 1) zau)) (se_c λ_=>zaa)) zau))))) (zae 3)))) (zaj (zac (zae 4)) zaw))) (by decide)) (zal (zax (zac (zeu zau)) (by decide)) (zal (zfr (zdm (zei (zae 6))) (zeq (by decide)) (zdx (by decide)) (zal (zax (zac (zeu zau)) (by decide)) (zal (zfr (zdm (zdv (zag (zae 3) zau))) (zeq (by decide)) (zdx (by decide)) (zal (zgg (zac (zfp (zbd zhf (zae 8) (zdk zhg (zag (zae 1) zau)))))) (zax (zac (zbd zlr (zae 8) (zdk zhg (zag (zae 1) zau)))) (by decide)))) (zal (zax (zaq (zaj (zac (zfo (zei (zae 7)) zjz (zis (by decide)) zfz (zfp (se_c λ_=>zaa)))) zaw)) (by decide)) (zgg (ziu (zaj (zac (zae 11)) (zaj (zac (zdk zabg (zag (zae 9) zau))) (zaj (zabn (kk:=0) (by rfl) (zdm (zdv (zag (zae 5) zau))) (zeq (by decide)) (zis (by decide)) zfz (zaq (zaj (zac (zae 2)) (zaj (zac (zae 3)) (zaj (zac (zae 4)) zaw))))) zaw))))))))) (zqu zjg))))) h
theorem znl{f:Addr}{fd:qq}(F:Fun K "_law_program" "_law_program" zhb f fd)(T:Txt mg)(D_law_rules:zmt P w K mg base)(D_law_take:zds P w K mg base)(D_law_web:zrt P w K mg base)(D_law_word:zgs P w K mg base):FnOk P w K mg base CX0 5 f fd ["_law_pen_here","_law_kinds","_law_deeds","_law_rules_here","_law_steps"] (spR (zey K) 5 zfg):=by
 refine F.ok znk (λvs H Q E h=>zgx h) (λcdv A outer s H vs Q E hr h=>?_)
 have hu:=zhi hr
 apply Exists.intro
 apply And.intro
 ·refine' Bx.out (zad (bpsS (i:=5) zbk rfl (Or.inl rfl) (bpeD D_law_web hr (bpaC (bv 0) (bpaC (bv 1) zab))))
 (zad (zyc (i:=6) (zbx (N':=["_law_name","_law_elders"]) (own:=["_law_name","_law_elders"]) (fr:=[]) (by kernel_rfl)) rfl (zbj (K:=K) rfl (bv 5)) ?hb1 (by rfl) zbk rfl rfl (by intro _;rfl))
 (zad (bpsS (i:=7) zbk rfl (Or.inl rfl) (zca zab))
 (zad (zdg qr rfl (zcz rfl T.range (bpaC (bv 2) zab) (by rfl)) (bpgN (i:=8) zbk rfl (Or.inl rfl))
  (zad (bpsS (i:=9) zbk rfl (Or.inl rfl) (bpeB (zqe rfl) T.min zus (bpaC (zba (zbr (K:=K) rfl) zaf (bpeD D_law_take hr (bpaC (bv 0) (bpaC zaf zab)))) (bpaC (zba (zbr (K:=K) rfl) zaf (bpeT zqf T.int zur (bpaC (zpe zael (bv 1) zaf (zdd _)) zab))) zab))))
 (zao (zbs (zbw (K:=K) rfl qN qT qS zbl (bv 7) (bpaC (zbv (bpaC (bpeD D_law_word hr (bpaC (bv 0) (bpaC (zcf (zbx (N':=["_law_head"]) (own:=["_law_head"]) (fr:=[]) (by kernel_rfl)) rfl (zbj (K:=K) rfl (bv 7)) ?hb2 (by intro _;rfl)) zab))) (bpaC (bv 9) zab))) zab) (by rfl) (by rfl) (by rfl) (zay (by rfl)) (by rfl)) (by rfl)))) (by intro _;rfl))
 (zad (bpsS (i:=10) zbk rfl (Or.inl rfl) (zca zab))
 (zad (zdg qr rfl (zbj (K:=K) rfl (bv 7)) (zcn (K:=K) (n:=2) rfl rfl (zas (bpgN (i:=11) zbk rfl (Or.inl rfl)) (zas (bpgN (i:=9) zbk rfl (Or.inl rfl)) zcm (by rfl)) (by rfl)) (by rfl) (by rfl))
  (zao (zbs (zbw (K:=K) rfl qN qT qS zbl (bv 10) (bpaC (zbv (bpaC (bv 11) (bpaC (bv 9) (bpaC (bpeD D_law_rules hr (bpaC (bv 0) (bpaC (bv 6) (bpaC (bv 7) (bpaC (bv 9) (bpaC (bv 3) (bpaC (bv 4) zab))))))) zab)))) zab) (by rfl) (by rfl) (by rfl) (zay (by rfl)) (by rfl)) (by rfl))) (by intro _;rfl))
 (zao (zbh (zbv (bpaC (bv 5) (bpaC (bv 10) zab)))))))))))
  case hb1=>(intro cl C s H fp;refine'⟨Bx.out (zcn (K:=K) (n:=2) rfl rfl (zas (bpgN (i:=0) zgr rfl (Or.inl rfl)) (zas (bpgN (i:=1) zgr rfl (Or.inl rfl)) zcm (by rfl)) (by rfl)) (by rfl) (by rfl)),Bx.out zdw,Bx.out (bv 0)⟩)
  case hb2=>(intro cl C s H fp;refine'⟨Bx.out (bpgN (i:=0) zki rfl (Or.inl rfl)),Bx.out zdw,Bx.out (bpeX (zde (K:=K) rfl) (bv 0) zaf)⟩)
 exact fn_r (by decide) (F:=zjn) ((zal (zax (zaq (zaj (zac (zae 1)) zaw)) (by decide)) (zal (zax (zac (zfo (zei (zae 5)) (zhm (zbe (zbe zfn))) (zlw (zcc (by decide) (zcc (by decide) zit))) zfz (zae 0))) (by decide)) (zal (zax (zac (zeu zau)) (by decide)) (zal (zfr (zdm (zdv (zag (zae 2) zau))) (zeq (by decide)) (zdx (by decide)) (zal (zax (zajx zadl (zaj (zcv zeh (zac (se_c λ_=>zaa)) (zaq (zaj (zac (se_c λ_=>zaa)) zaw))) (zaj (zac (zbd zeh (se_c λ_=>zaa) (zdk zzg (zag (zbd zaff (zae 1) (se_c λ_=>zaa)) zau)))) zaw))) (by decide)) (zgg (ziu (zaj (zaq (zaj (zac (zfo (zei (zae 7)) zjz (zis (by decide)) zfz (zfp (se_c λ_=>zaa)))) zaw)) (zaj (zac (zae 9)) zaw)))))) (zal (zax (zac (zeu zau)) (by decide)) (zal (zfr (zdm (zei (zae 7))) (zpl (zdy (by decide) (zdy (by decide) zla))) (zlb (zdz (by decide) (zdz (by decide) zlc))) (zgg (ziu (zaj (zac (zae 11)) (zaj (zac (zae 9)) (zaj (zaq (zaj (zac (zae 6)) (zaj (zac (zae 7)) (zaj (zac (zae 9)) (zaj (zac (zae 3)) (zaj (zac (zae 4)) zaw)))))) zaw)))))) (zfb (zac (zkm (zag (zae 5) (zag (zae 10) zau)))))))))))) h
theorem zwn {f:Addr} {fd:qq} (F:Fun K "_law_due" "_law_due" zmm f fd) (T:Txt mg)  : FnOk P w K mg base CX0 1 f fd ["_law_program_here","_law_name"] (spD 2 zed):=by
 refine F.ok zwi (λvs H Q E h=>zxz h) (λcdv A outer s H vs Q E hr h=>?_)
 have hu:=zhi hr
 apply Exists.intro
 apply And.intro
 ·refine' Bx.out (zad (zpj (bv 0) (zcn (K:=K) (n:=2) rfl rfl (zas (bpgN (i:=2) zfk rfl (Or.inl rfl)) (zas (bpgN (i:=3) zfk rfl (Or.inl rfl)) zcm (by rfl)) (by rfl)) (by rfl) (by rfl)) (by rfl) (by rfl) (by rfl))
 (zad (zdg qr rfl (zbj (K:=K) rfl (bv 3)) (zcn (K:=K) (n:=3) rfl rfl (zas (bpgN (i:=4) zfk rfl (Or.inl rfl)) (zas (bpgN (i:=5) zfk rfl (Or.inl rfl)) (zas (bpgN (i:=6) zfk rfl (Or.inl rfl)) zcm (by rfl)) (by rfl)) (by rfl)) (by rfl) (by rfl))
  (zao (zew (zbi (zkn (K:=K) rfl hr.units) (bv 4) (bv 1) (zdd _)) (zao (zbh (bpeB (zex (K:=K) rfl hr) T.repr zez (bpaC (zca (bpaC (zbv (bpaC (bv 2) (bpaC (bv 5) (bpaC (zcf (zbx (N':=["_law_rule","_law_kinds","_law_steps"]) (own:=["_law_rule","_law_kinds","_law_steps"]) (fr:=[]) (by kernel_rfl)) rfl (zbj (K:=K) rfl (bv 6)) ?hb1 (by intro _;rfl)) zab)))) zab)) zab)))) zcd)) (by intro _;rfl))
 (zao (zbh (bpeB (zex (K:=K) rfl hr) T.repr zez (bpaC (zbv (bpaC zbu (bpaC (bv 1) zab))) zab))))))
  case hb1=>(intro cl C s H fp;refine'⟨Bx.out (zcn (K:=K) (n:=3) rfl rfl (zas (bpgN (i:=0) zhc rfl (Or.inl rfl)) (zas (bpgN (i:=1) zhc rfl (Or.inl rfl)) (zas (bpgN (i:=2) zhc rfl (Or.inl rfl)) zcm (by rfl)) (by rfl)) (by rfl)) (by rfl) (by rfl)),Bx.out zdw,Bx.out (zbv (bpaC (bv 0) (bpaC (bv 1) zab)))⟩)
 exact fn_d (f:=zjo) ((zadn (zajs (zae 0) (zhm (zbe (zbe zfn)))) (zadn (zado (zei (zae 3)) (zhm (zbe (zbe (zbe zfn)))) (zajr (st_t (zbd zqs (zae 4) (zae 1))) (zub (zdk zhr (zag (zeu (zag (zkm (zag (zae 2) (zag (zae 5) (zag (zfo (zei (zae 6)) (zhm (zbe (zbe (zbe zfn)))) (zlw (zcc (by decide) (zcc (by decide) (zcc (by decide) zit)))) zfz (zkm (zag (zae 0) (zag (zae 1) zau)))) zau)))) zau)) zau))) zadm)) (zub (zdk zhr (zag (zkm (zag (se_c λ_=>zat) (zag (zae 1) zau))) zau)))))) h
theorem zrw{f:Addr}{fd:qq}(F:Fun K "_law_asked" "_law_asked" ziz f fd)(T:Txt mg)(D_law_some:zig P w K mg base)(D_law_word:zgs P w K mg base):FnOk P w K mg base CX0 3 f fd ["_law_pen_here","_law_program_here"] (spR (zey K) 2 zee):=by
 refine F.ok zrq (λvs H Q E h=>zgx h) (λcdv A outer s H vs Q E hr h=>?_)
 have hu:=zhi hr
 apply Exists.intro
 apply And.intro
 ·refine' Bx.out (zad (zpj (bv 1) (zcn (K:=K) (n:=2) rfl rfl (zas (bpgN (i:=2) zci rfl (Or.inl rfl)) (zas (bpgN (i:=3) zci rfl (Or.inl rfl)) zcm (by rfl)) (by rfl)) (by rfl) (by rfl)) (by rfl) (by rfl) (by rfl))
 (zad (bpsS (i:=4) zci rfl (Or.inl rfl) (zba (zbr (K:=K) rfl) (zcf (zbx (N':=["_law_name","_law_elders"]) (own:=["_law_name","_law_elders"]) (fr:=[]) (by kernel_rfl)) rfl (zbj (K:=K) rfl (bv 2)) ?hb1 (by intro _;rfl)) (zcf (zbx (N':=["_law_deed"]) (own:=["_law_deed"]) (fr:=[]) (by kernel_rfl)) rfl (zbj (K:=K) rfl (bv 3)) ?hb2 (by intro _;rfl))))
 (zad (zdg qr rfl (zbj (K:=K) rfl (bv 3)) (zcn (K:=K) (n:=3) rfl rfl (zas (bpgN (i:=5) zci rfl (Or.inl rfl)) (zas (bpgN (i:=6) zci rfl (Or.inl rfl)) (zas (bpgN (i:=7) zci rfl (Or.inl rfl)) zcm (by rfl)) (by rfl)) (by rfl)) (by rfl) (by rfl))
  (zao (bpsS (i:=4) zci rfl (Or.inl rfl) (zba (zbr (K:=K) rfl) (bv 4) (zcf (zbx (N':=["_law_rule"]) (own:=["_law_rule"]) (fr:=[]) (by kernel_rfl)) rfl (zbj (K:=K) rfl (bv 7)) ?hb3 (by intro _;rfl))))) (by intro _;rfl))
 (zad (zbs (zbw (K:=K) rfl qN qT qS zbl (bv 4) (bpaC (bpeD D_law_word hr (bpaC (bv 0) (bpaC (zcf (zbx (N':=["_law_deed"]) (own:=["_law_deed"]) (fr:=[]) (by kernel_rfl)) rfl (zbj (K:=K) rfl (bv 3)) ?hb4 (by intro _;rfl)) zab))) zab) (by rfl) (by rfl) (by rfl) (zay (by rfl)) (by rfl)) (by rfl))
 (zad (zbs (zbw (K:=K) rfl qN qT qS zbl (bv 4) (bpaC (zly (zafe (K:=K) rfl) (zba (zbr (K:=K) rfl) (bpeX (zde (K:=K) rfl) (bv 4) (zyd zwz zaf)) zbu) zph (zpg zaf)) zab) (by rfl) (by rfl) (by rfl) (zay (by rfl)) (by rfl)) (by rfl))
 (zao (zbh (bpeD D_law_some hr (bpaC (bv 0) (bpaC (bv 4) (bpaC zaf zab)))))))))))
  case hb1=>(intro cl C s H fp;refine'⟨Bx.out (zcn (K:=K) (n:=2) rfl rfl (zas (bpgN (i:=0) zhw rfl (Or.inl rfl)) (zas (bpgN (i:=1) zhw rfl (Or.inl rfl)) zcm (by rfl)) (by rfl)) (by rfl) (by rfl)),Bx.out zdw,Bx.out (bv 0)⟩)
  case hb2=>(intro cl C s H fp;refine'⟨Bx.out (bpgN (i:=0) zmq rfl (Or.inl rfl)),Bx.out zdw,Bx.out (bpeX (zde (K:=K) rfl) (bv 0) zaf)⟩)
  case hb3=>(intro cl C s H fp;refine'⟨Bx.out (bpgN (i:=0) zmr rfl (Or.inl rfl)),Bx.out zdw,Bx.out (bpeX (zde (K:=K) rfl) (bv 0) zaf)⟩)
  case hb4=>(intro cl C s H fp;refine'⟨Bx.out (bpgN (i:=0) zms rfl (Or.inl rfl)),Bx.out zdw,Bx.out (bpeX (zde (K:=K) rfl) (bv 0) zaf)⟩)
 exact fn_r (by decide) (F:=zhu) ((zal (zyx (zac (zae 1)) (zpl (zdy (by decide) (zdy (by decide) zla))) (zlb (zdz (by decide) (zdz (by decide) zlc)))) (zal (zax (zac (zbd zeh (zfo (zei (zae 2)) (zhm (zbe (zbe zfn))) (zlw (zcc (by decide) (zcc (by decide) zit))) zfz (zae 0)) (zfo (zei (zae 3)) zjz (zis (by decide)) zfz (zfp (se_c λ_=>zaa))))) (by decide)) (zal (zfr (zdm (zei (zae 3))) (zpl (zdy (by decide) (zdy (by decide) (zdy (by decide) zla)))) (zlb (zdz (by decide) (zdz (by decide) (zdz (by decide) zlc)))) (zax (zac (zbd zeh (zae 4) (zfo (zei (zae 7)) zjz (zis (by decide)) zfz (zfp (se_c λ_=>zaa))))) (by decide))) (zal (zgg (zaq (zaj (zac (zfo (zei (zae 3)) zjz (zis (by decide)) zfz (zfp (se_c λ_=>zaa)))) zaw))) (zal (zgg (zac (zafk (zbd zeh (zfp (zya (se_c λ_=>zaa))) (se_c λ_=>zat)) zsr (zss (se_c λ_=>zaa))))) (zfb (zaq (zaj (zac (zae 4)) (zaj (zac (se_c λ_=>zaa)) zaw)))))))))) h
end
noncomputable def zjs:NTF:=(zte ["name","elders"] [] (zbq (eVar 0)) (gT 2 (zav 0 (zav 1 zdu))) zdl (pTup (zea (pLf (eVar 0)) (zea (pFr (eCB zxv (zah (eVar 1) aNil))) zrb))))
noncomputable def zfv:GFT:=fnT 1 zjs
noncomputable def zih:SFZ:=(zSeq (ztf 2 zdq (zah (eVar 0) (zah (eVar 1) aNil)) (gT 2 (zav 2 (zav 3 zdu))))
  (zRet (pTup (zea (zzb 1 zfv (zah (eIxV 0 (eC (.int 0))) aNil)) (zea (pLf (eVar 2)) (zea (zte ["name","kinds","steps"] [] (zbq (eVar 3)) (gT 3 (zav 0 (zav 1 (zav 2 zdu)))) zdl (pTup (zea (pLf (eVar 0)) (zea (pLf (eVar 1)) zrb)))) zrb))))))
noncomputable def zen:List PyData->Option ResT:=fnZ 4 zih
noncomputable def zfw:GFT:=zagz "NoDeed" zen
theorem zahj{K:qC}:∀d,PySem.W.kitAny K (.type (zjd d)) [.type "list",.type "tuple"]=some (isiB "list" d||isiB "tuple" d):=by intro d;cases d<;>rfl
section
variable{P:Program}{w:World}{K:qC}{mg:Str->Option Value}{base:Heap}
theorem zrx{f:Addr}{fd:qq}(F:Fun K "_law_lists" "_law_lists" ziy f fd)(T:Txt mg):FnOk P w K mg base CX0 1 f fd ["_law_thing"] spLs:=by
 refine F.ok zro (λvs H Q E h=>zaby h) (λcdv A outer s H vs Q E hr h=>?_)
 have hu:=zhi hr
 apply Exists.intro
 apply And.intro
 ·refine' Bx.out (zad (bpsS (i:=1) zgb rfl (Or.inl rfl) (zca zab))
 (zad (bpsS (i:=2) zgb rfl (Or.inl rfl) (zca (bpaC (bv 0) zab)))
 (zad (zyb qr (zbi zvd (bpeB (zbp (K:=K) rfl) T.len zco (bpaC (bv 2) zab)) zaf (zdd _))
 (zad (bpsS (i:=3) zgb rfl (Or.inl rfl) (zud (K:=K) rfl qN qB5 qB4 zajc (bv 2) (by rfl) (by rfl)))
 (zad (zew (znu (K:=K) rfl (zlx (zxq (K:=K) rfl) (by rfl) T.isinstance zcw (zfq (bv 3) (zfq (zpf (v:=.ty "list") (by rfl) T.list zgp rfl (by decide) (by decide)) zab (by rfl)) (by rfl)) (by decide) (by decide) (zay (by rfl)) (by rfl)) (λ_=>rfl))
  (zao (zbs (zbw (K:=K) rfl qN qT qS zbl (bv 1) (bpaC (bv 3) zab) (by rfl) (by rfl) (by rfl) (zay (by rfl)) (by rfl)) (by rfl))) zcd)
 (zao (zew (znu (K:=K) rfl (zlx (zyv (K:=K) (m:="list") (n:="tuple") rfl) (by rfl) T.isinstance zcw (zfq (bv 3) (zfq (zbv (zfq (zpf (v:=.ty "list") (by rfl) T.list zgp rfl (by decide) (by decide)) (zfq (zpf (v:=.ty "tuple") (by rfl) T.tuple zof rfl (by decide) (by decide)) zab (by rfl)) (by rfl))) zab (by rfl)) (by rfl)) (by decide) (by decide) (zay (by rfl)) (by rfl)) (λ_=>rfl))
  (zao (zbs (zbw (K:=K) rfl qN PySem.F.slot_list_extend PySem.F.type_list_extend zagr (bv 2) (bpaC (bv 3) zab) (by rfl) (by rfl) (by rfl) (zay (by rfl)) (by rfl)) (by rfl))) zcd)))))
 (zao (zbh (bv 1))))))
 exact zabz (K:=K) rfl (st_t (zbd zvo (zdk zhg (zag (zae 2) zau)) (se_c λ_=>zaa))) (zadk (zajq (zae 3) zabh)) (zadk (zagl (zae 3) zahj)) h
theorem zwo{f:Addr}{fd:qq}(F:Fun K "copy_of_web" "copy_of_web" zfh f fd)(T:Txt mg):FnOk P w K mg base CX0 1 f fd ["web"] (spT 1 zfv):=by
 refine F.ok zim (λvs H Q E h=>zza h) (λcdv A outer s H vs Q E hr h=>?_)
 have hu:=zhi hr
 apply Exists.intro
 apply And.intro
 ·refine' Bx.out (zao (zbh (zcf (zbx (N':=["name","elders"]) (own:=["name","elders"]) (fr:=[]) (by kernel_rfl)) rfl (zbj (K:=K) rfl (bv 0)) ?hb1 (by intro _;rfl))))
  case hb1=>(intro cl C s H fp;refine'⟨Bx.out (zcn (K:=K) (n:=2) rfl rfl (zas (bpgN (i:=0) zdc rfl (Or.inl rfl)) (zas (bpgN (i:=1) zdc rfl (Or.inl rfl)) zcm (by rfl)) (by rfl)) (by rfl) (by rfl)),Bx.out zdw,Bx.out (zbv (bpaC (bv 0) (bpaC (bpeT (zvm (K:=K) rfl) T.list zgp (bpaC (bv 1) zab)) zab)))⟩)
 exact zanl (E:=E) (E':=E0) (f:=zjs) ((zagv (zul (zei (zae 0)) (zhm (zbe (zbe zfn))) (zlw (zcc (by decide) (zcc (by decide) zit))) zfz (ztd (zgy (zuj (zae 0)) (zgy (zakm (zdk zxw (zag (zae 1) zau))) ztc)))))) h
theorem zhd:(["name","kinds","steps"]:List Str).Nodup:=by decide +kernel
theorem zwp{f:Addr}{fd:qq}{cl:Str->Addr}(F:Fun K "book_in" "book_in" zmh f fd)(T:Txt mg)(D_deed_inX:zrr P w K mg base cl)(DT_copy_of_web:Dn P w K mg base "copy_of_web" ["web"] 1 (spT 1 zfv)):FnOk P w K mg base (CXE P w) 4 f fd ["program","deed"] (spTX cl 2 zen):=by
 refine zadt F zwe (λvs H Q E h=>zacc h) (λcdv A outer s H vs Q E hr h0k h=>?_)
 have hu:=zhi hr
 apply Exists.intro
 apply And.intro
 ·refine' Bx.out (zad (zpj (zagk D_deed_inX (zage h0k) (hr.mono (by decide)) (by rfl) (bpaC (bv 0) (bpaC (bv 1) zab)) (by decide) (zay (by rfl)) (by rfl)) (zcn (K:=K) (n:=2) rfl rfl (zas (bpgN (i:=2) zkc rfl (Or.inl rfl)) (zas (bpgN (i:=3) zkc rfl (Or.inl rfl)) zcm (by rfl)) (by rfl)) (by rfl) (by rfl)) (by rfl) (by rfl) (by rfl))
 (zao (zbh (zbv (bpaC (bpeD DT_copy_of_web hr (bpaC (bpeX (zde (K:=K) rfl) (bv 0) zaf) zab)) (bpaC (bv 2) (bpaC (zcf (zbx (N':=["name","kinds","steps"]) (own:=["name","kinds","steps"]) (fr:=[]) (by kernel_rfl)) rfl (zbj (K:=K) rfl (bv 3)) ?hb1 (by intro _;rfl)) zab)))))))
  case hb1=>(intro cl C s H fp;refine'⟨Bx.out (zcn (K:=K) (n:=3) rfl rfl (zas (bpgN (i:=0) zhd rfl (Or.inl rfl)) (zas (bpgN (i:=1) zhd rfl (Or.inl rfl)) (zas (bpgN (i:=2) zhd rfl (Or.inl rfl)) zcm (by rfl)) (by rfl)) (by rfl)) (by rfl) (by rfl)),Bx.out zdw,Bx.out (zbv (bpaC (bv 0) (bpaC (bv 1) zab)))⟩)
 exact fn_z (f:=zih) (zagw (zacd (zag (zae 0) (zag (zae 1) zau)) (zhm (zbe (zbe zfn)))) (zagx (ztd (zgy (zacb (zag (zfp (se_c λ_=>zaa)) zau)) (zgy (zuj (zae 2)) (zgy (zul (zei (zae 3)) (zhm (zbe (zbe (zbe zfn)))) (zlw (zcc (by decide) (zcc (by decide) (zcc (by decide) zit)))) zfz (ztd (zgy (zuj (zae 0)) (zgy (zuj (zae 1)) ztc)))) ztc)))))) h
end
theorem boot_ValueError:bootBuiltins "ValueError"=some (.type "ValueError"):=by decide +kernel
theorem zry:∀{as:List Addr}{its:List Value},Vals (as.map V.ref) its->its=as.map Value.ref
 | [],its,h=>by cases h;rfl
 | a::as,its,h=>by
  cases h with
  | cons r t=>
   cases r
   rw[zry t];rfl
theorem zut{K:qC}{C:Addr}:∀{cs:List Addr},(∀c∈cs,PySem.W.kitOne K (.ref C) (.ref c)=some false)->PySem.W.kitAny K (.ref C) (cs.map Value.ref)=some false
 | [],_=>rfl
 | c::cs,h=>by
  have h1:=h c (qt ..)
  have h2:=zut λx hx=>h x (qK _ hx)
  rw[ql]
  unfold PySem.W.kitAny
  rw[h1,h2]
section
variable{P:Program}{w:World}{K:qC}{mg:Str->Option Value}{base:Heap}
theorem zts{f:Addr}{fd:qq}{cl:Str->Addr}(F:Fun K "_law_told" "_law_told" zkh f fd)(T:Txt mg)(D_book_in:DnX P w K mg base "book_in" ["program","deed"] 4 (spTX cl 2 zen))(XK:XKit P w K mg base cl ["NoDeed"] ["NoBook","NoCall","NoKind","NoName","NoProgram","NoRow","NoRule","NoStep","NoWeb","NoDeed"] "CallError"):FnOk P w K mg base CX0 5 f fd ["_law_program_here","_law_name"] (spT 2 zfw):=by
 refine F.ok ztn (λvs H Q E h=>zza h) (λcdv A outer s H vs Q E hr h=>?_)
 have hu:=zhi hr
 obtain⟨f1,fd1,F1,hm1,hk1,hb1⟩:=D_book_in
 obtain⟨f2,fd2,M2,F2,hb2,hm2,hc2,he2⟩:=XK.ok "NoDeed" (by simp)
 have mk:∀k∈(["NoBook","NoCall","NoKind","NoName","NoProgram","NoRow","NoRule","NoStep","NoWeb","NoDeed"]:List Str),mg k=some (.ref (cl k)):=XK.mgk
 have g:∀{X:Cx}{x:Str}{pos:Pos},X.mg=mg->Gl X x->x∈(["NoBook","NoCall","NoKind","NoName","NoProgram","NoRow","NoRule","NoStep","NoWeb","NoDeed"]:List Str)->(x==("__debug__":Str))=false->PE X (.Name x pos) (tC (.ref (cl x))):=λ{X x pos} e hg hx hd=>zagj hg (by rw[e];exact mk x hx) hd
 refine⟨zaku (cl "NoDeed") (λC=>C=cl "NoDeed") (spTX cl 2 zen) (tTest (tIsN (tVar 3))) (λσ H Q=>(tIsx K (cl "NoDeed") (tVar 3) (tTup (tCons (tC (.ref (cl "NoBook"))) (tCons (tC (.ref (cl "NoCall"))) (tCons (tC (.ref (cl "NoKind"))) (tCons (tC (.ref (cl "NoName"))) (tCons (tC (.ref (cl "NoProgram"))) (tCons (tC (.ref (cl "NoRow"))) (tCons (tC (.ref (cl "NoRule"))) (tCons (tC (.ref (cl "NoStep"))) (tCons (tC (.ref (cl "NoWeb"))) tNil))))))))))) σ H λx H1=>∃k,TruV K x H1 k/\Q k H1)
  (tOr (tNot λσ H Q=>(tIsx K (cl "NoDeed") (tVar 3) (tC (.ref (cl "NoDeed")))) σ H λx H1=>∃k,TruV K x H1 k/\Q k H1) (tNot λσ H Q=>(tIsx K (cl "NoDeed") (tVar 3) (tC (.ty "ValueError"))) σ H λx H1=>∃k,TruV K x H1 k/\Q k H1)) (tTup tNil) (tTup tNil),?_,?_⟩
 ·refine zfy ?_ (zfy ?_ (zfy ?_ (zfy ?_ (zfy ?_ (zfy ?_ (zin ?_))))))
  ·exact zty (i:=3) zfu rfl (Or.inl rfl) zwt (by rfl) (.inl rfl)
  ·exact zty (i:=4) zfu rfl (Or.inl rfl) zwt (by rfl) (.inl rfl)
  ·exact zagy F1 (hr.mono (by decide)) (by rfl) hm1 hk1 hb1 (zbn (pv 0) (zbn (pv 1) zhe)) zfu rfl rfl rfl rfl rfl rfl (by rfl) XK.mgB (λC e=>by subst e;exact XK.ex "NoDeed" (by simp)) (λC _ e=>zin (zty (i:=3) zfu rfl (Or.inl rfl) (pv 2) (by rfl) (.inl rfl))) (by decide) (by decide) (zay (by rfl)) (by rfl) (by rfl)
  ·exact zaal (Bx.out (zafv (zafu (bv 3)) (by first|exact zaak _ (by decide) (by decide)|rfl))) (zin (zqc (zade (zbn (pv 4) zhe)))) zoq
  ·exact zaal (zje (K:=K) rfl (zkw (zpn M2 hc2) (by rfl) T.isinstance zcw (zbn (pv 3) (zbn (zqg (zbn (g rfl (by rfl) (by simp) (by decide)) (zbn (g rfl (by rfl) (by simp) (by decide)) (zbn (g rfl (by rfl) (by simp) (by decide)) (zbn (g rfl (by rfl) (by simp) (by decide)) (zbn (g rfl (by rfl) (by simp) (by decide)) (zbn (g rfl (by rfl) (by simp) (by decide)) (zbn (g rfl (by rfl) (by simp) (by decide)) (zbn (g rfl (by rfl) (by simp) (by decide)) (zbn (g rfl (by rfl) (by simp) (by decide)) zhe)))))))))) zhe))) (λ_=>rfl)) (zin (zqc (zqg zhe))) zoq
  ·exact zaal (zaio (zadc (zje (K:=K) rfl (zkw (zpn M2 hc2) (by rfl) T.isinstance zcw (zbn (pv 3) (zbn (g rfl (by rfl) (by simp) (by decide)) zhe))) (λ_=>rfl))) (zadb (zadc (zje (K:=K) rfl (zkw (zpn M2 hc2) (by rfl) T.isinstance zcw (zbn (pv 3) (zbn (zwu (v:=.ty "ValueError") (by rfl) XK.mgV boot_ValueError rfl) zhe))) (λ_=>rfl))))).pt (zin (zqc (zqg zhe))) zoq
  ·exact zqc (zqg (zbn zada (zbn (zakf M2 (pv 3)) zhe)))
 ·have kn:∀k∈(["NoBook","NoCall","NoKind","NoName","NoProgram","NoRow","NoRule","NoStep","NoWeb"]:List Str),PySem.W.kitOne K (.ref (cl "NoDeed")) (.ref (cl k))=some false:=λk hk=>by
   simp only[qW,qAd,or_false]at hk
   rcases hk with rfl|rfl|rfl|rfl|rfl|rfl|rfl|rfl|rfl<;>exact(XK.kit "NoDeed" (by simp) _ (by simp)).trans (by decide)
  refine zaha (cl:=cl) (c:="NoDeed") (Ok:=λC=>C=cl "NoDeed") (g:=zen) rfl (λσ H Q v e q=>⟨v,e,_,rfl,q⟩) (λσ H Q e dx tv hσ he q=>?_) (λσ H Q e dx tv hσ he q=>?_) h
  ·refine⟨_,hσ,(by show 9<=qQ;rw[qAL];omega),λp hp=>⟨e,dx,tv,false,Same.new hp _ _ he,⟨false,rfl,q _ (Same.new hp)⟩,.inr (.inr ⟨p,_,[cl "NoBook",cl "NoCall",cl "NoKind",cl "NoName",cl "NoProgram",cl "NoRow",cl "NoRule",cl "NoStep",cl "NoWeb"].map Value.ref,rfl,zan,λits vi=>zry (as:=[cl "NoBook",cl "NoCall",cl "NoKind",cl "NoName",cl "NoProgram",cl "NoRow",cl "NoRule",cl "NoStep",cl "NoWeb"]) vi,zut λc hc=>?_⟩)⟩⟩
   simp only[qW,qAd,or_false]at hc
   rcases hc with rfl|rfl|rfl|rfl|rfl|rfl|rfl|rfl|rfl<;>exact kn _ (by simp)
  ·refine⟨_,hσ,e,dx,tv,true,he,⟨true,rfl,?_⟩,.inl ⟨_,rfl,?_⟩⟩
   ·refine⟨_,hσ,e,dx,tv,true,he,⟨true,rfl,q H (Same.refl _)⟩,.inr (.inl ⟨_,rfl,XK.val "NoDeed" (by simp)⟩)⟩
   ·rw[XK.kit "NoDeed" (by simp) "NoDeed" (by simp)];rfl
end
theorem zhh{w:OF}{a b:EF}{env:DEnv}{x y:Val}{d:PyData}{fr:Bool}(h1:a env=some x)(h2:b env=some y)(h3:w x.d y.d=some (d,fr)):eOp w a b env=some ⟨d,fr,bsOf d (x.bs++y.bs)⟩:=by
 unfold eOp;rw[h1,h2];show((w x.d y.d).bind _)=_;rw[h3];rfl
structure PB(n:Nat)(st:Pen3):Prop where
 lo:0<=st.at_
 hi:st.at_+n<=1000000
theorem PB.mono{n m:Nat}{st:Pen3}(h:PB m st)(l:n<=m):PB n st:=⟨h.lo,by have:=h.hi;omega⟩
noncomputable def Dr(c:Nat)(g:EFr Pen3)(env:DEnv)(P:Val->Prop):Prop:=∀n st,PB (n+c) st->∃r s,g env st=some (r,s)/\P r/\PB n s
noncomputable def DrA(c:Nat)(g:AFr Pen3)(env:DEnv)(P:List Val->Prop):Prop:=∀n st,PB (n+c) st->∃r s,g env st=some (r,s)/\P r/\PB n s
noncomputable def DrT(c:Nat)(g:TFr Pen3)(env:DEnv)(P:Bool->Prop):Prop:=∀n st,PB (n+c) st->∃r s,g env st=some (r,s)/\P r/\PB n s
noncomputable def DrG(c:Nat)(g:GR Pen3)(ds:List PyData)(P:PyData->Bool->Prop):Prop:=∀n st,PB (n+c) st->∃d fr s,g ds st=some (d,fr,s)/\P d fr/\PB n s
noncomputable def DrS(c:Nat)(F:SFr Pen3)(env:DEnv)(N:DEnv->Prop)(R:PyData->Bool->Prop):Prop:=∀n st,PB (n+c) st->(∃e s,F env st=some (.nx e s)/\N e/\PB n s)\/∃d fr s,F env st=some (.rt d fr s)/\R d fr/\PB n s
section
variable{c c1 c2:Nat}{env:DEnv}{P:Val->Prop}{N:DEnv->Prop}{R:PyData->Bool->Prop}
theorem Dr.mono{g:EFr Pen3}(h:Dr c1 g env P)(l:c1<=c):Dr c g env P:=λn st hb=>let⟨r,s,e,p,b⟩:=h (n+(c - c1)) st (hb.mono (by omega));⟨r,s,e,p,b.mono (by omega)⟩
theorem Dr.imp{g:EFr Pen3}{Q:Val->Prop}(h:Dr c g env P)(i:∀r,P r->Q r):Dr c g env Q:=λn st hb=>let⟨r,s,e,p,b⟩:=h n st hb;⟨r,s,e,i r p,b⟩
theorem DrS.mono{F:SFr Pen3}(h:DrS c1 F env N R)(l:c1<=c):DrS c F env N R:=λn st hb=>by
 rcases h (n+(c - c1)) st (hb.mono (by omega))with⟨e,s,h1,h2,h3⟩|⟨d,fr,s,h1,h2,h3⟩
 ·exact .inl ⟨e,s,h1,h2,h3.mono (by omega)⟩
 ·exact .inr ⟨d,fr,s,h1,h2,h3.mono (by omega)⟩
theorem Dr.pure{g:EF}{r:Val}(h:g env=some r)(p:P r):Dr 0 (zak g) env P:=λn st hb=>⟨r,st,zer h,p,hb⟩
theorem Dr.op{w:OF}{a b:EFr Pen3}{P1 P2:Val->Prop}(h1:Dr c1 a env P1)(h2:Dr c2 b env P2)(h3:∀x y,P1 x->P2 y->∃d fr,w x.d y.d=some (d,fr)/\P ⟨d,fr,bsOf d (x.bs++y.bs)⟩):Dr (c1+c2) (rOp w a b) env P:=λn st hb=>by
 obtain⟨x,s1,e1,p1,b1⟩:=h1 (n+c2) st (hb.mono (by omega))
 obtain⟨y,s2,e2,p2,b2⟩:=h2 n s1 b1
 obtain⟨d,fr,e3,p⟩:=h3 x y p1 p2
 exact⟨_,s2,znw e1 e2 e3,p,b2⟩
theorem DrA.nil{P:List Val->Prop}(p:P []):DrA 0 rNil env P:=λn st hb=>⟨[],st,rfl,p,hb⟩
theorem DrA.cons{a:EFr Pen3}{g:AFr Pen3}{P1:Val->Prop}{P2 P:List Val->Prop}(h1:Dr c1 a env P1)(h2:DrA c2 g env P2)(h3:∀x xs,P1 x->P2 xs->P (x::xs)):DrA (c1+c2) (zaz a g) env P:=λn st hb=>by
 obtain⟨x,s1,e1,p1,b1⟩:=h1 (n+c2) st (hb.mono (by omega))
 obtain⟨y,s2,e2,p2,b2⟩:=h2 n s1 b1
 exact⟨_,s2,zabp e1 e2,h3 x y p1 p2,b2⟩
theorem DrA.one{a:EFr Pen3}{P:List Val->Prop}(h:Dr c a env λx=>P [x]):DrA c (zaz a rNil) env P:=DrA.cons (P1:=λx=>P [x]) (P2:=λxs=>xs=[]) (c2:=0) h (DrA.nil rfl) λx xs p e=>by subst e;exact p
theorem Dr.call{m:Nat}{g:GR Pen3}{a:AFr Pen3}{PA:List Val->Prop}(h1:DrA c1 a env PA)(h2:∀rs,PA rs->rs.length+1=m/\DrG c2 g (zcu rs) λd fr=>P ⟨d,fr,bsOf d (bss rs)⟩):Dr (c1+c2) (zbb m g a) env P:=λn st hb=>by
 obtain⟨rs,s1,e1,p1,b1⟩:=h1 (n+c2) st (hb.mono (by omega))
 obtain⟨hm,hg⟩:=h2 rs p1
 obtain⟨d,fr,s2,e2,p2,b2⟩:=hg n s1 b1
 exact⟨_,s2,zyj e1 hm e2,p2,b2⟩
theorem Dr.tup{a:AFr Pen3}{PA:List Val->Prop}(h1:DrA c a env PA)(h2:∀rs,PA rs->rs.length<=100000/\P ⟨.tuple (zcu rs),false,bss rs⟩):Dr c (rTup a) env P:=λn st hb=>by
 obtain⟨rs,s1,e1,p1,b1⟩:=h1 n st hb
 obtain⟨l,p⟩:=h2 rs p1
 exact⟨_,s1,by unfold rTup;rw[e1];exact if_pos l,p,b1⟩
theorem Dr.lst{a:AFr Pen3}{PA:List Val->Prop}(h1:DrA c a env PA)(h2:∀rs,PA rs->rs.length<=100000/\P ⟨.list (zcu rs),true,bss rs⟩):Dr c (rLst a) env P:=λn st hb=>by
 obtain⟨rs,s1,e1,p1,b1⟩:=h1 n st hb
 obtain⟨l,p⟩:=h2 rs p1
 exact⟨_,s1,by unfold rLst;rw[e1];exact if_pos l,p,b1⟩
theorem Dr.cb{g:GF}{a:AFr Pen3}{PA:List Val->Prop}(h1:DrA c a env PA)(h2:∀rs,PA rs->∃d fr,g (zcu rs)=some (d,fr)/\P ⟨d,fr,bsOf d (bss rs)⟩):Dr c (rCB g a) env P:=λn st hb=>by
 obtain⟨rs,s1,e1,p1,b1⟩:=h1 n st hb
 obtain⟨d,fr,e2,p⟩:=h2 rs p1
 exact⟨_,s1,by unfold rCB;rw[e1];show((g (zcu rs)).bind _)=_;rw[e2];rfl,p,b1⟩
theorem Dr.comp{α:Type}{enc:α->PyData}{own:List Str}{fr:List Nat}{it:IF'}{g:GT}{e:EFr Pen3}{l:List α}{bs:List Nat}{Q:PyData->Prop}(hit:it env=some (l.map enc,bs))(hl:l.length<100000)
  (hs:∀x∈l,∃e1,g (enc x) (envB own fr env)=some e1/\Dr c e e1 λr=>Q r.d) (hp:∀ys,ys.length=l.length->(∀y∈ys,Q y)->P ⟨.list ys,true,if zdj ys=true then[]else bs++capA fr env⟩):Dr (c * l.length) (zyh own fr (rIP it) g zdl e) env P:=λn st hb=>by
 have go:∀(k:List α),(∀x∈k,x∈l)->∀n st,PB (n+c * k.length) st->∃ys s,zhp g zdl e (envB own fr env) (k.map enc) st=some (ys,s)/\ys.length=k.length/\(∀y∈ys,Q y)/\PB n s:=by
  intro k
  induction k with
  | nil=>exact λ_ n st hb=>⟨[],st,rfl,rfl,(λy hy=>by cases hy),hb⟩
  | cons x k ih=>
   intro hk n st hb
   obtain⟨e1,h1,h2⟩:=hs x (hk x (by simp))
   obtain⟨r,s1,h3,h4,h5⟩:=h2 (n+c * k.length) st (hb.mono (by rw[qo,Nat.mul_succ];omega))
   obtain⟨ys,s2,h6,h7,h8,h9⟩:=ih (λx hx=>hk x (qK _ hx)) n s1 h5
   refine⟨r.d::ys,s2,?_,by simp[h7],λy hy=>?_,h9⟩
   ·rw[ql]
    unfold zhp
    rw[h1]
    show((e e1 st).bind _)=_
    rw[h3]
    show((zhp g zdl e (envB own fr env) (k.map enc) s1).map _)=_
    rw[h6];rfl
   ·rcases qW.mp hy with rfl|hy
    ·exact h4
    ·exact h8 y hy
 obtain⟨ys,s,h1,h2,h3,h4⟩:=go l (λ_ h=>h) n st hb
 refine⟨_,s,?_,hp ys h2 h3,h4⟩
 unfold zyh rIP
 rw[hit]
 show(if(l.map enc).length<100000 then _ else _)=_
 rw[if_pos (by rw[qD];exact hl)]
 show((zhp g zdl e (envB own fr env) (l.map enc) st).map _)=_
 rw[h1];rfl
theorem DrT.pure{t:TF}{b:Bool}{P:Bool->Prop}(h:t env=some b)(p:P b):DrT 0 (zjf t) env P:=λn st hb=>⟨b,st,zuf h,p,hb⟩
theorem DrT.b{g:EFr Pen3}{P:Bool->Prop}(h:Dr c g env λr=>∃b,r.d=.bool b/\P b):DrT c (qB g) env P:=λn st hb=>by
 obtain⟨r,s,e,⟨b,hb',p⟩,hb2⟩:=h n st hb
 refine⟨b,s,?_,p,hb2⟩
 unfold qB
 rw[e]
 show(match r.d with|.bool b=>some (b,s)|_=>none)=_
 rw[hb']
theorem DrT.and{t u:TFr Pen3}{P1 P:Bool->Prop}(h1:DrT c1 t env P1)(h2:P1 true->DrT c2 u env P)(h3:P1 false->P false):DrT (c1+c2) (qAnd t u) env P:=λn st hb=>by
 obtain⟨b,s,e,p,hb2⟩:=h1 (n+c2) st (hb.mono (by omega))
 unfold qAnd
 rw[e]
 cases b with
 | true=>exact h2 p n s hb2
 | false=>exact⟨false,s,rfl,h3 p,hb2.mono (by omega)⟩
theorem DrS.nx(h:N env):DrS 0 rNx env N R:=λn st hb=>.inl ⟨env,st,rfl,h,hb⟩
theorem DrS.ret{g:EFr Pen3}(h:Dr c g env λr=>R r.d r.fr):DrS c (rRet g) env N R:=λn st hb=>by
 obtain⟨r,s,e,p,b⟩:=h n st hb
 exact .inr ⟨r.d,r.fr,s,zsy (bs:=r.bs) e,p,b⟩
theorem DrS.retV{f:Nat}{F:SF}{d:PyData}{fr:Bool}(h:F env=some (.rt d fr))(p:R d fr):DrS 0 (rS f F) env N R:=λn st hb=>.inr ⟨d,fr,st,by unfold rS;rw[h];rfl,p,hb⟩
theorem DrS.set{i:Nat}{g:EFr Pen3}(h:Dr c g env λr=>N (putV env i r)):DrS c (rSet i g) env N R:=λn st hb=>by
 obtain⟨r,s,e,p,b⟩:=h n st hb
 exact .inl ⟨_,s,ziv e,p,b⟩
theorem DrS.app {i:Nat} {ds:List PyData} {g:EFr Pen3} (hi:env[i]?=some (.ac (.list ds))) (hl:ds.length<100000) (h:Dr c g env λr=>i∉r.bs/\N ((frzs env r.bs).set i (.ac (.list (ds++[r.d]))))):DrS c (rApp i g) env N R:=λn st hb=>by
 obtain⟨r,s,e,⟨p1,p2⟩,b⟩:=h n st hb
 refine .inl ⟨_,s,?_,p2,b⟩
 unfold rApp
 rw[hi]
 show((g env st).bind _)=_
 rw[e]
 exact if_pos ⟨hl,p1⟩
theorem DrS.seq{A B:SFr Pen3}{N1:DEnv->Prop}(h1:DrS c1 A env N1 R)(h2:∀e,N1 e->DrS c2 B e N R):DrS (c1+c2) (rSeq A B) env N R:=λn st hb=>by
 rcases h1 (n+c2) st (hb.mono (by omega))with⟨e,s,e1,p,b⟩|⟨d,fr,s,e1,p,b⟩
 ·have:=h2 e p n s b
  unfold rSeq
  rw[e1]
  exact this
 ·exact .inr ⟨d,fr,s,zsx e1,p,b.mono (by omega)⟩
theorem DrS.iff{t:TFr Pen3}{A B:SFr Pen3}{P1:Bool->Prop}(h1:DrT c1 t env P1)(h2:P1 true->DrS c2 A env N R)(h3:P1 false->DrS c2 B env N R):DrS (c1+c2) (rIf t A B) env N R:=λn st hb=>by
 obtain⟨b,s,e,p,hb2⟩:=h1 (n+c2) st (hb.mono (by omega))
 unfold rIf
 rw[e]
 cases b with
 | true=>exact h2 p n s hb2
 | false=>exact h3 p n s hb2
theorem DrS.asg{g:EFr Pen3}{gt:GT}(h:Dr c g env λr=>∃e2,gt r.d (frzs env r.bs)=some e2/\N e2):DrS c (rAsg g gt) env N R:=λn st hb=>by
 obtain⟨r,s,e,⟨e2,p1,p2⟩,b⟩:=h n st hb
 refine .inl ⟨e2,s,?_,p2,b⟩
 unfold rAsg
 rw[e]
 show((gt r.d (frzs env r.bs)).map _)=_
 rw[p1];rfl
theorem DrS.for{α:Type}{enc:α->PyData}{it:IF'}{g:GT}{body:SFr Pen3}{l:List α}{bs:List Nat}(hit:it env=some (l.map enc,bs))(I:List α->DEnv->Prop)(h0:I [] (frzs env bs))
  (hs:∀pre x post e,pre++x::post=l->I pre e->∃e1,g (enc x) e=some e1/\DrS c body e1 (I (pre++[x])) R) (hn:∀e,I l e->N e):DrS (c * l.length) (rFor (rIP it) g body) env N R:=λn st hb=>by
 have go:∀(k pre:List α)(e:DEnv),pre++k=l->I pre e->∀n st,PB (n+c * k.length) st->(∃e2 s,zpk g body (k.map enc) e st=some (.nx e2 s)/\I l e2/\PB n s)\/∃d fr s,zpk g body (k.map enc) e st=some (.rt d fr s)/\R d fr/\PB n s:=by
  intro k
  induction k with
  | nil=>
   intro pre e hp hI n st hb
   rw[qx]at hp
   rw[hp]at hI
   exact .inl ⟨e,st,rfl,hI,hb⟩
  | cons x k ih=>
   intro pre e hp hI n st hb
   obtain⟨e1,h1,h2⟩:=hs pre x k e hp hI
   rw[ql]
   unfold zpk
   rw[h1]
   show(∃e2 s,((body e1 st).bind _)=_/\_)\/∃d fr s,((body e1 st).bind _)=_/\_
   rcases h2 (n+c * k.length) st (hb.mono (by rw[qo,Nat.mul_succ];omega))with⟨e2,s,e3,p,b⟩|⟨d,fr,s,e3,p,b⟩
   ·rw[e3]
    exact ih (pre++[x]) e2 (by rw[qA6];exact hp) p n s b
   ·rw[e3]
    exact .inr ⟨d,fr,s,rfl,p,b.mono (by omega)⟩
 have ef:rFor (rIP it) g body env st=zpk g body (l.map enc) (frzs env bs) st:=by
  unfold rFor rIP
  rw[hit];rfl
 rw[ef]
 rcases go l [] _ rfl h0 n st hb with⟨e2,s,h1,h2,h3⟩|h
 ·exact .inl ⟨e2,s,h1,hn e2 h2,h3⟩
 ·exact .inr h
theorem DrS.fn{m:Nat}{F:SFr Pen3}{ds:List PyData}(he:znv m ds=env)(h:DrS c F env (λ_=>False) R):DrG c (fnR m F) ds R:=λn st hb=>by
 rcases h n st hb with⟨_,_,_,z,_⟩|⟨d,fr,s,e,p,b⟩
 ·exact z.elim
 ·exact⟨d,fr,s,zyk he e,p,b⟩
end
theorem zja{α:Type}{l:List α}{i:Int}(h0:0<=i)(h1:i<l.length):∃x,atI l i=some x/\x∈l:=by
 have hn:i.toNat<l.length:=by omega
 refine⟨l[i.toNat],?_,qAi _⟩
 have:=zlk (xs:=l) (j:=i.toNat) (qO hn)
 rw[show((i.toNat:Nat):Int)=i by omega]at this
 exact this
theorem zom{z:Str}(h:z.cps.toList.all (λc=>decide (c<128))=true):Low z:=λc hc=>of_decide_eq_true (qAE.mp h c hc)
theorem zzp{n:Nat}:(Str.ofString (toString (n:Int))).length<=30↔n<10 ^ 30:=by
 have e:(Str.ofString (toString (n:Int))).length=(Nat.toDigits 10 n).length:=by
  have h1:(toString (n:Int))=String.ofList (Nat.toDigits 10 n):=by
   show(toString (Int.ofNat n))=_
   show Nat.repr n=_
   exact Nat.repr_eq_ofList_toDigits
  rw[h1]
  rw[qBJ]
  simp[Str.length]
 rw[e]
 exact Nat.length_toDigits_le_iff (by decide) (by decide)
theorem zale{a:EF}{env:DEnv}{n:Int}(h:a env=some (vi n)):eCB absD (zah a aNil) env=some (vi (n.natAbs:Nat)):=by
 unfold eCB
 rw[ziw h,qj]
 show some (vi (if n<0 then -n else n))=_
 congr 2
 split<;>omega
theorem zmv{a b:EF}{env:DEnv}{i j:Int}(ha:a env=some (vi i))(hb:b env=some (vi j))(h0:0<=j)(h1:j<=1000)(h2:i.natAbs<2 ^ 1000):eOp powB a b env=some (vi (i ^ j.toNat)):=by
 unfold eOp
 rw[ha,hb]
 show((powB (.int i) (.int j)).bind _)=_
 unfold powB intD
 dsimp only
 rw[if_pos (by rw[qk];exact⟨decide_eq_true ⟨h0,h1⟩,decide_eq_true h2⟩)]
 rfl
theorem zmw{n:Nat}(h:n<2 ^ 200):n<2 ^ 1000:=qM h (Nat.pow_le_pow_right (by decide) (by decide))
theorem zalf{a b:EF}{env:DEnv}{ds:List PyData}{fr:Bool}{bs:List Nat}{i:Int}{x:Int}(ha:a env=some ⟨.list ds,fr,bs⟩)(hb:b env=some (vi i))(h:atI ds i=some (.int x)):eOp ixD a b env=some (vi x):=by
 unfold eOp
 rw[ha,hb]
 show((ixD (.list ds) (.int i)).bind _)=_
 unfold ixD
 dsimp only
 rw[h];rfl
noncomputable abbrev fstL:List PyData:=[.int 2147483647,.int 2147483629,.int 2147483587,.int 2147483579,.int 2147483563,.int 2147483549,.int 2147483543]
noncomputable abbrev lstL:List PyData:=[.int 2147483497,.int 2147483489,.int 2147483477,.int 2147483423,.int 2147483399]
theorem zalg{i:Int}(h0:0<=i)(h1:i<7):∃x:Int,atI fstL i=some (.int x)/\0<x/\x<=2147483647:=by
 obtain⟨d,e,m⟩:=zja (l:=fstL) h0 h1
 simp only[qW,qAd,or_false]at m
 rcases m with rfl|rfl|rfl|rfl|rfl|rfl|rfl<;>exact⟨_,e,by decide,by decide⟩
theorem zalh{i:Int}(h0:0<=i)(h1:i<5):∃x:Int,atI lstL i=some (.int x)/\0<x/\x<=2147483647:=by
 obtain⟨d,e,m⟩:=zja (l:=lstL) h0 h1
 simp only[qW,qAd,or_false]at m
 rcases m with rfl|rfl|rfl|rfl|rfl<;>exact⟨_,e,by decide,by decide⟩
noncomputable abbrev tkE(k a c:Int):DEnv:=[.no,.pl (.int k),.no,.pl (.int a),.pl (.int c),.no,.no,.no]
theorem zahk{k a:Int}{st:Pen3}:∃c:Int,rIf (qB (rOp gtD zre (zak (eC (.int 0))))) (rSet 4 (rIx3 (eVar 3))) rNx (tkE k a 37) st=some (.nx (tkE k a c) st):=by
 have t:qB (rOp gtD zre (zak (eC (.int 0)))) (tkE k a 37) st=some (decide ((0:Int)<st.ns.length),st):=by
  unfold qB
  rw[znw (T:=Pen3) (x:=vi st.ns.length) (y:=vi 0) (s1:=st) (s2:=st) (d:=.bool (decide ((0:Int)<st.ns.length))) (fr:=false) rfl rfl rfl]
  rfl
 by_cases h:st.ns=[]
 ·rw[h]at t
  exact⟨37,zagc t rfl⟩
 ·have hp:0<st.ns.length:=qAy.mpr h
  rw[decide_eq_true (by omega)]at t
  obtain⟨c,ec,_⟩:=zja (l:=st.ns) (i:=a % st.ns.length) (qAU _ (by omega)) (qAJ _ (by omega))
  refine⟨c,zagb t ?_⟩
  have e:rIx3 (eVar 3) (tkE k a 37) st=some (vi c,st):=by
   unfold rIx3
   show(if st.ns=[]then none else _)=_
   rw[if_neg h,ec];rfl
  rw[ziv e];rfl
theorem mulI{i j:Int}(h:(-(2 ^ 64)<i/\i<2 ^ 64)\/(-(2 ^ 64)<j/\j<2 ^ 64)):mulD (.int i) (.int j)=some (.int (i * j),false):=by unfold mulD;dsimp only;rw[if_pos h]
theorem zali{k:Int}(k1:1<=k)(k2:k<=1000000):DrG 1 zai [.int k] λd fr=>fr=false/\∃x:Int,d=.int x/\0<=x/\x<k:=by
 intro n st hb
 have fin:∀y:Int,0<=y % k/\y % k<k:=λy=>⟨qAU _ (by omega),qAJ _ (by omega)⟩
 have t1:qB (rOp gtD (zwa 2) (zak (eC (.int 0)))) [.no,.pl (.int k),.no,.no,.no,.no,.no,.no] st=some (decide (0<st.acc),st):=by
  unfold qB
  rw[znw (T:=Pen3) (x:=vi st.acc) (y:=vi 0) (s1:=st) (s2:=st) (d:=.bool (decide (0<st.acc))) (fr:=false) rfl rfl rfl]
  rfl
 by_cases hA:0<st.acc
 ·rw[decide_eq_true hA]at t1
  refine⟨.int (st.acc % k),false,{st with acc:=st.acc / k},?_,⟨rfl,_,rfl,fin _⟩,⟨hb.lo,by have:=hb.hi;show st.at_+(n:Int)<=_;omega⟩⟩
  refine zyk (env:=[.no,.pl (.int k),.no,.no,.no,.no,.no,.no]) rfl (zsx (zagb t1 ?_))
  refine zek (e1:=[.no,.pl (.int k),.pl (.int (st.acc % k)),.no,.no,.no,.no,.no]) (s1:=st) (ziv (znw (T:=Pen3) (x:=vi st.acc) (y:=vi k) (s1:=st) rfl rfl (show modD (.int st.acc) (.int k)=some (.int (st.acc % k),false) by unfold modD intD;dsimp only;rw[if_pos (decide_eq_true (by omega))]))) ?_
  refine zek (e1:=[.no,.pl (.int k),.pl (.int (st.acc % k)),.no,.no,.no,.no,.no]) (s1:={st with acc:=st.acc / k}) ?_ rfl
  unfold zrd
  rw[znw (T:=Pen3) (x:=vi st.acc) (y:=vi k) (s1:=st) rfl rfl (show zku (.int st.acc) (.int k)=some (.int (st.acc / k),false) by unfold zku intD;dsimp only;rw[if_pos (decide_eq_true ⟨by omega,by omega⟩)])]
  rfl
 ·rw[decide_eq_false hA]at t1
  have a0:=hb.lo
  have a1:st.at_+(n+1:Nat)<=1000000:=hb.hi
  have pb:∀y,PB n ⟨st.ns,st.at_+1,y⟩:=λy=>⟨by show 0<=st.at_+1;omega,by show st.at_+1+(n:Int)<=_;omega⟩
  obtain⟨c,ec⟩:=zahk (k:=k) (a:=st.at_) (st:=⟨st.ns,st.at_+1,st.acc⟩)
  generalize ha:st.at_=a at *
  have t2:qB (rOp ltD (zak (eVar 3)) zre) (tkE k a c) ⟨st.ns,a+1,st.acc⟩=some (decide (a<st.ns.length),⟨st.ns,a+1,st.acc⟩):=by
   unfold qB
   rw[znw (T:=Pen3) (x:=vi a) (y:=vi st.ns.length) (s1:=⟨st.ns,a+1,st.acc⟩) (s2:=⟨st.ns,a+1,st.acc⟩) (d:=.bool (decide (a<st.ns.length))) (fr:=false) rfl rfl rfl]
   rfl
  have eabs:∀e:DEnv,e[4]?=some (.pl (.int c))->eCB absD (zah (eVar 4) aNil) e=some (vi (c.natAbs:Nat)):=λe he=>zale (by unfold eVar;rw[he])
  have p18:∀e:DEnv,eOp powB (eC (.int 10)) (eC (.int 18)) e=some (vi 1000000000000000000):=λe=>zmv (i:=10) (j:=18) rfl rfl (by decide) (by decide) (by decide +kernel)
  have t3:qAnd (qB (rOp ltD (zak (eVar 3)) zre)) (zjf (zdt (eOp geD (eCB absD (zah (eVar 4) aNil)) (eOp powB (eC (.int 10)) (eC (.int 18)))))) (tkE k a c) ⟨st.ns,a+1,st.acc⟩=some (decide (a<st.ns.length)&&decide ((1000000000000000000:Int)<=(c.natAbs:Nat)),⟨st.ns,a+1,st.acc⟩):=by
   unfold qAnd
   rw[t2]
   by_cases h:a<st.ns.length
   ·rw[decide_eq_true h]
    rw[qj,if_pos rfl,Bool.true_and]
    exact zuf (zjl (zhh (eabs _ rfl) (p18 _) rfl))
   ·rw[decide_eq_false h];rfl
  have run:∀(d:PyData)(fr:Bool)(s:Pen3),(rSeq (rIf (qAnd (qB (rOp ltD (zak (eVar 3)) zre)) (zjf (zdt (eOp geD (eCB absD (zah (eVar 4) aNil)) (eOp powB (eC (.int 10)) (eC (.int 18))))))) (rSeq (zrd 2 (zak (eOp zku (eCB absD (zah (eVar 4) aNil)) (eVar 1))))
  (rRet (zak (eOp modD (eCB absD (zah (eVar 4) aNil)) (eVar 1))))) rNx)
  (rSeq (rSet 5 (zak (eOp ixD (eLst (zah (eC (.int 2147483647)) (zah (eC (.int 2147483629)) (zah (eC (.int 2147483587)) (zah (eC (.int 2147483579)) (zah (eC (.int 2147483563)) (zah (eC (.int 2147483549)) (zah (eC (.int 2147483543)) aNil)))))))) (eOp modD (eVar 3) (eC (.int 7))))))
  (rSeq (rSet 6 (zak (eOp ixD (eLst (zah (eC (.int 2147483497)) (zah (eC (.int 2147483489)) (zah (eC (.int 2147483477)) (zah (eC (.int 2147483423)) (zah (eC (.int 2147483399)) aNil)))))) (eOp modD (eVar 3) (eC (.int 5))))))
  (rSeq (rSet 7 (zak (eOp modD (eOp powB (eOp addD (eOp modD (eVar 4) (eVar 5)) (eOp mulD (eOp mulD (eOp addD (eVar 3) (eC (.int 3))) (eOp addD (eVar 3) (eC (.int 3)))) (eC (.int 40503)))) (eC (.int 5))) (eVar 5))))
  (rSeq (rSet 7 (zak (eOp modD (eOp powB (eOp addD (eOp mulD (eVar 7) (eOp addD (eOp mulD (eC (.int 2)) (eVar 3)) (eC (.int 48271)))) (eVar 3)) (eC (.int 3))) (eVar 6))))
  (rRet (zak (eOp modD (eOp zku (eVar 7) (eC (.int 32))) (eVar 1))))))))) (tkE k a c) ⟨st.ns,a+1,st.acc⟩=some (.rt d fr s)->zai [.int k] st=some (d,fr,s):=λd fr s ho=>by
   refine zyk (env:=[.no,.pl (.int k),.no,.no,.no,.no,.no,.no]) rfl (zek (zagc (a:=_) t1 rfl) (zek (e1:=[.no,.pl (.int k),.no,.pl (.int a),.no,.no,.no,.no]) (s1:=st) ?_ (zek (e1:=[.no,.pl (.int k),.no,.pl (.int a),.no,.no,.no,.no]) (s1:=⟨st.ns,a+1,st.acc⟩) rfl (zek (e1:=tkE k a 37) (s1:=⟨st.ns,a+1,st.acc⟩) rfl (zek ec ho)))))
   rw[<- ha];rfl
  by_cases hc:(decide (a<st.ns.length)&&decide ((1000000000000000000:Int)<=(c.natAbs:Nat)))=true
  ·rw[hc]at t3
   refine⟨.int ((c.natAbs:Nat) % k),false,⟨st.ns,a+1,(c.natAbs:Nat) / k⟩,?_,⟨rfl,_,rfl,fin _⟩,pb _⟩
   refine run _ _ _ (zsx (zagb t3 (zek (e1:=tkE k a c) (s1:=⟨st.ns,a+1,(c.natAbs:Nat) / k⟩) ?_ (zsy (bs:=[]) (zer (zmf (eabs _ rfl) rfl (by omega)))))))
   unfold zrd
   rw[zer (zuq (eabs _ rfl) rfl (by omega) (by omega))]
   rfl
  ·rw[Bool.eq_false_iff.mpr hc]at t3
   obtain⟨x5,e5,p5,q5⟩:=zalg (i:=a % 7) (qAU _ (by decide)) (qAJ _ (by decide))
   obtain⟨x6,e6,p6,q6⟩:=zalh (i:=a % 5) (qAU _ (by decide)) (qAJ _ (by decide))
   have m1:0<=c % x5:=qAU _ (by omega)
   have m2:c % x5<x5:=qAJ _ p5
   have sq0:0<=(a+3) * (a+3):=Int.mul_nonneg (by omega) (by omega)
   have sq1:(a+3) * (a+3)<=1000003 * 1000003:=Int.mul_le_mul (by omega) (by omega) (by omega) (by omega)
   have n1:(c % x5+(a+3) * (a+3) * 40503).natAbs<2 ^ 200:=qM (show _<2 ^ 60 by omega) (by decide +kernel)
   generalize hy:(c % x5+(a+3) * (a+3) * 40503) ^ (5:Int).toNat % x5=y
   have y1:0<=y:=by rw[<- hy];exact qAU _ (by omega)
   have y2:y<x5:=by rw[<- hy];exact qAJ _ p5
   have z0:0<=y * (2 * a+48271):=Int.mul_nonneg y1 (by omega)
   have z1:y * (2 * a+48271)<=2147483647 * 3000000:=Int.mul_le_mul (by omega) (by omega) (by omega) (by omega)
   have n2:(y * (2 * a+48271)+a).natAbs<2 ^ 200:=qM (show _<2 ^ 60 by omega) (by decide +kernel)
   refine⟨.int ((y * (2 * a+48271)+a) ^ (3:Int).toNat % x6 / 32 % k),false,⟨st.ns,a+1,st.acc⟩,?_,⟨rfl,_,rfl,fin _⟩,pb _⟩
   refine run _ _ _ (zek (zagc t3 rfl) ?_)
   refine zek (e1:=[.no,.pl (.int k),.no,.pl (.int a),.pl (.int c),.pl (.int x5),.no,.no]) (s1:=⟨st.ns,a+1,st.acc⟩) (ziv (r:=vi x5) (zer (zalf (ds:=fstL) (fr:=true) (bs:=[]) rfl (zmf rfl rfl (by decide)) e5))) ?_
   refine zek (e1:=[.no,.pl (.int k),.no,.pl (.int a),.pl (.int c),.pl (.int x5),.pl (.int x6),.no]) (s1:=⟨st.ns,a+1,st.acc⟩) (ziv (r:=vi x6) (zer (zalf (ds:=lstL) (fr:=true) (bs:=[]) rfl (zmf rfl rfl (by decide)) e6))) ?_
   refine zek (e1:=[.no,.pl (.int k),.no,.pl (.int a),.pl (.int c),.pl (.int x5),.pl (.int x6),.pl (.int y)]) (s1:=⟨st.ns,a+1,st.acc⟩) (ziv (r:=vi y) (zer ?_)) ?_
   ·rw[<- hy]
    exact zmf (zmv (zth (zmf rfl rfl p5) (zti (zti (zth rfl rfl) (zth rfl rfl) (.inl ⟨by omega,by omega⟩)) rfl (.inr ⟨by decide,by decide⟩))) rfl (by decide) (by decide) (zmw n1)) rfl p5
   refine zek (e1:=[.no,.pl (.int k),.no,.pl (.int a),.pl (.int c),.pl (.int x5),.pl (.int x6),.pl (.int ((y * (2 * a+48271)+a) ^ (3:Int).toNat % x6))]) (s1:=⟨st.ns,a+1,st.acc⟩) (ziv (r:=vi _) (zer ?_)) ?_
   ·exact zmf (zmv (zth (zti rfl (zth (zti rfl rfl (.inl ⟨by decide,by decide⟩)) rfl) (.inr ⟨by omega,by omega⟩)) rfl) rfl (by decide) (by decide) (zmw n2)) rfl p6
   exact zsy (bs:=[]) (zer (zmf (zuq rfl rfl (by decide) (by decide)) rfl (by omega)))
theorem zgj{a:EFr Pen3}{env:DEnv}{k:Int}(ha:Dr 0 a env λr=>r=vi k)(k1:1<=k)(k2:k<=1000000):Dr 1 (zbb 2 zai (zaz a rNil)) env λr=>∃x:Int,r=vi x/\0<=x/\x<k:=by
 refine(Dr.call (c1:=0) (c2:=1) (PA:=λrs=>rs=[vi k]) (DrA.one (ha.imp λr h=>by rw[h])) λrs h=>?_).mono (by decide)
 subst h
 refine⟨rfl,λn st hb=>?_⟩
 obtain⟨d,fr,s,e,⟨h1,x,h2,h3⟩,b⟩:=zali k1 k2 n st hb
 exact⟨d,fr,s,e,⟨x,by rw[h1,h2];rfl,h3⟩,b⟩
theorem zbz{env:DEnv}{k:Int}(k1:1<=k)(k2:k<=1000000):Dr 1 (zbb 2 zai (zaz (zak (eC (.int k))) rNil)) env λr=>∃x:Int,r=vi x/\0<=x/\x<k:=zgj (Dr.pure rfl rfl) k1 k2
theorem znm{g:GF}{a:AF}{env:DEnv}{rs:List Val}{d:PyData}{fr:Bool}(h:a env=some rs)(k:g (zcu rs)=some (d,fr)):eCB g a env=some ⟨d,fr,bsOf d (bss rs)⟩:=by
 unfold eCB;rw[h];show((g (zcu rs)).bind _)=_;rw[k];rfl
theorem zfd{a:EF}{g:AF}{env:DEnv}{x:Val}{xs:List Val}(h1:a env=some x)(h2:g env=some xs):zah a g env=some (x::xs):=by
 unfold zah;rw[h1,h2];rfl
noncomputable def Fig(i:Int):Prop:=i.natAbs<10 ^ 30
theorem p6(e:DEnv):eOp powB (eC (.int 10)) (eC (.int 6)) e=some (vi 1000000):=zmv (i:=10) (j:=6) rfl rfl (by decide) (by decide) (by decide +kernel)
theorem zacl:DrG 10 zdp [] λd fr=>fr=false/\∃i:Int,d=.int i/\Fig i:=by
 refine DrS.fn (env:=[.no,.no,.no,.no,.no]) rfl ?_
 refine(DrS.seq (c1:=1) (c2:=9) (N1:=λe=>∃w:Int,e=[.no,.pl (.int w),.no,.no,.no]) (DrS.set ((zbz (k:=4) (by decide) (by decide)).imp ?_)) ?_)
 ·rintro r ⟨x,rfl,_⟩;exact⟨x,rfl⟩
 rintro e ⟨w,rfl⟩
 refine(DrS.seq (c1:=1) (c2:=8) (N1:=λe=>∃s:Int,(s=1\/s=-1)/\e=[.no,.pl (.int w),.pl (.int s),.no,.no]) (DrS.set ?_) ?_)
 ·refine(Dr.op (c1:=0) (c2:=1) (P1:=λr=>r=vi 1) (P2:=λr=>∃x:Int,r=vi (2 * x)/\0<=x/\x<2) (Dr.pure rfl rfl) ?_ ?_)
  ·refine(Dr.op (c1:=0) (c2:=1) (P1:=λr=>r=vi 2) (Dr.pure rfl rfl) (zbz (k:=2) (by decide) (by decide)) ?_)
   rintro a b rfl ⟨x,rfl,h⟩
   exact⟨_,_,mulI (.inl ⟨by decide,by decide⟩),x,rfl,h⟩
  ·rintro a b rfl ⟨x,rfl,h0,h1⟩
   exact⟨.int (1 - 2 * x),false,rfl,1 - 2 * x,by omega,rfl⟩
 rintro e ⟨s,hs,rfl⟩
 refine(DrS.seq (c1:=1) (c2:=7) (N1:=λe=>e=[.no,.pl (.int w),.pl (.int s),.no,.no]) ?_ ?_)
 ·refine DrS.iff (c1:=0) (c2:=1) (P1:=λ_=>True) (DrT.pure (b:=decide (0<w)) rfl trivial) (λ_=>DrS.ret ?_) λ_=>DrS.mono (c1:=0) (c:=1) (DrS.nx rfl) (by decide)
  refine(Dr.op (c1:=0) (c2:=1) (P1:=λr=>r=vi s) (Dr.pure rfl rfl) (zbz (k:=100) (by decide) (by decide)) ?_)
  rintro a b rfl ⟨x,rfl,h0,h1⟩
  refine⟨_,_,mulI (.inl ⟨by omega,by omega⟩),rfl,s * x,rfl,?_⟩
  have:(s * x).natAbs<1000:=by rcases hs with rfl|rfl<;>omega
  exact qM this (by decide +kernel)
 rintro e rfl
 refine(DrS.seq (c1:=0) (c2:=7) (N1:=λe=>e=[.no,.pl (.int w),.pl (.int s),.pl (.int 0),.no]) (DrS.set (Dr.pure rfl rfl)) ?_)
 rintro e rfl
 refine(DrS.seq (c1:=5) (c2:=2) (N1:=λe=>∃(y:Int)(v:Sl),0<=y/\y<1000000 ^ 5/\e=[.no,.pl (.int w),.pl (.int s),.pl (.int y),v]) ?_ ?_)
 ·refine DrS.for (c:=1) (enc:=λ(k:Nat)=>PyData.int (k:Int)) (l:=List.range 5) (bs:=[]) rfl (λpre e=>∃(y:Int)(v:Sl),0<=y/\y<1000000 ^ pre.length/\e=[.no,.pl (.int w),.pl (.int s),.pl (.int y),v]) ⟨0,.no,Int.le_refl 0,by show(0:Int)<1000000 ^ 0;decide,rfl⟩ ?_ λe h=>h
  rintro pre k post e - ⟨y,v,y0,y1,rfl⟩
  refine⟨_,rfl,DrS.set ?_⟩
  refine(Dr.op (c1:=0) (c2:=1) (P1:=λr=>r=vi (y * 1000000)) (Dr.pure (zti rfl (p6 _) (.inr ⟨by decide,by decide⟩)) rfl) (zgj (k:=1000000) (Dr.pure (p6 _) rfl) (by decide) (by decide)) ?_)
  rintro a b rfl ⟨x,rfl,h0,h1⟩
  refine⟨.int (y * 1000000+x),false,rfl,y * 1000000+x,_,by omega,?_,rfl⟩
  rw[qF,qAO,Int.pow_succ]
  omega
 rintro e ⟨y,v,y0,y1,rfl⟩
 refine DrS.mono (c1:=0) (DrS.ret (Dr.pure (zti rfl rfl (.inl ⟨by omega,by omega⟩)) ⟨rfl,_,rfl,?_⟩)) (by decide)
 have:(s * y).natAbs<1000000 ^ 5:=by
  have y1:y<1000000000000000000000000000000:=y1
  show(s * y).natAbs<1000000000000000000000000000000
  rcases hs with rfl|rfl<;>omega
 exact qM this (by decide +kernel)
theorem DrS.apppop{c i j:Nat}{env:DEnv}{N:DEnv->Prop}{R:PyData->Bool->Prop}{ds es:List PyData}{g:EFr Pen3}(hi:env[i]?=some (.ac (.list ds)))(hj:env[j]?=some (.ac (.list es)))(hl:ds.length<100000)(hij:i≠j)
  (h:Dr c g env λr=>∃(n:Int) (d:PyData),r.d=.int n/\0<=n/\n<100000/\es[n.toNat]?=some d/\N ((env.set j (.ac (.list (es.eraseIdx n.toNat)))).set i (.ac (.list (ds++[d]))))):DrS c (zmc i j g) env N R:=λn st hb=>by
 obtain⟨r,s,e,⟨m,d,p1,p2,p3,p4,p5⟩,b⟩:=h n st hb
 refine .inl ⟨_,s,?_,p5,b⟩
 unfold zmc
 rw[hi,hj]
 show((g env st).bind _)=_
 rw[e]
 show(match r.d with|.int n=>_|_=>none)=_
 rw[p1]
 show(if _ then _ else _)=_
 rw[if_pos ⟨p2,p3,hl,hij⟩,p4];rfl
theorem zzq{α:Type}{enc:α->PyData}(l:List α){m:Int}{C:Nat}(m0:0<=m)(m1:m<=1000)(hl:l.length<=1000)(hC:m<=C):DrG C zfj [.list (l.map enc),.int m] λd fr=>fr=true/\∃l':List α,d=.list (l'.map enc)/\(∀x∈l',x∈l)/\l'.length<=m.toNat:=by
 refine DrS.fn (env:=[.no,.pl (.list (l.map enc)),.pl (.int m),.no,.no,.no]) rfl ?_
 refine(DrS.seq (c1:=0) (c2:=C) (N1:=λe=>e=[.no,.pl (.list (l.map enc)),.pl (.int m),.ac (.list (l.map enc)),.no,.no]) (DrS.set (Dr.pure rfl rfl)) ?_).mono (by omega)
 rintro e rfl
 refine(DrS.seq (c1:=0) (c2:=C) (N1:=λe=>e=[.no,.pl (.list (l.map enc)),.pl (.int m),.ac (.list (l.map enc)),.ac (.list []),.no]) (DrS.set (Dr.pure rfl rfl)) ?_).mono (by omega)
 rintro e rfl
 generalize hn:(if(l.length:Int)<m then(l.length:Int)else m).toNat=n
 have n1:n<=l.length:=by split at hn<;>omega
 have n2:n<=m.toNat:=by split at hn<;>omega
 have it:zcl (zah (eCB minD (zah (eVar 2) (zah (eCB lenD (zah (eVar 3) aNil)) aNil))) aNil) [.no,.pl (.list (l.map enc)),.pl (.int m),.ac (.list (l.map enc)),.ac (.list []),.no]=some ((List.range n).map (λ(k:Nat)=>PyData.int (k:Int)),[]):=by
  have e1:zah (eCB minD (zah (eVar 2) (zah (eCB lenD (zah (eVar 3) aNil)) aNil))) aNil [.no,.pl (.list (l.map enc)),.pl (.int m),.ac (.list (l.map enc)),.ac (.list []),.no]=some [vi (if(l.length:Int)<m then(l.length:Int)else m)]:=by
   have e0:=zrh (a:=eVar 3) (env:=[.no,.pl (.list (l.map enc)),.pl (.int m),.ac (.list (l.map enc)),.ac (.list []),.no]) (ds:=l.map enc) (fr:=false) (bs:=[3]) rfl
   rw[qD]at e0
   exact ziw (znm (rs:=[vi m,vi l.length]) (zfd rfl (ziw e0)) rfl)
  unfold zcl
  rw[e1]
  show(if _ then _ else _)=_
  rw[if_pos (by split<;>omega),hn,zft]
 refine(DrS.seq (c1:=C) (c2:=0) (N1:=λe=>∃(l1 l2:List α)(v:Sl),(∀x∈l1,x∈l)/\l1.length=n/\e=[.no,.pl (.list (l.map enc)),.pl (.int m),.ac (.list (l2.map enc)),.ac (.list (l1.map enc)),v]) ?_ ?_)
 ·refine DrS.mono (DrS.for (c:=1) it (λpre e=>∃(l1 l2:List α)(v:Sl),(∀x∈l1,x∈l)/\(∀x∈l2,x∈l)/\l1.length=pre.length/\l2.length+pre.length=l.length/\e=[.no,.pl (.list (l.map enc)),.pl (.int m),.ac (.list (l2.map enc)),.ac (.list (l1.map enc)),v]) ⟨[],l,.no,(λx hx=>by cases hx),(λx hx=>hx),rfl,rfl,rfl⟩ ?_ ?_) (by rw[qX];omega)
  ·rintro pre k post e hp ⟨l1,l2,v,h1,h2,h3,h4,rfl⟩
   have hk:pre.length<n:=by
    have:=congrArg List.length hp
    rw[qF,qo,qX]at this
    omega
   refine⟨_,rfl,?_⟩
   have e2:eCB lenD (zah (eVar 3) aNil) [.no,.pl (.list (l.map enc)),.pl (.int m),.ac (.list (l2.map enc)),.ac (.list (l1.map enc)),.pl (.int (k:Int))]=some (vi (l2.length:Int)):=by
    have:=zrh (a:=eVar 3) (env:=[.no,.pl (.list (l.map enc)),.pl (.int m),.ac (.list (l2.map enc)),.ac (.list (l1.map enc)),.pl (.int (k:Int))]) (ds:=l2.map enc) (fr:=false) (bs:=[3]) rfl
    rw[qD]at this
    exact this
   refine DrS.apppop (ds:=l1.map enc) (es:=l2.map enc) rfl rfl (by rw[qD];omega) (by decide) ((zgj (Dr.pure e2 rfl) (by omega) (by omega)).imp ?_)
   rintro r ⟨x,rfl,x0,x1⟩
   have hx:x.toNat<l2.length:=by omega
   refine⟨x,enc l2[x.toNat],rfl,x0,by omega,by rw[qa,qO hx];rfl,l1++[l2[x.toNat]],l2.eraseIdx x.toNat,.pl (.int (k:Int)),λy hy=>?_,λy hy=>h2 y (List.mem_of_mem_eraseIdx hy),?_,?_,?_⟩
   ·rcases qb.mp hy with hy|hy
    ·exact h1 y hy
    ·rw[qc.mp hy];exact h2 _ (qAi hx)
   ·simp[h3]
   ·rw[List.length_eraseIdx_of_lt hx]
    simp;omega
   ·rw[qAD,zri];rfl
  ·rintro e ⟨l1,l2,v,h1,h2,h3,h4,rfl⟩
   exact⟨l1,l2,v,h1,by rw[h3,qX],rfl⟩
 rintro e ⟨l1,l2,v,h1,h2,rfl⟩
 exact DrS.retV (F:=zjy 4) rfl ⟨rfl,l1,rfl,h1,by omega⟩
noncomputable def tx(x:Str):List Nat:=x.cps.toList
theorem zon(x:Str):(tx x).length=x.length:=by show x.cps.toList.length=x.cps.size;exact qAj
theorem zrz(sep:List Nat):∀(xs:List Str)(sp:Array Nat)(acc:Array Nat),sp.toList=sep->(xs.foldl (λacc p=>acc++sp++p.cps) acc).toList=acc.toList++(xs.map λy=>sep++tx y).flatten
 | [],sp,acc,h=>by simp
 | x::xs,sp,acc,h=>by
  rw[qBu,zrz sep xs sp _ h,ql,qBg]
  simp[Array.toList_append,h,tx,qA6]
theorem zzr(sep:Str)(x:Str)(xs:List Str):tx (zgz sep (x::xs))=tx x++(xs.map λy=>tx sep++tx y).flatten:=zrz (tx sep) xs sep.cps x.cps rfl
theorem zacm(xs:List Str):tx (zgz "" xs)=(xs.map tx).flatten:=by
 cases xs with
 | nil=>rfl
 | cons x xs=>
  rw[zzr,ql,qBg]
  congr 2
theorem zuu(k:Nat):∀(xs:List Str)(n:Nat),xs.foldl (λn z=>n+z.length+k) n=n+(xs.map λz=>z.length+k).sum
 | [],n=>by simp
 | x::xs,n=>by
  rw[qBu,zuu k xs,ql,qA9]
  omega
theorem zacn(sep:Str)(xs:List Str):(zgz sep xs).length<=(xs.map λz=>z.length+sep.length).sum:=by
 rw[<- zon]
 cases xs with
 | nil=>exact qAH _
 | cons x xs=>
  rw[zzr,qF,zon,ql,qA9]
  have:((xs.map λy=>tx sep++tx y).flatten).length=(xs.map λz=>z.length+sep.length).sum:=by
   rw[List.length_flatten,qAR]
   congr 1
   refine qBT λy _=>?_
   show(tx sep++tx y).length=_
   rw[qF,zon,zon];omega
  omega
theorem zsa{α:Type}{f:α->Nat}{B:Nat}:∀{xs:List α},(∀x∈xs,f x<=B)->(xs.map f).sum<=xs.length * B
 | [],_=>by simp
 | x::xs,h=>by
  rw[ql,qA9,qo,Nat.succ_mul]
  have:=h x (by simp)
  have:=zsa (xs:=xs) λy hy=>h y (qK _ hy)
  omega
theorem zzs:∀(xs:List Str),zvr.unT (xs.map .str)=some xs
 | []=>rfl
 | x::xs=>by
  show((zvr.unT (xs.map .str)).map _)=_
  rw[zzs xs];rfl
theorem zahl{sep:Str}{xs:List Str}{B:Nat}(h:∀x∈xs,x.length+sep.length<=B)(hB:xs.length * B<=100000):zze sep (.list (xs.map .str))=some (.str (zgz sep xs)):=by
 have s:=zsa (f:=λz:Str=>z.length+sep.length) h
 have g:=zacn sep xs
 show((zvr.unT (xs.map .str)).bind _)=_
 rw[zzs]
 show(if _/\_ then _ else _)=_
 rw[if_pos ⟨by rw[zuu];omega,by omega⟩]
theorem zahm{sep:Str}{a:EF}{env:DEnv}{xs:List Str}{fr:Bool}{bs:List Nat}{B:Nat}(ha:a env=some ⟨.list (xs.map .str),fr,bs⟩)(h:∀x∈xs,x.length+sep.length<=B)(hB:xs.length * B<=100000):zko sep a env=some ⟨.str (zgz sep xs),false,[]⟩:=by
 unfold zko
 rw[ha]
 show((zze sep (.list (xs.map .str))).map _)=_
 rw[zahl h hB];rfl
noncomputable def sg(c:Nat):Str:=⟨#[c]⟩
theorem zzt(cs:List Nat):tx (zgz "" (cs.map sg))=cs:=by
 rw[zacm,qAR]
 induction cs with
 | nil=>rfl
 | cons c cs ih=>rw[ql,qBg,ih];rfl
structure Wd(x:Str):Prop where
 lo:1<=x.length
 hi:x.length<=8
 low:Low x
theorem zzu{cs:List Nat}:(zgz "" (cs.map sg)).length=cs.length:=by rw[<- zon,zzt]
theorem zalj{cs:List Nat}(h1:1<=cs.length)(h2:cs.length<=8)(h3:∀c∈cs,c<128):Wd (zgz "" (cs.map sg)):=⟨by rw[zzu];exact h1,by rw[zzu];exact h2,λc hc=>h3 c (by
 have:c∈tx (zgz "" (cs.map sg)):=hc
 rw[zzt]at this
 exact this)⟩
noncomputable abbrev zgk(cs:List Nat):PyData:=.list ((cs.map sg).map .str)
theorem zaco(cs:List Nat)(c:Nat):zgk (cs++[c])=.list ((cs.map sg).map .str++[.str (sg c)]):=by unfold zgk;rw[qAD,qAD];rfl
theorem eqI{i j:Int}:eqD (.int i) (.int j)=some (.bool (i==j),false):=by
 rfl
theorem zzv{env:DEnv}{cs:List Nat}(h:env[7]?=some (.ac (zgk cs)))(h2:cs.length<=8):zko "" (eVar 7) env=some (vs (zgz "" (cs.map sg))):=by
 refine zahm (B:=1) (fr:=false) (bs:=[7]) (by unfold eVar;rw[h]) (λx hx=>?_) (by rw[qD];omega)
 obtain⟨c,_,rfl⟩:=qg.mp hx
 exact qJ 1
theorem DrS.setI {c i j:Nat} {env:DEnv} {N:DEnv->Prop} {R:PyData->Bool->Prop} {ds:List PyData} {gk gv:EF} {d:PyData} {fr:Bool} {p:Int} (hi:env[i]?=some (.ac (.list ds))) (hv:gv env=some ⟨d,fr,[]⟩) (hk:gk env=some (vi p)) (hj:ixN ds.length p=some j) (h:N (env.set i (.ac (.list (ds.set j d))))) :
  DrS 0 (zyi i (zak gk) (zak gv)) env N R:=λn st hb=>by
 refine .inl ⟨_,st,?_,h,hb⟩
 unfold zyi
 rw[hi]
 show((zak gv env st).bind _)=_
 rw[zer hv]
 show((zak gk env st).bind _)=_
 rw[zer hk]
 show((ixN ds.length p).bind _)=_
 rw[hj]
 show(if i∉([]:List Nat)then some (OutR.nx ((frzs env []).set i (.ac (.list (ds.set j d)))) st)else none)=_
 rw[if_pos (by simp)];rfl
noncomputable abbrev oddL:List PyData:=[.str "none",.str "rule",.str "quarrel",.str "say",.str "tell",.str "call",.str "onward",.str "own",.str "new",.str "kind"]
theorem zmx {x:Str} (h:(decide (1<=x.length)&&decide (x.length<=8)&&x.cps.toList.all (λc=>decide (c<128)))=true):Wd x:=by
 rw[qk,qk]at h
 exact⟨of_decide_eq_true h.1.1,of_decide_eq_true h.1.2,zom h.2⟩
theorem zalk{i:Int}(h0:0<=i)(h1:i<10):∃w:Str,ixD (.list oddL) (.int i)=some (.str w,false)/\Wd w:=by
 obtain⟨d,e,m⟩:=zja (l:=oddL) h0 h1
 have key:∃w:Str,d=.str w/\Wd w:=by
  simp only[qW,qAd,or_false]at m
  rcases m with rfl|rfl|rfl|rfl|rfl|rfl|rfl|rfl|rfl|rfl<;>exact⟨_,rfl,zmx (by decide +kernel)⟩
 obtain⟨w,rfl,hw⟩:=key
 exact⟨w,by unfold ixD;dsimp only;rw[e];rfl,hw⟩
theorem zall{n:Nat}{i:Int}(h0:0<=i)(h1:i<n):ixN n i=some i.toNat:=by unfold ixN;rw[if_pos h0,if_pos h1]
theorem zaec{A:List Str}(hA:∀x∈A,Wd x):DrG 7 zdo [zam A] λd fr=>fr=false/\∃w:Str,d=.str w/\Wd w:=by
 refine DrS.fn (env:=[.no,.pl (zam A),.no,.no,.no,.no,.no,.no,.no,.no,.no]) rfl ?_
 refine DrS.seq (c1:=0) (c2:=7) (N1:=λe=>e=[.no,.pl (zam A),.pl (.str abc),.no,.no,.no,.no,.no,.no,.no,.no]) (DrS.set (Dr.pure rfl rfl)) ?_
 rintro e rfl
 refine DrS.seq (c1:=1) (c2:=6) (N1:=λe=>∃w:Int,e=[.no,.pl (zam A),.pl (.str abc),.pl (.int w),.no,.no,.no,.no,.no,.no,.no]) (DrS.set ((zbz (k:=3) (by decide) (by decide)).imp ?_)) ?_
 ·rintro r ⟨x,rfl,_⟩;exact⟨x,rfl⟩
 rintro e ⟨w,rfl⟩
 refine DrS.seq (c1:=1) (c2:=5) (N1:=λe=>∃l:Int,1<=l/\l<=8/\e=[.no,.pl (zam A),.pl (.str abc),.pl (.int w),.pl (.int l),.no,.no,.no,.no,.no,.no]) (DrS.set ?_) ?_
 ·refine Dr.op (c1:=0) (c2:=1) (P1:=λr=>r=vi 1) (Dr.pure rfl rfl) (zbz (k:=8) (by decide) (by decide)) ?_
  rintro a b rfl ⟨x,rfl,h0,h1⟩
  exact⟨.int (1+x),false,rfl,1+x,by omega,by omega,rfl⟩
 rintro e ⟨l,l0,l1,rfl⟩
 refine DrS.seq (c1:=1) (c2:=4) (N1:=λe=>∃p:Int,0<=p/\p<l/\e=[.no,.pl (zam A),.pl (.str abc),.pl (.int w),.pl (.int l),.pl (.int p),.no,.no,.no,.no,.no]) (DrS.set ((zgj (k:=l) (Dr.pure rfl rfl) (by omega) (by omega)).imp ?_)) ?_
 ·rintro r ⟨x,rfl,h0,h1⟩;exact⟨x,h0,h1,rfl⟩
 rintro e ⟨p,p0,p1,rfl⟩
 have p26:∀e:DEnv,eOp powB (eC (.int 26)) (eC (.int 4)) e=some (vi 456976):=λe=>zmv (i:=26) (j:=4) rfl rfl (by decide) (by decide) (by decide +kernel)
 refine DrS.seq (c1:=1) (c2:=3) (N1:=λe=>∃q:Int,e=[.no,.pl (zam A),.pl (.str abc),.pl (.int w),.pl (.int l),.pl (.int p),.pl (.int q),.no,.no,.no,.no]) (DrS.set ((zgj (k:=456976) (Dr.pure (p26 _) rfl) (by decide) (by decide)).imp ?_)) ?_
 ·rintro r ⟨x,rfl,_⟩;exact⟨x,rfl⟩
 rintro e ⟨q0,rfl⟩
 refine DrS.seq (c1:=1) (c2:=2) (N1:=λe=>∃q:Int,e=[.no,.pl (zam A),.pl (.str abc),.pl (.int w),.pl (.int l),.pl (.int p),.pl (.int q),.no,.no,.no,.no]) (DrS.set ?_) ?_
 ·refine Dr.op (c1:=0) (c2:=1) (P1:=λr=>r=vi q0) (P2:=λr=>∃x:Int,r=vi x) (Dr.pure rfl rfl) ?_ ?_
  ·refine Dr.op (c1:=0) (c2:=1) (P1:=λr=>r=vi 456976) (Dr.pure (p26 _) rfl) (zgj (k:=456976) (Dr.pure (p26 _) rfl) (by decide) (by decide)) ?_
   rintro a b rfl ⟨x,rfl,_⟩
   exact⟨_,_,mulI (.inl ⟨by decide,by decide⟩),_,rfl⟩
  ·rintro a b rfl ⟨x,rfl⟩
   exact⟨.int (q0+x),false,rfl,q0+x,rfl⟩
 rintro e ⟨q1,rfl⟩
 refine DrS.seq (c1:=0) (c2:=2) (N1:=λe=>e=[.no,.pl (zam A),.pl (.str abc),.pl (.int w),.pl (.int l),.pl (.int p),.pl (.int q1),.ac (.list []),.no,.no,.no]) (DrS.set (Dr.pure rfl rfl)) ?_
 rintro e rfl
 have it:zcl (zah (eVar 4) aNil) [.no,.pl (zam A),.pl (.str abc),.pl (.int w),.pl (.int l),.pl (.int p),.pl (.int q1),.ac (.list []),.no,.no,.no]=some ((List.range l.toNat).map (λ(k:Nat)=>PyData.int (k:Int)),[]):=by
  show(if _ then _ else _)=_
  rw[if_pos (by omega),zft]
 refine DrS.seq (c1:=0) (c2:=2) (N1:=λe=>∃(cs:List Nat)(q:Int)(v:Sl),(cs.length:Int)=l/\(∀c∈cs,c<128)/\e=[.no,.pl (zam A),.pl (.str abc),.pl (.int w),.pl (.int l),.pl (.int p),.pl (.int q),.ac (zgk cs),v,.no,.no]) ?_ ?_
 ·refine DrS.mono (c:=0) (DrS.for (c:=0) it (λpre e=>∃(cs:List Nat)(q:Int)(v:Sl),cs.length=pre.length/\(∀c∈cs,c<128)/\e=[.no,.pl (zam A),.pl (.str abc),.pl (.int w),.pl (.int l),.pl (.int p),.pl (.int q),.ac (zgk cs),v,.no,.no]) ⟨[],q1,.no,rfl,(λc hc=>by cases hc),rfl⟩ ?_ ?_) (by omega)
  ·rintro pre k post e hp ⟨cs,q,v,h1,h2,rfl⟩
   have hk:pre.length<l.toNat:=by
    have:=congrArg List.length hp
    rw[qF,qo,qX]at this
    omega
   refine⟨_,rfl,?_⟩
   have m0:0<=q % 26:=qAU _ (by decide)
   have m1:q % 26<26:=qAJ _ (by decide)
   refine DrS.seq (c1:=0) (c2:=0) (N1:=λe=>e=[.no,.pl (zam A),.pl (.str abc),.pl (.int w),.pl (.int l),.pl (.int p),.pl (.int q),.ac (zgk (cs++[97+(q % 26).toNat])),.pl (.int (k:Int)),.no,.no]) (DrS.app (ds:=(cs.map sg).map .str) rfl (by rw[qD,qD];omega) (Dr.pure (zalc rfl (zmf rfl rfl (by decide)) m0 m1) ⟨by simp,?_⟩)) ?_
   ·rw[zaco];rfl
   rintro e rfl
   refine DrS.set (Dr.pure (zuq rfl rfl (by decide) (by decide)) ⟨cs++[97+(q % 26).toNat],q / 26,_,by simp[h1],λc hc=>?_,rfl⟩)
   rcases qb.mp hc with hc|hc
   ·exact h2 c hc
   ·rw[qc.mp hc];omega
  ·rintro e ⟨cs,q,v,h1,h2,rfl⟩
   rw[qX]at h1
   exact⟨cs,q,v,by omega,h2,rfl⟩
 rintro e ⟨cs,q,v,hcs,hlow,rfl⟩
 refine DrS.seq (c1:=1) (c2:=1) (N1:=λe=>∃o:Str,Wd o/\e=[.no,.pl (zam A),.pl (.str abc),.pl (.int w),.pl (.int l),.pl (.int p),.pl (.int q),.ac (zgk cs),v,.pl (.str o),.no]) (DrS.set ?_) ?_
 ·refine Dr.op (c1:=0) (c2:=1) (P1:=λr=>r.d=.list oddL/\r.bs=[]) (Dr.pure rfl ⟨rfl,rfl⟩) (zbz (k:=10) (by decide) (by decide)) ?_
  rintro a b ⟨ha,hb⟩ ⟨x,rfl,h0,h1⟩
  obtain⟨o,eo,ho⟩:=zalk h0 h1
  refine⟨.str o,false,by rw[ha];exact eo,o,ho,rfl⟩
 rintro e ⟨o,ho,rfl⟩
 refine DrS.seq (c1:=1) (c2:=0) (N1:=λe=>e=[.no,.pl (zam A),.pl (.str abc),.pl (.int w),.pl (.int l),.pl (.int p),.pl (.int q),.ac (zgk cs),v,.pl (.str o),.no]) ?_ ?_
 ·refine DrS.iff (c1:=1) (c2:=0) (P1:=λ_=>True) (DrT.and (c1:=1) (c2:=0) (P1:=λ_=>True) (DrT.b (Dr.op (c1:=1) (c2:=0) (P2:=λr=>r=vi 0) (zbz (k:=6) (by decide) (by decide)) (Dr.pure rfl rfl) ?_)) (λ_=>DrT.pure (zjl (e_in (neg:=true) (xs:=A) rfl rfl)) trivial) λ_=>trivial) (λ_=>DrS.retV (F:=zjy 9) rfl ⟨rfl,o,rfl,ho⟩) λ_=>DrS.nx rfl
  rintro a b ⟨x,rfl,_⟩ rfl
  exact⟨.bool (x==0),false,eqI,_,rfl,trivial⟩
 rintro e rfl
 refine DrS.seq (c1:=0) (c2:=0) (N1:=λe=>∃(cs:List Nat)(p:Int),1<=cs.length/\cs.length<=8/\(∀c∈cs,c<128)/\0<=p/\p<cs.length/\e=[.no,.pl (zam A),.pl (.str abc),.pl (.int w),.pl (.int l),.pl (.int p),.pl (.int q),.ac (zgk cs),v,.pl (.str o),.no]) ?_ ?_
 ·by_cases hz:A=[]
  ·refine DrS.iff (c1:=0) (c2:=0) (P1:=λb=>b=false) (DrT.pure (b:=false) ?_ rfl) (λz=>by cases z) λ_=>DrS.nx ⟨cs,p,by omega,by omega,hlow,p0,by omega,rfl⟩
   subst hz
   unfold zxt
   rw[zjl (zakz (i:=w) (j:=0) rfl rfl)]
   cases(w==0)<;>rfl
  ·have hpos:0<A.length:=qAy.mpr hz
   obtain⟨z,hzl⟩:∃z,A[A.length - 1]?=some z:=⟨_,qO (by omega)⟩
   have hzA:z∈A:=qAu hzl
   have wz:=hA z hzA
   refine DrS.iff (c1:=0) (c2:=0) (P1:=λ_=>True) (DrT.pure (b:=(w==0)&&true) ?_ trivial) (λ_=>?_) λ_=>DrS.nx ⟨cs,p,by omega,by omega,hlow,p0,by omega,rfl⟩
   ·unfold zxt
    rw[zjl (zakz (i:=w) (j:=0) rfl rfl)]
    have e2:zdt (eOp gtD (eCB lenD (zah (eVar 1) aNil)) (eC (.int 0))) [.no,.pl (zam A),.pl (.str abc),.pl (.int w),.pl (.int l),.pl (.int p),.pl (.int q),.ac (zgk cs),v,.pl (.str o),.no]=some true:=by
     refine zjl ?_
     have:=zrh (a:=eVar 1) (env:=[.no,.pl (zam A),.pl (.str abc),.pl (.int w),.pl (.int l),.pl (.int p),.pl (.int q),.ac (zgk cs),v,.pl (.str o),.no]) (ds:=A.map .str) (fr:=false) (bs:=[]) rfl
     rw[qD]at this
     exact(zhh this rfl (show gtD (.int (A.length:Int)) (.int 0)=some (.bool true,false) by unfold gtD intD;dsimp only;rw[if_pos rfl,decide_eq_true (by omega)])).trans rfl
    cases(w==0)
    ·rfl
    ·exact e2
   ·have ez:eIxV 1 (eNeg (eC (.int 1))) [.no,.pl (zam A),.pl (.str abc),.pl (.int w),.pl (.int l),.pl (.int p),.pl (.int q),.ac (zgk cs),v,.pl (.str o),.no]=some (vs z):=by
     have:atI (A.map PyData.str) (-1)=some (.str z):=by
      unfold atI ixN
      rw[if_neg (by decide),qD,if_pos (by omega)]
      show(A.map PyData.str)[((-1:Int)+A.length).toNat]?=_
      rw[show((-1:Int)+A.length).toNat=A.length - 1 by omega,qa,hzl];rfl
     show((ixD (zam A) (.int (-1))).bind _)=_
     unfold zam ixD
     dsimp only
     rw[this];rfl
    have hzc:(zkp z).map PyData.str=((tx z).map sg).map .str:=rfl
    refine DrS.seq (c1:=0) (c2:=0) (N1:=λe=>e=[.no,.pl (zam A),.pl (.str abc),.pl (.int w),.pl (.int l),.pl (.int p),.pl (.int q),.ac (zgk (tx z)),v,.pl (.str o),.no]) (DrS.set (Dr.pure (znm (ziw ez) (show zrc [.str z]=some (zgk (tx z),true) by show(if _ then _ else _)=_;rw[if_pos (by have:=wz.hi;omega)];rfl)) rfl)) ?_
    rintro e rfl
    have lz:(tx z).length=z.length:=zon z
    have w1:=wz.lo
    have w2:=wz.hi
    have el:eCB lenD (zah (eVar 7) aNil) [.no,.pl (zam A),.pl (.str abc),.pl (.int w),.pl (.int l),.pl (.int p),.pl (.int q),.ac (zgk (tx z)),v,.pl (.str o),.no]=some (vi (z.length:Int)):=by
     have:=zrh (a:=eVar 7) (env:=[.no,.pl (zam A),.pl (.str abc),.pl (.int w),.pl (.int l),.pl (.int p),.pl (.int q),.ac (zgk (tx z)),v,.pl (.str o),.no]) (ds:=((tx z).map sg).map .str) (fr:=false) (bs:=[7]) rfl
     rw[qD,qD,lz]at this
     exact this
    refine DrS.set (Dr.pure (zmf rfl el (by omega)) ⟨tx z,p % z.length,by omega,by omega,λc hc=>wz.low c hc,qAU _ (by omega),by rw[lz];exact qAJ _ (by omega),rfl⟩)
 rintro e ⟨cs,p,c0,c1,hlow,p0,p1,rfl⟩
 refine DrS.seq (c1:=0) (c2:=0) (N1:=λe=>∃(cs:List Nat)(v':Sl),1<=cs.length/\cs.length<=8/\(∀c∈cs,c<128)/\e=[.no,.pl (zam A),.pl (.str abc),.pl (.int w),.pl (.int l),.pl (.int p),.pl (.int q),.ac (zgk cs),v,.pl (.str o),v']) ?_ ?_
 ·refine DrS.mono (c:=0) (DrS.for (c:=0) (enc:=λ(k:Nat)=>PyData.int (k:Int)) (l:=List.range 26) (bs:=[]) rfl (λpre e=>∃(cs:List Nat)(v':Sl),1<=cs.length/\cs.length<=8/\(∀c∈cs,c<128)/\p<cs.length/\e=[.no,.pl (zam A),.pl (.str abc),.pl (.int w),.pl (.int l),.pl (.int p),.pl (.int q),.ac (zgk cs),v,.pl (.str o),v']) ⟨cs,.no,c0,c1,hlow,p1,rfl⟩ ?_ ?_) (by decide)
  ·rintro pre k post e - ⟨cs,v',c0,c1,hlow,p1,rfl⟩
   refine⟨_,rfl,?_⟩
   refine DrS.seq (c1:=0) (c2:=0) (N1:=λe=>e=[.no,.pl (zam A),.pl (.str abc),.pl (.int w),.pl (.int l),.pl (.int p),.pl (.int q),.ac (zgk cs),v,.pl (.str o),.pl (.int (k:Int))]) ?_ ?_
   ·exact DrS.iff (c1:=0) (c2:=0) (P1:=λ_=>True) (DrT.pure (zjl (e_in (neg:=true) (xs:=A) (zzv rfl c1) rfl)) trivial) (λ_=>DrS.ret (Dr.pure (zzv rfl c1) ⟨rfl,_,rfl,zalj c0 c1 hlow⟩)) λ_=>DrS.nx rfl
   rintro e rfl
   have hpc:p.toNat<cs.length:=by omega
   have e7:eIxV 7 (eVar 5) [.no,.pl (zam A),.pl (.str abc),.pl (.int w),.pl (.int l),.pl (.int p),.pl (.int q),.ac (zgk cs),v,.pl (.str o),.pl (.int (k:Int))]=some (vs (sg cs[p.toNat])):=zanp (n:=p.toNat) (ds:=(cs.map sg).map .str) rfl (by show some (vi p)=_;rw[show((p.toNat:Nat):Int)=p by omega]) (by rw[qa,qa,qO hpc];rfl)
   generalize hf:Txt.find abc (sg cs[p.toNat])=f
   have ef:zzf (eVar 2) (eIxV 7 (eVar 5)) [.no,.pl (zam A),.pl (.str abc),.pl (.int w),.pl (.int l),.pl (.int p),.pl (.int q),.ac (zgk cs),v,.pl (.str o),.pl (.int (k:Int))]=some (vi f):=by
    unfold zzf
    rw[e7]
    show some (vi (Txt.find abc (sg cs[p.toNat])))=_
    rw[hf]
   have m0:0<=(f+1) % 26:=qAU _ (by decide)
   have m1:(f+1) % 26<26:=qAJ _ (by decide)
   refine DrS.setI (c:=0) (ds:=(cs.map sg).map .str) (j:=p.toNat) rfl (zalc rfl (zmf (zth ef rfl) rfl (by decide)) m0 m1) rfl (zall p0 (by rw[qD,qD];exact p1)) ⟨cs.set p.toNat (97+((f+1) % 26).toNat),.pl (.int (k:Int)),by rw[qR];exact c0,by rw[qR];exact c1,λc hc=>?_,by rw[qR];exact p1,?_⟩
   ·rcases List.mem_or_eq_of_mem_set hc with hc|rfl
    ·exact hlow c hc
    ·omega
   ·show _=[Sl.no,_,_,_,_,_,_,.ac (.list (((cs.set p.toNat (97+((f+1) % 26).toNat)).map sg).map .str)),_,_,_]
    rw[List.map_set,List.map_set];rfl
  ·rintro e ⟨cs,v',c0,c1,hlow,p1,rfl⟩
   exact⟨cs,v',c0,c1,hlow,rfl⟩
 rintro e ⟨cs,v',c0,c1,hlow,rfl⟩
 exact DrS.ret (Dr.pure (zzv rfl c1) ⟨rfl,_,rfl,zalj c0 c1 hlow⟩)
noncomputable abbrev Kd:=Str×List Str
noncomputable def kdD(r:Kd):PyData:=.tuple [.str r.1,zam r.2]
structure KdOk(r:Kd):Prop where
 n:Wd r.1
 e:∀x∈r.2,Wd x
 l:r.2.length<=4
inductive Pick where
 | own (i:Int)
 | new (w:Str) (i:Int)
inductive Stp where
 | say (i:Int)
 | tell (i:Int)
 | onw
 | call (d:Str) (ps:List Pick)
noncomputable def zjt:Pick->PyData
 | .own i=>.tuple [.str "own",.int i]
 | .new w i=>.tuple [.str "new",.str w,.int i]
noncomputable def zoo:Pick->Prop
 | .own i=>Fig i
 | .new w i=>Wd w/\Fig i
noncomputable def stpD:Stp->PyData
 | .say i=>.tuple [.str "say",.int i]
 | .tell i=>.tuple [.str "tell",.int i]
 | .onw=>.tuple [.str "onward"]
 | .call d ps=>.tuple [.str "call",.str d,.list (ps.map zjt)]
noncomputable def zmy:Stp->Prop
 | .say i=>Fig i
 | .tell i=>Fig i
 | .onw=>True
 | .call d ps=>Wd d/\ps.length<=3/\∀p∈ps,zoo p
structure Rl where
 n:Str
 ks:List Str
 ss:List Stp
noncomputable def rlD(r:Rl):PyData:=.tuple [.str r.n,.tuple (r.ks.map .str),.list (r.ss.map stpD)]
structure RlOk3(r:Rl):Prop where
 n:Wd r.n
 ks:∀x∈r.ks,Wd x
 kl:r.ks.length<=3
 ss:∀x∈r.ss,zmy x
 sl:r.ss.length<=6
structure Dd where
 n:Str
 p:Int
 rs:List Rl
noncomputable def ddD(d:Dd):PyData:=.tuple [.str d.n,.int d.p,.list (d.rs.map rlD)]
structure DdOk(d:Dd):Prop where
 n:Wd d.n
 p0:1<=d.p
 p1:d.p<=3
 rs:∀x∈d.rs,RlOk3 x
 rl:d.rs.length<=12
noncomputable def pgD(W:List Kd)(ds:List Dd):PyData:=.tuple [.list (W.map kdD),.list (ds.map ddD)]
structure PgOk(W:List Kd)(ds:List Dd):Prop where
 w:∀r∈W,KdOk r
 wl:W.length<=10
 d:∀x∈ds,DdOk x
 dl:ds.length<=4
theorem zzw{α:Type}(enc:α->PyData)(A:List α)(lo hi:Option Int):∃B:List α,cutD (A.map enc) lo hi=B.map enc/\(∀x∈B,x∈A)/\B.length<=A.length:=by
 unfold cutD
 refine⟨(A.drop (HT.sIx (A.map enc).length 0 lo)).take (HT.sIx (A.map enc).length (A.map enc).length hi - HT.sIx (A.map enc).length 0 lo),by rw[List.map_take,List.map_drop],λx hx=>List.mem_of_mem_drop (List.mem_of_mem_take hx),?_⟩
 rw[qBp,List.length_drop]
 omega
theorem DrS.pool{x y z a c2 c3 c4:Nat}{env:DEnv}{N:DEnv->Prop}{R:PyData->Bool->Prop}{e1:EF}{e2:EFr Pen3}{g:GR Pen3}{F4:SFr Pen3}{r1:Val}(h1:e1 env=some r1)(lx:x<env.length)(ly:y<env.length)
  (h2:Dr c2 e2 (env.set x .no) λr2=>zef r2.d=true/\∃da ds,(putV (env.set x .no) y r2)[a]?=some (.pl da)/\(putV (env.set x .no) y r2)[z]?=some (.ac (.list ds))/\zef da=true/\ds.length<100000/\
   DrG c3 g [r1.d,r2.d] λd3 fr3=>fr3=true/\∃l3,d3=.list l3/\zdj l3=true/\DrS c4 F4 ((putV (env.set x .no) y r2).set z (.ac (.list (ds++[.tuple [da,.list l3]])))) N R):DrS (c2+c3+c4) (zvy x y z a e1 e2 g F4) env N R:=λn st hb=>by
 obtain⟨r2,s2,e2',⟨f2,da,ds,ha,hz,fa,hl,hg⟩,b2⟩:=h2 (n+c4+c3) st (hb.mono (by omega))
 obtain⟨d3,fr3,s3,e3,⟨hf,l3,hd,f3,h4⟩,b3⟩:=hg (n+c4) s2 b2
 have ef:zvy x y z a e1 e2 g F4 env st=F4 ((putV (env.set x .no) y r2).set z (.ac (.list (ds++[.tuple [da,.list l3]])))) s3:=by
  subst hd
  subst hf
  unfold zvy
  rw[h1]
  show((e2 (env.set x .no) st).bind _)=_
  rw[e2']
  dsimp only[qj]
  rw[ha,hz]
  dsimp only
  rw[e3]
  dsimp only[qj]
  rw[if_pos ⟨fa,f2,f3,rfl,hl,lx,ly⟩]
 rw[ef]
 exact h4 n s3 b3
theorem zju(xs:List Str):zdj (xs.map .str)=true:=by
 unfold zdj
 rw[qAE]
 intro d hd
 obtain⟨x,_,rfl⟩:=qg.mp hd
 rfl
theorem zalm{a:EF}{l h:PF'}{env:DEnv}{x:Val}{lo hi:Option Int}{d:PyData}{fr:Bool}(ha:a env=some x)(hl:l env=some lo)(hh:h env=some hi)(k:slD x.d lo hi=some (d,fr)):eSl a l h env=some ⟨d,fr,bsOf d x.bs⟩:=by
 unfold eSl;rw[ha,hl,hh];show((slD x.d lo hi).bind _)=_;rw[k];rfl
theorem zacp{A:List Str}{env:DEnv}{w:Int}(h4:env[4]?=some (.ac (zam A)))(h2:env[2]?=some (.pl (.int w)))(w0:0<=w)(w1:w<5) :
  ∃(B:List Str)(fr:Bool)(bs:List Nat),eOp ixD (eLst (zah (eSl (eVar 4) (zls (eNeg (eC (.int 1)))) zni) (zah (eVar 4) (zah (eVar 4) (zah (eSl (eVar 4) zni (zls (eC (.int 2)))) (zah (eVar 4) aNil)))))) (eVar 2) env=some ⟨zam B,fr,bs⟩/\(∀x∈B,x∈A)/\B.length<=A.length:=by
 obtain⟨B1,e1,s1,l1⟩:=zzw PyData.str A (some (-1)) none
 obtain⟨B2,e2,s2,l2⟩:=zzw PyData.str A none (some 2)
 have v4:eVar 4 env=some ⟨zam A,false,[4]⟩:=by unfold eVar;rw[h4]
 have v2:eVar 2 env=some (vi w):=by unfold eVar;rw[h2]
 have a1:eSl (eVar 4) (zls (eNeg (eC (.int 1)))) zni env=some ⟨zam B1,true,[4]⟩:=zalm (lo:=some (-1)) (hi:=none) (d:=zam B1) (fr:=true) v4 rfl rfl (by unfold zam slD;dsimp only;rw[e1])
 have a2:eSl (eVar 4) zni (zls (eC (.int 2))) env=some ⟨zam B2,true,[4]⟩:=zalm (lo:=none) (hi:=some 2) (d:=zam B2) (fr:=true) v4 rfl rfl (by unfold zam slD;dsimp only;rw[e2])
 have el:eLst (zah (eSl (eVar 4) (zls (eNeg (eC (.int 1)))) zni) (zah (eVar 4) (zah (eVar 4) (zah (eSl (eVar 4) zni (zls (eC (.int 2)))) (zah (eVar 4) aNil))))) env=some ⟨.list [zam B1,zam A,zam A,zam B2,zam A],true,[4,4,4,4,4]⟩:=by
  unfold eLst
  rw[zfd a1 (zfd v4 (zfd v4 (zfd a2 (zfd v4 rfl))))]
  rfl
 obtain⟨d,ed,m⟩:=zja (l:=[zam B1,zam A,zam A,zam B2,zam A]) w0 w1
 have key:∃B:List Str,d=zam B/\(∀x∈B,x∈A)/\B.length<=A.length:=by
  simp only[qW,qAd,or_false]at m
  rcases m with rfl|rfl|rfl|rfl|rfl
  ·exact⟨B1,rfl,s1,l1⟩
  ·exact⟨A,rfl,λ_ h=>h,qJ _⟩
  ·exact⟨A,rfl,λ_ h=>h,qJ _⟩
  ·exact⟨B2,rfl,s2,l2⟩
  ·exact⟨A,rfl,λ_ h=>h,qJ _⟩
 obtain⟨B,rfl,hB⟩:=key
 exact⟨B,false,_,zhh el v2 (by unfold ixD;dsimp only;rw[ed];rfl),hB⟩
noncomputable abbrev cntE:EFr Pen3:=rOp ixD (rLst (zaz (zak (eC (.int 1))) (zaz (zak (eC (.int 1))) (zaz (rOp addD (zak (eC (.int 1))) (zbb 2 zai (zaz (zak (eC (.int 2))) rNil))) (zaz (zak (eOp mulD (eC (.int 2)) (eCB zvz (zah (eOp gtD (eVar 5) (eC (.int 1))) aNil)))) (zaz (zbb 2 zai (zaz (zak (eC (.int 5))) rNil)) rNil)))))) (zak (eVar 2))
theorem zaln{env:DEnv}{w k:Int}(h5:env[5]?=some (.pl (.int k)))(h2:env[2]?=some (.pl (.int w)))(w0:0<=w)(w1:w<5):Dr 2 cntE env λr=>∃c:Int,r=vi c/\0<=c/\c<=4:=by
 refine Dr.op (c1:=2) (c2:=0) (P1:=λr=>∃(x y z:Int),r.d=.list [.int 1,.int 1,.int x,.int y,.int z]/\0<=x/\x<=4/\0<=y/\y<=4/\0<=z/\z<=4) (P2:=λr=>r=vi w) ?_ (Dr.pure (by unfold eVar;rw[h2]) rfl) ?_
 ·refine Dr.lst (c:=2) (PA:=λrs=>∃(x y z:Int),zcu rs=[.int 1,.int 1,.int x,.int y,.int z]/\0<=x/\x<=4/\0<=y/\y<=4/\0<=z/\z<=4) ?_ λrs ⟨x,y,z,hd,h⟩=>⟨?_,x,y,z,by rw[hd],h⟩
  ·refine DrA.cons (c1:=0) (c2:=2) (P1:=λr=>r=vi 1) (P2:=λrs=>∃(x y z:Int),zcu rs=[.int 1,.int x,.int y,.int z]/\0<=x/\x<=4/\0<=y/\y<=4/\0<=z/\z<=4) (Dr.pure rfl rfl) ?_ (λr rs hr ⟨x,y,z,hd,h⟩=>⟨x,y,z,by rw[hr];show _::zcu rs=_;rw[hd],h⟩)
   refine DrA.cons (c1:=0) (c2:=2) (P1:=λr=>r=vi 1) (P2:=λrs=>∃(x y z:Int),zcu rs=[.int x,.int y,.int z]/\0<=x/\x<=4/\0<=y/\y<=4/\0<=z/\z<=4) (Dr.pure rfl rfl) ?_ (λr rs hr ⟨x,y,z,hd,h⟩=>⟨x,y,z,by rw[hr];show _::zcu rs=_;rw[hd],h⟩)
   refine DrA.cons (c1:=1) (c2:=1) (P1:=λr=>∃x:Int,r=vi x/\0<=x/\x<=4) (P2:=λrs=>∃(y z:Int),zcu rs=[.int y,.int z]/\0<=y/\y<=4/\0<=z/\z<=4) ?_ ?_ (λr rs ⟨x,hr,hx⟩ ⟨y,z,hd,h⟩=>⟨x,y,z,by rw[hr];show _::zcu rs=_;rw[hd],hx.1,hx.2,h⟩)
   ·refine Dr.op (c1:=0) (c2:=1) (P1:=λr=>r=vi 1) (Dr.pure rfl rfl) (zbz (k:=2) (by decide) (by decide)) ?_
    rintro a b rfl ⟨x,rfl,h0,h1⟩
    exact⟨.int (1+x),false,rfl,1+x,rfl,by omega,by omega⟩
   refine DrA.cons (c1:=0) (c2:=1) (P1:=λr=>∃y:Int,r=vi y/\0<=y/\y<=4) (P2:=λrs=>∃z:Int,zcu rs=[.int z]/\0<=z/\z<=4) ?_ ?_ (λr rs ⟨y,hr,hy⟩ ⟨z,hd,h⟩=>⟨y,z,by rw[hr];show _::zcu rs=_;rw[hd],hy.1,hy.2,h⟩)
   ·have e5:eVar 5 env=some (vi k):=by unfold eVar;rw[h5]
    have e6:eCB zvz (zah (eOp gtD (eVar 5) (eC (.int 1))) aNil) env=some (vi (if decide (1<k)=true then 1 else 0)):=znm (ziw (zhh e5 rfl rfl)) rfl
    refine Dr.pure (zti rfl e6 (.inl ⟨by decide,by decide⟩)) ⟨_,rfl,?_,?_⟩<;>split<;>omega
   ·refine DrA.one ((zbz (k:=5) (by decide) (by decide)).imp ?_)
    rintro r ⟨z,rfl,h0,h1⟩
    exact⟨z,rfl,h0,by omega⟩
  ·have:=congrArg List.length hd
   rw[zet]at this
   rw[this];show 5<=100000;decide
 ·rintro a b ⟨x,y,z,hd,h⟩ rfl
  obtain⟨d,ed,m⟩:=zja (l:=[PyData.int 1,.int 1,.int x,.int y,.int z]) w0 w1
  have key:∃c:Int,d=.int c/\0<=c/\c<=4:=by
   simp only[qW,qAd,or_false]at m
   rcases m with rfl|rfl|rfl|rfl|rfl
   ·exact⟨1,rfl,by decide,by decide⟩
   ·exact⟨1,rfl,by decide,by decide⟩
   ·exact⟨x,rfl,h.1,h.2.1⟩
   ·exact⟨y,rfl,h.2.2.1,h.2.2.2.1⟩
   ·exact⟨z,rfl,h.2.2.2.2⟩
  obtain⟨c,rfl,hc⟩:=key
  exact⟨.int c,false,by rw[hd];unfold ixD;dsimp only;rw[ed];rfl,c,rfl,hc⟩
theorem zanq{m:Int}(m0:0<=m)(m1:m<=10):DrG 150 zeb [.int m] λd fr=>fr=true/\∃W:List Kd,d=.list (W.map kdD)/\(W.length:Int)=m/\∀r∈W,KdOk r:=by
 refine DrS.fn (env:=[.no,.pl (.int m),.no,.no,.no,.no,.no,.no,.no]) rfl ?_
 refine DrS.seq (c1:=1) (c2:=149) (N1:=λe=>∃w:Int,0<=w/\w<5/\e=[.no,.pl (.int m),.pl (.int w),.no,.no,.no,.no,.no,.no]) (DrS.set ((zbz (k:=5) (by decide) (by decide)).imp ?_)) ?_
 ·rintro r ⟨x,rfl,h0,h1⟩;exact⟨x,h0,h1,rfl⟩
 rintro e ⟨w,w0,w1,rfl⟩
 refine DrS.seq (c1:=0) (c2:=149) (N1:=λe=>e=[.no,.pl (.int m),.pl (.int w),.ac (.list []),.no,.no,.no,.no,.no]) (DrS.set (Dr.pure rfl rfl)) ?_
 rintro e rfl
 refine DrS.seq (c1:=0) (c2:=149) (N1:=λe=>e=[.no,.pl (.int m),.pl (.int w),.ac (.list []),.ac (.list []),.no,.no,.no,.no]) (DrS.set (Dr.pure rfl rfl)) ?_
 rintro e rfl
 have it:zcl (zah (eVar 1) aNil) [.no,.pl (.int m),.pl (.int w),.ac (.list []),.ac (.list []),.no,.no,.no,.no]=some ((List.range m.toNat).map (λ(k:Nat)=>PyData.int (k:Int)),[]):=by
  show(if _ then _ else _)=_
  rw[if_pos (by omega),zft]
 refine DrS.seq (c1:=149) (c2:=0) (N1:=λe=>∃(W:List Kd)(A:List Str)(v5 v6 v7 v8:Sl),W.length=m.toNat/\(∀r∈W,KdOk r)/\e=[.no,.pl (.int m),.pl (.int w),.ac (.list (W.map kdD)),.ac (zam A),v5,v6,v7,v8]) ?_ ?_
 ·refine DrS.mono (DrS.for (c:=13) it (λpre e=>∃(W:List Kd)(A:List Str)(v5 v6 v7 v8:Sl),W.length=pre.length/\(∀r∈W,KdOk r)/\(∀x∈A,Wd x)/\A.length=pre.length/\e=[.no,.pl (.int m),.pl (.int w),.ac (.list (W.map kdD)),.ac (zam A),v5,v6,v7,v8]) ⟨[],[],.no,.no,.no,.no,rfl,(λr hr=>by cases hr),(λr hr=>by cases hr),rfl,rfl⟩ ?_ ?_) (by rw[qX];omega)
  ·rintro pre k post e hp ⟨W,A,v5,v6,v7,v8,hW,hWo,hA,hAl,rfl⟩
   have hk:pre.length<m.toNat:=by
    have:=congrArg List.length hp
    rw[qF,qo,qX]at this
    omega
   refine⟨_,rfl,?_⟩
   refine DrS.seq (c1:=7) (c2:=6) (N1:=λe=>∃x:Str,Wd x/\e=[.no,.pl (.int m),.pl (.int w),.ac (.list (W.map kdD)),.ac (zam A),.pl (.int (k:Int)),.pl (.str x),v7,v8]) (DrS.set ?_) ?_
   ·refine Dr.call (c1:=0) (c2:=7) (PA:=λrs=>rs=[⟨zam A,false,[4]⟩]) (DrA.one (Dr.pure rfl rfl)) ?_
    rintro rs rfl
    refine⟨rfl,λn st hb=>?_⟩
    obtain⟨d,fr,s,e,⟨h1,x,h2,h3⟩,b⟩:=zaec hA n st hb
    exact⟨d,fr,s,e,⟨x,h3,by rw[h1,h2];rfl⟩,b⟩
   rintro e ⟨x,hx,rfl⟩
   obtain⟨B,fr,bs,eB,hB,hBl⟩:=zacp (A:=A) (env:=[.no,.pl (.int m),.pl (.int w),.ac (.list (W.map kdD)),.ac (zam A),.pl (.int (k:Int)),.pl (.str x),v7,v8]) rfl rfl w0 w1
   refine DrS.pool (c2:=2) (c3:=4) (c4:=0) eB (by show 7<9;decide) (by show 8<9;decide) ((zaln (k:=(k:Int)) rfl rfl w0 w1).imp ?_)
   rintro r ⟨c,rfl,h0,h1⟩
   refine⟨rfl,.str x,W.map kdD,rfl,rfl,rfl,by rw[qD];omega,λn st hb=>?_⟩
   obtain⟨d,fr3,s,e,⟨h2,l',h3,h4,h5⟩,b⟩:=zzq (enc:=PyData.str) B (m:=c) (C:=4) h0 (by omega) (by omega) (by omega) n st hb
   refine⟨d,fr3,s,e,⟨h2,_,h3,zju _,?_⟩,b⟩
   refine DrS.app (ds:=A.map .str) rfl (by rw[qD];omega) (Dr.pure rfl ⟨by simp,W++[(x,l')],A++[x],.pl (.int (k:Int)),.pl (.str x),.no,.pl (.int c),by simp[hW],λr hr=>?_,λy hy=>?_,by simp[hAl],?_⟩)
   ·rcases qb.mp hr with hr|hr
    ·exact hWo r hr
    ·rw[qc.mp hr]
     exact⟨hx,λy hy=>hA y (hB y (h4 y hy)),by show l'.length<=4;omega⟩
   ·rcases qb.mp hy with hy|hy
    ·exact hA y hy
    ·rw[qc.mp hy];exact hx
   ·show _=[Sl.no,_,_,.ac (.list ((W++[(x,l')]).map kdD)),.ac (.list ((A++[x]).map .str)),_,_,_,_]
    rw[qAD,qAD];rfl
  ·rintro e ⟨W,A,v5,v6,v7,v8,hW,hWo,hA,hAl,rfl⟩
   exact⟨W,A,v5,v6,v7,v8,by rw[hW,qX],hWo,rfl⟩
 rintro e ⟨W,A,v5,v6,v7,v8,hW,hWo,rfl⟩
 exact DrS.retV (F:=zjy 3) rfl ⟨rfl,W,rfl,by omega,hWo⟩
structure Shn(d:PyData)(n k:Nat):Prop where
 lay:d.canLay0=true
 shw:d.showable=true
 dep:d.depth<=k
 len:d.shown.length<=n
theorem Shn.mono{d:PyData}{n k m j:Nat}(h:Shn d n k)(a:n<=m)(b:k<=j):Shn d m j:=⟨h.lay,h.shw,qf h.dep b,qf h.len a⟩
theorem zwq:∀c<128,∀q∈[34,39],(Builtin.Str.reprChar q c).length<=4:=by decide +kernel
theorem zsb{x:Str}(h:Low x)(hl:x.length<=8):(reprText x).length<=34:=by
 have hq:reprQuote x∈[34,39]:=by unfold reprQuote;split<;>simp
 have fold:∀(l:List Nat)(a:Array Nat),(∀c∈l,c<128)->(l.foldl (λout c=>out++(Builtin.Str.reprChar (reprQuote x) c).toArray) a).size<=a.size+4 * l.length:=by
  intro l
  induction l with
  | nil=>intro a _;simp
  | cons c l ih=>
   intro a hc
   rw[qBu]
   have h1:=ih (a++(Builtin.Str.reprChar (reprQuote x) c).toArray) λc' hc'=>hc c' (qK _ hc')
   have h2:=zwq c (hc c (by simp)) _ hq
   rw[qBe]at h1
   simp only[qG,qo]at h1 ⊢
   omega
 show((x.cps.foldl (λout c=>out++(Builtin.Str.reprChar (reprQuote x) c).toArray) #[reprQuote x]).push (reprQuote x)).size<=34
 rw[Array.size_push,<- Array.foldl_toList]
 have h1:=fold x.cps.toList #[reprQuote x] λc hc=>h c (by first|exact hc|exact qCC.mp hc|exact Array.mem_toList.mp hc)
 have h2:x.cps.toList.length=x.length:=rfl
 have h3:(#[reprQuote x]:Array Nat).size=1:=rfl
 omega
theorem zcq{x:Str}(h:Wd x):Shn (.str x) 34 0:=⟨by simp only[PyData.canLay0];exact zzn h.low,by simp only[PyData.showable],by simp only[PyData.depth];exact qJ _,by simp only[PyData.shown];exact zsb h.low h.hi⟩
theorem zahn{i:Int}(h:Fig i):(Str.ofString (toString i)).length<=32:=by
 cases i with
 | ofNat n=>
  have:n<10 ^ 30:=h
  have:=zzp.mpr this
  have e:(Str.ofString (toString (Int.ofNat n))).length<=30:=this
  omega
 | negSucc n=>
  have h':n+1<10 ^ 30:=h
  have:=zzp.mpr h'
  have e1:toString (Int.negSucc n)="-"++toString ((n+1:Nat):Int):=rfl
  rw[e1,qBJ]
  rw[qBJ]at this
  simp[Str.length]at this ⊢
  omega
theorem zaho{i:Int}(h:Fig i):i.natAbs.log2<1920:=by
 rcases Nat.eq_zero_or_pos i.natAbs with h0|hp
 ·rw[h0];decide
 ·have:i.natAbs.log2<400:=(Nat.log2_lt (by omega)).mpr (qM h (by decide +kernel))
  omega
theorem zkj{i:Int}(h:Fig i):Shn (.int i) 32 0:=⟨by simp only[PyData.canLay0],by simp only[PyData.showable];exact decide_eq_true (zaho h),by simp only[PyData.depth];exact qJ _,by simp only[PyData.shown];exact zahn h⟩
theorem ztt:∀{ds:List PyData},(∀d∈ds,d.canLay0=true)->qAe ds=true
 | [],_=>by simp only[qAe]
 | d::ds,h=>by simp only[qAe,qk];exact⟨h d (by simp),ztt λx hx=>h x (qK _ hx)⟩
theorem ztu:∀{ds:List PyData},(∀d∈ds,d.showable=true)->PyData.showableAll ds=true
 | [],_=>by simp only[PyData.showableAll]
 | d::ds,h=>by simp only[PyData.showableAll,qk];exact⟨h d (by simp),ztu λx hx=>h x (qK _ hx)⟩
theorem ztv{k:Nat}:∀{ds:List PyData},(∀d∈ds,d.depth<=k)->qBm ds<=k
 | [],_=>by simp only[qBm];exact qAH _
 | d::ds,h=>by simp only[qBm];exact Nat.max_le.mpr ⟨h d (by simp),ztv λx hx=>h x (qK _ hx)⟩
theorem zhx:∀ds:List PyData,PyData.shownAll ds=ds.map PyData.shown
 | []=>by simp only[PyData.shownAll];rfl
 | d::ds=>by simp only[PyData.shownAll];rw[zhx ds];rfl
theorem zmz:∀(ts:List Str)(k:Nat)(acc:Str),(textFrom k acc ts).length<=acc.length+(ts.map λt=>t.length+2).sum
 | [],k,acc=>by show acc.length<=_;omega
 | t::r,k,acc=>by
  have h:=zmz r (k+1) (acc++(if k > 0 then ", "else "":String)++t)
  have e:(acc++(if k > 0 then ", "else "":String)++t).length<=acc.length+2+t.length:=by
   rw[qAr,qAr]
   split
   ·show acc.length+2+t.length<=_;omega
   ·show acc.length+0+t.length<=_;omega
  show(textFrom (k+1) _ r).length<=_
  rw[ql,qA9]
  omega
theorem zfi{ds:List PyData}{n k m:Nat}(h:∀d∈ds,Shn d n k)(hl:ds.length<=m):Shn (.list ds) (m * (n+2)+2) (k+1):=by
 refine⟨by simp only[PyData.canLay0];exact ztt λd hd=>(h d hd).lay,by simp only[PyData.showable];exact ztu λd hd=>(h d hd).shw,by simp only[PyData.depth];exact qBr (ztv λd hd=>(h d hd).dep),?_⟩
 simp only[PyData.shown]
 unfold listText
 rw[qAr,zhx]
 have h1:=zmz (ds.map PyData.shown) 0 "["
 have h2:(((ds.map PyData.shown).map λt=>t.length+2).sum)<=ds.length * (n+2):=by
  rw[qAR]
  exact zsa λd hd=>by have:=(h d hd).len;show d.shown.length+2<=n+2;omega
 have h3:ds.length * (n+2)<=m * (n+2):=qAw _ hl
 have e1:((("[":String):Str)).length=1:=rfl
 have e2:((("]":String):Str)).length=1:=rfl
 rw[e2]
 rw[e1]at h1
 omega
theorem zzx:∀ts:List Str,(Str.join ", " ts).length<=(ts.map λt=>t.length+2).sum
 | []=>qAH _
 | [x]=>by show x.length<=x.length+2+0;omega
 | x::y::r=>by
  have ih:=zzx (y::r)
  show(x++", "++Str.join ", " (y::r)).length<=_
  have e2:((", ":String):Str).length=2:=rfl
  rw[qAr,qAr,e2,ql,qA9]
  omega
theorem zhy{ds:List PyData}{k m:Nat}(h:∀d∈ds,d.canLay0=true/\d.showable=true/\d.depth<=k)(hl:(ds.map λd=>d.shown.length+2).sum<=m):Shn (.tuple ds) (m+3) (k+1):=by
 refine⟨by simp only[PyData.canLay0];exact ztt λd hd=>(h d hd).1,by simp only[PyData.showable];exact ztu λd hd=>(h d hd).2.1,by simp only[PyData.depth];exact qBr (ztv λd hd=>(h d hd).2.2),?_⟩
 simp only[PyData.shown]
 unfold tupleText
 rw[qAr,qAr,zhx]
 have h1:=zzx (ds.map PyData.shown)
 rw[qAR]at h1
 have h1:(Str.join ", " (ds.map PyData.shown)).length<=(ds.map λd=>d.shown.length+2).sum:=h1
 have e1:((("(":String):Str)).length=1:=rfl
 have e3:(((if(ds.map PyData.shown).length==1 then ",)"else ")":String):Str)).length<=2:=by split<;>decide
 rw[e1]
 omega
theorem zalo{a:PyData}{n k:Nat}(ha:Shn a n k):Shn (.tuple [a]) (n+2+3) (k+1):=zhy (λd hd=>by rcases qW.mp hd with rfl|hd;exact⟨ha.lay,ha.shw,ha.dep⟩;cases hd) (by show a.shown.length+2+0<=_;have:=ha.len;omega)
theorem zna{a b:PyData}{n m k:Nat}(ha:Shn a n k)(hb:Shn b m k):Shn (.tuple [a,b]) (n+m+4+3) (k+1):=zhy (λd hd=>by
 rcases qW.mp hd with rfl|hd
 ·exact⟨ha.lay,ha.shw,ha.dep⟩
 ·rw[qc.mp hd];exact⟨hb.lay,hb.shw,hb.dep⟩) (by show a.shown.length+2+(b.shown.length+2+0)<=_;have:=ha.len;have:=hb.len;omega)
theorem zsc{a b c:PyData}{n m l k:Nat}(ha:Shn a n k)(hb:Shn b m k)(hc:Shn c l k):Shn (.tuple [a,b,c]) (n+m+l+6+3) (k+1):=zhy (λd hd=>by
 rcases qW.mp hd with rfl|hd
 ·exact⟨ha.lay,ha.shw,ha.dep⟩
 ·rcases qW.mp hd with rfl|hd
  ·exact⟨hb.lay,hb.shw,hb.dep⟩
  ·rw[qc.mp hd];exact⟨hc.lay,hc.shw,hc.dep⟩) (by show a.shown.length+2+(b.shown.length+2+(c.shown.length+2+0))<=_;have:=ha.len;have:=hb.len;have:=hc.len;omega)
theorem zalp:Wd "own":=zmx (by decide +kernel)
theorem zalq:Wd "new":=zmx (by decide +kernel)
theorem zalr:Wd "say":=zmx (by decide +kernel)
theorem zahp:Wd "tell":=zmx (by decide +kernel)
theorem zals:Wd "onward":=zmx (by decide +kernel)
theorem zahq:Wd "call":=zmx (by decide +kernel)
theorem zacq{xs:List Str}{m:Nat}(h:∀x∈xs,Wd x)(hl:xs.length<=m):Shn (zam xs) (m * 36+2) 1:=zfi (n:=34) (k:=0) (λd hd=>by obtain⟨x,hx,rfl⟩:=qg.mp hd;exact zcq (h x hx)) (by rw[qD];exact hl)
theorem zaed{r:Kd}(h:KdOk r):Shn (kdD r) 187 2:=(zna ((zcq h.n).mono (qJ _) (by decide:0<=1)) (zacq h.e h.l)).mono (by decide) (by decide)
theorem zacr{p:Pick}(h:zoo p):Shn (zjt p) 109 1:=by
 cases p with
 | own i=>exact(zna (zcq zalp) (zkj h)).mono (by decide) (by decide)
 | new w i=>exact(zsc (zcq zalq) (zcq h.1) (zkj h.2)).mono (by decide) (by decide)
theorem zahr{s:Stp}(h:zmy s):Shn (stpD s) 412 3:=by
 cases s with
 | say i=>exact(zna (zcq zalr) (zkj h)).mono (by decide) (by decide)
 | tell i=>exact(zna (zcq zahp) (zkj h)).mono (by decide) (by decide)
 | onw=>exact(zalo (zcq zals)).mono (by decide) (by decide)
 | call d ps=>exact(zsc (k:=2) ((zcq zahq).mono (qJ _) (by decide)) ((zcq h.1).mono (qJ _) (by decide)) (zfi (n:=109) (k:=1) (m:=3) (λx hx=>by obtain⟨y,hy,rfl⟩:=qg.mp hx;exact zacr (h.2.2 y hy)) (by rw[qD];exact h.2.1))).mono (by decide) (by decide)
theorem zzy{ss:List Stp}(h:∀s∈ss,zmy s)(hl:ss.length<=6):Shn (.list (ss.map stpD)) 2486 4:=(zfi (n:=412) (k:=3) (m:=6) (λx hx=>by obtain⟨y,hy,rfl⟩:=qg.mp hx;exact zahr (h y hy)) (by rw[qD];exact hl)).mono (by decide) (by decide)
theorem zalt{r:Rl}(h:RlOk3 r):Shn (rlD r) 2640 5:=by
 have kt:Shn (.tuple (r.ks.map .str)) 111 1:=by
  refine(zhy (k:=0) (m:=3 * 36) (λd hd=>?_) ?_).mono (by decide) (by decide)
  ·obtain⟨x,hx,rfl⟩:=qg.mp hd
   have:=zcq (h.ks x hx)
   exact⟨this.lay,this.shw,this.dep⟩
  ·rw[qAR]
   refine qf (zsa (B:=36) λx hx=>?_) (qAw _ h.kl)
   have:=(zcq (h.ks x hx)).len
   show(PyData.str x).shown.length+2<=36
   omega
 exact(zsc (k:=4) ((zcq h.n).mono (qJ _) (by decide)) (kt.mono (qJ _) (by decide)) (zzy h.ss h.sl)).mono (by decide) (by decide)
theorem fig3{p:Int}(h0:1<=p)(h1:p<=3):Fig p:=qM (show p.natAbs<1000 by omega) (by decide +kernel)
theorem zalu{d:Dd}(h:DdOk d):Shn (ddD d) 31781 7:=(zsc (k:=6) ((zcq h.n).mono (qJ _) (by decide)) ((zkj (fig3 h.p0 h.p1)).mono (qJ _) (by decide)) (zfi (n:=2640) (k:=5) (m:=12) (λx hx=>by obtain⟨y,hy,rfl⟩:=qg.mp hx;exact zalt (h.rs y hy)) (by rw[qD];exact h.rl))).mono (by decide) (by decide)
theorem zalv{W:List Kd}{ds:List Dd}(h:PgOk W ds):Shn (pgD W ds) 200000 9:=(zna (k:=8) ((zfi (n:=187) (k:=2) (m:=10) (λx hx=>by obtain⟨y,hy,rfl⟩:=qg.mp hx;exact zaed (h.w y hy)) (by rw[qD];exact h.wl)).mono (qJ _) (by decide)) (zfi (n:=31781) (k:=7) (m:=4) (λx hx=>by obtain⟨y,hy,rfl⟩:=qg.mp hx;exact zalu (h.d y hy)) (by rw[qD];exact h.dl))).mono (by decide) (by decide)
theorem zahs{W:List Kd}{ds:List Dd}(h:PgOk W ds):∃x:Str,zfc [pgD W ds]=some (.str x,false):=by
 have s:=zalv h
 refine⟨(pgD W ds).shown,?_⟩
 unfold zfc
 dsimp only
 rw[if_pos ⟨rfl,s.lay,s.shw,qf s.dep (by decide),qf s.len (by decide)⟩]
theorem eqS{x y:Str}:eqD (.str x) (.str y)=some (.bool (decide (x=y)),false):=by
 show some (PyData.bool (qAY (.str x) (.str y)),false)=_
 simp[qAY,Bool.beq_eq_decide_eq]
section
variable{c1 c2 c3:Nat}{env:DEnv}{P P1 P2 P3:Val->Prop}
theorem Dr.tup2{a b:EFr Pen3}(h1:Dr c1 a env P1)(h2:Dr c2 b env P2)(h:∀x y,P1 x->P2 y->P ⟨.tuple [x.d,y.d],false,bss [x,y]⟩):Dr (c1+c2) (rTup (zaz a (zaz b rNil))) env P:=by
 refine Dr.tup (PA:=λrs=>∃x y,rs=[x,y]/\P1 x/\P2 y) (DrA.cons h1 (P2:=λrs=>∃y,rs=[y]/\P2 y) (DrA.one (h2.imp λy hy=>⟨y,rfl,hy⟩)) λx xs hx ⟨y,e,hy⟩=>⟨x,y,by rw[e],hx,hy⟩) ?_
 rintro rs ⟨x,y,rfl,hx,hy⟩
 exact⟨by show 2<=100000;decide,h x y hx hy⟩
theorem Dr.tup3{a b d:EFr Pen3}(h1:Dr c1 a env P1)(h2:Dr c2 b env P2)(h3:Dr c3 d env P3)(h:∀x y z,P1 x->P2 y->P3 z->P ⟨.tuple [x.d,y.d,z.d],false,bss [x,y,z]⟩):Dr (c1+(c2+c3)) (rTup (zaz a (zaz b (zaz d rNil)))) env P:=by
 refine Dr.tup (PA:=λrs=>∃x y z,rs=[x,y,z]/\P1 x/\P2 y/\P3 z) (DrA.cons h1 (P2:=λrs=>∃y z,rs=[y,z]/\P2 y/\P3 z) (DrA.cons h2 (P2:=λrs=>∃z,rs=[z]/\P3 z) (DrA.one (h3.imp λy hy=>⟨y,rfl,hy⟩)) λx xs hx ⟨y,e,hy⟩=>⟨x,y,by rw[e],hx,hy⟩) λx xs hx ⟨y,z,e,hy⟩=>⟨x,y,z,by rw[e],hx,hy⟩) ?_
 rintro rs ⟨x,y,z,rfl,hx,hy,hz⟩
 exact⟨by show 3<=100000;decide,h x y z hx hy hz⟩
end
theorem zsd{env:DEnv}:Dr 10 (zbb 1 zdp rNil) env λr=>∃i:Int,r=vi i/\Fig i:=by
 refine Dr.call (c1:=0) (c2:=10) (PA:=λrs=>rs=[]) (DrA.nil rfl) ?_
 rintro rs rfl
 refine⟨rfl,λn st hb=>?_⟩
 obtain⟨d,fr,s,e,⟨h1,x,h2,h3⟩,b⟩:=zacl n st hb
 exact⟨d,fr,s,e,⟨x,by rw[h1,h2];rfl,h3⟩,b⟩
theorem zse{x:Int}(h0:0<=x)(h1:x<1000):Fig x:=qM (show x.natAbs<1000 by omega) (by decide +kernel)
noncomputable def hdD(h:Str×Int):PyData:=.tuple [.str h.1,.int h.2]
structure HdOk(h:Str×Int):Prop where
 n:Wd h.1
 p0:1<=h.2
 p1:h.2<=3
theorem zacs{α:Type}{enc:α->PyData}{env:DEnv}{a:EF}{l:List α}{fr:Bool}{bs:List Nat}(h:a env=some ⟨.list (l.map enc),fr,bs⟩):eCB lenD (zah a aNil) env=some (vi (l.length:Int)):=by
 have:=zrh h
 rw[qD]at this
 exact this
theorem ix_l{α:Type}{enc:α->PyData}{l:List α}{x:Int}(h0:0<=x)(h1:x<l.length):∃y∈l,ixD (.list (l.map enc)) (.int x)=some (enc y,false):=by
 obtain⟨y,ey,m⟩:=zja h0 h1
 exact⟨y,m,by unfold ixD;dsimp only;rw[ztg,ey];rfl⟩
theorem zalw{A:List Str}{hs:List (Str×Int)}{p:Int}(hA:∀x∈A,Wd x)(a0:0<A.length)(a1:A.length<=1000)(hh:∀x∈hs,HdOk x)(h0:0<hs.length)(h1:hs.length<=1000)(p0:1<=p)(p1:p<=3) :
  DrG 50 zid [zam A,.list (hs.map hdD),.int p] λd fr=>fr=false/\∃s:Stp,d=stpD s/\zmy s:=by
 refine DrS.fn (env:=[.no,.pl (zam A),.pl (.list (hs.map hdD)),.pl (.int p),.no,.no,.no,.no,.no]) rfl ?_
 refine DrS.seq (c1:=1) (c2:=49) (N1:=λe=>∃w:Int,e=[.no,.pl (zam A),.pl (.list (hs.map hdD)),.pl (.int p),.pl (.int w),.no,.no,.no,.no]) (DrS.set ((zbz (k:=6) (by decide) (by decide)).imp ?_)) ?_
 ·rintro r ⟨x,rfl,h0,h1⟩;exact⟨x,rfl⟩
 rintro e ⟨w,rfl⟩
 refine DrS.seq (c1:=1) (c2:=48) (N1:=λe=>∃h:Str×Int,HdOk h/\e=[.no,.pl (zam A),.pl (.list (hs.map hdD)),.pl (.int p),.pl (.int w),.pl (.str h.1),.pl (.int h.2),.no,.no]) (DrS.asg ?_) ?_
 ·refine Dr.op (c1:=0) (c2:=1) (P1:=λr=>r=⟨.list (hs.map hdD),false,[]⟩) (Dr.pure rfl rfl) (zgj (k:=(hs.length:Int)) (Dr.pure (zacs rfl) rfl) (by omega) (by omega)) ?_
  rintro a b rfl ⟨x,rfl,x0,x1⟩
  obtain⟨h,hm,eh⟩:=ix_l (enc:=hdD) x0 x1
  exact⟨hdD h,false,eh,_,rfl,h,hh h hm,rfl⟩
 rintro e ⟨h,hok,rfl⟩
 have q0:=hok.p0
 have q1:=hok.p1
 refine DrS.seq (c1:=10) (c2:=38) (N1:=λe=>e=[.no,.pl (zam A),.pl (.list (hs.map hdD)),.pl (.int p),.pl (.int w),.pl (.str h.1),.pl (.int h.2),.no,.no]) ?_ ?_
 ·refine DrS.iff (c1:=0) (c2:=10) (P1:=λ_=>True) (DrT.pure (b:=decide (w<2)) rfl trivial) (λ_=>DrS.ret ?_) λ_=>DrS.mono (c1:=0) (DrS.nx rfl) (by decide)
  refine Dr.tup2 (c1:=0) (c2:=10) (P1:=λr=>r=vs "say") (Dr.pure rfl rfl) zsd ?_
  rintro x y rfl ⟨i,rfl,hi⟩
  exact⟨rfl,.say i,rfl,hi⟩
 rintro e rfl
 refine DrS.seq (c1:=1) (c2:=37) (N1:=λe=>e=[.no,.pl (zam A),.pl (.list (hs.map hdD)),.pl (.int p),.pl (.int w),.pl (.str h.1),.pl (.int h.2),.no,.no]) ?_ ?_
 ·refine DrS.iff (c1:=0) (c2:=1) (P1:=λ_=>True) (DrT.pure (b:=(w==2)) rfl trivial) (λ_=>DrS.ret ?_) λ_=>DrS.mono (c1:=0) (DrS.nx rfl) (by decide)
  refine Dr.tup2 (c1:=0) (c2:=1) (P1:=λr=>r=vs "tell") (Dr.pure rfl rfl) (zgj (k:=p) (Dr.pure rfl rfl) (by omega) (by omega)) ?_
  rintro x y rfl ⟨i,rfl,i0,i1⟩
  exact⟨rfl,.tell i,rfl,zse i0 (by omega)⟩
 rintro e rfl
 refine DrS.seq (c1:=0) (c2:=37) (N1:=λe=>e=[.no,.pl (zam A),.pl (.list (hs.map hdD)),.pl (.int p),.pl (.int w),.pl (.str h.1),.pl (.int h.2),.no,.no]) ?_ ?_
 ·exact DrS.iff (c1:=0) (c2:=0) (P1:=λ_=>True) (DrT.pure (b:=(w==3)) rfl trivial) (λ_=>DrS.ret (Dr.pure rfl ⟨rfl,.onw,rfl,trivial⟩)) λ_=>DrS.nx rfl
 rintro e rfl
 refine DrS.seq (c1:=0) (c2:=37) (N1:=λe=>e=[.no,.pl (zam A),.pl (.list (hs.map hdD)),.pl (.int p),.pl (.int w),.pl (.str h.1),.pl (.int h.2),.ac (.list []),.no]) (DrS.set (Dr.pure rfl rfl)) ?_
 rintro e rfl
 have it:zcl (zah (eVar 6) aNil) [.no,.pl (zam A),.pl (.list (hs.map hdD)),.pl (.int p),.pl (.int w),.pl (.str h.1),.pl (.int h.2),.ac (.list []),.no]=some ((List.range h.2.toNat).map (λ(k:Nat)=>PyData.int (k:Int)),[]):=by
  show(if _ then _ else _)=_
  rw[if_pos (by omega),zft]
 refine DrS.seq (c1:=37) (c2:=0) (N1:=λe=>∃(ps:List Pick)(v:Sl),ps.length=h.2.toNat/\(∀x∈ps,zoo x)/\e=[.no,.pl (zam A),.pl (.list (hs.map hdD)),.pl (.int p),.pl (.int w),.pl (.str h.1),.pl (.int h.2),.ac (.list (ps.map zjt)),v]) ?_ ?_
 ·refine DrS.mono (DrS.for (c:=12) it (λpre e=>∃(ps:List Pick)(v:Sl),ps.length=pre.length/\(∀x∈ps,zoo x)/\e=[.no,.pl (zam A),.pl (.list (hs.map hdD)),.pl (.int p),.pl (.int w),.pl (.str h.1),.pl (.int h.2),.ac (.list (ps.map zjt)),v]) ⟨[],.no,rfl,(λx hx=>by cases hx),rfl⟩ ?_ ?_) (by rw[qX];omega)
  ·rintro pre k post e hp ⟨ps,v,hl,hps,rfl⟩
   have hk:pre.length<h.2.toNat:=by
    have:=congrArg List.length hp
    rw[qF,qo,qX]at this
    omega
   refine⟨_,rfl,?_⟩
   have last:∀q:Pick,zoo q->∃(ps':List Pick)(v:Sl),ps'.length=(pre++[k]).length/\(∀x∈ps',zoo x)/\[Sl.no,.pl (zam A),.pl (.list (hs.map hdD)),.pl (.int p),.pl (.int w),.pl (.str h.1),.pl (.int h.2),.ac (.list (ps.map zjt++[zjt q])),.pl (.int (k:Int))]=[.no,.pl (zam A),.pl (.list (hs.map hdD)),.pl (.int p),.pl (.int w),.pl (.str h.1),.pl (.int h.2),.ac (.list (ps'.map zjt)),v]:=λq hq=>⟨ps++[q],_,by simp[hl],λx hx=>by
    rcases qb.mp hx with hx|hx
    ·exact hps x hx
    ·rw[qc.mp hx];exact hq,by rw[qAD];rfl⟩
   refine DrS.iff (c1:=1) (c2:=11) (P1:=λ_=>True) (DrT.b (Dr.op (c1:=1) (c2:=0) (P2:=λr=>r=vi 0) (zbz (k:=2) (by decide) (by decide)) (Dr.pure rfl rfl) ?_)) (λ_=>?_) (λ_=>?_)
   ·rintro a b ⟨x,rfl,_⟩ rfl
    exact⟨.bool (x==0),false,eqI,_,rfl,trivial⟩
   ·refine DrS.mono (c1:=1) (DrS.app (ds:=ps.map zjt) rfl (by rw[qD];omega) (Dr.tup2 (c1:=0) (c2:=1) (P1:=λr=>r=vs "own") (Dr.pure rfl rfl) (zgj (k:=p) (Dr.pure rfl rfl) (by omega) (by omega)) ?_)) (by decide)
    rintro x y rfl ⟨i,rfl,i0,i1⟩
    exact⟨by show(7:Nat)∉([]:List Nat);simp,last (.own i) (zse i0 (by omega))⟩
   ·refine DrS.app (ds:=ps.map zjt) rfl (by rw[qD];omega) (Dr.tup3 (c1:=0) (c2:=1) (c3:=10) (P1:=λr=>r=vs "new") (P2:=λr=>∃z:Str,Wd z/\r=vs z) (Dr.pure rfl rfl) (Dr.op (c1:=0) (c2:=1) (P1:=λr=>r=⟨zam A,false,[]⟩) (Dr.pure rfl rfl) (zgj (k:=(A.length:Int)) (Dr.pure (zacs (enc:=PyData.str) rfl) rfl) (by omega) (by omega)) ?_) zsd ?_)
    ·rintro a b rfl ⟨x,rfl,x0,x1⟩
     obtain⟨z,hz,ez⟩:=ix_l (enc:=PyData.str) x0 x1
     exact⟨.str z,false,ez,z,hA z hz,rfl⟩
    ·rintro x y z rfl ⟨n,hn,rfl⟩ ⟨i,rfl,hi⟩
     exact⟨by show(7:Nat)∉([]:List Nat);simp,last (.new n i) ⟨hn,hi⟩⟩
  ·rintro e ⟨ps,v,hl,hps,rfl⟩
   exact⟨ps,v,by rw[hl,qX],hps,rfl⟩
 rintro e ⟨ps,v,hl,hps,rfl⟩
 exact DrS.ret (Dr.pure rfl ⟨rfl,.call h.1 ps,rfl,hok.n,by omega,hps⟩)
theorem zgt {α:Type} {enc:α->PyData} {nm:α->Str} {rest:α->List PyData} (he:∀x,enc x=.tuple (.str (nm x)::rest x)) {env:DEnv} {i:Nat} {l:List α} (h:env[i]?=some (.ac (.list (l.map enc)))\/env[i]?=some (.pl (.list (l.map enc)))) (hl:l.length<100000) {own:Str} :
  zhj [own] [] (zbq (eVar i)) (gN 0) zdl (eIxV 0 (eC (.int 0))) env=some ⟨zam (l.map nm),true,[]⟩:=by
 have it:∃bs,zbq (eVar i) env=some (l.map enc,bs):=by
  unfold zbq eVar
  rcases h with h|h<;>rw[h]<;>exact⟨_,rfl⟩
 obtain⟨bs,it⟩:=it
 have cm:zii (gN 0) zdl (eIxV 0 (eC (.int 0))) (envB [own] [] env) (l.map enc)=some (l.map λx=>PyData.str (nm x)):=by
  refine zhs λx hx=>⟨[.pl (enc x)],rfl,rfl,vs (nm x),?_,rfl⟩
  rw[he]
  show eOp ixD (eVar 0) (eC (.int 0)) [.pl (.tuple (.str (nm x)::rest x))]=_
  exact zhh (d:=.str (nm x)) (fr:=false) rfl rfl (by unfold ixD;dsimp only;rw[show(0:Int)=((0:Nat):Int)from rfl,zlk rfl];rfl)
 have e:=zme (own:=[own]) (fr:=[]) it (by rw[qD];exact hl) cm
 have e2:(l.map λx=>PyData.str (nm x))=(l.map nm).map .str:=by rw[qAR];rfl
 rw[e2,zju]at e
 exact e
theorem ztw{env:DEnv}{a:EFr Pen3}{A:List Str}{bs:List Nat}{fr:Bool}(h:Dr 0 a env λr=>r=⟨zam A,fr,bs⟩)(hA:∀x∈A,Wd x):Dr 7 (zbb 2 zdo (zaz a rNil)) env λr=>∃x:Str,r=vs x/\Wd x:=by
 refine Dr.call (c1:=0) (c2:=7) (PA:=λrs=>rs=[⟨zam A,fr,bs⟩]) (DrA.one (h.imp λr hr=>by rw[hr])) ?_
 rintro rs rfl
 refine⟨rfl,λn st hb=>?_⟩
 obtain⟨d,fr,s,e,⟨h1,x,h2,h3⟩,b⟩:=zaec hA n st hb
 exact⟨d,fr,s,e,⟨x,by rw[h1,h2];rfl,h3⟩,b⟩
theorem zact{env:DEnv}{i:Nat}{d:PyData}(h:env[i]?=some (.ac d)):frzs env [i]=env.set i (.pl d):=by
 show frz1 env i=_
 unfold frz1
 rw[h]
theorem zalx{A:List Str}{env:DEnv}{p:Int}(h1:env[1]?=some (.pl (zam A)))(h3:env[3]?=some (.pl (.int p)))(a1:A.length<=10)(p0:1<=p)(p1:p<=3):∃m:Nat,m<=1000/\zyw (eOp ixD (eLst (zah (eC (.int 1)) (zah (eCB lenD (zah (eVar 1) aNil)) (zah (eOp powB (eCB lenD (zah (eVar 1) aNil)) (eC (.int 2))) (zah (eOp powB (eCB lenD (zah (eVar 1) aNil)) (eC (.int 3))) aNil))))) (eVar 3)) env=some ⟨.list ((List.range m).map λ(k:Nat)=>PyData.int (k:Int)),true,[]⟩:=by
 have v1:eVar 1 env=some ⟨zam A,false,[]⟩:=by unfold eVar;rw[h1]
 have v3:eVar 3 env=some (vi p):=by unfold eVar;rw[h3]
 have l1:eCB lenD (zah (eVar 1) aNil) env=some (vi (A.length:Int)):=zacs (enc:=PyData.str) v1
 have sm:((A.length:Int)).natAbs<2 ^ 1000:=zmw (qBc (show _<=10 by omega) (by decide +kernel))
 have q2:eOp powB (eCB lenD (zah (eVar 1) aNil)) (eC (.int 2)) env=some (vi ((A.length:Int) ^ (2:Int).toNat)):=zmv l1 rfl (by decide) (by decide) sm
 have q3:eOp powB (eCB lenD (zah (eVar 1) aNil)) (eC (.int 3)) env=some (vi ((A.length:Int) ^ (3:Int).toNat)):=zmv l1 rfl (by decide) (by decide) sm
 have el:eLst (zah (eC (.int 1)) (zah (eCB lenD (zah (eVar 1) aNil)) (zah (eOp powB (eCB lenD (zah (eVar 1) aNil)) (eC (.int 2))) (zah (eOp powB (eCB lenD (zah (eVar 1) aNil)) (eC (.int 3))) aNil)))) env=some ⟨.list [.int 1,.int A.length,.int ((A.length:Int) ^ (2:Int).toNat),.int ((A.length:Int) ^ (3:Int).toNat)],true,[]⟩:=by
  unfold eLst
  rw[zfd rfl (zfd l1 (zfd q2 (zfd q3 rfl)))]
  rfl
 have bd:∀n:Nat,n<=10->(n:Int) ^ (2:Int).toNat<=1000/\(n:Int) ^ (3:Int).toNat<=1000:=by decide +kernel
 have b2:=bd A.length a1
 have key:∃x:Int,0<=x/\x<=1000/\ixD (.list [.int 1,.int A.length,.int ((A.length:Int) ^ (2:Int).toNat),.int ((A.length:Int) ^ (3:Int).toNat)]) (.int p)=some (.int x,false):=by
  rcases(show p=1\/p=2\/p=3 by omega)with rfl|rfl|rfl
  ·exact⟨A.length,by omega,by omega,rfl⟩
  ·exact⟨_,Int.pow_nonneg (by omega),b2.1,rfl⟩
  ·exact⟨_,Int.pow_nonneg (by omega),b2.2,rfl⟩
 obtain⟨x,x0,x1,ex⟩:=key
 refine⟨x.toNat,by omega,?_⟩
 unfold zyw
 rw[zhh el v3 ex]
 show(if 0<=x/\x<=100000 then _ else _)=_
 rw[if_pos ⟨x0,by omega⟩]
noncomputable abbrev rE(A:List Str)(hs:List (Str×Int))(p m s:Int)(v6 v7 v8 v9 v10 v11:Sl):DEnv:=[.no,.pl (zam A),.pl (.list (hs.map hdD)),.pl (.int p),.pl (.int m),.pl (.int s),v6,v7,v8,v9,v10,v11]
theorem zaht{A:List Str}{hs:List (Str×Int)}{p m s:Int}(hA:∀x∈A,Wd x)(a0:0<A.length)(a1:A.length<=10)(hh:∀x∈hs,HdOk x)(h0:0<hs.length)(h1:hs.length<=1000)(p0:1<=p)(p1:p<=3)(m0:0<=m)(m1:m<=12)(s0:0<=s)(s1:s<=6) :
  DrG 3700 zec [zam A,.list (hs.map hdD),.int p,.int m,.int s] λd fr=>fr=true/\∃rs:List Rl,d=.list (rs.map rlD)/\rs.length<=12/\∀r∈rs,RlOk3 r:=by
 refine DrS.fn (env:=rE A hs p m s .no .no .no .no .no .no) rfl ?_
 refine DrS.seq (c1:=12) (c2:=3688) (N1:=λe=>∃ns:List Nat,ns.length<=12/\e=rE A hs p m s (.ac (.list (ns.map λ(k:Nat)=>PyData.int (k:Int)))) .no .no .no .no .no) (DrS.set ?_) ?_
 ·obtain⟨q,hq,eq⟩:=zalx (A:=A) (env:=rE A hs p m s .no .no .no .no .no .no) (p:=p) rfl rfl a1 p0 p1
  refine Dr.call (c1:=0) (c2:=12) (PA:=λrs=>rs=[⟨.list ((List.range q).map λ(k:Nat)=>PyData.int (k:Int)),true,[]⟩,vi m]) (DrA.cons (c1:=0) (c2:=0) (P1:=λr=>r=⟨.list ((List.range q).map λ(k:Nat)=>PyData.int (k:Int)),true,[]⟩) (P2:=λrs=>rs=[vi m]) (Dr.pure eq rfl) (DrA.one (Dr.pure rfl rfl)) λx xs e1 e2=>by rw[e1,e2]) ?_
  rintro rs rfl
  refine⟨rfl,λn st hb=>?_⟩
  obtain⟨d,fr,st',e,⟨h2,l',h3,h4,h5⟩,b⟩:=zzq (enc:=λ(k:Nat)=>PyData.int (k:Int)) (List.range q) (m:=m) (C:=12) m0 (by omega) (by rw[qX];exact hq) (by omega) n st hb
  exact⟨d,fr,st',e,⟨l',by omega,by rw[h2,h3];rfl⟩,b⟩
 rintro e ⟨ns,hns,rfl⟩
 refine DrS.seq (c1:=0) (c2:=3688) (N1:=λe=>e=rE A hs p m s (.ac (.list (ns.map λ(k:Nat)=>PyData.int (k:Int)))) (.ac (.list [])) .no .no .no .no) (DrS.set (Dr.pure rfl rfl)) ?_
 rintro e rfl
 refine DrS.seq (c1:=3688) (c2:=0) (N1:=λe=>∃(rs:List Rl)(v6 v8 v9 v10 v11:Sl),rs.length<=12/\(∀r∈rs,RlOk3 r)/\e=rE A hs p m s v6 (.ac (.list (rs.map rlD))) v8 v9 v10 v11) ?_ ?_
 ·refine DrS.mono (DrS.for (c:=307) (enc:=λ(k:Nat)=>PyData.int (k:Int)) (l:=ns) (bs:=[6]) rfl (λpre e=>∃(rs:List Rl)(v6 v8 v9 v10 v11:Sl),rs.length=pre.length/\(∀r∈rs,RlOk3 r)/\e=rE A hs p m s v6 (.ac (.list (rs.map rlD))) v8 v9 v10 v11) ⟨[],_,.no,.no,.no,.no,rfl,(λr hr=>by cases hr),rfl⟩ ?_ ?_) (by omega)
  ·rintro pre k post e hp ⟨rs,v6,v8,v9,v10,v11,hl,hr,rfl⟩
   have hk:pre.length<ns.length:=by
    have:=congrArg List.length hp
    rw[qF,qo]at this
    omega
   refine⟨_,rfl,?_⟩
   refine DrS.seq (c1:=0) (c2:=307) (N1:=λe=>e=rE A hs p m s v6 (.ac (.list (rs.map rlD))) (.pl (.int (k:Int))) (.ac (.list [])) v10 v11) (DrS.set (Dr.pure rfl rfl)) ?_
   rintro e rfl
   have it:zcl (zah (eVar 3) aNil) (rE A hs p m s v6 (.ac (.list (rs.map rlD))) (.pl (.int (k:Int))) (.ac (.list [])) v10 v11)=some ((List.range p.toNat).map (λ(k:Nat)=>PyData.int (k:Int)),[]):=by
    show(if _ then _ else _)=_
    rw[if_pos (by omega),zft]
   refine DrS.seq (c1:=0) (c2:=307) (N1:=λe=>∃(ks:List Str)(v8 v10:Sl),ks.length=p.toNat/\(∀x∈ks,Wd x)/\e=rE A hs p m s v6 (.ac (.list (rs.map rlD))) v8 (.ac (zam ks)) v10 v11) ?_ ?_
   ·refine DrS.mono (DrS.for (c:=0) it (λpre e=>∃(ks:List Str)(q:Int)(v10:Sl),ks.length=pre.length/\(∀x∈ks,Wd x)/\e=rE A hs p m s v6 (.ac (.list (rs.map rlD))) (.pl (.int q)) (.ac (zam ks)) v10 v11) ⟨[],(k:Int),v10,rfl,(λr hr=>by cases hr),rfl⟩ ?_ ?_) (by omega)
    ·rintro pre j post e hp2 ⟨ks,q,v10,hkl,hks,rfl⟩
     have hk:pre.length<p.toNat:=by
      have:=congrArg List.length hp2
      rw[qF,qo,qX]at this
      omega
     refine⟨_,rfl,?_⟩
     have m0:0<=q % (A.length:Int):=qAU _ (by omega)
     have m1:q % (A.length:Int)<A.length:=qAJ _ (by omega)
     have len:∀v8 v9,eCB lenD (zah (eVar 1) aNil) (rE A hs p m s v6 (.ac (.list (rs.map rlD))) v8 v9 (.pl (.int (j:Int))) v11)=some (vi (A.length:Int)):=λv8 v9=>zacs (enc:=PyData.str) rfl
     have hlt:(q % (A.length:Int)).toNat<A.length:=by omega
     have ei:eIxV 1 (eOp modD (eVar 8) (eCB lenD (zah (eVar 1) aNil))) (rE A hs p m s v6 (.ac (.list (rs.map rlD))) (.pl (.int q)) (.ac (zam ks)) (.pl (.int (j:Int))) v11)=some (vs A[(q % (A.length:Int)).toNat]):=
      zano (n:=(q % (A.length:Int)).toNat) (ds:=A.map .str) rfl (by rw[zmf rfl (len _ _) (by omega),show(((q % (A.length:Int)).toNat:Nat):Int)=q % (A.length:Int) by omega]) (by rw[qa,qO hlt];rfl)
     refine DrS.seq (c1:=0) (c2:=0) (N1:=λe=>e=rE A hs p m s v6 (.ac (.list (rs.map rlD))) (.pl (.int q)) (.ac (zam (ks++[A[(q % (A.length:Int)).toNat]]))) (.pl (.int (j:Int))) v11) (DrS.app (ds:=ks.map .str) rfl (by rw[qD];omega) (Dr.pure ei ⟨by simp,?_⟩)) ?_
     ·unfold zam;rw[qAD];rfl
     rintro e rfl
     refine DrS.set (Dr.pure (zuq rfl (len _ _) (by omega) (by omega)) ⟨ks++[A[(q % (A.length:Int)).toNat]],q / A.length,_,by simp[hkl],λx hx=>?_,rfl⟩)
     rcases qb.mp hx with hx|hx
     ·exact hks x hx
     ·rw[qc.mp hx];exact hA _ (qAi hlt)
    ·rintro e ⟨ks,q,v10,hkl,hks,rfl⟩
     exact⟨ks,_,v10,by rw[hkl,qX],hks,rfl⟩
   rintro e ⟨ks,v8,v10,hkl,hks,rfl⟩
   refine DrS.seq (c1:=7) (c2:=300) (N1:=λe=>∃x:Str,Wd x/\e=rE A hs p m s v6 (.ac (.list (rs.map rlD))) v8 (.ac (zam ks)) v10 (.pl (.str x))) (DrS.set ((ztw (A:=rs.map (·.n)) (Dr.pure (zgt (enc:=rlD) (nm:=λr:Rl=>r.n) (rest:=λr=>[.tuple (r.ks.map .str),.list (r.ss.map stpD)]) (λr=>rfl) (.inl rfl) (by omega)) rfl) ?_).imp ?_)) ?_
   ·intro x hx
    obtain⟨r,hr',rfl⟩:=qg.mp hx
    exact(hr r hr').n
   ·rintro r ⟨x,rfl,hx⟩;exact⟨x,hx,rfl⟩
   rintro e ⟨x,hx,rfl⟩
   have it2:zcl (zah (eVar 5) aNil) (rE A hs p m s v6 (.ac (.list (rs.map rlD))) v8 (.ac (zam ks)) v10 (.pl (.str x)))=some ((List.range s.toNat).map (λ(k:Nat)=>PyData.int (k:Int)),[]):=by
    show(if _ then _ else _)=_
    rw[if_pos (by omega),zft]
   have last:∀ss:List Stp,ss.length<=6->(∀y∈ss,zmy y)->∃(rs':List Rl)(w6 w8 w9 w10 w11:Sl),rs'.length=(pre++[k]).length/\(∀r∈rs',RlOk3 r)/\rE A hs p m s v6 (.ac (.list (rs.map rlD++[rlD ⟨x,ks,ss⟩]))) v8 (.pl (zam ks)) v10 (.pl (.str x))=rE A hs p m s w6 (.ac (.list (rs'.map rlD))) w8 w9 w10 w11:=λss hsl hss=>⟨rs++[⟨x,ks,ss⟩],_,_,_,_,_,by simp[hl],λr hr'=>by
    rcases qb.mp hr' with hr'|hr'
    ·exact hr r hr'
    ·rw[qc.mp hr'];exact⟨hx,hks,by show ks.length<=3;omega,hss,hsl⟩,by rw[qAD];rfl⟩
   refine DrS.app (ds:=rs.map rlD) rfl (by rw[qD];omega) (Dr.mono (Dr.tup3 (c1:=0) (c2:=0) (c3:=50 * (List.range s.toNat).length) (P1:=λr=>r=vs x) (P2:=λr=>r=⟨.tuple (ks.map .str),false,[9]⟩) (P3:=λr=>∃ss:List Stp,ss.length<=6/\(∀y∈ss,zmy y)/\r.d=.list (ss.map stpD)/\r.bs=[]) (Dr.pure rfl rfl) (Dr.pure rfl rfl) (Dr.comp (Q:=λd=>∃y:Stp,zmy y/\d=stpD y) it2 (by rw[qX];omega) ?_ ?_) ?_) (by rw[qX];omega))
   ·intro j _
    refine⟨[.pl (.int (j:Int)),.no,.pl (zam A),.pl (.list (hs.map hdD)),.pl (.int p)],rfl,?_⟩
    refine Dr.call (c1:=0) (c2:=50) (PA:=λrs=>rs=[⟨zam A,false,[]⟩,⟨.list (hs.map hdD),false,[]⟩,vi p]) (DrA.cons (c1:=0) (c2:=0) (P1:=λr=>r=⟨zam A,false,[]⟩) (P2:=λrs=>rs=[⟨.list (hs.map hdD),false,[]⟩,vi p]) (Dr.pure rfl rfl) (DrA.cons (c1:=0) (c2:=0) (P1:=λr=>r=⟨.list (hs.map hdD),false,[]⟩) (P2:=λrs=>rs=[vi p]) (Dr.pure rfl rfl) (DrA.one (Dr.pure rfl rfl)) λx xs e1 e2=>by rw[e1,e2]) λx xs e1 e2=>by rw[e1,e2]) ?_
    rintro rs rfl
    refine⟨rfl,λn st hb=>?_⟩
    obtain⟨d,fr,st',e,⟨h2,y,h3,h4⟩,b⟩:=zalw hA a0 (by omega) hh h0 h1 p0 p1 n st hb
    exact⟨d,fr,st',e,⟨y,h4,h3⟩,b⟩
   ·intro ys hyl hys
    have cv:∀ys:List PyData,(∀y∈ys,∃z:Stp,zmy z/\y=stpD z)->∃ss:List Stp,ys=ss.map stpD/\∀z∈ss,zmy z:=by
     intro ys
     induction ys with
     | nil=>exact λ_=>⟨[],rfl,λz hz=>by cases hz⟩
     | cons y ys ih=>
      intro h
      obtain⟨z,hz,rfl⟩:=h y (by simp)
      obtain⟨ss,rfl,hss⟩:=ih λy hy=>h y (qK _ hy)
      exact⟨z::ss,rfl,λw hw=>by rcases qW.mp hw with rfl|hw;exact hz;exact hss w hw⟩
    obtain⟨ss,rfl,hss⟩:=cv ys hys
    rw[qD,qX]at hyl
    refine⟨ss,by omega,hss,rfl,?_⟩
    show(if _ then _ else _)=_
    split<;>rfl
   ·rintro a b c rfl rfl ⟨ss,hsl,hss,hd,hbs⟩
    have eb:bss [vs x,⟨.tuple (ks.map .str),false,[9]⟩,c]=[9]:=by
     show[]++([9]++(c.bs++[]))=[9]
     rw[hbs];rfl
    refine⟨by show(7:Nat)∉bss _;rw[eb];decide,?_⟩
    show ∃_,_
    have:=last ss hsl hss
    dsimp only
    rw[eb,zact (d:=zam ks) rfl,hd]
    exact this
  ·rintro e ⟨rs,v6,v8,v9,v10,v11,hl,hr,rfl⟩
   exact⟨rs,v6,v8,v9,v10,v11,by omega,hr,rfl⟩
 rintro e ⟨rs,v6,v8,v9,v10,v11,hl,hr,rfl⟩
 exact DrS.retV (F:=zjy 7) rfl ⟨rfl,rs,rfl,hl,hr⟩
theorem zsf {env:DEnv} {i:Nat} {W:List Kd} (h:env[i]?=some (.ac (.list (W.map kdD)))\/env[i]?=some (.pl (.list (W.map kdD)))) (hl:W.length<100000) {o1 o2:Str} :
  zhj [o1,o2] [] (zbq (eVar i)) (gT 2 (zav 0 (zav 1 zdu))) zdl (eVar 0) env=some ⟨zam (W.map (·.1)),true,[]⟩:=by
 have it:∃bs,zbq (eVar i) env=some (W.map kdD,bs):=by
  unfold zbq eVar
  rcases h with h|h<;>rw[h]<;>exact⟨_,rfl⟩
 obtain⟨bs,it⟩:=it
 have cm:zii (gT 2 (zav 0 (zav 1 zdu))) zdl (eVar 0) (envB [o1,o2] [] env) (W.map kdD)=some (W.map λx=>PyData.str x.1):=
  zhs λx hx=>⟨[.pl (.str x.1),.pl (zam x.2)],rfl,rfl,vs x.1,rfl,rfl⟩
 have e:=zme (own:=[o1,o2]) (fr:=[]) it (by rw[qD];exact hl) cm
 have e2:(W.map λx=>PyData.str x.1)=(W.map (·.1)).map .str:=by rw[qAR];rfl
 rw[e2,zju]at e
 exact e
noncomputable abbrev pE(k d r s:Int)(v5 v6 v7 v8 v9 v10 v11:Sl):DEnv:=[.no,.pl (.int k),.pl (.int d),.pl (.int r),.pl (.int s),v5,v6,v7,v8,v9,v10,v11]
theorem zaly{env:DEnv}{a:EFr Pen3}{m:Int}(h:Dr 0 a env λr=>r=vi m)(m0:0<=m)(m1:m<=10):Dr 150 (zbb 2 zeb (zaz a rNil)) env λr=>∃W:List Kd,r=⟨.list (W.map kdD),true,[]⟩/\(W.length:Int)=m/\∀x∈W,KdOk x:=by
 refine Dr.call (c1:=0) (c2:=150) (PA:=λrs=>rs=[vi m]) (DrA.one (h.imp λr hr=>by rw[hr])) ?_
 rintro rs rfl
 refine⟨rfl,λn st hb=>?_⟩
 obtain⟨d,fr,s,e,⟨h1,W,h2,h3⟩,b⟩:=zanq m0 m1 n st hb
 exact⟨d,fr,s,e,⟨W,by rw[h1,h2];rfl,h3⟩,b⟩
theorem zwr{k d r s:Int}(k0:1<=k)(k1:k<=10)(d0:0<=d)(d1:d<=4)(r0:0<=r)(r1:r<=12)(s0:0<=s)(s1:s<=6):DrG 15000 zfg [.int k,.int d,.int r,.int s] λx fr=>fr=false/\∃W ds,x=pgD W ds/\PgOk W ds/\(W.length:Int)=k:=by
 refine DrS.fn (env:=pE k d r s .no .no .no .no .no .no .no) rfl ?_
 refine DrS.seq (c1:=150) (c2:=14850) (N1:=λe=>∃W:List Kd,(W.length:Int)=k/\(∀x∈W,KdOk x)/\e=pE k d r s (.ac (.list (W.map kdD))) .no .no .no .no .no .no) (DrS.set ((zaly (m:=k) (Dr.pure rfl rfl) (by omega) k1).imp ?_)) ?_
 ·rintro x ⟨W,rfl,h⟩;exact⟨W,h.1,h.2,rfl⟩
 rintro e ⟨W,hW,hWo,rfl⟩
 generalize hA:W.map (·.1)=A
 have al:A.length=W.length:=by rw[<- hA,qD]
 have aw:∀x∈A,Wd x:=λx hx=>by
  rw[<- hA]at hx
  obtain⟨y,hy,rfl⟩:=qg.mp hx
  exact(hWo y hy).n
 refine DrS.seq (c1:=0) (c2:=14850) (N1:=λe=>e=pE k d r s (.ac (.list (W.map kdD))) (.ac (zam A)) .no .no .no .no .no) (DrS.set (Dr.pure (zsf (.inl rfl) (by omega)) (by rw[hA];rfl))) ?_
 rintro e rfl
 refine DrS.seq (c1:=0) (c2:=14850) (N1:=λe=>e=pE k d r s (.ac (.list (W.map kdD))) (.ac (zam A)) (.ac (.list [])) .no .no .no .no) (DrS.set (Dr.pure rfl rfl)) ?_
 rintro e rfl
 have it:zcl (zah (eVar 2) aNil) (pE k d r s (.ac (.list (W.map kdD))) (.ac (zam A)) (.ac (.list [])) .no .no .no .no)=some ((List.range d.toNat).map (λ(k:Nat)=>PyData.int (k:Int)),[]):=by
  show(if _ then _ else _)=_
  rw[if_pos (by omega),zft]
 refine DrS.seq (c1:=32) (c2:=14818) (N1:=λe=>∃(hs:List (Str×Int))(v8 v9:Sl),hs.length<=4/\(∀x∈hs,HdOk x)/\e=pE k d r s (.ac (.list (W.map kdD))) (.ac (zam A)) (.ac (.list (hs.map hdD))) v8 v9 .no .no) ?_ ?_
 ·refine DrS.mono (DrS.for (c:=8) it (λpre e=>∃(hs:List (Str×Int))(v8 v9:Sl),hs.length=pre.length/\(∀x∈hs,HdOk x)/\e=pE k d r s (.ac (.list (W.map kdD))) (.ac (zam A)) (.ac (.list (hs.map hdD))) v8 v9 .no .no) ⟨[],.no,.no,rfl,(λx hx=>by cases hx),rfl⟩ ?_ ?_) (by rw[qX];omega)
  ·rintro pre j post e hp ⟨hs,v8,v9,hl,hh,rfl⟩
   have hk:pre.length<d.toNat:=by
    have:=congrArg List.length hp
    rw[qF,qo,qX]at this
    omega
   refine⟨_,rfl,?_⟩
   refine DrS.seq (c1:=1) (c2:=7) (N1:=λe=>∃q:Int,1<=q/\q<=3/\e=pE k d r s (.ac (.list (W.map kdD))) (.ac (zam A)) (.ac (.list (hs.map hdD))) (.pl (.int (j:Int))) (.pl (.int q)) .no .no) (DrS.set ?_) ?_
   ·refine Dr.cb (c:=1) (PA:=λrs=>∃x y:Int,rs=[vi x,vi y]/\1<=x/\x<=3/\2<=y) (DrA.cons (c1:=1) (c2:=0) (P1:=λr=>∃x:Int,r=vi x/\1<=x/\x<=3) (P2:=λrs=>∃y:Int,rs=[vi y]/\2<=y) ?_ (DrA.one (Dr.pure (zth (j:=if decide (k<7)=true then 1 else 0) rfl (znm (ziw rfl) rfl)) ⟨_,rfl,by split<;>omega⟩)) λr rs ⟨x,h1,h2⟩ ⟨y,h3,h4⟩=>⟨x,y,by rw[h1,h3],h2.1,h2.2,h4⟩) ?_
    ·refine Dr.op (c1:=0) (c2:=1) (P1:=λr=>r=vi 1) (Dr.pure rfl rfl) (zbz (k:=3) (by decide) (by decide)) ?_
     rintro a b rfl ⟨x,rfl,h0,h1⟩
     exact⟨.int (1+x),false,rfl,1+x,rfl,by omega,by omega⟩
    ·rintro rs ⟨x,y,rfl,x0,x1,y0⟩
     refine⟨.int (if y<x then y else x),false,rfl,_,?_,?_,rfl⟩<;>split<;>omega
   rintro e ⟨q,q0,q1,rfl⟩
   refine DrS.app (ds:=hs.map hdD) rfl (by rw[qD];omega) (Dr.tup2 (c1:=7) (c2:=0) (P2:=λr=>r=vi q) (ztw (A:=hs.map (·.1)) (Dr.pure (zgt (enc:=hdD) (nm:=λh:Str×Int=>h.1) (rest:=λh=>[.int h.2]) (λr=>rfl) (.inl rfl) (by omega)) rfl) ?_) (Dr.pure rfl rfl) ?_)
   ·intro x hx
    obtain⟨y,hy,rfl⟩:=qg.mp hx
    exact(hh y hy).n
   ·rintro x y ⟨z,rfl,hz⟩ rfl
    refine⟨by show(7:Nat)∉([]:List Nat);simp,hs++[(z,q)],.pl (.int (j:Int)),.pl (.int q),by simp[hl],λx hx=>?_,by rw[qAD];rfl⟩
    rcases qb.mp hx with hx|hx
    ·exact hh x hx
    ·rw[qc.mp hx];exact⟨hz,q0,q1⟩
  ·rintro e ⟨hs,v8,v9,hl,hh,rfl⟩
   rw[qX]at hl
   exact⟨hs,v8,v9,by omega,hh,rfl⟩
 rintro e ⟨hs,v8,v9,hl,hh,rfl⟩
 refine DrS.seq (c1:=0) (c2:=14818) (N1:=λe=>e=pE k d r s (.ac (.list (W.map kdD))) (.ac (zam A)) (.ac (.list (hs.map hdD))) v8 v9 (.ac (.list [])) .no) (DrS.set (Dr.pure rfl rfl)) ?_
 rintro e rfl
 refine DrS.seq (c1:=14818) (c2:=0) (N1:=λe=>∃(ds:List Dd)(v6 v7 v9 v11:Sl),ds.length<=4/\(∀x∈ds,DdOk x)/\e=pE k d r s (.ac (.list (W.map kdD))) v6 v7 v8 v9 (.ac (.list (ds.map ddD))) v11) ?_ ?_
 ·refine DrS.mono (DrS.for (c:=3700) (enc:=hdD) (l:=hs) (bs:=[7]) rfl (λpre e=>∃(ds:List Dd)(v6 v9 v11:Sl),ds.length=pre.length/\(∀x∈ds,DdOk x)/\(v6=.ac (zam A)\/v6=.pl (zam A))/\e=pE k d r s (.ac (.list (W.map kdD))) v6 (.pl (.list (hs.map hdD))) v8 v9 (.ac (.list (ds.map ddD))) v11) ⟨[],_,v9,.no,rfl,(λx hx=>by cases hx),.inl rfl,rfl⟩ ?_ ?_) (by omega)
  ·rintro pre h post e hp ⟨ds,v6,v9,v11,hdl,hdo,h6,rfl⟩
   have hm:h∈hs:=by rw[<- hp];simp
   have hk:pre.length<hs.length:=by
    have:=congrArg List.length hp
    rw[qF,qo]at this
    omega
   refine⟨pE k d r s (.ac (.list (W.map kdD))) v6 (.pl (.list (hs.map hdD))) v8 (.pl (.int h.2)) (.ac (.list (ds.map ddD))) (.pl (.str h.1)),rfl,?_⟩
   have v6e:∃bs,(bs=[6]\/bs=[])/\eVar 6 (pE k d r s (.ac (.list (W.map kdD))) v6 (.pl (.list (hs.map hdD))) v8 (.pl (.int h.2)) (.ac (.list (ds.map ddD))) (.pl (.str h.1)))=some ⟨zam A,false,bs⟩/\(bs=[6]->v6=.ac (zam A)):=by
    rcases h6 with rfl|rfl
    ·exact⟨[6],.inl rfl,rfl,λ_=>rfl⟩
    ·exact⟨[],.inr rfl,rfl,λz=>by cases z⟩
   obtain⟨bs,hbs,ev6,hb6⟩:=v6e
   have hho:=hh h hm
   refine DrS.app (ds:=ds.map ddD) rfl (by rw[qD];omega) (Dr.tup3 (c1:=0) (c2:=0) (c3:=3700) (P1:=λr=>r=vs h.1) (P2:=λr=>r=vi h.2) (P3:=λr=>∃rs:List Rl,r=⟨.list (rs.map rlD),true,bs⟩/\rs.length<=12/\∀x∈rs,RlOk3 x) (Dr.pure rfl rfl) (Dr.pure rfl rfl) (Dr.call (c1:=0) (c2:=3700) (PA:=λrs=>rs=[⟨zam A,false,bs⟩,⟨.list (hs.map hdD),false,[]⟩,vi h.2,vi r,vi s]) ?_ ?_) ?_)
   ·refine DrA.cons (c1:=0) (c2:=0) (P1:=λr=>r=⟨zam A,false,bs⟩) (P2:=λrs=>rs=[⟨.list (hs.map hdD),false,[]⟩,vi h.2,vi r,vi s]) (Dr.pure ev6 rfl) (DrA.cons (c1:=0) (c2:=0) (P1:=λr=>r=⟨.list (hs.map hdD),false,[]⟩) (P2:=λrs=>rs=[vi h.2,vi r,vi s]) (Dr.pure rfl rfl) (DrA.cons (c1:=0) (c2:=0) (P1:=λr=>r=vi h.2) (P2:=λrs=>rs=[vi r,vi s]) (Dr.pure rfl rfl) (DrA.cons (c1:=0) (c2:=0) (P1:=λx=>x=vi r) (P2:=λrs=>rs=[vi s]) (Dr.pure rfl rfl) (DrA.one (Dr.pure rfl rfl)) λx xs e1 e2=>by rw[e1,e2]) λx xs e1 e2=>by rw[e1,e2]) λx xs e1 e2=>by rw[e1,e2]) λx xs e1 e2=>by rw[e1,e2]
   ·rintro rs rfl
    refine⟨rfl,λn st hb=>?_⟩
    obtain⟨x,fr,st',e,⟨h2,rs,h3,h4,h5⟩,b⟩:=zaht aw (by omega) (by omega) hh (by omega) (by omega) hho.p0 hho.p1 r0 r1 s0 s1 n st hb
    refine⟨x,fr,st',e,⟨rs,?_,h4,h5⟩,b⟩
    rw[h2,h3]
    show(⟨_,_,bss [⟨zam A,false,bs⟩,_,_,_,_]⟩:Val)=_
    rcases hbs with rfl|rfl<;>rfl
   ·rintro x y z rfl rfl ⟨rs,rfl,hrl,hro⟩
    have eb:bss [vs h.1,vi h.2,⟨.list (rs.map rlD),true,bs⟩]=bs:=by rcases hbs with rfl|rfl<;>rfl
    refine⟨by show(10:Nat)∉bss _;rw[eb];rcases hbs with rfl|rfl<;>decide,?_⟩
    dsimp only
    rw[eb]
    refine⟨ds++[⟨h.1,h.2,rs⟩],.pl (zam A),.pl (.int h.2),.pl (.str h.1),by simp[hdl],λx hx=>?_,.inr rfl,?_⟩
    ·rcases qb.mp hx with hx|hx
     ·exact hdo x hx
     ·rw[qc.mp hx];exact⟨hho.n,hho.p0,hho.p1,hro,hrl⟩
    ·rw[qAD]
     rcases hbs with rfl|rfl
     ·rw[hb6 rfl];rfl
     ·rcases h6 with rfl|rfl
      ·cases ev6
      ·rfl
  ·rintro e ⟨ds,v6,v9,v11,hdl,hdo,h6,rfl⟩
   exact⟨ds,v6,_,v9,v11,by omega,hdo,rfl⟩
 rintro e ⟨ds,v6,v7,v9,v11,hdl,hdo,rfl⟩
 exact DrS.ret (Dr.pure rfl ⟨rfl,W,ds,rfl,⟨hWo,by omega,hdo,hdl⟩,hW⟩)
theorem zuv(L:List Str)(x:Str):zam (L++[x])=.list (L.map .str++[.str x]):=by unfold zam;rw[qAD];rfl
theorem zalz(x:Str):eqD (.str x) (.str x)=some (.bool true,false):=by rw[eqS,decide_eq_true rfl]
noncomputable def zaee:EFr Pen3:=(rOp addD (zbb 2 zee (zaz (zak (eVar 4)) rNil)) (zak (zhj ["_law_deed"] [] (zbq (eIxV 4 (eC (.int 1)))) (gN 0) zdl (eIxV 0 (eC (.int 0))))))
noncomputable def zama:TF:=(tOrF (zdt (eOp neD (eCB zfc (zah (eVar 9) aNil)) (eVar 8))) (tOrF (zdt (eOp neD (eCB zfc (zah (eVar 10) aNil)) (eVar 8))) (zdt (eOp neD (eCB zfc (zah (eVar 4) aNil)) (eVar 5)))))
noncomputable def zamb:TF:=(zdt (eOp neD (eCB zfc (zah (eVar 4) aNil)) (eVar 5)))
noncomputable def fe60:EF:=(eCB (anyD λbs=>bs.all id) (zah (zhj ["_law_told_here","_law_due_here"] [] (zbq (eVar 6)) (gT 2 (zav 0 (zav 1 zdu))) zdl (eOp eqD (eCB zfc (zah (eVar 0) aNil)) (eVar 1))) aNil))
noncomputable def znb:DEnv->Pen3->Prop:=(lSeq (rSet 2 (rOp ixD (zak (eLst (zah (eC (.int 0)) (zah (eC (.int 1)) (zah (eC (.int 2)) (zah (eC (.int 2)) (zah (eC (.int 3)) (zah (eC (.int 4)) aNil)))))))) (zbb 2 zai (zaz (zak (eC (.int 6))) rNil)))) (lSeq (rSet 3 (rOp addD (zak (eC (.int 1))) (zbb 2 zai (zaz (zak (eC (.int 6))) rNil)))) (lSeq (rSet 4 (zbb 5 zfg (zaz (zak (eVar 3)) (zaz (zak (eVar 2)) (zaz (zbb 2 zai (zaz (zak (eC (.int 5))) rNil)) (zaz (zbb 2 zai (zaz (zak (eC (.int 3))) rNil)) rNil)))))) (lSeq (rSet 5 (zak (eCB zfc (zah (eVar 4) aNil)))) (lSeq (rSet 6 (zak (eLst aNil))) (zaea zaee zed zfw zama zamb fe60))))))
theorem zzz:(["_law_deed"]:List Str).Nodup:=by decide +kernel
theorem zsg:(["_law_told_here","_law_due_here"]:List Str).Nodup:=by decide +kernel
section
variable{P:Program}{w:World}{K:qC}{mg:Str->Option Value}{base:Heap}
noncomputable def zacu(K:qC):Sp:=λvs H Q _=>∃(a:Addr)(ns:List Int),vs=[.ref a]/\SqL K H a (ns.map V.int)/\∀H',Q (.bl true) H'
theorem zamc{f:Addr}{fd:qq}(F:Fun K "law" "law" zwj f fd)(T:Txt mg)(hp:∀ns:List Int,znb (List.replicate 12 .no) ⟨ns,0,0⟩)(D_law_asked:zmu P w K mg base)(D_law_due:zru P w K mg base)(D_law_lists:Dn P w K mg base "_law_lists" ["_law_thing"] 1 spLs)(D_law_pen:zrs P w K mg base)(D_law_program:zjr P w K mg base)(D_law_take:zds P w K mg base)(D_law_told:Dn P w K mg base "_law_told" ["_law_program_here","_law_name"] 5 (spT 2 zfw)):FnOk P w K mg base CX0 6 f fd ["_law_script"] (zacu K):=by
 refine F.ok zald (λvs H Q E h=>?_) (λcdv A outer s H vs Q E hr h=>?_)
 ·obtain⟨a,ns,rfl,_⟩:=h
  rfl
 ·obtain⟨a,ns,rfl,hS,k⟩:=h
  have hu:=zhi hr
  have ef:=hp ns
  apply Exists.intro
  apply And.intro
  ·refine' Bx.out (zad (bpsS (i:=1) zgq rfl (Or.inl rfl) (bpeD D_law_pen hr (bpaC (bv 0) zab)))
 (zad (bpsS (i:=2) zgq rfl (Or.inl rfl) (bpeX (zde (K:=K) rfl) (zca (bpaC zaf (bpaC zaf (bpaC zaf (bpaC zaf (bpaC zaf (bpaC zaf zab))))))) (bpeD D_law_take hr (bpaC (bv 1) (bpaC zaf zab)))))
 (zad (bpsS (i:=3) zgq rfl (Or.inl rfl) (zba (zbr (K:=K) rfl) zaf (bpeD D_law_take hr (bpaC (bv 1) (bpaC zaf zab)))))
 (zad (bpsS (i:=4) zgq rfl (Or.inl rfl) (bpeD D_law_program hr (bpaC (bv 1) (bpaC (bv 3) (bpaC (bv 2) (bpaC (bpeD D_law_take hr (bpaC (bv 1) (bpaC zaf zab))) (bpaC (bpeD D_law_take hr (bpaC (bv 1) (bpaC zaf zab))) zab)))))))
 (zad (bpsS (i:=5) zgq rfl (Or.inl rfl) (bpeB (zex (K:=K) rfl hr) T.repr zez (bpaC (bv 4) zab)))
 (zad (bpsS (i:=6) zgq rfl (Or.inl rfl) (zca zab))
 (zad (zdg qr rfl (zbj (K:=K) rfl (zba (zbr (K:=K) rfl) (bpeD D_law_asked hr (bpaC (bv 1) (bpaC (bv 4) zab))) (zcf (zbx (N':=["_law_deed"]) (own:=["_law_deed"]) (fr:=[]) (by kernel_rfl)) rfl (zbj (K:=K) rfl (bpeX (zde (K:=K) rfl) (bv 4) zaf)) ?hb1 (by intro _;rfl)))) (bpgN (i:=7) zgq rfl (Or.inl rfl))
  (zad (bpsS (i:=8) zgq rfl (Or.inl rfl) (bpeD D_law_due hr (bpaC (bv 4) (bpaC (bv 7) zab))))
 (zad (bpsS (i:=9) zgq rfl (Or.inl rfl) (bpeD D_law_told hr (bpaC (bv 4) (bpaC (bv 7) zab))))
 (zad (bpsS (i:=10) zgq rfl (Or.inl rfl) (bpeD D_law_told hr (bpaC (bv 4) (bpaC (bv 7) zab))))
 (zad (zew (zadq (zbi (zuc (K:=K) rfl hr.units) (bpeB (zex (K:=K) rfl hr) T.repr zez (bpaC (bv 9) zab)) (bv 8) (zdd _)) (zadq (zbi (zuc (K:=K) rfl hr.units) (bpeB (zex (K:=K) rfl hr) T.repr zez (bpaC (bv 10) zab)) (bv 8) (zdd _)) (zafs (zbi (zuc (K:=K) rfl hr.units) (bpeB (zex (K:=K) rfl hr) T.repr zez (bpaC (bv 4) zab)) (bv 5) (zdd _))))).pt (zao (zbh zadp)) zcd)
 (zad (zdg qr rfl (zbj (K:=K) rfl (bpeD D_law_lists hr (bpaC (bv 9) zab))) (bpgN (i:=11) zgq rfl (Or.inl rfl))
  (zao (zbs (zbw (K:=K) rfl qN qT qS zbl (bv 11) (bpaC zaft zab) (by rfl) (by rfl) (by rfl) (zay (by rfl)) (by rfl)) (by rfl))) (by intro _;rfl))
 (zad (zew (zbi (zuc (K:=K) rfl hr.units) (bpeB (zex (K:=K) rfl hr) T.repr zez (bpaC (bv 4) zab)) (bv 5) (zdd _)) (zao (zbh zadp)) zcd)
 (zao (zbs (zbw (K:=K) rfl qN qT qS zbl (bv 6) (bpaC (zbv (bpaC (bv 10) (bpaC (bv 8) zab))) zab) (by rfl) (by rfl) (by rfl) (zay (by rfl)) (by rfl)) (by rfl))))))))) (by intro _;rfl))
 (zad (zdg qr rfl (zbj (K:=K) rfl (bpeD D_law_lists hr (bpaC (bv 4) zab))) (bpgN (i:=11) zgq rfl (Or.inl rfl))
  (zad (zbs (zbw (K:=K) rfl qN qT qS zbl (bv 11) (bpaC (zbv zab) zab) (by rfl) (by rfl) (by rfl) (zay (by rfl)) (by rfl)) (by rfl))
 (zao (zbs (zud (K:=K) rfl qN PySem.F.slot_list_reverse PySem.F.type_list_reverse zvk (bv 11) (by rfl) (by rfl)) (by rfl)))) (by intro _;rfl))
 (zao (zbh (bpeB (zxp (K:=K) rfl rfl) T.all zacj (bpaC (zcf (zbx (N':=["_law_told_here","_law_due_here"]) (own:=["_law_told_here","_law_due_here"]) (fr:=[]) (by kernel_rfl)) rfl (zbj (K:=K) rfl (bv 6)) ?hb2 (by intro _;rfl)) zab))))))))))))
   case hb1=>(intro cl C s H fp;refine'⟨Bx.out (bpgN (i:=0) zzz rfl (Or.inl rfl)),Bx.out zdw,Bx.out (bpeX (zde (K:=K) rfl) (bv 0) zaf)⟩)
   case hb2=>(intro cl C s H fp;refine'⟨Bx.out (zcn (K:=K) (n:=2) rfl rfl (zas (bpgN (i:=0) zsg rfl (Or.inl rfl)) (zas (bpgN (i:=1) zsg rfl (Or.inl rfl)) zcm (by rfl)) (by rfl)) (by rfl) (by rfl)),Bx.out zdw,Bx.out (zpe (zkn (K:=K) rfl hr.units) (bpeB (zex (K:=K) rfl hr) T.repr zez (bpaC (bv 0) zab)) (bv 1) (zdd _))⟩)
  exact zach (N:=zahi) (F:=znb) (n:=10) rfl (zrf (zax (zcv znh (zac (zeu (zag (se_c λ_=>zaa) (zag (se_c λ_=>zaa) (zag (se_c λ_=>zaa) (zag (se_c λ_=>zaa) (zag (se_c λ_=>zaa) (zag (se_c λ_=>zaa) zau)))))))) (zaq (zaj (zac (se_c λ_=>zaa)) zaw))) (by decide)) (zrf (zax (zcv zeh (zac (se_c λ_=>zaa)) (zaq (zaj (zac (se_c λ_=>zaa)) zaw))) (by decide)) (zrf (zax (zaq (zaj (zac (zae 3)) (zaj (zac (zae 2)) (zaj (zaq (zaj (zac (se_c λ_=>zaa)) zaw)) (zaj (zaq (zaj (zac (se_c λ_=>zaa)) zaw)) zaw))))) (by decide)) (zrf (zax (zac (zdk zhr (zag (zae 4) zau))) (by decide)) (zrf (zax (zac (zeu zau)) (by decide)) (zzl (zcv zeh (zaq (zaj (zac (zae 4)) zaw)) (zac (zfo (zei (zfp (se_c λ_=>zaa))) zjz (zis (by decide)) zfz (zfp (se_c λ_=>zaa))))) (zajo (st_t (zbd zabf (zdk zhr (zag (zae 9) zau)) (zae 8))) (zajo (st_t (zbd zabf (zdk zhr (zag (zae 10) zau)) (zae 8))) (st_t (zbd zabf (zdk zhr (zag (zae 4) zau)) (zae 5))))) (st_t (zbd zabf (zdk zhr (zag (zae 4) zau)) (zae 5))) (zdk zajp (zag (zfo (zei (zae 6)) (zhm (zbe (zbe zfn))) (zlw (zcc (by decide) (zcc (by decide) zit))) zfz (zbd zqs (zdk zhr (zag (zae 0) zau)) (zae 1))) zau)))))))) hS ef k
end
noncomputable def rkD(r:Rl):PyData:=.tuple [.str r.n,.tuple (r.ks.map .str)]
noncomputable def rkT(r:Rl):NT:=.tp [.lf (.str r.n),.lf (.tuple (r.ks.map .str))]
noncomputable def kdT(r:Kd):NT:=.tp [.lf (.str r.1),.ls (r.2.map λx=>.lf (.str x))]
noncomputable def zaaa(W:List Kd)(d:Dd):NT:=.tp [.ls (W.map kdT),.lf (.int d.p),.ls (d.rs.map rkT)]
noncomputable def znn(W:List Kd)(d:Dd):PyData:=.tuple [.list (W.map kdD),.int d.p,.list (d.rs.map rkD)]
theorem zlf:∀ts:List NT,ntDs ts=ts.map ntD
 | []=>rfl
 | t::ts=>by unfold ntDs;rw[zlf ts];rfl
theorem zanr(r:Kd):ntD (kdT r)=kdD r:=by
 show PyData.tuple [.str r.1,.list (ntDs (r.2.map λx=>NT.lf (.str x)))]=_
 rw[zlf,qAR];rfl
theorem zans(r:Rl):ntD (rkT r)=rkD r:=rfl
theorem zahu(W:List Kd)(d:Dd):ntD (zaaa W d)=znn W d:=by
 show PyData.tuple [.list (ntDs (W.map kdT)),.int d.p,.list (ntDs (d.rs.map rkT))]=_
 rw[zlf,zlf,qAR,qAR]
 unfold znn
 rw[show(ntD∘kdT)=kdD from funext zanr,show(ntD∘rkT)=rkD from funext zans]
theorem zuw:∀{ds:List PyData},(∀d∈ds,rgD d=true)->rgDs ds=true
 | [],_=>rfl
 | d::ds,h=>by unfold rgDs;rw[h d (by simp),zuw λx hx=>h x (by simp[hx])];rfl
theorem zlg:∀{ts:List NT},(∀t∈ts,rgN t=true)->rgNs ts=true
 | [],_=>rfl
 | d::ds,h=>by unfold rgNs;rw[h d (by simp),zlg λx hx=>h x (by simp[hx])];rfl
theorem zant(r:Kd):rgN (kdT r)=true:=by
 show(rgD (.str r.1)&&(rgNs (r.2.map λx=>NT.lf (.str x))&&true))=true
 rw[zlg λt ht=>?_]
 ·rfl
 ·obtain⟨x,_,rfl⟩:=qg.mp ht;rfl
theorem zanu(r:Rl):rgN (rkT r)=true:=by
 show(rgD (.str r.n)&&(rgDs (r.ks.map .str)&&true))=true
 rw[zuw λt ht=>?_]
 ·rfl
 ·obtain⟨x,_,rfl⟩:=qg.mp ht;rfl
theorem zahv(W:List Kd)(d:Dd):rgN (.ls [zaaa W d])=true:=by
 show((rgNs (W.map kdT)&&(rgD (.int d.p)&&(rgNs (d.rs.map rkT)&&true)))&&true)=true
 rw[zlg λt ht=>?_,zlg λt ht=>?_]
 ·rfl
 ·obtain⟨x,_,rfl⟩:=qg.mp ht;exact zanu x
 ·obtain⟨x,_,rfl⟩:=qg.mp ht;exact zant x
theorem zaab{n:Nat}:∀{ds:List PyData},(∀d∈ds,szD d<=n)->szDs ds<=ds.length * n
 | [],_=>qAH _
 | d::ds,h=>by
  have h1:=h d (by simp)
  have h2:=zaab (ds:=ds) λx hx=>h x (by simp[hx])
  show szD d+szDs ds<=(ds.length+1) * n
  rw[Nat.succ_mul];omega
theorem zhz{α:Type}{enc:α->PyData}{n m:Nat}{l:List α}(h:∀x∈l,szD (enc x)<=n)(hl:l.length<=m):szDs (l.map enc)<=m * n:=by
 have:=zaab (ds:=l.map enc) (n:=n) λd hd=>by obtain⟨x,hx,rfl⟩:=qg.mp hd;exact h x hx
 rw[qD]at this
 exact qf this (qAw n hl)
theorem zpy:∀{ds:List PyData},(∀d∈ds,zbm d=true)->shortDs ds=true
 | [],_=>rfl
 | d::ds,h=>by unfold shortDs;rw[h d (by simp),zpy λx hx=>h x (by simp[hx])];rfl
theorem zia{α:Type}{enc:α->PyData}{l:List α}(h:∀x∈l,zbm (enc x)=true)(hl:l.length<=1000):zbm (.list (l.map enc))=true:=by
 unfold zbm
 rw[decide_eq_true (by rw[qD];exact hl),zpy λd hd=>?_]
 ·rfl
 ·obtain⟨x,hx,rfl⟩:=qg.mp hd;exact h x hx
theorem zaef{α:Type}{enc:α->PyData}{l:List α}(h:∀x∈l,zbm (enc x)=true):zbm (.tuple (l.map enc))=true:=by
 unfold zbm
 exact zpy λd hd=>by obtain⟨x,hx,rfl⟩:=qg.mp hd;exact h x hx
theorem ztx{xs:List Str}{m:Nat}(hl:xs.length<=m):szDs (xs.map PyData.str)<=m * 1:=zhz (λx _=>qJ _) hl
theorem zamd{r:Kd}(h:KdOk r):szD (kdD r)<=7:=by
 have:=ztx h.l
 show 1+((szDs (r.2.map PyData.str)+1)+0)+1<=7
 omega
theorem zame{r:Kd}(h:KdOk r):zbm (kdD r)=true:=by
 have:=h.l
 show(true&&(zbm (.list (r.2.map PyData.str))&&true))=true
 rw[zia (λ_ _=>rfl) (by omega)];rfl
theorem zanv{r:Rl}(h:RlOk3 r):szD (rkD r)<=6:=by
 have:=ztx h.kl
 show 1+((szDs (r.ks.map PyData.str)+1)+0)+1<=6
 omega
theorem zanw(r:Rl):zbm (rkD r)=true:=by
 show(true&&(zbm (.tuple (r.ks.map PyData.str))&&true))=true
 rw[zaef λ_ _=>rfl];rfl
theorem zahw(p:Pick):szD (zjt p)<=4:=by
 cases p with
 | own i=>show 1+(1+0)+1<=4;decide
 | new w i=>show 1+(1+(1+0))+1<=4;decide
theorem zahx(p:Pick):zbm (zjt p)=true:=by cases p<;>rfl
theorem zamf{s:Stp}(h:zmy s):szD (stpD s)<=16:=by
 cases s with
 | call d ps=>
  have:=zhz (enc:=zjt) (λx _=>zahw x) h.2.1
  show 1+(1+((szDs (ps.map zjt)+1)+0))+1<=16
  omega
 | say i=>show 1+(1+0)+1<=16;decide
 | tell i=>show 1+(1+0)+1<=16;decide
 | onw=>show 1+0+1<=16;decide
theorem zamg{s:Stp}(h:zmy s):zbm (stpD s)=true:=by
 cases s with
 | call d ps=>
  have:=h.2.1
  show(true&&(true&&(zbm (.list (ps.map zjt))&&true)))=true
  rw[zia (λx _=>zahx x) (by omega)];rfl
 | _=>rfl
theorem zanx{r:Rl}(h:RlOk3 r):szD (rlD r)<=110:=by
 have h1:=ztx h.kl
 have h2:=zhz (enc:=stpD) (λx hx=>zamf (h.ss x hx)) h.sl
 show 1+((szDs (r.ks.map PyData.str)+1)+((szDs (r.ss.map stpD)+1)+0))+1<=110
 omega
theorem zany{r:Rl}(h:RlOk3 r):zbm (rlD r)=true:=by
 have:=h.sl
 show(true&&(zbm (.tuple (r.ks.map PyData.str))&&(zbm (.list (r.ss.map stpD))&&true)))=true
 rw[zaef λ_ _=>rfl,zia (λx hx=>zamg (h.ss x hx)) (by omega)];rfl
theorem zanz{d:Dd}(h:DdOk d):szD (ddD d)<=1400:=by
 have h2:=zhz (enc:=rlD) (λx hx=>zanx (h.rs x hx)) h.rl
 show 1+(1+((szDs (d.rs.map rlD)+1)+0))+1<=1400
 omega
theorem zaoa{d:Dd}(h:DdOk d):zbm (ddD d)=true:=by
 have:=h.rl
 show(true&&(true&&(zbm (.list (d.rs.map rlD))&&true)))=true
 rw[zia (λx hx=>zany (h.rs x hx)) (by omega)];rfl
theorem zaob{W:List Kd}{ds:List Dd}(h:PgOk W ds):szD (pgD W ds)<50000:=by
 have h1:=zhz (enc:=kdD) (λx hx=>zamd (h.w x hx)) h.wl
 have h2:=zhz (enc:=ddD) (λx hx=>zanz (h.d x hx)) h.dl
 show(szDs (W.map kdD)+1)+((szDs (ds.map ddD)+1)+0)+1<50000
 omega
theorem zaoc{W:List Kd}{ds:List Dd}(h:PgOk W ds):zbm (pgD W ds)=true:=by
 have h1:=h.wl
 have h2:=h.dl
 show(zbm (.list (W.map kdD))&&(zbm (.list (ds.map ddD))&&true))=true
 rw[zia (λx hx=>zame (h.w x hx)) (by omega),zia (λx hx=>zaoa (h.d x hx)) (by omega)];rfl
theorem zahy{W:List Kd}{ds:List Dd}(h:PgOk W ds){d:Dd}(hd:d∈ds):szD (.list [znn W d])<50000:=by
 have h1:=zhz (enc:=kdD) (λx hx=>zamd (h.w x hx)) h.wl
 have h2:=zhz (enc:=rkD) (λx hx=>zanv ((h.d d hd).rs x hx)) (h.d d hd).rl
 show(((szDs (W.map kdD)+1)+(1+((szDs (d.rs.map rkD)+1)+0))+1)+0)+1<50000
 omega
theorem zahz{W:List Kd}{ds:List Dd}(h:PgOk W ds){d:Dd}(hd:d∈ds):zbm (.list [znn W d])=true:=by
 have h1:=h.wl
 have h2:=(h.d d hd).rl
 show(decide (1<=1000)&&((zbm (.list (W.map kdD))&&(true&&(zbm (.list (d.rs.map rkD))&&true)))&&true))=true
 rw[zia (λx hx=>zame (h.w x hx)) (by omega),zia (λx hx=>zanw x) (by omega)];rfl
theorem zpz{d:PyData}{n k:Nat}(h:Shn d n k)(f:zef d=false)(hk:k<=40)(hn:n<=1000000):zfc [d]=some (.str d.shown,false):=by
 unfold zfc
 dsimp only
 rw[if_pos ⟨f,h.lay,h.shw,qf h.dep hk,qf h.len hn⟩]
theorem zaac{xs:List Str}(h:∀x∈xs,Wd x)(hl:xs.length<=3):Shn (.tuple (xs.map .str)) 111 1:=by
 refine zhy (k:=0) (m:=108) (λd hd=>?_) ?_
 ·obtain⟨x,hx,rfl⟩:=qg.mp hd
  have s:=zcq (h x hx)
  exact⟨s.lay,s.shw,s.dep⟩
 ·rw[qAR]
  have:=zsa (f:=(λd:PyData=>d.shown.length+2)∘PyData.str) (B:=36) (xs:=xs) λx hx=>by
   have:=(zcq (h x hx)).len
   show(PyData.str x).shown.length+2<=36
   omega
  have h2:xs.length * 36<=3 * 36:=qAw _ hl
  omega
theorem zamh{r:Rl}(h:RlOk3 r):Shn (rkD r) 200 2:=(zna ((zcq h.n).mono (qJ _) (by decide)) (zaac h.ks h.kl)).mono (by decide) (by decide)
theorem zux{W:List Kd}{ds:List Dd}(h:PgOk W ds){d:Dd}(hd:d∈ds):Shn (.list [znn W d]) 10000 6:=by
 have dk:=h.d d hd
 have a:Shn (.list (W.map kdD)) (10 * (187+2)+2) 3:=zfi (λx hx=>by obtain⟨y,hy,rfl⟩:=qg.mp hx;exact zaed (h.w y hy)) (by rw[qD];exact h.wl)
 have b:Shn (.list (d.rs.map rkD)) (12 * (200+2)+2) 3:=zfi (λx hx=>by obtain⟨y,hy,rfl⟩:=qg.mp hx;exact zamh (dk.rs y hy)) (by rw[qD];exact dk.rl)
 have c:Shn (znn W d) _ 4:=zsc a ((zkj (fig3 dk.p0 dk.p1)).mono (qJ _) (by decide)) b
 exact(zfi (ds:=[znn W d]) (m:=1) (λx hx=>by rw[qc.mp hx];exact c) (qJ 1)).mono (by decide) (by decide)
theorem zaod:Wd "at":=⟨by decide +kernel,by decide +kernel,by unfold Low;decide +kernel⟩
theorem zami{x:Str}(h:Wd x):Shn (.tuple [.str "at",.str x]) 100 1:=(zna (zcq zaod) (zcq h)).mono (by decide) (by decide)
theorem zkk{α:Type}{enc:α->PyData}{g:GT}{body:SF}(q:α->Option PyData)(I:DEnv->Prop):∀(l:List α)(env:DEnv),I env->
  (∀x∈l,∀env,I env->∃e1,g (enc x) env=some e1/\(q x=none->∃e2,body e1=some (.nx e2)/\I e2)/\(∀d,q x=some d->body e1=some (.rt d false)))->
  (l.findSome? q=none->∃env',forL g body (l.map enc) env=some (.nx env')/\I env')/\(∀d,l.findSome? q=some d->forL g body (l.map enc) env=some (.rt d false))
 | [],env,h0,_=>⟨λ_=>⟨env,rfl,h0⟩,λd h=>by cases h⟩
 | x::l,env,h0,hs=>by
  obtain⟨e1,h1,h2,h3⟩:=hs x (by simp) env h0
  rw[ql]
  unfold forL
  rw[h1]
  rw[qCL]
  cases hq:q x with
  | none=>
   obtain⟨e2,h4,h5⟩:=h2 hq
   rw[qj,h4]
   exact zkk q I l e2 h5 λy hy=>hs y (qK _ hy)
  | some d=>
   rw[qj,h3 d hq]
   exact⟨λz=>(by cases z),λd' z=>(by cases z;rfl)⟩
noncomputable def fd60(ds:List Dd)(x:Str):Option Dd:=ds.find? λd=>decide (d.n=x)
theorem zaia{β:Type}(out:Dd->β)(x:Str):∀ds:List Dd,(ds.findSome? λd=>if d.n=x then some (out d)else none)=(fd60 ds x).map out
 | []=>rfl
 | d::ds=>by
  have ih:=zaia out x ds
  unfold fd60 at ih ⊢
  rw[qCL,List.find?_cons]
  by_cases h:d.n=x
  ·rw[if_pos h,decide_eq_true h];rfl
  ·rw[if_neg h,decide_eq_false h];exact ih
theorem zuy{ds:List Dd}{x:Str}{d:Dd}(h:fd60 ds x=some d):d∈ds:=List.mem_of_find?_eq_some h
theorem zamj{x:Str}(h:Wd x):atD (.str x)=true:=by
 have:=zsb h.low h.hi
 unfold atD
 exact decide_eq_true (by omega)
theorem zacv{W:List Kd}{ds:List Dd}{x:Str}(hx:Wd x):zdq [pgD W ds,.str x]=some (match fd60 ds x with|some d=>.ok (.tuple [.int d.p,.list (d.rs.map rlD)]) false|none=>.rx "NoDeed" (.str x)):=by
 have hl:=zkk (enc:=ddD) (g:=gT 3 (zav 2 (zav 3 (zav 4 zdu)))) (body:=sIf (zdt (eOp eqD (eVar 2) (eVar 1))) (sRet (eTup (zah (eVar 3) (zah (eVar 4) aNil)))) sNil)
  (λd=>if d.n=x then some (PyData.tuple [.int d.p,.list (d.rs.map rlD)])else none) (λe=>∃v2 v3 v4,e=[.pl (pgD W ds),.pl (.str x),v2,v3,v4]) ds [.pl (pgD W ds),.pl (.str x),.no,.no,.no] ⟨_,_,_,rfl⟩ (by
   rintro d hd e ⟨v2,v3,v4,rfl⟩
   have tt:zdt (eOp eqD (eVar 2) (eVar 1)) [.pl (pgD W ds),.pl (.str x),.pl (.str d.n),.pl (.int d.p),.pl (.list (d.rs.map rlD))]=some (decide (d.n=x)):=zjl (zhh rfl rfl eqS)
   refine⟨[.pl (pgD W ds),.pl (.str x),.pl (.str d.n),.pl (.int d.p),.pl (.list (d.rs.map rlD))],rfl,λhq=>?_,λr hq=>?_⟩
   ·have hn:¬d.n=x:=λz=>by rw[if_pos z]at hq;cases hq
    rw[decide_eq_false hn]at tt
    exact⟨_,if_f tt rfl,_,_,_,rfl⟩
   ·by_cases hn:d.n=x
    ·rw[if_pos hn]at hq
     cases hq
     rw[decide_eq_true hn]at tt
     exact if_t tt (zzm rfl)
    ·rw[if_neg hn]at hq;cases hq)
 rw[zaia]at hl
 show(match zie [.pl (pgD W ds),.pl (.str x),.no,.no,.no]with
  | some (.ok (.rt d fr))=>some (ResX.ok d fr)|some (.ok (.nx _))=>some (.ok .none false)|some (.rx c d)=>some (.rx c d)|_=>none)=_
 unfold zie xSeq xOf
 cases hf:fd60 ds x with
 | none=>
  rw[hf]at hl
  obtain⟨e',h1,v2,v3,v4,rfl⟩:=hl.1 rfl
  rw[zuo (ds:=ds.map ddD) (bs:=[]) rfl h1]
  show(match zuh "NoDeed" (eVar 1) [.pl (pgD W ds),.pl (.str x),v2,v3,v4]with
   | some (.ok (.rt d fr))=>some (ResX.ok d fr)|some (.ok (.nx _))=>some (.ok .none false)|some (.rx c d)=>some (.rx c d)|_=>none)=_
  have er:zuh "NoDeed" (eVar 1) [.pl (pgD W ds),.pl (.str x),v2,v3,v4]=some (.rx "NoDeed" (.str x)):=by
   show(if atD (.str x)=true then _ else _)=_
   rw[if_pos (zamj hx)]
  rw[er]
 | some d=>
  rw[hf]at hl
  rw[zuo (ds:=ds.map ddD) (bs:=[]) rfl (hl.2 _ rfl)]
  rfl
theorem znc{α:Type}{enc:α->PyData}{g:GT}{e:NTF}{env:DEnv}{out:α->NT}:∀{l:List α},(∀x∈l,∃e1,g (enc x) env=some e1/\e e1=some (out x))->zji g zdl e env (l.map enc)=some (l.map out)
 | [],_=>rfl
 | x::l,h=>by
  obtain⟨e1,h1,h2⟩:=h x (by simp)
  rw[ql]
  unfold zji
  rw[h1,qj]
  show((e e1).bind λr=>(zji g zdl e env (l.map enc)).map λrs=>r::rs)=_
  rw[h2,znc λy hy=>h y (qK _ hy)]
  rfl
theorem zaoe{a b c:NTF}{env:DEnv}{x y z:NT}(h1:a env=some x)(h2:b env=some y)(h3:c env=some z):pTup (zea a (zea b (zea c zrb))) env=some (.tp [x,y,z]):=by
 simp only[pTup,zea,h1,h2,h3]
 rfl
theorem zaof{a b c:EF}{env:DEnv}{x y z:Val}(h1:a env=some x)(h2:b env=some y)(h3:c env=some z):eTup (zah a (zah b (zah c aNil))) env=some ⟨.tuple [x.d,y.d,z.d],false,bss [x,y,z]⟩:=by
 unfold eTup
 rw[zfd h1 (zfd h2 (ziw h3))]
 rfl
theorem zaog{a:EF}{env:DEnv}{x:Val}(h1:a env=some x):eLst (zah a aNil) env=some ⟨.list [x.d],true,bss [x]⟩:=by
 unfold eLst
 rw[ziw h1]
 rfl
theorem zaib{W:List Kd}(hl:W.length<=10):zfv [.list (W.map kdD)]=some (.ls (W.map kdT)):=by
 have c:zji (gT 2 (zav 0 (zav 1 zdu))) zdl (pTup (zea (pLf (eVar 0)) (zea (pFr (eCB zxv (zah (eVar 1) aNil))) zrb))) [.no,.no] (W.map kdD)=some (W.map kdT):=
  znc λr hr=>⟨[.pl (.str r.1),.pl (zam r.2)],rfl,by
   show some (NT.tp [.lf (.str r.1),.ls ((r.2.map PyData.str).map NT.lf)])=_
   rw[qAR];rfl⟩
 show zjs [.pl (.list (W.map kdD))]=_
 unfold zjs zte
 show(if(W.map kdD).length<100000/\_/\_ then((zji _ _ _ [.no,.no] (W.map kdD)).map NT.ls)else none)=_
 rw[c,if_pos ⟨by rw[qD];omega,rfl,rfl⟩]
 rfl
theorem zamk{rs:List Rl}{p:PyData}{x:Str}{v0:PyData}(hl:rs.length<=12):zte ["name","kinds","steps"] [] (zbq (eVar 3)) (gT 3 (zav 0 (zav 1 (zav 2 zdu)))) zdl (pTup (zea (pLf (eVar 0)) (zea (pLf (eVar 1)) zrb))) [.pl v0,.pl (.str x),.pl p,.pl (.list (rs.map rlD))]=some (.ls (rs.map rkT)):=by
 have c:zji (gT 3 (zav 0 (zav 1 (zav 2 zdu)))) zdl (pTup (zea (pLf (eVar 0)) (zea (pLf (eVar 1)) zrb))) [.no,.no,.no] (rs.map rlD)=some (rs.map rkT):=
  znc λr hr=>⟨[.pl (.str r.n),.pl (.tuple (r.ks.map .str)),.pl (.list (r.ss.map stpD))],rfl,rfl⟩
 unfold zte
 show(if(rs.map rlD).length<100000/\_/\_ then((zji _ _ _ [.no,.no,.no] (rs.map rlD)).map NT.ls)else none)=_
 rw[c,if_pos ⟨by rw[qD];omega,rfl,rfl⟩]
 rfl
theorem zacw{W:List Kd}{ds:List Dd}{x:Str}(h:PgOk W ds)(hx:Wd x):zen [pgD W ds,.str x]=some (match fd60 ds x with|some d=>.ok (zaaa W d)|none=>.rx "NoDeed" (.str x)):=by
 show zih [.pl (pgD W ds),.pl (.str x),.no,.no]=_
 have g:=zacv (W:=W) (ds:=ds) hx
 unfold zih zSeq
 cases hf:fd60 ds x with
 | none=>
  rw[hf]at g
  have e:ztf 2 zdq (zah (eVar 0) (zah (eVar 1) aNil)) (gT 2 (zav 2 (zav 3 zdu))) [.pl (pgD W ds),.pl (.str x),.no,.no]=some (.rx "NoDeed" (.str x)):=by
   unfold ztf
   show((zdq [pgD W ds,.str x]).bind _)=_
   rw[g];rfl
  rw[e];rfl
 | some d=>
  rw[hf]at g
  have e:ztf 2 zdq (zah (eVar 0) (zah (eVar 1) aNil)) (gT 2 (zav 2 (zav 3 zdu))) [.pl (pgD W ds),.pl (.str x),.no,.no]=some (.ok (.nx [.pl (pgD W ds),.pl (.str x),.pl (.int d.p),.pl (.list (d.rs.map rlD))])):=by
   unfold ztf
   show((zdq [pgD W ds,.str x]).bind _)=_
   rw[g];rfl
  rw[e]
  have k:=zamk (rs:=d.rs) (p:=.int d.p) (x:=x) (v0:=pgD W ds) (h.d d (zuy hf)).rl
  have c:zzb 1 zfv (zah (eIxV 0 (eC (.int 0))) aNil) [.pl (pgD W ds),.pl (.str x),.pl (.int d.p),.pl (.list (d.rs.map rlD))]=some (.ls (W.map kdT)):=by
   unfold zzb
   show(if 1=1/\true=true then zfv [.list (W.map kdD)]else none)=_
   rw[if_pos ⟨rfl,rfl⟩];exact zaib h.wl
  show(zRet _ [.pl (pgD W ds),.pl (.str x),.pl (.int d.p),.pl (.list (d.rs.map rlD))])=_
  unfold zRet
  rw[zaoe c rfl k]
  rfl
noncomputable def znd(W:List Kd)(ds:List Dd)(x:Str):NT:=match fd60 ds x with|some d=>.ls [zaaa W d]|none=>.tp [.lf (.str "at"),.lf (.str x)]
noncomputable def zfx(W:List Kd)(ds:List Dd)(x:Str):PyData:=match fd60 ds x with|some d=>.list [znn W d]|none=>.tuple [.str "at",.str x]
theorem zaic(W:List Kd)(ds:List Dd)(x:Str):ntD (znd W ds x)=zfx W ds x:=by
 unfold znd zfx
 cases fd60 ds x with
 | none=>rfl
 | some d=>
  show PyData.list [ntD (zaaa W d)]=_
  rw[zahu]
theorem zacx{W:List Kd}{ds:List Dd}{x:Str}(h:PgOk W ds)(hx:Wd x):zfw [pgD W ds,.str x]=some (znd W ds x):=by
 unfold zfw zagz
 rw[zacw h hx]
 unfold znd
 cases fd60 ds x<;>rfl
theorem zsh{W:List Kd}{ds:List Dd}{x:Str}(h:PgOk W ds)(hx:Wd x):zfc [zfx W ds x]=some (.str (zfx W ds x).shown,false):=by
 unfold zfx
 cases hf:fd60 ds x with
 | none=>exact zpz (zami hx) rfl (by decide) (by decide)
 | some d=>exact zpz (zux h (zuy hf)) rfl (by decide) (by decide)
theorem zaid{W:List Kd}{ds:List Dd}{x:Str}(h:PgOk W ds)(hx:Wd x):zed [pgD W ds,.str x]=some (.str (zfx W ds x).shown,false):=by
 refine zanm (env:=[.pl (pgD W ds),.pl (.str x),.no,.no,.no,.no,.no]) rfl (zaeb (e1:=[.pl (pgD W ds),.pl (.str x),.pl (.list (W.map kdD)),.pl (.list (ds.map ddD)),.no,.no,.no]) rfl ?_)
 have hl:=zkk (enc:=ddD) (g:=gT 3 (zav 4 (zav 5 (zav 6 zdu)))) (body:=(sIf (zdt (eOp eqD (eVar 4) (eVar 1))) (sRet (eCB zfc (zah (eLst (zah (eTup (zah (eVar 2) (zah (eVar 5) (zah (zhj ["_law_rule","_law_kinds","_law_steps"] [] (zbq (eVar 6)) (gT 3 (zav 0 (zav 1 (zav 2 zdu)))) zdl (eTup (zah (eVar 0) (zah (eVar 1) aNil)))) aNil)))) aNil)) aNil))) sNil))
  (λd=>if d.n=x then some (PyData.str (PyData.list [znn W d]).shown)else none) (λe=>∃v4 v5 v6,e=[.pl (pgD W ds),.pl (.str x),.pl (.list (W.map kdD)),.pl (.list (ds.map ddD)),v4,v5,v6]) ds [.pl (pgD W ds),.pl (.str x),.pl (.list (W.map kdD)),.pl (.list (ds.map ddD)),.no,.no,.no] ⟨_,_,_,rfl⟩ (by
   rintro d hd e ⟨v4,v5,v6,rfl⟩
   have tt:zdt (eOp eqD (eVar 4) (eVar 1)) [.pl (pgD W ds),.pl (.str x),.pl (.list (W.map kdD)),.pl (.list (ds.map ddD)),.pl (.str d.n),.pl (.int d.p),.pl (.list (d.rs.map rlD))]=some (decide (d.n=x)):=zjl (zhh rfl rfl eqS)
   refine⟨[.pl (pgD W ds),.pl (.str x),.pl (.list (W.map kdD)),.pl (.list (ds.map ddD)),.pl (.str d.n),.pl (.int d.p),.pl (.list (d.rs.map rlD))],rfl,λhq=>?_,λr hq=>?_⟩
   ·have hn:¬d.n=x:=λz=>by rw[if_pos z]at hq;cases hq
    rw[decide_eq_false hn]at tt
    exact⟨_,if_f tt rfl,_,_,_,rfl⟩
   ·by_cases hn:d.n=x
    ·rw[if_pos hn]at hq
     cases hq
     rw[decide_eq_true hn]at tt
     refine if_t tt ?_
     have rl:=(h.d d hd).rl
     have cm:zii (gT 3 (zav 0 (zav 1 (zav 2 zdu)))) zdl (eTup (zah (eVar 0) (zah (eVar 1) aNil))) (envB ["_law_rule","_law_kinds","_law_steps"] [] [.pl (pgD W ds),.pl (.str x),.pl (.list (W.map kdD)),.pl (.list (ds.map ddD)),.pl (.str d.n),.pl (.int d.p),.pl (.list (d.rs.map rlD))]) (d.rs.map rlD)=some (d.rs.map rkD):=
      zhs λr hr=>⟨[.pl (.str r.n),.pl (.tuple (r.ks.map .str)),.pl (.list (r.ss.map stpD))],rfl,rfl,⟨rkD r,false,[]⟩,rfl,rfl⟩
     have ec:=zme (own:=["_law_rule","_law_kinds","_law_steps"]) (fr:=[]) (fi:=zbq (eVar 6)) (env:=[.pl (pgD W ds),.pl (.str x),.pl (.list (W.map kdD)),.pl (.list (ds.map ddD)),.pl (.str d.n),.pl (.int d.p),.pl (.list (d.rs.map rlD))]) (ds:=d.rs.map rlD) (bs:=[]) rfl (by rw[qD];omega) cm
     have bs0:∀b:Bool,(if b=true then([]:List Nat)else[]++capA [] [.pl (pgD W ds),.pl (.str x),.pl (.list (W.map kdD)),.pl (.list (ds.map ddD)),.pl (.str d.n),.pl (.int d.p),.pl (.list (d.rs.map rlD))])=[]:=λb=>by cases b<;>rfl
     rw[bs0]at ec
     refine zzm (bs:=[]) (znm (rs:=[⟨.list [znn W d],true,[]⟩]) (ziw ?_) (zpz (zux h hd) rfl (by decide) (by decide)))
     exact zaog (zaof (x:=⟨.list (W.map kdD),false,[]⟩) (y:=vi d.p) rfl rfl ec)
    ·rw[if_neg hn]at hq;cases hq)
 rw[zaia]at hl
 have er:=zsh h hx
 unfold zfx at er ⊢
 cases hf:fd60 ds x with
 | none=>
  rw[hf]at hl er
  obtain⟨e',h1,v4,v5,v6,rfl⟩:=hl.1 rfl
  refine zaeb (zuo (ds:=ds.map ddD) (bs:=[]) rfl h1) ?_
  exact zzm (bs:=[]) (znm (rs:=[⟨.tuple [.str "at",.str x],false,[]⟩]) (ziw rfl) er)
 | some d=>
  rw[hf]at hl
  exact zaky (zuo (ds:=ds.map ddD) (bs:=[]) rfl (hl.2 _ rfl))
theorem zaad(x:Str)(a b:Nat)(hb:b<=x.length):(((List.range (b - a)).map λk=>a+k).filterMap (x.cps[·]?)).length=b - a:=by
 have:((List.range (b - a)).map λk=>a+k).filterMap (x.cps[·]?)=((List.range (b - a)).map λk=>a+k).map λi=>x.cps[i]?.getD 0:=by
  have g:∀l:List Nat,(∀i∈l,i<x.cps.size)->l.filterMap (x.cps[·]?)=l.map λi=>x.cps[i]?.getD 0:=by
   intro l
   induction l with
   | nil=>intro _;rfl
   | cons i l ih=>
    intro h
    have hi:=h i qt
    rw[qAz,qA3 hi,ql,ih λj hj=>h j (qK _ hj),qA3 hi]
    rfl
  refine g _ λi hi=>?_
  obtain⟨k,hk,rfl⟩:=qg.mp hi
  have hk:=qA5.mp hk
  have:x.length=x.cps.size:=rfl
  omega
 rw[this,qD,qD,qX]
theorem zaae(n a:Nat):Builtin.Str.strSliceIndices none (some (a:Int)) 1 n=(List.range (min a n - 0)).map λk=>0+k:=by
 unfold Builtin.Str.strSliceIndices sliceRange
 simp only[show(1:Int) > 0 by decide,if_true]
 rw[if_neg (show ¬((a:Int)<0) by omega)]
 have e:(max 0 (min (a:Int) (n:Int)))=((min a n:Nat):Int):=by omega
 rw[e]
 by_cases h:(0:Int)<((min a n:Nat):Int)
 ·rw[if_pos h]
  have e2:((((min a n:Nat):Int) - 0+1 - 1) / 1).toNat=min a n - 0:=by rw[Int.ediv_one];omega
  rw[e2]
  exact qBT λk _=>by omega
 ·rw[if_neg h]
  have e2:min a n - 0=0:=by omega
  rw[e2];rfl
theorem zaaf(x:Str)(a:Nat):(Txt.slice x none (some (a:Int))).length=min a x.length:=by
 unfold Txt.slice
 rw[zaae]
 split
 ·rename_i h
  rw[qk,beq_iff_eq,beq_iff_eq,qD,qX]at h
  omega
 ·show(List.filterMap _ _).toArray.size=_
  rw[qG,zaad x 0 (min a x.length) (by omega)];omega
theorem zaml{x:Str}(h:Wd x):Wd (Txt.slice (x++"a") none (some 8)):=by
 have l1:("a":Str).length=1:=rfl
 have e:=zaaf (x++"a") 8
 have e:(Txt.slice (x++"a") none (some 8)).length=min 8 (x++"a").length:=e
 rw[zzo,l1]at e
 have:=h.lo
 exact⟨by omega,by omega,(h.low.app (zom (by decide +kernel))).slice _ _⟩
theorem zaie{α:Type}(xs:List α)(v u:α):atI (xs++[v]++[u]) (-2)=some v:=by
 have hl:(xs++[v]++[u]).length=xs.length+2:=by simp
 have e:ixN (xs++[v]++[u]).length (-2)=some xs.length:=by
  rw[hl]
  unfold ixN
  rw[if_neg (by decide),if_pos (by omega)]
  congr 1
  omega
 unfold atI
 rw[e,qj,qAK (by simp),qp (qJ _)]
 simp
theorem zqa{A B:List Str}(h:A.length+B.length<=1000):addD (zam A) (zam B)=some (zam (A++B),true):=by
 unfold zam addD
 dsimp only
 rw[if_pos (by rw[qD,qD];omega),qAD]
noncomputable abbrev aE(W:List Kd)(ds:List Dd)(v4 v5 v6 v7:Sl):DEnv:=[.no,.pl (pgD W ds),.pl (.list (W.map kdD)),.pl (.list (ds.map ddD)),v4,v5,v6,v7]
theorem zaag{W:List Kd}{ds:List Dd}(h:PgOk W ds)(hW:1<=W.length):DrG 20 zee [pgD W ds] λd fr=>fr=true/\∃l:List Str,d=.list (l.map .str)/\(∀x∈l,Wd x)/\l.length<=12:=by
 have wl:=h.wl
 have dl:=h.dl
 refine DrS.fn (env:=[.no,.pl (pgD W ds),.no,.no,.no,.no,.no,.no]) rfl ?_
 refine DrS.seq (c1:=0) (c2:=20) (N1:=λe=>e=aE W ds .no .no .no .no) (DrS.asg (Dr.pure rfl ⟨_,rfl,rfl⟩)) ?_
 rintro e rfl
 have nw:∀x∈W.map (·.1),Wd x:=λx hx=>by obtain⟨y,hy,rfl⟩:=qg.mp hx;exact(h.w y hy).n
 have nd:∀x∈ds.map (λd:Dd=>d.n),Wd x:=λx hx=>by obtain⟨y,hy,rfl⟩:=qg.mp hx;exact(h.d y hy).n
 refine DrS.seq (c1:=0) (c2:=20) (N1:=λe=>∃L:List Str,(∀x∈L,Wd x)/\1<=L.length/\L.length<=14/\e=aE W ds (.ac (zam L)) .no .no .no) ?_ ?_
 ·refine DrS.set (Dr.pure (r:=⟨zam (W.map (·.1)++ds.map (λd:Dd=>d.n)),true,[]⟩) ?_ ⟨W.map (·.1)++ds.map (λd:Dd=>d.n),λx hx=>?_,?_,?_,rfl⟩)
  ·exact zhh (x:=⟨zam (W.map (·.1)),true,[]⟩) (y:=⟨zam (ds.map (λd:Dd=>d.n)),true,[]⟩) (zsf (.inr rfl) (by omega)) (zgt (enc:=ddD) (nm:=λd:Dd=>d.n) (rest:=λd=>[.int d.p,.list (d.rs.map rlD)]) (λr=>rfl) (.inr rfl) (by omega)) (zqa (by rw[qD,qD];omega))
  ·rcases qb.mp hx with hx|hx
   ·exact nw x hx
   ·exact nd x hx
  ·rw[qF,qD,qD];omega
  ·rw[qF,qD,qD];omega
 rintro e ⟨L,hL,l1,l14,rfl⟩
 refine DrS.seq (c1:=0) (c2:=20) (N1:=λe=>∃(L:List Str)(v5 v6 v7:Sl),(∀x∈L,Wd x)/\1<=L.length/\L.length<=62/\e=aE W ds (.ac (zam L)) v5 v6 v7) ?_ ?_
 ·refine DrS.mono (DrS.for (c:=0) (enc:=ddD) (l:=ds) (bs:=[]) rfl (λpre e=>∃(L:List Str)(v5 v6 v7:Sl),(∀x∈L,Wd x)/\1<=L.length/\L.length<=14+12 * pre.length/\e=aE W ds (.ac (zam L)) v5 v6 v7) ⟨L,_,_,_,hL,l1,by simp;omega,rfl⟩ ?_ ?_) (by omega)
  ·rintro pre d post e hp ⟨L,v5,v6,v7,hL,l1,ll,rfl⟩
   have hm:d∈ds:=by rw[<- hp];simp
   have hd:=h.d d hm
   have rl:=hd.rl
   have pl:pre.length<ds.length:=by rw[<- hp];simp
   refine⟨aE W ds (.ac (zam L)) (.pl (.str d.n)) (.pl (.int d.p)) (.pl (.list (d.rs.map rlD))),rfl,?_⟩
   refine DrS.set (Dr.pure (r:=⟨zam (L++d.rs.map (λr:Rl=>r.n)),true,[4]⟩) ?_ ⟨L++d.rs.map (λr:Rl=>r.n),_,_,_,λx hx=>?_,?_,?_,rfl⟩)
   ·exact zhh (x:=⟨zam L,false,[4]⟩) (y:=⟨zam (d.rs.map (λr:Rl=>r.n)),true,[]⟩) rfl (zgt (enc:=rlD) (nm:=λr:Rl=>r.n) (rest:=λr=>[.tuple (r.ks.map .str),.list (r.ss.map stpD)]) (λr=>rfl) (.inr rfl) (by omega)) (zqa (by rw[qD];omega))
   ·rcases qb.mp hx with hx|hx
    ·exact hL x hx
    ·obtain⟨y,hy,rfl⟩:=qg.mp hx;exact(hd.rs y hy).n
   ·rw[qF];omega
   ·rw[qF,qD,qF,qAO];omega
  ·rintro e ⟨L,v5,v6,v7,hL,l1,ll,rfl⟩
   exact⟨L,v5,v6,v7,hL,l1,by omega,rfl⟩
 rintro e ⟨L,v5,v6,v7,hL,l1,ll,rfl⟩
 refine DrS.seq (c1:=7) (c2:=13) (N1:=λe=>∃w:Str,Wd w/\e=aE W ds (.ac (zam (L++[w]))) v5 v6 v7) (DrS.app (ds:=L.map .str) rfl (by rw[qD];omega) ((ztw (A:=ds.map (λd:Dd=>d.n)) (Dr.pure (zgt (enc:=ddD) (nm:=λd:Dd=>d.n) (rest:=λd=>[.int d.p,.list (d.rs.map rlD)]) (λr=>rfl) (.inr rfl) (by omega)) rfl) nd).imp ?_)) ?_
 ·rintro r ⟨w,rfl,hw⟩
  exact⟨by show(4:Nat)∉([]:List Nat);simp,w,hw,by rw[zuv];rfl⟩
 rintro e ⟨w,hw,rfl⟩
 obtain⟨L',y,rfl⟩:∃L' y,L=L'++[y]:=by
  rcases List.eq_nil_or_concat L with z|⟨L',y,z⟩
  ·rw[z]at l1;simp at l1
  ·exact⟨L',y,by rw[z];simp⟩
 have hy:Wd y:=hL y (by simp)
 have y8:=hy.hi
 have a1:("a":Str).length=1:=rfl
 refine DrS.seq (c1:=0) (c2:=13) (N1:=λe=>∃u:Str,Wd u/\e=aE W ds (.ac (zam (L'++[y]++[w]++[u]))) v5 v6 v7) (DrS.app (ds:=(L'++[y]++[w]).map .str) rfl (by rw[qD,qF,qAO];omega) (Dr.pure (r:=vs (Txt.slice (y++"a") none (some 8))) ?_ ⟨by simp,_,zaml hy,by rw[zuv (L'++[y]++[w])];rfl⟩)) ?_
 ·have ei:eIxV 4 (eNeg (eC (.int 2))) (aE W ds (.ac (zam (L'++[y]++[w]))) v5 v6 v7)=some (vs y):=by
   show((atI ((L'++[y]++[w]).map PyData.str) (-2)).map _)=_
   rw[ztg,zaie];rfl
  exact zann (x:=y++"a") (lo:=none) (hi:=some 8) (zala ei rfl (by rw[a1];omega)) rfl rfl (by rw[zzo,a1];omega)
 rintro e ⟨u,hu,rfl⟩
 refine DrS.ret (Dr.mono (Dr.call (c1:=0) (c2:=12) (PA:=λrs=>rs=[⟨zam (L'++[y]++[w]++[u]),false,[4]⟩,vi 12]) (DrA.cons (c1:=0) (c2:=0) (P1:=λr=>r=⟨zam (L'++[y]++[w]++[u]),false,[4]⟩) (P2:=λrs=>rs=[vi 12]) (Dr.pure rfl rfl) (DrA.one (Dr.pure rfl rfl)) λx xs e1 e2=>by rw[e1,e2]) ?_) (by decide))
 rintro rs rfl
 refine⟨rfl,λn st hb=>?_⟩
 obtain⟨d,fr,st',e,⟨h2,l',h3,h4,h5⟩,b⟩:=zzq (enc:=PyData.str) (L'++[y]++[w]++[u]) (m:=12) (C:=12) (by decide) (by decide) (by rw[qF,qF,qAO,qAO];omega) (by decide) n st hb
 refine⟨d,fr,st',e,⟨h2,l',h3,λx hx=>?_,h5⟩,b⟩
 have:=h4 x hx
 rcases qb.mp this with z|z
 ·rcases qb.mp z with z|z
  ·exact hL x z
  ·rw[qc.mp z];exact hw
 ·rw[qc.mp z];exact hu
theorem zamm(x:Str):neD (.str x) (.str x)=some (.bool false,false):=by
 show some (PyData.bool (!PyData.eqv (.str x) (.str x)),false)=_
 simp[qAY]
theorem zuz{e:DEnv}{i j:Nat}{d:PyData}{s:Str}(h1:e[i]?=some (.pl d))(h2:e[j]?=some (.pl (.str s)))(hr:zfc [d]=some (.str s,false)):zdt (eOp neD (eCB zfc (zah (eVar i) aNil)) (eVar j)) e=some false:=by
 have v1:eVar i e=some ⟨d,false,[]⟩:=by unfold eVar;rw[h1]
 have v2:eVar j e=some (vs s):=by unfold eVar;rw[h2]
 exact zjl (zhh (x:=vs s) (y:=vs s) (znm (rs:=[⟨d,false,[]⟩]) (ziw v1) hr) v2 (zamm s))
theorem zaah{a b:TF}{e:DEnv}(h1:a e=some false)(h2:b e=some false):tOrF a b e=some false:=by unfold tOrF;rw[h1];exact h2
theorem nm60{W:List Kd}{ds:List Dd}{kept x:Str}(h:PgOk W ds)(hk:zfc [pgD W ds]=some (.str kept,false))(hx:Wd x):Nm60 zed zfw zama zamb (pgD W ds) kept x:=by
 have er:=zsh h hx
 have e0:ntD (znd W ds x)=zfx W ds x:=zaic W ds x
 refine⟨(zfx W ds x).shown,znd W ds x,false,zaid h hx,zacx h hx,?_,?_,?_,?_,?_,by rw[e0];exact er⟩
 ·unfold znd
  cases fd60 ds x with
  | none=>rfl
  | some d=>exact zahv W d
 ·rw[e0]
  unfold zfx
  cases hf:fd60 ds x with
  | none=>rfl
  | some d=>exact zahz h (zuy hf)
 ·rw[e0]
  unfold zfx
  cases hf:fd60 ds x with
  | none=>show 1+(1+0)+1<50000;decide
  | some d=>exact zahy h (zuy hf)
 ·rw[e0]
  exact zaah (zuz rfl rfl er) (zaah (zuz rfl rfl er) (zuz rfl rfl hk))
 ·exact zuz rfl rfl hk
theorem zva{α:Type}:∀l:List α,znt (l.map λ_=>PyData.bool true)=some (l.map λ_=>true)
 | []=>rfl
 | x::l=>by rw[ql];unfold znt;rw[zva l];rfl
theorem en60{hs:List (PyData×Str)}(hl:hs.length<=1000)(h:∀x∈hs,zfc [x.1]=some (.str x.2,false)):∃fr bs,fe60 (zrg hs)=some ⟨.bool true,fr,bs⟩:=by
 have cm:zii (gT 2 (zav 0 (zav 1 zdu))) zdl (eOp eqD (eCB zfc (zah (eVar 0) aNil)) (eVar 1)) (envB ["_law_told_here","_law_due_here"] [] (zrg hs)) (hs.map zzh)=some (hs.map λ_=>PyData.bool true):=
  zhs λx hx=>⟨[.pl x.1,.pl (.str x.2)],rfl,rfl,vb true,zhh (x:=vs x.2) (y:=vs x.2) (znm (rs:=[⟨x.1,false,[]⟩]) (ziw rfl) (h x hx)) rfl (zalz x.2),rfl⟩
 have ec:=zme (own:=["_law_told_here","_law_due_here"]) (fr:=[]) (fi:=zbq (eVar 6)) (env:=zrg hs) (ds:=hs.map zzh) (bs:=[]) rfl (by rw[qD];omega) cm
 refine⟨false,_,znm (ziw ec) ?_⟩
 show((znt (hs.map λ_=>PyData.bool true)).map _)=_
 rw[zva]
 show some (PyData.bool ((hs.map λ_=>true).all id),false)=_
 rw[show(hs.map λ_=>true).all id=true by rw[List.all_map];exact qAE.mpr λ_ _=>rfl]
theorem zne{c n:Nat}{a:SFr Pen3}{b:DEnv->Pen3->Prop}{env:DEnv}{N:DEnv->Prop}{st:Pen3}(h1:DrS c a env N (λ_ _=>False))(hb:PB (n+c) st)(h2:∀e st,N e->PB n st->b e st):lSeq a b env st:=by
 rcases h1 n st hb with⟨e,s,e1,p,b1⟩|⟨_,_,_,_,z,_⟩
 ·exact⟨e,s,e1,h2 e s p b1⟩
 ·exact z.elim
theorem zamn{i:Int}(h0:0<=i)(h1:i<6):∃z:Int,ixD (.list [.int 0,.int 1,.int 2,.int 2,.int 3,.int 4]) (.int i)=some (.int z,false)/\0<=z/\z<=4:=by
 rcases(show i=0\/i=1\/i=2\/i=3\/i=4\/i=5 by omega)with rfl|rfl|rfl|rfl|rfl|rfl
 ·exact⟨0,rfl,by decide,by decide⟩
 ·exact⟨1,rfl,by decide,by decide⟩
 ·exact⟨2,rfl,by decide,by decide⟩
 ·exact⟨2,rfl,by decide,by decide⟩
 ·exact⟨3,rfl,by decide,by decide⟩
 ·exact⟨4,rfl,by decide,by decide⟩
noncomputable abbrev mE(v2 v3 v4 v5 v6:Sl):DEnv:=[.no,.no,v2,v3,v4,v5,v6,.no,.no,.no,.no,.no]
theorem zacy(ns:List Int):znb (List.replicate 12 .no) ⟨ns,0,0⟩:=by
 refine zne (c:=1) (n:=16000) (N:=λe=>∃d:Int,0<=d/\d<=4/\e=mE (.pl (.int d)) .no .no .no .no) (DrS.set (Dr.op (c1:=0) (c2:=1) (P1:=λr=>r=⟨.list [.int 0,.int 1,.int 2,.int 2,.int 3,.int 4],true,[]⟩) (Dr.pure rfl rfl) (zbz (k:=6) (by decide) (by decide)) ?_)) ⟨by show(0:Int)<=0;decide,by show(0:Int)+((16000+1:Nat):Int)<=1000000;decide⟩ ?_
 ·rintro a b rfl ⟨i,rfl,h0,h1⟩
  obtain⟨z,ez,hz⟩:=zamn h0 h1
  exact⟨_,_,ez,z,hz.1,hz.2,rfl⟩
 rintro e st ⟨d,d0,d1,rfl⟩ hb
 refine zne (c:=1) (n:=15999) (N:=λe=>∃k:Int,1<=k/\k<=6/\e=mE (.pl (.int d)) (.pl (.int k)) .no .no .no) (DrS.set (Dr.op (c1:=0) (c2:=1) (P1:=λr=>r=vi 1) (Dr.pure rfl rfl) (zbz (k:=6) (by decide) (by decide)) ?_)) hb ?_
 ·rintro a b rfl ⟨i,rfl,h0,h1⟩
  exact⟨.int (1+i),false,rfl,1+i,by omega,by omega,rfl⟩
 rintro e st ⟨k,k0,k1,rfl⟩ hb
 refine zne (c:=15002) (n:=900) (N:=λe=>∃W ds,PgOk W ds/\1<=W.length/\e=mE (.pl (.int d)) (.pl (.int k)) (.pl (pgD W ds)) .no .no) (DrS.set (Dr.call (c1:=2) (c2:=15000) (PA:=λrs=>∃r s:Int,rs=[vi k,vi d,vi r,vi s]/\0<=r/\r<5/\0<=s/\s<3)
  (DrA.cons (c1:=0) (c2:=2) (P1:=λr=>r=vi k) (P2:=λrs=>∃r s:Int,rs=[vi d,vi r,vi s]/\0<=r/\r<5/\0<=s/\s<3) (Dr.pure rfl rfl) (DrA.cons (c1:=0) (c2:=2) (P1:=λr=>r=vi d) (P2:=λrs=>∃r s:Int,rs=[vi r,vi s]/\0<=r/\r<5/\0<=s/\s<3) (Dr.pure rfl rfl) (DrA.cons (c1:=1) (c2:=1) (P1:=λx=>∃r:Int,x=vi r/\0<=r/\r<5) (P2:=λrs=>∃s:Int,rs=[vi s]/\0<=s/\s<3) (zbz (k:=5) (by decide) (by decide)) (DrA.one ((zbz (k:=3) (by decide) (by decide)).imp ?_)) ?_) ?_) ?_) ?_)) (hb.mono (by decide)) ?_
 ·rintro x ⟨s,rfl,hs⟩;exact⟨s,rfl,hs⟩
 ·rintro x xs ⟨r,rfl,r0,r1⟩ ⟨s,rfl,s0,s1⟩;exact⟨r,s,rfl,r0,r1,s0,s1⟩
 ·rintro x xs rfl ⟨r,s,rfl,h⟩;exact⟨r,s,rfl,h⟩
 ·rintro x xs rfl ⟨r,s,rfl,h⟩;exact⟨r,s,rfl,h⟩
 ·rintro rs ⟨r,s,rfl,r0,r1,s0,s1⟩
  refine⟨rfl,λn st hb=>?_⟩
  obtain⟨x,fr,st',e,⟨h1,W,ds,h2,h3,h4⟩,b⟩:=zwr k0 (by omega) d0 d1 r0 (by omega) s0 (by omega) n st hb
  exact⟨x,fr,st',e,⟨W,ds,h3,by omega,by rw[h1,h2];rfl⟩,b⟩
 rintro e st ⟨W,ds,h,hW,rfl⟩ hb
 obtain⟨kept,hk⟩:=zahs h
 refine zne (c:=0) (n:=900) (N:=λe=>e=mE (.pl (.int d)) (.pl (.int k)) (.pl (pgD W ds)) (.pl (.str kept)) .no) (DrS.set (Dr.pure (r:=vs kept) (znm (rs:=[⟨pgD W ds,false,[]⟩]) (ziw rfl) hk) rfl)) hb ?_
 rintro e st rfl hb
 refine zne (c:=0) (n:=900) (N:=λe=>e=mE (.pl (.int d)) (.pl (.int k)) (.pl (pgD W ds)) (.pl (.str kept)) (.ac (.list []))) (DrS.set (Dr.pure rfl rfl)) hb ?_
 rintro e st rfl hb
 have dl:=h.dl
 have nd:∀x∈ds.map (λd:Dd=>d.n),Wd x:=λx hx=>by obtain⟨y,hy,rfl⟩:=qg.mp hx;exact(h.d y hy).n
 have dc:zhj ["_law_deed"] [] (zbq (eIxV 4 (eC (.int 1)))) (gN 0) zdl (eIxV 0 (eC (.int 0))) (mE (.pl (.int d)) (.pl (.int k)) (.pl (pgD W ds)) (.pl (.str kept)) (.ac (.list [])))=some ⟨zam (ds.map (λd:Dd=>d.n)),true,[]⟩:=by
  have cm:zii (gN 0) zdl (eIxV 0 (eC (.int 0))) (envB ["_law_deed"] [] (mE (.pl (.int d)) (.pl (.int k)) (.pl (pgD W ds)) (.pl (.str kept)) (.ac (.list [])))) (ds.map ddD)=some (ds.map λd:Dd=>PyData.str d.n):=
   zhs λx hx=>⟨[.pl (ddD x)],rfl,rfl,vs x.n,rfl,rfl⟩
  have e:=zme (own:=["_law_deed"]) (fr:=[]) (fi:=zbq (eIxV 4 (eC (.int 1)))) (ds:=ds.map ddD) (bs:=[]) rfl (by rw[qD];omega) cm
  have e2:(ds.map λd:Dd=>PyData.str d.n)=(ds.map (λd:Dd=>d.n)).map .str:=by rw[qAR];rfl
  rw[e2,zju]at e
  exact e
 have ask:Dr 20 zaee (mE (.pl (.int d)) (.pl (.int k)) (.pl (pgD W ds)) (.pl (.str kept)) (.ac (.list []))) λr=>∃l:List Str,r.d=.list (l.map .str)/\r.fr=true/\(∀x∈l,Wd x)/\l.length<=16:=by
  refine Dr.op (c1:=20) (c2:=0) (P1:=λr=>∃l:List Str,r.d=zam l/\(∀x∈l,Wd x)/\l.length<=12) (P2:=λr=>r=⟨zam (ds.map (λd:Dd=>d.n)),true,[]⟩) (Dr.call (c1:=0) (c2:=20) (PA:=λrs=>rs=[⟨pgD W ds,false,[]⟩]) (DrA.one (Dr.pure rfl rfl)) ?_) (Dr.pure dc rfl) ?_
  ·rintro rs rfl
   refine⟨rfl,λn st hb=>?_⟩
   obtain⟨x,fr,st',e,⟨h1,l,h2,h3,h4⟩,b⟩:=zaag h hW n st hb
   exact⟨x,fr,st',e,⟨l,h2,h3,h4⟩,b⟩
  ·rintro a b ⟨l,el,hl,ll⟩ rfl
   refine⟨zam (l++ds.map (λd:Dd=>d.n)),true,?_,_,rfl,rfl,λx hx=>?_,?_⟩
   ·rw[el]
    exact zqa (by rw[qD];omega)
   ·rcases qb.mp hx with hx|hx
    ·exact hl x hx
    ·exact nd x hx
   ·rw[qF,qD];omega
 obtain⟨r,st',er,⟨l,h1,h2,h3,h4⟩,_⟩:=ask 800 st (hb.mono (by decide))
 exact⟨pgD W ds,kept,l,r,st',rfl,rfl,rfl,rfl,er,h1,h2,zaoc h,zaob h,by omega,λx hx=>nm60 h hk (h3 x hx),λhs hhs hp=>en60 (by omega) hp⟩
theorem all_mk{l:PySem.W.OpenLaw}{w:World}{K:qC}{h:Heap}{mg:Str->Option Value}{fa f1 f2 f3 f4 f5 f6 f7 f8 f9 f10 f11 f12 f13 f14 f15 f16 f17:Addr}{e1 e2 e3 e4 e5 e6 e7 e8 e9 e10 e11 e12 e13 e14 e15 e16 e17:qq}(X:K.In h)(G:h.Ns qm mg)(hfa:mg "law"=some (.ref fa))
  (d1:DefIn K "copy_of_web" zfh f1 e1)
  (d2:DefIn K "deed_in" zmg f2 e2)
  (d3:DefIn K "book_in" zmh f3 e3)
  (d4:DefIn K "_law_pen" zmi f4 e4)
  (d5:DefIn K "_law_take" zkd f5 e5)
  (d6:DefIn K "_law_word" zke f6 e6)
  (d7:DefIn K "_law_some" zkf f7 e7)
  (d8:DefIn K "_law_web" zmj f8 e8)
  (d9:DefIn K "_law_figure" zhv f9 e9)
  (d10:DefIn K "_law_step" zkg f10 e10)
  (d11:DefIn K "_law_rules" zix f11 e11)
  (d12:DefIn K "_law_program" zhb f12 e12)
  (d13:DefIn K "_law_lists" ziy f13 e13)
  (d14:DefIn K "_law_told" zkh f14 e14)
  (d15:DefIn K "_law_due" zmm f15 e15)
  (d16:DefIn K "_law_asked" ziz f16 e16)
  (d17:DefIn K "law" zwj f17 e17)
  {y0 y1 y2 y3 y4 y5 y6 y7 y8 y9 y10 fI:Addr}{eI:qq}
  (xa0:ClsIn K "NoDeed" y0)
  (xa1:ClsIn K "NoBook" y1)
  (xa2:ClsIn K "NoCall" y2)
  (xa3:ClsIn K "NoKind" y3)
  (xa4:ClsIn K "NoName" y4)
  (xa5:ClsIn K "NoProgram" y5)
  (xa6:ClsIn K "NoRow" y6)
  (xa7:ClsIn K "NoRule" y7)
  (xa8:ClsIn K "NoStep" y8)
  (xa9:ClsIn K "NoWeb" y9)
  (xa10:ClsIn K "CallError" y10)
  (xz:qAM K qm "ValueError"=some none)
  (x0:XIn K y0 fI)
  (xF:Fun K "__init__" "CallError.__init__" (zaew (top 1) 0) fI eI)
  (xs0_B:PySem.W.subIn K (.ref y0) (.ref y10)=some true)
  (xs0_1:PySem.W.subIn K (.ref y0) (.ref y1)=some false)
  (xs0_2:PySem.W.subIn K (.ref y0) (.ref y2)=some false)
  (xs0_3:PySem.W.subIn K (.ref y0) (.ref y3)=some false)
  (xs0_4:PySem.W.subIn K (.ref y0) (.ref y4)=some false)
  (xs0_5:PySem.W.subIn K (.ref y0) (.ref y5)=some false)
  (xs0_6:PySem.W.subIn K (.ref y0) (.ref y6)=some false)
  (xs0_7:PySem.W.subIn K (.ref y0) (.ref y7)=some false)
  (xs0_8:PySem.W.subIn K (.ref y0) (.ref y8)=some false)
  (xs0_9:PySem.W.subIn K (.ref y0) (.ref y9)=some false)
  (xBb:PySem.W.subIn K (.ref y10) (.type "BaseException")=some true)
  (z1:qAM K qm "abs"=some none)(z2:qAM K qm "all"=some none)(z3:qAM K qm "int"=some none)(z4:qAM K qm "isinstance"=some none)(z5:qAM K qm "len"=some none)(z6:qAM K qm "list"=some none)(z7:qAM K qm "min"=some none)(z8:qAM K qm "range"=some none)(z9:qAM K qm "repr"=some none)(z10:qAM K qm "tuple"=some none) :
  ∃fd:qq,(∀(s:Shared)(v:Value),BindsTo s fd ⟨[v],[]⟩ [("_law_script",v)])/\∀base:Heap,K.In base->base.Ns qm mg->FnOk l.prog w K mg base CX0 6 fa fd ["_law_script"] (zacu K):=by
 have e:=hfa.symm.trans (qy X G d17.ns)
 cases e
 have T:Txt mg:=⟨qz X G z1,qz X G z2,qz X G z3,qz X G z4,qz X G z5,qz X G z6,qz X G z7,qz X G z8,qz X G z9,qz X G z10⟩
 obtain⟨_,_,q1,q2,q3,q4,q5,q6,_,rfl,_,_⟩:=d17.fn.ex
 refine⟨qAB "law" "law" (zdn zwj) (zcs zwj) (zap zwj) .none q1 q2 q3 q4 q5 q6,λs v=>.of_eq rfl,λbase _ _=>?_⟩
 have xv:=qz X G xz
 obtain⟨cl,cl0,cl1,cl2,cl3,cl4,cl5,cl6,cl7,cl8,cl9,cl10⟩:∃cl:Str->Addr,cl "NoDeed"=y0/\cl "NoBook"=y1/\cl "NoCall"=y2/\cl "NoKind"=y3/\cl "NoName"=y4/\cl "NoProgram"=y5/\cl "NoRow"=y6/\cl "NoRule"=y7/\cl "NoStep"=y8/\cl "NoWeb"=y9/\cl "CallError"=y10:=⟨λs=>if s="NoDeed"then y0 else if s="NoBook"then y1 else if s="NoCall"then y2 else if s="NoKind"then y3 else if s="NoName"then y4 else if s="NoProgram"then y5 else if s="NoRow"then y6 else if s="NoRule"then y7 else if s="NoStep"then y8 else if s="NoWeb"then y9 else if s="CallError"then y10 else 0,rfl,rfl,rfl,rfl,rfl,rfl,rfl,rfl,rfl,rfl,rfl⟩
 have X_NoDeed:XcOk l.prog w K mg base "NoDeed" (cl "NoDeed"):=by rw[cl0];exact⟨fI,_,x0.mx,zagg xF x0.mx xv rfl rfl (by decide) (λ_=>⟨_,rfl⟩),xF.binds (ps:=["self","at"]) (λ_ _ _ _ _ _ us hl=>match us,hl with|[_,_],_=>rfl),qy X G xa0.ns,x0.cl,zakq x0.be xa0.cl xa0.ty x0.se⟩
 have XK_law_told:XKit l.prog w K mg base cl ["NoDeed"] ["NoBook","NoCall","NoKind","NoName","NoProgram","NoRow","NoRule","NoStep","NoWeb","NoDeed"] "CallError":=by
  refine⟨(zbo X_NoDeed zny),?_,?_,?_,?_,?_,xv⟩
  ·rw[cl10];exact(zbo (by rw[cl0];exact zakr xBb xa10.cl xa10.ty xs0_B) zny)
  ·exact(zbo (zbo (by rw[cl0,cl1];exact kd_f (zjj x0.se xa1.cl xa1.ty xs0_1) (by decide)) (zbo (by rw[cl0,cl2];exact kd_f (zjj x0.se xa2.cl xa2.ty xs0_2) (by decide)) (zbo (by rw[cl0,cl3];exact kd_f (zjj x0.se xa3.cl xa3.ty xs0_3) (by decide)) (zbo (by rw[cl0,cl4];exact kd_f (zjj x0.se xa4.cl xa4.ty xs0_4) (by decide)) (zbo (by rw[cl0,cl5];exact kd_f (zjj x0.se xa5.cl xa5.ty xs0_5) (by decide)) (zbo (by rw[cl0,cl6];exact kd_f (zjj x0.se xa6.cl xa6.ty xs0_6) (by decide)) (zbo (by rw[cl0,cl7];exact kd_f (zjj x0.se xa7.cl xa7.ty xs0_7) (by decide)) (zbo (by rw[cl0,cl8];exact kd_f (zjj x0.se xa8.cl xa8.ty xs0_8) (by decide)) (zbo (by rw[cl0,cl9];exact kd_f (zjj x0.se xa9.cl xa9.ty xs0_9) (by decide)) (zbo (by rw[cl0];exact kd_t (zako xa0.cl xa0.ty x0.se) rfl) zny)))))))))) zny)
  ·exact(zbo (by rw[cl0];exact zakp x0.ve) zny)
  ·exact(zbo (by rw[cl1];exact qy X G xa1.ns) (zbo (by rw[cl2];exact qy X G xa2.ns) (zbo (by rw[cl3];exact qy X G xa3.ns) (zbo (by rw[cl4];exact qy X G xa4.ns) (zbo (by rw[cl5];exact qy X G xa5.ns) (zbo (by rw[cl6];exact qy X G xa6.ns) (zbo (by rw[cl7];exact qy X G xa7.ns) (zbo (by rw[cl8];exact qy X G xa8.ns) (zbo (by rw[cl9];exact qy X G xa9.ns) (zbo (by rw[cl0];exact qy X G xa0.ns) zny))))))))))
  ·rw[cl10];exact qy X G xa10.ns
 have DT_copy_of_web:Dn l.prog w K mg base "copy_of_web" ["web"] 1 (spT 1 zfv):=d1.dn X G (zwo d1.fn T) (d1.b1 λ_ _ _ _ _ _ _=>rfl)
 have D_deed_in:zrr l.prog w K mg base cl:=d2.dx X G (zwk (cl:=cl) d2.fn T  X_NoDeed) (d2.b2 λ_ _ _ _ _ _ _ _=>rfl)
 have D_book_in:DnX l.prog w K mg base "book_in" ["program","deed"] 4 (spTX cl 2 zen):=d3.dx X G (zwp (cl:=cl) d3.fn T D_deed_in DT_copy_of_web) (d3.b2 λ_ _ _ _ _ _ _ _=>rfl)
 have D_law_pen:zrs l.prog w K mg base:=d4.dn X G (zwl d4.fn T ) (d4.b1 λ_ _ _ _ _ _ _=>rfl)
 have D_law_take:zds l.prog w K mg base:=d5.dn X G (zto d5.fn T ) (d5.b2 λ_ _ _ _ _ _ _ _=>rfl)
 have D_law_word:zgs l.prog w K mg base:=d6.dn X G (ztp d6.fn T D_law_take) (d6.b2 λ_ _ _ _ _ _ _ _=>rfl)
 have D_law_some:zig l.prog w K mg base:=d7.dn X G (ztq d7.fn T D_law_take) (d7.b3 λ_ _ _ _ _ _ _ _ _=>rfl)
 have D_law_web:zrt l.prog w K mg base:=d8.dn X G (zwm d8.fn T D_law_some D_law_take D_law_word) (d8.b2 λ_ _ _ _ _ _ _ _=>rfl)
 have D_law_figure:zkt l.prog w K mg base:=d9.dn X G (zpx d9.fn T D_law_take) (d9.b1 λ_ _ _ _ _ _ _=>rfl)
 have D_law_step:zol l.prog w K mg base:=d10.dn X G (ztr d10.fn T D_law_figure D_law_take) (d10.b4 λ_ _ _ _ _ _ _ _ _ _=>rfl)
 have D_law_rules:zmt l.prog w K mg base:=d11.dn X G (zrv d11.fn T D_law_some D_law_step D_law_word) (d11.b6 λ_ _ _ _ _ _ _ _ _ _ _ _=>rfl)
 have D_law_program:zjr l.prog w K mg base:=d12.dn X G (znl d12.fn T D_law_rules D_law_take D_law_web D_law_word) (d12.b5 λ_ _ _ _ _ _ _ _ _ _ _=>rfl)
 have D_law_lists:Dn l.prog w K mg base "_law_lists" ["_law_thing"] 1 spLs:=d13.dn X G (zrx d13.fn T) (d13.b1 λ_ _ _ _ _ _ _=>rfl)
 have D_law_told:Dn l.prog w K mg base "_law_told" ["_law_program_here","_law_name"] 5 (spT 2 zfw):=d14.dn X G (zts (cl:=cl) d14.fn T D_book_in XK_law_told) (d14.b2 λ_ _ _ _ _ _ _ _=>rfl)
 have D_law_due:zru l.prog w K mg base:=d15.dn X G (zwn d15.fn T ) (d15.b2 λ_ _ _ _ _ _ _ _=>rfl)
 have D_law_asked:zmu l.prog w K mg base:=d16.dn X G (zrw d16.fn T D_law_some D_law_word) (d16.b2 λ_ _ _ _ _ _ _ _=>rfl)
 exact zamc d17.fn T zacy D_law_asked D_law_due D_law_lists D_law_pen D_law_program D_law_take D_law_told
theorem walk{l:PySem.W.OpenLaw}{q:Program}{loose:List Str}{XP:(Str->Option Value)->Heap->Prop}{YP:World->Heap->Prop}{d:DefRec}{K:Params->qC}(hn:l.most=some 63)(hdf:d.params.defaults=[])
  (hY:∀(w:World) (h:Heap),YP w h->(K w.params).In h)
  (F:∀(w:World)(mg:Str->Option Value)(fa:Addr)(h:Heap),(K w.params).In h->h.Ns qm mg->mg d.name=some (.ref fa)->
   ∃fd:qq,(∀(s:Shared)(u:Value),BindsTo s fd ⟨[u],[]⟩ [("_law_script",u)])/\∀base:Heap,(K w.params).In base->base.Ns qm mg->FnOk l.prog w (K w.params) mg base CX0 6 fa fd ["_law_script"] (zacu (K w.params))) :
  PySem.W.WalkO q loose XP YP l.row.toRowW d [] (λf vs=>PySem.call f vs):=
 L2.walk_of (n:=63) (k:=6) (x:="_law_script") (CX:=λ_=>CX0) (sp:=λw=>zacu (K w.params)) hn (by decide) hdf ⟨rfl,by decide,by decide,rfl⟩ hY F (λ_ _ a ns hl _ hS=>⟨a,ns,rfl,hS,λ_=>rfl⟩) λ_ _ _ _ _ z=>z
end Bc
theorem PySem.W.Fast.tw15117264494966940370:True:=trivial
theorem PySem.W.Fast.tw17875080983780850957:True:=trivial
theorem PySem.W.Fast.tw7907678311174783158:True:=trivial
theorem PySem.W.Fast.tw600699874818451139:True:=trivial
theorem PySem.W.Fast.tw14882053880056814001:True:=trivial
theorem PySem.W.Fast.tw14253498634462454478:True:=trivial
theorem PySem.W.Fast.tw17998870229771637354:True:=trivial
theorem PySem.W.Fast.tw7465371687856586328:True:=trivial
theorem PySem.W.Fast.tw16395221867047280321:True:=trivial
theorem PySem.W.Fast.tw7731214168016099507:True:=trivial
open PySem PySem.W PyProof.Rows
set_option maxRecDepth 100000 in
set_option maxHeartbeats 0 in
theorem PySem.Challenge.cw_bestcalls_k60_books_of_deeds_holds : PySem.Challenge.rw_bestcalls_k60_books_of_deeds.Holds := by
 w_on;o_law;k_head;(case hw=>w_witness2)
 k_fill
 refine Bc.walk (l:=PySem.Challenge.rw_bestcalls_k60_books_of_deeds) rfl rfl (λw h Y=>PySem.W.kIn_of Y) ?F
 case F=>
  intro w mg fa h KX G hmg
  refine' Bc.all_mk KX G hmg ?_ ?_ ?_ ?_ ?_ ?_ ?_ ?_ ?_ ?_ ?_ ?_ ?_ ?_ ?_ ?_ ?_ ?_ ?_ ?_ ?_ ?_ ?_ ?_ ?_ ?_ ?_ ?_ ?_ ?_ ?_ ?_ ?_ ?_ ?_ ?_ ?_ ?_ ?_ ?_ ?_ ?_ ?_ ?_ ?_ ?_ ?_ ?_ ?_ ?_ ?_ ?_
  any_goals (first|refine' L2.def_mk ?_ ?_ ?_ ?_|refine' L2.cls_mk ?_ ?_ ?_|refine' L2.xin_mk ?_ ?_ ?_ ?_ ?_ ?_ ?_ ?_ ?_ ?_ ?_ ?_ ?_|refine' L2.init_mk ?_ ?_ ?_)
  any_goals (first|k_is|rfl)
