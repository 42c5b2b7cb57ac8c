import PyProof.Rows.All
import KE.KLam
import Wide.All
import OpenK.AllK
import Wide.FinOn
import Lean
import PyProof.EqAt
import PyProof.EqKinds
import PyProof.TupleCall
import KE.KTryOn
import PyProof.ExcInit
import PyProof.ExcClass3
import PyProof.ExcBaseAll.ValueError
import PyProof.InstStoreFacts
import ObjForm.Fk.InstStore
import PyProof.ExcArgsOwn
import PyProof.ExcAttrAll.ValueError
import PyProof.PureStr
import PyProof.FString2
import PyProof.Rows.FactsFmt
import PyProof.FactsAll.NoneType_2
import PyProof.NsDelKeeps
import PyProof.IsiBase
import KE.KRevSl
import PyProof.DictWalks
import PyProof.AutoListH
import PyProof.AutoSeq1
import PyProof.MeetsStr
import PyProof.Rows.MinMaxN
import PySem.Challenge.RW_bestcalls_k15_answers
set_option genSizeOf false
set_option Elab.async false
set_option linter.all false
set_option maxRecDepth 100000
noncomputable section
open Option renaming bind_eq_some_iff→qA,bind_some→qE,map_eq_some_iff→qG,map_some→qAs,isSome_some→qDQ,isSome_map→qDZ
open PySem.W renaming Frag→qB,mg_none_of→qAQ,nsIn→qAU,kia_one→qAZ,looks_findIn→qAc,fnOf→qAd,mg_of→qAh,keepIn→qAx,cellsFrom_some→qBI,codeRec_of→qBu,codeIn→qBy,callWith_K→qCL,kitx_list→qDO,kitx_dict→qDP
open List renaming length_map→qC,getElem?_eq_getElem→qH,mem_cons_of_mem→qK,size_toArray→qM,getElem?_map→qN,length_append→qO,map_cons→qR,getElem?_eq_some_iff→qS,mem_cons→qZ,getElem?_set_ne→qa,mem_cons_self→qb,mem_append_right→qc,length_set→qd,length_drop→qj,getElem?_set_self→qm,mem_append→qu,append_nil→qw,length_cons→qy,mem_append_left→q9,getElem?_append_right→qAB,getD_eq_getElem?_getD→qAC,mem_singleton→qAD,getElem?_append_left→qAE,map_append→qAJ,getElem?_cons_zero→qAK,getElem?_cons_succ→qAL,lookup_cons→qAM,getElem_mem→qAN,mem_of_mem_drop→qAR,contains_cons→qAS,length_replicate→qAT,length_take→qAV,mem_map→qAa,mem_of_getElem?→qAe,mem_range→qAi,mem_filter→qAj,all_eq_true→qAk,drop_eq_getElem_cons→qAt,take_append_of_le_length→qAv,not_mem_nil→qAw,mem_of_mem_take→qAy,all_cons→qA0,nodup_append→qA3,of_mem_zip→qA4,find?_cons→qA5,mem_flatMap→qA8,any_eq_true→qA9,append_assoc→qBC,getElem?_replicate→qBF,filterMap_cons→qBG,any_cons→qBH,drop_length→qBK,zip_cons_cons→qBL,nodup_cons→qBP,length_filter_le→qBQ,map_congr_left→qBX,map_map→qBa,eq_of_mem_replicate→qBb,set_cons_zero→qBe,set_cons_succ→qBf,mem_filterMap→qBg,map_drop→qBh,length_nil→qBi,foldl_cons→qBj,take_of_length_le→qBm,map_take→qBs,replicate_succ→qBv,getElem_of_mem→qBw,reverse_cons→qB7,foldl_append→qB8,length_eq_zero_iff→qCA,mem_nil_iff→qCB,filter_cons→qCC,map_nil→qCF,forIn_cons→qCG,any_map→qCH,nodup_nil→qCM,length_reverse→qCR,findSome?_cons→qCS,take_sublist→qCZ,zipIdx_cons→qCe,take_length→qCf,cons_append→qCg,length_eraseIdx_of_lt→qCu,pairwise_iff_getElem→qCz,range_succ_eq_map→qDH,length_pos_of_mem→qDI,getElem?_eq_none→qDL,range_eq_range'→qDS,getElem?_zipIdx→qDT,zipIdx_map_fst→qDa
open PySem renaming wpAny_bind→qD,wpAny_pure→qI,sizeLine→qU,wpAny_loadPart_at→qf,mainGlobals→qg,mem_of_lookup→qp,Expr→qz,starEach→qAP,wpAny_field→qAW,FuncData→qAb,wpAny_isSubtype_exc→qAn,wpAny_callSpecial?_slot→qAr,Pos→qAu,wpAny_pyIter_tuple→qAz,wpAny_pyIter_list→qA6,wpAny_newObj_type→qA7,wpAny_mono→qBB,wpAny_call_entry→qBN,wpAny_seqItems→qBO,wpAny_setField_rec→qBR,wpAny_Call_Name_kw→qBS,sizeLine_eq→qBT,wpAny_standAt→qBV,wpAny_newFunctionEnv_cells→qBW,codeAny_call_builtin→qBZ,wpAny_setField→qBd,codeAny_mono→qBl,wpAny_loadPart'→qBo,wpAny_holding→qBp,wpAny_getItem_str_slice→qBq,wpAny_truthy_bool→qBr,codeAny_call_function→qBt,wpAny_passesOwn→qB4,wpAny_execs_nil→qB5,wpAny_comprehension_free→qCE,wpAny_onRaise→qCI,wpAny_pyReprObj_gives→qCT,post_val_or_str→qCU,wpAny_call→qCV,wpAny_updateSeq_pair→qCY,tupleKind_room_in1→qCh,wpAny_rule→qCq,slot_list_getitem→qCr,wpAny_typeOf→qCw,codeAny_func→qCx,wpAny_execs_cons→qC3,noFill_tuple_add→qC4,seqIndex_of→qDF,wpAny_getItem_list_slice→qDW,call_meets→qDX
open PySem.Heap renaming get?_push_of_some→qF,lt_size→qJ,get?_push_size→qY,get?_update_other→qAX,get?_update_self→qAm,size_push→qA1,get?_none_of_le→qCK,get?_update_ne→qDb
open Nat renaming le_refl→qL,lt_of_lt_of_le→qe,ne_of_lt→qi,le_trans→qAI,zero_le→qAl,le_succ_of_le→qBD,lt_irrefl→qBJ,lt_of_le_of_lt→qBM,ne_of_gt→qBc,min_le_left→qBz,le_of_lt→qB3,le_add_right→qCD,le_of_succ_le→qCa,zero_add→qCd,le_of_not_lt→qCi,le_succ→qCt,not_lt→qDB,add_sub_cancel_left→qDG,lt_trans→qDR
open Bool renaming false_ne_true→qP,and_eq_true→qo,eq_iff_iff→qAo,or_true→qA2,or_eq_true_iff→qBY,false_eq_true→qB2,false_or→qCX,and_self→qDE
open PySem.F renaming plainAttrs_list→qQ,type_list_append→qV,slot_list_append→qW,slot_tuple_iterator_next→qBU,excBase_ValueError→qBx,args_tuple_add_2→qB1,entry_tuple_add→qB6,slot_tuple_add→qB9,typeOf_object_class→qCN,slot_zip_next→qCO,store_ValueError→qCc,type_dict_update→qCm,slot_dict_update→qCn,plainAttrs_dict→qCs,args_tuple_iterator_next_1→qC2,type_list_pop→qC7,slot_list_pop→qC8,entry_tuple_iterator_next→qDA,slot_gs_get→qDU
open Option.some renaming inj→qX
open PySem.PyData renaming depthAll→qh,canLayAll0→qAF,strOk→qAH,eqv→qAO
open PySem.PassesOwn renaming never→qk
open Int renaming emod_lt_of_pos→qr,emod_nonneg→qx,toNat_natCast→qBE,eq_ofNat_of_zero_le→qBk,ediv_nonneg→qB0,mul_nonneg→qC9
open PySem.SeqAt renaming shaped→qt,canLay_of_shaped→qAf,eqv_refl→qCl
open PySem.Str renaming ofString→qAA
open PySem.Builtin.SmallTypes renaming nextOf→qAG
open PyProof.Rows renaming slot_tuple_getitem→qAY,callWith_type1→qBn,Subscript_→qDY
open PySem.Obj renaming data_mapFields→qAg,isFreed_of_fields→qBA
open Ne renaming symm→qAp
open Array renaming getElem?_eq_some_iff→qAq,length_toList→qCP,mem_of_getElem?→qDJ,mem_toList_iff→qDN,toList_append→qDV
open Sum.inr renaming inj→qCJ
open PySem.Paired renaming length→qCQ
open PySem.Code renaming quiet_builtin→qCW
open List.Perm renaming refl→qCb,append_left→qCv
open PySem.Heap.IsSliceOf renaming new→qCj
open Classical renaming axiomOfChoice→qCk
open PySem.Heap.SameBut renaming update→qCo
open PySem.Calls renaming Name_function_global→qCp,callWith_builtin→qDD,evalArgs_plain→qDM,spliced_cons→qDc,Constant_str→qDd
open PySem.W.Looks renaming ld→qCy
open List.Sublist renaming refl→qC0
open PySem.Heap.IsTuple renaming push→qC1
open PySem.SeqAt.EqAt renaming str_int→qC5,int_str→qC6
open PySem.Heap.IsList renaming push→qDC
open PySem.Around renaming frames_deeper→qDK
open PySem.W (CodeHd FnAt envX exmOne findIn instObj isClsIn isFn kitAny kitCls kitOne kla_fn kla_obj lookIn methodObj noTabs plainGet subIn tabIn tabObj typeIn)
namespace L2
open PySem PySem.Spec PyProof.Rows
abbrev Key:=Sum Int Str
def zahi:Key->Value->Bool
 | .inl k,v=>Value.isInt k v
 | .inr x,v=>Value.isStrOf x v
def keyH(w:World):Key->Int
 | .inl k=>hashInt k
 | .inr x=>hashStr w x
theorem zdw:∀{k:Key}{v:Value},zahi k v=true->(∃i t,k=Sum.inl i/\v=Value.int i t)\/(∃x t,k=Sum.inr x/\v=Value.str x t)
 | .inl i,v,h=>by
  obtain⟨t,e⟩:=Value.isInt_shape (k:=i) (v:=v) h
  exact .inl ⟨i,t,rfl,e⟩
 | .inr x,v,h=>by
  obtain⟨t,e⟩:=Value.isStrOf_shape (x:=x) (v:=v) h
  exact .inr ⟨x,t,rfl,e⟩
theorem zaiv(i:Int)(t:Tok):zahi (.inl i) (.int i t)=true:=by simp[zahi,Value.isInt]
theorem zaiw(x:Str)(t:Tok):zahi (.inr x) (.str x t)=true:=by simp[zahi,Value.isStrOf]
theorem zaxf(a b:Int):decide ((Sum.inl a:Key)=Sum.inl b)=(a==b):=by
 by_cases e:a=b
 ·subst e;simp
 ·have h:¬(Sum.inl a:Key)=Sum.inl b:=λq=>e (Sum.inl.inj q)
  rw[decide_eq_false h]
  exact(beq_eq_false_iff_ne.mpr e).symm
theorem zaxg(a b:Str):decide ((Sum.inr a:Key)=Sum.inr b)=decide (a=b):=by
 by_cases e:a=b
 ·subst e;simp
 ·have h:¬(Sum.inr a:Key)=Sum.inr b:=λq=>e (qCJ q)
  rw[decide_eq_false h,decide_eq_false e]
theorem zaxh(a:Int)(b:Str):decide ((Sum.inl a:Key)=Sum.inr b)=false:=decide_eq_false (λq=>nomatch q)
theorem zaxi(a:Str)(b:Int):decide ((Sum.inr a:Key)=Sum.inl b)=false:=decide_eq_false (λq=>nomatch q)
def zej(prog:Program)(w:World):PySem.KeyKind prog w Key where
 is:=zahi
 hash:=keyH w
 inj:=λv a b ha hb=>by
  rcases zdw ha with⟨i,t,rfl,rfl⟩|⟨x,t,rfl,rfl⟩
  ·rcases zdw hb with⟨j,u,rfl,e⟩|⟨y,u,rfl,e⟩
   ·injection e with e1 _;rw[e1]
   ·exact nomatch e
  ·rcases zdw hb with⟨j,u,rfl,e⟩|⟨y,u,rfl,e⟩
   ·exact nomatch e
   ·injection e with e1 _;rw[e1]
 byValue:=λk v h=>by
  rcases zdw h with⟨i,t,rfl,rfl⟩|⟨x,t,rfl,rfl⟩<;>rfl
 pyHash:=λhv h=>by
  rcases zdw hv with⟨i,t,rfl,rfl⟩|⟨x,t,rfl,rfl⟩
  ·exact wpAny_pyHash_int h
  ·exact wpAny_pyHash_str h
 eqBool:=λhu hv h=>by
  rcases zdw hu with⟨i,t,rfl,rfl⟩|⟨x,t,rfl,rfl⟩
  ·rcases zdw hv with⟨j,u,rfl,rfl⟩|⟨y,u,rfl,rfl⟩
   ·rw[zaxf]at h;exact wpAny_eqBool_int h
   ·rw[zaxh]at h;exact qC6 i t y u _ _ _ _ h
  ·rcases zdw hv with⟨j,u,rfl,rfl⟩|⟨y,u,rfl,rfl⟩
   ·rw[zaxi]at h;exact qC5 x t j u _ _ _ _ h
   ·rw[zaxg]at h;exact wpAny_eqBool_str h
 «strs»:=λk x t v h=>by
  rcases zdw h with⟨i,u,rfl,e⟩|⟨y,u,rfl,e⟩
  ·exact nomatch e
  ·injection e with e1 _
   subst e1
   cases v<;>rfl
theorem zadi(prog:Program)(w:World)(i:Int)(t:Tok):(zej prog w).is (.inl i) (.int i t)=true:=zaiv i t
theorem zadj(prog:Program)(w:World)(x:Str)(t:Tok):(zej prog w).is (.inr x) (.str x t)=true:=zaiw x t
inductive V where
 | non|bl (b:Bool)|int (i:Int)|str (x:Str)|byt (b:Array UInt8)|flt (b:UInt64)|ref (a:Addr)|ty (n:String)
 deriving DecidableEq
def RelV:V->Value->Prop
 | .non,u=>u=Value.none
 | .bl b,u=>u=Value.bool b
 | .int i,u=>∃t,u=Value.int i t
 | .str x,u=>∃t,u=Value.str x t
 | .byt b,u=>∃t,u=Value.bytes b t
 | .flt b,u=>∃t,u=Value.float b t
 | .ref a,u=>u=Value.ref a
 | .ty n,u=>u=Value.type n
abbrev Vals:List V->List Value->Prop:=Paired RelV
theorem Vals.length{xs:List V}{us:List Value}(r:Vals xs us):xs.length=us.length:=qCQ r
theorem Vals.get:∀{xs:List V}{us:List Value}{i:Nat}{x:V},Vals xs us->xs[i]?=some x->∃u,us[i]?=some u/\RelV x u
 | _,_,_,_,.nil,e=>by simp at e
 | _,_,0,_,.cons r _,e=>by simp at e;subst e;exact⟨_,rfl,r⟩
 | _,_,i+1,x,.cons _ t,e=>by
  obtain⟨u,h1,h2⟩:=Vals.get (i:=i) (x:=x) t (by simpa using e)
  exact⟨u,by simpa using h1,h2⟩
theorem Vals.set(r:RelV x u):∀{xs:List V}{us:List Value}(i:Nat),Vals xs us->Vals (xs.set i x) (us.set i u)
 | _,_,_,.nil=>.nil
 | _,_,0,.cons _ t=>.cons r t
 | _,_,i+1,.cons q t=>.cons q (Vals.set r i t)
theorem Vals.append:∀{xs ys:List V}{us ws:List Value},Vals xs us->Vals ys ws->Vals (xs++ys) (us++ws)
 | _,_,_,_,.nil,s=>s
 | _,_,_,_,.cons r t,s=>.cons r (Vals.append t s)
theorem Vals.take:∀{xs:List V}{us:List Value}(n:Nat),Vals xs us->Vals (xs.take n) (us.take n)
 | _,_,0,_=>.nil
 | _,_,_+1,.nil=>.nil
 | _,_,n+1,.cons r t=>.cons r (Vals.take n t)
theorem Vals.drop:∀{xs:List V}{us:List Value}(n:Nat),Vals xs us->Vals (xs.drop n) (us.drop n)
 | _,_,0,r=>r
 | _,_,_+1,.nil=>.nil
 | _,_,n+1,.cons _ t=>Vals.drop n t
def RelO:Option V->Option Value->Prop
 | some v,some u=>RelV v u
 | none,none=>True
 | _,_=>False
def KV{κ:Type}:List (κ×V)->List (κ×Value)->Prop:=Paired λ(p:κ×V)(q:κ×Value)=>p.1=q.1/\RelV p.2 q.2
def kV:Key->V
 | .inl i=>.int i
 | .inr x=>.str x
inductive HO where
  | lst (xs:List V)
  | tup (xs:List V)
  | dK (kvs:List (Key×V))|dT (kvs:List (List Key×V))
  | set (S:Int->Bool) (n:Nat)
  | ins (C dx:Addr) (fs:List (Str×V))
  | own (x:Addr)
  | xd (fs:List (Str×V))
  | met (f x:Addr)
  | rng (lo hi:Int)
  | frz (o:Obj) (u:HO)
  | tbl (ps:Array Value)
 | tabO (q:Str)
  | ext (φ:Heap->Prop)
abbrev Hp:=Addr->Option HO
def upd(H:Hp)(a:Addr)(o:HO):Hp:=λb=>if b=a then some o else H b
theorem zal:upd H a o a=some o:=by unfold upd;rw[if_pos rfl]
theorem zap(h:b≠a):upd H a o b=H b:=by unfold upd;rw[if_neg h]
theorem zatn:upd (upd H a o) a u=upd H a u:=by
 funext b;unfold upd;split<;>rfl
theorem zbbj{H:Hp}{a b:Addr}{o u:HO}(h:H a=some o)(h':H b=some u)(d:o≠u):a≠b:=by
 intro e;subst e;rw[h]at h';exact d (qX h')
theorem zay{H:Hp}{a b:Addr}{o:HO}(h:H a=some o)(h':H b=none):a≠b:=by
 intro e;subst e;rw[h]at h';cases h'
section
variable(P:Program)(w:World)
def zek(H:Hp)(h:Heap)(a:Addr):HO->Prop
 | .lst xs=>xs.length<=qU/\∃(its:List Value)(n:Nat),Vals xs its/\h.get? a=some {cls:=.type "list",data:=.seq its.toArray n}
 | .tup xs=>xs.length<=qU/\∃its:List Value,Vals xs its/\IsTup h a its.toArray
 | .dK kvs=>kvs.length<=qU/\(a==sysModules)=false/\∃vs,KV kvs vs/\h.DictOf (zej P w) a vs
 | .dT kvs=>kvs.length<=qU/\(a==sysModules)=false/\∃xs:List (List Key×Addr×Value),
   Paired (λ(p:List Key×V)(q:List Key×Addr×Value)=>p.1=q.1/\H q.2.1=some (.tup (p.1.map kV))/\RelV p.2 q.2.2) kvs xs/\
   ∃o es ep,h.get? a=some o/\o.ExactDict/\o.data=.dict es ep/\es.toList=xs.map (entryOfKey (tupleKind (zej P w)))/\(xs.map (·.1)).Nodup
 | .set S n=>h.SetOf (intKind P w) a S n
 | .ins C dx fs=>H dx=some (.own a)/\fs.length<=1000/\dx≠a/\h.get? a=some (instObj C dx)/\
   ∃mA,h.Ns1 dx mA/\(∀f,RelO (fs.lookup f) (mA f))/\PySem.Within mA (fs.map (·.1))
 | .own _=>∃o,h.get? a=some o
 | .xd fs=>∃mA,h.Ns1 a mA/\∀f,RelO (fs.lookup f) (mA f)
 | .rng lo hi=>∃t u v,h.get? a=some {cls:=.type "range",data:=.fields #[.int lo t,.int hi u,.int 1 v]}
 | .frz o u=>h.get? a=some o/\zek H h a u
 | .tbl ps=>h.get? a=some {cls:=.none,data:=.fields ps}
 | .tabO q=>∃ps:Array Value,h.get? a=some (tabObj ps)/\TriplesOk ps.toList/\∀pos cv,codeAmong pos ps.toList=some cv->∃c o vs t,cv=.ref c/\c≠a/\H c=some (.frz o (.own a))/\o.data=.fields vs/\vs[1]?=some (.str q t)
 | .met f x=>h.get? a=some (methodObj (.ref f) (.ref x))
 | .ext φ=>φ h/\(∃o,h.get? a=some o)/\∀h1 h2:Heap,φ h1->(∀o,h1.get? a=some o->h2.get? a=some o)->φ h2
def HOk(H:Hp)(h:Heap):Prop:=∀a o,H a=some o->zek P w H h a o
end
section
variable{P:Program}{w:World}{H H':Hp}{h h':Heap}{a:Addr}{o:HO}
theorem zek.lt(x:zek P w H h a o):a<h.objs.size:=by
 cases o with
 | lst xs=>obtain⟨_,_,_,_,e⟩:=x;exact qJ e
 | tup xs=>obtain⟨_,_,_,p⟩:=x;exact p.lt
 | dK kvs=>obtain⟨_,_,_,_,o,_,_,e,_⟩:=x;exact qJ e
 | dT kvs=>obtain⟨_,_,_,_,o,_,_,e,_⟩:=x;exact qJ e
 | set S n=>obtain⟨o,_,_,_,e,_⟩:=x;exact qJ e
 | ins C dx fs=>obtain⟨_,_,_,e,_⟩:=x;exact qJ e
 | own y=>obtain⟨_,e⟩:=x;exact qJ e
 | xd fs=>obtain⟨_,⟨_,_,_,e,_⟩,_⟩:=x;exact qJ e
 | rng lo hi=>obtain⟨_,_,_,e⟩:=x;exact qJ e
 | frz ob u=>obtain⟨e,_⟩:=x;exact qJ e
 | tbl ps=>exact qJ (show h.get? a=some _ from x)
 | tabO q=>obtain⟨_,e,_⟩:=x;exact qJ e
 | met f y=>exact qJ (show h.get? a=some _ from x)
 | ext φ=>obtain⟨_,⟨_,e⟩,_⟩:=x;exact qJ e
theorem Paired.mapP{F G:α->β->Prop}:∀{l₁:List α}{l₂:List β},Paired F l₁ l₂->(∀a b,F a b->G a b)->Paired G l₁ l₂
 | _,_,.nil,_=>.nil
 | _,_,.cons r t,f=>.cons (f _ _ r) (Paired.mapP t f)
theorem zek.stay(x:zek P w H h a o)(k:∀b u,(b=a\/H b=some (.own a))->h.get? b=some u->h'.get? b=some u)
  (ho:∀b,H b=some (.own a)->H' b=some (.own a)) (ht:∀b xs,H b=some (.tup xs)->H' b=some (.tup xs)) (hf:∀(b:Addr)(o':Obj),H b=some (.frz o' (.own a))->H' b=some (.frz o' (.own a)):=by first|exact λ_ _ q=>q|(intro b o' q;rw[zap (zay q (by assumption))];exact q)|(intro b o' q;rw[zap (λz=>by subst z;simp_all)];exact q)):zek P w H' h' a o:=by
 induction o with
 | lst xs=>obtain⟨z,its,n,r,e⟩:=x;exact⟨z,its,n,r,k _ _ (.inl rfl) e⟩
 | tup xs=>obtain⟨z,its,r,ob,e,c⟩:=x;exact⟨z,its,r,ob,k _ _ (.inl rfl) e,c⟩
 | dK kvs=>obtain⟨z,y,vs,r,ob,es,ep,e,c⟩:=x;exact⟨z,y,vs,r,ob,es,ep,k _ _ (.inl rfl) e,c⟩
 | dT kvs=>
  obtain⟨z,y,xs,r,ob,es,ep,e,c⟩:=x
  exact⟨z,y,xs,Paired.mapP r λp q z=>⟨z.1,ht _ _ z.2.1,z.2.2⟩,ob,es,ep,k _ _ (.inl rfl) e,c⟩
 | set S n=>obtain⟨ob,es,ep,t,e,c⟩:=x;exact⟨ob,es,ep,t,k _ _ (.inl rfl) e,c⟩
 | ins C dx fs=>
  obtain⟨d,z,ne,e,mA,⟨od,es,ep,e2,c⟩,r⟩:=x
  exact⟨ho _ d,z,ne,k _ _ (.inl rfl) e,mA,⟨od,es,ep,k _ _ (.inr d) e2,c⟩,r⟩
 | own y=>obtain⟨ob,e⟩:=x;exact⟨ob,k _ _ (.inl rfl) e⟩
 | xd fs=>obtain⟨mA,⟨od,es,ep,e,c⟩,r⟩:=x;exact⟨mA,⟨od,es,ep,k _ _ (.inl rfl) e,c⟩,r⟩
 | rng lo hi=>obtain⟨t,u,v,e⟩:=x;exact⟨t,u,v,k _ _ (.inl rfl) e⟩
 | frz ob u ih=>obtain⟨e,q⟩:=x;exact⟨k _ _ (.inl rfl) e,ih q⟩
 | tabO q=>
  obtain⟨ps,e,t,c⟩:=x
  exact⟨ps,k _ _ (.inl rfl) e,t,λpos cv hc=>by
   obtain⟨c',o,vs,tt,e1,e2,e3,e5⟩:=c pos cv hc
   exact⟨c',o,vs,tt,e1,e2,hf _ _ e3,e5⟩⟩
 | tbl ps=>
  have e:h.get? a=some {cls:=.none,data:=.fields ps}:=x
  show h'.get? a=some {cls:=.none,data:=.fields ps}
  exact k a _ (.inl rfl) e
 | met f y=>
  have e:h.get? a=some (methodObj (.ref f) (.ref y)):=x
  show h'.get? a=some (methodObj (.ref f) (.ref y))
  exact k a _ (.inl rfl) e
 | ext φ=>obtain⟨p,⟨o,e⟩,st⟩:=x;exact⟨st _ _ p λo q=>k _ _ (.inl rfl) q,⟨o,k _ _ (.inl rfl) e⟩,st⟩
theorem HOk.lt(x:HOk P w H h)(e:H a=some o):a<h.objs.size:=(x a o e).lt
theorem HOk.fresh(x:HOk P w H h)(e:h.objs.size<=a):H a=none:=by
 cases q:H a with
 | none=>rfl
 | some u=>exact absurd (qe (x.lt q) e) (qBJ _)
theorem HOk.kept(x:HOk P w H h)(k:∀b u,h.get? b=some u->h'.get? b=some u):HOk P w H h':=λa o e=>
 (x a o e).stay (λb u _ q=>k b u q) (λ_ q=>q) λ_ _ q=>q
theorem HOk.laid(x:HOk P w H h)(k:∀b u,h.get? b=some u->h'.get? b=some u)(hp:h.objs.size<=a)(new:zek P w (upd H a o) h' a o):HOk P w (upd H a o) h':=λb u e=>by
 have hn:=x.fresh hp
 by_cases hb:b=a
 ·subst hb;rw[zal]at e;cases e;exact new
 ·rw[zap hb]at e
  exact(x b u e).stay (λc v _ q=>k c v q) (λc q=>by rw[zap (zay q hn)];exact q) λc xs q=>by rw[zap (zay q hn)];exact q
end
def Rd(H:Hp)(a:Addr)(u:HO):Prop:=H a=some u\/∃o,H a=some (.frz o u)
theorem Rd.ok(r:Rd H a u)(x:HOk P w H h):zek P w H h a u:=by
 rcases r with r|⟨o,r⟩
 ·exact x a u r
 ·obtain⟨_,q⟩:=x a _ r
  exact q
def Mut:Option HO->Prop
 | some (.lst _)=>True
 | some (.dK _)=>True
 | some (.dT _)=>True
 | some (.set _ _)=>True
 | some (.ins _ _ _)=>True
 | some (.ext _)=>True
 | _=>False
section
variable{P:Program}{w:World}{H:Hp}{h h':Heap}{x e:Addr}{o':HO}
theorem HOk.write(ok:HOk P w H h)(mu:Mut (H x))(he:e=x\/H e=some (.own x))(k:∀b u,b≠e->h.get? b=some u->h'.get? b=some u)(heo:∃u,h'.get? e=some u)
  (new:zek P w (upd H x o') h' x o'):HOk P w (upd H x o') h':=λb u q=>by
 have nown:∀c y,H c=some (.own y)->c≠x:=λc y r z=>by subst z;rw[r]at mu;exact mu
 have ntup:∀c xs,H c=some (.tup xs)->c≠x:=λc xs r z=>by subst z;rw[r]at mu;exact mu
 have nfrz:∀c o2 u2,H c=some (.frz o2 u2)->c≠x:=λc o2 u2 r z=>by subst z;rw[r]at mu;exact mu
 by_cases hb:b=x
 ·subst hb;rw[zal]at q;cases q;exact new
 ·rw[zap hb]at q
  by_cases hbe:b=e
  ·have q':H b=some (.own x):=by
    rcases he with z|z
    ·exact absurd (hbe.trans z) hb
    ·rw[hbe];exact z
   rw[q]at q';cases q'
   obtain⟨v,hv⟩:=heo
   exact⟨v,by rw[hbe];exact hv⟩
  ·refine(ok b u q).stay (λc v hc r=>k c v ?_ r) (λc r=>by rw[zap (nown c b r)];exact r) (λc xs r=>by rw[zap (ntup c xs r)];exact r) (λc o2 r=>by rw[zap (nfrz c o2 _ r)];exact r)
   rcases hc with rfl|hc
   ·exact hbe
   ·rintro rfl
    rcases he with z|z
    ·exact nown c b hc z
    ·rw[hc]at z;cases z;exact hb rfl
end
set_option genInjectivity false in
structure Un(fs ex:List Addr)(H H':Hp)(h h':Heap):Prop where
 keep:∀b o,h.get? b=some o->H b=none->b∉fs->b∉ex->h'.get? b=some o
 slot:∀b o,h.get? b=some o->H b=none->b∈fs->b∉ex->∃sl,h'.get? b=some {o with slots:=sl}
 free:∀b o,h.get? b=some o->H b=none->b∉ex->H' b=none
 there:∀b o,h.get? b=some o->b∉ex->∃o',h'.get? b=some o'
 tups:∀b xs,H b=some (.tup xs)->H' b=some (.tup xs)
 frzs:∀b o u,H b=some (.frz o u)->H' b=some (.frz o u)
 tbls:∀b ps,H b=some (.tbl ps)->∃more,H' b=some (.tbl (ps++more))
section
variable{fs fs' ex ex':List Addr}{H H1 H2:Hp}{h h1 h2 h':Heap}{a x e:Addr}{o:HO}
theorem Un.any(u:Un fs ex H H1 h h1)(q:h.get? b=some ob)(n:H b=none)(hx:b∉ex):∃sl,h1.get? b=some {ob with slots:=sl}:=by
 by_cases hb:b∈fs
 ·exact u.slot b ob q n hb hx
 ·exact⟨ob.slots,u.keep b ob q n hb hx⟩
theorem Un.kept(k:∀b u,h.get? b=some u->h'.get? b=some u):Un fs ex H H h h':=
 ⟨λb ob q _ _ _=>k b ob q,λb ob q _ _ _=>⟨ob.slots,k b ob q⟩,λ_ _ _ n _=>n,λb ob q _=>⟨ob,k b ob q⟩,λ_ _ q=>q,λ_ _ _ q=>q,λ_ ps q=>⟨#[],by rw[q];simp⟩⟩
theorem Un.refl:Un fs ex H H h h:=Un.kept λ_ _ q=>q
theorem Un.laid(k:∀b u,h.get? b=some u->h'.get? b=some u)(hp:h.objs.size<=a)(hn:H a=none):Un fs ex H (upd H a o) h h' where
 keep:=λb u q _ _ _=>k b u q
 slot:=λb u q _ _ _=>⟨u.slots,k b u q⟩
 free:=λb u q n _=>by rw[zap (qi (qe (qJ q) hp))];exact n
 there:=λb u q _=>⟨u,k b u q⟩
 tups:=λb xs q=>by rw[zap (zay q hn)];exact q
 frzs:=λb u xs q=>by rw[zap (zay q hn)];exact q
 tbls:=λb ps q=>⟨#[],by rw[zap (zay q hn),q];simp⟩
theorem Un.write(mu:Mut (H x))(he:e=x\/H e=some (.own x))(k:∀b u,b≠e->h.get? b=some u->h'.get? b=some u)(heo:∃u,h'.get? e=some u):Un fs ex H (upd H x o) h h':=by
 have hx:∀b,H b=none->b≠x:=λb n z=>by subst z;rw[n]at mu;exact mu
 have hb:∀b,H b=none->b≠e:=λb n z=>by
  subst z
  rcases he with r|r
  ·exact hx b n r
  ·rw[n]at r;cases r
 have hm:∀b u,H b=some u->¬Mut (some u)->b≠x:=λb u q nm z=>by subst z;rw[q]at mu;exact nm mu
 refine⟨λb u q n _ _=>k b u (hb b n) q,λb u q n _ _=>⟨u.slots,k b u (hb b n) q⟩,λb u q n _=>by rw[zap (hx b n)];exact n,λb u q _=>?_,
  λb xs q=>by rw[zap (hm b _ q λz=>z)];exact q,λb u xs q=>by rw[zap (hm b _ q λz=>z)];exact q,λb ps q=>⟨#[],by rw[zap (hm b _ q λz=>z),q];simp⟩⟩
 by_cases hbe:b=e
 ·subst hbe;exact heo
 ·exact⟨u,k b u hbe q⟩
end
def trk(h:Heap)(H:Hp):List Addr:=(List.range h.objs.size).filter λa=>(H a).isSome
def hidT(h:Heap)(H:Hp):Heap:=PySem.W.hideAll h (trk h H)
theorem zaix(h:Heap)(H:Hp):(hidT h H).objs.size=h.objs.size:=PySem.W.hideAll_size _ _
theorem zsy{h:Heap}(e:h.get? b=some o)(n:H b=none):(hidT h H).get? b=some o:=
 PySem.W.hideAll_get _ e λhm=>by
  have q:(H b).isSome=true:=(qAj.mp hm).2
  rw[n]at q;simp at q
theorem zato{h:Heap}(e:(hidT h H).get? b=some o):h.get? b=some o/\H b=none:=by
 have e':h.get? b=some o:=PySem.W.of_hideAll (trk h H) e
 refine⟨e',?_⟩
 cases q:H b with
 | none=>rfl
 | some x=>
  have hm:b∈trk h H:=qAj.mpr ⟨qAi.mpr (qJ e'),by simp[q]⟩
  have z:(hidT h H).get? b=none:=PySem.W.hideAll_none (trk h H) hm
  rw[z]at e;cases e
set_option genInjectivity false in
structure Mod(K:qB)(mg:Str->Option Value)(base:Heap):Prop where
 kin:K.In base
 glob:base.Ns qg mg
 blt:∃mb,base.Ns builtinsNs mb/\∀x:Str,x≠"__name__"->mb x=bootBuiltins x
 nolimit:base.NoLimit
set_option genInjectivity false in
structure Cx where
 prog:Program
 w:World
 K:qB
 mg:Str->Option Value
 base:Heap
 A:Around
 N:List Str
 s₀:Shared
 H₀:Hp
 env:Env
 outer:List Env
 stack:List Env
 ex:List Addr
 fn:Str->Bool
 calm:Bool
 pn:List (Addr×Obj)
 xe:Value->Shared->Prop
def frs(l:List Env):List Addr:=l.filterMap (·.frame)
abbrev Cx.fs(X:Cx):List Addr:=frs X.outer
def Vis(sc:Scope)(x:Str):Prop:=sc.names.lookup x=some .local\/sc.names.lookup x=some .cell\/sc.names.lookup x=some .free
def visB(sc:Scope)(x:Str):Bool:=match sc.names.lookup x with
 | some .local=>true
 | some .cell=>true
 | some .free=>true
 | _=>false
theorem visB.of(h:visB sc x=true):Vis sc x:=by
 unfold visB at h
 cases e:sc.names.lookup x with
 | none=>rw[e]at h;cases h
 | some k=>rw[e]at h;cases k<;>first|exact .inl e|exact .inr (.inl e)|exact .inr (.inr e)|cases h
def Loc(sc:Scope)(x:Str):Prop:=sc.names.lookup x=some .local\/sc.names.lookup x=some .cell
def Look(env:Env)(h:Heap)(m:Str->Option Value)(x:Str)(u:Value):Prop:=
 (env.kindOf x=some .local/\m x=some u)\/((env.kindOf x=some .cell\/env.kindOf x=some .free)/\∃c,env.cells.lookup x=some c/\h.IsCell c (some u))
set_option genInjectivity false in
structure Cx.Ok(X:Cx):Prop where
 mod:Mod X.K X.mg X.base
 kind:X.env.scope.kind=.function
 glob:X.env.globals=qg
 blt:X.env.builtins=builtinsNs
 above:X.s₀.heap.objs.size<=X.env.locals
 inj:∀x y c,X.env.cells.lookup x=some c->X.env.cells.lookup y=some c->x=y
 has:∀x,(X.env.kindOf x=some .cell\/X.env.kindOf x=some .free)->∃c,X.env.cells.lookup x=some c
 cab:∀x c,X.fn x=true->X.env.cells.lookup x=some c->X.s₀.heap.objs.size<=c
 hd:X.calm=true->X.A.handled=none
 frames:X.A.frames=some X.stack
 stk:X.stack=X.outer\/(X.stack=X.env::X.outer/\X.env.frame=some X.env.locals)
 exf:∀b∈X.ex,b≠X.env.locals/\∀x c,X.env.cells.lookup x=some c->c≠b
 bs:∀b o,X.base.get? b=some o->X.s₀.heap.get? b=some o/\X.H₀ b=none
 bsz:X.base.objs.size<=X.s₀.heap.objs.size
 noex:∀b o,X.base.get? b=some o->b∉X.ex
 exfs:∀b∈X.ex,b∉X.fs
 funs:X.s₀.heap.FunFrames X.base X.outer
 frf:∀b∈X.fs,X.H₀ b=none
set_option genInjectivity false in
structure Inv(X:Cx)(pins:List (Addr×Obj))(σ:List (Option V))(H:Hp)(s:Shared):Prop where
 ok:X.Ok
 os:s.os=X.s₀.os
 bare:AllBare s.gens
 base:Un X.fs X.ex X.H₀ H X.s₀.heap s.heap
 loc:∃m,s.heap.Ns X.env.locals m/\∀(i:Nat)(x:Str)(v:V),X.N[i]?=some x->σ[i]?=some (some v)->Vis X.env.scope x->∃u,RelV v u/\Look X.env s.heap m x u
 cell:∀x c,X.env.cells.lookup x=some c->∃v,s.heap.IsCell c v
 free:H X.env.locals=none
 freeC:∀x c,X.env.cells.lookup x=some c->H c=none
 pin:∀p∈X.pn++pins,s.heap.get? p.1=some p.2/\H p.1=none/\p.1≠X.env.locals/\p.1∉X.fs/\∀v,p.2.data≠.cell v
 hok:HOk X.prog X.w H s.heap
 len:σ.length=X.N.length
section
variable{X:Cx}{pins:List (Addr×Obj)}{σ:List (Option V)}{H H':Hp}{s:Shared}{h':Heap}
theorem Cx.Ok.nofr(ok:X.Ok)(e:X.base.get? b=some o):b∉X.fs:=λhb=>by
 have:=(ok.funs.mem hb).1
 rw[e]at this;cases this
theorem Inv.bs(I:Inv X pins σ H s):∀b o,X.base.get? b=some o->s.heap.get? b=some o/\H b=none:=λb o e=>
 ⟨I.base.keep b o (I.ok.bs b o e).1 (I.ok.bs b o e).2 (I.ok.nofr e) (I.ok.noex b o e),I.base.free b o (I.ok.bs b o e).1 (I.ok.bs b o e).2 (I.ok.noex b o e)⟩
theorem Inv.bk(I:Inv X pins σ H s):∀b o,X.base.get? b=some o->s.heap.get? b=some o:=λb o e=>(I.bs b o e).1
theorem Inv.mod(I:Inv X pins σ H s):Mod X.K X.mg X.base:=I.ok.mod
theorem Inv.kIn(I:Inv X pins σ H s):X.K.In s.heap:=I.ok.mod.kin.keeps I.bk
theorem Inv.fr(I:Inv X pins σ H s):∃m,Fr X.base X.env.locals s.heap m:=
 let⟨m,hn,_⟩:=I.loc
 ⟨m,hn,I.bk,qAI I.ok.bsz I.ok.above⟩
theorem Inv.lt(I:Inv X pins σ H s):X.env.locals<s.heap.objs.size:=let⟨_,hn,_⟩:=I.loc;hn.lt
theorem Inv.sz(I:Inv X pins σ H s):X.s₀.heap.objs.size<=s.heap.objs.size:=qAI I.ok.above (qB3 I.lt)
theorem Inv.nofs(I:Inv X pins σ H s)(h:s.heap.objs.size<=a):a∉X.fs:=λhb=>by
 obtain⟨_,o,ho,_⟩:=I.ok.funs.mem hb
 exact absurd (qe (qJ ho) (qAI I.sz h)) (qBJ _)
theorem Inv.cne(I:Inv X pins σ H s):∀x c,X.env.cells.lookup x=some c->c≠X.env.locals:=λx c e z=>by
 obtain⟨v,o,ho,hd⟩:=I.cell x c e
 obtain⟨m,⟨o',es,ep,ho',hd',_⟩,_⟩:=I.loc
 rw[z,ho']at ho;cases ho;rw[hd']at hd;cases hd
theorem Inv.funs(I:Inv X pins σ H s):s.heap.FunFrames X.base X.outer:=by
 have all:∀(l:List Env),(∀b∈frs l,b∈X.fs)->X.s₀.heap.FunFrames X.base l->s.heap.FunFrames X.base l:=by
  intro l
  induction l with
  | nil=>intro _ _;trivial
  | cons env r ih=>
   intro hs hl
   obtain⟨hk,⟨L,o,hf,hn,ho,hd⟩,hr⟩:=hl
   have hL:L∈X.fs:=hs L (by unfold frs;rw[qBG,hf];exact qb)
   obtain⟨sl,e⟩:=I.base.slot L o ho (I.ok.frf L hL) hL λz=>I.ok.exfs L z hL
   exact⟨hk,⟨L,_,hf,hn,e,hd⟩,ih (λb hb=>hs b (by unfold frs;rw[qBG,hf];exact qK _ hb)) hr⟩
 exact all X.outer (λ_ hb=>hb) I.ok.funs
theorem Inv.stack(I:Inv X pins σ H s):s.heap.FunFrames X.base X.stack:=by
 rcases I.ok.stk with e|⟨e,hf⟩
 ·rw[e];exact I.funs
 ·rw[e]
  obtain⟨m,hn,_⟩:=I.loc
  refine .cons (by rw[I.ok.kind];decide) hf hn ?_ I.funs
  exact qCK (qAI I.ok.bsz I.ok.above)
theorem Inv.stkSub(I:Inv X pins σ H s):∀b∈frs X.stack,b∈X.env.locals::X.fs:=λb hb=>by
 rcases I.ok.stk with e|⟨e,hf⟩
 ·rw[e]at hb;exact qK _ hb
 ·rw[e]at hb
  unfold frs at hb
  rw[qBG,hf]at hb
  exact hb
theorem Inv.stkFree(I:Inv X pins σ H s):∀b∈frs X.stack,H b=none:=λb hb=>by
 rcases qZ.mp (I.stkSub b hb)with e|hb
 ·rw[e];exact I.free
 ·obtain⟨_,o,ho,_⟩:=I.ok.funs.mem hb
  exact I.base.free b o ho (I.ok.frf b hb) λz=>I.ok.exfs b z hb
theorem Inv.step{g':Array GenState}{t':Nat}{d':Drawn}{ch:List Addr}(I:Inv X pins σ H s)
  (hch:∀b∈ch,(b∈X.ex\/X.s₀.heap.objs.size<=b)/\b≠X.env.locals/\(∀x c,X.env.cells.lookup x=some c->c≠b)/\∀p∈X.pn++pins,p.1≠b)
  (keep:∀b o,b≠X.env.locals->b∉X.fs->b∉ch->s.heap.get? b=some o->H b=none->h'.get? b=some o)
  (slot:∀b o,b≠X.env.locals->b∈X.fs->b∉ch->s.heap.get? b=some o->H b=none->∃sl,h'.get? b=some {o with slots:=sl}) (free:∀b o,b∉ch->s.heap.get? b=some o->H b=none->H' b=none)
  (there:∀b o,b∉ch->s.heap.get? b=some o->∃o',h'.get? b=some o')
  (tups:∀b xs,H b=some (.tup xs)->H' b=some (.tup xs))(frzs:∀b o u,H b=some (.frz o u)->H' b=some (.frz o u))(tbls:∀b ps,H b=some (.tbl ps)->∃more,H' b=some (.tbl (ps++more)))
  (ns:∀m,s.heap.Ns X.env.locals m->h'.Ns X.env.locals m)(hok:HOk X.prog X.w H' h')(hg:AllBare g') :
  Inv X pins σ H' {s with heap:=h',gens:=g',drawn:=d',toks:=t'}:=by
 have neL:∀b o,X.s₀.heap.get? b=some o->b≠X.env.locals:=λb o e=>qi (qe (qJ e) I.ok.above)
 have neC:∀b o,X.s₀.heap.get? b=some o->b∉X.ex->b∉ch:=λb o e hx hb=>by
  rcases(hch b hb).1 with z|z
  ·exact hx z
  ·exact absurd (qe (qJ e) z) (qBJ _)
 have cellK:∀x c,X.env.cells.lookup x=some c->∀v,s.heap.IsCell c v->h'.IsCell c v:=λx c e v ⟨o,ho,hd⟩=>by
  have nch:c∉ch:=λz=>(hch c z).2.2.1 x c e rfl
  by_cases hc:c∈X.fs
  ·obtain⟨sl,q⟩:=slot c o (I.cne x c e) hc nch ho (I.freeC x c e)
   exact⟨_,q,hd⟩
  ·exact⟨o,keep c o (I.cne x c e) hc nch ho (I.freeC x c e),hd⟩
 refine⟨I.ok,I.os,hg,⟨λb o e n hb hx=>?_,λb o e n hb hx=>?_,λb o e n hx=>?_,λb o e hx=>?_,λb xs e=>tups b xs (I.base.tups b xs e),λb o xs e=>frzs b o xs (I.base.frzs b o xs e),λb ps e=>?_⟩,?_,λx c e=>?_,?_,λx c e=>?_,λp hp=>?_,hok,I.len⟩
 ·exact keep b o (neL b o e) hb (neC b o e hx) (I.base.keep b o e n hb hx) (I.base.free b o e n hx)
 ·obtain⟨sl,e1⟩:=I.base.slot b o e n hb hx
  obtain⟨sl',e2⟩:=slot b _ (neL b o e) hb (neC b o e hx) e1 (I.base.free b o e n hx)
  exact⟨sl',e2⟩
 ·obtain⟨o',e1⟩:=I.base.there b o e hx
  exact free b o' (neC b o e hx) e1 (I.base.free b o e n hx)
 ·obtain⟨o',e1⟩:=I.base.there b o e hx
  exact there b o' (neC b o e hx) e1
 ·obtain⟨m1,e1⟩:=I.base.tbls b ps e
  obtain⟨m2,e2⟩:=tbls b _ e1
  exact⟨m1++m2,by rw[e2,Array.append_assoc]⟩
 ·obtain⟨m,hn,hl⟩:=I.loc
  refine⟨m,ns m hn,λi x v e1 e2 e3=>?_⟩
  obtain⟨u,r,l⟩:=hl i x v e1 e2 e3
  refine⟨u,r,?_⟩
  rcases l with l|⟨k,c,e,z⟩
  ·exact .inl l
  ·exact .inr ⟨k,c,e,cellK x c e _ z⟩
 ·obtain⟨v,z⟩:=I.cell x c e
  exact⟨v,cellK x c e v z⟩
 ·obtain⟨m,⟨o,_,_,ho,_⟩,_⟩:=I.loc
  exact free _ o (λz=>(hch _ z).2.1 rfl) ho I.free
 ·obtain⟨v,o,ho,hd⟩:=I.cell x c e
  exact free c o (λz=>(hch c z).2.2.1 x c e rfl) ho (I.freeC x c e)
 ·obtain⟨e,n,ne,nf,d⟩:=I.pin p hp
  have nch:p.1∉ch:=λz=>(hch p.1 z).2.2.2 p hp rfl
  exact⟨keep p.1 p.2 ne nf nch e n,free p.1 p.2 nch e n,ne,nf,d⟩
theorem Inv.un{t':Nat}(I:Inv X pins σ H s)(u:Un X.fs [] H H' s.heap h')(hok:HOk X.prog X.w H' h'):Inv X pins σ H' {s with heap:=h',toks:=t'}:=by
 obtain⟨m,⟨o,es,ep,ho,r⟩,_⟩:=id I.loc
 obtain⟨sl,hL⟩:=u.any ho I.free (by simp)
 exact I.step (g':=s.gens) (d':=s.drawn) (ch:=[]) (λ_ z=>nomatch z) (λb o _ hb _ e n=>u.keep b o e n hb (by simp)) (λb o _ hb _ e n=>u.slot b o e n hb (by simp)) (λb o _ e n=>u.free b o e n (by simp)) (λb o _ e=>u.there b o e (by simp)) u.tups u.frzs u.tbls (λm' hm=>by
  obtain⟨o',es',ep',ho',r'⟩:=hm
  rw[ho]at ho';cases ho'
  exact⟨_,es',ep',hL,r'⟩) hok I.bare
theorem Inv.call{g':Array GenState}{t':Nat}{d':Drawn}{ch:List Addr}(I:Inv X pins σ H s)(u:Un (frs X.stack) ch H H' s.heap h')(hok:HOk X.prog X.w H' h')(hg:AllBare g')
  (hch:∀b∈ch,(b∈X.ex\/X.s₀.heap.objs.size<=b)/\b≠X.env.locals/\(∀x c,X.env.cells.lookup x=some c->c≠b)/\∀p∈X.pn++pins,p.1≠b) :
  Inv X pins σ H' {s with heap:=h',gens:=g',drawn:=d',toks:=t'}:=by
 obtain⟨m,⟨o,es,ep,ho,r⟩,_⟩:=id I.loc
 obtain⟨sl,hL⟩:=u.any ho I.free λz=>(hch _ z).2.1 rfl
 exact I.step (ch:=ch) hch (λb o hL hb hc e n=>u.keep b o e n (λz=>(qZ.mp (I.stkSub b z)).elim hL hb) hc) (λb o _ _ hc e n=>u.any e n hc) (λb o hc e n=>u.free b o e n hc) (λb o hc e=>u.there b o e hc) u.tups u.frzs u.tbls (λm' hm=>by
  obtain⟨o',es',ep',ho',r'⟩:=hm
  rw[ho]at ho';cases ho'
  exact⟨_,es',ep',hL,r'⟩) hok hg
theorem Inv.turned{t':Nat}{it:Addr}(I:Inv X pins σ H s)(k:∀b o,b≠it->s.heap.get? b=some o->h'.get? b=some o)(hn:H it=none)(hL:it≠X.env.locals)
  (h1:it∈X.ex\/X.s₀.heap.objs.size<=it) (h2:∀x c,X.env.cells.lookup x=some c->c≠it) (h3:∀p∈X.pn++pins,p.1≠it):Inv X pins σ H {s with heap:=h',toks:=t'}:=by
 have nit:∀b u,H b=some u->b≠it:=λb u e z=>by rw[z,hn]at e;cases e
 refine I.step (g':=s.gens) (d':=s.drawn) (ch:=[it]) (λb hb=>?_) (λb o _ _ hc e _=>k b o (λz=>hc (by simp[z])) e) (λb o _ _ hc e _=>⟨o.slots,k b o (λz=>hc (by simp[z])) e⟩) (λ_ _ _ _ n=>n)
  (λb o hc e=>⟨o,k b o (λz=>hc (by simp[z])) e⟩) (λ_ _ e=>e) (λ_ _ _ e=>e) (λb ps e=>⟨#[],by rw[e];simp⟩) (λm hm=>?_) (λb u e=>?_) I.bare
 ·have e:b=it:=by simpa using hb
  subst e
  exact⟨h1,hL,h2,h3⟩
 ·obtain⟨o,es,ep,ho,r⟩:=hm
  exact⟨o,es,ep,k _ o (qAp hL) ho,r⟩
 ·refine(I.hok b u e).stay (λc v hc q=>k c v ?_ q) (λ_ q=>q) λ_ _ q=>q
  rcases hc with z|z
  ·rw[z];exact nit b u e
  ·exact nit c _ z
theorem Inv.tok(I:Inv X pins σ H s)(t:Nat):Inv X pins σ H {s with toks:=t}:=I.un (h':=s.heap) (t':=t) Un.refl I.hok
theorem Inv.kept(I:Inv X pins σ H s)(k:∀b u,s.heap.get? b=some u->h'.get? b=some u):Inv X pins σ H {s with heap:=h',toks:=t'}:=I.un (Un.kept k) (I.hok.kept k)
theorem Inv.laid(I:Inv X pins σ H s)(k:∀b u,s.heap.get? b=some u->h'.get? b=some u)(hp:s.heap.objs.size<=a)(new:zek X.prog X.w (upd H a o) h' a o) :
  Inv X pins σ (upd H a o) {s with heap:=h',toks:=t'}:=I.un (Un.laid k hp (I.hok.fresh hp)) (I.hok.laid k hp new)
theorem Inv.write(I:Inv X pins σ H s)(mu:Mut (H x))(he:e=x\/H e=some (.own x))(k:∀b u,b≠e->s.heap.get? b=some u->h'.get? b=some u)(heo:∃u,h'.get? e=some u)
  (new:zek X.prog X.w (upd H x o) h' x o):Inv X pins σ (upd H x o) {s with heap:=h',toks:=t'}:=I.un (Un.write mu he k heo) (I.hok.write mu he k heo new)
theorem Inv.pins_of(I:Inv X pins σ H s)(h:∀p∈pins',s.heap.get? p.1=some p.2/\H p.1=none/\p.1≠X.env.locals/\p.1∉X.fs/\∀v,p.2.data≠.cell v):Inv X pins' σ H s:=
 ⟨I.ok,I.os,I.bare,I.base,I.loc,I.cell,I.free,I.freeC,λp hp=>(qu.mp hp).elim (λz=>I.pin p (q9 _ z)) (h p),I.hok,I.len⟩
theorem zym{N:List Str}(hN:N.Nodup){i j:Nat}{x:Str}(a:N[i]?=some x)(b:N[j]?=some x):i=j:=by
 obtain⟨h1,e1⟩:=qS.mp a
 obtain⟨h2,e2⟩:=qS.mp b
 exact(List.getElem_inj hN).mp (e1.trans e2.symm)
theorem zaaf{M:Model}{A:Around}{E:Value->Shared->Prop}{i:Nat}{x:Str}{v:V}{u:Value}{Q:Unit->Shared->Prop}(I:Inv X pins σ H s)(hN:X.N.Nodup)(hi:X.N[i]?=some x)(hx:Loc X.env.scope x)(r:RelV v u)
  (h:∀s',Inv X pins (σ.set i (some v)) H s'->(∃a,Heap.SameBut a s.heap s'.heap/\(a=X.env.locals\/X.env.cells.lookup x=some a))->Q () s') (hf:X.fn x=true\/X.env.scope.names.lookup x=some .local:=by assumption):wpAny M A (storeName X.env x u) Q E s:=by
 obtain⟨m,hn,hl⟩:=id I.loc
 have hcls:(X.env.scope.kind==.class||(X.env.scope.kind==.module&&X.env.locals != X.env.globals))=false:=by rw[I.ok.kind];rfl
 have hiσ:i<σ.length:=by rw[I.len];exact(qS.mp hi).1
 have cne:=I.cne
 have tracked:∀{a:Addr}{h':Heap},(∃o,s.heap.get? a=some o/\H a=none)->Heap.SameBut a s.heap h'->HOk X.prog X.w H h':=λ{a h'} ha hs b ob e=>by
  obtain⟨_,_,hfree⟩:=ha
  refine(I.hok b ob e).stay (λc w' hc q=>(hs.2 c ?_).trans q) (λ_ q=>q) λ_ _ q=>q
  rintro rfl
  rcases hc with rfl|hc
  ·rw[hfree]at e;cases e
  ·rw[hfree]at hc;cases hc
 rcases hx with hk|hk
 ·refine wpAny_storeName_local hk hn (λh' hn' hs=>?_) hcls
  obtain⟨oL,_,_,hoL,_⟩:=id hn
  refine h _ ⟨I.ok,I.os,I.bare,⟨λb o e n hb hx=>?_,λb o e n hb hx=>?_,I.base.free,λb o e hx=>?_,I.base.tups,I.base.frzs,I.base.tbls⟩,⟨_,hn',λj y v' e1 e2 e3=>?_⟩,λy c e=>?_,I.free,I.freeC,λp hp=>?_,tracked ⟨oL,hoL,I.free⟩ hs,by simpa using I.len⟩ ⟨_,hs,.inl rfl⟩
  ·exact(hs.2 b (qi (qe (qJ e) I.ok.above))).trans (I.base.keep b o e n hb hx)
  ·obtain⟨sl,e1⟩:=I.base.slot b o e n hb hx
   exact⟨sl,(hs.2 b (qi (qe (qJ e) I.ok.above))).trans e1⟩
  ·obtain⟨o',e1⟩:=I.base.there b o e hx
   exact⟨o',(hs.2 b (qi (qe (qJ e) I.ok.above))).trans e1⟩
  ·by_cases hj:j=i
   ·subst hj
    rw[hi]at e1;cases e1
    rw[qm hiσ]at e2
    cases e2
    exact⟨u,r,.inl ⟨hk,by simp⟩⟩
   ·rw[qa (qAp hj)]at e2
    obtain⟨u',r',q⟩:=hl j y v' e1 e2 e3
    refine⟨u',r',?_⟩
    rcases q with⟨k,e⟩|⟨k,c,e,z⟩
    ·refine .inl ⟨k,?_⟩
     have:y≠x:=λe=>hj (zym hN e1 (e▸hi))
     simp[this,e]
    ·exact .inr ⟨k,c,e,z.sameBut hs (cne y c e)⟩
  ·obtain⟨w',z⟩:=I.cell y c e
   exact⟨w',z.sameBut hs (cne y c e)⟩
  ·obtain⟨e,n,ne,nf,d⟩:=I.pin p hp
   exact⟨(hs.2 p.1 ne).trans e,n,ne,nf,d⟩
 ·have hfn:X.fn x=true:=by
   rcases hf with z|z
   ·exact z
   ·rw[z]at hk;cases hk
  obtain⟨c,hc⟩:=I.ok.has x (.inl hk)
  obtain⟨w',z⟩:=I.cell x c hc
  refine wpAny_storeName_cell I.ok.kind hk hc z (λh' hc' hs=>?_)
  obtain⟨oc,hoc,hocd⟩:=id z
  refine h {s with heap:=h'} ⟨I.ok,I.os,I.bare,⟨λb o e n hb hx=>?_,λb o e n hb hx=>?_,I.base.free,λb o e hx=>?_,I.base.tups,I.base.frzs,I.base.tbls⟩,⟨m,hn.sameBut hs (qAp (cne x c hc)),λj y v' e1 e2 e3=>?_⟩,λy c' e=>?_,I.free,I.freeC,λp hp=>?_,tracked ⟨oc,hoc,I.freeC x c hc⟩ hs,by simpa using I.len⟩ ⟨c,hs,.inr hc⟩
  ·exact(hs.2 b (qi (qe (qJ e) (I.ok.cab x c hfn hc)))).trans (I.base.keep b o e n hb hx)
  ·obtain⟨sl,e1⟩:=I.base.slot b o e n hb hx
   exact⟨sl,(hs.2 b (qi (qe (qJ e) (I.ok.cab x c hfn hc)))).trans e1⟩
  ·obtain⟨o',e1⟩:=I.base.there b o e hx
   exact⟨o',(hs.2 b (qi (qe (qJ e) (I.ok.cab x c hfn hc)))).trans e1⟩
  ·by_cases hj:j=i
   ·subst hj
    rw[hi]at e1;cases e1
    rw[qm hiσ]at e2
    cases e2
    exact⟨u,r,.inr ⟨.inl hk,c,hc,hc'⟩⟩
   ·rw[qa (qAp hj)]at e2
    obtain⟨u',r',q⟩:=hl j y v' e1 e2 e3
    refine⟨u',r',?_⟩
    rcases q with q|⟨k,c',e,z'⟩
    ·exact .inl q
    ·refine .inr ⟨k,c',e,z'.sameBut hs ?_⟩
     rintro rfl
     exact hj (zym hN e1 (I.ok.inj _ _ _ e hc▸hi))
  ·by_cases hcc:c'=c
   ·subst hcc;exact⟨_,hc'⟩
   ·obtain⟨w2,z2⟩:=I.cell y c' e
    exact⟨w2,z2.sameBut hs hcc⟩
  ·obtain⟨e,n,ne,nf,d⟩:=I.pin p hp
   refine⟨(hs.2 p.1 ?_).trans e,n,ne,nf,d⟩
   intro q
   rw[q,hoc]at e
   have q':oc=p.2:=qX e
   exact d w' (by rw[<- q'];exact hocd)
theorem zyn{E:Value->Shared->Prop}{Q:Unit->Shared->Prop}(I:Inv X pins σ H s)(hN:X.N.Nodup)(hi:X.N[i]?=some x)(hx:Loc X.env.scope x)(r:RelV v u)
  (h:∀s',Inv X pins (σ.set i (some v)) H s'->Q () s') (hf:X.fn x=true\/X.env.scope.names.lookup x=some .local:=by assumption):wpAny M A (storeName X.env x u) Q E s:=
 zaaf I hN hi hx r (λs' I' _=>h s' I') hf
theorem Inv.call'{s':Shared}(I:Inv X pins σ H s)(ho:s'.os=s.os)(u:Un (frs X.stack) ch H H' s.heap s'.heap)(hok:HOk X.prog X.w H' s'.heap)(hg:AllBare s'.gens)
  (hch:∀b∈ch,(b∈X.ex\/X.s₀.heap.objs.size<=b)/\b≠X.env.locals/\(∀x c,X.env.cells.lookup x=some c->c≠b)/\∀p∈X.pn++pins,p.1≠b):Inv X pins σ H' s':=by
 obtain⟨h',g',d',t',o'⟩:=s'
 have e:o'=s.os:=ho
 subst e
 exact I.call (g':=g') (t':=t') (d':=d') u hok hg hch
end
abbrev XK:=Value->Option Addr->Hp->Prop
abbrev St:=List (Option V)
abbrev VK:=V->Hp->Prop
abbrev TE:=St->Hp->VK->Prop
abbrev TT:=St->Hp->(Bool->Hp->Prop)->Prop
abbrev TA:=St->Hp->(List V->Hp->Prop)->Prop
set_option genInjectivity false in
structure Ends where
 nx:St->Hp->Prop
 rt:VK
 bk:St->Hp->Prop:=λ_ _=>False
 ct:St->Hp->Prop:=λ_ _=>False
abbrev TS:=Ends->St->Hp->Prop
def EP(X:Cx)(pins:List (Addr×Obj))(σ:St)(Q:VK)(u:Value)(s':Shared):Prop:=∃v H',Inv X pins σ H' s'/\RelV v u/\Q v H'
def TP(X:Cx)(pins:List (Addr×Obj))(σ:St)(Q:Bool->Hp->Prop)(b:Bool)(s':Shared):Prop:=∃H',Inv X pins σ H' s'/\Q b H'
def AP(X:Cx)(pins:List (Addr×Obj))(σ:St)(Q:List V->Hp->Prop)(us:List Value)(s':Shared):Prop:=∃vs H',Inv X pins σ H' s'/\Vals vs us/\Q vs H'
def SP(X:Cx)(pins:List (Addr×Obj))(D:Ends)(f:Flow)(s':Shared):Prop:=
 match f with
 | .next=>∃σ' H',Inv X pins σ' H' s'/\D.nx σ' H'
 | .brk=>∃σ' H',Inv X pins σ' H' s'/\D.bk σ' H'
 | .cont=>∃σ' H',Inv X pins σ' H' s'/\D.ct σ' H'
 | .ret u=>∃v σ' H',Inv X pins σ' H' s'/\RelV v u/\D.rt v H'
def PE(X:Cx)(e:Expr)(t:TE):Prop:=
 ∀(pins:List (Addr×Obj))(s:Shared)(σ:St)(H:Hp)(Q:VK),Inv X pins σ H s->t σ H Q->wpAny (model X.prog X.w) X.A (eval e X.env) (EP X pins σ Q) X.xe s
def PT(X:Cx)(e:Expr)(t:TT):Prop:=
 ∀(pins:List (Addr×Obj))(s:Shared)(σ:St)(H:Hp)(Q:Bool->Hp->Prop),Inv X pins σ H s->t σ H Q->wpAny (model X.prog X.w) X.A (isTrue e X.env (eval e X.env)) (TP X pins σ Q) X.xe s
def PW(X:Cx)(e:Expr)(t:TT):Prop:=
 ∀(whole:Sem Value)(pins:List (Addr×Obj))(s:Shared)(σ:St)(H:Hp)(Q:Bool->Hp->Prop),Inv X pins σ H s->t σ H Q->wpAny (model X.prog X.w) X.A (isTrue e X.env whole) (TP X pins σ Q) X.xe s
theorem PW.pt(h:PW X e t):PT X e t:=h _
def PA(X:Cx)(es:List Expr)(t:TA):Prop:=
 ∀(pos:Pos)(pins:List (Addr×Obj))(s:Shared)(σ:St)(H:Hp)(Q:List V->Hp->Prop),Inv X pins σ H s->t σ H Q->wpAny (model X.prog X.w) X.A (spliced (backTo pos (starEach es X.env))) (AP X pins σ Q) X.xe s
def PS(X:Cx)(st:Stmt)(t:TS):Prop:=
 ∀(pins:List (Addr×Obj))(s:Shared)(σ:St)(H:Hp)(D:Ends),Inv X pins σ H s->t D σ H->wpAny (model X.prog X.w) X.A (exec st X.env) (SP X pins D) X.xe s
def PSs(X:Cx)(st:List Stmt)(t:TS):Prop:=
 ∀(pins:List (Addr×Obj))(s:Shared)(σ:St)(H:Hp)(D:Ends),Inv X pins σ H s->t D σ H->wpAny (model X.prog X.w) X.A (execs st X.env) (SP X pins D) X.xe s
theorem thn{Q Q':α->Shared->Prop}{E:Value->Shared->Prop}(h:wpAny M A t Q E s)(hQ:∀a s,Q a s->Q' a s):wpAny M A t Q' E s:=qBB h hQ λ_ _ x=>x
section
variable{X:Cx}
theorem bin(ha:PE X a ta)(hb:PE X b tb){R:V->V->Hp->Prop}(I:Inv X pins σ H s)(h:ta σ H λx H1=>tb σ H1 λy H2=>R x y H2)
  {Q:α->Shared->Prop}{f:Value->Value->Sem α}
  (hf:∀v u s2 x y H2,Inv X pins σ H2 s2->RelV x v->RelV y u->R x y H2->wpAny (model X.prog X.w) X.A (f v u) Q X.xe s2) :
  wpAny (model X.prog X.w) X.A (eval a X.env) (λv s₁=>wpAny (model X.prog X.w) X.A (eval b X.env) (λu s₂=>wpAny (model X.prog X.w) X.A (f v u) Q X.xe s₂) X.xe s₁) X.xe s:=by
 refine thn (ha pins s σ H _ I h) λv s1 ⟨x,H1,I1,r1,q1⟩=>?_
 refine thn (hb pins s1 σ H1 _ I1 q1) λu s2 ⟨y,H2,I2,r2,q2⟩=>?_
 exact hf v u s2 x y H2 I2 r1 r2 q2
def tVar(i:Nat):TE:=λσ H Q=>∃v,σ[i]?=some (some v)/\Q v H
def tC(v:V):TE:=λ_ H Q=>Q v H
theorem zafc(hN:X.N[i]?=some x)(hv:Vis X.env.scope x)(hd:(x==("__debug__":Str))=false:=by decide)(hcd:(x==("__classdict__":Str))=false:=by decide):PE X (.Name x pos) (tVar i):=by
 intro pins s σ H Q I h
 obtain⟨v,e,h⟩:=h
 obtain⟨m,hn,hl⟩:=I.loc
 obtain⟨u,r,l⟩:=hl i x v hN e hv
 have fin:EP X pins σ Q u s:=⟨v,H,I,r,h⟩
 rcases l with⟨hk,hm⟩|⟨hk,c,hc,hcell⟩
 ·exact wpAny_Name (wpAny_loadName_local I.ok.kind hk hn hm fin) hd
 ·rcases hk with hk|hk
  ·exact wpAny_Name (wpAny_loadName_cell I.ok.kind hk hc hcell fin) hd
  ·exact wpAny_Name (wpAny_loadName_free I.ok.kind hk hc hcell fin hcd) hd
theorem zib{i j pos}:PE X (.Constant (.int i) j pos) (tC (.int i)):=λ_ _ _ H _ I h=>wpAny_Constant_int ⟨.int i,H,I.tok _,⟨_,rfl⟩,h⟩
theorem zbbk{b j pos}:PE X (.Constant (.bool b) j pos) (tC (.bl b)):=λ_ _ _ H _ I h=>Constant_bool ⟨.bl b,H,I,rfl,h⟩
theorem zaxj{j pos}:PE X (.Constant .none j pos) (tC .non):=λ_ _ _ H _ I h=>Constant_none ⟨.non,H,I,rfl,h⟩
theorem zaxk{x j pos}:PE X (.Constant (.str x) j pos) (tC (.str x)):=λ_ _ _ H _ I h=>qDd ⟨.str x,H,I.tok _,⟨_,rfl⟩,h⟩
def Gl(X:Cx)(x:Str):Prop:=X.env.kindOf x=some .globalImplicit
theorem zte{E:Value->Shared->Prop}{Q:Value->Shared->Prop}(I:Inv X pins σ H s)(hg:Gl X x)(hm:X.mg x=some u)(h:Q u s)
  (hd:(x==("__debug__":Str))=false:=by decide):wpAny (model X.prog X.w) X.A (eval (.Name x pos) X.env) Q E s:=
 qCp I.ok.kind hg (Calls.loadGlobal_global (by rw[I.ok.glob];exact I.mod.glob.keeps I.bk) hm h) hd
theorem ztf{E:Value->Shared->Prop}{Q:Value->Shared->Prop}(I:Inv X pins σ H s)(hg:Gl X x)(hm:X.mg x=none)(hv:bootBuiltins x=some u)(h:Q u s)
  (hn:x≠"__name__":=by decide) (hd:(x==("__debug__":Str))=false:=by decide):wpAny (model X.prog X.w) X.A (eval (.Name x pos) X.env) Q E s:=by
 obtain⟨mb,h1,h2⟩:=I.mod.blt
 exact qCp I.ok.kind hg (Calls.loadGlobal_builtin (by rw[I.ok.glob];exact I.mod.glob.keeps I.bk) hm (by rw[I.ok.blt];exact h1.keeps I.bk) ((h2 x hn).trans hv) h) hd
theorem zatp(hg:Gl X x)(hm:X.mg x=none)(hv:bootBuiltins x=some u)(r:RelV v u)(hn:x≠"__name__":=by decide)(hd:(x==("__debug__":Str))=false:=by decide):PE X (.Name x pos) (tC v):=
 λ_ _ _ H _ I h=>ztf I hg hm hv ⟨v,H,I,r,h⟩ hn hd
variable{a b:Expr}{ta tb:TE}{pos:Pos}
def PC(X:Cx)(op:CmpOp)(a b:Expr)(t:TE):Prop:=
 ∀(pins:List (Addr×Obj))(s:Shared)(σ:St)(H:Hp)(Q:VK),Inv X pins σ H s->t σ H Q->
  wpAny (model X.prog X.w) X.A (eval a X.env) (λv s₁=>wpAny (model X.prog X.w) X.A (eval b X.env) (λu s₂=>wpAny (model X.prog X.w) X.A (compareOp op v u) (EP X pins σ Q) X.xe s₂) X.xe s₁) X.xe s
def tB(t:TE):TT:=λσ H Q=>t σ H λx H1=>∃c,x=.bl c/\Q c H1
theorem zaxl(h:PC X op a b t)(h1:behindInMarks op b=false:=by rfl):PE X (.Compare a [op] [b] pos) t:=λpins s σ H Q I hw=>wpAny_Compare1 (h pins s σ H Q I hw) h1
variable{tA tB':TT}{rest:List Expr}
def tAnd(t u:TT):TT:=λσ H Q=>t σ H λc H1=>if c=true then u σ H1 Q else Q false H1
def tOr(t u:TT):TT:=λσ H Q=>t σ H λc H1=>if c=true then Q true H1 else u σ H1 Q
def tNot(t:TT):TT:=λσ H Q=>t σ H λc H1=>Q (!c) H1
theorem zatq(ha:PT X a tA):PW X (.BoolOp .And [a] pos) tA:=by
 intro wh pins s σ H Q I h
 refine isTrue_and (thn (ha pins s σ H Q I h) λc s1 e=>?_)
 cases c with
 | true=>exact isTrue_and_nil e
 | false=>exact e
theorem zaxm(ha:PT X a tA):PW X (.BoolOp .Or [a] pos) tA:=by
 intro wh pins s σ H Q I h
 refine isTrue_or (thn (ha pins s σ H Q I h) λc s1 e=>?_)
 cases c with
 | false=>exact isTrue_or_nil e
 | true=>exact e
theorem zaxn(ha:PT X a tA)(hb:PW X (.BoolOp .And (b::rest) pos) tB'):PW X (.BoolOp .And (a::b::rest) pos) (tAnd tA tB'):=by
 intro wh pins s σ H Q I h
 refine isTrue_and (thn (ha pins s σ H _ I h) λc s1 ⟨H1,I1,q1⟩=>?_)
 cases c with
 | true=>exact hb wh pins s1 σ H1 Q I1 q1
 | false=>exact⟨H1,I1,q1⟩
theorem zbbl(ha:PT X a tA)(hb:PW X (.BoolOp .Or (b::rest) pos) tB'):PW X (.BoolOp .Or (a::b::rest) pos) (tOr tA tB'):=by
 intro wh pins s σ H Q I h
 refine isTrue_or (thn (ha pins s σ H _ I h) λc s1 ⟨H1,I1,q1⟩=>?_)
 cases c with
 | true=>exact⟨H1,I1,q1⟩
 | false=>exact hb wh pins s1 σ H1 Q I1 q1
theorem zaxo(ha:PT X a tA):PT X (.UnaryOp .Not a pos) (tNot tA):=by
 intro pins s σ H Q I h
 exact isTrue_not (ha pins s σ H (λc H1=>Q (!c) H1) I h)
def tAndV(ta tb:TE):TE:=λσ H Q=>ta σ H λx H1=>∃c,x=.bl c/\if c=true then tb σ H1 Q else Q (.bl false) H1
theorem zaxp{op}(h:PE X a t):PE X (.BoolOp op [a] pos) t:=λpins s σ H Q I hw=>BoolOp_one (h pins s σ H Q I hw)
theorem zaxq(ha:PE X a ta)(hb:PE X (.BoolOp .And (b::rest) pos) tb):PE X (.BoolOp .And (a::b::rest) pos) (tAndV ta tb):=by
 intro pins s σ H Q I h
 refine BoolOp_and (thn (ha pins s σ H _ I h) λv s1 ⟨x,H1,I1,r1,q1⟩=>?_)
 obtain⟨c,rfl,q1⟩:=q1
 cases r1
 refine qBr ?_
 cases c with
 | true=>exact hb pins s1 σ H1 Q I1 q1
 | false=>exact⟨.bl false,H1,I1,rfl,q1⟩
end
def SqL(K:qB)(H:Hp)(a:Addr)(xs:List V):Prop:=
 Rd H a (.lst xs)\/
  ∃(o:Obj)(its:Array Value)(n:Nat),K.lookup a=some o/\o.cls=.type "list"/\o.dict=none/\o.data=.seq its n/\its.size<=qU/\Vals xs its.toList
def SqT(K:qB)(H:Hp)(a:Addr)(xs:List V):Prop:=
 Rd H a (.tup xs)\/
  ∃(o:Obj)(its:Array Value)(n:Nat),K.lookup a=some o/\o.cls=.type "tuple"/\o.data=.seq its n/\its.size<=qU/\Vals xs its.toList
def absV:Value->Option V
 | .none=>some .non
 | .bool b=>some (.bl b)
 | .int i _=>some (.int i)
 | .str x _=>some (.str x)
 | .bytes b _=>some (.byt b)
 | .float b _=>some (.flt b)
 | .ref a=>some (.ref a)
 | .type n=>some (.ty n)
 | _=>none
theorem RelV.abs(r:RelV x u):absV u=some x:=by
 cases x with
 | non=>cases r;rfl
 | bl _=>cases r;rfl
 | int _=>obtain⟨t,rfl⟩:=r;rfl
 | str _=>obtain⟨t,rfl⟩:=r;rfl
 | byt _=>obtain⟨t,rfl⟩:=r;rfl
 | flt _=>obtain⟨t,rfl⟩:=r;rfl
 | ref _=>cases r;rfl
 | ty _=>cases r;rfl
theorem RelV.inj(r:RelV x u)(q:RelV y u):x=y:=qX (r.abs.symm.trans q.abs)
theorem Vals.inj:∀{xs ys:List V}{us:List Value},Vals xs us->Vals ys us->xs=ys
 | _,_,_,.nil,.nil=>rfl
 | _,_,_,.cons r t,.cons r' t'=>by rw[r.inj r',Vals.inj t t']
section
variable{X:Cx}{pins:List (Addr×Obj)}{σ:St}{H:Hp}{s:Shared}{a:Addr}{xs ys:List V}
theorem SqL.of{K:qB}(h:H a=some (.lst xs)):SqL K H a xs:=.inl (.inl h)
theorem SqT.of{K:qB}(h:H a=some (.tup xs)):SqT K H a xs:=.inl (.inl h)
theorem Inv.list(I:Inv X pins σ H s)(h:SqL X.K H a xs):∃its:List Value,Vals xs its/\PlainL s.heap a its.toArray/\xs.length<=qU:=by
 rcases h with h|⟨o,its,n,hk,hc,hd,hs,hz,r⟩
 ·obtain⟨z,its,n,r,e⟩:=h.ok I.hok
  exact⟨its,r,⟨_,n,e,rfl,rfl,rfl⟩,z⟩
 ·refine⟨its.toList,r,⟨o,n,I.kIn a o hk,hc,hd,by simpa using hs⟩,?_⟩
  have e:=r.length
  simp only[qCP]at e
  omega
theorem Inv.tuple(I:Inv X pins σ H s)(h:SqT X.K H a xs):∃its:List Value,Vals xs its/\IsTup s.heap a its.toArray/\xs.length<=qU:=by
 rcases h with h|⟨o,its,n,hk,hc,hs,hz,r⟩
 ·obtain⟨z,its,r,p⟩:=h.ok I.hok
  exact⟨its,r,p,z⟩
 ·refine⟨its.toList,r,⟨o,I.kIn a o hk,hc,n,by simpa using hs⟩,?_⟩
  have e:=r.length
  simp only[qCP]at e
  omega
theorem Inv.list_inj(I:Inv X pins σ H s)(h:SqL X.K H a xs)(h':SqL X.K H a ys):xs=ys:=by
 obtain⟨its,r,⟨o,n,e,_,_,d⟩,_⟩:=I.list h
 obtain⟨its',r',⟨o',n',e',_,_,d'⟩,_⟩:=I.list h'
 rw[e]at e';cases e'
 rw[d]at d'
 injection d' with d1 _
 have:its=its':=by simpa using congrArg Array.toList d1
 subst this
 exact r.inj r'
theorem Inv.tuple_inj(I:Inv X pins σ H s)(h:SqT X.K H a xs)(h':SqT X.K H a ys):xs=ys:=by
 obtain⟨its,r,⟨o,e,_,n,d⟩,_⟩:=I.tuple h
 obtain⟨its',r',⟨o',e',_,n',d'⟩,_⟩:=I.tuple h'
 rw[e]at e';cases e'
 rw[d]at d'
 injection d' with d1 _
 have:its=its':=by simpa using congrArg Array.toList d1
 subst this
 exact r.inj r'
end
abbrev Cx.wish(X:Cx)(E:Value->Shared->Prop):Cx:={X with xe:=E}
abbrev Cx.nox(X:Cx):Cx:=X.wish λ_ _=>False
theorem Cx.Ok.wish{X:Cx}(ok:X.Ok)(E:Value->Shared->Prop):(X.wish E).Ok:=
 ⟨ok.mod,ok.kind,ok.glob,ok.blt,ok.above,ok.inj,ok.has,ok.cab,ok.hd,ok.frames,ok.stk,ok.exf,ok.bs,ok.bsz,ok.noex,ok.exfs,ok.funs,ok.frf⟩
theorem Cx.Ok.unwish{X:Cx}{E:Value->Shared->Prop}(ok:(X.wish E).Ok):X.Ok:=
 ⟨ok.mod,ok.kind,ok.glob,ok.blt,ok.above,ok.inj,ok.has,ok.cab,ok.hd,ok.frames,ok.stk,ok.exf,ok.bs,ok.bsz,ok.noex,ok.exfs,ok.funs,ok.frf⟩
section
variable{X:Cx}{pins:List (Addr×Obj)}{σ:St}{H:Hp}{s:Shared}{E:Value->Shared->Prop}
theorem Inv.wish(I:Inv X pins σ H s)(E:Value->Shared->Prop):Inv (X.wish E) pins σ H s:=⟨I.ok.wish E,I.os,I.bare,I.base,I.loc,I.cell,I.free,I.freeC,I.pin,I.hok,I.len⟩
theorem Inv.unwish(I:Inv (X.wish E) pins σ H s):Inv X pins σ H s:=⟨I.ok.unwish,I.os,I.bare,I.base,I.loc,I.cell,I.free,I.freeC,I.pin,I.hok,I.len⟩
theorem SP.unwish(h:SP (X.wish E) pins D f s'):SP X pins D f s':=by
 cases f with
 | next=>obtain⟨σ',H',I,q⟩:=h;exact⟨σ',H',I.unwish,q⟩
 | brk=>obtain⟨σ',H',I,q⟩:=h;exact⟨σ',H',I.unwish,q⟩
 | cont=>obtain⟨σ',H',I,q⟩:=h;exact⟨σ',H',I.unwish,q⟩
 | ret u=>obtain⟨v,σ',H',I,r,q⟩:=h;exact⟨v,σ',H',I.unwish,r,q⟩
theorem PSs.nox{st:List Stmt}{t:TS}(h:PSs X.nox st t):PSs X st t:=λpins s σ H D I hw=>
 qBB (h pins s σ H D (I.wish _) hw) (λ_ _ q=>q.unwish) λ_ _ z=>False.elim z
end
section
variable{X:Cx}{st:Stmt}{rest:List Stmt}{t u:TS}{e:Expr}{te:TE}{pos:Pos}
def tNext:TS:=λD σ H=>D.nx σ H
def tSeq(t u:TS):TS:=λD σ H=>t {D with nx:=u D} σ H
theorem zatr:PSs X [] tNext:=λ_ _ σ H _ I h=>qB5 ⟨σ,H,I,h⟩
theorem zlz(h1:PS X st t)(h2:PSs X rest u):PSs X (st::rest) (tSeq t u):=by
 intro pins s σ H D I h
 refine qC3 (thn (h1 pins s σ H {D with nx:=u D} I h) λf s1 q=>?_)
 cases f with
 | next=>
  obtain⟨σ',H',I',q⟩:=q
  exact h2 pins s1 σ' H' D I' q
 | ret v=>exact q
 | brk=>exact q
 | cont=>exact q
theorem znh(h1:PS X st t):PSs X [st] t:=by
 intro pins s σ H D I h
 refine qC3 (thn (h1 pins s σ H D I h) λf s1 q=>?_)
 cases f with
 | next=>exact qB5 q
 | ret v=>exact q
 | brk=>exact q
 | cont=>exact q
theorem Inv.quiet(I:Inv X pins σ H s):interactive X.env=false:=by simp[interactive,I.ok.kind]
def tDrop(te:TE):TS:=λD σ H=>te σ H λ_ H1=>D.nx σ H1
theorem zyo(he:PE X e te)(hs:swapsWith e none pos.line X.env=pure false:=by rfl):PS X (.Expr e pos) (tDrop te):=by
 intro pins s σ H D I h
 exact wpAny_Expr_any (thn (he pins s σ H _ I h) λv s1 ⟨x,H1,I1,r1,q1⟩=>⟨σ,H1,I1,q1⟩) I.quiet hs
def tRet(te:TE):TS:=λD σ H=>te σ H D.rt
theorem zart(he:PE X e te):PS X (.Return (some e) pos) (tRet te):=by
 intro pins s σ H D I h
 exact wpAny_Return_some (thn (he pins s σ H _ I h) λv s1 ⟨x,H1,I1,r1,q1⟩=>⟨x,σ,H1,I1,r1,q1⟩)
def tIfS(c:TT)(t u:TS):TS:=λD σ H=>c σ H λb H1=>if b=true then t D σ H1 else u D σ H1
theorem zaxr(hc:PT X c tc)(ha:PSs X a t)(hb:PSs X b u):PS X (.If c a b pos) (tIfS tc t u):=by
 intro pins s σ H D I h
 refine wpAny_If (thn (hc pins s σ H _ I h) λd s1 ⟨H1,I1,q1⟩=>?_)
 cases d with
 | true=>exact ha pins s1 σ H1 D I1 q1
 | false=>exact hb pins s1 σ H1 D I1 q1
def tNever:TS:=λ_ _ _=>False
theorem zaog:PS X st tNever:=λ_ _ _ _ _ _ h=>h.elim
end
abbrev TG:=V->St->Hp->(St->Hp->Prop)->Prop
abbrev TGs:=List V->St->Hp->(St->Hp->Prop)->Prop
def PG(X:Cx)(target:Expr)(t:TG):Prop:=
 ∀(pins:List (Addr×Obj))(s:Shared)(σ:St)(H:Hp)(v:V)(u:Value)(Q:St->Hp->Prop),Inv X pins σ H s->RelV v u->t v σ H Q->
  wpAny (model X.prog X.w) X.A (assign target X.env u) (λ_ s'=>∃σ' H',Inv X pins σ' H' s'/\Q σ' H') X.xe s
def PGs(X:Cx)(ts:List Expr)(t:TGs):Prop:=
 ∀(pins:List (Addr×Obj))(s:Shared)(σ:St)(H:Hp)(vs:List V)(us:List Value)(Q:St->Hp->Prop),Inv X pins σ H s->Vals vs us->t vs σ H Q->
  wpAny (model X.prog X.w) X.A (assignInOrder ((assignEach ts X.env).map (·.2)) us) (λ_ s'=>∃σ' H',Inv X pins σ' H' s'/\Q σ' H') X.xe s
abbrev TSet:=V->V->V->Hp->(Hp->Prop)->Prop
def PSet(X:Cx)(t:TSet):Prop:=
 ∀(pins:List (Addr×Obj))(s:Shared)(σ:St)(H:Hp)(o i v:V)(ov iv u:Value)(Q:Hp->Prop),Inv X pins σ H s->RelV o ov->RelV i iv->RelV v u->t o i v H Q->
  wpAny (model X.prog X.w) X.A (setItem ov iv u) (λ_ s'=>∃H',Inv X pins σ H' s'/\Q H') X.xe s
section
variable{X:Cx}{pos:Pos}
def gName(i:Nat):TG:=λv σ H Q=>Q (σ.set i (some v)) H
theorem zadk(hN:X.N.Nodup)(hi:X.N[i]?=some x)(hx:Loc X.env.scope x)(hf:X.fn x=true\/X.env.scope.names.lookup x=some .local:=by assumption):PG X (.Name x pos) (gName i):=by
 intro pins s σ H v u Q I r h
 exact wpAny_assign_Name (zyn I hN hi hx r (λs' I'=>⟨_,H,I',h⟩) hf)
def gNil:TGs:=λvs σ H Q=>vs=[]/\Q σ H
def gCons(t:TG)(u:TGs):TGs:=λvs σ H Q=>∃v r,vs=v::r/\t v σ H λσ' H'=>u r σ' H' Q
theorem zats:PGs X [] gNil:=by
 intro pins s σ H vs us Q I r h
 obtain⟨e,h⟩:=h
 subst e
 cases r
 exact assignInOrder_nil ⟨σ,H,I,h⟩
theorem zaoh(h1:PG X e t)(h2:PGs X es u)
  (hs:(assignEach (e::es) X.env).map (·.2)=assign e X.env::(assignEach es X.env).map (·.2):=by rfl):PGs X (e::es) (gCons t u):=by
 intro pins s σ H vs us Q I r h
 obtain⟨v,vr,e1,h⟩:=h
 subst e1
 cases r with
 | cons r rr=>
  rw[hs]
  refine assignInOrder_cons (thn (h1 pins s σ H _ _ _ I r h) λ_ s1 ⟨σ1,H1,I1,q1⟩=>?_)
  exact h2 pins s1 σ1 H1 _ _ Q I1 rr q1
def gTup(K:qB)(n:Nat)(t:TGs):TG:=λv σ H Q=>∃a xs,v=.ref a/\SqT K H a xs/\xs.length=n/\t xs σ H Q
theorem zaxs(hc:X.calm=true)(h:PGs X es t)
  (hn:(assignEach es X.env).length=n:=by rfl) (hst:(assignEach es X.env).findIdx? (·.1)=none:=by rfl):PG X (.Tuple es k pos) (gTup X.K n t):=by
 intro pins s σ H v u Q I r hw
 obtain⟨a,xs,e1,hq,hl,hw⟩:=hw
 subst e1
 cases r
 obtain⟨its,rv,ht,hz⟩:=I.tuple hq
 refine assign_Tuple_tuple (I.ok.hd hc) ht (by simp[hn,<- hl,rv.length]) hst λh' hx=>?_
 have I1:Inv X pins σ H {s with heap:=h'}:=I.kept (t':=s.toks) λb o e=>hx b o (qi (qJ e)) e
 exact h pins _ σ H xs _ Q I1 (by simpa using rv) hw
def gSub(to ti:TE)(t:TSet):TG:=λv σ H Q=>to σ H λo H1=>ti σ H1 λi H2=>t o i v H2 λH3=>Q σ H3
theorem zaxt(ho:PE X o to)(hi:PE X i ti)(hs:PSet X t)
  (ha:∀v,assign (.Subscript o i pos) X.env v=(do
   let ov <- holding [v] (eval o X.env)
   let iv <- holding [v,ov] (eval i X.env)
   standAt pos
   holding [v,ov,iv] (setItem ov iv v)
   release [v,ov,iv] []):=by intro _;rfl):PG X (.Subscript o i pos) (gSub to ti t):=by
 intro pins s σ H v u Q I r h
 rw[ha]
 refine qD (qBp (thn (ho pins s σ H _ I h) λov s1 ⟨x,H1,I1,r1,q1⟩=>?_))
 refine qD (qBp (thn (hi pins s1 σ H1 _ I1 q1) λiv s2 ⟨y,H2,I2,r2,q2⟩=>?_))
 refine qD (qBV (qD (qBp (thn (hs pins s2 σ H2 x y v ov iv u _ I2 r1 r2 r q2) λ_ s3 ⟨H3,I3,q3⟩=>?_))))
 exact wpAny_release ⟨σ,H3,I3,q3⟩
def tAsg(te:TE)(g:TG):TS:=λD σ H=>te σ H λx H1=>g x σ H1 D.nx
theorem zaru(he:PE X e te)(hg:PG X tg g)(hs:swapsWithSole [tg] e pos.line X.env=pure false:=by rfl)(hw:swappedStores [tg] e X.env=pure none:=by rfl)
  (h1:(assignEach [tg] X.env).map (·.2)=[assign tg X.env]:=by rfl):PS X (.Assign [tg] e pos) (tAsg te g):=by
 intro pins s σ H D I h
 refine wpAny_Assign_stores (thn (he pins s σ H _ I h) λv s1 ⟨x,H1,I1,r1,q1⟩=>?_) hs hw
 rw[h1]
 exact thn (hg pins s1 σ H1 x v _ I1 r1 q1) λ_ s2 q=>q
theorem zafd(hN:X.N.Nodup)(hi:X.N[i]?=some x)(hx:Loc X.env.scope x)(he:PE X e te)(hs:swapsWith e (some (.Name x pos')) pos.line X.env=pure false:=by rfl)(hf:X.fn x=true\/X.env.scope.names.lookup x=some .local:=by assumption) :
  PS X (.Assign [.Name x pos'] e pos) (tAsg te (gName i)):=by
 intro pins s σ H D I h
 refine wpAny_Assign_Name (thn (he pins s σ H _ I h) λv s1 ⟨y,H1,I1,r1,q1⟩=>?_) hs
 exact zyn I1 hN hi hx r1 (λs2 I2=>⟨_,H1,I2,q1⟩) hf
end
set_option genInjectivity false in
structure It where
 go:Nat->Hp->Prop
 yld:Nat->Hp->V->Hp->Prop
 stop:Nat->Hp->Prop
def FpOk(X:Cx)(pins:List (Addr×Obj))(H:Hp)(b:Addr):Prop:=
 H b=none/\b≠X.env.locals/\b∉X.fs/\(b∈X.ex\/X.s₀.heap.objs.size<=b)/\(∀x c,X.env.cells.lookup x=some c->c≠b)/\∀p∈X.pn++pins,p.1≠b
theorem Inv.fpOk{s:Shared}(I:Inv X pins σ H s)(hb:s.heap.objs.size<=b)(hn:H' b=none):FpOk X pins H' b:=by
 refine⟨hn,qBc (qe I.lt hb),I.nofs hb,.inr (qAI I.sz hb),λx c e z=>?_,λp hp z=>?_⟩
 ·obtain⟨v,q⟩:=I.cell x c e
  exact absurd (qe q.lt (by rw[z];exact hb)) (qBJ _)
 ·exact absurd (qe (qJ (I.pin p hp).1) (by rw[z];exact hb)) (qBJ _)
set_option genInjectivity false in
structure Turn(P:Program)(w:World)(K:qB)(tg:Expr)(J:It)(fp:List Addr)(it:Addr)(tn:Nat->Heap->Prop):Prop where
 mem:it∈fp
 obj:∀i h,tn i h->∀b∈fp,∃o,h.get? b=some o/\∀v,o.data≠.cell v
 keep:∀i h h',tn i h->(∀b∈fp,∀o,h.get? b=some o->h'.get? b=some o)->tn i h'
 item:∀(X:Cx),X.prog=P->X.w=w->X.K=K->X.calm=true->∀(i:Nat)(pins:List (Addr×Obj))(s:Shared)(σ:St)(H:Hp)(E:Value->Shared->Prop),Inv X pins σ H s->(∀b∈fp,FpOk X pins H b)->tn i s.heap->J.go i H->
  wpAny (model P w) X.A (pyNext (.ref it)) (λr s1=>∃u,r=some u/\
   wpAny (model P w) X.A (letOwnedTupleGo tg (.ref it) u) (λ_ s2=>∃x H',Inv X pins σ H' s2/\RelV x u/\J.yld i H x H'/\tn (i+1) s2.heap/\∀b∈fp,H' b=none) E s1) E s
 done:∀(X:Cx),X.prog=P->X.w=w->X.K=K->X.calm=true->∀(i:Nat)(pins:List (Addr×Obj))(s:Shared)(σ:St)(H:Hp)(E:Value->Shared->Prop),Inv X pins σ H s->(∀b∈fp,FpOk X pins H b)->tn i s.heap->J.stop i H->
  wpAny (model P w) X.A (pyNext (.ref it)) (λr s1=>r=none/\Inv X pins σ H s1) E s
 self:∀(A:Around)(i:Nat)(s:Shared)(Q:Value->Shared->Prop)(E:Value->Shared->Prop),tn i s.heap->Q (.ref it) s->wpAny (model P w) A (pyIter (.ref it)) Q E s
abbrev TI:=St->Hp->(It->Hp->Prop)->Prop
def PIE(X:Cx)(pins:List (Addr×Obj))(σ:St)(tg:Expr)(R:It->Hp->Prop)(itv:Value)(s2:Shared):Prop:=
 ∃(it:Addr)(fp:List Addr)(tn:Nat->Heap->Prop)(J:It)(H':Hp),itv=.ref it/\Inv X pins σ H' s2/\Turn X.prog X.w X.K tg J fp it tn/\tn 0 s2.heap/\(∀b∈fp,FpOk X pins H' b)/\R J H'
def PI(X:Cx)(tg iter:Expr)(wi:TI):Prop:=
 ∀(pins:List (Addr×Obj))(s:Shared)(σ:St)(H:Hp)(R:It->Hp->Prop),Inv X pins σ H s->wi σ H R->
  wpAny (model X.prog X.w) X.A (eval iter X.env) (λv s1=>wpAny (model X.prog X.w) X.A (pyIter v) (PIE X pins σ tg R) X.xe s1) X.xe s
theorem zatt{E:Value->Shared->Prop}{s:Shared}{o:Obj}{Q:Unit->Shared->Prop}(ho:s.heap.get? it=some o)(hc:o.cls=.type n)(hd:o.data=.fields vs)
  (hn:["enumerate","zip","dict_itemiterator","dict_reverseitemiterator","odict_iterator","itertools.zip_longest","itertools.pairwise"].contains n=false) (hQ:Q () s):wpAny M A (letOwnedTupleGo tg (.ref it) u) Q E s:=by
 unfold letOwnedTupleGo
 cases tg<;>first
  | exact qI hQ
  | (cases u<;>first
    | exact qI hQ
    | (refine qD (wpAny_load ho ?_)
       rw[hc,hd]
       show wpAny M A (if(["enumerate","zip","dict_itemiterator","dict_reverseitemiterator","odict_iterator","itertools.zip_longest","itertools.pairwise"].contains n&&vs[0]?==some (rawInt _))=true then _ else _) Q E s
       rw[if_neg (by intro h;rw[hn,Bool.false_and]at h;cases h)]
       exact qI hQ))
def Itl(K:qB)(a:Addr):It:=
 ⟨λi H=>∃xs x,SqL K H a xs/\xs[i]?=some x,λi H x H'=>H'=H/\∀xs,SqL K H a xs->xs[i]?=some x,λi H=>∃xs,SqL K H a xs/\xs.length<=i⟩
def Itt(K:qB)(a:Addr):It:=
 ⟨λi H=>∃xs x,SqT K H a xs/\xs[i]?=some x,λi H x H'=>H'=H/\∀xs,SqT K H a xs->xs[i]?=some x,λi H=>∃xs,SqT K H a xs/\xs.length<=i⟩
def Itr(lo:Int)(n:Nat):It:=⟨λi _=>i<n,λi H x H'=>H'=H/\x=.int (lo+i),λi _=>n<=i⟩
theorem zaag{P:Program}{w:World}{K:qB}{tg:Expr}(a it:Addr):Turn P w K tg (Itl K a) [it] it (λi h=>h.IsListIter it a i) where
 mem:=by simp
 obj:=λi h st b hb=>by
  have e:b=it:=by simpa using hb
  subst e
  obtain⟨o,e,c,d⟩:=st
  exact⟨o,e,λv z=>by rw[d]at z;cases z⟩
 keep:=λi h h' st k=>st.at λo e=>k it (by simp) o e
 item:=by
  intro X hP hw hK hc i pins s σ H E I hf st hg
  subst hP hw hK
  obtain⟨xs,x,hq,hx⟩:=hg
  obtain⟨its,rv,p,hz⟩:=I.list hq
  obtain⟨u,hu,ru⟩:=rv.get hx
  obtain⟨f0,f1,f2,f3,f4,f5⟩:=hf it (by simp)
  refine wpAny_pyNext_list_item st p.isList (x:=u) (by simpa using hu) λh' st' sb=>?_
  have I1:Inv X pins σ H {s with heap:=h'}:=I.turned (t':=s.toks) (λb o hb e=>(sb.2 b hb).trans e) f0 f1 f3 f4 f5
  obtain⟨o,e,c,d⟩:=id st'
  exact⟨u,rfl,zatt (s:={s with heap:=h'}) e c d (by decide) ⟨x,H,I1,ru,⟨rfl,λys hy=>by rw[I.list_inj hy hq];exact hx⟩,st',λb hb=>(hf b hb).1⟩⟩
 done:=by
  intro X hP hw hK hc i pins s σ H E I hf st hg
  subst hP hw hK
  obtain⟨xs,hq,hx⟩:=hg
  obtain⟨its,rv,p,hz⟩:=I.list hq
  obtain⟨f0,f1,f2,f3,f4,f5⟩:=hf it (by simp)
  have hl:=rv.length
  exact wpAny_pyNext_list_end (I.ok.hd hc) st p.isList (by simp;omega) λh' eb=>⟨rfl,I.turned (t':=s.toks) (λb o hb e=>eb b o hb e) f0 f1 f3 f4 f5⟩
 self:=λ_ _ _ _ _ st h=>wpAny_pyIter_listiter st h
theorem zahj{P:Program}{w:World}{K:qB}{tg:Expr}(a it:Addr):Turn P w K tg (Itt K a) [it] it (λi h=>h.IsTupleIter it a i) where
 mem:=by simp
 obj:=λi h st b hb=>by
  have e:b=it:=by simpa using hb
  subst e
  obtain⟨o,e,c,d⟩:=st
  exact⟨o,e,λv z=>by rw[d]at z;cases z⟩
 keep:=λi h h' st k=>st.at λo e=>k it (by simp) o e
 item:=by
  intro X hP hw hK hc i pins s σ H E I hf st hg
  subst hP hw hK
  obtain⟨xs,x,hq,hx⟩:=hg
  obtain⟨its,rv,p,hz⟩:=I.tuple hq
  obtain⟨u,hu,ru⟩:=rv.get hx
  obtain⟨f0,f1,f2,f3,f4,f5⟩:=hf it (by simp)
  refine wpAny_pyNext_tuple_item st (show s.heap.IsTuple a its.toArray from p) (x:=u) (by simpa using hu) λh' st' sb=>?_
  have I1:Inv X pins σ H {s with heap:=h'}:=I.turned (t':=s.toks) (λb o hb e=>(sb.2 b hb).trans e) f0 f1 f3 f4 f5
  obtain⟨o,e,c,d⟩:=id st'
  exact⟨u,rfl,zatt (s:={s with heap:=h'}) e c d (by decide) ⟨x,H,I1,ru,⟨rfl,λys hy=>by rw[I.tuple_inj hy hq];exact hx⟩,st',λb hb=>(hf b hb).1⟩⟩
 done:=by
  intro X hP hw hK hc i pins s σ H E I hf st hg
  subst hP hw hK
  obtain⟨xs,hq,hx⟩:=hg
  obtain⟨its,rv,p,hz⟩:=I.tuple hq
  obtain⟨f0,f1,f2,f3,f4,f5⟩:=hf it (by simp)
  have hl:=rv.length
  exact wpAny_pyNext_tuple_end (I.ok.hd hc) st (show s.heap.IsTuple a its.toArray from p) (by simp;omega) λh' eb=>⟨rfl,I.turned (t':=s.toks) (λb o hb e=>eb b o hb e) f0 f1 f3 f4 f5⟩
 self:=λ_ _ _ _ _ st h=>wpAny_pyIter_tupleiter st h
theorem zahk{P:Program}{w:World}{K:qB}{tg:Expr}(it:Addr)(lo:Int)(n:Nat):Turn P w K tg (Itr lo n) [it] it (λi h=>IsRangeIter h it (lo+(i:Nat) * 1) ((n:Int) - (i:Nat)) 1) where
 mem:=by simp
 obj:=λi h st b hb=>by
  have e:b=it:=by simpa using hb
  subst e
  exact⟨_,st,λv z=>by
   have z':Data.fields _=Data.cell v:=z
   cases z'⟩
 keep:=λi h h' st k=>k it (by simp) _ st
 item:=by
  intro X hP hw hK hc i pins s σ H E I hf st hg
  subst hP hw hK
  obtain⟨f0,f1,f2,f3,f4,f5⟩:=hf it (by simp)
  have W:=Walks.range (prog:=X.prog) (w:=X.w) (I.ok.hd hc) it lo 1 n
  refine W.item i s _ _ hg st λv h' tk hv st' kk=>?_
  obtain⟨t,rfl⟩:=hv
  have I1:Inv X pins σ H {s with heap:=h',toks:=tk}:=I.turned (λb o hb e=>kk b o (by simpa using hb) e) f0 f1 f3 f4 f5
  refine⟨_,rfl,zatt (s:={s with heap:=h',toks:=tk}) (n:="range_iterator") st' rfl rfl (by decide) ⟨.int (lo+i),H,I1,⟨t,?_⟩,⟨rfl,rfl⟩,st',λb hb=>(hf b hb).1⟩⟩
  rw[Int.mul_one]
 done:=by
  intro X hP hw hK hc i pins s σ H E I hf st hg
  subst hP hw hK
  obtain⟨f0,f1,f2,f3,f4,f5⟩:=hf it (by simp)
  exact wpAny_pyNext_range_end (I.ok.hd hc) st (by have:n<=i:=hg;omega) λh' eb=>⟨rfl,I.turned (t':=s.toks) (λb o hb e=>eb b o hb e) f0 f1 f3 f4 f5⟩
 self:=λ_ _ _ _ _ st h=>wpAny_pyIter_rangeiter st h
section
variable{X:Cx}{tg:Expr}
def zaxu(K:qB)(tl:TE):TI:=λσ H R=>tl σ H λx H1=>∃a,x=.ref a/\(∃xs,SqL K H1 a xs)/\R (Itl K a) H1
theorem zatu{l:Expr}{tl:TE}(hl:PE X l tl):PI X tg l (zaxu X.K tl):=by
 intro pins s σ H R I h
 refine thn (hl pins s σ H _ I h) λv s1 ⟨x,H1,I1,r1,q1⟩=>?_
 obtain⟨a,e,⟨xs,hq⟩,q⟩:=q1
 subst e
 cases r1
 obtain⟨its,rv,p,hz⟩:=I1.list hq
 refine qA6 p.isList ?_
 refine⟨s1.heap.objs.size,[s1.heap.objs.size],_,_,H1,rfl,I1.kept (t':=s1.toks) λb o e=>qF _ e,zaag a _,⟨_,qY _ rfl,rfl,rfl⟩,λb hb=>?_,q⟩
 have e:b=s1.heap.objs.size:=by simpa using hb
 subst e
 exact I1.fpOk (qL _) (I1.hok.fresh (qL _))
theorem zaoi{pins:List (Addr×Obj)}{σ:St}{H:Hp}{s:Shared}{R:It->Hp->Prop}{E:Value->Shared->Prop}{lo hi:Int}{t u v:Tok}{tk:Nat}(I:Inv X pins σ H s)(h1:-(2 ^ 62)<=lo)(h2:lo<2 ^ 62)(h3:-(2 ^ 62)<=hi)(h4:hi<2 ^ 62)
  (q:R (Itr lo (hi - lo).toNat) H):wpAny (model X.prog X.w) X.A (pyIter (.ref s.heap.objs.size)) (PIE X pins σ tg R) E {s with heap:=s.heap.push {cls:=.type "range",data:=.fields #[.int lo t,.int hi u,.int 1 v]},toks:=tk}:=by
 refine wpAny_pyIter_range (IsRange.new ..) (small_one h1 h2 h3 h4) ?_
 have I1:Inv X pins σ H {s with heap:=s.heap.push {cls:=.type "range",data:=.fields #[.int lo t,.int hi u,.int 1 v]},toks:=tk}:=I.kept λb o e=>qF _ e
 refine⟨(s.heap.push {cls:=.type "range",data:=.fields #[.int lo t,.int hi u,.int 1 v]}).objs.size,[(s.heap.push {cls:=.type "range",data:=.fields #[.int lo t,.int hi u,.int 1 v]}).objs.size],_,_,H,rfl,
  I1.kept (t':=tk) λb o e=>qF _ e,zahk _ lo (hi - lo).toNat,?_,λb hb=>?_,q⟩
 ·have e1:lo+((0:Nat):Int) * 1=lo:=by simp
  have e2:(((hi - lo).toNat:Nat):Int) - ((0:Nat):Int)=Builtin.Range.rangeSize lo hi 1:=by rw[rangeSize_one];split<;>omega
  show IsRangeIter _ _ (lo+((0:Nat):Int) * 1) ((((hi - lo).toNat:Nat):Int) - ((0:Nat):Int)) 1
  rw[e1,e2]
  exact qY _ rfl
 ·have e:b=(s.heap.push {cls:=.type "range",data:=.fields #[.int lo t,.int hi u,.int 1 v]}).objs.size:=by simpa using hb
  subst e
  exact I1.fpOk (qL _) (I1.hok.fresh (qL _))
def iRng1(ta:TA):TI:=λσ H R=>ta σ H λvs H1=>∃j:Int,vs=[.int j]/\-(2 ^ 62)<=j/\j<2 ^ 62/\R (Itr 0 j.toNat) H1
theorem zaah{a:Expr}{ta:TA}{p pos:Pos}(hg:Gl X "range")(hm:X.mg "range"=none)(ha:PA X [a] ta)(hs:starEach [a] X.env=[(false,eval a X.env)]:=by rfl):PI X tg (.Call (.Name "range" p) [a] [] pos) (iRng1 ta):=by
 intro pins s σ H R I h
 refine Call_ (ztf I hg hm boot_range (qBn (thn (ha pos pins s σ H _ I h) λus s1 ⟨vs,H1,I1,r1,q1⟩=>?_) hs rfl))
 obtain⟨j,e,q1,q2,q⟩:=q1
 subst e
 cases r1 with
 | cons r rr=>
  cases rr
  obtain⟨t,rfl⟩:=r
  exact call_range_1 (zaoi I1 (by omega) (by omega) q1 q2 (by simpa using q))
def tFor(wi:TI)(g:TG)(tb:TS):TS:=λD σ H=>wi σ H λJ H1=>∃W:Nat->Nat->St->Hp->Prop,(∃m,W 0 m σ H1)/\∀i m σ H,W i m σ H->
 (J.stop i H/\D.nx σ H)\/(J.go i H/\∃N:St->Hp->Prop,(∀σ' H',N σ' H'->∃m',m'<m/\W (i+1) m' σ' H')/\∀x H',J.yld i H x H'->g x σ H' λσ2 H2=>tb {D with nx:=N,ct:=N,bk:=D.nx} σ2 H2)
def zaai(fp:List Addr)(h:Heap):List (Addr×Obj):=fp.filterMap λb=>(h.get? b).map λo=>(b,o)
theorem zma{h:Heap}(hb:b∈fp)(e:h.get? b=some o):(b,o)∈zaai fp h:=qBg.mpr ⟨b,hb,by rw[e];rfl⟩
theorem zaiy{h:Heap}{p:Addr×Obj}(hp:p∈zaai fp h):p.1∈fp/\h.get? p.1=some p.2:=by
 obtain⟨b,hb,e⟩:=qBg.mp hp
 cases q:h.get? b with
 | none=>rw[q]at e;cases e
 | some o=>
  rw[q]at e
  have e':(b,o)=p:=qX e
  subst e'
  exact⟨hb,q⟩
theorem Inv.pinned{s:Shared}(I:Inv X pins σ H s)(hf:∀b∈fp,FpOk X pins H b)(ho:∀b∈fp,∃o,s.heap.get? b=some o/\∀v,o.data≠.cell v):Inv X (pins++zaai fp s.heap) σ H s:=
 I.pins_of λp hp=>(qu.mp hp).elim (λz=>I.pin p (qc _ z)) λz=>by
  obtain⟨hb,e⟩:=zaiy z
  obtain⟨f0,f1,f2,_⟩:=hf p.1 hb
  obtain⟨o,e',d⟩:=ho p.1 hb
  rw[e]at e';cases e'
  exact⟨e,f0,f1,f2,d⟩
theorem Inv.unpinned(I:Inv X (pins++pl) σ H s):Inv X pins σ H s:=I.pins_of λp hp=>I.pin p (qc _ (q9 _ hp))
theorem zaiz(hp:PassesOwn (model X.prog X.w) X.A X.env X.xe)(hc:X.calm=true)(hi:PI X tg iter wi)(hg:PG X tg g)(hb:PSs X body tb)
  (hs:∀x,foldedSetIterable iter X.env x=pure x:=by intro _;rfl):PS X (.For tg iter body [] pos) (tFor wi g tb):=by
 intro pins s σ H D I h
 refine wpAny_For (thn (hi pins s σ H _ I h) λv s1 h1=>thn h1 λitv s2 h2=>?_) hs
 obtain⟨it,fp,tn,J,H2,e,I2,T,st2,f2,W,⟨m0,w0⟩,turn⟩:=h2
 subst e
 have stat:∀{H':Hp},(∀b∈fp,H' b=none)->∀b∈fp,FpOk X pins H' b:=λhn b hb=>⟨hn b hb,(f2 b hb).2⟩
 refine codeAny_forLoop_any (λn s'=>∃i σ' H',Inv X pins σ' H' s'/\tn i s'.heap/\(∀b∈fp,H' b=none)/\W i n σ' H') ?_ m0 ⟨0,σ,H2,I2,st2,λb hb=>(f2 b hb).1,w0⟩
 rintro n s3 ⟨i,σ3,H3,I3,st3,fr3,w3⟩
 rcases turn i n σ3 H3 w3 with⟨stop,qn⟩|⟨go,N,hN,step⟩
 ·refine qB4 hp (thn (T.done X rfl rfl rfl hc i pins s3 σ3 H3 X.xe I3 (stat fr3) st3 stop) λr s4 ⟨hr,I4⟩=>?_)
  subst hr
  exact qB5 ⟨σ3,H3,I4,qn⟩
 ·refine qB4 hp (thn (T.item X rfl rfl rfl hc i pins s3 σ3 H3 X.xe I3 (stat fr3) st3 go) λr s4 ⟨u,hr,h4⟩=>?_)
  subst hr
  refine qB4 hp (thn h4 λ_ s5 ⟨x,H5,I5,r5,y5,st5,fr5⟩=>?_)
  have I5':=I5.pinned (stat fr5) (T.obj _ _ st5)
  refine qB4 hp (thn (hg _ s5 σ3 H5 x u _ I5' r5 (step x H5 y5)) λ_ s6 ⟨σ6,H6,I6,q6⟩=>?_)
  refine qB4 hp (thn (hb _ s6 σ6 H6 _ I6 q6) λf s7 q7=>?_)
  have again:∀{σ7:St}{H7:Hp},Inv X (pins++zaai fp s5.heap) σ7 H7 s7->N σ7 H7->∃m,m<n/\∃i σ' H',Inv X pins σ' H' s7/\tn i s7.heap/\(∀b∈fp,H' b=none)/\W i m σ' H':=λ{σ7 H7} I7 n7=>by
   obtain⟨m',hm,w7⟩:=hN σ7 H7 n7
   refine⟨m',hm,i+1,σ7,H7,I7.unpinned,T.keep _ _ _ st5 λb hb o e=>(I7.pin (b,o) (qc _ (qc _ (zma hb e)))).1,λb hb=>?_,w7⟩
   obtain⟨o,e,d⟩:=T.obj _ _ st5 b hb
   exact(I7.pin (b,o) (qc _ (qc _ (zma hb e)))).2.1
  cases f with
  | next=>obtain⟨σ7,H7,I7,n7⟩:=q7;exact again I7 n7
  | cont=>obtain⟨σ7,H7,I7,n7⟩:=q7;exact again I7 n7
  | brk=>obtain⟨σ7,H7,I7,q7⟩:=q7;exact⟨σ7,H7,I7.unpinned,q7⟩
  | ret v=>obtain⟨x7,σ7,H7,I7,r7,q7⟩:=q7;exact⟨x7,σ7,H7,I7.unpinned,r7,q7⟩
end
theorem for_list{K:qB}{a:Addr}{xs:List V}{g:TG}{tb:TS}{D:Ends}{σ:St}{H:Hp}(Pv:Nat->St->Hp->Prop)(h0:Pv 0 σ H)(hl:∀i σ H,i<=xs.length->Pv i σ H->SqL K H a xs)
  (hs:∀i x σ H,xs[i]?=some x->Pv i σ H->g x σ H λσ2 H2=>tb {D with nx:=Pv (i+1),ct:=Pv (i+1),bk:=D.nx} σ2 H2) (hd:∀σ H,Pv xs.length σ H->D.nx σ H) :
  ∃W:Nat->Nat->St->Hp->Prop,(∃m,W 0 m σ H)/\∀i m σ H,W i m σ H->
   ((Itl K a).stop i H/\D.nx σ H)\/((Itl K a).go i H/\∃N:St->Hp->Prop,(∀σ' H',N σ' H'->∃m',m'<m/\W (i+1) m' σ' H')/\∀x H',(Itl K a).yld i H x H'->g x σ H' λσ2 H2=>tb {D with nx:=N,ct:=N,bk:=D.nx} σ2 H2):=by
 refine⟨λi m σ H=>m=xs.length - i/\i<=xs.length/\Pv i σ H,⟨xs.length,by simp,qAl _,h0⟩,?_⟩
 rintro i m σ H ⟨rfl,hi,p⟩
 have q:=hl i σ H hi p
 by_cases hlt:i<xs.length
 ·refine .inr ⟨⟨xs,xs[i],q,by simp[hlt]⟩,Pv (i+1),λσ' H' p'=>⟨xs.length - (i+1),by omega,rfl,hlt,p'⟩,λx H' y=>?_⟩
  obtain⟨e,y⟩:=y
  subst e
  exact hs i x σ _ (y xs q) p
 ·have e:i=xs.length:=by omega
  subst e
  exact .inl ⟨⟨xs,q,qL _⟩,hd σ H p⟩
theorem for_range{lo:Int}{n:Nat}{g:TG}{tb:TS}{D:Ends}{σ:St}{H:Hp}(Pv:Nat->St->Hp->Prop)(h0:Pv 0 σ H)
  (hs:∀i σ H,i<n->Pv i σ H->g (.int (lo+i)) σ H λσ2 H2=>tb {D with nx:=Pv (i+1),ct:=Pv (i+1),bk:=D.nx} σ2 H2) (hd:∀σ H,Pv n σ H->D.nx σ H) :
  ∃W:Nat->Nat->St->Hp->Prop,(∃m,W 0 m σ H)/\∀i m σ H,W i m σ H->
   ((Itr lo n).stop i H/\D.nx σ H)\/((Itr lo n).go i H/\∃N:St->Hp->Prop,(∀σ' H',N σ' H'->∃m',m'<m/\W (i+1) m' σ' H')/\∀x H',(Itr lo n).yld i H x H'->g x σ H' λσ2 H2=>tb {D with nx:=N,ct:=N,bk:=D.nx} σ2 H2):=by
 refine⟨λi m σ H=>m=n - i/\i<=n/\Pv i σ H,⟨n,by simp,qAl _,h0⟩,?_⟩
 rintro i m σ H ⟨rfl,hi,p⟩
 by_cases hlt:i<n
 ·refine .inr ⟨hlt,Pv (i+1),λσ' H' p'=>⟨n - (i+1),by omega,rfl,hlt,p'⟩,λx H' y=>?_⟩
  obtain⟨e,y⟩:=y
  subst e y
  exact hs i σ _ hlt p
 ·have e:i=n:=by omega
  subst e
  exact .inl ⟨qL _,hd σ H p⟩
abbrev R2:=V->V->Hp->VK->Prop
def OpR(X:Cx)(f:Value->Value->Sem Value)(r:R2):Prop:=
 ∀(pins:List (Addr×Obj))(s:Shared)(σ:St)(H:Hp)(x y:V)(v u:Value)(Q:VK),Inv X pins σ H s->RelV x v->RelV y u->r x y H Q->
  wpAny (model X.prog X.w) X.A (f v u) (EP X pins σ Q) X.xe s
def UnR(X:Cx)(f:Value->Sem Value)(r:V->Hp->VK->Prop):Prop:=
 ∀(pins:List (Addr×Obj))(s:Shared)(σ:St)(H:Hp)(x:V)(v:Value)(Q:VK),Inv X pins σ H s->RelV x v->r x H Q->
  wpAny (model X.prog X.w) X.A (f v) (EP X pins σ Q) X.xe s
def CallR(X:Cx)(f:Value)(r:List V->Hp->VK->Prop):Prop:=
 ∀(pins:List (Addr×Obj))(s:Shared)(σ:St)(H:Hp)(xs:List V)(us:List Value)(Q:VK),Inv X pins σ H s->Vals xs us->r xs H Q->
  wpAny (model X.prog X.w) X.A (call f us) (EP X pins σ Q) X.xe s
def TruR(X:Cx)(r:V->Hp->(Bool->Hp->Prop)->Prop):Prop:=
 ∀(pins:List (Addr×Obj))(s:Shared)(σ:St)(H:Hp)(x:V)(v:Value)(Q:Bool->Hp->Prop),Inv X pins σ H s->RelV x v->r x H Q->
  wpAny (model X.prog X.w) X.A (truthy v) (TP X pins σ Q) X.xe s
def tOp(r:R2)(ta tb:TE):TE:=λσ H Q=>ta σ H λx H1=>tb σ H1 λy H2=>r x y H2 Q
def tUn(r:V->Hp->VK->Prop)(ta:TE):TE:=λσ H Q=>ta σ H λx H1=>r x H1 Q
def rI(C:Int->Int->Prop)(g:Int->Int->V):R2:=λx y H Q=>∃i j,x=.int i/\y=.int j/\C i j/\Q (g i j) H
def rI0(g:Int->Int->V):R2:=λx y H Q=>∃i j,x=.int i/\y=.int j/\Q (g i j) H
def rU(g:Int->V):V->Hp->VK->Prop:=λx H Q=>∃i,x=.int i/\Q (g i) H
section
variable{X:Cx}{a b c:Expr}{ta tb tc:TE}{pos:Pos}
theorem binT(ha:PE X a ta)(hb:PE X b tb){R:V->V->Hp->Prop}(I:Inv X pins σ H s)
  (h:ta σ H λx H1=>tb σ H1 λy H2=>R x y H2){Q:Value->Shared->Prop}{f:Value->Value->Sem Value}
  (hf:∀v u s2 x y H2,Inv X pins σ H2 s2->RelV x v->RelV y u->R x y H2->wpAny (model X.prog X.w) X.A (f v u) Q X.xe s2) :
  wpAny (model X.prog X.w) X.A (eval a X.env) (λv s₁=>wpAny (model X.prog X.w) X.A (eval b X.env) (λu s₂=>wpAny (model X.prog X.w) X.A (f v u) Q X.xe s₂) X.xe s₁) X.xe s:=by
 refine thn (ha pins s σ H _ I h) λv s1 ⟨x,H1,I1,r1,q1⟩=>?_
 refine thn (hb pins s1 σ H1 _ I1 q1) λu s2 ⟨y,H2,I2,r2,q2⟩=>?_
 exact hf v u s2 x y H2 I2 r1 r2 q2
theorem zmm(ho:OpR X (binaryOp op) r)(ha:PE X a ta)(hb:PE X b tb):PE X (.BinOp a op b pos) (tOp r ta tb):=by
 intro pins s σ H Q I h
 exact wpAny_BinOp (binT ha hb I h λv u s2 x y H2 I2 rx ry q=>ho pins s2 σ H2 x y v u Q I2 rx ry q)
theorem zbbm{r:V->Hp->VK->Prop}(ho:UnR X (unaryOp op) r)(ha:PE X a ta):PE X (.UnaryOp op a pos) (tUn r ta):=by
 intro pins s σ H Q I h
 exact UnaryOp_ (thn (ha pins s σ H _ I h) λv s1 ⟨x,H1,I1,r1,q1⟩=>ho pins s1 σ H1 x v Q I1 r1 q1)
theorem opI{f:Value->Value->Sem Value}{C:Int->Int->Prop}{g:Int->Int->Int}
  (rule:∀(i j:Int)(t u:Tok)(s:Shared)(Q:Value->Shared->Prop)(E:Value->Shared->Prop),C i j->Q (.int (g i j) s.toks) {s with toks:=s.toks+1}->wpAny (model X.prog X.w) X.A (f (.int i t) (.int j u)) Q E s) :
  OpR X f (rI C λi j=>.int (g i j)):=by
 intro pins s σ H x y v u Q I rx ry h
 obtain⟨i,j,rfl,rfl,hc,q⟩:=h
 obtain⟨t,rfl⟩:=rx
 obtain⟨t',rfl⟩:=ry
 exact rule i j t t' s _ _ hc ⟨.int (g i j),H,I.tok _,⟨_,rfl⟩,q⟩
theorem opI0{f:Value->Value->Sem Value}{g:Int->Int->Int}
  (rule:∀(i j:Int)(t u:Tok)(s:Shared)(Q:Value->Shared->Prop)(E:Value->Shared->Prop),Q (.int (g i j) s.toks) {s with toks:=s.toks+1}->wpAny (model X.prog X.w) X.A (f (.int i t) (.int j u)) Q E s) :
  OpR X f (rI0 λi j=>.int (g i j)):=by
 intro pins s σ H x y v u Q I rx ry h
 obtain⟨i,j,rfl,rfl,q⟩:=h
 obtain⟨t,rfl⟩:=rx
 obtain⟨t',rfl⟩:=ry
 exact rule i j t t' s _ _ ⟨.int (g i j),H,I.tok _,⟨_,rfl⟩,q⟩
theorem opB0{f:Value->Value->Sem Value}{g:Int->Int->Bool}
  (rule:∀(i j:Int) (t u:Tok) (s:Shared) (Q:Value->Shared->Prop) (E:Value->Shared->Prop),Q (.bool (g i j)) s->wpAny (model X.prog X.w) X.A (f (.int i t) (.int j u)) Q E s) :
  OpR X f (rI0 λi j=>.bl (g i j)):=by
 intro pins s σ H x y v u Q I rx ry h
 obtain⟨i,j,rfl,rfl,q⟩:=h
 obtain⟨t,rfl⟩:=rx
 obtain⟨t',rfl⟩:=ry
 exact rule i j t t' s _ _ ⟨.bl (g i j),H,I,rfl,q⟩
def CDiv(i j:Int):Prop:=0<j/\j<1073741824
def CPow(i j:Int):Prop:=0<=j/\j<=1000000/\i.natAbs<2 ^ 64
def CMul(i j:Int):Prop:=(-(2 ^ 64)<i/\i<2 ^ 64)\/(-(2 ^ 64)<j/\j<2 ^ 64)
theorem CMul.ok(h:CMul i j):IntMulOk i j:=by
 rcases h with⟨h1,h2⟩|⟨h1,h2⟩
 ·exact .of_left (intBits_le_64 h1 h2)
 ·exact .of_right (intBits_le_64 h1 h2)
theorem zaxv:OpR X (binaryOp .Add) (rI0 λi j=>.int (i+j)):=opI0 λ_ _ _ _ _ _ _ q=>add_int q
theorem ztg:OpR X (binaryOp .Sub) (rI0 λi j=>.int (i - j)):=opI0 λ_ _ _ _ _ _ _ q=>sub_int q
theorem zaxw:OpR X (binaryOp .Mult) (rI CMul λi j=>.int (i * j)):=opI λ_ _ _ _ _ _ _ hc q=>mul_int q hc.ok
theorem zcm:OpR X (binaryOp .FloorDiv) (rI CDiv λi j=>.int (i / j)):=opI λi j _ _ _ _ _ hc q=>by
 have h1:(0:Int)<j:=hc.1
 have h2:j<1073741824:=hc.2
 exact floordiv_int (by omega) (by rw[Int.fdiv_eq_ediv_of_nonneg i (by omega)];exact q) (.inl (PyProof.noPylong_small (by omega)))
theorem zbw:OpR X (binaryOp .Mod) (rI (λ_ j=>0<j) λi j=>.int (i % j)):=opI λi j _ _ _ _ _ hc q=>by
 have h1:(0:Int)<j:=hc
 exact mod_int' (by omega) (by rw[Int.fmod_eq_emod_of_nonneg i (by omega)];exact q)
theorem zarv:OpR X (binaryOp .Pow) (rI CPow λi j=>.int (i ^ j.toNat)):=opI λ_ _ _ _ _ _ _ hc q=>pow_int_small hc.1 hc.2.1 hc.2.2 q
theorem unI{f:Value->Sem Value}{g:Int->Int}
  (rule:∀(i:Int)(t:Tok)(s:Shared)(Q:Value->Shared->Prop)(E:Value->Shared->Prop),Q (.int (g i) s.toks) {s with toks:=s.toks+1}->wpAny (model X.prog X.w) X.A (f (.int i t)) Q E s) :
  UnR X f (rU λi=>.int (g i)):=by
 intro pins s σ H x v Q I rx h
 obtain⟨i,rfl,q⟩:=h
 obtain⟨t,rfl⟩:=rx
 exact rule i t s _ _ ⟨.int (g i),H,I.tok _,⟨_,rfl⟩,q⟩
theorem zafe:UnR X (unaryOp .USub) (rU λi=>.int (-i)):=unI λ_ _ _ _ _ q=>neg_int q
end
def scal:V->V->Bool
 | .non,.non=>true|.non,.int _=>true|.int _,.non=>true|.non,.bl _=>true|.bl _,.non=>true|.non,.str _=>true|.str _,.non=>true
 | .int _,.int _=>true|.bl _,.bl _=>true|.str _,.str _=>true|.byt _,.byt _=>true
 | .int _,.str _=>true|.str _,.int _=>true|.bl _,.str _=>true|.str _,.bl _=>true
 | _,_=>false
def rEq:R2:=λx y H Q=>scal x y=true/\Q (.bl (decide (x=y))) H
def rNe:R2:=λx y H Q=>scal x y=true/\Q (.bl (!decide (x=y))) H
theorem zadl:decide (V.int i=V.int j)=(i==j):=by
 rw[qAo]
 simp
theorem zaja:decide (V.bl i=V.bl j)=(i==j):=by
 rw[qAo]
 simp
theorem zadm:decide (V.str i=V.str j)=(i==j):=by
 rw[qAo]
 simp
theorem zajb{i j:Array UInt8}:decide (V.byt i=V.byt j)=(i.toList==j.toList):=by
 rw[qAo]
 cases i
 cases j
 simp
section
variable{X:Cx}{a b c:Expr}{ta tb tc:TE}{pos:Pos}
theorem zcy(I:Inv X pins σ H s)(q:Q (.bl k) H)(e:k=k'):EP X pins σ Q (.bool k') s:=by
 subst e
 exact⟨.bl k,H,I,rfl,q⟩
theorem zbbn:OpR X (compareOp .Eq) rEq:=by
 intro pins s σ H x y v u Q I rx ry h
 obtain⟨hs,q⟩:=h
 cases x with
 | non=>
  cases rx
  cases y with
  | non=>cases ry;exact EqNone.eq_none_none (zcy I q (by simp))
  | bl j=>cases ry;exact EqNone.eq_none_bool (zcy I q (by simp))
  | int j=>obtain⟨t',rfl⟩:=ry;exact EqNone.eq_none_int (zcy I q (by simp))
  | str j=>obtain⟨t',rfl⟩:=ry;exact EqNone.eq_none_str (zcy I q (by simp))
  | _=>exact absurd (show false=true from hs) qP
 | bl i=>
  cases rx
  cases y with
  | non=>cases ry;exact EqNone.eq_bool_none (zcy I q (by simp))
  | bl j=>cases ry;exact eq_bool (zcy I q zaja)
  | str j=>obtain⟨t',rfl⟩:=ry;exact EqMixed.eq_bool_str (zcy I q (by simp))
  | _=>exact absurd (show false=true from hs) qP
 | int i=>
  obtain⟨t,rfl⟩:=rx
  cases y with
  | non=>cases ry;exact EqNone.eq_int_none (zcy I q (by simp))
  | int j=>obtain⟨t',rfl⟩:=ry;exact eq_int (zcy I q zadl)
  | str j=>obtain⟨t',rfl⟩:=ry;exact EqMixed.eq_int_str (zcy I q (by simp))
  | _=>exact absurd (show false=true from hs) qP
 | str i=>
  obtain⟨t,rfl⟩:=rx
  cases y with
  | non=>cases ry;exact EqNone.eq_str_none (zcy I q (by simp))
  | bl j=>cases ry;exact EqMixed.eq_str_bool (zcy I q (by simp))
  | int j=>obtain⟨t',rfl⟩:=ry;exact EqMixed.eq_str_int (zcy I q (by simp))
  | str j=>obtain⟨t',rfl⟩:=ry;exact eq_str (zcy I q zadm)
  | _=>exact absurd (show false=true from hs) qP
 | byt i=>
  obtain⟨t,rfl⟩:=rx
  cases y with
  | byt j=>obtain⟨t',rfl⟩:=ry;exact PySem.W.eq_bytes (zcy I q zajb)
  | _=>exact absurd (show false=true from hs) qP
 | _=>cases y<;>exact absurd (show false=true from hs) qP
theorem zbbo:OpR X (compareOp .NotEq) rNe:=by
 intro pins s σ H x y v u Q I rx ry h
 obtain⟨hs,q⟩:=h
 cases x with
 | non=>
  cases rx
  cases y with
  | non=>cases ry;exact EqNone.ne_none_none (zcy I q (by simp))
  | bl j=>cases ry;exact EqNone.ne_none_bool (zcy I q (by simp))
  | int j=>obtain⟨t',rfl⟩:=ry;exact EqNone.ne_none_int (zcy I q (by simp))
  | str j=>obtain⟨t',rfl⟩:=ry;exact EqNone.ne_none_str (zcy I q (by simp))
  | _=>exact absurd (show false=true from hs) qP
 | bl i=>
  cases rx
  cases y with
  | non=>cases ry;exact EqNone.ne_bool_none (zcy I q (by simp))
  | bl j=>cases ry;exact ne_bool (zcy I q (congrArg not zaja))
  | str j=>obtain⟨t',rfl⟩:=ry;exact EqMixed.ne_bool_str (zcy I q (by simp))
  | _=>exact absurd (show false=true from hs) qP
 | int i=>
  obtain⟨t,rfl⟩:=rx
  cases y with
  | non=>cases ry;exact EqNone.ne_int_none (zcy I q (by simp))
  | int j=>obtain⟨t',rfl⟩:=ry;exact ne_int (zcy I q (congrArg not zadl))
  | str j=>obtain⟨t',rfl⟩:=ry;exact EqMixed.ne_int_str (zcy I q (by simp))
  | _=>exact absurd (show false=true from hs) qP
 | str i=>
  obtain⟨t,rfl⟩:=rx
  cases y with
  | non=>cases ry;exact EqNone.ne_str_none (zcy I q (by simp))
  | bl j=>cases ry;exact EqMixed.ne_str_bool (zcy I q (by simp))
  | int j=>obtain⟨t',rfl⟩:=ry;exact EqMixed.ne_str_int (zcy I q (by simp))
  | str j=>obtain⟨t',rfl⟩:=ry;exact ne_str (zcy I q (congrArg not zadm))
  | _=>exact absurd (show false=true from hs) qP
 | byt i=>
  obtain⟨t,rfl⟩:=rx
  cases y with
  | byt j=>obtain⟨t',rfl⟩:=ry;exact PySem.W.ne_bytes (zcy I q (congrArg not zajb))
  | _=>exact absurd (show false=true from hs) qP
 | _=>cases y<;>exact absurd (show false=true from hs) qP
theorem zbbp:OpR X (compareOp .Lt) (rI0 λi j=>.bl (decide (i<j))):=opB0 λ_ _ _ _ _ _ _ q=>lt_int q
theorem zaxx:OpR X (compareOp .Gt) (rI0 λi j=>.bl (decide (j<i))):=opB0 λ_ _ _ _ _ _ _ q=>gt_int q
theorem OpR.or{f:Value->Value->Sem Value}(h:OpR X f r)(h':OpR X f r'):OpR X f (λx y H Q=>r x y H Q\/r' x y H Q):=by
 intro pins s σ H x y v u Q I rx ry q
 rcases q with q|q
 ·exact h pins s σ H x y v u Q I rx ry q
 ·exact h' pins s σ H x y v u Q I rx ry q
theorem zet(b:Expr)(h:op≠.In:=by decide)(h2:op≠.NotIn:=by decide):behindInMarks op b=false:=by
 have e1:(op==CmpOp.In)=false:=by cases op<;>first|rfl|exact absurd rfl h
 have e2:(op==CmpOp.NotIn)=false:=by cases op<;>first|rfl|exact absurd rfl h2
 cases b<;>simp[behindInMarks,e1,e2]
theorem zatv(ho:OpR X (compareOp op) r)(ha:PE X a ta)(hb:PE X b tb)(hm:behindInMarks op b=false):PE X (.Compare a [op] [b] pos) (tOp r ta tb):=by
 intro pins s σ H Q I h
 exact wpAny_Compare1 (binT ha hb I h λv u s2 x y H2 I2 rx ry q=>ho pins s2 σ H2 x y v u Q I2 rx ry q) hm
def tTest(t:TE):TT:=λσ H Q=>t σ H λx H'=>∃k,x=.bl k/\Q k H'
theorem zajc(ho:OpR X (compareOp op) r)(ha:PE X a ta)(hb:PE X b tb)(hm:behindInMarks op b=false):PT X (.Compare a [op] [b] pos) (tTest (tOp r ta tb)):=by
 intro pins s σ H Q I h
 refine wpAny_isTrue_Compare1 (thn (ha pins s σ H _ I h) λv s1 ⟨x,H1,I1,r1,q1⟩=>thn (hb pins s1 σ H1 _ I1 q1) λu s2 ⟨y,H2,I2,r2,q2⟩=>
  thn (ho pins s2 σ H2 x y v u _ I2 r1 r2 q2) λc s3 ⟨z,H3,I3,r3,k,e,q3⟩=>?_) hm
 subst e
 cases r3
 exact qBr ⟨H3,I3,q3⟩
def TruV(K:qB)(x:V)(H:Hp)(k:Bool):Prop:=
 match x with
 | .non=>k=false
 | .bl b=>k=b
 | .int i=>k=(i != 0)
 | .str y=>y.length<=qU/\k=((y.length:Int) != 0)
 | .byt y=>y.size<=qU/\k=((y.size:Int) != 0)
 | .ref p=>(∃xs,SqL K H p xs/\k=!xs.isEmpty)\/(∃xs,SqT K H p xs/\k=!xs.isEmpty)\/∃kvs,H p=some (.dK kvs)/\k=!kvs.isEmpty
 | _=>False
theorem zahl{kvs:List (κ×V)}{vs:List (κ×Value)}(r:KV kvs vs):(!vs.isEmpty)=!kvs.isEmpty:=by
 cases r<;>rfl
theorem zxa{xs:List V}{its:List Value}(r:Vals xs its):(!its.toArray.isEmpty)=!xs.isEmpty:=by
 cases r<;>simp
theorem zxb:(qU:Nat)<2 ^ 63:=by rw[qBT];decide
theorem zaxy:TruR X (λx H Q=>∃k,TruV X.K x H k/\Q k H):=by
 intro pins s σ H x v Q I rx h
 obtain⟨k,e,q⟩:=h
 have hl:=zxb
 have hs:qU=16777216:=qBT
 cases x with
 | non=>
  cases rx
  have e':k=false:=e
  subst e'
  exact truthy_none ⟨H,I,q⟩
 | bl b=>
  cases rx
  have e':k=b:=e
  subst e'
  exact qBr ⟨H,I,q⟩
 | int i=>
  obtain⟨t,rfl⟩:=rx
  have e':k=(i != 0):=e
  subst e'
  exact PySem.P.truthy_int ⟨H,I,q⟩
 | str y=>
  obtain⟨t,rfl⟩:=rx
  obtain⟨hy,e'⟩:y.length<=qU/\k=((y.length:Int) != 0):=e
  subst e'
  exact PySem.P.truthy_str (by omega) ⟨H,I.tok _,q⟩
 | byt y=>
  obtain⟨t,rfl⟩:=rx
  obtain⟨hy,e'⟩:y.size<=qU/\k=((y.size:Int) != 0):=e
  subst e'
  exact PySem.W.truthy_bytes (by omega) ⟨H,I.tok _,q⟩
 | ref p=>
  cases rx
  have e':(∃xs,SqL X.K H p xs/\k=!xs.isEmpty)\/(∃xs,SqT X.K H p xs/\k=!xs.isEmpty)\/∃kvs,H p=some (.dK kvs)/\k=!kvs.isEmpty:=e
  rcases e' with⟨xs,hx,e'⟩|⟨xs,hx,e'⟩|⟨kvs,hx,e'⟩
  ·subst e'
   obtain⟨its,r,pl,hz⟩:=I.list hx
   have hlen:=r.length
   exact wpAny_truthy_list pl.isList (by simp only[qM];omega) ⟨H,I.tok _,by rw[zxa r];exact q⟩
  ·subst e'
   obtain⟨its,r,pl,hz⟩:=I.tuple hx
   have hlen:=r.length
   exact truthy_tuple pl (by simp only[qM];omega) ⟨H,I.tok _,by rw[zxa r];exact q⟩
  ·subst e'
   obtain⟨hz,hS,vs,r,m⟩:kvs.length<=qU/\(p==sysModules)=false/\∃vs,KV kvs vs/\s.heap.DictOf (zej X.prog X.w) p vs:=I.hok p _ hx
   have hlen:kvs.length=vs.length:=qCQ r
   exact wpAny_truthy_dict hS m (by omega) ⟨H,I.tok _,by rw[zahl r];exact q⟩
 | _=>exact(show False from e).elim
theorem zaoj(ha:PE X a ta)(he:∀whole,isTrue a X.env whole=(do let v <- whole;standAt a.pos;holding [v] (truthy v))) :
  PT X a (λσ H Q=>ta σ H λx H'=>∃k,TruV X.K x H' k/\Q k H'):=by
 intro pins s σ H Q I h
 exact isTrue_plain (thn (ha pins s σ H _ I h) λv s1 ⟨x,H1,I1,r1,q1⟩=>zaxy pins s1 σ H1 x v Q I1 r1 q1) (he _)
theorem zahm:OpR X (binaryOp .Add) (λx y H Q=>∃i j,x=.str i/\y=.str j/\i.length+j.length<=qU/\Q (.str (i++j)) H):=by
 intro pins s σ H x y v u Q I rx ry h
 obtain⟨i,j,rfl,rfl,hz,q⟩:=h
 obtain⟨t,rfl⟩:=rx
 obtain⟨t',rfl⟩:=ry
 exact add_str (λt' tk=>⟨.str (i++j),H,I.tok _,⟨_,rfl⟩,q⟩) hz
theorem zadn(r:Vals [x] us):∃u,us=[u]/\RelV x u:=by
 cases r with
 | cons r1 r2=>cases r2;exact⟨_,rfl,r1⟩
theorem zaaj(r:Vals [x,y] us):∃u w',us=[u,w']/\RelV x u/\RelV y w':=by
 cases r with
 | cons r1 r2=>
  cases r2 with
  | cons r3 r4=>cases r4;exact⟨_,_,rfl,r1,r3⟩
theorem zajd(hc:X.calm=true):CallR X (.builtin "min") (λxs H Q=>∃i j,xs=[.int i,.int j]/\Q (.int (if j<i then j else i)) H):=by
 intro pins s σ H xs us Q I r h
 obtain⟨i,j,rfl,q⟩:=h
 obtain⟨u,w',rfl,⟨t,rfl⟩,⟨t',rfl⟩⟩:=zaaj r
 refine min_two_ints (I.ok.hd hc) λh' tk k=>⟨_,H,I.kept k,?_,q⟩
 by_cases hj:j<i
 ·rw[if_pos hj,if_pos hj];exact⟨_,rfl⟩
 ·rw[if_neg hj,if_neg hj];exact⟨_,rfl⟩
def LenV(K:qB)(x:V)(H:Hp)(n:Nat):Prop:=
 match x with
 | .str y=>y.length<=qU/\n=y.length
 | .byt y=>y.size<=qU/\n=y.size
 | .ref p=>(∃xs,SqL K H p xs/\n=xs.length)\/∃xs,SqT K H p xs/\n=xs.length
 | _=>False
theorem zaok:CallR X (.builtin "len") (λxs H Q=>∃x n,xs=[x]/\LenV X.K x H n/\Q (.int n) H):=by
 intro pins s σ H xs us Q I r h
 obtain⟨x,n,rfl,e,q⟩:=h
 obtain⟨u,rfl,rx⟩:=zadn r
 have hl:=zxb
 have hs:qU=16777216:=qBT
 cases x with
 | str y=>
  obtain⟨t,rfl⟩:=rx
  obtain⟨hy,e'⟩:y.length<=qU/\n=y.length:=e
  subst e'
  exact len_str (by omega) ⟨.int _,H,I.tok _,⟨_,rfl⟩,q⟩
 | byt y=>
  obtain⟨t,rfl⟩:=rx
  obtain⟨hy,e'⟩:y.size<=qU/\n=y.size:=e
  subst e'
  exact PySem.W.len_bytes (by omega) ⟨.int _,H,I.tok _,⟨_,rfl⟩,q⟩
 | ref p=>
  cases rx
  have e':(∃xs,SqL X.K H p xs/\n=xs.length)\/∃xs,SqT X.K H p xs/\n=xs.length:=e
  rcases e' with⟨xs,hx,e'⟩|⟨xs,hx,e'⟩
  ·subst e'
   obtain⟨its,r',pl,hz⟩:=I.list hx
   have hlen:=r'.length
   exact Calls.call_len_list pl.isList (by simp only[qM];omega) ⟨.int xs.length,H,I.tok _,⟨_,by simp only[qM];rw[hlen]⟩,q⟩
  ·subst e'
   obtain⟨its,r',pl,hz⟩:=I.tuple hx
   have hlen:=r'.length
   exact len_tuple pl (by simp only[qM];omega) ⟨.int xs.length,H,I.tok _,⟨_,by simp only[qM];rw[hlen]⟩,q⟩
 | _=>exact(show False from e).elim
end
set_option genInjectivity false in
structure ObjM(h:Heap)(x dx C:Addr)(mA:Str->Option Value):Prop where
 obj:h.get? x=some (instObj C dx)
 ns:h.Ns1 dx mA
 ne:dx≠x
theorem zaje{h:Heap}{mA:Str->Option Value}(n:h.Ns1 dx mA):∃od,h.get? dx=some od/\∀name,lookIn name od=some (mA name):=by
 obtain⟨o,es,ep,ho,hd,hk,_,hm⟩:=n
 refine⟨o,ho,λname=>?_⟩
 have e:=hm name
 unfold nsFind findBy at e
 rw[<- Array.find?_toList]at e
 unfold lookIn
 rw[hd]
 dsimp only
 split
 ·rename_i y q
  rw[q]at e
  exact congrArg some e
 ·rename_i q
  rw[q]at e
  have a:es.toList.any (·.refKey)=false:=by
   rw[List.any_eq_false]
   intro y hy
   obtain⟨z,t,hkey⟩:=hk y (qDN.mp hy)
   simp[DictEntry.refKey,hkey]
  have a':¬es.toList.any (·.refKey)=true:=by rw[a];exact qP
  rw[if_neg a']
  exact congrArg some e
theorem ObjM.look{mA:Str->Option Value}(I:ObjM h x dx C mA):∃od,PySem.W.InstAt h x (instObj C dx) C (some od)/\∀name,lookIn name od=some (mA name):=
 let⟨od,ho,hl⟩:=zaje I.ns
 ⟨od,⟨I.obj,rfl,rfl,ho⟩,hl⟩
theorem RelO.some_of(r:RelO (some v) o):∃u,o=some u/\RelV v u:=by
 cases o with
 | none=>exact(show False from r).elim
 | some u=>exact⟨u,rfl,r⟩
theorem zajf(r:RelV v u):PySem.W.handedIn u=true:=by
 cases v with
 | non=>cases(show u=Value.none from r);rfl
 | bl b=>cases(show u=Value.bool b from r);rfl
 | int i=>obtain⟨t,e⟩:=(show ∃t,u=Value.int i t from r);cases e;rfl
 | str x=>obtain⟨t,e⟩:=(show ∃t,u=Value.str x t from r);cases e;rfl
 | byt b=>obtain⟨t,e⟩:=(show ∃t,u=Value.bytes b t from r);cases e;rfl
 | flt b=>obtain⟨t,e⟩:=(show ∃t,u=Value.float b t from r);cases e;rfl
 | ref a=>cases(show u=Value.ref a from r);rfl
 | ty n=>cases(show u=Value.type n from r);rfl
section
variable{P:Program}{w:World}{H H':Hp}{h h':Heap}{a C dx:Addr}{fs fs':List (Str×V)}
theorem zatw(hok:HOk P w H h)(e:H a=some (.ins C dx fs)):∃mA,ObjM h a dx C mA/\(∀f,RelO (fs.lookup f) (mA f))/\PySem.Within mA (fs.map (·.1))/\fs.length<=1000/\H dx=some (.own a):=by
 obtain⟨d,z,ne,ob,mA,n,r,q⟩:=(show zek P w H h a (.ins C dx fs)from hok a _ e)
 exact⟨mA,⟨ob,n,ne⟩,r,q,z,d⟩
end
set_option genInjectivity false in
structure Cls(K:qB)(C:Addr):Prop where
 pg:plainGet K C Str.empty=true
 hd:PySem.W.hasDictIn K C=true
 po:PySem.W.plainOver K C=true
 sa:findIn K (.ref C) "__setattr__"=some (some (.builtin "object.__setattr__"))
theorem Cls.get{K:qB}{C:Addr}(c:Cls K C)(f:Str):plainGet K C f=true:=c.pg
set_option genInjectivity false in
set_option genInjectivity false in
section
variable{X:Cx}{pins:List (Addr×Obj)}{σ:St}{H:Hp}{s:Shared}{a C dx:Addr}{fs:List (Str×V)}{f:Str}{v:V}{A:Around}{E:Value->Shared->Prop}
theorem zatx{Q:Value->Shared->Prop}(hb:attributeBase e f env (eval e env)=eval e env)
  (h:wpAny (model prog w) A (eval e env) (λo s₁=>wpAny (model prog w) A (getAttr o f true) Q E s₁) E s):wpAny (model prog w) A (eval (.Attribute e f pos) env) Q E s:=
 Attribute_any_ h (by rw[arm_eval_Attribute,hb])
end
section
variable{X:Cx}{pins:List (Addr×Obj)}{σ:St}{H:Hp}{s:Shared}{A:Around}{E:Value->Shared->Prop}{Q:Value->Shared->Prop}{c:Value}{b:Bool}
inductive TyOf(K:qB)(H:Hp):V->Value->Prop where
 | non:TyOf K H .non (.type "NoneType")
 | bl (x:Bool):TyOf K H (.bl x) (.type "bool")
 | int (i:Int):TyOf K H (.int i) (.type "int")
 | str (x:Str):TyOf K H (.str x) (.type "str")
 | flt (x:UInt64):TyOf K H (.flt x) (.type "float")
 | lst {a:Addr} {xs:List V} (e:H a=some (.lst xs)):TyOf K H (.ref a) (.type "list")
 | frz {a:Addr} {o:Obj} {xs:List V} (e:H a=some (.frz o (.lst xs))):TyOf K H (.ref a) (.type "list")
 | tup {a:Addr} {xs:List V} (e:H a=some (.tup xs)):TyOf K H (.ref a) (.type "tuple")
 | dK {a:Addr} {kvs:List (Key×V)} (e:H a=some (.dK kvs)):TyOf K H (.ref a) (.type "dict")
 | dT {a:Addr} {kvs:List (List Key×V)} (e:H a=some (.dT kvs)):TyOf K H (.ref a) (.type "dict")
 | ins {a C dx:Addr} {fs:List (Str×V)} (e:H a=some (.ins C dx fs)) (cl:Cls K C) (ha:findIn K (.ref C) "__class__"=some (some (.builtin "object.__class__")))
   (hn:PySem.W.specialIn K (.builtin "object.__class__") "__get__"=some (some (.builtin "getset_descriptor.__get__")))(htk:PySem.W.takesIn K (.builtin "object.__class__")=some true)
   (hm:PySem.W.mroIn K C (.type "object")=some true):TyOf K H (.ref a) (.ref C)
theorem zajg (I:Inv X pins σ H s) (rx:RelV x u) (ty:TyOf X.K H x t) (e:kitOne X.K t c=some b) (h:∀tk,Q (.bool b) {s with toks:=tk}) :
  wpAny (model X.prog X.w) A (call (.builtin "isinstance") [u,c]) Q E s:=by
 cases ty with
 | non=>cases(show u=Value.none from rx);exact qAZ PySem.W.kitx_none I.kIn True.intro e (λz=>nomatch z) h
 | bl y=>cases(show u=Value.bool y from rx);exact qAZ PySem.W.kitx_bool I.kIn True.intro e (λz=>nomatch z) h
 | int i=>obtain⟨t,q⟩:=(show ∃t,u=Value.int i t from rx);cases q;exact qAZ PySem.W.kitx_int I.kIn True.intro e (λz=>nomatch z) h
 | str y=>obtain⟨t,q⟩:=(show ∃t,u=Value.str y t from rx);cases q;exact qAZ PySem.W.kitx_str I.kIn True.intro e (λz=>nomatch z) h
 | flt y=>obtain⟨t,q⟩:=(show ∃t,u=Value.float y t from rx);cases q;exact qAZ PySem.W.kitx_float I.kIn True.intro e (λz=>nomatch z) h
 | @lst a xs ea=>
  cases(show u=Value.ref a from rx)
  obtain⟨_,_,n,_,h1⟩:=(show zek X.prog X.w H s.heap a (.lst xs)from I.hok a _ ea)
  exact qAZ qDO I.kIn ⟨_,h1,rfl⟩ e (λz=>nomatch z) h
 | @frz a ob xs ea=>
  cases(show u=Value.ref a from rx)
  obtain⟨_,_,_,n,_,h1⟩:=(show zek X.prog X.w H s.heap a (.frz ob (.lst xs))from I.hok a _ ea)
  exact qAZ qDO I.kIn ⟨_,h1,rfl⟩ e (λz=>nomatch z) h
 | @tup a xs ea=>
  cases(show u=Value.ref a from rx)
  obtain⟨_,_,_,p⟩:=(show zek X.prog X.w H s.heap a (.tup xs)from I.hok a _ ea)
  obtain⟨o,h1,h2,_⟩:=p
  exact qAZ PySem.W.kitx_tuple I.kIn ⟨o,h1,h2⟩ e (λz=>nomatch z) h
 | @dK a kvs ea=>
  cases(show u=Value.ref a from rx)
  obtain⟨_,_,vs,_,p⟩:=(show zek X.prog X.w H s.heap a (.dK kvs)from I.hok a _ ea)
  obtain⟨o,es,ep,h1,h2,_⟩:=p
  exact qAZ qDP I.kIn ⟨o,h1,h2.1⟩ e (λz=>nomatch z) h
 | @dT a kvs ea=>
  cases(show u=Value.ref a from rx)
  obtain⟨_,_,xs,_,o,es,ep,h1,h2,_⟩:=(show zek X.prog X.w H s.heap a (.dT kvs)from I.hok a _ ea)
  exact qAZ qDP I.kIn ⟨o,h1,h2.1⟩ e (λz=>nomatch z) h
 | @ins a C dx fs ea cl ha hn htk hm=>
  cases(show u=Value.ref a from rx)
  obtain⟨mA,O,_⟩:=zatw I.hok ea
  obtain⟨od,J,_⟩:=O.look
  exact qAZ (PySem.W.kitx_own (cl.get _) cl.hd ha hn htk hm) I.kIn J e (λz=>nomatch z) h
end
set_option genInjectivity false in
structure Room(k:Nat)(A:Around):Prop where
 hd:A.handled=none
 dp:A.depth+3 * k+5<recursionLimit
 un:A.units+16 * k+200<cLine
 gd:A.guards=some []
theorem Room.mono(r:Room k A)(h:j<=k):Room j A:=⟨r.hd,by have:=r.dp;omega,by have:=r.un;omega,r.gd⟩
theorem Room.deeper{A:Around}(r:Room (k+1) A)(env:Env):Room k (A.deeper env):=
 ⟨r.hd,by have:=r.dp;show A.depth+1+3 * k+5<_;omega,by have:=r.un;show A.units+3+16 * k+200<_;omega,r.gd⟩
theorem zahn{A:Around}:(A.under (.builtin "type.__call__" ⟨.ref C::us,kw⟩)).depth=A.depth+1:=by
 first|rfl|simp[Around.under,Code.weight,Code.isCreation,Code.isGuard,Code.isCaller,Code.frames,Code.isFrame,guardIds]
theorem zaho{A:Around}:(A.under (.builtin "type.__call__" ⟨.ref C::us,kw⟩)).units=A.units+1:=by
 first|rfl|simp[Around.under,Code.cUnits,Code.frames,Code.isFrame]
theorem Room.make{A:Around}(r:Room (k+1) A)(C:Addr)(us:List Value)(kw:List (Str×Value)):Room k (A.under (.builtin "type.__call__" ⟨.ref C::us,kw⟩)):=
 ⟨r.hd,by have:=r.dp;rw[zahn];omega,by have:=r.un;rw[zaho];omega,by first|exact r.gd|(simpa [Around.under,Code.isGuard,Code.isFrame,guardIds]using r.gd)⟩
theorem Room.depth{A:Around}(r:Room k A):A.depth<recursionLimit:=by have:=r.dp;omega
theorem Room.units{A:Around}(r:Room k A):A.units+64<cLine:=by have:=r.un;omega
def tNil:TA:=λ_ H Q=>Q [] H
def tCons(ta:TE)(tr:TA):TA:=λσ H Q=>ta σ H λx H1=>tr σ H1 λxs H2=>Q (x::xs) H2
section
variable{X:Cx}{e:Expr}{es:List Expr}{te:TE}{t:TA}{pos:Pos}
theorem zre:PA X [] tNil:=λ_ _ _ _ H Q I h=>Calls.spliced_nil ⟨[],H,I,.nil,h⟩
theorem zkh(ha:PE X e te)(hr:PA X es t)(hs:starEach (e::es) X.env=(false,eval e X.env)::starEach es X.env:=by rfl):PA X (e::es) (tCons te t):=by
 intro pos pins s σ H Q I h
 rw[hs]
 show wpAny _ _ (spliced ((false,eval e X.env)::backTo pos (starEach es X.env))) _ _ s
 refine qDc (thn (ha pins s σ H _ I h) λu s1 ⟨x,H1,I1,r1,q1⟩=>?_)
 exact thn (hr pos pins s1 σ H1 _ I1 q1) λus s2 ⟨xs,H2,I2,r2,q2⟩=>⟨x::xs,H2,I2,.cons r1 r2,q2⟩
def tTup(t:TA):TE:=λσ H Q=>t σ H λxs H1=>xs.length<=qU/\∀p,H1 p=none->Q (.ref p) (upd H1 p (.tup xs))
def tLst(t:TA):TE:=λσ H Q=>t σ H λxs H1=>xs.length<=qU/\∀p,H1 p=none->Q (.ref p) (upd H1 p (.lst xs))
theorem zaxz{x1}(h:PA X es t):PE X (.Tuple es x1 pos) (tTup t):=by
 intro pins s σ H Q I hq
 refine wpAny_Tuple_spliced (thn (h pos pins s σ H _ I hq) λus s1 ⟨xs,H1,I1,r,z,q⟩=>⟨by rw[<- r.length];exact z,?_⟩)
 have hf:H1 s1.heap.objs.size=none:=I1.hok.fresh (qL _)
 refine⟨.ref s1.heap.objs.size,upd H1 s1.heap.objs.size (.tup xs),I1.laid (t':=s1.toks) (λb u e=>qF _ e) (qL _) ?_,rfl,q _ hf⟩
 exact⟨z,us,r,⟨_,qY _ rfl,rfl,_,rfl⟩⟩
theorem zarw(h:PA X es t):PE X (.List es pos) (tLst t):=by
 intro pins s σ H Q I hq
 refine wpAny_List_spliced (thn (h pos pins s σ H _ I hq) λus s1 ⟨xs,H1,I1,r,z,q⟩=>⟨by rw[<- r.length];exact z,?_⟩)
 have hf:H1 s1.heap.objs.size=none:=I1.hok.fresh (qL _)
 refine⟨.ref s1.heap.objs.size,upd H1 s1.heap.objs.size (.lst xs),I1.laid (t':=s1.toks) (λb u e=>qF _ e) (qL _) ?_,rfl,q _ hf⟩
 exact⟨z,us,0,r,qY _ rfl⟩
end
abbrev Sp:=List V->Hp->VK->XK->Prop
abbrev CXT:=List Env->Hp->Shared->XK->Value->Shared->Prop
set_option genInjectivity false in
structure Env0(P:Program)(w:World)(K:qB)(mg:Str->Option Value)(base:Heap)(A:Around)(outer:List Env)(s:Shared)(H:Hp):Prop where
 frames:A.frames=some outer
 mod:Mod K mg base
 bs:∀b o,base.get? b=some o->s.heap.get? b=some o/\H b=none
 bsz:base.objs.size<=s.heap.objs.size
 funs:s.heap.FunFrames base outer
 frf:∀b∈frs outer,H b=none
 hok:HOk P w H s.heap
 bare:AllBare s.gens
def CE(outer:List Env)(P:Program)(w:World)(H:Hp)(s:Shared)(Q:VK)(u:Value)(s':Shared):Prop:=
 ∃v H',s'.os=s.os/\AllBare s'.gens/\Un (frs outer) [] H H' s.heap s'.heap/\HOk P w H' s'.heap/\RelV v u/\Q v H'
def CR(CX:CXT)(outer:List Env)(P:Program)(w:World)(H:Hp)(s:Shared)(Q:VK)(E:XK)(r:Result)(s':Shared):Prop:=
 match r with
 | .ok (.ret u)=>CE outer P w H s Q u s'
 | .ok _=>False
 | .error e=>CX outer H s E e s'
set_option genInjectivity false in
structure FnOk(P:Program)(w:World)(K:qB)(mg:Str->Option Value)(base:Heap)(CX:CXT)(k:Nat)(f:Addr)(fd:qAb)(ps:List Str)(sp:Sp):Prop where
 len:∀vs H Q E,sp vs H Q E->vs.length=ps.length
 run:∀(A:Around)(outer:List Env)(s:Shared)(H:Hp)(args:Args)(us:List Value)(vs:List V)(Q:VK)(E:XK),Room k A->Env0 P w K mg base A outer s H->BindsTo s fd args (ps.zip us)->Vals vs us->sp vs H Q E->
  codeAny (model P w) A (.call (.ref f) args) (CR CX outer P w H s Q E) s
theorem Env0.make{P:Program}{w:World}{K:qB}{mg:Str->Option Value}{base:Heap}{A:Around}{outer:List Env}{s:Shared}{H:Hp}(e:Env0 P w K mg base A outer s H)(C:Addr)(us:List Value)(kw:List (Str×Value)) :
  Env0 P w K mg base (A.under (.builtin "type.__call__" ⟨.ref C::us,kw⟩)) outer s H:=⟨by first|exact e.frames|(simpa [Around.under,Code.envs,Code.isFrame,pushEnvs]using e.frames),e.mod,e.bs,e.bsz,e.funs,e.frf,e.hok,e.bare⟩
section
variable{X:Cx}{pins:List (Addr×Obj)}{σ:St}{H:Hp}{s s':Shared}
theorem Inv.env0(I:Inv X pins σ H s):Env0 X.prog X.w X.K X.mg X.base X.A X.stack s H:=
 ⟨I.ok.frames,I.ok.mod,I.bs,qAI I.ok.bsz I.sz,I.stack,I.stkFree,I.hok,I.bare⟩
theorem Inv.after(I:Inv X pins σ H s)(h:CE X.stack X.prog X.w H s Q u s'):EP X pins σ Q u s':=by
 obtain⟨v,H',os,bare,un,hok,r,q⟩:=h
 obtain⟨hh,g,d,t,os'⟩:=s'
 obtain rfl:os'=s.os:=os
 exact⟨v,H',I.call (h':=hh) (g':=g) (d':=d) (t':=t) (ch:=[]) un hok bare (λb z=>absurd z (by simp)),r,q⟩
end
def tCall(sp:Sp)(dvs:List V)(E:XK)(t:TA):TE:=λσ H Q=>t σ H λvs H1=>sp (vs++dvs) H1 Q E
def ziy(K:qB)(fd:qAb)(ps:List Str)(ds:List Value):Prop:=
 ∀(s:Shared)(us:List Value),K.In s.heap->(us++ds).length=ps.length->BindsTo s fd ⟨us,[]⟩ (ps.zip (us++ds))
theorem ziy.all{K:qB}{fd:qAb}{ps:List Str}(h:∀us:List Value,us.length=ps.length->bindArgs fd ⟨us,[]⟩=pure (ps.zip us)):ziy K fd ps []:=λs us _ hl=>by
 rw[qw]at hl ⊢
 exact .of_eq (h us hl)
def zxc(CX:CXT)(X:Cx)(E:XK):Prop:=∀(pins:List (Addr×Obj))(σ:St)(H:Hp)(s:Shared)(e:Value)(s':Shared),Inv X pins σ H s->CX X.stack H s E e s'->X.xe e s'
section
variable{X:Cx}{CX:CXT}{k:Nat}{f C:Addr}{fd:qAb}{ps:List Str}{sp:Sp}{dvs:List V}{ds:List Value}{E:XK}{x m:Str}{p pos apos:Pos}{e o:Expr}{es:List Expr}{ta:TE}{t:TA}
theorem zaya(F:FnOk X.prog X.w X.K X.mg X.base CX k f fd ps sp)(hr:Room k X.A)(hb:ziy X.K fd ps ds)(hd:Vals dvs ds)(hx:zxc CX X E)
  (I:Inv X pins σ H s) (r:Vals vs us) (h:sp (vs++dvs) H Q E):wpAny (model X.prog X.w) X.A (call (.ref f) us) (EP X pins σ Q) X.xe s:=by
 have r2:Vals (vs++dvs) (us++ds):=r.append hd
 have hl:(us++ds).length=ps.length:=by rw[<- r2.length];exact F.len _ _ _ _ h
 refine qCV (qBl (F.run X.A X.stack s H ⟨us,[]⟩ (us++ds) (vs++dvs) Q E hr I.env0 (hb s us I.kIn hl) r2 h) λr s' hq=>?_)
 cases r with
 | error e=>exact hx pins σ H s e s' I hq
 | ok fl=>
  cases fl with
  | ret u=>exact I.after hq
  | next=>exact False.elim hq
  | brk=>exact False.elim hq
  | cont=>exact False.elim hq
theorem zajh(F:FnOk X.prog X.w X.K X.mg X.base CX k f fd ps sp)(hr:Room k X.A)(hg:Gl X x)(hm:X.mg x=some (.ref f))(hk:qAx X.K (.ref f)=true)(hb:ziy X.K fd ps ds)(hd:Vals dvs ds)(hx:zxc CX X E)
  (ha:PA X (e::es) t)(hdb:(x==("__debug__":Str))=false:=by decide)(he:starEach (e::es) X.env=(false,eval e X.env)::starEach es X.env:=by rfl)(hpl:(backTo pos (starEach es X.env)).any (·.1)=false:=by rfl) :
  PE X (.Call (.Name x p) (e::es) [] pos) (tCall sp dvs E t):=by
 intro pins s σ H Q I h
 refine qBS (zte I hg hm ?_ hdb)
 refine qCL (h₀:=X.base) I.ok.mod.kin hk (thn (ha pos pins s σ H _ I h) λus s1 ⟨vs,H1,I1,r,q⟩=>⟨I1.kIn,?_⟩) he hpl
 exact zaya F hr hb hd hx I1 r q
set_option genInjectivity false in
end
section
variable{X:Cx}{CX:CXT}{k:Nat}{f C:Addr}{fd:qAb}{ps ks:List Str}{sp:Sp}{E:XK}{x m:Str}{p pos apos kpos:Pos}{e o:Expr}{es:List Expr}{kws:List Keyword}{te ta:TE}{t tk:TA}{nm:Option Str}
set_option genInjectivity false in
variable{g:List Value->List Value->List Value}{gV:List V->List V->List V}
end
set_option genInjectivity false in
structure FnScope(N P:List Str)(sc:Scope):Prop where
 kind:sc.kind=.function
 co:sc.isCoroutine=false
 gen:sc.isGenerator=false
 nd:N.Nodup
 pre:N.take P.length=P
 par:∀x∈P,sc.names.lookup x=some .local\/sc.names.lookup x=some .cell
 nofree:∀y∈sc.names,y.2≠.free
theorem zaak{kindOf:Str->Option NameKind}:∀{binds:List (Str×Value)}{m:Str->Option Value},(∀v,(x,v)∉binds)->bindL kindOf binds m x=m x
 | [],_,_=>rfl
 | (n,v)::r,m,h=>by
  unfold bindL
  rw[zaak λw hw=>h w (qK _ hw)]
  split
  ·have:x≠n:=by rintro rfl;exact h v qb
   simp[this]
  ·rfl
theorem zaal{kindOf:Str->Option NameKind}:∀{binds:List (Str×Value)}{m:Str->Option Value},(∀v,(x,v)∉binds)->bindC kindOf binds m x=m x
 | [],_,_=>rfl
 | (n,v)::r,m,h=>by
  unfold bindC
  rw[zaal λw hw=>h w (qK _ hw)]
  split
  ·rfl
  ·have:x≠n:=by rintro rfl;exact h v qb
   simp[this]
theorem zaam{kindOf:Str->Option NameKind}:∀{P:List Str}{vs:List Value}{i:Nat}{m:Str->Option Value},P.Nodup->P[i]?=some x->vs[i]?=some v->kindOf x=some .local->
  bindL kindOf (P.zip vs) m x=some v
 | [],_,_,_,_,h,_,_=>by simp at h
 | _::_,[],_,_,_,_,h,_=>by simp at h
 | p::P,w::vs,0,m,nd,h1,h2,hk=>by
  simp at h1 h2;subst h1;subst h2
  show bindL kindOf ((p,w)::P.zip vs) m p=_
  unfold bindL
  rw[zaak λv hv=>(qBP.mp nd).1 (qA4 hv).1,if_pos hk]
  simp
 | p::P,w::vs,i+1,m,nd,h1,h2,hk=>by
  show bindL kindOf ((p,w)::P.zip vs) m x=_
  unfold bindL
  exact zaam (i:=i) (qBP.mp nd).2 (by simpa using h1) (by simpa using h2) hk
theorem zaan{kindOf:Str->Option NameKind}:∀{P:List Str}{vs:List Value}{i:Nat}{m:Str->Option Value},P.Nodup->P[i]?=some x->vs[i]?=some v->kindOf x≠some .local->
  bindC kindOf (P.zip vs) m x=some v
 | [],_,_,_,_,h,_,_=>by simp at h
 | _::_,[],_,_,_,_,h,_=>by simp at h
 | p::P,w::vs,0,m,nd,h1,h2,hk=>by
  simp at h1 h2;subst h1;subst h2
  show bindC kindOf ((p,w)::P.zip vs) m p=_
  unfold bindC
  rw[zaal λv hv=>(qBP.mp nd).1 (qA4 hv).1,if_neg hk]
  simp
 | p::P,w::vs,i+1,m,nd,h1,h2,hk=>by
  show bindC kindOf ((p,w)::P.zip vs) m x=_
  unfold bindC
  exact zaan (i:=i) (qBP.mp nd).2 (by simpa using h1) (by simpa using h2) hk
def zfz(N:List Str)(vs:List V):St:=vs.map some++List.replicate (N.length - vs.length) none
def cxOf(CX:CXT)(P:Program)(w:World)(K:qB)(mg:Str->Option Value)(base:Heap)(N:List Str)(qual:Str)(scope:Scope)(f:Addr)(cd:Value)(A:Around)(outer:List Env)(s:Shared)(H:Hp)(E:XK):Cx where
 prog:=P
 w:=w
 K:=K
 mg:=mg
 base:=base
 A:=A.deeper (envOfC qual scope s.heap.objs.size f cd)
 N:=N
 s₀:=s
 H₀:=H
 env:=envOfC qual scope s.heap.objs.size f cd
 outer:=outer
 stack:=envOfC qual scope s.heap.objs.size f cd::outer
 ex:=[]
 calm:=true
 fn:=λ_=>true
 pn:=[]
 xe:=λe s'=>wpAny (model P w) (A.deeper (envOfC qual scope s.heap.objs.size f cd)) (leaving (envOfC qual scope s.heap.objs.size f cd) e) (λ_ s''=>CX outer H s E e s'') (λe' s''=>CX outer H s E e' s'') s'
theorem zyp{sc:Scope}(h:sc.names.lookup x=some .cell):∃c,(cellsFrom n sc.names []).lookup x=some c:=by
 have q:=qBI sc.names n [] (.inl h)
 exact Option.isSome_iff_exists.mp q
theorem zok{CX:CXT}{P:Program}{w:World}{K:qB}{mg:Str->Option Value}{base:Heap}{N ps:List Str}{qual:Str}{scope:Scope}{f:Addr}{cd:Value}{A:Around}{outer:List Env}{s s1:Shared}{H:Hp}{E:XK}{us:List Value}{vs:List V}
  (S:FnScope N ps scope)(hd:A.handled=none)(e0:Env0 P w K mg base A outer s H)(hl:vs.length=ps.length)(r:Vals vs us)
  (x:InCallC s s.heap.objs.size (bindL (envOfC qual scope s.heap.objs.size f cd).kindOf (ps.zip us) λ_=>none) (cellsFrom (s.heap.objs.size+1) scope.names []) (bindC (envOfC qual scope s.heap.objs.size f cd).kindOf (ps.zip us) λ_=>none) s1) :
  Inv (cxOf CX P w K mg base N qual scope f cd A outer s H E) [] (zfz N vs) H s1:=by
 have hpl:ps.length<=N.length:=by have:=congrArg List.length S.pre;rw[qAV]at this;omega
 obtain⟨h1,tk,rfl,hk⟩:=x.done
 have noA:∀b:Addr,b∉(cxOf CX P w K mg base N qual scope f cd A outer s H E).ex:=λb z=>absurd (show b∈([]:List Addr)from z) (by simp)
 refine⟨⟨e0.mod,S.kind,rfl,rfl,qL _,λy z c h1 h2=>?_,λy hy=>?_,λy c _ h=>?_,λ_=>hd,qDK e0.frames,.inr ⟨rfl,rfl⟩,λb z=>absurd z (noA b),e0.bs,e0.bsz,λb _ _=>noA b,λb z=>absurd z (noA b),e0.funs,e0.frf⟩,
  rfl,e0.bare,Un.kept hk,⟨_,x.toInCall.ns,λi y v h1 h2 h3=>?_⟩,λy c h=>⟨_,x.cell y c h⟩,e0.hok.fresh (qL _),λy c h=>?_,λp hp=>absurd (show p∈([]:List (Addr×Obj))from hp) (by simp),e0.hok.kept hk,?_⟩
 ·exact name_of_addr x.apart (qp h1) (qp h2)
 ·have hy:scope.names.lookup y=some .cell\/scope.names.lookup y=some .free:=hy
  rcases hy with hy|hy
  ·exact zyp hy
  ·exact absurd rfl (S.nofree _ (qp hy))
 ·exact qB3 (x.above y c (qp h))
 ·have hi:i<vs.length:=by
   unfold zfz at h2
   by_cases hi:i<vs.length
   ·exact hi
   ·rw[qAB (by simpa using hi)]at h2
    rw[qBF]at h2
    split at h2<;>cases h2
  have ha:vs[i]?=some v:=by
   unfold zfz at h2
   rw[qAE (by simpa using hi),qN]at h2
   cases e:vs[i]? with
   | none=>rw[e]at h2;cases h2
   | some a=>rw[e]at h2;cases h2;rfl
  obtain⟨u,hu,rv⟩:=r.get ha
  have hp:ps[i]?=some y:=by
   rw[<- S.pre,List.getElem?_take_of_lt (by omega)];exact h1
  have ndP:ps.Nodup:=by rw[<- S.pre];exact S.nd.sublist (qCZ _ _)
  refine⟨u,rv,?_⟩
  rcases S.par y (qAe hp)with k|k
  ·exact .inl ⟨k,zaam ndP hp hu k⟩
  ·obtain⟨c,e⟩:=zyp (n:=s.heap.objs.size+1) k
   refine .inr ⟨.inl k,c,e,?_⟩
   have q:=x.cell y c e
   rw[zaan ndP hp hu (by show scope.names.lookup y≠_;rw[k];decide)]at q
   exact q
 ·exact e0.hok.fresh (qB3 (x.above y c (qp h)))
 ·unfold zfz
  show _=N.length
  rw[qO,qC,qAT]
  omega
theorem zbbq{CX:CXT}{P:Program}{w:World}{K:qB}{mg:Str->Option Value}{base:Heap}{k:Nat}{f:Addr}{name qual:Str}{params:Arguments}{body:List Stmt}{scope:Scope}{dV kV doc pm cdv ct oc:Value}{an od:Option Addr}
  {osl:Array (Option Value)}{N ps:List Str}{sp:Sp}(lk:K.lookup f=some ⟨oc,od,.func (qAd name qual params body scope dV kV doc pm an cdv ct),osl⟩)(hcd:qBy K cdv qual=true)(S:FnScope N ps scope)
  (len:∀vs H Q E,sp vs H Q E->vs.length=ps.length)
  (hbody:∀(A:Around)(outer:List Env)(s:Shared)(H:Hp)(vs:List V)(Q:VK)(E:XK),Room k (A.deeper (envOfC qual scope s.heap.objs.size f cdv))->sp vs H Q E->
   ∃t,PSs (cxOf CX P w K mg base N qual scope f cdv A outer s H E) body t/\t {nx:=λ_ H'=>Q .non H',rt:=Q} (zfz N vs) H) :
  FnOk P w K mg base CX (k+1) f (qAd name qual params body scope dV kV doc pm an cdv ct) ps sp:=by
 refine⟨len,λA outer s H args us vs Q E hr e0 hb r hsp=>?_⟩
 have hl:=len _ _ _ _ hsp
 have KX:K.In s.heap:=e0.mod.kin.keeps λb o e=>(e0.bs b o e).1
 have lim:s.heap.NoLimit:=e0.mod.nolimit.keeps λb o e=>(e0.bs b o e).1
 have hkind:∀y∈ps.zip us,scope.names.lookup y.1=some .local\/(scope.names.lookup y.1=some .cell/\((cellsFrom (s.heap.objs.size+1) scope.names []).lookup y.1).isSome=true):=λ⟨n,v⟩ hy=>by
  rcases S.par n (qA4 hy).1 with q|q
  ·exact .inl q
  ·exact .inr ⟨q,qBI _ _ _ (.inl q)⟩
 refine qBt hr.depth (KX _ _ lk) rfl S.co S.gen rfl (qBu KX hcd) (hb _ _ _ _ ?_)
 refine qBW S.kind hkind λenv he s1 x=>?_
 subst he
 refine⟨lim.keeps x.toInCall.keep,qCx ?_⟩
 obtain⟨t,ht,hq⟩:=hbody A outer s H vs Q E (hr.deeper _) hsp
 have I:Inv (cxOf CX P w K mg base N qual scope f cdv A outer s H E) [] (zfz N vs) H s1:=zok S hr.hd e0 hl r x
 refine qBB (ht [] s1 (zfz N vs) H _ I hq) (λfl s' hs=>?_) λe s' hs=>hs
 have fin:∀{σ':St}{H':Hp}{v:V}{u:Value},Inv (cxOf CX P w K mg base N qual scope f cdv A outer s H E) [] σ' H' s'->RelV v u->Q v H'->CE outer P w H s Q u s':=
  λ{σ' H' v u} J rv q=>⟨v,H',J.os,J.bare,J.base,J.hok,rv,q⟩
 cases fl with
 | ret u=>
  obtain⟨v,σ',H',J,rv,q⟩:=hs
  exact fin J rv q
 | next=>
  obtain⟨σ',H',J,q⟩:=hs
  exact fin (v:=V.non) (u:=Value.none) J rfl q
 | brk=>
  obtain⟨_,_,_,q⟩:=hs
  exact False.elim q
 | cont=>
  obtain⟨_,_,_,q⟩:=hs
  exact False.elim q
section
variable{X:Cx}{x:Str}{p pos:Pos}{e:Expr}{es:List Expr}{t:TA}{id T:String}{r:List V->Hp->VK->Prop}
def tCB(r:List V->Hp->VK->Prop)(t:TA):TE:=λσ H Q=>t σ H λvs H1=>r vs H1 Q
theorem zaff(hc:CallR X (.builtin id) r)(hg:Gl X x)(hm:X.mg x=none)(hv:bootBuiltins x=some (.builtin id))(ha:PA X (e::es) t)(hn:x≠"__name__":=by decide)(hdb:(x==("__debug__":Str))=false:=by decide)
  (he:starEach (e::es) X.env=(false,eval e X.env)::starEach es X.env:=by rfl) (hpl:(backTo pos (starEach es X.env)).any (·.1)=false:=by rfl):PE X (.Call (.Name x p) (e::es) [] pos) (tCB r t):=by
 intro pins s σ H Q I h
 refine qBS (ztf I hg hm hv ?_ hn hdb)
 exact PyProof.Rows.callWith_builtin1 (thn (ha pos pins s σ H _ I h) λus s1 ⟨vs,H1,I1,r1,q1⟩=>hc pins s1 σ H1 vs us Q I1 r1 q1) he hpl
theorem zaji(hc:CallR X (.type T) r)(hg:Gl X x)(hm:X.mg x=none)(hv:bootBuiltins x=some (.type T))(ha:PA X (e::es) t)(hn:x≠"__name__":=by decide)(hdb:(x==("__debug__":Str))=false:=by decide)
  (he:starEach (e::es) X.env=(false,eval e X.env)::starEach es X.env:=by rfl) (hpl:(backTo pos (starEach es X.env)).any (·.1)=false:=by rfl):PE X (.Call (.Name x p) (e::es) [] pos) (tCB r t):=by
 intro pins s σ H Q I h
 refine qBS (ztf I hg hm hv ?_ hn hdb)
 exact qBn (thn (ha pos pins s σ H _ I h) λus s1 ⟨vs,H1,I1,r1,q1⟩=>hc pins s1 σ H1 vs us Q I1 r1 q1) he hpl
end
end L2
namespace HT
open PySem PyProof.Rows
section
open PySem.SeqAt
open PySem.AutoSeq1 (wpAny_loadPart')
open PySem.MeetsSeq PySem.MeetsSeq2 PySem.MeetsSeq3
end
section
variable{prog:Program}{w:World}{A:Around}{E:Value->Shared->Prop}{s:Shared}
theorem cat_tup{vs ws:List Value}{Q:Value->Shared->Prop}(ht:IsTup s.heap t vs.toArray)(hb:IsTup s.heap b ws.toArray)(hv:vs≠[])
  (h1:ws=[]->Q (.ref t) s) (h2:ws≠[]->Q (.ref s.heap.objs.size) {s with heap:=s.heap.push {cls:=.type "tuple",data:=.seq (vs++ws).toArray}})
  (hsz:vs.length+ws.length<=qU):wpAny (model prog w) A (binaryOp .Add (.ref t) (.ref b)) Q E s:=by
 obtain⟨⟨cls,dd,data,sl⟩,ho,hc,n,hd⟩:=id ht
 obtain⟨⟨cls2,dd2,data2,sl2⟩,ho2,hc2,n2,hd2⟩:=id hb
 simp only at hc hd hc2 hd2
 subst hc hd hc2 hd2
 have e:vs.toArray++ws.toArray=(vs++ws).toArray:=by simp
 by_cases hw:ws=[]
 ·exact concat_meets ⟨_,ho,rfl⟩ ⟨_,ho2,rfl⟩ qC4 seq_tuple_add qB9 qB6 (qB1 _ _)
   (tuple_addW1 t b vs.toArray ws.toArray n n2 dd dd2 sl sl2 (by simpa using hv) (by simp[hw])) ⟨ho,ho2,h1 hw⟩
 ·refine concat_meets ⟨_,ho,rfl⟩ ⟨_,ho2,rfl⟩ qC4 seq_tuple_add qB9 qB6 (qB1 _ _)
   (tuple_addW2 t b vs.toArray ws.toArray n n2 dd dd2 sl sl2 (by simpa using hv) (by simpa using hw) (by rw[qM,qM];exact hsz)) ⟨ho,ho2,?_⟩
  rw[e]
  exact h2 hw
def sIx(n d:Nat):Option Int->Nat
 | none=>d
 | some v=>if v<0 then(v+(n:Int)).toNat else min v.toNat n
theorem sIx_nat(n d k:Nat):sIx n d (some (k:Int))=min k n:=by
 show(if(k:Int)<0 then((k:Int)+(n:Int)).toNat else min (k:Int).toNat n)=min k n
 rw[if_neg (by omega),qBE]
theorem zayb(n d:Nat)(hd:d<=n)(o:Option Int):sIx n d o<=n:=by
 cases o with
 | none=>exact hd
 | some v=>
  show(if v<0 then(v+(n:Int)).toNat else min v.toNat n)<=n
  by_cases hv:v<0
  ·rw[if_pos hv];omega
  ·rw[if_neg hv];exact Nat.min_le_right _ _
theorem zajj(v:Int)(n d:Nat):(if v<0 then max (v+(n:Int)) 0 else min v (n:Int))=((sIx n d (some v):Nat):Int):=by
 show(if v<0 then max (v+(n:Int)) 0 else min v (n:Int))=(((if v<0 then(v+(n:Int)).toNat else min v.toNat n):Nat):Int)
 by_cases hv:v<0
 ·simp only[if_pos hv];omega
 ·simp only[if_neg hv];omega
theorem zahp(lo hi:Option Int)(n:Nat):Builtin.Slice.sliceAdjust lo hi 1 (n:Int)=(((sIx n 0 lo:Nat):Int),((sIx n n hi:Nat):Int)):=by
 have h1:¬((1:Int)<0):=by omega
 unfold Builtin.Slice.sliceAdjust
 simp only[h1,if_false]
 refine Prod.ext ?_ ?_
 ·cases lo with
  | none=>rfl
  | some v=>exact zajj v n 0
 ·cases hi with
  | none=>rfl
  | some v=>exact zajj v n n
theorem zahq(i j:Nat):Builtin.Slice.slicePlaces (i:Int) (j:Int) 1=j - i:=by
 unfold Builtin.Slice.slicePlaces
 have h1:(1:Int) > 0:=by omega
 simp only[h1,if_true,Int.ediv_one]
 split<;>omega
theorem zxd{Q:Option Int->Shared->Prop}(p:IsPart v o)(h:Q o s):wpAny (model prog w) A (Builtin.Slice.slicePartIndex v) Q E s:=by
 cases p with
 | none=>exact slicePart_none h
 | int i t=>exact slicePart_int h
theorem zjp{sl:Addr}{vl vu:Value}{lo hi:Option Int}{n:Nat}{Q:Int×Int×Nat->Shared->Prop}(hs:s.heap.IsSliceOf sl vl vu .none)(pl:IsPart vl lo)(pu:IsPart vu hi)
  (h:Q (((sIx n 0 lo:Nat):Int),1,sIx n n hi - sIx n 0 lo) s):wpAny (model prog w) A (Builtin.Slice.sliceApplied (.ref sl) (pure (n:Int))) Q E s:=by
 obtain⟨os,hos,hcs,hds⟩:=id hs
 unfold Builtin.Slice.sliceApplied Builtin.Slice.sliceFields
 refine qD (qD (qAW hos hds (x:=vl) rfl (qD (qAW hos hds (x:=vu) rfl (qD (qAW hos hds (x:=.none) rfl (qI ?_)))))))
 refine qD (slicePart_none ?_)
 show wpAny _ _ (if((1:Int)==0)=true then _ else _) _ _ s
 rw[if_neg (by decide)]
 refine qD (zxd pl (qD (zxd pu (qD (qI ?_)))))
 show wpAny _ _ (match Builtin.Slice.sliceAdjust lo hi 1 (n:Int)with|(lo,hi)=>pure (lo,(1:Int),Builtin.Slice.slicePlaces lo hi 1)) _ _ s
 rw[zahp lo hi n]
 show wpAny _ _ (pure (((sIx n 0 lo:Nat):Int),(1:Int),Builtin.Slice.slicePlaces ((sIx n 0 lo:Nat):Int) ((sIx n n hi:Nat):Int) 1)) _ _ s
 rw[zahq]
 exact qI h
theorem zaol(xs:Array Value)(i k:Nat):((List.range k).filterMap λ(m:Nat)=>xs[((i:Int)+(m:Int) * 1).toNat]?).toArray=((xs.toList.drop i).take k).toArray:=by
 have e:(λ(m:Nat)=>xs[((i:Int)+(m:Int) * 1).toNat]?)=λm=>xs[i+m]?:=by
  funext m
  have:((i:Int)+(m:Int) * 1).toNat=i+m:=by omega
  rw[this]
 rw[e]
 have:=pick_run xs i k
 rw[List.filterMap_map]at this
 have e2:((λx=>xs[x]?)∘λx=>i+x)=λm=>xs[i+m]?:=rfl
 rw[e2]at this
 rw[this]
theorem getItem_tuple_cut{t sl:Addr}{items:Array Value}{vl vu:Value}{lo hi:Option Int}{Q:Value->Shared->Prop}(ht:IsTup s.heap t items)(hs:s.heap.IsSliceOf sl vl vu .none)(pl:IsPart vl lo)(pu:IsPart vu hi)
  (hw:¬(sIx items.size 0 lo=0/\sIx items.size items.size hi=items.size))
  (h:Q (.ref s.heap.objs.size) {s with heap:=s.heap.push {cls:=.type "tuple",data:=.seq ((items.toList.drop (sIx items.size 0 lo)).take (sIx items.size items.size hi - sIx items.size 0 lo)).toArray}})
  (hsz:items.size<=qU):wpAny (model prog w) A (getItem (.ref t) (.ref sl)) Q E s:=by
 have htake:sizeOk (.seq ((items.toList.drop (sIx items.size 0 lo)).take (sIx items.size items.size hi - sIx items.size 0 lo)).toArray):=by
  show((items.toList.drop (sIx items.size 0 lo)).take (sIx items.size items.size hi - sIx items.size 0 lo)).toArray.size<=qU
  rw[qM,qAV,qj,qCP]
  omega
 have hj:sIx items.size items.size hi<=items.size:=zayb _ _ (qL _) hi
 obtain⟨os,hos,hcs,hds⟩:=id hs
 have hTs:s.TypeIs (.ref sl) "slice":=⟨os,hos,hcs⟩
 unfold getItem
 try with_reducible refine qBp ?_
 first|refine qD (qI ?_)|skip
 refine qD (wpAny_sequenceKey ht.typeIs (by decide) ?_)
 refine qD (qAr (name:=Str.ofString "__getitem__") ht.typeIs qAY
  (qBN qAY ht.typeIs entry_tuple_getitem ?_ (args_tuple_getitem _ _)))
 show wpAny _ _ (Builtin.Tuple.tupleItemsOf (.ref t) >>=_) _ _ s
 refine qD (tupleItemsOf_ ht ?_)
 refine qD (qCw hTs ?_)
 rw[if_pos (by decide)]
 refine qD (zjp hs pl pu ?_)
 have hno:¬((((sIx items.size 0 lo:Nat):Int)==0&&(1:Int)==1&&(sIx items.size items.size hi - sIx items.size 0 lo)==items.size)=true):=by
  intro q
  rw[qo,qo]at q
  have q1:((sIx items.size 0 lo:Nat):Int)=0:=eq_of_beq q.1.1
  have q2:sIx items.size items.size hi - sIx items.size 0 lo=items.size:=eq_of_beq q.2
  exact hw ⟨by omega,by omega⟩
 show wpAny _ _ (if(((sIx items.size 0 lo:Nat):Int)==0&&(1:Int)==1&&(sIx items.size items.size hi - sIx items.size 0 lo)==items.size)=true then _ else _) _ _ s
 rw[if_neg hno,zaol]
 first
  | exact qD (m:=Builtin.Tuple.tupleExact _) (qA7 (qI ⟨_,rfl,qI h⟩) htake)
  | exact qD (m:=Builtin.Tuple.tupleExact _) (qA7 (qD (qI (qI ⟨_,rfl,qI h⟩))) htake)
  | exact qD (qD (m:=Builtin.Tuple.tupleExact _) (qA7 (qI (qI ⟨_,rfl,qI h⟩)) htake))
  | exact qD (qD (m:=Builtin.Tuple.tupleExact _) (qA7 (qI ⟨_,rfl,qI h⟩) htake))
end
end HT
namespace L2
open PySem PySem.Spec PyProof.Rows
abbrev TO:=St->Hp->(Option Int->Hp->Prop)->Prop
def PO(X:Cx)(e:Option Expr)(t:TO):Prop:=
 ∀(pins:List (Addr×Obj))(s:Shared)(σ:St)(H:Hp)(Q:Option Int->Hp->Prop),Inv X pins σ H s->t σ H Q->
  wpAny (model X.prog X.w) X.A (evalPart e X.env) (λu s'=>∃o H',Inv X pins σ H' s'/\IsPart u o/\Q o H') X.xe s
def tNoPart:TO:=λ_ H Q=>Q none H
def tPart(t:TE):TO:=λσ H Q=>t σ H λx H1=>∃i,x=.int i/\Q (some i) H1
section
variable{X:Cx}{e:Expr}{te:TE}{lo hi:Option Expr}{tl th:TO}{pos p2:Pos}
theorem zajk:PO X none tNoPart:=by
 intro pins s σ H Q I h
 rw[evalPart_none]
 exact qI ⟨none,H,I,.none,h⟩
theorem zajl(h:PE X e te):PO X (some e) (tPart te):=by
 intro pins s σ H Q I hw
 rw[evalPart_some]
 refine thn (h pins s σ H _ I hw) λu s1 ⟨x,H1,I1,r1,q1⟩=>?_
 obtain⟨i,rfl,q⟩:=q1
 obtain⟨t,rfl⟩:=r1
 exact⟨some i,H1,I1,.int i t,q⟩
def SlR(X:Cx)(r:V->Option Int->Option Int->Hp->VK->Prop):Prop:=
 ∀(pins:List (Addr×Obj))(s:Shared)(σ:St)(H:Hp)(x:V)(v vl vu:Value)(lo hi:Option Int)(sl:Addr)(Q:VK),Inv X pins σ H s->RelV x v->s.heap.IsSliceOf sl vl vu .none->IsPart vl lo->IsPart vu hi->r x lo hi H Q->
  ∃T id,typeLookup (.type T) "__getitem__"=pure (some (.builtin id))/\s.TypeIs v T/\wpAny (model X.prog X.w) X.A (getItem v (.ref sl)) (EP X pins σ Q) X.xe s
def tSl(r:V->Option Int->Option Int->Hp->VK->Prop)(te:TE)(tl th:TO):TE:=λσ H Q=>te σ H λx H1=>tl σ H1 λl H2=>th σ H2 λu H3=>r x l u H3 Q
theorem zafg{r:V->Option Int->Option Int->Hp->VK->Prop}(hr:SlR X r)(he:PE X e te)(hl:PO X lo tl)(hu:PO X hi th):PE X (.Subscript e (.Slice lo hi none p2) pos) (tSl r te tl th):=by
 intro pins s σ H Q I h
 refine qDY (thn (he pins s σ H _ I h) λv s1 ⟨x,H1,I1,r1,q1⟩=>?_)
 refine wpAny_Slice (thn (hl pins s1 σ H1 _ I1 q1) λvl s2 ⟨l,H2,I2,pl,q2⟩=>thn (hu pins s2 σ H2 _ I2 q2) λvu s3 ⟨u,H3,I3,pu,q3⟩=>?_)
 rw[evalPart_none]
 refine qI ?_
 have I4:Inv X pins σ H3 {s3 with heap:=s3.heap.push {cls:=.type "slice",data:=.fields #[vl,vu,.none]}}:=I3.kept (t':=s3.toks) λb ob q=>qF _ q
 obtain⟨T,id,hT,ht,hg⟩:=hr pins {s3 with heap:=s3.heap.push {cls:=.type "slice",data:=.fields #[vl,vu,.none]}} σ H3 x v vl vu l u s3.heap.objs.size Q I4 r1 (qCj ..) pl pu q3
 show wpAny (model X.prog X.w) X.A (subscriptTail e (.Slice lo hi none p2) v (.ref s3.heap.objs.size)) (EP X pins σ Q) X.xe {s3 with heap:=s3.heap.push {cls:=.type "slice",data:=.fields #[vl,vu,.none]}}
 exact tail_any (ops:=[.ref s3.heap.objs.size,v]) ht hT hg (by with_unfolding_all rfl)
def cutV(xs:List V)(lo hi:Option Int):List V:=(xs.drop (HT.sIx xs.length 0 lo)).take (HT.sIx xs.length xs.length hi - HT.sIx xs.length 0 lo)
theorem zth(xs:List V)(lo hi:Option Int):(cutV xs lo hi).length<=xs.length:=by
 unfold cutV
 rw[qAV,qj]
 omega
def rSlT(K:qB):V->Option Int->Option Int->Hp->VK->Prop:=λx lo hi H Q=>∃a xs,x=.ref a/\SqT K H a xs/\
 ¬(HT.sIx xs.length 0 lo=0/\HT.sIx xs.length xs.length hi=xs.length)/\∀p,H p=none->Q (.ref p) (upd H p (.tup (cutV xs lo hi)))
theorem zayc:SlR X (rSlT X.K):=by
 intro pins s σ H x v vl vu lo hi sl Q I rx hs pl pu h
 obtain⟨a,xs,rfl,hx,hw,q⟩:=h
 cases rx
 obtain⟨its,r,ht,hz⟩:=I.tuple hx
 have hlen:its.toArray.size=xs.length:=by rw[qM];exact r.length.symm
 refine⟨"tuple",_,qAY.lookup,ht.typeIs,?_⟩
 refine HT.getItem_tuple_cut ht hs pl pu (by rw[hlen];exact hw) ?_ (by rw[hlen];exact hz)
 rw[hlen]
 refine⟨.ref s.heap.objs.size,_,I.laid (t':=s.toks) (o:=.tup (cutV xs lo hi)) (λb ob q=>qF _ q) (qL _) ?_,rfl,q _ (I.hok.fresh (qL _))⟩
 exact⟨qAI (zth xs lo hi) hz,_,(r.drop (HT.sIx xs.length 0 lo)).take (HT.sIx xs.length xs.length hi - HT.sIx xs.length 0 lo),IsTup.new _ _⟩
def zayd(K:qB):R2:=λx y H Q=>∃a b xs ys,x=.ref a/\y=.ref b/\SqT K H a xs/\SqT K H b ys/\xs≠[]/\xs.length+ys.length<=qU/\
 (ys=[]->Q (.ref a) H)/\(ys≠[]->∀p,H p=none->Q (.ref p) (upd H p (.tup (xs++ys))))
theorem Vals.nil_iff(r:Vals xs us):us=[]↔xs=[]:=by
 cases r with
 | nil=>simp
 | cons _ _=>simp
theorem zaty:OpR X (binaryOp .Add) (zayd X.K):=by
 intro pins s σ H x y v u Q I rx ry h
 obtain⟨a,b,xs,ys,rfl,rfl,ha,hb,hx,hz,q1,q2⟩:=h
 cases rx
 cases ry
 obtain⟨its,r1,p1,_⟩:=I.tuple ha
 obtain⟨its2,r2,p2,_⟩:=I.tuple hb
 refine HT.cat_tup p1 p2 (λz=>hx (r1.nil_iff.mp z)) (λz=>⟨.ref a,H,I,rfl,q1 (r2.nil_iff.mp z)⟩) (λz=>?_) (by rw[<- r1.length,<- r2.length];exact hz)
 refine⟨.ref s.heap.objs.size,_,I.laid (t':=s.toks) (o:=.tup (xs++ys)) (λb ob q=>qF _ q) (qL _) ?_,rfl,q2 (λw=>z (r2.nil_iff.mpr w)) _ (I.hok.fresh (qL _))⟩
 exact⟨by rw[qO];exact hz,_,r1.append r2,IsTup.new _ _⟩
end
def ixN(n:Nat)(i:Int):Option Nat:=if 0<=i then(if i<n then some i.toNat else none)else if -(n:Int)<=i then some (i+n).toNat else none
def atI{α:Type}(xs:List α)(i:Int):Option α:=(ixN xs.length i).bind λj=>xs[j]?
theorem zajm(h:ixN n i=some j):seqIndex? i n=some j/\j<n/\-(n:Int)<=i/\i<n:=by
 unfold ixN at h
 by_cases h0:0<=i
 ·rw[if_pos h0]at h
  by_cases h1:i<n
  ·rw[if_pos h1]at h
   have e:i.toNat=j:=qX h
   exact⟨by rw[qDF h0 h1,e],by omega,by omega,h1⟩
  ·rw[if_neg h1]at h;cases h
 ·rw[if_neg h0]at h
  by_cases h1:-(n:Int)<=i
  ·rw[if_pos h1]at h
   have e:(i+n).toNat=j:=qX h
   exact⟨by rw[seqIndex_neg (by omega) h1,e],by omega,h1,by omega⟩
  ·rw[if_neg h1]at h;cases h
theorem zado{xs:List α}(h:atI xs i=some v):∃j,seqIndex? i xs.length=some j/\xs[j]?=some v/\j<xs.length/\-(xs.length:Int)<=i/\i<xs.length:=by
 unfold atI at h
 cases e:ixN xs.length i with
 | none=>rw[e]at h;cases h
 | some j=>
  rw[e]at h
  obtain⟨h1,h2,h3,h4⟩:=zajm e
  exact⟨j,h1,h,h2,h3,h4⟩
theorem zki{α:Type}{xs:List α}{j:Nat}{v:α}(h:xs[j]?=some v):atI xs (j:Int)=some v:=by
 have hj:j<xs.length:=(qS.mp h).1
 have e:ixN xs.length (j:Int)=some j:=by
  unfold ixN
  rw[if_pos (by omega),if_pos (by omega)];simp
 unfold atI;rw[e];exact h
def PlainIx(b:Expr):Prop:=∀o i,subscripted b false o i=operate [o,i] (getItem o i)
def IxR(X:Cx)(r:R2):Prop:=
 ∀(value slice:Expr)(pins:List (Addr×Obj))(s:Shared)(σ:St)(H:Hp)(x y:V)(v u:Value)(Q:VK),Inv X pins σ H s->RelV x v->RelV y u->r x y H Q->
  subscripted slice false v u=operate [v,u] (getItem v u)->wpAny (model X.prog X.w) X.A (subscriptTail value slice v u) (EP X pins σ Q) X.xe s
def MtR(X:Cx)(id:String)(r:V->List V->Hp->VK->Prop):Prop:=
 ∀(pins:List (Addr×Obj))(s:Shared)(σ:St)(H:Hp)(x:V)(xs:List V)(v:Value)(us:List Value)(Q:VK),Inv X pins σ H s->RelV x v->Vals xs us->r x xs H Q->
  wpAny (model X.prog X.w) X.A (call (.builtin id) (v::us)) (EP X pins σ Q) X.xe s
section
variable{X:Cx}{a b:Expr}{ta tb:TE}{pos:Pos}
theorem zaye(hr:IxR X r)(ha:PE X a ta)(hb:PE X b tb)(hs:PlainIx b):PE X (.Subscript a b pos) (tOp r ta tb):=by
 intro pins s σ H Q I h
 exact qDY (binT ha hb I h λv u s2 x y H2 I2 rx ry q=>hr a b pins s2 σ H2 x y v u Q I2 rx ry q (hs _ _))
def rIxL(K:qB):R2:=λx y H Q=>∃p xs i v,x=.ref p/\y=.int i/\SqL K H p xs/\atI xs i=some v/\Q v H
def rIxT(K:qB):R2:=λx y H Q=>∃p xs i v,x=.ref p/\y=.int i/\SqT K H p xs/\atI xs i=some v/\Q v H
def rIxS:R2:=λx y H Q=>∃z i c,x=.str z/\y=.int i/\z.length<=qU/\atI z.cps.toList i=some c/\Q (.str ⟨#[c]⟩) H
theorem zatz:IxR X (rIxL X.K):=by
 intro value slice pins s σ H x y v u Q I rx ry h hs
 obtain⟨p,xs,i,z,rfl,rfl,hq,he,q⟩:=h
 cases rx
 obtain⟨t,rfl⟩:=ry
 obtain⟨its,r,pl,hz⟩:=I.list hq
 obtain⟨j,h1,h2,h3,h4,h5⟩:=zado he
 obtain⟨w,ew,rw'⟩:=r.get h2
 have hl:=r.length
 have hn:=zxb
 have fin:EP X pins σ Q w s:=⟨z,H,I,rw',q⟩
 by_cases h0:0<=i
 ·have hj:i.toNat=j:=by
   rw[qDF h0 h5]at h1
   exact qX h1
  exact item_listR pl.isList h0 (by omega) (by rw[hj];simpa using ew) fin hs
 ·have hj:(i+(its.toArray.size:Int)).toNat=j:=by
   rw[seqIndex_neg (by omega) h4]at h1
   rw[qM,<- hl]
   exact qX h1
  exact subscriptTail_builtinR (x:=w) pl.isList.typeIs qCr.lookup
   (wpAny_getItem_list_neg (Q:=λr s'=>r=w/\EP X pins σ Q r s') pl.isList (by omega) (by rw[qM]<;>omega) (by omega) (by rw[hj];simpa using ew) ⟨rfl,fin⟩) hs
theorem zayf:IxR X (rIxT X.K):=by
 intro value slice pins s σ H x y v u Q I rx ry h hs
 obtain⟨p,xs,i,z,rfl,rfl,hq,he,q⟩:=h
 cases rx
 obtain⟨t,rfl⟩:=ry
 obtain⟨its,r,pl,hz⟩:=I.tuple hq
 obtain⟨j,h1,h2,h3,h4,h5⟩:=zado he
 obtain⟨w,ew,rw'⟩:=r.get h2
 have hl:=r.length
 have hn:=zxb
 have fin:EP X pins σ Q w s:=⟨z,H,I,rw',q⟩
 exact subscriptTail_builtinR (x:=w) pl.typeIs slot_tuple_getitem.lookup
  (getItem_tuple (j:=j) (Q:=λr s'=>r=w/\EP X pins σ Q r s') pl (by omega) (by omega) (by rw[qM,<- hl];exact h1) (by simpa using ew) ⟨rfl,fin⟩) hs
theorem zayg:IxR X rIxS:=by
 intro value slice pins s σ H x y v u Q I rx ry h hs
 obtain⟨z,i,c,rfl,rfl,hz,he,q⟩:=h
 obtain⟨t,rfl⟩:=rx
 obtain⟨t',rfl⟩:=ry
 obtain⟨j,h1,h2,h3,h4,h5⟩:=zado he
 have hl:z.cps.toList.length=z.length:=by simp[Str.length]
 rw[hl]at h1 h4 h5
 have hn:=zxb
 exact tail_any (typeIs_str s z t) slot_str_getitem.lookup (getItem_str (c:=c) (by
  have e1:decide (i < -(2 ^ 63:Int))=false:=decide_eq_false (by omega)
  have e2:decide (i>=2 ^ 63)=false:=decide_eq_false (by omega)
  rw[e1,e2,Bool.or_false]) (by rw[h1];simpa using h2) ⟨.str ⟨#[c]⟩,H,I.tok _,⟨_,rfl⟩,q⟩) hs
theorem zahr(its:List Value)(n j:Nat)(u:Value):Obj.mapSeq (·.setIfInBounds j u) {cls:=.type "list",data:=.seq its.toArray n}={cls:=.type "list",data:=.seq (its.set j u).toArray n}:=by
 simp[Obj.mapSeq]
theorem Inv.lst{s:Shared}{xs:List V}(I:Inv X pins σ H s)(h:H p=some (.lst xs)) :
  ∃(its:List Value)(n:Nat),Vals xs its/\s.heap.get? p=some {cls:=.type "list",data:=.seq its.toArray n}/\xs.length<=qU:=by
 obtain⟨z,its,n,r,e⟩:=I.hok p _ h
 exact⟨its,n,r,e,z⟩
theorem Inv.lstUpd{s:Shared}{xs ys:List V}{its its':List Value}{f:Obj->Obj}(I:Inv X pins σ H s)(h:H p=some (.lst xs))
  (ho:s.heap.get? p=some {cls:=.type "list",data:=.seq its.toArray n}) (hf:f {cls:=.type "list",data:=.seq its.toArray n}={cls:=.type "list",data:=.seq its'.toArray n'}) (r:Vals ys its') (hz:ys.length<=qU) (t:Nat) :
  Inv X pins σ (upd H p (.lst ys)) {s with heap:=s.heap.update p f,toks:=t}:=by
 have e:(s.heap.update p f).get? p=some {cls:=.type "list",data:=.seq its'.toArray n'}:=by
  rw[qAm f ho (by rw[hf]<;>rfl),hf]
 refine I.write (x:=p) (e:=p) (by rw[h];trivial) (.inl rfl) (λb u hb q=>(qAX _ _ (qAp hb)).trans q) ⟨_,e⟩ ?_
 exact⟨hz,its',n',r,e⟩
def zaua:V->V->V->Hp->(Hp->Prop)->Prop:=λo i v H Q=>∃p xs k j,o=.ref p/\i=.int k/\H p=some (.lst xs)/\ixN xs.length k=some j/\Q (upd H p (.lst (xs.set j v)))
theorem zaom:PSet X zaua:=by
 intro pins s σ H o i v ov iv u Q I ro ri rv h
 obtain⟨p,xs,k,j,rfl,rfl,hp,hj,q⟩:=h
 cases ro
 obtain⟨t,rfl⟩:=ri
 obtain⟨its,n,r,ho,hz⟩:=I.lst hp
 obtain⟨h1,h2,h3,h4⟩:=zajm hj
 have hl:=r.length
 have hn:=zxb
 have I':Inv X pins σ (upd H p (.lst (xs.set j v))) {s with heap:=s.heap.update p (Obj.mapSeq (·.setIfInBounds j u))}:=
  I.lstUpd hp ho (zahr its n j u) (r.set rv j) (by rw[qd];exact hz) s.toks
 by_cases h0:0<=k
 ·have hk:k.toNat=j:=by
   rw[qDF h0 h4]at h1
   exact qX h1
  exact PySem.W.ki_setAt ho h0 (by omega) (by rw[qM,<- hl];exact h4) (by rw[hk];exact⟨_,I',q⟩)
 ·have hk:(k+(its.toArray.size:Int)).toNat=j:=by
   rw[seqIndex_neg (by omega) h3]at h1
   rw[qM,<- hl]
   exact qX h1
  exact PySem.W.ki_setBack ho (by omega) (by rw[qM,<- hl];exact h3) (by omega) (by rw[hk];exact⟨_,I',q⟩)
theorem zaao(lo hi:Option Int)(n:Nat):(sliceBounds lo hi none n).1=((HT.sIx n 0 lo:Nat):Int)/\(sliceBounds lo hi none n).2.1=((HT.sIx n n hi:Nat):Int)/\(sliceBounds lo hi none n).2.2=1:=by
 refine⟨?_,?_,rfl⟩
 ·cases lo with
  | none=>simp[sliceBounds,HT.sIx]
  | some i=>
   simp only[sliceBounds,HT.sIx,Option.getD_none,show(1:Int) > 0 by decide,if_true]
   by_cases h:i<0
   ·simp only[h,if_true]<;>omega
   ·simp only[h,if_false]<;>omega
 ·cases hi with
  | none=>simp[sliceBounds,HT.sIx]
  | some i=>
   simp only[sliceBounds,HT.sIx,Option.getD_none,show(1:Int) > 0 by decide,if_true]
   by_cases h:i<0
   ·simp only[h,if_true]<;>omega
   ·simp only[h,if_false]<;>omega
theorem zyq(its:List Value)(lo hi:Option Int):slicePick its.toArray lo hi none=((its.drop (HT.sIx its.length 0 lo)).take (HT.sIx its.length its.length hi - HT.sIx its.length 0 lo)).toArray:=by
 obtain⟨h1,h2,h3⟩:=zaao lo hi its.toArray.size
 unfold slicePick
 rw[h1,h2,h3]
 simp only[sliceRange_one,pick_run,qM]<;>rfl
def rSlL(K:qB):V->Option Int->Option Int->Hp->VK->Prop:=λx lo hi H Q=>∃a xs,x=.ref a/\SqL K H a xs/\∀p,H p=none->Q (.ref p) (upd H p (.lst (cutV xs lo hi)))
theorem zaub:SlR X (rSlL X.K):=by
 intro pins s σ H x v vl vu lo hi sl Q I rx hs pl pu h
 obtain⟨a,xs,rfl,hx,q⟩:=h
 cases rx
 obtain⟨its,r,ht,hz⟩:=I.list hx
 have hlen:=r.length
 refine⟨"list",_,qCr.lookup,ht.isList.typeIs,?_⟩
 refine qDW ht.isList hs pl pu .none (by simp) ?_ (by rw[qM]<;>omega)
 rw[zyq,<- hlen]
 refine⟨.ref s.heap.objs.size,_,I.laid (t':=s.toks) (o:=.lst (cutV xs lo hi)) (λb ob q=>qF _ q) (qL _) ?_,rfl,q _ (I.hok.fresh (qL _))⟩
 exact⟨qAI (zth xs lo hi) hz,_,0,(r.drop (HT.sIx xs.length 0 lo)).take (HT.sIx xs.length xs.length hi - HT.sIx xs.length 0 lo),qY _ rfl⟩
def zwp:V->Bool
 | .non=>true
 | .bl _=>true
 | .int _=>true
 | .str _=>true
 | _=>false
def eqV:V->V->Bool
 | .non,.non=>true
 | .bl a,.bl b=>a==b
 | .bl a,.int b=>(if a then 1 else 0)==b
 | .int a,.bl b=>a==(if b then 1 else 0)
 | .int a,.int b=>a==b
 | .str a,.str b=>a==b
 | _,_=>false
theorem zayh(ry:RelV y u)(rx:RelV x v)(fy:zwp y=true)(fx:zwp x=true):SeqAt.EqAt A s u v (eqV y x):=by
 cases y with
 | non=>
  cases ry
  cases x with
  | non=>cases rx;exact SeqAt.EqAt.same _
  | bl b=>cases rx;exact SeqAt.EqAt.none_bool b
  | int b=>obtain⟨t,rfl⟩:=rx;exact SeqAt.EqAt.none_int b t
  | str b=>obtain⟨t,rfl⟩:=rx;exact SeqAt.EqAt.none_str b t
  | _=>exact absurd (show false=true from fx) qP
 | bl a=>
  cases ry
  cases x with
  | non=>cases rx;exact SeqAt.EqAt.bool_none a
  | bl b=>cases rx;exact SeqAt.EqAt.bool_bool a b
  | int b=>obtain⟨t,rfl⟩:=rx;exact SeqAt.EqAt.bool_int a b t
  | str b=>obtain⟨t,rfl⟩:=rx;exact SeqAt.EqAt.bool_str a b t
  | _=>exact absurd (show false=true from fx) qP
 | int a=>
  obtain⟨t',rfl⟩:=ry
  cases x with
  | non=>cases rx;exact SeqAt.EqAt.int_none a t'
  | bl b=>cases rx;exact SeqAt.EqAt.int_bool a t' b
  | int b=>obtain⟨t,rfl⟩:=rx;exact SeqAt.EqAt.int_int a t' b t
  | str b=>obtain⟨t,rfl⟩:=rx;exact qC6 a t' b t
  | _=>exact absurd (show false=true from fx) qP
 | str a=>
  obtain⟨t',rfl⟩:=ry
  cases x with
  | non=>cases rx;exact SeqAt.EqAt.str_none a t'
  | bl b=>cases rx;exact SeqAt.EqAt.str_bool a t' b
  | int b=>obtain⟨t,rfl⟩:=rx;exact qC5 a t' b t
  | str b=>obtain⟨t,rfl⟩:=rx;exact SeqAt.EqAt.str_str a t' b t
  | _=>exact absurd (show false=true from fx) qP
 | _=>exact absurd (show false=true from fy) qP
def eqU(x:V)(u:Value):Bool:=match u with
 | .none=>eqV .non x
 | .bool b=>eqV (.bl b) x
 | .int i _=>eqV (.int i) x
 | .str z _=>eqV (.str z) x
 | _=>false
theorem zarx(r:RelV y u)(f:zwp y=true):eqU x u=eqV y x:=by
 cases y with
 | non=>cases r;rfl
 | bl b=>cases r;rfl
 | int i=>obtain⟨t,rfl⟩:=r;rfl
 | str z=>obtain⟨t,rfl⟩:=r;rfl
 | _=>exact absurd (show false=true from f) qP
theorem zti:∀{xs:List V}{us:List Value},Vals xs us->xs.all zwp=true->us.any (eqU x)=xs.any λy=>eqV y x
 | _,_,.nil,_=>rfl
 | y::xs,u::us,.cons r t,f=>by
  rw[qA0,qo]at f
  rw[qBH,qBH,zarx r f.1,zti t f.2]
theorem zol(rx:RelV x v)(fx:zwp x=true):∀{xs:List V}{us:List Value},Vals xs us->xs.all zwp=true->∀u∈us,SeqAt.EqAt A s u v (eqU x u)
 | _,_,.nil,_=>λu hu=>by cases hu
 | y::xs,u::us,.cons r t,f=>λu' hu=>by
  rw[qA0,qo]at f
  rcases qZ.mp hu with rfl|hu
  ·rw[zarx r f.1];exact zayh r rx f.1 fx
  ·exact zol rx fx t f.2 u' hu
def inV(x:V)(xs:List V):Bool:=xs.any λy=>eqV y x
def rIn(K:qB)(neg:Bool):R2:=λx y H Q=>∃p xs,y=.ref p/\(SqL K H p xs\/SqT K H p xs)/\zwp x=true/\xs.all zwp=true/\Q (.bl (if neg then !inV x xs else inV x xs)) H
theorem zajn:OpR X (compareOp .In) (rIn X.K false):=by
 intro pins s σ H x y v u Q I rx ry h
 obtain⟨p,xs,rfl,hq,fx,fs,q⟩:=h
 cases ry
 rcases hq with hq|hq
 ·obtain⟨its,r,pl,hz⟩:=I.list hq
  refine SeqAt.in_listAt (eqU x) pl.isList (λw hw=>zol rx fx r fs w (by simpa using hw)) ⟨.bl _,H,I,rfl,?_⟩
  rw[show its.toArray.any (eqU x)=its.any (eqU x) by simp,zti r fs]
  exact q
 ·obtain⟨its,r,pl,hz⟩:=I.tuple hq
  refine SeqAt.in_tupleAt (eqU x) pl (λw hw=>zol rx fx r fs w (by simpa using hw)) ⟨.bl _,H,I,rfl,?_⟩
  rw[show its.toArray.any (eqU x)=its.any (eqU x) by simp,zti r fs]
  exact q
theorem zaap:OpR X (compareOp .NotIn) (rIn X.K true):=by
 intro pins s σ H x y v u Q I rx ry h
 obtain⟨p,xs,rfl,hq,fx,fs,q⟩:=h
 cases ry
 rcases hq with hq|hq
 ·obtain⟨its,r,pl,hz⟩:=I.list hq
  refine SeqAt.notIn_listAt (eqU x) pl.isList (λw hw=>zol rx fx r fs w (by simpa using hw)) ⟨.bl _,H,I,rfl,?_⟩
  rw[show its.toArray.any (eqU x)=its.any (eqU x) by simp,zti r fs]
  exact q
 ·obtain⟨its,r,pl,hz⟩:=I.tuple hq
  refine SeqAt.notIn_tupleAt (eqU x) pl (λw hw=>zol rx fx r fs w (by simpa using hw)) ⟨.bl _,H,I,rfl,?_⟩
  rw[show its.toArray.any (eqU x)=its.any (eqU x) by simp,zti r fs]
  exact q
theorem zaaq:CallR X (.type "list") (λxs H Q=>∃p ys,xs=[.ref p]/\(SqL X.K H p ys\/SqT X.K H p ys)/\∀l,H l=none->Q (.ref l) (upd H l (.lst ys))):=by
 intro pins s σ H xs us Q I r h
 obtain⟨p,ys,rfl,hq,q⟩:=h
 obtain⟨u,rfl,rx⟩:=zadn r
 cases rx
 have fin:∀(its:List Value),Vals ys its->ys.length<=qU->∀(h':Heap)(c':Nat),(∀b o',s.heap.get? b=some o'->h'.get? b=some o')->
   h'.get? s.heap.objs.size=some {cls:=.type "list",dict:=none,data:=.seq its.toArray c',slots:=#[]}->EP X pins σ Q (.ref s.heap.objs.size) {s with heap:=h'}:=λits r' hz h' c' kp e=>
  ⟨.ref s.heap.objs.size,_,I.laid (t':=s.toks) kp (qL _) (show zek X.prog X.w _ h' _ (.lst ys)from⟨hz,its,c',r',e⟩),rfl,q _ (I.hok.fresh (qL _))⟩
 rcases hq with hq|hq
 ·obtain⟨its,r',pl,hz⟩:=I.list hq
  have hlen:=r'.length
  obtain⟨o,ho,hc,n,hd⟩:=pl.isList
  exact call_list_seq p (.inl rfl) ho hc hd (λh' c' kp e=>fin its r' hz h' c' kp e) (by simp only[qM]<;>omega)
 ·obtain⟨its,r',pl,hz⟩:=I.tuple hq
  have hlen:=r'.length
  obtain⟨o,ho,hc,n,hd⟩:=pl
  exact call_list_seq p (.inr rfl) ho hc hd (λh' c' kp e=>fin its r' hz h' c' kp e) (by simp only[qM]<;>omega)
theorem zyr:CallR X (.type "tuple") (λxs H Q=>∃p ys,xs=[.ref p]/\((SqL X.K H p ys/\∀l,H l=none->Q (.ref l) (upd H l (.tup ys)))\/(SqT X.K H p ys/\Q (.ref p) H))):=by
 intro pins s σ H xs us Q I r h
 obtain⟨p,ys,rfl,h⟩:=h
 obtain⟨u,rfl,rx⟩:=zadn r
 cases rx
 rcases h with⟨hq,q⟩|⟨hq,q⟩
 ·obtain⟨its,r',pl,hz⟩:=I.list hq
  have hlen:=r'.length
  refine call_tuple_list pl.isList (λh' kp=>?_) (by simp only[qM]<;>omega)
  have I1:Inv X pins σ H {s with heap:=h'}:=I.kept (t':=s.toks) kp
  have I2:Inv X pins σ (upd H h'.objs.size (.tup ys)) {s with heap:=h'.push {cls:=.type "tuple",data:=.seq its.toArray}}:=
   I1.laid (t':=s.toks) (λb o e=>qF _ e) (qL _) (show zek X.prog X.w _ _ _ (.tup ys)from⟨hz,its,r',IsTup.new _ _⟩)
  exact⟨.ref h'.objs.size,_,I2,rfl,q _ (I1.hok.fresh (qL _))⟩
 ·obtain⟨its,r',pl,hz⟩:=I.tuple hq
  exact call_tuple_same pl ⟨.ref p,H,I,rfl,q⟩
def tyV(K:qB)(T:String)(x:V)(H:Hp):Prop:=match x with
 | .str _=>T="str"
 | .int _=>T="int"
 | .ref p=>(T="list"/\∃xs,SqL K H p xs)\/(T="tuple"/\∃o,K.lookup p=some o/\o.cls=.type "tuple"/\o.dict=none)\/
   (T="dict"/\((∃kvs,H p=some (.dK kvs))\/∃kvs,H p=some (.dT kvs)))\/(T="set"/\∃S n,H p=some (.set S n))
 | _=>False
theorem zayi{s:Shared}(I:Inv X pins σ H s)(r:RelV x v)(ty:tyV X.K T x H) :
  s.TypeIs v T/\∀a,v=.ref a->∃ob,s.heap.get? a=some ob/\ob.dict=none:=by
 cases x with
 | str z=>
  obtain⟨t,rfl⟩:=r
  cases(show T="str"from ty)
  exact⟨typeIs_str s z t,λ_ e=>nomatch e⟩
 | int i=>
  obtain⟨t,rfl⟩:=r
  cases(show T="int"from ty)
  exact⟨typeIs_int s i t,λ_ e=>nomatch e⟩
 | ref p=>
  cases r
  rcases ty with⟨rfl,xs,hq⟩|⟨rfl,o,hk,hc,hd⟩|⟨rfl,hk⟩|⟨rfl,S,n,hk⟩
  ·obtain⟨its,_,pl,_⟩:=I.list hq
   refine⟨pl.isList.typeIs,λa e=>?_⟩
   cases e
   obtain⟨o,n,e,c,hd,_⟩:=pl
   exact⟨o,e,hd⟩
  ·refine⟨⟨o,I.kIn p o hk,hc⟩,λa e=>?_⟩
   cases e
   exact⟨o,I.kIn _ o hk,hd⟩
  ·have z:∃o,s.heap.get? p=some o/\o.ExactDict:=by
    rcases hk with⟨kvs,hk⟩|⟨kvs,hk⟩
    ·obtain⟨_,_,_,_,o,_,_,e,ex,_⟩:=I.hok p _ hk
     exact⟨o,e,ex⟩
    ·obtain⟨_,_,_,_,o,_,_,e,ex,_⟩:=I.hok p _ hk
     exact⟨o,e,ex⟩
   obtain⟨o,e,ex⟩:=z
   refine⟨⟨o,e,ex.1⟩,λa e2=>?_⟩
   cases e2
   exact⟨o,e,ex.2.1⟩
  ·obtain⟨o,_,_,_,e,ex,_⟩:=I.hok p _ hk
   refine⟨⟨o,e,ex.1⟩,λa e2=>?_⟩
   cases e2
   exact⟨o,e,ex.2.1⟩
 | _=>exact False.elim ty
def tBM(K:qB)(T:String)(r:V->List V->Hp->VK->Prop)(to:TE)(t:TA):TE:=λσ H Q=>to σ H λx H1=>tyV K T x H1/\t σ H1 λxs H2=>r x xs H2 Q
variable{o e:Expr}{es:List Expr}{to:TE}{t:TA}{name:Str}{apos cpos:Pos}{T id:String}{r:V->List V->Hp->VK->Prop}
theorem zbbr(pa:PlainAttrs T)(slot:Slot T name id)(hty:typeOf (.builtin id)=pure (.type "method_descriptor"))(hm:MtR X id r)(ho:PE X o to)(ha:PA X (e::es) t)
  (hbase:attributeBase o name X.env (eval o X.env)=eval o X.env:=by rfl)
  (hfew:((backTo cpos (starEach (e::es) X.env)).all (λx=>!x.1)&&(backToKw cpos (keywordEach [] X.env)).all (λx=>x.1.isSome)
   && decide ((e::es).length+([]:List Keyword).length+(if([]:List Keyword).isEmpty then 0 else 1)<30))=true:=by rfl)
  (hline:(apos.endLine==cpos.line)=true:=by rfl)(hs:starEach (e::es) X.env=(false,eval e X.env)::starEach es X.env:=by rfl)(hplain:(backTo cpos (starEach es X.env)).any (·.1)=false:=by rfl) :
  PE X (.Call (.Attribute o name apos) (e::es) [] cpos) (tBM X.K T r to t):=by
 intro pins s σ H Q I h
 refine wpAny_Call_method_late hbase hfew hline rfl (thn (ho pins s σ H _ I h) λv s1 ⟨x,H1,I1,r1,ty,q1⟩=>?_)
 obtain⟨h1,h2⟩:=zayi I1 r1 ty
 refine⟨T,id,pa,slot,hty,h1,h2,?_⟩
 have hA:=ha cpos pins s1 σ H1 _ I1 q1
 rw[hs]at hA ⊢
 refine qDD (by show(false||(backTo cpos (starEach es X.env)).any (·.1))=false;rw[hplain]<;>rfl) (qDM ?_)
 exact thn hA λus s2 ⟨vs,H2,I2,r2,q2⟩=>hm pins s2 σ H2 x vs v us Q I2 r1 r2 q2
end
def MtM(X:Cx)(id:String)(r:V->List V->Hp->VK->Prop):Prop:=
 ∀(pins:List (Addr×Obj))(s:Shared)(σ:St)(H:Hp)(x:V)(xs:List V)(v:Value)(us:List Value)(Q:VK),Inv X pins σ H s->RelV x v->Vals xs us->r x xs H Q->
  wpAny (model X.prog X.w) X.A (call (.builtin id) (v::us)) (EP X pins σ Q) X.xe s
theorem Vals.one:∀{x:V}{us:List Value},Vals [x] us->∃u,us=[u]/\RelV x u
 | _,_,.cons r .nil=>⟨_,rfl,r⟩
theorem Vals.eraseIdx:∀{xs:List V}{us:List Value}(i:Nat),Vals xs us->Vals (xs.eraseIdx i) (us.eraseIdx i)
 | _,_,_,.nil=>.nil
 | _,_,0,.cons _ t=>t
 | _,_,i+1,.cons r t=>.cons r (Vals.eraseIdx i t)
theorem zaar:∀(l:List α)(i:Nat),(l.eraseIdx i).length<=l.length
 | [],_=>qL _
 | _::_,0=>qCt _
 | _::r,i+1=>Nat.succ_le_succ (zaar r i)
section
variable{X:Cx}{pins:List (Addr×Obj)}{σ:St}{H:Hp}{s:Shared}{l b:Addr}{xs ys zs:List V}
theorem Inv.lset{its its':List Value}{f:Array Value->Array Value}(I:Inv X pins σ H s)(hH:H l=some (.lst xs))
  (e:s.heap.get? l=some {cls:=.type "list",data:=.seq its.toArray n}) (hf:f its.toArray=its'.toArray) (hv:Vals ys its') (hz:ys.length<=qU) :
  Inv X pins σ (upd H l (.lst ys)) {s with heap:=s.heap.update l (Obj.mapSeq f),toks:=t'}:=by
 have q:=PySem.IsL.update e f
 rw[hf]at q
 refine I.write (x:=l) (e:=l) (by rw[hH];exact trivial) (.inl rfl) (λb' u hb hu=>(qAX s.heap (Obj.mapSeq f) (qAp hb)).trans hu) ⟨_,q⟩ ?_
 exact⟨hz,its',_,hv,q⟩
theorem Inv.lnew{its:List Value}(I:Inv X pins σ H s)(hv:Vals ys its)(hz:ys.length<=qU) :
  Inv X pins σ (upd H s.heap.objs.size (.lst ys)) {s with heap:=s.heap.push {cls:=.type "list",data:=.seq its.toArray},toks:=t'}:=
 I.laid (λ_ _ q=>qF _ q) (qL _) ⟨hz,its,0,hv,qY _ rfl⟩
theorem Inv.fresh(I:Inv X pins σ H s):H s.heap.objs.size=none:=I.hok.fresh (qL _)
theorem Inv.lstM(I:Inv X pins σ H s)(hH:H l=some (.lst xs)):xs.length<=qU/\∃(its:List Value)(n:Nat),Vals xs its/\xs.length=its.length/\s.heap.get? l=some {cls:=.type "list",data:=.seq its.toArray n}:=by
 obtain⟨z,its,n,r,e⟩:=I.hok l _ hH
 exact⟨z,its,n,r,r.length,e⟩
theorem zaon(h:n<=qU):Builtin.List.listTooLong n=false:=by
 unfold Builtin.List.listTooLong
 exact decide_eq_false (by omega)
end
section
variable{X:Cx}
def ztj:V->List V->Hp->VK->Prop:=λx vs H Q=>∃l xs y,x=.ref l/\vs=[y]/\H l=some (.lst xs)/\xs.length<qU/\Q .non (upd H l (.lst (xs++[y])))
theorem zbm:MtM X "list.append" ztj:=by
 intro pins s σ H x vs v us Q I rx rv h
 obtain⟨l,xs,y,rfl,rfl,hH,hz,q⟩:=h
 cases rx
 obtain⟨u,rfl,ru⟩:=rv.one
 obtain⟨z,its,n,r,hl,e⟩:=I.lstM hH
 refine qDX F.slot_list_append ⟨_,e,rfl⟩ F.entry_list_append (F.args_list_append_2 _ _) (PySem.list_append l its.toArray n u (by rw[qM];omega)) ⟨e,?_⟩
 refine⟨.non,_,I.lset (its':=its++[u]) hH e (by simp) (r.append (.cons ru .nil)) ?_,rfl,q⟩
 rw[qO,List.length_singleton]
 omega
def zauc:V->List V->Hp->VK->Prop:=λx vs H Q=>∃l b xs zs,x=.ref l/\vs=[.ref b]/\H l=some (.lst xs)/\H b=some (.lst zs)/\xs.length+zs.length<=qU/\Q .non (upd H l (.lst (xs++zs)))
theorem zayj:MtM X "list.extend" zauc:=by
 intro pins s σ H x vs v us Q I rx rv h
 obtain⟨l,b,xs,zs,rfl,rfl,hH,hB,hz,q⟩:=h
 cases rx
 obtain⟨u,rfl,ru⟩:=rv.one
 cases ru
 obtain⟨z,its,n,r,hl,e⟩:=I.lstM hH
 obtain⟨z2,its2,n2,r2,hl2,e2⟩:=I.lstM hB
 have hsz:its.toArray.size+its2.toArray.size<=qU:=by rw[qM,qM];omega
 have hlong:¬(!its.toArray.isEmpty&&Builtin.List.listTooLong (its.toArray.size+its2.toArray.size))=true:=by
  rw[zaon hsz,Bool.and_false]
  exact qP
 refine qDX F.slot_list_extend ⟨_,e,rfl⟩ F.entry_list_extend (F.args_list_extend_2 _ _)
  (AutoSeq1.list_extend_list_list_0 l its.toArray n b its2.toArray n2 hlong (by rw[qM];omega) (by omega)) ⟨e,e2,?_⟩
 refine⟨.non,_,I.lset (its':=its++its2) hH e (by simp) (r.append r2) ?_,rfl,q⟩
 rw[qO]
 omega
def zary:V->List V->Hp->VK->Prop:=λx vs H Q=>∃l xs i k y,x=.ref l/\vs=[.int i]/\H l=some (.lst xs)/\-(2 ^ 63)<=i/\i<2 ^ 63/\seqIndex? i xs.length=some k/\xs[k]?=some y/\Q y (upd H l (.lst (xs.eraseIdx k)))
theorem zafh:MtM X "list.pop" zary:=by
 intro pins s σ H x vs v us Q I rx rv h
 obtain⟨l,xs,i,k,y,rfl,rfl,hH,h1,h2,hk,hy,q⟩:=h
 cases rx
 obtain⟨u,rfl,ru⟩:=rv.one
 obtain⟨t,rfl⟩:=ru
 obtain⟨z,its,n,r,hl,e⟩:=I.lstM hH
 obtain⟨w,hw,rw'⟩:=r.get hy
 refine qDX F.slot_list_pop ⟨_,e,rfl⟩ F.entry_list_pop (F.args_list_pop_2 _ _)
  (MeetsSeq.list_pop_at l its.toArray n i t k w (fitsIndex_both h1 h2) (by rw[qM,<- hl];exact hk) (by rw[<- Array.getElem?_toList];exact hw) (by rw[qM];omega)) ⟨e,?_⟩
 refine⟨y,_,I.lset (its':=its.eraseIdx k) hH e ?_ (r.eraseIdx k) ?_,rw',q⟩
 ·show its.toArray.eraseIdxIfInBounds k=(its.eraseIdx k).toArray
  rw[List.eraseIdxIfInBounds_toArray]
 ·have:=zaar xs k
  omega
def rCat:R2:=λx y H Q=>∃l b xs zs,x=.ref l/\y=.ref b/\H l=some (.lst xs)/\H b=some (.lst zs)/\xs.length+zs.length<=qU/\∀p,H p=none->Q (.ref p) (upd H p (.lst (xs++zs)))
theorem zayk:OpR X (binaryOp .Add) rCat:=by
 intro pins s σ H x y v u Q I rx ry h
 obtain⟨l,b,xs,zs,rfl,rfl,hH,hB,hz,q⟩:=h
 cases rx
 cases ry
 obtain⟨z,its,n,r,hl,e⟩:=I.lstM hH
 obtain⟨z2,its2,n2,r2,hl2,e2⟩:=I.lstM hB
 refine PySem.P.add_list e e2 ?_ (by rw[qM,qM];omega)
 have ea:its.toArray++its2.toArray=(its++its2).toArray:=by simp
 rw[ea]
 exact⟨.ref _,_,I.lnew (t':=s.toks) (r.append r2) (by rw[qO];omega),rfl,q _ I.fresh⟩
end
section
variable{prog:Program}{w:World}{A:Around}{E:Value->Shared->Prop}{s:Shared}
set_option maxRecDepth 100000 in
end
section
variable{κ:Type}[DecidableEq κ]
def valV(kvs:List (κ×V))(k:κ):Option V:=(kvs.find? λkv=>decide (kv.1=k)).map (·.2)
def putK(kvs:List (κ×V))(k:κ)(v:V):List (κ×V):=
 if(kvs.any λkv=>decide (kv.1=k))=true then kvs.map (λkv=>if kv.1=k then(kv.1,v)else kv)else kvs++[(k,v)]
theorem zsz{p:κ×V}(e:p.1=k):valV (p::r) k=some p.2:=by simp[valV,qA5,e]
theorem zta{p:κ×V}(e:¬p.1=k):valV (p::r) k=valV r k:=by simp[valV,qA5,e]
theorem zafi(k:κ):∀kvs:List (κ×V),(kvs.any λkv=>decide (kv.1=k))=(valV kvs k).isSome
 | []=>rfl
 | p::r=>by
  rw[qBH]
  by_cases e:p.1=k
  ·simp only[zsz e,decide_eq_true e,Bool.true_or,qDQ]
  ·rw[zta e,decide_eq_false e,qCX];exact zafi k r
theorem zni(kvs:List (κ×V))(k:κ)(v:V):(putK kvs k v).length<=kvs.length+1:=by
 unfold putK
 split
 ·rw[qC];omega
 ·rw[qO,qy,qBi];omega
theorem RelO.isSome_eq{o:Option V}{u:Option Value}(r:RelO o u):o.isSome=u.isSome:=by
 cases o with
 | none=>cases u with
  | none=>rfl
  | some _=>exact(show False from r).elim
 | some _=>cases u with
  | none=>exact(show False from r).elim
  | some _=>rfl
theorem KV.val(r:KV kvs vs)(k:κ):RelO (valV kvs k) (valueAt vs k):=by
 unfold KV at r
 induction r with
 | nil=>exact True.intro
 | @cons p q ps qs h t ih=>
  obtain⟨h1,h2⟩:=h
  by_cases e:p.1=k
  ·have e':q.1=k:=h1.symm.trans e
   have b:valueAt (q::qs) k=some q.2:=by simp[valueAt,qA5,e']
   rw[zsz e,b];exact h2
  ·have e':¬q.1=k:=λz=>e (h1.trans z)
   have b:valueAt (q::qs) k=valueAt qs k:=by simp[valueAt,qA5,e']
   rw[zta e,b];exact ih
theorem KV.any{kvs:List (κ×V)}{vs:List (κ×Value)}(r:KV kvs vs)(k:κ):(kvs.any λkv=>decide (kv.1=k))=vs.any λkv=>decide (kv.1=k):=by
 unfold KV at r
 induction r with
 | nil=>rfl
 | cons h t ih=>rw[qBH,qBH,ih,h.1]
theorem KV.repl{kvs:List (κ×V)}{vs:List (κ×Value)}(r:KV kvs vs)(k:κ)(ry:RelV y u) :
  KV (kvs.map λkv=>if kv.1=k then(kv.1,y)else kv) (vs.map λkv=>if kv.1=k then(kv.1,u)else kv):=by
 unfold KV at r ⊢
 induction r with
 | nil=>exact .nil
 | @cons p q ps qs h t ih=>
  rw[qR,qR]
  refine .cons ?_ ih
  obtain⟨h1,h2⟩:=h
  by_cases e:p.1=k
  ·rw[if_pos e,if_pos (h1.symm.trans e)];exact⟨h1,ry⟩
  ·rw[if_neg e,if_neg (λz=>e (h1.trans z))];exact⟨h1,h2⟩
theorem KV.put(r:KV kvs vs)(k:κ)(ry:RelV y u):KV (putK kvs k y) (stored vs k u):=by
 unfold putK stored
 rw[r.any k]
 by_cases e:(vs.any λkv=>decide (kv.1=k))=true
 ·rw[if_pos e,if_pos e];exact r.repl k ry
 ·rw[if_neg e,if_neg e];exact Paired.snoc r ⟨rfl,ry⟩
theorem KV.length{kvs:List (κ×V)}{vs:List (κ×Value)}(r:KV kvs vs):kvs.length=vs.length:=qCQ r
end
theorem zajo(r:RelV (kV k) u):(zej P w).is k u=true:=by
 cases k with
 | inl i=>obtain⟨t,e⟩:=(show ∃t,u=Value.int i t from r);subst e;exact zadi P w i t
 | inr x=>obtain⟨t,e⟩:=(show ∃t,u=Value.str x t from r);subst e;exact zadj P w x t
theorem zaas:∀{ks:List Key}{us:List Value},Vals (ks.map kV) us->ItemsAre (zej P w) ks us
 | [],_,r=>by rw[qCF]at r;cases r;exact .nil
 | k::ks,_,r=>by
  rw[qR]at r
  cases r with
  | cons h t=>exact .cons (zajo h) (zaas t)
abbrev KT(H:Hp):List (List Key×V)->List (List Key×Addr×Value)->Prop:=Paired λp q=>p.1=q.1/\H q.2.1=some (.tup (p.1.map kV))/\RelV p.2 q.2.2
theorem KT.val(r:KT H kvs xs)(k:List Key):RelO (valV kvs k) ((atKey xs k).map (·.2)):=by
 induction r with
 | nil=>exact True.intro
 | @cons p q ps qs h t ih=>
  obtain⟨h1,_,h2⟩:=h
  by_cases e:p.1=k
  ·have e':q.1=k:=h1.symm.trans e
   have b:atKey (q::qs) k=some q.2:=by simp[atKey,qA5,e']
   rw[zsz e,b];exact h2
  ·have e':¬q.1=k:=λz=>e (h1.trans z)
   have b:atKey (q::qs) k=atKey qs k:=by simp[atKey,qA5,e']
   rw[zta e,b];exact ih
theorem KT.repl{kvs:List (List Key×V)}{xs:List (List Key×Addr×Value)}(r:KT H kvs xs)(k:List Key)(ry:RelV y u) :
  KT H (kvs.map λkv=>if kv.1=k then(kv.1,y)else kv) (xs.map (putAt k u)):=by
 induction r with
 | nil=>exact .nil
 | @cons p q ps qs h t ih=>
  rw[qR,qR]
  refine .cons ?_ ih
  obtain⟨h1,h2,h3⟩:=h
  unfold putAt
  by_cases e:p.1=k
  ·rw[if_pos e,if_pos (h1.symm.trans e)];exact⟨h1,h2,ry⟩
  ·rw[if_neg e,if_neg (λz=>e (h1.trans z))];exact⟨h1,h2,h3⟩
theorem KT.put(r:KT H kvs xs)(k:List Key)(hb:H b=some (.tup (k.map kV)))(ry:RelV y u) :
  KT H (putK kvs k y) (storedH xs k b u):=by
 have e:(kvs.any λkv=>decide (kv.1=k))=(atKey xs k).isSome:=by
  rw[zafi,(r.val k).isSome_eq,qDZ]
 unfold putK storedH
 rw[e]
 by_cases q:(atKey xs k).isSome=true
 ·rw[if_pos q,if_pos q];exact r.repl k ry
 ·rw[if_neg q,if_neg q];exact Paired.snoc r ⟨rfl,hb,ry⟩
theorem KT.keeps(r:KT H kvs xs)(ht:∀b ys,H b=some (.tup ys)->H' b=some (.tup ys)):KT H' kvs xs:=
 Paired.mapP r λ_ _ z=>⟨z.1,ht _ _ z.2.1,z.2.2⟩
section
variable{P:Program}{w:World}{H:Hp}{h:Heap}{a:Addr}
theorem zayl(ok:HOk P w H h)(e:Rd H a u):zek P w H h a u:=e.ok ok
theorem zaoo{kvs:List (Key×V)}(ok:HOk P w H h)(e:Rd H a (.dK kvs)):kvs.length<=qU/\(a==sysModules)=false/\∃vs,KV kvs vs/\h.DictOf (zej P w) a vs:=
 show zek P w H h a (.dK kvs)from zayl ok e
theorem zaop{kvs:List (Key×V)}(ok:HOk P w H h)(e:H a=some (.dK kvs)):kvs.length<=qU/\(a==sysModules)=false/\∃vs,KV kvs vs/\h.DictOf (zej P w) a vs:=zaoo ok (.inl e)
theorem zafj{ks:List Key}(ok:HOk P w H h)(e:H a=some (.tup (ks.map kV))):(tupleKind (zej P w)).is h ks a:=by
 obtain⟨_,its,r,o,h1,h2,n,h3⟩:=(show zek P w H h a (.tup (ks.map kV))from ok a _ e)
 exact⟨o,its.toArray,n,h1,h2,h3,by simpa using zaas r⟩
theorem zaoq{kvs:List (List Key×V)}(ok:HOk P w H h)(e:Rd H a (.dT kvs)):kvs.length<=qU/\(a==sysModules)=false/\
  ∃xs,KT H kvs xs/\h.DictOfH (tupleKind (zej P w)) a xs:=by
 obtain⟨z,y,xs,r,o,es,ep,h1,h2,h3,h4,h5⟩:=(show zek P w H h a (.dT kvs)from zayl ok e)
 refine⟨z,y,xs,r,o,es,ep,h1,h2,h3,h4,λx hx=>?_,h5⟩
 have all:∀{l:List (List Key×V)}{m:List (List Key×Addr×Value)},KT H l m->∀x∈m,(tupleKind (zej P w)).is h x.1 x.2.1:=by
  intro l m q
  induction q with
  | nil=>intro x hx;exact nomatch hx
  | @cons p q ps qs hq t ih=>
   intro x hx
   rcases qZ.mp hx with e|hx
   ·subst e
    exact zafj ok (by rw[<- hq.1];exact hq.2.1)
   ·exact ih x hx
 exact all r x hx
theorem zbbs{kvs:List (List Key×V)}(ok:HOk P w H h)(e:H a=some (.dT kvs)):kvs.length<=qU/\(a==sysModules)=false/\
  ∃xs,KT H kvs xs/\h.DictOfH (tupleKind (zej P w)) a xs:=zaoq ok (.inl e)
end
def DGet(H:Hp)(a:Addr)(y:V)(r:Option V):Prop:=
 (∃kvs k,Rd H a (.dK kvs)/\y=kV k/\r=valV kvs k)\/∃kvs k b,Rd H a (.dT kvs)/\y=.ref b/\H b=some (.tup (k.map kV))/\r=valV kvs k
def DPut(H:Hp)(a:Addr)(y v:V)(H':Hp):Prop:=
 (∃kvs k,H a=some (.dK kvs)/\y=kV k/\kvs.length<qU/\H'=upd H a (.dK (putK kvs k v)))\/
 ∃kvs k b,H a=some (.dT kvs)/\y=.ref b/\H b=some (.tup (k.map kV))/\kvs.length<qU/\H'=upd H a (.dT (putK kvs k v))
theorem DGet.k{H:Hp}{a:Addr}{kvs:List (Key×V)}{k:Key}(e:H a=some (.dK kvs)):DGet H a (kV k) (valV kvs k):=.inl ⟨kvs,k,.inl e,rfl,rfl⟩
theorem DPut.k{H:Hp}{a:Addr}{kvs:List (Key×V)}{k:Key}{v:V}(e:H a=some (.dK kvs))(hl:kvs.length<qU):DPut H a (kV k) v (upd H a (.dK (putK kvs k v))):=.inl ⟨kvs,k,e,rfl,hl,rfl⟩
section
variable{X:Cx}{pins:List (Addr×Obj)}{σ:St}{H:Hp}{s:Shared}{a:Addr}{y v:V}{u r:Value}{o:Option V}{A:Around}{E:Value->Shared->Prop}
theorem Inv.big(I:Inv X pins σ H s):sysModules<s.heap.objs.size:=by
 have h:qg<s.heap.objs.size:=(I.mod.glob.keeps I.bk).lt
 exact qDR (by decide) h
theorem zajp{Q:Value->Shared->Prop}(hu:A.units+1<cLine)(I:Inv X pins σ H s)(g:DGet H a y (some v))(ry:RelV y u)(h:∀w' s',Inv X pins σ H s'->RelV v w'->Q w' s') :
  wpAny (model X.prog X.w) A (getItem (.ref a) u) Q E s:=by
 rcases g with⟨kvs,k,e,ey,l⟩|⟨kvs,k,b,e,ey,eb,l⟩
 ·subst ey
  obtain⟨z,hd,vs,rel,dd⟩:=zaoo I.hok e
  obtain⟨w',hw,rw'⟩:=RelO.some_of (v:=v) (o:=valueAt vs k) (by rw[l];exact rel.val k)
  exact wpAny_getItem_of (zajo ry) dd.mapOf hw (h w' _ (I.tok _) rw')
 ·subst ey
  cases(show u=Value.ref b from ry)
  obtain⟨z,hd,xs,rel,dd⟩:=zaoq I.hok e
  obtain⟨w',hw,rw'⟩:=RelO.some_of (v:=v) (o:=(atKey xs k).map (·.2)) (by rw[l];exact rel.val k)
  obtain⟨p,hp,hp2⟩:=qG.mp hw
  refine wpAny_getItem_heap (qCh hu) (zafj I.hok eb) dd hp ?_
  rw[hp2]
  exact h w' _ (I.tok _) rw'
theorem d_in{Q:Value->Shared->Prop}(hu:A.units+1<cLine)(I:Inv X pins σ H s)(g:DGet H a y o)(ry:RelV y u)(h:∀s',Inv X pins σ H s'->Q (.bool o.isSome) s') :
  wpAny (model X.prog X.w) A (compareOp .In u (.ref a)) Q E s:=by
 rcases g with⟨kvs,k,e,ey,l⟩|⟨kvs,k,b,e,ey,eb,l⟩
 ·subst ey
  obtain⟨z,hd,vs,rel,dd⟩:=zaoo I.hok e
  refine wpAny_in_of (zajo ry) hd dd.mapOf ?_
  rw[<- (rel.val k).isSome_eq,<- l]
  exact h _ (I.tok _)
 ·subst ey
  cases(show u=Value.ref b from ry)
  obtain⟨z,hd,xs,rel,dd⟩:=zaoq I.hok e
  refine wpAny_in_heap (qCh hu) (zafj I.hok eb) hd dd ?_
  have q:=(rel.val k).isSome_eq
  rw[qDZ]at q
  rw[<- q,<- l]
  exact h _ (I.tok _)
theorem zys{h':Heap}(I:Inv X pins σ H s)(mu:Mut (H a))(hs:Heap.SameBut a s.heap h')(he:∃q,h'.get? a=some q)(new:zek X.prog X.w (upd H a ob) h' a ob) :
  Inv X pins σ (upd H a ob) {s with heap:=h',toks:=t'}:=
 I.write (x:=a) (e:=a) mu (.inl rfl) (λb q hb z=>(hs.2 b hb).trans z) he new
theorem zajq{h':Heap}{kvs:List (Key×V)}(z:kvs.length<=qU)(hd:(a==sysModules)=false)(rel:KV kvs vs)(dd:h'.DictOf (zej P w) a vs) :
  zek P w H' h' a (.dK kvs):=⟨z,hd,vs,rel,dd⟩
theorem zajr{Q:Unit->Shared->Prop}(hu:A.units+1<cLine)(I:Inv X pins σ H s)(g:DPut H a y v H')(ry:RelV y u)(rv:RelV v r)(h:∀s',Inv X pins σ H' s'->Q () s') :
  wpAny (model X.prog X.w) A (setItem (.ref a) u r) Q E s:=by
 rcases g with⟨kvs,k,e,ey,l,eH⟩|⟨kvs,k,b,e,ey,eb,l,eH⟩
 ·subst ey eH
  obtain⟨z,hd,vs,rel,dd⟩:=zaop I.hok e
  have hz:vs.length<=qU:=by rw[<- rel.length];exact z
  have hl:(putK kvs k v).length<=qU:=by have:=zni kvs k v;omega
  refine wpAny_setItem_pairs (hsz:=hz) (zajo ry) dd λh' dd' hs=>h _ ?_
  have he:∃q,h'.get? a=some q:=let⟨q,_,_,hq,_⟩:=dd';⟨q,hq⟩
  exact zys I (by rw[e];exact True.intro) hs he (zajq hl hd (rel.put k rv) dd')
 ·subst ey eH
  cases(show u=Value.ref b from ry)
  obtain⟨z,hd,xs,rel,dd⟩:=zbbs I.hok e
  have hz:xs.length<=qU:=by rw[<- qCQ rel];exact z
  have hl:(putK kvs k v).length<=qU:=by have:=zni kvs k v;omega
  refine wpAny_setItem_heap (hsz:=hz) (qCh hu) (zafj I.hok eb) dd λh' dd' hs=>h _ ?_
  obtain⟨q,es,ep,hq,h2,h3,h4,_,h5⟩:=dd'
  refine zys I (by rw[e];exact True.intro) hs ⟨q,hq⟩ ⟨hl,hd,_,(rel.put k eb rv).keeps λc ys ec=>?_,q,es,ep,hq,h2,h3,h4,h5⟩
  rw[zap (zbbj ec e (λz=>nomatch z))]
  exact ec
end
def NoSl(i:Expr):Prop:=∀ov iv,subscripted i false ov iv=operate [ov,iv] (getItem ov iv)
theorem zaud{prog:Program}{w:World}{A:Around}{E:Value->Shared->Prop}{s:Shared}{env:Env}{value slice:Expr}{pos:Pos}{T id:String}{Q:Value->Shared->Prop}
  (hl:typeLookup (.type T) "__getitem__"=pure (some (.builtin id)))(hs:NoSl slice)
  (h:wpAny (model prog w) A (eval value env) (λo s₁=>wpAny (model prog w) A (eval slice env) (λi s₂=>s₂.TypeIs o T/\wpAny (model prog w) A (getItem o i) Q E s₂) E s₁) E s) :
  wpAny (model prog w) A (eval (.Subscript value slice pos) env) Q E s:=by
 refine qDY (qBB h (λo s₁ h₁=>qBB h₁ (λi s₂ h₂=>?_) λ_ _ x=>x) λ_ _ x=>x)
 obtain⟨hT,h₂⟩:=h₂
 unfold subscriptTail
 refine qD ?_
 rw[getitemInPython_of_ne hT.not_modules]
 refine qD (wpAny_specialOf hT hl ?_)
 have fin:wpAny (model prog w) A (subscripted slice false o i) (λr s₃=>wpAny (model prog w) A (letTemporaryGo value o r >>=λ_=>pure r) Q E s₃) E s₂:=by
  rw[hs o i]
  exact wpAny_operating (qBB h₂ (λr s₃ h₃=>qD (wpAny_letTemporaryGo (qI h₃))) λ_ _ x=>x)
 first
  | exact qI (qD fin)
  | exact qD (qI (qD fin))
  | exact qD fin
theorem zadp{s:Shared}(I:Inv X pins σ H s)(g:DGet H a y o):s.TypeIs (.ref a) "dict":=by
 rcases g with⟨kvs,k,e,_,_⟩|⟨kvs,k,b,e,_,_,_⟩
 ·obtain⟨_,_,vs,_,dd⟩:=zaoo I.hok e
  exact dd.typeIs
 ·obtain⟨_,_,xs,_,dd⟩:=zaoq I.hok e
  exact dd.typeIs
def tDGet(td ty:TE):TE:=λσ H Q=>td σ H λx H1=>ty σ H1 λy H2=>∃a v,x=.ref a/\DGet H2 a y (some v)/\Q v H2
def tDIn(ty td:TE):TE:=λσ H Q=>ty σ H λy H1=>td σ H1 λx H2=>∃a o,x=.ref a/\DGet H2 a y o/\Q (.bl o.isSome) H2
def sDPut(td ty tv:TE):TS:=λD σ H=>tv σ H λv H1=>td σ H1 λx H2=>ty σ H2 λy H3=>∃a H4,x=.ref a/\DPut H3 a y v H4/\D.nx σ H4
section
variable{X:Cx}{o i e value:Expr}{pos pos' tpos:Pos}{td ty tv:TE}
theorem zaue(hu:X.A.units+1<cLine)(ho:PE X o td)(hi:PE X i ty)(hs:NoSl i):PE X (.Subscript o i pos) (tDGet td ty):=by
 intro pins s σ H Q I h
 refine zaud PySem.F.slot_dict_getitem.lookup hs (thn (ho pins s σ H _ I h) λu s1 ⟨x,H1,I1,rx,q1⟩=>thn (hi pins s1 σ H1 _ I1 q1) λiv s2 ⟨y,H2,I2,ry,a,v,ex,g,q2⟩=>?_)
 subst ex
 obtain rfl:u=Value.ref a:=rx
 exact⟨zadp I2 g,zajp hu I2 g ry λw' s3 I3 rw'=>⟨v,H2,I3,rw',q2⟩⟩
theorem zaym(hu:X.A.units+1<cLine)(hi:PE X i ty)(ho:PE X o td):PC X .In i o (tDIn ty td):=by
 intro pins s σ H Q I h
 refine thn (hi pins s σ H _ I h) λiv s1 ⟨y,H1,I1,ry,q1⟩=>thn (ho pins s1 σ H1 _ I1 q1) λu s2 ⟨x,H2,I2,rx,a,ov,ex,g,q2⟩=>?_
 subst ex
 obtain rfl:u=Value.ref a:=rx
 exact d_in hu I2 g ry λs3 I3=>⟨.bl ov.isSome,H2,I3,rfl,q2⟩
theorem zauf(hu:X.A.units+1<cLine)(ho:PE X o td)(hi:PE X i ty)(hv:PE X value tv)(hs:swapsWith value (some (.Subscript o i pos')) pos.line X.env=pure false) :
  PS X (.Assign [.Subscript o i pos'] value pos) (sDPut td ty tv):=by
 intro pins s σ H D I h
 refine wpAny_Assign_Subscript (thn (hv pins s σ H _ I h) λr s1 ⟨v,H1,I1,rv,q1⟩=>thn (ho pins s1 σ H1 _ I1 q1) λu s2 ⟨x,H2,I2,rx,q2⟩=>thn (hi pins s2 σ H2 _ I2 q2) λiv s3 ⟨y,H3,I3,ry,a,H4,ex,g,q3⟩=>?_) hs
 subst ex
 obtain rfl:u=Value.ref a:=rx
 exact zajr hu I3 g ry rv λs4 I4=>⟨σ,H4,I4,q3⟩
end
theorem zafk(h:Heap)(hb:sysModules<h.objs.size):zek P w H (h.push {cls:=.type "dict",data:=.dict #[]}) h.objs.size (.dK []):=
 ⟨qAl _,beq_eq_false_iff_ne.mpr (qAp (qi hb)),[],.nil,Heap.DictOf.new h⟩
def tDNewK:TE:=λ_ H Q=>∀p,H p=none->Q (.ref p) (upd H p (.dK []))
section
variable{X:Cx}{pos:Pos}
theorem zaor:PE X (.Dict [] [] pos) tDNewK:=λpins s σ H Q I h=>
 wpAny_Dict_empty ⟨.ref s.heap.objs.size,_,I.laid (a:=s.heap.objs.size) (o:=.dK []) (t':=s.toks) (λ_ _ q=>qF _ q) (qL _) (zafk s.heap I.big),rfl,h _ (I.hok.fresh (qL _))⟩
end
def zajs:List (TE×TE)->St->Hp->(List (V×V)->Hp->Prop)->Prop
 | [],_,H,Q=>Q [] H
 | (tk,tv)::r,σ,H,Q=>tk σ H λx H1=>tv σ H1 λy H2=>zajs r σ H2 λps H3=>Q ((x,y)::ps) H3
abbrev VV:List (V×V)->List (Value×Value)->Prop:=Paired λp q=>RelV p.1 q.1/\RelV p.2 q.2
def PPs(X:Cx)(pos:Pos)(keys:List (Option Expr))(values:List Expr)(trs:List (TE×TE)):Prop:=
 ∀(pins:List (Addr×Obj))(s:Shared)(σ:St)(H:Hp)(Q:List (V×V)->Hp->Prop),Inv X pins σ H s->zajs trs σ H Q->
  wpAny (model X.prog X.w) X.A (evalPairs (pairTrees keys values X.env pos)) (λvs s'=>∃ps H',Inv X pins σ H' s'/\VV ps vs/\Q ps H') X.xe s
theorem zaug:PPs X pos [] [] []:=λpins s σ H Q I h=>pairTrees_nil_walk ⟨[],H,I,.nil,h⟩
theorem zaos(hk:PE X k tk)(hv:PE X v tv)(hr:PPs X pos ks vs trs) :
  PPs X pos (some k::ks) (v::vs) ((tk,tv)::trs):=λpins s σ H Q I h=>
 pairTrees_cons_walk (thn (hk pins s σ H _ I h) λu s1 ⟨x,H1,I1,rx,q1⟩=>thn (hv pins s1 σ H1 _ I1 q1) λw2 s2 ⟨y,H2,I2,ry,q2⟩=>
  thn (hr pins s2 σ H2 _ I2 q2) λws s3 ⟨ps,H3,I3,rel,q3⟩=>⟨(x,y)::ps,H3,I3,.cons ⟨rx,ry⟩ rel,q3⟩)
def zom(kvs more:List (Key×V)):List (Key×V):=more.foldl (λacc kv=>putK acc kv.1 kv.2) kvs
theorem KV.merge:∀{more:List (Key×V)}{rs:List (Key×Value)}{kvs:List (Key×V)}{vs:List (Key×Value)},KV more rs->KV kvs vs->KV (zom kvs more) (merged vs rs):=by
 intro more rs kvs vs r
 unfold KV at r
 induction r generalizing kvs vs with
 | nil=>intro q;exact q
 | @cons p q ps qs h t ih=>
  intro r0
  have e:KV (putK kvs p.1 p.2) (stored vs q.1 q.2):=by
   have:=r0.put p.1 h.2
   rw[<- h.1];exact this
  exact ih e
theorem ziz:∀(more kvs:List (Key×V)),(zom kvs more).length<=kvs.length+more.length
 | [],kvs=>by show kvs.length<=kvs.length+0;omega
 | p::r,kvs=>by
  have h1:=ziz r (putK kvs p.1 p.2)
  have h2:=zni kvs p.1 p.2
  show(zom (putK kvs p.1 p.2) r).length<=_
  rw[qy];omega
theorem zxe:∀{kvs:List (Key×V)}{ws:List (Value×Value)},VV (kvs.map λkv=>(kV kv.1,kv.2)) ws->∃rs,Carries (zej P w) ws rs/\KV kvs rs
 | [],_,r=>by rw[qCF]at r;cases r;exact⟨[],True.intro,.nil⟩
 | p::kvs,_,r=>by
  rw[qR]at r
  cases r with
  | @cons a b as bs h t=>
   obtain⟨rs,c,q⟩:=zxe (P:=P) (w:=w) t
   obtain⟨b1,b2⟩:=b
   exact⟨(p.1,b2)::rs,⟨zajo h.1,rfl,c⟩,.cons ⟨rfl,h.2⟩ q⟩
def tDisp(trs:List (TE×TE)):TE:=λσ H Q=>∀p,H p=none->zajs trs σ (upd H p (.dK [])) λps H2=>H2 p=some (.dK [])/\∃kvs:List (Key×V),ps=kvs.map (λkv=>(kV kv.1,kv.2))/\kvs.length<=15/\Q (.ref p) (upd H2 p (.dK (zom [] kvs)))
theorem zauh{keys:List (Option Expr)}{values:List Expr}(h:PPs X pos keys values trs)(hall:keys.all (·.isSome)=true)(hl:keys.length=values.length)(h0:keys≠[])
  (h15:keys.length<=15):PE X (.Dict keys values pos) (tDisp trs):=by
 intro pins s σ H Q I q
 have hn:=I.hok.fresh (qL s.heap.objs.size)
 have I1:=I.laid (a:=s.heap.objs.size) (o:=.dK []) (h':=s.heap.push {cls:=.type "dict",data:=.dict #[]}) (t':=s.toks) (λ_ _ q=>qF _ q) (qL _) (zafk s.heap I.big)
 refine wpAny_Dict_walk (knd:=zej X.prog X.w) hall hl h0 h15 (thn (h pins _ σ _ _ I1 (q _ hn)) λws s2 ⟨ps,H2,I2,rel,e,kvs,ep,lk,q2⟩=>?_)
 subst ep
 obtain⟨rs,c,rk⟩:=zxe (P:=X.prog) (w:=X.w) rel
 obtain⟨z,hd,vs0,r0,dd⟩:=zaop I2.hok e
 cases r0
 refine⟨rs,c,dd,λh' dd' hs=>⟨.ref s.heap.objs.size,_,?_,rfl,q2⟩⟩
 have hz:(zom [] kvs).length<=qU:=by
  have h1:=ziz kvs []
  rw[qBi]at h1
  rw[qBT];omega
 have he:∃q,h'.get? s.heap.objs.size=some q:=let⟨q,_,_,hq,_⟩:=dd';⟨q,hq⟩
 exact zys I2 (by rw[e];exact True.intro) hs he (zajq hz hd (rk.merge .nil) dd')
set_option genInjectivity false in
set_option genInjectivity false in
section
variable{X:Cx}{pins:List (Addr×Obj)}{σ:St}{H:Hp}{s:Shared}{a:Addr}{y d:V}{u r:Value}{o:Option V}{A:Around}{E:Value->Shared->Prop}
end
end L2
namespace Att
open PySem PySem.W PySem.Calls PyProof.Rows
theorem ztk:∀(ns:List Int)(vs:List Value),WellAll P h vs (ns.map WData.int)->IntsAre vs ns:=by
 intro ns
 induction ns with
 | nil=>
  intro vs w
  rw[qCF]at w
  cases w
  exact .nil
 | cons n ns ih=>
  intro vs w
  rw[qR]at w
  cases w with
  | cons a b=>
   cases a
   exact .cons _ _ (ih _ b)
theorem zajt{l:OpenLaw}(hn:l.most=some n){h:Heap}
  (hpre:l.row.toRowW.claim.pre args=true)(hwl:WellAll P h vals args) :
  ∃a vs ns,vals=[Value.ref a]/\args=[WData.list (ns.map WData.int)]/\h.get? a=some {cls:=.type "list",data:=.seq vs.toArray}/\IntsAre vs ns/\ns.length<=n:=by
 have hsh:WShape.hasAll [] args [.list .int]=true:=(pre_splitW hpre).1
 have hc:l.pre.holds [] {args:=args}=true:=(pre_splitW hpre).2
 obtain⟨d,r,rfl,h1,h2⟩:=hasAllW_cons hsh
 obtain rfl:=hasAllW_nil h2
 obtain⟨xs,rfl,h3⟩:=hasW_list h1
 obtain⟨ns,rfl⟩:=items_int h3
 have hlen:ns.length<=n:=by
  unfold OpenLaw.pre at hc
  have h4:(WTm.not (.lt (.lit (.int (n:Int))) (.len (.arg 0)))).holds [] {args:=[.list (ns.map .int)]}=true:=by
   have h4:=(holds_andW hc).1
   rw[hn]at h4
   exact h4
  have h5:=condW_of h4 (w_not (w_lt w_lit (w_len_list (w_arg rfl))))
  rw[qC]at h5
  refine qCi λq=>?_
  have q':(n:Int)<((ns.length:Nat):Int):=by omega
  first
   | (rw[decide_eq_true q']at h5;exact absurd h5 (by decide))
   | (simp at h5;omega)
 cases hwl with
 | cons w1 w2=>
  cases w2
  cases w1 with
  | list ho hall=>exact⟨_,_,ns,rfl,rfl,ho,ztk ns _ hall,hlen⟩
theorem zaju(l:OpenLaw)(args:List WData):l.row.toRowW.claim.post args (.bool true) args=true:=
 postW_of (r:=l.row.toRowW) (X:=(true==true))
  (show WShape.has [] (.bool true) .bool=true by first|rfl|decide|simp[WShape.has,WShape.arms,WShape.armsAll])
  (show(WTm.eq .res (.lit (.bool true))).value [] {args:=args,res:=some (.bool true),after:=args}=some (.bool (true==true))from w_eq_bool (w_res rfl) w_lit) rfl
theorem attach_call{l:OpenLaw}{XP:(Str->Option Value)->Heap->Prop}{YP:World->Heap->Prop}{d:DefRec}
  (hn:l.most=some n)(hdf:d.params.defaults=[])
  (call:∀(w:World)(s₀ s₁:Shared)(mg mb:Str->Option Value)(fa:Addr)(o:Obj)(pm cd doc:Value)(a:Addr)(vs:List Value)(ns:List Int),
   Ground q loose [] XP w s₀ mg mb s₁.heap->YP w s₁.heap->
   s₁.heap.get? fa=some o->o.data=.func (docDef d.name d.params d.body d.scope pm cd doc)->s₁.heap.CodeRec cd d.name->mg d.name=some (.ref fa)->
   s₁.heap.get? a=some {cls:=.type "list",data:=.seq vs.toArray}->IntsAre vs ns->ns.length<=n->s₁.gens=#[]->
   codeAny (model l.prog w) callerA (.call (.ref fa) ⟨[.ref a],[]⟩) (λr s'=>r=.ok (.ret (.bool true))/\OldK s₁.heap s'.heap/\s'.os=s₁.os/\AllBare s'.gens) s₁) :
  WalkO q loose XP YP l.row.toRowW d [] (λf vs=>PySem.call f vs):=by
 intro w s₀ s₁ mg mb G Y fa o pm cd doc dV kV ho hd hcd hD hmg hg args vals as hpre hlay hrd hwl hlo
 obtain rfl:dV=.none:=Dflts.none hD hdf
 obtain rfl:kV=.none:=Dflts.noKw hD
 obtain⟨a,vs,ns,rfl,rfl,hobj,hints,hlen⟩:=zajt hn hpre hwl
 refine enter_call (qBl (call w s₀ s₁ mg mb fa o pm cd doc a vs ns G Y ho (fd_plain hd) hcd hmg hobj hints hlen hg) λr s' hq=>?_)
 obtain⟨rfl,h2,h3,h4⟩:=hq
 exact⟨.inl ⟨.bool true,.bool true,[],rfl,λ_=>rfl,.bool true,zaju l _,λ_=>⟨List.Pairwise.nil,λ_ hm=>(nomatch hm)⟩⟩,h2,h3,h4⟩
end Att
namespace L2
open PySem PySem.Spec PyProof.Rows
theorem zaat:∀{vs:List Value}{ns:List Int},IntsAre vs ns->Vals (ns.map V.int) vs
 | _,_,.nil=>.nil
 | _,_,.cons n t h=>.cons ⟨t,rfl⟩ (zaat h)
end L2
namespace L2
open PySem PySem.Spec PyProof.Rows
def zaui(s:Stmt)(j:Nat):Stmt:=match s with
 | .ClassDef _ _ _ body _ _ _ _ _ _ _=>body.getD j (.Pass ⟨0,0,0,0⟩)
 | _=>.Pass ⟨0,0,0,0⟩
def zfq(s:Stmt):Arguments:=match s with
 | .FunctionDef _ a _ _ _ _ _ _ _ _=>a
 | _=>{posonlyargs:=[],args:=[],vararg:=none,kwonlyargs:=[],kw_defaults:=[],kwarg:=none,defaults:=[]}
def zdo(s:Stmt):List Stmt:=match s with
 | .FunctionDef _ _ b _ _ _ _ _ _ _=>b
 | _=>[]
def zah(s:Stmt):Scope:=match s with
 | .FunctionDef _ _ _ _ _ _ sc _ _ _=>sc
 | _=>{kind:=.function,names:=[],isGenerator:=false,isCoroutine:=false}
abbrev CX0:CXT:=λ_ _ _ _ _ _=>False
abbrev E0:XK:=λ_ _ _=>False
theorem zbbt:zxc CX0 X E0:=λ_ _ _ _ _ _ _ h=>h.elim
set_option genInjectivity false in
structure Fun(K:qB)(x qual:Str)(st:Stmt)(f:Addr)(fd:qAb):Prop where
 ex:∃(oc:Value)(od:Option Addr)(kV doc pm:Value)(an:Option Addr)(cdv ct:Value)(osl:Array (Option Value)),
  fd=qAd x qual (zfq st) (zdo st) (zah st) .none kV doc pm an cdv ct/\K.lookup f=some ⟨oc,od,.func fd,osl⟩/\qBy K cdv qual=true
 kp:qAx K (.ref f)=true
section
variable{P:Program}{w:World}{K:qB}{mg:Str->Option Value}{base:Heap}
theorem Fun.ok{x qual:Str}{st:Stmt}{f:Addr}{fd:qAb}{N ps:List Str}{k:Nat}{sp:Sp}(F:Fun K x qual st f fd)(S:FnScope N ps (zah st))(len:∀vs H Q E,sp vs H Q E->vs.length=ps.length)
  (hbody:∀(cdv:Value)(A:Around)(outer:List Env)(s:Shared)(H:Hp)(vs:List V)(Q:VK)(E:XK),Room k (A.deeper (envOfC qual (zah st) s.heap.objs.size f cdv))->sp vs H Q E->
   ∃t,PSs (cxOf CX0 P w K mg base N qual (zah st) f cdv A outer s H E).nox (zdo st) t/\t {nx:=λ_ H'=>Q .non H',rt:=Q} (zfz N vs) H):FnOk P w K mg base CX0 (k+1) f fd ps sp:=by
 obtain⟨oc,od,kV,doc,pm,an,cdv,ct,osl,rfl,lk,hcd⟩:=F.ex
 refine zbbq lk hcd S len λA outer s H vs Q E hr hsp=>?_
 obtain⟨t,h,q⟩:=hbody cdv A outer s H vs Q E hr hsp
 exact⟨t,h.nox,q⟩
theorem Fun.binds{x qual:Str}{st:Stmt}{f:Addr}{fd:qAb}{ps:List Str}(F:Fun K x qual st f fd)
  (h:∀(kV doc pm:Value) (an:Option Addr) (cdv ct:Value) (us:List Value),us.length=ps.length->bindArgs (qAd x qual (zfq st) (zdo st) (zah st) .none kV doc pm an cdv ct) ⟨us,[]⟩=pure (ps.zip us)):ziy K fd ps []:=by
 obtain⟨oc,od,kV,doc,pm,an,cdv,ct,osl,rfl,lk,hcd⟩:=F.ex
 exact .all (h kV doc pm an cdv ct)
theorem zarz{x qual:Str}{st:Stmt}{f:Addr}{oc:Value}{od an:Option Addr}{osl:Array (Option Value)}{kV doc pm cdv ct:Value}(l:K.lookup f=some ⟨oc,od,.func (qAd x qual (zfq st) (zdo st) (zah st) .none kV doc pm an cdv ct),osl⟩)
  (c:qBy K cdv qual=true) (k:qAx K (.ref f)=true):Fun K x qual st f (qAd x qual (zfq st) (zdo st) (zah st) .none kV doc pm an cdv ct):=⟨⟨oc,od,kV,doc,pm,an,cdv,ct,osl,rfl,l,c⟩,k⟩
end
theorem zyt{A:Around}(hr:Room k A):A.units+1<cLine:=qBM (Nat.add_le_add_left (by decide:1<=64) _) hr.units
section
variable{X:Cx}
theorem pv(i:Nat)(hN:X.N[i]?=some x:=by rfl)(hv:visB X.env.scope x=true:=by rfl)(hd:(x==("__debug__":Str))=false:=by decide)
  (hcd:(x==("__classdict__":Str))=false:=by decide):PE X (.Name x pos) (tVar i):=zafc hN (visB.of hv) hd hcd
end
theorem iteF{A B:Prop}(h:B):if false=true then A else B:=by
 rw[if_neg qP]
 exact h
theorem iteT{A B:Prop}(h:A):if true=true then A else B:=by
 rw[if_pos rfl]
 exact h
theorem ite2{c A B:Prop}[Decidable c](h1:c->A)(h2:¬c->B):if c then A else B:=by
 by_cases h:c
 ·rw[if_pos h]
  exact h1 h
 ·rw[if_neg h]
  exact h2 h
def Same(H H':Hp):Prop:=∀b o,H b=some o->H' b=some o
theorem Same.refl(H:Hp):Same H H:=λ_ _ h=>h
theorem Same.trans(a:Same H H1)(b:Same H1 H2):Same H H2:=λc o h=>b c o (a c o h)
theorem Same.free(e:Same H H')(h:H' l=none):H l=none:=by
 cases q:H l with
 | none=>rfl
 | some o=>
  rw[e l o q]at h
  cases h
theorem Same.seq{K:qB}{H H':Hp}{a:Addr}{xs:List V}(e:Same H H')(h:SqL K H a xs):SqL K H' a xs:=by
 rcases h with(h|⟨o,h⟩)|h
 ·exact .inl (.inl (e _ _ h))
 ·exact .inl (.inr ⟨o,e _ _ h⟩)
 ·exact .inr h
section
variable{κ:Type}[DecidableEq κ]
theorem zadq:∀{l:List κ}{k:κ},l.Nodup->¬k∈l->(l++[k]).Nodup
 | [],k,_,_=>by simp
 | a::r,k,h,hk=>by
  obtain⟨h1,h2⟩:=qBP.mp h
  show(a::(r++[k])).Nodup
  refine qBP.mpr ⟨λm=>?_,zadq h2 λm=>hk (qZ.mpr (Or.inr m))⟩
  rcases qu.mp m with q|q
  ·exact h1 q
  ·exact hk (qZ.mpr (Or.inl (qAD.mp q).symm))
end
end L2
set_option maxHeartbeats 4000000
namespace L2
open PySem PySem.Spec PyProof.Rows
def clos(cells:List (Str×Addr)):List (Str×NameKind)->List (Str×Addr)->List (Str×Addr)
 | [],acc=>acc
 | (n,k)::r,acc=>if k==.free then clos cells r ((n,(cells.lookup n).getD 0)::acc)else clos cells r acc
theorem zyu{cells:List (Str×Addr)}:∀{names:List (Str×NameKind)}{acc:List (Str×Addr)},(∀y∈names,y.2=.free->∃c,cells.lookup y.1=some c)->∀p∈clos cells names acc,p∈acc\/((p.1,NameKind.free)∈names/\cells.lookup p.1=some p.2)
 | [],acc,_,p,hp=>.inl hp
 | (n,k)::r,acc,h,p,hp=>by
  unfold clos at hp
  have hr:∀y∈r,y.2=.free->∃c,cells.lookup y.1=some c:=λy hy=>h y (qK _ hy)
  split at hp
  ·rename_i hk
   rcases zyu hr p hp with q|q
   ·rcases qZ.mp q with q|q
    ·subst q
     have hk':k=.free:=by simpa using hk
     subst hk'
     obtain⟨c,hc⟩:=h (n,.free) qb rfl
     exact .inr ⟨qb,by show cells.lookup n=some ((cells.lookup n).getD 0);rw[hc];rfl⟩
    ·exact .inl q
   ·exact .inr ⟨qK _ q.1,q.2⟩
  ·rcases zyu hr p hp with q|q
   ·exact .inl q
   ·exact .inr ⟨qK _ q.1,q.2⟩
theorem zyv:∀{names:List (Str×NameKind)}{acc:List (Str×Addr)},∀p∈acc,p∈clos cells names acc
 | [],acc,p,hp=>hp
 | (n,k)::r,acc,p,hp=>by
  unfold clos
  split
  ·exact zyv p (qK _ hp)
  ·exact zyv p hp
theorem zyw:∀{names:List (Str×NameKind)}{acc:List (Str×Addr)},(x,NameKind.free)∈names->∃c,(x,c)∈clos cells names acc
 | [],_,h=>by simp at h
 | (n,k)::r,acc,h=>by
  unfold clos
  rcases qZ.mp h with e|h
  ·cases e
   rw[if_pos (show(NameKind.free==NameKind.free)=true by decide)]
   exact⟨_,zyv _ qb⟩
  ·split
   ·exact zyw h
   ·exact zyw h
theorem zon:∀{l:List (Str×α)},(x,c)∈l->∃c',l.lookup x=some c'
 | [],h=>by simp at h
 | (k,v)::r,h=>by
  rw[qAM]
  cases hb:x==k with
  | true=>exact⟨v,rfl⟩
  | false=>
   rcases qZ.mp h with e|h
   ·cases e;simp at hb
   ·exact zon h
theorem zja{scope:Scope}{env:Env}(h:∀y∈scope.names,y.2=.free->∃c,env.cells.lookup y.1=some c):closureFor scope env=pure (clos env.cells scope.names []):=by
 unfold closureFor
 have key:∀(names:List (Str×NameKind))(acc:List (Str×Addr)),(∀y∈names,y.2=.free->∃c,env.cells.lookup y.1=some c)->
   (forIn names acc (λ(x:Str×NameKind) (r:List (Str×Addr))=>(if(x.2==.free)=true then(do let a <- cellOf env x.1;pure (ForInStep.yield ((x.1,a)::r)))else pure (ForInStep.yield r):Sem (ForInStep (List (Str×Addr))))))=pure (clos env.cells names acc):=by
  intro names
  induction names with
  | nil=>intro acc _;rfl
  | cons y r ih=>
   intro acc hy
   obtain⟨n,k⟩:=y
   have hr:=λy (hm:y∈r)=>hy y (qK _ hm)
   rw[qCG]
   unfold clos
   cases hk:(k==NameKind.free)with
   | true=>
    have hk':k=.free:=by simpa using hk
    subst hk'
    obtain⟨c,hc⟩:=hy (n,.free) qb rfl
    have e1:cellOf env n=pure c:=by unfold cellOf;rw[hc]
    simp only[if_true]
    have hc':env.cells.lookup n=some c:=hc
    rw[e1,hc']
    simp only[pure_bind,Option.getD_some]
    exact ih _ hr
   | false=>
    simp only[qB2,if_false,pure_bind]
    exact ih _ hr
 simpa using key scope.names [] h
theorem zgz:∀(names:List (Str×NameKind))(n:Nat)(acc:List (Str×Addr)),cellsFrom n names acc=cellsFrom n names []++acc
 | [],_,_=>rfl
 | (name,kind)::r,n,acc=>by
  unfold cellsFrom
  split
  ·rw[zgz r (n+1) ((name,n)::acc),zgz r (n+1) [(name,n)],qBC];rfl
  ·exact zgz r n acc
theorem zha:∀(names:List (Str×NameKind))(n:Nat)(acc:List (Str×Addr)),(x,c)∈cellsFrom n names acc->(x,c)∈acc\/(x,NameKind.cell)∈names
 | [],_,_,h=>.inl h
 | (name,kind)::r,n,acc,h=>by
  unfold cellsFrom at h
  split at h
  ·rename_i hk
   have hk':kind=.cell:=by simpa using hk
   subst hk'
   rcases zha r _ _ h with q|q
   ·rcases qZ.mp q with q|q
    ·cases q;exact .inr qb
    ·exact .inl q
   ·exact .inr (qK _ q)
  ·rcases zha r _ _ h with q|q
   ·exact .inl q
   ·exact .inr (qK _ q)
theorem zmb:∀{l r:List (Str×α)},(l++r).lookup x=(l.lookup x).or (r.lookup x)
 | [],_=>by simp
 | (k,v)::l,r=>by
  rw[qCg,qAM,qAM]
  cases x==k with
  | true=>rfl
  | false=>exact zmb
theorem zgd{env:Env}:∀{names:List (Str×NameKind)},
  (names.map λ(n,k)=>if(k==NameKind.free&&env.scope.kind==.function&&env.kindOf n==some .cell)then(n,NameKind.cell)else(n,k)).lookup x=some k'->
  ∃k,names.lookup x=some k/\(k'=k\/(k=.free/\k'=.cell))
 | [],h=>by simp at h
 | (n,k)::r,h=>by
  rw[qR]at h
  by_cases hc:(k==NameKind.free&&env.scope.kind==.function&&env.kindOf n==some .cell)=true
  ·simp only[hc,if_true]at h
   rw[qAM]at h ⊢
   cases hx:x==n with
   | true=>
    rw[hx]at h
    have hk:k=.free:=by simp at hc;exact hc.1.1
    exact⟨k,rfl,.inr ⟨hk,(qX h).symm⟩⟩
   | false=>rw[hx]at h;exact zgd h
  ·simp only[hc,qB2,if_false]at h
   rw[qAM]at h ⊢
   cases hx:x==n with
   | true=>rw[hx]at h;exact⟨k,rfl,.inl (qX h).symm⟩
   | false=>rw[hx]at h;exact zgd h
theorem zkj{env:Env}:∀{names:List (Str×NameKind)},names.lookup x=some .free->
  ((names.map λ(n,k)=>if(k==NameKind.free&&env.scope.kind==.function&&env.kindOf n==some .cell)then(n,NameKind.cell)else(n,k)).lookup x=some .free\/
   (names.map λ(n,k)=>if(k==NameKind.free&&env.scope.kind==.function&&env.kindOf n==some .cell)then(n,NameKind.cell)else(n,k)).lookup x=some .cell)
 | [],h=>by simp at h
 | (n,k)::r,h=>by
  rw[qR]
  rw[qAM]at h
  by_cases hc:(k==NameKind.free&&env.scope.kind==.function&&env.kindOf n==some .cell)=true
  ·simp only[hc,if_true]
   rw[qAM]
   cases hx:x==n with
   | true=>exact .inr rfl
   | false=>rw[hx]at h;exact zkj h
  ·simp only[hc,qB2,if_false]
   rw[qAM]
   cases hx:x==n with
   | true=>rw[hx]at h;exact .inl h
   | false=>rw[hx]at h;exact zkj h
theorem zahs{E:Value->Shared->Prop}{s:Shared}{scope:Scope}{env:Env}{Q:Env->Shared->Prop}
  (hQ:∀h',(∀b o,s.heap.get? b=some o->h'.get? b=some o)->h'.Ns s.heap.objs.size (λ_=>none)->(∀n c,(n,c)∈cellsFrom (s.heap.objs.size+1) scope.names []->h'.IsCell c none/\s.heap.objs.size+1<=c)->
   ((cellsFrom (s.heap.objs.size+1) scope.names []).Pairwise λx y=>x.2≠y.2)->
   Q {scope:=scope,locals:=s.heap.objs.size,globals:=globals,cells:=cellsFrom (s.heap.objs.size+1) scope.names []++cl,qual:=qual,func:=none,code:=env.code,frame:=env.frame,builtins:=env.builtins} {s with heap:=h'}) :
  wpAny M A (newFunctionEnv scope globals cl [] qual none .none (some env)) Q E s:=by
 simp only[newFunctionEnv,qDQ,if_true]
 refine qD (wpAny_alloc ?_)
 refine qD (wpAny_layCells _ (λname kind cells=>by cases hkc:kind==NameKind.cell<;>simp[hkc]) _ _ _ _ ?_)
 have ok:=cellsFrom_ok scope.names (s.heap.push {cls:=.type "dict",data:=.dict #[]}) (s.heap.objs.size+1) [] ⟨λ_ _ hm=>(nomatch hm),List.Pairwise.nil⟩ (by rw[qA1];exact qL _)
 rw[qA1]at ok
 rw[show({s with heap:=s.heap.push {cls:=.type "dict",data:=.dict #[]}}:Shared).heap.objs.size=s.heap.objs.size+1 from qA1 ..]
 rw[zgz]
 refine qD ?_
 refine qI (qI ?_)
 exact hQ _ (λb o e=>pushCells_keeps _ _ b o (qF _ e)) ((Heap.Ns.new s.heap (.type "dict")).keeps (pushCells_keeps _ _)) ok.empty ok.apart
def cxComp(X:Cx)(scope:Scope)(N' own:List Str)(cl:List (Str×Addr))(C:Addr)(s:Shared)(H:Hp)(fp:List Addr):Cx:=
 {X with N:=N',s₀:=s,H₀:=H,env:=compEnvC scope cl C X.env,outer:=X.stack,stack:=X.stack,ex:=fp,fn:=λx=>own.contains x,pn:=[],xe:=λ_ _=>False}
structure CompOk(X:Cx)(scope:Scope)(N' own:List Str)(fr:List Nat):Prop where
 kind:scope.kind=.function
 names:∀y∈scope.names,scope.names.lookup y.1=some y.2
 up:∀y∈scope.names,y.2=.free->(X.env.kindOf y.1=some .cell\/X.env.kindOf y.1=some .free)
 nm:N'=own++fr.map (λj=>X.N.getD j Str.empty)
 fr:∀j∈fr,j<X.N.length/\scope.names.lookup (X.N.getD j Str.empty)=some .free
 own:∀x∈own,scope.names.lookup x=some .local\/scope.names.lookup x=some .cell
def tau(own:List Str)(fr:List Nat)(σ:St):St:=own.map (λ_=>none)++fr.map (λj=>σ.getD j none)
section
variable{X:Cx}{pins:List (Addr×Obj)}{σ:St}{H:Hp}{s:Shared}{scope:Scope}{N' own:List Str}{fr:List Nat}
theorem zmc(c:CompOk X scope N' own fr)(ok:X.Ok):∀y∈scope.names,y.2=.free->∃a,X.env.cells.lookup y.1=some a:=λy hy e=>ok.has y.1 (c.up y hy e)
theorem zaot{h':Heap}(c:CompOk X scope N' own fr)(I:Inv X pins σ H s)
  (hf:∀b∈fp,FpOk X pins H b)(ho:∀b∈fp,∃o,s.heap.get? b=some o/\∀v,o.data≠.cell v)
  (keep:∀b o,s.heap.get? b=some o->h'.get? b=some o)(ns:h'.Ns s.heap.objs.size (λ_=>none))
  (cells:∀n c,(n,c)∈cellsFrom (s.heap.objs.size+1) scope.names []->h'.IsCell c none/\s.heap.objs.size+1<=c)
  (apart:(cellsFrom (s.heap.objs.size+1) scope.names []).Pairwise λx y=>x.2≠y.2) :
  Inv (cxComp X scope N' own (cellsFrom (s.heap.objs.size+1) scope.names []++clos X.env.cells scope.names []) s.heap.objs.size s H fp) [] (tau own fr σ) H {s with heap:=h'}:=by
 have found:=zmc c I.ok
 have clm:∀x a,(x,a)∈clos X.env.cells scope.names []->(x,NameKind.free)∈scope.names/\X.env.cells.lookup x=some a:=λx a hm=>by
  rcases zyu found (x,a) hm with q|q
  ·simp at q
  ·exact q
 have look:∀x a,(cellsFrom (s.heap.objs.size+1) scope.names []++clos X.env.cells scope.names []).lookup x=some a->
   ((x,a)∈cellsFrom (s.heap.objs.size+1) scope.names []/\(x,NameKind.cell)∈scope.names)\/((x,NameKind.free)∈scope.names/\X.env.cells.lookup x=some a):=λx a e=>by
  rw[zmb]at e
  cases q:(cellsFrom (s.heap.objs.size+1) scope.names []).lookup x with
  | some b=>
   rw[q]at e
   cases e
   have hm:=qp q
   rcases zha _ _ _ hm with z|z
   ·simp at z
   ·exact .inl ⟨hm,z⟩
  | none=>
   rw[q]at e
   exact .inr (clm x a (qp e))
 have lookF:∀x a,(x,NameKind.free)∈scope.names->X.env.cells.lookup x=some a->(cellsFrom (s.heap.objs.size+1) scope.names []++clos X.env.cells scope.names []).lookup x=some a:=λx a hx e=>by
  rw[zmb]
  have q:(cellsFrom (s.heap.objs.size+1) scope.names []).lookup x=none:=by
   cases q:(cellsFrom (s.heap.objs.size+1) scope.names []).lookup x with
   | none=>rfl
   | some b=>
    rcases zha _ _ _ (qp q)with z|z
    ·simp at z
    ·have h1:=c.names _ hx
     have h2:=c.names _ z
     rw[h1]at h2
     cases h2
  rw[q]
  obtain⟨d,hd⟩:=zyw (cells:=X.env.cells) (acc:=[]) hx
  obtain⟨d',hd'⟩:=zon hd
  have:=(clm x d' (qp hd')).2
  rw[e]at this
  cases this
  exact hd'
 have below:∀b o,s.heap.get? b=some o->b<s.heap.objs.size:=λb o e=>qJ e
 have cold:∀x a,X.env.cells.lookup x=some a->a<s.heap.objs.size:=λx a e=>let⟨v,q⟩:=I.cell x a e;q.lt
 refine⟨⟨I.ok.mod,c.kind,I.ok.glob,I.ok.blt,qL _,?inj,?has,?cab,I.ok.hd,I.ok.frames,.inl rfl,?exf,I.bs,qAI I.ok.bsz I.sz,?noex,?exfs,I.stack,I.stkFree⟩,
  rfl,I.bare,Un.kept keep,⟨_,ns,?loc⟩,?cell,I.hok.fresh (qL _),?freeC,?pin,I.hok.kept keep,?len⟩
 case inj=>
  intro x y a h1 h2
  rcases look x a h1 with⟨m1,k1⟩|⟨k1,e1⟩<;>rcases look y a h2 with⟨m2,k2⟩|⟨k2,e2⟩
  ·exact name_of_addr apart m1 m2
  ·exact absurd (qe (cold y a e2) (qCa (cells x a m1).2)) (qBJ _)
  ·exact absurd (qe (cold x a e1) (qCa (cells y a m2).2)) (qBJ _)
  ·exact I.ok.inj x y a e1 e2
 case has=>
  intro x hx
  have hx':(∃k,scope.names.lookup x=some k/\(k=.cell\/k=.free)):=by
   rcases hx with hx|hx
   ·obtain⟨k,e,q⟩:=zgd (env:=X.env) (names:=scope.names) hx
    rcases q with q|⟨q,_⟩
    ·exact⟨k,e,.inl q.symm⟩
    ·exact⟨k,e,.inr q⟩
   ·obtain⟨k,e,q⟩:=zgd (env:=X.env) (names:=scope.names) hx
    rcases q with q|⟨q,_⟩
    ·exact⟨k,e,.inr q.symm⟩
    ·exact⟨k,e,.inr q⟩
  obtain⟨k,e,q⟩:=hx'
  show ∃a,(cellsFrom (s.heap.objs.size+1) scope.names []++clos X.env.cells scope.names []).lookup x=some a
  rcases q with rfl|rfl
  ·obtain⟨a,ha⟩:=zyp (n:=s.heap.objs.size+1) e
   exact⟨a,by rw[zmb,ha];rfl⟩
  ·obtain⟨a,ha⟩:=found _ (qp e) rfl
   exact⟨a,lookF x a (qp e) ha⟩
 case cab=>
  intro x a hx e
  have hx:own.contains x=true:=hx
  have hx':x∈own:=by simpa using hx
  rcases look x a e with⟨m1,_⟩|⟨k1,_⟩
  ·have:=(cells x a m1).2
   show s.heap.objs.size<=a
   omega
  ·have h1:=c.names _ k1
   rcases c.own x hx' with h2|h2
   ·rw[h1]at h2;cases h2
   ·rw[h1]at h2;cases h2
 case exf=>
  intro b hb
  obtain⟨o,e,d⟩:=ho b hb
  refine⟨qi (below b o e),λx a q z=>?_⟩
  subst z
  rcases look x a q with⟨m1,_⟩|⟨k1,e1⟩
  ·exact absurd (qe (below a o e) (qCa (cells x a m1).2)) (qBJ _)
  ·obtain⟨v,o',e',d'⟩:=I.cell x a e1
   rw[e]at e'
   cases e'
   exact d v d'
 case noex=>
  intro b o e hb
  rcases(hf b hb).2.2.2.1 with z|z
  ·exact I.ok.noex b o e z
  ·exact absurd (qe (qe (qJ e) I.ok.bsz) z) (qBJ _)
 case exfs=>
  intro b hb z
  rcases qZ.mp (I.stkSub b z)with q|q
  ·exact(hf b hb).2.1 q
  ·exact(hf b hb).2.2.1 q
 case loc=>
  intro i x v h1 h2 h3
  have h1:N'[i]?=some x:=h1
  rw[c.nm]at h1
  unfold tau at h2
  by_cases hi:i<own.length
  ·rw[qAE (by simpa using hi),qN]at h2
   cases q:own[i]? with
   | none=>rw[q]at h2;cases h2
   | some z=>rw[q]at h2;cases h2
  ·rw[qAB (by simpa using hi),qN,qC]at h2
   rw[qAB (by simpa using hi),qN]at h1
   cases q:fr[i - own.length]? with
   | none=>rw[q]at h2;cases h2
   | some j=>
    rw[q]at h1 h2
    have e1:X.N.getD j Str.empty=x:=qX h1
    have e2:σ.getD j none=some v:=qX h2
    obtain⟨hj,hfree⟩:=c.fr j (qAe q)
    rw[e1]at hfree
    have hNj:X.N[j]?=some x:=by
     rw[<- e1,qAC,qH hj];rfl
    have hσj:σ[j]?=some (some v):=by
     rw[qAC]at e2
     cases z:σ[j]? with
     | none=>rw[z]at e2;cases e2
     | some w=>rw[z]at e2;rw[show w=some v from e2]
    have hmem:(x,NameKind.free)∈scope.names:=qp hfree
    have hup:=c.up _ hmem rfl
    obtain⟨m,hn,hl⟩:=I.loc
    obtain⟨u,ru,lk⟩:=hl j x v hNj hσj (by rcases hup with z|z;exact .inr (.inl z);exact .inr (.inr z))
    refine⟨u,ru,.inr ⟨?_,?_⟩⟩
    ·rcases zkj (env:=X.env) (names:=scope.names) hfree with z|z
     ·exact .inr z
     ·exact .inl z
    ·rcases lk with⟨k1,_⟩|⟨_,a,ha,hc⟩
     ·rcases hup with z|z
      ·rw[show X.env.kindOf x=some .cell from z]at k1;cases k1
      ·rw[show X.env.kindOf x=some .free from z]at k1;cases k1
     ·exact⟨a,lookF x a hmem ha,hc.keeps keep⟩
 case cell=>
  intro x a e
  rcases look x a e with⟨m1,_⟩|⟨k1,e1⟩
  ·exact⟨_,(cells x a m1).1⟩
  ·obtain⟨v,q⟩:=I.cell x a e1
   exact⟨v,q.keeps keep⟩
 case freeC=>
  intro x a e
  rcases look x a e with⟨m1,_⟩|⟨k1,e1⟩
  ·exact I.hok.fresh (by have:=(cells x a m1).2;omega)
  ·exact I.freeC x a e1
 case pin=>intro p hp;exact absurd (show p∈([]:List (Addr×Obj))from hp) (by simp)
 case len=>
  show(tau own fr σ).length=N'.length
  rw[c.nm];unfold tau;simp
end
abbrev TM:=St->Hp->(St->Hp->Prop)->Prop
def PM(X:Cx)(act:Sem Unit)(t:TM):Prop:=
 ∀(pins:List (Addr×Obj))(s:Shared)(σ:St)(H:Hp)(Q:St->Hp->Prop),Inv X pins σ H s->t σ H Q->wpAny (model X.prog X.w) X.A act (λ_ s'=>∃σ' H',Inv X pins σ' H' s'/\Q σ' H') X.xe s
def PF(X:Cx)(ifs:List Expr)(t:TT):Prop:=
 ∀(pins:List (Addr×Obj))(s:Shared)(σ:St)(H:Hp)(Q:Bool->Hp->Prop),Inv X pins σ H s->t σ H Q->
  wpAny (model X.prog X.w) X.A (forIn ifs true λc r=>if r=true then do let ok <- isTrue c X.env (eval c X.env);pure (ForInStep.yield ok)else pure (ForInStep.yield r)) (TP X pins σ Q) X.xe s
def tAll:TT:=λ_ H Q=>Q true H
section
variable{X:Cx}
theorem zayn:PF X [] tAll:=λ_ s σ H Q I h=>wpAny_tests_nil ⟨H,I,h⟩
theorem zayo(h:PT X c t):PF X [c] t:=λpins s σ H Q I q=>wpAny_tests_one (h pins s σ H Q I q)
def zyx(p:Addr)(te:TE):TM:=λσ H Q=>te σ H λv H1=>∃ys,H1 p=some (.lst ys)/\ys.length<qU/\Q σ (upd H1 p (.lst (ys++[v])))
theorem zyy(h:PE X elt te):PM X (do let _ <- call (.builtin "list.append") [.ref p,<- eval elt X.env]) (zyx p te):=by
 intro pins s σ H Q I q
 refine qD (thn (h pins s σ H _ I q) λu s1 ⟨v,H1,I1,r,ys,hp,hz,q1⟩=>?_)
 refine qD (thn (zbm pins s1 σ H1 (.ref p) [v] (.ref p) [u] (λ_ H2=>Q σ H2) I1 rfl (.cons r .nil) ⟨p,ys,v,rfl,rfl,hp,hz,q1⟩) λ_ s2 ⟨_,H2,I2,_,q2⟩=>?_)
 exact qI ⟨σ,H2,I2,q2⟩
def zaht(J:It)(g:TG)(tt:TT)(tm:TM):TM:=λσ H Q=>∃W:Nat->Nat->St->Hp->Prop,(∃m,W 0 m σ H)/\∀i m σ H,W i m σ H->
 (J.stop i H/\Q σ H)\/(J.go i H/\∃N:St->Hp->Prop,(∀σ' H',N σ' H'->∃m',m'<m/\W (i+1) m' σ' H')/\∀x H',J.yld i H x H'->g x σ H' λσ2 H2=>tt σ2 H2 λb H3=>if b=true then tm σ2 H3 N else N σ2 H3)
theorem ztl{tn:Nat->Heap->Prop}{s:Shared}{Q:St->Hp->Prop}
  (hx:X.xe=λ_ _=>False)(hc:X.calm=true)
  (eq:compTurn (.ListComp elt0 gens scope cpos) depth (.ref it) acc X.env=(do
   standAt ip
   match <- pyNext (.ref it)with
   | none=>pure (.done .next)
   | some v=>
    letOwnedTupleGo target (.ref it) v
    assign target X.env v
    let mut ok:=true
    for c in ifs do
     if ok then ok <- isTrue c X.env (eval c X.env)
    if ok then emit
    again (.compLoop (.ListComp elt0 gens scope cpos) depth (.ref it) acc X.env)))
  (T:Turn X.prog X.w X.K target J fp it tn)(hg:PG X target g)(ht:PF X ifs tt)(hm:PM X emit tm)
  (I:Inv X pins σ H s)(st:tn 0 s.heap)(hf:∀b∈fp,FpOk X pins H b)(h:zaht J g tt tm σ H Q) :
  codeAny (model X.prog X.w) X.A (.compLoop (.ListComp elt0 gens scope cpos) depth (.ref it) acc X.env) (λr s'=>r=.ok .next/\∃σ' H',Inv X pins σ' H' s'/\Q σ' H') s:=by
 obtain⟨W,⟨m0,w0⟩,turn⟩:=h
 have stat:∀{H':Hp},(∀b∈fp,H' b=none)->∀b∈fp,FpOk X pins H' b:=λhn b hb=>⟨hn b hb,(hf b hb).2⟩
 have xe:∀{α:Type}{m:Sem α}{Q':α->Shared->Prop}{E:Value->Shared->Prop}{s:Shared},wpAny (model X.prog X.w) X.A m Q' X.xe s->wpAny (model X.prog X.w) X.A m Q' E s:=λq=>qBB q (λ_ _ z=>z) λ_ _ z=>by rw[hx]at z;exact z.elim
 refine codeAny_loop rfl (λn s'=>∃i σ' H',Inv X pins σ' H' s'/\tn i s'.heap/\(∀b∈fp,H' b=none)/\W i n σ' H') ?_ m0 ⟨0,σ,H,I,st,λb hb=>(hf b hb).1,w0⟩
 rintro n s3 ⟨i,σ3,H3,I3,st3,fr3,w3⟩
 show wpAny _ X.A ((compTurn (.ListComp elt0 gens scope cpos) depth (.ref it) acc X.env).onRaise (λx=>do noteFrame x X.env;theTreesLotGoes x)) _ _ s3
 refine wpAny_noted ?_
 rw[eq]
 refine qD (qBV (qD ?_))
 rcases turn i n σ3 H3 w3 with⟨stop,qn⟩|⟨go,N,hN,step⟩
 ·refine thn (T.done X rfl rfl rfl hc i pins s3 σ3 H3 _ I3 (stat fr3) st3 stop) λr s4 ⟨hr,I4⟩=>?_
  subst hr
  exact qI ⟨rfl,σ3,H3,I4,qn⟩
 ·refine thn (T.item X rfl rfl rfl hc i pins s3 σ3 H3 _ I3 (stat fr3) st3 go) λr s4 ⟨u,hr,h4⟩=>?_
  subst hr
  refine qD (thn h4 λ_ s5 ⟨x,H5,I5,r5,y5,st5,fr5⟩=>?_)
  have I5':=I5.pinned (stat fr5) (T.obj _ _ st5)
  refine qD (xe (thn (hg _ s5 σ3 H5 x u _ I5' r5 (step x H5 y5)) λ_ s6 ⟨σ6,H6,I6,q6⟩=>?_))
  have again:∀{σ7:St}{H7:Hp}{s7:Shared},Inv X (pins++zaai fp s5.heap) σ7 H7 s7->N σ7 H7->∃m,m<n/\∃i σ' H',Inv X pins σ' H' s7/\tn i s7.heap/\(∀b∈fp,H' b=none)/\W i m σ' H':=λ{σ7 H7 s7} I7 n7=>by
   obtain⟨m',hm,w7⟩:=hN σ7 H7 n7
   refine⟨m',hm,i+1,σ7,H7,I7.unpinned,T.keep _ _ _ st5 λb hb o e=>(I7.pin (b,o) (qc _ (qc _ (zma hb e)))).1,λb hb=>?_,w7⟩
   obtain⟨o,e,d⟩:=T.obj _ _ st5 b hb
   exact(I7.pin (b,o) (qc _ (qc _ (zma hb e)))).2.1
  refine qD (xe (thn (ht _ s6 σ6 H6 _ I6 q6) λok s7 ⟨H7,I7,q7⟩=>?_))
  cases ok with
  | false=>
   rw[if_neg (by decide)]at q7
   exact qI ⟨rfl,again I7 q7⟩
  | true=>
   rw[if_pos rfl]at q7
   refine qD (xe (thn (hm _ s7 σ6 H7 _ I7 q7) λ_ s8 ⟨σ8,H8,I8,q8⟩=>?_))
   exact qI ⟨rfl,again I8 q8⟩
end
section
variable{X:Cx}{pins:List (Addr×Obj)}{σ:St}{H:Hp}{s:Shared}{scope:Scope}{N' own:List Str}{fr:List Nat}
theorem ztm{elt0 target iter:Expr}{ifs:List Expr}{rest:List Comprehension}{cpos:Pos}{g:TG}{tt:TT}{tm:Addr->TM}{emit:Value->Env->Sem Unit}{it:Addr}{fp:List Addr}{tn:Nat->Heap->Prop}{J:It}{Q:VK}{E:Value->Shared->Prop}{RR:Value->Addr->Result->Shared->Prop}
  (c:CompOk X scope N' own fr)(hc:X.calm=true)
  (eq:∀it acc env,compTurn (.ListComp elt0 (⟨target,iter,ifs,0⟩::rest) scope cpos) 0 it acc env=(do
   standAt iter.pos
   match <- pyNext it with
   | none=>pure (.done .next)
   | some v=>
    letOwnedTupleGo target it v
    assign target env v
    let mut ok:=true
    for c in ifs do
     if ok then ok <- isTrue c env (eval c env)
    if ok then emit acc env
    again (.compLoop (.ListComp elt0 (⟨target,iter,ifs,0⟩::rest) scope cpos) 0 it acc env)))
  (T:Turn X.prog X.w X.K target J fp it tn)
  (hb:∀(cl:List (Str×Addr)) (C:Addr) (s:Shared) (H:Hp) (fp:List Addr) (p:Addr),Inv X pins σ H s->(∀b∈fp,FpOk X pins H b)->PG (cxComp X scope N' own cl C s H fp) target g/\PF (cxComp X scope N' own cl C s H fp) ifs tt/\PM (cxComp X scope N' own cl C s H fp) (emit (.ref p) (compEnvC scope cl C X.env)) (tm p))
  (I:Inv X pins σ H s)(st:tn 0 s.heap)(hf:∀b∈fp,FpOk X pins H b)
  (h:∀p,H p=none->zaht J g tt (tm p) (tau own fr σ) (upd H p (.lst [])) (λ_ H'=>Q (.ref p) H'))
  (hRR:∀(p C:Addr) (m:Str->Option Value) (H':Hp) (s':Shared),Inv X pins σ H' s'->s'.heap.Ns C m->FpOk X pins H' C->Q (.ref p) H'->RR (.ref p) C (.ok .next) s') :
  wpAny (model X.prog X.w) X.A (newList []) (λacc s₃=>wpAny (model X.prog X.w) X.A (newFunctionEnv scope X.env.globals (clos X.env.cells scope.names []) [] X.env.qual none .none (some X.env)) (λcenv s₄=>
   codeAny (model X.prog X.w) X.A (.compStart (.ListComp elt0 (⟨target,iter,ifs,0⟩::rest) scope cpos) 0 (.ref it) acc {cenv with scope:=relabel scope X.env}) (RR acc cenv.locals) s₄) E s₃) E s:=by
 refine qA7 ?_
 have I3:Inv X pins σ (upd H s.heap.objs.size (.lst [])) {s with heap:=s.heap.push {cls:=.type "list",dict:=none,data:=.seq ([]:List Value).toArray}}:=I.lnew (t':=s.toks) .nil (qAl _)
 have hn0:H s.heap.objs.size=none:=I.hok.fresh (qL _)
 generalize e3:({s with heap:=s.heap.push {cls:=.type "list",dict:=none,data:=.seq ([]:List Value).toArray}}:Shared)=s3 at I3 ⊢
 have k3:∀b o,s.heap.get? b=some o->s3.heap.get? b=some o:=λb o e=>by rw[<- e3];exact qF _ e
 have hne:∀b∈fp,b≠s.heap.objs.size:=λb hb=>by
  obtain⟨o,e,_⟩:=T.obj _ _ st b hb
  exact qi (qJ e)
 have hf3:∀b∈fp,FpOk X pins (upd H s.heap.objs.size (.lst [])) b:=λb hb=>⟨by rw[zap (hne b hb)];exact(hf b hb).1,(hf b hb).2⟩
 have st3:tn 0 s3.heap:=T.keep _ _ _ st λb _ o e=>k3 b o e
 refine zahs λh' keep ns cells apart=>?_
 have I4:=zaot c I3 hf3 (T.obj _ _ st3) keep ns cells apart
 have st4:tn 0 h':=T.keep _ _ _ st3 λb _ o e=>keep b o e
 obtain⟨hg,ht,hm⟩:=hb (cellsFrom (s3.heap.objs.size+1) scope.names []++clos X.env.cells scope.names []) s3.heap.objs.size s3 (upd H s.heap.objs.size (.lst [])) fp s.heap.objs.size I3 hf3
 have hf4:∀b∈fp,FpOk (cxComp X scope N' own (cellsFrom (s3.heap.objs.size+1) scope.names []++clos X.env.cells scope.names []) s3.heap.objs.size s3 (upd H s.heap.objs.size (.lst [])) fp) [] (upd H s.heap.objs.size (.lst [])) b:=λb hb=>
  ⟨(hf3 b hb).1,(I4.ok.exf b hb).1,I4.ok.exfs b hb,.inl hb,(I4.ok.exf b hb).2,λp hp=>absurd (show p∈([]:List (Addr×Obj))from hp) (by simp)⟩
 have loop:codeAny (model X.prog X.w) X.A (.compLoop (.ListComp elt0 (⟨target,iter,ifs,0⟩::rest) scope cpos) 0 (.ref it) (.ref s.heap.objs.size) (compEnvC scope (cellsFrom (s3.heap.objs.size+1) scope.names []++clos X.env.cells scope.names []) s3.heap.objs.size X.env)) (RR (.ref s.heap.objs.size) s3.heap.objs.size) {s3 with heap:=h'}:=by
  refine qBl (ztl (X:=cxComp X scope N' own (cellsFrom (s3.heap.objs.size+1) scope.names []++clos X.env.cells scope.names []) s3.heap.objs.size s3 (upd H s.heap.objs.size (.lst [])) fp) (pins:=[]) rfl hc (eq _ _ _) T hg ht hm I4 st4 hf4 (h _ hn0)) λr s5 hr=>?_
  obtain⟨rfl,σ5,H5,I5,q5⟩:=hr
  obtain⟨m,hn,_⟩:=id I5.loc
  have u5:Un (frs X.stack) fp (upd H s.heap.objs.size (.lst [])) H5 s3.heap s5.heap:=I5.base
  have hok5:HOk X.prog X.w H5 s5.heap:=I5.hok
  have os5:s5.os=s3.os:=I5.os
  have bare5:=I5.bare
  have free5:H5 s3.heap.objs.size=none:=I5.free
  have hn:s5.heap.Ns s3.heap.objs.size m:=hn
  clear I5
  obtain⟨hh,gg,dd,tk,os'⟩:=s5
  obtain rfl:os'=s3.os:=os5
  have I6:Inv X pins σ H5 {s3 with heap:=hh,gens:=gg,drawn:=dd,toks:=tk}:=I3.call (ch:=fp) u5 hok5 bare5 λb hb=>⟨(hf3 b hb).2.2.2.1,(hf3 b hb).2.1,(hf3 b hb).2.2.2.2.1,(hf3 b hb).2.2.2.2.2⟩
  exact hRR _ _ m H5 _ I6 hn (I3.fpOk (qL _) free5) q5
 exact codeAny_compStart_list loop (T.self _ 0 _ _ _ st4 loop)
theorem zxf{elt0 target iter:Expr}{ifs:List Expr}{rest:List Comprehension}{cpos:Pos}{g:TG}{tt:TT}{tm:Addr->TM}{emit:Value->Env->Sem Unit}{it:Addr}{fp:List Addr}{tn:Nat->Heap->Prop}{J:It}{Q:VK}{E:Value->Shared->Prop}{RR:Value->Addr->Result->Shared->Prop}
  (c:CompOk X scope N' own fr)(hc:X.calm=true)
  (eq:∀it acc env,compTurn (.ListComp elt0 (⟨target,iter,ifs,0⟩::rest) scope cpos) 0 it acc env=(do
   standAt iter.pos
   match <- pyNext it with
   | none=>pure (.done .next)
   | some v=>
    letOwnedTupleGo target it v
    assign target env v
    let mut ok:=true
    for c in ifs do
     if ok then ok <- isTrue c env (eval c env)
    if ok then emit acc env
    again (.compLoop (.ListComp elt0 (⟨target,iter,ifs,0⟩::rest) scope cpos) 0 it acc env)))
  (T:Turn X.prog X.w X.K target J fp it tn)
  (hb:∀(cl:List (Str×Addr)) (C:Addr) (s:Shared) (H:Hp) (fp:List Addr) (p:Addr),PG (cxComp X scope N' own cl C s H fp) target g/\PF (cxComp X scope N' own cl C s H fp) ifs tt/\PM (cxComp X scope N' own cl C s H fp) (emit (.ref p) (compEnvC scope cl C X.env)) (tm p))
  (I:Inv X pins σ H s)(st:tn 0 s.heap)(hf:∀b∈fp,FpOk X pins H b)
  (h:∀p,H p=none->zaht J g tt (tm p) (tau own fr σ) (upd H p (.lst [])) (λ_ H'=>Q (.ref p) H'))
  (hRR:∀(p C:Addr) (m:Str->Option Value) (H':Hp) (s':Shared),Inv X pins σ H' s'->s'.heap.Ns C m->FpOk X pins H' C->Q (.ref p) H'->RR (.ref p) C (.ok .next) s') :
  wpAny (model X.prog X.w) X.A (newList []) (λacc s₃=>wpAny (model X.prog X.w) X.A (newFunctionEnv scope X.env.globals (clos X.env.cells scope.names []) [] X.env.qual none .none (some X.env)) (λcenv s₄=>
   codeAny (model X.prog X.w) X.A (.compStart (.ListComp elt0 (⟨target,iter,ifs,0⟩::rest) scope cpos) 0 (.ref it) acc {cenv with scope:=relabel scope X.env}) (RR acc cenv.locals) s₄) E s₃) E s:=ztm c hc eq T (λcl C s H fp p _ _=>hb cl C s H fp p) I st hf h hRR
def zaou(wi:TI)(g:TG)(tt:TT)(tm:Addr->TM)(own:List Str)(fr:List Nat):TE:=λσ H Q=>wi σ H λJ H1=>∀p,H1 p=none->zaht J g tt (tm p) (tau own fr σ) (upd H1 p (.lst [])) (λ_ H'=>Q (.ref p) H')
theorem zafl{elt0 target iter:Expr}{ifs:List Expr}{rest:List Comprehension}{cpos:Pos}{wi:TI}{g:TG}{tt:TT}{tm:Addr->TM}{emit:Value->Env->Sem Unit}(c:CompOk X scope N' own fr)(hc:X.calm=true)
  (eq:∀it acc env,compTurn (.ListComp elt0 (⟨target,iter,ifs,0⟩::rest) scope cpos) 0 it acc env=(do
   standAt iter.pos
   match <- pyNext it with
   | none=>pure (.done .next)
   | some v=>
    letOwnedTupleGo target it v
    assign target env v
    let mut ok:=true
    for c in ifs do
     if ok then ok <- isTrue c env (eval c env)
    if ok then emit acc env
    again (.compLoop (.ListComp elt0 (⟨target,iter,ifs,0⟩::rest) scope cpos) 0 it acc env)))
  (hi:PI X target iter wi)
  (hb:∀(cl:List (Str×Addr)) (C:Addr) (s:Shared) (H:Hp) (fp:List Addr) (p:Addr),PG (cxComp X scope N' own cl C s H fp) target g/\PF (cxComp X scope N' own cl C s H fp) ifs tt/\PM (cxComp X scope N' own cl C s H fp) (emit (.ref p) (compEnvC scope cl C X.env)) (tm p))
  (hs:∀x,foldedSetIterable iter X.env x=pure x:=by intro _;rfl) :
  PE X (.ListComp elt0 (⟨target,iter,ifs,0⟩::rest) scope cpos) (zaou wi g tt tm own fr):=by
 intro pins s σ H Q I h
 rw[eval_ListComp]
 refine qCE (use:=none) rfl hs (zja (zmc c I.ok)) c.kind (λy hy e=>(c.names y hy).trans (by rw[e])) ?_
 refine thn (hi pins s σ H _ I h) λv s1 h1=>thn h1 λitv s2 h2=>?_
 obtain⟨it,fp,tn,J,H2,e,I2,T,st2,f2,q⟩:=h2
 subst e
 refine zxf (Q:=Q) c hc eq T hb I2 st2 f2 q λp C m H' s' I' hn hC q'=>?_
 exact⟨m,hn,λh' sb=>⟨.ref p,H',I'.turned (t':=s'.toks) (λb o hb e=>(sb.2 b hb).trans e) hC.1 hC.2.1 hC.2.2.2.1 hC.2.2.2.2.1 hC.2.2.2.2.2,rfl,q'⟩⟩
def zayp(wi:TI)(g:TG)(tt:TT)(tm:Addr->TM)(own:List Str)(fr:List Nat)(i:Nat):TS:=λD σ H=>zaou wi g tt tm own fr σ H λv H'=>D.nx (σ.set i (some v)) H'
theorem zaov{elt0 target iter:Expr}{ifs:List Expr}{rest:List Comprehension}{cpos spos py:Pos}{wi:TI}{g:TG}{tt:TT}{tm:Addr->TM}{emit:Value->Env->Sem Unit}{i:Nat}{y:Str}(c:CompOk X scope N' own fr)(hc:X.calm=true)
  (eq:∀it acc env,compTurn (.ListComp elt0 (⟨target,iter,ifs,0⟩::rest) scope cpos) 0 it acc env=(do
   standAt iter.pos
   match <- pyNext it with
   | none=>pure (.done .next)
   | some v=>
    letOwnedTupleGo target it v
    assign target env v
    let mut ok:=true
    for c in ifs do
     if ok then ok <- isTrue c env (eval c env)
    if ok then emit acc env
    again (.compLoop (.ListComp elt0 (⟨target,iter,ifs,0⟩::rest) scope cpos) 0 it acc env)))
  (hi:PI X target iter wi)
  (hb:∀(cl:List (Str×Addr)) (C:Addr) (s:Shared) (H:Hp) (fp:List Addr) (p:Addr),PG (cxComp X scope N' own cl C s H fp) target g/\PF (cxComp X scope N' own cl C s H fp) ifs tt/\PM (cxComp X scope N' own cl C s H fp) (emit (.ref p) (compEnvC scope cl C X.env)) (tm p))
  (hsw:swapsWith (.ListComp elt0 (⟨target,iter,ifs,0⟩::rest) scope cpos) (some (.Name y py)) spos.line X.env=pure true)
  (hN:X.N.Nodup)(hy:X.N[i]?=some y)(hl:X.env.scope.names.lookup y=some .local)
  (hs:∀x,foldedSetIterable iter X.env x=pure x:=by intro _;rfl) :
  PS X (.Assign [.Name y py] (.ListComp elt0 (⟨target,iter,ifs,0⟩::rest) scope cpos) spos) (zayp wi g tt tm own fr i):=by
 intro pins s σ H D I h
 rw[exec_Assign_Name_used _ _ _ _ hsw]
 refine qD (qBV (qD ?_))
 show wpAny _ X.A (do let _ <- comprehension (.ListComp elt0 (⟨target,iter,ifs,0⟩::rest) scope cpos) scope X.env _ (newList []) false (eval iter X.env) (some (assign (.Name y py) X.env))) _ _ s
 refine qD (thn (qCE (use:=some (assign (.Name y py) X.env)) (Q:=λ_ s'=>SP X pins D .next s') rfl hs (zja (zmc c I.ok)) c.kind (λy hy e=>(c.names y hy).trans (by rw[e])) ?_) λ_ s' q=>qI (qI q))
 refine thn (hi pins s σ H _ I h) λv s1 h1=>thn h1 λitv s2 h2=>?_
 obtain⟨it,fp,tn,J,H2,e,I2,T,st2,f2,q⟩:=h2
 subst e
 refine zxf (Q:=λv H'=>D.nx (σ.set i (some v)) H') c hc eq T hb I2 st2 f2 q λp C m H' s' I' hn hC q'=>?_
 show wpAny _ X.A (assign (.Name y py) X.env (.ref p)) _ _ _
 refine wpAny_assign_Name (zaaf I' hN hy (.inl hl) (v:=.ref p) rfl (λs'' I'' ⟨a,sb,ha⟩=>?_) (.inr hl))
 have hCa:C≠a:=by
  rcases ha with rfl|ha
  ·exact hC.2.1
  ·exact qAp (hC.2.2.2.2.1 y a ha)
 refine⟨m,hn.sameBut sb hCa,λh' sb'=>⟨σ.set i (some (.ref p)),H',I''.turned (t':=s''.toks) (λb o hb e=>(sb'.2 b hb).trans e) hC.1 hC.2.1 hC.2.2.2.1 hC.2.2.2.2.1 hC.2.2.2.2.2,q'⟩⟩
end
section
variable{X:Cx}
section
variable{scope:Scope}{N' own:List Str}{fr:List Nat}{elt target iter:Expr}{ifs:List Expr}{cpos:Pos}{wi:TI}{g:TG}{tt:TT}{te:TE}
def tComp1(wi:TI)(g:TG)(tt:TT)(te:TE)(own:List Str)(fr:List Nat):TE:=zaou wi g tt (λp=>zyx p te) own fr
theorem zaow(c:CompOk X scope N' own fr)(hc:X.calm=true)(hi:PI X target iter wi)
  (hb:∀(cl:List (Str×Addr)) (C:Addr) (s:Shared) (H:Hp) (fp:List Addr),PG (cxComp X scope N' own cl C s H fp) target g/\PF (cxComp X scope N' own cl C s H fp) ifs tt/\PE (cxComp X scope N' own cl C s H fp) elt te)
  (hs:∀x,foldedSetIterable iter X.env x=pure x:=by intro _;rfl):PE X (.ListComp elt [⟨target,iter,ifs,0⟩] scope cpos) (tComp1 wi g tt te own fr):=
 zafl (emit:=λacc env=>do let _ <- call (.builtin "list.append") [acc,<- eval elt env]) c hc (λ_ _ _=>rfl) hi
  (λcl C s H fp p=>⟨(hb cl C s H fp).1,(hb cl C s H fp).2.1,zyy (hb cl C s H fp).2.2⟩) hs
def tAsgC1(wi:TI)(g:TG)(tt:TT)(te:TE)(own:List Str)(fr:List Nat)(i:Nat):TS:=zayp wi g tt (λp=>zyx p te) own fr i
theorem zaox{spos py:Pos}(c:CompOk X scope N' own fr)(hc:X.calm=true)(hi:PI X target iter wi)
  (hb:∀(cl:List (Str×Addr)) (C:Addr) (s:Shared) (H:Hp) (fp:List Addr),PG (cxComp X scope N' own cl C s H fp) target g/\PF (cxComp X scope N' own cl C s H fp) ifs tt/\PE (cxComp X scope N' own cl C s H fp) elt te)
  (hsw:swapsWith (.ListComp elt [⟨target,iter,ifs,0⟩] scope cpos) (some (.Name y py)) spos.line X.env=pure true)
  (hN:X.N.Nodup)(hy:X.N[i]?=some y)(hl:X.env.scope.names.lookup y=some .local)
  (hs:∀x,foldedSetIterable iter X.env x=pure x:=by intro _;rfl):PS X (.Assign [.Name y py] (.ListComp elt [⟨target,iter,ifs,0⟩] scope cpos) spos) (tAsgC1 wi g tt te own fr i):=
 zaov (emit:=λacc env=>do let _ <- call (.builtin "list.append") [acc,<- eval elt env]) c hc (λ_ _ _=>rfl) hi
  (λcl C s H fp p=>⟨(hb cl C s H fp).1,(hb cl C s H fp).2.1,zyy (hb cl C s H fp).2.2⟩) hsw hN hy hl hs
end
def zbbu:R2:=λx y H Q=>∃z n,x=.str z/\y=.int n/\z.length<=1000/\-1000<=n/\n<=1000/\Q (.str (Txt.mul z n)) H
theorem zauj:OpR X (binaryOp .Mult) zbbu:=by
 intro pins s σ H x y v u Q I rx ry h
 obtain⟨z,n,rfl,rfl,h1,h2,h3,q⟩:=h
 obtain⟨t,rfl⟩:=rx
 obtain⟨t',rfl⟩:=ry
 exact SB.mul (mulOk_of 1000 1000 h1 (by omega) (by omega) (by decide) (by decide)) λt' k=>⟨.str (Txt.mul z n),H,I.tok _,⟨_,rfl⟩,q⟩
def rSlS:V->Option Int->Option Int->Hp->VK->Prop:=λx lo hi H Q=>∃z,x=.str z/\z.length<=qU/\Q (.str (Txt.slice z lo hi)) H
theorem zayq:SlR X rSlS:=by
 intro pins s σ H x v vl vu lo hi sl Q I rx hs pl pu h
 obtain⟨z,rfl,hz,q⟩:=h
 obtain⟨t,rfl⟩:=rx
 refine⟨"str",_,F.slot_str_getitem.lookup,typeIs_str _ _ _,?_⟩
 have fin:∀t' k,EP X pins σ Q (.str (Txt.slice z lo hi) t') {s with toks:=k}:=λt' k=>⟨.str (Txt.slice z lo hi),H,I.tok _,⟨_,rfl⟩,q⟩
 have fz:(Txt.slice z lo hi).length<=qU:=qAI (Txt.slice_le z _ _) hz
 cases pl with
 | none=>cases pu with
  | none=>exact qBq (l:=none) (u:=none) (st:=none) hs rfl (qCU ⟨fz,fin⟩)
  | int j tj=>exact qBq (l:=none) (u:=some (j,tj)) (st:=none) hs rfl (qCU ⟨fz,fin⟩)
 | int i ti=>cases pu with
  | none=>exact qBq (l:=some (i,ti)) (u:=none) (st:=none) hs rfl (qCU ⟨fz,fin⟩)
  | int j tj=>exact qBq (l:=some (i,ti)) (u:=some (j,tj)) (st:=none) hs rfl (qCU ⟨fz,fin⟩)
def zajv:V->List V->Hp->VK->Prop:=λx vs H Q=>∃d o kvs more,x=.ref d/\vs=[.ref o]/\d≠o/\H d=some (.dK kvs)/\H o=some (.dK more)/\kvs.length+more.length<=qU/\Q .non (upd H d (.dK (zom kvs more)))
theorem zaau:MtM X "dict.update" zajv:=by
 intro pins s σ H x vs v us Q I rx rv h
 obtain⟨d,o,kvs,more,rfl,rfl,hne,hd,ho,hz,q⟩:=h
 cases rx
 obtain⟨u,rfl,ru⟩:=rv.one
 cases ru
 obtain⟨z1,s1,vs1,rel1,dd1⟩:=zaop I.hok hd
 obtain⟨z2,s2,vs2,rel2,dd2⟩:=zaop I.hok ho
 refine call_meetsIn F.slot_dict_update dd1.typeIs F.entry_dict_update (F.args_dict_update_2 _ _) (meets_dict_update (zej X.prog X.w) d o hne s2) ⟨vs1,vs2,dd1,dd2,?_,λh' h1 h2 sb=>?_⟩
 ·rw[<- rel1.length,<- rel2.length];exact hz
 ·have he:∃q,h'.get? d=some q:=by obtain⟨ob,_,_,e,_⟩:=h1;exact⟨ob,e⟩
  refine⟨.non,_,zys (t':=s.toks) I (by rw[hd];trivial) sb he (zajq (qAI (ziz more kvs) hz) s1 (rel2.merge rel1) h1),rfl,q⟩
theorem zaoy{id:String}(hid:id="isinstance"):CallR X (.builtin id) (λxs H Q=>∃x n t b,xs=[x,.ty n]/\TyOf X.K H x t/\kitOne X.K t (.type n)=some b/\Q (.bl b) H):=by
 subst hid
 intro pins s σ H xs us Q I r h
 obtain⟨x,n,t,b,rfl,ty,e,q⟩:=h
 obtain⟨u,w',rfl,rx,ry⟩:=zaaj r
 cases ry
 exact zajg I rx ty e λtk=>⟨.bl b,H,I.tok _,rfl,q⟩
end
mutual
def Rep(K:qB)(H:Hp):PyData->V->Prop
 | .none,v=>v=.non
 | .bool b,v=>v=.bl b
 | .int i,v=>v=.int i
 | .str x,v=>v=.str x
 | .list ds,v=>∃a xs,v=.ref a/\SqL K H a xs/\Reps K H ds xs
 | .tuple ds,v=>∃a xs,v=.ref a/\SqT K H a xs/\Reps K H ds xs
 | .dict _,_=>False
def Reps(K:qB)(H:Hp):List PyData->List V->Prop
 | [],xs=>xs=[]
 | d::ds,xs=>∃v vs,xs=v::vs/\Rep K H d v/\Reps K H ds vs
end
mutual
theorem zfr{X:Cx}{s:Shared}(I:Inv X pins σ H s):∀(d:PyData){v:V}{u:Value},Rep X.K H d v->RelV v u->∃as,Reads s.heap u d as
 | .none,v,u,h,r=>by unfold Rep at h;subst h;cases r;exact⟨_,.none⟩
 | .bool b,v,u,h,r=>by unfold Rep at h;subst h;cases r;exact⟨_,.bool b⟩
 | .int i,v,u,h,r=>by unfold Rep at h;subst h;obtain⟨t,rfl⟩:=r;exact⟨_,.int i t⟩
 | .str x,v,u,h,r=>by unfold Rep at h;subst h;obtain⟨t,rfl⟩:=r;exact⟨_,.str x t⟩
 | .list ds,v,u,h,r=>by
  unfold Rep at h
  obtain⟨a,xs,rfl,hq,hr⟩:=h
  cases r
  obtain⟨its,rv,p,hz⟩:=I.list hq
  obtain⟨as,q⟩:=reps_reads I ds hr rv
  obtain⟨o,h1,h2,n,h3⟩:=p.isList
  exact⟨_,reads_list_at h1 h2 h3 (by simpa using q)⟩
 | .tuple ds,v,u,h,r=>by
  unfold Rep at h
  obtain⟨a,xs,rfl,hq,hr⟩:=h
  cases r
  obtain⟨its,rv,p,hz⟩:=I.tuple hq
  obtain⟨as,q⟩:=reps_reads I ds hr rv
  obtain⟨o,h1,h2,n,h3⟩:=p
  exact⟨_,reads_tuple_at h1 h2 h3 (by simpa using q)⟩
 | .dict _,_,_,h,_=>by unfold Rep at h;exact h.elim
theorem reps_reads{X:Cx}{s:Shared}(I:Inv X pins σ H s):∀(ds:List PyData){vs:List V}{us:List Value},Reps X.K H ds vs->Vals vs us->∃as,ReadsAll s.heap us ds as
 | [],vs,us,h,r=>by unfold Reps at h;subst h;cases r;exact⟨_,.nil⟩
 | d::ds,vs,us,h,r=>by
  unfold Reps at h
  obtain⟨v,vs',rfl,h1,h2⟩:=h
  cases r with
  | cons r rr=>
   obtain⟨as,q1⟩:=zfr I d h1 r
   obtain⟨bs,q2⟩:=reps_reads I ds h2 rr
   exact⟨_,.cons q1 q2⟩
end
theorem SqT.same{K:qB}{H H':Hp}{a:Addr}{xs:List V}(h:Same H H')(q:SqT K H a xs):SqT K H' a xs:=by
 rcases q with(q|⟨o,q⟩)|q
 ·exact .inl (.inl (h _ _ q))
 ·exact .inl (.inr ⟨o,h _ _ q⟩)
 ·exact .inr q
section
variable{X:Cx}
def rEqD(K:qB)(neg:Bool):R2:=λx y H Q=>∃d e,Rep K H d x/\Rep K H e y/\qt d=true/\qt e=true/\Q (.bl (if neg then !PyData.eqv d e else qAO d e)) H
theorem zayr(hu:X.A.units+64<cLine):OpR X (compareOp .Eq) (rEqD X.K false):=by
 intro pins s σ H x y v u Q I rx ry h
 obtain⟨d,e,hd,he,sd,se,q⟩:=h
 obtain⟨as,r1⟩:=zfr I d hd rx
 obtain⟨bs,r2⟩:=zfr I e he ry
 exact eq_dataH r1 r2 sd se hu ⟨.bl (qAO d e),H,I,rfl,q⟩
theorem zays(hu:X.A.units+64<cLine):OpR X (compareOp .NotEq) (rEqD X.K true):=by
 intro pins s σ H x y v u Q I rx ry h
 obtain⟨d,e,hd,he,sd,se,q⟩:=h
 obtain⟨as,r1⟩:=zfr I d hd rx
 obtain⟨bs,r2⟩:=zfr I e he ry
 exact ne_dataH r1 r2 sd se hu ⟨.bl (!PyData.eqv d e),H,I,rfl,q⟩
theorem zajw{bs:List Bool}:∀{its:List Value},Vals (bs.map V.bl) its->its=bs.map Value.bool:=by
 induction bs with
 | nil=>intro its r;cases r;rfl
 | cons b bs ih=>
  intro its r
  cases r with
  | cons r rr=>cases r;rw[ih rr];rfl
theorem zajx(bs:List Bool):(List.range bs.length).any (λi=>bs.getD i false)=bs.any id:=by
 rw[qAo,qA9,qA9]
 constructor
 ·rintro⟨i,hi,h⟩
  have hi:=qAi.mp hi
  rw[qAC,qH hi]at h
  exact⟨_,qAN hi,h⟩
 ·rintro⟨b,hb,h⟩
  obtain⟨i,hi,e⟩:=qBw hb
  exact⟨i,qAi.mpr hi,by rw[qAC,qH hi,e];exact h⟩
theorem zajy(bs:List Bool):(List.range bs.length).all (λi=>bs.getD i false)=bs.all id:=by
 rw[qAo,qAk,qAk]
 constructor
 ·intro h b hb
  obtain⟨i,hi,e⟩:=qBw hb
  have q:=h i (qAi.mpr hi)
  rw[qAC,qH hi,e]at q
  exact q
 ·intro h i hi
  have hi:=qAi.mp hi
  have q:=h _ (qAN hi)
  rw[qAC,qH hi]
  exact q
def rAny(K:qB)(f:List Bool->Bool):List V->Hp->VK->Prop:=λxs H Q=>∃p bs,xs=[.ref p]/\SqL K H p (bs.map V.bl)/\Q (.bl (f bs)) H
theorem zaoz(hc:X.calm=true):CallR X (.builtin "any") (rAny X.K λbs=>bs.any id):=by
 intro pins s σ H xs us Q I r h
 obtain⟨p,bs,rfl,hq,q⟩:=h
 obtain⟨u,rfl,ru⟩:=zadn r
 cases ru
 obtain⟨its,rv,pl,hz⟩:=I.list hq
 cases zajw rv
 have hne:p≠s.heap.objs.size:=by obtain⟨o,e,_⟩:=pl.isList;exact qi (qJ e)
 refine call_any_walk (qA6 pl.isList ⟨s.heap.objs.size,_,_,_,_,_,λi=>bs.getD i false,rfl,Walks.list (A:=X.A.in1) (show X.A.in1.handled=none from I.ok.hd hc) _ p hne (bs.map Value.bool).toArray,⟨⟨_,qY _ rfl,rfl,rfl⟩,?_⟩,?_,?_⟩)
 ·obtain⟨o,e,z⟩:=pl.isList
  exact⟨o,qF _ e,z⟩
 ·intro i v s' Q' E' hv hQ
  have hv:(bs.map Value.bool)[i]?=some v:=by simpa using hv
  rw[qN]at hv
  cases e:bs[i]? with
  | none=>rw[e]at hv;cases hv
  | some b=>
   rw[e]at hv
   cases hv
   have z:bs.getD i false=b:=by rw[qAC,e];rfl
   have hQ:Q' (bs.getD i false) s':=hQ
   rw[z]at hQ
   exact qBr hQ
 ·intro h' tk hk
  refine⟨.bl (bs.any id),H,?_,by rw[<- zajx bs];simp;rfl,q⟩
  exact I.kept (t':=tk) λb o e=>hk b o (by have:=qJ e;simp;exact qi this) (qF _ e)
theorem zapa(hc:X.calm=true):CallR X (.builtin "all") (rAny X.K λbs=>bs.all id):=by
 intro pins s σ H xs us Q I r h
 obtain⟨p,bs,rfl,hq,q⟩:=h
 obtain⟨u,rfl,ru⟩:=zadn r
 cases ru
 obtain⟨its,rv,pl,hz⟩:=I.list hq
 cases zajw rv
 have hne:p≠s.heap.objs.size:=by obtain⟨o,e,_⟩:=pl.isList;exact qi (qJ e)
 refine call_all_walk (qA6 pl.isList ⟨s.heap.objs.size,_,_,_,_,_,λi=>bs.getD i false,rfl,Walks.list (A:=X.A.in1) (show X.A.in1.handled=none from I.ok.hd hc) _ p hne (bs.map Value.bool).toArray,⟨⟨_,qY _ rfl,rfl,rfl⟩,?_⟩,?_,?_⟩)
 ·obtain⟨o,e,z⟩:=pl.isList
  exact⟨o,qF _ e,z⟩
 ·intro i v s' Q' E' hv hQ
  have hv:(bs.map Value.bool)[i]?=some v:=by simpa using hv
  rw[qN]at hv
  cases e:bs[i]? with
  | none=>rw[e]at hv;cases hv
  | some b=>
   rw[e]at hv
   cases hv
   have z:bs.getD i false=b:=by rw[qAC,e];rfl
   have hQ:Q' (bs.getD i false) s':=hQ
   rw[z]at hQ
   exact qBr hQ
 ·intro h' tk hk
  refine⟨.bl (bs.all id),H,?_,by rw[<- zajy bs];simp;rfl,q⟩
  exact I.kept (t':=tk) λb o e=>hk b o (by have:=qJ e;simp;exact qi this) (qF _ e)
end
def zajz(o:Option NameKind):Bool:=o==some .cell||o==some .free
def zaka(sc:Scope)(N:List Str)(scope:Scope)(N' own:List Str)(fr:List Nat):Bool:=
 (scope.kind==.function)&&(scope.names.all λy=>scope.names.lookup y.1==some y.2)&&(scope.names.all λy=>!(y.2==.free)||zajz (sc.names.lookup y.1))&&
 (N'==own++fr.map λj=>N.getD j Str.empty)&&(fr.all λj=>decide (j<N.length)&&(scope.names.lookup (N.getD j Str.empty)==some .free))&&
 (own.all λx=>scope.names.lookup x==some .local||scope.names.lookup x==some .cell)
section
variable{X:Cx}
theorem zbn(h:zaka X.env.scope X.N scope N' own fr=true):CompOk X scope N' own fr:=by
 unfold zaka at h
 simp only[qo]at h
 obtain⟨⟨⟨⟨⟨h1,h2⟩,h3⟩,h4⟩,h5⟩,h6⟩:=h
 refine⟨eq_of_beq h1,λy hy=>eq_of_beq (qAk.mp h2 y hy),λy hy e=>?_,eq_of_beq h4,λj hj=>?_,λx hx=>?_⟩
 ·have q:=qAk.mp h3 y hy
  rw[e]at q
  have q:zajz (X.env.scope.names.lookup y.1)=true:=by simpa using q
  unfold zajz at q
  rcases qBY.mp q with z|z
  ·exact .inl (eq_of_beq z)
  ·exact .inr (eq_of_beq z)
 ·have q:=qAk.mp h5 j hj
  rw[qo]at q
  exact⟨of_decide_eq_true q.1,eq_of_beq q.2⟩
 ·have q:=qAk.mp h6 x hx
  rcases qBY.mp q with z|z
  ·exact .inl (eq_of_beq z)
  ·exact .inr (eq_of_beq z)
def zakb(K:qB):R2:=λx y H Q=>match x,y with
 | .int i,.int j=>Q (.int (i+j)) H
 | .str a,.str b=>a.length+b.length<=qU/\Q (.str (a++b)) H
 | .ref _,.ref _=>rCat x y H Q\/zayd K x y H Q
 | _,_=>False
theorem zakc:OpR X (binaryOp .Add) (zakb X.K):=by
 intro pins s σ H x y v u Q I rx ry h
 cases x<;>cases y<;>first
  | exact h.elim
  | exact zaxv pins s σ H _ _ v u Q I rx ry ⟨_,_,rfl,rfl,h⟩
  | exact zahm pins s σ H _ _ v u Q I rx ry ⟨_,_,rfl,rfl,h.1,h.2⟩
  | exact(zayk.or zaty) pins s σ H _ _ v u Q I rx ry h
def zauk:R2:=λx y H Q=>match x,y with
 | .int i,.int j=>CMul i j/\Q (.int (i * j)) H
 | .str z,.int n=>z.length<=1000/\-1000<=n/\n<=1000/\Q (.str (Txt.mul z n)) H
 | _,_=>False
theorem zif:OpR X (binaryOp .Mult) zauk:=by
 intro pins s σ H x y v u Q I rx ry h
 cases x<;>cases y<;>first
  | exact h.elim
  | exact zaxw pins s σ H _ _ v u Q I rx ry ⟨_,_,rfl,rfl,h.1,h.2⟩
  | exact zauj pins s σ H _ _ v u Q I rx ry ⟨_,_,rfl,rfl,h.1,h.2.1,h.2.2.1,h.2.2.2⟩
def rIxU(K:qB):R2:=λx y H Q=>match x,y with
 | .str z,.int i=>z.length<=qU/\∃c,atI z.cps.toList i=some c/\Q (.str ⟨#[c]⟩) H
 | .ref p,.int i=>∃xs v,(SqL K H p xs\/SqT K H p xs)/\atI xs i=some v/\Q v H
 | _,_=>False
theorem ix_U:IxR X (rIxU X.K):=by
 intro value slice pins s σ H x y v u Q I rx ry h hs
 cases x<;>cases y<;>first
  | exact h.elim
  | (obtain⟨h1,c,h2,h3⟩:=h;exact zayg value slice pins s σ H _ _ v u Q I rx ry ⟨_,_,c,rfl,rfl,h1,h2,h3⟩ hs)
  | (obtain⟨xs,w,h1,h2,h3⟩:=h
     rcases h1 with h1|h1
     ·exact zatz value slice pins s σ H _ _ v u Q I rx ry ⟨_,xs,_,w,rfl,rfl,h1,h2,h3⟩ hs
     ·exact zayf value slice pins s σ H _ _ v u Q I rx ry ⟨_,xs,_,w,rfl,rfl,h1,h2,h3⟩ hs)
def rSlU(K:qB):V->Option Int->Option Int->Hp->VK->Prop:=λx lo hi H Q=>match x with
 | .str z=>z.length<=qU/\Q (.str (Txt.slice z lo hi)) H
 | .ref _=>rSlL K x lo hi H Q
 | _=>False
theorem sl_U:SlR X (rSlU X.K):=by
 intro pins s σ H x v vl vu lo hi sl Q I rx hs pl pu h
 cases x<;>first
  | exact h.elim
  | exact zayq pins s σ H _ v vl vu lo hi sl Q I rx hs pl pu ⟨_,rfl,h.1,h.2⟩
  | exact zaub pins s σ H _ v vl vu lo hi sl Q I rx hs pl pu h
def Dn(P:Program)(w:World)(K:qB)(mg:Str->Option Value)(base:Heap)(x:Str)(ps:List Str)(k:Nat)(sp:Sp):Prop:=
 ∃f fd,FnOk P w K mg base CX0 k f fd ps sp/\mg x=some (.ref f)/\qAx K (.ref f)=true/\ziy K fd ps []
theorem zbbv(D:Dn X.prog X.w X.K X.mg X.base x ps k sp)(hr:Room k X.A)(hg:Gl X x)(ha:PA X (e::es) t)
  (hdb:(x==("__debug__":Str))=false:=by decide)(he:starEach (e::es) X.env=(false,eval e X.env)::starEach es X.env:=by rfl)(hpl:(backTo pos (starEach es X.env)).any (·.1)=false:=by rfl) :
  PE X (.Call (.Name x p) (e::es) [] pos) (tCall sp [] E0 t):=by
 obtain⟨f,fd,F,hm,hk,hb⟩:=D
 exact zajh F hr hg hm hk hb .nil zbbt ha hdb he hpl
end
theorem Same.upd(h:Same H H')(hp:H p=none):Same H (upd H' p o):=λb u e=>by rw[zap (zay e hp)];exact h b u e
theorem Same.new(hp:H p=none):Same H (L2.upd H p o):=(Same.refl H).upd hp
end L2
namespace Bc
open PySem L2
abbrev Web:=List (Str×List Str)
def nm(W:Web):List Str:=W.map (·.1)
structure WebOk(W:Web):Prop where
 nd:(nm W).Nodup
 el:∀i n es,W[i]?=some (n,es)->∀e∈es,e∈nm (W.take i)
 few:∀p∈W,p.2.length<=4
 len:W.length<=12
theorem zkk[DecidableEq α]:∀(l m:List α),l.Nodup->(∀x∈l,x∈m)->l.length<=m.length
 | [],_,_,_=>qAl _
 | a::l,m,h,s=>by
  obtain⟨h1,h2⟩:=qBP.mp h
  have ha:=s a qb
  have q:=zkk l (m.erase a) h2 λx hx=>(List.mem_erase_of_ne (λ(z:x=a)=>h1 (by rw[<- z];exact hx))).mpr (s x (qK _ hx))
  rw[List.length_erase_of_mem ha]at q
  have:=qDI ha
  rw[qy]
  omega
theorem ztn(h:WebOk W):(nm W).length<=12:=by unfold nm;rw[qC];exact h.len
end Bc
namespace L2
open PySem PySem.Spec PyProof.Rows
section
variable{X:Cx}{K:qB}(hK:X.K=K)
include hK
theorem zaul(hc:X.calm=true)(h:PGs X es t)
  (hn:(assignEach es X.env).length=n:=by rfl) (hst:(assignEach es X.env).findIdx? (·.1)=none:=by rfl):PG X (.Tuple es k pos) (gTup K n t):=by subst hK;exact zaxs hc h hn hst
theorem zcd:IxR X (rIxU K):=by subst hK;exact ix_U
theorem zmn:SlR X (rSlU K):=by subst hK;exact sl_U
theorem zbp:OpR X (binaryOp .Add) (zakb K):=by subst hK;exact zakc
theorem zakd:OpR X (compareOp .In) (rIn K false):=by subst hK;exact zajn
theorem zoo:OpR X (compareOp .NotIn) (rIn K true):=by subst hK;exact zaap
theorem zbo:CallR X (.builtin "len") (λxs H Q=>∃x n,xs=[x]/\LenV K x H n/\Q (.int n) H):=by subst hK;exact zaok
theorem zop(hc:X.calm=true):CallR X (.builtin "any") (rAny K λbs=>bs.any id):=by subst hK;exact zaoz hc
theorem zto(hc:X.calm=true):CallR X (.builtin "all") (rAny K λbs=>bs.all id):=by subst hK;exact zapa hc
theorem ztp:CallR X (.builtin "isinstance") (λxs H Q=>∃x n t b,xs=[x,.ty n]/\TyOf K H x t/\kitOne K t (.type n)=some b/\Q (.bl b) H):=by subst hK;exact zaoy rfl
theorem zhd:CallR X (.type "list") (λxs H Q=>∃p ys,xs=[.ref p]/\(SqL K H p ys\/SqT K H p ys)/\∀l,H l=none->Q (.ref l) (upd H l (.lst ys))):=by subst hK;exact zaaq
theorem zapb(hl:PE X l tl):PI X tg l (zaxu K tl):=by subst hK;exact zatu hl
theorem zake{T:String}{name:Str}{id:String}{r:V->List V->Hp->VK->Prop}{o e:Expr}{es:List Expr}{to:TE}{t:TA}{apos cpos:Pos}(pa:PlainAttrs T)(slot:Slot T name id)(hty:typeOf (.builtin id)=pure (.type "method_descriptor"))(hm:MtR X id r)(ho:PE X o to)(ha:PA X (e::es) t)
  (hbase:attributeBase o name X.env (eval o X.env)=eval o X.env:=by rfl)
  (hfew:((backTo cpos (starEach (e::es) X.env)).all (λx=>!x.1)&&(backToKw cpos (keywordEach [] X.env)).all (λx=>x.1.isSome)
   && decide ((e::es).length+([]:List Keyword).length+(if([]:List Keyword).isEmpty then 0 else 1)<30))=true:=by rfl)
  (hline:(apos.endLine==cpos.line)=true:=by rfl)(hs:starEach (e::es) X.env=(false,eval e X.env)::starEach es X.env:=by rfl)(hplain:(backTo cpos (starEach es X.env)).any (·.1)=false:=by rfl) :
  PE X (.Call (.Attribute o name apos) (e::es) [] cpos) (tBM K T r to t):=by subst hK;exact zbbr pa slot hty hm ho ha hbase hfew hline hs hplain
end
def xcIn(K:qB)(C:Addr):Bool:=match K.lookup C with
 | some ⟨.type "type",_,.cls cd,sl⟩=>(match cd.mro,sl.toList with
  | .ref C'::bm,[_,_,_,_,some (.builtin n),_]=>C'==C&&!cd.hasDel&&cd.hasDict&&n=="ValueError.__new__"&&bm.contains (.type "ValueError")&&bm.contains (.type "BaseException")&&!bm.contains (.type "AttributeError")&&!bm.contains (.type "NameError")
  | _,_=>false)
 | _=>false
theorem zayt{K:qB}{h:Heap}(X:K.In h)(q:xcIn K C=true):∃nm qn N bs bm sn sub ab col dd k0 k1 k2 k3 k5,
  h.get? C=some (excClassObj nm qn C N bs bm true sn sub ab col dd k0 k1 k2 k3 k5 "ValueError.__new__")/\(Value.ref C::bm).contains (.type "ValueError")=true/\(Value.ref C::bm).contains (.type "BaseException")=true/\(Value.ref C::bm).contains (.type "AttributeError")=false/\(Value.ref C::bm).contains (.type "NameError")=false:=by
 unfold xcIn at q
 split at q
 ·rename_i dd cd sl ho
  split at q
  ·rename_i C' bm k0 k1 k2 k3 n k5 hm hs
   simp only[qo,beq_iff_eq,Bool.not_eq_true']at q
   obtain⟨⟨⟨⟨⟨⟨⟨rfl,hdel⟩,hdc⟩,rfl⟩,hv⟩,hb⟩,ha⟩,hn⟩:=q
   obtain⟨nm,bs,mro,ns,qn,hd,sn,sub,ab,col,del⟩:=cd
   dsimp only at hm hdel hdc
   subst hm hdel hdc
   have hsl:sl=#[k0,k1,k2,k3,some (.builtin "ValueError.__new__"),k5]:=by
    obtain⟨l⟩:=sl
    simp only at hs
    rw[hs]
   subst hsl
   refine⟨nm,qn,ns,bs,bm,sn,sub,ab,col,dd,k0,k1,k2,k3,k5,X _ _ ho,?_,?_,?_,?_⟩
   ·rw[qAS,hv,qA2]
   ·rw[qAS,hb,qA2]
   ·rw[qAS,ha];rfl
   ·rw[qAS,hn];rfl
  ·cases q
 ·cases q
end L2
namespace PySem
open Sem (wp)
section
variable{prog:Program}{w:World}{A:Around}{E:Value->Shared->Prop}{h:Heap}{g:Array GenState}{d:Drawn}{t:Nat}{os:OsState}
variable{nm q:Str}{C N:Addr}{bs bm:List Value}{sn:List Str}{sub:List Value}{ab:Bool}{col:Option Bool}{dd:Option Addr}{k0 k1 k2 k3 k5:Option Value}
theorem zahu{Q:Unit->Shared->Prop}(hC:h.get? C=some (excClassObj nm q C N bs bm true sn sub ab col dd k0 k1 k2 k3 k5 "ValueError.__new__"))(hv:(Value.ref C::bm).contains (.type "ValueError")=true)
  (hq:Q () ⟨h,g,d,t,os⟩):wpAny M A (checkBuiltinCall "ValueError.__new__" ⟨.ref C::rest,[]⟩) Q E ⟨h,g,d,t,os⟩:=by
 have F:=qBx
 have f0:=F.noStar
 simp only[checkBuiltinCall,F.newKind,F.newSplit,F.newRow]
 repeat (first|refine qf hC ?_|(refine qAn hC ?_;rw[hv])|refine wpAny_staticBase_exc hC ?_|refine wpAny_madeBy_exc hC ?_|simp only[bne_self_eq_false,qB2,if_false]|wp_step)
 exact hq
theorem zakf{rest:List Value}{R:Result->Shared->Prop}(hC:h.get? C=some (excClassObj nm q C N bs bm true sn sub ab col dd k0 k1 k2 k3 k5 "ValueError.__new__"))(hv:(Value.ref C::bm).contains (.type "ValueError")=true)(ha:(Value.ref C::bm).contains (.type "AttributeError")=false)(hn:(Value.ref C::bm).contains (.type "NameError")=false)
  (hq:R (.ok (.ret (.ref (h.objs.size+1)))) ⟨(h.push {cls:=.type "tuple",data:=.seq rest.toArray}).push {cls:=.ref C,data:=.fields #[.ref h.objs.size,.none,.none,.none,.bool false,.none]},g,d,t,os⟩) (hr:rest.length<=qU) :
  codeAny (model prog w) A (.builtin "ValueError.__new__" ⟨.ref C::rest,[]⟩) R ⟨h,g,d,t,os⟩:=by
 have F:=qBx
 have f0:=F.ends
 refine codeAny_builtinAt F.entry ?_
 unfold Builtin.«BaseException.__new__»
 refine wpAt_bind ?_
 show wpAt _ _ _ (stack >>=_) _ _ _
 refine wpAt_bind (wpAt_stack λp below=>wpAt_of_wpAny ?_)
 wp_walk
 refine wpAt_of_wpAny ?_
 rw[F.owner]
 repeat (first|with_reducible refine wpAny_madeHere_exc F.canon hC ?_|with_reducible refine qf hC ?_|(with_reducible refine qAn hC ?_;first|rw[hv]|rw[ha]|rw[hn])|wp_step)
 show R _ _
 rw[qA1]
 exact hq
theorem zbbw{rest:List Value}{oI:Obj}{Q:Value->Shared->Prop}(hC:h.get? C=some (excClassObj nm q C N bs bm true sn sub ab col dd k0 k1 k2 k3 k5 "ValueError.__new__"))(hv:(Value.ref C::bm).contains (.type "ValueError")=true)(ha:(Value.ref C::bm).contains (.type "AttributeError")=false)(hn:(Value.ref C::bm).contains (.type "NameError")=false)
  (LI:W.Looks (model prog w) h (typeLookup (.ref C) "__init__") (some (.ref fI)))(hfI:h.get? fI=some oI)(hfc:oI.cls=.type "function")(hr:rest.length<=qU)
  (hq:∀h' e,Heap.MadeExcOf h h' e (.ref C) rest->wpAny (model prog w) (A.under (.builtin "type.__call__" ⟨.ref C::rest,[]⟩)) (call (.ref fI) (.ref e::rest)) (λr s'=>r=.none/\Q (.ref e) s') E ⟨h',g,d,t,os⟩) :
  wpAny (model prog w) A (call (.ref C) rest) Q E ⟨h,g,d,t,os⟩:=by
 have F:=qBx
 have f1:=tc_lookup
 have f2:=tc_bind (.ref C)
 have hT:(⟨h,g,d,t,os⟩:Shared).TypeIs (.ref C) "type":=⟨_,hC,rfl⟩
 refine qCV (codeAny_of_tree ?_)
 show wpAny _ _ (callAny (.ref C) _) _ _ _
 repeat (any_goals (first|assumption|with_reducible refine qf hC ?_|wp_step))
 refine⟨rfl,?_⟩
 refine codeAny_call_builtin_at (qCW _ (by decide +kernel)) entry_typeCall (wpAny_check_type_call_sub hC ?_)
 repeat (first|with_reducible refine qf hC ?_|with_reducible refine wpAny_madeBy_exc hC ?_|wp_step)
 refine codeAny_call_builtin_code (qCW _ F.quiet) (zahu hC hv ?_)
 refine zakf hC hv ha hn ?_ hr
 show wpAny _ _ _ _ _ _
 have kp:∀b o,h.get? b=some o->((h.push {cls:=.type "tuple",data:=.seq rest.toArray}).push {cls:=.ref C,data:=.fields #[.ref h.objs.size,.none,.none,.none,.bool false,.none]}).get? b=some o:=λb o e=>qF _ (qF _ e)
 have hC1:=kp _ _ hC
 have he:((h.push {cls:=.type "tuple",data:=.seq rest.toArray}).push {cls:=.ref C,data:=.fields #[.ref h.objs.size,.none,.none,.none,.bool false,.none]}).get? (h.objs.size+1)=some {cls:=.ref C,data:=.fields #[.ref h.objs.size,.none,.none,.none,.bool false,.none]}:=by heap_get
 have hcC:(Value.ref C::bm).contains (.ref C)=true:=by simp
 unfold isInstance
 repeat (first|with_reducible refine qf he ?_|(refine qAn hC1 ?_;rw[hcC])|wp_step)
 show wpAny _ _ (typeLookup (.ref C) _) _ _ _
 refine(LI.keeps kp).here ?_
 refine qBp (qD ?_)
 unfold bindSpecial
 refine qD (qCw (T:="function") ⟨_,kp _ _ hfI,hfc⟩ ?_)
 rw[if_pos (by decide)]
 refine qI (qD (qBB (hq _ (h.objs.size+1) ⟨kp,qCK (qCt _),h.objs.size,he,qCK (qL _),?_⟩) (λr s' hh=>?_) λ_ _ x=>x))
 ·exact qF _ (Heap.get?_push_at rfl rfl)
 ·obtain⟨rfl,hQ⟩:=hh
  wp_walk
  exact hQ
end
open Builtin Builtin.ObjectAttr
def vmro:List Value:=[.type "ValueError",.type "Exception",.type "BaseException",.type "object"]
def zep:List Value->Bool
 | .ref _::r=>zep r
 | l=>l==vmro
theorem zoq(self:Value)(what:Str):∀{l:List Value},zep l=true->refuseLoop self what l=refuseLoop self what vmro
 | [],h=>by cases h
 | v::r,h=>by
  cases v with
  | ref a=>rw[refuseLoop_ref];exact zoq self what h
  | _=>rw[eq_of_beq (show(_==vmro)=true from h)]
theorem zdu(hT:vmro.contains T=true):∀{l:List Value},zep l=true->l.contains T=true
 | [],h=>by cases h
 | v::r,h=>by
  cases v with
  | ref a=>rw[qAS,zdu hT (l:=r) h,qA2]
  | _=>rw[eq_of_beq (show(_==vmro)=true from h)];exact hT
section
variable{prog:Program}{w:World}{A:Around}{E:Value->Shared->Prop}{h:Heap}{g:Array GenState}{d:Drawn}{t:Nat}{os:OsState}
variable{nm q:Str}{C N x:Addr}{bs bm:List Value}{sn:List Str}{sub:List Value}{ab:Bool}{col:Option Bool}{dd:Option Addr}{k0 k1 k2 k3 k5:Option Value}{newId:String}{name:Str}{v:Value}
theorem zaav{o:Obj}{Q:Unit->Shared->Prop}(hr:zep bm=true)
  (hC:h.get? C=some (excClassObj nm q C N bs bm true sn sub ab col dd k0 k1 k2 k3 k5 newId))(hx:h.get? x=some o)(hc:o.cls=.ref C)(hq:Q () ⟨h,g,d,t,os⟩) :
  wpAny M A (checkBuiltinCall "object.__setattr__" ⟨[.ref x,nameV,v],[]⟩) Q E ⟨h,g,d,t,os⟩:=by
 have SF:=qCc
 have hcB:(Value.ref C::bm).contains (.type "object")=true:=by rw[qAS,zdu (by decide) hr,qA2]
 have ha:=SF.args (.ref x) nameV v
 simp only[checkBuiltinCall,SF.kind,SF.split]
 refine qD ?_
 ·unfold isInstance
  repeat (first|(with_reducible refine qf hx ?_;rw[hc])|(with_reducible refine qAn hC ?_;rw[hcB])|wp_step)
  exact hq
theorem zaaw{Q:Fin->Shared->Prop}{o:Obj}(hr:zep bm=true)
  (hC:h.get? C=some (excClassObj nm q C N bs bm true sn sub ab col dd k0 k1 k2 k3 k5 newId))(hx:h.get? x=some o)(hc:o.cls=.ref C)(hnc:∀c,o.data≠.cls c)(hdn:o.dict=none)
  (LA:W.Looks (model prog w) h (typeLookup (.ref C) name) none)
  (hq:∀h' tk' dx,h.objs.size<=dx->h'.Ns1 dx (λy=>if y=name then some v else none)->h'.get? x=some {o with dict:=some dx}->
   (∀b o,b≠x->h.get? b=some o->h'.get? b=some o)->Q (.done (.ret .none)) ⟨h',g,d,tk',os⟩) :
  wpAny (model prog w) A (Builtin.«object.__setattr__» ⟨[.ref x,.str name tk,v],[]⟩) Q E ⟨h,g,d,t,os⟩:=by
 have SF:=qCc
 have hpass:refuseLoop (.ref x) "__setattr__" bm=pure ():=by rw[zoq _ _ hr];exact SF.passes (.ref x)
 unfold Builtin.«object.__setattr__»
 repeat (first|rw[refuse_eq]|(rw[refuseLoop_ref,hpass])|(with_reducible refine qf hx ?_;rw[hc])|with_reducible refine wpAny_mroOf_exc hC ?_|(with_reducible refine LA.here ?_)|wp_step)
 rw[hdn,if_neg (by simp[typeHasDict])]
 split
 ·rename_i hcd
  cases hcd
 split
 ·rename_i c hcd
  exact absurd hcd (hnc c)
 ·have hx₁:(h.push {cls:=.type "dict",data:=.dict #[]}).get? x=some o:=qF _ hx
  have hxs:x≠h.objs.size:=qi (qJ hx)
  refine qD (wpAny_alloc' ?_)
  refine qD (wpAny_update' hx₁ ?_)
  refine qI ?_
  have hgd:((h.push {cls:=.type "dict",data:=.dict #[]}).update x λo=>{cls:=o.cls,dict:=some h.objs.size,data:=o.data,slots:=o.slots}).get? h.objs.size
    = some {cls:=.type "dict",data:=.dict #[]}:=
   (qDb _ _ _ _ hxs.symm).trans (Heap.get?_push_at rfl rfl)
  have hnd:((h.push {cls:=.type "dict",data:=.dict #[]}).update x λo=>{cls:=o.cls,dict:=some h.objs.size,data:=o.data,slots:=o.slots}).Ns h.objs.size (λ_=>none):=
   ⟨_,#[],_,hgd,rfl,λe he=>absurd he (by simp),λ_=>rfl⟩
  show wpAny _ _ (storeInDict h.objs.size (.str name tk) name v) _ _ _
  unfold storeInDict newKeyGuard
  refine qD (qI (qD (wpAny_nsSet1EFk (Heap.Ns1.of_empty hnd) λh' hn' hs hkeepD=>?_)))
  obtain⟨oD,esD,epD,hoD,hdD,hcD⟩:=hn'.count (Within.cons name v Within.nil)
  refine qD (wpAny_lookBehind hoD (by rw[hdD];exact pastItsLine_dict (qAI hcD (by rw[qy,qBi,qBT];omega))) ?_)
  wp_walk
  refine hq h' _ h.objs.size (qL _) hn' ?_ (λb ob hbx hb=>?_)
  ·refine(hs.2 x hxs).trans (qAm _ hx₁ ?_)
   have hfr:=(Heap.get?_some_iff.mp hx).2
   obtain⟨oc,od,odt,osl⟩:=o
   cases odt<;>first|rfl|exact hfr
  ·exact(hs.2 b (qi (qJ hb))).trans ((qDb _ _ _ _ hbx).trans (qF _ hb))
theorem zayu{Q:Unit->Shared->Prop}{o:Obj}(hr:zep bm=true)
  (hC:h.get? C=some (excClassObj nm q C N bs bm true sn sub ab col dd k0 k1 k2 k3 k5 newId))(hx:h.get? x=some o)(hc:o.cls=.ref C)(hnc:∀c,o.data≠.cls c)(hdn:o.dict=none)
  (LS:W.Looks (model prog w) h (typeLookup (.ref C) "__setattr__") (some (.builtin "object.__setattr__")))(LA:W.Looks (model prog w) h (typeLookup (.ref C) name) none)
  (hq:∀h' tk' dx,h.objs.size<=dx->h'.Ns1 dx (λy=>if y=name then some v else none)->h'.get? x=some {o with dict:=some dx}->
   (∀b o,b≠x->h.get? b=some o->h'.get? b=some o)->Q () ⟨h',g,d,tk',os⟩) :
  wpAny (model prog w) A (setAttr (.ref x) name v) Q E ⟨h,g,d,t,os⟩:=by
 have SF:=qCc
 have f3:=SF.slot.bind (.ref x)
 unfold setAttr callSpecial? specialOf
 repeat (any_goals (first|assumption|(with_reducible refine qf hx ?_;rw[hc])|(with_reducible refine LS.here ?_)|wp_step))
 refine qBZ SF.slot.plain SF.entry (zaav hr hC hx hc (zaaw hr hC hx hc hnc hdn LA λh' tk' dx a1 a2 a3 a4=>?_))
 repeat (any_goals (first|assumption|wp_step))
 exact hq h' tk' dx a1 a2 a3 a4
theorem zbbx{Q:Value->Shared->Prop}{o:Obj}{mA:Str->Option Value}(hr:zep bm=true)
  (hC:h.get? C=some (excClassObj nm q C N bs bm true sn sub ab col dd k0 k1 k2 k3 k5 newId))(hx:h.get? x=some o)(hc:o.cls=.ref C)(hd:o.data=.fields vs)(hdd:o.dict=some dx)
  (hns:h.Ns dx mA)(hv:mA name=some v)
  (LG:W.Looks (model prog w) h (typeLookup (.ref C) "__getattribute__") (some (.builtin "BaseException.__getattribute__")))(LH:W.Looks (model prog w) h (typeLookup (.ref C) "__getattr__") none)(LA:W.Looks (model prog w) h (typeLookup (.ref C) name) none)
  (hh:W.handedIn v=true)(hq:∀tk',Q v ⟨h,g,d,tk',os⟩) :
  wpAny (model prog w) A (getAttr (.ref x) name expr) Q E ⟨h,g,d,t,os⟩:=by
 have hk:builtinKind "BaseException.__getattribute__"=some .slot:=by decide +kernel
 have hsplit:splitId "BaseException.__getattribute__"=some ("BaseException","__getattribute__"):=by decide +kernel
 have hcB:(Value.ref C::bm).contains (.type "BaseException")=true:=by rw[qAS,zdu (by decide) hr,qA2]
 have hx0:(expr&&onTheHeap (Value.builtin "BaseException.__getattribute__"))=false:=by cases expr<;>rfl
 have hx2:(Value.builtin "BaseException.__getattribute__"==Value.builtin "object.__getattribute__")=false:=by decide +kernel
 have hx1:(onTheHeap (Value.ref C)&&Value.builtin "BaseException.__getattribute__"==Value.builtin "object.__getattribute__")=false:=by rw[hx2];rfl
 have FB:=F.attr_ValueError
 have f3:=FB.ga.bind (.ref x)
 have ha:=F.args_bexc_ga (.ref x)
 unfold getAttr getAttrBy
 repeat (any_goals (first|assumption|(with_reducible refine qf hx ?_;rw[hc])|(with_reducible refine LG.here ?_)|(with_reducible refine LH.here ?_)|wp_step))
 refine qBZ FB.ga.plain F.entry_bexc_ga ?_
 simp only[checkBuiltinCall,hk,hsplit]
 refine qD ?_
 unfold isInstance
 repeat (first|(with_reducible refine qf hx ?_;rw[hc])|(with_reducible refine qAn hC ?_;rw[hcB])|wp_step)
 repeat (any_goals (first|assumption|(with_reducible refine qf hx ?_;rw[hc])|(with_reducible refine LA.here ?_)|wp_step))
 rw[hd]
 dsimp only
 unfold instanceDict
 repeat (any_goals (first|assumption|(with_reducible refine qf hx ?_;rw[hc])|(with_reducible refine qf hC ?_)|wp_step))
 rw[hdd]
 dsimp only
 refine qI ?_
 unfold inDict
 refine wpAny_nsGet hns ?_
 rw[hv]
 dsimp only
 repeat (any_goals (first|assumption|wp_step))
 show wpAny _ _ (handedOut v) _ _ _
 rw[W.handedOut_of hh]
 exact qI (hq _)
theorem zbby{Q:Value->Shared->Prop}{o:Obj}{vs:Array Value}{rest:List Value}(hr:zep bm=true)(hl:rest.length<=qU)
  (hC:h.get? C=some (excClassObj nm q C N bs bm true sn sub ab col dd k0 k1 k2 k3 k5 newId))(hx:h.get? x=some o)(hc:o.cls=.ref C)(hd:o.data=.fields vs)(hs:0<vs.size)
  (hq:∀h' p,h'.get? x=some {o with data:=.fields (vs.setIfInBounds 0 (.ref p))}->(∀b o,b≠x->h.get? b=some o->h'.get? b=some o)->Q .none ⟨h',g,d,t,os⟩) :
  wpAny (model prog w) A (call (.builtin "ValueError.__init__") (.ref x::rest)) Q E ⟨h,g,d,t,os⟩:=by
 have F:=qBx
 have hcB:(Value.ref C::bm).contains (.type "ValueError")=true:=by rw[qAS,zdu (by decide) hr,qA2]
 have hshort:=F.noStar
 refine qCV (qBZ F.init.plain F.initEntry ?_)
 simp only[checkBuiltinCall,F.initKind,F.initSplit,F.initRow]
 repeat (first|(with_reducible refine qf hx ?_;rw[hc])|with_reducible refine qf hC ?_|(with_reducible refine qAn hC ?_;rw[hcB])|wp_step)
 refine qCI ?_
 rw[show ∀(a b:String)(n:Nat),Bind.check ⟨.positional,"*","ValueError",.self,[⟨"args",.varPos,false⟩]⟩ a b n (List.map (λx=>x.fst) ({pos:=Value.ref x::rest}:Args).kw)=pure ()from
  λa b n=>check_star_args _ _ _ _ _ _]
 refine qI ?_
 unfold Builtin.«BaseException.__init__»
 repeat (any_goals (first|assumption|wp_step))
 rw[hd]
 dsimp only
 refine qI ?_
 rw[Array.getElem?_eq_getElem hs]
 dsimp only
 refine qI (qD ?_)
 have hx':(h.push {cls:=.type "tuple",data:=.seq rest.toArray}).get? x=some o:=qF _ hx
 refine qBd hx' hd hs ?_
 have fin:Q .none ⟨(h.push {cls:=.type "tuple",data:=.seq rest.toArray}).update x (Obj.mapFields (·.setIfInBounds 0 (Value.ref h.objs.size))),g,d,t,os⟩:=by
  refine hq _ h.objs.size ?_ λb ob hb e=>by rw[qAX _ _ (qAp hb)];exact qF _ e
  have hd₃:=qAg hd (·.setIfInBounds 0 (Value.ref h.objs.size))
  rw[qAm _ hx' (qBA hd₃)]
  unfold Obj.mapFields
  obtain⟨oc,od,odt,osl⟩:=o
  cases hd
  rfl
 cases vs[0]<;>(repeat (any_goals (first|exact fin|assumption|wp_step)))
end
def Heap.Tb(h:Heap)(T:Addr):Prop:=∃oT ts,h.get? T=some oT/\oT.data=.fields ts/\ts[3]?=some .none
section
variable{M:Model}{A:Around}{E:Value->Shared->Prop}{s:Shared}{base:Heap}{env:Env}{outer:List Env}{L e:Addr}{oe:Obj}{vs:Array Value}
theorem mapf{o:Obj}(hd:o.data=.fields vs)(f:Array Value->Array Value):Obj.mapFields f o={o with data:=.fields (f vs)}:=by
 unfold Obj.mapFields
 obtain⟨oc,od,odt,osl⟩:=o
 cases hd
 rfl
theorem ztq{Q:Unit->Shared->Prop}
  (hfr:A.frames=some (env::outer))(hl:s.heap.FunFrames base (env::outer))(hf:env.frame=some L)(he:s.heap.get? e=some oe)(hd:oe.data=.fields vs)(hsz:1<vs.size)
  (hQ:∀h' T,s.heap.objs.size<=T->T≠e->(∀b o,b≠e->b∉(env::outer).filterMap (·.frame)->s.heap.get? b=some o->h'.get? b=some o)->
   (∀b o,b≠e->s.heap.get? b=some o->∃sl,h'.get? b=some {o with slots:=sl})->h'.get? e=some {oe with data:=.fields (vs.setIfInBounds 1 (.ref T))}->h'.Tb T->Q () {s with heap:=h'}) :
  wpAny M A (do let a <- frameOf env;let pl <- entryPlaceOf L hadNext;let b <- EntryCells.newEntry head a .none (rawInt L) .none pl;setField (.ref e) 1 b) (λ_ s'=>wpAny M A (setFlight (.ref e) none) Q E s') E s:=by
 have hene:e∉(env::outer).filterMap (·.frame):=λhm=>by
  obtain⟨_,o,ho,hnf⟩:=hl.mem hm
  rw[he]at ho;injection ho with ho;subst ho;exact hnf vs hd
 refine qD (wpAny_frameOf_fun hfr hl hf λh₁ hs₁=>?_)
 refine qD (wpAny_entryPlaceOf λpl hpl=>?_)
 unfold EntryCells.newEntry newFields
 refine qD (qA7 ?_ (hpl.sizeOk5 _ _ _ _ _))
 have he₁:h₁.get? e=some oe:=(hs₁.2.1 e hene).trans he
 have he₂:=qF (h:=h₁) {cls:=.type "traceback",dict:=none,data:=.fields ([head,.ref L,.none,rawInt L,.none]++(if pl.isEmpty then List.replicate 6 Value.none else pl)).toArray} he₁
 refine qBd he₂ hd hsz ?_
 have hTe:h₁.objs.size≠e:=qBc (qJ he₁)
 have hd₃:=qAg hd (·.setIfInBounds 1 (Value.ref h₁.objs.size))
 have he₃:=qAm (Obj.mapFields (·.setIfInBounds 1 (Value.ref h₁.objs.size))) he₂ (qBA hd₃)
 have hT₃:=(qAX (h₁.push {cls:=.type "traceback",dict:=none,data:=.fields ([head,.ref L,.none,rawInt L,.none]++(if pl.isEmpty then List.replicate 6 Value.none else pl)).toArray})
  (Obj.mapFields (·.setIfInBounds 1 (Value.ref h₁.objs.size))) (qAp hTe)).trans (qY h₁ rfl)
 unfold setFlight
 refine qD (qAW he₃ hd₃ (x:=.ref h₁.objs.size) (by simp[hsz]) ?_)
 rw[if_pos (show(Value.ref h₁.objs.size != Value.none)=true from by simp)]
 refine qBd hT₃ rfl (by simp only[qM,qO,qy,qBi]<;>omega) ?_
 have keep:∀b o,b≠e->h₁.get? b=some o->
   (((h₁.push {cls:=.type "traceback",dict:=none,data:=.fields ([head,.ref L,.none,rawInt L,.none]++(if pl.isEmpty then List.replicate 6 Value.none else pl)).toArray}).update e (Obj.mapFields (·.setIfInBounds 1 (Value.ref h₁.objs.size)))).update h₁.objs.size
    (Obj.mapFields (·.setIfInBounds 3 ((none:Option Addr).elim Value.none λf=>rawInt f)))).get? b=some o:=λb o hbe hb=>by
  have hbT:h₁.objs.size≠b:=qBc (qJ hb)
  rw[qAX _ _ hbT,qAX _ _ (qAp hbe)]
  exact qF _ hb
 refine hQ _ h₁.objs.size (Nat.le_of_eq hs₁.1.symm) hTe (λb o hb hn ho=>keep b o hb ((hs₁.2.1 b hn).trans ho)) (λb o hb ho=>?_) ?_ ?_
 ·obtain⟨sl,hs⟩:=hs₁.2.2 b o ho
  exact⟨sl,keep b _ hb hs⟩
 ·rw[qAX _ _ hTe,he₃,mapf hd]
 ·exact⟨_,_,qAm _ hT₃ (qBA (qAg rfl _)),qAg rfl _,by first|(simp;done)|(rcases hpl with rfl|⟨_,_,_,_,_,_,_,rfl⟩<;>simp)⟩
theorem zadr{Q:Unit->Shared->Prop}
  (hfr:A.frames=some (env::outer))(hl:s.heap.FunFrames base (env::outer))(hf:env.frame=some L)(he:s.heap.get? e=some oe)(hd:oe.data=.fields vs)
  (h1:vs[1]?=some .none\/∃T,vs[1]?=some (.ref T)/\T≠e/\s.heap.Tb T)
  (hQ:∀h' T,s.heap.objs.size<=T->T≠e->(∀b o,b≠e->vs[1]?≠some (.ref b)->b∉(env::outer).filterMap (·.frame)->s.heap.get? b=some o->h'.get? b=some o)->
   (∀b o,b≠e->vs[1]?≠some (.ref b)->s.heap.get? b=some o->∃sl,h'.get? b=some {o with slots:=sl})->(∀b,vs[1]?=some (.ref b)->h'.Tb b)->
   h'.get? e=some {oe with data:=.fields (vs.setIfInBounds 1 (.ref T))}->h'.Tb T->Q () {s with heap:=h'}) :
  wpAny M A (noteFrame (.ref e) env) (λ_ s'=>wpAny M A (setFlight (.ref e) none) Q E s') E s:=by
 unfold noteFrame
 simp only[hf]
 rcases h1 with h1|⟨T,h1,hTe,oT,ts,hT,hdT,h3⟩
 ·refine(qD (qAW he hd h1 ?_))
  rw[if_neg (by decide)]
  exact ztq hfr hl hf he hd (qAq.mp h1).1 λh' T a1 a2 a3 a4 a5 a6=>hQ h' T a1 a2 (λb o q _=>a3 b o q) (λb o q _=>a4 b o q) (λb q=>by rw[h1]at q;cases q) a5 a6
 ·refine(qD (qAW he hd h1 ?_))
  rw[if_pos (show(Value.ref T != Value.none)=true from by simp)]
  refine qD (qAW hT hdT h3 ?_)
  rw[if_neg (show ¬((Value.none==rawInt L)=true)from by simp[rawInt])]
  have hsz3:=(qAq.mp h3).1
  refine qD (qBd hT hdT hsz3 ?_)
  have other:∀b,b≠T->(s.heap.update T (Obj.mapFields (·.setIfInBounds 3 Value.none))).get? b=s.heap.get? b:=λb hb=>qAX _ _ (qAp hb)
  have hT':=qAm (Obj.mapFields (·.setIfInBounds 3 Value.none)) hT (qBA (qAg hdT _))
  have noRecord:∀b o,s.heap.get? b=some o->(∀vs,o.data≠.fields vs)->b≠T:=λb o hb hnf q=>by
   rw[q,hT]at hb;injection hb with hb;subst hb;exact hnf ts hdT
  have ne:∀{b:Addr},vs[1]?≠some (.ref b)->b≠T:=λq z=>q (by rw[h1,z])
  refine ztq hfr (hl.of_keeps λb o hb hnf=>⟨o,(other b (noRecord b o hb hnf)).trans hb,rfl⟩) hf ((other e (qAp hTe)).trans he) hd (qAq.mp h1).1 λh' T' a1 a2 a3 a4 a5 a6=>?_
  refine hQ h' T' (by rw[Heap.size_update]at a1;exact a1) a2 (λb o q n z ho=>a3 b o q z ((other b (ne n)).trans ho)) (λb o q n ho=>a4 b o q ((other b (ne n)).trans ho)) (λb q=>?_) a5 a6
  rw[h1]at q
  cases q
  obtain⟨sl,hs⟩:=a4 T _ hTe hT'
  exact⟨_,_,hs,qAg hdT _,by simp[hsz3]⟩
theorem zakg{Q:Unit->Shared->Prop}(he:s.heap.get? e=some oe)(hd:oe.data=.fields vs)(h1:vs[1]?=some (.ref T))(hT:s.heap.Tb T)
  (hQ:∀h',(∀b o,b≠T->s.heap.get? b=some o->h'.get? b=some o)->h'.Tb T->Q () {s with heap:=h'}):wpAny M A (setFlight (.ref e) none) Q E s:=by
 obtain⟨oT,ts,hT,hdT,h3⟩:=hT
 have hsz3:=(qAq.mp h3).1
 unfold setFlight
 refine qD (qAW he hd h1 ?_)
 rw[if_pos (show(Value.ref T != Value.none)=true from by simp)]
 refine qBd hT hdT hsz3 (hQ _ (λb o hb ho=>by rw[qAX _ _ (qAp hb)];exact ho) ?_)
 exact⟨_,_,qAm _ hT (qBA (qAg hdT _)),qAg hdT _,by simp[hsz3]⟩
end
end PySem
namespace L2
open PySem PySem.Spec PyProof.Rows
def xeD(e C dx:Addr)(tv:Value)(h:Heap):Prop:=∃vs sl,h.get? e=some {cls:=.ref C,dict:=some dx,data:=.fields vs,slots:=sl}/\vs[1]?=some tv
theorem xeD.stay(h1 h2:Heap)(h:xeD e C dx tv h1)(k:∀o,h1.get? e=some o->h2.get? e=some o):xeD e C dx tv h2:=
 let⟨vs,sl,a,b⟩:=h;⟨vs,sl,k _ a,b⟩
theorem zaum(h1 h2:Heap)(h:h1.Tb T)(k:∀o,h1.get? T=some o->h2.get? T=some o):h2.Tb T:=
 let⟨oT,ts,a,b⟩:=h;⟨oT,ts,k _ a,b⟩
theorem zasa(q:xeD e C dx tv h):zek P w H h e (.ext (xeD e C dx tv)):=
 ⟨q,let⟨_,_,a,_⟩:=q;⟨_,a⟩,λh1 h2=>xeD.stay h1 h2⟩
theorem zakh{h:Heap}(q:h.Tb T):zek P w H h T (.ext λh=>h.Tb T):=
 ⟨q,let⟨_,_,a,_⟩:=q;⟨_,a⟩,λh1 h2=>zaum h1 h2⟩
theorem zek.there{h:Heap}(x:zek P w H h a o):∃ob,h.get? a=some ob:=by
 cases o with
 | lst xs=>obtain⟨_,_,_,_,e⟩:=x;exact⟨_,e⟩
 | tup xs=>obtain⟨_,_,_,ob,e,_⟩:=x;exact⟨_,e⟩
 | dK kvs=>obtain⟨_,_,_,_,o,_,_,e,_⟩:=x;exact⟨_,e⟩
 | dT kvs=>obtain⟨_,_,_,_,o,_,_,e,_⟩:=x;exact⟨_,e⟩
 | set S n=>obtain⟨o,_,_,_,e,_⟩:=x;exact⟨_,e⟩
 | ins C dx fs=>obtain⟨_,_,_,e,_⟩:=x;exact⟨_,e⟩
 | own y=>exact x
 | xd fs=>obtain⟨_,⟨_,_,_,e,_⟩,_⟩:=x;exact⟨_,e⟩
 | rng lo hi=>obtain⟨_,_,_,e⟩:=x;exact⟨_,e⟩
 | frz ob u=>obtain⟨e,_⟩:=x;exact⟨_,e⟩
 | tbl ps=>exact⟨_,x⟩
 | tabO q=>obtain⟨_,e,_⟩:=x;exact⟨_,e⟩
 | met f y=>exact⟨_,x⟩
 | ext φ=>exact x.2.1
theorem HOk.no{h:Heap}(x:HOk P w H h)(n:h.get? a=none):H a=none:=by
 cases q:H a with
 | none=>rfl
 | some u=>obtain⟨ob,z⟩:=(x a u q).there;rw[n]at z;cases z
def zapc(H H':Hp):Prop:=∀b o,H b=some o->(∀φ,o≠.ext φ)->H' b=some o
def StX(H0:Hp)(E:XK):XK:=λc dx H'=>∀H3,(∀b o,H0 b=some o->H' b=some o->H3 b=some o)->zapc H' H3->E c dx H3
structure Flt(h:Heap)(H':Hp)(e C dx:Addr):Prop where
 new:h.get? e=none
 st:∃tv,H' e=some (.ext (xeD e C dx tv))/\(tv=.none\/∃T,tv=.ref T/\T≠e/\h.get? T=none/\H' T=some (.ext λh=>h.Tb T))
def CXE(P:Program)(w:World):CXT:=λouter H s E e s'=>∃ea C dx H',e=.ref ea/\s'.os=s.os/\AllBare s'.gens/\Un (frs outer) [] H H' s.heap s'.heap/\HOk P w H' s'.heap/\Flt s.heap H' ea C dx/\StX H E (.ref C) (some dx) H'
section
variable{X:Cx}{pins:List (Addr×Obj)}{σ:St}{H1:Hp}{s:Shared}{e C dx:Addr}{E:Value->Shared->Prop}
theorem zaax{h0:Heap}{Q:Unit->Shared->Prop}(I:Inv X pins σ H1 s)(hst:X.stack=X.env::X.outer)(hfr:X.env.frame=some X.env.locals)(hz:∀b ob,h0.get? b=some ob->∃o',s.heap.get? b=some o')(F:Flt h0 H1 e C dx)
  (k:∀s' H2,Inv X pins σ H2 s'->(∃T,H2 e=some (.ext (xeD e C dx (.ref T)))/\T≠e/\h0.get? T=none/\H2 T=some (.ext λh=>h.Tb T))->
   (∀b o ob,h0.get? b=some ob->H1 b=some o->H2 b=some o)->zapc H1 H2->(s.heap.objs.size<=s'.heap.objs.size)->Q () s') :
  wpAny (model X.prog X.w) X.A (noteFrame (.ref e) X.env) (λ_ s'=>wpAny (model X.prog X.w) X.A (setFlight (.ref e) none) Q E s') E s:=by
 obtain⟨tv,he,ht⟩:=F.st
 obtain⟨⟨vs,sl,oe,h1⟩,_,_⟩:=I.hok e _ he
 have hfs:∀b,b∈(X.env::X.outer).filterMap (·.frame)->H1 b=none:=λb hb=>I.stkFree b (by unfold frs;rw[hst];exact hb)
 have hT1:tv=.none\/∃T,tv=.ref T/\T≠e/\s.heap.Tb T:=ht.imp id λ⟨T,a,b,c,d⟩=>⟨T,a,b,(I.hok T _ d).1⟩
 refine zadr (base:=X.base) (L:=X.env.locals) (by rw[<- hst];exact I.ok.frames) (by rw[<- hst];exact I.stack) hfr oe rfl (hT1.imp (λz=>by rw[h1,z]) λ⟨T,a,b,c⟩=>⟨T,by rw[h1,a],b,c⟩) λh' T a1 a2 a3 a4 a5 a6 a7=>?_
 have nT:H1 T=none:=I.hok.fresh a1
 have tr:∀b,vs[1]?=some (.ref b)->H1 b=some (.ext λh=>h.Tb b)/\b≠e/\h0.get? b=none:=λb q=>by
  rw[h1]at q
  rcases ht with z|⟨T0,z,b1,c1,d1⟩
  ·rw[z]at q;cases q
  ·rw[z]at q;cases q;exact⟨d1,b1,c1⟩
 let H2:Hp:=upd (upd H1 T (.ext λh=>h.Tb T)) e (.ext (xeD e C dx (.ref T)))
 have h2:∀b,b≠e->b≠T->H2 b=H1 b:=λb q z=>by show upd _ _ _ b=_;rw[zap q,zap z]
 have h2e:H2 e=some (.ext (xeD e C dx (.ref T))):=zal
 have h2T:H2 T=some (.ext λh=>h.Tb T):=by show upd _ _ _ T=_;rw[zap a2,zal]
 have ext2:∀b o,H1 b=some o->(∀φ,o≠.ext φ)->H2 b=some o:=λb o q n=>by
  rw[h2 b (λz=>by rw[z,he]at q;cases q;exact n _ rfl) (λz=>by rw[z,nT]at q;cases q)];exact q
 have kp:∀b o,H1 b=some o->b≠e->vs[1]?≠some (.ref b)->∀u,s.heap.get? b=some u->h'.get? b=some u:=λb o q n n2 u z=>a3 b u n n2 (λm=>by rw[hfs b m]at q;cases q) z
 have hsz1:1<vs.size:=(qAq.mp h1).1
 have ok2:HOk X.prog X.w H2 h':=λb o q=>by
  by_cases hb:b=e
  ·subst hb
   rw[h2e]at q
   cases q
   exact zasa ⟨_,_,a6,by rw[Array.getElem?_setIfInBounds_self_of_lt hsz1]⟩
  ·by_cases hbT:b=T
   ·subst hbT
    rw[h2T]at q
    cases q
    exact zakh a7
   ·rw[h2 b hb hbT]at q
    by_cases hv:vs[1]?=some (.ref b)
    ·rw[(tr b hv).1]at q
     cases q
     exact zakh (a5 b hv)
    ·refine(I.hok b o q).stay (λc u hc z=>?_) (λc z=>ext2 c _ z (λφ y=>by cases y)) (λc xs z=>ext2 c _ z (λφ y=>by cases y)) (λc o2 z=>ext2 c _ z (λφ y=>by cases y))
     rcases hc with rfl|hc
     ·exact kp c o q hb hv u z
     ·exact kp c _ hc (λy=>by rw[y,he]at hc;cases hc) (λy=>by rw[(tr c y).1]at hc;cases hc) u z
 have un:Un (frs X.stack) [] H1 H2 s.heap h':=by
  have nb:∀b,H1 b=none->b≠e/\vs[1]?≠some (.ref b):=λb n=>⟨λy=>(by rw[y,he]at n;cases n),λy=>(by rw[(tr b y).1]at n;cases n)⟩
  have hfs':∀b,b∈frs X.stack↔b∈(X.env::X.outer).filterMap (·.frame):=λb=>by unfold frs;rw[hst]
  refine⟨λb o q n hb _=>a3 b o (nb b n).1 (nb b n).2 (λm=>hb ((hfs' b).mpr m)) q,λb o q n hb _=>a4 b o (nb b n).1 (nb b n).2 q,λb o q n _=>?_,λb o q _=>?_,λb xs q=>ext2 b _ q (λφ y=>by cases y),λb o u q=>ext2 b _ q (λφ y=>by cases y),λb ps q=>⟨#[],by rw[ext2 b _ q (λφ y=>by cases y)];simp⟩⟩
  ·rw[h2 b (nb b n).1 (λy=>by rw[y]at q;exact absurd (qJ q) (qDB.mpr a1))];exact n
  ·by_cases hb:b=e
   ·exact⟨_,by rw[hb];exact a6⟩
   ·by_cases hv:vs[1]?=some (.ref b)
    ·obtain⟨oT,_,z,_⟩:=a5 b hv;exact⟨oT,z⟩
    ·obtain⟨sl,z⟩:=a4 b o hb hv q;exact⟨_,z⟩
 have n0:h0.get? T=none:=by
  cases y:h0.get? T with
  | none=>rfl
  | some ob=>obtain⟨o',z⟩:=hz T ob y;exact absurd (qJ z) (qDB.mpr a1)
 have hs:s.heap.objs.size<=h'.objs.size:=qB3 (qBM a1 (let⟨_,_,z,_⟩:=a7;qJ z))
 refine k _ H2 (I.call' (s':={s with heap:=h'}) rfl un ok2 I.bare (λb z=>absurd z (by simp))) ⟨T,h2e,a2,n0,h2T⟩ (λb o ob q z=>?_) ext2 hs
 rw[h2 b (λy=>by rw[y,F.new]at q;cases q) (λy=>by rw[y,nT]at z;cases z)]
 exact z
theorem zafm{h0:Heap}{Q:Unit->Shared->Prop}(I:Inv X pins σ H1 s)(hst:X.stack=X.env::X.outer)(hfr:X.env.frame=some X.env.locals)(hz:∀b ob,h0.get? b=some ob->∃o',s.heap.get? b=some o')(F:Flt h0 H1 e C dx)
  (k:∀s' H2,Inv X pins σ H2 s'->(∃T,H2 e=some (.ext (xeD e C dx (.ref T)))/\T≠e/\h0.get? T=none/\H2 T=some (.ext λh=>h.Tb T))->
   (∀b o ob,h0.get? b=some ob->H1 b=some o->H2 b=some o)->zapc H1 H2->(s.heap.objs.size<=s'.heap.objs.size)->Q () s') :
  wpAny (model X.prog X.w) X.A (leaving X.env (.ref e)) Q E s:=by
 unfold leaving
 exact qD (zaax I hst hfr hz F k)
end
theorem zasb{P:Program}{w:World}{K:qB}{mg:Str->Option Value}{base:Heap}{N:List Str}{qual:Str}{scope:Scope}{f:Addr}{cd:Value}{A:Around}{outer:List Env}{s:Shared}{H:Hp}{E:XK}
  {pins:List (Addr×Obj)}{σ:St}{H1:Hp}{s1:Shared}{e C dx:Addr}(I:Inv (cxOf (CXE P w) P w K mg base N qual scope f cd A outer s H E) pins σ H1 s1)(h0k:HOk P w H s.heap)(F:Flt s.heap H1 e C dx)(q:StX H E (.ref C) (some dx) H1) :
  (cxOf (CXE P w) P w K mg base N qual scope f cd A outer s H E).xe (.ref e) s1:=by
 refine zafm (X:=cxOf (CXE P w) P w K mg base N qual scope f cd A outer s H E) I rfl rfl (λb ob z=>I.base.there b ob z (λy=>absurd (show b∈([]:List Addr)from y) (by simp))) F λs' H2 I2 ht hk hx _=>?_
 refine⟨e,C,dx,H2,rfl,I2.os,I2.bare,I2.base,I2.hok,⟨F.new,_,ht.choose_spec.1,.inr ⟨_,rfl,ht.choose_spec.2⟩⟩,λH3 r1 r2=>q H3 (λb o z1 z2=>?_) (λb o z n=>r2 b o (hx b o z n) n)⟩
 obtain⟨ob,y⟩:=(h0k b o z1).there
 exact r1 b o z1 (hk b o ob y z2)
theorem znj{P:Program}{w:World}{K:qB}{mg:Str->Option Value}{base:Heap}{N:List Str}{qual:Str}{scope:Scope}{f:Addr}{cd:Value}{A:Around}{outer:List Env}{s:Shared}{H:Hp}{E:XK}(h0k:HOk P w H s.heap) :
  zxc (CXE P w) (cxOf (CXE P w) P w K mg base N qual scope f cd A outer s H E) (StX H E):=by
 intro pins σ H1 s1 e s2 I h
 obtain⟨ea,C,dx,H2,rfl,os,bare,un,ok,F,q⟩:=h
 have I2:=I.call' (s':=s2) os un ok bare (λb z=>absurd z (by simp))
 have old:∀b ob,s.heap.get? b=some ob->∃o',s1.heap.get? b=some o':=λb ob z=>I.base.there b ob z (λy=>absurd (show b∈([]:List Addr)from y) (by simp))
 have nw:∀b,s1.heap.get? b=none->s.heap.get? b=none:=λb z=>by
  cases y:s.heap.get? b with
  | none=>rfl
  | some ob=>obtain⟨o',y'⟩:=old b ob y;rw[z]at y';cases y'
 refine zasb I2 h0k ⟨nw _ F.new,?_⟩ (q H2 (λ_ _ _ z=>z) (λ_ _ z _=>z))
 obtain⟨tv,a,b⟩:=F.st
 exact⟨tv,a,b.imp id λ⟨T,x1,x2,x3,x4⟩=>⟨T,x1,x2,nw _ x3,x4⟩⟩
theorem zrf{CX:CXT}{P:Program}{w:World}{K:qB}{mg:Str->Option Value}{base:Heap}{x qual:Str}{st:Stmt}{f:Addr}{fd:qAb}{N ps:List Str}{k:Nat}{sp:Sp}(Fu:Fun K x qual st f fd)(S:FnScope N ps (zah st))(len:∀vs H Q E,sp vs H Q E->vs.length=ps.length)
  (hbody:∀(cdv:Value)(A:Around)(outer:List Env)(s:Shared)(H:Hp)(vs:List V)(Q:VK)(E:XK),Room k (A.deeper (envOfC qual (zah st) s.heap.objs.size f cdv))->HOk P w H s.heap->sp vs H Q E->
   ∃t,PSs (cxOf CX P w K mg base N qual (zah st) f cdv A outer s H E) (zdo st) t/\t {nx:=λ_ H'=>Q .non H',rt:=Q} (zfz N vs) H):FnOk P w K mg base CX (k+1) f fd ps sp:=by
 refine⟨len,λA outer s H args us vs Q E hr e0 hb r hsp=>?_⟩
 obtain⟨oc,od,kV,doc,pm,an,cdv,ct,osl,rfl,lk,hcd⟩:=Fu.ex
 have KX:K.In s.heap:=e0.mod.kin.keeps λb o e=>(e0.bs b o e).1
 refine qBt hr.depth (KX _ _ lk) rfl S.co S.gen rfl (qBu KX hcd) (hb _ _ _ _ (qBW S.kind (λ⟨n,v⟩ hy=>?_) λenv he s1 x=>?_))
 ·rcases S.par n (qA4 hy).1 with q|q
  ·exact .inl q
  ·exact .inr ⟨q,qBI _ _ _ (.inl q)⟩
 ·subst he
  obtain⟨t,ht,hq⟩:=hbody cdv A outer s H vs Q E (hr.deeper _) e0.hok hsp
  have I:=zok (CX:=CX) (E:=E) S hr.hd e0 (len _ _ _ _ hsp) r x
  refine⟨(e0.mod.nolimit.keeps λb o e=>(e0.bs b o e).1).keeps x.toInCall.keep,qCx (qBB (ht [] s1 (zfz N vs) H _ I hq) (λfl s' hs=>?_) λe s' hs=>hs)⟩
  cases fl with
  | ret u=>obtain⟨v,σ',H',J,rv,q⟩:=hs;exact⟨v,H',J.os,J.bare,J.base,J.hok,rv,q⟩
  | next=>obtain⟨σ',H',J,q⟩:=hs;exact⟨.non,H',J.os,J.bare,J.base,J.hok,rfl,q⟩
  | brk=>obtain⟨_,_,_,q⟩:=hs;exact q.elim
  | cont=>obtain⟨_,_,_,q⟩:=hs;exact q.elim
def xcR(K:qB)(C:Addr):Bool:=match K.lookup C with
 | some ⟨_,_,.cls cd,_⟩=>(match cd.mro with|_::bm=>zep bm|_=>false)
 | _=>false
theorem zkl{K:qB}{h:Heap}(X:K.In h)(q:xcIn K C=true)(q2:xcR K C=true):∃nm qn N bs bm sn sub ab col dd k0 k1 k2 k3 k5,
  h.get? C=some (excClassObj nm qn C N bs bm true sn sub ab col dd k0 k1 k2 k3 k5 "ValueError.__new__")/\zep bm=true/\(Value.ref C::bm).contains (.type "AttributeError")=false/\(Value.ref C::bm).contains (.type "NameError")=false:=by
 obtain⟨nm,qn,N,bs,bm,sn,sub,ab,col,dd,k0,k1,k2,k3,k5,hC,_,_,ha,hn⟩:=zayt X q
 refine⟨nm,qn,N,bs,bm,sn,sub,ab,col,dd,k0,k1,k2,k3,k5,hC,?_,ha,hn⟩
 unfold xcR at q2
 split at q2
 ·rename_i a b cd sl ho
  have:=X _ _ ho
  rw[hC]at this
  have e:=qX this
  unfold excClassObj at e
  injection e with _ _ e _
  injection e with e
  subst e
  exact q2
 ·cases q2
structure XMk(K:qB)(C f:Addr):Prop where
 cls:xcIn K C=true
 tail:xcR K C=true
 init:findIn K (.ref C) "__init__"=some (some (.ref f))
 fn:isFn K (.ref f)=true
 kp:qAx K (.ref C)=true
 sa:findIn K (.ref C) "__setattr__"=some (some (.builtin "object.__setattr__"))
 at_:findIn K (.ref C) "at"=some none
 ga:findIn K (.ref C) "__getattribute__"=some (some (.builtin "BaseException.__getattribute__"))
 gh:findIn K (.ref C) "__getattr__"=some none
def atV:V->Prop
 | .non=>True
 | .str x=>(PySem.reprText x).length<=1000
 | .int n=>0<=n/\n<100
 | _=>False
def xe0(e C:Addr)(h:Heap):Prop:=∃vs sl,h.get? e=some {cls:=.ref C,dict:=none,data:=.fields vs,slots:=sl}/\vs[1]?=some .none
theorem zaki(q:xe0 e C h):zek P w H h e (.ext (xe0 e C)):=
 ⟨q,(let⟨_,_,a,_⟩:=q;⟨_,a⟩),λh1 h2 ⟨vs,sl,a,b⟩ k=>⟨vs,sl,k _ a,b⟩⟩
def spI(C:Addr):Sp:=λvs H Q _=>∃e v,vs=[.ref e,v]/\H e=some (.ext (xe0 e C))/\atV v/\∀dx,H dx=none->dx≠e->Q .non (upd (upd H dx (.xd [("at",v)])) e (.ext (xeD e C dx .none)))
section
variable{X:Cx}{pins:List (Addr×Obj)}{σ:St}{H:Hp}{s:Shared}{C f:Addr}{k:Nat}{fd:qAb}
theorem Inv.new{h':Heap}(I:Inv X pins σ H s)(k:∀b u,s.heap.get? b=some u->h'.get? b=some u)(hn:s.heap.get? a=none)(new:zek X.prog X.w (upd H a o) h' a o):Inv X pins σ (upd H a o) {s with heap:=h',toks:=t'}:=by
 have hH:=HOk.no I.hok hn
 have ne:∀b u,s.heap.get? b=some u->b≠a:=λb u q z=>by rw[z,hn]at q;cases q
 have neH:∀b u,H b=some u->b≠a:=λb u q z=>by rw[z,hH]at q;cases q
 refine I.un (h':=h') ⟨λb o q _ _ _=>k b o q,λb o q _ _ _=>⟨o.slots,k b o q⟩,λb o q n _=>by rw[zap (ne b o q)];exact n,λb o q _=>⟨o,k b o q⟩,λb xs q=>by rw[zap (neH b _ q)];exact q,λb o u q=>by rw[zap (neH b _ q)];exact q,λb ps q=>⟨#[],by rw[zap (neH b _ q),q];simp⟩⟩ λb u q=>?_
 by_cases hb:b=a
 ·subst hb;rw[zal]at q;cases q;exact new
 ·rw[zap hb]at q
  exact(I.hok b u q).stay (λc v _ q=>k c v q) (λc q=>by rw[zap (neH c _ q)];exact q) λc xs q=>by rw[zap (neH c _ q)];exact q
theorem zakj(M:XMk X.K C f)(F:FnOk X.prog X.w X.K X.mg X.base CX0 k f fd ["self","at"] (spI C))(hr:Room (k+1) X.A)(hb:ziy X.K fd ["self","at"] [])(hex:X.ex=[])(I:Inv X pins σ H s)(rv:RelV v u)(av:atV v)
  {Q:Value->Shared->Prop}(q:∀e dx H' s',Inv X pins σ H' s'->Flt X.s₀.heap H' e C dx->H' e=some (.ext (xeD e C dx .none))->H' dx=some (.xd [("at",v)])->Same H H'->Q (.ref e) s') :
  wpAny (model X.prog X.w) X.A (call (.ref C) [u]) Q X.xe s:=by
 obtain⟨nm,qn,N,bs,bm,sn,sub,ab,col,dd,k0,k1,k2,k3,k5,hC,hbm,ha,hn⟩:=zkl I.kIn M.cls M.tail
 obtain⟨hh,g,d,tk,os⟩:=s
 obtain⟨oI,hfI,hfc⟩:∃oI,hh.get? f=some oI/\oI.cls=.type "function":=by
  have z:(X.K.lookup f).map (·.cls)=some (.type "function"):=beq_iff_eq.mp M.fn
  cases y:X.K.lookup f with
  | none=>rw[y]at z;cases z
  | some o=>rw[y]at z;exact⟨o,I.kIn _ _ y,qX z⟩
 refine zbbw (C:=C) hC (by rw[qAS,zdu (by decide) hbm,qA2]) ha hn (qAc I.kIn M.init) hfI hfc (by show 1<=qU;rw[qBT];omega) λh' e hm=>?_
 obtain⟨t,he,htn,ht⟩:=hm.there
 have I2:=Inv.new (h':=h') (a:=e) (o:=.ext (xe0 e C)) (t':=tk) I hm.keeps hm.new (zaki ⟨_,_,he,rfl⟩)
 have hHe:H e=none:=HOk.no I.hok hm.new
 have sp:spI C [.ref e,v] (upd H e (.ext (xe0 e C))) (λr H2=>r=.non/\∃dx,H dx=none/\dx≠e/\H2=upd (upd (upd H e (.ext (xe0 e C))) dx (.xd [("at",v)])) e (.ext (xeD e C dx .none))) E0:=
  ⟨e,v,rfl,zal,av,λdx hd ne=>⟨rfl,dx,by rw[zap ne]at hd;exact hd,ne,rfl⟩⟩
 refine qCV (qBl (F.run _ X.stack _ _ ⟨[.ref e,u],[]⟩ [.ref e,u] _ _ E0 (hr.make C [u] []) (I2.env0.make C [u] []) (by have:=hb ⟨h',g,d,tk,os⟩ [.ref e,u] I2.kIn rfl;rw[qw]at this;exact this) (show Vals [V.ref e,v] [Value.ref e,u]from .cons rfl (.cons rv .nil)) sp) λr s' hq=>?_)
 cases r with
 | error x=>exact hq.elim
 | ok fl=>
  cases fl with
  | ret w=>
   obtain⟨v',H2,I3,rv',rfl,dx,hd,ne,rfl⟩:=I2.after hq
   refine⟨rv',q e dx _ s' I3 ⟨?_,.none,zal,.inl rfl⟩ zal (by rw[zap ne,zal]) λb o z=>?_⟩
   ·cases y:X.s₀.heap.get? e with
    | none=>rfl
    | some ob=>
     obtain⟨o',z⟩:=I.base.there e ob y (by rw[hex];simp)
     have:=hm.new
     rw[show hh.get? e=some o' from z]at this
     cases this
   ·have n1:b≠e:=λy=>by rw[y,hHe]at z;cases z
    have n2:b≠dx:=λy=>by rw[y,hd]at z;cases z
    rw[zap n1,zap n2,zap n1]
    exact z
  | next=>exact False.elim hq
  | brk=>exact False.elim hq
  | cont=>exact False.elim hq
def Lvs(X:Cx)(E:XK):Prop:=∀(pins:List (Addr×Obj))(σ:St)(H1:Hp)(s1:Shared)(e C dx:Addr),Inv X pins σ H1 s1->Flt X.s₀.heap H1 e C dx->E (.ref C) (some dx) H1->X.xe (.ref e) s1
def zakk(C:Addr)(E:XK)(te:TE):TS:=λ_ σ H=>te σ H λv H1=>atV v/\∀H' dx,Same H1 H'->H' dx=some (.xd [("at",v)])->E (.ref C) (some dx) H'
theorem zapd(M:XMk X.K C f)(F:FnOk X.prog X.w X.K X.mg X.base CX0 k f fd ["self","at"] (spI C))(hr:Room (k+1) X.A)(hb:ziy X.K fd ["self","at"] [])(hex:X.ex=[])(hc:X.calm=true)(hx:Lvs X E)
  (hg:Gl X x)(hm:X.mg x=some (.ref C))(ha:PE X a te)(hdb:(x==("__debug__":Str))=false:=by decide)(he:starEach [a] X.env=[(false,eval a X.env)]:=by rfl) :
  PS X (.Raise (some (.Call (.Name x np) [a] [] cpos)) none pos) (zakk C E te):=by
 intro pins s σ H D I h
 rw[arm_exec_Raise]
 refine qD (qBV ?_)
 unfold raiseStmt
 simp only[evalOpt,Option.map]
 refine qD ?_
 have hcall:wpAny (model X.prog X.w) X.A (eval (.Call (.Name x np) [a] [] cpos) X.env) (λr s'=>∃e dx H' v H1,r=.ref e/\Inv X pins σ H' s'/\Flt X.s₀.heap H' e C dx/\H' e=some (.ext (xeD e C dx .none))/\H' dx=some (.xd [("at",v)])/\Same H1 H'/\∀H' dx,Same H1 H'->H' dx=some (.xd [("at",v)])->E (.ref C) (some dx) H') X.xe s:=by
  refine qBS (zte I hg hm ?_ hdb)
  refine qCL (h₀:=X.base) I.ok.mod.kin M.kp (thn (zkh ha zre he cpos pins s σ H (λvs H1=>match vs with|[v]=>atV v/\∀H' dx,Same H1 H'->H' dx=some (.xd [("at",v)])->E (.ref C) (some dx) H'|_=>False) I h) λus s1 ⟨vs,H1,I1,r,q⟩=>⟨I1.kIn,?_⟩) he rfl
  match vs,q,r with
  | [v],q,r=>
   obtain⟨u,rfl,rv⟩:=zadn r
   exact zakj M F hr hb hex I1 rv q.1 λe dx H' s' I' fl he0 hd sm=>⟨e,dx,H',v,H1,rfl,I',fl,he0,hd,sm,q.2⟩
  | [],q,_=>exact q.elim
  | _::_::_,q,_=>exact q.elim
 refine qD (thn hcall λr s' hh=>?_)
 obtain⟨e,dx,H',v,H1,rfl,I',fl,he',hd,sm,q⟩:=hh
 refine qD (qBV (qI ?_))
 obtain⟨nm,qn,N,bs,bm,sn,sub,ab,col,dd,k0,k1,k2,k3,k5,hC,hbm,_,_⟩:=zkl I'.kIn M.cls M.tail
 have hcB:(Value.ref C::bm).contains (.type "BaseException")=true:=by rw[qAS,zdu (by decide) hbm,qA2]
 obtain⟨⟨vs,sl,oe,h1⟩,_,_⟩:=I'.hok e _ he'
 have hxe:=hx pins σ H' s' e C dx I' fl (q H' dx sm hd)
 have hh:=I'.ok.hd hc
 obtain⟨hp,g,d,tk,os⟩:=s'
 repeat (first|with_reducible refine qf oe ?_|with_reducible refine qf hC ?_|(with_reducible refine qAn hC ?_;rw[hcB])|wp_step)
 rw[h1]
 dsimp only
 refine qI ?_
 rw[if_neg (by decide)]
 exact qI (wpAny_raiseNew_none hh hxe)
end
section
variable{X:Cx}{pins:List (Addr×Obj)}{σ:St}{H:Hp}{s:Shared}{C f:Addr}{k:Nat}{fd:qAb}
def tMsg(te:TE):TE:=λσ H Q=>te σ H λv H1=>atV v/\∀m,Q (.str m) H1
theorem zakl:∀m<100,Nat.log2 m<1920:=by decide +kernel
theorem zxg:∀m<100,(Str.ofString (toString ((m:Nat):Int))).length<=10:=by decide +kernel
theorem zaun {E:Value->Shared->Prop} {Q:Value->Shared->Prop} (r:RelV v u) (av:atV v) (q:∀(m:Str) t,m.length<=1000->Q (.str m s.toks) {s with toks:=t}) :
  wpAny (model X.prog X.w) A (pyReprObj u) Q E s:=by
 cases v with
 | non=>
  cases r
  exact qCT (T:="NoneType") rfl F.slot_NoneType_repr F.entry_NoneType_repr (by unfold argsOk;kernel_rfl) gives_none_repr (q "None" _ (by decide)) (hx:=by decide)
 | str x=>
  obtain⟨t,rfl⟩:=r
  exact qCT (T:="str") rfl PyProof.Rows.slot_str_repr PyProof.Rows.entry_str_repr (PyProof.Rows.args_str_repr _) (gives_str_repr x t) (q _ _ av) (hx:=qAI av (by rw[qBT];omega))
 | int n=>
  obtain⟨t,rfl⟩:=r
  obtain⟨n0,n1⟩:=av
  obtain⟨m,rfl⟩:∃m:Nat,n=(m:Int):=⟨n.toNat,by omega⟩
  have hm:m<100:=by omega
  have hb:(m:Int).natAbs.log2<1920:=by
   rw[Int.natAbs_natCast]
   exact zakl m hm
  exact qCT (T:="int") rfl F.slot_int_repr F.entry_int_repr (F.args_int_repr_1 _) (gives_int_repr (m:Int) t hb) (q _ _ (qAI (zxg m hm) (by decide))) (hx:=qAI (zxg m hm) (by rw[qBT];omega))
 | _=>exact av.elim
theorem zayv{c:Str}{j p a p2 pos te}(ha:PE X a te)(hc:c.length<=1000):PE X (.JoinedStr [.Constant (.str c) j p,.FormattedValue a 114 none p2] pos) (tMsg te):=by
 intro pins s σ H Q I h
 have la:∀x y:Str,(x++y).length=x.length+y.length:=λx y=>by show(x.cps++y.cps).size=x.cps.size+y.cps.size;exact Array.size_append
 have l0:(Str.empty).length=0:=rfl
 have big:(3000:Nat)<=qU:=by rw[qBT];omega
 refine wpAny_JoinedStr ?_
 show wpAny _ _ (eval (.Constant (.str c) j p) X.env) (λv s₁=>∃y t,v=.str y t/\(Str.empty++y).length<=qU/\wpAny _ _ (eval (.FormattedValue a 114 none p2) X.env) (λv s₂=>∃z t,v=.str z t/\((Str.empty++y)++z).length<=qU/\(((Str.empty++y)++z).length<=qU/\_)) _ s₁) _ s
 refine qDd ⟨c,_,rfl,by rw[la,l0];omega,?_⟩
 refine wpAny_FormattedValue_repr (thn (ha pins _ σ H _ (I.tok _) h) λu s1 ⟨v,H1,I1,r,av,q⟩=>zaun (X:=X) r av λm t hm=>?_)
 have lz:((Str.empty++c)++m).length<=qU:=by rw[la,la,l0];omega
 have fin:∀tk,EP X pins σ Q (.str ((Str.empty++c)++m) tk) {s1 with toks:=tk+1}:=λtk=>⟨.str _,H1,I1.tok _,⟨_,rfl⟩,q _⟩
 exact wpAny_formatField_str ⟨m,_,rfl,lz,lz,fin _⟩ ⟨m,_,rfl,lz,lz,fin _⟩ (by omega)
def zasc(C:Addr)(t:TA):TE:=λσ H Q=>t σ H λvs H1=>∃e m,vs=[.ref e,m]/\H1 e=some (.ext (xe0 e C))/\Q .non H1
theorem zads{K:qB}:PySem.W.findCls K (.type "ValueError") (.type "type") "__init__"=some (.val (.builtin "ValueError.__init__")):=by
 first|rfl|decide +kernel|kernel_rfl
theorem zkm:bootBuiltins "ValueError"=some (.type "ValueError"):=by decide +kernel
theorem zape{p p2 pos:Pos}(M:XMk X.K C f)(hg:Gl X "ValueError")(hm:X.mg "ValueError"=none)(ha:PA X (e::es) t)
  (hst:starEach (e::es) X.env=(false,eval e X.env)::starEach es X.env:=by rfl)(hpl:(backTo pos (starEach es X.env)).any (·.1)=false:=by rfl)
  (ht:eval (.Call (.Attribute (.Name "ValueError" p) "__init__" p2) (e::es) [] pos) X.env=(do
   let ov <- eval (.Name "ValueError" p) X.env
   standAt p2.atName
   let(f,first) <- holding [ov] (getMethod ov "__init__" pl)
   callWith pos f first (backTo pos (starEach (e::es) X.env)) (backToKw pos (keywordEach [] X.env))):=by rfl) :
  PE X (.Call (.Attribute (.Name "ValueError" p) "__init__" p2) (e::es) [] pos) (zasc C t):=by
 intro pins s σ H Q I h
 refine PySem.W.methodCall_KW (pl:=pl) (ztf I hg hm zkm ?_ (by decide) (by decide)) ht
 obtain⟨m,fr⟩:=I.fr
 refine PySem.W.method_type fr I.ok.mod.kin (by kernel_rfl) (by decide +kernel) zads (by decide +kernel) ?_
 have hA:=ha pos pins _ σ H _ (I.tok (s.toks+1)) h
 rw[hst]at hA ⊢
 refine qDD (by show(false||(backTo pos (starEach es X.env)).any (·.1))=false;rw[hpl]<;>rfl) (qDM ?_)
 refine thn hA λus s2 ⟨vs,H2,I2,r2,e',mv,ev,he,q⟩=>?_
 subst ev
 obtain⟨u1,u2,rfl,r1,r3⟩:=zaaj r2
 cases r1
 obtain⟨nm,qn,N,bs,bm,sn,sub,ab,col,dd,k0,k1,k2,k3,k5,hC,hbm,_,_⟩:=zkl I2.kIn M.cls M.tail
 obtain⟨⟨vs,sl,oe,h1⟩,_,_⟩:=I2.hok e' _ he
 obtain⟨hh,g,d,tk,os⟩:=s2
 refine zbby hbm (by show 1<=qU;rw[qBT];omega) hC oe rfl rfl (Nat.lt_of_succ_lt (qAq.mp h1).1) λh' p' a1 a2=>?_
 refine⟨.non,H2,?_,rfl,q⟩
 have hup:upd H2 e' (.ext (xe0 e' C))=H2:=by
  funext b
  by_cases hb:b=e'
  ·subst hb;rw[zal,he]
  ·rw[zap hb]
 have:=I2.write (x:=e') (e:=e') (o:=.ext (xe0 e' C)) (h':=h') (t':=tk) (by rw[he];exact True.intro) (.inl rfl) (λb u hb z=>a2 b u hb z) ⟨_,a1⟩ (zaki ⟨_,_,a1,by rw[Array.getElem?_setIfInBounds_ne (by decide)];exact h1⟩)
 rw[hup]at this
 exact this
end
section
variable{X:Cx}{pins:List (Addr×Obj)}{σ:St}{H:Hp}{s:Shared}{C f:Addr}{k:Nat}{fd:qAb}
def tSat(C:Addr)(ta tv:TE):TS:=λD σ H=>tv σ H λv H1=>ta σ H1 λx H2=>∃e,x=.ref e/\H2 e=some (.ext (xe0 e C))/\∀dx,H2 dx=none->dx≠e->D.nx σ (upd (upd H2 dx (.xd [("at",v)])) e (.ext (xeD e C dx .none)))
theorem zayw{pos' pos:Pos}(M:XMk X.K C f)(ha:PE X o ta)(hv:PE X value tv)(hs:swapsWith value (some (.Attribute o "at" pos')) pos.line X.env=pure false:=by rfl):PS X (.Assign [.Attribute o "at" pos'] value pos) (tSat C ta tv):=by
 intro pins s σ H D I h
 refine plainObj_wpAny_Assign_Attribute (thn (hv pins s σ H _ I h) λu s1 ⟨y,H1,I1,ry,q⟩=>thn (ha pins s1 σ H1 _ I1 q) λov s2 ⟨x,H2,I2,rx,e,ex,he,q2⟩=>?_) hs
 subst ex
 obtain rfl:ov=Value.ref e:=rx
 obtain⟨nm,qn,N,bs,bm,sn,sub,ab,col,dd,k0,k1,k2,k3,k5,hC,hbm,_,_⟩:=zkl I2.kIn M.cls M.tail
 obtain⟨⟨vs,sl,oe,h1⟩,_,_⟩:=I2.hok e _ he
 obtain⟨hh,g,d,tk,os⟩:=s2
 refine zayu hbm hC oe rfl (λc z=>by cases z) rfl (qAc I2.kIn M.sa) (qAc I2.kIn M.at_) λh' tk' dx a1 a2 a3 a4=>?_
 have hdx:H2 dx=none:=I2.hok.fresh a1
 have ne:dx≠e:=λz=>by rw[z,he]at hdx;cases hdx
 refine⟨σ,upd (upd H2 dx (.xd [("at",y)])) e (.ext (xeD e C dx .none)),?_,q2 dx hdx ne⟩
 have n2:∀b,b≠e->b≠dx->upd (upd H2 dx (.xd [("at",y)])) e (.ext (xeD e C dx .none)) b=H2 b:=λb p q=>by rw[zap p,zap q]
 have nb:∀b o,H2 b=some o->(∀φ,o≠.ext φ)->b≠e/\b≠dx:=λb o z n=>⟨λy=>(by rw[y,he]at z;cases z;exact n _ rfl),λy=>(by rw[y,hdx]at z;cases z)⟩
 have st:∀b o,H2 b=some o->(∀φ,o≠.ext φ)->upd (upd H2 dx (.xd [("at",y)])) e (.ext (xeD e C dx .none)) b=some o:=λb o z n=>by rw[n2 b (nb b o z n).1 (nb b o z n).2];exact z
 have lt:∀b u,hh.get? b=some u->b≠dx:=λb u z y=>by rw[y]at z;exact absurd (qJ z) (qDB.mpr a1)
 refine Inv.un (s:=⟨hh,g,d,tk,os⟩) I2 (h':=h') ⟨λb o z n _ _=>a4 b o (λy=>by rw[y,he]at n;cases n) z,λb o z n _ _=>⟨o.slots,a4 b o (λy=>by rw[y,he]at n;cases n) z⟩,λb o z n _=>?_,λb o z _=>?_,λb xs z=>st b _ z (λφ y=>by cases y),λb o u z=>st b _ z (λφ y=>by cases y),λb ps z=>⟨#[],by rw[st b _ z (λφ y=>by cases y)];simp⟩⟩ λb o z=>?_
 ·rw[n2 b (λy=>by rw[y,he]at n;cases n) (lt b o z)];exact n
 ·by_cases hb:b=e
  ·exact⟨_,by rw[hb];exact a3⟩
  ·exact⟨o,a4 b o hb z⟩
 ·by_cases hb:b=e
  ·subst hb
   rw[zal]at z
   cases z
   exact zasa ⟨vs,sl,a3,h1⟩
  ·by_cases hd:b=dx
   ·subst hd
    rw[zap hb,zal]at z
    cases z
    refine⟨_,a2,λn=>?_⟩
    by_cases hn:n="at"
    ·subst hn
     exact ry
    ·have:List.lookup n [((("at":Str)),y)]=none:=by
      rw[qAM]
      have:(n==("at":Str))=false:=by rw[beq_eq_false_iff_ne];exact hn
      rw[this]
      rfl
     rw[this]
     show RelO none (if n=("at":Str)then _ else _)
     rw[if_neg hn]
     trivial
   ·rw[n2 b hb hd]at z
    refine(I2.hok b o z).stay (λc u hc y=>a4 c u ?_ y) (λc y=>st c _ y (λφ x=>by cases x)) (λc xs y=>st c _ y (λφ x=>by cases x)) (λc o' y=>st c _ y (λφ x=>by cases x))
    rcases hc with rfl|hc
    ·exact hb
    ·exact λx=>by rw[x,he]at hc;cases hc
def tXat(C:Addr)(te:TE):TE:=λσ H Q=>te σ H λx H1=>∃e dx tv v,x=.ref e/\H1 e=some (.ext (xeD e C dx tv))/\H1 dx=some (.xd [("at",v)])/\Q v H1
theorem zayx(M:XMk X.K C f)(ho:PE X o te)(hb:attributeBase o "at" X.env (eval o X.env)=eval o X.env:=by rfl):PE X (.Attribute o "at" pos) (tXat C te):=by
 intro pins s σ H Q I h
 refine zatx hb (thn (ho pins s σ H _ I h) λu s1 ⟨x,H1,I1,rx,e,dx,tv,v,ex,he,hd,q⟩=>?_)
 subst ex
 obtain rfl:u=Value.ref e:=rx
 obtain⟨nm,qn,N,bs,bm,sn,sub,ab,col,dd,k0,k1,k2,k3,k5,hC,hbm,_,_⟩:=zkl I1.kIn M.cls M.tail
 obtain⟨⟨vs,sl,oe,h1⟩,_,_⟩:=I1.hok e _ he
 obtain⟨mA,ns,rl⟩:=I1.hok dx _ hd
 have hv:∃w,mA "at"=some w/\RelV v w:=by
  have:=rl "at"
  rw[show List.lookup ("at":Str) [(("at":Str),v)]=some v from rfl]at this
  cases y:mA "at"with
  | none=>rw[y]at this;exact this.elim
  | some w=>rw[y]at this;exact⟨w,rfl,this⟩
 obtain⟨w,hw,rw'⟩:=hv
 obtain⟨hh,g,d,tk,os⟩:=s1
 refine zbbx hbm hC oe rfl rfl rfl ns.ns hw (qAc I1.kIn M.ga) (qAc I1.kIn M.gh) (qAc I1.kIn M.at_) (zajf rw') λtk'=>⟨v,H1,I1.tok _,rw',q⟩
end
def zapf(c:Str)(p1 p2 p3 p4 p5 p6 p7 p8 p9 p10 p11 p12 p13:Pos):List Stmt:=
 [.Expr (.Call (.Attribute (.Name "ValueError" p1) "__init__" p2) [.Name "self" p3,.JoinedStr [.Constant (.str c) 0 p4,.FormattedValue (.Name "at" p5) 114 none p6] p7] [] p8) p9,
  .Assign [.Attribute (.Name "self" p10) "at" p11] (.Name "at" p12) p13]
def zapg(c:Str)(p1 p2 p3 p4 p5 p6 p7 p8:Pos):Prop:=∀env:Env,∃pl:Sem Bool,eval (.Call (.Attribute (.Name "ValueError" p1) "__init__" p2) [.Name "self" p3,.JoinedStr [.Constant (.str c) 0 p4,.FormattedValue (.Name "at" p5) 114 none p6] p7] [] p8) env=(do
   let ov <- eval (.Name "ValueError" p1) env
   standAt p2.atName
   let(f,first) <- holding [ov] (getMethod ov "__init__" pl)
   callWith p8 f first (backTo p8 (starEach [.Name "self" p3,.JoinedStr [.Constant (.str c) 0 p4,.FormattedValue (.Name "at" p5) 114 none p6] p7] env)) (backToKw p8 (keywordEach [] env)))
theorem zakm{P:Program}{w:World}{K:qB}{mg:Str->Option Value}{base:Heap}{C f:Addr}{qual:Str}{st:Stmt}{fd:qAb}{c:Str}{p1 p2 p3 p4 p5 p6 p7 p8 p9 p10 p11 p12 p13:Pos}(F:Fun K "__init__" qual st f fd)(M:XMk K C f)(hm:mg "ValueError"=none)
  (hb:zdo st=zapf c p1 p2 p3 p4 p5 p6 p7 p8 p9 p10 p11 p12 p13) (hsc:zah st={kind:=.function,names:=[("self",.local),("at",.local),("ValueError",.globalImplicit)],isGenerator:=false,isCoroutine:=false}) (hc:c.length<=1000) (ht:zapg c p1 p2 p3 p4 p5 p6 p7 p8) :
  FnOk P w K mg base CX0 1 f fd ["self","at"] (spI C):=by
 have nd:(["self","at"]:List Str).Nodup:=by decide +kernel
 have S:FnScope ["self","at"] ["self","at"] (zah st):=by rw[hsc];exact⟨rfl,rfl,rfl,nd,rfl,by decide +kernel,by decide +kernel⟩
 refine F.ok S (λvs H Q E h=>by obtain⟨e,v,rfl,_⟩:=h;rfl) λcdv A outer s H vs Q E hr h=>?_
 obtain⟨e,v,rfl,he,av,q⟩:=h
 have g0:visB (cxOf CX0 P w K mg base ["self","at"] qual (zah st) f cdv A outer s H E).nox.env.scope "self"=true:=by show visB (zah st) _=_;rw[hsc];decide +kernel
 have g1:visB (cxOf CX0 P w K mg base ["self","at"] qual (zah st) f cdv A outer s H E).nox.env.scope "at"=true:=by show visB (zah st) _=_;rw[hsc];decide +kernel
 have g2:Gl (cxOf CX0 P w K mg base ["self","at"] qual (zah st) f cdv A outer s H E).nox "ValueError":=by show(zah st).names.lookup _=_;rw[hsc];decide +kernel
 have e0:∀{p:Pos},PE (cxOf CX0 P w K mg base ["self","at"] qual (zah st) f cdv A outer s H E).nox (.Name "self" p) (tVar 0):=λ{p}=>pv 0 rfl g0
 have e1:∀{p:Pos},PE (cxOf CX0 P w K mg base ["self","at"] qual (zah st) f cdv A outer s H E).nox (.Name "at" p) (tVar 1):=λ{p}=>pv 1 rfl g1
 refine⟨tSeq (tDrop (zasc C (tCons (tVar 0) (tCons (tMsg (tVar 1)) tNil)))) (tSat C (tVar 0) (tVar 1)),?_,?_⟩
 ·rw[hb]
  obtain⟨pl,ht⟩:=ht (cxOf CX0 P w K mg base ["self","at"] qual (zah st) f cdv A outer s H E).nox.env
  exact zlz (zyo (zape (f:=f) (pl:=pl) M g2 hm (zkh e0 (zkh (zayv e1 hc) zre)) rfl rfl ht)) (znh (zayw M e0 e1))
 ·exact⟨_,rfl,v,rfl,av,λm=>⟨e,_,rfl,he,v,rfl,_,rfl,e,rfl,he,q⟩⟩
def keyD:PyData->Option Key
 | .int i=>some (Sum.inl i)
 | .str s=>some (Sum.inr s)
 | _=>none
mutual
def Rp(H:Hp):PyData->V->Prop
 | .none,v=>v=.non
 | .bool b,v=>v=.bl b
 | .int i,v=>v=.int i
 | .str x,v=>v=.str x
 | .list ds,v=>∃a xs,v=.ref a/\H a=some (.lst xs)/\Rps H ds xs
 | .tuple ds,v=>∃a xs,v=.ref a/\H a=some (.tup xs)/\Rps H ds xs
 | .dict kvs,v=>∃a ps,v=.ref a/\H a=some (.dK ps)/\Rpd H kvs ps
def Rps(H:Hp):List PyData->List V->Prop
 | [],xs=>xs=[]
 | d::ds,xs=>∃v vs,xs=v::vs/\Rp H d v/\Rps H ds vs
def Rpd(H:Hp):List (PyData×PyData)->List (Key×V)->Prop
 | [],ps=>ps=[]
 | (k,d)::r,ps=>∃k' v vs,ps=(k',v)::vs/\keyD k=some k'/\Rp H d v/\Rpd H r vs
end
mutual
theorem Rp.same(h:Same H H'):∀(d:PyData){v:V},Rp H d v->Rp H' d v
 | .none,v,q=>by unfold Rp at q ⊢;exact q
 | .bool b,v,q=>by unfold Rp at q ⊢;exact q
 | .int i,v,q=>by unfold Rp at q ⊢;exact q
 | .str x,v,q=>by unfold Rp at q ⊢;exact q
 | .list ds,v,q=>by
  unfold Rp at q ⊢
  obtain⟨a,xs,e,hq,hr⟩:=q
  exact⟨a,xs,e,h _ _ hq,Rps.same h ds hr⟩
 | .tuple ds,v,q=>by
  unfold Rp at q ⊢
  obtain⟨a,xs,e,hq,hr⟩:=q
  exact⟨a,xs,e,h _ _ hq,Rps.same h ds hr⟩
 | .dict kvs,v,q=>by
  unfold Rp at q ⊢
  obtain⟨a,xs,e,hq,hr⟩:=q
  exact⟨a,xs,e,h _ _ hq,Rpd.same h kvs hr⟩
theorem Rps.same(h:Same H H'):∀(ds:List PyData){vs:List V},Rps H ds vs->Rps H' ds vs
 | [],vs,q=>by unfold Rps at q ⊢;exact q
 | d::ds,vs,q=>by
  unfold Rps at q ⊢
  obtain⟨v,vs',e,h1,h2⟩:=q
  exact⟨v,vs',e,Rp.same h d h1,Rps.same h ds h2⟩
theorem Rpd.same(h:Same H H'):∀(ds:List (PyData×PyData)){vs:List (Key×V)},Rpd H ds vs->Rpd H' ds vs
 | [],vs,q=>by unfold Rpd at q ⊢;exact q
 | (k,d)::ds,vs,q=>by
  unfold Rpd at q ⊢
  obtain⟨k',v,vs',e,h0,h1,h2⟩:=q
  exact⟨k',v,vs',e,h0,Rp.same h d h1,Rpd.same h ds h2⟩
end
theorem zcj:∀{ds:List PyData}{xs:List V},Rps H ds xs↔Paired (Rp H) ds xs
 | [],xs=>by
  constructor
  ·intro h;unfold Rps at h;subst h;exact .nil
  ·intro h;cases h;unfold Rps;rfl
 | d::ds,xs=>by
  constructor
  ·intro h
   unfold Rps at h
   obtain⟨v,vs,rfl,h1,h2⟩:=h
   exact .cons h1 (zcj.mp h2)
  ·intro h
   cases h with
   | cons h1 h2=>unfold Rps;exact⟨_,_,rfl,h1,zcj.mpr h2⟩
theorem Rps.length{ds:List PyData}{xs:List V}(h:Rps H ds xs):ds.length=xs.length:=(zcj.mp h).length
theorem zfs(h:Rp H (.list ds) v):∃a xs,v=.ref a/\H a=some (.lst xs)/\Rps H ds xs:=by unfold Rp at h;exact h
theorem zdx(h:Rp H (.tuple ds) v):∃a xs,v=.ref a/\H a=some (.tup xs)/\Rps H ds xs:=by unfold Rp at h;exact h
theorem ztr(h:Rp H (.dict ds) v):∃a xs,v=.ref a/\H a=some (.dK xs)/\Rpd H ds xs:=by unfold Rp at h;exact h
theorem zeh(h:Rp H (.int i) v):v=.int i:=by unfold Rp at h;exact h
theorem zor(h:Rp H (.str i) v):v=.str i:=by unfold Rp at h;exact h
theorem znk(h:Rp H (.bool i) v):v=.bl i:=by unfold Rp at h;exact h
theorem zadt(h:Rp H .none v):v=.non:=by unfold Rp at h;exact h
theorem zby:Rp H (.int i) (.int i):=by unfold Rp;rfl
theorem zhg:Rp H (.str i) (.str i):=by unfold Rp;rfl
theorem zbv:Rp H (.bool i) (.bl i):=by unfold Rp;rfl
theorem zqe:Rp H .none .non:=by unfold Rp;rfl
theorem zik(h:H a=some (.lst xs))(r:Rps H ds xs):Rp H (.list ds) (.ref a):=by unfold Rp;exact⟨a,xs,rfl,h,r⟩
theorem zadu(h:H a=some (.tup xs))(r:Rps H ds xs):Rp H (.tuple ds) (.ref a):=by unfold Rp;exact⟨a,xs,rfl,h,r⟩
theorem zqf(h:H a=some (.dK xs))(r:Rpd H ds xs):Rp H (.dict ds) (.ref a):=by unfold Rp;exact⟨a,xs,rfl,h,r⟩
theorem zcz:Rps H [] []:=by unfold Rps;rfl
theorem zqg:Rpd H [] []:=by unfold Rpd;rfl
theorem zcx(h:Rp H d v)(r:Rps H ds vs):Rps H (d::ds) (v::vs):=by
 show Rps H (d::ds) _
 unfold Rps;exact⟨v,vs,rfl,h,r⟩
theorem Rps.append(h:Rps H ds vs)(r:Rps H es ws):Rps H (ds++es) (vs++ws):=by
 replace h:=zcj.mp h
 refine zcj.mpr ?_
 induction h with
 | nil=>exact zcj.mp r
 | cons h _ ih=>exact .cons h ih
theorem Rps.get2{H:Hp}{ds:List PyData}{vs:List V}(h:Rps H ds vs){i:Nat}{d:PyData}(e:ds[i]?=some d):∃v,vs[i]?=some v/\Rp H d v:=by
 replace h:=zcj.mp h
 induction h generalizing i with
 | nil=>simp at e
 | cons h _ ih=>
  cases i with
  | zero=>simp at e;subst e;exact⟨_,rfl,h⟩
  | succ i=>simpa using ih (by simpa using e)
open Classical in
def Offs(A:Addr->Prop)(H:Hp):Hp:=λb=>if A b then none else H b
theorem Offs.get{A:Addr->Prop}(h:¬A b):Offs A H b=H b:=if_neg h
theorem Offs.out{A:Addr->Prop}(h:A b):Offs A H b=none:=if_pos h
theorem Offs.of{A:Addr->Prop}(h:Offs A H b=some o):¬A b/\H b=some o:=by
 by_cases hb:A b
 ·rw[Offs.out hb]at h;cases h
 ·rw[Offs.get hb]at h;exact⟨hb,h⟩
theorem Offs.mono{A B:Addr->Prop}(s:Same H H')(h:∀b o,H b=some o->¬A b->¬B b):Same (Offs A H) (Offs B H'):=λb o e=>by
 obtain⟨h1,h2⟩:=Offs.of e
 rw[Offs.get (h b o h2 h1)]
 exact s b o h2
theorem Offs.same(A:Addr->Prop)(H:Hp):Same (Offs A H) H:=λb o e=>(Offs.of e).2
theorem Offs.sub{A B:Addr->Prop}(h:∀b,B b->A b):Same (Offs A H) (Offs B H):=Offs.mono (Same.refl _) λb _ _ n z=>n (h b z)
theorem Offs.grow{A:Addr->Prop}(s:Same H H'):Same (Offs A H) (Offs A H'):=Offs.mono s λ_ _ _ z=>z
theorem Offs.upd{A:Addr->Prop}(h:A a):Offs A (upd H a o)=Offs A H:=by
 funext b
 by_cases hb:A b
 ·rw[Offs.out hb,Offs.out hb]
 ·rw[Offs.get hb,Offs.get hb,zap (λe=>hb (by rw[e];exact h))]
inductive Sl where
 | no
  | pl (d:PyData)
  | ac (d:PyData)
abbrev DEnv:=List Sl
def own(env:DEnv)(σ:St)(a:Addr):Prop:=∃(i:Nat)(d:PyData),env[i]?=some (.ac d)/\σ[i]?=some (some (.ref a))
def zhz(Ho H:Hp)(a:Addr):PyData->Prop
 | .list ds=>∃xs,H a=some (.lst xs)/\Rps Ho ds xs
 | .dict kvs=>∃ps,H a=some (.dK ps)/\Rpd Ho kvs ps
 | _=>False
theorem zhz.rp(h:zhz Ho H a d)(s:Same Ho H')(e:∀o,H a=some o->H' a=some o):Rp H' d (.ref a):=by
 cases d with
 | list ds=>
  obtain⟨xs,h1,h2⟩:=h
  exact zik (e _ h1) (Rps.same s _ h2)
 | dict ds=>
  obtain⟨xs,h1,h2⟩:=h
  exact zqf (e _ h1) (Rpd.same s _ h2)
 | _=>exact h.elim
theorem zhz.same(h:zhz Ho H a d)(s:Same Ho Ho')(e:∀o,H a=some o->H' a=some o):zhz Ho' H' a d:=by
 cases d with
 | list ds=>
  obtain⟨xs,h1,h2⟩:=h
  exact⟨xs,e _ h1,Rps.same s _ h2⟩
 | dict ds=>
  obtain⟨xs,h1,h2⟩:=h
  exact⟨xs,e _ h1,Rpd.same s _ h2⟩
 | _=>exact h.elim
theorem zhz.ex(h:zhz Ho H a d):∃o,H a=some o:=by
 cases d with
 | list ds=>obtain⟨xs,h1,h2⟩:=h;exact⟨_,h1⟩
 | dict ds=>obtain⟨xs,h1,h2⟩:=h;exact⟨_,h1⟩
 | _=>exact h.elim
structure EnvOk(fx:Addr->Prop)(H0:Hp)(env:DEnv)(σ:St)(H:Hp):Prop where
 len:env.length=σ.length
 pl:∀(i:Nat)(d:PyData),env[i]?=some (.pl d)->∃v,σ[i]?=some (some v)/\Rp (Offs (λa=>fx a\/own env σ a) H) d v
 ac:∀(i:Nat)(d:PyData),env[i]?=some (.ac d)->∃a,σ[i]?=some (some (.ref a))/\H0 a=none/\¬fx a/\zhz (Offs (λa=>fx a\/own env σ a) H) H a d
 inj:∀(i j:Nat)(d e:PyData)(a:Addr),env[i]?=some (.ac d)->env[j]?=some (.ac e)->σ[i]?=some (some (.ref a))->σ[j]?=some (some (.ref a))->i=j
 base:Same H0 H
 fxs:∀b,fx b->∃o,H b=some o
theorem EnvOk.grow{fx fx':Addr->Prop}(h:EnvOk fx H0 env σ H)(s:Same H H')(f:∀b o,H b=some o->¬fx b->¬fx' b)(g:∀b,fx' b->∃o,H' b=some o):EnvOk fx' H0 env σ H':=by
 have so:Same (Offs (λa=>fx a\/own env σ a) H) (Offs (λa=>fx' a\/own env σ a) H'):=Offs.mono s λb o e n=>λz=>z.elim (f b o e λy=>n (.inl y)) λy=>n (.inr y)
 refine⟨h.len,λi d e=>?_,λi d e=>?_,h.inj,h.base.trans s,g⟩
 ·obtain⟨v,h1,h2⟩:=h.pl i d e
  exact⟨v,h1,Rp.same so d h2⟩
 ·obtain⟨a,h1,h2,h3,h4⟩:=h.ac i d e
  obtain⟨o,ho⟩:=h4.ex
  exact⟨a,h1,h2,f a o ho h3,h4.same so λo=>s a o⟩
theorem EnvOk.up{fx:Addr->Prop}(h:EnvOk fx H0 env σ H)(s:Same H H'):EnvOk fx H0 env σ H':=
 h.grow s (λ_ _ _ z=>z) λb z=>let⟨o,e⟩:=h.fxs b z;⟨o,s b o e⟩
structure Val where
 d:PyData
 fr:Bool
 bs:List Nat
def lim(fx:Addr->Prop)(env:DEnv)(σ:St)(bs:List Nat)(a:Addr):Prop:=fx a\/∃(i:Nat)(d:PyData),i∉bs/\env[i]?=some (.ac d)/\σ[i]?=some (some (.ref a))
structure ValOk(A:Addr->Prop)(H H':Hp)(r:Val)(v:V):Prop where
 rp:Rp (Offs A H') r.d v
 fr:r.fr=true->∃a,v=.ref a/\H a=none/\zhz (Offs (λb=>A b\/b=a) H') H' a r.d
theorem zts{fx:Addr->Prop}(h:∀i∈bs,i∈cs):∀a,lim fx env σ cs a->lim fx env σ bs a:=by
 rintro a (z|⟨i,d,h1,h2,h3⟩)
 ·exact .inl z
 ·exact .inr ⟨i,d,λq=>h1 (h i q),h2,h3⟩
theorem ztt{fx:Addr->Prop}:∀a,lim fx env σ bs a->fx a\/own env σ a:=by
 rintro a (z|⟨i,d,h1,h2,h3⟩)
 ·exact .inl z
 ·exact .inr ⟨i,d,h2,h3⟩
theorem zauo{fx:Addr->Prop}:∀a,fx a\/own env σ a->lim fx env σ [] a:=by
 rintro a (z|⟨i,d,h2,h3⟩)
 ·exact .inl z
 ·exact .inr ⟨i,d,by simp,h2,h3⟩
theorem EnvOk.lims{fx:Addr->Prop}(h:EnvOk fx H0 env σ H)(bs:List Nat):∀b,lim fx env σ bs b->∃o,H b=some o:=by
 rintro b (z|⟨i,d,h1,h2,h3⟩)
 ·exact h.fxs b z
 ·obtain⟨a,g1,g2,g3,g4⟩:=h.ac i d h2
  rw[h3]at g1
  cases g1
  exact g4.ex
theorem ValOk.later{A B:Addr->Prop}(h:ValOk A H H' r v)(s0:Same H0 H)(s:Same H' H'')(hB:∀b,B b->A b):ValOk B H0 H'' r v:=by
 refine⟨Rp.same (Offs.mono s λb _ _ n z=>n (hB b z)) _ h.rp,λe=>?_⟩
 obtain⟨a,h1,h2,h3⟩:=h.fr e
 exact⟨a,h1,s0.free h2,h3.same (Offs.mono s λb _ _ n z=>n (z.elim (λy=>.inl (hB b y)) .inr)) λo=>s a o⟩
def zfo:PyData->Bool
 | .list _=>false
 | .tuple _=>false
 | .dict _=>false
 | _=>true
theorem ztu(f:zfo d=true)(h:Rp H d v):Rp H' d v:=by
 cases d<;>first
  | (unfold Rp at h ⊢;exact h)
  | cases f
def bsOf(d:PyData)(bs:List Nat):List Nat:=if zfo d=true then[]else bs
theorem ztv{fx:Addr->Prop}(h:Rp (Offs (lim fx env σ bs) H) d v):Rp (Offs (lim fx env σ (bsOf d bs)) H) d v:=by
 unfold bsOf
 split
 ·rename_i e;exact ztu e h
 ·exact h
abbrev EF:=DEnv->Option Val
def SE(te:TE)(f:EF):Prop:=∀(fx:Addr->Prop)(H0:Hp)(env:DEnv)(σ:St)(H:Hp),EnvOk fx H0 env σ H->∀r,f env=some r->∀Q:VK,(∀v H',Same H H'->ValOk (lim fx env σ r.bs) H H' r v->Q v H')->te σ H Q
abbrev TF:=DEnv->Option Bool
def ST(tt:TT)(f:TF):Prop:=∀(fx:Addr->Prop)(H0:Hp)(env:DEnv)(σ:St)(H:Hp),EnvOk fx H0 env σ H->∀b,f env=some b->∀Q:Bool->Hp->Prop,(∀H',Same H H'->Q b H')->tt σ H Q
abbrev AF:=DEnv->Option (List Val)
def SA(ta:TA)(f:AF):Prop:=∀(fx:Addr->Prop)(H0:Hp)(env:DEnv)(σ:St)(H:Hp),EnvOk fx H0 env σ H->∀rs,f env=some rs->∀Q:List V->Hp->Prop,
 (∀vs H',Same H H'->Paired (λr v=>ValOk (lim fx env σ r.bs) H H' r v) rs vs->Q vs H')->ta σ H Q
section
variable{X:Cx}
def eVar(i:Nat):EF:=λenv=>match env[i]? with
 | some (.pl d)=>some ⟨d,false,[]⟩
 | some (.ac d)=>some ⟨d,false,[i]⟩
 | _=>none
theorem zhh(i:Nat):SE (tVar i) (eVar i):=by
 intro fx H0 env σ H h r hr Q q
 unfold eVar at hr
 cases e:env[i]? with
 | none=>rw[e]at hr;cases hr
 | some sl=>
  rw[e]at hr
  cases sl with
  | no=>cases hr
  | pl d=>
   cases hr
   obtain⟨v,h1,h2⟩:=h.pl i d e
   exact⟨v,h1,q v H (Same.refl _) ⟨Rp.same (Offs.sub ztt) _ h2,λz=>by cases z⟩⟩
  | ac d=>
   cases hr
   obtain⟨a,h1,h2,h3,h4⟩:=h.ac i d e
   have hna:¬lim fx env σ [i] a:=by
    rintro(z|⟨j,d',g1,g2,g3⟩)
    ·exact h3 z
    ·exact g1 (qAD.mpr (h.inj j i d' d a g2 e g3 h1))
   exact⟨_,h1,q _ H (Same.refl _) ⟨h4.rp (Offs.sub ztt) λo z=>by rw[Offs.get hna];exact z,λz=>by cases z⟩⟩
def eC(d:PyData):EF:=λ_=>some ⟨d,false,[]⟩
theorem se_c(h:∀H,Rp H d v):SE (tC v) (eC d):=by
 intro fx H0 env σ H _ r hr Q q
 cases hr
 exact q v H (Same.refl _) ⟨h _,λz=>by cases z⟩
abbrev OF:=PyData->PyData->Option (PyData×Bool)
def SO(r:R2)(f:OF):Prop:=∀(A:Addr->Prop)(H:Hp)(x y:V)(dx dy:PyData),(∀b,A b->∃o,H b=some o)->Rp (Offs A H) dx x->Rp (Offs A H) dy y->∀d fr,f dx dy=some (d,fr)->∀Q:VK,
 (∀v H',Same H H'->Rp (Offs A H') d v->(fr=true->∃a,v=.ref a/\H a=none/\zhz (Offs (λb=>A b\/b=a) H') H' a d)->Q v H')->r x y H Q
def eOp(f:OF)(a b:EF):EF:=λenv=>(a env).bind λx=>(b env).bind λy=>(f x.d y.d).bind λz=>some ⟨z.1,z.2,bsOf z.1 (x.bs++y.bs)⟩
theorem zadv(ho:SO r f)(ha:SE ta fa)(hb:SE tb fb):SE (tOp r ta tb) (eOp f fa fb):=by
 intro fx H0 env σ H h rr hr Q q
 unfold eOp at hr
 obtain⟨x,ex,hr⟩:=qA.mp hr
 obtain⟨y,ey,hr⟩:=qA.mp hr
 obtain⟨⟨d,fr⟩,ez,hr⟩:=qA.mp hr
 cases hr
 refine ha fx H0 env σ H h x ex _ λv H1 s1 v1=>hb fx H0 env σ H1 (h.up s1) y ey _ λu H2 s2 v2=>?_
 have l1:∀b,lim fx env σ (x.bs++y.bs) b->lim fx env σ x.bs b:=zts λi hi=>q9 _ hi
 have l2:∀b,lim fx env σ (x.bs++y.bs) b->lim fx env σ y.bs b:=zts λi hi=>qc _ hi
 refine ho (lim fx env σ (x.bs++y.bs)) H2 v u x.d y.d ((h.up (s1.trans s2)).lims _) (v1.later (Same.refl _) s2 l1).rp (v2.later (Same.refl _) (Same.refl _) l2).rp d fr ez _ λw H3 s3 rp fr3=>q w H3 ((s1.trans s2).trans s3) ⟨ztv rp,λe=>?_⟩
 obtain⟨a,g1,g2,g3⟩:=fr3 e
 refine⟨a,g1,(s1.trans s2).free g2,?_⟩
 have nf:zfo d=false:=by cases d<;>first|rfl|exact g3.elim
 show zhz (Offs (λb=>lim fx env σ (bsOf d (x.bs++y.bs)) b\/b=a) H3) H3 a d
 rw[show bsOf d (x.bs++y.bs)=x.bs++y.bs by unfold bsOf;rw[if_neg (by rw[nf];decide)]]
 exact g3
end
theorem zgq(h:n<=100000):n<=qU:=qAI h (by decide)
theorem zkn(h:n<100000):n<qU:=qDR h (by decide)
theorem zev{A:Addr->Prop}{H:Hp}(hA:∀b,A b->∃o,H b=some o){p:Addr}(hp:H p=none):¬A p:=λz=>by
 obtain⟨o,e⟩:=hA p z
 rw[hp]at e;cases e
theorem ztw{A:Addr->Prop}(hp:H p=none)(r:Rps (Offs A H) ds xs):zhz (Offs (λb=>A b\/b=p) (upd H p (.lst xs))) (upd H p (.lst xs)) p (.list ds):=by
 refine⟨xs,zal,Rps.same (Offs.mono (Same.new hp) λb o e n z=>?_) _ r⟩
 rcases z with z|z
 ·exact n z
 ·rw[z,hp]at e;cases e
theorem zaay{A:Addr->Prop}(hp:H p=none)(hA:¬A p)(r:Rps (Offs A H) ds xs):Rp (Offs A (upd H p (.lst xs))) (.list ds) (.ref p):=
 zik (by rw[Offs.get hA];exact zal) (Rps.same (Offs.grow (Same.new hp)) _ r)
theorem znl{A:Addr->Prop}(hp:H p=none)(hA:¬A p)(r:Rps (Offs A H) ds xs):Rp (Offs A (upd H p (.tup xs))) (.tuple ds) (.ref p):=
 zadu (by rw[Offs.get hA];exact zal) (Rps.same (Offs.grow (Same.new hp)) _ r)
theorem zdv{A:Addr->Prop}(h:Offs A H a=some o):H a=some o:=(Offs.of h).2
def addD:OF
 | .int i,.int j=>some (.int (i+j),false)
 | .str a,.str b=>if a.length+b.length<=100000 then some (.str (a++b),false)else none
 | .list a,.list b=>if a.length+b.length<=100000 then some (.list (a++b),true)else none
 | .tuple a,.tuple b=>if a.isEmpty=false/\a.length+b.length<=100000 then some (.tuple (a++b),false)else none
 | _,_=>none
theorem zakn{K:qB}:SO (zakb K) addD:=by
 intro A H x y dx dy hA rx ry d fr e Q q
 unfold addD at e
 split at e
 ·cases e
  cases zeh rx;cases zeh ry
  exact q _ H (Same.refl _) zby (λz=>by cases z)
 ·split at e
  ·rename_i hl
   cases e
   cases zor rx;cases zor ry
   exact⟨zgq hl,q _ H (Same.refl _) zhg (λz=>by cases z)⟩
  ·cases e
 ·split at e
  ·rename_i hl
   cases e
   obtain⟨p,xs,rfl,hp,r1⟩:=zfs rx
   obtain⟨p',ys,rfl,hp',r2⟩:=zfs ry
   refine .inl ⟨p,p',xs,ys,rfl,rfl,zdv hp,zdv hp',zgq (by rw[<- r1.length,<- r2.length];exact hl),λb hb=>?_⟩
   exact q _ _ (Same.new hb) (zaay hb (zev hA hb) (r1.append r2)) λ_=>⟨b,rfl,hb,ztw hb (r1.append r2)⟩
  ·cases e
 ·split at e
  ·rename_i hl
   cases e
   obtain⟨p,xs,rfl,hp,r1⟩:=zdx rx
   obtain⟨p',ys,rfl,hp',r2⟩:=zdx ry
   refine .inr ⟨p,p',xs,ys,rfl,rfl,SqT.of (zdv hp),SqT.of (zdv hp'),λz=>?_,zgq (by rw[<- r1.length,<- r2.length];exact hl.2),λz=>?_,λ_ b hb=>?_⟩
   ·have h1:=r1.length
    have h0:=hl.1
    rw[z]at h1
    rw[List.isEmpty_eq_false_iff]at h0
    exact h0 (qCA.mp h1)
   ·have h2:=r2.length
    rw[z]at h2
    have:=qCA.mp h2
    subst this
    rw[qw]at q
    exact q _ H (Same.refl _) rx (λz=>by cases z)
   ·exact q _ _ (Same.new hb) (znl hb (zev hA hb) (r1.append r2)) (λz=>by cases z)
  ·cases e
 ·cases e
def intD(c:Int->Int->Bool)(f:Int->Int->PyData):OF
 | .int i,.int j=>if c i j=true then some (f i j,false)else none
 | _,_=>none
theorem zasd{C:Int->Int->Prop}{g:Int->Int->V}{c:Int->Int->Bool}{f:Int->Int->PyData}(hc:∀i j,c i j=true->C i j)(hf:∀H i j,Rp H (f i j) (g i j)):SO (rI C g) (intD c f):=by
 intro A H x y dx dy hA rx ry d fr e Q q
 unfold intD at e
 split at e
 ·split at e
  ·rename_i h
   cases e
   cases zeh rx;cases zeh ry
   exact⟨_,_,rfl,rfl,hc _ _ h,q _ H (Same.refl _) (hf _ _ _) (λz=>by cases z)⟩
  ·cases e
 ·cases e
theorem zako{g:Int->Int->V}{f:Int->Int->PyData}(hf:∀H i j,Rp H (f i j) (g i j)):SO (rI0 g) (intD (λ_ _=>true) f):=by
 intro A H x y dx dy hA rx ry d fr e Q q
 unfold intD at e
 split at e
 ·split at e
  ·cases e
   cases zeh rx;cases zeh ry
   exact⟨_,_,rfl,rfl,q _ H (Same.refl _) (hf _ _ _) (λz=>by cases z)⟩
  ·cases e
 ·cases e
def subD:OF:=intD (λ_ _=>true) λi j=>.int (i - j)
theorem zayy:SO (rI0 λi j=>.int (i - j)) subD:=zako λ_ _ _=>zby
def gtD:OF:=intD (λ_ _=>true) λi j=>.bool (decide (j<i))
theorem zbbz:SO (rI0 λi j=>.bl (decide (j<i))) gtD:=zako λ_ _ _=>zbv
def modD:OF:=intD (λ_ j=>decide (0<j)) λi j=>.int (i % j)
theorem zase:SO (rI (λ_ j=>0<j) λi j=>.int (i % j)) modD:=zasd (λ_ _ h=>of_decide_eq_true h) λ_ _ _=>zby
def zbi:OF:=intD (λ_ j=>decide (0<j/\j<1073741824)) λi j=>.int (i / j)
theorem zaup:SO (rI CDiv λi j=>.int (i / j)) zbi:=zasd (λi j h=>(of_decide_eq_true h:0<j/\j<1073741824)) λ_ _ _=>zby
def mulD:OF
 | .int i,.int j=>if(-(2 ^ 64)<i/\i<2 ^ 64)\/(-(2 ^ 64)<j/\j<2 ^ 64)then some (.int (i * j),false)else none
 | .str z,.int n=>if z.length<=1000/\-1000<=n/\n<=1000 then some (.str (Txt.mul z n),false)else none
 | _,_=>none
theorem zayz:SO zauk mulD:=by
 intro A H x y dx dy hA rx ry d fr e Q q
 unfold mulD at e
 split at e
 ·split at e
  ·rename_i h
   cases e
   cases zeh rx;cases zeh ry
   exact⟨h,q _ H (Same.refl _) zby (λz=>by cases z)⟩
  ·cases e
 ·split at e
  ·rename_i h
   cases e
   cases zor rx;cases zeh ry
   exact⟨h.1,h.2.1,h.2.2,q _ H (Same.refl _) zhg (λz=>by cases z)⟩
  ·cases e
 ·cases e
mutual
theorem ztx{K:qB}{H:Hp}:∀{d:PyData}{v:V},d.canLay0=true->Rp H d v->Rep K H d v
 | .none,v,_,h=>by unfold Rp at h;unfold Rep;exact h
 | .bool b,v,_,h=>by unfold Rp at h;unfold Rep;exact h
 | .int i,v,_,h=>by unfold Rp at h;unfold Rep;exact h
 | .str x,v,_,h=>by unfold Rp at h;unfold Rep;exact h
 | .list ds,v,c,h=>by
  obtain⟨a,xs,e,h1,h2⟩:=zfs h
  unfold Rep
  exact⟨a,xs,e,SqL.of h1,rps_reps (by simpa [PyData.canLay0]using c) h2⟩
 | .tuple ds,v,c,h=>by
  obtain⟨a,xs,e,h1,h2⟩:=zdx h
  unfold Rep
  exact⟨a,xs,e,SqT.of h1,rps_reps (by simpa [PyData.canLay0]using c) h2⟩
 | .dict _,v,c,h=>by simp[PyData.canLay0]at c
theorem rps_reps{K:qB}{H:Hp}:∀{ds:List PyData}{vs:List V},qAF ds=true->Rps H ds vs->Reps K H ds vs
 | [],vs,_,h=>by unfold Rps at h;unfold Reps;exact h
 | d::ds,vs,c,h=>by
  unfold Rps at h
  obtain⟨v,ws,e,h1,h2⟩:=h
  have c:d.canLay0=true/\qAF ds=true:=by simpa [qAF]using c
  unfold Reps
  exact⟨v,ws,e,ztx c.1 h1,rps_reps c.2 h2⟩
end
def zaph:PyData->PyData->Bool
 | .none,.none=>true|.none,.int _=>true|.int _,.none=>true|.none,.bool _=>true|.bool _,.none=>true|.none,.str _=>true|.str _,.none=>true
 | .int _,.int _=>true|.bool _,.bool _=>true|.str _,.str _=>true
 | .int _,.str _=>true|.str _,.int _=>true|.bool _,.str _=>true|.str _,.bool _=>true
 | _,_=>false
def eqOk(dx dy:PyData):Bool:=zaph dx dy||(qt dx&&qt dy)
def eqD:OF:=λdx dy=>if eqOk dx dy=true then some (.bool (qAO dx dy),false)else none
def neD:OF:=λdx dy=>if eqOk dx dy=true then some (.bool (!PyData.eqv dx dy),false)else none
theorem zakp(s:zaph dx dy=true)(rx:Rp H dx x)(ry:Rp H dy y):scal x y=true/\decide (x=y)=qAO dx dy:=by
 cases dx<;>cases dy<;>first
  | (exact absurd (show false=true from s) qP)
  | (unfold Rp at rx ry;subst rx;subst ry;refine⟨rfl,?_⟩;first|rfl|exact zadl|exact zaja|exact zadm|simp[qAO])
theorem zaza{K:qB}:SO (λx y H Q=>rEq x y H Q\/rEqD K false x y H Q) eqD:=by
 intro A H x y dx dy hA rx ry d fr e Q q
 unfold eqD at e
 split at e
 ·rename_i h
  cases e
  cases hs:zaph dx dy with
  | true=>
   obtain⟨h1,h2⟩:=zakp hs rx ry
   exact .inl ⟨h1,by rw[h2];exact q _ H (Same.refl _) zbv (λz=>by cases z)⟩
  | false=>
   unfold eqOk at h
   rw[hs,qCX,qo]at h
   have rx:=Rp.same (Offs.same A H) _ rx
   have ry:=Rp.same (Offs.same A H) _ ry
   exact .inr ⟨dx,dy,ztx (qAf h.1) rx,ztx (qAf h.2) ry,h.1,h.2,q _ H (Same.refl _) zbv (λz=>by cases z)⟩
 ·cases e
theorem zbca{K:qB}:SO (λx y H Q=>rNe x y H Q\/rEqD K true x y H Q) neD:=by
 intro A H x y dx dy hA rx ry d fr e Q q
 unfold neD at e
 split at e
 ·rename_i h
  cases e
  cases hs:zaph dx dy with
  | true=>
   obtain⟨h1,h2⟩:=zakp hs rx ry
   exact .inl ⟨h1,by rw[h2];exact q _ H (Same.refl _) zbv (λz=>by cases z)⟩
  | false=>
   unfold eqOk at h
   rw[hs,qCX,qo]at h
   have rx:=Rp.same (Offs.same A H) _ rx
   have ry:=Rp.same (Offs.same A H) _ ry
   exact .inr ⟨dx,dy,ztx (qAf h.1) rx,ztx (qAf h.2) ry,h.1,h.2,q _ H (Same.refl _) zbv (λz=>by cases z)⟩
 ·cases e
def zei(ds:List PyData):Bool:=ds.all zfo
theorem zasf(f:zfo d=true)(h:Rp H d v):zwp v=true:=by
 cases d<;>first
  | (unfold Rp at h;subst h;rfl)
  | cases f
theorem zauq{vs:List V}(f:zei ds=true)(h:Rps H ds vs):vs.all zwp=true:=by
 replace h:=zcj.mp h
 induction h with
 | nil=>rfl
 | cons h _ ih=>
  unfold zei at f
  rw[qA0,qo]at f
  rw[qA0,zasf f.1 h,ih f.2];rfl
theorem zaur(f:zfo d=true)(g:zfo e=true)(h:Rp H d v)(k:Rp H e u):eqV v u=qAO d e:=by
 cases d<;>cases e<;>first
  | (unfold Rp at h k;subst h;subst k;rfl)
  | exact absurd (show false=true from f) qP
  | exact absurd (show false=true from g) qP
theorem zaus(f:zfo d=true)(h:Rp H d v){ds:List PyData}(g:zei ds=true)(r:Rps H ds vs):inV v vs=ds.any λe=>qAO e d:=by
 replace r:=zcj.mp r
 unfold inV
 induction r with
 | nil=>rfl
 | cons r _ ih=>
  unfold zei at g
  rw[qA0,qo]at g
  rw[qBH,qBH,zaur g.1 f r h,ih g.2]
def zgg:PyData->Option (List PyData)
 | .list ds=>some ds
 | .tuple ds=>some ds
 | _=>none
def inD(neg:Bool):OF:=λd c=>match zgg c with
 | some ds=>if zfo d=true/\zei ds=true then some (.bool (if neg then !(ds.any λe=>qAO e d)else ds.any λe=>qAO e d),false)else none
 | none=>none
theorem zafn{K:qB}{H:Hp}{c:PyData}{v:V}{ds:List PyData}(h:Rp H c v)(e:zgg c=some ds):∃p xs,v=.ref p/\(SqL K H p xs\/SqT K H p xs)/\Rps H ds xs:=by
 cases c<;>first
  | cases e
  | skip
 ·obtain⟨a,xs,e,h1,h2⟩:=zfs h;exact⟨a,xs,e,.inl (SqL.of h1),h2⟩
 ·obtain⟨a,xs,e,h1,h2⟩:=zdx h;exact⟨a,xs,e,.inr (SqT.of h1),h2⟩
theorem zbcb{K:qB}{neg:Bool}:SO (rIn K neg) (inD neg):=by
 intro A H x y dx dy hA rx ry d fr e Q q
 unfold inD at e
 split at e
 ·rename_i ds hi
  split at e
  ·rename_i h
   cases e
   have rx:=Rp.same (Offs.same A H) _ rx
   obtain⟨p,xs,rfl,hq,r⟩:=zafn (K:=K) (Rp.same (Offs.same A H) _ ry) hi
   refine⟨p,xs,rfl,hq,zasf h.1 rx,zauq h.2 r,?_⟩
   rw[zaus h.1 rx h.2 r]
   refine q _ H (Same.refl _) ?_ (λz=>by cases z)
   cases neg<;>exact zbv
  ·cases e
 ·cases e
def ixD:OF
 | .str z,.int i=>if z.length<=100000 then(atI z.cps.toList i).map λc=>(.str ⟨#[c]⟩,false)else none
 | .list ds,.int i=>(atI ds i).map λd=>(d,false)
 | .tuple ds,.int i=>(atI ds i).map λd=>(d,false)
 | _,_=>none
theorem Rps.atI(h:Rps H ds vs)(e:atI ds i=some d):∃v,L2.atI vs i=some v/\Rp H d v:=by
 unfold L2.atI at e ⊢
 rw[<- h.length]
 cases g:ixN ds.length i with
 | none=>rw[g]at e;cases e
 | some j=>
  rw[g]at e
  exact h.get2 e
theorem zazb{K:qB}:SO (rIxU K) ixD:=by
 intro A H x y dx dy hA rx ry d fr e Q q
 unfold ixD at e
 split at e
 ·split at e
  ·rename_i z i hl
   obtain⟨c,hc,e⟩:=qG.mp e
   cases e
   cases zor rx;cases zeh ry
   exact⟨zgq hl,c,hc,q _ H (Same.refl _) zhg (λz=>by cases z)⟩
  ·cases e
 ·obtain⟨c,hc,e⟩:=qG.mp e
  cases e
  obtain⟨p,xs,rfl,hp,r⟩:=zfs rx
  cases zeh ry
  obtain⟨v,hv,rv⟩:=r.atI hc
  exact⟨xs,v,.inl (SqL.of (zdv hp)),hv,q _ H (Same.refl _) rv (λz=>by cases z)⟩
 ·obtain⟨c,hc,e⟩:=qG.mp e
  cases e
  obtain⟨p,xs,rfl,hp,r⟩:=zdx rx
  cases zeh ry
  obtain⟨v,hv,rv⟩:=r.atI hc
  exact⟨xs,v,.inr (SqT.of (zdv hp)),hv,q _ H (Same.refl _) rv (λz=>by cases z)⟩
 ·cases e
def zos:List (PyData×PyData)->Key->Option PyData
 | [],_=>none
 | (k,d)::r,j=>if keyD k=some j then some d else zos r j
def zadw(kvs:List (PyData×PyData))(j:Key):Bool:=(zos kvs j).isSome
def zwq(kvs:List (PyData×PyData))(k:PyData)(d:PyData):List (PyData×PyData):=
 if(kvs.any λkv=>decide (keyD kv.1=keyD k))=true then kvs.map (λkv=>if keyD kv.1=keyD k then(kv.1,d)else kv)else kvs++[(k,d)]
def znm(kvs more:List (PyData×PyData)):List (PyData×PyData):=more.foldl (λacc kv=>zwq acc kv.1 kv.2) kvs
theorem zmd(hk:keyD k=some k')(h:Rp H d v)(q:Rpd H r vs):Rpd H ((k,d)::r) ((k',v)::vs):=by
 show Rpd H ((k,d)::r) _
 unfold Rpd;exact⟨k',v,vs,rfl,hk,h,q⟩
theorem zhe(h:Rpd H ((k,d)::r) ps):∃k' v vs,ps=(k',v)::vs/\keyD k=some k'/\Rp H d v/\Rpd H r vs:=by
 unfold Rpd at h;exact h
theorem Rpd.length:∀{kvs:List (PyData×PyData)}{ps:List (Key×V)},Rpd H kvs ps->kvs.length=ps.length
 | [],ps,h=>by unfold Rpd at h;subst h;rfl
 | (k,d)::r,ps,h=>by
  obtain⟨k',v,vs,rfl,_,_,h3⟩:=zhe h
  rw[qy,qy,h3.length]
theorem Rpd.get:∀{kvs:List (PyData×PyData)}{ps:List (Key×V)},Rpd H kvs ps->match zos kvs j with
  | some d=>∃v,valV ps j=some v/\Rp H d v
  | none=>valV ps j=none
 | [],ps,h=>by unfold Rpd at h;subst h;rfl
 | (k,d)::r,ps,h=>by
  obtain⟨k',v,vs,rfl,hk,h2,h3⟩:=zhe h
  have ih:=Rpd.get (j:=j) h3
  unfold zos
  by_cases e:k'=j
  ·rw[if_pos (by rw[hk,e])]
   exact⟨v,zsz e,h2⟩
  ·rw[if_neg (λz=>e (by rw[hk]at z;exact qX z)),zta e]
   exact ih
theorem Rpd.any:∀{kvs:List (PyData×PyData)}{ps:List (Key×V)},Rpd H kvs ps->(kvs.any λkv=>decide (keyD kv.1=some j))=ps.any λkv=>decide (kv.1=j)
 | [],ps,h=>by unfold Rpd at h;subst h;rfl
 | (k,d)::r,ps,h=>by
  obtain⟨k',v,vs,rfl,hk,h2,h3⟩:=zhe h
  rw[qBH,qBH,h3.any,hk]
  congr 1
  simp
theorem Rpd.map(h':Rp H d' v'):∀{kvs:List (PyData×PyData)}{ps:List (Key×V)},Rpd H kvs ps->Rpd H (kvs.map λkv=>if keyD kv.1=some j then(kv.1,d')else kv) (ps.map λkv=>if kv.1=j then(kv.1,v')else kv)
 | [],ps,h=>by unfold Rpd at h;subst h;exact zqg
 | (k,d)::r,ps,h=>by
  obtain⟨k',v,vs,rfl,hk,h2,h3⟩:=zhe h
  rw[qR,qR]
  by_cases e:k'=j
  ·rw[if_pos (show keyD (k,d).1=some j by rw[hk,e]),if_pos (show((k',v):Key×V).1=j from e)]
   exact zmd hk h' (Rpd.map h' h3)
  ·rw[if_neg (show ¬keyD (k,d).1=some j from λz=>e (by rw[hk]at z;exact qX z)),if_neg (show ¬((k',v):Key×V).1=j from e)]
   exact zmd hk h2 (Rpd.map h' h3)
theorem Rpd.snoc(hk:keyD k=some k')(h':Rp H d v):∀{kvs:List (PyData×PyData)}{ps:List (Key×V)},Rpd H kvs ps->Rpd H (kvs++[(k,d)]) (ps++[(k',v)])
 | [],ps,h=>by unfold Rpd at h;subst h;exact zmd hk h' zqg
 | (k0,d0)::r,ps,h=>by
  obtain⟨k1,v1,vs,rfl,hk1,h2,h3⟩:=zhe h
  exact zmd hk1 h2 (Rpd.snoc hk h' h3)
theorem Rpd.put(h:Rpd H kvs ps)(hk:keyD k=some j)(h':Rp H d v):Rpd H (zwq kvs k d) (putK ps j v):=by
 unfold zwq putK
 rw[hk,h.any]
 split
 ·exact h.map h'
 ·exact h.snoc hk h'
theorem Rpd.merge:∀{more:List (PyData×PyData)}{ps:List (Key×V)}{kvs:List (PyData×PyData)}{qs:List (Key×V)},Rpd H kvs qs->Rpd H more ps->Rpd H (znm kvs more) (zom qs ps)
 | [],ps,kvs,qs,h,g=>by unfold Rpd at g;subst g;exact h
 | (k,d)::r,ps,kvs,qs,h,g=>by
  obtain⟨k',v,vs,rfl,hk,h2,h3⟩:=zhe g
  show Rpd H (znm (zwq kvs k d) r) (zom (putK qs k' v) vs)
  exact Rpd.merge (h.put hk h2) h3
theorem zapi(h:Rp H d v)(e:keyD d=some k):v=kV k:=by
 cases d<;>first
  | (cases e;unfold Rp at h;exact h)
  | cases e
def zbcv(a b:EF):EF:=λenv=>(a env).bind λx=>(b env).bind λy=>match x.d with
 | .dict kvs=>(keyD y.d).bind λk=>(zos kvs k).bind λd=>some ⟨d,false,bsOf d x.bs⟩
 | _=>none
def eDIn(neg:Bool)(a b:EF):EF:=λenv=>(a env).bind λx=>(b env).bind λy=>match y.d with
 | .dict kvs=>(keyD x.d).bind λk=>some ⟨.bool (if neg then !zadw kvs k else zadw kvs k),false,[]⟩
 | _=>none
theorem zaut(r:Rpd H kvs ps)(k:Key):(valV ps k).isSome=zadw kvs k:=by
 have g:=r.get (j:=k)
 unfold zadw
 cases e:zos kvs k with
 | none=>rw[e]at g;rw[show valV ps k=none from g];rfl
 | some d=>rw[e]at g;obtain⟨w,e1,_⟩:=g;rw[e1];rfl
theorem zazc(ha:SE ty fa)(hb:SE td fb):SE (tDIn ty td) (eDIn false fa fb):=by
 intro fx H0 env σ H h rr hr Q q
 unfold eDIn at hr
 obtain⟨⟨dx,frx,bx⟩,ex,hr⟩:=qA.mp hr
 obtain⟨⟨dy,fry,by'⟩,ey,hr⟩:=qA.mp hr
 cases dy with
 | dict kvs=>
  obtain⟨k,ek,hr⟩:=qA.mp hr
  cases hr
  refine ha fx H0 env σ H h _ ex _ λv H1 s1 v1=>hb fx H0 env σ H1 (h.up s1) _ ey _ λu H2 s2 v2=>?_
  obtain⟨a,ps,rfl,hp,r⟩:=ztr v2.rp
  rw[zapi v1.rp ek]
  exact⟨a,_,rfl,DGet.k (zdv hp),by rw[zaut r k];exact q _ H2 (s1.trans s2) ⟨zbv,λz=>by cases z⟩⟩
 | _=>cases hr
def zaz(f:EF):TF:=λenv=>(f env).bind λr=>match r.d with|.bool b=>some b|_=>none
theorem st_b(h:SE te f):ST (tB te) (zaz f):=by
 intro fx H0 env σ H hE b hb Q q
 unfold zaz at hb
 obtain⟨⟨d,fr,bs⟩,e,hb⟩:=qA.mp hb
 cases d with
 | bool c=>
  have hb:some c=some b:=hb
  cases hb
  exact h fx H0 env σ H hE _ e _ λv H' s v1=>⟨_,znk v1.rp,q H' s⟩
 | _=>cases hb
theorem st_t(h:SE te f):ST (tTest te) (zaz f):=st_b h
def truD:PyData->Option Bool
 | .none=>some false
 | .bool b=>some b
 | .int i=>some (i != 0)
 | .str x=>if x.length<=100000 then some ((x.length:Int) != 0)else none
 | .list ds=>some (!ds.isEmpty)
 | .tuple ds=>some (!ds.isEmpty)
 | .dict ds=>some (!ds.isEmpty)
def tTru(f:EF):TF:=λenv=>(f env).bind λr=>truD r.d
theorem znn{xs:List α}{ys:List β}(h:xs.length=ys.length):xs.isEmpty=ys.isEmpty:=by
 cases xs<;>cases ys<;>simp at h<;>rfl
theorem zazd{K:qB}{H:Hp}{d:PyData}{v:V}{b:Bool}(h:Rp H d v)(e:truD d=some b):TruV K v H b:=by
 cases d with
 | none=>cases e;cases zadt h;rfl
 | bool c=>cases e;cases znk h;rfl
 | int i=>cases e;cases zeh h;rfl
 | str x=>
  have e:(if x.length<=100000 then some ((x.length:Int) != 0)else none)=some b:=e
  split at e
  ·rename_i hl;cases e;cases zor h;exact⟨zgq hl,rfl⟩
  ·cases e
 | list ds=>cases e;obtain⟨a,xs,rfl,h1,h2⟩:=zfs h;exact .inl ⟨xs,SqL.of h1,by rw[znn h2.length]⟩
 | tuple ds=>cases e;obtain⟨a,xs,rfl,h1,h2⟩:=zdx h;exact .inr (.inl ⟨xs,SqT.of h1,by rw[znn h2.length]⟩)
 | dict ds=>cases e;obtain⟨a,xs,rfl,h1,h2⟩:=ztr h;exact .inr (.inr ⟨xs,h1,by rw[znn h2.length]⟩)
theorem zko{K:qB}{te:TE}{f:EF}(h:SE te f):ST (λσ H Q=>te σ H λx H1=>∃k,TruV K x H1 k/\Q k H1) (tTru f):=by
 intro fx H0 env σ H hE b hb Q q
 unfold tTru at hb
 obtain⟨r,e,hb⟩:=qA.mp hb
 exact h fx H0 env σ H hE _ e _ λv H' s v1=>⟨b,zazd (Rp.same (Offs.same _ _) _ v1.rp) hb,q H' s⟩
def zadx(f g:TF):TF:=λenv=>(f env).bind λb=>if b=true then g env else some false
def tOrF(f g:TF):TF:=λenv=>(f env).bind λb=>if b=true then some true else g env
def zgr(f:TF):TF:=λenv=>(f env).map λb=>!b
theorem zaze(h:ST t f)(k:ST u g):ST (tAnd t u) (zadx f g):=by
 intro fx H0 env σ H hE b hb Q q
 unfold zadx at hb
 obtain⟨c,e,hb⟩:=qA.mp hb
 refine h fx H0 env σ H hE c e _ λH' s=>?_
 cases c with
 | true=>exact iteT (k fx H0 env σ H' (hE.up s) b hb _ λH'' s'=>q H'' (s.trans s'))
 | false=>cases hb;exact iteF (q H' s)
theorem zbcc(h:ST t f)(k:ST u g):ST (tOr t u) (tOrF f g):=by
 intro fx H0 env σ H hE b hb Q q
 unfold tOrF at hb
 obtain⟨c,e,hb⟩:=qA.mp hb
 refine h fx H0 env σ H hE c e _ λH' s=>?_
 cases c with
 | false=>exact iteF (k fx H0 env σ H' (hE.up s) b hb _ λH'' s'=>q H'' (s.trans s'))
 | true=>cases hb;exact iteT (q H' s)
theorem zxh(h:ST t f):ST (tNot t) (zgr f):=by
 intro fx H0 env σ H hE b hb Q q
 unfold zgr at hb
 obtain⟨c,e,rfl⟩:=qG.mp hb
 exact h fx H0 env σ H hE c e _ λH' s=>q H' s
def asB:PyData->Option Bool|.bool b=>some b|_=>none
def eAnd(a b:EF):EF:=λenv=>(a env).bind λx=>(asB x.d).bind λc=>if c=true then b env else some ⟨.bool false,false,[]⟩
theorem as_b(h:Rp H d v)(e:asB d=some c):v=.bl c:=by
 cases d<;>first
  | (cases e;exact znk h)
  | cases e
theorem zazf(ha:SE ta fa)(hb:SE tb fb):SE (tAndV ta tb) (eAnd fa fb):=by
 intro fx H0 env σ H h rr hr Q q
 unfold eAnd at hr
 obtain⟨x,ex,hr⟩:=qA.mp hr
 obtain⟨c,ec,hr⟩:=qA.mp hr
 refine ha fx H0 env σ H h _ ex _ λv H1 s1 v1=>⟨c,as_b v1.rp ec,?_⟩
 cases c with
 | true=>exact iteT (hb fx H0 env σ H1 (h.up s1) _ hr _ λu H2 s2 v2=>q u H2 (s1.trans s2) (v2.later s1 (Same.refl _) λ_ z=>z))
 | false=>cases hr;exact iteF (q _ H1 s1 ⟨zbv,λz=>by cases z⟩)
def aNil:AF:=λ_=>some []
def zaa(a:EF)(r:AF):AF:=λenv=>(a env).bind λx=>(r env).map λxs=>x::xs
theorem zic:SA tNil aNil:=by
 intro fx H0 env σ H h rs hr Q q
 cases hr
 exact q [] H (Same.refl _) .nil
theorem zcn(h1:SE te f)(h2:SA ta g):SA (tCons te ta) (zaa f g):=by
 intro fx H0 env σ H h rs hr Q q
 unfold zaa at hr
 obtain⟨x,ex,hr⟩:=qA.mp hr
 obtain⟨xs,exs,rfl⟩:=qG.mp hr
 exact h1 fx H0 env σ H h x ex _ λv H1 s1 v1=>h2 fx H0 env σ H1 (h.up s1) xs exs _ λvs H2 s2 vs2=>q (v::vs) H2 (s1.trans s2)
  (.cons (v1.later (Same.refl _) s2 λ_ z=>z) (Paired.mapP vs2 λ_ _ z=>z.later s1 (Same.refl _) λ_ y=>y))
def zds(rs:List Val):List PyData:=rs.map (·.d)
def bss(rs:List Val):List Nat:=rs.flatMap (·.bs)
theorem zfd{fx:Addr->Prop}:∀{rs:List Val}{vs:List V}{cs:List Nat},(∀i∈bss rs,i∈cs)->Paired (λr v=>ValOk (lim fx env σ r.bs) H H' r v) rs vs->Rps (Offs (lim fx env σ cs) H') (zds rs) vs
 | _,_,_,_,.nil=>zcz
 | r::rs,v::vs,cs,hc,.cons h t=>zcx (Rp.same (Offs.sub (zts λi hi=>hc i (qA8.mpr ⟨r,qb,hi⟩))) _ h.rp)
   (zfd (λi hi=>hc i (by obtain⟨x,h1,h2⟩:=qA8.mp hi;exact qA8.mpr ⟨x,qK _ h1,h2⟩)) t)
def eTup(f:AF):EF:=λenv=>(f env).bind λrs=>if rs.length<=100000 then some ⟨.tuple (zds rs),false,bss rs⟩else none
def eLst(f:AF):EF:=λenv=>(f env).bind λrs=>if rs.length<=100000 then some ⟨.list (zds rs),true,bss rs⟩else none
theorem zez(rs:List Val):(zds rs).length=rs.length:=by unfold zds;rw[qC]
theorem zafo(ha:SA ta f):SE (tTup ta) (eTup f):=by
 intro fx H0 env σ H h rr hr Q q
 unfold eTup at hr
 obtain⟨rs,er,hr⟩:=qA.mp hr
 split at hr
 ·rename_i hl
  cases hr
  refine ha fx H0 env σ H h rs er _ λvs H1 s1 v1=>?_
  have r:=zfd (λi hi=>hi) v1
  have hA:=(h.up s1).lims (bss rs)
  refine⟨zgq (by rw[<- r.length,zez];exact hl),λp hp=>q _ _ (s1.trans (Same.new hp)) ⟨znl hp (zev hA hp) r,λz=>by cases z⟩⟩
 ·cases hr
theorem zakq(ha:SA ta f):SE (tLst ta) (eLst f):=by
 intro fx H0 env σ H h rr hr Q q
 unfold eLst at hr
 obtain⟨rs,er,hr⟩:=qA.mp hr
 split at hr
 ·rename_i hl
  cases hr
  refine ha fx H0 env σ H h rs er _ λvs H1 s1 v1=>?_
  have r:=zfd (λi hi=>hi) v1
  have hA:=(h.up s1).lims (bss rs)
  refine⟨zgq (by rw[<- r.length,zez];exact hl),λp hp=>q _ _ (s1.trans (Same.new hp)) ⟨zaay hp (zev hA hp) r,λ_=>⟨p,rfl,s1.free hp,ztw hp r⟩⟩⟩
 ·cases hr
def zakr:EF:=λ_=>some ⟨.dict [],true,[]⟩
theorem zauu:SE tDNewK zakr:=by
 intro fx H0 env σ H h rr hr Q q
 cases hr
 intro p hp
 have hA:=h.lims []
 exact q _ _ (Same.new hp) ⟨zqf (by rw[Offs.get (zev hA hp)];exact zal) zqg,λ_=>⟨p,rfl,hp,⟨[],zal,zqg⟩⟩⟩
def eD1(k v:EF):EF:=λenv=>(k env).bind λx=>(v env).bind λy=>(keyD x.d).bind λ_=>some ⟨.dict [(x.d,y.d)],true,y.bs⟩
theorem zbcd(h1:SE tk f)(h2:SE tv g):SE (tDisp [(tk,tv)]) (eD1 f g):=by
 intro fx H0 env σ H h rr hr Q q
 unfold eD1 at hr
 obtain⟨x,ex,hr⟩:=qA.mp hr
 obtain⟨y,ey,hr⟩:=qA.mp hr
 obtain⟨k,ek,hr⟩:=qA.mp hr
 cases hr
 intro p hp
 have hp0:Same H (upd H p (.dK [])):=Same.new hp
 have npf:¬fx p:=zev h.fxs hp
 have hE:EnvOk (λb=>fx b\/b=p) H0 env σ (upd H p (.dK [])):=h.grow hp0 (λb o e n z=>z.elim n λy=>by rw[y,hp]at e;cases e) λb z=>by
  rcases z with z|z
  ·obtain⟨o,e⟩:=h.fxs b z;exact⟨o,hp0 b o e⟩
  ·rw[z];exact⟨_,zal⟩
 refine h1 _ H0 env σ _ hE x ex _ λv H1 s1 v1=>h2 _ H0 env σ H1 (hE.up s1) y ey _ λu H2 s2 v2=>?_
 have ep:H2 p=some (.dK []):=(s1.trans s2) _ _ zal
 refine⟨ep,[(k,u)],by rw[zapi v1.rp ek];rfl,(by show 1<=15;decide),?_⟩
 have em:zom [] [(k,u)]=[(k,u)]:=rfl
 rw[em]
 have rp2:Rp (Offs (λb=>lim fx env σ y.bs b\/b=p) (upd H2 p (.dK [(k,u)]))) y.d u:=by
  rw[Offs.upd (.inr rfl)]
  exact Rp.same (Offs.sub λb z=>by
   rcases z with(z|z)|z
   ·exact .inl (.inl z)
   ·exact .inr z
   ·exact .inl (.inr z)) _ v2.rp
 have hs:Same H (upd H2 p (.dK [(k,u)])):=λb o e=>by
  rw[zap (zay e hp)]
  exact s2 _ _ (s1 _ _ (hp0 _ _ e))
 have hnp:¬lim fx env σ y.bs p:=zev (h.lims y.bs) hp
 refine q _ _ hs ⟨zqf (by rw[Offs.get hnp];exact zal) (zmd ek (Rp.same (Offs.sub λb z=>.inl z) _ rp2) zqg),λ_=>⟨p,rfl,hp,⟨_,zal,zmd ek rp2 zqg⟩⟩⟩
abbrev GF:=List PyData->Option (PyData×Bool)
def SC(r:List V->Hp->VK->Prop)(g:GF):Prop:=∀(A:Addr->Prop)(H:Hp)(vs:List V)(ds:List PyData),(∀b,A b->∃o,H b=some o)->Rps (Offs A H) ds vs->∀d fr,g ds=some (d,fr)->∀Q:VK,
 (∀v H',Same H H'->Rp (Offs A H') d v->(fr=true->∃a,v=.ref a/\H a=none/\zhz (Offs (λb=>A b\/b=a) H') H' a d)->Q v H')->r vs H Q
def eCB(g:GF)(f:AF):EF:=λenv=>(f env).bind λrs=>(g (zds rs)).bind λz=>some ⟨z.1,z.2,bsOf z.1 (bss rs)⟩
theorem zazg{r:List V->Hp->VK->Prop}(hc:SC r g)(ha:SA ta f):SE (tCB r ta) (eCB g f):=by
 intro fx H0 env σ H h rr hr Q q
 unfold eCB at hr
 obtain⟨rs,er,hr⟩:=qA.mp hr
 obtain⟨⟨d,fr⟩,ez,hr⟩:=qA.mp hr
 cases hr
 refine ha fx H0 env σ H h rs er _ λvs H1 s1 v1=>hc (lim fx env σ (bss rs)) H1 vs (zds rs) ((h.up s1).lims _) (zfd (λi hi=>hi) v1) d fr ez _ λw H3 s3 rp fr3=>q w H3 (s1.trans s3) ⟨ztv rp,λe=>?_⟩
 obtain⟨a,g1,g2,g3⟩:=fr3 e
 refine⟨a,g1,s1.free g2,?_⟩
 have nf:zfo d=false:=by cases d<;>first|rfl|exact g3.elim
 show zhz (Offs (λb=>lim fx env σ (bsOf d (bss rs)) b\/b=a) H3) H3 a d
 rw[show bsOf d (bss rs)=bss rs by unfold bsOf;rw[if_neg (by rw[nf];decide)]]
 exact g3
theorem rps1(h:Rps H [d] vs):∃v,vs=[v]/\Rp H d v:=by
 unfold Rps at h
 obtain⟨v,ws,rfl,h1,h2⟩:=h
 unfold Rps at h2
 subst h2
 exact⟨v,rfl,h1⟩
theorem rps2(h:Rps H [d,e] vs):∃v u,vs=[v,u]/\Rp H d v/\Rp H e u:=by
 unfold Rps at h
 obtain⟨v,ws,rfl,h1,h2⟩:=h
 obtain⟨u,rfl,h3⟩:=rps1 h2
 exact⟨v,u,rfl,h1,h3⟩
def lenD:GF
 | [.str x]=>if x.length<=100000 then some (.int x.length,false)else none
 | [.list ds]=>some (.int ds.length,false)
 | [.tuple ds]=>some (.int ds.length,false)
 | _=>none
theorem zazh{K:qB}:SC (λxs H Q=>∃x n,xs=[x]/\LenV K x H n/\Q (.int n) H) lenD:=by
 intro A H vs ds hA rv d fr e Q q
 unfold lenD at e
 split at e
 ·split at e
  ·rename_i hl
   cases e
   obtain⟨v,rfl,r⟩:=rps1 rv
   cases zor r
   exact⟨_,_,rfl,⟨zgq hl,rfl⟩,q _ H (Same.refl _) zby (λz=>by cases z)⟩
  ·cases e
 ·cases e
  obtain⟨v,rfl,r⟩:=rps1 rv
  obtain⟨a,xs,rfl,h1,h2⟩:=zfs r
  exact⟨_,_,rfl,.inl ⟨xs,SqL.of (zdv h1),rfl⟩,by rw[<- h2.length];exact q _ H (Same.refl _) zby (λz=>by cases z)⟩
 ·cases e
  obtain⟨v,rfl,r⟩:=rps1 rv
  obtain⟨a,xs,rfl,h1,h2⟩:=zdx r
  exact⟨_,_,rfl,.inr ⟨xs,SqT.of (zdv h1),rfl⟩,by rw[<- h2.length];exact q _ H (Same.refl _) zby (λz=>by cases z)⟩
 ·cases e
def minD:GF
 | [.int i,.int j]=>some (.int (if j<i then j else i),false)
 | _=>none
theorem zazi:SC (λxs H Q=>∃i j,xs=[.int i,.int j]/\Q (.int (if j<i then j else i)) H) minD:=by
 intro A H vs ds hA rv d fr e Q q
 unfold minD at e
 split at e
 ·cases e
  obtain⟨v,u,rfl,r1,r2⟩:=rps2 rv
  cases zeh r1;cases zeh r2
  exact⟨_,_,rfl,q _ H (Same.refl _) zby (λz=>by cases z)⟩
 ·cases e
def zmo:GF
 | [c]=>(zgg c).map λds=>(.list ds,true)
 | _=>none
theorem zauv{K:qB}:SC (λxs H Q=>∃p ys,xs=[.ref p]/\(SqL K H p ys\/SqT K H p ys)/\∀l,H l=none->Q (.ref l) (upd H l (.lst ys))) zmo:=by
 intro A H vs ds hA rv d fr e Q q
 unfold zmo at e
 split at e
 ·obtain⟨es,he,e⟩:=qG.mp e
  cases e
  obtain⟨v,rfl,r1⟩:=rps1 rv
  obtain⟨p,xs,rfl,hq,r⟩:=zafn (K:=K) r1 he
  refine⟨p,xs,rfl,hq.imp (Offs.same A H).seq (SqT.same (Offs.same A H)),λl hl=>?_⟩
  exact q _ _ (Same.new hl) (zaay hl (zev hA hl) r) λ_=>⟨l,rfl,hl,ztw hl r⟩
 ·cases e
def zco:GF
 | [c]=>(zgg c).map λds=>(.tuple ds,false)
 | _=>none
theorem zapj{K:qB}:SC (λxs H Q=>∃p ys,xs=[.ref p]/\((SqL K H p ys/\∀l,H l=none->Q (.ref l) (upd H l (.tup ys)))\/(SqT K H p ys/\Q (.ref p) H))) zco:=by
 intro A H vs ds hA rv d fr e Q q
 unfold zco at e
 split at e
 ·obtain⟨es,he,e⟩:=qG.mp e
  cases e
  obtain⟨v,rfl,r1⟩:=rps1 rv
  rename_i c
  cases c with
  | list ds=>
   cases he
   obtain⟨p,xs,rfl,h1,r⟩:=zfs r1
   exact⟨p,xs,rfl,.inl ⟨SqL.of (zdv h1),λl hl=>q _ _ (Same.new hl) (znl hl (zev hA hl) r) (λz=>by cases z)⟩⟩
  | tuple ds=>
   cases he
   obtain⟨p,xs,rfl,h1,r⟩:=zdx r1
   exact⟨p,xs,rfl,.inr ⟨SqT.of (zdv h1),q _ H (Same.refl _) r1 (λz=>by cases z)⟩⟩
  | _=>cases he
 ·cases e
def zot:List PyData->Option (List Bool)
 | []=>some []
 | .bool b::r=>(zot r).map λbs=>b::bs
 | _=>none
theorem zaaz:∀{ds:List PyData}{vs:List V}{bs:List Bool},Rps H ds vs->zot ds=some bs->vs=bs.map V.bl
 | [],vs,bs,h,e=>by unfold Rps at h;cases e;exact h
 | d::ds,vs,bs,h,e=>by
  unfold Rps at h
  obtain⟨v,ws,rfl,h1,h2⟩:=h
  cases d with
  | bool b=>
   obtain⟨cs,ec,rfl⟩:=qG.mp e
   rw[znk h1,zaaz h2 ec];rfl
  | _=>cases e
def anyD(f:List Bool->Bool):GF
 | [.list ds]=>(zot ds).map λbs=>(.bool (f bs),false)
 | _=>none
theorem zazj{K:qB}{f:List Bool->Bool}:SC (rAny K f) (anyD f):=by
 intro A H vs ds hA rv d fr e Q q
 unfold anyD at e
 split at e
 ·obtain⟨bs,he,e⟩:=qG.mp e
  cases e
  obtain⟨v,rfl,r1⟩:=rps1 rv
  obtain⟨p,xs,rfl,h1,r⟩:=zfs r1
  cases zaaz r he
  exact⟨p,bs,rfl,SqL.of (zdv h1),q _ H (Same.refl _) zbv (λz=>by cases z)⟩
 ·cases e
def zaba:PyData->String
 | .none=>"NoneType"|.bool _=>"bool"|.int _=>"int"|.str _=>"str"|.list _=>"list"|.tuple _=>"tuple"|.dict _=>"dict"
theorem zbce{K:qB}{H:Hp}{d:PyData}{v:V}(h:Rp H d v):TyOf K H v (.type (zaba d)):=by
 cases d with
 | list ds=>obtain⟨a,xs,rfl,h1,_⟩:=zfs h;exact .lst h1
 | tuple ds=>obtain⟨a,xs,rfl,h1,_⟩:=zdx h;exact .tup h1
 | dict ds=>obtain⟨a,xs,rfl,h1,_⟩:=ztr h;exact .dK h1
 | none=>cases zadt h;exact .non
 | bool b=>cases znk h;exact .bl _
 | int b=>cases zeh h;exact .int _
 | str b=>cases zor h;exact .str _
def isiB(n:String)(d:PyData):Bool:=zaba d==n||(zaba d=="bool"&&n=="int")
def eIsi(n:String)(a:EF):EF:=λenv=>(a env).map λx=>⟨.bool (isiB n x.d),false,[]⟩
theorem zaks{K:qB}{n:String}{te:TE}{f:EF}(h1:SE te f)(hk:∀d,kitOne K (.type (zaba d)) (.type n)=some (isiB n d)) :
  SE (tCB (λxs H Q=>∃x n t b,xs=[x,.ty n]/\TyOf K H x t/\kitOne K t (.type n)=some b/\Q (.bl b) H) (tCons te (tCons (tC (.ty n)) tNil))) (eIsi n f):=by
 intro fx H0 env σ H h rr hr Q q
 unfold eIsi at hr
 obtain⟨x,ex,rfl⟩:=qG.mp hr
 refine h1 fx H0 env σ H h _ ex _ λv H1 s1 v1=>?_
 exact⟨v,n,_,_,rfl,zbce (Rp.same (Offs.same _ _) _ v1.rp),hk _,q _ H1 s1 ⟨zbv,λz=>by cases z⟩⟩
theorem zty{K:qB}:∀d,kitOne K (.type (zaba d)) (.type "tuple")=some (isiB "tuple" d):=by intro d;cases d<;>rfl
abbrev PF':=DEnv->Option (Option Int)
def SPt(t:TO)(f:PF'):Prop:=∀(fx:Addr->Prop)(H0:Hp)(env:DEnv)(σ:St)(H:Hp),EnvOk fx H0 env σ H->∀r,f env=some r->∀Q:Option Int->Hp->Prop,(∀H',Same H H'->Q r H')->t σ H Q
def zef:PF':=λ_=>some none
def zbe(a:EF):PF':=λenv=>(a env).bind λx=>match x.d with|.int i=>some (some i)|_=>none
theorem zakt:SPt tNoPart zef:=by
 intro fx H0 env σ H h r hr Q q
 cases hr
 exact q H (Same.refl _)
theorem zyz(h1:SE te f):SPt (tPart te) (zbe f):=by
 intro fx H0 env σ H h r hr Q q
 unfold zbe at hr
 obtain⟨⟨d,fr,bs⟩,ex,hr⟩:=qA.mp hr
 cases d with
 | int i=>
  cases hr
  exact h1 fx H0 env σ H h _ ex _ λv H1 s1 v1=>⟨i,zeh v1.rp,q H1 s1⟩
 | _=>cases hr
def cutD(xs:List PyData)(lo hi:Option Int):List PyData:=(xs.drop (HT.sIx xs.length 0 lo)).take (HT.sIx xs.length xs.length hi - HT.sIx xs.length 0 lo)
theorem Rps.drop{ds:List PyData}{vs:List V}(h:Rps H ds vs)(n:Nat):Rps H (ds.drop n) (vs.drop n):=by
 induction n generalizing ds vs with
 | zero=>exact h
 | succ n ih=>
  cases ds with
  | nil=>unfold Rps at h;subst h;exact zcz
  | cons d ds=>unfold Rps at h;obtain⟨v,ws,rfl,h1,h2⟩:=h;exact ih h2
theorem Rps.take{ds:List PyData}{vs:List V}(h:Rps H ds vs)(n:Nat):Rps H (ds.take n) (vs.take n):=by
 induction n generalizing ds vs with
 | zero=>exact zcz
 | succ n ih=>
  cases ds with
  | nil=>unfold Rps at h;subst h;exact zcz
  | cons d ds=>unfold Rps at h;obtain⟨v,ws,rfl,h1,h2⟩:=h;exact zcx h1 (ih h2)
theorem Rps.cut(h:Rps H ds vs)(lo hi:Option Int):Rps H (cutD ds lo hi) (cutV vs lo hi):=by
 unfold cutD cutV
 rw[<- h.length]
 exact(h.drop _).take _
def slD(d:PyData)(lo hi:Option Int):Option (PyData×Bool):=match d with
 | .str z=>if z.length<=100000 then some (.str (Txt.slice z lo hi),false)else none
 | .list ds=>some (.list (cutD ds lo hi),true)
 | _=>none
def eSl(a:EF)(l h:PF'):EF:=λenv=>(a env).bind λx=>(l env).bind λlo=>(h env).bind λhi=>(slD x.d lo hi).bind λz=>some ⟨z.1,z.2,bsOf z.1 x.bs⟩
theorem zbcf{K:qB}{te:TE}{tl th:TO}{f:EF}{fl fh:PF'}(h1:SE te f)(h2:SPt tl fl)(h3:SPt th fh):SE (tSl (rSlU K) te tl th) (eSl f fl fh):=by
 intro fx H0 env σ H h rr hr Q q
 unfold eSl at hr
 obtain⟨⟨d,frd,bs⟩,ex,hr⟩:=qA.mp hr
 obtain⟨lo,el,hr⟩:=qA.mp hr
 obtain⟨hi,eh,hr⟩:=qA.mp hr
 obtain⟨⟨d',fr'⟩,ez,hr⟩:=qA.mp hr
 cases hr
 refine h1 fx H0 env σ H h _ ex _ λv H1 s1 v1=>h2 fx H0 env σ H1 (h.up s1) _ el _ λH2 s2=>h3 fx H0 env σ H2 (h.up (s1.trans s2)) _ eh _ λH3 s3=>?_
 have v3:=(v1.later (Same.refl _) (s2.trans s3) λ_ z=>z).rp
 have t3:=(s1.trans s2).trans s3
 cases d with
 | str z=>
  have ez:(if z.length<=100000 then some (PyData.str (Txt.slice z lo hi),false)else none)=some (d',fr'):=ez
  split at ez
  ·rename_i hl
   cases ez
   cases zor v3
   exact⟨zgq hl,q _ H3 t3 ⟨zhg,λz=>by cases z⟩⟩
  ·cases ez
 | list ds=>
  cases ez
  obtain⟨p,xs,rfl,hp,r⟩:=zfs v3
  refine⟨p,xs,rfl,SqL.of (zdv hp),λl hl=>q _ _ (t3.trans (Same.new hl)) ?_⟩
  have hA:=(h.up t3).lims bs
  exact⟨zaay hl (zev hA hl) (r.cut lo hi),λ_=>⟨l,rfl,t3.free hl,ztw hl (r.cut lo hi)⟩⟩
 | _=>cases ez
def zady(fx:Addr->Prop)(H0:Hp)(d:PyData)(fr:Bool)(v:V)(H:Hp):Prop:=Rp (Offs fx H) d v/\(fr=true->∃a,v=.ref a/\H0 a=none/\zhz (Offs (λb=>fx b\/b=a) H) H a d)
def spD(n:Nat)(g:GF):Sp:=λvs H Q _=>∃(fx:Addr->Prop)(ds:List PyData)(d:PyData)(fr:Bool),ds.length=n/\(∀b,fx b->∃o,H b=some o)/\Rps (Offs fx H) ds vs/\g ds=some (d,fr)/\∀v H',Same H H'->zady fx H d fr v H'->Q v H'
def zau(n:Nat)(g:GF)(f:AF):EF:=λenv=>(f env).bind λrs=>if rs.length=n then(g (zds rs)).bind λz=>some ⟨z.1,z.2,bsOf z.1 (bss rs)⟩else none
theorem zauw(ha:SA ta f):SE (tCall (spD n g) [] E0 ta) (zau n g f):=by
 intro fx H0 env σ H h rr hr Q q
 unfold zau at hr
 obtain⟨rs,er,hr⟩:=qA.mp hr
 split at hr
 ·rename_i hn
  obtain⟨⟨d,fr⟩,ez,hr⟩:=qA.mp hr
  cases hr
  refine ha fx H0 env σ H h rs er _ λvs H1 s1 v1=>?_
  rw[qw]
  refine⟨lim fx env σ (bss rs),zds rs,d,fr,by rw[zez];exact hn,(h.up s1).lims _,zfd (λi hi=>hi) v1,ez,λw H3 s3 ⟨rp,fr3⟩=>q w H3 (s1.trans s3) ⟨ztv rp,λe=>?_⟩⟩
  obtain⟨a,g1,g2,g3⟩:=fr3 e
  refine⟨a,g1,s1.free g2,?_⟩
  have nf:zfo d=false:=by cases d<;>first|rfl|exact g3.elim
  show zhz (Offs (λb=>lim fx env σ (bsOf d (bss rs)) b\/b=a) H3) H3 a d
  rw[show bsOf d (bss rs)=bss rs by unfold bsOf;rw[if_neg (by rw[nf];decide)]]
  exact g3
 ·cases hr
inductive Out where
 | nx (env:DEnv)
 | bk (env:DEnv)
 | ct (env:DEnv)
 | rt (d:PyData) (fr:Bool)
def Sat(fx:Addr->Prop)(H0:Hp)(D:Ends):Out->Prop
 | .nx env=>∀σ H,EnvOk fx H0 env σ H->D.nx σ H
 | .bk env=>∀σ H,EnvOk fx H0 env σ H->D.bk σ H
 | .ct env=>∀σ H,EnvOk fx H0 env σ H->D.ct σ H
 | .rt d fr=>∀v H,Same H0 H->zady fx H0 d fr v H->D.rt v H
abbrev SF:=DEnv->Option Out
def SS(ts:TS)(F:SF):Prop:=∀(fx:Addr->Prop)(H0:Hp)(env:DEnv)(σ:St)(H:Hp)(D:Ends),EnvOk fx H0 env σ H->∀o,F env=some o->Sat fx H0 D o->ts D σ H
def frz1(env:DEnv)(i:Nat):DEnv:=match env[i]? with
 | some (.ac d)=>env.set i (.pl d)
 | _=>env
def frzs(env:DEnv)(bs:List Nat):DEnv:=bs.foldl frz1 env
theorem zafp(env:DEnv)(i:Nat):(frz1 env i).length=env.length:=by
 unfold frz1;split
 ·rw[qd]
 ·rfl
theorem zcp{l:List α}(h:(l.set i x)[j]?=some y):(j=i/\y=x)\/(j≠i/\l[j]?=some y):=by
 rw[List.getElem?_set]at h
 by_cases e:i=j
 ·subst e
  rw[if_pos rfl]at h
  split at h
  ·exact .inl ⟨rfl,(qX h).symm⟩
  ·cases h
 ·rw[if_neg e]at h
  exact .inr ⟨λz=>e z.symm,h⟩
theorem zqh(h:(frz1 env i)[j]?=some (.ac d)):env[j]?=some (.ac d)/\j≠i:=by
 unfold frz1 at h
 split at h
 ·rcases zcp h with⟨_,e⟩|⟨e,h⟩
  ·cases e
  ·exact⟨h,e⟩
 ·rename_i hn
  refine⟨h,λe=>?_⟩
  subst e
  exact hn d h
theorem zaux(h:(frz1 env i)[j]?=some (.pl d)):env[j]?=some (.pl d)\/(j=i/\env[i]?=some (.ac d)):=by
 unfold frz1 at h
 split at h
 ·rename_i d' hd
  rcases zcp h with⟨e1,e⟩|⟨e,h⟩
  ·cases e;exact .inr ⟨e1,hd⟩
  ·exact .inl h
 ·exact .inl h
theorem zapk:∀a,own (frz1 env i) σ a->own env σ a:=by
 rintro a ⟨j,d,h1,h2⟩
 exact⟨j,d,(zqh h1).1,h2⟩
theorem EnvOk.frz1{fx:Addr->Prop}(h:EnvOk fx H0 env σ H)(i:Nat):EnvOk fx H0 (frz1 env i) σ H:=by
 have so:Same (Offs (λa=>fx a\/own env σ a) H) (Offs (λa=>fx a\/own (L2.frz1 env i) σ a) H):=Offs.sub λb z=>z.imp (λy=>y) (zapk b)
 refine⟨by rw[zafp];exact h.len,λj d e=>?_,λj d e=>?_,λj k d d' a h1 h2 h3 h4=>h.inj j k d d' a (zqh h1).1 (zqh h2).1 h3 h4,h.base,h.fxs⟩
 ·rcases zaux e with e|⟨rfl,e⟩
  ·obtain⟨v,h1,h2⟩:=h.pl j d e
   exact⟨v,h1,Rp.same so _ h2⟩
  ·obtain⟨a,h1,h2,h3,h4⟩:=h.ac j d e
   refine⟨_,h1,h4.rp so λo eo=>?_⟩
   rw[Offs.get]
   ·exact eo
   ·rintro(z|⟨k,d',z1,z2⟩)
    ·exact h3 z
    ·obtain⟨z1,z3⟩:=zqh z1
     exact z3 (h.inj k j d' d a z1 e z2 h1)
 ·obtain⟨a,h1,h2,h3,h4⟩:=h.ac j d (zqh e).1
  exact⟨a,h1,h2,h3,h4.same so λo z=>z⟩
theorem EnvOk.frzs{fx:Addr->Prop}:∀(bs:List Nat){env:DEnv},EnvOk fx H0 env σ H->EnvOk fx H0 (frzs env bs) σ H
 | [],_,h=>h
 | i::bs,_,h=>EnvOk.frzs bs (h.frz1 i)
theorem zaku:∀{bs:List Nat}{env:DEnv}{j:Nat}{d:PyData},(frzs env bs)[j]?=some (.ac d)->env[j]?=some (.ac d)/\j∉bs
 | [],_,_,_,h=>⟨h,by simp⟩
 | i::bs,env,j,d,h=>by
  obtain⟨h1,h2⟩:=zaku (bs:=bs) h
  obtain⟨h3,h4⟩:=zqh h1
  exact⟨h3,by simp[h4,h2]⟩
theorem zfe{fx:Addr->Prop}:∀a,fx a\/own (frzs env bs) σ a->lim fx env σ bs a:=by
 rintro a (z|⟨i,d,h1,h2⟩)
 ·exact .inl z
 ·obtain⟨h3,h4⟩:=zaku h1
  exact .inr ⟨i,d,h4,h3,h2⟩
theorem zakv{env:DEnv}{σ:St}:∀a,own (env.set i (.pl d)) (σ.set i (some v)) a->own env σ a:=by
 rintro a ⟨j,e,h1,h2⟩
 rcases zcp h1 with⟨_,z⟩|⟨ne,h1⟩
 ·cases z
 ·rcases zcp h2 with⟨z,_⟩|⟨_,h2⟩
  ·exact absurd z ne
  ·exact⟨j,e,h1,h2⟩
theorem EnvOk.setPl{fx:Addr->Prop}{env:DEnv}{σ:St}(h:EnvOk fx H0 env σ H)(i:Nat)(r:Rp (Offs (λa=>fx a\/own env σ a) H) d v):EnvOk fx H0 (env.set i (.pl d)) (σ.set i (some v)) H:=by
 have so:Same (Offs (λa=>fx a\/own env σ a) H) (Offs (λa=>fx a\/own (env.set i (.pl d)) (σ.set i (some v)) a) H):=Offs.sub λb z=>z.imp (λy=>y) (zakv b)
 have kept:∀{j:Nat},j≠i->(σ.set i (some v))[j]?=σ[j]?:=λ{j} n=>qa λz=>n z.symm
 refine⟨by rw[qd,qd];exact h.len,λj e hj=>?_,λj e hj=>?_,λj k d1 d2 a h1 h2 h3 h4=>?_,h.base,h.fxs⟩
 ·rcases zcp hj with⟨rfl,z⟩|⟨ne,hj'⟩
  ·cases z
   have hl:j<env.length:=by have:=(qS.mp hj).1;rwa [qd]at this
   exact⟨v,by rw[qm (by rw[<- h.len];exact hl)],Rp.same so _ r⟩
  ·obtain⟨u,h1,h2⟩:=h.pl j e hj'
   exact⟨u,by rw[kept ne];exact h1,Rp.same so _ h2⟩
 ·rcases zcp hj with⟨_,z⟩|⟨ne,hj'⟩
  ·cases z
  ·obtain⟨a,h1,h2,h3,h4⟩:=h.ac j e hj'
   exact⟨a,by rw[kept ne];exact h1,h2,h3,h4.same so λo z=>z⟩
 ·rcases zcp h1 with⟨_,z⟩|⟨n1,h1⟩
  ·cases z
  rcases zcp h2 with⟨_,z⟩|⟨n2,h2⟩
  ·cases z
  rw[kept n1]at h3
  rw[kept n2]at h4
  exact h.inj j k d1 d2 a h1 h2 h3 h4
theorem EnvOk.setAc {fx:Addr->Prop} {env:DEnv} {σ:St} (h:EnvOk (λb=>fx b\/b=a) H0 env σ H) (i:Nat) (r:zhz (Offs (λb=>(fx b\/own env σ b)\/b=a) H) H a d) (h0:H0 a=none) (hf:¬fx a) :
  EnvOk fx H0 (env.set i (.ac d)) (σ.set i (some (.ref a))) H:=by
 have kept:∀{j:Nat},j≠i->(σ.set i (some (V.ref a)))[j]?=σ[j]?:=λ{j} n=>qa λz=>n z.symm
 have sub:∀b,fx b\/own (env.set i (.ac d)) (σ.set i (some (.ref a))) b->(fx b\/b=a)\/own env σ b:=by
  rintro b (z|⟨j,e,h1,h2⟩)
  ·exact .inl (.inl z)
  ·rcases zcp h1 with⟨rfl,z⟩|⟨ne,h1⟩
   ·have hl:j<env.length:=by have:=(qS.mp ‹(env.set j (.ac d))[j]?=_›).1;rwa [qd]at this
    rw[qm (by rw[<- h.len];exact hl)]at h2
    cases h2
    exact .inl (.inr rfl)
   ·rw[kept ne]at h2
    exact .inr ⟨j,e,h1,h2⟩
 have so:Same (Offs (λb=>(fx b\/b=a)\/own env σ b) H) (Offs (λb=>fx b\/own (env.set i (.ac d)) (σ.set i (some (.ref a))) b) H):=Offs.sub sub
 have so2:Same (Offs (λb=>(fx b\/own env σ b)\/b=a) H) (Offs (λb=>fx b\/own (env.set i (.ac d)) (σ.set i (some (.ref a))) b) H):=Offs.sub λb z=>by
  rcases sub b z with(y|y)|y
  ·exact .inl (.inl y)
  ·exact .inr y
  ·exact .inl (.inr y)
 refine⟨by rw[qd,qd];exact h.len,λj e hj=>?_,λj e hj=>?_,λj k d1 d2 b h1 h2 h3 h4=>?_,h.base,λb z=>h.fxs b (.inl z)⟩
 ·rcases zcp hj with⟨_,z⟩|⟨ne,hj'⟩
  ·cases z
  ·obtain⟨u,h1,h2⟩:=h.pl j e hj'
   exact⟨u,by rw[kept ne];exact h1,Rp.same so _ h2⟩
 ·rcases zcp hj with⟨rfl,z⟩|⟨ne,hj'⟩
  ·cases z
   have hl:j<env.length:=by have:=(qS.mp hj).1;rwa [qd]at this
   exact⟨a,by rw[qm (by rw[<- h.len];exact hl)],h0,hf,r.same so2 λo z=>z⟩
  ·obtain⟨b,h1,h2,h3,h4⟩:=h.ac j e hj'
   exact⟨b,by rw[kept ne];exact h1,h2,λz=>h3 (.inl z),h4.same so λo z=>z⟩
 ·rcases zcp h1 with⟨e1,z1⟩|⟨n1,h1'⟩<;>rcases zcp h2 with⟨e2,z2⟩|⟨n2,h2'⟩
  ·rw[e1,e2]
  ·subst e1
   have hl:j<env.length:=by have:=(qS.mp h1).1;rwa [qd]at this
   rw[qm (by rw[<- h.len];exact hl)]at h3
   rw[kept n2]at h4
   cases h3
   obtain⟨b,g1,g2,g3,g4⟩:=h.ac k d2 h2'
   rw[h4]at g1
   cases g1
   exact absurd (.inr rfl) g3
  ·subst e2
   have hl:k<env.length:=by have:=(qS.mp h2).1;rwa [qd]at this
   rw[qm (by rw[<- h.len];exact hl)]at h4
   rw[kept n1]at h3
   cases h4
   obtain⟨b,g1,g2,g3,g4⟩:=h.ac j d1 h1'
   rw[h3]at g1
   cases g1
   exact absurd (.inr rfl) g3
  ·rw[kept n1]at h3
   rw[kept n2]at h4
   exact h.inj j k d1 d2 b h1' h2' h3 h4
def slOf(r:Val):Sl:=if r.fr=true then .ac r.d else .pl r.d
def putV(env:DEnv)(i:Nat)(r:Val):DEnv:=(frzs env r.bs).set i (slOf r)
theorem EnvOk.put{fx:Addr->Prop}{σ:St}(h:EnvOk fx H0 env σ H)(s:Same H H'){r:Val}(hv:ValOk (lim fx env σ r.bs) H H' r v)(i:Nat):EnvOk fx H0 (putV env i r) (σ.set i (some v)) H':=by
 unfold putV slOf
 cases e:r.fr with
 | false=>
  rw[if_neg qP]
  exact((h.up s).frzs r.bs).setPl i (Rp.same (Offs.sub zfe) _ hv.rp)
 | true=>
  rw[if_pos rfl]
  obtain⟨a,rfl,ha,hacc⟩:=hv.fr e
  have nfx:¬fx a:=zev h.fxs ha
  have g:EnvOk (λb=>fx b\/b=a) H0 env σ H':=h.grow s (λb o eo n z=>z.elim n λy=>by rw[y,ha]at eo;cases eo) λb z=>by
   rcases z with z|z
   ·obtain⟨o,eo⟩:=h.fxs b z;exact⟨o,s b o eo⟩
   ·rw[z];exact hacc.ex
  refine(g.frzs r.bs).setAc i (hacc.same (Offs.sub λb z=>?_) λo z=>z) (h.base.free ha) nfx
  rcases z with z|z
  ·exact .inl (zfe b z)
  ·exact .inr z
def sNil:SF:=λenv=>some (.nx env)
def sSeq(f g:SF):SF:=λenv=>(f env).bind λo=>match o with
 | .nx env'=>g env'
 | o=>some o
theorem zfl:SS tNext sNil:=by
 intro fx H0 env σ H D h o e q
 cases e
 exact q σ H h
theorem zat(h1:SS t f)(h2:SS u g):SS (tSeq t u) (sSeq f g):=by
 intro fx H0 env σ H D h o e q
 unfold sSeq at e
 obtain⟨o1,e1,e⟩:=qA.mp e
 refine h1 fx H0 env σ H _ h o1 e1 ?_
 cases o1 with
 | nx env'=>exact λσ' H' h'=>h2 fx H0 env' σ' H' D h' o e q
 | bk env'=>cases e;exact q
 | ct env'=>cases e;exact q
 | rt d fr=>cases e;exact q
def zafq:SF:=λ_=>none
theorem zafr:SS tNever zafq:=by
 intro fx H0 env σ H D h o e q
 cases e
def zahv(f:EF):SF:=λenv=>(f env).map λ_=>.nx env
theorem zakw(h1:SE te f):SS (tDrop te) (zahv f):=by
 intro fx H0 env σ H D h o e q
 unfold zahv at e
 obtain⟨r,er,rfl⟩:=qG.mp e
 exact h1 fx H0 env σ H h r er _ λv H' s _=>q σ H' (h.up s)
def sRet(f:EF):SF:=λenv=>(f env).map λr=>.rt r.d r.fr
theorem zms(h1:SE te f):SS (tRet te) (sRet f):=by
 intro fx H0 env σ H D h o e q
 unfold sRet at e
 obtain⟨r,er,rfl⟩:=qG.mp e
 refine h1 fx H0 env σ H h r er _ λv H' s hv=>q v H' (h.base.trans s) ⟨Rp.same (Offs.sub λb z=>.inl z) _ hv.rp,λz=>?_⟩
 obtain⟨a,g1,g2,g3⟩:=hv.fr z
 exact⟨a,g1,h.base.free g2,g3.same (Offs.sub λb y=>y.imp .inl id) λo z=>z⟩
def zmp(i:Nat):SF:=λenv=>match env[i]? with
 | some (.pl d)=>some (.rt d false)
 | some (.ac d)=>some (.rt d true)
 | _=>none
theorem zkp:SS (tRet (tVar i)) (zmp i):=by
 intro fx H0 env σ H D h o e q
 unfold zmp at e
 cases ei:env[i]? with
 | none=>rw[ei]at e;cases e
 | some sl=>
  rw[ei]at e
  cases sl with
  | no=>cases e
  | pl d=>
   cases e
   obtain⟨v,h1,h2⟩:=h.pl i d ei
   exact⟨v,h1,q v H h.base ⟨Rp.same (Offs.sub λb z=>.inl z) _ h2,λz=>by cases z⟩⟩
  | ac d=>
   cases e
   obtain⟨a,h1,h2,h3,h4⟩:=h.ac i d ei
   refine⟨_,h1,q _ H h.base ⟨h4.rp (Offs.sub λb z=>.inl z) λo eo=>by rw[Offs.get h3];exact eo,λ_=>⟨a,rfl,h2,h4.same (Offs.sub λb z=>?_) λo z=>z⟩⟩⟩
   rcases z with z|z
   ·exact .inl z
   ·rw[z];exact .inr ⟨i,d,ei,h1⟩
def sIf(c:TF)(f g:SF):SF:=λenv=>(c env).bind λb=>if b=true then f env else g env
theorem zig(hc:ST tc c)(h1:SS t f)(h2:SS u g):SS (tIfS tc t u) (sIf c f g):=by
 intro fx H0 env σ H D h o e q
 unfold sIf at e
 obtain⟨b,eb,e⟩:=qA.mp e
 refine hc fx H0 env σ H h b eb _ λH' s=>?_
 cases b with
 | true=>exact iteT (h1 fx H0 env σ H' D (h.up s) o e q)
 | false=>exact iteF (h2 fx H0 env σ H' D (h.up s) o e q)
def sSet(i:Nat)(f:EF):SF:=λenv=>(f env).map λr=>.nx (putV env i r)
theorem zrg(h1:SE te f):SS (tAsg te (gName i)) (sSet i f):=by
 intro fx H0 env σ H D h o e q
 unfold sSet at e
 obtain⟨r,er,rfl⟩:=qG.mp e
 exact h1 fx H0 env σ H h r er _ λv H' s hv=>q _ H' (h.put s hv i)
abbrev GT:=PyData->DEnv->Option DEnv
def SG(g:TG)(f:GT):Prop:=∀(fx:Addr->Prop)(H0:Hp)(env:DEnv)(σ:St)(H:Hp)(d:PyData)(v:V),EnvOk fx H0 env σ H->Rp (Offs (λa=>fx a\/own env σ a) H) d v->∀env',f d env=some env'->∀Q:St->Hp->Prop,
 (∀σ',EnvOk fx H0 env' σ' H->Q σ' H)->g v σ H Q
abbrev GTs:=List PyData->DEnv->Option DEnv
def SGs(g:TGs)(f:GTs):Prop:=∀(fx:Addr->Prop)(H0:Hp)(env:DEnv)(σ:St)(H:Hp)(ds:List PyData)(vs:List V),EnvOk fx H0 env σ H->Rps (Offs (λa=>fx a\/own env σ a) H) ds vs->∀env',f ds env=some env'->∀Q:St->Hp->Prop,
 (∀σ',EnvOk fx H0 env' σ' H->Q σ' H)->g vs σ H Q
def gN(i:Nat):GT:=λd env=>some (env.set i (.pl d))
theorem zdp:SG (gName i) (gN i):=by
 intro fx H0 env σ H d v h r env' e Q q
 cases e
 exact q _ (h.setPl i r)
def zdt:GTs:=λds env=>match ds with|[]=>some env|_=>none
def zar(i:Nat)(g:GTs):GTs:=λds env=>match ds with|d::r=>g r (env.set i (.pl d))|[]=>none
theorem zjb:SGs gNil zdt:=by
 intro fx H0 env σ H ds vs h r env' e Q q
 cases ds with
 | nil=>cases e;unfold Rps at r;exact⟨r,q _ h⟩
 | cons _ _=>cases e
theorem zca(h1:SGs t g):SGs (gCons (gName i) t) (zar i g):=by
 intro fx H0 env σ H ds vs h r env' e Q q
 cases ds with
 | nil=>cases e
 | cons d ds=>
  unfold Rps at r
  obtain⟨v,ws,rfl,r1,r2⟩:=r
  refine⟨v,ws,rfl,h1 fx H0 (env.set i (.pl d)) _ H ds ws (h.setPl i r1) (Rps.same (Offs.sub λb z=>z.imp (λy=>y) (zakv b)) _ r2) env' e Q q⟩
def gT(n:Nat)(g:GTs):GT:=λd env=>match d with|.tuple ds=>if ds.length=n then g ds env else none|_=>none
theorem zou{K:qB}{n:Nat}{t:TGs}{g:GTs}(h1:SGs t g):SG (gTup K n t) (gT n g):=by
 intro fx H0 env σ H d v h r env' e Q q
 unfold gT at e
 cases d with
 | tuple ds=>
  have e:(if ds.length=n then g ds env else none)=some env':=e
  split at e
  ·rename_i hn
   obtain⟨a,xs,rfl,ha,rs⟩:=zdx r
   exact⟨a,xs,rfl,SqT.of (zdv ha),by rw[<- rs.length];exact hn,h1 fx H0 env σ H ds xs h rs env' e Q q⟩
  ·cases e
 | _=>cases e
def sAsg(f:EF)(g:GT):SF:=λenv=>(f env).bind λr=>(g r.d (frzs env r.bs)).map .nx
theorem zasg(h1:SE te f)(h2:SG g gf):SS (tAsg te g) (sAsg f gf):=by
 intro fx H0 env σ H D h o e q
 unfold sAsg at e
 obtain⟨r,er,e⟩:=qA.mp e
 obtain⟨env',e',rfl⟩:=qG.mp e
 exact h1 fx H0 env σ H h r er _ λv H' s hv=>h2 fx H0 _ σ H' r.d v ((h.up s).frzs r.bs) (Rp.same (Offs.sub zfe) _ hv.rp) env' e' _ λσ' h'=>q σ' H' h'
theorem EnvOk.mut{fx:Addr->Prop}{env:DEnv}(h:EnvOk fx H0 env σ H)(e:env[i]?=some (.ac d))(ea:σ[i]?=some (some (.ref a)))
  (r:zhz (Offs (λb=>fx b\/own env σ b) H) (upd H a o) a d'):EnvOk fx H0 (env.set i (.ac d')) σ (upd H a o):=by
 have hl:i<env.length:=(qS.mp e).1
 have oa:own env σ a:=⟨i,d,e,ea⟩
 have ow:∀b,own (env.set i (.ac d')) σ b↔own env σ b:=by
  intro b
  constructor
  ·rintro⟨j,d1,h1,h2⟩
   rcases zcp h1 with⟨rfl,z⟩|⟨ne,h1⟩
   ·exact⟨j,d,e,h2⟩
   ·exact⟨j,d1,h1,h2⟩
  ·rintro⟨j,d1,h1,h2⟩
   by_cases hj:j=i
   ·subst hj;exact⟨j,d',by rw[qm hl],h2⟩
   ·exact⟨j,d1,by rw[qa λz=>hj z.symm];exact h1,h2⟩
 have so:Same (Offs (λb=>fx b\/own env σ b) H) (Offs (λb=>fx b\/own (env.set i (.ac d')) σ b) (upd H a o)):=by
  have:Same (Offs (λb=>fx b\/own env σ b) (upd H a o)) (Offs (λb=>fx b\/own (env.set i (.ac d')) σ b) (upd H a o)):=Offs.sub λb z=>z.imp (λy=>y) (ow b).mp
  rw[Offs.upd (.inr oa)]at this
  exact this
 obtain⟨a',g1,g2,g3,g4⟩:=h.ac i d e
 rw[ea]at g1
 cases g1
 refine⟨by rw[qd];exact h.len,λj d1 hj=>?_,λj d1 hj=>?_,λj k d1 d2 b h1 h2 h3 h4=>?_,λb u eb=>by rw[zap (zay eb g2)];exact h.base b u eb,λb z=>?_⟩
 ·rcases zcp hj with⟨_,z⟩|⟨ne,hj'⟩
  ·cases z
  ·obtain⟨u,h1,h2⟩:=h.pl j d1 hj'
   exact⟨u,h1,Rp.same so _ h2⟩
 ·rcases zcp hj with⟨rfl,z⟩|⟨ne,hj'⟩
  ·cases z
   exact⟨a,ea,g2,g3,r.same so λo z=>z⟩
  ·obtain⟨b,h1,h2,h3,h4⟩:=h.ac j d1 hj'
   refine⟨b,h1,h2,h3,h4.same so λo' z=>?_⟩
   rw[zap λy=>ne (h.inj j i d1 d a hj' e (by rw[<- y];exact h1) ea)]
   exact z
 ·have f:∀{j:Nat}{d1:PyData},(env.set i (.ac d'))[j]?=some (.ac d1)->∃d2,env[j]?=some (.ac d2):=λ{j d1} hj=>by
   rcases zcp hj with⟨rfl,z⟩|⟨ne,hj'⟩
   ·exact⟨d,e⟩
   ·exact⟨d1,hj'⟩
  obtain⟨e1,h1⟩:=f h1
  obtain⟨e2,h2⟩:=f h2
  exact h.inj j k e1 e2 b h1 h2 h3 h4
 ·obtain⟨u,eu⟩:=h.fxs b z
  exact⟨u,by rw[zap λy=>g3 (by rw[<- y];exact z)];exact eu⟩
def sApp(i:Nat)(f:EF):SF:=λenv=>match env[i]? with
 | some (.ac (.list ds))=>(f env).bind λr=>if ds.length<100000/\i∉r.bs then some (.nx ((frzs env r.bs).set i (.ac (.list (ds++[r.d])))))else none
 | _=>none
theorem zjc:∀{bs:List Nat},i∉bs->env[i]?=some (.ac d)->(frzs env bs)[i]?=some (.ac d):=by
 intro bs
 induction bs generalizing env with
 | nil=>intro _ e;exact e
 | cons j bs ih=>
  intro hn e
  have hj:i≠j:=λz=>hn (by simp[z])
  refine ih (λz=>hn (qK _ z)) ?_
  unfold frz1
  split
  ·rw[qa λz=>hj z.symm];exact e
  ·exact e
theorem zazk{K:qB}{i:Nat}{te:TE}{f:EF}(h1:SE te f):SS (tDrop (tBM K "list" ztj (tVar i) (tCons te tNil))) (sApp i f):=by
 intro fx H0 env σ H D h o e q
 unfold sApp at e
 split at e
 ·rename_i ds ei
  obtain⟨r,er,e⟩:=qA.mp e
  split at e
  ·rename_i hl
   cases e
   obtain⟨a,g1,g2,g3,g4⟩:=h.ac i _ ei
   obtain⟨xs,hx,rx⟩:=g4
   refine⟨_,g1,.inl ⟨rfl,_,SqL.of hx⟩,h1 fx H0 env σ H h r er _ λv H' s hv=>?_⟩
   have h':=(h.up s).frzs r.bs
   have ei':=zjc hl.2 ei
   have hx':=s _ _ hx
   have rx':Rps (Offs (λb=>fx b\/own (frzs env r.bs) σ b) H') ds xs:=by
    obtain⟨a',z1,_,_,z4⟩:=h'.ac i _ ei'
    rw[g1]at z1
    cases z1
    obtain⟨ys,y1,y2⟩:=z4
    rw[hx']at y1
    cases y1
    exact y2
   refine⟨a,xs,v,rfl,rfl,hx',zkn (by rw[<- rx.length];exact hl.1),?_⟩
   refine q σ _ (h'.mut ei' g1 ⟨_,zal,rx'.append (zcx (Rp.same (Offs.sub zfe) _ hv.rp) zcz)⟩)
  ·cases e
 ·cases e
def sPut(i:Nat)(fk fv:EF):SF:=λenv=>match env[i]? with
 | some (.ac (.dict kvs))=>(fv env).bind λr=>(fk env).bind λk=>(keyD k.d).bind λ_=>if kvs.length<100000/\i∉r.bs then some (.nx ((frzs env r.bs).set i (.ac (.dict (zwq kvs k.d r.d)))))else none
 | _=>none
theorem zash(h1:SE tk fk)(h2:SE tv fv):SS (sDPut (tVar i) tk tv) (sPut i fk fv):=by
 intro fx H0 env σ H D h o e q
 unfold sPut at e
 split at e
 ·rename_i kvs ei
  obtain⟨r,er,e⟩:=qA.mp e
  obtain⟨k,ek,e⟩:=qA.mp e
  obtain⟨kk,ekk,e⟩:=qA.mp e
  split at e
  ·rename_i hl
   cases e
   obtain⟨a,g1,g2,g3,g4⟩:=h.ac i _ ei
   obtain⟨ps,hx,rx⟩:=g4
   refine h2 fx H0 env σ H h r er _ λv H' s hv=>⟨_,g1,h1 fx H0 env σ H' (h.up s) k ek _ λu H2 s2 hk=>?_⟩
   have t2:=s.trans s2
   have h':=(h.up t2).frzs r.bs
   have ei':=zjc hl.2 ei
   have hx':=t2 _ _ hx
   have rx':Rpd (Offs (λb=>fx b\/own (frzs env r.bs) σ b) H2) kvs ps:=by
    obtain⟨a',z1,_,_,z4⟩:=h'.ac i _ ei'
    rw[g1]at z1
    cases z1
    obtain⟨ys,y1,y2⟩:=z4
    rw[hx']at y1
    cases y1
    exact y2
   rw[zapi hk.rp ekk]
   refine⟨a,_,rfl,DPut.k hx' (zkn (by rw[<- rx.length];exact hl.1)),?_⟩
   refine q σ _ (h'.mut ei' g1 ⟨_,zal,rx'.put ekk (Rp.same (Offs.sub zfe) _ (hv.later (Same.refl _) s2 λ_ z=>z).rp)⟩)
  ·cases e
 ·cases e
def sUpd(i:Nat)(f:EF):SF:=λenv=>match env[i]? with
 | some (.ac (.dict kvs))=>(f env).bind λr=>match r.d with
  | .dict more=>if kvs.length+more.length<=100000/\i∉r.bs then some (.nx ((frzs env r.bs).set i (.ac (.dict (znm kvs more)))))else none
  | _=>none
 | _=>none
theorem zasi{K:qB}{i:Nat}{te:TE}{f:EF}(h1:SE te f):SS (tDrop (tBM K "dict" zajv (tVar i) (tCons te tNil))) (sUpd i f):=by
 intro fx H0 env σ H D h o e q
 unfold sUpd at e
 split at e
 ·rename_i kvs ei
  obtain⟨⟨rd,rfr,rbs⟩,er,e⟩:=qA.mp e
  cases rd with
  | dict more=>
   have e:(if kvs.length+more.length<=100000/\i∉rbs then some (Out.nx ((frzs env rbs).set i (.ac (.dict (znm kvs more)))))else none)=some o:=e
   split at e
   ·rename_i hl
    cases e
    obtain⟨a,g1,g2,g3,g4⟩:=h.ac i _ ei
    obtain⟨ps,hx,rx⟩:=g4
    refine⟨_,g1,.inr (.inr (.inl ⟨rfl,.inl ⟨_,hx⟩⟩)),h1 fx H0 env σ H h _ er _ λv H' s hv=>?_⟩
    have h':=(h.up s).frzs rbs
    have ei':=zjc hl.2 ei
    have hx':=s _ _ hx
    have rx':Rpd (Offs (λb=>fx b\/own (frzs env rbs) σ b) H') kvs ps:=by
     obtain⟨a',z1,_,_,z4⟩:=h'.ac i _ ei'
     rw[g1]at z1
     cases z1
     obtain⟨ys,y1,y2⟩:=z4
     rw[hx']at y1
     cases y1
     exact y2
    obtain⟨b,qs,rfl,hb,rb⟩:=ztr (Rp.same (Offs.sub zfe) _ hv.rp)
    have hab:a≠b:=λz=>by
     subst z
     exact(Offs.of hb).1 (.inr ⟨i,_,ei',g1⟩)
    refine⟨a,b,ps,qs,rfl,rfl,hab,hx',zdv hb,zgq (by rw[<- rx.length,<- rb.length];exact hl.1),?_⟩
    exact q σ _ (h'.mut ei' g1 ⟨_,zal,rx'.merge rb⟩)
   ·cases e
  | _=>cases e
 ·cases e
theorem EnvOk.rebase{fx:Addr->Prop}(h:EnvOk fx H0 env σ H):EnvOk fx (Offs (own env σ) H) env σ H:=by
 refine⟨h.len,h.pl,λi d e=>?_,h.inj,Offs.same _ _,h.fxs⟩
 obtain⟨a,h1,h2,h3,h4⟩:=h.ac i d e
 exact⟨a,h1,Offs.out ⟨i,d,e,h1⟩,h3,h4⟩
theorem EnvOk.floor{fx:Addr->Prop}(h:EnvOk fx H0 env σ H):Same H0 (Offs (own env σ) H):=λb o e=>by
 rw[Offs.get]
 ·exact h.base b o e
 ·rintro⟨i,d,h1,h2⟩
  obtain⟨a,g1,g2,_⟩:=h.ac i d h1
  rw[h2]at g1
  cases g1
  rw[g2]at e
  cases e
theorem EnvOk.unbase{fx:Addr->Prop}(h:EnvOk fx F env σ H)(s:Same H0 F):EnvOk fx H0 env σ H:=by
 refine⟨h.len,h.pl,λi d e=>?_,h.inj,s.trans h.base,h.fxs⟩
 obtain⟨a,h1,h2,h3,h4⟩:=h.ac i d e
 exact⟨a,h1,s.free h2,h3,h4⟩
theorem zady.unbase{fx:Addr->Prop}(h:zady fx F d fr v H)(s:Same H0 F):zady fx H0 d fr v H:=
 ⟨h.1,λe=>let⟨a,h1,h2,h3⟩:=h.2 e;⟨a,h1,s.free h2,h3⟩⟩
theorem EnvOk.seen{fx:Addr->Prop}(h:EnvOk fx (Offs (own env σ) H) env' σ' H'):Same (Offs (λb=>fx b\/own env σ b) H) (Offs (λb=>fx b\/own env' σ' b) H'):=λb o e=>by
 obtain⟨h1,h2⟩:=Offs.of e
 have hF:Offs (own env σ) H b=some o:=by rw[Offs.get λz=>h1 (.inr z)];exact h2
 rw[Offs.get]
 ·exact h.base b o hF
 ·rintro(z|⟨i,d,g1,g2⟩)
  ·exact h1 (.inl z)
  ·obtain⟨a,k1,k2,_⟩:=h.ac i d g1
   rw[g2]at k1
   cases k1
   rw[k2]at hF
   cases hF
theorem EnvOk.all{fx:Addr->Prop}(h:EnvOk fx H0 env σ H):∀b,fx b\/own env σ b->∃o,H b=some o:=λb z=>h.lims [] b (zauo b z)
def Yl(A0:Addr->Prop)(H1:Hp)(J:It)(ds:List PyData):Prop:=∀(A:Addr->Prop)(H':Hp),(∀b,A b->∃o,H' b=some o)->Same (Offs A0 H1) (Offs A H')->
 (∀i d,ds[i]?=some d->J.go i H'/\∀x H'',J.yld i H' x H''->Same H' H''/\Rp (Offs A H'') d x)/\J.stop ds.length H'
abbrev IF':=DEnv->Option (List PyData×List Nat)
def SI(wi:TI)(f:IF'):Prop:=∀(fx:Addr->Prop)(H0:Hp)(env:DEnv)(σ:St)(H:Hp),EnvOk fx H0 env σ H->∀ds bs,f env=some (ds,bs)->∀R:It->Hp->Prop,
 (∀J H1,Same H H1->Yl (λb=>fx b\/own (frzs env bs) σ b) H1 J ds->R J H1)->wi σ H R
def iSeq(K:qB)(te:TE):TI:=λσ H R=>te σ H λx H1=>∃a,x=.ref a/\((∃xs,SqL K H1 a xs)/\R (Itl K a) H1\/(∃xs,SqT K H1 a xs)/\R (Itt K a) H1)
theorem zazl{X:Cx}(hl:PE X l tl):PI X tg l (iSeq X.K tl):=by
 intro pins s σ H R I h
 refine thn (hl pins s σ H _ I h) λv s1 ⟨x,H1,I1,r1,q1⟩=>?_
 obtain⟨a,e,q⟩:=q1
 subst e
 cases r1
 rcases q with⟨⟨xs,hq⟩,q⟩|⟨⟨xs,hq⟩,q⟩
 ·obtain⟨its,rv,p,hz⟩:=I1.list hq
  refine qA6 p.isList ?_
  refine⟨s1.heap.objs.size,[s1.heap.objs.size],_,_,H1,rfl,I1.kept (t':=s1.toks) λb o e=>qF _ e,zaag a _,⟨_,qY _ rfl,rfl,rfl⟩,λb hb=>?_,q⟩
  have e:b=s1.heap.objs.size:=by simpa using hb
  subst e
  exact I1.fpOk (qL _) (I1.hok.fresh (qL _))
 ·obtain⟨its,rv,p,hz⟩:=I1.tuple hq
  refine qAz (show s1.heap.IsTuple a its.toArray from p) ?_
  refine⟨s1.heap.objs.size,[s1.heap.objs.size],_,_,H1,rfl,I1.kept (t':=s1.toks) λb o e=>qF _ e,zahj a _,⟨_,qY _ rfl,rfl,rfl⟩,λb hb=>?_,q⟩
  have e:b=s1.heap.objs.size:=by simpa using hb
  subst e
  exact I1.fpOk (qL _) (I1.hok.fresh (qL _))
theorem zauy{X:Cx}{K:qB}(hK:X.K=K){tg l:Expr}{tl:TE}(hl:PE X l tl):PI X tg l (iSeq K tl):=by subst hK;exact zazl hl
def zaj(f:EF):IF':=λenv=>(f env).bind λr=>(zgg r.d).map λds=>(ds,r.bs)
theorem zauz{K:qB}{A0:Addr->Prop}{H1:Hp}{a:Addr}{ds:List PyData}{xs:List V}(h:Offs A0 H1 a=some (.lst xs))(r:Rps (Offs A0 H1) ds xs):Yl A0 H1 (Itl K a) ds:=by
 intro A H' hA s
 have ha:=zdv (s _ _ h)
 have r':=Rps.same s _ r
 refine⟨λi d e=>?_,⟨xs,SqL.of ha,by rw[r.length];exact qL _⟩⟩
 obtain⟨v,hv,rv⟩:=r'.get2 e
 refine⟨⟨xs,v,SqL.of ha,hv⟩,λx H'' y=>?_⟩
 obtain⟨rfl,y⟩:=y
 have:=y xs (SqL.of ha)
 rw[hv]at this
 cases this
 exact⟨Same.refl _,rv⟩
theorem zazm{K:qB}{A0:Addr->Prop}{H1:Hp}{a:Addr}{ds:List PyData}{xs:List V}(h:Offs A0 H1 a=some (.tup xs))(r:Rps (Offs A0 H1) ds xs):Yl A0 H1 (Itt K a) ds:=by
 intro A H' hA s
 have ha:=zdv (s _ _ h)
 have r':=Rps.same s _ r
 refine⟨λi d e=>?_,⟨xs,SqT.of ha,by rw[r.length];exact qL _⟩⟩
 obtain⟨v,hv,rv⟩:=r'.get2 e
 refine⟨⟨xs,v,SqT.of ha,hv⟩,λx H'' y=>?_⟩
 obtain⟨rfl,y⟩:=y
 have:=y xs (SqT.of ha)
 rw[hv]at this
 cases this
 exact⟨Same.refl _,rv⟩
theorem zasj{K:qB}{te:TE}{f:EF}(h1:SE te f):SI (iSeq K te) (zaj f):=by
 intro fx H0 env σ H h ds bs e R q
 unfold zaj at e
 obtain⟨⟨d,fr,bs'⟩,er,e⟩:=qA.mp e
 obtain⟨es,he,e⟩:=qG.mp e
 cases e
 refine h1 fx H0 env σ H h _ er _ λv H1 s hv=>?_
 have rp:=Rp.same (Offs.sub (zfe (bs:=bs'))) _ hv.rp
 cases d with
 | list ds=>
  cases he
  obtain⟨a,xs,rfl,ha,r⟩:=zfs rp
  exact⟨a,rfl,.inl ⟨⟨xs,SqL.of (zdv ha)⟩,q _ H1 s (zauz ha r)⟩⟩
 | tuple ds=>
  cases he
  obtain⟨a,xs,rfl,ha,r⟩:=zdx rp
  exact⟨a,rfl,.inr ⟨⟨xs,SqT.of (zdv ha)⟩,q _ H1 s (zazm ha r)⟩⟩
 | _=>cases he
def zwr(ds:List PyData):List PyData:=ds.zipIdx.map λp=>.tuple [.int p.2,p.1]
def ztz(f:AF):IF':=λenv=>(f env).bind λrs=>match rs with
 | [r]=>match r.d with
  | .list ds=>some (zwr ds,r.bs)
  | _=>none
 | _=>none
def zua(lo:Int)(n:Nat):List PyData:=(List.range n).map λ(k:Nat)=>.int (lo+(k:Int))
theorem zapl{A0:Addr->Prop}{H1:Hp}{lo:Int}{n:Nat}:Yl A0 H1 (Itr lo n) (zua lo n):=by
 intro A H' hA s
 have hl:(zua lo n).length=n:=by unfold zua;simp
 refine⟨λi d e=>?_,by rw[hl];exact qL _⟩
 unfold zua at e
 rw[qN]at e
 by_cases hi:i<n
 ·rw[List.getElem?_range hi]at e
  cases e
  exact⟨hi,λx H'' ⟨e1,e2⟩=>by subst e1;subst e2;exact⟨Same.refl _,zby⟩⟩
 ·rw[qDL (by simpa using hi)]at e
  cases e
def zew(f:AF):IF':=λenv=>(f env).bind λrs=>match rs with
 | [⟨.int j,_,_⟩]=>if -(2 ^ 62)<=j/\j<2 ^ 62 then some (zua 0 j.toNat,[])else none
 | _=>none
theorem zabb(h1:SA ta f):SI (iRng1 ta) (zew f):=by
 intro fx H0 env σ H h ds bs e R q
 unfold zew at e
 obtain⟨rs,er,e⟩:=qA.mp e
 split at e
 ·split at e
  ·rename_i hj
   cases e
   refine h1 fx H0 env σ H h _ er _ λvs H1 s hv=>?_
   cases hv with
   | cons hv t=>
    cases t
    cases zeh hv.rp
    exact⟨_,rfl,hj.1,hj.2,q _ H1 s zapl⟩
  ·cases e
 ·cases e
def forL(g:GT)(body:SF):List PyData->DEnv->Option Out
 | [],env=>some (.nx env)
 | d::ds,env=>(g d env).bind λe1=>(body e1).bind λo=>match o with
  | .nx e2=>forL g body ds e2
  | .ct e2=>forL g body ds e2
  | .bk e2=>some (.nx e2)
  | .rt d fr=>some (.rt d fr)
def sFor(f:IF')(g:GT)(body:SF):SF:=λenv=>(f env).bind λz=>forL g body z.1 (frzs env z.2)
theorem zgh(h1:SI wi f)(h2:SG g gf)(h3:SS tb body):SS (tFor wi g tb) (sFor f gf body):=by
 intro fx H0 env σ H D h o e q
 unfold sFor at e
 obtain⟨⟨ds,bs⟩,er,e⟩:=qA.mp e
 refine h1 fx H0 env σ H h ds bs er _ λJ H1 s yl=>?_
 have hE:=(h.up s).frzs bs
 have fl:=hE.floor
 refine⟨λi m σ' H'=>m=ds.length - i/\i<=ds.length/\∃env',forL gf body (ds.drop i) env'=some o/\EnvOk fx (Offs (own (frzs env bs) σ) H1) env' σ' H',⟨ds.length,rfl,qAl _,_,e,hE.rebase⟩,?_⟩
 rintro i m σ' H' ⟨rfl,hi,env',e',h'⟩
 obtain⟨yi,ys⟩:=yl _ H' h'.all h'.seen
 by_cases hlt:i<ds.length
 ·obtain⟨yg,yy⟩:=yi i ds[i] (qH hlt)
  refine .inr ⟨yg,λσ'' H''=>i+1<=ds.length/\∃env'',forL gf body (ds.drop (i+1)) env''=some o/\EnvOk fx (Offs (own (frzs env bs) σ) H1) env'' σ'' H'',?_,?_⟩
  ·rintro σ'' H'' ⟨hle,env'',e'',h''⟩
   exact⟨ds.length - (i+1),by omega,rfl,hle,env'',e'',h''⟩
  ·intro x H'' hy
   obtain⟨sy,ry⟩:=yy x H'' hy
   rw[qAt hlt]at e'
   obtain⟨e1,ee1,e'⟩:=qA.mp e'
   obtain⟨o1,eo1,e'⟩:=qA.mp e'
   refine h2 fx _ env' σ' H'' _ x (h'.up sy) ry e1 ee1 _ λσ2 h2'=>h3 fx _ e1 σ2 H'' _ h2' o1 eo1 ?_
   cases o1 with
   | nx e2=>exact λσ3 H3 hh=>⟨hlt,e2,e',hh⟩
   | ct e2=>exact λσ3 H3 hh=>⟨hlt,e2,e',hh⟩
   | bk e2=>cases e';exact λσ3 H3 hh=>q σ3 H3 (hh.unbase fl)
   | rt d fr=>cases e';exact λv H3 sh rt=>q v H3 (fl.trans sh) (rt.unbase fl)
 ·have hi':i=ds.length:=by omega
  subst hi'
  rw[qBK]at e'
  cases e'
  exact .inl ⟨ys,q σ' H' (h'.unbase fl)⟩
def zid(n:Nat)(ds:List PyData):DEnv:=ds.map .pl++List.replicate (n - ds.length) .no
def fnD(n:Nat)(f:SF):GF:=λds=>match f (zid n ds)with
 | some (.rt d fr)=>some (d,fr)
 | some (.nx _)=>some (.none,false)
 | _=>none
theorem zabc{ds:List PyData}{n i:Nat}{sl:Sl}(e:(zid n ds)[i]?=some sl):(∃d,ds[i]?=some d/\sl=.pl d)\/sl=.no:=by
 unfold zid at e
 by_cases hi:i<ds.length
 ·rw[qAE (by simpa using hi),qN,qH hi]at e
  cases e
  exact .inl ⟨_,qH hi,rfl⟩
 ·rw[qAB (by simpa using hi),qBF]at e
  split at e
  ·cases e;exact .inr rfl
  ·cases e
theorem zhi{fx:Addr->Prop}{H:Hp}{N:List Str}{ds:List PyData}{vs:List V}(hf:∀b,fx b->∃o,H b=some o)(r:Rps (Offs fx H) ds vs):EnvOk fx H (zid N.length ds) (zfz N vs) H:=by
 have no:∀(i:Nat)(d:PyData),(zid N.length ds)[i]?≠some (Sl.ac d):=λi d e=>by
  rcases zabc e with⟨d',_,z⟩|z<;>cases z
 refine⟨?_,λi d e=>?_,λi d e=>absurd e (no i d),λi j d e a h1=>absurd h1 (no i d),Same.refl _,hf⟩
 ·unfold zid zfz
  rw[qO,qO,qC,qC,qAT,qAT,r.length]
 ·rcases zabc e with⟨d',hd,z⟩|z
  ·cases z
   obtain⟨v,hv,rv⟩:=r.get2 hd
   refine⟨v,?_,Rp.same (Offs.sub λb z=>?_) _ rv⟩
   ·unfold zfz
    have hi:i<vs.length:=(qS.mp hv).1
    rw[qAE (by simpa using hi),qN,hv];rfl
   ·rcases z with z|⟨j,d',z,_⟩
    ·exact z
    ·exact absurd z (no j d')
  ·cases z
theorem fn_d{N:List Str}(hs:SS t f)(h:spD n (fnD N.length f) vs H Q E):t {nx:=λ_ H'=>Q .non H',rt:=Q} (zfz N vs) H:=by
 obtain⟨fx,ds,d,fr,hn,hf,r,g,k⟩:=h
 unfold fnD at g
 split at g
 ·rename_i d' fr' eo
  cases g
  exact hs fx H _ _ H _ (zhi hf r) _ eo λv H' s rt=>k v H' s rt
 ·rename_i e' eo
  cases g
  exact hs fx H _ _ H _ (zhi hf r) _ eo λσ H' hE=>k .non H' hE.base ⟨zqe,λz=>by cases z⟩
 ·cases g
theorem zbs{vs:List V}(h:spD n g vs H Q E):vs.length=n:=by
 obtain⟨fx,ds,d,fr,hn,hf,r,_⟩:=h
 rw[<- r.length];exact hn
def atD:PyData->Bool
 | .none=>true
 | .str x=>decide ((PySem.reprText x).length<=1000)
 | .int n=>decide (0<=n/\n<100)
 | _=>false
theorem zafs(h:atD d=true):zfo d=true:=by cases d<;>first|rfl|cases h
theorem zbcg(h:atD d=true)(r:Rp H d v):atV v:=by
 cases d with
 | none=>rw[zadt r];trivial
 | str x=>rw[zor r];show(PySem.reprText x).length<=1000;exact of_decide_eq_true h
 | int n=>rw[zeh r];show 0<=n/\n<100;exact of_decide_eq_true h
 | _=>cases h
def RX(H0:Hp)(C:Addr)(d:PyData):XK:=λc od H'=>c=.ref C/\Same H0 H'/\zfo d=true/\∃dx v,od=some dx/\H' dx=some (.xd [("at",v)])/\Rp H' d v
theorem RX.base(s:Same H0 H1)(h:RX H1 C d c od H'):RX H0 C d c od H':=
 let⟨a,b,r⟩:=h;⟨a,s.trans b,r⟩
theorem RX.stx(h:∀c od H',RX H0 C d c od H'->E c od H')(q:RX H0 C d c od H'):StX H0 E c od H':=by
 intro H3 r1 r2
 obtain⟨a,b,f,dx,v,e1,e2,e3⟩:=q
 exact h _ _ _ ⟨a,λx o z=>r1 x o z (b x o z),f,dx,v,e1,r2 _ _ e2 (λφ z=>by cases z),ztu f e3⟩
inductive OutX where
 | ok (o:Out)
 | rx (c:Str) (d:PyData)
def SatX(cl:Str->Addr)(fx:Addr->Prop)(H0:Hp)(D:Ends)(E:XK):OutX->Prop
 | .ok o=>Sat fx H0 D o
 | .rx c d=>∀k od H',RX H0 (cl c) d k od H'->E k od H'
abbrev SFX:=DEnv->Option OutX
def SSx(cl:Str->Addr)(ts:XK->TS)(F:SFX):Prop:=∀(fx:Addr->Prop)(H0:Hp)(env:DEnv)(σ:St)(H:Hp)(D:Ends)(E:XK),EnvOk fx H0 env σ H->∀o,F env=some o->SatX cl fx H0 D E o->ts E D σ H
section
variable{cl:Str->Addr}
def xOf(f:SF):SFX:=λenv=>(f env).map .ok
theorem zrh(h:SS t f):SSx cl (λ_=>t) (xOf f):=by
 intro fx H0 env σ H D E hE o e q
 obtain⟨o',e',rfl⟩:=qG.mp e
 exact h fx H0 env σ H D hE o' e' q
def xSeq(f g:SFX):SFX:=λenv=>(f env).bind λo=>match o with
 | .ok (.nx env')=>g env'
 | o=>some o
theorem zno{t u:XK->TS}(h1:SSx cl t f)(h2:SSx cl u g):SSx cl (λE=>tSeq (t E) (u E)) (xSeq f g):=by
 intro fx H0 env σ H D E hE o e q
 obtain⟨o1,e1,e⟩:=qA.mp e
 refine h1 fx H0 env σ H _ E hE o1 e1 ?_
 cases o1 with
 | rx c d=>cases e;exact q
 | ok o1=>
  cases o1 with
  | nx env'=>exact λσ' H' h'=>h2 fx H0 env' σ' H' D E h' o e q
  | bk env'=>cases e;exact q
  | ct env'=>cases e;exact q
  | rt d fr=>cases e;exact q
def xIf(c:TF)(f g:SFX):SFX:=λenv=>(c env).bind λb=>if b=true then f env else g env
theorem zask{t u:XK->TS}(hc:ST tc c)(h1:SSx cl t f)(h2:SSx cl u g):SSx cl (λE=>tIfS tc (t E) (u E)) (xIf c f g):=by
 intro fx H0 env σ H D E h o e q
 obtain⟨b,eb,e⟩:=qA.mp e
 refine hc fx H0 env σ H h b eb _ λH' s=>?_
 cases b with
 | true=>exact iteT (h1 fx H0 env σ H' D E (h.up s) o e q)
 | false=>exact iteF (h2 fx H0 env σ H' D E (h.up s) o e q)
def zov(c:Str)(f:EF):SFX:=λenv=>(f env).bind λr=>if atD r.d=true then some (.rx c r.d)else none
theorem zabd(h1:SE te f):SSx cl (λE=>zakk (cl c) E te) (zov c f):=by
 intro fx H0 env σ H D E h o e q
 obtain⟨r,er,e⟩:=qA.mp e
 split at e
 ·rename_i ha
  cases e
  refine h1 fx H0 env σ H h r er _ λv H' s hv=>⟨zbcg ha hv.rp,λH2 dx s2 hd=>q _ _ _ ⟨rfl,(h.base.trans s).trans s2,zafs ha,dx,v,rfl,hd,ztu (zafs ha) hv.rp⟩⟩
 ·cases e
def zadz(g:GT)(body:SFX):List PyData->DEnv->Option OutX
 | [],env=>some (.ok (.nx env))
 | d::ds,env=>(g d env).bind λe1=>(body e1).bind λo=>match o with
  | .ok (.nx e2)=>zadz g body ds e2
  | .ok (.ct e2)=>zadz g body ds e2
  | .ok (.bk e2)=>some (.ok (.nx e2))
  | .ok (.rt d fr)=>some (.ok (.rt d fr))
  | .rx c d=>some (.rx c d)
def xFor(f:IF')(g:GT)(body:SFX):SFX:=λenv=>(f env).bind λz=>zadz g body z.1 (frzs env z.2)
theorem zava{tb:XK->TS}(h1:SI wi f)(h2:SG g gf)(h3:SSx cl tb body):SSx cl (λE=>tFor wi g (tb E)) (xFor f gf body):=by
 intro fx H0 env σ H D E h o e q
 obtain⟨⟨ds,bs⟩,er,e⟩:=qA.mp e
 refine h1 fx H0 env σ H h ds bs er _ λJ H1 s yl=>?_
 have hE:=(h.up s).frzs bs
 have fl:=hE.floor
 refine⟨λi m σ' H'=>m=ds.length - i/\i<=ds.length/\∃env',zadz gf body (ds.drop i) env'=some o/\EnvOk fx (Offs (own (frzs env bs) σ) H1) env' σ' H',⟨ds.length,rfl,qAl _,_,e,hE.rebase⟩,?_⟩
 rintro i m σ' H' ⟨rfl,hi,env',e',h'⟩
 obtain⟨yi,ys⟩:=yl _ H' h'.all h'.seen
 by_cases hlt:i<ds.length
 ·obtain⟨yg,yy⟩:=yi i ds[i] (qH hlt)
  refine .inr ⟨yg,λσ'' H''=>i+1<=ds.length/\∃env'',zadz gf body (ds.drop (i+1)) env''=some o/\EnvOk fx (Offs (own (frzs env bs) σ) H1) env'' σ'' H'',?_,?_⟩
  ·rintro σ'' H'' ⟨hle,env'',e'',h''⟩
   exact⟨ds.length - (i+1),by omega,rfl,hle,env'',e'',h''⟩
  ·intro x H'' hy
   obtain⟨sy,ry⟩:=yy x H'' hy
   rw[qAt hlt]at e'
   obtain⟨e1,ee1,e'⟩:=qA.mp e'
   obtain⟨o1,eo1,e'⟩:=qA.mp e'
   refine h2 fx _ env' σ' H'' _ x (h'.up sy) ry e1 ee1 _ λσ2 h2'=>h3 fx _ e1 σ2 H'' _ E h2' o1 eo1 ?_
   cases o1 with
   | rx c d=>cases e';exact λk od H3 r=>q k od H3 (r.base fl)
   | ok o1=>
    cases o1 with
    | nx e2=>exact λσ3 H3 hh=>⟨hlt,e2,e',hh⟩
    | ct e2=>exact λσ3 H3 hh=>⟨hlt,e2,e',hh⟩
    | bk e2=>cases e';exact λσ3 H3 hh=>q σ3 H3 (hh.unbase fl)
    | rt d fr=>cases e';exact λv H3 sh rt=>q v H3 (fl.trans sh) (rt.unbase fl)
 ·have hi':i=ds.length:=by omega
  subst hi'
  rw[qBK]at e'
  cases e'
  exact .inl ⟨ys,q σ' H' (h'.unbase fl)⟩
inductive ResX where
 | ok (d:PyData) (fr:Bool)
 | rx (c:Str) (d:PyData)
abbrev GFX:=List PyData->Option ResX
def zbch(cl:Str->Addr)(fx:Addr->Prop)(H:Hp)(Q:VK)(E:XK):ResX->Prop
 | .ok d fr=>∀v H',Same H H'->zady fx H d fr v H'->Q v H'
 | .rx c d=>∀k od H',RX H (cl c) d k od H'->E k od H'
def spX(cl:Str->Addr)(n:Nat)(g:GFX):Sp:=λvs H Q E=>∃(fx:Addr->Prop)(ds:List PyData)(r:ResX),ds.length=n/\(∀b,fx b->∃o,H b=some o)/\Rps (Offs fx H) ds vs/\g ds=some r/\zbch cl fx H Q E r
theorem zkq{vs:List V}(h:spX cl n g vs H Q E):vs.length=n:=by
 obtain⟨fx,ds,r,hn,hf,rr,_⟩:=h
 rw[<- rr.length];exact hn
def fnX(n:Nat)(f:SFX):GFX:=λds=>match f (zid n ds)with
 | some (.ok (.rt d fr))=>some (.ok d fr)
 | some (.ok (.nx _))=>some (.ok .none false)
 | some (.rx c d)=>some (.rx c d)
 | _=>none
theorem fn_x{N:List Str}{t:XK->TS}(hs:SSx cl t f)(h:spX cl n (fnX N.length f) vs H Q E):t (StX H E) {nx:=λ_ H'=>Q .non H',rt:=Q} (zfz N vs) H:=by
 obtain⟨fx,ds,r,hn,hf,rr,g,k⟩:=h
 unfold fnX at g
 split at g
 ·rename_i d' fr' eo
  cases g
  exact hs fx H _ _ H _ _ (zhi hf rr) _ eo λv H' s rt=>k v H' s rt
 ·rename_i e' eo
  cases g
  exact hs fx H _ _ H _ _ (zhi hf rr) _ eo λσ H' hE=>k .non H' hE.base ⟨zqe,λz=>by cases z⟩
 ·rename_i c d eo
  cases g
  exact hs fx H _ _ H _ _ (zhi hf rr) _ eo λk' od H' q=>RX.stx k q
 ·cases g
def zaea(n:Nat)(g:GFX)(f:AF):SFX:=λenv=>(f env).bind λrs=>if rs.length=n then(g (zds rs)).map λr=>match r with
 | .ok _ _=>.ok (.nx env)
 | .rx c d=>.rx c d else none
theorem zaft(ha:SA ta f):SSx cl (λE=>tDrop (tCall (spX cl n g) [] E ta)) (zaea n g f):=by
 intro fx H0 env σ H D E h o e q
 obtain⟨rs,er,e⟩:=qA.mp e
 split at e
 ·rename_i hn
  obtain⟨r,ez,rfl⟩:=qG.mp e
  refine ha fx H0 env σ H h rs er _ λvs H1 s1 v1=>?_
  rw[qw]
  refine⟨lim fx env σ (bss rs),zds rs,r,by rw[zez];exact hn,(h.up s1).lims _,zfd (λi hi=>hi) v1,ez,?_⟩
  cases r with
  | ok d fr=>exact λw H3 s3 _=>q σ H3 (h.up (s1.trans s3))
  | rx c d=>exact λk od H3 r=>q k od H3 (r.base (h.base.trans s1))
 ·cases e
end
abbrev Cx.hold(X:Cx)(e:Addr):Cx:={X with A:=X.A.mark (some (.ref e)),calm:=false,xe:=λ_ _=>False}
section
variable{X:Cx}{pins:List (Addr×Obj)}{σ:St}{H:Hp}{s:Shared}
theorem Inv.hold(I:Inv X pins σ H s)(e:Addr):Inv (X.hold e) pins σ H s:=
 ⟨⟨I.ok.mod,I.ok.kind,I.ok.glob,I.ok.blt,I.ok.above,I.ok.inj,I.ok.has,I.ok.cab,(λz=>by cases z),I.ok.frames,I.ok.stk,I.ok.exf,I.ok.bs,I.ok.bsz,I.ok.noex,I.ok.exfs,I.ok.funs,I.ok.frf⟩,I.os,I.bare,I.base,I.loc,I.cell,I.free,I.freeC,I.pin,I.hok,I.len⟩
theorem Inv.unhold(ok:X.Ok)(I:Inv (X.hold e) pins σ H s):Inv X pins σ H s:=
 ⟨ok,I.os,I.bare,I.base,I.loc,I.cell,I.free,I.freeC,I.pin,I.hok,I.len⟩
theorem zavb{E:Value->Shared->Prop}{Q:Unit->Shared->Prop}(I:Inv X pins σ H s)(hN:X.N.Nodup)(hj:X.N[j]?=some n)(hl:X.env.scope.names.lookup n=some .local)
  (h:∀s',Inv X pins (σ.set j none) H s'->Q () s'):wpAny (model X.prog X.w) A (do bindName X.env n .none;unbindBehindTheSuite X.env n pos) Q E s:=by
 obtain⟨m,hn,hlk⟩:=id I.loc
 have hcls:(X.env.scope.kind==.class||(X.env.scope.kind==.module&&X.env.locals != X.env.globals))=false:=by rw[I.ok.kind];rfl
 refine wpAny_nameGoes_keeps hl hn hcls λh' v ns sb=>h _ ?_
 have lo:∀b ob,X.s₀.heap.get? b=some ob->h'.get? b=s.heap.get? b:=λb ob e=>sb.2 b (qi (qe (qJ e) I.ok.above))
 have cne:=I.cne
 refine⟨I.ok,I.os,I.bare,⟨λb o e n hb hx=>(lo b o e).trans (I.base.keep b o e n hb hx),λb o e n hb hx=>?_,I.base.free,λb o e hx=>?_,I.base.tups,I.base.frzs,I.base.tbls⟩,⟨_,ns,λk y v' e1 e2 e3=>?_⟩,λy c e=>?_,I.free,I.freeC,λp hp=>?_,λb ob e=>?_,by simpa using I.len⟩
 ·obtain⟨sl,e1⟩:=I.base.slot b o e n hb hx
  exact⟨sl,(lo b o e).trans e1⟩
 ·obtain⟨o',e1⟩:=I.base.there b o e hx
  exact⟨o',(lo b o e).trans e1⟩
 ·by_cases hk:k=j
  ·subst hk
   rw[qm (by have:=(qS.mp hj).1;rw[I.len];exact this)]at e2
   cases e2
  ·rw[qa (qAp hk)]at e2
   obtain⟨u',r',q⟩:=hlk k y v' e1 e2 e3
   refine⟨u',r',?_⟩
   rcases q with⟨z,e⟩|⟨z,c,e,y'⟩
   ·refine .inl ⟨z,?_⟩
    have:y≠n:=λe=>hk (zym hN e1 (e▸hj))
    simp[this,e]
   ·exact .inr ⟨z,c,e,y'.sameBut sb (cne y c e)⟩
 ·obtain⟨w',z⟩:=I.cell y c e
  exact⟨w',z.sameBut sb (cne y c e)⟩
 ·obtain⟨e,n,ne,nf,d⟩:=I.pin p hp
  exact⟨(sb.2 p.1 ne).trans e,n,ne,nf,d⟩
 ·refine(I.hok b ob e).stay (λc w' hc q=>(sb.2 c ?_).trans q) (λ_ q=>q) (λ_ _ q=>q) (λ_ _ q=>q)
  rintro rfl
  rcases hc with hc|hc
  ·rw[<- hc,I.free]at e;cases e
  ·rw[I.free]at hc;cases hc
end
def tErr(Ok:Addr->Prop)(ts:Addr->TS)(j:Nat)(D:Ends)(σ:St)(H1:Hp):XK:=λc od H2=>∃C dx,c=.ref C/\Ok C/\od=some dx/\
 ∀e H3,(∀b o,H1 b=some o->H2 b=some o->H3 b=some o)->zapc H2 H3->(∃tv,H3 e=some (.ext (xeD e C dx tv)))->
  ts C {nx:=λσ' H'=>D.nx (σ'.set j none) H',rt:=λ_ _=>False} (σ.set j (some (.ref e))) H3
section
variable{X:Cx}{pins:List (Addr×Obj)}{σ:St}{H1:Hp}{s1:Shared}
theorem handled{Ok:Addr->Prop}{ts:Addr->TS}
  (hN:X.N.Nodup)(hj:X.N[j]?=some n)(hn:X.env.scope.names.lookup n=some .local)(hst:X.stack=X.env::X.outer)(hfr:X.env.frame=some X.env.locals)(hgc:Gl X cn)(hmc:X.mg cn=some (.ref B))
  (hex:∀C,Ok C->exmOne X.K (.ref C) (.ref B)=some true)(hs:∀C,Ok C->∀e,PSs (X.hold e) (st0::suite) (ts C))(hdc:(cn==("__debug__":Str))=false)
  (I1:Inv X pins σ H1 s1)(hq:CXE X.prog X.w X.stack H1 s1 (tErr Ok ts j D σ H1) ev s') :
  wpAny (model X.prog X.w) X.A (noteFrame ev X.env) (λ_ s2=>wpAny (model X.prog X.w) X.A (setFlight ev none) (λ_ s3=>wpAny (model X.prog X.w) X.A (handleBy ev X.env [.ExceptHandler (some (.Name cn cp)) (some n) (st0::suite) hpos]) (SP X pins D) X.xe s3) X.xe s2) X.xe s':=by
 obtain⟨e,C',dx,H2,rfl,os,bare,un,ok,fl,stx⟩:=hq
 have I2:=I1.call' (s':=s') os un ok bare (λb z=>absurd z (by simp))
 refine zaax I2 hst hfr (λb ob z=>un.there b ob z (by simp)) fl λs3 H3 I3 ⟨T,hT1,hT2,hT3,hT4⟩ ho hkx hz3=>?_
 obtain⟨C,dx',eC,hOk,edx,sq⟩:=stx H3 (λb o z1 z2=>ho b o _ (I1.hok b o z1).there.choose_spec z2) hkx
 cases eC
 cases edx
 obtain⟨⟨vs',sl,oe,h1⟩,_,_⟩:=I3.hok e _ hT1
 have tb:=(I3.hok T _ hT4).1
 have J3:=I3.hold e
 refine wpAny_handleBy_cons (codeAny_handlers_test (zte J3 hgc hmc ?_ hdc)) (by intro z;cases z)
 have LT:PySem.W.Looks (model X.prog X.w) s3.heap (typeOf (.ref e)) (.ref C'):=(qCy oe).andThen .now
 refine(PySem.W.exm_one (I3.kIn) LT (hex C' hOk)).here ?_
 show codeAny _ _ _ _ _
 refine codeAny_handlers_suite_as (zakg oe rfl h1 tb λh' kp tb'=>?_)
 have hup:upd H3 T (.ext λh=>h.Tb T)=H3:=by
  funext b
  by_cases hb:b=T
  ·subst hb;rw[zal,hT4]
  ·rw[zap hb]
 have J4:Inv (X.hold e) pins σ H3 {s3 with heap:=h'}:=by
  have:=J3.write (x:=T) (e:=T) (o:=.ext λh=>h.Tb T) (h':=h') (t':=s3.toks) (by rw[hT4];exact True.intro) (.inl rfl) (λb u hb z=>kp b u hb z) (let⟨oT,_,z,_⟩:=tb';⟨oT,z⟩) (zakh tb')
  rw[hup]at this
  exact this
 refine zyn (X:=X) (Inv.unhold I1.ok J4) hN hj (.inl hn) (show RelV (.ref e) (.ref e)from rfl) (λs5 J5=>?_) (.inr hn)
 refine qBB (hs C' hOk e pins s5 _ H3 _ (J5.hold e) (sq e H3 (λ_ _ _ z=>z) (λ_ _ z _=>z) ⟨_,hT1⟩)) (λfl s6 q6=>?_) λ_ _ z=>z.elim
 cases fl with
 | next=>
  obtain⟨σ',H',J6,q6⟩:=q6
  exact zavb (Inv.unhold I1.ok J6) hN hj hn λs7 I7=>⟨_,_,I7,q6⟩
 | ret u=>obtain⟨v,σ',H',J6,_,q6⟩:=q6;exact q6.elim
 | brk=>obtain⟨σ',H',J6,q6⟩:=q6;exact q6.elim
 | cont=>obtain⟨σ',H',J6,q6⟩:=q6;exact q6.elim
end
def ownB(P b:Addr):Option HO->Bool
 | some (.own x)=>x==P
 | some (.frz _ (.own x))=>x==P||x==b
 | _=>false
theorem zasl(h:ownB P b o=true):o=some (.own P)\/∃ob x,o=some (.frz ob (.own x))/\(x=P\/x=b):=by
 unfold ownB at h
 split at h
 ·rename_i x
  have:x=P:=by simpa using h
  rw[this];exact .inl rfl
 ·rename_i ob x
  refine .inr ⟨ob,x,rfl,?_⟩
  rcases qBY.mp h with z|z
  ·exact .inl (by simpa using z)
  ·exact .inr (by simpa using z)
 ·cases h
def hidB(P:Addr)(H:Hp)(b:Addr):Bool:=b==P||ownB P b (H b)
def hidP(P:Addr)(H:Hp):Hp:=λb=>if hidB P H b=true then none else H b
def resP(P:Addr)(H H':Hp):Hp:=λb=>if hidB P H b=true then H b else H' b
def outB:HO->Bool
 | .own _=>false
 | .frz _ (.own _)=>false
 | _=>true
section
variable{P:Addr}{H H':Hp}{b:Addr}{u:HO}{q:Str}
theorem zasm(h:H b=some u)(hb:b≠P)(hu:outB u=true):hidB P H b=false:=by
 unfold hidB
 rw[beq_eq_false_iff_ne.mpr hb,qCX]
 cases e:ownB P b (H b)with
 | false=>rfl
 | true=>
  rcases zasl e with z|⟨ob,x,z,_⟩
  ·rw[z]at h;cases h;cases hu
  ·rw[z]at h;cases h;cases hu
theorem zazn(hP:H P=some (.tabO q))(h:H b=none):hidB P H b=false:=by
 unfold hidB
 rw[h,beq_eq_false_iff_ne.mpr (λz=>by rw[z,hP]at h;cases h)];rfl
theorem zub(h:H b=some u)(hb:b≠P)(hu:outB u=true):hidP P H b=some u:=by
 unfold hidP;rw[zasm h hb hu];exact h
theorem zakx(h:hidP P H b=some u):H b=some u/\hidB P H b=false:=by
 unfold hidP at h
 cases e:hidB P H b with
 | true=>rw[e]at h;cases h
 | false=>rw[e]at h;exact⟨h,rfl⟩
theorem znp(h:H b=none):hidP P H b=none:=by unfold hidP;split<;>first|rfl|exact h
theorem zafu(h:hidB P H b=false):hidP P H b=H b:=by unfold hidP;rw[h];rfl
theorem zafv(h:hidB P H b=true):hidP P H b=none:=by unfold hidP;rw[h];rfl
theorem zmt(h:hidB P H b=false):resP P H H' b=H' b:=by unfold resP;rw[h];rfl
theorem zabe(h:hidB P H b=true):resP P H H' b=H b:=by unfold resP;rw[h];rfl
theorem zaky(h:hidB P H b=true):b=P\/H b=some (.own P)\/∃ob x,H b=some (.frz ob (.own x))/\(x=P\/x=b):=by
 unfold hidB at h
 rcases qBY.mp h with z|z
 ·exact .inl (by simpa using z)
 ·exact .inr (zasl z)
theorem zazo:hidB P H P=true:=by unfold hidB;simp
theorem zasn(h:H b=some (.own P)):hidB P H b=true:=by unfold hidB;rw[h];simp[ownB]
theorem zaso(h:H b=some (.frz ob (.own P))):hidB P H b=true:=by unfold hidB;rw[h];simp[ownB]
theorem zasp(h:H b=some (.frz ob (.own b))):hidB P H b=true:=by unfold hidB;rw[h];simp[ownB]
theorem zazp(hP:H P=some (.tabO q))(x:HOk Pr w H h):HOk Pr w (hidP P H) h:=λb u e=>by
 obtain⟨e1,e2⟩:=zakx e
 have nb:b≠P:=λz=>by rw[z,zazo]at e2;cases e2
 have hh:∀c u,H c=some u->(u=.own b\/∃ob,u=.frz ob (.own b))->hidP P H c=some u:=λc u z hu=>by
  cases hc:hidB P H c with
  | false=>rw[zafu hc];exact z
  | true=>
   rcases zaky hc with y|y|⟨ob,x,y,hx⟩
   ·rw[y,hP]at z;cases z;rcases hu with hu|⟨_,hu⟩<;>cases hu
   ·rw[y]at z;cases z;rcases hu with hu|⟨_,hu⟩
    ·cases hu;exact absurd rfl nb
    ·cases hu
   ·rw[y]at z;cases z;rcases hu with hu|⟨_,hu⟩
    ·cases hu
    ·cases hu
     rcases hx with hx|hx
     ·exact absurd hx nb
     ·rw[hx,hc]at e2;cases e2
 exact(x b u e1).stay (λc v _ z=>z) (λc z=>hh c _ z (.inl rfl)) (λc xs z=>zub z (λy=>by rw[y,hP]at z;cases z) rfl) (λc o z=>hh c _ z (.inr ⟨o,rfl⟩))
theorem zapm(hP:H P=some (.tabO q))(ok:HOk Pr w H h)(hfs:∀b∈fs,H b=none)(un:Un fs [] (hidP P H) H' h h')(ok':HOk Pr w H' h') :
  Un fs [] H (resP P H H') h h'/\HOk Pr w (resP P H H') h'/\∀b,hidB P H b=true->H' b=none:=by
 have hs:∀b,hidB P H b=true->∃u,H b=some u:=λb e=>by
  rcases zaky e with z|z|⟨ob,x,z,_⟩
  ·exact⟨.tabO q,z▸hP⟩
  ·exact⟨_,z⟩
  ·exact⟨_,z⟩
 have hn:∀b,hidB P H b=true->hidP P H b=none:=λb e=>zafv e
 have kp:∀b o,hidB P H b=true->h.get? b=some o->h'.get? b=some o:=λb o e z=>un.keep b o z (hn b e) (λy=>by obtain⟨u,q⟩:=hs b e;rw[hfs b y]at q;cases q) (by simp)
 have fr:∀b,hidB P H b=true->H' b=none:=λb e=>by
  obtain⟨u,z⟩:=hs b e
  obtain⟨o,y⟩:=(ok b u z).there
  exact un.free b o y (hn b e) (by simp)
 have up:∀b u,H b=some u->outB u=true->b≠P->hidB P H b=false/\hidP P H b=some u:=λb u z hu hb=>⟨zasm z hb hu,zub z hb hu⟩
 have nh:∀c v,H' c=some v->hidB P H c=false:=λc v y=>by
  cases z:hidB P H c with
  | false=>rfl
  | true=>rw[fr c z]at y;cases y
 refine⟨⟨λb o z n hb hx=>un.keep b o z (znp n) hb hx,λb o z n hb hx=>un.slot b o z (znp n) hb hx,λb o z n hx=>?_,λb o z hx=>un.there b o z hx,λb xs z=>?_,λb o u z=>?_,λb ps z=>?_⟩,λb u e=>?_,fr⟩
 ·rw[zmt (zazn hP n)];exact un.free b o z (znp n) hx
 ·obtain⟨a1,a2⟩:=up b _ z rfl (λy=>by rw[y,hP]at z;cases z)
  rw[zmt a1];exact un.tups b xs a2
 ·cases hb:hidB P H b with
  | true=>rw[zabe hb];exact z
  | false=>rw[zmt hb];exact un.frzs b o u (by rw[zafu hb];exact z)
 ·obtain⟨a1,a2⟩:=up b _ z rfl (λy=>by rw[y,hP]at z;cases z)
  rw[zmt a1];exact un.tbls b ps a2
 ·cases hb:hidB P H b with
  | true=>
   rw[zabe hb]at e
   rcases zaky hb with z|z|⟨ob,x,z,_⟩
   ·subst z
    rw[hP]at e
    cases e
    refine(ok b _ hP).stay (λc v hc y=>kp c v (hc.elim (λz=>by rw[z];exact hb) zasn) y) (λc y=>by rw[zabe (zasn y)];exact y) (λc xs y=>?_) (λc o y=>by rw[zabe (zaso y)];exact y)
    obtain⟨a1,a2⟩:=up c _ y rfl (λz=>by rw[z,hP]at y;cases y)
    rw[zmt a1];exact un.tups c xs a2
   ·rw[z]at e
    cases e
    obtain⟨o,y⟩:=(ok b _ z).there
    exact⟨o,kp b o hb y⟩
   ·rw[z]at e
    cases e
    obtain⟨y,o,y2⟩:=ok b _ z
    exact⟨kp b ob hb y,o,kp b o hb y2⟩
  | false=>
   rw[zmt hb]at e
   exact(ok' b u e).stay (λc v _ z=>z) (λc y=>by rw[zmt (nh c _ y)];exact y) (λc xs y=>by rw[zmt (nh c _ y)];exact y) (λc o y=>by rw[zmt (nh c _ y)];exact y)
end
theorem zakz(l:List Value)(h:TriplesOk l)(e:codeAmong pos (l++[rawInt a,rawInt b,c])=some cv):codeAmong pos l=some cv\/cv=c:=by
 fun_induction TriplesOk l with
 | case1=>
  simp only[List.nil_append,rawInt,codeAmong]at e
  split at e
  ·exact .inr (qX e).symm
  ·cases e
 | case2 x t y u z rest ih=>
  simp only[qCg,codeAmong]at e ⊢
  split at e
  ·rename_i hc;rw[if_pos hc];exact .inl e
  ·rename_i hc;rw[if_neg hc];exact ih h e
 | case3 l h1 h2=>exact h.elim
theorem zaeb(l:List Value)(h:TriplesOk l):TriplesOk (l++[rawInt a,rawInt b,c]):=by
 fun_induction TriplesOk l with
 | case1=>exact True.intro
 | case2 x t y u z rest ih=>exact ih h
 | case3 l h1 h2=>exact h.elim
theorem zxi{h:Heap}(hs:h.objs.size<=a):h.get? a=none:=by
 cases e:h.get? a with
 | none=>rfl
 | some o=>exact absurd (qJ e) (qDB.mpr hs)
def BM(mg:Str->Option Value)(base:Heap):Prop:=∃bm ob,mg "__builtins__"=some (.ref bm)/\bm≠builtinsNs/\base.get? bm=some ob/\ob.cls=.type "module"/\ob.dict=some builtinsNs/\ob.data=.plain
section
variable{X:Cx}{pins:List (Addr×Obj)}{σ:St}{H:Hp}{s:Shared}{c P:Addr}{params:Arguments}{body:Expr}{scope:Scope}{clos:List (Str×Addr)}{pos:Pos}
def zazq(q:Str)(H:Hp)(c P:Addr):Prop:=∃oc vs t,H c=some (.frz oc (.own P))/\oc.data=.fields vs/\vs[1]?=some (.str q t)
abbrev lamQ(X:Cx):Str:=X.env.qual++"<lambda>"
theorem zapn{Q:Value->Shared->Prop}{E:Value->Shared->Prop}(I:Inv X pins σ H s)(hcode:X.env.code=.ref c)(C:CodeHd X.base c P)(hP:H P=some (.tabO (lamQ X)))(hbm:BM X.mg X.base)(hcl:closureFor scope X.env=pure clos)(hdef:defaultsOf params X.env=([],[]))
  (h:∀(s':Shared)(H':Hp)(f c':Addr)(ctv pm:Value),Inv X pins σ H' s'->(H'=H\/(H c'=none/\∃oc,H'=upd H c' (.frz oc (.own P))))->H' f=none->s'.heap.get? f=some (kla_obj "<lambda>" (lamQ X) params body scope clos pm c' ctv)->zazq (lamQ X) H' c' P->s.heap.get? f=none->Q (.ref f) s') :
  wpAny (model X.prog X.w) X.A (eval (.Lambda params body scope pos) X.env) Q E s:=by
 obtain⟨ps,hps,tr,ent⟩:=I.hok P _ hP
 have Cs:CodeHd s.heap c P:=C.keeps I.bk
 have hgs:s.heap.Ns qg X.mg:=I.mod.glob.keeps I.bk
 have nP:∀b o,X.base.get? b=some o->b≠P:=λb o e z=>by have:=(I.bs b o e).2;rw[z,hP]at this;cases this
 have hgP:qg≠P:=by
  obtain⟨o,es,ep,e,_⟩:=I.mod.glob
  exact nP _ o e
 obtain⟨bm,ob,b1,b2,b3,b4,b5,b6⟩:=hbm
 have hbG:bm≠qg:=λz=>by
  obtain⟨o,es,ep,e,hd,_⟩:=I.mod.glob
  rw[z,e]at b3;cases b3;rw[hd]at b6;cases b6
 have hb:s.heap.BuiltinsAt X.mg P:=⟨bm,ob,b1,b2,hbG,nP _ _ b3,I.bk _ _ b3,b4,b5,b6⟩
 refine PySem.W.kla_eval hdef ?_
 cases hf:codeAmong pos ps.toList with
 | none=>
  refine PySem.W.kla_makeFunction (mg:=X.mg) hcl I.ok.glob hgs hcode Cs hps tr hf hgP hb λc' ctv h' tk hx hge hlt hrec htb=>?_
  have nc:H c'=none:=I.hok.fresh hge
  have nP':c'≠P:=λz=>by rw[z,hP]at nc;cases nc
  generalize hob:kla_obj "<lambda>" (lamQ X) params body scope clos ((X.mg "__name__").getD .none) c' ctv=obj
  have kp:∀b o,b≠P->s.heap.get? b=some o->(h'.push obj).get? b=some o:=λb o z e=>qF _ (hx b o z e)
  have hsz:s.heap.objs.size<=h'.objs.size:=qB3 (qBM hge hlt)
  obtain⟨c2,oc,vs,t,e2,hoc,hd,hv⟩:=hrec
  cases e2
  have up:∀b u,H b=some u->upd H c' (.frz oc (.own P)) b=some u:=λb u e=>by rw[zap (λz=>by rw[z,nc]at e;cases e)];exact e
  have tabN:(h'.push obj).get? P=some (tabObj (ps++#[rawInt pos.line,rawInt pos.col,.ref c'])):=qF _ htb
  have un:Un X.fs [] H (upd H c' (.frz oc (.own P))) s.heap (h'.push obj):=
   ⟨λb o e n _ _=>kp b o (λz=>by rw[z,hP]at n;cases n) e,λb o e n _ _=>⟨o.slots,kp b o (λz=>by rw[z,hP]at n;cases n) e⟩,λb o e n _=>by rw[zap (qi (qe (qJ e) hge))];exact n,
    λb o e _=>(Decidable.em (b=P)).elim (λz=>⟨_,z▸tabN⟩) (λz=>⟨o,kp b o z e⟩),λb xs e=>up b _ e,λb o u e=>up b _ e,λb ps e=>⟨#[],by rw[up b _ e];simp⟩⟩
  have ok:HOk X.prog X.w (upd H c' (.frz oc (.own P))) (h'.push obj):=λb u e=>by
   by_cases hb:b=c'
   ·subst hb
    rw[zal]at e
    cases e
    exact⟨qF _ hoc,oc,qF _ hoc⟩
   ·rw[zap hb]at e
    by_cases hbP:b=P
    ·subst hbP
     rw[hP]at e
     cases e
     refine⟨_,tabN,by rw[qDV];exact zaeb _ tr,λpos' cv hc=>?_⟩
     rw[qDV]at hc
     rcases zakz _ tr hc with hc|hc
     ·obtain⟨c1,o,vs1,t1,a1,a2,a3,a5⟩:=ent pos' cv hc
      exact⟨c1,o,vs1,t1,a1,a2,up _ _ a3,a5⟩
     ·exact⟨c',oc,vs,t,hc,nP',zal,hd,hv⟩
    ·exact(I.hok b u e).stay (λc v hc z=>kp c v (hc.elim (λy=>by rw[y];exact hbP) λy w=>by rw[w,hP]at y;cases y) z) (λc z=>up c _ z) (λc xs z=>up c _ z) (λc o z=>up c _ z)
  refine h _ _ h'.objs.size c' ctv _ (I.un (t':=tk) un ok) (.inr ⟨nc,oc,rfl⟩) ?_ (by rw[<- hob];exact qY _ rfl) ⟨oc,vs,t,zal,hd,hv⟩ (zxi hsz)
  rw[zap (qBc hlt)]
  exact I.hok.fresh hsz
 | some cv=>
  obtain⟨c',oc,vs,t,rfl,ne,own,hd,hv⟩:=ent pos cv hf
  refine PySem.W.kla_makeFunctionHit (mg:=X.mg) hcl I.ok.glob hgs hcode Cs hps tr hf hb λctv h' tk hk hsz=>?_
  have kp:∀b o,s.heap.get? b=some o->(h'.push (kla_obj "<lambda>" (lamQ X) params body scope clos ((X.mg "__name__").getD .none) c' ctv)).get? b=some o:=λb o e=>qF _ (hk b o e)
  exact h _ H h'.objs.size c' ctv _ (I.un (t':=tk) (Un.kept kp) (I.hok.kept kp)) (.inl rfl) (I.hok.fresh hsz) (qY _ rfl) ⟨oc,vs,t,own,hd,hv⟩ (zxi hsz)
end
structure LamScope(N:List Str)(sc:Scope):Prop where
 kind:sc.kind=.function
 co:sc.isCoroutine=false
 gen:sc.isGenerator=false
 nocell:∀x∈sc.names,x.2≠.cell
 free:∀x∈N,sc.names.lookup x=some .free
def zabf(CX:CXT)(P:Program)(w:World)(K:qB)(mg:Str->Option Value)(base:Heap)(N:List Str)(qual:Str)(scope:Scope)(f:Addr)(cd:Value)(cl:List (Str×Addr))(A:Around)(outer:List Env)(s:Shared)(H:Hp)(E:XK):Cx where
 prog:=P
 w:=w
 K:=K
 mg:=mg
 base:=base
 A:=A.deeper (envX qual scope s.heap.objs.size f cd cl)
 N:=N
 s₀:=s
 H₀:=H
 env:=envX qual scope s.heap.objs.size f cd cl
 outer:=outer
 stack:=envX qual scope s.heap.objs.size f cd cl::outer
 ex:=[]
 calm:=true
 fn:=λ_=>false
 pn:=[]
 xe:=λe s'=>wpAny (model P w) (A.deeper (envX qual scope s.heap.objs.size f cd cl)) (leaving (envX qual scope s.heap.objs.size f cd cl) e) (λ_ s''=>CX outer H s E e s'') (λe' s''=>CX outer H s E e' s'') s'
structure Cells(cl:List (Str×Addr))(N:List Str)(vs:List V)(h:Heap)(H:Hp)(sc:Scope):Prop where
 inj:∀x y c,cl.lookup x=some c->cl.lookup y=some c->x=y
 has:∀x,sc.names.lookup x=some .free->∃c,cl.lookup x=some c
 cell:∀x c,cl.lookup x=some c->(∃v,h.IsCell c v)/\H c=none
 val:∀(i:Nat)(x:Str)(v:V),N[i]?=some x->vs[i]?=some v->∃c u,cl.lookup x=some c/\h.IsCell c (some u)/\RelV v u
 len:vs.length=N.length
section
variable{CX:CXT}{P:Program}{w:World}{K:qB}{mg:Str->Option Value}{base:Heap}{N:List Str}{name qual:Str}{params:Arguments}{body:Expr}{scope:Scope}{f c':Addr}{cl:List (Str×Addr)}{A:Around}{outer:List Env}{s:Shared}{H:Hp}{E:XK}{Q:VK}{vs:List V}{pm ctv:Value}{k:Nat}
theorem zavc(S:LamScope N scope)(hr:Room (k+1) A)(e0:Env0 P w K mg base A outer s H){o:Obj}(ho:s.heap.get? f=some o)(hod:o.data=.func (kla_fn name qual params body scope cl pm (.ref c') ctv))(hcd:s.heap.CodeRec (.ref c') qual)
  (hbind:bindArgs (kla_fn name qual params body scope cl pm (.ref c') ctv) ⟨[],[]⟩=pure [])(Ce:Cells cl N vs s.heap H scope)
  (hbody:Room k (A.deeper (envX qual scope s.heap.objs.size f (.ref c') cl))->∃t,PE (zabf CX P w K mg base N qual scope f (.ref c') cl A outer s H E) body t/\t (vs.map some) H Q) :
  codeAny (model P w) A (.call (.ref f) ⟨[],[]⟩) (CR CX outer P w H s Q E) s:=by
 refine PySem.W.kla_callFunE hr.depth ho hod S.co S.gen rfl hcd ?_
 rw[hbind]
 refine qI (wpAny_newFunctionEnv S.nocell (λx hx=>absurd (show x∈([]:List (Str×Value))from hx) (by simp)) (λh₁ hns hsb=>⟨((e0.mod.nolimit.keeps λb o e=>(e0.bs b o e).1)).fresh _ hsb,?_⟩) S.kind)
 show codeAny _ _ (.expr body (envX qual scope s.heap.objs.size f (.ref c') cl)) _ _
 have hk:∀b o,s.heap.get? b=some o->h₁.get? b=some o:=λb o e=>hsb.extBut b o (qi (qJ e)) (qF _ e)
 obtain⟨t,ht,hq⟩:=hbody (hr.deeper _)
 have noA:∀b:Addr,b∉(zabf CX P w K mg base N qual scope f (.ref c') cl A outer s H E).ex:=λb z=>absurd (show b∈([]:List Addr)from z) (by simp)
 have cellK:∀c v,s.heap.IsCell c v->h₁.IsCell c v:=λc v ⟨o,e,d⟩=>⟨o,hk _ _ e,d⟩
 have I:Inv (zabf CX P w K mg base N qual scope f (.ref c') cl A outer s H E) [] (vs.map some) H {s with heap:=h₁,toks:=s.toks+([]:List (Str×Value)).length}:=by
  refine⟨⟨e0.mod,S.kind,rfl,rfl,qL _,Ce.inj,λy hy=>?_,λy c z _=>?_,λ_=>hr.hd,qDK e0.frames,.inr ⟨rfl,rfl⟩,λb z=>absurd z (noA b),e0.bs,e0.bsz,λb _ _=>noA b,λb z=>absurd z (noA b),e0.funs,e0.frf⟩,
   rfl,e0.bare,Un.kept hk,⟨_,hns,λi y v h1 h2 h3=>?_⟩,λy c z=>?_,e0.hok.fresh (qL _),λy c z=>(Ce.cell y c z).2,λp hp=>absurd (show p∈([]:List (Addr×Obj))from hp) (by simp),e0.hok.kept hk,?_⟩
  ·have hy:scope.names.lookup y=some .cell\/scope.names.lookup y=some .free:=hy
   rcases hy with hy|hy
   ·exact absurd rfl (S.nocell _ (qp hy))
   ·exact Ce.has y hy
  ·cases z
  ·rw[qN]at h2
   cases ev:vs[i]? with
   | none=>rw[ev]at h2;cases h2
   | some v0=>
    rw[ev]at h2
    cases h2
    obtain⟨c,u,a1,a2,a3⟩:=Ce.val i y v h1 ev
    exact⟨u,a3,.inr ⟨.inr (S.free y (qAe h1)),c,a1,cellK _ _ a2⟩⟩
  ·obtain⟨v,z⟩:=(Ce.cell y c z).1
   exact⟨v,cellK _ _ z⟩
  ·rw[qC];exact Ce.len
 refine PySem.W.kla_codeExpr (qBB (ht [] _ (vs.map some) H Q I hq) (λu s' h=>?_) λe s' h=>h)
 obtain⟨v,H',J,rv,q⟩:=h
 exact⟨v,H',J.os,J.bare,J.base,J.hok,rv,q⟩
end
def Asks(P:Program)(w:World)(K:qB)(mg:Str->Option Value)(base:Heap)(CX:CXT)(k:Nat)(fs:List Addr)(s:Shared)(H:Hp)(g:Addr)(R:Hp->VK->XK->Prop):Prop:=
 ∀(A:Around)(outer:List Env)(s':Shared)(H':Hp)(Q:VK)(E:XK),Room k A->Env0 P w K mg base A outer s' H'->Un fs [] H H' s.heap s'.heap->R H' Q E->codeAny (model P w) A (.call (.ref g) ⟨[],[]⟩) (CR CX outer P w H' s' Q E) s'
structure ToldOk(P:Program)(w:World)(K:qB)(mg:Str->Option Value)(base:Heap)(k j:Nat)(f:Addr)(fd:qAb)(p:Str)(tol:(Hp->VK->XK->Prop)->Hp->VK->Prop):Prop where
 run:∀(A:Around)(outer:List Env)(s:Shared)(H:Hp)(args:Args)(g:Addr)(R:Hp->VK->XK->Prop)(Q:VK),Room k A->Env0 P w K mg base A outer s H->BindsTo s fd args [(p,.ref g)]->FnAt g s.heap->H g=none->Asks P w K mg base (CXE P w) j (frs outer) s H g R->tol R H Q->
  codeAny (model P w) A (.call (.ref f) args) (CR CX0 outer P w H s Q λ_ _ _=>False) s
theorem zavd{P:Program}{w:World}{K:qB}{mg:Str->Option Value}{base:Heap}{x qual:Str}{st:Stmt}{f:Addr}{fd:qAb}{N:List Str}{p:Str}{k j:Nat}{tol:(Hp->VK->XK->Prop)->Hp->VK->Prop}(Fu:Fun K x qual st f fd)(S:FnScope N [p] (zah st))
  (hbody:∀(cdv:Value)(A:Around)(outer:List Env)(s:Shared)(H:Hp)(g:Addr)(R:Hp->VK->XK->Prop)(Q:VK),Room k (A.deeper (envOfC qual (zah st) s.heap.objs.size f cdv))->HOk P w H s.heap->FnAt g s.heap->H g=none->Asks P w K mg base (CXE P w) j (frs outer) s H g R->tol R H Q->
   ∃t,PSs (cxOf CX0 P w K mg base N qual (zah st) f cdv A outer s H λ_ _ _=>False) (zdo st) t/\t {nx:=λ_ H'=>Q .non H',rt:=Q} (zfz N [.ref g]) H):ToldOk P w K mg base (k+1) j f fd p tol:=by
 refine⟨λA outer s H args g R Q hr e0 hb hg hn ha ht=>?_⟩
 obtain⟨oc,od,kV,doc,pm,an,cdv,ct,osl,rfl,lk,hcd⟩:=Fu.ex
 have KX:K.In s.heap:=e0.mod.kin.keeps λb o e=>(e0.bs b o e).1
 refine qBt hr.depth (KX _ _ lk) rfl S.co S.gen rfl (qBu KX hcd) (hb _ _ _ _ (qBW S.kind (λ⟨n,v⟩ hy=>?_) λenv he s1 x=>?_))
 ·have hy':(n,v)∈[p].zip [Value.ref g]:=hy
  rcases S.par n (qA4 hy').1 with q|q
  ·exact .inl q
  ·exact .inr ⟨q,qBI _ _ _ (.inl q)⟩
 ·subst he
  obtain⟨t,ht,hq⟩:=hbody cdv A outer s H g R Q (hr.deeper _) e0.hok hg hn ha ht
  have I:=zok (CX:=CX0) (E:=λ_ _ _=>False) (us:=[.ref g]) (vs:=[.ref g]) S hr.hd e0 rfl (.cons rfl .nil) x
  refine⟨(e0.mod.nolimit.keeps λb o e=>(e0.bs b o e).1).keeps x.toInCall.keep,qCx (qBB (ht [] s1 (zfz N [.ref g]) H _ I hq) (λfl s' hs=>?_) λe s' hs=>hs)⟩
  cases fl with
  | ret u=>obtain⟨v,σ',H',J,rv,q⟩:=hs;exact⟨v,H',J.os,J.bare,J.base,J.hok,rv,q⟩
  | next=>obtain⟨σ',H',J,q⟩:=hs;exact⟨.non,H',J.os,J.bare,J.base,J.hok,rfl,q⟩
  | brk=>obtain⟨_,_,_,q⟩:=hs;exact q.elim
  | cont=>obtain⟨_,_,_,q⟩:=hs;exact q.elim
def zave(Ok:Addr->Prop)(g:Addr)(R:Hp->VK->XK->Prop)(ts:Addr->TS)(i j:Nat):TS:=λD σ H=>σ[i]?=some (some (.ref g))/\R H (λ_ H2=>D.nx σ H2) (tErr Ok ts j D σ H)
section
variable{X:Cx}
theorem zavf{Ok:Addr->Prop}{R:Hp->VK->XK->Prop}{p cpos pos epos hpos cp:Pos}{ts:Addr->TS}
  (As:Asks X.prog X.w X.K X.mg X.base (CXE X.prog X.w) k X.fs X.s₀ X.H₀ g R)(hex0:X.ex=[])(hr:Room k X.A)(hg:FnAt g X.s₀.heap)(hn0:X.H₀ g=none)
  (hi:X.N[i]?=some an)(hv:Vis X.env.scope an)
  (hN:X.N.Nodup)(hj:X.N[j]?=some n)(hn:X.env.scope.names.lookup n=some .local)
  (hst:X.stack=X.env::X.outer)(hfr:X.env.frame=some X.env.locals)(hgc:Gl X cn)(hmc:X.mg cn=some (.ref B))(hex:∀C,Ok C->exmOne X.K (.ref C) (.ref B)=some true)(hs:∀C,Ok C->∀e,PSs (X.hold e) (st0::suite) (ts C))
  (hdb:(an==("__debug__":Str))=false)(hda:(an==("__classdict__":Str))=false)(hdc:(cn==("__debug__":Str))=false)
  (hsw:swapsWith (.Call (.Name an p) [] [] cpos) none epos.line X.env=pure false) :
  PS X (.Try [.Expr (.Call (.Name an p) [] [] cpos) epos] [.ExceptHandler (some (.Name cn cp)) (some n) (st0::suite) hpos] [] [] pos) (zave Ok g R ts i j):=by
 intro pins s σ H D I h
 obtain⟨hσ,hR⟩:=h
 refine wpAny_Try_except ?_
 refine qC3 (wpAny_Expr_any (qBS ?_) I.quiet hsw)
 refine qBB (zafc (X:=X.nox) hi hv hdb hda pins s σ H (λv H'=>v=.ref g/\H'=H) (I.wish _) ⟨_,hσ,rfl,rfl⟩) (λu s1 ⟨v,H1,I1,rv,ev,eH⟩=>?_) λ_ _ z=>z.elim
 subst ev
 subst eH
 cases rv
 have I1:Inv X pins σ H1 s1:=I1.unwish
 obtain⟨oc,od,fd,sl,eg⟩:=hg
 have fnA:FnAt g s1.heap:=by
  obtain⟨sl',z⟩:=I1.base.any eg hn0 (by rw[hex0];simp)
  exact⟨oc,od,fd,sl',z⟩
 refine PySem.W.callWith_F0 fnA ?_
 have un:Un X.fs [] X.H₀ H1 X.s₀.heap s1.heap:=by
  have:=I1.base
  rw[hex0]at this
  exact this
 refine qCV (qBl (As X.A X.stack s1 H1 _ _ hr I1.env0 un hR) λres s' hq=>?_)
 cases res with
 | ok fl=>
  cases fl with
  | ret u=>
   obtain⟨v,H2,I2,rv,q2⟩:=I1.after hq
   exact qB5 (qB5 ⟨_,H2,I2,q2⟩)
  | next=>exact False.elim hq
  | brk=>exact False.elim hq
  | cont=>exact False.elim hq
 | error ev=>exact handled hN hj hn hst hfr hgc hmc hex hs hdc I1 hq
end
def clF(sc:Scope)(env:Env):List (Str×Addr):=(sc.names.filterMap λp=>if p.2==.free then(env.cells.lookup p.1).map λc=>(p.1,c)else none).reverse
theorem zala{sc:Scope}{env:Env}:(x,c)∈clF sc env↔(x,NameKind.free)∈sc.names/\env.cells.lookup x=some c:=by
 unfold clF
 rw[List.mem_reverse,qBg]
 constructor
 ·rintro⟨⟨y,k⟩,h1,h2⟩
  dsimp only at h2
  split at h2
  ·rename_i hk
   have hk:k=NameKind.free:=by simpa using hk
   obtain⟨d,e1,e2⟩:=qG.mp h2
   cases e2
   exact⟨hk▸h1,e1⟩
  ·cases h2
 ·rintro⟨h1,h2⟩
  exact⟨(x,.free),h1,by dsimp only;rw[if_pos (by rfl),h2];rfl⟩
theorem zxj:∀{l:List (Str×α)}{x:Str}{c:α},(x,c)∈l->∃d,l.lookup x=some d
 | (k,v)::r,x,c,h=>by
  rw[qAM]
  cases hb:x==k with
  | true=>exact⟨v,rfl⟩
  | false=>
   rcases qZ.mp h with e|h
   ·cases e;simp at hb
   ·exact zxj h
theorem zil{env:Env}(h:(clF sc env).lookup x=some c):env.cells.lookup x=some c:=(zala.mp (qp h)).2
theorem zalb{sc:Scope}{env:Env}(h:(x,NameKind.free)∈sc.names)(e:env.cells.lookup x=some c):(clF sc env).lookup x=some c:=by
 obtain⟨d,hd⟩:=zxj (zala.mpr ⟨h,e⟩)
 rw[hd]
 exact(zil hd).symm.trans e
section
variable{P:Program}{w:World}{K:qB}{mg:Str->Option Value}{base:Heap}{N:List Str}{qual:Str}{scope:Scope}{f:Addr}{cd:Value}{cl:List (Str×Addr)}{A:Around}{outer:List Env}{s:Shared}{H:Hp}{E:XK}
theorem zavg(I:Inv (zabf (CXE P w) P w K mg base N qual scope f cd cl A outer s H E) pins σ H1 s1)(h0k:HOk P w H s.heap)(F:Flt s.heap H1 e C dx)(q:StX H E (.ref C) (some dx) H1) :
  (zabf (CXE P w) P w K mg base N qual scope f cd cl A outer s H E).xe (.ref e) s1:=by
 refine zafm (X:=zabf (CXE P w) P w K mg base N qual scope f cd cl A outer s H E) I rfl rfl (λb ob z=>I.base.there b ob z (λy=>absurd (show b∈([]:List Addr)from y) (by simp))) F λs' H2 I2 ht hk hx _=>?_
 refine⟨e,C,dx,H2,rfl,I2.os,I2.bare,I2.base,I2.hok,⟨F.new,_,ht.choose_spec.1,.inr ⟨_,rfl,ht.choose_spec.2⟩⟩,λH3 r1 r2=>q H3 (λb o z1 z2=>?_) (λb o z n=>r2 b o (hx b o z n) n)⟩
 obtain⟨ob,y⟩:=(h0k b o z1).there
 exact r1 b o z1 (hk b o ob y z2)
theorem zuc(h0k:HOk P w H s.heap):zxc (CXE P w) (zabf (CXE P w) P w K mg base N qual scope f cd cl A outer s H E) (StX H E):=by
 intro pins σ H1 s1 e s2 I h
 obtain⟨ea,C,dx,H2,rfl,os,bare,un,ok,F,q⟩:=h
 have I2:=I.call' (s':=s2) os un ok bare (λb z=>absurd z (by simp))
 have old:∀b ob,s.heap.get? b=some ob->∃o',s1.heap.get? b=some o':=λb ob z=>I.base.there b ob z (λy=>absurd (show b∈([]:List Addr)from y) (by simp))
 have nw:∀b,s1.heap.get? b=none->s.heap.get? b=none:=λb z=>by
  cases y:s.heap.get? b with
  | none=>rfl
  | some ob=>obtain⟨o',y'⟩:=old b ob y;rw[z]at y';cases y'
 refine zavg I2 h0k ⟨nw _ F.new,?_⟩ (q H2 (λ_ _ _ z=>z) (λ_ _ z _=>z))
 obtain⟨tv,a,b⟩:=F.st
 exact⟨tv,a,b.imp id λ⟨T,x1,x2,x3,x4⟩=>⟨T,x1,x2,nw _ x3,x4⟩⟩
end
end L2
namespace PySem
open Sem (wp)
open Builtin Builtin.ObjectAttr
section
variable{prog:Program}{w:World}{A:Around}{E:Value->Shared->Prop}{h:Heap}{g:Array GenState}{d:Drawn}{t:Nat}{os:OsState}
variable{nm q:Str}{C N x:Addr}{bs bm:List Value}{sn:List Str}{sub:List Value}{ab:Bool}{col:Option Bool}{dd:Option Addr}{k0 k1 k2 k3 k5:Option Value}{newId:String}{o:Obj}
theorem zahw {R:Result->Shared->Prop} (hr:zep bm=true) (hC:h.get? C=some (excClassObj nm q C N bs bm true sn sub ab col dd k0 k1 k2 k3 k5 newId)) (hx:h.get? x=some o) (hc:o.cls=.ref C) (hq:R (.ok (.ret (.ref C))) ⟨h,g,d,t,os⟩) :
  codeAny (model prog w) A (.call (.builtin "getset_descriptor.__get__") ⟨[.builtin "object.__class__",.ref x,.ref C],[]⟩) R ⟨h,g,d,t,os⟩:=by
 have hT5:(⟨h,g,d,t,os⟩:Shared).TypeIs (.builtin "object.__class__") "getset_descriptor":=qCN
 have hcB:(Value.ref C::bm).contains (.type (".".intercalate ("object.__class__".cutAt '.').dropLast))=true:=by
  rw[F.owner_object_class,qAS,zdu (by decide) hr];rfl
 refine qBZ qDU.plain F.entry_gs_get (qDU.check _ _ _ _ _ _ _ _ hT5 (F.args_gs_get _ _ _) ?_)
 repeat (any_goals (first|assumption|(with_reducible refine qf hx ?_;rw[hc])|(with_reducible refine qAn hC ?_;rw[hcB])|wp_step))
 refine⟨qCW _ (by decide +kernel),codeAny_builtin F.entry_object_class ?_⟩
 repeat (any_goals (first|assumption|(with_reducible refine qf hx ?_;rw[hc])|wp_step))
theorem zazr{Q:Option Value->Shared->Prop}(hr:zep bm=true)(hC:h.get? C=some (excClassObj nm q C N bs bm true sn sub ab col dd k0 k1 k2 k3 k5 newId))(hx:h.get? x=some o)(hc:o.cls=.ref C)
  (LG:W.Looks (model prog w) h (typeLookup (.ref C) "__getattribute__") (some (.builtin "BaseException.__getattribute__")))(LA:W.Looks (model prog w) h (typeLookup (.ref C) "__class__") (some (.builtin "object.__class__")))
  (LH:W.Looks (model prog w) h (typeLookup (.ref C) "__getattr__") none) (hq:Q (some (.ref C)) ⟨h,g,d,t+1,os⟩):wpAny (model prog w) A (getAttr? (.ref x) "__class__") Q E ⟨h,g,d,t,os⟩:=by
 have hk:builtinKind "BaseException.__getattribute__"=some .slot:=by decide +kernel
 have hsplit:splitId "BaseException.__getattribute__"=some ("BaseException","__getattribute__"):=by decide +kernel
 have hcB:(Value.ref C::bm).contains (.type "BaseException")=true:=by rw[qAS,zdu (by decide) hr,qA2]
 have hx2:(Value.builtin "BaseException.__getattribute__"==Value.builtin "object.__getattribute__")=false:=by decide +kernel
 have hx1:(onTheHeap (Value.ref C)&&Value.builtin "BaseException.__getattribute__"==Value.builtin "object.__getattribute__")=false:=by rw[hx2];rfl
 have FB:=F.attr_ValueError
 have f3:=FB.ga.bind (.ref x)
 have hT5:(⟨h,g,d,t+1,os⟩:Shared).TypeIs (.builtin "object.__class__") "getset_descriptor":=qCN
 have f5:=qCN
 have f6:=qDU.lookup
 have f7:=F.slot_gs_set.lookup
 unfold getAttr? getAttrBy? getAttrBy
 repeat (any_goals (first|assumption|(with_reducible refine qf hx ?_;rw[hc])|(with_reducible refine LG.here ?_)|(with_reducible refine LH.here ?_)|wp_step))
 refine qBZ FB.ga.plain F.entry_bexc_ga ?_
 simp only[checkBuiltinCall,hk,hsplit]
 refine qD ?_
 unfold isInstance
 repeat (first|(with_reducible refine qf hx ?_;rw[hc])|(with_reducible refine qAn hC ?_;rw[hcB])|wp_step)
 repeat (any_goals (first|assumption|(with_reducible refine qf hx ?_;rw[hc])|(with_reducible refine LA.here ?_)|wp_step))
 refine zahw hr hC hx hc ?_
 repeat (any_goals (first|assumption|wp_step))
end
end PySem
namespace L2
open PySem PySem.Spec PyProof.Rows
section
variable{X:Cx}{C f:Addr}
theorem zza{K:qB}{e C dx f:Addr}(M:XMk K C f)(ha:findIn K (.ref C) "__class__"=some (some (.builtin "object.__class__"))):PySem.W.KitX K (.ref e) (.ref C) (λh=>∃tv,xeD e C dx tv h) where
 ty:=λ_ _ _ ⟨_,_,_,a,_⟩=>(qCy a).andThen .now
 it:=λ_ _ X _=>by
  obtain⟨nm,qn,N,bs,bm,sn,sub,ab,col,dd,k0,k1,k2,k3,k5,hC,_⟩:=zkl X M.cls M.tail
  intro A' Q' E' s' k q
  unfold isType loadHead
  exact qD (wpAny_loadPart (k _ _ hC) (qI q))
 ne:=λh tp dd its n sl X htp=>by
  obtain⟨nm,qn,N,bs,bm,sn,sub,ab,col,dd,k0,k1,k2,k3,k5,hC,_⟩:=zkl X M.cls M.tail
  refine Bool.eq_false_iff.mpr λq=>?_
  have e:C=tp:=Value.ref.inj (beq_iff_eq.mp q)
  subst e
  have z:=congrArg Obj.cls (qX (hC.symm.trans htp))
  unfold excClassObj at z
  injection z with z
  exact absurd z (by decide)
 ca:=λ{prog w A E Q s} X ⟨tv,vs,sl,a,_⟩ k=>by
  obtain⟨nm,qn,N,bs,bm,sn,sub,ab,col,dd,k0,k1,k2,k3,k5,hC,hbm,_⟩:=zkl X M.cls M.tail
  obtain⟨h,g,d,t,os⟩:=s
  exact zazr hbm hC a rfl (qAc X M.ga) (qAc X ha) (qAc X M.gh) k
def rIsX(K:qB)(C:Addr):List V->Hp->VK->Prop:=λxs H Q=>∃e dx tv b,H e=some (.ext (xeD e C dx tv))/\Q (.bl b) H/\
 ((∃c,xs=[.ref e,.ref c]/\kitOne K (.ref C) (.ref c)=some b)\/(∃n,xs=[.ref e,.ty n]/\kitOne K (.ref C) (.type n)=some b)\/∃p ys us,xs=[.ref e,.ref p]/\H p=some (.tup ys)/\(∀its,Vals ys its->its=us)/\kitAny K (.ref C) us=some b)
theorem zapo(M:XMk X.K C f)(ha:findIn X.K (.ref C) "__class__"=some (some (.builtin "object.__class__"))):CallR X (.builtin "isinstance") (rIsX X.K C):=by
 intro pins s σ H xs us Q I r h
 obtain⟨e,dx,tv,b,he,q,h⟩:=h
 have hx:=(I.hok e _ he).1
 rcases h with⟨c,rfl,kk⟩|⟨n,rfl,kk⟩|⟨p,ys,us',rfl,hp,hv,kk⟩
 ·obtain⟨u1,u2,rfl,r1,r2⟩:=zaaj r
  cases r1
  cases r2
  exact qAZ (zza (dx:=dx) M ha) I.kIn ⟨tv,hx⟩ kk (λz=>nomatch z) λtk=>⟨.bl b,H,I.tok _,rfl,q⟩
 ·obtain⟨u1,u2,rfl,r1,r2⟩:=zaaj r
  cases r1
  cases r2
  exact qAZ (zza (dx:=dx) M ha) I.kIn ⟨tv,hx⟩ kk (λz=>nomatch z) λtk=>⟨.bl b,H,I.tok _,rfl,q⟩
 ·obtain⟨u1,u2,rfl,r1,r2⟩:=zaaj r
  cases r1
  cases r2
  obtain⟨_,its,vi,op,hop,ho1,n,ho2⟩:=I.hok p _ hp
  cases hv its vi
  obtain⟨oc,od,odt,osl⟩:=op
  cases ho1
  cases ho2
  exact PySem.W.kia_tup (zza (dx:=dx) M ha) I.kIn ⟨tv,hx⟩ hop kk (λz=>nomatch z) λtk=>⟨.bl b,H,I.tok _,rfl,q⟩
end
theorem zavh{X:Cx}(hg:Gl X x)(hm:X.mg x=some (.ref C))(hd:(x==("__debug__":Str))=false:=by decide):PE X (.Name x pos) (tC (.ref C)):=
 λ_ _ _ H _ I h=>zte I hg hm ⟨.ref C,H,I,rfl,h⟩ hd
def zavi:Sl->Sl
 | .ac d=>.pl d
 | s=>s
def envB(own:List Str)(fr:List Nat)(env:DEnv):DEnv:=own.map (λ_=>Sl.no)++fr.map (λj=>zavi (env.getD j .no))
def isAc:Option Sl->Bool
 | some (.ac _)=>true
 | _=>false
def capA(fr:List Nat)(env:DEnv):List Nat:=fr.filter λj=>isAc env[j]?
theorem zzb{own:List Str}(e:(envB own fr env)[i]?=some (.pl d)):∃j k,i=own.length+k/\fr[k]?=some j/\(env[j]?=some (.pl d)\/env[j]?=some (.ac d)):=by
 unfold envB at e
 by_cases hi:i<own.length
 ·rw[qAE (by simpa using hi),qN,qH hi]at e
  cases e
 ·rw[qAB (by simpa using hi),qC,qN]at e
  cases ej:fr[i - own.length]? with
  | none=>rw[ej]at e;cases e
  | some j=>
   rw[ej]at e
   refine⟨j,i - own.length,by omega,ej,?_⟩
   have e:zavi (env.getD j .no)=.pl d:=qX e
   rw[qAC]at e
   cases ev:env[j]? with
   | none=>rw[ev]at e;cases e
   | some s=>
    rw[ev]at e
    cases s with
    | no=>cases e
    | pl d'=>cases e;exact .inl rfl
    | ac d'=>cases e;exact .inr rfl
theorem zjd{own:List Str}{fr:List Nat}{env:DEnv}{i:Nat}{d:PyData}:(envB own fr env)[i]?≠some (.ac d):=by
 intro e
 unfold envB at e
 by_cases hi:i<own.length
 ·rw[qAE (by simpa using hi),qN,qH hi]at e
  cases e
 ·rw[qAB (by simpa using hi),qC,qN]at e
  cases ej:fr[i - own.length]? with
  | none=>rw[ej]at e;cases e
  | some j=>
   rw[ej]at e
   have e:zavi (env.getD j .no)=.ac d:=qX e
   cases ev:env.getD j .no with
   | no=>rw[ev]at e;cases e
   | pl d'=>rw[ev]at e;cases e
   | ac d'=>rw[ev]at e;cases e
theorem zalc{own:List Str}(hk:fr[k]?=some j)(hv:σ[j]?=some (some v)):(tau own fr σ)[own.length+k]?=some (some v):=by
 unfold tau
 rw[qAB (by simp),qC,qDG,qN,hk]
 show some (σ.getD j none)=_
 rw[qAC,hv];rfl
theorem zabg{fx:Addr->Prop}{H0:Hp}{env:DEnv}{σ:St}{H H1:Hp}{p:Addr}(h:EnvOk fx H0 env σ H)(s:Same H H1)(hp:H1 p=none)(own:List Str)(fr:List Nat)(bs:List Nat) :
  EnvOk (λb=>lim fx env σ (bs++capA fr env) b\/b=p) H1 (envB own fr env) (tau own fr σ) (upd H1 p (.lst [])):=by
 have h1:=h.up s
 have sp:Same H1 (upd H1 p (.lst [])):=Same.new hp
 have so:Same (Offs (λb=>fx b\/L2.own env σ b) H1) (Offs (λb=>(lim fx env σ (bs++capA fr env) b\/b=p)\/L2.own (envB own fr env) (tau own fr σ) b) (upd H1 p (.lst []))):=Offs.mono sp λb o e n z=>by
  rcases z with(z|z)|⟨i,d,z,_⟩
  ·exact n (ztt b z)
  ·rw[z,hp]at e;cases e
  ·exact absurd z zjd
 refine⟨?_,λi d e=>?_,λi d e=>absurd e zjd,λi j d e a z=>absurd z zjd,sp,λb z=>?_⟩
 ·unfold envB tau;simp
 ·obtain⟨j,k,rfl,hk,hj⟩:=zzb e
  rcases hj with hj|hj
  ·obtain⟨v,h2,h3⟩:=h1.pl j d hj
   exact⟨v,zalc hk h2,Rp.same so _ h3⟩
  ·obtain⟨a,h2,h3,h4,h5⟩:=h1.ac j d hj
   refine⟨_,zalc hk h2,h5.rp so λo eo=>?_⟩
   rw[Offs.get]
   ·exact sp _ _ eo
   ·rintro((z|⟨i',d',z1,z2,z3⟩)|⟨i',d',z,_⟩)
    ·rcases z with z|⟨i',d',z1,z2,z3⟩
     ·exact h4 z
     ·have e2:=h1.inj i' j d' d a z2 hj z3 h2
      subst e2
      refine z1 (qc _ (qAj.mpr ⟨qAe hk,?_⟩))
      rw[hj];rfl
    ·rw[hp]at eo;cases eo
    ·exact absurd z zjd
 ·rcases z with z|z
  ·obtain⟨o,e⟩:=h1.lims _ b z;exact⟨o,sp b o e⟩
  ·rw[z];exact⟨_,zal⟩
theorem EnvOk.weaken{fx:Addr->Prop}{env e1:DEnv}(h:EnvOk fx H0 e1 σ H)(hl:env.length=e1.length)(hp:∀(i:Nat) (d:PyData),env[i]?=some (.pl d)->e1[i]?=some (.pl d))(ha:∀(i:Nat) (d:PyData),env[i]?≠some (.ac d)):EnvOk fx H0 env σ H:=by
 refine⟨hl.trans h.len,λi d e=>?_,λi d e=>absurd e (ha i d),λi j d e a z=>absurd z (ha i d),h.base,h.fxs⟩
 obtain⟨v,h1,h2⟩:=h.pl i d (hp i d e)
 exact⟨v,h1,Rp.same (Offs.sub λb z=>z.imp (λy=>y) λ⟨j,d',z,_⟩=>absurd z (ha j d')) _ h2⟩
theorem EnvOk.updFx{fx:Addr->Prop}(h:EnvOk fx H0 env σ H)(hp:fx p)(h0:H0 p=none):EnvOk fx H0 env σ (upd H p o):=by
 have so:Offs (λb=>fx b\/own env σ b) (upd H p o)=Offs (λb=>fx b\/own env σ b) H:=Offs.upd (.inl hp)
 refine⟨h.len,λi d e=>?_,λi d e=>?_,h.inj,λb u e=>by rw[zap (zay e h0)];exact h.base b u e,λb z=>?_⟩
 ·rw[so];exact h.pl i d e
 ·obtain⟨a,h1,h2,h3,h4⟩:=h.ac i d e
  rw[so]
  exact⟨a,h1,h2,h3,h4.same (Same.refl _) λu z=>by rw[zap λy=>h3 (by rw[y];exact hp)];exact z⟩
 ·by_cases e:b=p
  ·rw[e];exact⟨_,zal⟩
  ·obtain⟨u,hu⟩:=h.fxs b z
   exact⟨u,by rw[zap e];exact hu⟩
def GX(n:Nat)(g:GT):Prop:=∀d env e1,g d env=some e1->e1.length=env.length/\∀i,n<=i->e1[i]?=env[i]?
def GXs(n:Nat)(g:GTs):Prop:=∀ds env e1,g ds env=some e1->e1.length=env.length/\∀i,n<=i->e1[i]?=env[i]?
theorem zud(h:i<n):GX n (gN i):=by
 intro d env e1 e
 cases e
 exact⟨qd,λj hj=>qa (by omega)⟩
theorem zavj:GXs n zdt:=by
 intro ds env e1 e
 cases ds with
 | nil=>cases e;exact⟨rfl,λ_ _=>rfl⟩
 | cons _ _=>cases e
theorem zafw(h:i<n)(hg:GXs n g):GXs n (zar i g):=by
 intro ds env e1 e
 cases ds with
 | nil=>cases e
 | cons d ds=>
  obtain⟨h1,h2⟩:=hg ds _ e1 e
  rw[qd]at h1
  exact⟨h1,λj hj=>(h2 j hj).trans (qa (by omega))⟩
theorem zazs(hg:GXs n g):GX n (gT m g):=by
 intro d env e1 e
 unfold gT at e
 cases d with
 | tuple ds=>
  have e:(if ds.length=m then g ds env else none)=some e1:=e
  split at e
  ·exact hg ds env e1 e
  ·cases e
 | _=>cases e
def zdy(g:GT)(t:TF)(e:EF)(env:DEnv):List PyData->Option (List PyData)
 | []=>some []
 | d::ds=>(g d env).bind λe1=>(t e1).bind λb=>if b=true then(e e1).bind λr=>(zdy g t e env ds).map λrs=>r.d::rs else zdy g t e env ds
def zck(own:List Str)(fr:List Nat)(fi:IF')(g:GT)(t:TF)(e:EF):EF:=λenv=>(fi env).bind λz=>if z.1.length<100000 then
 (zdy g t e (envB own fr env) z.1).map λrs=>⟨.list rs,true,if zei rs=true then[]else z.2++capA fr env⟩else none
theorem zow(f:zei ds=true)(h:Rps H ds vs):Rps H' ds vs:=by
 replace h:=zcj.mp h
 induction h with
 | nil=>exact zcz
 | cons h _ ih=>
  unfold zei at f
  rw[qA0,qo]at f
  exact zcx (ztu f.1 h) (ih f.2)
theorem zqi{own:List Str}{fr:List Nat}{wi:TI}{g:TG}{tt:TT}{te:TE}{fi:IF'}{gf:GT}{t:TF}{e:EF}(h1:SI wi fi)(h2:SG g gf)(hx:GX own.length gf)(h3:ST tt t)(h4:SE te e) :
  SE (tComp1 wi g tt te own fr) (zck own fr fi gf t e):=by
 intro fx H0 env σ H h rr hr Q q
 unfold zck at hr
 obtain⟨⟨ds,bs⟩,ei,hr⟩:=qA.mp hr
 split at hr
 ·rename_i hlen
  have hlen:ds.length<100000:=hlen
  obtain⟨rs,ers,rfl⟩:=qG.mp hr
  refine h1 fx H0 env σ H h ds bs ei _ λJ H1 s yl=>λp hp=>?_
  have hB:=zabg h s hp own fr bs
  generalize hA:(λb=>lim fx env σ (bs++capA fr env) b)=A
  have hA':∀b,lim fx env σ (bs++capA fr env) b↔A b:=λb=>by rw[<- hA]
  have eA:(λb=>lim fx env σ (bs++capA fr env) b\/b=p)=λb=>A b\/b=p:=by rw[<- hA]
  rw[eA]at hB
  have nA:¬A p:=λz=>by
   obtain⟨o,eo⟩:=(h.up s).lims _ p ((hA' p).mpr z)
   rw[hp]at eo;cases eo
  have seen:∀{σ':St}{H':Hp},EnvOk (λb=>A b\/b=p) H1 (envB own fr env) σ' H'->Same (Offs (λb=>fx b\/L2.own (frzs env bs) σ b) H1) (Offs (λb=>A b\/b=p) H'):=λ{σ' H'} hE=>Offs.mono hE.base λb o eo n z=>by
   rcases z with z|z
   ·rcases(hA' b).mpr z with z|⟨i,d,z1,z2,z3⟩
    ·exact n (.inl z)
    ·exact n (.inr ⟨i,d,zjc (λy=>z1 (q9 _ y)) z2,z3⟩)
   ·rw[z,hp]at eo;cases eo
  refine⟨λi m σ' H'=>m=ds.length - i/\i<=ds.length/\∃vs done rest,H' p=some (.lst vs)/\Rps (Offs (λb=>A b\/b=p) H') done vs/\done.length<=i/\zdy gf t e (envB own fr env) (ds.drop i)=some rest/\done++rest=rs/\EnvOk (λb=>A b\/b=p) H1 (envB own fr env) σ' H',
   ⟨ds.length,rfl,qAl _,[],[],rs,zal,zcz,qAl _,ers,rfl,hB⟩,?_⟩
  rintro i m σ' H' ⟨rfl,hi,vs,done,rest,ep,rd,dl,ec,edr,hE⟩
  obtain⟨yi,ys⟩:=yl _ H' hE.fxs (seen hE)
  by_cases hlt:i<ds.length
  ·obtain⟨yg,yy⟩:=yi i ds[i] (qH hlt)
   refine .inr ⟨yg,λσ'' H''=>i+1<=ds.length/\∃vs done rest,H'' p=some (.lst vs)/\Rps (Offs (λb=>A b\/b=p) H'') done vs/\done.length<=i+1/\zdy gf t e (envB own fr env) (ds.drop (i+1))=some rest/\done++rest=rs/\EnvOk (λb=>A b\/b=p) H1 (envB own fr env) σ'' H'',?_,?_⟩
   ·rintro σ'' H'' ⟨hle,hh⟩
    exact⟨ds.length - (i+1),by omega,rfl,hle,hh⟩
   ·intro x H'' hy
    obtain⟨sy,ry⟩:=yy x H'' hy
    rw[qAt hlt]at ec
    obtain⟨e1,ee1,ec⟩:=qA.mp ec
    obtain⟨b,eb,ec⟩:=qA.mp ec
    have ry':Rp (Offs (λa=>(A a\/a=p)\/L2.own (envB own fr env) σ' a) H'') ds[i] x:=Rp.same (Offs.sub λb z=>z.elim (λy=>y) λ⟨j,d',z,_⟩=>absurd z zjd) _ ry
    refine h2 _ H1 (envB own fr env) σ' H'' _ x (hE.up sy) ry' e1 ee1 _ λσ2 hE2=>?_
    refine h3 _ H1 e1 σ2 H'' hE2 b eb _ λH3 s3=>?_
    have hE3:=hE2.up s3
    obtain⟨gl,gk⟩:=hx _ _ _ ee1
    have back:∀{H4:Hp},EnvOk (λb=>A b\/b=p) H1 e1 σ2 H4->EnvOk (λb=>A b\/b=p) H1 (envB own fr env) σ2 H4:=λ{H4} hh=>hh.weaken gl.symm (λj d' ej=>by
     by_cases hj:own.length<=j
     ·rw[gk j hj];exact ej
     ·obtain⟨_,k,rfl,_⟩:=zzb ej;omega) λj d'=>zjd
    cases b with
    | false=>
     have ec:zdy gf t e (envB own fr env) (ds.drop (i+1))=some rest:=ec
     exact iteF ⟨hlt,vs,done,rest,s3 _ _ (sy _ _ ep),Rps.same (Offs.grow (sy.trans s3)) _ rd,qBD dl,ec,edr,back hE3⟩
    | true=>
     have ec:((e e1).bind λr=>(zdy gf t e (envB own fr env) (ds.drop (i+1))).map λrs=>r.d::rs)=some rest:=ec
     obtain⟨r,er,ec⟩:=qA.mp ec
     obtain⟨rest',er',rfl⟩:=qG.mp ec
     refine iteT (h4 _ H1 e1 σ2 H3 hE3 r er _ λv H4 s4 hv=>?_)
     have t4:=(sy.trans s3).trans s4
     refine⟨vs,t4 _ _ ep,zkn (by rw[<- rd.length];omega),hlt,vs++[v],done++[r.d],rest',zal,?_,by rw[qO];simp;omega,er',by rw[<- edr];simp,(back (hE3.up s4)).updFx (.inr rfl) hp⟩
     rw[Offs.upd (.inr rfl)]
     exact(Rps.same (Offs.grow t4) _ rd).append (zcx (Rp.same (Offs.sub λb z=>.inl z) _ hv.rp) zcz)
  ·have hi':i=ds.length:=by omega
   subst hi'
   rw[qBK]at ec
   cases ec
   rw[qw]at edr
   subst edr
   refine .inl ⟨ys,q _ H' (s.trans hE.base) ⟨?_,λ_=>⟨p,rfl,s.free hp,?_⟩⟩⟩
   ·show Rp (Offs (lim fx env σ (if zei done=true then[]else bs++capA fr env)) H') (.list done) (.ref p)
    have nl:∀cs,¬lim fx env σ cs p:=λcs z=>by
     obtain⟨o,eo⟩:=(h.up s).lims _ p z
     rw[hp]at eo;cases eo
    refine zik (by rw[Offs.get (nl _)];exact ep) ?_
    split
    ·rename_i f;exact zow f rd
    ·exact Rps.same (Offs.sub λb z=>.inl ((hA' b).mp z)) _ rd
   ·show zhz (Offs (λb=>lim fx env σ (if zei done=true then[]else bs++capA fr env) b\/b=p) H') H' p (.list done)
    refine⟨vs,ep,?_⟩
    split
    ·rename_i f;exact zow f rd
    ·exact Rps.same (Offs.sub λb z=>z.imp (hA' b).mp id) _ rd
 ·cases hr
section
variable{X:Cx}{K:qB}
theorem zald(hK:X.K=K){a:Expr}(ha:PE X a ta)(he:∀whole,isTrue a X.env whole=(do let v <- whole;standAt a.pos;holding [v] (truthy v))) :
  PT X a (λσ H Q=>ta σ H λx H'=>∃k,TruV K x H' k/\Q k H'):=by subst hK;exact zaoj ha he
theorem zcq(hK:X.K=K):CallR X (.type "tuple") (λxs H Q=>∃p ys,xs=[.ref p]/\((SqL K H p ys/\∀l,H l=none->Q (.ref l) (upd H l (.tup ys)))\/(SqT K H p ys/\Q (.ref p) H))):=by subst hK;exact zyr
theorem zim(hK:X.K=K)(hu:X.A.units+64<cLine):OpR X (compareOp .Eq) (λx y H Q=>rEq x y H Q\/rEqD K false x y H Q):=by subst hK;exact zbbn.or (zayr hu)
theorem zxk(hK:X.K=K)(hu:X.A.units+64<cLine):OpR X (compareOp .NotEq) (λx y H Q=>rNe x y H Q\/rEqD K true x y H Q):=by subst hK;exact zbbo.or (zays hu)
def zcf:TF:=λ_=>some true
theorem zale:ST tAll zcf:=by
 intro fx H0 env σ H hE b hb Q q
 cases hb
 exact q H (Same.refl _)
def eNeg(a:EF):EF:=λenv=>(a env).bind λx=>match x.d with|.int i=>some ⟨.int (-i),false,[]⟩|_=>none
theorem zazt(h1:SE te f):SE (tUn (rU λi=>.int (-i)) te) (eNeg f):=by
 intro fx H0 env σ H h rr hr Q q
 unfold eNeg at hr
 obtain⟨⟨d,fr,bs⟩,ex,hr⟩:=qA.mp hr
 cases d with
 | int i=>
  cases hr
  exact h1 fx H0 env σ H h _ ex _ λv H1 s1 v1=>⟨i,zeh v1.rp,q _ H1 s1 ⟨zby,λz=>by cases z⟩⟩
 | _=>cases hr
end
end L2
namespace PySem
open Sem (wp)
end PySem
namespace L2
open PySem PySem.Spec PyProof.Rows
def zasq:List PyData->Option (List (PyData×PyData))
 | []=>some []
 | .tuple [k,v]::r=>(keyD k).bind λ_=>(zasq r).map λps=>(k,v)::ps
 | _=>none
def zbcw:GF
 | [.list rows]=>(zasq rows).map λps=>(.dict (znm [] ps),true)
 | _=>none
def zhj(i j:Nat)(f:EF):SF:=λenv=>match env[i]?,env[j]? with
 | some (.ac (.list ds)),some (.ac (.list es))=>(f env).bind λr=>match r.d with
  | .int k=>if 0<=k/\k<100000/\ds.length<100000/\i≠j then(es[k.toNat]?).bind λd=>some (.nx ((env.set j (.ac (.list (es.eraseIdx k.toNat)))).set i (.ac (.list (ds++[d])))))else none
  | _=>none
 | _,_=>none
theorem Rps.erase{ds:List PyData}{vs:List V}(h:Rps H ds vs)(n:Nat):Rps H (ds.eraseIdx n) (vs.eraseIdx n):=by
 induction n generalizing ds vs with
 | zero=>
  cases ds with
  | nil=>unfold Rps at h;subst h;exact zcz
  | cons d ds=>unfold Rps at h;obtain⟨v,ws,rfl,h1,h2⟩:=h;exact h2
 | succ n ih=>
  cases ds with
  | nil=>unfold Rps at h;subst h;exact zcz
  | cons d ds=>unfold Rps at h;obtain⟨v,ws,rfl,h1,h2⟩:=h;exact zcx h1 (ih h2)
theorem zabh{K:qB}{i j:Nat}{te:TE}{f:EF}(h1:SE te f):SS (tDrop (tBM K "list" ztj (tVar i) (tCons (tBM K "list" zary (tVar j) (tCons te tNil)) tNil))) (zhj i j f):=by
 intro fx H0 env σ H D h o e q
 unfold zhj at e
 split at e
 ·rename_i ds es ei ej
  obtain⟨⟨rd,rfr,rbs⟩,er,e⟩:=qA.mp e
  cases rd with
  | int k=>
   have e:(if 0<=k/\k<100000/\ds.length<100000/\i≠j then(es[k.toNat]?).bind λd=>some (Out.nx ((env.set j (.ac (.list (es.eraseIdx k.toNat)))).set i (.ac (.list (ds++[d])))))else none)=some o:=e
   split at e
   ·rename_i hl
    obtain⟨d,ed,e⟩:=qA.mp e
    cases e
    obtain⟨a,g1,g2,g3,g4⟩:=h.ac i _ ei
    obtain⟨xs,hx,rx⟩:=g4
    obtain⟨b,k1,k2,k3,k4⟩:=h.ac j _ ej
    obtain⟨ys,hy,ry⟩:=k4
    have hab:a≠b:=λz=>hl.2.2.2 (h.inj i j _ _ a ei ej g1 (by rw[z];exact k1))
    refine⟨_,g1,.inl ⟨rfl,_,SqL.of hx⟩,_,k1,.inl ⟨rfl,_,SqL.of hy⟩,h1 fx H0 env σ H h _ er _ λv H' s hv=>?_⟩
    cases zeh hv.rp
    have h':=h.up s
    have hy':=s _ _ hy
    have hx':=s _ _ hx
    have ry':Rps (Offs (λb=>fx b\/own env σ b) H') es ys:=Rps.same (Offs.grow s) _ ry
    have rx':Rps (Offs (λb=>fx b\/own env σ b) H') ds xs:=Rps.same (Offs.grow s) _ rx
    obtain⟨u,hu,ru⟩:=ry'.get2 ed
    have hlt:k.toNat<ys.length:=(qS.mp hu).1
    have hsq:seqIndex? k ys.length=some k.toNat:=qDF hl.1 (by omega)
    refine⟨b,ys,k,k.toNat,u,rfl,rfl,hy',by omega,by omega,hsq,hu,?_⟩
    have h2:=h'.mut ej k1 (d':=.list (es.eraseIdx k.toNat)) (o:=.lst (ys.eraseIdx k.toNat)) ⟨_,zal,ry'.erase _⟩
    have ei2:(env.set j (.ac (.list (es.eraseIdx k.toNat))))[i]?=some (.ac (.list ds)):=by rw[qa (qAp hl.2.2.2)];exact ei
    have hx2:(upd H' b (.lst (ys.eraseIdx k.toNat))) a=some (.lst xs):=by rw[zap hab];exact hx'
    obtain⟨a',z1,_,_,z4⟩:=h2.ac i _ ei2
    rw[g1]at z1
    cases z1
    obtain⟨zs,y1,y2⟩:=z4
    rw[hx2]at y1
    cases y1
    have ow:Same (Offs (λb=>fx b\/own env σ b) H') (Offs (λc=>fx c\/own (env.set j (.ac (.list (es.eraseIdx k.toNat)))) σ c) (upd H' b (.lst (ys.eraseIdx k.toNat)))):=by
     have t:Same (Offs (λb=>fx b\/own env σ b) (upd H' b (.lst (ys.eraseIdx k.toNat)))) (Offs (λc=>fx c\/own (env.set j (.ac (.list (es.eraseIdx k.toNat)))) σ c) (upd H' b (.lst (ys.eraseIdx k.toNat)))):=Offs.sub λc z=>z.imp (λy=>y) λ⟨m,d1,w1,w2⟩=>by
      rcases zcp w1 with⟨rfl,_⟩|⟨_,w1⟩
      ·exact⟨m,_,ej,w2⟩
      ·exact⟨m,d1,w1,w2⟩
     rw[Offs.upd (.inr ⟨j,_,ej,k1⟩)]at t
     exact t
    refine⟨a,xs,u,rfl,rfl,hx2,zkn (by rw[<- rx.length];exact hl.2.2.1),?_⟩
    exact q σ _ (h2.mut ei2 g1 ⟨_,zal,y2.append (zcx (Rp.same ow _ ru) zcz)⟩)
   ·cases e
  | _=>cases e
 ·cases e
def zdd(i:Nat)(b:EF):EF:=λenv=>match env[i]? with
 | some (.pl (.dict kvs))=>(b env).bind λy=>(keyD y.d).bind λk=>(zos kvs k).bind λd=>some ⟨d,false,[]⟩
 | some (.ac (.dict kvs))=>(b env).bind λy=>(keyD y.d).bind λk=>(zos kvs k).bind λd=>some ⟨d,false,[]⟩
 | _=>none
theorem zapp(hb:SE ty fb):SE (tDGet (tVar i) ty) (zdd i fb):=by
 intro fx H0 env σ H h rr hr Q q
 unfold zdd at hr
 have key:∀(a:Addr)(ps:List (Key×V))(kvs:List (PyData×PyData)),σ[i]?=some (some (.ref a))->H a=some (.dK ps)->Rpd (Offs (λb=>fx b\/own env σ b) H) kvs ps->((fb env).bind λy=>(keyD y.d).bind λk=>(zos kvs k).bind λd=>some (⟨d,false,[]⟩:Val))=some rr->tDGet (tVar i) ty σ H Q:=by
  intro a ps kvs hs ha r hr
  obtain⟨y,ey,hr⟩:=qA.mp hr
  obtain⟨k,ek,hr⟩:=qA.mp hr
  obtain⟨d,ed,hr⟩:=qA.mp hr
  cases hr
  refine⟨_,hs,hb fx H0 env σ H h _ ey _ λu H2 s2 v2=>?_⟩
  have g:=(Rpd.same (Offs.grow s2) _ r).get (j:=k)
  rw[ed]at g
  obtain⟨w,e1,e2⟩:=g
  rw[zapi v2.rp ek]
  have dg:=DGet.k (k:=k) (s2 _ _ ha)
  rw[e1]at dg
  exact⟨a,w,rfl,dg,q w H2 s2 ⟨Rp.same (Offs.sub ztt) _ e2,λz=>by cases z⟩⟩
 split at hr
 ·rename_i kvs ei
  obtain⟨v,h1,h2⟩:=h.pl i _ ei
  obtain⟨a,ps,rfl,ha,r⟩:=ztr h2
  exact key a ps kvs h1 (zdv ha) r hr
 ·rename_i kvs ei
  obtain⟨a,h1,h2,h3,ps,ha,r⟩:=h.ac i _ ei
  exact key a ps kvs h1 ha r hr
 ·cases hr
def eIxV(i:Nat)(b:EF):EF:=λenv=>match env[i]? with
 | some (.ac (.list ds))=>(b env).bind λy=>match y.d with
  | .int k=>(atI ds k).map λd=>⟨d,false,[]⟩
  | _=>none
 | _=>eOp ixD (eVar i) b env
theorem zasr{K:qB}{i:Nat}{tb:TE}{fb:EF}(hb:SE tb fb):SE (tOp (rIxU K) (tVar i) tb) (eIxV i fb):=by
 intro fx H0 env σ H h rr hr Q q
 unfold eIxV at hr
 split at hr
 ·rename_i ds ei
  obtain⟨⟨dy,fy,bys⟩,ey,hr⟩:=qA.mp hr
  cases dy with
  | int k=>
   obtain⟨d,ed,rfl⟩:=qG.mp hr
   obtain⟨a,h1,h2,h3,xs,ha,r⟩:=h.ac i _ ei
   refine⟨_,h1,hb fx H0 env σ H h _ ey _ λu H2 s2 v2=>?_⟩
   cases zeh v2.rp
   obtain⟨v,hv,rv⟩:=(Rps.same (Offs.grow s2) _ r).atI ed
   exact⟨xs,v,.inl (SqL.of (s2 _ _ ha)),hv,q _ H2 s2 ⟨Rp.same (Offs.sub ztt) _ rv,λz=>by cases z⟩⟩
  | _=>cases hr
 ·exact zadv zazb (zhh i) hb fx H0 env σ H h rr hr Q q
def zalf(wi:TI)(g:TG)(tt:TT)(tm:TM):TM:=λσ H Q=>wi σ H λJ H1=>zaht J g tt tm σ H1 Q
section
variable{X:Cx}
theorem zaec{M:Model}{P:Program}{w:World}{A:Around}{R:Result->Shared->Prop}{s:Shared}{elt:Expr}{g0:Comprehension}{target iter:Expr}{ifs:List Expr}{rest:List Comprehension}{scope:Scope}{cpos:Pos}{it acc:Value}{env:Env}
  (l:codeAny (model P w) A (.compLoop (.ListComp elt (g0::⟨target,iter,ifs,0⟩::rest) scope cpos) 1 it acc env) R s)
  (t:∀(A:Around) (E:Value->Shared->Prop),wpAny (model P w) A (pyIter it) (λu s'=>u=it/\s'=s) E s) :
  codeAny (model P w) A (.compStart (.ListComp elt (g0::⟨target,iter,ifs,0⟩::rest) scope cpos) 1 it acc env) R s:=by
 refine codeAny_of_tree ?_
 show wpAny _ _ ((compStart (.ListComp elt (g0::⟨target,iter,ifs,0⟩::rest) scope cpos) 1 it acc env).onRaise (λx=>do noteFrame x env;standAt theWindowsPlace)) _ _ s
 refine wpAny_notedAt ?_
 unfold compStart
 show wpAny _ _ (ask >>=_) _ _ s
 refine qD (wpAny_askSetting (wpAny_ite ?_))
 split
 ·first
   | exact qD (qI (qI (And.intro rfl l)))
   | exact qI (And.intro rfl l)
 ·refine qD (qCq ?_)
  first
   | exact qD (qBV (qD (thn (t _ _) λu s' z=>by obtain⟨e1,e2⟩:=z;subst e1;subst e2;exact qI (And.intro rfl l))))
   | (show wpAny _ _ (standAt iter.pos >>=_) _ _ s;exact qD (qBV (qD (thn (t _ _) λu s' z=>by obtain⟨e1,e2⟩:=z;subst e1;subst e2;exact qI (And.intro rfl l)))))
theorem zapq{target iter:Expr}
  (hx:X.xe=λ_ _=>False)(hc:X.calm=true)(hi:PI X target iter wi)(hg:PG X target g)(ht:PF X ifs tt)(he:PE X elt0 te)
  (hs:∀x,foldedSetIterable iter X.env x=pure x) :
  PM X (do
   let x <- eval iter X.env
   standAt iter.pos
   let x <- foldedSetIterable iter X.env x
   let _ <- runOwn (.compStart (.ListComp elt0 [g0,⟨target,iter,ifs,0⟩] scope cpos) 1 (<- holding [x] (pyIter x)) (.ref p) X.env) X.env) (zalf wi g tt (zyx p te)):=by
 intro pins s σ H Q I h
 refine qD (thn (hi pins s σ H _ I h) λv s1 h1=>?_)
 refine qD (qBV ?_)
 rw[hs]
 refine qD (qI (qD (qBp (thn h1 λitv s2 h2=>?_))))
 obtain⟨it,fp,tn,J,H2,e,I2,T,st2,f2,q⟩:=h2
 subst e
 refine qD (thn (wpAny_runOwn (h:=none) (Q:=λ_ s'=>∃σ' H',Inv X pins σ' H' s'/\Q σ' H') ?_) λ_ _ z=>qI z)
 refine zaec (M:=model X.prog X.w) ?_ λA E=>T.self A 0 s2 _ E st2 ⟨rfl,rfl⟩
 refine qBl (ztl (X:=X) (pins:=pins) hx hc (elt0:=elt0) (gens:=[g0,⟨target,iter,ifs,0⟩]) (depth:=1) (ip:=iter.pos) (emit:=(do let _ <- call (.builtin "list.append") [.ref p,<- eval elt0 X.env])) rfl T hg ht (zyy he) I2 st2 f2 q) λr s5 hr=>?_
 obtain⟨rfl,z⟩:=hr
 exact z
theorem zbci(elt target iter target2 iter2:Expr)(ifs ifs2:List Expr)(scope:Scope)(cpos:Pos)(it acc:Value)(env:Env) :
  compTurn (.ListComp elt [⟨target,iter,ifs,0⟩,⟨target2,iter2,ifs2,0⟩] scope cpos) 0 it acc env=(do
   standAt iter.pos
   match <- pyNext it with
   | none=>pure (.done .next)
   | some v=>
    letOwnedTupleGo target it v
    assign target env v
    let mut ok:=true
    for c in ifs do
     if ok then ok <- isTrue c env (eval c env)
    if ok then do
     let x <- eval iter2 env
     standAt iter2.pos
     let x <- foldedSetIterable iter2 env x
     let i <- holding [x] (pyIter x)
     let _ <- runOwn (.compStart (.ListComp elt [⟨target,iter,ifs,0⟩,⟨target2,iter2,ifs2,0⟩] scope cpos) 1 i acc env) env
     again (.compLoop (.ListComp elt [⟨target,iter,ifs,0⟩,⟨target2,iter2,ifs2,0⟩] scope cpos) 0 it acc env)
    else again (.compLoop (.ListComp elt [⟨target,iter,ifs,0⟩,⟨target2,iter2,ifs2,0⟩] scope cpos) 0 it acc env)):=rfl
def tComp2(wi:TI)(g:TG)(tt:TT)(wi2:TI)(g2:TG)(tt2:TT)(te:TE)(own:List Str)(fr:List Nat):TE:=zaou wi g tt (λp=>zalf wi2 g2 tt2 (zyx p te)) own fr
theorem zapr{scope:Scope}{N' own:List Str}{fr:List Nat}{elt target iter target2 iter2:Expr}{ifs ifs2:List Expr}{cpos:Pos}{wi wi2:TI}{g g2:TG}{tt tt2:TT}{te:TE}(c:CompOk X scope N' own fr)(hc:X.calm=true)(hi:PI X target iter wi)
  (hb:∀(cl:List (Str×Addr)) (C:Addr) (s:Shared) (H:Hp) (fp:List Addr),PG (cxComp X scope N' own cl C s H fp) target g/\PF (cxComp X scope N' own cl C s H fp) ifs tt/\PI (cxComp X scope N' own cl C s H fp) target2 iter2 wi2/\PG (cxComp X scope N' own cl C s H fp) target2 g2/\PF (cxComp X scope N' own cl C s H fp) ifs2 tt2/\PE (cxComp X scope N' own cl C s H fp) elt te)
  (hs:∀x,foldedSetIterable iter X.env x=pure x:=by intro _;rfl)(hs2:∀env x,foldedSetIterable iter2 env x=pure x:=by intro _ _;rfl) :
  PE X (.ListComp elt [⟨target,iter,ifs,0⟩,⟨target2,iter2,ifs2,0⟩] scope cpos) (tComp2 wi g tt wi2 g2 tt2 te own fr):=
 zafl (emit:=λacc env=>do
   let x <- eval iter2 env
   standAt iter2.pos
   let x <- foldedSetIterable iter2 env x
   let _ <- runOwn (.compStart (.ListComp elt [⟨target,iter,ifs,0⟩,⟨target2,iter2,ifs2,0⟩] scope cpos) 1 (<- holding [x] (pyIter x)) acc env) env) c hc (λit acc env=>by
   rw[zbci]
   refine bind_congr λ_=>bind_congr λr=>?_
   cases r with
   | none=>rfl
   | some v=>
    refine bind_congr λ_=>bind_congr λ_=>bind_congr λok=>?_
    cases ok with
    | false=>rfl
    | true=>simp only[if_true,bind_assoc,pure_bind]) hi
  (λcl C s H fp p=>let⟨h1,h2,h3,h4,h5,h6⟩:=hb cl C s H fp;⟨h1,h2,zapq (X:=cxComp X scope N' own cl C s H fp) rfl hc h3 h4 h5 h6 (λx=>hs2 _ x)⟩) hs
end
def NoAc(env:DEnv):Prop:=∀(i:Nat)(d:PyData),env[i]?≠some (.ac d)
def GZ(lo hi:Nat)(g:GT):Prop:=∀d env e1,g d env=some e1->e1.length=env.length/\(∀i,(i<lo\/hi<=i)->e1[i]?=env[i]?)/\(NoAc env->NoAc e1)
theorem zaps{env:DEnv}(h:NoAc env):NoAc (env.set i (.pl d)):=by
 intro j d' e
 by_cases q:i=j
 ·subst q
  by_cases l:i<env.length
  ·rw[qm l]at e;cases e
  ·rw[qDL (by simp;omega)]at e;cases e
 ·rw[qa q]at e;exact h j d' e
theorem zalg{lo hi i:Nat}(h:lo<=i)(h':i<hi):GZ lo hi (gN i):=by
 intro d env e1 e
 cases e
 exact⟨qd,λj hj=>qa (by omega),zaps⟩
theorem zue:∀{ds rs:List PyData},zdy g t e env ds=some rs->rs.length<=ds.length
 | [],rs,h=>by cases h;exact qL _
 | d::ds,rs,h=>by
  unfold zdy at h
  obtain⟨e1,_,h⟩:=qA.mp h
  obtain⟨b,_,h⟩:=qA.mp h
  split at h
  ·obtain⟨r,_,h⟩:=qA.mp h
   obtain⟨rs',h',rfl⟩:=qG.mp h
   have:=zue h'
   simp;omega
  ·have:=zue h
   simp;omega
def innL(f2:IF')(g2:GT)(t2:TF)(e:EF)(e1:DEnv):Option (List PyData):=(f2 e1).bind λz=>if z.1.length<300 then zdy g2 t2 e e1 z.1 else none
def zkr(g:GT)(t:TF)(f2:IF')(g2:GT)(t2:TF)(e:EF)(env:DEnv):List PyData->Option (List PyData)
 | []=>some []
 | d::ds=>(g d env).bind λe1=>(t e1).bind λb=>if b=true then(innL f2 g2 t2 e e1).bind λr1=>(zkr g t f2 g2 t2 e env ds).map λrs=>r1++rs else zkr g t f2 g2 t2 e env ds
def zabi(own:List Str)(fr:List Nat)(fi:IF')(g:GT)(t:TF)(f2:IF')(g2:GT)(t2:TF)(e:EF):EF:=λenv=>(fi env).bind λz=>if z.1.length<300 then
 (zkr g t f2 g2 t2 e (envB own fr env) z.1).map λrs=>⟨.list rs,true,if zei rs=true then[]else z.2++capA fr env⟩else none
theorem zapt{B:Addr->Prop}{done rest ds:List PyData}{Q:St->Hp->Prop}
  (h5:SI wi2 f2)(h6:SG g2 gf2)(hy:GZ k n gf2)(h7:ST tt2 t2)(h4:SE te e)(na:NoAc e1)(no:∀(i:Nat) (d:PyData),k<=i->i<n->e1[i]?≠some (.pl d))
  (hB:B p)(hp:H1 p=none)(hE:EnvOk B H1 e1 σ H)(ep:H p=some (.lst vs))(rd:Rps (Offs B H) done vs)(ei:f2 e1=some (ds,bs))(dl:done.length+ds.length<100000)(ec:zdy gf2 t2 e e1 ds=some rest)
  (q:∀σ' H' vs',H' p=some (.lst vs')->Rps (Offs B H') (done++rest) vs'->EnvOk B H1 e1 σ' H'->Q σ' H'):zalf wi2 g2 tt2 (zyx p te) σ H Q:=by
 refine h5 B H1 e1 σ H hE ds bs ei _ λJ H4 s4 yl=>?_
 have hE4:=hE.up s4
 have n4:Offs (λb=>b=p) H4 p=none:=Offs.out rfl
 refine⟨λi m σ' H'=>m=ds.length - i/\i<=ds.length/\∃vs done' rest',H' p=some (.lst vs)/\Rps (Offs B H') done' vs/\done'.length<=done.length+i/\zdy gf2 t2 e e1 (ds.drop i)=some rest'/\done'++rest'=done++rest/\EnvOk B (Offs (λb=>b=p) H4) e1 σ' H',
  ⟨ds.length,rfl,qAl _,vs,done,rest,s4 _ _ ep,Rps.same (Offs.grow s4) _ rd,qL _,ec,rfl,⟨hE4.len,hE4.pl,λi d z=>absurd z (na i d),hE4.inj,Offs.same _ _,hE4.fxs⟩⟩,?_⟩
 rintro i m σ' H' ⟨rfl,hi,vs,done',rest',ep',rd',dl',ec',edr,hE'⟩
 obtain⟨yi,ys⟩:=yl B H' hE'.fxs λb o z=>by
  obtain⟨z1,z2⟩:=Offs.of z
  have hb:¬B b:=λy=>z1 (.inl y)
  rw[Offs.get hb]
  exact hE'.base b o (by rw[Offs.get λy=>hb (by rw[y];exact hB)];exact z2)
 by_cases hlt:i<ds.length
 ·obtain⟨yg,yy⟩:=yi i ds[i] (qH hlt)
  refine .inr ⟨yg,λσ'' H''=>i+1<=ds.length/\∃vs done' rest',H'' p=some (.lst vs)/\Rps (Offs B H'') done' vs/\done'.length<=done.length+(i+1)/\zdy gf2 t2 e e1 (ds.drop (i+1))=some rest'/\done'++rest'=done++rest/\EnvOk B (Offs (λb=>b=p) H4) e1 σ'' H'',?_,?_⟩
  ·rintro σ'' H'' ⟨hle,hh⟩
   exact⟨ds.length - (i+1),by omega,rfl,hle,hh⟩
  ·intro x H'' hyx
   obtain⟨sy,ry⟩:=yy x H'' hyx
   rw[qAt hlt]at ec'
   obtain⟨e2,ee2,ec'⟩:=qA.mp ec'
   obtain⟨b,eb,ec'⟩:=qA.mp ec'
   have ry':Rp (Offs (λa=>B a\/L2.own e1 σ' a) H'') ds[i] x:=Rp.same (Offs.sub λb z=>z.elim (λy=>y) λ⟨j,d',z,_⟩=>absurd z (na _ _)) _ ry
   refine h6 _ _ e1 σ' H'' _ x (hE'.up sy) ry' e2 ee2 _ λσ2 hE2=>?_
   refine h7 _ _ e2 σ2 H'' hE2 b eb _ λH3 s3=>?_
   have hE3:=hE2.up s3
   obtain⟨gl,gk,_⟩:=hy _ _ _ ee2
   have back:∀{H4':Hp},EnvOk B (Offs (λb=>b=p) H4) e2 σ2 H4'->EnvOk B (Offs (λb=>b=p) H4) e1 σ2 H4':=λ{H4'} hh=>hh.weaken gl.symm (λj d' ej=>by
    by_cases hj:j<k\/n<=j
    ·rw[gk j hj];exact ej
    ·exact absurd ej (no j d' (by omega) (by omega))) na
   cases b with
   | false=>
    have ec':zdy gf2 t2 e e1 (ds.drop (i+1))=some rest':=ec'
    exact iteF ⟨hlt,vs,done',rest',s3 _ _ (sy _ _ ep'),Rps.same (Offs.grow (sy.trans s3)) _ rd',qBD dl',ec',edr,back hE3⟩
   | true=>
    have ec':((e e2).bind λr=>(zdy gf2 t2 e e1 (ds.drop (i+1))).map λrs=>r.d::rs)=some rest':=ec'
    obtain⟨r,er,ec'⟩:=qA.mp ec'
    obtain⟨rest2,er',rfl⟩:=qG.mp ec'
    refine iteT (h4 _ _ e2 σ2 H3 hE3 r er _ λv H5 s5 hv=>?_)
    have t5:=(sy.trans s3).trans s5
    refine⟨vs,t5 _ _ ep',zkn (by rw[<- rd'.length];omega),hlt,vs++[v],done'++[r.d],rest2,zal,?_,by rw[qO];simp;omega,er',by rw[<- edr];simp,(back (hE3.up s5)).updFx hB n4⟩
    rw[Offs.upd hB]
    refine(Rps.same (Offs.grow t5) _ rd').append (zcx (Rp.same (Offs.sub λb z=>.inl z) _ hv.rp) zcz)
 ·have hi':i=ds.length:=by omega
  subst hi'
  rw[qBK]at ec'
  cases ec'
  rw[qw]at edr
  subst edr
  exact .inl ⟨ys,q σ' H' vs ep' rd' ⟨hE'.len,hE'.pl,λi d z=>absurd z (na i d),hE'.inj,λb o z=>hE'.base b o (by rw[Offs.get λy=>by rw[y,hp]at z;cases z];exact s4 b o (hE.base b o z)),hE'.fxs⟩⟩
theorem zapu{own:List Str}(h:i<own.length):(envB own fr env)[i]?=some .no:=by
 unfold envB
 rw[qAE (by simpa using h),qN,qH h];rfl
theorem zapv{own:List Str}(h1:SI wi fi)(h2:SG g gf)(hx:GZ 0 k gf)(hk:k<=own.length)(h3:ST tt t)
  (h5:SI wi2 f2)(h6:SG g2 gf2)(hy:GZ k own.length gf2)(h7:ST tt2 t2)(h4:SE te e) :
  SE (tComp2 wi g tt wi2 g2 tt2 te own fr) (zabi own fr fi gf t f2 gf2 t2 e):=by
 intro fx H0 env σ H h rr hr Q q
 unfold zabi at hr
 obtain⟨⟨ds,bs⟩,ei,hr⟩:=qA.mp hr
 split at hr
 ·rename_i hlen
  have hlen:ds.length<300:=hlen
  obtain⟨rs,ers,rfl⟩:=qG.mp hr
  refine h1 fx H0 env σ H h ds bs ei _ λJ H1 s yl=>λp hp=>?_
  have hB:=zabg h s hp own fr bs
  generalize hA:(λb=>lim fx env σ (bs++capA fr env) b)=A
  have hA':∀b,lim fx env σ (bs++capA fr env) b↔A b:=λb=>by rw[<- hA]
  have eA:(λb=>lim fx env σ (bs++capA fr env) b\/b=p)=λb=>A b\/b=p:=by rw[<- hA]
  rw[eA]at hB
  have seen:∀{σ':St}{H':Hp},EnvOk (λb=>A b\/b=p) H1 (envB own fr env) σ' H'->Same (Offs (λb=>fx b\/L2.own (frzs env bs) σ b) H1) (Offs (λb=>A b\/b=p) H'):=λ{σ' H'} hE=>Offs.mono hE.base λb o eo n z=>by
   rcases z with z|z
   ·rcases(hA' b).mpr z with z|⟨i,d,z1,z2,z3⟩
    ·exact n (.inl z)
    ·exact n (.inr ⟨i,d,zjc (λy=>z1 (q9 _ y)) z2,z3⟩)
   ·rw[z,hp]at eo;cases eo
  refine⟨λi m σ' H'=>m=ds.length - i/\i<=ds.length/\∃vs done rest,H' p=some (.lst vs)/\Rps (Offs (λb=>A b\/b=p) H') done vs/\done.length<=i * 300/\zkr gf t f2 gf2 t2 e (envB own fr env) (ds.drop i)=some rest/\done++rest=rs/\EnvOk (λb=>A b\/b=p) H1 (envB own fr env) σ' H',
   ⟨ds.length,rfl,qAl _,[],[],rs,zal,zcz,qAl _,ers,rfl,hB⟩,?_⟩
  rintro i m σ' H' ⟨rfl,hi,vs,done,rest,ep,rd,dl,ec,edr,hE⟩
  obtain⟨yi,ys⟩:=yl _ H' hE.fxs (seen hE)
  by_cases hlt:i<ds.length
  ·obtain⟨yg,yy⟩:=yi i ds[i] (qH hlt)
   refine .inr ⟨yg,λσ'' H''=>i+1<=ds.length/\∃vs done rest,H'' p=some (.lst vs)/\Rps (Offs (λb=>A b\/b=p) H'') done vs/\done.length<=(i+1) * 300/\zkr gf t f2 gf2 t2 e (envB own fr env) (ds.drop (i+1))=some rest/\done++rest=rs/\EnvOk (λb=>A b\/b=p) H1 (envB own fr env) σ'' H'',?_,?_⟩
   ·rintro σ'' H'' ⟨hle,hh⟩
    exact⟨ds.length - (i+1),by omega,rfl,hle,hh⟩
   ·intro x H'' hyx
    obtain⟨sy,ry⟩:=yy x H'' hyx
    rw[qAt hlt]at ec
    obtain⟨e1,ee1,ec⟩:=qA.mp ec
    obtain⟨b,eb,ec⟩:=qA.mp ec
    have ry':Rp (Offs (λa=>(A a\/a=p)\/L2.own (envB own fr env) σ' a) H'') ds[i] x:=Rp.same (Offs.sub λb z=>z.elim (λy=>y) λ⟨j,d',z,_⟩=>absurd z zjd) _ ry
    refine h2 _ H1 (envB own fr env) σ' H'' _ x (hE.up sy) ry' e1 ee1 _ λσ2 hE2=>?_
    refine h3 _ H1 e1 σ2 H'' hE2 b eb _ λH3 s3=>?_
    have hE3:=hE2.up s3
    obtain⟨gl,gk,gn⟩:=hx _ _ _ ee1
    have na:NoAc e1:=gn λ_ _=>zjd
    have back:∀{σ4:St}{H4:Hp},EnvOk (λb=>A b\/b=p) H1 e1 σ4 H4->EnvOk (λb=>A b\/b=p) H1 (envB own fr env) σ4 H4:=λ{σ4 H4} hh=>hh.weaken gl.symm (λj d' ej=>by
     by_cases hj:own.length<=j
     ·rw[gk j (.inr (by omega))];exact ej
     ·obtain⟨_,k,rfl,_⟩:=zzb ej;omega) λj d'=>zjd
    cases b with
    | false=>
     have ec:zkr gf t f2 gf2 t2 e (envB own fr env) (ds.drop (i+1))=some rest:=ec
     exact iteF ⟨hlt,vs,done,rest,s3 _ _ (sy _ _ ep),Rps.same (Offs.grow (sy.trans s3)) _ rd,by omega,ec,edr,back hE3⟩
    | true=>
     have ec:((innL f2 gf2 t2 e e1).bind λr1=>(zkr gf t f2 gf2 t2 e (envB own fr env) (ds.drop (i+1))).map λrs=>r1++rs)=some rest:=ec
     obtain⟨r1,er,ec⟩:=qA.mp ec
     obtain⟨rest',er',rfl⟩:=qG.mp ec
     obtain⟨⟨ds2,bs2⟩,e2,er⟩:=qA.mp er
     split at er
     ·rename_i hl2
      have hl2:ds2.length<300:=hl2
      have l2:=zue er
      refine iteT (zapt (B:=λb=>A b\/b=p) (p:=p) (vs:=vs) (done:=done) h5 h6 hy h7 h4 na (λj d' h8 h9 ej=>?_) (.inr rfl) hp hE3 (s3 _ _ (sy _ _ ep)) (Rps.same (Offs.grow (sy.trans s3)) _ rd) e2 (by omega) er λσ5 H5 vs5 ep5 rd5 hE5=>?_)
      ·rw[gk j (.inr h8),zapu h9]at ej;cases ej
      ·have l2':r1.length<=ds2.length:=l2
       exact⟨hlt,vs5,done++r1,rest',ep5,rd5,by rw[qO];omega,er',by rw[<- edr,qBC],back hE5⟩
     ·cases er
  ·have hi':i=ds.length:=by omega
   subst hi'
   rw[qBK]at ec
   cases ec
   rw[qw]at edr
   subst edr
   refine .inl ⟨ys,q _ H' (s.trans hE.base) ⟨?_,λ_=>⟨p,rfl,s.free hp,?_⟩⟩⟩
   ·show Rp (Offs (lim fx env σ (if zei done=true then[]else bs++capA fr env)) H') (.list done) (.ref p)
    have nl:∀cs,¬lim fx env σ cs p:=λcs z=>by
     obtain⟨o,eo⟩:=(h.up s).lims _ p z
     rw[hp]at eo;cases eo
    refine zik (by rw[Offs.get (nl _)];exact ep) ?_
    split
    ·rename_i f;exact zow f rd
    ·exact Rps.same (Offs.sub λb z=>.inl ((hA' b).mp z)) _ rd
   ·show zhz (Offs (λb=>lim fx env σ (if zei done=true then[]else bs++capA fr env) b\/b=p) H') H' p (.list done)
    refine⟨vs,ep,?_⟩
    split
    ·rename_i f;exact zow f rd
    ·exact Rps.same (Offs.sub λb z=>z.imp (hA' b).mp id) _ rd
 ·cases hr
end L2
namespace PySem
open Sem (wp)
end PySem
namespace L2
open PySem PySem.Spec PyProof.Rows
end L2
namespace PySem
open Sem (wp)
def SqIt(b:Bool)(h:Heap)(it l:Addr)(i:Nat):Prop:=match b with
 | true=>h.IsListIter it l i
 | false=>h.IsTupleIter it l i
def zfx(b:Bool)(h:Heap)(l:Addr)(xs:Array Value):Prop:=match b with
 | true=>h.IsList l xs
 | false=>h.IsTuple l xs
theorem SqIt.moved{h h':Heap}(x:SqIt b h it l i)(e:∀o,h.get? it=some o->h'.get? it=some o):SqIt b h' it l i:=by
 cases b with
 | true=>obtain⟨o,q,r⟩:=x;exact⟨o,e o q,r⟩
 | false=>obtain⟨o,q,r⟩:=x;exact⟨o,e o q,r⟩
theorem zfx.moved{h h':Heap}(x:zfx b h l xs)(e:∀o,h.get? l=some o->h'.get? l=some o):zfx b h' l xs:=by
 cases b with
 | true=>obtain⟨o,q,r⟩:=x;exact⟨o,e o q,r⟩
 | false=>obtain⟨o,q,r⟩:=x;exact⟨o,e o q,r⟩
theorem SqIt.at{h h':Heap}(x:SqIt b h it l i)(e:∀o,h.get? it=some o->h'.get? it=some o):SqIt b h' it l i:=x.moved e
theorem SqIt.extBut(x:SqIt b h it l i)(s:Heap.ExtBut c h h')(n:it≠c):SqIt b h' it l i:=x.moved λo e=>s _ o n e
theorem zfx.extBut(x:zfx b h l xs)(s:Heap.ExtBut c h h')(n:l≠c):zfx b h' l xs:=x.moved λo e=>s _ o n e
theorem SqIt.obj{h:Heap}(x:SqIt b h it l i):∃o,h.get? it=some o/\∀v,o.data≠.cell v:=by
 cases b with
 | true=>obtain⟨o,q,_,r⟩:=x;exact⟨o,q,λv z=>by rw[r]at z;cases z⟩
 | false=>obtain⟨o,q,_,r⟩:=x;exact⟨o,q,λv z=>by rw[r]at z;cases z⟩
section
variable{prog:Program}{w:World}{A:Around}{E:Value->Shared->Prop}{s:Shared}
theorem zzc{items}{Q:Value->Shared->Prop}(hit:s.heap.IsTupleIter it l i)
  (hl:s.heap.IsTuple l items)(hx:items[i]?=some x)
  (hQ:∀h',h'.IsTupleIter it l (i+1)->Heap.SameBut it s.heap h'->Q x {s with heap:=h'}) :
  wpAny (model prog w) A (qAG (.ref it)) Q E s:=by
 obtain⟨o,ho,hc,hd⟩:=id hit
 obtain⟨ol,hol,_,nl,hdl⟩:=hl
 unfold qAG
 refine qD (qAr (name:=Str.ofString "__next__") hit.typeIs qBU
  (qBN qBU hit.typeIs qDA ?_ (qC2 _)))
 show wpAny _ _ (field (.ref it) 0 >>=_) _ _ s
 refine qD (qAW ho hd (x:=.ref l) rfl ?_)
 show wpAny _ _ (if(Value.ref l==Value.none)=true then _ else _) _ _ s
 rw[if_neg (show ¬((Value.ref l==Value.none)=true)from qP)]
 show wpAny _ _ (field (.ref it) 1 >>=_) _ _ s
 refine qD (qAW ho hd (x:=.int i 0) rfl ?_)
 show wpAny _ _ (seqItems? (.ref l) >>=_) _ _ s
 refine qD (qBO hol hdl ?_)
 simp only[qBE,hx]
 refine qD (qBd ho hd (by simp) (qI ⟨x,rfl,qI (hQ _ ?_ (qCo ..))⟩))
 exact⟨_,qAm _ ho (qBA (qAg hd _)),(Obj.cls_mapFields ..).trans hc,by
  rw[qAg hd];simp[rawInt]⟩
theorem zabj{items}{Q:Value->Shared->Prop}(hh:A.handled=none)
  (hit:s.heap.IsTupleIter it l i)(hl:s.heap.IsTuple l items)(hx:items[i]?=none)
  (hE:∀h' e,Heap.ExtBut it s.heap h'->(∃o,h'.get? e=some o/\o.cls=.type "StopIteration")->E (.ref e) {s with heap:=h'}) :
  wpAny (model prog w) A (qAG (.ref it)) Q E s:=by
 obtain⟨o,ho,hc,hd⟩:=id hit
 obtain⟨ol,hol,_,nl,hdl⟩:=hl
 unfold qAG
 refine qD (qAr (name:=Str.ofString "__next__") hit.typeIs qBU
  (qBN qBU hit.typeIs qDA ?_ (qC2 _)))
 show wpAny _ _ (field (.ref it) 0 >>=_) _ _ s
 refine qD (qAW ho hd (x:=.ref l) rfl ?_)
 show wpAny _ _ (if(Value.ref l==Value.none)=true then _ else _) _ _ s
 rw[if_neg (show ¬((Value.ref l==Value.none)=true)from qP)]
 show wpAny _ _ (field (.ref it) 1 >>=_) _ _ s
 refine qD (qAW ho hd (x:=.int i 0) rfl ?_)
 show wpAny _ _ (seqItems? (.ref l) >>=_) _ _ s
 refine qD (qBO hol hdl ?_)
 simp only[qBE,hx]
 refine qD (qCq (qD (qBd ho hd (by simp) ?_)))
 show wpAny _ _ (newExc (.type "StopIteration") [] >>=_) _ _ _
 refine qD ?_
 simp only[newExc,newTuple]
 refine qD (qA7 ?_ (by size_fits))
 refine qD (m:=firstArgMember _ _) (wpAny_of_eq (a:=Value.none) (by first|rfl|(simp only[firstArgMember];rfl)) ?_)
 refine qA7 ?_ (by size_fits)
 simp only[raiseNew]
 refine qD (wpAny_handled ?_)
 first|rw[show A.in1.handled=none from hh]|rw[hh]
 refine qD (qI (wpAny_throw ?_))
 exact hE _ _ (((qCo ..).extBut.push _).push _) ⟨_,qY _ rfl,rfl⟩
theorem zzd{Q:Value->Shared->Prop}(hit:SqIt b s.heap it l i)(hl:zfx b s.heap l xs)(hx:xs[i]?=some x)
  (hQ:∀h',SqIt b h' it l (i+1)->Heap.SameBut it s.heap h'->Q x {s with heap:=h'}):wpAny (model prog w) A (qAG (.ref it)) Q E s:=by
 cases b with
 | true=>exact wpAny_nextOf_list_item hit hl hx hQ
 | false=>exact zzc hit hl hx hQ
theorem zafx{Q:Value->Shared->Prop}(hh:A.handled=none)(hit:SqIt b s.heap it l i)(hl:zfx b s.heap l xs)(hx:xs[i]?=none)
  (hE:∀h' e,Heap.ExtBut it s.heap h'->(∃o,h'.get? e=some o/\o.cls=.type "StopIteration")->E (.ref e) {s with heap:=h'}):wpAny (model prog w) A (qAG (.ref it)) Q E s:=by
 cases b with
 | true=>exact wpAny_nextOf_list_end hh hit hl hx hE
 | false=>exact zabj hh hit hl hx hE
theorem zahx{Q:Value->Shared->Prop}(D:ZipApart z TI TO i1 i2 l1 l2)
  (hz:IsZip s.heap z TI TO .none)(hTI:IsPair s.heap TI (.ref i1) (.ref i2))(hTO:IsPair s.heap TO a b)
  (h1:SqIt b1 s.heap i1 l1 k1)(h2:SqIt b2 s.heap i2 l2 k2)(hl1:zfx b1 s.heap l1 xs)(hl2:zfx b2 s.heap l2 ys)(hx:xs[k1]?=some x)(hy:ys[k2]?=some y)
  (hQ:∀h',IsZip h' z TI TO (rawInt s.heap.objs.size)->IsPair h' TO x y->SqIt b1 h' i1 l1 (k1+1)->SqIt b2 h' i2 l2 (k2+1)->IsPair h' s.heap.objs.size x y->h'.objs.size=s.heap.objs.size+1->
   (∀c o,c≠z->c≠TO->c≠i1->c≠i2->s.heap.get? c=some o->h'.get? c=some o)->Q (.ref s.heap.objs.size) {s with heap:=h'}) :
  wpAny (model prog w) A (Builtin.«zip.__next__» ⟨[.ref z],[]⟩) (λfin s'=>∃v,fin=.done (.ret v)/\Q v s') E s:=by
 show wpAny _ _ (field (.ref z) 2 >>=_) _ _ _
 refine qD (qAW hz rfl (x:=.bool false) rfl ?_)
 show wpAny _ _ (field (.ref z) 3 >>=_) _ _ _
 refine qD (qAW hz rfl (x:=.ref TI) rfl ?_)
 refine qD (qBO hTI rfl ?_)
 show wpAny _ _ (Builtin.SmallTypes.ownedTupleIsFree (.ref z) >>=_) _ _ _
 refine qD ?_
 unfold Builtin.SmallTypes.ownedTupleIsFree
 refine qD (qAW hz rfl (x:=.none) rfl (qI ?_))
 simp only[if_true]
 refine qD (qCq ?_)
 refine qD (qAW hz rfl (x:=.ref TO) rfl ?_)
 refine qD (qBR hz (by simp) λh₁ hz₁ hs₁=>?_)
 replace hz₁:IsZip h₁ z TI TO .ellipsis:=hz₁
 refine qD ?_
 simp only[qCe,List.zipIdx_nil,qCG,List.forIn_nil]
 refine qD (qD (qCI ?_))
 show wpAny _ _ (qAG (.ref i1) >>=_) _ _ _
 refine qD (zzd (h1.extBut hs₁.extBut D.i1z) (hl1.extBut hs₁.extBut D.l1z) hx λh₂ h1₂ hs₂=>qI ?_)
 have hTO₂:IsPair h₂ TO a b:=hs₂.extBut _ _ D.TOi1 (hs₁.extBut _ _ D.TOz hTO)
 refine qD (qBO hTO₂ rfl ?_)
 refine qD (qCY hTO₂ λh₃ hTO₃ hs₃=>?_)
 replace hTO₃:IsPair h₃ TO x b:=hTO₃
 refine qD (wpAny_letGo (qI ?_))
 refine qD (qD (qCI ?_))
 show wpAny _ _ (qAG (.ref i2) >>=_) _ _ _
 refine qD (zzd (((h2.extBut hs₁.extBut D.i2z).extBut hs₂.extBut D.i12.symm).extBut hs₃.extBut D.TOi2.symm)
  (((hl2.extBut hs₁.extBut D.l2z).extBut hs₂.extBut D.l2i1).extBut hs₃.extBut D.l2TO) hy λh₄ h2₄ hs₄=>qI ?_)
 have hTO₄:IsPair h₄ TO x b:=hs₄.extBut _ _ D.TOi2 hTO₃
 refine qD (qBO hTO₄ rfl ?_)
 refine qD (qCY hTO₄ λh₅ hTO₅ hs₅=>?_)
 replace hTO₅:IsPair h₅ TO x y:=hTO₅
 refine qD (wpAny_letGo (qI (qI ?_)))
 refine qD (qBO hTO₅ rfl ?_)
 refine qD (wpAny_newTuple ?_)
 have hsz:h₅.objs.size=s.heap.objs.size:=by rw[hs₅.1,hs₄.1,hs₃.1,hs₂.1,hs₁.1]
 have hz₅:IsZip h₅ z TI TO .ellipsis:=hs₅.extBut _ _ D.TOz.symm (hs₄.extBut _ _ D.i2z.symm (hs₃.extBut _ _ D.TOz.symm (hs₂.extBut _ _ D.i1z.symm hz₁)))
 have hk₅:∀c o,c≠z->c≠TO->c≠i1->c≠i2->s.heap.get? c=some o->h₅.get? c=some o:=λc o c1 c2 c3 c4 e=>
  hs₅.extBut _ _ c2 (hs₄.extBut _ _ c4 (hs₃.extBut _ _ c2 (hs₂.extBut _ _ c3 (hs₁.extBut _ _ c1 e))))
 have h1₅:SqIt b1 h₅ i1 l1 (k1+1):=((h1₂.extBut hs₃.extBut D.TOi1.symm).extBut hs₄.extBut D.i12).extBut hs₅.extBut D.TOi1.symm
 have h2₅:SqIt b2 h₅ i2 l2 (k2+1):=h2₄.extBut hs₅.extBut D.TOi2.symm
 have hzlt:z<h₅.objs.size:=qJ hz₅
 have hTOlt:TO<h₅.objs.size:=qJ hTO₅
 have hi1lt:i1<h₅.objs.size:=by obtain⟨_,e,_⟩:=h1₅.obj;exact qJ e
 have hi2lt:i2<h₅.objs.size:=by obtain⟨_,e,_⟩:=h2₅.obj;exact qJ e
 show wpAny _ _ (Builtin.SmallTypes.ownedTupleHandOut (.ref z) (.ref h₅.objs.size) >>=_) _ _ _
 refine qD ?_
 unfold Builtin.SmallTypes.ownedTupleHandOut
 have hz₆:IsZip (h₅.push {cls:=.type "tuple",data:=.seq #[x,y]}) z TI TO .ellipsis:=qF _ hz₅
 refine qD (qBR hz₆ (by simp) λh₇ hz₇ hs₇=>?_)
 replace hz₇:IsZip h₇ z TI TO (rawInt h₅.objs.size):=hz₇
 refine qBR hz₇ (by simp) λh₈ hz₈ hs₈=>?_
 replace hz₈:IsZip h₈ z TI TO (rawInt h₅.objs.size):=hz₈
 have up:∀c o,c≠z->h₅.get? c=some o->h₈.get? c=some o:=λc o c1 e=>hs₈.extBut _ _ c1 (hs₇.extBut _ _ c1 (qF _ e))
 have hT₈:IsPair h₈ h₅.objs.size x y:=hs₈.extBut _ _ (qBc hzlt) (hs₇.extBut _ _ (qBc hzlt) (qY _ rfl))
 have hz8:h₈.objs.size=h₅.objs.size+1:=by rw[hs₈.1,hs₇.1,qA1]
 rw[hsz]at hz₈ hT₈ hz8
 refine qI ⟨_,rfl,?_⟩
 show Q (.ref h₅.objs.size) _
 rw[hsz]
 exact hQ h₈ hz₈ (up _ _ D.TOz hTO₅) (h1₅.at λo e=>up _ o D.i1z e) (h2₅.at λo e=>up _ o D.i2z e) hT₈ hz8 λc o c1 c2 c3 c4 e=>up c o c1 (hk₅ c o c1 c2 c3 c4 e)
theorem zalh{Q:Fin->Shared->Prop}(hh:A.handled=none)(D:ZipApart z TI TO i1 i2 l1 l2)
  (hz:IsZip s.heap z TI TO .none)(hTI:IsPair s.heap TI (.ref i1) (.ref i2))(hTO:IsPair s.heap TO a b)
  (h1:SqIt b1 s.heap i1 l1 k1)(h2:SqIt b2 s.heap i2 l2 k2)(hl1:zfx b1 s.heap l1 xs)(hl2:zfx b2 s.heap l2 ys)(hend:xs[k1]?=none\/ys[k2]?=none)
  (hE:∀h' e,(∀c o,c≠z->c≠TO->c≠i1->c≠i2->s.heap.get? c=some o->h'.get? c=some o)->(∃o,h'.get? e=some o/\o.cls=.type "StopIteration")->E (.ref e) {s with heap:=h'}) :
  wpAny (model prog w) A (Builtin.«zip.__next__» ⟨[.ref z],[]⟩) Q E s:=by
 show wpAny _ _ (field (.ref z) 2 >>=_) _ _ _
 refine qD (qAW hz rfl (x:=.bool false) rfl ?_)
 show wpAny _ _ (field (.ref z) 3 >>=_) _ _ _
 refine qD (qAW hz rfl (x:=.ref TI) rfl ?_)
 refine qD (qBO hTI rfl ?_)
 show wpAny _ _ (Builtin.SmallTypes.ownedTupleIsFree (.ref z) >>=_) _ _ _
 refine qD ?_
 unfold Builtin.SmallTypes.ownedTupleIsFree
 refine qD (qAW hz rfl (x:=.none) rfl (qI ?_))
 simp only[if_true]
 refine qD (qCq ?_)
 refine qD (qAW hz rfl (x:=.ref TO) rfl ?_)
 refine qD (qBR hz (by simp) λh₁ hz₁ hs₁=>?_)
 replace hz₁:IsZip h₁ z TI TO .ellipsis:=hz₁
 refine qD ?_
 simp only[qCe,List.zipIdx_nil,qCG,List.forIn_nil]
 refine qD (qD (qCI ?_))
 show wpAny _ _ (qAG (.ref i1) >>=_) _ _ _
 cases hx:xs[k1]? with
 | none=>
  refine qD (zafx hh (h1.extBut hs₁.extBut D.i1z) (hl1.extBut hs₁.extBut D.l1z) hx λh₂ e hs₂ he=>?_)
  obtain⟨oe,hoe,hce⟩:=he
  have hz₂:IsZip h₂ z TI TO .ellipsis:=hs₂ _ _ D.i1z.symm hz₁
  have hez:e≠z:=λx=>by subst x;rw[hz₂]at hoe;cases hoe;simp at hce
  refine qBR hz₂ (by simp) λh₃ _ hs₃=>hE h₃ e (λc o c1 _ c3 _ x=>hs₃.extBut _ _ c1 (hs₂ _ _ c3 (hs₁.extBut _ _ c1 x))) ⟨oe,hs₃.extBut _ _ hez hoe,hce⟩
 | some x=>
  have hy:ys[k2]?=none:=by rcases hend with h|h;rw[hx]at h;cases h;exact h
  refine qD (zzd (h1.extBut hs₁.extBut D.i1z) (hl1.extBut hs₁.extBut D.l1z) hx λh₂ h1₂ hs₂=>qI ?_)
  have hTO₂:IsPair h₂ TO a b:=hs₂.extBut _ _ D.TOi1 (hs₁.extBut _ _ D.TOz hTO)
  refine qD (qBO hTO₂ rfl ?_)
  refine qD (qCY hTO₂ λh₃ hTO₃ hs₃=>?_)
  refine qD (wpAny_letGo (qI ?_))
  refine qD (qD (qCI ?_))
  show wpAny _ _ (qAG (.ref i2) >>=_) _ _ _
  refine qD (zafx hh (((h2.extBut hs₁.extBut D.i2z).extBut hs₂.extBut D.i12.symm).extBut hs₃.extBut D.TOi2.symm)
   (((hl2.extBut hs₁.extBut D.l2z).extBut hs₂.extBut D.l2i1).extBut hs₃.extBut D.l2TO) hy λh₄ e hs₄ he=>?_)
  obtain⟨oe,hoe,hce⟩:=he
  have hz₄:IsZip h₄ z TI TO .ellipsis:=hs₄ _ _ D.i2z.symm (hs₃.extBut _ _ D.TOz.symm (hs₂.extBut _ _ D.i1z.symm hz₁))
  have hez:e≠z:=λx=>by subst x;rw[hz₄]at hoe;cases hoe;simp at hce
  refine qBR hz₄ (by simp) λh₅ _ hs₅=>hE h₅ e (λc o c1 c2 c3 c4 x=>hs₅.extBut _ _ c1 (hs₄ _ _ c4 (hs₃.extBut _ _ c2 (hs₂.extBut _ _ c3 (hs₁.extBut _ _ c1 x))))) ⟨oe,hs₅.extBut _ _ hez hoe,hce⟩
structure ZipAt(b1 b2:Bool)(h:Heap)(z TI TO i1 i2 l1 l2:Addr)(f0:Value)(k:Nat):Prop where
 z:IsZip h z TI TO f0
 ti:IsPair h TI (.ref i1) (.ref i2)
 to:∃a b,IsPair h TO a b
 i1:SqIt b1 h i1 l1 k
 i2:SqIt b2 h i2 l2 k
theorem zali{Q:Value->Shared->Prop}(D:ZipApart z TI TO i1 i2 l1 l2)
  (hz:ZipAt b1 b2 s.heap z TI TO i1 i2 l1 l2 .none k)(hl1:zfx b1 s.heap l1 xs)(hl2:zfx b2 s.heap l2 ys)(hx:xs[k]?=some x)(hy:ys[k]?=some y)
  (hQ:∀h',ZipAt b1 b2 h' z TI TO i1 i2 l1 l2 (rawInt s.heap.objs.size) (k+1)->IsPair h' s.heap.objs.size x y->
   (∀c o,c≠z->c≠TO->c≠i1->c≠i2->s.heap.get? c=some o->h'.get? c=some o)->Q (.ref s.heap.objs.size) {s with heap:=h'}) :
  wpAny (model prog w) A (Builtin.«zip.__next__» ⟨[.ref z],[]⟩) (λfin s'=>∃v,fin=.done (.ret v)/\Q v s') E s:=by
 obtain⟨p1,p2,⟨a,b,p3⟩,p4,p5⟩:=hz
 exact zahx D p1 p2 p3 p4 p5 hl1 hl2 hx hy λh' q1 q2 q3 q4 q5 _ q7=>hQ h' ⟨q1,q7 _ _ D.TIz D.TITO D.TIi1 D.TIi2 p2,⟨x,y,q2⟩,q3,q4⟩ q5 q7
theorem zapw{Q:Fin->Shared->Prop}(hh:A.handled=none)(D:ZipApart z TI TO i1 i2 l1 l2)
  (hz:ZipAt b1 b2 s.heap z TI TO i1 i2 l1 l2 .none k)(hl1:zfx b1 s.heap l1 xs)(hl2:zfx b2 s.heap l2 ys)(hend:xs[k]?=none\/ys[k]?=none)
  (hE:∀h' e,(∀c o,c≠z->c≠TO->c≠i1->c≠i2->s.heap.get? c=some o->h'.get? c=some o)->(∃o,h'.get? e=some o/\o.cls=.type "StopIteration")->E (.ref e) {s with heap:=h'}) :
  wpAny (model prog w) A (Builtin.«zip.__next__» ⟨[.ref z],[]⟩) Q E s:=by
 obtain⟨p1,p2,⟨a,b,p3⟩,p4,p5⟩:=hz
 exact zalh hh D p1 p2 p3 p4 p5 hl1 hl2 hend hE
end
end PySem
namespace L2
open PySem PySem.Spec PyProof.Rows
def SqX(b:Bool)(K:qB)(H:Hp)(a:Addr)(xs:List V):Prop:=match b with
 | true=>SqL K H a xs
 | false=>SqT K H a xs
section
variable{X:Cx}{pins:List (Addr×Obj)}{σ:St}{H:Hp}{s:Shared}
theorem Inv.sq{xs:List V}(I:Inv X pins σ H s)(h:SqX b X.K H a xs):∃its:List Value,Vals xs its/\zfx b s.heap a its.toArray/\xs.length<=qU:=by
 cases b with
 | true=>obtain⟨its,r,p,z⟩:=I.list h;exact⟨its,r,p.isList,z⟩
 | false=>obtain⟨its,r,p,z⟩:=I.tuple h;exact⟨its,r,(show s.heap.IsTuple a its.toArray from p),z⟩
theorem Inv.sq_inj(I:Inv X pins σ H s)(h:SqX b X.K H a xs)(h':SqX b X.K H a ys):xs=ys:=by
 cases b with
 | true=>exact I.list_inj h h'
 | false=>exact I.tuple_inj h h'
end
def Itz(K:qB)(b1:Bool)(a1:Addr)(b2:Bool)(a2:Addr):It:=
 ⟨λi H=>∃xs ys x y,SqX b1 K H a1 xs/\SqX b2 K H a2 ys/\xs[i]?=some x/\ys[i]?=some y,
  λi H v H'=>∃p x y,v=.ref p/\H p=none/\H'=upd H p (.tup [x,y])/\(∀xs,SqX b1 K H a1 xs->xs[i]?=some x)/\∀ys,SqX b2 K H a2 ys->ys[i]?=some y,
  λi H=>∃xs ys,SqX b1 K H a1 xs/\SqX b2 K H a2 ys/\(xs.length<=i\/ys.length<=i)⟩
theorem zapx{P:Program}{w:World}{K:qB}{elts:List Expr}{x1}{tpos:Pos}{b1 b2:Bool}{z TI TO i1 i2 l1 l2:Addr}(D:ZipApart z TI TO i1 i2 l1 l2) :
  Turn P w K (.Tuple elts x1 tpos) (Itz K b1 l1 b2 l2) [z,TI,TO,i1,i2] z (λi h=>ZipAt b1 b2 h z TI TO i1 i2 l1 l2 .none i) where
 mem:=by simp
 obj:=λi h st b hb=>by
  obtain⟨a,c,hto⟩:=st.to
  simp only[qZ,qAw,or_false]at hb
  rcases hb with rfl|rfl|rfl|rfl|rfl
  ·exact⟨_,st.z,λv q=>by simp at q⟩
  ·exact⟨_,st.ti,λv q=>by simp at q⟩
  ·exact⟨_,hto,λv q=>by simp at q⟩
  ·exact st.i1.obj
  ·exact st.i2.obj
 keep:=λi h h' st k=>by
  obtain⟨a,c,hto⟩:=st.to
  exact⟨k z (by simp) _ st.z,k TI (by simp) _ st.ti,⟨a,c,k TO (by simp) _ hto⟩,st.i1.moved λo q=>k i1 (by simp) o q,st.i2.moved λo q=>k i2 (by simp) o q⟩
 item:=by
  intro X hP hw hK hc i pins s σ H E I hf st hg
  subst hP hw hK
  obtain⟨xs,ys,x,y,q1,q2,hx,hy⟩:=hg
  obtain⟨its1,rv1,p1,_⟩:=I.sq q1
  obtain⟨its2,rv2,p2,_⟩:=I.sq q2
  obtain⟨u1,hu1,ru1⟩:=rv1.get hx
  obtain⟨u2,hu2,ru2⟩:=rv2.get hy
  have hT:s.TypeIs (.ref z) "zip":=⟨_,st.z,rfl⟩
  unfold pyNext
  refine qD (wpAny_attempt (qAr (name:=Str.ofString "__next__") hT qCO (qBN qCO hT F.entry_zip_next
   (zali D st p1 p2 (x:=u1) (y:=u2) (by simpa using hu1) (by simpa using hu2) λh1 zt tp kp=>qI ?_) (F.args_zip_next_1 _))))
  refine⟨_,rfl,wpAny_letOwnedTupleGo_zip (s:={s with heap:=h1}) zt.z λh2 z2 sb2=>?_⟩
  have hp:H s.heap.objs.size=none:=I.hok.fresh (qL _)
  have fz:=hf z (by simp)
  have fO:=hf TO (by simp)
  have f1:=hf i1 (by simp)
  have f2:=hf i2 (by simp)
  have lt:∀b∈[z,TI,TO,i1,i2],b≠s.heap.objs.size:=λb hb=>by
   obtain⟨a,c,hto⟩:=st.to
   simp only[qZ,qAw,or_false]at hb
   rcases hb with rfl|rfl|rfl|rfl|rfl
   ·exact qi (qJ st.z)
   ·exact qi (qJ st.ti)
   ·exact qi (qJ hto)
   ·obtain⟨o,q,_⟩:=st.i1.obj;exact qi (qJ q)
   ·obtain⟨o,q,_⟩:=st.i2.obj;exact qi (qJ q)
  have k2:∀b o,b≠z->b≠TO->b≠i1->b≠i2->s.heap.get? b=some o->h2.get? b=some o:=λb o e1 e2 e3 e4 q=>(sb2.2 b e1).trans (kp b o e1 e2 e3 e4 q)
  have t2:IsPair h2 s.heap.objs.size u1 u2:=(sb2.2 _ (qAp (lt z (by simp)))).trans tp
  have nch:∀b,b∉[z,TO,i1,i2]->b≠z/\b≠TO/\b≠i1/\b≠i2:=λb hb=>⟨λq=>hb (by simp[q]),λq=>hb (by simp[q]),λq=>hb (by simp[q]),λq=>hb (by simp[q])⟩
  have k3:∀b o,b∉[z,TO,i1,i2]->s.heap.get? b=some o->h2.get? b=some o:=λb o hb q=>let⟨e1,e2,e3,e4⟩:=nch b hb;k2 b o e1 e2 e3 e4 q
  have nH:∀c v,H c=some v->c∉[z,TO,i1,i2]:=λc v q hc=>by
   have:H c=none:=by
    simp only[qZ,qAw,or_false]at hc
    rcases hc with rfl|rfl|rfl|rfl
    ·exact fz.1
    ·exact fO.1
    ·exact f1.1
    ·exact f2.1
   rw[this]at q;cases q
  refine⟨.ref s.heap.objs.size,upd H s.heap.objs.size (.tup [x,y]),?_,rfl,⟨_,x,y,rfl,hp,rfl,λzs q=>by rw[I.sq_inj q q1];exact hx,λzs q=>by rw[I.sq_inj q q2];exact hy⟩,?_,λb hb=>by rw[zap (lt b hb)];exact(hf b hb).1⟩
  ·refine Inv.step (s:=s) (h':=h2) (g':=s.gens) (d':=s.drawn) (t':=s.toks) (ch:=[z,TO,i1,i2]) I (λb hb=>?_) (λb o _ _ hc q _=>k3 b o hc q) (λb o _ _ hc q _=>⟨o.slots,k3 b o hc q⟩)
    (λb o _ q n=>by rw[zap (qi (qJ q))];exact n) (λb o hc q=>⟨o,k3 b o hc q⟩)
    (λb xs q=>by rw[zap (zay q hp)];exact q) (λb o v q=>by rw[zap (zay q hp)];exact q) (λb ps q=>⟨#[],by rw[zap (zay q hp),q];simp⟩) (λm hm=>?_) (λb v q=>?_) I.bare
   ·have:=hf b (by
     simp only[qZ,qAw,or_false]at hb ⊢
     rcases hb with rfl|rfl|rfl|rfl<;>simp)
    exact⟨this.2.2.2.1,this.2.1,this.2.2.2.2.1,this.2.2.2.2.2⟩
   ·obtain⟨o,es,ep,ho,r⟩:=hm
    exact⟨o,es,ep,k2 _ o (qAp fz.2.1) (qAp fO.2.1) (qAp f1.2.1) (qAp f2.2.1) ho,r⟩
   ·by_cases hb:b=s.heap.objs.size
    ·subst hb
     rw[zal]at q
     cases q
     exact⟨by show 2<=qU;decide,[u1,u2],.cons ru1 (.cons ru2 .nil),_,t2,rfl,_,rfl⟩
    ·rw[zap hb]at q
     refine(I.hok b v q).stay (λc w' hc r=>?_) (λc r=>by rw[zap (zay r hp)];exact r) λc ys r=>by rw[zap (zay r hp)];exact r
     rcases hc with rfl|hc
     ·exact k3 c w' (nH c v q) r
     ·exact k3 c w' (nH c _ hc) r
  ·obtain⟨a,c,hto⟩:=zt.to
   exact⟨z2,(sb2.2 _ D.TIz).trans zt.ti,⟨a,c,(sb2.2 _ D.TOz).trans hto⟩,zt.i1.moved λo q=>(sb2.2 _ D.i1z).trans q,zt.i2.moved λo q=>(sb2.2 _ D.i2z).trans q⟩
 done:=by
  intro X hP hw hK hc i pins s σ H E I hf st hg
  subst hP hw hK
  obtain⟨xs,ys,q1,q2,hle⟩:=hg
  obtain⟨its1,rv1,p1,_⟩:=I.sq q1
  obtain⟨its2,rv2,p2,_⟩:=I.sq q2
  have l1':=rv1.length
  have l2':=rv2.length
  have hT:s.TypeIs (.ref z) "zip":=⟨_,st.z,rfl⟩
  unfold pyNext
  refine qD (wpAny_attempt (qAr (name:=Str.ofString "__next__") hT qCO (qBN qCO hT F.entry_zip_next
   (zapw (by exact I.ok.hd hc) D st p1 p2 (by rcases hle with q|q;exact .inl (by simp;omega);exact .inr (by simp;omega)) λh' e kp he=>?_) (F.args_zip_next_1 _))))
  obtain⟨o,ho,hcl⟩:=he
  refine qD (wpAny_isInstance (T:="StopIteration") (b:=true) ⟨o,ho,hcl⟩ isSubtype_stop (qI ⟨rfl,?_⟩))
  have fz:=hf z (by simp)
  have fO:=hf TO (by simp)
  have f1:=hf i1 (by simp)
  have f2:=hf i2 (by simp)
  have nch:∀b,b∉[z,TO,i1,i2]->b≠z/\b≠TO/\b≠i1/\b≠i2:=λb hb=>⟨λq=>hb (by simp[q]),λq=>hb (by simp[q]),λq=>hb (by simp[q]),λq=>hb (by simp[q])⟩
  have k3:∀b o,b∉[z,TO,i1,i2]->s.heap.get? b=some o->h'.get? b=some o:=λb o hb q=>let⟨e1,e2,e3,e4⟩:=nch b hb;kp b o e1 e2 e3 e4 q
  have nH:∀c v,H c=some v->c∉[z,TO,i1,i2]:=λc v q hc=>by
   have:H c=none:=by
    simp only[qZ,qAw,or_false]at hc
    rcases hc with rfl|rfl|rfl|rfl
    ·exact fz.1
    ·exact fO.1
    ·exact f1.1
    ·exact f2.1
   rw[this]at q;cases q
  refine Inv.step (s:=s) (h':=h') (g':=s.gens) (d':=s.drawn) (t':=s.toks) (ch:=[z,TO,i1,i2]) I (λb hb=>?_) (λb o _ _ hc q _=>k3 b o hc q) (λb o _ _ hc q _=>⟨o.slots,k3 b o hc q⟩)
    (λb o _ q n=>n) (λb o hc q=>⟨o,k3 b o hc q⟩) (λb xs q=>q) (λb o v q=>q) (λb ps q=>⟨#[],by rw[q];simp⟩) (λm hm=>?_) (λb v q=>?_) I.bare
  ·have:=hf b (by
     simp only[qZ,qAw,or_false]at hb ⊢
     rcases hb with rfl|rfl|rfl|rfl<;>simp)
   exact⟨this.2.2.2.1,this.2.1,this.2.2.2.2.1,this.2.2.2.2.2⟩
  ·obtain⟨o,es,ep,ho,r⟩:=hm
   exact⟨o,es,ep,kp _ o (qAp fz.2.1) (qAp fO.2.1) (qAp f1.2.1) (qAp f2.2.1) ho,r⟩
  ·refine(I.hok b v q).stay (λc w' hc r=>?_) (λc r=>r) λc ys r=>r
   rcases hc with rfl|hc
   ·exact k3 c w' (nH c v q) r
   ·exact k3 c w' (nH c _ hc) r
 self:=λ_ _ _ _ _ st h=>wpAny_pyIter_zip st.z h
end L2
namespace PySem
open Sem (wp)
def itO(b:Bool)(l:Addr):Obj:=match b with
 | true=>{cls:=.type "list_iterator",data:=.fields #[.ref l,.int 0 0]}
 | false=>{cls:=.type "tuple_iterator",data:=.fields #[.ref l,.int 0 0]}
def zx1(b1:Bool)(h:Heap)(l1:Addr):Heap:=h.push (itO b1 l1)
def zx2(b1 b2:Bool)(h:Heap)(l1 l2:Addr):Heap:=(zx1 b1 h l1).push (itO b2 l2)
def zx3(b1 b2:Bool)(h:Heap)(l1 l2:Addr):Heap:=(zx2 b1 b2 h l1 l2).push {cls:=.type "tuple",data:=.seq #[.ref h.objs.size,.ref (zx1 b1 h l1).objs.size]}
def zx4(b1 b2:Bool)(h:Heap)(l1 l2:Addr):Heap:=(zx3 b1 b2 h l1 l2).push {cls:=.type "tuple",data:=.seq #[.none,.none]}
def zx5(b1 b2:Bool)(h:Heap)(l1 l2:Addr):Heap:=(zx4 b1 b2 h l1 l2).push {cls:=.type "zip",data:=.fields #[.none,.bool false,.bool false,.ref (zx2 b1 b2 h l1 l2).objs.size,.ref (zx3 b1 b2 h l1 l2).objs.size]}
theorem zahy(b1 b2:Bool)(l1 l2:Addr)(xs ys:Array Value) :
  Meets (Builtin.«zip.__new__» ⟨[.type "zip",.ref l1,.ref l2],[]⟩) (λ_ R s=>zfx b1 s.heap l1 xs/\zfx b2 s.heap l2 ys/\R (.ok (.ret (.ref (zx4 b1 b2 s.heap l1 l2).objs.size))) {s with heap:=zx5 b1 b2 s.heap l1 l2}):=
 .of_wp λprog w A R s h=>by
  obtain⟨hp,g,d,tk,os⟩:=s;obtain⟨h1,h2,h⟩:=h
  have hsub:=sub_zip
  cases b1 with
  | true=>
   have e1:Heap.IsList (Shared.heap ⟨hp,g,d,tk,os⟩) l1 xs:=h1
   cases b2 with
   | true=>
    have e2:Heap.IsList (Shared.heap ⟨hp.push {cls:=.type "list_iterator",data:=.fields #[.ref l1,.int 0 0]},g,d,tk,os⟩) l2 ys:=qDC h2 _
    wp_walk using qA6 e1,qA6 e2
    exact⟨_,rfl,h⟩
   | false=>
    have e2:Heap.IsTuple (Shared.heap ⟨hp.push {cls:=.type "list_iterator",data:=.fields #[.ref l1,.int 0 0]},g,d,tk,os⟩) l2 ys:=qC1 h2 _
    wp_walk using qA6 e1,qAz e2
    exact⟨_,rfl,h⟩
  | false=>
   have e1:Heap.IsTuple (Shared.heap ⟨hp,g,d,tk,os⟩) l1 xs:=h1
   cases b2 with
   | true=>
    have e2:Heap.IsList (Shared.heap ⟨hp.push {cls:=.type "tuple_iterator",data:=.fields #[.ref l1,.int 0 0]},g,d,tk,os⟩) l2 ys:=qDC h2 _
    wp_walk using qAz e1,qA6 e2
    exact⟨_,rfl,h⟩
   | false=>
    have e2:Heap.IsTuple (Shared.heap ⟨hp.push {cls:=.type "tuple_iterator",data:=.fields #[.ref l1,.int 0 0]},g,d,tk,os⟩) l2 ys:=qC1 h2 _
    wp_walk using qAz e1,qAz e2
    exact⟨_,rfl,h⟩
theorem zze{h:Heap}(e:h.get? a=some (itO b l)):SqIt b h a l 0:=by
 cases b with
 | true=>exact⟨_,e,rfl,rfl⟩
 | false=>exact⟨_,e,rfl,rfl⟩
theorem zalj{E:Value->Shared->Prop}{s:Shared}{Q:Value->Shared->Prop}(h1:zfx b1 s.heap l1 xs)(h2:zfx b2 s.heap l2 ys)
  (h:∀h',ZipAt b1 b2 h' (s.heap.objs.size+4) (s.heap.objs.size+2) (s.heap.objs.size+3) s.heap.objs.size (s.heap.objs.size+1) l1 l2 .none 0->(∀c o,s.heap.get? c=some o->h'.get? c=some o)->Q (.ref (s.heap.objs.size+4)) {s with heap:=h'}) :
  wpAny (model prog w) A (call (.type "zip") [.ref l1,.ref l2]) Q E s:=by
 refine callType_new F.called_zip (by decide) (F.typeCall_zip_2 _ _) (F.newCall_zip_2 _ _) (λobj=>F.args_object_init_3 obj _ _) F.entry_zip_new (zahy b1 b2 l1 l2 xs ys) ⟨h1,h2,?_⟩
 have z1:(zx1 b1 s.heap l1).objs.size=s.heap.objs.size+1:=qA1 ..
 have z2:(zx2 b1 b2 s.heap l1 l2).objs.size=s.heap.objs.size+2:=by unfold zx2;rw[qA1,z1]
 have z3:(zx3 b1 b2 s.heap l1 l2).objs.size=s.heap.objs.size+3:=by unfold zx3;rw[qA1,z2]
 have z4:(zx4 b1 b2 s.heap l1 l2).objs.size=s.heap.objs.size+4:=by unfold zx4;rw[qA1,z3]
 have fr:∀o:Obj,(zx5 b1 b2 s.heap l1 l2).get? (zx4 b1 b2 s.heap l1 l2).objs.size=some {cls:=.type "zip",dict:=none,data:=.fields #[.none,.bool false,.bool false,.ref (zx2 b1 b2 s.heap l1 l2).objs.size,.ref (zx3 b1 b2 s.heap l1 l2).objs.size],slots:=#[]}:=λ_=>qY _ rfl
 have g5:=fr {cls:=.none,data:=.seq #[]}
 have g4:(zx5 b1 b2 s.heap l1 l2).get? (zx3 b1 b2 s.heap l1 l2).objs.size=some {cls:=.type "tuple",data:=.seq #[.none,.none]}:=qF _ (qY _ rfl)
 have g3:(zx5 b1 b2 s.heap l1 l2).get? (zx2 b1 b2 s.heap l1 l2).objs.size=some {cls:=.type "tuple",data:=.seq #[.ref s.heap.objs.size,.ref (zx1 b1 s.heap l1).objs.size]}:=qF _ (qF _ (qY _ rfl))
 have g2:(zx5 b1 b2 s.heap l1 l2).get? (zx1 b1 s.heap l1).objs.size=some (itO b2 l2):=qF _ (qF _ (qF _ (qY _ (by cases b2<;>rfl))))
 have g1:(zx5 b1 b2 s.heap l1 l2).get? s.heap.objs.size=some (itO b1 l1):=qF _ (qF _ (qF _ (qF _ (qY _ (by cases b1<;>rfl)))))
 show _/\_
 rw[z2,z3,z4]at g5
 rw[z1,z2]at g3
 rw[z3]at g4
 rw[z1]at g2
 rw[z4]
 exact⟨⟨_,g5,rfl⟩,h _ ⟨g5,g3,⟨_,_,g4⟩,zze g1,zze g2⟩ λc o q=>qF _ (qF _ (qF _ (qF _ (qF _ q))))⟩
end PySem
namespace L2
open PySem PySem.Spec PyProof.Rows
theorem zazu:bootBuiltins "zip"=some (.type "zip"):=by decide +kernel
def iZip(K:qB)(ta:TA):TI:=λσ H R=>ta σ H λvs H1=>∃b1 b2 a1 a2,vs=[.ref a1,.ref a2]/\(∃xs,SqX b1 K H1 a1 xs)/\(∃ys,SqX b2 K H1 a2 ys)/\R (Itz K b1 a1 b2 a2) H1
theorem zfx.there{h:Heap}(x:zfx b h l xs):l<h.objs.size:=by
 cases b with
 | true=>obtain⟨o,q,_⟩:=x;exact qJ q
 | false=>obtain⟨o,q,_⟩:=x;exact qJ q
theorem zalk{n l1 l2:Nat}(h1:l1<n)(h2:l2<n):ZipApart (n+4) (n+2) (n+3) n (n+1) l1 l2:=by
 constructor<;>first|exact qi (by omega)|exact qBc (by omega)
theorem zazv{X:Cx}{K:qB}(hK:X.K=K){a b:Expr}{ta:TA}{p pos:Pos}{elts:List Expr}{x1}{tpos:Pos}(hg:Gl X "zip")(hm:X.mg "zip"=none)(ha:PA X [a,b] ta)(hs:starEach [a,b] X.env=(false,eval a X.env)::starEach [b] X.env:=by rfl)(hs2:(backTo pos (starEach [b] X.env)).any (·.1)=false:=by rfl) :
  PI X (.Tuple elts x1 tpos) (.Call (.Name "zip" p) [a,b] [] pos) (iZip K ta):=by
 subst hK
 intro pins s σ H R I h
 refine Call_ (ztf I hg hm zazu (callWith_type1 (thn (ha pos pins s σ H _ I h) λus s1 ⟨vs,H1,I1,r1,q1⟩=>?_) hs hs2))
 obtain⟨b1,b2,l1,l2,rfl,⟨xs,e1⟩,⟨ys,e2⟩,q⟩:=q1
 obtain⟨u1,u2,rfl,ru1,ru2⟩:=zaaj r1
 cases ru1
 cases ru2
 obtain⟨its1,rv1,p1,_⟩:=I1.sq e1
 obtain⟨its2,rv2,p2,_⟩:=I1.sq e2
 have t1:=zfx.there p1
 have t2:=zfx.there p2
 refine zalj p1 p2 λh' zt hk=>wpAny_pyIter_zip zt.z ?_
 have I2:Inv X pins σ H1 {s1 with heap:=h'}:=I1.kept (t':=s1.toks) hk
 have D:=zalk t1 t2
 refine⟨s1.heap.objs.size+4,[s1.heap.objs.size+4,s1.heap.objs.size+2,s1.heap.objs.size+3,s1.heap.objs.size,s1.heap.objs.size+1],_,_,H1,rfl,I2,zapx D,zt,λc hc=>?_,q⟩
 have hge:s1.heap.objs.size<=c:=by
  simp only[qZ,qAw,or_false]at hc
  rcases hc with rfl|rfl|rfl|rfl|rfl
  ·exact qCD _ _
  ·exact qCD _ _
  ·exact qCD _ _
  ·exact qL _
  ·exact qCD _ _
 exact I1.fpOk hge (I1.hok.fresh hge)
def zaed(f:AF):IF':=λenv=>(f env).bind λrs=>match rs with
 | [r,t]=>(zgg r.d).bind λds=>(zgg t.d).map λes=>(List.zipWith (λd e=>.tuple [d,e]) ds es,r.bs++t.bs)
 | _=>none
theorem zall{K:qB}{A:Addr->Prop}{H:Hp}{d:PyData}{ds:List PyData}{v:V}(h:Rp (Offs A H) d v)(e:zgg d=some ds):∃(b:Bool)(a:Addr)(xs:List V),v=.ref a/\Rps (Offs A H) ds xs/\∀(B:Addr->Prop)(H':Hp),Same (Offs A H) (Offs B H')->SqX b K H' a xs:=by
 cases d with
 | list es=>
  cases e
  obtain⟨a,xs,rfl,ha,r⟩:=zfs h
  exact⟨true,a,xs,rfl,r,λB H' s=>SqL.of (zdv (s _ _ ha))⟩
 | tuple es=>
  cases e
  obtain⟨a,xs,rfl,ha,r⟩:=zdx h
  exact⟨false,a,xs,rfl,r,λB H' s=>SqT.of (zdv (s _ _ ha))⟩
 | _=>cases e
theorem zapy{ds es:List PyData}{i:Nat}{d:PyData}(h:(List.zipWith (λd e=>PyData.tuple [d,e]) ds es)[i]?=some d):∃a b,ds[i]?=some a/\es[i]?=some b/\d=.tuple [a,b]:=by
 rw[List.getElem?_zipWith]at h
 cases e1:ds[i]? with
 | none=>rw[e1]at h;cases h
 | some a=>
  cases e2:es[i]? with
  | none=>rw[e1,e2]at h;cases h
  | some b=>rw[e1,e2]at h;cases h;exact⟨a,b,rfl,rfl,rfl⟩
theorem zazw{K:qB}{ta:TA}{f:AF}(h1:SA ta f):SI (iZip K ta) (zaed f):=by
 intro fx H0 env σ H h ds bs e R q
 unfold zaed at e
 obtain⟨rs,er,e⟩:=qA.mp e
 split at e
 ·rename_i r t
  obtain⟨d1,ed1,e⟩:=qA.mp e
  obtain⟨d2,ed2,e⟩:=qG.mp e
  cases e
  refine h1 fx H0 env σ H h _ er _ λvs H1 s hv=>?_
  cases hv with
  | cons hv1 hv'=>
   cases hv' with
   | cons hv2 hv''=>
    cases hv''
    have sub1:∀b,(fx b\/own (frzs env (r.bs++t.bs)) σ b)->lim fx env σ r.bs b:=λb z=>zts (λi hi=>q9 _ hi) b (zfe b z)
    have sub2:∀b,(fx b\/own (frzs env (r.bs++t.bs)) σ b)->lim fx env σ t.bs b:=λb z=>zts (λi hi=>qc _ hi) b (zfe b z)
    obtain⟨b1,a1,xs,rfl,r1,e1⟩:=zall (K:=K) (Rp.same (Offs.sub sub1) _ hv1.rp) ed1
    obtain⟨b2,a2,ys,rfl,r2,e2⟩:=zall (K:=K) (Rp.same (Offs.sub sub2) _ hv2.rp) ed2
    refine⟨b1,b2,a1,a2,rfl,⟨xs,e1 _ H1 (Same.refl _)⟩,⟨ys,e2 _ H1 (Same.refl _)⟩,q _ H1 s ?_⟩
    intro A H' hA ss
    have q1:=e1 A H' ss
    have q2:=e2 A H' ss
    have r1':=Rps.same ss _ r1
    have r2':=Rps.same ss _ r2
    refine⟨λi d e=>?_,⟨xs,ys,q1,q2,?_⟩⟩
    ·obtain⟨c1,c2,ec1,ec2,rfl⟩:=zapy e
     obtain⟨v1,g1,rv1⟩:=r1'.get2 ec1
     obtain⟨v2,g2,rv2⟩:=r2'.get2 ec2
     refine⟨⟨xs,ys,v1,v2,q1,q2,g1,g2⟩,λx H'' y=>?_⟩
     obtain⟨p,x',y',rfl,hp,rfl,y1,y2⟩:=y
     have z1:=y1 xs q1
     rw[g1]at z1
     cases z1
     have z2:=y2 ys q2
     rw[g2]at z2
     cases z2
     exact⟨Same.new hp,znl hp (zev hA hp) (zcx rv1 (zcx rv2 zcz))⟩
    ·rw[List.length_zipWith,r1.length,r2.length]
     rcases Nat.le_total xs.length ys.length with z|z
     ·exact .inl (by rw[Nat.min_eq_left z];exact qL _)
     ·exact .inr (by rw[Nat.min_eq_right z];exact qL _)
 ·cases e
def rInS(K:qB)(neg:Bool):R2:=λx y H Q=>∃d c ds,Rep K H d x/\Rep K H c y/\zgg c=some ds/\qt d=true/\qt c=true/\Q (.bl (if neg then !(ds.any λe=>qAO e d)else ds.any λe=>qAO e d)) H
section
variable{X:Cx}
theorem shp{d:PyData}(h:qt d=true):d.canLay0=true/\d.depth<=64:=by
 unfold qt at h
 rw[qo]at h
 exact⟨h.1,of_decide_eq_true h.2⟩
theorem zbcu{K:qB}(hK:X.K=K)(hu:X.A.units+64<cLine):OpR X (compareOp .In) (rInS K false):=by
 subst hK
 intro pins s σ H x y v u Q I rx ry h
 obtain⟨d,c,ds,hd,hc,hi,sd,sc,q⟩:=h
 obtain⟨as,r1⟩:=zfr I d hd rx
 obtain⟨bs,r2⟩:=zfr I c hc ry
 obtain⟨l1,p1⟩:=shp sd
 obtain⟨l2,p2⟩:=shp sc
 have q:EP X pins σ Q (.bool (ds.any λe=>qAO e d)) s:=⟨.bl (ds.any λe=>qAO e d),H,I,rfl,q⟩
 cases c with
 | list es=>
  cases hi
  have p2:qh ds+1<=64:=p2
  exact SeqAt.in_list_reads r2 r1 l2 l1 (by have:=qBz (qh ds) d.depth;omega) q
 | tuple es=>
  cases hi
  have p2:qh ds+1<=64:=p2
  exact SeqAt.in_tuple_reads r2 r1 l2 l1 (by have:=qBz (qh ds) d.depth;omega) q
 | _=>cases hi
theorem zalm{K:qB}(hK:X.K=K)(hu:X.A.units+64<cLine):OpR X (compareOp .NotIn) (rInS K true):=by
 subst hK
 intro pins s σ H x y v u Q I rx ry h
 obtain⟨d,c,ds,hd,hc,hi,sd,sc,q⟩:=h
 obtain⟨as,r1⟩:=zfr I d hd rx
 obtain⟨bs,r2⟩:=zfr I c hc ry
 obtain⟨l1,p1⟩:=shp sd
 obtain⟨l2,p2⟩:=shp sc
 have q:EP X pins σ Q (.bool (!(ds.any λe=>qAO e d))) s:=⟨.bl (!(ds.any λe=>qAO e d)),H,I,rfl,q⟩
 cases c with
 | list es=>
  cases hi
  have p2:qh ds+1<=64:=p2
  exact SeqAt.notIn_list_reads r2 r1 l2 l1 (by have:=qBz (qh ds) d.depth;omega) q
 | tuple es=>
  cases hi
  have p2:qh ds+1<=64:=p2
  exact SeqAt.notIn_tuple_reads r2 r1 l2 l1 (by have:=qBz (qh ds) d.depth;omega) q
 | _=>cases hi
end
def inS(neg:Bool):OF:=λd c=>match zgg c with
 | some ds=>if qt d=true/\qt c=true then some (.bool (if neg then !(ds.any λe=>qAO e d)else ds.any λe=>qAO e d),false)else none
 | none=>none
theorem zazx{K:qB}{neg:Bool}:SO (rInS K neg) (inS neg):=by
 intro A H x y dx dy hA rx ry d fr e Q q
 unfold inS at e
 split at e
 ·rename_i ds hi
  split at e
  ·rename_i h
   cases e
   refine⟨dx,dy,ds,ztx (qAf h.1) (Rp.same (Offs.same A H) _ rx),ztx (qAf h.2) (Rp.same (Offs.same A H) _ ry),hi,h.1,h.2,q _ H (Same.refl _) ?_ (λz=>by cases z)⟩
   cases neg<;>exact zbv
  ·cases e
 ·cases e
end L2
namespace PySem
open Sem (wp)
open AutoSeq1 (wpAny_loadPart')
theorem zapz{A:Around}(hh:A.handled=none)(b:Bool)(it l:Addr)(hne:l≠it)(items:Array Value) :
  Draws prog w A it [it,l] items.size (λi v=>items[i]?=some v) (λi h=>SqIt b h it l i/\zfx b h l items) where
 live:=λ_ _ st=>let⟨o,ho,_⟩:=st.1.obj;⟨o,ho⟩
 frame:=λ_ _ _ st hk=>⟨st.1.moved λo e=>hk it (by simp) o e,st.2.moved λo e=>hk l (by simp) o e⟩
 item:=λi s Q E hi st hQ=>by
  refine zzd st.1 st.2 (x:=items[i]) (by simp[hi]) λh' hit' hs'=>?_
  exact hQ _ h' s.toks (by simp[hi]) ⟨hit',st.2.moved λo e=>hs'.extBut _ o hne e⟩ hs'
 done:=λs Q E st hE=>zafx hh st.1 st.2 (by simp) hE
theorem zsk(l:Addr)(items:Array Value)(n:Nat)(dct:Option Addr)(sl:Array (Option Value)) :
  Meets (Builtin.«enumerate.__new__» ⟨[.type "enumerate",.ref l],[]⟩) (λ_ R s=>s.heap.get? l=some {cls:=.type "tuple",dict:=dct,data:=.seq items n,slots:=sl}/\
   R (.ok (.ret (.ref (s.heap.push (itO false l)).objs.size))) {s with heap:=(s.heap.push (itO false l)).push {cls:=.type "enumerate",data:=.fields #[.none,.bool false,.ref s.heap.objs.size,rawInt 0,.none,.none]}}):=
 .of_wp λprog w A R s h=>by
  obtain⟨hp,g,d,tk,os⟩:=s;obtain⟨hl,h⟩:=h
  have hsub:=sub_enumerate
  have e1:Heap.IsTuple (Shared.heap ⟨hp,g,d,tk,os⟩) l items:=⟨_,hl,rfl,n,rfl⟩
  wp_walk using qBo hl
  refine wpAny_stack_any λst=>qI ?_
  split
  ·rename_i c _ _ _ _ _
   cases(c==Value.type "enumerate")
   ·wp_walk using qBo hl,qAz e1
    exact⟨_,rfl,h⟩
   ·wp_walk using qBo hl,qAz e1
    exact⟨_,rfl,h⟩
  ·wp_walk using qBo hl,qAz e1
   exact⟨_,rfl,h⟩
theorem zabk{E:Value->Shared->Prop}{s:Shared}{Q:Value->Shared->Prop}(hL:zfx b s.heap l items)
  (h:∀h',IsEnum h' (s.heap.objs.size+1) s.heap.objs.size 0 .none->SqIt b h' s.heap.objs.size l 0->(∀c o,s.heap.get? c=some o->h'.get? c=some o)->Q (.ref (s.heap.objs.size+1)) {s with heap:=h'}) :
  wpAny (model prog w) A (call (.type "enumerate") [.ref l]) Q E s:=by
 cases b with
 | true=>exact call_enumerate_list hL λh' e i _ k=>h h' e i k
 | false=>
  obtain⟨⟨c,dct,dt,sl⟩,hl,hc,n,hd⟩:=hL
  replace hc:c=.type "tuple":=hc
  replace hd:dt=.seq items n:=hd
  subst hc hd
  refine callType_new F.called_enumerate (by decide) (F.typeCall_enumerate_1 _) (F.newCall_enumerate_1 _) (λobj=>F.args_object_init_2 obj _) F.entry_enumerate_new (zsk l items n dct sl) ⟨hl,?_⟩
  have hz:(s.heap.push (itO false l)).objs.size=s.heap.objs.size+1:=qA1 ..
  have he:=qY (s.heap.push (itO false l)) (o:={cls:=.type "enumerate",data:=.fields #[.none,.bool false,.ref s.heap.objs.size,rawInt 0,.none,.none]}) rfl
  show _/\_
  rw[hz]at he ⊢
  exact⟨⟨_,he,rfl⟩,h _ he (zze (b:=false) (qF _ (qY _ rfl))) λc o x=>qF _ (qF _ x)⟩
end PySem
namespace L2
open PySem PySem.Spec PyProof.Rows
def Itx(K:qB)(b:Bool)(a:Addr):It:=
 ⟨λi H=>∃xs x,SqX b K H a xs/\xs[i]?=some x,λi H x H'=>∃p y,x=.ref p/\H p=none/\H'=upd H p (.tup [.int i,y])/\∀xs,SqX b K H a xs->xs[i]?=some y,λi H=>∃xs,SqX b K H a xs/\xs.length<=i⟩
theorem zahz{P:Program}{w:World}{K:qB}{elts:List Expr}{x1}{tpos:Pos}{b:Bool}(a e it:Addr)(hne:e≠it)(hea:e≠a)(hai:a≠it) :
  Turn P w K (.Tuple elts x1 tpos) (Itx K b a) [e,it] e (λi h=>SqIt b h it a i/\∃old,IsEnum h e it (i:Int) old) where
 mem:=by simp
 obj:=λi h st c hc=>by
  obtain⟨h1,old,h4⟩:=st
  rcases qZ.mp hc with rfl|hc
  ·exact⟨_,h4,λv z=>by simp at z⟩
  ·have q:c=it:=by simpa using hc
   subst q
   exact h1.obj
 keep:=λi h h' st k=>⟨st.1.moved λo q=>k it (by simp) o q,let⟨old,q⟩:=st.2;⟨old,k e (by simp) _ q⟩⟩
 item:=by
  intro X hP hw hK hc i pins s σ H E I hf st hg
  subst hP hw hK
  obtain⟨xs,x,hq,hx⟩:=hg
  obtain⟨its,rv,p,hz⟩:=I.sq hq
  obtain⟨u,hu,ru⟩:=rv.get hx
  obtain⟨hit,old,he⟩:=st
  have fe:=hf e (by simp)
  have fi:=hf it (by simp)
  have hlt:i<its.toArray.size:=by
   obtain⟨hh,_⟩:=qS.mp hu
   simpa using hh
  refine wpAny_pyNext_enum_itemD (zapz (by exact I.ok.hd hc) b it a hai its.toArray) he ⟨hit,p⟩ hlt hne (by simp[hne,hea]) λu' h1 tk pu e1 i1 t1 z1 k1=>?_
  have hu':u'=u:=by
   have pu:its.toArray[i]?=some u':=pu
   rw[List.getElem?_toArray,hu]at pu
   exact(qX pu).symm
  subst hu'
  refine⟨_,rfl,wpAny_letOwnedTupleGo_enum (s:={s with heap:=h1,toks:=tk+1}) e1 λh2 e2 sb2=>?_⟩
  have hp:H s.heap.objs.size=none:=I.hok.fresh (qL _)
  have hes:e≠s.heap.objs.size:=qi (qJ he)
  have k2:∀c o,c≠e->c≠it->s.heap.get? c=some o->h2.get? c=some o:=λc o q1 q2 q=>(sb2.2 c q1).trans (k1 c o q1 q2 q)
  have t2:h2.get? s.heap.objs.size=some {cls:=.type "tuple",data:=.seq #[.int i tk,u']}:=(sb2.2 _ (qAp hes)).trans t1
  have nch:∀c,c∉[e,it]->c≠e/\c≠it:=λc hb=>⟨λz=>hb (by simp[z]),λz=>hb (by simp[z])⟩
  refine⟨.ref s.heap.objs.size,upd H s.heap.objs.size (.tup [.int i,x]),?_,rfl,⟨_,x,rfl,hp,rfl,λys hy=>by rw[I.sq_inj hy hq];exact hx⟩,⟨?_,u',e2⟩,λc hb=>?_⟩
  ·refine Inv.step (s:=s) (h':=h2) (g':=s.gens) (d':=s.drawn) (t':=tk+1) (ch:=[e,it]) I (λc hb=>?_) (λc o _ _ hc q _=>k2 c o (nch c hc).1 (nch c hc).2 q) (λc o _ _ hc q _=>⟨o.slots,k2 c o (nch c hc).1 (nch c hc).2 q⟩)
    (λc o _ q n=>by rw[zap (qi (qJ q))];exact n) (λc o hc q=>⟨o,k2 c o (nch c hc).1 (nch c hc).2 q⟩)
    (λc xs q=>by rw[zap (zay q hp)];exact q) (λc o v q=>by rw[zap (zay q hp)];exact q) (λc ps q=>⟨#[],by rw[zap (zay q hp),q];simp⟩) (λm hm=>?_) (λc v q=>?_) I.bare
   ·rcases qZ.mp hb with rfl|hb
    ·exact⟨fe.2.2.2.1,fe.2.1,fe.2.2.2.2.1,fe.2.2.2.2.2⟩
    ·have z:c=it:=by simpa using hb
     subst z
     exact⟨fi.2.2.2.1,fi.2.1,fi.2.2.2.2.1,fi.2.2.2.2.2⟩
   ·obtain⟨o,es,ep,ho,r⟩:=hm
    exact⟨o,es,ep,k2 _ o (qAp fe.2.1) (qAp fi.2.1) ho,r⟩
   ·by_cases hb:c=s.heap.objs.size
    ·subst hb
     rw[zal]at q
     cases q
     exact⟨by show 2<=qU;decide,[.int i tk,u'],.cons ⟨_,rfl⟩ (.cons ru .nil),_,t2,rfl,_,rfl⟩
    ·rw[zap hb]at q
     have nt:∀c w',H c=some w'->c≠e/\c≠it:=λc w' z=>⟨(λy=>by rw[y,fe.1]at z;cases z),(λy=>by rw[y,fi.1]at z;cases z)⟩
     refine(I.hok c v q).stay (λc w' hc r=>?_) (λc r=>by rw[zap (zay r hp)];exact r) λc ys r=>by rw[zap (zay r hp)];exact r
     rcases hc with rfl|hc
     ·exact k2 c w' (nt c v q).1 (nt c v q).2 r
     ·exact k2 c w' (nt c _ hc).1 (nt c _ hc).2 r
  ·exact i1.1.moved λo q=>(sb2.2 _ (qAp hne)).trans q
  ·rcases qZ.mp hb with rfl|hb
   ·rw[zap hes];exact fe.1
   ·have z:c=it:=by simpa using hb
    subst z
    obtain⟨o,q1,_⟩:=hit.obj
    rw[zap (qi (qJ q1))]
    exact fi.1
 done:=by
  intro X hP hw hK hc i pins s σ H E I hf st hg
  subst hP hw hK
  obtain⟨xs,hq,hx⟩:=hg
  obtain⟨its,rv,p,hz⟩:=I.sq hq
  obtain⟨hit,old,he⟩:=st
  obtain⟨f0,f1,f2,f3,f4,f5⟩:=hf it (by simp)
  have hl:=rv.length
  have hT:s.TypeIs (.ref e) "enumerate":=⟨_,he,rfl⟩
  unfold pyNext
  refine qD (wpAny_attempt (qAr (name:=Str.ofString "__next__") hT F.slot_enumerate_next (qBN F.slot_enumerate_next hT F.entry_enumerate_next ?_ (F.args_enumerate_next_1 _))))
  show wpAny _ _ (field (.ref e) 2 >>=_) _ _ _
  refine qD (qAW he rfl (x:=.ref it) rfl ?_)
  refine qD (zafx (by exact I.ok.hd hc) hit p (by simp;omega) λh' x he' hx'=>?_)
  obtain⟨o,ho,hcl⟩:=hx'
  refine qD (wpAny_isInstance (T:="StopIteration") (b:=true) ⟨o,ho,hcl⟩ isSubtype_stop (qI ⟨rfl,?_⟩))
  exact I.turned (t':=s.toks) (λc o hb q=>he' c o hb q) f0 f1 f3 f4 f5
 self:=λ_ _ _ _ _ st h=>let⟨_,q⟩:=st.2;wpAny_pyIter_enum q h
def iEnumX(K:qB)(ta:TA):TI:=λσ H R=>ta σ H λvs H1=>∃b a,vs=[.ref a]/\(∃xs,SqX b K H1 a xs)/\R (Itx K b a) H1
theorem zaqa{X:Cx}{K:qB}(hK:X.K=K){a:Expr}{ta:TA}{p pos:Pos}{elts:List Expr}{x1}{tpos:Pos}(hg:Gl X "enumerate")(hm:X.mg "enumerate"=none)(ha:PA X [a] ta)(hs:starEach [a] X.env=[(false,eval a X.env)]:=by rfl) :
  PI X (.Tuple elts x1 tpos) (.Call (.Name "enumerate" p) [a] [] pos) (iEnumX K ta):=by
 subst hK
 intro pins s σ H R I h
 refine Call_ (ztf I hg hm boot_enumerate (qBn (thn (ha pos pins s σ H _ I h) λus s1 ⟨vs,H1,I1,r1,q1⟩=>?_) hs rfl))
 obtain⟨b,l,rfl,⟨xs,hq⟩,q⟩:=q1
 obtain⟨u,rfl,ru⟩:=zadn r1
 cases ru
 obtain⟨its,rv,pl,hz⟩:=I1.sq hq
 have lt:=zfx.there pl
 refine zabk pl λh' he hit hk=>wpAny_pyIter_enum he ?_
 have I2:Inv X pins σ H1 {s1 with heap:=h'}:=I1.kept (t':=s1.toks) hk
 refine⟨s1.heap.objs.size+1,[s1.heap.objs.size+1,s1.heap.objs.size],_,_,H1,rfl,I2,zahz l _ _ (Nat.succ_ne_self _) (qBc (Nat.lt_succ_of_lt lt)) (qi lt),⟨hit,_,he⟩,λc hb=>?_,q⟩
 rcases qZ.mp hb with rfl|hb
 ·exact I1.fpOk (qCt _) (I1.hok.fresh (qCt _))
 ·have e:c=s1.heap.objs.size:=by simpa using hb
  subst e
  exact I1.fpOk (qL _) (I1.hok.fresh (qL _))
def zxl(f:AF):IF':=λenv=>(f env).bind λrs=>match rs with
 | [r]=>(zgg r.d).map λds=>(zwr ds,r.bs)
 | _=>none
theorem zafy{K:qB}{ta:TA}{f:AF}(h1:SA ta f):SI (iEnumX K ta) (zxl f):=by
 intro fx H0 env σ H h ds bs e R q
 unfold zxl at e
 obtain⟨rs,er,e⟩:=qA.mp e
 split at e
 ·rename_i r
  obtain⟨d1,ed1,e⟩:=qG.mp e
  cases e
  refine h1 fx H0 env σ H h _ er _ λvs H1 s hv=>?_
  cases hv with
  | cons hv t=>
   cases t
   obtain⟨b,a,xs,rfl,r1,e1⟩:=zall (K:=K) (Rp.same (Offs.sub (zfe (bs:=r.bs))) _ hv.rp) ed1
   refine⟨b,a,rfl,⟨xs,e1 _ H1 (Same.refl _)⟩,q _ H1 s ?_⟩
   intro A H' hA ss
   have q1:=e1 A H' ss
   have r1':=Rps.same ss _ r1
   have hl:(zwr d1).length=d1.length:=by unfold zwr;simp
   refine⟨λi d e=>?_,⟨xs,q1,by rw[hl,r1.length];exact qL _⟩⟩
   unfold zwr at e
   rw[qN,qDT]at e
   cases e0:d1[i]? with
   | none=>rw[e0]at e;cases e
   | some d0=>
    rw[e0]at e
    obtain⟨v,hv,rv⟩:=r1'.get2 e0
    have e:PyData.tuple [.int ((0+i:Nat):Int),d0]=d:=qX e
    rw[qCd]at e
    subst e
    refine⟨⟨xs,v,q1,hv⟩,λx H'' y=>?_⟩
    obtain⟨p,y',rfl,hp,rfl,y⟩:=y
    have:=y xs q1
    rw[hv]at this
    cases this
    exact⟨Same.new hp,znl hp (zev hA hp) (zcx zby (zcx rv zcz))⟩
 ·cases e
theorem zaln{K:qB}{ta:TA}{f:AF}(h1:SA ta f):SI (iEnumX K ta) (ztz f):=λfx H0 env σ H h ds bs e R q=>
 zafy h1 fx H0 env σ H h ds bs (by
  unfold ztz at e
  unfold zxl
  obtain⟨rs,er,e⟩:=qA.mp e
  rw[er]
  cases rs with
  | nil=>cases e
  | cons r t=>
   cases t with
   | nil=>
    obtain⟨d,fr,b⟩:=r
    cases d<;>first|exact e|cases e
   | cons _ _=>cases e) R q
def isStar:Expr->Bool
 | .Starred ..=>true
 | _=>false
theorem zas(h:isStar e=false):starEach (e::es) env=(false,eval e env)::starEach es env:=by
 cases e<;>first
  | rfl
  | cases h
theorem zaqb(ha:PE X e te)(hr:PA X es t)(hs:isStar e=false:=by rfl):PA X (e::es) (tCons te t):=zkh ha hr (zas hs)
theorem zaqc{xs:List V}{us:List Value}(r:Vals xs us):Vals xs.reverse us.reverse:=by
 induction r with
 | nil=>exact .nil
 | cons h _ ih=>
  rw[qB7,qB7]
  exact ih.append (.cons h .nil)
theorem Rps.rev{ds:List PyData}{vs:List V}(h:Rps H ds vs):Rps H ds.reverse vs.reverse:=by
 replace h:=zcj.mp h
 induction h with
 | nil=>exact zcz
 | cons h _ ih=>
  rw[qB7,qB7]
  exact ih.append (zcx h zcz)
end L2
namespace PySem.SeqAt
open AutoSeq1 (wpAny_loadPart')
open MeetsSeq PyProof.Rows
end PySem.SeqAt
namespace L2
open PySem PySem.Spec PyProof.Rows
theorem Rps.setAt{ds:List PyData}{vs:List V}(h:Rps H ds vs)(hv:Rp H d v)(n:Nat):Rps H (ds.set n d) (vs.set n v):=by
 induction n generalizing ds vs with
 | zero=>
  cases ds with
  | nil=>unfold Rps at h;subst h;exact zcz
  | cons e ds=>unfold Rps at h;obtain⟨w,ws,rfl,h1,h2⟩:=h;exact zcx hv h2
 | succ n ih=>
  cases ds with
  | nil=>unfold Rps at h;subst h;exact zcz
  | cons e ds=>unfold Rps at h;obtain⟨w,ws,rfl,h1,h2⟩:=h;exact zcx h1 (ih h2)
def znq(i:Nat)(fk fv:EF):SF:=λenv=>match env[i]? with
 | some (.ac (.list ds))=>(fv env).bind λr=>(fk env).bind λk=>match k.d with
  | .int z=>(ixN ds.length z).bind λj=>if i∉r.bs then some (.nx ((frzs env r.bs).set i (.ac (.list (ds.set j r.d)))))else none
  | _=>none
 | _=>none
theorem zuf(h1:SE tk fk)(h2:SE tv fv):SS (tAsg tv (gSub (tVar i) tk zaua)) (znq i fk fv):=by
 intro fx H0 env σ H D h o e q
 unfold znq at e
 split at e
 ·rename_i ds ei
  obtain⟨r,er,e⟩:=qA.mp e
  obtain⟨⟨kd,kfr,kbs⟩,ek,e⟩:=qA.mp e
  cases kd with
  | int z=>
   have e:((ixN ds.length z).bind λj=>if i∉r.bs then some (Out.nx ((frzs env r.bs).set i (.ac (.list (ds.set j r.d)))))else none)=some o:=e
   obtain⟨j,ej,e⟩:=qA.mp e
   split at e
   ·rename_i hl
    cases e
    obtain⟨a,g1,g2,g3,g4⟩:=h.ac i _ ei
    obtain⟨xs,hx,rx⟩:=g4
    refine h2 fx H0 env σ H h r er _ λv H' s hv=>⟨_,g1,h1 fx H0 env σ H' (h.up s) _ ek _ λu H2 s2 hk=>?_⟩
    cases zeh hk.rp
    have t2:=s.trans s2
    have h':=(h.up t2).frzs r.bs
    have ei':=zjc hl ei
    have hx':=t2 _ _ hx
    have rx':Rps (Offs (λb=>fx b\/own (frzs env r.bs) σ b) H2) ds xs:=by
     obtain⟨a',z1,_,_,z4⟩:=h'.ac i _ ei'
     rw[g1]at z1
     cases z1
     obtain⟨ys,y1,y2⟩:=z4
     rw[hx']at y1
     cases y1
     exact y2
    refine⟨a,xs,z,j,rfl,rfl,hx',by rw[<- rx.length];exact ej,?_⟩
    exact q σ _ (h'.mut ei' g1 ⟨_,zal,rx'.setAt (Rp.same (Offs.sub zfe) _ (hv.later (Same.refl _) s2 λ_ z=>z).rp) j⟩)
   ·cases e
  | _=>cases e
 ·cases e
structure Bx(p:Prop):Prop where
 out:p
theorem Bx.pt(h:Bx (PW X e t)):Bx (PT X e t):=⟨h.out.pt⟩
theorem zae:Bx (PE X (qz.Constant (Const.int i) j pos) (tC (V.int i))):=⟨zib⟩
theorem zac:Bx (PA X [] tNil):=⟨zre⟩
theorem zde(ha:Bx (PE X e te))(hr:Bx (PA X es t))(hs:L2.isStar e=false):Bx (PA X (e::es) (tCons te t)):=⟨zaqb ha.out hr.out hs⟩
theorem zak{a b:qz}(ho:OpR X (PySem.binaryOp op) r)(ha:Bx (PE X a ta))(hb:Bx (PE X b tb)):Bx (PE X (a.BinOp op b pos) (tOp r ta tb)):=⟨zmm ho ha.out hb.out⟩
theorem zaf{X:Cx}{st:Stmt}{t:TS}(h1:Bx (PS X st t)):Bx (PSs X [st] t):=⟨znh h1.out⟩
theorem zad{X:Cx}{st:Stmt}{rest:List Stmt}{t u:TS}(h1:Bx (PS X st t))(h2:Bx (PSs X rest u)):Bx (PSs X (st::rest) (L2.tSeq t u)):=⟨zlz h1.out h2.out⟩
theorem zazy {X:Cx} {x:Str} (D:L2.Dn X.prog X.w X.K X.mg X.base x ps k sp) (hr:L2.Room k X.A) (hg:Gl X x) (ha:Bx (PA X (e::es) t)) (hdb:(x==qAA "__debug__")=false) (he:qAP (e::es) X.env=(false,eval e X.env)::qAP es X.env) (hpl:((backTo pos (qAP es X.env)).any λ(x:Bool×PySem.Sem Value)=>x.fst)=false):Bx (PE X ((qz.Name x p).Call (e::es) [] pos) (L2.tCall sp [] L2.E0 t)):=⟨zbbv D hr hg ha.out hdb he hpl⟩
theorem zba(he:Bx (PE X e te)):Bx (PS X (Stmt.Return (some e) pos) (L2.tRet te)):=⟨zart he.out⟩
theorem zavk{X:Cx}{pos:qAu}(hN:X.N.Nodup)(hi:X.N[i]?=some x)(hx:L2.Loc X.env.scope x)(he:Bx (PE X e te))(hs:swapsWith e (some (qz.Name x pos')) pos.line X.env=Pure.pure false)(hf:X.fn x=true\/List.lookup x X.env.scope.names=some PySem.NameKind.local):Bx (PS X (Stmt.Assign [qz.Name x pos'] e pos) (tAsg te (gName i))):=⟨zafd hN hi hx he.out hs hf⟩
theorem zalo {X:Cx} {x:Str} {p pos:qAu} {e:qz} {es:List qz} {t:TA} {id:String} {r:List V->Hp->VK->Prop} (hc:CallR X (Value.builtin id) r) (hg:Gl X x) (hm:X.mg x=none) (hv:PySem.bootBuiltins x=some (Value.builtin id)) (ha:Bx (PA X (e::es) t)) (hn:x≠qAA "__name__") (hdb:(x==qAA "__debug__")=false) (he:qAP (e::es) X.env=(false,eval e X.env)::qAP es X.env) (hpl:((backTo pos (qAP es X.env)).any λ(x:Bool×PySem.Sem Value)=>x.fst)=false):Bx (PE X ((qz.Name x p).Call (e::es) [] pos) (tCB r t)):=⟨zaff hc hg hm hv ha.out hn hdb he hpl⟩
theorem zgw:Bx (PE X (qz.Constant (Const.bool b) j pos) (tC (V.bl b))):=⟨zbbk⟩
theorem zazz{a b:qz}(hr:IxR X r)(ha:Bx (PE X a ta))(hb:Bx (PE X b tb))(hs:L2.PlainIx b):Bx (PE X (a.Subscript b pos) (tOp r ta tb)):=⟨zaye hr ha.out hb.out hs⟩
theorem zdf(hc:Bx (PT X c tc))(ha:Bx (PSs X a t))(hb:Bx (PSs X b u)):Bx (PS X (Stmt.If c a b pos) (L2.tIfS tc t u)):=⟨zaxr hc.out ha.out hb.out⟩
theorem zbq:Bx (PSs X [] L2.tNext):=⟨zatr⟩
theorem zks(ha:Bx (PT X a tA)):Bx (PT X (qz.UnaryOp UnaryOp.Not a pos) (L2.tNot tA)):=⟨zaxo ha.out⟩
theorem zcl:∀{X:Cx}{K:qB},
 X.K=K->
  ∀{a:qz}{ta:TE},
   Bx (PE X a ta)->
    (∀(whole:PySem.Sem Value),
      PySem.isTrue a X.env whole=do
       let v <- whole
       PySem.standAt a.pos
       PySem.holding [v] (PySem.truthy v))->
     Bx (PT X a λ(σ:L2.St)(H:Hp)(Q:Bool->Hp->Prop)=>ta σ H λ(x:V)(H':Hp)=>∃(k:Bool),L2.TruV K x H' k/\Q k H'):=by
 intro X K hK a ta ha he
 exact⟨zald hK ha.out he⟩
theorem zaqd{X:Cx}(hN:X.N.Nodup)(hi:X.N[i]?=some x)(hx:L2.Loc X.env.scope x)(hf:X.fn x=true\/List.lookup x X.env.scope.names=some PySem.NameKind.local):Bx (PG X (qz.Name x pos) (gName i)):=⟨zadk hN hi hx hf⟩
theorem zdq(h:Bx (PA X es t)):Bx (PE X (qz.List es pos) (tLst t)):=⟨zarw h.out⟩
theorem zda{X:Cx}(hp:PySem.PassesOwn (PySem.model X.prog X.w) X.A X.env X.xe)(hc:X.calm=true)(hi:Bx (PI X tg iter wi))(hg:Bx (PG X tg g))(hb:Bx (PSs X body tb))(hs:(∀(x:Value),foldedSetIterable iter X.env x=Pure.pure x)):Bx (PS X (Stmt.For tg iter body [] pos) (L2.tFor wi g tb)):=⟨zaiz hp hc hi.out hg.out hb.out hs⟩
theorem zbt{a b:qz}(ho:OpR X (PySem.compareOp op) r)(ha:Bx (PE X a ta))(hb:Bx (PE X b tb))(hm:behindInMarks op b=false):Bx (PT X (a.Compare [op] [b] pos) (L2.tTest (tOp r ta tb))):=⟨zajc ho ha.out hb.out hm⟩
theorem zff:Bx (PE X (qz.Constant (Const.str x) j pos) (tC (V.str x))):=⟨zaxk⟩
theorem zbr{X:Cx}{pos:qAu}(he:Bx (PE X e te))(hs:swapsWith e none pos.line X.env=Pure.pure false):Bx (PS X (Stmt.Expr e pos) (L2.tDrop te)):=⟨zyo he.out hs⟩
theorem zcg(h:Bx (PA X es t)):Bx (PE X (qz.Tuple es x1 pos) (tTup t)):=⟨zaxz h.out⟩
theorem zaee(h:Bx (PE X a t)):Bx (PE X (qz.BoolOp op [a] pos) t):=⟨zaxp h.out⟩
theorem zme{a b:qz}(ho:OpR X (PySem.compareOp op) r)(ha:Bx (PE X a ta))(hb:Bx (PE X b tb))(hm:behindInMarks op b=false):Bx (PE X (a.Compare [op] [b] pos) (tOp r ta tb)):=⟨zatv ho ha.out hb.out hm⟩
theorem zaia {X:Cx} {x:Str} {r:List V->Hp->VK->Prop} (hc:CallR X (Value.type T) r) (hg:Gl X x) (hm:X.mg x=none) (hv:PySem.bootBuiltins x=some (Value.type T)) (ha:Bx (PA X (e::es) t)) (hn:x≠qAA "__name__") (hdb:(x==qAA "__debug__")=false) (he:qAP (e::es) X.env=(false,eval e X.env)::qAP es X.env) (hpl:((backTo pos (qAP es X.env)).any λ(x:Bool×PySem.Sem Value)=>x.fst)=false):Bx (PE X ((qz.Name x p).Call (e::es) [] pos) (tCB r t)):=⟨zaji hc hg hm hv ha.out hn hdb he hpl⟩
theorem ztb{X:Cx}(hg:Gl X x)(hm:X.mg x=none)(hv:PySem.bootBuiltins x=some u)(r:L2.RelV v u)(hn:x≠qAA "__name__")(hd:(x==qAA "__debug__")=false):Bx (PE X (qz.Name x pos) (tC v)):=⟨zatp hg hm hv r hn hd⟩
theorem zavl(ha:Bx (PT X a tA)):Bx (PW X (qz.BoolOp BoolOp.Or [a] pos) tA):=⟨zaxm ha.out⟩
theorem zbaa {X:Cx} {a b:qz} {pos:qAu} {tA tB':TT} {rest:List qz} (ha:Bx (PT X a tA)) (hb:Bx (PW X (qz.BoolOp BoolOp.Or (b::rest) pos) tB')):Bx (PW X (qz.BoolOp BoolOp.Or (a::b::rest) pos) (L2.tOr tA tB')):=⟨zbbl ha.out hb.out⟩
theorem zbu(h:Bx (PE X e te)):Bx (PO X (some e) (tPart te)):=⟨zajl h.out⟩
theorem zft:Bx (PO X none L2.tNoPart):=⟨zajk⟩
theorem zce{X:Cx}{e:qz}{te:TE}{lo hi:Option qz}{tl th:TO}{pos p2:qAu}{r:V->Option Int->Option Int->Hp->VK->Prop}(hr:SlR X r)(he:Bx (PE X e te))(hl:Bx (PO X lo tl))(hu:Bx (PO X hi th)):Bx (PE X (e.Subscript (qz.Slice lo hi none p2) pos) (L2.tSl r te tl th)):=⟨zafg hr he.out hl.out hu.out⟩
theorem zdg {X:Cx} {scope:Scope} {N' own:List Str} {fr:List Nat} {elt target iter:qz} {ifs:List qz} {cpos:qAu} {wi:TI} {g:TG} {tt:TT} {te:TE} (c:CompOk X scope N' own fr) (hc:X.calm=true) (hi:Bx (PI X target iter wi)) (hb:(∀(cl:List (Str×Addr))(C:Addr)(s:Shared)(H:Hp)(fp:List Addr),PG (cxComp X scope N' own cl C s H fp) target g/\PF (cxComp X scope N' own cl C s H fp) ifs tt/\PE (cxComp X scope N' own cl C s H fp) elt te)) (hs:(∀(x:Value),foldedSetIterable iter X.env x=Pure.pure x)):Bx (PE X (elt.ListComp [{target:=target,iter:=iter,ifs:=ifs,is_async:=0}] scope cpos) (L2.tComp1 wi g tt te own fr)):=⟨zaow c hc hi.out hb hs⟩
theorem zdb {X:Cx} {K:qB} (hK:X.K=K) {T:String} {name:Str} {id:String} {r:V->List V->Hp->VK->Prop} {o e:qz} {es:List qz} {to:TE} {t:TA} {apos cpos:qAu} (pa:PySem.PlainAttrs T) (slot:PySem.Slot T name id) (hty:PySem.typeOf (Value.builtin id)=Pure.pure (Value.type "method_descriptor")) (hm:MtR X id r) (ho:Bx (PE X o to)) (ha:Bx (PA X (e::es) t)) (hbase:PySem.attributeBase o name X.env (eval o X.env)=eval o X.env) (hfew:((((backTo cpos (qAP (e::es) X.env)).all λ(x:Bool×PySem.Sem Value)=>!x.fst)&&(PySem.backToKw cpos (PySem.keywordEach [] X.env)).all λ(x:Option Str×PySem.Sem Value)=>x.fst.isSome)&&Decidable.decide (((e::es).length+([]:List Keyword).length+if([]:List Keyword).isEmpty=true then 0 else 1)<30))=true) (hline:(apos.endLine==cpos.line)=true) (hs:qAP (e::es) X.env=(false,eval e X.env)::qAP es X.env) (hplain:((backTo cpos (qAP es X.env)).any λ(x:Bool×PySem.Sem Value)=>x.fst)=false):Bx (PE X ((o.Attribute name apos).Call (e::es) [] cpos) (L2.tBM K T r to t)):=⟨zake hK pa slot hty hm ho.out ha.out hbase hfew hline hs hplain⟩
theorem zaef {X:Cx} {a b:qz} {ta tb:TE} {pos:qAu} {rest:List qz} (ha:Bx (PE X a ta)) (hb:Bx (PE X (qz.BoolOp BoolOp.And (b::rest) pos) tb)):Bx (PE X (qz.BoolOp BoolOp.And (a::b::rest) pos) (L2.tAndV ta tb)):=⟨zaxq ha.out hb.out⟩
theorem zaqe:Bx (PPs X pos [] [] []):=⟨zaug⟩
theorem zalp(hk:Bx (PE X k tk))(hv:Bx (PE X v tv))(hr:Bx (PPs X pos ks vs trs)):Bx (PPs X pos (some k::ks) (v::vs) ((tk,tv)::trs)):=⟨zaos hk.out hv.out hr.out⟩
theorem zbc{X:Cx}{K:qB}(hK:X.K=K){tg l:qz}{tl:TE}(hl:Bx (PE X l tl)):Bx (PI X tg l (L2.iSeq K tl)):=⟨zauy hK hl.out⟩
theorem zmf{X:Cx}(hg:Gl X (qAA "range"))(hm:X.mg (qAA "range")=none)(ha:Bx (PA X [a] ta))(hs:qAP [a] X.env=[(false,eval a X.env)]):Bx (PI X tg ((qz.Name (qAA "range") p).Call [a] [] pos) (L2.iRng1 ta)):=⟨zaah hg hm ha.out hs⟩
theorem zex:Bx (PF X [] L2.tAll):=⟨zayn⟩
theorem zaeg:Bx (PE X (qz.Constant Const.none j pos) (tC V.non)):=⟨zaxj⟩
theorem zug:Bx (PE X (qz.Dict [] [] pos) L2.tDNewK):=⟨zaor⟩
theorem zaqf{keys:List (Option qz)}{values:List qz}(h:Bx (PPs X pos keys values trs))(hall:(keys.all λ(x:Option qz)=>x.isSome)=true)(hl:keys.length=values.length)(h0:keys≠[])(h15:keys.length<=15):Bx (PE X (qz.Dict keys values pos) (L2.tDisp trs)):=⟨zauh h.out hall hl h0 h15⟩
theorem zuh(h:Bx (PT X c t)):Bx (PF X [c] t):=⟨zayo h.out⟩
theorem zmg{X:Cx}{o i:qz}(hu:X.A.units+1<PySem.cLine)(ho:Bx (PE X o td))(hi:Bx (PE X i ty))(hs:L2.NoSl i):Bx (PE X (o.Subscript i pos) (L2.tDGet td ty)):=⟨zaue hu ho.out hi.out hs⟩
theorem zaqg(ha:Bx (PT X a tA)):Bx (PW X (qz.BoolOp BoolOp.And [a] pos) tA):=⟨zatq ha.out⟩
theorem zavm {X:Cx} {a b:qz} {pos:qAu} {tA tB':TT} {rest:List qz} (ha:Bx (PT X a tA)) (hb:Bx (PW X (qz.BoolOp BoolOp.And (b::rest) pos) tB')):Bx (PW X (qz.BoolOp BoolOp.And (a::b::rest) pos) (L2.tAnd tA tB')):=⟨zaxn ha.out hb.out⟩
theorem zabl{X:Cx}{st:Stmt}:Bx (PS X st L2.tNever):=⟨zaog⟩
theorem zafz{X:Cx}{o i value:qz}{pos pos':qAu}(hu:X.A.units+1<PySem.cLine)(ho:Bx (PE X o td))(hi:Bx (PE X i ty))(hv:Bx (PE X value tv))(hs:swapsWith value (some (o.Subscript i pos')) pos.line X.env=Pure.pure false):Bx (PS X (Stmt.Assign [o.Subscript i pos'] value pos) (L2.sDPut td ty tv)):=⟨zauf hu ho.out hi.out hv.out hs⟩
theorem zox {X:Cx} {scope:Scope} {N' own:List Str} {fr:List Nat} {elt target iter:qz} {ifs:List qz} {cpos:qAu} {wi:TI} {g:TG} {tt:TT} {te:TE} {spos py:qAu} {i:Nat} {y:Str} (c:CompOk X scope N' own fr) (hc:X.calm=true) (hi:Bx (PI X target iter wi)) (hb:(∀(cl:List (Str×Addr))(C:Addr)(s:Shared)(H:Hp)(fp:List Addr),PG (cxComp X scope N' own cl C s H fp) target g/\PF (cxComp X scope N' own cl C s H fp) ifs tt/\PE (cxComp X scope N' own cl C s H fp) elt te)) (hsw:swapsWith (elt.ListComp [{target:=target,iter:=iter,ifs:=ifs,is_async:=0}] scope cpos) (some (qz.Name y py)) spos.line X.env=Pure.pure true) (hN:X.N.Nodup) (hy:X.N[i]?=some y) (hl:List.lookup y X.env.scope.names=some PySem.NameKind.local) (hs:(∀(x:Value),foldedSetIterable iter X.env x=Pure.pure x)):Bx (PS X (Stmt.Assign [qz.Name y py] (elt.ListComp [{target:=target,iter:=iter,ifs:=ifs,is_async:=0}] scope cpos) spos) (L2.tAsgC1 wi g tt te own fr i)):=⟨zaox c hc hi.out hb hsw hN hy hl hs⟩
theorem zalq {X:Cx} {pos:qAu} (he:Bx (PE X e te)) (hg:Bx (PG X tg g)) (hs:PySem.swapsWithSole [tg] e pos.line X.env=Pure.pure false) (hw:PySem.swappedStores [tg] e X.env=Pure.pure none) (h1:List.map (λ(x:Bool×(Value->PySem.Sem Unit))=>x.snd) (assignEach [tg] X.env)=[assign tg X.env]):Bx (PS X (Stmt.Assign [tg] e pos) (tAsg te g)):=⟨zaru he.out hg.out hs hw h1⟩
theorem zalr {X:Cx} {K:qB} (hK:X.K=K) {a b:qz} {ta:TA} {p pos:qAu} {elts:List qz} {x1:Nat} {tpos:qAu} (hg:Gl X (qAA "zip")) (hm:X.mg (qAA "zip")=none) (ha:Bx (PA X [a,b] ta)) (hs:qAP [a,b] X.env=(false,eval a X.env)::qAP [b] X.env) (hs2:((backTo pos (qAP [b] X.env)).any λ(x:Bool×PySem.Sem Value)=>x.fst)=false):Bx (PI X (qz.Tuple elts x1 tpos) ((qz.Name (qAA "zip") p).Call [a,b] [] pos) (L2.iZip K ta)):=⟨zazv hK hg hm ha.out hs hs2⟩
theorem zui{X:Cx}{K:qB}(hK:X.K=K){a:qz}{ta:TA}{p pos:qAu}{elts:List qz}{x1:Nat}{tpos:qAu}(hg:Gl X (qAA "enumerate"))(hm:X.mg (qAA "enumerate")=none)(ha:Bx (PA X [a] ta))(hs:qAP [a] X.env=[(false,eval a X.env)]):Bx (PI X (qz.Tuple elts x1 tpos) ((qz.Name (qAA "enumerate") p).Call [a] [] pos) (L2.iEnumX K ta)):=⟨zaqa hK hg hm ha.out hs⟩
theorem zdm:Bx (PGs X [] L2.gNil):=⟨zats⟩
theorem zav {X:Cx} (h1:Bx (PG X e t)) (h2:Bx (PGs X es u)) (hs:List.map (λ(x:Bool×(Value->PySem.Sem Unit))=>x.snd) (assignEach (e::es) X.env)=assign e X.env::List.map (λ(x:Bool×(Value->PySem.Sem Unit))=>x.snd) (assignEach es X.env)):Bx (PGs X (e::es) (L2.gCons t u)):=⟨zaoh h1.out h2.out hs⟩
theorem zdn {X:Cx} {K:qB} (hK:X.K=K) {es:List qz} {k:Nat} {t:TGs} {n:Nat} {pos:qAu} (hc:X.calm=true) (h:Bx (PGs X es t)) (hn:(assignEach es X.env).length=n) (hst:List.findIdx? (λ(x:Bool×(Value->PySem.Sem Unit))=>x.fst) (assignEach es X.env)=none):Bx (PG X (qz.Tuple es k pos) (L2.gTup K n t)):=⟨zaul hK hc h.out hn hst⟩
theorem zaga{r:V->Hp->VK->Prop}(ho:L2.UnR X (PySem.unaryOp op) r)(ha:Bx (PE X a ta)):Bx (PE X (qz.UnaryOp op a pos) (L2.tUn r ta)):=⟨zbbm ho ha.out⟩
theorem zals {X:Cx} {scope:Scope} {N' own:List Str} {fr:List Nat} {elt target iter target2 iter2:qz} {ifs ifs2:List qz} {cpos:qAu} {wi wi2:TI} {g g2:TG} {tt tt2:TT} {te:TE} (c:CompOk X scope N' own fr) (hc:X.calm=true) (hi:Bx (PI X target iter wi)) (hb:(∀(cl:List (Str×Addr))(C:Addr)(s:Shared)(H:Hp)(fp:List Addr),PG (cxComp X scope N' own cl C s H fp) target g/\PF (cxComp X scope N' own cl C s H fp) ifs tt/\PI (cxComp X scope N' own cl C s H fp) target2 iter2 wi2/\PG (cxComp X scope N' own cl C s H fp) target2 g2/\PF (cxComp X scope N' own cl C s H fp) ifs2 tt2/\PE (cxComp X scope N' own cl C s H fp) elt te)) (hs:(∀(x:Value),foldedSetIterable iter X.env x=Pure.pure x)) (hs2:(∀(env:PySem.Env)(x:Value),foldedSetIterable iter2 env x=Pure.pure x)):Bx (PE X (elt.ListComp [{target:=target,iter:=iter,ifs:=ifs,is_async:=0},{target:=target2,iter:=iter2,ifs:=ifs2,is_async:=0}] scope cpos) (L2.tComp2 wi g tt wi2 g2 tt2 te own fr)):=⟨zapr c hc hi.out hb hs hs2⟩
theorem zalt{X:Cx}(hu:X.A.units+1<PySem.cLine)(hi:Bx (PE X i ty))(ho:Bx (PE X o td)):Bx (PC X CmpOp.In i o (L2.tDIn ty td)):=⟨zaym hu hi.out ho.out⟩
theorem zalu{a b:qz}(h:Bx (PC X op a b t))(h1:behindInMarks op b=false):Bx (PE X (a.Compare [op] [b] pos) t):=⟨zaxl h.out h1⟩
theorem bv{X:Cx}(i:Nat)(hN:X.N[i]?=some x:=by rfl)(hv:visB X.env.scope x=true:=by rfl)(hd:(x==("__debug__":Str))=false:=by decide)
  (hcd:(x==("__classdict__":Str))=false:=by decide):Bx (PE X (.Name x pos) (tVar i)):=⟨zafc hN (visB.of hv) hd hcd⟩
theorem zoy{X:Cx}{pos pos':Pos}(ho:Bx (PE X o (tVar i)))(hk:Bx (PE X k tk))(hv:Bx (PE X e tv))
  (ha:∀v,assign (.Subscript o k pos') X.env v=(do
   let ov <- holding [v] (eval o X.env)
   let iv <- holding [v,ov] (eval k X.env)
   standAt pos'
   holding [v,ov,iv] (setItem ov iv v)
   release [v,ov,iv] []))
  (hs:swapsWithSole [.Subscript o k pos'] e pos.line X.env=pure false)(hw:swappedStores [.Subscript o k pos'] e X.env=pure none)(h1:(assignEach [.Subscript o k pos'] X.env).map (·.2)=[assign (.Subscript o k pos') X.env]) :
  Bx (PS X (.Assign [.Subscript o k pos'] e pos) (tAsg tv (gSub (tVar i) tk zaua))):=⟨zaru hv.out (zaxt ho.out hk.out zaom ha) hs hw h1⟩
def SatK(fx:Addr->Prop)(H0:Hp)(J:Nat->Prop)(σ0:St)(D:Ends):Out->Prop
 | .nx env=>∀σ H,EnvOk fx H0 env σ H->(∀j,J j->σ[j]?=σ0[j]?)->D.nx σ H
 | .bk env=>∀σ H,EnvOk fx H0 env σ H->(∀j,J j->σ[j]?=σ0[j]?)->D.bk σ H
 | .ct env=>∀σ H,EnvOk fx H0 env σ H->(∀j,J j->σ[j]?=σ0[j]?)->D.ct σ H
 | .rt d fr=>∀v H,Same H0 H->zady fx H0 d fr v H->D.rt v H
theorem SatK.move{fx:Addr->Prop}{J:Nat->Prop}(h:SatK fx H0 J σ0 D o)(e:∀j,J j->σ1[j]?=σ0[j]?):SatK fx H0 J σ1 D o:=by
 cases o with
 | nx env=>exact λσ H hE k=>h σ H hE λj hj=>(k j hj).trans (e j hj)
 | bk env=>exact λσ H hE k=>h σ H hE λj hj=>(k j hj).trans (e j hj)
 | ct env=>exact λσ H hE k=>h σ H hE λj hj=>(k j hj).trans (e j hj)
 | rt d fr=>exact h
def SSk(J:Nat->Prop)(ts:TS)(F:SF):Prop:=∀(fx:Addr->Prop)(H0:Hp)(env:DEnv)(σ:St)(H:Hp)(D:Ends),EnvOk fx H0 env σ H->∀o,F env=some o->SatK fx H0 J σ D o->ts D σ H
section
variable{J:Nat->Prop}
theorem zavn(h1:SE te f)(hJ:¬J i):SSk J (tAsg te (gName i)) (sSet i f):=by
 intro fx H0 env σ H D h o e q
 unfold sSet at e
 obtain⟨r,er,rfl⟩:=qG.mp e
 exact h1 fx H0 env σ H h r er _ λv H' s hv=>q _ H' (h.put s hv i) λj hj=>qa λz=>hJ (by rw[z];exact hj)
end
end L2
namespace HT
open PySem PySem.Spec PyProof.Rows L2
section
variable{prog:Program}{w:World}{A:Around}{E:Value->Shared->Prop}{s:Shared}
theorem getItem_tuple_whole{t sl:Addr}{items:Array Value}{vl vu:Value}{lo hi:Option Int}{Q:Value->Shared->Prop}(ht:IsTup s.heap t items)(hs:s.heap.IsSliceOf sl vl vu .none)(pl:IsPart vl lo)(pu:IsPart vu hi)
  (hw:sIx items.size 0 lo=0/\sIx items.size items.size hi=items.size) (h:Q (.ref t) s):wpAny (model prog w) A (getItem (.ref t) (.ref sl)) Q E s:=by
 obtain⟨os,hos,hcs,hds⟩:=id hs
 have hTs:s.TypeIs (.ref sl) "slice":=⟨os,hos,hcs⟩
 unfold getItem
 try with_reducible refine qBp ?_
 first|refine qD (qI ?_)|skip
 refine qD (wpAny_sequenceKey ht.typeIs (by decide) ?_)
 refine qD (qAr (name:=Str.ofString "__getitem__") ht.typeIs qAY
  (qBN qAY ht.typeIs entry_tuple_getitem ?_ (args_tuple_getitem _ _)))
 show wpAny _ _ (Builtin.Tuple.tupleItemsOf (.ref t) >>=_) _ _ s
 refine qD (tupleItemsOf_ ht ?_)
 refine qD (qCw hTs ?_)
 rw[if_pos (by decide)]
 refine qD (zjp hs pl pu ?_)
 have hyes:(((sIx items.size 0 lo:Nat):Int)==0&&(1:Int)==1&&(sIx items.size items.size hi - sIx items.size 0 lo)==items.size)=true:=by
  rw[hw.1,hw.2];simp
 show wpAny _ _ (if(((sIx items.size 0 lo:Nat):Int)==0&&(1:Int)==1&&(sIx items.size items.size hi - sIx items.size 0 lo)==items.size)=true then _ else _) _ _ s
 rw[if_pos hyes]
 unfold Builtin.Tuple.tupleIsExact
 refine qD (qD (qCw ht.typeIs (qI ?_)))
 rw[if_pos (by decide)]
 refine qD (qCq ?_)
 first
  | exact qI ⟨_,rfl,qI h⟩
  | exact qD (qI (qI ⟨_,rfl,qI h⟩))
  | exact qD (qI (qD (qI (qI ⟨_,rfl,qI h⟩))))
end
end HT
namespace L2
open PySem PySem.Spec PyProof.Rows
def rSlW(K:qB):V->Option Int->Option Int->Hp->VK->Prop:=λx lo hi H Q=>∃a xs,x=.ref a/\SqT K H a xs/\
 ((HT.sIx xs.length 0 lo=0/\HT.sIx xs.length xs.length hi=xs.length)->Q (.ref a) H)/\(¬(HT.sIx xs.length 0 lo=0/\HT.sIx xs.length xs.length hi=xs.length)->∀p,H p=none->Q (.ref p) (upd H p (.tup (cutV xs lo hi))))
theorem sl_W{X:Cx}{K:qB}(hK:X.K=K):SlR X (rSlW K):=by
 subst hK
 intro pins s σ H x v vl vu lo hi sl Q I rx hs pl pu h
 obtain⟨a,xs,rfl,hx,q1,q2⟩:=h
 by_cases hw:HT.sIx xs.length 0 lo=0/\HT.sIx xs.length xs.length hi=xs.length
 ·cases rx
  obtain⟨its,r,ht,hz⟩:=I.tuple hx
  have hlen:its.toArray.size=xs.length:=by rw[qM];exact r.length.symm
  refine⟨"tuple",_,qAY.lookup,ht.typeIs,?_⟩
  exact HT.getItem_tuple_whole ht hs pl pu (by rw[hlen];exact hw) ⟨.ref a,H,I,rfl,q1 hw⟩
 ·exact zayc pins s σ H _ v vl vu lo hi sl Q I rx hs pl pu ⟨a,xs,rfl,hx,hw,q2 hw⟩
def eSlT(a:EF)(l h:PF'):EF:=λenv=>(a env).bind λx=>(l env).bind λlo=>(h env).bind λhi=>match x.d with
 | .tuple ds=>some ⟨.tuple (cutD ds lo hi),false,x.bs⟩
 | _=>none
theorem zbab{K:qB}{te:TE}{tl th:TO}{f:EF}{fl fh:PF'}(h1:SE te f)(h2:SPt tl fl)(h3:SPt th fh):SE (tSl (rSlW K) te tl th) (eSlT f fl fh):=by
 intro fx H0 env σ H h rr hr Q q
 unfold eSlT at hr
 obtain⟨⟨d,frd,bs⟩,ex,hr⟩:=qA.mp hr
 obtain⟨lo,el,hr⟩:=qA.mp hr
 obtain⟨hi,eh,hr⟩:=qA.mp hr
 cases d with
 | tuple ds=>
  cases hr
  refine h1 fx H0 env σ H h _ ex _ λv H1 s1 v1=>h2 fx H0 env σ H1 (h.up s1) _ el _ λH2 s2=>h3 fx H0 env σ H2 (h.up (s1.trans s2)) _ eh _ λH3 s3=>?_
  have v3:=(v1.later (Same.refl _) (s2.trans s3) λ_ z=>z).rp
  have t3:=(s1.trans s2).trans s3
  obtain⟨p,xs,rfl,hp,r⟩:=zdx v3
  refine⟨p,xs,rfl,SqT.of (zdv hp),λhw=>q _ _ t3 ⟨?_,λz=>by cases z⟩,λ_ l hl=>q _ _ (t3.trans (Same.new hl)) ⟨?_,λz=>by cases z⟩⟩
  ·have e:cutD ds lo hi=ds:=by
    unfold cutD
    rw[r.length,hw.1,hw.2,List.drop_zero,Nat.sub_zero,qBm (by rw[r.length];exact qL _)]
   show Rp _ (.tuple (cutD ds lo hi)) _
   rw[e]
   exact v3
  ·have hA:=(h.up t3).lims bs
   exact znl hl (zev hA hl) (r.cut lo hi)
 | _=>cases hr
end L2
namespace PySem
open Sem (wp)
end PySem
namespace L2
open PySem PySem.Spec PyProof.Rows
end L2
namespace PySem
open Sem (wp)
end PySem
namespace L2
open PySem PySem.Spec PyProof.Rows
theorem zaqh(t b:Addr)(items items2:Array Value)(n n2:Nat)(dd dd2:Option Addr)(sl sl2:Array (Option Value))(hc0:items.isEmpty=true) :
  Meets (Builtin.«tuple.__add__» ⟨[.ref t,.ref b],[]⟩) (λ_ R s=>s.heap.get? t=some {cls:=.type "tuple",dict:=dd,data:=.seq items n,slots:=sl}/\s.heap.get? b=some {cls:=.type "tuple",dict:=dd2,data:=.seq items2 n2,slots:=sl2}/\R (.ok (.ret (.ref b))) s):=
 .of_wp λprog w A R s h=>by
  obtain⟨hp,g,d,tk,os⟩:=s;obtain⟨hl,hb,h⟩:=h
  have f2:=sub_tuple_tuple
  wp_walk using qBo hl,qBo hb
  exact⟨_,rfl,h⟩
def zbac(K:qB):R2:=λx y H Q=>zakb K x y H Q\/∃a b ys,x=.ref a/\y=.ref b/\SqT K H a []/\SqT K H b ys/\Q y H
theorem zalv{X:Cx}{K:qB}(hK:X.K=K):OpR X (binaryOp .Add) (zbac K):=by
 subst hK
 intro pins s σ H x y v u Q I rx ry h
 rcases h with h|⟨a,b,ys,rfl,rfl,ha,hb,q⟩
 ·exact zakc pins s σ H x y v u Q I rx ry h
 ·cases rx
  cases ry
  obtain⟨its,r1,p1,_⟩:=I.tuple ha
  obtain⟨its2,r2,p2,_⟩:=I.tuple hb
  cases r1
  obtain⟨⟨cls,dd,data,sl⟩,ho,hc,n,hd⟩:=id p1
  obtain⟨⟨cls2,dd2,data2,sl2⟩,ho2,hc2,n2,hd2⟩:=id p2
  simp only at hc hd hc2 hd2
  subst hc hd hc2 hd2
  exact concat_meets ⟨_,ho,rfl⟩ ⟨_,ho2,rfl⟩ qC4 seq_tuple_add qB9 qB6 (qB1 _ _)
   (zaqh a b _ its2.toArray n n2 dd dd2 sl sl2 (by rfl)) ⟨ho,ho2,⟨.ref b,H,I,rfl,q⟩⟩
def addE:OF
 | .tuple [],.tuple ys=>some (.tuple ys,false)
 | x,y=>addD x y
theorem zalw{K:qB}:SO (zbac K) addE:=by
 intro A H x y dx dy hA rx ry d fr e Q q
 unfold addE at e
 split at e
 ·cases e
  obtain⟨a,xs,rfl,ha,r⟩:=zdx rx
  obtain⟨b,ys',rfl,hb,r'⟩:=zdx ry
  have:xs=[]:=by unfold Rps at r;exact r
  subst this
  exact .inr ⟨a,b,_,rfl,rfl,SqT.of (zdv ha),SqT.of (zdv hb),q _ H (Same.refl _) ry λz=>by cases z⟩
 ·exact .inl (zakn A H x y dx dy hA rx ry d fr e Q q)
def DnX(P:Program)(w:World)(K:qB)(mg:Str->Option Value)(base:Heap)(x:Str)(ps:List Str)(k:Nat)(sp:Sp):Prop:=
 ∃f fd,FnOk P w K mg base (CXE P w) k f fd ps sp/\mg x=some (.ref f)/\qAx K (.ref f)=true/\ziy K fd ps []
section
variable{X:Cx}
theorem zgs(D:DnX X.prog X.w X.K X.mg X.base x ps k sp)(hx:zxc (CXE X.prog X.w) X E)(hr:Room k X.A)(hg:Gl X x)(ha:Bx (PA X (e::es) t))
  (hdb:(x==("__debug__":Str))=false)(he:starEach (e::es) X.env=(false,eval e X.env)::starEach es X.env)(hpl:(backTo pos (starEach es X.env)).any (·.1)=false) :
  Bx (PE X (.Call (.Name x p) (e::es) [] pos) (tCall sp [] E t)):=by
 obtain⟨f,fd,F,hm,hk,hb⟩:=D
 exact⟨zajh F hr hg hm hk hb .nil hx ha.out hdb he hpl⟩
def XcOk(P:Program)(w:World)(K:qB)(mg:Str->Option Value)(base:Heap)(x:Str)(C:Addr):Prop:=
 ∃f fd,XMk K C f/\FnOk P w K mg base CX0 1 f fd ["self","at"] (spI C)/\ziy K fd ["self","at"] []/\mg x=some (.ref C)/\findIn K (.ref C) "__class__"=some (some (.builtin "object.__class__"))/\exmOne K (.ref C) (.ref C)=some true
theorem zabm(M:XcOk X.prog X.w X.K X.mg X.base x C)(hr:Room 2 X.A)(hex:X.ex=[])(hc:X.calm=true)(hx:Lvs X E)(hg:Gl X x)(ha:Bx (PE X a te))
  (hdb:(x==("__debug__":Str))=false) (he:starEach [a] X.env=[(false,eval a X.env)]):Bx (PS X (.Raise (some (.Call (.Name x np) [a] [] cpos)) none pos) (zakk C E te)):=by
 obtain⟨f,fd,M,F,hb,hm,_⟩:=M
 exact⟨zapd M F hr hb hex hc hx hg hm ha.out hdb he⟩
end
theorem zass{P:Program}{w:World}{K:qB}{mg:Str->Option Value}{base:Heap}{N:List Str}{qual:Str}{scope:Scope}{f:Addr}{cd:Value}{A:Around}{outer:List Env}{s:Shared}{H:Hp}{E:XK}(h0k:HOk P w H s.heap) :
  Lvs (cxOf (CXE P w) P w K mg base N qual scope f cd A outer s H E) (StX H E):=λpins σ H1 s1 e C dx I F q=>zasb I h0k F q
def zaib(i n:Nat)(g:GFX)(f:AF):SFX:=λenv=>(f env).bind λrs=>if rs.length=n then(g (zds rs)).map λr=>match r with
 | .ok d fr=>.ok (.nx (putV env i ⟨d,fr,bsOf d (bss rs)⟩))
 | .rx c d=>.rx c d else none
theorem zzf{cl:Str->Addr}(ha:SA ta f):SSx cl (λE=>tAsg (tCall (spX cl n g) [] E ta) (gName i)) (zaib i n g f):=by
 intro fx H0 env σ H D E h o e q
 obtain⟨rs,er,e⟩:=qA.mp e
 split at e
 ·rename_i hn
  obtain⟨r,ez,rfl⟩:=qG.mp e
  refine ha fx H0 env σ H h rs er _ λvs H1 s1 v1=>?_
  rw[qw]
  refine⟨lim fx env σ (bss rs),zds rs,r,by rw[zez];exact hn,(h.up s1).lims _,zfd (λi hi=>hi) v1,ez,?_⟩
  cases r with
  | rx c d=>exact λk od H3 r=>q k od H3 (r.base (h.base.trans s1))
  | ok d fr=>
   intro w H3 s3 rt
   obtain⟨rp,fr3⟩:=rt
   refine q _ H3 (h.put (s1.trans s3) (r:=⟨d,fr,bsOf d (bss rs)⟩) ⟨ztv rp,λe=>?_⟩ i)
   obtain⟨a,g1,g2,g3⟩:=fr3 e
   refine⟨a,g1,s1.free g2,?_⟩
   have nf:zfo d=false:=by cases d<;>first|rfl|exact g3.elim
   show zhz (Offs (λb=>lim fx env σ (bsOf d (bss rs)) b\/b=a) H3) H3 a d
   rw[show bsOf d (bss rs)=bss rs by unfold bsOf;rw[if_neg (by rw[nf];decide)]]
   exact g3
 ·cases e
structure ErrAt(H:Hp)(e C dx:Addr)(d:PyData):Prop where
 ex:∃tv,H e=some (.ext (xeD e C dx tv))
 at_:∃v,H dx=some (.xd [("at",v)])/\∀H',Rp H' d v
theorem ErrAt.up(h:ErrAt H e C dx d)(s:Same H H'):ErrAt H' e C dx d:=
 ⟨let⟨tv,z⟩:=h.ex;⟨tv,s _ _ z⟩,let⟨v,z,r⟩:=h.at_;⟨v,s _ _ z,r⟩⟩
def SEe(j:Nat)(C:Addr)(d:PyData)(te:TE)(f:EF):Prop:=∀(fx:Addr->Prop)(H0:Hp)(env:DEnv)(σ:St)(H:Hp)(e dx:Addr),EnvOk fx H0 env σ H->σ[j]?=some (some (.ref e))->ErrAt H e C dx d->∀r,f env=some r->∀Q:VK,(∀v H',Same H H'->ValOk (lim fx env σ r.bs) H H' r v->Q v H')->te σ H Q
def SAe(j:Nat)(C:Addr)(d:PyData)(ta:TA)(f:AF):Prop:=∀(fx:Addr->Prop)(H0:Hp)(env:DEnv)(σ:St)(H:Hp)(e dx:Addr),EnvOk fx H0 env σ H->σ[j]?=some (some (.ref e))->ErrAt H e C dx d->∀rs,f env=some rs->∀Q:List V->Hp->Prop,
 (∀vs H',Same H H'->Paired (λr v=>ValOk (lim fx env σ r.bs) H H' r v) rs vs->Q vs H')->ta σ H Q
def SSe(j:Nat)(C:Addr)(d:PyData)(ts:TS)(F:SF):Prop:=∀(fx:Addr->Prop)(H0:Hp)(env:DEnv)(σ:St)(H:Hp)(D:Ends)(e dx:Addr),EnvOk fx H0 env σ H->σ[j]?=some (some (.ref e))->ErrAt H0 e C dx d->∀o,F env=some o->SatK fx H0 (λk=>k=j) σ D o->ts D σ H
section
variable{j:Nat}{C:Addr}{d:PyData}
theorem zbad(h:SE te f):SEe j C d te f:=λfx H0 env σ H e dx hE _ _=>h fx H0 env σ H hE
theorem zbae(h:SA ta f):SAe j C d ta f:=λfx H0 env σ H e dx hE _ _=>h fx H0 env σ H hE
theorem zbaf:SEe j C d (tXat C (tVar j)) (eC d):=by
 intro fx H0 env σ H e dx h hj he r hr Q q
 cases hr
 obtain⟨tv,he1⟩:=he.ex
 obtain⟨v,hd,rv⟩:=he.at_
 exact⟨_,hj,e,dx,tv,v,rfl,he1,hd,q v H (Same.refl _) ⟨rv _,λz=>by cases z⟩⟩
theorem zalx{K:qB}{c:Addr}{b:Bool}(hk:kitOne K (.ref C) (.ref c)=some b):SEe j C d (tCB (rIsX K C) (tCons (tVar j) (tCons (tC (.ref c)) tNil))) (eC (.bool b)):=by
 intro fx H0 env σ H e dx h hj he r hr Q q
 cases hr
 obtain⟨tv,he1⟩:=he.ex
 exact⟨_,hj,e,dx,tv,b,he1,q _ H (Same.refl _) ⟨zbv,λz=>by cases z⟩,.inl ⟨c,rfl,hk⟩⟩
theorem zavo{K:qB}{n:String}{b:Bool}(hk:kitOne K (.ref C) (.type n)=some b):SEe j C d (tCB (rIsX K C) (tCons (tVar j) (tCons (tC (.ty n)) tNil))) (eC (.bool b)):=by
 intro fx H0 env σ H e dx h hj he r hr Q q
 cases hr
 obtain⟨tv,he1⟩:=he.ex
 exact⟨_,hj,e,dx,tv,b,he1,q _ H (Same.refl _) ⟨zbv,λz=>by cases z⟩,.inr (.inl ⟨n,rfl,hk⟩)⟩
theorem zavp:SAe j C d tNil aNil:=zbae zic
theorem zoz(h1:SEe j C d te f)(h2:SAe j C d ta g):SAe j C d (tCons te ta) (zaa f g):=by
 intro fx H0 env σ H e dx h hj he rs hr Q q
 unfold zaa at hr
 obtain⟨x,ex,hr⟩:=qA.mp hr
 obtain⟨xs,exs,rfl⟩:=qG.mp hr
 exact h1 fx H0 env σ H e dx h hj he x ex _ λv H1 s1 v1=>h2 fx H0 env σ H1 e dx (h.up s1) hj (he.up s1) xs exs _ λvs H2 s2 vs2=>q (v::vs) H2 (s1.trans s2)
  (.cons (v1.later (Same.refl _) s2 λ_ z=>z) (Paired.mapP vs2 λ_ _ z=>z.later s1 (Same.refl _) λ_ y=>y))
theorem zavq(ha:SAe j C d ta f):SEe j C d (tTup ta) (eTup f):=by
 intro fx H0 env σ H e dx h hj he rr hr Q q
 unfold eTup at hr
 obtain⟨rs,er,hr⟩:=qA.mp hr
 split at hr
 ·rename_i hl
  cases hr
  refine ha fx H0 env σ H e dx h hj he rs er _ λvs H1 s1 v1=>?_
  have r:=zfd (λi hi=>hi) v1
  have hA:=(h.up s1).lims (bss rs)
  refine⟨zgq (by rw[<- r.length,zez];exact hl),λp hp=>q _ _ (s1.trans (Same.new hp)) ⟨znl hp (zev hA hp) r,λz=>by cases z⟩⟩
 ·cases hr
theorem zaly(h1:SEe j C d te f)(hJ:¬i=j):SSe j C d (tAsg te (gName i)) (sSet i f):=by
 intro fx H0 env σ H D e dx h hj he o er q
 unfold sSet at er
 obtain⟨r,er',rfl⟩:=qG.mp er
 exact h1 fx H0 env σ H e dx h hj (he.up h.base) r er' _ λv H' s hv=>q _ H' (h.put s hv i) λk hk=>qa λz=>hJ (by rw[z];exact hk)
theorem zavr(h1:SSe j C d t f)(h2:SSe j C d u g):SSe j C d (tSeq t u) (sSeq f g):=by
 intro fx H0 env σ H D e dx h hj he o er q
 unfold sSeq at er
 obtain⟨o1,e1,er⟩:=qA.mp er
 refine h1 fx H0 env σ H _ e dx h hj he o1 e1 ?_
 cases o1 with
 | nx env'=>exact λσ' H' h' k=>h2 fx H0 env' σ' H' D e dx h' ((k j rfl).trans hj) he o er (q.move k)
 | bk env'=>cases er;exact q
 | ct env'=>cases er;exact q
 | rt d fr=>cases er;exact q
end
def zbcx(CS:List Str)(i j:Nat)(w:Str)(n:Nat)(g:GFX)(f:AF)(hd:Str->PyData->SF):SF:=λenv=>(f env).bind λrs=>if rs.length=n then(g (zds rs)).bind λr=>match r with
 | .ok d fr=>some (.nx (putV env i ⟨.tuple [.str w,d],false,bss rs⟩))
 | .rx c d=>if c∈CS then(hd c d (env.set j .no)).bind λo=>match o with
  | .nx e=>some (.nx (e.set j .no))
  | _=>none else none else none
theorem EnvOk.setNo{fx:Addr->Prop}{env:DEnv}{σ:St}(h:EnvOk fx H0 env σ H)(i:Nat)(v:Option V):EnvOk fx H0 (env.set i .no) (σ.set i v) H:=by
 have oN:∀b,own (env.set i .no) (σ.set i v) b->own env σ b:=λb ⟨k,d,h1,h2⟩=>by
  rcases zcp h1 with⟨_,z⟩|⟨n,z⟩
  ·cases z
  ·exact⟨k,d,z,by rw[qa (λy=>n y.symm)]at h2;exact h2⟩
 refine⟨by rw[qd,qd];exact h.len,λk d e=>?_,λk d e=>?_,λk l d d' a e1 e2 z1 z2=>?_,h.base,h.fxs⟩
 ·rcases zcp e with⟨_,z⟩|⟨n,z⟩
  ·cases z
  ·obtain⟨u,g1,g2⟩:=h.pl k d z
   exact⟨u,by rw[qa (λy=>n y.symm)];exact g1,Rp.same (Offs.sub λb y=>y.imp id (oN b)) _ g2⟩
 ·rcases zcp e with⟨_,z⟩|⟨n,z⟩
  ·cases z
  ·obtain⟨a,g1,g2,g3,g4⟩:=h.ac k d z
   exact⟨a,by rw[qa (λy=>n y.symm)];exact g1,g2,g3,g4.same (Offs.sub λb y=>y.imp id (oN b)) λo z=>z⟩
 ·rcases zcp e1 with⟨_,z⟩|⟨n1,y1⟩
  ·cases z
  ·rcases zcp e2 with⟨_,z⟩|⟨n2,y2⟩
   ·cases z
   ·rw[qa (λy=>n1 y.symm)]at z1
    rw[qa (λy=>n2 y.symm)]at z2
    exact h.inj k l d d' a y1 y2 z1 z2
theorem zbag{cl:Str->Addr}{CS:List Str}{fx:Addr->Prop}{H0:Hp}{env:DEnv}{σ:St}{H1:Hp}{D:Ends}{j:Nat}{hd:Str->PyData->SF}{ts:Addr->TS}{c:Str}{d:PyData}{o:Out}
  (h1:EnvOk fx H0 env σ H1) (hj:j<env.length) (hc:c∈CS) (hs:∀c∈CS,∀d,SSe j (cl c) d (ts (cl c)) (hd c d)) (e:((hd c d (env.set j .no)).bind λo=>match o with|.nx e=>some (Out.nx (e.set j .no))|_=>none)=some o) (q:Sat fx H0 D o) :
  ∀k od H',RX H1 (cl c) d k od H'->tErr (λC=>∃c∈CS,C=cl c) ts j D σ H1 k od H':=by
 rintro k od H2 ⟨rfl,s2,fl,dx,v,rfl,hdx,rp⟩
 obtain⟨o1,e1,e⟩:=qA.mp e
 refine⟨cl c,dx,rfl,⟨c,hc,rfl⟩,rfl,λea H3 q1 q2 ⟨tv,hea⟩=>?_⟩
 have s3:Same H1 H3:=λb o z=>q1 b o z (s2 b o z)
 have hd3:H3 dx=some (.xd [("at",v)]):=q2 _ _ hdx (λφ z=>by cases z)
 have h3:EnvOk fx H0 (env.set j .no) (σ.set j (some (.ref ea))) H3:=(h1.up s3).setNo j _
 have noown:∀b u,H3 b=some u->(∀xs,u≠.lst xs)->(∀xs,u≠.dK xs)->¬own (env.set j .no) (σ.set j (some (.ref ea))) b:=λb u hb n1 n2 ⟨k,d',y1,y2⟩=>by
  obtain⟨a,g1,g2,g3,g4⟩:=h3.ac k d' y1
  rw[y2]at g1
  cases g1
  cases d' with
  | list ds=>obtain⟨ys,z1,_⟩:=g4;rw[hb]at z1;cases z1;exact n1 _ rfl
  | dict ds=>obtain⟨ys,z1,_⟩:=g4;rw[hb]at z1;cases z1;exact n2 _ rfl
  | _=>exact g4.elim
 refine hs c hc d fx _ _ _ H3 _ ea dx h3.rebase (qm (by rw[<- h1.len];exact hj)) ⟨⟨tv,by rw[Offs.get (noown _ _ hea (λ_ z=>by cases z) (λ_ z=>by cases z))];exact hea⟩,v,by rw[Offs.get (noown _ _ hd3 (λ_ z=>by cases z) (λ_ z=>by cases z))];exact hd3,λH'=>ztu fl rp⟩ o1 e1 ?_
 cases o1 with
 | nx e2=>
  cases e
  exact λσ' H' h' k=>q _ _ ((h'.unbase h3.floor).setNo j none)
 | bk e2=>cases e
 | ct e2=>cases e
 | rt d2 fr=>cases e
def xcB(C:Addr)(cd:ClassData)(sl:Array (Option Value)):Bool:=match cd.mro,sl.toList with
 | .ref C'::bm,[_,_,_,_,some (.builtin n),_]=>C'==C&&!cd.hasDel&&cd.hasDict&&n=="ValueError.__new__"&&bm.contains (.type "ValueError")&&bm.contains (.type "BaseException")&&!bm.contains (.type "AttributeError")&&!bm.contains (.type "NameError")&&zep bm
 | _,_=>false
theorem zbah{K:qB}(l:K.lookup C=some ⟨.type "type",dd,.cls cd,sl⟩)(h:xcB C cd sl=true):xcIn K C=true/\xcR K C=true:=by
 unfold xcB at h
 unfold xcIn xcR
 rw[l]
 split at h
 ·rename_i C' bm a0 a1 a2 a3 n a5 hm hs
  obtain⟨nm,bs,mro,ns,qn,hd,sn,sub,ab,col,del⟩:=cd
  obtain⟨sl⟩:=sl
  dsimp only at hm hs
  subst hm
  have hs:sl=[a0,a1,a2,a3,some (.builtin n),a5]:=hs
  subst hs
  rw[qo]at h
  exact h
 ·cases h
section
variable{K:qB}{C c:Addr}
theorem zzg(h1:isClsIn K c=true)(h2:typeIn K (.ref c)=some (.type "type"))(h3:subIn K (.ref C) (.ref c)=some b):kitCls K (.ref C) (.ref c)=some b:=by
 unfold kitCls
 dsimp only
 have h1:(PySem.W.clsIn K c).isSome=true:=h1
 rw[if_pos (by rw[h1,h2];rfl)]
 exact h3
theorem zast(h1:isClsIn K c=true)(h2:typeIn K (.ref c)=some (.type "type"))(h3:subIn K (.ref C) (.ref c)=some true):kitOne K (.ref C) (.ref c)=some true:=by
 unfold kitOne
 split
 ·rfl
 ·exact zzg h1 h2 h3
theorem zri(h0:subIn K (.ref C) (.ref C)=some true)(h1:isClsIn K c=true)(h2:typeIn K (.ref c)=some (.type "type"))(h3:subIn K (.ref C) (.ref c)=some false):kitOne K (.ref C) (.ref c)=some false:=by
 unfold kitOne
 split
 ·rename_i e
  have e:C=c:=Value.ref.inj (beq_iff_eq.mp e)
  rw[<- e,h0]at h3
  cases h3
 ·exact zzg h1 h2 h3
theorem zasu(h3:subIn K (.ref C) (.type "ValueError")=some true):kitOne K (.ref C) (.type "ValueError")=some true:=by
 unfold kitOne
 rw[if_neg (by intro e;cases beq_iff_eq.mp e)]
 unfold kitCls
 dsimp only
 rw[if_pos (show PySem.W.kitMeta "ValueError"=true by decide +kernel)]
 exact h3
theorem zasv(hb:subIn K (.ref C) (.type "BaseException")=some true)(h1:isClsIn K C=true)(h2:typeIn K (.ref C)=some (.type "type"))(h3:subIn K (.ref C) (.ref C)=some true):exmOne K (.ref C) (.ref C)=some true:=by
 unfold exmOne
 rw[hb,if_pos (by rfl)]
 exact zzg h1 h2 h3
end
structure XKit(P:Program)(w:World)(K:qB)(mg:Str->Option Value)(base:Heap)(cl:Str->Addr)(CS KS:List Str)(B:Str):Prop where
 ok:∀c∈CS,XcOk P w K mg base c (cl c)
 ex:∀c∈CS,exmOne K (.ref (cl c)) (.ref (cl B))=some true
 kit:∀c∈CS,∀k∈KS,kitOne K (.ref (cl c)) (.ref (cl k))=some (decide (c=k))
 val:∀c∈CS,kitOne K (.ref (cl c)) (.type "ValueError")=some true
 mgk:∀k∈KS,mg k=some (.ref (cl k))
 mgB:mg B=some (.ref (cl B))
 mgV:mg "ValueError"=none
theorem zuj{p:Str->Prop}:∀c∈([]:List Str),p c:=λc h=>absurd h (by simp)
theorem zcr{p:Str->Prop}(h:p a)(t:∀c∈l,p c):∀c∈a::l,p c:=λc hc=>(qZ.mp hc).elim (λe=>e▸h) (t c)
section
variable{K:qB}{C c B:Addr}{a b:Str}
theorem kd_t(h:kitOne K (.ref C) (.ref c)=some true)(e:a=b):kitOne K (.ref C) (.ref c)=some (decide (a=b)):=by rw[h,decide_eq_true e]
theorem kd_f(h:kitOne K (.ref C) (.ref c)=some false)(e:a≠b):kitOne K (.ref C) (.ref c)=some (decide (a=b)):=by rw[h,decide_eq_false e]
theorem zasw(hb:subIn K (.ref B) (.type "BaseException")=some true)(h1:isClsIn K B=true)(h2:typeIn K (.ref B)=some (.type "type"))(h3:subIn K (.ref C) (.ref B)=some true):exmOne K (.ref C) (.ref B)=some true:=by
 unfold exmOne
 rw[hb,if_pos (by rfl)]
 exact zzg h1 h2 h3
end
section
variable{X:Cx}
theorem zpa(hg:Gl X x)(hm:X.mg x=some (.ref C))(hd:(x==("__debug__":Str))=false):Bx (PE X (.Name x pos) (tC (.ref C))):=⟨zavh hg hm hd⟩
theorem zavs(M:XMk X.K C f)(ho:Bx (PE X o te))(hb:attributeBase o "at" X.env (eval o X.env)=eval o X.env):Bx (PE X (.Attribute o "at" pos) (tXat C te)):=⟨zayx M ho.out hb⟩
theorem zpb{K:qB}{C f:Addr}(hK:X.K=K)(M:XMk K C f)(ha:findIn K (.ref C) "__class__"=some (some (.builtin "object.__class__"))):CallR X (.builtin "isinstance") (rIsX K C):=by
 subst hK;exact zapo M ha
theorem zaqi{K:qB}{C f:Addr}{o:Expr}{pos:Pos}{te:TE}(hK:X.K=K)(M:XMk K C f)(ho:Bx (PE X o te))(hb:attributeBase o "at" X.env (eval o X.env)=eval o X.env):Bx (PE X (.Attribute o "at" pos) (tXat C te)):=by
 subst hK;exact zavs M ho hb
end
def insL{α:Type}(xs:List α)(k:Nat)(y:α):List α:=xs.take k++y::xs.drop k
theorem zaqj{xs:List α}:(insL xs k y).length=xs.length+1:=by
 unfold insL
 rw[qO,qy,qAV,qj]
 omega
def zalz:V->List V->Hp->VK->Prop:=λx vs H Q=>∃l xs,∃(k:Nat),∃y,x=.ref l/\vs=[.int (k:Int),y]/\H l=some (.lst xs)/\k<=xs.length/\xs.length<qU/\k<2 ^ 62/\Q .non (upd H l (.lst (insL xs k y)))
theorem zama:MtM X "list.insert" zalz:=by
 intro pins s σ H x vs v us Q I rx rv h
 obtain⟨l,xs,k,y,rfl,rfl,hH,hk,hz,hk2,q⟩:=h
 cases rx
 obtain⟨u1,u2,rfl,r1,r2⟩:=zaaj rv
 obtain⟨t,rfl⟩:=r1
 obtain⟨z,its,n,r,hl,e⟩:=I.lstM hH
 have k1:(-(2 ^ 63):Int)<=(k:Int):=Int.le_trans (by decide) (Int.natCast_nonneg k)
 have k2:(k:Int)<2 ^ 63:=Int.lt_trans (Int.ofNat_lt.mpr hk2) (by decide)
 have hsz:its.toArray.size<=qU:=by rw[qM,<- hl];exact qB3 hz
 obtain⟨x,hx⟩:∃x:Int,x=(k:Int):=⟨_,rfl⟩
 rw[<- hx]at k1 k2
 have hfit:¬(!Builtin.List.listFitsIndex x)=true:=by rw[fitsIndex_both k1 k2];exact qP
 have M:=PySem.AutoSeq1.list_insert_list_int_val_1 l its.toArray n x t u2 hfit hsz
 rw[show(Value.int (k:Int) t)=Value.int x t by rw[hx]]
 refine qDX F.slot_list_insert ⟨_,e,rfl⟩ F.entry_list_insert (F.args_list_insert_3 _ _ _) M ⟨e,?_⟩
 refine⟨.non,_,I.lset (its':=insL its k u2) hH e ?_ ((r.take k).append (.cons r2 (r.drop k))) ?_,rfl,q⟩
 ·have e0:(if x<0 then(x+((its.toArray.size:Nat):Int)).toNat else min x.toNat its.toArray.size)=k:=by
   rw[if_neg (by omega),qM];omega
  show(its.toArray.extract 0 (if x<0 then(x+((its.toArray.size:Nat):Int)).toNat else min x.toNat its.toArray.size)).push u2++its.toArray.extract (if x<0 then(x+((its.toArray.size:Nat):Int)).toNat else min x.toNat its.toArray.size)=(insL its k u2).toArray
  rw[e0]
  apply Array.ext'
  unfold insL
  simp
  exact qBm (by rw[qj];exact qL _)
 ·show(insL xs k y).length<=qU
  rw[zaqj];omega
theorem Rps.ins(h:Rps H ds vs)(k:Nat)(r:Rp H d v):Rps H (insL ds k d) (insL vs k v):=(h.take k).append (zcx r (h.drop k))
def sIns(i:Nat)(a:AF):SF:=λenv=>match env[i]? with
 | some (.ac (.list ds))=>(a env).bind λrs=>(match rs with
  | [k,r]=>(match k.d with
   | .int z=>if 0<=z/\z.toNat<=ds.length/\ds.length<100000/\i∉r.bs then some (.nx ((frzs env r.bs).set i (.ac (.list (insL ds z.toNat r.d)))))else none
   | _=>none)
  | _=>none)
 | _=>none
theorem zbai{K:qB}{i:Nat}{ta:TA}{g:AF}(h1:SA ta g):SS (tDrop (tBM K "list" zalz (tVar i) ta)) (sIns i g):=by
 intro fx H0 env σ H D h o e q
 unfold sIns at e
 split at e
 ·rename_i ds ei
  obtain⟨rs,er,e⟩:=qA.mp e
  split at e
  ·rename_i k r
   split at e
   ·rename_i z hz
    split at e
    ·rename_i hl
     cases e
     obtain⟨a,g1,g2,g3,g4⟩:=h.ac i _ ei
     obtain⟨xs0,hx0,rx0⟩:=g4
     refine⟨_,g1,.inl ⟨rfl,_,SqL.of hx0⟩,h1 fx H0 env σ H h _ er _ λvs H' s hv=>?_⟩
     cases hv with
     | cons hk t=>
      cases t with
      | cons hr t=>
       cases t
       have hk:=hk.rp
       rw[hz]at hk
       cases zeh hk
       have h':=(h.up s).frzs r.bs
       have ei':=zjc hl.2.2.2 ei
       obtain⟨a',z1,_,_,z4⟩:=h'.ac i _ ei'
       rw[g1]at z1
       cases z1
       obtain⟨xs,hx',rx'⟩:=z4
       refine⟨a,xs,z.toNat,_,rfl,by rw[Int.toNat_of_nonneg hl.1],hx',by rw[<- rx'.length];exact hl.2.1,zkn (by rw[<- rx'.length];exact hl.2.2.1),by omega,?_⟩
       exact q σ _ (h'.mut ei' g1 ⟨_,zal,rx'.ins z.toNat (Rp.same (Offs.sub zfe) _ hr.rp)⟩)
    ·cases e
   ·cases e
  ·cases e
 ·cases e
section
variable{j:Nat}{C:Addr}{d:PyData}
theorem zavt{K:qB}{c1 c2 c3:Addr}{b1 b2 b3:Bool}(h1:kitOne K (.ref C) (.ref c1)=some b1)(h2:kitOne K (.ref C) (.ref c2)=some b2)(h3:kitOne K (.ref C) (.ref c3)=some b3):kitAny K (.ref C) [.ref c1,.ref c2,.ref c3]=some (b1||(b2||b3)):=by
 unfold kitAny
 rw[h1]
 cases b1 with
 | true=>rfl
 | false=>
  dsimp only
  unfold kitAny
  rw[h2]
  cases b2 with
  | true=>rfl
  | false=>
   dsimp only
   unfold kitAny
   rw[h3]
   cases b3<;>rfl
theorem zaqk{K:qB}{c1 c2 c3:Addr}{b:Bool}(hk:kitAny K (.ref C) [.ref c1,.ref c2,.ref c3]=some b):SEe j C d (tCB (rIsX K C) (tCons (tVar j) (tCons (tTup (tCons (tC (.ref c1)) (tCons (tC (.ref c2)) (tCons (tC (.ref c3)) tNil)))) tNil))) (eC (.bool b)):=by
 intro fx H0 env σ H e dx h hj he r hr Q q
 cases hr
 obtain⟨tv,he1⟩:=he.ex
 refine⟨_,hj,by show 3<=_;exact zgq (by decide),λp hp=>?_⟩
 have sn:Same H (upd H p (.tup [.ref c1,.ref c2,.ref c3])):=Same.new hp
 refine⟨e,dx,tv,b,sn _ _ he1,q _ _ sn ⟨zbv,λz=>by cases z⟩,.inr (.inr ⟨p,_,[.ref c1,.ref c2,.ref c3],rfl,zal,λits v=>?_,hk⟩)⟩
 cases v with
 | cons r1 v=>
  cases v with
  | cons r2 v=>
   cases v with
   | cons r3 v=>cases v;cases r1;cases r2;cases r3;rfl
end
abbrev TbH(P:Addr)(q:Str)(H:Hp):Prop:=H P=some (.tabO q)
def SEb(P:Addr)(q:Str)(te:TE)(f:EF):Prop:=∀(fx:Addr->Prop)(H0:Hp)(env:DEnv)(σ:St)(H:Hp),TbH P q H->EnvOk fx H0 env σ H->∀r,f env=some r->∀Q:VK,(∀v H',Same H H'->ValOk (lim fx env σ r.bs) H H' r v->Q v H')->te σ H Q
def STb(P:Addr)(q:Str)(tt:TT)(f:TF):Prop:=∀(fx:Addr->Prop)(H0:Hp)(env:DEnv)(σ:St)(H:Hp),TbH P q H->EnvOk fx H0 env σ H->∀b,f env=some b->∀Q:Bool->Hp->Prop,(∀H',Same H H'->Q b H')->tt σ H Q
def SSb(P:Addr)(q:Str)(ts:TS)(F:SF):Prop:=∀(fx:Addr->Prop)(H0:Hp)(env:DEnv)(σ:St)(H:Hp)(D:Ends),TbH P q H0->EnvOk fx H0 env σ H->∀o,F env=some o->Sat fx H0 D o->ts D σ H
section
variable{P:Addr}{q:Str}
theorem zfy(h:SS ts F):SSb P q ts F:=λfx H0 env σ H D _ hE=>h fx H0 env σ H D hE
theorem zamb{K:qB}{te:TE}{f:EF}(h:SEb P q te f):STb P q (λσ H Q=>te σ H λx H1=>∃k,TruV K x H1 k/\Q k H1) (tTru f):=by
 intro fx H0 env σ H hT hE b hb Q qq
 unfold tTru at hb
 obtain⟨r,e,hb⟩:=qA.mp hb
 exact h fx H0 env σ H hT hE _ e _ λv H' s v1=>⟨b,zazd (Rp.same (Offs.same _ _) _ v1.rp) hb,qq H' s⟩
theorem zamc(h:STb P q t f):STb P q (tNot t) (zgr f):=by
 intro fx H0 env σ H hT hE b hb Q qq
 unfold zgr at hb
 obtain⟨c,e,rfl⟩:=qG.mp hb
 exact h fx H0 env σ H hT hE c e _ λH' s=>qq H' s
theorem zfg(h1:SSb P q t f)(h2:SSb P q u g):SSb P q (tSeq t u) (sSeq f g):=by
 intro fx H0 env σ H D hT h o e qq
 unfold sSeq at e
 obtain⟨o1,e1,e⟩:=qA.mp e
 refine h1 fx H0 env σ H _ hT h o1 e1 ?_
 cases o1 with
 | nx env'=>exact λσ' H' h'=>h2 fx H0 env' σ' H' D hT h' o e qq
 | bk env'=>cases e;exact qq
 | ct env'=>cases e;exact qq
 | rt d fr=>cases e;exact qq
theorem zasx(hc:STb P q tc c)(h1:SSb P q t f)(h2:SSb P q u g):SSb P q (tIfS tc t u) (sIf c f g):=by
 intro fx H0 env σ H D hT h o e qq
 unfold sIf at e
 obtain⟨b,eb,e⟩:=qA.mp e
 refine hc fx H0 env σ H (h.base _ _ hT) h b eb _ λH' s=>?_
 cases b with
 | true=>exact iteT (h1 fx H0 env σ H' D hT (h.up s) o e qq)
 | false=>exact iteF (h2 fx H0 env σ H' D hT (h.up s) o e qq)
def spDT(P:Addr)(q:Str)(n:Nat)(g:GF):Sp:=λvs H Q E=>TbH P q H/\spD n g vs H Q E
theorem zagb(ha:SA ta f):SEb P q (tCall (spDT P q n g) [] E0 ta) (zau n g f):=by
 intro fx H0 env σ H hT h rr hr Q qq
 unfold zau at hr
 obtain⟨rs,er,hr⟩:=qA.mp hr
 split at hr
 ·rename_i hn
  obtain⟨⟨d,fr⟩,ez,hr⟩:=qA.mp hr
  cases hr
  refine ha fx H0 env σ H h rs er _ λvs H1 s1 v1=>?_
  have hA:=(h.up s1).lims (bss rs)
  refine⟨s1 _ _ hT,lim fx env σ (bss rs),zds rs,d,fr,by rw[zez];exact hn,hA,?_,ez,λv H2 s2 rt=>qq v H2 (s1.trans s2) ⟨ztv rt.1,λe=>?_⟩⟩
  ·rw[qw];exact zfd (λi hi=>hi) v1
  ·obtain⟨a,g1,g2,g3⟩:=rt.2 e
   refine⟨a,g1,s1.free g2,?_⟩
   have nf:zfo d=false:=by cases d<;>first|rfl|exact g3.elim
   show zhz (Offs (λb=>lim fx env σ (bsOf d (bss rs)) b\/b=a) H2) H2 a d
   rw[show bsOf d (bss rs)=bss rs by unfold bsOf;rw[if_neg (by rw[nf];decide)]]
   exact g3
 ·cases hr
end
def zamd:HO->Bool
 | .lst _=>true
 | .tup _=>true
 | .dK _=>true
 | _=>false
theorem zaql(h:zamd o=true):outB o=true:=by cases o<;>first|rfl|cases h
mutual
theorem zame(h:∀b o,G b=some o->zamd o=true->G' b=some o):∀(d:PyData){v:V},Rp G d v->Rp G' d v
 | .none,v,r=>by unfold Rp at r ⊢;exact r
 | .bool b,v,r=>by unfold Rp at r ⊢;exact r
 | .int i,v,r=>by unfold Rp at r ⊢;exact r
 | .str x,v,r=>by unfold Rp at r ⊢;exact r
 | .list ds,v,r=>by
  unfold Rp at r ⊢
  obtain⟨a,xs,h1,h2,h3⟩:=r
  exact⟨a,xs,h1,h a _ h2 rfl,rps_dat h ds h3⟩
 | .tuple ds,v,r=>by
  unfold Rp at r ⊢
  obtain⟨a,xs,h1,h2,h3⟩:=r
  exact⟨a,xs,h1,h a _ h2 rfl,rps_dat h ds h3⟩
 | .dict ds,v,r=>by
  unfold Rp at r ⊢
  obtain⟨a,xs,h1,h2,h3⟩:=r
  exact⟨a,xs,h1,h a _ h2 rfl,rpd_dat h ds h3⟩
theorem rps_dat(h:∀b o,G b=some o->zamd o=true->G' b=some o):∀(ds:List PyData){vs:List V},Rps G ds vs->Rps G' ds vs
 | [],vs,r=>by unfold Rps at r ⊢;exact r
 | d::ds,vs,r=>by
  unfold Rps at r ⊢
  obtain⟨v,vs',h1,h2,h3⟩:=r
  exact⟨v,vs',h1,zame h d h2,rps_dat h ds h3⟩
theorem rpd_dat(h:∀b o,G b=some o->zamd o=true->G' b=some o):∀(ds:List (PyData×PyData)){vs:List (Key×V)},Rpd G ds vs->Rpd G' ds vs
 | [],vs,r=>by unfold Rpd at r ⊢;exact r
 | (k,d)::ds,vs,r=>by
  unfold Rpd at r ⊢
  obtain⟨k',v,vs',h1,h0,h2,h3⟩:=r
  exact⟨k',v,vs',h1,h0,zame h d h2,rpd_dat h ds h3⟩
end
def ResW(cl:Str->Addr)(H:Hp)(Q:VK)(E:XK):ResX->Prop
 | .ok _ _=>∀v H',Same H H'->Q v H'
 | .rx c d=>∀k od H',RX H (cl c) d k od H'->E k od H'
def tolD(cl:Str->Addr)(g:ResX->Option PyData):(Hp->VK->XK->Prop)->Hp->VK->Prop:=λR H Q=>∃(fx:Addr->Prop)(r:ResX)(d:PyData),(∀b,fx b->∃o,H b=some o)/\(∀H' Q' E',Same H H'->ResW cl H' Q' E' r->R H' Q' E')/\g r=some d/\∀v H',Same H H'->Rp (Offs fx H') d v->Q v H'
def zaqm:List Nat->AF
 | []=>aNil
 | j::js=>zaa (eVar j) (zaqm js)
def zavu:List Nat->TA
 | []=>tNil
 | j::js=>tCons (tVar j) (zavu js)
theorem zamf:∀js:List Nat,SA (zavu js) (zaqm js)
 | []=>zic
 | j::js=>zcn (zhh j) (zamf js)
theorem zabn:∀(js:List Nat){σ:St}{H:Hp}{Q:List V->Hp->Prop},zavu js σ H Q->∃vs:List V,(js.map λj=>σ[j]?)=vs.map (λv=>some (some v))/\Q vs H
 | [],σ,H,Q,h=>⟨[],rfl,h⟩
 | j::js,σ,H,Q,h=>by
  obtain⟨v,e,h⟩:=h
  obtain⟨vs,e2,h2⟩:=zabn js h
  exact⟨v::vs,by rw[qR,qR,e,e2],h2⟩
def zhk(js:List Nat)(n:Nat)(gf:GFX)(a:AF)(g:ResX->Option PyData):EF:=λenv=>(zaqm js env).bind λcs=>(a ((zds cs).map .pl)).bind λrs=>if rs.length=n then(gf (zds rs)).bind λr=>(g r).map λd=>⟨d,false,bsOf d (bss cs)⟩else none
theorem zavv{fx:Addr->Prop}{ds:List PyData}{vs:List V}(hf:∀b,fx b->∃o,H b=some o)(r:Rps (Offs fx H) ds vs):EnvOk fx H (ds.map .pl) (vs.map some) H:=by
 have:=zhi (N:=List.replicate ds.length ("":Str)) hf r
 unfold zid zfz at this
 rw[qAT,Nat.sub_self,<- r.length,Nat.sub_self]at this
 simpa using this
theorem zxm{env:Env}:∀(l:List (Str×NameKind))(acc:List (Str×Addr)),(∀p∈l,p.2=.free->∃c,env.cells.lookup p.1=some c)->
  (forIn l acc (λ(x:Str×NameKind) (r:List (Str×Addr))=>match x with|(name,kind)=>if(kind==NameKind.free)=true then do let c <- cellOf env name;pure (ForInStep.yield ((name,c)::r))else pure (ForInStep.yield r)):Sem (List (Str×Addr))) =
   pure ((l.filterMap λp=>if p.2==.free then(env.cells.lookup p.1).map λc=>(p.1,c)else none).reverse++acc)
 | [],acc,_=>rfl
 | (x,k)::l,acc,h=>by
  rw[qCG,qBG]
  have ih:=λacc=>zxm (env:=env) l acc λp hp=>h p (qK _ hp)
  cases hk:(k==NameKind.free)with
  | true=>
   obtain⟨c,e⟩:=h (x,k) (by simp) (by simpa using hk)
   have e2:cellOf env x=pure c:=by
    have e':env.cells.lookup x=some c:=e
    unfold cellOf
    rw[e']
   dsimp only
   rw[hk,if_pos rfl,if_pos rfl,e2,pure_bind,pure_bind]
   dsimp only
   rw[ih,show env.cells.lookup x=some c from e]
   simp
  | false=>
   dsimp only
   rw[hk,if_neg (by decide),if_neg (by decide),pure_bind]
   exact ih acc
theorem zaic{sc:Scope}{env:Env}(h:∀p∈sc.names,p.2=.free->∃c,env.cells.lookup p.1=some c):closureFor sc env=pure (clF sc env):=by
 unfold closureFor clF
 have:=zxm (env:=env) sc.names [] h
 rw[qw]at this
 show(forIn sc.names [] _ >>=λr=>pure r)=_
 rw[bind_pure]
 exact this
def DnT(P:Program)(w:World)(K:qB)(mg:Str->Option Value)(base:Heap)(x pr:Str)(k j:Nat)(tol:(Hp->VK->XK->Prop)->Hp->VK->Prop):Prop:=
 ∃f fd,ToldOk P w K mg base k j f fd pr tol/\mg x=some (.ref f)/\qAx K (.ref f)=true/\ziy K fd [pr] []
section
variable{X:Cx}
def frB(sc so:Scope):Bool:=sc.names.all λq=>(q.2 != .free)||(so.names.lookup q.1==some .cell)
theorem frB.of{sc so:Scope}(h:frB sc so=true):∀q∈sc.names,q.2=.free->so.names.lookup q.1=some .cell:=λq hq hf=>by
 have:=qAk.mp h q hq
 rw[hf]at this
 simpa using this
theorem zaqn{cl:Str->Addr}{R:Hp->VK->XK->Prop}{p cpos pos epos hpos cp:Pos}{ts:Addr->TS}
  (As:Asks X.prog X.w X.K X.mg X.base (CXE X.prog X.w) k X.fs X.s₀ X.H₀ g R)(XK:XKit X.prog X.w X.K X.mg X.base cl CS KS cn)(hex0:X.ex=[])(hr:Room k X.A)(hg:FnAt g X.s₀.heap)(hn0:X.H₀ g=none)
  (hi:X.N[i]?=some an)(hv:visB X.env.scope an=true)
  (hN:X.N.Nodup)(hj:X.N[j]?=some n)(hn:X.env.scope.names.lookup n=some .local)
  (hst:X.stack=X.env::X.outer)(hfr:X.env.frame=some X.env.locals)(hgc:Gl X cn)
  (hs:∀C e f,XMk X.K C f->findIn X.K (.ref C) "__class__"=some (some (.builtin "object.__class__"))->Bx (PSs (X.hold e) (st0::suite) (ts C)))
  (hdb:(an==("__debug__":Str))=false)(hda:(an==("__classdict__":Str))=false)(hdc:(cn==("__debug__":Str))=false)
  (hsw:swapsWith (.Call (.Name an p) [] [] cpos) none epos.line X.env=pure false) :
  Bx (PS X (.Try [.Expr (.Call (.Name an p) [] [] cpos) epos] [.ExceptHandler (some (.Name cn cp)) (some n) (st0::suite) hpos] [] [] pos) (zave (λC=>∃c∈CS,C=cl c) g R ts i j)):=by
 refine⟨zavf As hex0 hr hg hn0 hi (visB.of hv) hN hj hn hst hfr hgc XK.mgB (λC ⟨c,hc,e⟩=>by subst e;exact XK.ex c hc) (λC ⟨c,hc,e⟩ ea=>?_) hdb hda hdc hsw⟩
 subst e
 obtain⟨f2,_,M,_,_,_,hcl,_⟩:=XK.ok c hc
 exact(hs _ ea f2 M hcl).out
end
def zbaj(CS:List Str)(j:Nat)(r:ResX)(hd:Str->PyData->SF):SF:=λenv=>match r with
 | .ok _ _=>some (.nx env)
 | .rx c d=>if c∈CS then(hd c d (env.set j .no)).bind λo=>match o with
  | .nx e=>some (.nx (e.set j .no))
  | _=>none else none
def zavw(n i j:Nat)(CS:List Str)(E0:EF)(hd:Str->PyData->SF):ResX->Option PyData:=λr=>match(sSeq (sSet i E0) (sSeq (zbaj CS j r hd) (zmp i))) (List.replicate n .no)with
 | some (.rt d _)=>some d
 | _=>none
theorem zbak{cl:Str->Addr}{CS:List Str}{N:List Str}{i j:Nat}{te0:TE}{E0:EF}{ts:Addr->TS}{hd:Str->PyData->SF}(hi:i≠0)(hj:j<N.length)(hN:1<=N.length)(h0:SE te0 E0)(hs:∀c∈CS,∀d,SSe j (cl c) d (ts (cl c)) (hd c d)){H:Hp}{g:Addr}{R:Hp->VK->XK->Prop}{Q:VK}
  (h:tolD cl (zavw N.length i j CS E0 hd) R H Q):tSeq (tAsg te0 (gName i)) (tSeq (zave (λC=>∃c∈CS,C=cl c) g R ts 0 j) (tRet (tVar i))) {nx:=λ_ H'=>Q .non H',rt:=Q} (zfz N [.ref g]) H:=by
 obtain⟨fx,r,d,hf,hR,hg,hq⟩:=h
 unfold zavw at hg
 split at hg
 ·rename_i d' fr eo
  cases hg
  have hl:(zfz N [V.ref g]).length=N.length:=by
   unfold zfz
   rw[qO,qC,qAT]
   show 1+(N.length - 1)=N.length
   omega
  have no:∀(k:Nat)(sl:Sl),(List.replicate N.length Sl.no)[k]?=some sl->sl=.no:=λk sl e=>qBb (qAe e)
  have hE:EnvOk fx H (List.replicate N.length .no) (zfz N [.ref g]) H:=⟨by rw[qAT,hl],λk d e=>by(have:=no k _ e;cases this),λk d e=>by(have:=no k _ e;cases this),λk l d e a h1=>by(have:=no k _ h1;cases this),Same.refl _,hf⟩
  unfold sSeq at eo
  obtain⟨o1,e1,eo⟩:=qA.mp eo
  refine zavn (J:=λk=>k=0) h0 hi fx H _ _ H _ hE o1 e1 ?_
  cases o1 with
  | nx env1=>
   intro σ1 H1 hE1 hk1
   have hl1:env1.length=N.length:=by
    unfold sSet at e1
    obtain⟨r1,_,e1⟩:=qG.mp e1
    cases e1
    have:=hE1.len
    unfold putV
    rw[qd]
    have fz:∀(bs:List Nat)(env:DEnv),(frzs env bs).length=env.length:=λbs=>by
     induction bs with
     | nil=>intro env;rfl
     | cons b bs ih=>intro env;show(frzs (frz1 env b) bs).length=_;rw[ih,zafp]
    rw[fz,qAT]
   dsimp only at eo
   obtain⟨o2,e2,eo⟩:=qA.mp eo
   have hv:σ1[0]?=some (some (.ref g)):=(hk1 0 rfl).trans rfl
   have beh:∀env2 σ2 H2,EnvOk fx H env2 σ2 H2->zmp i env2=some (.rt d fr)->(tRet (tVar i)) {nx:=λ_ H'=>Q .non H',rt:=Q} σ2 H2:=λenv2 σ2 H2 hE2 e3=>zkp fx H env2 σ2 H2 _ hE2 _ e3 λv H3 s3 rt=>hq v H3 s3 rt.1
   refine⟨hv,hR H1 _ _ hE1.base ?_⟩
   unfold zbaj at e2
   cases r with
   | ok d0 f0=>
    cases e2
    exact λv H2 s2=>beh env1 σ1 H2 (hE1.up s2) eo
   | rx c d0=>
    dsimp only at e2
    split at e2
    ·rename_i hc
     refine zbag (D:={nx:=λσ' H'=>(tRet (tVar i)) {nx:=λ_ H'=>Q .non H',rt:=Q} σ' H',rt:=Q}) hE1 (by rw[hl1];exact hj) hc hs e2 ?_
     obtain⟨o3,_,e2⟩:=qA.mp e2
     cases o3 with
     | nx env3=>cases e2;exact λσ3 H3 hE3=>beh _ σ3 H3 hE3 eo
     | bk _=>cases e2
     | ct _=>cases e2
     | rt _ _=>cases e2
    ·cases e2
  | bk _=>unfold sSet at e1;obtain⟨_,_,e1⟩:=qG.mp e1;cases e1
  | ct _=>unfold sSet at e1;obtain⟨_,_,e1⟩:=qG.mp e1;cases e1
  | rt _ _=>unfold sSet at e1;obtain⟨_,_,e1⟩:=qG.mp e1;cases e1
 ·cases hg
theorem zbal{P:Program}{w:World}{K:qB}{mg:Str->Option Value}{base:Heap}{x qual:Str}{st:Stmt}{f c:Addr}{fd:qAb}{N ps:List Str}{k:Nat}{sp:Sp}(Fu:Fun K x qual st f fd)(S:FnScope N ps (zah st))(len:∀vs H Q E,sp vs H Q E->vs.length=ps.length)(hc:fd.code=.ref c)
  (hbody:∀(A:Around)(outer:List Env)(s:Shared)(H:Hp)(vs:List V)(Q:VK)(E:XK),Room k (A.deeper (envOfC qual (zah st) s.heap.objs.size f (.ref c)))->sp vs H Q E->
   ∃t,PSs (cxOf CX0 P w K mg base N qual (zah st) f (.ref c) A outer s H E).nox (zdo st) t/\t {nx:=λ_ H'=>Q .non H',rt:=Q} (zfz N vs) H):FnOk P w K mg base CX0 (k+1) f fd ps sp:=by
 refine⟨len,λA outer s H args us vs Q E hr e0 hb r hsp=>?_⟩
 obtain⟨oc,od,kV,doc,pm,an,cdv,ct,osl,rfl,lk,hcd⟩:=Fu.ex
 have hc':cdv=.ref c:=hc
 subst hc'
 have KX:K.In s.heap:=e0.mod.kin.keeps λb o e=>(e0.bs b o e).1
 refine qBt hr.depth (KX _ _ lk) rfl S.co S.gen rfl (qBu KX hcd) (hb _ _ _ _ (qBW S.kind (λ⟨n,v⟩ hy=>?_) λenv he s1 x=>?_))
 ·rcases S.par n (qA4 hy).1 with q|q
  ·exact .inl q
  ·exact .inr ⟨q,qBI _ _ _ (.inl q)⟩
 ·subst he
  obtain⟨t,ht,hq⟩:=hbody A outer s H vs Q E (hr.deeper _) hsp
  have I:=zok (CX:=CX0) (E:=E) S hr.hd e0 (len _ _ _ _ hsp) r x
  refine⟨(e0.mod.nolimit.keeps λb o e=>(e0.bs b o e).1).keeps x.toInCall.keep,qCx (qBB (ht [] s1 (zfz N vs) H _ (I.wish _) hq) (λfl s' hs=>?_) λe s' hs=>hs.elim)⟩
  cases fl with
  | ret u=>obtain⟨v,σ',H',J,rv,q⟩:=hs;exact⟨v,H',J.os,J.bare,J.base,J.hok,rv,q⟩
  | next=>obtain⟨σ',H',J,q⟩:=hs;exact⟨.non,H',J.os,J.bare,J.base,J.hok,rfl,q⟩
  | brk=>obtain⟨_,_,_,q⟩:=hs;exact q.elim
  | cont=>obtain⟨_,_,_,q⟩:=hs;exact q.elim
theorem zaqo{vs:List V}(h:spDT P q n g vs H Q E):vs.length=n:=zbs h.2
def zagc(K:qB)(P:Addr)(q:Str):Sp:=λvs H Q _=>∃(a:Addr)(ns:List Int),vs=[.ref a]/\SqL K H a (ns.map V.int)/\TbH P q H/\∀H',Same H H'->Q (.bl true) H'
theorem zaqp(hs:SSb P q t F){nx:St->Hp->Prop}(hT:TbH P q H1)(hE:EnvOk (λ_=>False) H1 env σ H1)(e:F env=some (.rt (.bool true) false))(k:∀H',Same H1 H'->Q (.bl true) H'):t {nx:=nx,rt:=Q} σ H1:=by
 refine hs _ H1 env σ H1 _ hT hE _ e λv H s rt=>?_
 rw[show v=.bl true from znk rt.1]
 exact k H s
theorem zavx{P:Program}{w:World}{K:qB}{mg mb:Str->Option Value}{CX:CXT}{k:Nat}{fa a c TP:Addr}{q:Str}{fd:qAb}{x:Str}{sp:Sp}{s₁:Shared}{vs:List Value}{ns:List Int}
  (KX:K.In s₁.heap)(hns:s₁.heap.Ns qg mg)(hb:s₁.heap.Ns builtinsNs mb)(hbb:∀x:Str,x≠"__name__"->mb x=bootBuiltins x)(hlim:s₁.heap.NoLimit)(hg:s₁.gens=#[])
  (ha:s₁.heap.get? a=some {cls:=.type "list",data:=.seq vs.toArray}) (hi:IntsAre vs ns) (hl:ns.length<=qU) (hr:Room k callerA)
  (hT:CodeHd s₁.heap c TP)(hT0:s₁.heap.get? TP=some (tabObj #[]))(nT:noTabs K=true)(hbm:BM mg s₁.heap)
  (F:∀base:Heap,K.In base->base.Ns qg mg->BM mg base->CodeHd base c TP->FnOk P w K mg base CX k fa fd [x] sp)(hbind:∀(s:Shared) (u:Value),BindsTo s fd ⟨[u],[]⟩ [(x,u)])
  (hsp:∀H:Hp,TbH TP q H->SqL K H a (ns.map V.int)->sp [.ref a] H (λv H'=>v=.bl true/\TbH TP q H') λ_ _ _=>False)
  (hCX:∀H e s',CX [] H s₁ (λ_ _ _=>False) e s'->False) :
  codeAny (model P w) callerA (.call (.ref fa) ⟨[.ref a],[]⟩) (λr s'=>r=.ok (.ret (.bool true))/\OldK s₁.heap s'.heap/\s'.os=s₁.os/\AllBare s'.gens) s₁:=by
 have rv:=zaat hi
 have lenV:=hi.length
 have naT:a≠TP:=λz=>by rw[z,hT0]at ha;cases ha
 have KT:K.lookup TP=none:=by
  cases e:K.lookup TP with
  | none=>rfl
  | some o=>
   have e1:=KX _ _ e
   rw[hT0]at e1
   cases e1
   have h2:=qAk.mp nT _ (PySem.W.mem_of_lookupK e)
   exact absurd (show false=true from h2) qP
 have core:∀H:Hp,TbH TP q H->SqL K H a (ns.map V.int)->HOk P w H s₁.heap->(∀b,H b≠none->b=a\/b=TP)->(H a≠none->K.lookup a=none/\∃o xs,H a=some (.frz o (.lst xs)))->
   codeAny (model P w) callerA (.call (.ref fa) ⟨[.ref a],[]⟩) (λr s'=>r=.ok (.ret (.bool true))/\OldK s₁.heap s'.heap/\s'.os=s₁.os/\AllBare s'.gens) s₁:=by
  intro H hTb hS hok hA hK
  have free:∀{b:Addr}{o:Obj},s₁.heap.get? b=some o->(∀xs n,o.data≠.seq xs n)->(∀vs,o.data≠.fields vs\/o.cls≠.none)->H b=none:=λ{b o} e n1 n2=>by
   cases z:H b with
   | none=>rfl
   | some u=>
    rcases hA b (by rw[z];simp)with rfl|rfl
    ·rw[ha]at e;cases e;exact absurd rfl (n1 _ _)
    ·rw[hT0]at e;cases e;exact(n2 #[]).elim (λy=>absurd rfl y) (λy=>absurd rfl y)
  have nsK:∀{b:Addr}{m:Str->Option Value},s₁.heap.Ns b m->(hidT s₁.heap H).Ns b m:=λ{b m} ⟨o,es,ep,e,d,r⟩=>⟨o,es,ep,zsy e (free e (λxs n z=>by rw[d]at z;cases z) (λvs=>.inl λz=>by rw[d]at z;cases z)),d,r⟩
  have hKb:K.In (hidT s₁.heap H):=λb o e=>zsy (KX b o e) (by
   cases z:H b with
   | none=>rfl
   | some u=>
    rcases hA b (by rw[z];simp)with rfl|rfl
    ·rw[(hK (by rw[z];simp)).1]at e;cases e
    ·rw[KT]at e;cases e)
  have hM:Mod K mg (hidT s₁.heap H):=⟨hKb,nsK hns,⟨mb,nsK hb,hbb⟩,let⟨mc,h1,h2⟩:=hlim;⟨mc,nsK h1,h2⟩⟩
  have hBM:BM mg (hidT s₁.heap H):=by
   obtain⟨bm,ob,b1,b2,b3,b4,b5,b6⟩:=hbm
   exact⟨bm,ob,b1,b2,zsy b3 (free b3 (λxs n z=>by rw[b6]at z;cases z) (λvs=>.inl λz=>by rw[b6]at z;cases z)),b4,b5,b6⟩
  have hCd:CodeHd (hidT s₁.heap H) c TP:=by
   obtain⟨o,vs',file,tf,flags,tg,inF,text,tt,e1,e2,e3,r⟩:=hT
   exact⟨o,vs',file,tf,flags,tg,inF,text,tt,zsy e1 (free e1 (λxs n z=>by rw[e3]at z;cases z) (λvs=>.inr λz=>by rw[e2]at z;cases z)),e2,e3,r⟩
  have e0:Env0 P w K mg (hidT s₁.heap H) callerA [] s₁ H:=⟨rfl,hM,λb o e=>zato e,Nat.le_of_eq (zaix _ _),trivial,λb hb=>absurd (show b∈([]:List Addr)from hb) (by simp),hok,.of_eq hg⟩
  refine qBl ((F _ hKb (nsK hns) hBM hCd).run callerA [] s₁ H ⟨[.ref a],[]⟩ [.ref a] [.ref a] _ _ hr e0 (hbind s₁ (.ref a)) (.cons rfl .nil) (hsp H hTb hS)) λr s' h=>?_
  cases r with
  | error e=>exact(hCX H e s' h).elim
  | ok fl=>
   cases fl with
   | next=>exact False.elim h
   | brk=>exact False.elim h
   | cont=>exact False.elim h
   | ret u=>
    obtain⟨v,H',os,bare,un,hok',r',qv,qT⟩:=h
    subst qv
    obtain rfl:u=Value.bool true:=r'
    have kept:∀b o,s₁.heap.get? b=some o->b≠TP->s'.heap.get? b=some o:=λb o e nb=>by
     cases z:H b with
     | none=>exact un.keep b o e z (by intro z;exact absurd (show b∈([]:List Addr)from z) (by simp)) (by simp)
     | some u=>
      rcases hA b (by rw[z];simp)with rfl|rfl
      ·obtain⟨_,ob,xs,z'⟩:=hK (by rw[z];simp)
       have z2:=un.frzs b ob _ z'
       obtain⟨e1,_⟩:=hok b _ z'
       obtain⟨e2,_⟩:=hok' b _ z2
       rw[e]at e1;cases e1
       exact e2
      ·exact absurd rfl nb
    obtain⟨ps,hps,_⟩:=hok' TP _ qT
    refine⟨rfl,⟨λb o e=>?_,λb o e=>?_⟩,os,bare⟩
    ·by_cases nb:b=TP
     ·subst nb
      rw[hT0]at e
      cases e
      exact .inr (.inl ⟨(hT.tab hT0).isCodeTable,rfl,#[],ps,rfl,by rw[Array.empty_append];exact hps⟩)
     ·exact .inl (kept b o e nb)
    ·by_cases nb:b=TP
     ·exact⟨_,by rw[nb];exact hps⟩
     ·exact⟨o,kept b o e nb⟩
 have tabOk:∀H:Hp,zek P w H s₁.heap TP (.tabO q):=λH=>⟨#[],hT0,trivial,λpos cv h=>by cases h⟩
 cases hk:K.lookup a with
 | some o=>
  have e:=KX a o hk
  rw[ha]at e
  cases e
  refine core (λb=>if b=TP then some (.tabO q)else none) (if_pos rfl) (.inr ⟨_,vs.toArray,_,hk,rfl,rfl,rfl,by rw[qM,lenV];exact hl,by simpa using rv⟩) (λb u z=>?_) (λb z=>?_) λz=>?_
  ·by_cases nb:b=TP
   ·subst nb;have z':=(if_pos rfl).symm.trans z;cases z';exact tabOk _
   ·have z':=(if_neg nb).symm.trans z;cases z'
  ·by_cases nb:b=TP
   ·exact .inr nb
   ·exact absurd (if_neg nb) z
  ·exact absurd (if_neg naT) z
 | none=>
  refine core (λb=>if b=TP then some (.tabO q)else if b=a then some (.frz {cls:=.type "list",data:=.seq vs.toArray} (.lst (ns.map V.int)))else none) (if_pos rfl) (.inl (.inr ⟨{cls:=.type "list",data:=.seq vs.toArray},(if_neg naT).trans (if_pos rfl)⟩)) (λb u z=>?_) (λb z=>?_) λ_=>⟨hk,_,_,(if_neg naT).trans (if_pos rfl)⟩
  ·by_cases nb:b=TP
   ·subst nb;have z':=(if_pos rfl).symm.trans z;cases z';exact tabOk _
   ·have z:=(if_neg nb).symm.trans z
    by_cases hb:b=a
    ·have z':=(if_pos hb).symm.trans z
     cases z'
     subst hb
     exact⟨ha,by rw[qC];exact hl,vs,_,rv,ha⟩
    ·have z':=(if_neg hb).symm.trans z
     cases z'
  ·by_cases nb:b=TP
   ·exact .inr nb
   ·by_cases hb:b=a
    ·exact .inl hb
    ·exact absurd ((if_neg nb).trans (if_neg hb)) z
abbrev recDef(q:Program)(tx:Str)(dt:DefRec):Prop:=(recsOf q).find? (λe=>e.name==tx)=some dt
theorem walk_tab{l:PySem.W.OpenLaw}{n k:Nat}{q:Program}{loose:List Str}{XP:(Str->Option Value)->Heap->Prop}{YP:World->Heap->Prop}{d dt:DefRec}{K:Params->qB}{x tx lq:Str}{c TP:Addr}
  (hn:l.most=some n)(hn2:n<=qU)(hdf:d.params.defaults=[])(hr:Room k callerA)
  (hY:∀(w:World) (h:Heap),YP w h->(K w.params).In h)
  (hrec:recDef q tx dt)(hti:∀w:World,tabIn (K w.params) tx=some (c,TP))(hnt:∀w:World,noTabs (K w.params)=true)
  (F:∀(w:World)(mg:Str->Option Value)(fa:Addr)(h:Heap),(K w.params).In h->h.Ns qg mg->mg d.name=some (.ref fa)->
   ∃fd:qAb,(∀(s:Shared)(u:Value),BindsTo s fd ⟨[u],[]⟩ [(x,u)])/\
    ∀base:Heap,(K w.params).In base->base.Ns qg mg->BM mg base->CodeHd base c TP->FnOk l.prog w (K w.params) mg base CX0 k fa fd [x] (zagc (K w.params) TP lq)) :
  PySem.W.WalkO q loose XP YP l.row.toRowW d [] (λf vs=>PySem.call f vs):=by
 refine Att.attach_call hn hdf λw s₀ s₁ mg mb fa o pm cd doc a vs ns G Y ho hd hcd hmg hobj hints hlen hg=>?_
 have KX:=hY w _ Y
 obtain⟨fd,hb,hF⟩:=F w mg fa _ KX G.T.g hmg
 obtain⟨t1,t2⟩:=PySem.W.tab_of (x:=tx) G.T KX hrec (hti w)
 obtain⟨bm,ob,b1,b2,b3,b4,b5,b6⟩:=G.T.bmain
 exact zavx (q:=lq) KX G.T.g G.T.b G.T.builtins G.T.nolimit hg hobj hints (qAI hlen hn2) hr t1 t2 (hnt w) ⟨bm,ob,b1,b2,b3,b4,b5,b6⟩ hF hb (λH hT hS=>⟨a,ns,rfl,hS,hT,λH' s'=>⟨rfl,s' _ _ hT⟩⟩) λH e s' z=>z.elim
section
variable{P:Addr}{q:Str}
theorem zavy(h1:SI wi f)(h2:SG g gf)(h3:SSb P q tb body):SSb P q (tFor wi g tb) (sFor f gf body):=by
 intro fx H0 env σ H D hT h o e qq
 unfold sFor at e
 obtain⟨⟨ds,bs⟩,er,e⟩:=qA.mp e
 refine h1 fx H0 env σ H h ds bs er _ λJ H1 s yl=>?_
 have hE:=(h.up s).frzs bs
 have fl:=hE.floor
 refine⟨λi m σ' H'=>m=ds.length - i/\i<=ds.length/\∃env',forL gf body (ds.drop i) env'=some o/\EnvOk fx (Offs (own (frzs env bs) σ) H1) env' σ' H',⟨ds.length,rfl,qAl _,_,e,hE.rebase⟩,?_⟩
 rintro i m σ' H' ⟨rfl,hi,env',e',h'⟩
 obtain⟨yi,ys⟩:=yl _ H' h'.all h'.seen
 by_cases hlt:i<ds.length
 ·obtain⟨yg,yy⟩:=yi i ds[i] (qH hlt)
  refine .inr ⟨yg,λσ'' H''=>i+1<=ds.length/\∃env'',forL gf body (ds.drop (i+1)) env''=some o/\EnvOk fx (Offs (own (frzs env bs) σ) H1) env'' σ'' H'',?_,?_⟩
  ·rintro σ'' H'' ⟨hle,env'',e'',h''⟩
   exact⟨ds.length - (i+1),by omega,rfl,hle,env'',e'',h''⟩
  ·intro x H'' hy
   obtain⟨sy,ry⟩:=yy x H'' hy
   rw[qAt hlt]at e'
   obtain⟨e1,ee1,e'⟩:=qA.mp e'
   obtain⟨o1,eo1,e'⟩:=qA.mp e'
   refine h2 fx _ env' σ' H'' _ x (h'.up sy) ry e1 ee1 _ λσ2 h2'=>h3 fx _ e1 σ2 H'' _ (fl _ _ hT) h2' o1 eo1 ?_
   cases o1 with
   | nx e2=>exact λσ3 H3 hh=>⟨hlt,e2,e',hh⟩
   | ct e2=>exact λσ3 H3 hh=>⟨hlt,e2,e',hh⟩
   | bk e2=>cases e';exact λσ3 H3 hh=>qq σ3 H3 (hh.unbase fl)
   | rt d fr=>cases e';exact λv H3 sh rt=>qq v H3 (fl.trans sh) (rt.unbase fl)
 ·have hi':i=ds.length:=by omega
  subst hi'
  rw[qBK]at e'
  cases e'
  exact .inl ⟨ys,qq σ' H' (h'.unbase fl)⟩
end
structure LamI where
 params:Arguments
 body:Expr
 scope:Scope
 NB:List Str
 js:List Nat
 tb:Hp->XK->TE
def Clo(X:Cx)(P:Addr)(L:LamI)(H:Hp)(g:Addr):Prop:=∃(pm:Value)(c':Addr)(ctv:Value),H g=some (.frz (kla_obj "<lambda>" (lamQ X) L.params L.body L.scope (clF L.scope X.env) pm c' ctv) (.own g))/\zazq (lamQ X) H c' P
theorem Clo.same(s:∀b o u,H b=some (.frz o u)->H1 b=some (.frz o u))(h:Clo X P L H g):Clo X P L H1 g:=by
 obtain⟨pm,c',ctv,e,oc,vs,t,e2,r⟩:=h
 exact⟨pm,c',ctv,s _ _ _ e,oc,vs,t,s _ _ _ e2,r⟩
structure LamOk(X:Cx)(j:Nat)(L:LamI):Prop where
 S:LamScope L.NB L.scope
 dfl:defaultsOf L.params X.env=([],[])
 bind:∀(cl:List (Str×Addr))(pm cd ctv:Value),bindArgs (kla_fn "<lambda>" (lamQ X) L.params L.body L.scope cl pm cd ctv) ⟨[],[]⟩=pure []
 free:frB L.scope X.env.scope=true
 js:L.js.map (λi=>X.N[i]?)=L.NB.map some
 hB:∀(A:Around)(outer:List Env)(s:Shared)(H:Hp)(E:XK)(g c':Addr)(cl:List (Str×Addr)),Room j (A.deeper (envX (lamQ X) L.scope s.heap.objs.size g (.ref c') cl))->HOk X.prog X.w H s.heap->Bx (PE (zabf (CXE X.prog X.w) X.prog X.w X.K X.mg X.base L.NB (lamQ X) L.scope g (.ref c') cl A outer s H E) L.body (L.tb H E))
theorem LamOk.fr{X:Cx}{L:LamI}(h:LamOk X j L):∀q∈L.scope.names,q.2=.free->X.env.kindOf q.1=some .cell:=frB.of h.free
section
variable{X:Cx}{pins:List (Addr×Obj)}{σ:St}{H:Hp}{s:Shared}
theorem Inv.put(I:Inv X pins σ H s)(n:H f=none)(n0:X.s₀.heap.get? f=none)(nl:f≠X.env.locals)(nc:∀x c,X.env.cells.lookup x=some c->c≠f)(np:∀p∈X.pn++pins,p.1≠f)(new:zek X.prog X.w (upd H f u) s.heap f u):Inv X pins σ (upd H f u) s:=by
 have up:∀b o,H b=some o->upd H f u b=some o:=λb o e=>by rw[zap (zay e n)];exact e
 refine⟨I.ok,I.os,I.bare,⟨I.base.keep,I.base.slot,λb o e m hx=>?_,I.base.there,λb xs e=>up _ _ (I.base.tups b xs e),λb o v e=>up _ _ (I.base.frzs b o v e),λb ps e=>?_⟩,I.loc,I.cell,?_,λx c e=>?_,λp hp=>?_,λb v e=>?_,I.len⟩
 ·rw[zap (λz=>by rw[z,n0]at e;cases e)];exact I.base.free b o e m hx
 ·obtain⟨more,e⟩:=I.base.tbls b ps e;exact⟨more,up _ _ e⟩
 ·rw[zap (qAp nl)];exact I.free
 ·rw[zap (nc x c e)];exact I.freeC x c e
 ·obtain⟨p1,p2,p3⟩:=I.pin p hp
  exact⟨p1,by rw[zap (np p hp)];exact p2,p3⟩
 ·by_cases hb:b=f
  ·subst hb;rw[zal]at e;cases e;exact new
  ·rw[zap hb]at e
   exact(I.hok b v e).stay (λ_ _ _ z=>z) (λc z=>up _ _ z) (λc xs z=>up _ _ z) (λc o z=>up _ _ z)
def tLam(P:Addr)(q:Str)(C:Hp->Addr->Prop):TE:=λ_ H Q=>H P=some (.tabO q)/\∀g H1,Same H H1->H g=none->C H1 g->Q (.ref g) H1
theorem zuk{L:LamI}(ok:LamOk X j L)(hcode:X.env.code=.ref c)(C:CodeHd X.base c P)(hbm:BM X.mg X.base)(hex:X.ex=[]):Bx (PE X (.Lambda L.params L.body L.scope pos) (tLam P (lamQ X) (Clo X P L))):=by
 refine⟨λpins s σ H Q I h=>?_⟩
 obtain⟨hP,h⟩:=h
 refine zapn I hcode C hP hbm (zaic λp hp hf=>I.ok.has p.1 (.inl (ok.fr p hp hf))) ok.dfl λs1 H1 f c' ctv pm I1 hH1 nf hob hrec hf0=>?_
 have sm:Same H H1:=by
  rcases hH1 with rfl|⟨n,oc,rfl⟩
  ·exact Same.refl _
  ·exact Same.new n
 have ns:∀b o,s.heap.get? b=some o->b≠f:=λb o e z=>by rw[z,hf0]at e;cases e
 have I2:=I1.put (f:=f) (u:=.frz _ (.own f)) nf (by
   cases e:X.s₀.heap.get? f with
   | none=>rfl
   | some o=>
    obtain⟨o',e'⟩:=I.base.there f o e (by rw[hex];simp)
    exact absurd rfl (ns _ _ e'))
  (λz=>by obtain⟨m,⟨o,es,ep,e,_⟩,_⟩:=I.loc;exact ns _ _ e z.symm)
  (λx c e z=>by obtain⟨v,o,e',_⟩:=I.cell x c e;exact ns _ _ e' z)
  (λp hp z=>ns _ _ (I.pin p hp).1 z) ⟨hob,_,hob⟩
 exact⟨.ref f,_,I2,rfl,h f _ (sm.trans (Same.new nf)) (I.hok.no hf0) ⟨pm,c',ctv,zal,by
  obtain⟨oc,vs,t,e,r⟩:=hrec
  exact⟨oc,vs,t,by rw[zap (zay e nf)];exact e,r⟩⟩⟩
end
def zasy(X:Cx)(P:Addr)(Ls:List LamI)(σ0:St)(i:Nat)(tol:(Hp->VK->XK->Prop)->Hp->VK->Prop):TE:=λτ H Q=>H P=some (.tabO (lamQ X))/\∃g L,τ[i]?=some (some (.ref g))/\L∈Ls/\Clo X P L H g/\∃vs:List V,(L.js.map λj=>σ0[j]?)=vs.map (λv=>some (some v))/\
 ∃R:Hp->VK->XK->Prop,(∀H' Q' E',R H' Q' E'->L.tb H' E' (vs.map some) H' Q')/\tol R (hidP P H) (λv H'=>(∀b,hidB P H b=true->H' b=none)->Q v (resP P H H'))
section
variable{X:Cx}{pins0:List (Addr×Obj)}{σ0:St}{H0:Hp}{s0:Shared}{sc:Scope}{N' own:List Str}{cl:List (Str×Addr)}{C P:Addr}{fp:List Addr}{k j i:Nat}{Ls:List LamI}{pr tn y:Str}{tol:(Hp->VK->XK->Prop)->Hp->VK->Prop}{p yp pos:Pos}
theorem zamg(D:DnT X.prog X.w X.K X.mg X.base tn pr k (j+1) tol)(I0:Inv X pins0 σ0 H0 s0)(hfp:∀b∈fp,FpOk X pins0 H0 b)(hr:Room k X.A)(hg:Gl (cxComp X sc N' own cl C s0 H0 fp) tn)(ok:∀L∈Ls,LamOk X j L)
  (hi:N'[i]?=some y)(hv:visB (cxComp X sc N' own cl C s0 H0 fp).env.scope y=true)(hdy:(y==("__debug__":Str))=false)(hcy:(y==("__classdict__":Str))=false)
  (hdb:(tn==("__debug__":Str))=false) (he:starEach [.Name y yp] (cxComp X sc N' own cl C s0 H0 fp).env=(false,eval (.Name y yp) (cxComp X sc N' own cl C s0 H0 fp).env)::starEach [] (cxComp X sc N' own cl C s0 H0 fp).env) (hpl:(backTo pos (starEach [] (cxComp X sc N' own cl C s0 H0 fp).env)).any (·.1)=false) :
  Bx (PE (cxComp X sc N' own cl C s0 H0 fp) (.Call (.Name tn p) [.Name y yp] [] pos) (zasy X P Ls σ0 i tol)):=by
 obtain⟨f,fd,T,hm,hk,hb⟩:=D
 refine⟨λpins s τ H Q I h=>?_⟩
 obtain⟨hP,g,L,hτ,hL,hclo,vs,hvs,R,hR,hT⟩:=h
 refine qBS (zte I hg hm ?_ hdb)
 refine qCL (h₀:=X.base) I.ok.mod.kin hk ?_ he hpl
 rw[he]
 show wpAny _ _ (spliced ((false,eval (.Name y yp) (cxComp X sc N' own cl C s0 H0 fp).env)::backTo pos (starEach [] (cxComp X sc N' own cl C s0 H0 fp).env))) _ _ s
 refine qDc (thn (zafc (X:=cxComp X sc N' own cl C s0 H0 fp) hi (visB.of hv) hdy hcy pins s τ H (λv H'=>v=.ref g/\H'=H) I ⟨_,hτ,rfl,rfl⟩) λu s1 ⟨v,H1,I1,rv,ev,eH⟩=>?_)
 subst ev
 subst eH
 cases rv
 refine Calls.spliced_nil ⟨I1.kIn,?_⟩
 obtain⟨pm,c',ctv,eg,hrec⟩:=hclo
 have hob:=(I1.hok g _ eg).1
 have ok:=ok L hL
 have un0:Un (cxComp X sc N' own cl C s0 H0 fp).fs fp H0 H1 s0.heap s1.heap:=I1.base
 have cellK:∀x c,X.env.cells.lookup x=some c->∀v,s0.heap.IsCell c v->s1.heap.IsCell c v/\H1 c=none:=λx c e v ⟨o,eo,d⟩=>by
  have n:=I0.freeC x c e
  have hx:c∉fp:=λm=>(hfp c m).2.2.2.2.1 x c e rfl
  obtain⟨sl,z⟩:=un0.any eo n hx
  exact⟨⟨_,z,d⟩,un0.free c o eo n hx⟩
 have cellOf:∀x c,(clF L.scope X.env).lookup x=some c->(∃v,s1.heap.IsCell c v)/\H1 c=none:=λx c z=>by
  obtain⟨v,iv⟩:=I0.cell x c (zil z)
  obtain⟨a1,a2⟩:=cellK x c (zil z) v iv
  exact⟨⟨v,a1⟩,a2⟩
 have fr:∀x,L.scope.names.lookup x=some .free->∃c,(clF L.scope X.env).lookup x=some c:=λx z=>by
  have m:=qp z
  obtain⟨c,e⟩:=I0.ok.has x (.inl (ok.fr _ m rfl))
  exact⟨c,zalb m e⟩
 have lenV:vs.length=L.NB.length:=by
  have h1:=congrArg List.length hvs
  have h2:=congrArg List.length ok.js
  simp only[qC]at h1 h2
  omega
 have val:∀(i:Nat)(x:Str)(v:V),L.NB[i]?=some x->vs[i]?=some v->∃c u,(clF L.scope X.env).lookup x=some c/\s1.heap.IsCell c (some u)/\RelV v u:=λi x v e1 e2=>by
  have h1:=congrArg (λl=>l[i]?) ok.js
  have h2:=congrArg (λl=>l[i]?) hvs
  simp only[qN]at h1 h2
  rw[e1]at h1
  rw[e2]at h2
  cases ej:L.js[i]? with
  | none=>rw[ej]at h1;cases h1
  | some jj=>
   rw[ej]at h1 h2
   have g1:X.N[jj]?=some x:=qX h1
   have g2:σ0[jj]?=some (some v):=qX h2
   have kf:L.scope.names.lookup x=some .free:=ok.S.free x (qAe e1)
   have kc:X.env.kindOf x=some .cell:=ok.fr _ (qp kf) rfl
   obtain⟨m,hn,hl⟩:=I0.loc
   obtain⟨u,rv,lk⟩:=hl jj x v g1 g2 (.inr (.inl kc))
   rcases lk with⟨z,_⟩|⟨_,c,ec,ic⟩
   ·rw[kc]at z;cases z
   ·exact⟨c,u,zalb (qp kf) ec,(cellK x c ec _ ic).1,rv⟩
 have As:Asks X.prog X.w X.K X.mg X.base (CXE X.prog X.w) (j+1) (frs X.stack) s1 (hidP P H1) g R:=by
  intro A outer s' H' Q' E' hr' e0 un hR'
  obtain⟨sl,hg'⟩:=un.any hob (zafv (zasp eg)) (by simp)
  obtain⟨oc,vs2,t,hown,hd,hv⟩:=hrec
  have hoc:=(I1.hok _ _ hown).1
  obtain⟨sl2,hc'⟩:=un.any hoc (zafv (zaso hown)) (by simp)
  have ic:∀c v,s1.heap.IsCell c v->H1 c=none->s'.heap.IsCell c v:=λc v ⟨o,e,d⟩ n=>by
   obtain⟨sl,z⟩:=un.any e (znp n) (by simp)
   exact⟨_,z,d⟩
  refine zavc (N:=L.NB) (vs:=vs) ok.S hr' e0 hg' rfl ⟨c',_,vs2,t,rfl,hc',hd,hv⟩ (ok.bind _ _ _ _) ⟨λx y c z1 z2=>I0.ok.inj x y c (zil z1) (zil z2),fr,λx c z=>?_,λi x v e1 e2=>?_,lenV⟩ λrm=>⟨_,(ok.hB A outer s' H' E' g c' _ rm e0.hok).out,hR H' Q' E' hR'⟩
  ·obtain⟨⟨v,iv⟩,n⟩:=cellOf x c z
   refine⟨⟨v,ic c v iv n⟩,?_⟩
   obtain⟨o,e,_⟩:=iv
   exact un.free c o e (znp n) (by simp)
  ·obtain⟨c,u,a1,a2,a3⟩:=val i x v e1 e2
   exact⟨c,u,a1,ic c _ a2 (cellOf x c a1).2,a3⟩
 have e0:=I1.env0
 have e0':Env0 X.prog X.w X.K X.mg X.base X.A X.stack s1 (hidP P H1):=⟨e0.frames,e0.mod,λb o z=>⟨(e0.bs b o z).1,znp (e0.bs b o z).2⟩,e0.bsz,e0.funs,λb z=>znp (e0.frf b z),zazp hP e0.hok,e0.bare⟩
 refine qCV (qBl (T.run X.A X.stack s1 (hidP P H1) ⟨[.ref g],[]⟩ g R _ hr e0' (hb s1 [.ref g] I1.kIn rfl) ⟨_,_,_,_,hob⟩ (zafv (zasp eg)) As hT) λres s' hq=>?_)
 cases res with
 | error e=>exact hq.elim
 | ok fl=>
  cases fl with
  | ret u=>
   obtain⟨v,H2,os,bare,un,ok,rv,q2⟩:=hq
   obtain⟨un',ok',hn⟩:=zapm hP I1.hok I1.stkFree un ok
   exact⟨v,_,I1.call' os un' ok' bare (λb z=>absurd z (by simp)),rv,q2 hn⟩
  | next=>exact False.elim hq
  | brk=>exact False.elim hq
  | cont=>exact False.elim hq
end
section
variable{X:Cx}{pins:List (Addr×Obj)}{σ:St}{H:Hp}{s:Shared}{scope:Scope}{N' own:List Str}{fr:List Nat}
def zamh(wi:TI)(g:TG)(tt:TT)(tm:St->Addr->TM)(own:List Str)(fr:List Nat):TE:=λσ H Q=>wi σ H λJ H1=>∀p,H1 p=none->zaht J g tt (tm σ p) (tau own fr σ) (upd H1 p (.lst [])) (λ_ H'=>Q (.ref p) H')
theorem zaqq{elt0 target iter:Expr}{ifs:List Expr}{rest:List Comprehension}{cpos:Pos}{wi:TI}{g:TG}{tt:TT}{tm:St->Addr->TM}{emit:Value->Env->Sem Unit}(c:CompOk X scope N' own fr)(hc:X.calm=true)
  (eq:∀it acc env,compTurn (.ListComp elt0 (⟨target,iter,ifs,0⟩::rest) scope cpos) 0 it acc env=(do
   standAt iter.pos
   match <- pyNext it with
   | none=>pure (.done .next)
   | some v=>
    letOwnedTupleGo target it v
    assign target env v
    let mut ok:=true
    for c in ifs do
     if ok then ok <- isTrue c env (eval c env)
    if ok then emit acc env
    again (.compLoop (.ListComp elt0 (⟨target,iter,ifs,0⟩::rest) scope cpos) 0 it acc env)))
  (hi:PI X target iter wi)
  (hb:∀(pins:List (Addr×Obj)) (σ:St) (cl:List (Str×Addr)) (C:Addr) (s:Shared) (H:Hp) (fp:List Addr) (p:Addr),Inv X pins σ H s->(∀b∈fp,FpOk X pins H b)->PG (cxComp X scope N' own cl C s H fp) target g/\PF (cxComp X scope N' own cl C s H fp) ifs tt/\PM (cxComp X scope N' own cl C s H fp) (emit (.ref p) (compEnvC scope cl C X.env)) (tm σ p))
  (hs:∀x,foldedSetIterable iter X.env x=pure x:=by intro _;rfl) :
  PE X (.ListComp elt0 (⟨target,iter,ifs,0⟩::rest) scope cpos) (zamh wi g tt tm own fr):=by
 intro pins s σ H Q I h
 rw[eval_ListComp]
 refine qCE (use:=none) rfl hs (zja (zmc c I.ok)) c.kind (λy hy e=>(c.names y hy).trans (by rw[e])) ?_
 refine thn (hi pins s σ H _ I h) λv s1 h1=>thn h1 λitv s2 h2=>?_
 obtain⟨it,fp,tn,J,H2,e,I2,T,st2,f2,q⟩:=h2
 subst e
 refine ztm (Q:=Q) c hc eq T (hb pins σ) I2 st2 f2 q λp C m H' s' I' hn hC q'=>?_
 exact⟨m,hn,λh' sb=>⟨.ref p,H',I'.turned (t':=s'.toks) (λb o hb e=>(sb.2 b hb).trans e) hC.1 hC.2.1 hC.2.2.2.1 hC.2.2.2.2.1 hC.2.2.2.2.2,rfl,q'⟩⟩
theorem zami{elt target iter:Expr}{ifs:List Expr}{cpos:Pos}{wi:TI}{g:TG}{tt:TT}{te:St->TE}(c:CompOk X scope N' own fr)(hc:X.calm=true)(hi:Bx (PI X target iter wi))
  (hb:∀(pins:List (Addr×Obj)) (σ:St) (cl:List (Str×Addr)) (C:Addr) (s:Shared) (H:Hp) (fp:List Addr),Inv X pins σ H s->(∀b∈fp,FpOk X pins H b)->PG (cxComp X scope N' own cl C s H fp) target g/\PF (cxComp X scope N' own cl C s H fp) ifs tt/\PE (cxComp X scope N' own cl C s H fp) elt (te σ))
  (hs:∀x,foldedSetIterable iter X.env x=pure x):Bx (PE X (.ListComp elt [⟨target,iter,ifs,0⟩] scope cpos) (zamh wi g tt (λσ p=>zyx p (te σ)) own fr)):=
 ⟨zaqq (emit:=λacc env=>do let _ <- call (.builtin "list.append") [acc,<- eval elt env]) c hc (λ_ _ _=>rfl) hi.out
  (λpins σ cl C s H fp p I hf=>⟨(hb pins σ cl C s H fp I hf).1,(hb pins σ cl C s H fp I hf).2.1,zyy (hb pins σ cl C s H fp I hf).2.2⟩) hs⟩
end
def LamS(P:Addr)(q:Str)(tol:(Hp->VK->XK->Prop)->Hp->VK->Prop)(L:LamI)(f:EF):Prop:=∀(fx:Addr->Prop)(H0:Hp)(env:DEnv)(σ:St)(H:Hp),TbH P q H->EnvOk fx H0 env σ H->∀r,f env=some r->
 ∃vs:List V,(L.js.map λj=>σ[j]?)=vs.map (λv=>some (some v))/\∃R:Hp->VK->XK->Prop,(∀H' Q' E',R H' Q' E'->L.tb H' E' (vs.map some) H' Q')/\
  ∀Q:VK,(∀v H',((∀b,hidB P H b=true->H' b=none)->Same H (resP P H H')/\Rp (resP P H H') r.d v)->Q v H')->tol R (hidP P H) Q
theorem zamj{cl:Str->Addr}{g:ResX->Option PyData}(ha:SA ta a) :
  LamS P q (tolD cl g) ⟨params,body,scope,NB,js,λH E=>tCall (spX cl n gf) [] (StX H E) ta⟩ (zhk js n gf a g):=by
 intro fx H0 env σ H hT h rr hr
 unfold zhk at hr
 obtain⟨cs,ec,hr⟩:=qA.mp hr
 obtain⟨rs,er,hr⟩:=qA.mp hr
 split at hr
 ·rename_i hn
  obtain⟨r,eg,hr⟩:=qA.mp hr
  obtain⟨d,ed,rfl⟩:=qG.mp hr
  obtain⟨vs,ev,Hx,sx,hv⟩:=zabn js (zamf js fx H0 env σ H h cs ec (λvs H'=>∃Hx,Same H Hx/\Hx=H'/\Rps (Offs (lim fx env σ (bss cs)) H') (zds cs) vs) λvs H' s v1=>⟨H',s,rfl,zfd (λi hi=>hi) v1⟩)
  obtain⟨rfl,hv⟩:=hv
  have hA:=h.lims (bss cs)
  let fx':Addr->Prop:=λb=>lim fx env σ (bss cs) b/\hidB P Hx b=false
  have fxs:∀b,fx' b->∃o,hidP P Hx b=some o:=λb ⟨z1,z2⟩=>by
   obtain⟨o,e⟩:=hA b z1
   exact⟨o,by rw[zafu z2];exact e⟩
  have dat:∀(H':Hp),Same (hidP P Hx) H'->∀b o,Offs (lim fx env σ (bss cs)) Hx b=some o->zamd o=true->Offs fx' H' b=some o:=λH' s' b o e hd=>by
   obtain⟨nl,e⟩:=Offs.of e
   have nb:b≠P:=λz=>by rw[z,hT]at e;cases e;cases hd
   rw[Offs.get (λz=>nl z.1)]
   exact s' _ _ (zub e nb (zaql hd))
  refine⟨vs,ev,λH' Q' E'=>Same (hidP P Hx) H'/\ResW cl H' Q' E' r,λH' Q' E' ⟨s',rw'⟩=>?_,λQ qq=>⟨fx',r,d,fxs,λH' Q' E' s' w=>⟨s',w⟩,ed,λv H' s' rp=>qq v H' λhn'=>?_⟩⟩
  ·have hE:=zavv (fx:=fx') (H:=H') (λb z=>let⟨o,e⟩:=fxs b z;⟨o,s' _ _ e⟩) (rps_dat (dat H' s') _ hv)
   refine ha fx' H' _ _ H' hE rs er _ λws H2 s2 v2=>?_
   refine⟨lim fx' ((zds cs).map .pl) (vs.map some) (bss rs),zds rs,r,by rw[zez];exact hn,(hE.up s2).lims _,by rw[qw];exact zfd (λi hi=>hi) v2,eg,?_⟩
   cases r with
   | ok d' fr'=>exact λv H3 s3 _=>rw' v H3 (s2.trans s3)
   | rx c d'=>exact λk od H3 z=>RX.stx (H0:=H') rw' (RX.base s2 z)
  ·have key:∀b o,H' b=some o->resP P Hx H' b=some o:=λb o e=>by
    cases hb:hidB P Hx b with
    | true=>rw[hn' b hb]at e;cases e
    | false=>rw[zmt hb];exact e
   refine⟨λb o e=>?_,zame (λb o e _=>key b o (Offs.of e).2) _ rp⟩
   cases hb:hidB P Hx b with
   | true=>rw[zabe hb];exact e
   | false=>exact key b o (s' _ _ (by rw[zafu hb];exact e))
 ·cases hr
theorem EnvOk.atNo{fx:Addr->Prop}{σ:St}(h:EnvOk fx H0 env σ H)(hx:env[x]?=some .no):EnvOk fx H0 env (σ.set x v) H:=by
 have ne:∀(i:Nat)(sl:Sl),env[i]?=some sl->sl≠.no->(σ.set x v)[i]?=σ[i]?:=λi sl e n=>by
  rw[qa]
  intro z
  rw[<- z,hx]at e
  cases e
  exact n rfl
 have ho:own env (σ.set x v)=own env σ:=funext λa=>propext ⟨λ⟨i,d,e1,e2⟩=>⟨i,d,e1,(ne i _ e1 (by simp))▸e2⟩,λ⟨i,d,e1,e2⟩=>⟨i,d,e1,by rw[ne i _ e1 (by simp)];exact e2⟩⟩
 refine⟨by rw[qd];exact h.len,λi d e=>?_,λi d e=>?_,λi j d e a h1 h2 h3 h4=>?_,h.base,h.fxs⟩
 ·rw[ne i _ e (by simp),ho];exact h.pl i d e
 ·rw[ne i _ e (by simp),ho];exact h.ac i d e
 ·rw[ne i _ h1 (by simp)]at h3
  rw[ne j _ h2 (by simp)]at h4
  exact h.inj i j d e a h1 h2 h3 h4
structure AskSt(X:Cx)(P:Addr)(Ls:List LamI)(Hs:Hp)(l:Addr)(gs:List Addr)(H:Hp):Prop where
 same:Same Hs H
 new:Hs l=none
 lst:H l=some (.lst (gs.map .ref))
 len:gs.length=Ls.length
 clo:∀(i:Nat) L g,Ls[i]?=some L->gs[i]?=some g->Clo X P L H g
def zasz(x:Nat)(tl:TE):TS:=tAsg (tLst (tCons tl tNil)) (gName x)
def zamk(K:qB)(x:Nat)(tl:TE):TS:=tDrop (tBM K "list" ztj (tVar x) (tCons tl tNil))
def zavz(K:qB)(X:Cx)(P:Addr)(x:Nat):List LamI->TS->TS
 | [],r=>r
 | L::Ls,r=>tSeq (zamk K x (tLam P (lamQ X) (Clo X P L))) (zavz K X P x Ls r)
section
variable{K:qB}{X:Cx}{P:Addr}{x:Nat}
theorem zaml {σ:St} (hT:TbH P (lamQ X) H) (k:∀l g H1,AskSt X P [L] H l [g] H1->u D (σ.set x (some (.ref l))) H1):tSeq (zasz x (tLam P (lamQ X) (Clo X P L))) u D σ H:=by
 refine⟨hT,λg H1 s n c=>⟨(show 1<=qU by decide),λp hp=>k p g _ ⟨λb o e=>?_,?_,zal,rfl,λi L' g' e1 e2=>?_⟩⟩⟩
 ·have:=s _ _ e
  rw[zap (zay this hp)];exact this
 ·cases e:H p with
  | none=>rfl
  | some o=>rw[s _ _ e]at hp;cases hp
 ·cases i with
  | zero=>cases e1;cases e2;exact c.same λb o u e=>by rw[zap (zay e hp)];exact e
  | succ i=>cases e1
theorem zawa{Ls:List LamI}(hT:TbH P (lamQ X) Hs)(st:AskSt X P Ls Hs l gs H)(hz:Ls.length<100000)(hσ:σ[x]?=some (some (.ref l)))(k:∀g H1,AskSt X P (Ls++[L]) Hs l (gs++[g]) H1->u D σ H1) :
  tSeq (zamk K x (tLam P (lamQ X) (Clo X P L))) u D σ H:=by
 refine⟨.ref l,hσ,.inl ⟨rfl,_,.inl (.inl st.lst)⟩,st.same _ _ hT,λg H1 s n c=>⟨l,gs.map .ref,.ref g,rfl,rfl,s _ _ st.lst,by rw[qC,st.len];exact zkn hz,k g _ ?_⟩⟩
 have hl1:=s _ _ st.lst
 have kp:∀b o u,H1 b=some (.frz o u)->upd H1 l (.lst (gs.map .ref++[.ref g])) b=some (.frz o u):=λb o u e=>by rw[zap (λz=>by rw[z,hl1]at e;cases e)];exact e
 refine⟨λb o e=>?_,st.new,?_,?_,λi L' g' e1 e2=>?_⟩
 ·rw[zap (zay e st.new)];exact s _ _ (st.same _ _ e)
 ·rw[qAJ];exact zal
 ·rw[qO,qO,st.len];rfl
 ·by_cases hi:i<Ls.length
  ·rw[qAE hi]at e1
   rw[qAE (by rw[st.len];exact hi)]at e2
   exact(st.clo i L' g' e1 e2).same λb o u e=>kp b o u (s _ _ e)
  ·rw[qAB (qCi hi)]at e1
   rw[qAB (by rw[st.len];exact qCi hi),st.len]at e2
   cases hk:i - Ls.length with
   | zero=>rw[hk]at e1 e2;cases e1;cases e2;exact c.same kp
   | succ m=>rw[hk]at e1;cases e1
theorem zagd(hT:TbH P (lamQ X) Hs)(hσ:σ[x]?=some (some (.ref l))):∀(Ls2 Ls1:List LamI)(gs:List Addr)(H:Hp),AskSt X P Ls1 Hs l gs H->(Ls1++Ls2).length<100000->
  (∀gs' H',AskSt X P (Ls1++Ls2) Hs l gs' H'->u D σ H')->zavz K X P x Ls2 u D σ H
 | [],Ls1,gs,H,st,_,k=>k gs H (by rw[qw];exact st)
 | L::Ls2,Ls1,gs,H,st,hz,k=>by
  refine zawa hT st (by rw[qO,qy]at hz;omega) hσ λg H1 st1=>zagd hT hσ Ls2 (Ls1++[L]) _ H1 st1 (by rw[qBC];exact hz) λgs' H' st'=>k gs' H' (by rw[qBC]at st';exact st')
def aAsk(j:Nat):List EF->AF
 | []=>aNil
 | f::fs=>zaa (eOp eqD f (eVar j)) (aAsk j fs)
def zamm(K:qB)(X:Cx)(P:Addr)(Ls:List LamI)(x j:Nat)(y:Str)(tol:(Hp->VK->XK->Prop)->Hp->VK->Prop):TS:=
 tRet (tCB (rAny K λbs=>bs.all id) (tCons (zamh (iSeq K (tVar x)) (gName 0) tAll (λσ p=>zyx p (tOp (λx y H Q=>rEq x y H Q\/rEqD K false x y H Q) (zasy X P Ls σ 0 tol) (tVar 1))) [y] [j]) tNil))
theorem zage:∀{fs:List EF}{rs:List Val},aAsk j fs env=some rs->rs.length=fs.length/\∀(i:Nat) f,fs[i]?=some f->∃r r' b,f env=some r/\eVar j env=some r'/\eqD r.d r'.d=some (.bool b,false)/\(rs[i]?).map (·.d)=some (.bool b)
 | [],rs,h=>by cases h;exact⟨rfl,λi f e=>by cases e⟩
 | f::fs,rs,h=>by
  unfold aAsk zaa eOp at h
  obtain⟨r0,e0,h⟩:=qA.mp h
  obtain⟨rs',er,rfl⟩:=qG.mp h
  obtain⟨a,ea,e0⟩:=qA.mp e0
  obtain⟨b,eb,e0⟩:=qA.mp e0
  obtain⟨⟨d,fr⟩,ez,e0⟩:=qA.mp e0
  cases e0
  obtain⟨h1,h2⟩:=zage er
  refine⟨by rw[qy,qy,h1],λi f' e=>?_⟩
  cases i with
  | succ i=>exact h2 i f' e
  | zero=>
   cases e
   have ez':=ez
   unfold eqD at ez'
   split at ez'
   ·cases ez';exact⟨a,b,_,ea,eb,ez,rfl⟩
   ·cases ez'
theorem zabo:∀{ds:List PyData}{bs:List Bool},zot ds=some bs->ds=bs.map PyData.bool
 | [],bs,h=>by cases h;rfl
 | d::ds,bs,h=>by
  cases d with
  | bool b=>
   obtain⟨cs,ec,rfl⟩:=qG.mp h
   rw[zabo ec];rfl
  | _=>cases h
theorem zamn(h:Rp H d v):Rp (Offs (λ_=>False) H) d v:=Rp.same (λb o e=>by rw[Offs.get (λz=>z)];exact e) _ h
theorem zawb{tol:(Hp->VK->XK->Prop)->Hp->VK->Prop}{Ls:List LamI}{fs:List EF}(hlen:Ls.length=fs.length)(hS:∀(i:Nat) L f,Ls[i]?=some L->fs[i]?=some f->LamS P (lamQ X) tol L f)
  {fx:Addr->Prop}(hT:TbH P (lamQ X) Hs)(hE:EnvOk fx H0 env σ H)(st:AskSt X P Ls Hs l gs H)(hσ:σ[x]?=some (some (.ref l)))
  (e:sRet (eCB (anyD λbs=>bs.all id) (zaa (eLst (aAsk j fs)) aNil)) env=some o) (sat:Sat fx H0 D o) (hne:0<fs.length):zamm K X P Ls x j y tol D σ H:=by
 unfold sRet at e
 obtain⟨r0,er,rfl⟩:=qG.mp e
 unfold eCB at er
 obtain⟨rs1,e1,er⟩:=qA.mp er
 obtain⟨⟨z,zf⟩,e2,er⟩:=qA.mp er
 cases er
 unfold zaa aNil at e1
 obtain⟨rl,e3,e1⟩:=qA.mp e1
 cases e1
 unfold eLst at e3
 obtain⟨rs,ea,e3⟩:=qA.mp e3
 split at e3
 ·rename_i hz
  cases e3
  obtain⟨bs,eb,e2⟩:=qG.mp (show(zot (zds rs)).map _=some (z,zf)from e2)
  cases e2
  have hd:=zabo eb
  obtain⟨ln,get⟩:=zage ea
  have lb:bs.length=fs.length:=by
   have:=congrArg List.length hd
   rw[zez,qC]at this
   omega
  have lg:gs.length=fs.length:=st.len.trans hlen
  obtain⟨f0,hf0⟩:∃f0,fs[0]?=some f0:=⟨fs[0],qH hne⟩
  obtain⟨_,r',_,_,ev,_,_⟩:=get 0 f0 hf0
  obtain⟨vd,hvd,rpd⟩:∃vd,σ[j]?=some (some vd)/\Rp H r'.d vd:=by
   obtain⟨v,e1,e2⟩:=zhh j fx H0 env σ H hE r' ev (λv H'=>H'=H->Rp H r'.d v) λv H' s hv eH=>by subst eH;exact Rp.same (Offs.same _ _) _ hv.rp
   exact⟨v,e1,e2 rfl⟩
  have sq:∀H',Same H H'->SqL K H' l (gs.map .ref):=λH' s=>.inl (.inl (s _ _ st.lst))
  refine⟨.ref l,hσ,l,rfl,.inl ⟨⟨_,sq H (Same.refl _)⟩,λp hp=>?_⟩⟩
  have s0:Same H (upd H p (.lst [])):=Same.new hp
  refine⟨λi m τ H'=>m=fs.length - i/\i<=fs.length/\(∃yv,τ=[yv,some vd])/\Same H H'/\H' p=some (.lst ((bs.take i).map V.bl)),⟨fs.length,rfl,qAl _,⟨none,?_⟩,s0,zal⟩,?_⟩
  ·show[none,σ.getD j none]=_
   rw[qAC,hvd];rfl
  ·rintro i m τ H' ⟨rfl,hi,⟨yv,rfl⟩,s',hp'⟩
   by_cases hlt:i<fs.length
   ·refine .inr ⟨⟨gs.map .ref,.ref (gs[i]'(by omega)),sq H' s',by rw[qN,qH];rfl⟩,λτ' H''=>i+1<=fs.length/\(∃yv,τ'=[yv,some vd])/\Same H H''/\H'' p=some (.lst ((bs.take (i+1)).map V.bl)),?_,?_⟩
    ·rintro τ' H'' ⟨a1,a2,a3,a4⟩
     exact⟨fs.length - (i+1),by omega,rfl,a1,a2,a3,a4⟩
    ·rintro v H'' ⟨rfl,hv⟩
     have hv:=hv _ (sq H'' s')
     rw[qN,qH (by omega)]at hv
     cases hv
     unfold gName tAll
     dsimp only
     rw[if_pos rfl]
     show(zyx p _) [some (V.ref (gs[i]'(by omega))),some vd] H'' _
     obtain⟨r,r2,b,g1,g2,g3,g4⟩:=get i (fs[i]) (qH hlt)
     rw[ev]at g2
     cases g2
     have hb:bs[i]?=some b:=by
      have q:(zds rs)[i]?=some (.bool b):=by unfold zds;rw[qN];exact g4
      rw[hd,qN]at q
      cases eb':bs[i]? with
      | none=>rw[eb']at q;cases q
      | some b'=>rw[eb']at q;cases q;rfl
     have hL:Ls[i]?=some (Ls[i]'(by omega)):=qH _
     have hg:gs[i]?=some (gs[i]'(by omega)):=qH _
     have clo:=(st.clo i _ _ hL hg).same (H1:=H'') λb o u e=>s' _ _ e
     obtain⟨vs,q1,R,q2,q3⟩:=hS i _ _ hL (qH hlt) fx H0 env σ H'' (s' _ _ (st.same _ _ hT)) (hE.up s') r g1
     refine⟨s' _ _ (st.same _ _ hT),_,_,rfl,qAe hL,clo,vs,q1,R,q2,q3 _ λv H3 hh hn=>?_⟩
     obtain⟨s3,rv⟩:=hh hn
     refine⟨vd,rfl,zaza (K:=K) (λ_=>False) _ v vd r.d r'.d (λ_ z=>z.elim) (zamn rv) (zamn (Rp.same (s'.trans s3) _ rpd)) _ _ g3 _ λw H4 s4 rw4 _=>?_⟩
     cases znk rw4
     refine⟨(bs.take i).map V.bl,s4 _ _ (s3 _ _ hp'),by rw[qC,qAV];exact zkn (by omega),hlt,⟨_,rfl⟩,λb' o e=>?_,?_⟩
     ·rw[zap (zay e hp)];exact s4 _ _ (s3 _ _ (s' _ _ e))
     ·rw[zal,List.take_add_one,hb];simp
   ·have hi':i=fs.length:=by omega
    subst hi'
    refine .inl ⟨⟨gs.map .ref,sq H' s',by rw[qC];omega⟩,p,bs,rfl,.inl (.inl (by rw[qBm (by omega)]at hp';exact hp')),?_⟩
    exact sat (.bl (bs.all id)) H' (hE.base.trans s') ⟨zbv,λz=>by cases z⟩
 ·cases e3
theorem zawc{N:List Str}{tol:(Hp->VK->XK->Prop)->Hp->VK->Prop}{fs:List EF}(hlen:(L0::Ls).length=fs.length)(hS:∀(i:Nat) L f,(L0::Ls)[i]?=some L->fs[i]?=some f->LamS P (lamQ X) tol L f)(hz:fs.length<100000)
  (hx:n<=x) (hxN:x<N.length) (h:spDT P (lamQ X) n (fnD N.length (sRet (eCB (anyD λbs=>bs.all id) (zaa (eLst (aAsk j fs)) aNil)))) vs H Q E) :
  tSeq (zasz x (tLam P (lamQ X) (Clo X P L0))) (zavz K X P x Ls (zamm K X P (L0::Ls) x j y tol)) {nx:=λ_ H'=>Q .non H',rt:=Q} (zfz N vs) H:=by
 obtain⟨hT,fx,ds,d,fr,hn,hf,r,g,k⟩:=h
 unfold fnD at g
 split at g
 ·rename_i d' fr' eo
  cases g
  have hE:=zhi (N:=N) hf r
  have hno:(zid N.length ds)[x]?=some .no:=by
   unfold zid
   rw[qAB (by rw[qC,hn];exact hx),qC,hn,qBF,if_pos (by omega)]
  have hxs:x<(zfz N vs).length:=by rw[<- hE.len];exact(qS.mp hno).1
  refine zaml hT λl g H1 st=>?_
  have hσ:((zfz N vs).set x (some (V.ref l)))[x]?=some (some (.ref l)):=by rw[qm hxs]
  refine zagd hT hσ Ls [L0] [g] H1 st (by rw[qO];simp at hlen ⊢;omega) λgs' H' st'=>?_
  exact zawb (Hs:=H) hlen hS hT ((hE.up st'.same).atNo hno) st' hσ eo (λv H2 s2 rt=>k v H2 s2 rt) (by rw[<- hlen];simp)
 ·rename_i e' eo
  unfold sRet at eo
  obtain⟨_,_,eo⟩:=qG.mp eo
  cases eo
 ·cases g
end
def zabp(st:Stmt)(k:Nat):Expr:=match(zdo st)[k]? with
 | some (.Assign _ (.List [e] _) _)=>e
 | some (.Expr (.Call _ [e] _ _) _)=>e
 | _=>default
def zabq(e:Expr):Arguments×Expr×Scope:=match e with
 | .Lambda p b s _=>(p,b,s)
 | _=>(default,e,default)
def mkL(st:Stmt)(k:Nat)(NB:List Str)(js:List Nat)(tb:Hp->XK->TE):LamI:=⟨(zabq (zabp st k)).1,(zabq (zabp st k)).2.1,(zabq (zabp st k)).2.2,NB,js,tb⟩
theorem zaqr{tol:(Hp->VK->XK->Prop)->Hp->VK->Prop}:∀(i:Nat) L f,([]:List LamI)[i]?=some L->([]:List EF)[i]?=some f->LamS P q tol L f:=λi L f e=>by cases e
theorem zkt{tol:(Hp->VK->XK->Prop)->Hp->VK->Prop}(h:LamS P q tol L0 f0)(hs:∀(i:Nat) L f,Ls[i]?=some L->fs[i]?=some f->LamS P q tol L f):∀(i:Nat) L f,(L0::Ls)[i]?=some L->(f0::fs)[i]?=some f->LamS P q tol L f
 | 0,L,f,e1,e2=>by cases e1;cases e2;exact h
 | i+1,L,f,e1,e2=>hs i L f e1 e2
theorem zaqs:∀L∈([]:List LamI),LamOk X j L:=λ_ h=>nomatch h
theorem zku(h:LamOk X j L0)(hs:∀L∈Ls,LamOk X j L):∀L∈L0::Ls,LamOk X j L:=λL m=>(qZ.mp m).elim (λe=>e▸h) (hs L)
section
variable{X:Cx}
theorem bpaC(h1:Bx (PE X e te))(h2:Bx (PA X es t))(h3:isStar e=false:=by rfl):Bx (PA X (e::es) (tCons te t)):=zde h1 h2 h3
theorem bpeD{x:Str}(D:Dn X.prog X.w X.K X.mg X.base x ps k sp)(hr:Room m X.A)(ha:Bx (PA X (e::es) t))(hm:k<=m:=by decide)(hg:Gl X x:=by rfl)(hd:(x==("__debug__":Str))=false:=by decide)
  (hs:isStar e=false:=by rfl) (hp:((backTo pos (starEach es X.env)).any λx=>x.1)=false:=by rfl):Bx (PE X (.Call (.Name x p) (e::es) [] pos) (tCall sp [] E0 t)):=zazy D (hr.mono hm) hg ha hd (zas hs) hp
theorem bpeB{x:Str}{p pos:Pos}{e:Expr}{es:List Expr}{t:TA}{id:String}{r:List V->Hp->VK->Prop}(hc:CallR X (.builtin id) r)(hm:X.mg x=none)(hb:bootBuiltins x=some (.builtin id))(ha:Bx (PA X (e::es) t))(hg:Gl X x:=by rfl)(h1:x≠("__name__":Str):=by decide)(h2:(x==("__debug__":Str))=false:=by decide)
  (hs:isStar e=false:=by rfl) (hp:((backTo pos (starEach es X.env)).any λx=>x.1)=false:=by rfl):Bx (PE X (.Call (.Name x p) (e::es) [] pos) (tCB r t)):=zalo hc hg hm hb ha h1 h2 (zas hs) hp
theorem bpeT{x:Str}{r:List V->Hp->VK->Prop}(hc:CallR X (.type T) r)(hm:X.mg x=none)(hb:bootBuiltins x=some (.type T))(ha:Bx (PA X (e::es) t))(hg:Gl X x:=by rfl)(h1:x≠("__name__":Str):=by decide)(h2:(x==("__debug__":Str))=false:=by decide)
  (hs:isStar e=false:=by rfl) (hp:((backTo pos (starEach es X.env)).any λx=>x.1)=false:=by rfl):Bx (PE X (.Call (.Name x p) (e::es) [] pos) (tCB r t)):=zaia hc hg hm hb ha h1 h2 (zas hs) hp
theorem bpsS{pos:Pos}(hN:X.N.Nodup)(hi:X.N[i]?=some x)(hl:Loc X.env.scope x)(he:Bx (PE X e te))(hs:swapsWith e (some (.Name x pos')) pos.line X.env=pure false:=by rfl)(hf:X.fn x=true\/X.env.scope.names.lookup x=some .local:=by exact .inl rfl):Bx (PS X (.Assign [.Name x pos'] e pos) (tAsg te (gName i))):=zavk hN hi hl he hs hf
theorem bpeX(hr:IxR X r)(h1:Bx (PE X a ta))(h2:Bx (PE X b tb))(hp:PlainIx b:=by exact λ_ _=>rfl):Bx (PE X (.Subscript a b pos) (tOp r ta tb)):=zazz hr h1 h2 hp
theorem bpgN(hN:X.N.Nodup)(hi:X.N[i]?=some x)(hl:Loc X.env.scope x)(hf:X.fn x=true\/X.env.scope.names.lookup x=some .local:=by first|exact .inl rfl|exact .inr rfl|assumption):Bx (PG X (.Name x pos) (gName i)):=zaqd hN hi hl hf
end
section
variable{P:Program}{w:World}{K:qB}{h:Heap}{mg:Str->Option Value}{base:Heap}{x:Str}{st:Stmt}{f:Addr}{fd:qAb}{ps:List Str}{k:Nat}{sp:Sp}
structure DefIn(K:qB)(x:Str)(st:Stmt)(f:Addr)(fd:qAb):Prop where
 ns:qAU K qg x=some (some (.ref f))
 fn:Fun K x x st f fd
theorem def_mk{oc:Value}{od an:Option Addr}{osl:Array (Option Value)}{kV doc pm cdv ct:Value}(a:qAU K qg x=some (some (.ref f)))(l:K.lookup f=some ⟨oc,od,.func (qAd x x (zfq st) (zdo st) (zah st) .none kV doc pm an cdv ct),osl⟩)
  (c:qBy K cdv x=true) (k:qAx K (.ref f)=true):DefIn K x st f (qAd x x (zfq st) (zdo st) (zah st) .none kV doc pm an cdv ct):=⟨a,zarz l c k⟩
theorem DefIn.b1(d:DefIn K x st f fd)(h:∀(kV doc pm:Value) (an:Option Addr) (cdv ct a:Value),bindArgs (qAd x x (zfq st) (zdo st) (zah st) .none kV doc pm an cdv ct) ⟨[a],[]⟩=pure [(p,a)]):ziy K fd [p] []:=
 d.fn.binds λkV doc pm an cdv ct us hl=>match us,hl with|[a],_=>h kV doc pm an cdv ct a
theorem DefIn.b2(d:DefIn K x st f fd)(h:∀(kV doc pm:Value) (an:Option Addr) (cdv ct a b:Value),bindArgs (qAd x x (zfq st) (zdo st) (zah st) .none kV doc pm an cdv ct) ⟨[a,b],[]⟩=pure [(p,a),(q,b)]):ziy K fd [p,q] []:=
 d.fn.binds λkV doc pm an cdv ct us hl=>match us,hl with|[a,b],_=>h kV doc pm an cdv ct a b
theorem DefIn.b3(d:DefIn K x st f fd)(h:∀(kV doc pm:Value) (an:Option Addr) (cdv ct a b c:Value),bindArgs (qAd x x (zfq st) (zdo st) (zah st) .none kV doc pm an cdv ct) ⟨[a,b,c],[]⟩=pure [(p,a),(q,b),(r,c)]):ziy K fd [p,q,r] []:=
 d.fn.binds λkV doc pm an cdv ct us hl=>match us,hl with|[a,b,c],_=>h kV doc pm an cdv ct a b c
theorem DefIn.b4(d:DefIn K x st f fd)(h:∀(kV doc pm:Value) (an:Option Addr) (cdv ct a b c e:Value),bindArgs (qAd x x (zfq st) (zdo st) (zah st) .none kV doc pm an cdv ct) ⟨[a,b,c,e],[]⟩=pure [(p,a),(q,b),(r,c),(s,e)]):ziy K fd [p,q,r,s] []:=
 d.fn.binds λkV doc pm an cdv ct us hl=>match us,hl with|[a,b,c,e],_=>h kV doc pm an cdv ct a b c e
theorem DefIn.b5(d:DefIn K x st f fd)(h:∀(kV doc pm:Value) (an:Option Addr) (cdv ct a b c e g:Value),bindArgs (qAd x x (zfq st) (zdo st) (zah st) .none kV doc pm an cdv ct) ⟨[a,b,c,e,g],[]⟩=pure [(p,a),(q,b),(r,c),(s,e),(t,g)]):ziy K fd [p,q,r,s,t] []:=
 d.fn.binds λkV doc pm an cdv ct us hl=>match us,hl with|[a,b,c,e,g],_=>h kV doc pm an cdv ct a b c e g
theorem DefIn.dn(d:DefIn K x st f fd)(X:K.In h)(G:h.Ns qg mg)(ok:FnOk P w K mg base CX0 k f fd ps sp)(b:ziy K fd ps []):Dn P w K mg base x ps k sp:=⟨f,fd,ok,qAh X G d.ns,d.fn.kp,b⟩
theorem DefIn.dx(d:DefIn K x st f fd)(X:K.In h)(G:h.Ns qg mg)(ok:FnOk P w K mg base (CXE P w) k f fd ps sp)(b:ziy K fd ps []):DnX P w K mg base x ps k sp:=⟨f,fd,ok,qAh X G d.ns,d.fn.kp,b⟩
theorem DefIn.dt{tol:(Hp->VK->XK->Prop)->Hp->VK->Prop}(d:DefIn K x st f fd)(X:K.In h)(G:h.Ns qg mg)(ok:ToldOk P w K mg base k j f fd p tol)(b:ziy K fd [p] []):DnT P w K mg base x p k j tol:=⟨f,fd,ok,qAh X G d.ns,d.fn.kp,b⟩
theorem DefIn.code(d:DefIn K x st f fd)(X:K.In h)(G:h.Ns qg mg)(ht:tabIn K x=some (c,T)):fd.code=.ref c:=by
 obtain⟨oc,od,kV,doc,pm,an,cdv,ct,osl,rfl,lk,hcd⟩:=d.fn.ex
 exact PySem.W.law_code X G ht (qAh X G d.ns) (X _ _ lk) rfl
structure ClsIn(K:qB)(x:Str)(f:Addr):Prop where
 ns:qAU K qg x=some (some (.ref f))
 cl:isClsIn K f=true
 ty:typeIn K (.ref f)=some (.type "type")
theorem cls_mk(a:qAU K qg x=some (some (.ref f)))(b:isClsIn K f=true)(c:typeIn K (.ref f)=some (.type "type")):ClsIn K x f:=⟨a,b,c⟩
structure XIn(K:qB)(y fI:Addr):Prop where
 mx:XMk K y fI
 cl:findIn K (.ref y) "__class__"=some (some (.builtin "object.__class__"))
 be:subIn K (.ref y) (.type "BaseException")=some true
 ve:subIn K (.ref y) (.type "ValueError")=some true
 se:subIn K (.ref y) (.ref y)=some true
theorem xin_mk(xi:findIn K (.ref y) "__init__"=some (some (.ref fI)))(xf:isFn K (.ref fI)=true)(lk:K.lookup y=some ⟨.type "type",dd,.cls cd,sl⟩)(xb:xcB y cd sl=true)(kp:qAx K (.ref y)=true)
  (sa:findIn K (.ref y) "__setattr__"=some (some (.builtin "object.__setattr__")))(at_:findIn K (.ref y) "at"=some none)(ga:findIn K (.ref y) "__getattribute__"=some (some (.builtin "BaseException.__getattribute__")))(gh:findIn K (.ref y) "__getattr__"=some none)
  (cl:findIn K (.ref y) "__class__"=some (some (.builtin "object.__class__")))(be:subIn K (.ref y) (.type "BaseException")=some true)(ve:subIn K (.ref y) (.type "ValueError")=some true)(se:subIn K (.ref y) (.ref y)=some true):XIn K y fI:=
 ⟨⟨(zbah lk xb).1,(zbah lk xb).2,xi,xf,kp,sa,at_,ga,gh⟩,cl,be,ve,se⟩
theorem init_mk{qual:Str}{oc:Value}{od an:Option Addr}{osl:Array (Option Value)}{kV doc pm cdv ct:Value}(l:K.lookup f=some ⟨oc,od,.func (qAd x qual (zfq st) (zdo st) (zah st) .none kV doc pm an cdv ct),osl⟩)
  (c:qBy K cdv qual=true) (k:qAx K (.ref f)=true):Fun K x qual st f (qAd x qual (zfq st) (zdo st) (zah st) .none kV doc pm an cdv ct):=zarz l c k
def sCut:SF:=λ_=>none
def tCut:TS:=λ_ _ _=>False
theorem ztc:Bx (PSs X b tCut):=⟨λ_ _ _ _ _ _ h=>h.elim⟩
theorem zagf:SS tCut sCut:=by intro fx H0 env σ H D h o e;cases e
universe u9
theorem xi{p q:α->Prop}(a:p t)(b:q t):∃t,p t/\q t:=⟨t,a,b⟩
theorem scB{N Q:List Str}{sc:Scope}(h:N.Nodup/\(∀x∈Q,sc.names.lookup x=some .local\/sc.names.lookup x=some .cell)/\∀y∈sc.names,y.2≠.free:=by decide +kernel)(a:sc.kind=.function:=by rfl)(b:sc.isCoroutine=false:=by rfl)(c:sc.isGenerator=false:=by rfl)(d:N.take Q.length=Q:=by rfl):FnScope N Q sc:=⟨a,b,c,h.1,d,h.2.1,h.2.2⟩
theorem bpsQ{X:Cx}{pos:Pos}(hN:X.N.Nodup)(he:Bx (PE X e te))(hi:X.N[i]?=some y:=by rfl)(hl:Loc X.env.scope y:=by exact Or.inl rfl)(hs:swapsWith e (some (.Name y pos')) pos.line X.env=pure false:=by rfl)(hf:X.fn y=true\/X.env.scope.names.lookup y=some .local:=by exact .inl rfl):Bx (PS X (.Assign [.Name y pos'] e pos) (tAsg te (gName i))):=bpsS hN hi hl he hs hf
theorem bpgQ{X:Cx}(hN:X.N.Nodup)(hi:X.N[i]?=some y:=by rfl)(hl:Loc X.env.scope y:=by exact Or.inl rfl)(hf:X.fn y=true\/X.env.scope.names.lookup y=some .local:=by first|exact .inl rfl|exact .inr rfl|assumption):Bx (PG X (.Name y pos) (gName i)):=bpgN hN hi hl hf
end
theorem zaid(n:Nat):sliceBounds none (some 0) (some (-1)) n=((n:Int) - 1,(if(n:Int)=0 then -1 else 0),-1):=by
 unfold sliceBounds
 simp
 omega
theorem zamo(n:Nat):sliceRange ((n:Int) - 1) (if(n:Int)=0 then -1 else 0) (-1)=(List.range (n - 1)).map λk=>n - 1 - k:=by
 have h1:¬((-1:Int) > 0):=by decide
 by_cases h:n=0
 ·subst h;rfl
 ·have hs:(if(n:Int)=0 then(-1:Int)else 0)=0:=if_neg (by omega)
  rw[hs]
  unfold sliceRange
  by_cases h2:(n:Int) - 1 > 0
  ·have e:((n:Int) - 1 - 0 - -1 - 1) / (- -1)=((n - 1:Nat):Int):=by
    rw[show(- -1:Int)=1 by decide,Int.ediv_one]
    omega
   simp only[h1,if_false,h2,if_true,e,qBE]
   apply qBX
   intro k hk
   have:=qAi.mp hk
   omega
  ·have e:n - 1=0:=by omega
   simp only[h1,if_false,h2,e]
   rfl
theorem zagg{f g:α->Option β}:∀{l:List α},(∀x∈l,f x=g x)->l.filterMap f=l.filterMap g
 | [],_=>rfl
 | x::l,h=>by rw[qBG,qBG,h x (by simp),zagg λy hy=>h y (qK _ hy)]
theorem zaqt(items:Array Value):slicePick items none (some 0) (some (-1))=(items.toList.drop 1).reverse.toArray:=by
 unfold slicePick
 rw[zaid]
 show((sliceRange ((items.size:Int) - 1) (if(items.size:Int)=0 then -1 else 0) (-1)).filterMap (items[·]?)).toArray=_
 rw[zamo]
 congr 1
 have key:∀l:List Value,((List.range (l.length - 1)).map λk=>l.length - 1 - k).filterMap (λi=>l[i]?)=(l.drop 1).reverse:=by
  intro l
  have e:((List.range (l.length - 1)).map λk=>l.length - 1 - k).filterMap (λi=>l[i]?)=(List.range (l.length - 1)).filterMap λk=>(l.drop 1).reverse[k]?:=by
   rw[List.filterMap_map]
   refine zagg λk hk=>?_
   have hk:=qAi.mp hk
   show l[l.length - 1 - k]?=_
   rw[List.getElem?_reverse (by rw[qj];omega),List.getElem?_drop,qj]
   congr 1
   omega
  rw[e]
  have hl:l.length - 1=(l.drop 1).reverse.length:=by rw[qCR,qj]
  rw[hl]
  have:=PySem.W.krv_all (l.drop 1).reverse.toArray
  simpa using this
 have:=key items.toList
 simpa using this
def tRv0(K:qB)(te:TE)(ts tk:TO):TE:=λσ H Q=>te σ H λx H1=>ts σ H1 λsp H2=>tk σ H2 λst H3=>sp=some 0/\st=some (-1)/\∃a xs,x=.ref a/\SqL K H3 a xs/\∀p,H3 p=none->Q (.ref p) (upd H3 p (.lst (xs.drop 1).reverse))
theorem zaie{xs:List V}{us:List Value}(r:Vals xs us):Vals (xs.drop 1) (us.drop 1):=by
 cases r with
 | nil=>exact .nil
 | cons _ r=>exact r
theorem zbam{X:Cx}{K:qB}(hK:X.K=K){e k0 k:Expr}{te:TE}{ts tk:TO}{pos p2:Pos}(he:PE X e te)(hs:PO X (some k0) ts)(hk:PO X (some k) tk):PE X (.Subscript e (.Slice none (some k0) (some k) p2) pos) (tRv0 K te ts tk):=by
 subst hK
 intro pins s σ H Q I h
 refine qDY (thn (he pins s σ H _ I h) λv s1 ⟨x,H1,I1,r1,q1⟩=>?_)
 refine wpAny_Slice ?_
 rw[evalPart_none]
 refine qI ?_
 refine thn (hs pins s1 σ H1 _ I1 q1) λv0 s2 ⟨sp,H2,I2,p0,q2⟩=>?_
 refine thn (hk pins s2 σ H2 _ I2 q2) λvk s3 ⟨st,H3,I3,pk,esp,est,a,xs,ex,hx,q⟩=>?_
 subst est ex esp
 cases r1
 have I4:Inv X pins σ H3 {s3 with heap:=s3.heap.push {cls:=.type "slice",data:=.fields #[.none,v0,vk]}}:=I3.kept (t':=s3.toks) λb ob q=>qF _ q
 obtain⟨its,r,ht,hz⟩:=I4.list hx
 have hlen:=r.length
 refine tail_any (T:="list") (ops:=[.ref a,.ref s3.heap.objs.size]) ht.isList.typeIs qCr.lookup ?_ (by with_unfolding_all rfl)
 refine qDW ht.isList (qCj ..) .none p0 pk (by decide) ?_ (by rw[qM]<;>omega)
 rw[zaqt]
 refine⟨.ref _,_,I4.laid (t':=s3.toks) (o:=.lst (xs.drop 1).reverse) (λb ob q=>qF _ q) (qL _) ?_,rfl,q _ (I4.hok.fresh (qL _))⟩
 exact⟨by rw[qCR,qj];exact qAI (Nat.sub_le _ _) hz,_,0,zaqc (zaie r),qY _ rfl⟩
def eRv0(f:EF)(s g:PF'):EF:=λenv=>(f env).bind λx=>(s env).bind λsp=>(g env).bind λst=>match x.d with
 | .list ds=>if sp=some 0/\st=some (-1)then some ⟨.list (ds.drop 1).reverse,true,x.bs⟩else none
 | _=>none
theorem Rps.drop1{ds:List PyData}{vs:List V}(h:Rps H ds vs):Rps H (ds.drop 1) (vs.drop 1):=by
 replace h:=zcj.mp h
 cases h with
 | nil=>exact zcz
 | cons _ h=>exact zcj.mpr h
theorem zban{K:qB}{te:TE}{ts tk:TO}{f:EF}{s g:PF'}(h1:SE te f)(hs:SPt ts s)(h2:SPt tk g):SE (tRv0 K te ts tk) (eRv0 f s g):=by
 intro fx H0 env σ H h rr hr Q q
 unfold eRv0 at hr
 obtain⟨⟨d,frd,bs⟩,ex,hr⟩:=qA.mp hr
 obtain⟨sp,es,hr⟩:=qA.mp hr
 obtain⟨st,el,hr⟩:=qA.mp hr
 cases d with
 | list ds=>
  have hr:(if sp=some 0/\st=some (-1)then some (⟨.list (ds.drop 1).reverse,true,bs⟩:Val)else none)=some rr:=hr
  split at hr
  ·rename_i hh
   cases hr
   refine h1 fx H0 env σ H h _ ex _ λv H1 s1 v1=>hs fx H0 env σ H1 (h.up s1) _ es _ λH2 s2=>h2 fx H0 env σ H2 (h.up (s1.trans s2)) _ el _ λH3 s3=>?_
   have v3:=(v1.later (Same.refl _) (s2.trans s3) λ_ z=>z).rp
   have t3:=(s1.trans s2).trans s3
   obtain⟨p,xs,rfl,hp,r⟩:=zfs v3
   refine⟨hh.1,hh.2,p,xs,rfl,SqL.of (zdv hp),λl hl=>q _ _ (t3.trans (Same.new hl)) ?_⟩
   have hA:=(h.up t3).lims bs
   exact⟨zaay hl (zev hA hl) r.drop1.rev,λ_=>⟨l,rfl,t3.free hl,ztw hl r.drop1.rev⟩⟩
  ·cases hr
 | _=>cases hr
theorem zawd{X:Cx}{K:qB}(hK:X.K=K){e k0 k:Expr}{te:TE}{ts tk:TO}{pos p2:Pos}(he:Bx (PE X e te))(hs:Bx (PO X (some k0) ts))(hk:Bx (PO X (some k) tk)):Bx (PE X (.Subscript e (.Slice none (some k0) (some k) p2) pos) (tRv0 K te ts tk)):=⟨zbam hK he.out hs.out hk.out⟩
class ICE (t:TE) (f:EF):Prop where
 h:SE t f
class ICA (t:TA) (f:AF):Prop where
 h:SA t f
class ICT (t:TT) (f:TF):Prop where
 h:ST t f
class ICI (t:TI) (f:IF'):Prop where
 h:SI t f
class ICO (t:R2) (f:OF):Prop where
 h:SO t f
class ICC (t:List V->Hp->VK->Prop) (f:GF):Prop where
 h:SC t f
class ICP (t:TO) (f:PF'):Prop where
 h:SPt t f
section
variable{i j n:Nat}{K:qB}{t u:TE}{f g:EF}{ta:TA}{fa:AF}{tt tu:TT}{ft fu:TF}{r:R2}{o:OF}{c:List V->Hp->VK->Prop}{gc:GF}{tp tq:TO}{p q:PF'}{x:Int}{b:Bool}{s:Str}
theorem ice[a:ICE t f]:SE t f:=a.h
theorem ica[a:ICA ta fa]:SA ta fa:=a.h
theorem ict[a:ICT tt ft]:ST tt ft:=a.h
theorem ici[a:ICI w k]:SI w k:=a.h
instance:ICE (tVar i) (eVar i):=⟨zhh i⟩
instance:ICE (tC (.int x)) (eC (.int x)):=⟨se_c λ_=>zby⟩
instance:ICE (tC (.bl b)) (eC (.bool b)):=⟨se_c λ_=>zbv⟩
instance:ICE (tC (.str s)) (eC (.str s)):=⟨se_c λ_=>zhg⟩
instance:ICE (tC .non) (eC .none):=⟨se_c λ_=>zqe⟩
instance [a:ICO r o] [d:ICE t f] [e:ICE u g]:ICE (tOp r t u) (eOp o f g):=⟨zadv a.h d.h e.h⟩
instance [a:ICC c gc] [d:ICA ta fa]:ICE (tCB c ta) (eCB gc fa):=⟨zazg a.h d.h⟩
instance [d:ICA ta fa]:ICE (tCall (spD n gc) [] E0 ta) (zau n gc fa):=⟨zauw d.h⟩
instance [d:ICE t f]:ICE (tOp (rIxU K) (tVar i) t) (eIxV i f):=⟨zasr d.h⟩
instance [d:ICA ta fa]:ICE (tTup ta) (eTup fa):=⟨zafo d.h⟩
instance [d:ICA ta fa]:ICE (tLst ta) (eLst fa):=⟨zakq d.h⟩
instance [a:ICE t f] [d:ICP tp p] [e:ICP tq q]:ICE (tSl (rSlU K) t tp tq) (eSl f p q):=⟨zbcf a.h d.h e.h⟩
instance [d:ICE t f]:ICP (tPart t) (zbe f):=⟨zyz d.h⟩
instance:ICP tNoPart zef:=⟨zakt⟩
instance [d:ICE t f]:ICE (tDGet (tVar i) t) (zdd i f):=⟨zapp d.h⟩
instance [d:ICE t f]:ICE (tUn (rU λi=>V.int (-i)) t) (eNeg f):=⟨zazt d.h⟩
instance [d:ICE t f] [e:ICE u g]:ICE (tDIn t u) (eDIn false f g):=⟨zazc d.h e.h⟩
instance:ICE tDNewK zakr:=⟨zauu⟩
instance [d:ICE t f] [e:ICE u g]:ICE (tAndV t u) (eAnd f g):=⟨zazf d.h e.h⟩
instance [d:ICE t f] [e:ICA ta fa]:ICA (tCons t ta) (zaa f fa):=⟨zcn d.h e.h⟩
instance:ICA tNil aNil:=⟨zic⟩
instance [d:ICE t f]:ICT (tTest t) (zaz f):=⟨st_t d.h⟩
instance [d:ICT tt ft] [e:ICT tu fu]:ICT (tAnd tt tu) (zadx ft fu):=⟨zaze d.h e.h⟩
instance:ICT tAll zcf:=⟨zale⟩
instance [d:ICE t f]:ICI (iSeq K t) (zaj f):=⟨zasj d.h⟩
instance [d:ICA ta fa]:ICI (iRng1 ta) (zew fa):=⟨zabb d.h⟩
instance [d:ICA ta fa]:ICI (iEnumX K ta) (zxl fa):=⟨zafy d.h⟩
instance [d:ICA ta fa]:ICI (iEnumX K ta) (ztz fa):=⟨zaln d.h⟩
instance [d:ICA ta fa]:ICI (iZip K ta) (zaed fa):=⟨zazw d.h⟩
instance:ICO (rI (λx j=>0<j) λi j=>V.int (i % j)) modD:=⟨zase⟩
instance:ICO (rI CDiv λi j=>V.int (i / j)) zbi:=⟨zaup⟩
instance:ICO (zakb K) addD:=⟨zakn⟩
instance:ICO (λx y H Q=>rEq x y H Q\/rEqD K false x y H Q) eqD:=⟨zaza⟩
instance:ICO (λx y H Q=>rNe x y H Q\/rEqD K true x y H Q) neD:=⟨zbca⟩
instance:ICO (rIn K b) (inD b):=⟨zbcb⟩
instance:ICO (rI0 λi j=>V.int (i - j)) subD:=⟨zayy⟩
instance:ICO zauk mulD:=⟨zayz⟩
instance:ICO (rI0 λi j=>V.bl (decide (j<i))) gtD:=⟨zbbz⟩
instance:ICO (rIxU K) ixD:=⟨zazb⟩
instance:ICC (λxs H Q=>∃x n,xs=[x]/\LenV K x H n/\Q (V.int n) H) lenD:=⟨zazh⟩
instance:ICC (λxs H Q=>∃p ys,xs=[V.ref p]/\((SqL K H p ys/\∀l:Addr,H l=none->Q (V.ref l) (upd H l (HO.tup ys)))\/SqT K H p ys/\Q (V.ref p) H)) zco:=⟨zapj⟩
instance:ICC (λxs H Q=>∃p ys,xs=[V.ref p]/\(SqL K H p ys\/SqT K H p ys)/\∀l:Addr,H l=none->Q (V.ref l) (upd H l (HO.lst ys))) zmo:=⟨zauv⟩
instance {k:List Bool->Bool}:ICC (rAny K k) (anyD k):=⟨zazj⟩
class ICG (t:TG) (f:GT):Prop where
 h:SG t f
class ICS (t:TS) (f:SF):Prop where
 h:SS t f
variable{tg:TG}{fg:GT}{th:TGs}{fh:GTs}{ts tv:TS}{fs fv:SF}{wi:TI}{fi:IF'}
theorem ics[a:ICS ts fs]:SS ts fs:=a.h
instance:ICG (gName i) (gN i):=⟨zdp⟩
instance {x:Str} {fr:List Nat} [a:ICI wi fi] [d:ICT tt ft] [e:ICE t f]:ICE (tComp1 wi (gName 0) tt t [x] fr) (zck [x] fr fi (gN 0) ft f):=⟨zqi a.h zdp (zud (show 0<1 by decide)) d.h e.h⟩
instance {x y:Str} {fr:List Nat} [a:ICI wi fi] [d:ICT tt ft] [e:ICE t f]:ICE (tComp1 wi (gTup K 2 (gCons (gName 0) (gCons (gName 1) gNil))) tt t [x,y] fr) (zck [x,y] fr fi (gT 2 (zar 0 (zar 1 zdt))) ft f):=⟨zqi a.h (zou (zca (zca zjb))) (zazs (zafw (show 0<2 by decide) (zafw (show 1<2 by decide) zavj))) d.h e.h⟩
instance [a:ICS ts fs] [d:ICS tv fv]:ICS (tSeq ts tv) (sSeq fs fv):=⟨zat a.h d.h⟩
instance:ICS tNext sNil:=⟨zfl⟩
instance [a:ICE t f]:ICS (tAsg t (gName i)) (sSet i f):=⟨zrg a.h⟩
instance {x:Str} {fr:List Nat} [a:ICI wi fi] [d:ICT tt ft] [e:ICE t f]:ICS (tAsgC1 wi (gName 0) tt t [x] fr i) (sSet i (zck [x] fr fi (gN 0) ft f)):=⟨zrg (te:=tComp1 wi (gName 0) tt t [x] fr) ice⟩
instance [a:ICE t f]:ICS (tRet t) (sRet f):=⟨zms a.h⟩
instance:ICS (tRet (tVar i)) (zmp i):=⟨zkp⟩
instance [a:ICE t f]:ICS (tDrop (tBM K "list" ztj (tVar i) (tCons t tNil))) (sApp i f):=⟨zazk a.h⟩
instance [a:ICT tt ft] [d:ICS ts fs] [e:ICS tv fv]:ICS (tIfS tt ts tv) (sIf ft fs fv):=⟨zig a.h d.h e.h⟩
instance [a:ICI wi fi] [d:ICG tg fg] [e:ICS ts fs]:ICS (tFor wi tg ts) (sFor fi fg fs):=⟨zgh a.h d.h e.h⟩
end
open PySem
def zamp(n:Nat)(k:GF)(g:GFX)(f:AF):SFX:=λenv=>(f env).bind λrs=>if rs.length=n then(g (zds rs)).bind λr=>match r with
 | .ok d _=>(k [d]).map λz=>.ok (.rt z.1 z.2)
 | .rx c d=>some (.rx c d)else none
theorem zagh{cl:Str->Addr}(ha:SA ta f):SSx cl (λE=>tRet (tCall (spD 1 k) [] E0 (tCons (tCall (spX cl n g) [] E ta) tNil))) (zamp n k g f):=by
 intro fx H0 env σ H D E h o e q
 obtain⟨rs,er,e⟩:=qA.mp e
 split at e
 ·rename_i hn
  obtain⟨r,ez,e⟩:=qA.mp e
  refine ha fx H0 env σ H h rs er _ λvs H1 s1 v1=>?_
  rw[qw]
  refine⟨lim fx env σ (bss rs),zds rs,r,by rw[zez];exact hn,(h.up s1).lims _,zfd (λi hi=>hi) v1,ez,?_⟩
  cases r with
  | rx c d=>cases e;exact λk od H3 r=>q k od H3 (r.base (h.base.trans s1))
  | ok d fr=>
   obtain⟨⟨d2,fr2⟩,ek,e⟩:=qG.mp e
   cases e
   intro w H3 s3 rt
   refine⟨lim fx env σ (bss rs),[d],d2,fr2,rfl,(h.up (s1.trans s3)).lims _,zcx rt.1 zcz,ek,λw2 H4 s4 rt2=>?_⟩
   obtain⟨rp,fr3⟩:=rt2
   refine q w2 H4 (((h.base.trans s1).trans s3).trans s4) ⟨Rp.same (Offs.sub λb z=>.inl z) _ rp,λe=>?_⟩
   obtain⟨a,g1,g2,g3⟩:=fr3 e
   exact⟨a,g1,((h.base.trans s1).trans s3).free g2,g3.same (Offs.sub λb y=>y.imp .inl id) λo z=>z⟩
 ·cases e
end L2
namespace Bc
open PySem L2
def zin:SF:=(sRet (zck ["name","elders"] [] (zaj (eVar 0)) (gT 2 (zar 0 (zar 1 zdt))) zcf (eVar 0)))
def zio:GF:=fnD 1 zin
def zfu:SF:=(sSeq (sSet 2 (zau 1 zio (zaa (eVar 0) aNil)))
  (sFor (zaj (eVar 1)) (gN 3)
  (sIf (zaz (eOp (inD true) (eVar 3) (eVar 2))) zafq sNil)))
def zfv:GF:=fnD 4 zfu
def zxn:SF:=(sSeq (sSet 1 zakr)
  (sSeq (sFor (zaj (eVar 0)) (gT 2 (zar 2 (zar 3 zdt)))
  (sSeq (sSet 4 (eD1 (eVar 2) (eC (.bool true))))
  (sSeq (sFor (zaj (eVar 3)) (gN 5)
  (sUpd 4 (zdd 1 (eVar 5))))
  (sPut 1 (eVar 2) (eVar 4)))))
  (zmp 1)))
def zfm:GF:=fnD 6 zxn
def zabr:SF:=(sSeq (sSet 2 (eLst aNil))
  (sSeq (sFor (ztz (zaa (eVar 1) aNil)) (gT 2 (zar 3 (zar 4 zdt)))
  (sSeq (sSet 5 (eSl (eVar 1) zef (zbe (eVar 3))))
  (sSeq (sSet 6 (eOp zbi (eIxV 0 (eVar 3)) (eC (.int 5))))
  (sSeq (sSet 7 (eLst aNil))
  (sSeq (sFor (zew (zaa (eCB minD (zaa (eOp modD (eIxV 0 (eVar 3)) (eC (.int 5))) (zaa (eVar 3) aNil))) aNil)) (gN 8)
  (sSeq (sSet 9 (eOp modD (eVar 6) (eCB lenD (zaa (eVar 5) aNil))))
  (sSeq (sSet 6 (eOp zbi (eVar 6) (eCB lenD (zaa (eVar 5) aNil))))
  (zhj 7 5 (eVar 9)))))
  (sApp 2 (eTup (zaa (eVar 4) (zaa (eVar 7) aNil)))))))))
  (zmp 2)))
def ziq:GF:=fnD 10 zabr
def zagi:SF:=(sSeq (sSet 1 zakr)
  (sSeq (sFor (zaj (eVar 0)) (gT 2 (zar 2 (zar 3 zdt)))
  (sSeq (sSet 4 (eLst (zaa (eVar 2) aNil)))
  (sSeq (sFor (zaj (eVar 3)) (gN 5)
  (sFor (zaj (zdd 1 (eVar 5))) (gN 6)
  (sIf (zaz (eOp (inD true) (eVar 6) (eVar 4))) (sApp 4 (eVar 6)) sNil)))
  (sPut 1 (eVar 2) (eVar 4)))))
  (zmp 1)))
def zmh:GF:=fnD 7 zagi
theorem zel{enc out:α->PyData}(p:α->Bool):∀{l:List α},(∀x∈l,∃e1,g (enc x) env=some e1/\t e1=some (p x)/\(p x=true->∃r,e e1=some r/\r.d=out x))->
  zdy g t e env (l.map enc)=some ((l.filter p).map out)
 | [],_=>rfl
 | x::l,h=>by
  obtain⟨e1,h1,h2,h3⟩:=h x qb
  have ih:=zel (l:=l) p λy hy=>h y (qK _ hy)
  rw[qR]
  unfold zdy
  rw[h1,qE,h2,qE]
  cases hp:p x with
  | false=>
   rw[if_neg qP,ih,qCC,hp];rfl
  | true=>
   obtain⟨r,h4,h5⟩:=h3 hp
   rw[if_pos rfl,h4,qE,ih,qCC,hp]
   simp[h5]
theorem zdh{enc out:α->PyData}{l:List α}(h:∀x∈l,∃e1,g (enc x) env=some e1/\t e1=some true/\∃r,e e1=some r/\r.d=out x):zdy g t e env (l.map enc)=some (l.map out):=by
 have q:=zel (enc:=enc) (out:=out) (g:=g) (t:=t) (e:=e) (env:=env) (λ_=>true) (l:=l) λx hx=>let⟨e1,h1,h2,h3⟩:=h x hx;⟨e1,h1,h2,λ_=>h3⟩
 rw[q]
 congr 2
 exact List.filter_eq_self.mpr λ_ _=>rfl
theorem zagj{enc:α->PyData}(I:List α->DEnv->Prop)(all:List α):∀(l pre:List α)(env:DEnv),pre++l=all->I pre env->
  (∀pre x post env,pre++x::post=all->I pre env->∃e1 e2,g (enc x) env=some e1/\(body e1=some (.nx e2)\/body e1=some (.ct e2))/\I (pre++[x]) e2)->∃env',forL g body (l.map enc) env=some (.nx env')/\I all env'
 | [],pre,env,hall,h0,hs=>by
  rw[qw]at hall
  subst hall
  exact⟨env,rfl,h0⟩
 | x::l,pre,env,hall,h0,hs=>by
  obtain⟨e1,e2,h1,h2,h3⟩:=hs pre x l env hall h0
  obtain⟨env',h4,h5⟩:=zagj I all l (pre++[x]) e2 (by rw[<- hall];simp) h3 hs
  refine⟨env',?_,h5⟩
  rw[qR]
  unfold forL
  rw[h1,qE]
  rcases h2 with h2|h2<;>rw[h2,qE]<;>exact h4
theorem zec{enc:α->PyData}{l:List α}(I:List α->DEnv->Prop)(h0:I [] env)(hs:∀pre x post env,pre++x::post=l->I pre env->∃e1 e2,g (enc x) env=some e1/\(body e1=some (.nx e2)\/body e1=some (.ct e2))/\I (pre++[x]) e2) :
  ∃env',forL g body (l.map enc) env=some (.nx env')/\I l env':=zagj I l l [] env rfl h0 hs
theorem zabs{enc:α->PyData}(p:α->Bool)(d:PyData)(fr:Bool)(I:DEnv->Prop):∀(l:List α)(env:DEnv),I env->
  (∀x∈l,∀env,I env->∃e1,g (enc x) env=some e1/\(p x=true->∃e2,body e1=some (.nx e2)/\I e2)/\(p x=false->body e1=some (.rt d fr)))->
  (l.all p=true->∃env',forL g body (l.map enc) env=some (.nx env')/\I env')/\(l.all p=false->forL g body (l.map enc) env=some (.rt d fr))
 | [],env,h0,hs=>⟨λ_=>⟨env,rfl,h0⟩,λh=>by simp at h⟩
 | x::l,env,h0,hs=>by
  obtain⟨e1,h1,h2,h3⟩:=hs x qb env h0
  rw[qR,qA0]
  unfold forL
  rw[h1,qE]
  cases hp:p x with
  | false=>
   rw[h3 hp,qE]
   exact⟨λh=>by simp at h,λ_=>rfl⟩
  | true=>
   obtain⟨e2,h4,h5⟩:=h2 hp
   rw[h4,qE]
   exact zabs p d fr I l e2 h5 λy hy=>hs y (qK _ hy)
def zbx(cs:List Int):PyData:=.list (cs.map .int)
theorem zagk:∀(cs:List Int),Rps H (cs.map .int) (cs.map .int)
 | []=>zcz
 | c::cs=>zcx zby (zagk cs)
def envL(n:Nat)(cs:List Int):DEnv:=.no::.pl (zbx cs)::List.replicate n .no
theorem zawe{cs:List Int}(e:H1 pc=some (.lst (cs.map .int))):EnvOk (λ_=>False) H1 (envL n cs) (some (.ref a)::some (.ref pc)::List.replicate n none) H1:=by
 have no:∀(i:Nat)(d:PyData),(envL n cs)[i]?≠some (Sl.ac d):=λi d=>by
  unfold envL
  cases i with
  | zero=>simp
  | succ i=>cases i with
   | zero=>simp
   | succ i=>simp[qBF]
 refine⟨by unfold envL;simp,λi d h=>?_,λi d h=>absurd h (no i d),λi j d e a h=>absurd h (no i d),Same.refl _,λb z=>z.elim⟩
 unfold envL at h
 cases i with
 | zero=>simp at h
 | succ i=>cases i with
  | zero=>
   simp at h
   subst h
   refine⟨.ref pc,rfl,zik ?_ (zagk cs)⟩
   rw[Offs.get]
   ·exact e
   ·rintro(z|⟨j,d',z,_⟩)
    ·exact z
    ·exact no j d' z
  | succ i=>simp[qBF]at h
theorem zai(h:f env=some (.nx e1))(k:g e1=o):sSeq f g env=o:=by unfold sSeq;rw[h];exact k
theorem zata(h:f env=some (.rt d fr)):sSeq f g env=some (.rt d fr):=by unfold sSeq;rw[h];rfl
theorem for_list(h:f env=some ⟨.list ds,fr,bs⟩)(k:forL g b ds (frzs env bs)=o):sFor (zaj f) g b env=o:=by
 unfold sFor zaj;rw[h];exact k
theorem zgi(h:f env=some (ds,bs))(k:forL g b ds (frzs env bs)=o):sFor f g b env=o:=by
 unfold sFor;rw[h];exact k
theorem if_t(h:c env=some true)(k:f env=o):sIf c f g env=o:=by unfold sIf;rw[h];exact k
theorem if_f(h:c env=some false)(k:g env=o):sIf c f g env=o:=by unfold sIf;rw[h];exact k
theorem zbg(h:f env=some r):sSet i f env=some (.nx (putV env i r)):=by unfold sSet;rw[h];rfl
theorem zamq(h:f env=some r):zahv f env=some (.nx env):=by unfold zahv;rw[h];rfl
theorem zir(h:f env=some ⟨d,fr,bs⟩):sRet f env=some (.rt d fr):=by unfold sRet;rw[h];rfl
theorem zbd{rs:List Val}(h:f env=some rs)(hn:rs.length=n)(k:g (zds rs)=some (d,fr)):zau n g f env=some ⟨d,fr,bsOf d (bss rs)⟩:=by
 unfold zau;rw[h,qE,if_pos hn,k];rfl
theorem zem{own:List Str}{fr:List Nat}{fi:IF'}{g:GT}{t:TF}{e:EF}{env:DEnv}{ds:List PyData}{bs:List Nat}{rs:List PyData}(h:fi env=some (ds,bs))(hl:ds.length<100000)(k:zdy g t e (envB own fr env) ds=some rs) :
  zck own fr fi g t e env=some ⟨.list rs,true,if zei rs=true then[]else bs++capA fr env⟩:=by
 unfold zck;rw[h,qE,if_pos hl,k];rfl
theorem zgj(h:zid n ds=env)(e:f env=some (.rt d fr)):fnD n f ds=some (d,fr):=by
 unfold fnD;rw[h,e]
theorem zbcj(h:zid n ds=env)(e:f env=some (.nx env')):fnD n f ds=some (.none,false):=by
 unfold fnD;rw[h,e]
theorem zabt(n:Int):neD (.int n) (.int n)=some (.bool false,false):=by
 have e:qAO (.int n) (.int n)=true:=by unfold qAO;exact beq_self_eq_true n
 show some (PyData.bool (!PyData.eqv (.int n) (.int n)),false)=_
 rw[e];rfl
def zab(xs:List Str):PyData:=.list (xs.map .str)
def rowD(p:Str×List Str):PyData:=.tuple [.str p.1,zab p.2]
def webD(W:Web):PyData:=.list (W.map rowD)
theorem zmi(xs:List Str):zei (xs.map .str)=true:=by
 unfold zei
 rw[List.all_map]
 exact qAk.mpr λ_ _=>rfl
theorem zagl(xs:List Str)(x:Str):((xs.map PyData.str).any λe=>qAO e (.str x))=decide (x∈xs):=by
 rw[qCH,qAo,qA9,decide_eq_true_iff]
 constructor
 ·rintro⟨y,hy,h⟩
  have:y=x:=by simpa [qAO]using h
  rw[<- this];exact hy
 ·exact λh=>⟨x,h,by simp[qAO]⟩
theorem zul(b:Bool)(xs:List Str)(x:Str):inD b (.str x) (zab xs)=some (.bool (if b then !decide (x∈xs)else decide (x∈xs)),false):=by
 unfold inD zab
 simp only[zgg]
 rw[if_pos ⟨rfl,zmi xs⟩,zagl]
theorem zxo{W:Web}(hl:W.length<100000):zio [webD W]=some (zab (nm W),true):=by
 have c:zdy (gT 2 (zar 0 (zar 1 zdt))) zcf (eVar 0) [.no,.no] (W.map rowD)=some (W.map λp=>PyData.str p.1):=zdh λp _=>⟨[.pl (.str p.1),.pl (zab p.2)],rfl,rfl,⟨.str p.1,false,[]⟩,rfl,rfl⟩
 have e:zin [.pl (webD W)]=some (.rt (zab (nm W)) true):=by
  unfold zin sRet zck zaj
  simp only[eVar,qAK,qE,webD,zgg,qAs,qC]
  rw[if_pos hl]
  show Option.map _ (Option.map _ (zdy _ _ _ [.no,.no] _))=_
  rw[c]
  unfold zab nm
  simp
 show(match zin [.pl (webD W)]with|some (.rt d fr)=>some (d,fr)|some (.nx _)=>some (.none,false)|_=>none)=_
 rw[e]
theorem zzh{W:Web}(hl:W.length<100000)(h:∀n∈ns,n∈nm W):zfv [webD W,zab ns]=some (.none,false):=by
 have l:∃env',forL (gN 3) (sIf (zaz (eOp (inD true) (eVar 3) (eVar 2))) zafq sNil) (ns.map .str) [.pl (webD W),.pl (zab ns),.ac (zab (nm W)),.no]=some (.nx env')/\True:=by
  refine zec (λ_ env=>∃s,env=[.pl (webD W),.pl (zab ns),.ac (zab (nm W)),s]) ⟨_,rfl⟩ ?_ |>.imp λ_ q=>⟨q.1,trivial⟩
  rintro pre x post env hx ⟨s,rfl⟩
  have hm:=h x (by rw[<- hx];simp)
  refine⟨_,[.pl (webD W),.pl (zab ns),.ac (zab (nm W)),.pl (.str x)],rfl,.inl ?_,_,rfl⟩
  simp[sIf,zaz,eOp,eVar,sNil,zul,hm,bsOf,zfo]
 obtain⟨env',l,_⟩:=l
 have e:zfu [.pl (webD W),.pl (zab ns),.no,.no]=some (.nx env'):=by
  unfold zfu sSeq sSet zau sFor zaj
  simp only[zaa,aNil,eVar,qAK,qAL,qE,qAs,zds,qR,qCF,qy,qBi,zxo hl,if_true]
  simp[putV,frzs,bsOf,zab,zfo,bss,slOf,zgg]
  exact l
 show(match zfu [.pl (webD W),.pl (zab ns),.no,.no]with|some (.rt d fr)=>some (d,fr)|some (.nx _)=>some (.none,false)|_=>none)=_
 rw[e]
def insS(ks:List Str)(k:Str):List Str:=if k∈ks then ks else ks++[k]
def upL(acc:List (Str×List Str))(e:Str):List Str:=(acc.lookup e).getD []
def zje(acc:List (Str×List Str))(p:Str×List Str):List (Str×List Str):=acc++[(p.1,p.2.foldl (λks e=>(upL acc e).foldl insS ks) [p.1])]
def ups(W:Web):List (Str×List Str):=W.foldl zje []
def up(W:Web)(n:Str):List Str:=upL (ups W) n
theorem zjf(W:Web)(p:Str×List Str):ups (W++[p])=zje (ups W) p:=by unfold ups;rw[qB8];rfl
theorem zaqu:x∈insS ks k↔x∈ks\/x=k:=by
 unfold insS
 split
 ·rename_i h
  exact⟨.inl,λz=>z.elim id λe=>e▸h⟩
 ·simp
theorem zpc:∀{ms ks:List Str},x∈ms.foldl insS ks↔x∈ks\/x∈ms
 | [],ks=>by simp
 | m::ms,ks=>by
  rw[qBj,zpc,zaqu]
  simp[or_assoc]
theorem zawf{ks:List Str}(h:ks.Nodup):(insS ks k).Nodup:=by
 unfold insS
 split
 ·exact h
 ·rename_i hk;exact zadq h hk
theorem zzi:∀{ms ks:List Str},ks.Nodup->(ms.foldl insS ks).Nodup
 | [],_,h=>h
 | _::ms,_,h=>zzi (ms:=ms) (zawf h)
theorem zum:∀{es ks:List Str},x∈es.foldl (λks e=>(upL acc e).foldl insS ks) ks↔x∈ks\/∃e∈es,x∈upL acc e
 | [],ks=>by simp
 | e::es,ks=>by
  rw[qBj,zum,zpc]
  simp[or_assoc]
theorem zagm:∀{es ks:List Str},ks.Nodup->(es.foldl (λks e=>(upL acc e).foldl insS ks) ks).Nodup
 | [],_,h=>h
 | _::es,_,h=>zagm (es:=es) (zzi h)
theorem zhb{l:List (Str×List Str)}{p:Str×List Str}:(l++[p]).lookup n=(l.lookup n).or (if n==p.1 then some p.2 else none):=by
 induction l with
 | nil=>
  obtain⟨a,b⟩:=p
  show List.lookup n [(a,b)]=_
  rw[qAM]
  cases n==a<;>rfl
 | cons q l ih=>
  obtain⟨a,b⟩:=q
  rw[qCg,qAM,qAM]
  cases n==a with
  | true=>rfl
  | false=>exact ih
theorem zun{P:List α->Prop}(h0:P [])(hs:∀l x,P l->P (l++[x])):∀l,P l:=by
 intro l
 have:∀n (l:List α),l.length=n->P l:=by
  intro n
  induction n with
  | zero=>intro l e;rw[qCA.mp e];exact h0
  | succ n ih=>
   intro l e
   have hne:l≠[]:=λz=>by rw[z]at e;cases e
   rw[<- List.dropLast_concat_getLast hne]
   exact hs _ _ (ih _ (by rw[List.length_dropLast,e];rfl))
 exact this _ l rfl
theorem zge:∀(W:Web),(ups W).map (·.1)=nm W:=by
 refine zun rfl λW p ih=>?_
 rw[zjf]
 unfold zje nm
 rw[qAJ,qAJ,ih]
 rfl
theorem znr(W:Web)(p:Str×List Str):nm (W++[p])=nm W++[p.1]:=by unfold nm;rw[qAJ];rfl
theorem zga{p:Str×List Str}(h:WebOk (W++[p])):WebOk W/\p.1∉nm W/\(∀e∈p.2,e∈nm W)/\p.2.length<=4:=by
 have hp:(W++[p])[W.length]?=some p:=by simp
 refine⟨⟨?_,λi n es e=>?_,λq hq=>h.few q (q9 _ hq),?_⟩,?_,λe he=>?_,h.few p (by simp)⟩
 ·have:=h.nd;rw[znr]at this;exact(qA3.mp this).1
 ·have hi:i<W.length:=(qS.mp e).1
  have q:=h.el i n es (by rw[qAE hi];exact e)
  rw[qAv (by omega)]at q
  exact q
 ·have:=h.len;simp at this;omega
 ·have:=h.nd
  rw[znr]at this
  intro hm
  exact(qA3.mp this).2.2 p.1 hm p.1 (by simp) rfl
 ·have q:=h.el W.length p.1 p.2 hp e he
  rw[qAv (qL _),qCf]at q
  exact q
theorem zjg{l:List (Str×List Str)}(h:n∈l.map (·.1)):∃ks,l.lookup n=some ks/\(n,ks)∈l:=by
 induction l with
 | nil=>simp at h
 | cons q l ih=>
  obtain⟨a,b⟩:=q
  rw[qAM]
  cases e:n==a with
  | true=>rw[eq_of_beq e];exact⟨b,rfl,qb⟩
  | false=>
   have hn:n≠a:=beq_eq_false_iff_ne.mp e
   rcases qZ.mp h with z|z
   ·exact absurd z hn
   ·obtain⟨ks,h1,h2⟩:=ih z
    exact⟨ks,h1,qK _ h2⟩
theorem zqj(h:m∈nm W):up (W++[p]) m=up W m:=by
 unfold up upL
 rw[zjf]
 unfold zje
 obtain⟨ks,e,_⟩:=zjg (l:=ups W) (n:=m) (by rw[zge];exact h)
 rw[zhb,e]
 rfl
theorem zuo{l:List (Str×List Str)}(h:n∉l.map (·.1)):l.lookup n=none:=by
 induction l with
 | nil=>rfl
 | cons q l ih=>
  obtain⟨a,b⟩:=q
  rw[qAM]
  have h1:n≠a:=λz=>h (by simp[z])
  rw[beq_eq_false_iff_ne.mpr h1]
  exact ih λz=>h (qK _ z)
theorem zatb{p:Str×List Str}(h:p.1∉nm W):up (W++[p]) p.1=p.2.foldl (λks e=>(upL (ups W) e).foldl insS ks) [p.1]:=by
 unfold up upL
 rw[zjf]
 unfold zje
 rw[zhb,zuo (by rw[zge];exact h)]
 simp[upL]
theorem zbao(h:(n,es)∈W):n∈nm W:=qAa.mpr ⟨_,h,rfl⟩
theorem zzj(h:WebOk W)(hm:(n,es)∈W):∀e∈es,e∈nm W:=λe he=>by
 obtain⟨i,hi,e'⟩:=qBw hm
 have q:=h.el i n es (by rw[qH hi,e']) e he
 obtain⟨p,h1,h2⟩:=qAa.mp q
 exact qAa.mpr ⟨p,qAy h1,h2⟩
theorem zbap:∀{W:Web},WebOk W->∀{n:Str}{es:List Str},(n,es)∈W->(x∈up W n↔x=n\/∃e∈es,x∈up W e):=by
 intro W
 refine zun (P:=λW=>WebOk W->∀{n:Str}{es:List Str},(n,es)∈W->(x∈up W n↔x=n\/∃e∈es,x∈up W e)) (λ_ n es h=>nomatch h) (λW p ih h n es hm=>?_) W
 obtain⟨hW,hp,hel,_⟩:=zga h
 rcases qu.mp hm with hm|hm
 ·rw[zqj (zbao hm),ih hW hm]
  have:(∃e∈es,x∈up W e)↔∃e∈es,x∈up (W++[p]) e:=by
   constructor
   ·rintro⟨e,he,hx⟩;exact⟨e,he,by rw[zqj (zzj hW hm e he)];exact hx⟩
   ·rintro⟨e,he,hx⟩;exact⟨e,he,by rw[zqj (zzj hW hm e he)]at hx;exact hx⟩
  rw[this]
 ·have e:(n,es)=p:=by simpa using hm
  subst e
  rw[zatb hp,zum]
  have:(∃e∈es,x∈upL (ups W) e)↔∃e∈es,x∈up (W++[(n,es)]) e:=by
   constructor
   ·rintro⟨e,he,hx⟩;exact⟨e,he,by rw[zqj (hel e he)];exact hx⟩
   ·rintro⟨e,he,hx⟩;exact⟨e,he,by rw[zqj (hel e he)]at hx;exact hx⟩
  rw[this]
  simp
theorem zawg(h:WebOk W)(hn:n∈nm W):n∈up W n:=by
 obtain⟨⟨m,es⟩,h1,h2⟩:=qAa.mp hn
 cases h2
 exact(zbap h h1).mpr (.inl rfl)
theorem zagn:∀{W:Web},WebOk W->∀{n x:Str},x∈up W n->x∈nm W:=by
 intro W
 refine zun (P:=λW=>WebOk W->∀{n x:Str},x∈up W n->x∈nm W) (λ_ n x h=>by simp[up,ups,upL]at h) (λW p ih h n x hx=>?_) W
 obtain⟨hW,hp,hel,_⟩:=zga h
 rw[znr]
 by_cases hn:n∈nm W
 ·rw[zqj hn]at hx
  exact q9 _ (ih hW hx)
 ·by_cases e:n=p.1
  ·rw[e,zatb hp,zum]at hx
   rcases hx with hx|⟨e',_,hx⟩
   ·exact qc _ (by simpa using hx)
   ·exact q9 _ (ih hW hx)
  ·unfold up upL at hx
   rw[zjf]at hx
   unfold zje at hx
   rw[zhb,zuo (by rw[zge];exact hn),beq_eq_false_iff_ne.mpr e]at hx
   simp at hx
theorem zbck:∀{W:Web}{n:Str},(up W n).Nodup:=by
 intro W
 refine zun (P:=λW=>∀{n:Str},(up W n).Nodup) (λ{n}=>by simp[up,ups,upL]) (λW p ih n=>?_) W
 unfold up upL
 rw[zjf]
 unfold zje
 rw[zhb]
 cases e:(ups W).lookup n with
 | some ks=>
  have q:=ih (n:=n)
  unfold up upL at q
  rw[e]at q
  exact q
 | none=>
  show((if n==p.1 then some _ else none).getD []).Nodup
  split
  ·exact zagm (by simp)
  ·exact qCM
theorem zamr(h:WebOk W)(n:Str):(up W n).length<=12:=by
 have:=zkk _ (nm W) (zbck (W:=W) (n:=n)) λx hx=>zagn h hx
 have:=ztn h
 omega
def dS(f:List Str->PyData)(l:List (Str×List Str)):List (PyData×PyData):=l.map λp=>(.str p.1,f p.2)
theorem zns(f:List Str->PyData)(n:Str):∀l:List (Str×List Str),zos (dS f l) (Sum.inr n)=(l.lookup n).map f
 | []=>rfl
 | (a,b)::l=>by
  have ih:=zns f n l
  show(if keyD (.str a)=some (Sum.inr n)then some (f b)else zos (dS f l) (Sum.inr n))=_
  rw[qAM]
  by_cases e:a=n
  ·subst e;rw[if_pos (show keyD (.str a)=some (Sum.inr a)from rfl),beq_self_eq_true];rfl
  ·rw[if_neg (show ¬keyD (.str a)=some (Sum.inr n)from λz=>e (qCJ (qX z))),beq_eq_false_iff_ne.mpr (qAp e)]
   exact ih
theorem zams(f:List Str->PyData){l:List (Str×List Str)}(h:n∉l.map (·.1)):zwq (dS f l) (.str n) (f ks)=dS f (l++[(n,ks)]):=by
 unfold zwq dS
 rw[if_neg,qAJ]
 ·rfl
 ·intro z
  rw[qCH,qA9]at z
  obtain⟨p,hp,e⟩:=z
  have e:=of_decide_eq_true e
  exact h (qAa.mpr ⟨p,hp,qCJ (qX e)⟩)
def zia(ks:List Str):List (PyData×PyData):=ks.map λk=>(.str k,.bool true)
def zbf(ks:List Str):PyData:=.dict (zia ks)
theorem zabu(x:Str):∀ks:List Str,zadw (zia ks) (Sum.inr x)=decide (x∈ks)
 | []=>by simp[zia,zadw,zos]
 | k::ks=>by
  have ih:=zabu x ks
  unfold zadw at ih ⊢
  show(if keyD (.str k)=some (Sum.inr x)then some (PyData.bool true)else zos (zia ks) (Sum.inr x)).isSome=_
  by_cases e:k=x
  ·subst e;rw[if_pos (show keyD (.str k)=some (Sum.inr k)from rfl)];simp
  ·rw[if_neg (show ¬keyD (.str k)=some (Sum.inr x)from λz=>e (qCJ (qX z))),ih]
   have:¬x=k:=λz=>e z.symm
   simp[this]
theorem zamt(ks:List Str)(k:Str):zwq (zia ks) (.str k) (.bool true)=zia (insS ks k):=by
 have ha:((zia ks).any λkv=>decide (keyD kv.1=keyD (.str k)))=decide (k∈ks):=by
  unfold zia
  rw[qCH,qAo,qA9,decide_eq_true_iff]
  constructor
  ·rintro⟨y,hy,h⟩
   have h:=of_decide_eq_true h
   have:y=k:=qCJ (qX h)
   rw[<- this];exact hy
  ·exact λh=>⟨k,h,decide_eq_true rfl⟩
 unfold zwq insS
 rw[ha]
 by_cases hk:k∈ks
 ·rw[if_pos (decide_eq_true hk),if_pos hk]
  unfold zia
  rw[qBa]
  refine qBX λy _=>?_
  show(if keyD (PyData.str y)=keyD (.str k)then(PyData.str y,PyData.bool true)else(PyData.str y,PyData.bool true))=_
  split<;>rfl
 ·rw[if_neg (by simpa using hk),if_neg hk]
  unfold zia
  rw[qAJ];rfl
theorem znt:∀(ms ks:List Str),znm (zia ks) (zia ms)=zia (ms.foldl insS ks)
 | [],_=>rfl
 | m::ms,ks=>by
  show znm (zwq (zia ks) (.str m) (.bool true)) (zia ms)=_
  rw[zamt,znt ms];rfl
theorem zago(h:pre++x::post=l):l=(pre++[x])++post:=by rw[<- h];simp
theorem zabv:∀{post W:Web},WebOk (W++post)->WebOk W:=by
 intro post
 refine zun (P:=λpost=>∀{W:Web},WebOk (W++post)->WebOk W) (λ{W} h=>by rwa [qw]at h) (λpost p ih W h=>?_) post
 rw[<- qBC]at h
 exact ih (zga h).1
theorem zxp(h:WebOk W):zfm [webD W]=some (.dict (dS zbf (ups W)),true):=by
 have inner:∀(V:Web)(p:Str×List Str)(es pre:List Str)(s5:Sl),WebOk (V++[p])->pre++es=p.2->
   ∃s5',forL (gN 5) (sUpd 4 (zdd 1 (eVar 5))) (es.map .str) [.pl (webD W),.ac (.dict (dS zbf (ups V))),.pl (.str p.1),.pl (zab p.2),.ac (zbf (pre.foldl (λks e=>(upL (ups V) e).foldl insS ks) [p.1])),s5] =
    some (.nx [.pl (webD W),.ac (.dict (dS zbf (ups V))),.pl (.str p.1),.pl (zab p.2),.ac (zbf (p.2.foldl (λks e=>(upL (ups V) e).foldl insS ks) [p.1])),s5']):=by
  intro V p es
  induction es with
  | nil=>intro pre s5 _ e;rw[qw]at e;subst e;exact⟨s5,rfl⟩
  | cons e es ih=>
   intro pre s5 hV hp
   obtain⟨hV',hn,hel,hfew⟩:=zga hV
   have he:e∈nm V:=hel e (by rw[<- hp];simp)
   obtain⟨ks,lk,_⟩:=zjg (l:=ups V) (n:=e) (by rw[zge];exact he)
   have eup:upL (ups V) e=ks:=by unfold upL;rw[lk];rfl
   have l1:ks.length<=12:=by rw[<- eup];exact zamr hV' e
   have sub:∀x∈pre.foldl (λks e=>(upL (ups V) e).foldl insS ks) [p.1],x∈nm (V++[p]):=λx hx=>by
    rw[znr]
    rcases zum.mp hx with z|⟨e',_,z⟩
    ·exact qc _ (by simpa using z)
    ·exact q9 _ (zagn hV' z)
   have l2:(pre.foldl (λks e=>(upL (ups V) e).foldl insS ks) [p.1]).length<=12:=by
    have:=zkk _ _ (zagm (acc:=ups V) (es:=pre) (ks:=[p.1]) (by simp)) sub
    have:=ztn hV
    omega
   obtain⟨s5',q⟩:=ih (pre++[e]) (.pl (.str e)) hV (by rw[<- hp];simp)
   refine⟨s5',?_⟩
   rw[qR]
   unfold forL
   simp only[gN,qE,qBf,qBe]
   have b:sUpd 4 (zdd 1 (eVar 5)) [.pl (webD W),.ac (.dict (dS zbf (ups V))),.pl (.str p.1),.pl (zab p.2),.ac (zbf (pre.foldl (λks e=>(upL (ups V) e).foldl insS ks) [p.1])),.pl (.str e)] =
     some (.nx [.pl (webD W),.ac (.dict (dS zbf (ups V))),.pl (.str p.1),.pl (zab p.2),.ac (zbf ((pre++[e]).foldl (λks e=>(upL (ups V) e).foldl insS ks) [p.1])),.pl (.str e)]):=by
    have lz:(zia (pre.foldl (λks e=>(upL (ups V) e).foldl insS ks) [p.1])).length+(zia ks).length<=100000:=by unfold zia;rw[qC,qC];omega
    simp only[sUpd,zbf,zdd,eVar,qAL,qAK,qE,keyD,zns,lk,qAs]
    rw[if_pos ⟨lz,by simp⟩,znt]
    simp[frzs,qB8,eup]
   rw[b,qE]
   exact q
 have outer:∃env',forL (gT 2 (zar 2 (zar 3 zdt))) (sSeq (sSet 4 (eD1 (eVar 2) (eC (.bool true)))) (sSeq (sFor (zaj (eVar 3)) (gN 5) (sUpd 4 (zdd 1 (eVar 5)))) (sPut 1 (eVar 2) (eVar 4)))) (W.map rowD) [.pl (webD W),.ac (.dict []),.no,.no,.no,.no]=some (.nx env')/\
   ∃s2 s3 s4 s5,env'=[.pl (webD W),.ac (.dict (dS zbf (ups W))),s2,s3,s4,s5]:=by
  refine zec (λpre env=>∃s2 s3 s4 s5,env=[.pl (webD W),.ac (.dict (dS zbf (ups pre))),s2,s3,s4,s5]) ⟨_,_,_,_,rfl⟩ ?_
  rintro pre p post env hp ⟨s2,s3,s4,s5,rfl⟩
  have hV:WebOk (pre++[p]):=zabv (post:=post) (by rw[<- zago hp];exact h)
  obtain⟨hV',hn,hel,hfew⟩:=zga hV
  obtain⟨s5',q⟩:=inner pre p p.2 [] s5 hV rfl
  refine⟨[.pl (webD W),.ac (.dict (dS zbf (ups pre))),.pl (.str p.1),.pl (zab p.2),s4,s5],[.pl (webD W),.ac (.dict (dS zbf (ups (pre++[p])))),.pl (.str p.1),.pl (zab p.2),.pl (zbf (p.2.foldl (λks e=>(upL (ups pre) e).foldl insS ks) [p.1])),s5'],rfl,.inl ?_,_,_,_,_,rfl⟩
  have lz:(dS zbf (ups pre)).length<100000:=by
   unfold dS
   rw[qC,<- qC (f:=(·.1)),zge]
   have:=ztn hV'
   omega
  have st:sSet 4 (eD1 (eVar 2) (eC (.bool true))) [.pl (webD W),.ac (.dict (dS zbf (ups pre))),.pl (.str p.1),.pl (zab p.2),s4,s5]=some (.nx [.pl (webD W),.ac (.dict (dS zbf (ups pre))),.pl (.str p.1),.pl (zab p.2),.ac (zbf [p.1]),s5]):=by
   simp[sSet,eD1,eVar,eC,keyD,putV,frzs,slOf,zbf,zia]
  have pt:sPut 1 (eVar 2) (eVar 4) [.pl (webD W),.ac (.dict (dS zbf (ups pre))),.pl (.str p.1),.pl (zab p.2),.ac (zbf (p.2.foldl (λks e=>(upL (ups pre) e).foldl insS ks) [p.1])),s5'] =
    some (.nx [.pl (webD W),.ac (.dict (dS zbf (ups (pre++[p])))),.pl (.str p.1),.pl (zab p.2),.pl (zbf (p.2.foldl (λks e=>(upL (ups pre) e).foldl insS ks) [p.1])),s5']):=by
   simp only[sPut,eVar,qAL,qAK,qE,keyD]
   rw[if_pos ⟨lz,by simp⟩,zams zbf (by rw[zge];exact hn),zjf]
   simp[frzs,frz1,zje]
  exact zai st (zai (for_list rfl q) pt)
 obtain⟨env',hl,s2,s3,s4,s5,rfl⟩:=outer
 exact zgj (env:=[.pl (webD W),.no,.no,.no,.no,.no]) rfl (zai rfl (zai (for_list rfl hl) rfl))
theorem zamu{W:Web}:∀(ms ks:List Str)(s6:Sl),ks.length+ms.length<100000->∃s6',forL (gN 6) (sIf (zaz (eOp (inD true) (eVar 6) (eVar 4))) (sApp 4 (eVar 6)) sNil) (ms.map .str) [A,B,C,D,.ac (zab ks),E,s6]=some (.nx [A,B,C,D,.ac (zab (ms.foldl insS ks)),E,s6'])
 | [],ks,s6,_=>⟨s6,rfl⟩
 | m::ms,ks,s6,hl=>by
  have step:sIf (zaz (eOp (inD true) (eVar 6) (eVar 4))) (sApp 4 (eVar 6)) sNil [A,B,C,D,.ac (zab ks),E,.pl (.str m)]=some (.nx [A,B,C,D,.ac (zab (insS ks m)),E,.pl (.str m)]):=by
   by_cases hm:m∈ks
   ·refine if_f ?_ ?_
    ·simp[zaz,eOp,eVar,zul,hm]
    ·rw[show insS ks m=ks from if_pos hm];rfl
   ·refine if_t ?_ ?_
    ·simp[zaz,eOp,eVar,zul,hm]
    ·have lz:(ks.map PyData.str).length<100000:=by rw[qC];simp at hl;omega
     simp only[sApp,zab,eVar,qAL,qAK,qE]
     rw[if_pos ⟨lz,by simp⟩]
     simp[frzs,insS,hm]
  have hl2:(insS ks m).length+ms.length<100000:=by
   have:(insS ks m).length<=ks.length+1:=by unfold insS;split<;>simp
   simp at hl;omega
  obtain⟨s6',q⟩:=zamu (W:=W) ms (insS ks m) (.pl (.str m)) hl2
  refine⟨s6',?_⟩
  rw[qR]
  unfold forL
  simp only[gN,qE,qBf,qBe]
  rw[step,qE]
  exact q
theorem zaqv(h:WebOk W):zmh [webD W]=some (.dict (dS zab (ups W)),true):=by
 have inner:∀(V:Web)(p:Str×List Str)(es pre:List Str)(s5 s6:Sl),WebOk (V++[p])->pre++es=p.2->
   ∃s5' s6',forL (gN 5) (sFor (zaj (zdd 1 (eVar 5))) (gN 6) (sIf (zaz (eOp (inD true) (eVar 6) (eVar 4))) (sApp 4 (eVar 6)) sNil)) (es.map .str) [.pl (webD W),.ac (.dict (dS zab (ups V))),.pl (.str p.1),.pl (zab p.2),.ac (zab (pre.foldl (λks e=>(upL (ups V) e).foldl insS ks) [p.1])),s5,s6] =
    some (.nx [.pl (webD W),.ac (.dict (dS zab (ups V))),.pl (.str p.1),.pl (zab p.2),.ac (zab (p.2.foldl (λks e=>(upL (ups V) e).foldl insS ks) [p.1])),s5',s6']):=by
  intro V p es
  induction es with
  | nil=>intro pre s5 s6 _ e;rw[qw]at e;subst e;exact⟨s5,s6,rfl⟩
  | cons e es ih=>
   intro pre s5 s6 hV hp
   obtain⟨hV',hn,hel,hfew⟩:=zga hV
   have he:e∈nm V:=hel e (by rw[<- hp];simp)
   obtain⟨ks,lk,_⟩:=zjg (l:=ups V) (n:=e) (by rw[zge];exact he)
   have eup:upL (ups V) e=ks:=by unfold upL;rw[lk];rfl
   have l1:ks.length<=12:=by rw[<- eup];exact zamr hV' e
   have sub:∀x∈pre.foldl (λks e=>(upL (ups V) e).foldl insS ks) [p.1],x∈nm (V++[p]):=λx hx=>by
    rw[znr]
    rcases zum.mp hx with z|⟨e',_,z⟩
    ·exact qc _ (by simpa using z)
    ·exact q9 _ (zagn hV' z)
   have l2:(pre.foldl (λks e=>(upL (ups V) e).foldl insS ks) [p.1]).length<=12:=by
    have:=zkk _ _ (zagm (acc:=ups V) (es:=pre) (ks:=[p.1]) (by simp)) sub
    have:=ztn hV
    omega
   obtain⟨s6',q1⟩:=zamu (W:=W) (A:=.pl (webD W)) (B:=.ac (.dict (dS zab (ups V)))) (C:=.pl (.str p.1)) (D:=.pl (zab p.2)) (E:=.pl (.str e)) ks (pre.foldl (λks e=>(upL (ups V) e).foldl insS ks) [p.1]) s6 (by omega)
   obtain⟨s5',s6'',q⟩:=ih (pre++[e]) (.pl (.str e)) s6' hV (by rw[<- hp];simp)
   refine⟨s5',s6'',?_⟩
   rw[qR]
   unfold forL
   simp only[gN,qE,qBf,qBe]
   have gd:zdd 1 (eVar 5) [.pl (webD W),.ac (.dict (dS zab (ups V))),.pl (.str p.1),.pl (zab p.2),.ac (zab (pre.foldl (λks e=>(upL (ups V) e).foldl insS ks) [p.1])),.pl (.str e),s6]=some ⟨zab ks,false,[]⟩:=by
    simp[zdd,eVar,keyD,zns,lk]
   rw[for_list gd q1,qE]
   rw[qB8,qBj,List.foldl_nil,eup]at q
   exact q
 have outer:∃env',forL (gT 2 (zar 2 (zar 3 zdt))) (sSeq (sSet 4 (eLst (zaa (eVar 2) aNil))) (sSeq (sFor (zaj (eVar 3)) (gN 5) (sFor (zaj (zdd 1 (eVar 5))) (gN 6) (sIf (zaz (eOp (inD true) (eVar 6) (eVar 4))) (sApp 4 (eVar 6)) sNil))) (sPut 1 (eVar 2) (eVar 4)))) (W.map rowD) [.pl (webD W),.ac (.dict []),.no,.no,.no,.no,.no]=some (.nx env')/\
   ∃s2 s3 s4 s5 s6,env'=[.pl (webD W),.ac (.dict (dS zab (ups W))),s2,s3,s4,s5,s6]:=by
  refine zec (λpre env=>∃s2 s3 s4 s5 s6,env=[.pl (webD W),.ac (.dict (dS zab (ups pre))),s2,s3,s4,s5,s6]) ⟨_,_,_,_,_,rfl⟩ ?_
  rintro pre p post env hp ⟨s2,s3,s4,s5,s6,rfl⟩
  have hV:WebOk (pre++[p]):=zabv (post:=post) (by rw[<- zago hp];exact h)
  obtain⟨hV',hn,hel,hfew⟩:=zga hV
  obtain⟨s5',s6',q⟩:=inner pre p p.2 [] s5 s6 hV rfl
  refine⟨[.pl (webD W),.ac (.dict (dS zab (ups pre))),.pl (.str p.1),.pl (zab p.2),s4,s5,s6],[.pl (webD W),.ac (.dict (dS zab (ups (pre++[p])))),.pl (.str p.1),.pl (zab p.2),.pl (zab (p.2.foldl (λks e=>(upL (ups pre) e).foldl insS ks) [p.1])),s5',s6'],rfl,.inl ?_,_,_,_,_,_,rfl⟩
  have lz:(dS zab (ups pre)).length<100000:=by
   unfold dS
   rw[qC,<- qC (f:=(·.1)),zge]
   have:=ztn hV'
   omega
  have pt:sPut 1 (eVar 2) (eVar 4) [.pl (webD W),.ac (.dict (dS zab (ups pre))),.pl (.str p.1),.pl (zab p.2),.ac (zab (p.2.foldl (λks e=>(upL (ups pre) e).foldl insS ks) [p.1])),s5',s6'] =
    some (.nx [.pl (webD W),.ac (.dict (dS zab (ups (pre++[p])))),.pl (.str p.1),.pl (zab p.2),.pl (zab (p.2.foldl (λks e=>(upL (ups pre) e).foldl insS ks) [p.1])),s5',s6']):=by
   simp only[sPut,eVar,qAL,qAK,qE,keyD]
   rw[if_pos ⟨lz,by simp⟩,zams zab (by rw[zge];exact hn),zjf]
   simp[frzs,frz1,zje]
  exact zai rfl (zai (for_list rfl q) pt)
 obtain⟨env',hl,s2,s3,s4,s5,s6,rfl⟩:=outer
 exact zgj (env:=[.pl (webD W),.no,.no,.no,.no,.no,.no]) rfl (zai rfl (zai (for_list rfl hl) rfl))
def ltr(i:Int):Str:=⟨#[97+i.toNat]⟩
def Low(x:Str):Prop:=∀c∈x.cps.toList,c<128
theorem zhl(h:Low x):qAH x=true:=by
 unfold qAH
 rw[<- Array.all_toList,qAk]
 intro c hc
 have:=h c hc
 exact decide_eq_true (by omega)
theorem zjh(a b:Str):(a++b).cps.toList=a.cps.toList++b.cps.toList:=by
 show(a.cps++b.cps).toList=_
 simp
theorem Low.app(h1:Low a)(h2:Low b):Low (a++b):=λc hc=>by
 rw[zjh]at hc
 exact(qu.mp hc).elim (h1 c) (h2 c)
theorem Low.slice(h:Low x)(l u:Option Int):Low (Txt.slice x l u):=λc hc=>by
 unfold Txt.slice at hc
 split at hc
 ·exact h c hc
 ·have hc:c∈(List.filterMap (x.cps[·]?) (Builtin.Str.strSliceIndices l u 1 x.length)):=by simpa using hc
  obtain⟨i,_,e⟩:=qBg.mp hc
  exact h c (by
   have:=qDJ e
   simpa using this)
theorem Low.ltr(h0:0<=i)(h1:i<26):Low (ltr i):=λc hc=>by
 have:c=97+i.toNat:=by simpa [Bc.ltr]using hc
 omega
theorem zabw(c:Nat):∀(n:Nat)(acc:Array Nat),((List.replicate n #[c]).foldl (·++·) acc).toList=acc.toList++List.replicate n c
 | 0,acc=>by simp
 | n+1,acc=>by
  rw[qBv,qBj,zabw c n,qBv]
  simp
theorem zpd{n:Int}(h:0<=n):(Txt.mul ⟨#[c]⟩ n).cps.toList=List.replicate n.toNat c:=by
 unfold Txt.mul
 split
 ·have:n.toNat=0:=by omega
  rw[this];rfl
 ·split
  ·rename_i h1 h2
   have:n=1:=by
    rcases qBY.mp h2 with z|z
    ·exact eq_of_beq z
    ·exact absurd z (by simp[Str.length])
   subst this
   rfl
  ·rw[zabw];rfl
theorem Low.mul(hc:c<128)(h:0<=n):Low (Txt.mul ⟨#[c]⟩ n):=λd hd=>by
 rw[zpd h]at hd
 rw[qBb hd];exact hc
theorem zamv{n:Int}(h:0<=n):(Txt.mul ⟨#[c]⟩ n).length=n.toNat:=by
 have:=congrArg List.length (zpd (c:=c) h)
 rw[qAT]at this
 simpa [Str.length]using this
def zji(md o st:Int)(stem:Str)(at_:Int)(k:Nat):Str:=
 if md=0 then Txt.slice stem none (some at_)++ltr ((o+st * k) % 26)++Txt.slice stem (some at_) none
 else if md=1 then Txt.slice stem none (some (k * st % (stem.length+1)))++ltr ((o+st * k) % 26)
 else Txt.mul (ltr ((o+k / 8) % 26)) (1+k * st % 8)
theorem zamw(h0:0<=i)(h1:0<=j)(h:ltr i=ltr j):i=j:=by
 unfold ltr at h
 have:#[97+i.toNat]=#[97+j.toNat]:=by injection h
 have:97+i.toNat=97+j.toNat:=by simpa using this
 omega
theorem zabx:∀st∈([1,3,5,7,9,11,15,17]:List Nat),∀a<16,∀b<16,st * a % 26=st * b % 26->a=b:=by decide +kernel
theorem zagp{o st:Int}(hs:st∈([1,3,5,7,9,11,15,17]:List Int)){a b:Nat}(ha:a<16)(hb:b<16)(h:(o+st * a) % 26=(o+st * b) % 26):a=b:=by
 have h2:=Int.emod_add_cancel_left.mp h
 simp only[qZ,qCB,or_false]at hs
 rcases hs with rfl|rfl|rfl|rfl|rfl|rfl|rfl|rfl
 ·exact zabx 1 (by decide) a ha b hb (by exact_mod_cast h2)
 ·exact zabx 3 (by decide) a ha b hb (by exact_mod_cast h2)
 ·exact zabx 5 (by decide) a ha b hb (by exact_mod_cast h2)
 ·exact zabx 7 (by decide) a ha b hb (by exact_mod_cast h2)
 ·exact zabx 9 (by decide) a ha b hb (by exact_mod_cast h2)
 ·exact zabx 11 (by decide) a ha b hb (by exact_mod_cast h2)
 ·exact zabx 15 (by decide) a ha b hb (by exact_mod_cast h2)
 ·exact zabx 17 (by decide) a ha b hb (by exact_mod_cast h2)
theorem zawh{x y:Int}(hx:0<=x)(hy:0<=y)(h:97+x.toNat=97+y.toNat):x=y:=by omega
theorem zbaq{x y:Int}(hx:0<=x)(hy:0<=y)(h:(1+x).toNat=(1+y).toNat):x=y:=by omega
theorem zamx{x:Int}(hx:0<=x):(1+x).toNat=x.toNat+1:=by omega
theorem tab8:∀st∈([1,3,5,7,9,11,15,17]:List Nat),∀a<16,∀b<16,a / 8=b / 8->a * st % 8=b * st % 8->a=b:=by decide +kernel
theorem zamy{o st:Int}(hs:st∈([1,3,5,7,9,11,15,17]:List Int)){a b:Nat}(ha:a<16)(hb:b<16)(h:(o+(a:Int) / 8) % 26=(o+(b:Int) / 8) % 26)(h2:(a:Int) * st % 8=b * st % 8):a=b:=by
 have q1:a / 8=b / 8:=by omega
 simp only[qZ,qCB,or_false]at hs
 rcases hs with rfl|rfl|rfl|rfl|rfl|rfl|rfl|rfl
 ·exact tab8 1 (by decide) a ha b hb q1 (by exact_mod_cast h2)
 ·exact tab8 3 (by decide) a ha b hb q1 (by exact_mod_cast h2)
 ·exact tab8 5 (by decide) a ha b hb q1 (by exact_mod_cast h2)
 ·exact tab8 7 (by decide) a ha b hb q1 (by exact_mod_cast h2)
 ·exact tab8 9 (by decide) a ha b hb q1 (by exact_mod_cast h2)
 ·exact tab8 11 (by decide) a ha b hb q1 (by exact_mod_cast h2)
 ·exact tab8 15 (by decide) a ha b hb q1 (by exact_mod_cast h2)
 ·exact tab8 17 (by decide) a ha b hb q1 (by exact_mod_cast h2)
theorem zamz{md o st at_:Int}{stem:Str}(hs:st∈([1,3,5,7,9,11,15,17]:List Int))(ho:0<=o){a b:Nat}(ha:a<16)(hb:b<16)(h:zji md o st stem at_ a=zji md o st stem at_ b):a=b:=by
 have st0:0<=st:=by
  simp only[qZ,qCB,or_false]at hs
  rcases hs with rfl|rfl|rfl|rfl|rfl|rfl|rfl|rfl<;>decide
 have n26:∀z:Int,0<=z % 26:=λz=>qx z (by decide)
 unfold zji at h
 by_cases h0:md=0
 ·rw[if_pos h0,if_pos h0]at h
  have q:=congrArg (λx:Str=>x.cps.toList) h
  simp only[zjh]at q
  have q2:=List.append_cancel_right q
  have q3:=List.append_cancel_left q2
  have q4:ltr ((o+st * a) % 26)=ltr ((o+st * b) % 26):=by
   unfold ltr at q3 ⊢
   congr 1
   exact Array.toList_inj.mp q3
  exact zagp hs ha hb (zamw (n26 _) (n26 _) q4)
 ·rw[if_neg h0,if_neg h0]at h
  by_cases h1:md=1
  ·rw[if_pos h1,if_pos h1]at h
   have q:=congrArg (λx:Str=>x.cps.toList) h
   simp only[zjh]at q
   have q3:=(List.append_inj' q (by simp[ltr])).2
   have q4:ltr ((o+st * a) % 26)=ltr ((o+st * b) % 26):=by
    unfold ltr at q3 ⊢
    congr 1
    exact Array.toList_inj.mp q3
   exact zagp hs ha hb (zamw (n26 _) (n26 _) q4)
  ·rw[if_neg h1,if_neg h1]at h
   have m8:∀z:Int,0<=z % 8:=λz=>qx z (by decide)
   have q:(Txt.mul (ltr ((o+(a:Int) / 8) % 26)) (1+a * st % 8)).cps.toList=(Txt.mul (ltr ((o+(b:Int) / 8) % 26)) (1+b * st % 8)).cps.toList:=by rw[h]
   have ea:∀k:Nat,(Txt.mul (ltr ((o+(k:Int) / 8) % 26)) (1+k * st % 8)).cps.toList=List.replicate (1+(k:Int) * st % 8).toNat (97+((o+(k:Int) / 8) % 26).toNat):=λk=>zpd (by have:=m8 (k * st);omega)
   rw[ea a,ea b]at q
   have ql:=congrArg List.length q
   rw[qAT,qAT]at ql
   have w1:=m8 (a * st)
   have w2:=m8 (b * st)
   have hh:(97+((o+(a:Int) / 8) % 26).toNat)=(97+((o+(b:Int) / 8) % 26).toNat):=by
    have c1:(1+(a:Int) * st % 8).toNat=((a:Int) * st % 8).toNat+1:=zamx w1
    have c2:(1+(b:Int) * st % 8).toNat=((b:Int) * st % 8).toNat+1:=zamx w2
    rw[c1,c2,qBv,qBv]at q
    exact(List.cons.inj q).1
   have z1:=n26 (o+(a:Int) / 8)
   have z2:=n26 (o+(b:Int) / 8)
   exact zamy (o:=o) hs ha hb (zawh z1 z2 hh) (zbaq w1 w2 ql)
theorem zup{f:Nat->α}(h:∀a b,a<n->b<n->f a=f b->a=b):((List.range n).map f).Nodup:=by
 rw[List.nodup_iff_pairwise_ne,List.pairwise_map]
 refine List.Pairwise.imp_of_mem ?_ (List.pairwise_lt_range (n:=n))
 intro a b ha hb hab e
 have:=h a b (qAi.mp ha) (qAi.mp hb) e
 omega
theorem zana(hl:Low stem)(ho:0<=o)(hst:0<=st)(k:Nat):Low (zji md o st stem at_ k):=by
 have n26:∀z:Int,0<=z % 26/\z % 26<26:=λz=>⟨qx z (by decide),qr z (by decide)⟩
 unfold zji
 split
 ·exact((hl.slice _ _).app (Low.ltr (n26 _).1 (n26 _).2)).app (hl.slice _ _)
 ·split
  ·exact(hl.slice _ _).app (Low.ltr (n26 _).1 (n26 _).2)
  ·have:=qx ((k:Int) * st) (show(8:Int)≠0 by decide)
   exact Low.mul (by have:=n26 (o+(k:Int) / 8);omega) (by omega)
abbrev vi(i:Int):Val:=⟨.int i,false,[]⟩
abbrev vs(x:Str):Val:=⟨.str x,false,[]⟩
abbrev vb(b:Bool):Val:=⟨.bool b,false,[]⟩
section
variable{a b:EF}{env:DEnv}{i j:Int}
theorem zfa(ha:a env=some (vi i))(hb:b env=some (vi j))(h:0<j):eOp modD a b env=some (vi (i % j)):=by
 unfold eOp;rw[ha,hb];simp[modD,intD,h,bsOf,zfo]
theorem zgk(ha:a env=some (vi i))(hb:b env=some (vi j))(h:0<j)(h2:j<1073741824):eOp zbi a b env=some (vi (i / j)):=by
 unfold eOp;rw[ha,hb];simp[zbi,intD,h,h2,bsOf,zfo]
theorem zsl(ha:a env=some (vi i))(hb:b env=some (vi j)):eOp addD a b env=some (vi (i+j)):=by
 unfold eOp;rw[ha,hb];simp[addD,bsOf,zfo]
theorem zaqw(ha:a env=some (vi i))(hb:b env=some (vi j)):eOp subD a b env=some (vi (i - j)):=by
 unfold eOp;rw[ha,hb];simp[subD,intD,bsOf,zfo]
theorem zaqx(ha:a env=some (vi i))(hb:b env=some (vi j))(h:(-(2 ^ 64)<i/\i<2 ^ 64)\/(-(2 ^ 64)<j/\j<2 ^ 64)):eOp mulD a b env=some (vi (i * j)):=by
 unfold eOp;rw[ha,hb]
 simp only[qE,mulD]
 rw[if_pos h];simp[bsOf,zfo]
theorem zsm(ha:a env=some (vi i))(hb:b env=some (vi j)):eOp eqD a b env=some (vb (i==j)):=by
 unfold eOp;rw[ha,hb];rfl
theorem zanb{x y:Str}(ha:a env=some (vs x))(hb:b env=some (vs y))(h:x.length+y.length<=100000):eOp addD a b env=some (vs (x++y)):=by
 unfold eOp;rw[ha,hb]
 simp only[qE,addD]
 rw[if_pos h];simp[bsOf,zfo]
theorem zatc{x:Str}(ha:a env=some (vs x))(hb:b env=some (vi j))(h:x.length<=1000/\-1000<=j/\j<=1000):eOp mulD a b env=some (vs (Txt.mul x j)):=by
 unfold eOp;rw[ha,hb]
 simp only[qE,mulD]
 rw[if_pos h];simp[bsOf,zfo]
theorem zawi{x:Str}(ha:a env=some (vs x))(hl:l env=some lo)(hh:h env=some hi)(hz:x.length<=100000):eSl a l h env=some (vs (Txt.slice x lo hi)):=by
 unfold eSl;rw[ha,hl,hh]
 simp only[qE,slD]
 rw[if_pos hz];simp[bsOf,zfo]
theorem zmu(ha:a env=some (vi i)):zbe a env=some (some i):=by unfold zbe;rw[ha];rfl
theorem zeu(ha:a env=some (vb c)):zaz a env=some c:=by unfold zaz;rw[ha];rfl
theorem zch(ha:a env=some r):zaa a aNil env=some [r]:=by unfold zaa aNil;rw[ha];rfl
theorem zatd{x:Str}(ha:a env=some (vs x))(hz:x.length<=100000):eCB lenD (zaa a aNil) env=some (vi x.length):=by
 unfold eCB
 rw[zch ha]
 simp[zds,lenD,hz,bsOf,zfo]
theorem zmv{ds:List PyData}(ha:a env=some ⟨.list ds,fr,bs⟩):eCB lenD (zaa a aNil) env=some (vi ds.length):=by
 unfold eCB
 rw[zch ha]
 simp[zds,lenD,bsOf,zfo]
theorem zaeh{k n:Nat}{b:EF}{ds:List PyData}{d:PyData}(he:env[k]?=some (.pl (.list ds)))(hb:b env=some (vi (n:Int)))(hd:ds[n]?=some d):eIxV k b env=some ⟨d,false,[]⟩:=by
 unfold eIxV
 rw[he]
 unfold eOp eVar
 rw[he,hb]
 simp only[qE,ixD]
 rw[zki hd]
 simp[bsOf]
theorem zbcl{k n:Nat}{b:EF}{ds:List PyData}{d:PyData}(he:env[k]?=some (.ac (.list ds)))(hb:b env=some (vi (n:Int)))(hd:ds[n]?=some d):eIxV k b env=some ⟨d,false,[]⟩:=by
 unfold eIxV
 rw[he]
 simp only
 rw[hb]
 simp only[qE]
 rw[zki hd];rfl
end
def abc:Str:="abcdefghijklmnopqrstuvwxyz"
theorem zawj:(List.range 26).all (λi=>abc.cps.toList[i]?==some (97+i))=true:=by decide +kernel
theorem zawk:abc.length=26:=by decide +kernel
theorem zbar{i:Int}(h0:0<=i)(h1:i<26):atI abc.cps.toList i=some (97+i.toNat):=by
 have q:=qAk.mp zawj i.toNat (qAi.mpr (by omega))
 have e:((i.toNat:Nat):Int)=i:=by omega
 rw[<- e]
 have z:=zki (eq_of_beq q)
 rw[e]at z ⊢
 exact z
theorem zawl(he:env[k]?=some (.pl (.str abc)))(hb:b env=some (vi i))(h0:0<=i)(h1:i<26):eIxV k b env=some (vs (ltr i)):=by
 unfold eIxV
 rw[he]
 unfold eOp eVar
 rw[he,hb]
 simp only[qE,ixD]
 rw[if_pos (by rw[zawk];decide),zbar h0 h1]
 simp[bsOf,zfo,ltr]
theorem zawm(h0:0<=i)(h1:i<8):∃st:Int,atI [PyData.int 1,.int 3,.int 5,.int 7,.int 9,.int 11,.int 15,.int 17] i=some (.int st)/\st∈([1,3,5,7,9,11,15,17]:List Int):=by
 rcases(show i=0\/i=1\/i=2\/i=3\/i=4\/i=5\/i=6\/i=7 by omega)with rfl|rfl|rfl|rfl|rfl|rfl|rfl|rfl
 all_goals exact⟨_,rfl,by decide⟩
theorem zuq{env:DEnv}{ds:List PyData}(he:env[i]?=some (.ac (.list ds)))(hf:f env=some ⟨d,fr,[]⟩)(hl:ds.length<100000):sApp i f env=some (.nx (env.set i (.ac (.list (ds++[d]))))):=by
 unfold sApp
 rw[he]
 simp only
 rw[hf]
 simp only[qE]
 rw[if_pos ⟨hl,by simp⟩];rfl
theorem zpe(n:Nat):zua 0 n=(List.range n).map (λ(k:Nat)=>PyData.int (k:Int)):=by
 unfold zua
 refine qBX λk _=>?_
 show PyData.int (0+(k:Int))=_
 rw[Int.zero_add]
theorem zzk(a b:Str):(a++b).length=a.length+b.length:=by
 have:=congrArg List.length (zjh a b)
 rw[qO]at this
 simpa [Str.length]using this
theorem zanc:WebOk []:=⟨qCM,λi n es e=>by simp at e,λp hp=>by simp at hp,by simp⟩
theorem zand{W:Web}{p:Str×List Str}(h:WebOk W)(hn:p.1∉nm W)(he:∀e∈p.2,e∈nm W)(hf:p.2.length<=4)(hl:W.length<12):WebOk (W++[p]):=by
 refine⟨by rw[znr];exact zadq h.nd hn,λi n es e=>?_,λq hq=>?_,by simp;omega⟩
 ·by_cases hi:i<W.length
  ·rw[qAE hi]at e
   rw[qAv (by omega)]
   exact h.el i n es e
  ·rw[qAB (by omega)]at e
   have hi2:i - W.length=0:=by
    have:=(qS.mp e).1
    simp at this;omega
   rw[hi2]at e
   cases e
   have:i=W.length:=by omega
   subst this
   rw[qAv (qL _),qCf]
   exact he
 ·rcases qu.mp hq with hq|hq
  ·exact h.few q hq
  ·rw[qAD.mp hq];exact hf
theorem zaei(ds:List PyData)(k:Nat)(h:k<=ds.length):cutD ds none (some (k:Int))=ds.take k:=by
 unfold cutD
 have e1:HT.sIx ds.length 0 none=0:=rfl
 rw[e1,HT.sIx_nat]
 simp
theorem zagq(enc:α->PyData)(l:List α):zwr (l.map enc)=(l.zipIdx).map λ(p:α×Nat)=>PyData.tuple [.int (p.2:Int),enc p.1]:=by
 unfold zwr
 rw[List.zipIdx_map,qBa];rfl
theorem zbas{l:List α}(nd:l.Nodup){hi:i<l.length}{hj:j<l.length}(e:l[i]=l[j]):i=j:=by
 rcases Nat.lt_trichotomy i j with h|h|h
 ·exact absurd e (qCz.mp nd i j hi hj h)
 ·exact h
 ·exact absurd e.symm (qCz.mp nd j i hj hi h)
theorem zqk:∀(l:List α)(i:Nat)(h:i<l.length),(l[i]::l.eraseIdx i).Perm l
 | [],_,h=>by simp at h
 | a::l,0,_=>qCb _
 | a::l,i+1,h=>by
  have hi:i<l.length:=by simpa using h
  have ih:=zqk l i hi
  show(l[i]::a::l.eraseIdx i).Perm (a::l)
  exact(List.Perm.swap a l[i] _).trans (List.Perm.cons a ih)
theorem zur(f:α->β):∀(l:List α)(i:Nat),(l.map f).eraseIdx i=(l.eraseIdx i).map f
 | [],_=>rfl
 | _::_,0=>rfl
 | a::l,i+1=>by
  show f a::(l.map f).eraseIdx i=f a::(l.eraseIdx i).map f
  rw[zur f l i]
theorem zaby{xs:List Str}(hx:xs.length<=12):∀(t:Nat)(ls es:List Str)(rs:Int)(s8 s9:Sl),(es++ls).Perm xs->t+es.length<=4->t<=ls.length->
  ∃es' s5 s6 s8' s9',forL (gN 8) (sSeq (sSet 9 (eOp modD (eVar 6) (eCB lenD (zaa (eVar 5) aNil)))) (sSeq (sSet 6 (eOp zbi (eVar 6) (eCB lenD (zaa (eVar 5) aNil)))) (zhj 7 5 (eVar 9)))) ((List.range' es.length t).map λ(k:Nat)=>PyData.int (k:Int)) [A,B,C,.pl (.int (kk:Int)),nn,.ac (zab ls),.pl (.int rs),.ac (zab es),s8,s9] =
   some (.nx [A,B,C,.pl (.int (kk:Int)),nn,s5,s6,.ac (zab es'),s8',s9'])/\es'.Nodup=es'.Nodup/\(∃ls',(es'++ls').Perm xs)/\es'.length=t+es.length
 | 0,ls,es,rs,s8,s9,pm,_,_=>⟨es,_,_,s8,s9,rfl,rfl,⟨ls,pm⟩,by simp⟩
 | t+1,ls,es,rs,s8,s9,pm,h4,hl=>by
  have hls:0<ls.length:=by omega
  have pl:=pm.length_eq
  rw[qO]at pl
  have a0:=qx rs (show((ls.length:Nat):Int)≠0 by omega)
  have a1:=qr rs (show(0:Int)<((ls.length:Nat):Int) by omega)
  have hk:(rs % ((ls.length:Nat):Int)).toNat<ls.length:=by omega
  have e9:((rs % ((ls.length:Nat):Int)).toNat:Int)=rs % ((ls.length:Nat):Int):=by omega
  generalize eA:(rs % ((ls.length:Nat):Int)).toNat=at_ at hk e9
  have pm2:((es++[ls[at_]])++ls.eraseIdx at_).Perm xs:=by
   refine List.Perm.trans ?_ pm
   rw[qBC]
   exact qCv es (zqk ls at_ hk)
  obtain⟨es',s5,s6,s8',s9',q,_,hp,hlen⟩:=zaby (A:=A) (B:=B) (C:=C) (kk:=kk) (nn:=nn) hx t (ls.eraseIdx at_) (es++[ls[at_]]) (rs / ((ls.length:Nat):Int)) (.pl (.int (es.length:Int))) (.pl (.int (at_:Int))) pm2 (by simp;omega) (by rw[qCu hk];omega)
  refine⟨es',s5,s6,s8',s9',?_,rfl,hp,by rw[hlen];simp;omega⟩
  rw[List.range'_succ,qR]
  unfold forL
  simp only[gN,qE,qBf,qBe]
  have st1:sSet 9 (eOp modD (eVar 6) (eCB lenD (zaa (eVar 5) aNil))) [A,B,C,.pl (.int (kk:Int)),nn,.ac (zab ls),.pl (.int rs),.ac (zab es),.pl (.int (es.length:Int)),s9]=some (.nx [A,B,C,.pl (.int (kk:Int)),nn,.ac (zab ls),.pl (.int rs),.ac (zab es),.pl (.int (es.length:Int)),.pl (.int (at_:Int))]):=by
   have:=zbg (i:=9) (zfa (a:=eVar 6) (env:=[A,B,C,.pl (.int (kk:Int)),nn,.ac (zab ls),.pl (.int rs),.ac (zab es),.pl (.int (es.length:Int)),s9]) rfl (zmv (a:=eVar 5) rfl) (by rw[qC];omega))
   rw[this,qC,<- e9];rfl
  have st2:sSet 6 (eOp zbi (eVar 6) (eCB lenD (zaa (eVar 5) aNil))) [A,B,C,.pl (.int (kk:Int)),nn,.ac (zab ls),.pl (.int rs),.ac (zab es),.pl (.int (es.length:Int)),.pl (.int (at_:Int))]=some (.nx [A,B,C,.pl (.int (kk:Int)),nn,.ac (zab ls),.pl (.int (rs / ((ls.length:Nat):Int))),.ac (zab es),.pl (.int (es.length:Int)),.pl (.int (at_:Int))]):=by
   have:=zbg (i:=6) (zgk (a:=eVar 6) (env:=[A,B,C,.pl (.int (kk:Int)),nn,.ac (zab ls),.pl (.int rs),.ac (zab es),.pl (.int (es.length:Int)),.pl (.int (at_:Int))]) rfl (zmv (a:=eVar 5) rfl) (by rw[qC];omega) (by rw[qC];omega))
   rw[this,qC];rfl
  have st3:zhj 7 5 (eVar 9) [A,B,C,.pl (.int (kk:Int)),nn,.ac (zab ls),.pl (.int (rs / ((ls.length:Nat):Int))),.ac (zab es),.pl (.int (es.length:Int)),.pl (.int (at_:Int))]=some (.nx [A,B,C,.pl (.int (kk:Int)),nn,.ac (zab (ls.eraseIdx at_)),.pl (.int (rs / ((ls.length:Nat):Int))),.ac (zab (es++[ls[at_]])),.pl (.int (es.length:Int)),.pl (.int (at_:Int))]):=by
   simp only[zhj,zab,eVar,qAL,qAK,qE]
   rw[if_pos ⟨by omega,by omega,by rw[qC];omega,by decide⟩,qBE,qN,qH hk]
   simp[zur]
  rw[zai st1 (zai st2 st3),qE]
  rw[show(es++[ls[at_]]).length=es.length+1 by simp]at q
  exact q
theorem zane{cs:List Int}{xs:List Str}(hle:xs.length<=cs.length)(h12:xs.length<=12)(nd:xs.Nodup):∃W,ziq [zbx cs,zab xs]=some (webD W,true)/\nm W=xs/\WebOk W:=by
 have loop:∃env',forL (gT 2 (zar 3 (zar 4 zdt))) (sSeq (sSet 5 (eSl (eVar 1) zef (zbe (eVar 3))))
  (sSeq (sSet 6 (eOp zbi (eIxV 0 (eVar 3)) (eC (.int 5))))
  (sSeq (sSet 7 (eLst aNil))
  (sSeq (sFor (zew (zaa (eCB minD (zaa (eOp modD (eIxV 0 (eVar 3)) (eC (.int 5))) (zaa (eVar 3) aNil))) aNil)) (gN 8)
  (sSeq (sSet 9 (eOp modD (eVar 6) (eCB lenD (zaa (eVar 5) aNil))))
  (sSeq (sSet 6 (eOp zbi (eVar 6) (eCB lenD (zaa (eVar 5) aNil))))
  (zhj 7 5 (eVar 9)))))
  (sApp 2 (eTup (zaa (eVar 4) (zaa (eVar 7) aNil)))))))) ((xs.zipIdx).map λ(p:Str×Nat)=>PyData.tuple [.int (p.2:Int),.str p.1]) [.pl (zbx cs),.pl (zab xs),.ac (webD []),.no,.no,.no,.no,.no,.no,.no]=some (.nx env')/\
   ∃W s3 s4 s5 s6 s7 s8 s9,env'=[.pl (zbx cs),.pl (zab xs),.ac (webD W),s3,s4,s5,s6,s7,s8,s9]/\nm W=(xs.zipIdx).map (λp:Str×Nat=>p.1)/\WebOk W:=by
  refine zec (λpre env=>∃W s3 s4 s5 s6 s7 s8 s9,env=[.pl (zbx cs),.pl (zab xs),.ac (webD W),s3,s4,s5,s6,s7,s8,s9]/\nm W=pre.map (λp:Str×Nat=>p.1)/\WebOk W) ⟨[],_,_,_,_,_,_,_,rfl,rfl,zanc⟩ ?_
  rintro pre ⟨n,i⟩ post env hp ⟨W,s3,s4,s5,s6,s7,s8,s9,rfl,hnm,ok⟩
  have hz:(xs.zipIdx)[pre.length]?=some (n,i):=by rw[<- hp];simp
  rw[qDT]at hz
  have hi:i=pre.length/\xs[pre.length]?=some n:=by
   cases e:xs[pre.length]? with
   | none=>rw[e]at hz;cases hz
   | some y=>rw[e]at hz;simp at hz;exact⟨by omega,by rw[hz.1]⟩
  obtain⟨rfl,hn⟩:=hi
  have hix:pre.length<xs.length:=(qS.mp hn).1
  have hic:pre.length<cs.length:=by omega
  have hpre:pre.map (λp:Str×Nat=>p.1)=xs.take pre.length:=by
   have e1:(xs.zipIdx).map (λp:Str×Nat=>p.1)=xs:=qDa 0 xs
   have e2:=congrArg (λl:List (Str×Nat)=>(l.map (λp:Str×Nat=>p.1)).take pre.length) hp
   simp only[e1]at e2
   rw[<- e2,qAJ,qAv (by simp),<- qBs,qCf]
  have hWl:W.length=pre.length:=by
   have:=congrArg List.length hnm
   unfold nm at this
   simpa using this
  have gc:∀{env:DEnv},env[0]?=some (.pl (zbx cs))->env[3]?=some (.pl (.int (pre.length:Int)))->eIxV 0 (eVar 3) env=some (vi cs[pre.length]):=λ{env} h0 h3=>
   zaeh (ds:=cs.map .int) h0 (by unfold eVar;rw[h3]) (by rw[qN,qH hic];rfl)
  have m5:=qx cs[pre.length] (show(5:Int)≠0 by decide)
  have m5':=qr cs[pre.length] (show(0:Int)<5 by decide)
  generalize eN:(if((pre.length:Nat):Int)<cs[pre.length] % 5 then((pre.length:Nat):Int)else cs[pre.length] % 5)=N
  have hN:0<=N/\N<=pre.length/\N<=4:=by rw[<- eN];split<;>omega
  have tl:(xs.take pre.length).length=pre.length:=by rw[qAV];omega
  obtain⟨es,s5',s6',s8',s9',q,_,⟨ls,pm⟩,hes⟩:=zaby (A:=.pl (zbx cs)) (B:=.pl (zab xs)) (C:=.ac (webD W)) (kk:=pre.length) (nn:=.pl (.str n)) (xs:=xs.take pre.length) (by omega) N.toNat (xs.take pre.length) [] (cs[pre.length] / 5) s8 s9 (qCb _) (by simp;omega) (by omega)
  have ndT:(xs.take pre.length).Nodup:=nd.sublist (qCZ _ _)
  have ndE:es.Nodup:=(qA3.mp (pm.nodup_iff.mpr ndT)).1
  have subE:∀e∈es,e∈nm W:=λe he=>by rw[hnm,hpre];exact pm.mem_iff.mp (q9 _ he)
  have nW:n∉nm W:=by
   rw[hnm,hpre]
   intro hm
   obtain⟨j,hj,ej⟩:=qBw hm
   rw[List.getElem_take]at ej
   obtain⟨hh,en⟩:=qS.mp hn
   have:=zbas nd (ej.trans en.symm)
   rw[tl]at hj
   omega
  refine⟨_,[.pl (zbx cs),.pl (zab xs),.ac (webD (W++[(n,es)])),.pl (.int (pre.length:Int)),.pl (.str n),s5',s6',.pl (zab es),s8',s9'],rfl,.inl ?_,W++[(n,es)],_,_,_,_,_,_,_,rfl,by rw[znr,hnm];simp,zand ok nW subE (by rw[hes];simp;omega) (by omega)⟩
  have st5:sSet 5 (eSl (eVar 1) zef (zbe (eVar 3))) [.pl (zbx cs),.pl (zab xs),.ac (webD W),.pl (.int (pre.length:Int)),.pl (.str n),s5,s6,s7,s8,s9]=some (.nx [.pl (zbx cs),.pl (zab xs),.ac (webD W),.pl (.int (pre.length:Int)),.pl (.str n),.ac (zab (xs.take pre.length)),s6,s7,s8,s9]):=by
   have:eSl (eVar 1) zef (zbe (eVar 3)) [.pl (zbx cs),.pl (zab xs),.ac (webD W),.pl (.int (pre.length:Int)),.pl (.str n),s5,s6,s7,s8,s9]=some ⟨zab (xs.take pre.length),true,[]⟩:=by
    simp only[eSl,eVar,zef,zbe,qAL,qAK,qE,zab,slD]
    rw[zaei _ _ (by rw[qC];omega),<- qBs]
    simp[bsOf,zfo]
   exact zbg this
  refine zai st5 (zai (zbg (r:=vi _) (zgk (gc rfl rfl) rfl (by decide) (by decide))) (zai rfl (zai (zgi (ds:=(List.range' ([]:List Str).length N.toNat).map λ(k:Nat)=>PyData.int (k:Int)) (bs:=[]) ?_ q) ?_)))
  ·have:eCB minD (zaa (eOp modD (eIxV 0 (eVar 3)) (eC (.int 5))) (zaa (eVar 3) aNil)) [.pl (zbx cs),.pl (zab xs),.ac (webD W),.pl (.int (pre.length:Int)),.pl (.str n),.ac (zab (xs.take pre.length)),.pl (.int (cs[pre.length] / 5)),.ac (.list []),s8,s9]=some (vi N):=by
    unfold eCB zaa
    rw[zfa (gc rfl rfl) (j:=5) rfl (by decide)]
    show((minD [.int (cs[pre.length] % 5),.int ((pre.length:Nat):Int)]).bind λz=>some (⟨z.1,z.2,bsOf z.1 _⟩:Val))=_
    unfold minD
    simp only[qE]
    rw[eN];rfl
   show zew _ [.pl (zbx cs),.pl (zab xs),.ac (webD W),.pl (.int (pre.length:Int)),.pl (.str n),.ac (zab (xs.take pre.length)),.pl (.int (cs[pre.length] / 5)),.ac (.list []),s8,s9]=_
   unfold zew
   rw[zch this]
   simp only[qE]
   rw[if_pos ⟨by omega,by omega⟩,zpe,qDS]
   rfl
  ·have lz:(W.map rowD).length<100000:=by rw[qC];omega
   simp only[sApp,webD,eTup,zaa,aNil,eVar,qAL,qAK,qE,qAs,zds,bss]
   rw[if_pos (by simp)]
   simp only[qE]
   rw[if_pos ⟨lz,by simp⟩]
   simp[frzs,frz1,rowD,zab]
 obtain⟨env',hl,W,s3,s4,s5,s6,s7,s8,s9,rfl,hnm,ok⟩:=loop
 refine⟨W,zgj (env:=[.pl (zbx cs),.pl (zab xs),.no,.no,.no,.no,.no,.no,.no,.no]) rfl (zai rfl (zai (zgi (ds:=(xs.zipIdx).map λ(p:Str×Nat)=>PyData.tuple [.int (p.2:Int),.str p.1]) (bs:=[]) ?_ hl) rfl)),hnm.trans (qDa 0 xs),ok⟩
 unfold ztz
 rw[zch (r:=⟨zab xs,false,[]⟩) rfl]
 simp only[qE,zab]
 rw[zagq]
section
variable{a b:EF}{env:DEnv}{x y:Str}
theorem e_in(ha:a env=some (vs x))(hb:b env=some ⟨zab xs,fr,bs⟩):eOp (inD neg) a b env=some (vb (if neg then !decide (x∈xs)else decide (x∈xs))):=by
 unfold eOp;rw[ha,hb];simp[zul,bsOf,zfo]
theorem zanf(he:env[k]?=some (.pl (.dict kvs))\/env[k]?=some (.ac (.dict kvs)))(hb:b env=some (vs y))(hd:zos kvs (Sum.inr y)=some d):zdd k b env=some ⟨d,false,[]⟩:=by
 unfold zdd
 rcases he with he|he<;>rw[he]<;>simp only<;>rw[hb]<;>simp[keyD,hd]
theorem zate(ha:a env=some (vs x))(hb:b env=some ⟨zbf ks,fr,bs⟩):eDIn neg a b env=some (vb (if neg then !decide (x∈ks)else decide (x∈ks))):=by
 unfold eDIn;rw[ha,hb];simp[zbf,keyD,zabu]
end
theorem zmj(h:n∈nm W):(ups W).lookup n=some (up W n):=by
 obtain⟨ks,e,_⟩:=zjg (l:=ups W) (n:=n) (by rw[zge];exact h)
 unfold up upL
 rw[e];rfl
theorem zao{a:EF}{f:AF}{env:DEnv}{r:Val}{rs:List Val}(ha:a env=some r)(hf:f env=some rs):zaa a f env=some (r::rs):=by unfold zaa;rw[ha,hf];rfl
theorem zus{f:EF}{env:DEnv}{c:Bool}(h:f env=some (vb c)):zgr (tTru f) env=some (!c):=by unfold zgr tTru;rw[h];rfl
theorem zaqy(cs:List Int)(a b:Nat)(h:b<=cs.length)(hab:a<=b):cutD (cs.map .int) (some (a:Int)) (some (b:Int))=((cs.drop a).take (b - a)).map .int:=by
 unfold cutD
 have e1:min a cs.length=a:=by omega
 have e2:min b cs.length=b:=by omega
 rw[HT.sIx_nat,HT.sIx_nat,qC,e1,e2,<- qBh,<- qBs]
theorem zxq{env:DEnv}{cs:List Int}{b:EF}{n:Nat}(h1:env[1]?=some (.pl (zbx cs)))(hb:b env=some (vi (n:Int)))(hn:n<cs.length):eIxV 1 b env=some (vi (cs[n]'hn)):=
 zaeh (ds:=cs.map .int) h1 hb (by rw[qN,qH hn];rfl)
theorem zaqz{W:Web}:zdy (gT 2 (zar 0 (zar 1 zdt))) zcf (eTup (zaa (eVar 0) (zaa (eCB zmo (zaa (eVar 1) aNil)) aNil))) [.no,.no] (W.map rowD)=some (W.map rowD):=
 zdh λp _=>⟨[.pl (.str p.1),.pl (zab p.2)],rfl,rfl,⟨rowD p,false,[]⟩,rfl,rfl⟩
theorem zmk:∀(xs:List Str),(∀x∈xs,qAH x=true)->qAF (xs.map .str)=true/\qh (xs.map .str)=0
 | [],_=>⟨rfl,rfl⟩
 | x::xs,h=>by
  obtain⟨h1,h2⟩:=zmk xs λy hy=>h y (qK _ hy)
  rw[qR]
  refine⟨?_,?_⟩
  ·show(qAH x&&qAF (xs.map .str))=true
   rw[h x qb,h1];rfl
  ·show max 0 (qh (xs.map .str))=0
   rw[h2];rfl
theorem zagr:∀(W:Web),(∀p∈W,qAH p.1=true/\∀e∈p.2,qAH e=true)->qAF (W.map rowD)=true/\qh (W.map rowD)<=2
 | [],_=>⟨rfl,qAl _⟩
 | p::r,h=>by
  obtain⟨h1,h2⟩:=zagr r λq hq=>h q (qK _ hq)
  obtain⟨g1,g2⟩:=h p qb
  obtain⟨l1,l2⟩:=zmk p.2 g2
  rw[qR]
  constructor
  ·show((qAH p.1&&(qAF (p.2.map .str)&&true))&&qAF (r.map rowD))=true
   rw[g1,l1,h1];rfl
  ·show max (max 0 (max (qh (p.2.map .str)+1) 0)+1) (qh (r.map rowD))<=2
   rw[l2]
   omega
theorem zawn(h:WebOk W)(hl:∀x∈nm W,Low x):∀p∈W,qAH p.1=true/\∀e∈p.2,qAH e=true:=λp hp=>
 ⟨zhl (hl _ (qAa.mpr ⟨p,hp,rfl⟩)),λe he=>zhl (hl e (zzj h (n:=p.1) (es:=p.2) hp e he))⟩
def zql:SF:=(sSeq (sIf (tTru (eIsi "tuple" (eVar 0))) (sRet (eCB zmo (zaa (eVar 0) aNil))) sNil)
  (sRet (eLst (zaa (eVar 0) aNil))))
def zaw:GF:=fnD 1 zql
def zabz:SF:=(sSeq (sSet 2 zakr)
  (sSeq (sFor (zaj (zau 1 zaw (zaa (eVar 1) aNil))) (gN 3)
  (sUpd 2 (zdd 0 (eVar 3))))
  (zmp 2)))
def zkv:GF:=fnD 4 zabz
theorem zut(f:α->Bool):∀(l:List α),zot (l.map λx=>.bool (f x))=some (l.map f)
 | []=>rfl
 | x::l=>by
  show(zot (l.map λx=>.bool (f x))).map _=_
  rw[zut f l];rfl
theorem zbat{f:α->Bool}{l:List α}{bs:List Nat}(ha:a env=some ⟨.list (l.map λx=>.bool (f x)),fr,bs⟩):eCB (anyD λbs=>bs.all id) (zaa a aNil) env=some (vb (l.all f)):=by
 unfold eCB
 rw[zch ha,qE]
 show((zot (l.map λx=>.bool (f x))).map _).bind _=_
 rw[zut]
 simp only[qAs,qE,List.all_map]
 rfl
theorem zuu{enc:α->PyData}{out:α->List PyData}:∀{l:List α},(∀x∈l,∃e1,g (enc x) env=some e1/\t e1=some true/\innL f2 g2 t2 e e1=some (out x))->
  zkr g t f2 g2 t2 e env (l.map enc)=some (l.flatMap out)
 | [],_=>rfl
 | x::l,h=>by
  obtain⟨e1,h1,h2,h3⟩:=h x qb
  have ih:=zuu (l:=l) λy hy=>h y (qK _ hy)
  rw[qR]
  unfold zkr
  rw[h1,qE,h2,qE,if_pos rfl,h3,qE,ih,List.flatMap_cons]
  rfl
theorem zara{own:List Str}{fr:List Nat}{fi:IF'}{g:GT}{t:TF}{f2:IF'}{g2:GT}{t2:TF}{e:EF}{env:DEnv}{ds:List PyData}{bs:List Nat}{rs:List PyData}(h:fi env=some (ds,bs))(hl:ds.length<300)(k:zkr g t f2 g2 t2 e (envB own fr env) ds=some rs) :
  zabi own fr fi g t f2 g2 t2 e env=some ⟨.list rs,true,if zei rs=true then[]else bs++capA fr env⟩:=by
 unfold zabi;rw[h,qE,if_pos hl,k];rfl
def zkw:SF:=(sRet (zabi ["arm","name"] [] (zaj (eVar 0)) (gN 0) zcf (zaj (zau 1 zaw (zaa (eVar 0) aNil))) (gN 1) zcf (eVar 1)))
def zdr:GF:=fnD 1 zkw
def zrj:SF:=(sSeq (sIf (zaz (eOp neD (eCB lenD (zaa (eVar 2) aNil)) (eVar 1))) zafq sNil)
  (zahv (zau 2 zfv (zaa (eVar 0) (zaa (zau 1 zdr (zaa (eVar 2) aNil)) aNil)))))
def zie:GF:=fnD 3 zrj
def zkx:SF:=(sRet (zck ["arm"] [0] (zaj (eVar 1)) (gN 0) zcf (zau 2 zkv (zaa (eVar 1) (zaa (eVar 0) aNil)))))
def zen:GF:=fnD 2 zkx
def zrk:SF:=(sRet (eCB (anyD λbs=>bs.all id) (zaa (zck ["kind","roof"] [] (zaed (zaa (eVar 0) (zaa (eVar 1) aNil))) (gT 2 (zar 0 (zar 1 zdt))) zcf (eDIn false (eVar 0) (eVar 1))) aNil)))
def zgl:GF:=fnD 2 zrk
def zuv:SF:=(sRet (eAnd (eOp neD (eVar 1) (eVar 2)) (eCB (anyD λbs=>bs.all id) (zaa (zck ["low","high"] [0] (zaed (zaa (eVar 1) (zaa (eVar 2) aNil))) (gT 2 (zar 0 (zar 1 zdt))) zcf (eDIn false (eVar 1) (zdd 2 (eVar 0)))) aNil))))
def zgb:GF:=fnD 3 zuv
def zjq:SF:=(sSeq (sAsg (eVar 0) (gT 3 (zar 2 (zar 3 (zar 4 zdt)))))
  (sSeq (zahv (zau 3 zie (zaa (eVar 2) (zaa (eVar 3) (zaa (eVar 1) aNil)))))
  (sSeq (sSet 5 (zau 2 zen (zaa (zau 1 zfm (zaa (eVar 2) aNil)) (zaa (eVar 1) aNil))))
  (sRet (zck ["rule"] [5] (zaj (eVar 4)) (gN 0) (tTru (zau 2 zgl (zaa (eIxV 0 (eC (.int 1))) (zaa (eVar 1) aNil)))) (eVar 0))))))
def zed:GF:=fnD 6 zjq
def zrl:SF:=(sRet (zck ["rule"] [0,1] (zaj (eVar 1)) (gN 0) (zgr (tTru (eCB (anyD λbs=>bs.any id) (zaa (zck ["name","kinds"] [0,1] (zaj (eVar 2)) (gT 2 (zar 0 (zar 1 zdt))) zcf (zau 3 zgb (zaa (eVar 3) (zaa (eVar 1) (zaa (eIxV 2 (eC (.int 1))) aNil))))) aNil)))) (eVar 0)))
def zgm:GF:=fnD 2 zrl
def zrm:SF:=(sRet (zck ["name","kinds"] [] (zaj (eVar 0)) (gT 2 (zar 0 (zar 1 zdt))) zcf (eVar 0)))
def zgn:GF:=fnD 1 zrm
def zuw:SF:=(sSeq (sIf (zgr (tTru (eVar 0))) (sRet (eTup (zaa (eC (.str "none")) aNil))) sNil)
  (sSeq (sIf (zaz (eOp eqD (eCB lenD (zaa (eVar 0) aNil)) (eC (.int 1)))) (sRet (eTup (zaa (eC (.str "rule")) (zaa (eIxV 0 (eC (.int 0))) aNil)))) sNil)
  (sRet (eTup (zaa (eC (.str "quarrel")) (zaa (eCB zco (zaa (eVar 0) aNil)) aNil))))))
def zhm:GF:=fnD 1 zuw
def zaca:SF:=(sSeq (sSet 2 (zau 2 zed (zaa (eVar 0) (zaa (eVar 1) aNil))))
  (sRet (zau 1 zgn (zaa (zau 2 zgm (zaa (zau 1 zfm (zaa (eIxV 0 (eC (.int 0))) aNil)) (zaa (eVar 2) aNil))) aNil))))
def zpf:GF:=fnD 3 zaca
def zux:SF:=(sRet (zau 1 zhm (zaa (zau 2 zpf (zaa (eVar 0) (zaa (eVar 1) aNil))) aNil)))
def zeo:GF:=fnD 2 zux
def zhn:SF:=(sSeq (sSet 2 (eC (.str "abcdefghijklmnopqrstuvwxyz")))
  (sSeq (sSet 3 (eOp ixD (eTup (zaa (eC (.int 1)) (zaa (eC (.int 3)) (zaa (eC (.int 5)) (zaa (eC (.int 7)) (zaa (eC (.int 9)) (zaa (eC (.int 11)) (zaa (eC (.int 15)) (zaa (eC (.int 17)) aNil))))))))) (eOp modD (eOp zbi (eVar 1) (eC (.int 3))) (eC (.int 8)))))
  (sSeq (sSet 4 (eOp modD (eOp zbi (eVar 1) (eC (.int 24))) (eC (.int 26))))
  (sSeq (sSet 5 (eOp mulD (eIxV 2 (eOp modD (eOp zbi (eVar 1) (eC (.int 624))) (eC (.int 26)))) (eOp modD (eOp zbi (eVar 1) (eC (.int 16224))) (eC (.int 8)))))
  (sSeq (sSet 6 (eOp modD (eOp zbi (eVar 1) (eC (.int 129792))) (eOp addD (eCB lenD (zaa (eVar 5) aNil)) (eC (.int 1)))))
  (sSeq (sSet 7 (eLst aNil))
  (sSeq (sFor (zew (zaa (eVar 0) aNil)) (gN 8)
  (sSeq (sSet 9 (eIxV 2 (eOp modD (eOp addD (eVar 4) (eOp mulD (eVar 3) (eVar 8))) (eC (.int 26)))))
  (sIf (zaz (eOp eqD (eOp modD (eVar 1) (eC (.int 3))) (eC (.int 0)))) (sApp 7 (eOp addD (eOp addD (eSl (eVar 5) zef (zbe (eVar 6))) (eVar 9)) (eSl (eVar 5) (zbe (eVar 6)) zef))) (sIf (zaz (eOp eqD (eOp modD (eVar 1) (eC (.int 3))) (eC (.int 1)))) (sApp 7 (eOp addD (eSl (eVar 5) zef (zbe (eOp modD (eOp mulD (eVar 8) (eVar 3)) (eOp addD (eCB lenD (zaa (eVar 5) aNil)) (eC (.int 1)))))) (eVar 9))) (sApp 7 (eOp mulD (eIxV 2 (eOp modD (eOp addD (eVar 4) (eOp zbi (eVar 8) (eC (.int 8)))) (eC (.int 26)))) (eOp addD (eC (.int 1)) (eOp modD (eOp mulD (eVar 8) (eVar 3)) (eC (.int 8))))))))))
  (sSeq (sIf (zaz (eOp eqD (eOp modD (eOp zbi (eVar 1) (eC (.int 1038336))) (eC (.int 6))) (eC (.int 5)))) (sSeq (sSet 10 (eLst (zaa (eC (.str "none")) (zaa (eC (.str "rule")) (zaa (eC (.str "quarrel")) (zaa (eC (.str "near")) (zaa (eC (.str "far")) (zaa (eC (.str "out")) aNil))))))))
  (sSeq (sSet 11 (eOp modD (eOp zbi (eVar 1) (eC (.int 6230016))) (eC (.int 6))))
  (sSet 7 (eSl (eOp addD (eOp addD (eSl (eVar 10) (zbe (eVar 11)) zef) (eSl (eVar 10) zef (zbe (eVar 11)))) (eSl (eVar 7) (zbe (eC (.int 6))) zef)) zef (zbe (eVar 0)))))) sNil)
  (zmp 7)))))))))
def zbk:GF:=fnD 12 zhn
def zxr:SF:=(sSeq (sSet 3 (eLst aNil))
  (sSeq (sSet 4 (eVar 0))
  (sSeq (sSet 5 (eCB lenD (zaa (eVar 1) aNil)))
  (sSeq (sFor (zew (zaa (eVar 2) aNil)) (gN 6)
  (sSeq (sSet 7 (eOp modD (eVar 4) (eVar 5)))
  (sSeq (sSet 4 (eOp zbi (eVar 4) (eVar 5)))
  (sSeq (sIf (zaz (eOp eqD (eOp modD (eVar 4) (eC (.int 4))) (eC (.int 2)))) (sApp 3 (eTup (zaa (eIxV 1 (eOp subD (eOp subD (eVar 5) (eC (.int 1))) (eVar 7))) aNil))) (sIf (zadx (zaz (eOp eqD (eOp modD (eVar 4) (eC (.int 4))) (eC (.int 3)))) (zaz (eOp gtD (eVar 5) (eC (.int 1))))) (sSeq (sSet 8 (eOp modD (eOp addD (eOp addD (eVar 7) (eC (.int 1))) (eOp modD (eOp zbi (eVar 4) (eC (.int 4))) (eOp subD (eVar 5) (eC (.int 1))))) (eVar 5)))
  (sSeq (sSet 9 (zck ["_law_name"] [1,7,8] (zaj (eSl (eVar 1) (zbe (eOp subD (eVar 5) (eOp modD (eVar 4) (eC (.int 3))))) zef)) (gN 0) (zaz (eOp (inD true) (eVar 0) (eTup (zaa (eIxV 1 (eVar 2)) (zaa (eIxV 1 (eVar 3)) aNil))))) (eVar 0)))
  (sApp 3 (eCB zco (zaa (eOp addD (eLst (zaa (eIxV 1 (eVar 7)) (zaa (eIxV 1 (eVar 8)) aNil))) (eVar 9)) aNil))))) (sApp 3 (eIxV 1 (eOp subD (eOp subD (eVar 5) (eC (.int 1))) (eVar 7))))))
  (sSet 4 (eOp zbi (eVar 4) (eOp mulD (eC (.int 4)) (eVar 5))))))))
  (sRet (eCB zco (zaa (eVar 3) aNil)))))))
def zfn:GF:=fnD 10 zxr
def zuy:SF:=(sSeq (sSet 5 (eLst aNil))
  (sSeq (sFor (ztz (zaa (eVar 4) aNil)) (gT 2 (zar 6 (zar 7 zdt)))
  (sSeq (sSet 8 (eOp zbi (eIxV 0 (eVar 6)) (eC (.int 4))))
  (sSeq (sSet 9 (eLst aNil))
  (sSeq (sFor (zaj (eVar 3)) (gN 10)
  (sSeq (sSet 11 (eVar 1))
  (sSeq (sIf (zaz (eOp gtD (eOp modD (eIxV 0 (eVar 6)) (eC (.int 4))) (eC (.int 0)))) (sSet 11 (zck ["_law_name"] [2,10] (zaj (eVar 1)) (gN 0) (tTru (eCB (anyD λbs=>bs.any id) (zaa (zck ["_law_one"] [0,1] (zaj (zau 1 zaw (zaa (eVar 2) aNil))) (gN 0) zcf (eOp (inD false) (eVar 1) (zdd 2 (eVar 0)))) aNil))) (eVar 0))) sNil)
  (sSeq (sApp 9 (eIxV 11 (eOp modD (eVar 8) (eCB lenD (zaa (eVar 11) aNil)))))
  (sSet 8 (eOp zbi (eVar 8) (eCB lenD (zaa (eVar 11) aNil))))))))
  (sIf (zaz (eOp (inS true) (eCB zco (zaa (eVar 9) aNil)) (zck ["_law_one","_law_row"] [] (zaj (eVar 5)) (gT 2 (zar 0 (zar 1 zdt))) zcf (eVar 1)))) (sApp 5 (eTup (zaa (eVar 7) (zaa (eCB zco (zaa (eVar 9) aNil)) aNil)))) sNil)))))
  (zmp 5)))
def zgc:GF:=fnD 12 zuy
def zxs:SF:=(sSeq (sFor (zxl (zaa (eVar 1) aNil)) (gT 2 (zar 3 (zar 4 zdt)))
  (sIf (zgr (tTru (eCB (anyD λbs=>bs.any id) (zaa (zck ["_law_name"] [0,4] (zaj (zau 1 zaw (zaa (eIxV 2 (eVar 3)) aNil))) (gN 0) zcf (eOp (inD false) (eVar 2) (zdd 1 (eVar 0)))) aNil)))) (sRet (eC (.bool false))) sNil))
  (sRet (eC (.bool true))))
def zee:GF:=fnD 5 zxs
def zfb:SFX:=(xSeq (xOf (sSet 2 (zau 1 zio (zaa (eVar 0) aNil))))
  (xFor (zaj (eVar 1)) (gN 3)
  (xIf (zaz (eOp (inD true) (eVar 3) (eVar 2))) (zov "NoKind" (eVar 3)) (xOf sNil))))
def zfc:GFX:=fnX 4 zfb
def zpg:SFX:=(xSeq (xIf (zaz (eOp neD (eCB lenD (zaa (eVar 2) aNil)) (eVar 1))) (zov "NoCall" (eC .none)) (xOf sNil))
  (zaea 2 zfc (zaa (eVar 0) (zaa (zau 1 zdr (zaa (eVar 2) aNil)) aNil))))
def zhc:GFX:=fnX 3 zpg
def zph:SF:=(sSeq (sSet 2 (eCB zmo (zaa (eVar 1) aNil)))
  (sSeq (sSet 3 (eOp zbi (eVar 0) (eCB lenD (zaa (eVar 1) aNil))))
  (sSeq (sSet 4 (eLst aNil))
  (sSeq (sFor (zew (zaa (eOp addD (eC (.int 1)) (eOp modD (eVar 0) (eCB lenD (zaa (eVar 1) aNil)))) aNil)) (gN 5)
  (sSeq (sSet 6 (eOp modD (eVar 3) (eCB lenD (zaa (eVar 2) aNil))))
  (sSeq (sSet 3 (eOp zbi (eVar 3) (eCB lenD (zaa (eVar 2) aNil))))
  (zhj 4 2 (eVar 6)))))
  (sRet (eCB zco (zaa (eVar 4) aNil)))))))
def zdi:GF:=fnD 7 zph
def zpi:SF:=(sSeq (sSet 3 (zck ["_law_rule"] [0,2] (zaj (eVar 1)) (gN 0) (tTru (zau 3 zee (zaa (eVar 1) (zaa (eIxV 0 (eC (.int 1))) (zaa (eVar 2) aNil))))) (eVar 0)))
  (sSeq (sSet 4 (eLst aNil))
  (sSeq (sFor (zaj (eVar 3)) (gT 2 (zar 5 (zar 6 zdt)))
  (sIf (zgr (tTru (eCB (anyD λbs=>bs.any id) (zaa (zck ["_law_one","_law_other"] [0,6] (zaj (eVar 3)) (gT 2 (zar 0 (zar 1 zdt))) zcf (eAnd (eOp neD (eVar 1) (eVar 3)) (zau 3 zee (zaa (eVar 2) (zaa (eVar 3) (zaa (eVar 1) aNil)))))) aNil)))) (sApp 4 (eVar 5)) sNil))
  (sSeq (sIf (zaz (eOp eqD (eCB lenD (zaa (eVar 4) aNil)) (eC (.int 0)))) (sRet (eTup (zaa (eC (.str "none")) aNil))) sNil)
  (sSeq (sIf (zaz (eOp eqD (eCB lenD (zaa (eVar 4) aNil)) (eC (.int 1)))) (sRet (eTup (zaa (eC (.str "rule")) (zaa (eIxV 4 (eC (.int 0))) aNil)))) sNil)
  (sRet (eTup (zaa (eC (.str "quarrel")) (zaa (eCB zco (zaa (eVar 4) aNil)) aNil)))))))))
def zdz:GF:=fnD 7 zpi
def zmw:SF:=(sSeq (sFor (zaj (eVar 2)) (gN 3)
  (sFor (zaj (eOp addD (eVar 0) (eVar 0))) (gN 4)
  (sSeq (sSet 5 (zau 3 zdz (zaa (eVar 1) (zaa (eIxV 4 (eC (.int 2))) (zaa (eVar 3) aNil)))))
  (sSeq (sSet 6 (zau 2 zeo (zaa (eVar 4) (zaa (eVar 3) aNil))))
  (sIf (tOrF (zgr (tTru (eIsi "tuple" (eVar 6)))) (zaz (eOp neD (eVar 6) (eVar 5)))) (sRet (eC (.bool false))) sNil)))))
  (sRet (eC (.bool true))))
def zbl:GF:=fnD 7 zmw
def zbb:ResX->Option PyData:=(zavw 4 2 1 ["NoCall","NoKind"] (eTup (zaa (eC (.str "no refusal")) aNil)) (λxc xd=>(sSeq (sSet 3 (eC (.bool (decide (xc="NoBook")||(decide (xc="NoFit")||decide (xc="NoRule")))))) (sSet 2 (eTup (zaa (eC (.bool (decide (xc="NoCall")))) (zaa (eC (.bool (decide (xc="NoKind")))) (zaa (eC (.bool true)) (zaa (eVar 3) (zaa (eC xd) aNil))))))))))
def zgx:SFX:=(xSeq (xOf (sAsg (eVar 0) (gT 3 (zar 2 (zar 3 (zar 4 zdt))))))
  (xSeq (zaea 3 zhc (zaa (eVar 2) (zaa (eVar 3) (zaa (eVar 1) aNil))))
  (xOf sCut)))
def zbj:GFX:=fnX 6 zgx
def zpj:SFX:=(xSeq (zaib 2 2 zbj (zaa (eVar 0) (zaa (eVar 1) aNil)))
  (xOf sCut))
def zdj:GFX:=fnX 3 zpj
def zky:SFX:=(zamp 2 zhm zdj (zaa (eVar 0) (zaa (eVar 1) aNil)))
def zcs:GFX:=fnX 2 zky
def zpk:SFX:=(zamp 2 zgn zbj (zaa (eVar 0) (zaa (eVar 1) aNil)))
def zea:GFX:=fnX 2 zpk
def zacb:SFX:=(xSeq (zaib 2 2 zbj (zaa (eVar 0) (zaa (eVar 1) aNil)))
  (xOf sCut))
def zho:GFX:=fnX 11 zacb
def zuz:SFX:=(xSeq (zaib 4 2 zbj (zaa (eVar 0) (zaa (eVar 1) aNil)))
  (xOf sCut))
def zfh:GFX:=fnX 11 zuz
def zqm:SF:=(sRet (eCB (anyD λbs=>bs.all id) (zaa (eLst (zaa (eOp eqD (zhk [0,1] 2 zcs (zaa (eVar 0) (zaa (eVar 1) aNil)) zbb) (eVar 2)) (zaa (eOp eqD (zhk [0,1] 2 zea (zaa (eVar 0) (zaa (eVar 1) aNil)) zbb) (eVar 2)) (zaa (eOp eqD (zhk [0,1] 2 zdj (zaa (eVar 0) (zaa (eVar 1) aNil)) zbb) (eVar 2)) (zaa (eOp eqD (zhk [0,1] 2 zho (zaa (eVar 0) (zaa (eVar 1) aNil)) zbb) (eVar 2)) (zaa (eOp eqD (zhk [0,1] 4 zfh (zaa (eVar 0) (zaa (eVar 1) (zaa (eTup (zaa (eC (.str "none")) aNil)) (zaa (eLst aNil) aNil)))) zbb) (eVar 2)) aNil)))))) aNil)))
def zbh:GF:=fnD 4 zqm
def zkz:SF:=(sSeq (sFor (zaj (eVar 0)) (gN 2)
  (sFor (zaj (zau 1 zaw (zaa (eVar 2) aNil))) (gN 3)
  (sIf (zaz (eOp (inD false) (eVar 3) (eVar 1))) (zmp 3) sNil)))
  (sRet (eC .none)))
def zct:GF:=fnD 4 zkz
def zpl:SF:=(sSeq (sSet 3 (eOp modD (eIxV 1 (eC (.int 0))) (eCB lenD (zaa (eVar 0) aNil))))
  (sSeq (sSet 4 (eOp modD (eIxV 1 (eC (.int 1))) (eCB lenD (zaa (eVar 0) aNil))))
  (sSeq (sSet 5 (eCB zmo (zaa (eVar 0) aNil)))
  (sSeq (znq 5 (eVar 3) (eIxV 2 (eC (.int 0))))
  (sSeq (sIf (zaz (eOp eqD (eOp modD (eOp zbi (eIxV 1 (eC (.int 0))) (eC (.int 3))) (eC (.int 2))) (eC (.int 1)))) (sSeq (sSet 6 (zau 1 zaw (zaa (eIxV 0 (eVar 3)) aNil)))
  (sSeq (sIns 6 (zaa (eOp modD (eOp zbi (eIxV 1 (eC (.int 1))) (eC (.int 3))) (eOp addD (eCB lenD (zaa (eVar 6) aNil)) (eC (.int 1)))) (zaa (eIxV 2 (eC (.int 0))) aNil)))
  (znq 5 (eVar 3) (eCB zco (zaa (eVar 6) aNil))))) sNil)
  (sSeq (sIf (zaz (eOp neD (eVar 4) (eVar 3))) (znq 5 (eVar 4) (eIxV 2 (eC (.int 1)))) (sIf (zaz (eOp eqD (eOp modD (eOp zbi (eIxV 1 (eC (.int 0))) (eC (.int 6))) (eC (.int 2))) (eC (.int 1)))) (znq 5 (eVar 4) (eCB zco (zaa (eOp addD (zau 1 zaw (zaa (eIxV 5 (eVar 4)) aNil)) (eLst (zaa (eIxV 2 (eC (.int 1))) aNil))) aNil))) sNil))
  (sRet (eCB zco (zaa (eVar 5) aNil)))))))))
def zeq:GF:=fnD 7 zpl
theorem zzl:bootBuiltins "all"=some (.builtin "all"):=by decide +kernel
theorem ztd:bootBuiltins "any"=some (.builtin "any"):=by decide +kernel
theorem zbau:bootBuiltins "bool"=some (.type "bool"):=by decide +kernel
theorem zbbh:bootBuiltins "int"=some (.type "int"):=by decide +kernel
theorem zcu:bootBuiltins "isinstance"=some (.builtin "isinstance"):=by decide +kernel
theorem zcb:bootBuiltins "len"=some (.builtin "len"):=by decide +kernel
theorem zis:bootBuiltins "list"=some (.type "list"):=by decide +kernel
theorem zarb:bootBuiltins "min"=some (.builtin "min"):=by decide +kernel
theorem zcc:bootBuiltins "tuple"=some (.type "tuple"):=by decide +kernel
theorem zbbi:bootBuiltins "zip"=some (.type "zip"):=by decide +kernel
def top(i:Nat):Stmt:=PySem.Challenge.pw_bestcalls_k15_answers.main.body.getD i (.Pass ⟨0,0,0,0⟩)
structure Txt(mg:Str->Option Value):Prop where
 all:mg "all"=none
 any:mg "any"=none
 bool:mg "bool"=none
 enumerate:mg "enumerate"=none
 int:mg "int"=none
 isinstance:mg "isinstance"=none
 len:mg "len"=none
 list:mg "list"=none
 min:mg "min"=none
 range:mg "range"=none
 tuple:mg "tuple"=none
 zip:mg "zip"=none
abbrev zqn:Stmt:=top 9
abbrev zxt:List Str:=["web"]
theorem zva:FnScope zxt ["web"] (zah zqn):=scB
theorem zawo:zxt.Nodup:=zva.nd
abbrev zqo:Stmt:=top 10
abbrev zxu:List Str:=["arm"]
theorem zvb:FnScope zxu ["arm"] (zah zqo):=scB
theorem zawp:zxu.Nodup:=zvb.nd
abbrev zjj:Stmt:=top 11
abbrev zpm:List Str:=["web","names","known","name"]
abbrev zjk:List Str:=["web","names"]
theorem zmx:FnScope zpm zjk (zah zjj):=scB
theorem zmy:zpm.Nodup:=zmx.nd
abbrev zqp:Stmt:=top 12
abbrev zxv:List Str:=["web","roofs","name","elders","roof","elder"]
theorem zvc:FnScope zxv ["web"] (zah zqp):=scB
theorem zhp:zxv.Nodup:=zvc.nd
abbrev zvd:Stmt:=top 13
abbrev zacc:List Str:=["roofs","arm","roof","name"]
abbrev zve:List Str:=["roofs","arm"]
theorem zxw:FnScope zacc zve (zah zvd):=scB
theorem zxx:zacc.Nodup:=zxw.nd
abbrev zhq:Stmt:=top 15
abbrev zla:List Str:=["call"]
theorem zjr:FnScope zla ["call"] (zah zhq):=scB
theorem zais:zla.Nodup:=zjr.nd
abbrev zlb:Stmt:=top 16
abbrev zrn:List Str:=["web","places","call"]
abbrev zlc:List Str:=["web","places","call"]
theorem zpn:FnScope zrn zlc (zah zlb):=scB
theorem zarc:zrn.Nodup:=zpn.nd
abbrev zhr:Stmt:=top 17
abbrev zld:List Str:=["roofs","call"]
abbrev zhs:List Str:=["roofs","call"]
theorem zjs:FnScope zld zhs (zah zhr):=scB
theorem zait:zld.Nodup:=zjs.nd
abbrev zle:Stmt:=top 18
abbrev zro:List Str:=["kinds","call_roofs"]
abbrev zlf:List Str:=["kinds","call_roofs"]
theorem zpo:FnScope zro zlf (zah zle):=scB
theorem zard:zro.Nodup:=zpo.nd
abbrev znu:Stmt:=top 19
abbrev zvf:List Str:=["roofs","one","other"]
abbrev znv:List Str:=["roofs","one","other"]
theorem zrp:FnScope zvf znv (zah znu):=scB
theorem zatf:zvf.Nodup:=zrp.nd
abbrev zgt:Stmt:=top 21
abbrev zjt:List Str:=["book","call","web","places","rules","call_roofs"]
abbrev zgu:List Str:=["book","call"]
theorem zit:FnScope zjt zgu (zah zgt):=scB
theorem zer:zjt.Nodup:=zit.nd
abbrev zlg:Stmt:=top 22
abbrev zrq:List Str:=["roofs","rules"]
abbrev zlh:List Str:=["roofs","rules"]
theorem zpp:FnScope zrq zlh (zah zlg):=scB
theorem zare:zrq.Nodup:=zpp.nd
abbrev zli:Stmt:=top 23
abbrev zrr:List Str:=["rules"]
theorem zpq:FnScope zrr ["rules"] (zah zli):=scB
theorem zarf:zrr.Nodup:=zpq.nd
abbrev znw:Stmt:=top 24
abbrev zvg:List Str:=["names"]
theorem zrs:FnScope zvg ["names"] (zah znw):=scB
theorem zatg:zvg.Nodup:=zrs.nd
abbrev zvh:Stmt:=top 26
abbrev zacd:List Str:=["book","call","rules"]
abbrev zvi:List Str:=["book","call"]
theorem zxy:FnScope zacd zvi (zah zvh):=scB
theorem zaif:zacd.Nodup:=zxy.nd
abbrev znx:Stmt:=top 27
abbrev zvj:List Str:=["book","call"]
abbrev zny:List Str:=["book","call"]
theorem zrt:FnScope zvj zny (zah znx):=scB
theorem zath:zvj.Nodup:=zrt.nd
abbrev znz:Stmt:=top 37
abbrev zvk:List Str:=["_law_script","_law_many","_law_seed","_law_cell","_law_found","_law_k"]
abbrev zaej:List Str:=["_law_script","_law_many"]
theorem zru:FnScope zvk zaej (zah znz):=scB
theorem zgo:zvk.Nodup:=zru.nd
abbrev zoa:Stmt:=top 38
abbrev zvl:List Str:=["_law_many","_law_cell","_law_letters","_law_step","_law_origin","_law_stem","_law_at","_law_names_here","_law_k","_law_sign","_law_own","_law_turn"]
abbrev zob:List Str:=["_law_many","_law_cell"]
theorem zrv:FnScope zvl zob (zah zoa):=scB
theorem zbz:zvl.Nodup:=zrv.nd
abbrev zvm:Stmt:=top 39
abbrev zace:List Str:=["_law_cells","_law_names_here","_law_web_here","_law_k","_law_name","_law_left","_law_rest","_law_elders","_law_turn","_law_at"]
abbrev zvn:List Str:=["_law_cells","_law_names_here"]
theorem zxz:FnScope zace zvn (zah zvm):=scB
theorem zes:zace.Nodup:=zxz.nd
abbrev zzm:Stmt:=top 40
abbrev zags:List Str:=["_law_web_here","_law_up_here","_law_name","_law_elders","_law_own","_law_elder","_law_one"]
abbrev zzn:List Str:=["_law_web_here"]
theorem zacf:FnScope zags zzn (zah zzm):=scB
theorem ziu:zags.Nodup:=zacf.nd
abbrev zoc:Stmt:=top 41
abbrev zvo:List Str:=["_law_arm_here"]
abbrev zod:List Str:=["_law_arm_here"]
theorem zrw:FnScope zvo zod (zah zoc):=scB
theorem zati:zvo.Nodup:=zrw.nd
abbrev zvp:Stmt:=top 42
abbrev zacg:List Str:=["_law_cell","_law_names_here","_law_left","_law_rest","_law_arm_here","_law_turn","_law_at"]
abbrev zvq:List Str:=["_law_cell","_law_names_here"]
theorem zya:FnScope zacg zvq (zah zvp):=scB
theorem zhf:zacg.Nodup:=zya.nd
abbrev zqq:Stmt:=top 43
abbrev zyb:List Str:=["_law_cell","_law_names_here","_law_places","_law_call_here","_law_rest","_law_many","_law_place","_law_at","_law_by","_law_more"]
abbrev zqr:List Str:=["_law_cell","_law_names_here","_law_places"]
theorem zvr:FnScope zyb zqr (zah zqq):=scB
theorem zeb:zyb.Nodup:=zvr.nd
abbrev zoe:Stmt:=top 44
abbrev zvs:List Str:=["_law_cells","_law_names_here","_law_up_here","_law_call_here","_law_titles","_law_rules_here","_law_k","_law_title","_law_rest","_law_kinds","_law_arm_here","_law_pool"]
abbrev zof:List Str:=["_law_cells","_law_names_here","_law_up_here","_law_call_here","_law_titles"]
theorem zrx:FnScope zvs zof (zah zoe):=scB
theorem zdk:zvs.Nodup:=zrx.nd
abbrev zqs:Stmt:=top 45
abbrev zyc:List Str:=["_law_up_here","_law_kinds","_law_call_here","_law_k","_law_kind"]
abbrev zqt:List Str:=["_law_up_here","_law_kinds","_law_call_here"]
theorem zvt:FnScope zyc zqt (zah zqs):=scB
theorem zvu:zyc.Nodup:=zvt.nd
abbrev zvv:Stmt:=top 46
abbrev zach:List Str:=["_law_up_here","_law_rules_here","_law_call_here","_law_fit","_law_near","_law_name","_law_kinds"]
abbrev zvw:List Str:=["_law_up_here","_law_rules_here","_law_call_here"]
theorem zyd:FnScope zach zvw (zah zvv):=scB
theorem zml:zach.Nodup:=zyd.nd
abbrev zih:Stmt:=top 47
abbrev zmz:List Str:=["_law_books","_law_up_here","_law_calls","_law_call_here","_law_book","_law_due_here","_law_found"]
abbrev zii:List Str:=["_law_books","_law_up_here","_law_calls"]
theorem zlj:FnScope zmz zii (zah zih):=scB
theorem zfw:zmz.Nodup:=zlj.nd
abbrev zqu:Stmt:=top 48
abbrev zye:List Str:=["_law_ask","e","_law_told_here","_law_wrong"]
theorem zvx:FnScope zye ["_law_ask"] (zah zqu):=scB
theorem zjl:zye.Nodup:=zvx.nd
abbrev zax:Stmt:=top 49
abbrev zci:List Str:=["_law_book","_law_call_here","_law_due_here","_law_asks"]
abbrev zjm:List Str:=["_law_book","_law_call_here","_law_due_here"]
theorem zna:FnScope zci zjm (zah zax):=scB
theorem zws:zci.Nodup:=zna.nd
abbrev zog:Stmt:=top 50
abbrev zvy:List Str:=["_law_call_here","_law_odd","_law_arm_here","_law_name"]
abbrev zoh:List Str:=["_law_call_here","_law_odd"]
theorem zry:FnScope zvy zoh (zah zog):=scB
theorem zrz:zvy.Nodup:=zry.nd
abbrev zjn:Stmt:=top 51
abbrev zpr:List Str:=["_law_call_here","_law_cells","_law_odd","_law_at","_law_by","_law_row","_law_pieces"]
abbrev zjo:List Str:=["_law_call_here","_law_cells","_law_odd"]
theorem znb:FnScope zpr zjo (zah zjn):=scB
theorem zgf:zpr.Nodup:=znb.nd
abbrev zaig:Stmt:=top 52
abbrev zbav:List Str:=["_law_script","_law_cells","_law_places","_law_names_here","_law_stand","_law_odd","_law_web_here","_law_up_here","_law_calls","_law_rules_here","_law_handed","_law_second","_law_strange_here","_law_call_here"]
theorem zatj:FnScope zbav ["_law_script"] (zah zaig):=scB
theorem ziv:zbav.Nodup:=zatj.nd
abbrev zju:Stmt:=top 11
abbrev zjv:List Str:=["web","names","known","name"]
abbrev zgv:List Str:=["web","names"]
theorem ziw:FnScope zjv zgv (zah zju):=scB
theorem zix:zjv.Nodup:=ziw.nd
abbrev zlk:Stmt:=top 16
abbrev zll:List Str:=["web","places","call"]
abbrev zht:List Str:=["web","places","call"]
theorem zjw:FnScope zll zht (zah zlk):=scB
theorem zaiu:zll.Nodup:=zjw.nd
abbrev zhu:Stmt:=top 21
abbrev zhv:List Str:=["book","call","web","places","rules","call_roofs"]
abbrev zfi:List Str:=["book","call"]
theorem zgy:FnScope zhv zfi (zah zhu):=scB
theorem zey:zhv.Nodup:=zgy.nd
abbrev zlm:Stmt:=top 25
abbrev zsa:List Str:=["book","call"]
abbrev zln:List Str:=["book","call"]
theorem zps:FnScope zsa zln (zah zlm):=scB
theorem zarg:zsa.Nodup:=zps.nd
abbrev zsb:Stmt:=top 26
abbrev zsc:List Str:=["book","call","rules"]
abbrev zlo:List Str:=["book","call"]
theorem zpt:FnScope zsc zlo (zah zsb):=scB
theorem zzo:zsc.Nodup:=zpt.nd
abbrev znc:Stmt:=top 27
abbrev znd:List Str:=["book","call"]
abbrev zij:List Str:=["book","call"]
theorem zlp:FnScope znd zij (zah znc):=scB
theorem zang:znd.Nodup:=zlp.nd
abbrev zzp:Stmt:=top 31
abbrev zagt:List Str:=["book","call","fit","web","places","rules","roofs","call_roofs","paper","name","kinds"]
abbrev zzq:List Str:=["book","call"]
theorem zaci:FnScope zagt zzq (zah zzp):=scB
theorem zanh:zagt.Nodup:=zaci.nd
abbrev zqv:Stmt:=top 35
abbrev zyf:List Str:=["book","call","answer","paper","fit","web","places","rules","roofs","call_roofs","near"]
abbrev zqw:List Str:=["book","call","answer","paper"]
theorem zvz:FnScope zyf zqw (zah zqv):=scB
theorem zaek:zyf.Nodup:=zvz.nd
theorem zne:(["name","elders"]:List Str).Nodup:=by decide +kernel
theorem zhw:(["arm","name"]:List Str).Nodup:=by decide +kernel
theorem zoi:(["arm","roofs"]:List Str).Nodup:=by decide +kernel
theorem zjx:(["kind","roof"]:List Str).Nodup:=by decide +kernel
theorem zlq:(["low","high","roofs"]:List Str).Nodup:=by decide +kernel
theorem zmq:(["rule","call_roofs"]:List Str).Nodup:=by decide +kernel
theorem zsn:(["rule","roofs","rules"]:List Str).Nodup:=by decide +kernel
theorem zjy:(["name","kinds","rule","roofs"]:List Str).Nodup:=by decide +kernel
theorem zjz:(["name","kinds"]:List Str).Nodup:=by decide +kernel
theorem zwt:(["_law_name","_law_names_here","_law_at","_law_by"]:List Str).Nodup:=by decide +kernel
theorem zwa:(["_law_name","_law_up_here","_law_arm_here"]:List Str).Nodup:=by decide +kernel
theorem zwb:(["_law_one","_law_name","_law_up_here"]:List Str).Nodup:=by decide +kernel
theorem zlr:(["_law_one","_law_row"]:List Str).Nodup:=by decide +kernel
theorem zwu:(["_law_name","_law_up_here","_law_kind"]:List Str).Nodup:=by decide +kernel
theorem zzr:(["_law_rule","_law_up_here","_law_call_here"]:List Str).Nodup:=by decide +kernel
theorem zpu:(["_law_one","_law_other","_law_up_here","_law_kinds"]:List Str).Nodup:=by decide +kernel
theorem zani:(["_law_cell","_law_places","_law_stand"]:List Str).Nodup:=by decide +kernel
theorem zanj:(["_law_cell","_law_stand"]:List Str).Nodup:=by decide +kernel
theorem zacj:(["_law_name","_law_elders"]:List Str).Nodup:=by decide +kernel
section
variable(P:Program)(w:World)(K:qB)(mg:Str->Option Value)(base:Heap)
abbrev zqx:Prop:=Dn P w K mg base "names_of" ["web"] 1 (spD 1 zio)
abbrev zqy:Prop:=Dn P w K mg base "names_in" ["arm"] 1 (spD 1 zaw)
abbrev zpv:Prop:=Dn P w K mg base "check_kinds" zjk 2 (spD 2 zfv)
abbrev zqz:Prop:=Dn P w K mg base "roofs_of" ["web"] 1 (spD 1 zfm)
abbrev zack:Prop:=Dn P w K mg base "roof_of" zve 2 (spD 2 zkv)
abbrev zhx:Prop:=Dn P w K mg base "names_in_call" ["call"] 2 (spD 1 zdr)
abbrev zsd:Prop:=Dn P w K mg base "check_call" zlc 3 (spD 3 zie)
abbrev zls:Prop:=Dn P w K mg base "roofs_in_call" zhs 3 (spD 2 zen)
abbrev zse:Prop:=Dn P w K mg base "fits_under" zlf 1 (spD 2 zgl)
abbrev zwc:Prop:=Dn P w K mg base "is_nearer" znv 1 (spD 3 zgb)
abbrev zka:Prop:=Dn P w K mg base "rules_that_fit" zgu 4 (spD 2 zed)
abbrev zsf:Prop:=Dn P w K mg base "nearest_of" zlh 2 (spD 2 zgm)
abbrev zlt:Prop:=Dn P w K mg base "rule_names" ["rules"] 1 (spD 1 zgn)
abbrev zoj:Prop:=Dn P w K mg base "answer_by" ["names"] 1 (spD 1 zhm)
abbrev zacl:Prop:=Dn P w K mg base "nearest" zvi 5 (spD 2 zpf)
abbrev zwd:Prop:=Dn P w K mg base "answer_of" zny 6 (spD 2 zeo)
abbrev zwe:Prop:=Dn P w K mg base "_law_names" zob 1 (spD 2 zbk)
abbrev zacm:Prop:=Dn P w K mg base "_law_web" zvn 1 (spD 2 ziq)
abbrev zagu:Prop:=Dn P w K mg base "_law_up" zzn 1 (spD 1 zmh)
abbrev zhy:Prop:=Dn P w K mg base "_law_parts" zod 1 (spD 1 zaw)
abbrev zacn:Prop:=Dn P w K mg base "_law_arm" zvq 1 (spD 2 zdi)
abbrev zyg:Prop:=Dn P w K mg base "_law_call" zqr 1 (spD 3 zfn)
abbrev zwf:Prop:=Dn P w K mg base "_law_rules" zof 2 (spD 5 zgc)
abbrev zyh:Prop:=Dn P w K mg base "_law_fits" zqt 2 (spD 3 zee)
abbrev zaco:Prop:=Dn P w K mg base "_law_due" zvw 3 (spD 3 zdz)
abbrev znf:Prop:=Dn P w K mg base "_law_answered" zii 7 (spD 3 zbl)
abbrev zyi(cl:Str->Addr):Prop:=DnT P w K mg base "_law_told" "_law_ask" 9 8 (tolD cl zbb)
abbrev zkb(cl:Str->Addr):Prop:=DnX P w K mg base "check_kinds" zgv 3 (spX cl 2 zfc)
abbrev zlu(cl:Str->Addr):Prop:=DnX P w K mg base "check_call" zht 4 (spX cl 3 zhc)
abbrev zcv(cl:Str->Addr):Prop:=DnX P w K mg base "rules_that_fit" zfi 5 (spX cl 2 zbj)
abbrev zlv(cl:Str->Addr):Prop:=DnX P w K mg base "nearest" zlo 6 (spX cl 2 zdj)
abbrev zng(cl:Str->Addr):Prop:=DnX P w K mg base "answer_of" zij 7 (spX cl 2 zcs)
abbrev zsg(cl:Str->Addr):Prop:=DnX P w K mg base "fitting" zln 6 (spX cl 2 zea)
abbrev zagv(cl:Str->Addr):Prop:=DnX P w K mg base "why" zzq 6 (spX cl 2 zho)
abbrev zyj(cl:Str->Addr):Prop:=DnX P w K mg base "shows" zqw 6 (spX cl 4 zfh)
abbrev zpw(PT:Addr):Prop:=Dn P w K mg base "_law_refused" zjm 10 (spDT PT (("_law_refused":Str)++".<locals>."++"<lambda>") 3 zbh)
abbrev zwg:Prop:=Dn P w K mg base "_law_first" zoh 2 (spD 2 zct)
abbrev zpx:Prop:=Dn P w K mg base "_law_strange" zjo 2 (spD 3 zeq)
end
section
variable{P:Program}{w:World}{K:qB}{mg:Str->Option Value}{base:Heap}{f:Addr}{fd:qAb}{cl:Str->Addr}
theorem zael (F:Fun K "names_of" "names_of" zqn f fd) (T:Txt mg)  : FnOk P w K mg base CX0 1 f fd ["web"] (spD 1 zio):=by
 refine F.ok zva (λvs H Q E h=>zbs h) (λcdv A outer s H vs Q E hr h=>?_)
 apply xi
 ·refine' Bx.out (zaf (zba (zdg (zbn (N':=["name","elders"]) (own:=["name","elders"]) (fr:=[]) (by kernel_rfl)) rfl (zbc (K:=K) rfl (bv 0)) ?hb1 (by intro _;rfl))))
  case hb1=>(intro cl C s H fp;refine'⟨Bx.out (zdn (K:=K) (n:=2) rfl rfl (zav (bpgQ (i:=0) zne) (zav (bpgQ (i:=1) zne) zdm (by rfl)) (by rfl)) (by rfl) (by rfl)),Bx.out zex,Bx.out (bv 0)⟩)
 exact fn_d (f:=zin) ((zms ice)) h
theorem zaem (F:Fun K "names_in" "names_in" zqo f fd) (T:Txt mg)  : FnOk P w K mg base CX0 1 f fd ["arm"] (spD 1 zaw):=by
 refine F.ok zvb (λvs H Q E h=>zbs h) (λcdv A outer s H vs Q E hr h=>?_)
 apply xi
 ·refine' Bx.out (zad (zdf (zcl (K:=K) rfl (bpeB (ztp (K:=K) rfl) T.isinstance zcu (bpaC (bv 0) (bpaC (ztb (v:=.ty "tuple") (by rfl) T.tuple zcc rfl (by decide) (by decide)) zac))) (λ_=>rfl)) (zaf (zba (bpeT (zhd (K:=K) rfl) T.list zis (bpaC (bv 0) zac)))) zbq)
 (zaf (zba (zdq (bpaC (bv 0) zac)))))
 exact fn_d (f:=zql) ((zat (zig (zko (zaks ice zty)) ics zfl) ics)) h
theorem zwv(F:Fun K "check_kinds" "check_kinds" zjj f fd)(T:Txt mg)(D_names_of:zqx P w K mg base):FnOk P w K mg base CX0 2 f fd zjk (spD 2 zfv):=by
 refine F.ok zmx (λvs H Q E h=>zbs h) (λcdv A outer s H vs Q E hr h=>?_)
 apply xi
 ·refine' Bx.out (zad (bpsQ (i:=2) zmy (bpeD D_names_of hr (bpaC (bv 0) zac)))
 (zaf (zda qk rfl (zbc (K:=K) rfl (bv 1)) (bpgQ (i:=3) zmy)
  (zaf (zdf (zbt (zoo (K:=K) rfl) (bv 3) (bv 2) (by rfl)) (zaf zabl) zbq)) (by intro _;rfl))))
 exact fn_d (f:=zfu) ((zat ics (zgh ici zdp (zig ict zafr zfl)))) h
theorem zaen (F:Fun K "roofs_of" "roofs_of" zqp f fd) (T:Txt mg)  : FnOk P w K mg base CX0 1 f fd ["web"] (spD 1 zfm):=by
 refine F.ok zvc (λvs H Q E h=>zbs h) (λcdv A outer s H vs Q E hr h=>?_)
 have hu:=zyt hr
 apply xi
 ·refine' Bx.out (zad (bpsQ (i:=1) zhp zug)
 (zad (zda qk rfl (zbc (K:=K) rfl (bv 0)) (zdn (K:=K) (n:=2) rfl rfl (zav (bpgQ (i:=2) zhp) (zav (bpgQ (i:=3) zhp) zdm (by rfl)) (by rfl)) (by rfl) (by rfl))
  (zad (bpsQ (i:=4) zhp (zaqf (zalp (bv 2) zgw zaqe) rfl rfl (by simp) (by decide)))
 (zad (zda qk rfl (zbc (K:=K) rfl (bv 3)) (bpgQ (i:=5) zhp)
  (zaf (zbr (zdb (K:=K) rfl qCs qCn qCm zaau (bv 4) (bpaC (zmg hu (bv 1) (bv 5) (λ_ _=>rfl)) zac) (by rfl) (by rfl) (by rfl) (zas (by rfl)) (by rfl)) (by rfl))) (by intro _;rfl))
 (zaf (zafz hu (bv 1) (bv 2) (bv 4) rfl)))) (by intro _;rfl))
 (zaf (zba (bv 1)))))
 exact fn_d (f:=zxn) ((zat ics (zat (zgh ici (zou (zca (zca zjb))) (zat (zrg (zbcd ice ice)) (zat (zgh ici zdp (zasi ice)) (zash ice ice)))) zkp))) h
theorem zaih(F:Fun K "roof_of" "roof_of" zvd f fd)(T:Txt mg)(D_names_in:zqy P w K mg base):FnOk P w K mg base CX0 2 f fd zve (spD 2 zkv):=by
 refine F.ok zxw (λvs H Q E h=>zbs h) (λcdv A outer s H vs Q E hr h=>?_)
 have hu:=zyt hr
 apply xi
 ·refine' Bx.out (zad (bpsQ (i:=2) zxx zug)
 (zad (zda qk rfl (zbc (K:=K) rfl (bpeD D_names_in hr (bpaC (bv 1) zac))) (bpgQ (i:=3) zxx)
  (zaf (zbr (zdb (K:=K) rfl qCs qCn qCm zaau (bv 2) (bpaC (zmg hu (bv 0) (bv 3) (λ_ _=>rfl)) zac) (by rfl) (by rfl) (by rfl) (zas (by rfl)) (by rfl)) (by rfl))) (by intro _;rfl))
 (zaf (zba (bv 2)))))
 exact fn_d (f:=zabz) ((zat ics (zat (zgh ici zdp (zasi ice)) zkp))) h
theorem zso(F:Fun K "names_in_call" "names_in_call" zhq f fd)(T:Txt mg)(D_names_in:zqy P w K mg base):FnOk P w K mg base CX0 2 f fd ["call"] (spD 1 zdr):=by
 refine F.ok zjr (λvs H Q E h=>zbs h) (λcdv A outer s H vs Q E hr h=>?_)
 apply xi
 ·refine' Bx.out (zaf (zba (zals (zbn (N':=["arm","name"]) (own:=["arm","name"]) (fr:=[]) (by kernel_rfl)) rfl (zbc (K:=K) rfl (bv 0)) ?hb1 (by intro _;rfl) (by intro _ _;rfl))))
  case hb1=>(intro cl C s H fp;refine'⟨Bx.out (bpgQ (i:=0) zhw),Bx.out zex,Bx.out (zbc (K:=K) rfl (bpeD D_names_in hr (bpaC (bv 0) zac))),Bx.out (bpgQ (i:=1) zhw),Bx.out zex,Bx.out (bv 1)⟩)
 exact fn_d (f:=zkw) ((zms (zapv (k:=1) ici zdp (zalg (by decide) (by decide)) (by decide) zale ici zdp (zalg (by decide) (by decide)) zale ice))) h
theorem zzs(F:Fun K "check_call" "check_call" zlb f fd)(T:Txt mg)(D_check_kinds:zpv P w K mg base)(D_names_in_call:zhx P w K mg base):FnOk P w K mg base CX0 3 f fd zlc (spD 3 zie):=by
 refine F.ok zpn (λvs H Q E h=>zbs h) (λcdv A outer s H vs Q E hr h=>?_)
 apply xi
 ·refine' Bx.out (zad (zdf (zbt (zxk (K:=K) rfl hr.units) (bpeB (zbo (K:=K) rfl) T.len zcb (bpaC (bv 2) zac)) (bv 1) (zet _)) (zaf zabl) zbq)
 (zaf (zbr (bpeD D_check_kinds hr (bpaC (bv 0) (bpaC (bpeD D_names_in_call hr (bpaC (bv 2) zac)) zac))) (by rfl))))
 exact fn_d (f:=zrj) ((zat (zig ict zafr zfl) (zakw ice))) h
theorem zsp(F:Fun K "roofs_in_call" "roofs_in_call" zhr f fd)(T:Txt mg)(D_roof_of:zack P w K mg base):FnOk P w K mg base CX0 3 f fd zhs (spD 2 zen):=by
 refine F.ok zjs (λvs H Q E h=>zbs h) (λcdv A outer s H vs Q E hr h=>?_)
 apply xi
 ·refine' Bx.out (zaf (zba (zdg (zbn (N':=["arm","roofs"]) (own:=["arm"]) (fr:=[0]) (by kernel_rfl)) rfl (zbc (K:=K) rfl (bv 1)) ?hb1 (by intro _;rfl))))
  case hb1=>(intro cl C s H fp;refine'⟨Bx.out (bpgQ (i:=0) zoi),Bx.out zex,Bx.out (bpeD D_roof_of hr (bpaC (bv 1) (bpaC (bv 0) zac)))⟩)
 exact fn_d (f:=zkx) ((zms ice)) h
theorem zzt (F:Fun K "fits_under" "fits_under" zle f fd) (T:Txt mg)  : FnOk P w K mg base CX0 1 f fd zlf (spD 2 zgl):=by
 refine F.ok zpo (λvs H Q E h=>zbs h) (λcdv A outer s H vs Q E hr h=>?_)
 have hu:=zyt hr
 apply xi
 ·refine' Bx.out (zaf (zba (bpeB (zto (K:=K) rfl rfl) T.all zzl (bpaC (zdg (zbn (N':=["kind","roof"]) (own:=["kind","roof"]) (fr:=[]) (by kernel_rfl)) rfl (zalr (K:=K) rfl rfl T.zip (bpaC (bv 0) (bpaC (bv 1) zac)) (by rfl) (by rfl)) ?hb1 (by intro _;rfl)) zac))))
  case hb1=>(intro cl C s H fp;refine'⟨Bx.out (zdn (K:=K) (n:=2) rfl rfl (zav (bpgQ (i:=0) zjx) (zav (bpgQ (i:=1) zjx) zdm (by rfl)) (by rfl)) (by rfl) (by rfl)),Bx.out zex,Bx.out (zalu (zalt hu (bv 0) (bv 1)) (by rfl))⟩)
 exact fn_d (f:=zrk) ((zms ice)) h
theorem zacp (F:Fun K "is_nearer" "is_nearer" znu f fd) (T:Txt mg)  : FnOk P w K mg base CX0 1 f fd znv (spD 3 zgb):=by
 refine F.ok zrp (λvs H Q E h=>zbs h) (λcdv A outer s H vs Q E hr h=>?_)
 have hu:=zyt hr
 apply xi
 ·refine' Bx.out (zaf (zba (zaef (zme (zxk (K:=K) rfl hr.units) (bv 1) (bv 2) (zet _)) (zaee (bpeB (zto (K:=K) rfl rfl) T.all zzl (bpaC (zdg (zbn (N':=["low","high","roofs"]) (own:=["low","high"]) (fr:=[0]) (by kernel_rfl)) rfl (zalr (K:=K) rfl rfl T.zip (bpaC (bv 1) (bpaC (bv 2) zac)) (by rfl) (by rfl)) ?hb1 (by intro _;rfl)) zac))))))
  case hb1=>(intro cl C s H fp;refine'⟨Bx.out (zdn (K:=K) (n:=2) rfl rfl (zav (bpgQ (i:=0) zlq) (zav (bpgQ (i:=1) zlq) zdm (by rfl)) (by rfl)) (by rfl) (by rfl)),Bx.out zex,Bx.out (zalu (zalt hu (bv 1) (zmg hu (bv 2) (bv 0) (λ_ _=>rfl))) (by rfl))⟩)
 exact fn_d (f:=zuv) ((zms ice)) h
theorem zra(F:Fun K "rules_that_fit" "rules_that_fit" zgt f fd)(T:Txt mg)(D_check_call:zsd P w K mg base)(D_fits_under:zse P w K mg base)(D_roofs_in_call:zls P w K mg base)(D_roofs_of:zqz P w K mg base):FnOk P w K mg base CX0 4 f fd zgu (spD 2 zed):=by
 refine F.ok zit (λvs H Q E h=>zbs h) (λcdv A outer s H vs Q E hr h=>?_)
 apply xi
 ·refine' Bx.out (zad (zalq (bv 0) (zdn (K:=K) (n:=3) rfl rfl (zav (bpgQ (i:=2) zer) (zav (bpgQ (i:=3) zer) (zav (bpgQ (i:=4) zer) zdm (by rfl)) (by rfl)) (by rfl)) (by rfl) (by rfl)) (by rfl) (by rfl) (by rfl))
 (zad (zbr (bpeD D_check_call hr (bpaC (bv 2) (bpaC (bv 3) (bpaC (bv 1) zac)))) (by rfl))
 (zad (bpsS (i:=5) zer rfl (Or.inr rfl) (bpeD D_roofs_in_call hr (bpaC (bpeD D_roofs_of hr (bpaC (bv 2) zac)) (bpaC (bv 1) zac))))
 (zaf (zba (zdg (zbn (N':=["rule","call_roofs"]) (own:=["rule"]) (fr:=[5]) (by kernel_rfl)) rfl (zbc (K:=K) rfl (bv 4)) ?hb1 (by intro _;rfl)))))))
  case hb1=>(intro cl C s H fp;refine'⟨Bx.out (bpgQ (i:=0) zmq),Bx.out (zuh (zcl (K:=K) rfl (bpeD D_fits_under hr (bpaC (bpeX (zcd (K:=K) rfl) (bv 0) zae) (bpaC (bv 1) zac))) (λ_=>rfl))),Bx.out (bv 0)⟩)
 exact fn_d (f:=zjq) ((zat (zasg ice (zou (zca (zca (zca zjb))))) (zat (zakw ice) (zat ics (zms (zqi ici zdp (zud (by decide)) (zko ice) ice)))))) h
theorem zzu(F:Fun K "nearest_of" "nearest_of" zlg f fd)(T:Txt mg)(D_is_nearer:zwc P w K mg base):FnOk P w K mg base CX0 2 f fd zlh (spD 2 zgm):=by
 refine F.ok zpp (λvs H Q E h=>zbs h) (λcdv A outer s H vs Q E hr h=>?_)
 apply xi
 ·refine' Bx.out (zaf (zba (zdg (zbn (N':=["rule","roofs","rules"]) (own:=["rule"]) (fr:=[0,1]) (by kernel_rfl)) rfl (zbc (K:=K) rfl (bv 1)) ?hb1 (by intro _;rfl))))
  case hb1=>(intro cl C s H fp;refine'⟨Bx.out (bpgN (i:=0) zsn rfl (Or.inr rfl)),Bx.out (zuh (zks (zcl (K:=K) rfl (bpeB (zop (K:=K) rfl rfl) T.any ztd (bpaC (zdg (zbn (N':=["name","kinds","rule","roofs"]) (own:=["name","kinds"]) (fr:=[0,1]) (by kernel_rfl)) rfl (zbc (K:=K) rfl (bv 2)) ?hb2 (by intro _;rfl)) zac)) (λ_=>rfl)))),Bx.out (bv 0)⟩;case hb2=>(intro cl C s H fp;refine'⟨Bx.out (zdn (K:=K) (n:=2) rfl rfl (zav (bpgQ (i:=0) zjy) (zav (bpgQ (i:=1) zjy) zdm (by rfl)) (by rfl)) (by rfl) (by rfl)),Bx.out zex,Bx.out (bpeD D_is_nearer hr (bpaC (bv 3) (bpaC (bv 1) (bpaC (bpeX (zcd (K:=K) rfl) (bv 2) zae) zac))))⟩))
 exact fn_d (f:=zrl) ((zms (zqi ici zdp (zud (by decide)) (zxh (zko ice)) ice))) h
theorem zzv (F:Fun K "rule_names" "rule_names" zli f fd) (T:Txt mg)  : FnOk P w K mg base CX0 1 f fd ["rules"] (spD 1 zgn):=by
 refine F.ok zpq (λvs H Q E h=>zbs h) (λcdv A outer s H vs Q E hr h=>?_)
 apply xi
 ·refine' Bx.out (zaf (zba (zdg (zbn (N':=["name","kinds"]) (own:=["name","kinds"]) (fr:=[]) (by kernel_rfl)) rfl (zbc (K:=K) rfl (bv 0)) ?hb1 (by intro _;rfl))))
  case hb1=>(intro cl C s H fp;refine'⟨Bx.out (zdn (K:=K) (n:=2) rfl rfl (zav (bpgQ (i:=0) zjz) (zav (bpgQ (i:=1) zjz) zdm (by rfl)) (by rfl)) (by rfl) (by rfl)),Bx.out zex,Bx.out (bv 0)⟩)
 exact fn_d (f:=zrm) ((zms ice)) h
theorem zacq (F:Fun K "answer_by" "answer_by" znw f fd) (T:Txt mg)  : FnOk P w K mg base CX0 1 f fd ["names"] (spD 1 zhm):=by
 refine F.ok zrs (λvs H Q E h=>zbs h) (λcdv A outer s H vs Q E hr h=>?_)
 apply xi
 ·refine' Bx.out (zad (zdf (zks (zcl (K:=K) rfl (bv 0) (λ_=>rfl))) (zaf (zba (zcg (bpaC zff zac)))) zbq)
 (zad (zdf (zbt (zim (K:=K) rfl hr.units) (bpeB (zbo (K:=K) rfl) T.len zcb (bpaC (bv 0) zac)) zae (zet _)) (zaf (zba (zcg (bpaC zff (bpaC (bpeX (zcd (K:=K) rfl) (bv 0) zae) zac))))) zbq)
 (zaf (zba (zcg (bpaC zff (bpaC (bpeT (zcq (K:=K) rfl) T.tuple zcc (bpaC (bv 0) zac)) zac)))))))
 exact fn_d (f:=zuw) ((zat (zig (zxh (zko ice)) ics zfl) ics)) h
theorem zaii(F:Fun K "nearest" "nearest" zvh f fd)(T:Txt mg)(D_nearest_of:zsf P w K mg base)(D_roofs_of:zqz P w K mg base)(D_rule_names:zlt P w K mg base)(D_rules_that_fit:zka P w K mg base):FnOk P w K mg base CX0 5 f fd zvi (spD 2 zpf):=by
 refine F.ok zxy (λvs H Q E h=>zbs h) (λcdv A outer s H vs Q E hr h=>?_)
 apply xi
 ·refine' Bx.out (zad (bpsQ (i:=2) zaif (bpeD D_rules_that_fit hr (bpaC (bv 0) (bpaC (bv 1) zac))))
 (zaf (zba (bpeD D_rule_names hr (bpaC (bpeD D_nearest_of hr (bpaC (bpeD D_roofs_of hr (bpaC (bpeX (zcd (K:=K) rfl) (bv 0) zae) zac)) (bpaC (bv 2) zac))) zac)))))
 exact fn_d (f:=zaca) ((zat ics ics)) h
theorem zacr(F:Fun K "answer_of" "answer_of" znx f fd)(T:Txt mg)(D_answer_by:zoj P w K mg base)(D_nearest:zacl P w K mg base):FnOk P w K mg base CX0 6 f fd zny (spD 2 zeo):=by
 refine F.ok zrt (λvs H Q E h=>zbs h) (λcdv A outer s H vs Q E hr h=>?_)
 apply xi
 ·refine' Bx.out (zaf (zba (bpeD D_answer_by hr (bpaC (bpeD D_nearest hr (bpaC (bv 0) (bpaC (bv 1) zac))) zac))))
 exact fn_d (f:=zux) ((zms ice)) h
theorem zacs (F:Fun K "_law_names" "_law_names" zoa f fd) (T:Txt mg)  : FnOk P w K mg base CX0 1 f fd zob (spD 2 zbk):=by
 refine F.ok zrv (λvs H Q E h=>zbs h) (λcdv A outer s H vs Q E hr h=>?_)
 apply xi
 ·refine' Bx.out (zad (bpsQ (i:=2) zbz zff)
 (zad (bpsQ (i:=3) zbz (bpeX (zcd (K:=K) rfl) (zcg (bpaC zae (bpaC zae (bpaC zae (bpaC zae (bpaC zae (bpaC zae (bpaC zae (bpaC zae zac))))))))) (zak zbw (zak zcm (bv 1) zae) zae)))
 (zad (bpsQ (i:=4) zbz (zak zbw (zak zcm (bv 1) zae) zae))
 (zad (bpsQ (i:=5) zbz (zak zif (bpeX (zcd (K:=K) rfl) (bv 2) (zak zbw (zak zcm (bv 1) zae) zae)) (zak zbw (zak zcm (bv 1) zae) zae)))
 (zad (bpsQ (i:=6) zbz (zak zbw (zak zcm (bv 1) zae) (zak (zbp (K:=K) rfl) (bpeB (zbo (K:=K) rfl) T.len zcb (bpaC (bv 5) zac)) zae)))
 (zad (bpsQ (i:=7) zbz (zdq zac))
 (zad (zda qk rfl (zmf rfl T.range (bpaC (bv 0) zac) (by rfl)) (bpgQ (i:=8) zbz)
  (zad (bpsQ (i:=9) zbz (bpeX (zcd (K:=K) rfl) (bv 2) (zak zbw (zak (zbp (K:=K) rfl) (bv 4) (zak zif (bv 3) (bv 8))) zae)))
 (zaf (zdf (zbt (zim (K:=K) rfl hr.units) (zak zbw (bv 1) zae) zae (zet _)) (zaf (zbr (zdb (K:=K) rfl qQ qW qV zbm (bv 7) (bpaC (zak (zbp (K:=K) rfl) (zak (zbp (K:=K) rfl) (zce (zmn (K:=K) rfl) (bv 5) zft (zbu (bv 6))) (bv 9)) (zce (zmn (K:=K) rfl) (bv 5) (zbu (bv 6)) zft)) zac) (by rfl) (by rfl) (by rfl) (zas (by rfl)) (by rfl)) (by rfl))) (zaf (zdf (zbt (zim (K:=K) rfl hr.units) (zak zbw (bv 1) zae) zae (zet _)) (zaf (zbr (zdb (K:=K) rfl qQ qW qV zbm (bv 7) (bpaC (zak (zbp (K:=K) rfl) (zce (zmn (K:=K) rfl) (bv 5) zft (zbu (zak zbw (zak zif (bv 8) (bv 3)) (zak (zbp (K:=K) rfl) (bpeB (zbo (K:=K) rfl) T.len zcb (bpaC (bv 5) zac)) zae)))) (bv 9)) zac) (by rfl) (by rfl) (by rfl) (zas (by rfl)) (by rfl)) (by rfl))) (zaf (zbr (zdb (K:=K) rfl qQ qW qV zbm (bv 7) (bpaC (zak zif (bpeX (zcd (K:=K) rfl) (bv 2) (zak zbw (zak (zbp (K:=K) rfl) (bv 4) (zak zcm (bv 8) zae)) zae)) (zak (zbp (K:=K) rfl) zae (zak zbw (zak zif (bv 8) (bv 3)) zae))) zac) (by rfl) (by rfl) (by rfl) (zas (by rfl)) (by rfl)) (by rfl)))))))) (by intro _;rfl))
 (zad (zdf (zbt (zim (K:=K) rfl hr.units) (zak zbw (zak zcm (bv 1) zae) zae) zae (zet _)) (zad (bpsQ (i:=10) zbz (zdq (bpaC zff (bpaC zff (bpaC zff (bpaC zff (bpaC zff (bpaC zff zac))))))))
 (zad (bpsQ (i:=11) zbz (zak zbw (zak zcm (bv 1) zae) zae))
 (zaf (bpsQ (i:=7) zbz (zce (zmn (K:=K) rfl) (zak (zbp (K:=K) rfl) (zak (zbp (K:=K) rfl) (zce (zmn (K:=K) rfl) (bv 10) (zbu (bv 11)) zft) (zce (zmn (K:=K) rfl) (bv 10) zft (zbu (bv 11)))) (zce (zmn (K:=K) rfl) (bv 7) (zbu zae) zft)) zft (zbu (bv 0))))))) zbq)
 (zaf (zba (bv 7)))))))))))
 exact fn_d (f:=zhn) ((zat ics (zat (zrg ice) (zat ics (zat ics (zat ics (zat ics (zat (zgh ici zdp (zat ics (zig ict ics (zig ict ics ics)))) (zat (zig ict (zat ics ics) zfl) zkp))))))))) h
theorem zaij (F:Fun K "_law_web" "_law_web" zvm f fd) (T:Txt mg)  : FnOk P w K mg base CX0 1 f fd zvn (spD 2 ziq):=by
 refine F.ok zxz (λvs H Q E h=>zbs h) (λcdv A outer s H vs Q E hr h=>?_)
 apply xi
 ·refine' Bx.out (zad (bpsQ (i:=2) zes (zdq zac))
 (zad (zda qk rfl (zui (K:=K) rfl rfl T.enumerate (bpaC (bv 1) zac) (by rfl)) (zdn (K:=K) (n:=2) rfl rfl (zav (bpgQ (i:=3) zes) (zav (bpgQ (i:=4) zes) zdm (by rfl)) (by rfl)) (by rfl) (by rfl))
  (zad (bpsQ (i:=5) zes (zce (zmn (K:=K) rfl) (bv 1) zft (zbu (bv 3))))
 (zad (bpsQ (i:=6) zes (zak zcm (bpeX (zcd (K:=K) rfl) (bv 0) (bv 3)) zae))
 (zad (bpsQ (i:=7) zes (zdq zac))
 (zad (zda qk rfl (zmf rfl T.range (bpaC (bpeB (zajd rfl) T.min zarb (bpaC (zak zbw (bpeX (zcd (K:=K) rfl) (bv 0) (bv 3)) zae) (bpaC (bv 3) zac))) zac) (by rfl)) (bpgQ (i:=8) zes)
  (zad (bpsQ (i:=9) zes (zak zbw (bv 6) (bpeB (zbo (K:=K) rfl) T.len zcb (bpaC (bv 5) zac))))
 (zad (bpsQ (i:=6) zes (zak zcm (bv 6) (bpeB (zbo (K:=K) rfl) T.len zcb (bpaC (bv 5) zac))))
 (zaf (zbr (zdb (K:=K) rfl qQ qW qV zbm (bv 7) (bpaC (zdb (K:=K) rfl qQ qC8 qC7 zafh (bv 5) (bpaC (bv 9) zac) (by rfl) (by rfl) (by rfl) (zas (by rfl)) (by rfl)) zac) (by rfl) (by rfl) (by rfl) (zas (by rfl)) (by rfl)) (by rfl))))) (by intro _;rfl))
 (zaf (zbr (zdb (K:=K) rfl qQ qW qV zbm (bv 2) (bpaC (zcg (bpaC (bv 4) (bpaC (bv 7) zac))) zac) (by rfl) (by rfl) (by rfl) (zas (by rfl)) (by rfl)) (by rfl))))))) (by intro _;rfl))
 (zaf (zba (bv 2)))))
 exact fn_d (f:=zabr) ((zat ics (zat (zgh ici (zou (zca (zca zjb))) (zat ics (zat ics (zat ics (zat (zgh (zabb (zcn (zazg zazi ica) zic)) zdp (zat ics (zat ics (zabh ice)))) ics))))) zkp))) h
theorem zank (F:Fun K "_law_up" "_law_up" zzm f fd) (T:Txt mg)  : FnOk P w K mg base CX0 1 f fd zzn (spD 1 zmh):=by
 refine F.ok zacf (λvs H Q E h=>zbs h) (λcdv A outer s H vs Q E hr h=>?_)
 have hu:=zyt hr
 apply xi
 ·refine' Bx.out (zad (bpsQ (i:=1) ziu zug)
 (zad (zda qk rfl (zbc (K:=K) rfl (bv 0)) (zdn (K:=K) (n:=2) rfl rfl (zav (bpgQ (i:=2) ziu) (zav (bpgQ (i:=3) ziu) zdm (by rfl)) (by rfl)) (by rfl) (by rfl))
  (zad (bpsQ (i:=4) ziu (zdq (bpaC (bv 2) zac)))
 (zad (zda qk rfl (zbc (K:=K) rfl (bv 3)) (bpgQ (i:=5) ziu)
  (zaf (zda qk rfl (zbc (K:=K) rfl (zmg hu (bv 1) (bv 5) (λ_ _=>rfl))) (bpgQ (i:=6) ziu)
  (zaf (zdf (zbt (zoo (K:=K) rfl) (bv 6) (bv 4) (by rfl)) (zaf (zbr (zdb (K:=K) rfl qQ qW qV zbm (bv 4) (bpaC (bv 6) zac) (by rfl) (by rfl) (by rfl) (zas (by rfl)) (by rfl)) (by rfl))) zbq)) (by intro _;rfl))) (by intro _;rfl))
 (zaf (zafz hu (bv 1) (bv 2) (bv 4) rfl)))) (by intro _;rfl))
 (zaf (zba (bv 1)))))
 exact fn_d (f:=zagi) ((zat ics (zat (zgh ici (zou (zca (zca zjb))) (zat ics (zat ics (zash ice ice)))) zkp))) h
theorem zact (F:Fun K "_law_parts" "_law_parts" zoc f fd) (T:Txt mg)  : FnOk P w K mg base CX0 1 f fd zod (spD 1 zaw):=by
 refine F.ok zrw (λvs H Q E h=>zbs h) (λcdv A outer s H vs Q E hr h=>?_)
 apply xi
 ·refine' Bx.out (zad (zdf (zcl (K:=K) rfl (bpeB (ztp (K:=K) rfl) T.isinstance zcu (bpaC (bv 0) (bpaC (ztb (v:=.ty "tuple") (by rfl) T.tuple zcc rfl (by decide) (by decide)) zac))) (λ_=>rfl)) (zaf (zba (bpeT (zhd (K:=K) rfl) T.list zis (bpaC (bv 0) zac)))) zbq)
 (zaf (zba (zdq (bpaC (bv 0) zac)))))
 exact fn_d (f:=zql) ((zat (zig (zko (zaks ice zty)) ics zfl) ics)) h
theorem zaik (F:Fun K "_law_arm" "_law_arm" zvp f fd) (T:Txt mg)  : FnOk P w K mg base CX0 1 f fd zvq (spD 2 zdi):=by
 refine F.ok zya (λvs H Q E h=>zbs h) (λcdv A outer s H vs Q E hr h=>?_)
 apply xi
 ·refine' Bx.out (zad (bpsQ (i:=2) zhf (bpeT (zhd (K:=K) rfl) T.list zis (bpaC (bv 1) zac)))
 (zad (bpsQ (i:=3) zhf (zak zcm (bv 0) (bpeB (zbo (K:=K) rfl) T.len zcb (bpaC (bv 1) zac))))
 (zad (bpsQ (i:=4) zhf (zdq zac))
 (zad (zda qk rfl (zmf rfl T.range (bpaC (zak (zbp (K:=K) rfl) zae (zak zbw (bv 0) (bpeB (zbo (K:=K) rfl) T.len zcb (bpaC (bv 1) zac)))) zac) (by rfl)) (bpgQ (i:=5) zhf)
  (zad (bpsQ (i:=6) zhf (zak zbw (bv 3) (bpeB (zbo (K:=K) rfl) T.len zcb (bpaC (bv 2) zac))))
 (zad (bpsQ (i:=3) zhf (zak zcm (bv 3) (bpeB (zbo (K:=K) rfl) T.len zcb (bpaC (bv 2) zac))))
 (zaf (zbr (zdb (K:=K) rfl qQ qW qV zbm (bv 4) (bpaC (zdb (K:=K) rfl qQ qC8 qC7 zafh (bv 2) (bpaC (bv 6) zac) (by rfl) (by rfl) (by rfl) (zas (by rfl)) (by rfl)) zac) (by rfl) (by rfl) (by rfl) (zas (by rfl)) (by rfl)) (by rfl))))) (by intro _;rfl))
 (zaf (zba (bpeT (zcq (K:=K) rfl) T.tuple zcc (bpaC (bv 4) zac))))))))
 exact fn_d (f:=zph) ((zat ics (zat ics (zat ics (zat (zgh ici zdp (zat ics (zat ics (zabh ice)))) ics))))) h
theorem zaeo (F:Fun K "_law_call" "_law_call" zqq f fd) (T:Txt mg)  : FnOk P w K mg base CX0 1 f fd zqr (spD 3 zfn):=by
 refine F.ok zvr (λvs H Q E h=>zbs h) (λcdv A outer s H vs Q E hr h=>?_)
 apply xi
 ·refine' Bx.out (zad (bpsQ (i:=3) zeb (zdq zac))
 (zad (bpsQ (i:=4) zeb (bv 0))
 (zad (bpsQ (i:=5) zeb (bpeB (zbo (K:=K) rfl) T.len zcb (bpaC (bv 1) zac)))
 (zad (zda qk rfl (zmf rfl T.range (bpaC (bv 2) zac) (by rfl)) (bpgQ (i:=6) zeb)
  (zad (bpsS (i:=7) zeb rfl (Or.inr rfl) (zak zbw (bv 4) (bv 5)))
 (zad (bpsQ (i:=4) zeb (zak zcm (bv 4) (bv 5)))
 (zad (zdf (zbt (zim (K:=K) rfl hr.units) (zak zbw (bv 4) zae) zae (zet _)) (zaf (zbr (zdb (K:=K) rfl qQ qW qV zbm (bv 3) (bpaC (zcg (bpaC (bpeX (zcd (K:=K) rfl) (bv 1) (zak ztg (zak ztg (bv 5) zae) (bv 7))) zac)) zac) (by rfl) (by rfl) (by rfl) (zas (by rfl)) (by rfl)) (by rfl))) (zaf (zdf (zavm (zbt (zim (K:=K) rfl hr.units) (zak zbw (bv 4) zae) zae (zet _)) (zaqg (zbt zaxx (bv 5) zae (zet _)))).pt (zad (bpsS (i:=8) zeb rfl (Or.inr rfl) (zak zbw (zak (zbp (K:=K) rfl) (zak (zbp (K:=K) rfl) (bv 7) zae) (zak zbw (zak zcm (bv 4) zae) (zak ztg (bv 5) zae))) (bv 5)))
 (zad (zox (i:=9) (zbn (N':=["_law_name","_law_names_here","_law_at","_law_by"]) (own:=["_law_name"]) (fr:=[1,7,8]) (by kernel_rfl)) rfl (zbc (K:=K) rfl (zce (zmn (K:=K) rfl) (bv 1) (zbu (zak ztg (bv 5) (zak zbw (bv 4) zae))) zft)) ?hb1 (by rfl) zeb rfl rfl (by intro _;rfl))
 (zaf (zbr (zdb (K:=K) rfl qQ qW qV zbm (bv 3) (bpaC (bpeT (zcq (K:=K) rfl) T.tuple zcc (bpaC (zak (zbp (K:=K) rfl) (zdq (bpaC (bpeX (zcd (K:=K) rfl) (bv 1) (bv 7)) (bpaC (bpeX (zcd (K:=K) rfl) (bv 1) (bv 8)) zac))) (bv 9)) zac)) zac) (by rfl) (by rfl) (by rfl) (zas (by rfl)) (by rfl)) (by rfl))))) (zaf (zbr (zdb (K:=K) rfl qQ qW qV zbm (bv 3) (bpaC (bpeX (zcd (K:=K) rfl) (bv 1) (zak ztg (zak ztg (bv 5) zae) (bv 7))) zac) (by rfl) (by rfl) (by rfl) (zas (by rfl)) (by rfl)) (by rfl))))))
 (zaf (bpsQ (i:=4) zeb (zak zcm (bv 4) (zak zif zae (bv 5)))))))) (by intro _;rfl))
 (zaf (zba (bpeT (zcq (K:=K) rfl) T.tuple zcc (bpaC (bv 3) zac))))))))
  case hb1=>(intro cl C s H fp;refine'⟨Bx.out (bpgQ (i:=0) zwt),Bx.out (zuh (zbt (zoo (K:=K) rfl) (bv 0) (zcg (bpaC (bpeX (zcd (K:=K) rfl) (bv 1) (bv 2)) (bpaC (bpeX (zcd (K:=K) rfl) (bv 1) (bv 3)) zac))) (by rfl))),Bx.out (bv 0)⟩)
 exact fn_d (f:=zxr) ((zat ics (zat ics (zat ics (zat (zgh ici zdp (zat ics (zat ics (zat (zig ict ics (zig ict (zat ics (zat ics ics)) ics)) ics)))) ics))))) h
theorem zacu(F:Fun K "_law_rules" "_law_rules" zoe f fd)(T:Txt mg)(D_law_parts:zhy P w K mg base):FnOk P w K mg base CX0 2 f fd zof (spD 5 zgc):=by
 refine F.ok zrx (λvs H Q E h=>zbs h) (λcdv A outer s H vs Q E hr h=>?_)
 have hu:=zyt hr
 apply xi
 ·refine' Bx.out (zad (bpsQ (i:=5) zdk (zdq zac))
 (zad (zda qk rfl (zui (K:=K) rfl rfl T.enumerate (bpaC (bv 4) zac) (by rfl)) (zdn (K:=K) (n:=2) rfl rfl (zav (bpgQ (i:=6) zdk) (zav (bpgQ (i:=7) zdk) zdm (by rfl)) (by rfl)) (by rfl) (by rfl))
  (zad (bpsQ (i:=8) zdk (zak zcm (bpeX (zcd (K:=K) rfl) (bv 0) (bv 6)) zae))
 (zad (bpsQ (i:=9) zdk (zdq zac))
 (zad (zda qk rfl (zbc (K:=K) rfl (bv 3)) (bpgN (i:=10) zdk rfl (Or.inr rfl))
  (zad (bpsQ (i:=11) zdk (bv 1))
 (zad (zdf (zbt zaxx (zak zbw (bpeX (zcd (K:=K) rfl) (bv 0) (bv 6)) zae) zae (zet _)) (zaf (zox (i:=11) (zbn (N':=["_law_name","_law_up_here","_law_arm_here"]) (own:=["_law_name"]) (fr:=[2,10]) (by kernel_rfl)) rfl (zbc (K:=K) rfl (bv 1)) ?hb1 (by rfl) zdk rfl rfl (by intro _;rfl))) zbq)
 (zad (zbr (zdb (K:=K) rfl qQ qW qV zbm (bv 9) (bpaC (bpeX (zcd (K:=K) rfl) (bv 11) (zak zbw (bv 8) (bpeB (zbo (K:=K) rfl) T.len zcb (bpaC (bv 11) zac)))) zac) (by rfl) (by rfl) (by rfl) (zas (by rfl)) (by rfl)) (by rfl))
 (zaf (bpsQ (i:=8) zdk (zak zcm (bv 8) (bpeB (zbo (K:=K) rfl) T.len zcb (bpaC (bv 11) zac)))))))) (by intro _;rfl))
 (zaf (zdf (zbt (zalm (K:=K) rfl hr.units) (bpeT (zcq (K:=K) rfl) T.tuple zcc (bpaC (bv 9) zac)) (zdg (zbn (N':=["_law_one","_law_row"]) (own:=["_law_one","_law_row"]) (fr:=[]) (by kernel_rfl)) rfl (zbc (K:=K) rfl (bv 5)) ?hb3 (by intro _;rfl)) (by rfl)) (zaf (zbr (zdb (K:=K) rfl qQ qW qV zbm (bv 5) (bpaC (zcg (bpaC (bv 7) (bpaC (bpeT (zcq (K:=K) rfl) T.tuple zcc (bpaC (bv 9) zac)) zac))) zac) (by rfl) (by rfl) (by rfl) (zas (by rfl)) (by rfl)) (by rfl))) zbq))))) (by intro _;rfl))
 (zaf (zba (bv 5)))))
  case hb1=>(intro cl C s H fp;refine'⟨Bx.out (bpgN (i:=0) zwa rfl (Or.inr rfl)),Bx.out (zuh (zcl (K:=K) rfl (bpeB (zop (K:=K) rfl rfl) T.any ztd (bpaC (zdg (zbn (N':=["_law_one","_law_name","_law_up_here"]) (own:=["_law_one"]) (fr:=[0,1]) (by kernel_rfl)) rfl (zbc (K:=K) rfl (bpeD D_law_parts hr (bpaC (bv 2) zac))) ?hb2 (by intro _;rfl)) zac)) (λ_=>rfl))),Bx.out (bv 0)⟩;case hb2=>(intro cl C s H fp;refine'⟨Bx.out (bpgQ (i:=0) zwb),Bx.out zex,Bx.out (zme (zakd (K:=K) rfl) (bv 1) (zmg hu (bv 2) (bv 0) (λ_ _=>rfl)) (by rfl))⟩))
  case hb3=>(intro cl C s H fp;refine'⟨Bx.out (zdn (K:=K) (n:=2) rfl rfl (zav (bpgQ (i:=0) zlr) (zav (bpgQ (i:=1) zlr) zdm (by rfl)) (by rfl)) (by rfl) (by rfl)),Bx.out zex,Bx.out (bv 1)⟩)
 exact fn_d (f:=zuy) ((zat ics (zat (zgh ici (zou (zca (zca zjb))) (zat ics (zat ics (zat (zgh ici zdp (zat ics (zat (zig ict (zrg (zqi ici zdp (zud (by decide)) (zko ice) ice)) zfl) ics))) (zig (st_t (zadv zazx ice ice)) ics zfl))))) zkp))) h
theorem zaep(F:Fun K "_law_fits" "_law_fits" zqs f fd)(T:Txt mg)(D_law_parts:zhy P w K mg base):FnOk P w K mg base CX0 2 f fd zqt (spD 3 zee):=by
 refine F.ok zvt (λvs H Q E h=>zbs h) (λcdv A outer s H vs Q E hr h=>?_)
 have hu:=zyt hr
 apply xi
 ·refine' Bx.out (zad (zda qk rfl (zui (K:=K) rfl rfl T.enumerate (bpaC (bv 1) zac) (by rfl)) (zdn (K:=K) (n:=2) rfl rfl (zav (bpgQ (i:=3) zvu) (zav (bpgN (i:=4) zvu rfl (Or.inr rfl)) zdm (by rfl)) (by rfl)) (by rfl) (by rfl))
  (zaf (zdf (zks (zcl (K:=K) rfl (bpeB (zop (K:=K) rfl rfl) T.any ztd (bpaC (zdg (zbn (N':=["_law_name","_law_up_here","_law_kind"]) (own:=["_law_name"]) (fr:=[0,4]) (by kernel_rfl)) rfl (zbc (K:=K) rfl (bpeD D_law_parts hr (bpaC (bpeX (zcd (K:=K) rfl) (bv 2) (bv 3)) zac))) ?hb1 (by intro _;rfl)) zac)) (λ_=>rfl))) (zaf (zba zgw)) zbq)) (by intro _;rfl))
 (zaf (zba zgw)))
  case hb1=>(intro cl C s H fp;refine'⟨Bx.out (bpgQ (i:=0) zwu),Bx.out zex,Bx.out (zme (zakd (K:=K) rfl) (bv 2) (zmg hu (bv 1) (bv 0) (λ_ _=>rfl)) (by rfl))⟩)
 exact fn_d (f:=zxs) ((zat (zgh ici (zou (zca (zca zjb))) (zig (zxh (zko ice)) ics zfl)) ics)) h
theorem zail(F:Fun K "_law_due" "_law_due" zvv f fd)(T:Txt mg)(D_law_fits:zyh P w K mg base):FnOk P w K mg base CX0 3 f fd zvw (spD 3 zdz):=by
 refine F.ok zyd (λvs H Q E h=>zbs h) (λcdv A outer s H vs Q E hr h=>?_)
 apply xi
 ·refine' Bx.out (zad (zox (i:=3) (zbn (N':=["_law_rule","_law_up_here","_law_call_here"]) (own:=["_law_rule"]) (fr:=[0,2]) (by kernel_rfl)) rfl (zbc (K:=K) rfl (bv 1)) ?hb1 (by rfl) zml rfl rfl (by intro _;rfl))
 (zad (bpsQ (i:=4) zml (zdq zac))
 (zad (zda qk rfl (zbc (K:=K) rfl (bv 3)) (zdn (K:=K) (n:=2) rfl rfl (zav (bpgQ (i:=5) zml) (zav (bpgN (i:=6) zml rfl (Or.inr rfl)) zdm (by rfl)) (by rfl)) (by rfl) (by rfl))
  (zaf (zdf (zks (zcl (K:=K) rfl (bpeB (zop (K:=K) rfl rfl) T.any ztd (bpaC (zdg (zbn (N':=["_law_one","_law_other","_law_up_here","_law_kinds"]) (own:=["_law_one","_law_other"]) (fr:=[0,6]) (by kernel_rfl)) rfl (zbc (K:=K) rfl (bv 3)) ?hb2 (by intro _;rfl)) zac)) (λ_=>rfl))) (zaf (zbr (zdb (K:=K) rfl qQ qW qV zbm (bv 4) (bpaC (bv 5) zac) (by rfl) (by rfl) (by rfl) (zas (by rfl)) (by rfl)) (by rfl))) zbq)) (by intro _;rfl))
 (zad (zdf (zbt (zim (K:=K) rfl hr.units) (bpeB (zbo (K:=K) rfl) T.len zcb (bpaC (bv 4) zac)) zae (zet _)) (zaf (zba (zcg (bpaC zff zac)))) zbq)
 (zad (zdf (zbt (zim (K:=K) rfl hr.units) (bpeB (zbo (K:=K) rfl) T.len zcb (bpaC (bv 4) zac)) zae (zet _)) (zaf (zba (zcg (bpaC zff (bpaC (bpeX (zcd (K:=K) rfl) (bv 4) zae) zac))))) zbq)
 (zaf (zba (zcg (bpaC zff (bpaC (bpeT (zcq (K:=K) rfl) T.tuple zcc (bpaC (bv 4) zac)) zac))))))))))
  case hb1=>(intro cl C s H fp;refine'⟨Bx.out (bpgQ (i:=0) zzr),Bx.out (zuh (zcl (K:=K) rfl (bpeD D_law_fits hr (bpaC (bv 1) (bpaC (bpeX (zcd (K:=K) rfl) (bv 0) zae) (bpaC (bv 2) zac)))) (λ_=>rfl))),Bx.out (bv 0)⟩)
  case hb2=>(intro cl C s H fp;refine'⟨Bx.out (zdn (K:=K) (n:=2) rfl rfl (zav (bpgQ (i:=0) zpu) (zav (bpgQ (i:=1) zpu) zdm (by rfl)) (by rfl)) (by rfl) (by rfl)),Bx.out zex,Bx.out (zaef (zme (zxk (K:=K) rfl hr.units) (bv 1) (bv 3) (zet _)) (zaee (bpeD D_law_fits hr (bpaC (bv 2) (bpaC (bv 3) (bpaC (bv 1) zac))))))⟩)
 exact fn_d (f:=zpi) ((zat (zrg (zqi ici zdp (zud (by decide)) (zko ice) ice)) (zat ics (zat (zgh ici (zou (zca (zca zjb))) (zig (zxh (zko ice)) ics zfl)) (zat ics ics))))) h
theorem zwh(F:Fun K "_law_answered" "_law_answered" zih f fd)(T:Txt mg)(D_law_due:zaco P w K mg base)(D_answer_of:zwd P w K mg base):FnOk P w K mg base CX0 7 f fd zii (spD 3 zbl):=by
 refine F.ok zlj (λvs H Q E h=>zbs h) (λcdv A outer s H vs Q E hr h=>?_)
 apply xi
 ·refine' Bx.out (zad (zda qk rfl (zbc (K:=K) rfl (bv 2)) (bpgQ (i:=3) zfw)
  (zaf (zda qk rfl (zbc (K:=K) rfl (zak (zbp (K:=K) rfl) (bv 0) (bv 0))) (bpgQ (i:=4) zfw)
  (zad (bpsQ (i:=5) zfw (bpeD D_law_due hr (bpaC (bv 1) (bpaC (bpeX (zcd (K:=K) rfl) (bv 4) zae) (bpaC (bv 3) zac)))))
 (zad (bpsQ (i:=6) zfw (bpeD D_answer_of hr (bpaC (bv 4) (bpaC (bv 3) zac))))
 (zaf (zdf (zbaa (zks (zcl (K:=K) rfl (bpeB (ztp (K:=K) rfl) T.isinstance zcu (bpaC (bv 6) (bpaC (ztb (v:=.ty "tuple") (by rfl) T.tuple zcc rfl (by decide) (by decide)) zac))) (λ_=>rfl))) (zavl (zbt (zxk (K:=K) rfl hr.units) (bv 6) (bv 5) (zet _)))).pt (zaf (zba zgw)) zbq)))) (by intro _;rfl))) (by intro _;rfl))
 (zaf (zba zgw)))
 exact fn_d (f:=zmw) ((zat (zgh ici zdp (zgh ici zdp (zat ics (zat ics (zig (zbcc (zxh (zko (zaks ice zty))) ict) ics zfl))))) ics)) h
theorem zaeq(F:Fun K "_law_told" "_law_told" zqu f fd)(T:Txt mg)(XK:XKit P w K mg base cl ["NoCall","NoKind"] ["NoBook","NoCall","NoFit","NoKind","NoRule"] "CallError"):ToldOk P w K mg base 9 8 f fd "_law_ask" (tolD cl zbb):=by
 refine zavd F zvx (λcdv A outer s H g R Q hr h0k hg hn ha ht=>?_)
 apply xi
 ·refine' Bx.out (zad (bpsQ (i:=2) zjl (zcg (bpaC zff zac)))
 (zad (zaqn (i:=0) (j:=1) ha XK rfl (hr.mono (by decide)) hg hn rfl rfl zjl rfl rfl rfl rfl (by rfl) (λ_ _ _ hxm hxcl=>(zad (bpsQ (i:=3) zjl (bpeB (zpb (K:=K) rfl hxm hxcl) T.isinstance zcu (bpaC (bv 1) (bpaC (zcg (bpaC (zpa (by rfl) (XK.mgk "NoBook" (by decide)) (by decide)) (bpaC (zpa (by rfl) (XK.mgk "NoFit" (by decide)) (by decide)) (bpaC (zpa (by rfl) (XK.mgk "NoRule" (by decide)) (by decide)) zac)))) zac)))) (zaf (bpsQ (i:=2) zjl (zcg (bpaC (bpeB (zpb (K:=K) rfl hxm hxcl) T.isinstance zcu (bpaC (bv 1) (bpaC (zpa (by rfl) (XK.mgk "NoCall" (by decide)) (by decide)) zac))) (bpaC (bpeB (zpb (K:=K) rfl hxm hxcl) T.isinstance zcu (bpaC (bv 1) (bpaC (zpa (by rfl) (XK.mgk "NoKind" (by decide)) (by decide)) zac))) (bpaC (bpeB (zpb (K:=K) rfl hxm hxcl) T.isinstance zcu (bpaC (bv 1) (bpaC (ztb (v:=.ty "ValueError") (by rfl) XK.mgV zkm rfl (by decide) (by decide)) zac))) (bpaC (bv 3) (bpaC (zaqi (K:=K) rfl hxm (bv 1) (by rfl)) zac)))))))))) (by decide) (by decide) (by decide) (by rfl))
 (zaf (zba (bv 2)))))
 exact(zbak (cl:=cl) (by decide) (by decide) (by decide) (zafo (zcn (se_c λ_=>zhg) zic)) (by intro xc hxc xd;exact(zavr (zaly (i:=3) (j:=1) (zaqk (zavt (XK.kit xc hxc "NoBook" (by decide)) (XK.kit xc hxc "NoFit" (by decide)) (XK.kit xc hxc "NoRule" (by decide)))) (by decide)) (zaly (i:=2) (j:=1) (zavq (zoz (zalx (XK.kit xc hxc "NoCall" (by decide))) (zoz (zalx (XK.kit xc hxc "NoKind" (by decide))) (zoz (zavo (XK.val xc hxc)) (zoz (zbad (zhh 3)) (zoz zbaf zavp)))))) (by decide))))) ht
theorem zrb(F:Fun K "check_kinds" "check_kinds" zju f fd)(T:Txt mg)(D_names_of:zqx P w K mg base)(X_NoKind:XcOk P w K mg base "NoKind" (cl "NoKind")):FnOk P w K mg base (CXE P w) 3 f fd zgv (spX cl 2 zfc):=by
 refine zrf F ziw (λvs H Q E h=>zkq h) (λcdv A outer s H vs Q E hr h0k h=>?_)
 apply xi
 ·refine' Bx.out (zad (bpsQ (i:=2) zix (bpeD D_names_of hr (bpaC (bv 0) zac)))
 (zaf (zda PassesOwn.leaving rfl (zbc (K:=K) rfl (bv 1)) (bpgQ (i:=3) zix)
  (zaf (zdf (zbt (zoo (K:=K) rfl) (bv 3) (bv 2) (by rfl)) (zaf (zabm (C:=cl "NoKind") X_NoKind (hr.mono (by decide)) rfl rfl (zass h0k) (by rfl) (bv 3) (by decide) (by rfl))) zbq)) (by intro _;rfl))))
 exact fn_x (f:=zfb) ((zno (zrh ics) (zava ici zdp (zask ict (zabd ice) (zrh zfl))))) h
theorem zsq(F:Fun K "check_call" "check_call" zlk f fd)(T:Txt mg)(D_check_kinds__X:zkb P w K mg base cl)(D_names_in_call:zhx P w K mg base)(X_NoCall:XcOk P w K mg base "NoCall" (cl "NoCall")):FnOk P w K mg base (CXE P w) 4 f fd zht (spX cl 3 zhc):=by
 refine zrf F zjw (λvs H Q E h=>zkq h) (λcdv A outer s H vs Q E hr h0k h=>?_)
 apply xi
 ·refine' Bx.out (zad (zdf (zbt (zxk (K:=K) rfl hr.units) (bpeB (zbo (K:=K) rfl) T.len zcb (bpaC (bv 2) zac)) (bv 1) (zet _)) (zaf (zabm (C:=cl "NoCall") X_NoCall (hr.mono (by decide)) rfl rfl (zass h0k) (by rfl) zaeg (by decide) (by rfl))) zbq)
 (zaf (zbr (zgs D_check_kinds__X (znj h0k) (hr.mono (by decide)) (by rfl) (bpaC (bv 0) (bpaC (bpeD D_names_in_call hr (bpaC (bv 2) zac)) zac)) (by decide) (zas (by rfl)) (by rfl)) (by rfl))))
 exact fn_x (f:=zpg) ((zno (zask ict (zabd ice) (zrh zfl)) (zaft ica))) h
theorem zmr(F:Fun K "rules_that_fit" "rules_that_fit" zhu f fd)(T:Txt mg)(D_check_call__X:zlu P w K mg base cl):FnOk P w K mg base (CXE P w) 5 f fd zfi (spX cl 2 zbj):=by
 refine zrf F zgy (λvs H Q E h=>zkq h) (λcdv A outer s H vs Q E hr h0k h=>?_)
 apply xi
 ·refine' Bx.out (zad (zalq (bv 0) (zdn (K:=K) (n:=3) rfl rfl (zav (bpgQ (i:=2) zey) (zav (bpgQ (i:=3) zey) (zav (bpgQ (i:=4) zey) zdm (by rfl)) (by rfl)) (by rfl)) (by rfl) (by rfl)) (by rfl) (by rfl) (by rfl))
 (zad (zbr (zgs D_check_call__X (znj h0k) (hr.mono (by decide)) (by rfl) (bpaC (bv 2) (bpaC (bv 3) (bpaC (bv 1) zac))) (by decide) (zas (by rfl)) (by rfl)) (by rfl))
 ztc))
 exact fn_x (f:=zgx) ((zno (zrh (zasg ice (zou (zca (zca (zca zjb)))))) (zno (zaft ica) (zrh zagf)))) h
theorem zzw(F:Fun K "nearest" "nearest" zsb f fd)(T:Txt mg)(D_rules_that_fit__X:zcv P w K mg base cl):FnOk P w K mg base (CXE P w) 6 f fd zlo (spX cl 2 zdj):=by
 refine zrf F zpt (λvs H Q E h=>zkq h) (λcdv A outer s H vs Q E hr h0k h=>?_)
 apply xi
 ·refine' Bx.out (zad (bpsQ (i:=2) zzo (zgs D_rules_that_fit__X (znj h0k) (hr.mono (by decide)) (by rfl) (bpaC (bv 0) (bpaC (bv 1) zac)) (by decide) (zas (by rfl)) (by rfl)))
 ztc)
 exact fn_x (f:=zpj) ((zno (zzf ica) (zrh zagf))) h
theorem zwi(F:Fun K "answer_of" "answer_of" znc f fd)(T:Txt mg)(D_answer_by:zoj P w K mg base)(D_nearest__X:zlv P w K mg base cl):FnOk P w K mg base (CXE P w) 7 f fd zij (spX cl 2 zcs):=by
 refine zrf F zlp (λvs H Q E h=>zkq h) (λcdv A outer s H vs Q E hr h0k h=>?_)
 apply xi
 ·refine' Bx.out (zaf (zba (bpeD D_answer_by hr (bpaC (zgs D_nearest__X (znj h0k) (hr.mono (by decide)) (by rfl) (bpaC (bv 0) (bpaC (bv 1) zac)) (by decide) (zas (by rfl)) (by rfl)) zac))))
 exact fn_x (f:=zky) ((zagh ica)) h
theorem zzx(F:Fun K "fitting" "fitting" zlm f fd)(T:Txt mg)(D_rule_names:zlt P w K mg base)(D_rules_that_fit__X:zcv P w K mg base cl):FnOk P w K mg base (CXE P w) 6 f fd zln (spX cl 2 zea):=by
 refine zrf F zps (λvs H Q E h=>zkq h) (λcdv A outer s H vs Q E hr h0k h=>?_)
 apply xi
 ·refine' Bx.out (zaf (zba (bpeD D_rule_names hr (bpaC (zgs D_rules_that_fit__X (znj h0k) (hr.mono (by decide)) (by rfl) (bpaC (bv 0) (bpaC (bv 1) zac)) (by decide) (zas (by rfl)) (by rfl)) zac))))
 exact fn_x (f:=zpk) ((zagh ica)) h
theorem zanl(F:Fun K "why" "why" zzp f fd)(T:Txt mg)(D_rules_that_fit__X:zcv P w K mg base cl):FnOk P w K mg base (CXE P w) 6 f fd zzq (spX cl 2 zho):=by
 refine zrf F zaci (λvs H Q E h=>zkq h) (λcdv A outer s H vs Q E hr h0k h=>?_)
 apply xi
 ·refine' Bx.out (zad (bpsQ (i:=2) zanh (zgs D_rules_that_fit__X (znj h0k) (hr.mono (by decide)) (by rfl) (bpaC (bv 0) (bpaC (bv 1) zac)) (by decide) (zas (by rfl)) (by rfl)))
 ztc)
 exact fn_x (f:=zacb) ((zno (zzf ica) (zrh zagf))) h
theorem zaer(F:Fun K "shows" "shows" zqv f fd)(T:Txt mg)(D_rules_that_fit__X:zcv P w K mg base cl):FnOk P w K mg base (CXE P w) 6 f fd zqw (spX cl 4 zfh):=by
 refine zrf F zvz (λvs H Q E h=>zkq h) (λcdv A outer s H vs Q E hr h0k h=>?_)
 apply xi
 ·refine' Bx.out (zad (bpsS (i:=4) zaek rfl (Or.inr rfl) (zgs D_rules_that_fit__X (znj h0k) (hr.mono (by decide)) (by rfl) (bpaC (bv 0) (bpaC (bv 1) zac)) (by decide) (zas (by rfl)) (by rfl)))
 ztc)
 exact fn_x (f:=zuz) ((zno (zzf ica) (zrh zagf))) h
def zkc(cl:Str->Addr):LamI:=mkL zax 0 ["_law_book","_law_call_here"] [0,1] (λH E=>tCall (spX cl 2 zcs) [] (StX H E) (tCons (tVar 0) (tCons (tVar 1) tNil)))
theorem zsr:LamScope ["_law_book","_law_call_here"] (zabq (zabp zax 0)).2.2:=⟨rfl,rfl,rfl,by decide +kernel,by decide +kernel⟩
def zkd(cl:Str->Addr):LamI:=mkL zax 1 ["_law_book","_law_call_here"] [0,1] (λH E=>tCall (spX cl 2 zea) [] (StX H E) (tCons (tVar 0) (tCons (tVar 1) tNil)))
theorem zss:LamScope ["_law_book","_law_call_here"] (zabq (zabp zax 1)).2.2:=⟨rfl,rfl,rfl,by decide +kernel,by decide +kernel⟩
def zke(cl:Str->Addr):LamI:=mkL zax 2 ["_law_book","_law_call_here"] [0,1] (λH E=>tCall (spX cl 2 zdj) [] (StX H E) (tCons (tVar 0) (tCons (tVar 1) tNil)))
theorem zst:LamScope ["_law_book","_law_call_here"] (zabq (zabp zax 2)).2.2:=⟨rfl,rfl,rfl,by decide +kernel,by decide +kernel⟩
def zkf(cl:Str->Addr):LamI:=mkL zax 3 ["_law_book","_law_call_here"] [0,1] (λH E=>tCall (spX cl 2 zho) [] (StX H E) (tCons (tVar 0) (tCons (tVar 1) tNil)))
theorem zsu:LamScope ["_law_book","_law_call_here"] (zabq (zabp zax 3)).2.2:=⟨rfl,rfl,rfl,by decide +kernel,by decide +kernel⟩
def zkg(cl:Str->Addr):LamI:=mkL zax 4 ["_law_book","_law_call_here"] [0,1] (λH E=>tCall (spX cl 4 zfh) [] (StX H E) (tCons (tVar 0) (tCons (tVar 1) (tCons (tTup (tCons (tC (.str "none")) tNil)) (tCons (tLst tNil) tNil)))))
theorem zsv:LamScope ["_law_book","_law_call_here"] (zabq (zabp zax 4)).2.2:=⟨rfl,rfl,rfl,by decide +kernel,by decide +kernel⟩
theorem zwj:(["_law_ask","_law_due_here"]:List Str).Nodup:=by decide +kernel
theorem zww{f cT PT:Addr}{fd:qAb}{cl:Str->Addr}(F:Fun K "_law_refused" "_law_refused" zax f fd)(T:Txt mg)(D_law_told:zyi P w K mg base cl)(D_answer_of__X:zng P w K mg base cl)(D_fitting__X:zsg P w K mg base cl)(D_nearest__X:zlv P w K mg base cl)(D_shows__X:zyj P w K mg base cl)(D_why__X:zagv P w K mg base cl)(hcd:fd.code=.ref cT)(HC:CodeHd base cT PT)(hbm:BM mg base):FnOk P w K mg base CX0 10 f fd zjm (spDT PT (("_law_refused":Str)++".<locals>."++"<lambda>") 3 zbh):=by
 refine zbal F zna (λvs H Q E h=>zaqo h) hcd (λA outer s H vs Q E hr h=>?_)
 have hu:=zyt hr
 have o0:LamOk (cxOf CX0 P w K mg base zci "_law_refused" (zah zax) f (.ref cT) A outer s H E).nox 7 (zkc cl):=⟨zsr,rfl,(by intros;rfl),(by rfl),(by rfl),λ_ _ _ _ _ _ _ _ hr h0k=>zgs D_answer_of__X (zuc h0k) (hr.mono (by decide)) (by rfl) (zde (bv 0) (zde (bv 1) zac (by rfl)) (by rfl)) (by decide) (zas (by rfl)) (by rfl)⟩
 have o1:LamOk (cxOf CX0 P w K mg base zci "_law_refused" (zah zax) f (.ref cT) A outer s H E).nox 7 (zkd cl):=⟨zss,rfl,(by intros;rfl),(by rfl),(by rfl),λ_ _ _ _ _ _ _ _ hr h0k=>zgs D_fitting__X (zuc h0k) (hr.mono (by decide)) (by rfl) (zde (bv 0) (zde (bv 1) zac (by rfl)) (by rfl)) (by decide) (zas (by rfl)) (by rfl)⟩
 have o2:LamOk (cxOf CX0 P w K mg base zci "_law_refused" (zah zax) f (.ref cT) A outer s H E).nox 7 (zke cl):=⟨zst,rfl,(by intros;rfl),(by rfl),(by rfl),λ_ _ _ _ _ _ _ _ hr h0k=>zgs D_nearest__X (zuc h0k) (hr.mono (by decide)) (by rfl) (zde (bv 0) (zde (bv 1) zac (by rfl)) (by rfl)) (by decide) (zas (by rfl)) (by rfl)⟩
 have o3:LamOk (cxOf CX0 P w K mg base zci "_law_refused" (zah zax) f (.ref cT) A outer s H E).nox 7 (zkf cl):=⟨zsu,rfl,(by intros;rfl),(by rfl),(by rfl),λ_ _ _ _ _ _ _ _ hr h0k=>zgs D_why__X (zuc h0k) (hr.mono (by decide)) (by rfl) (zde (bv 0) (zde (bv 1) zac (by rfl)) (by rfl)) (by decide) (zas (by rfl)) (by rfl)⟩
 have o4:LamOk (cxOf CX0 P w K mg base zci "_law_refused" (zah zax) f (.ref cT) A outer s H E).nox 7 (zkg cl):=⟨zsv,rfl,(by intros;rfl),(by rfl),(by rfl),λ_ _ _ _ _ _ _ _ hr h0k=>zgs D_shows__X (zuc h0k) (hr.mono (by decide)) (by rfl) (zde (bv 0) (zde (bv 1) (zde (zcg (zde zff zac (by rfl))) (zde (zdq zac) zac (by rfl)) (by rfl)) (by rfl)) (by rfl)) (by decide) (zas (by rfl)) (by rfl)⟩
 have ok:=(zku o0 (zku o1 (zku o2 (zku o3 (zku o4 zaqs)))))
 refine⟨_,?_,zawc (K:=K) (X:=(cxOf CX0 P w K mg base zci "_law_refused" (zah zax) f (.ref cT) A outer s H E).nox) (P:=PT) (x:=3) (j:=2) (y:="_law_ask") (N:=zci) (n:=3) (tol:=tolD cl zbb) (L0:=zkc cl) (Ls:=[zkd cl,zke cl,zkf cl,zkg cl]) (fs:=[(zhk [0,1] 2 zcs (zaa (eVar 0) (zaa (eVar 1) aNil)) zbb),(zhk [0,1] 2 zea (zaa (eVar 0) (zaa (eVar 1) aNil)) zbb),(zhk [0,1] 2 zdj (zaa (eVar 0) (zaa (eVar 1) aNil)) zbb),(zhk [0,1] 2 zho (zaa (eVar 0) (zaa (eVar 1) aNil)) zbb),(zhk [0,1] 4 zfh (zaa (eVar 0) (zaa (eVar 1) (zaa (eTup (zaa (eC (.str "none")) aNil)) (zaa (eLst aNil) aNil)))) zbb)]) rfl (zkt (zamj (zcn (zhh 0) (zcn (zhh 1) zic))) (zkt (zamj (zcn (zhh 0) (zcn (zhh 1) zic))) (zkt (zamj (zcn (zhh 0) (zcn (zhh 1) zic))) (zkt (zamj (zcn (zhh 0) (zcn (zhh 1) zic))) (zkt (zamj (zcn (zhh 0) (zcn (zhh 1) (zcn (zafo (zcn (se_c λ_=>zhg) zic)) (zcn (zakq zic) zic))))) zaqr))))) (by decide) (by decide) (by decide) h⟩
 refine' Bx.out (zad (bpsQ (i:=3) zws (zdq (bpaC (zuk o0 rfl HC hbm rfl) zac)))
 (zad (zbr (zdb (K:=K) rfl qQ qW qV zbm (bv 3) (bpaC (zuk o1 rfl HC hbm rfl) zac) (by rfl) (by rfl) (by rfl) (zas (by rfl)) (by rfl)) (by rfl))
 (zad (zbr (zdb (K:=K) rfl qQ qW qV zbm (bv 3) (bpaC (zuk o2 rfl HC hbm rfl) zac) (by rfl) (by rfl) (by rfl) (zas (by rfl)) (by rfl)) (by rfl))
 (zad (zbr (zdb (K:=K) rfl qQ qW qV zbm (bv 3) (bpaC (zuk o3 rfl HC hbm rfl) zac) (by rfl) (by rfl) (by rfl) (zas (by rfl)) (by rfl)) (by rfl))
 (zad (zbr (zdb (K:=K) rfl qQ qW qV zbm (bv 3) (bpaC (zuk o4 rfl HC hbm rfl) zac) (by rfl) (by rfl) (by rfl) (zas (by rfl)) (by rfl)) (by rfl))
 (zaf (zba (bpeB (zto (K:=K) rfl rfl) T.all zzl (bpaC (zami (zbn (N':=["_law_ask","_law_due_here"]) (own:=["_law_ask"]) (fr:=[2]) (by kernel_rfl)) rfl (zbc (K:=K) rfl (bv 3)) ?hb1 (by intro _;rfl)) zac)))))))))
 case hb1=>exact λpins σ cl' C s' H' fp I hf=>⟨Bx.out (bpgN (i:=0) zwj rfl (Or.inl rfl)),Bx.out zex,Bx.out (zme (zim (K:=K) rfl hr.units) (zamg D_law_told I hf (hr.mono (by decide)) (by rfl) ok rfl (by rfl) (by decide) (by decide) (by decide) (zas (by rfl)) (by rfl)) (bv 1) (zet _))⟩
theorem zacv(F:Fun K "_law_first" "_law_first" zog f fd)(T:Txt mg)(D_law_parts:zhy P w K mg base):FnOk P w K mg base CX0 2 f fd zoh (spD 2 zct):=by
 refine F.ok zry (λvs H Q E h=>zbs h) (λcdv A outer s H vs Q E hr h=>?_)
 apply xi
 ·refine' Bx.out (zad (zda qk rfl (zbc (K:=K) rfl (bv 0)) (bpgQ (i:=2) zrz)
  (zaf (zda qk rfl (zbc (K:=K) rfl (bpeD D_law_parts hr (bpaC (bv 2) zac))) (bpgQ (i:=3) zrz)
  (zaf (zdf (zbt (zakd (K:=K) rfl) (bv 3) (bv 1) (by rfl)) (zaf (zba (bv 3))) zbq)) (by intro _;rfl))) (by intro _;rfl))
 (zaf (zba zaeg)))
 exact fn_d (f:=zkz) ((zat ics ics)) h
theorem zwx(F:Fun K "_law_strange" "_law_strange" zjn f fd)(T:Txt mg)(D_law_parts:zhy P w K mg base):FnOk P w K mg base CX0 2 f fd zjo (spD 3 zeq):=by
 refine F.ok znb (λvs H Q E h=>zbs h) (λcdv A outer s H vs Q E hr h=>?_)
 apply xi
 ·refine' Bx.out (zad (bpsQ (i:=3) zgf (zak zbw (bpeX (zcd (K:=K) rfl) (bv 1) zae) (bpeB (zbo (K:=K) rfl) T.len zcb (bpaC (bv 0) zac))))
 (zad (bpsQ (i:=4) zgf (zak zbw (bpeX (zcd (K:=K) rfl) (bv 1) zae) (bpeB (zbo (K:=K) rfl) T.len zcb (bpaC (bv 0) zac))))
 (zad (bpsQ (i:=5) zgf (bpeT (zhd (K:=K) rfl) T.list zis (bpaC (bv 0) zac)))
 (zad (zoy (bv 5) (bv 3) (bpeX (zcd (K:=K) rfl) (bv 2) zae) (by intro _;rfl) (by rfl) (by rfl) (by rfl))
 (zad (zdf (zbt (zim (K:=K) rfl hr.units) (zak zbw (zak zcm (bpeX (zcd (K:=K) rfl) (bv 1) zae) zae) zae) zae (zet _)) (zad (bpsQ (i:=6) zgf (bpeD D_law_parts hr (bpaC (bpeX (zcd (K:=K) rfl) (bv 0) (bv 3)) zac)))
 (zad (zbr (zdb (K:=K) rfl qQ PySem.F.slot_list_insert PySem.F.type_list_insert zama (bv 6) (bpaC (zak zbw (zak zcm (bpeX (zcd (K:=K) rfl) (bv 1) zae) zae) (zak (zbp (K:=K) rfl) (bpeB (zbo (K:=K) rfl) T.len zcb (bpaC (bv 6) zac)) zae)) (bpaC (bpeX (zcd (K:=K) rfl) (bv 2) zae) zac)) (by rfl) (by rfl) (by rfl) (zas (by rfl)) (by rfl)) (by rfl))
 (zaf (zoy (bv 5) (bv 3) (bpeT (zcq (K:=K) rfl) T.tuple zcc (bpaC (bv 6) zac)) (by intro _;rfl) (by rfl) (by rfl) (by rfl))))) zbq)
 (zad (zdf (zbt (zxk (K:=K) rfl hr.units) (bv 4) (bv 3) (zet _)) (zaf (zoy (bv 5) (bv 4) (bpeX (zcd (K:=K) rfl) (bv 2) zae) (by intro _;rfl) (by rfl) (by rfl) (by rfl))) (zaf (zdf (zbt (zim (K:=K) rfl hr.units) (zak zbw (zak zcm (bpeX (zcd (K:=K) rfl) (bv 1) zae) zae) zae) zae (zet _)) (zaf (zoy (bv 5) (bv 4) (bpeT (zcq (K:=K) rfl) T.tuple zcc (bpaC (zak (zbp (K:=K) rfl) (bpeD D_law_parts hr (bpaC (bpeX (zcd (K:=K) rfl) (bv 5) (bv 4)) zac)) (zdq (bpaC (bpeX (zcd (K:=K) rfl) (bv 2) zae) zac))) zac)) (by intro _;rfl) (by rfl) (by rfl) (by rfl))) zbq)))
 (zaf (zba (bpeT (zcq (K:=K) rfl) T.tuple zcc (bpaC (bv 5) zac))))))))))
 exact fn_d (f:=zpl) ((zat ics (zat ics (zat ics (zat (zuf ice ice) (zat (zig ict (zat ics (zat (zbai ica) (zuf ice ice))) zfl) (zat (zig ict (zuf ice ice) (zig ict (zuf ice ice) zfl)) ics))))))) h
end
inductive Arm where
 | one (n:Str)
 | many (ns:List Str)
def Arm.parts:Arm->List Str
 | .one n=>[n]
 | .many ns=>ns
def armD:Arm->PyData
 | .one n=>.str n
 | .many ns=>.tuple (ns.map .str)
def zag(c:List Arm):PyData:=.tuple (c.map armD)
def zaq(ks:List Str):PyData:=.tuple (ks.map .str)
def zcw(r:Str×List Str):PyData:=.tuple [.str r.1,zaq r.2]
def zan(rs:List (Str×List Str)):PyData:=.list (rs.map zcw)
def zam(W:Web)(p:Nat)(rs:List (Str×List Str)):PyData:=.tuple [webD W,.int p,zan rs]
theorem zdl(a:Arm):zaw [armD a]=some (zab a.parts,true):=by
 cases a with
 | one n=>rfl
 | many ns=>rfl
theorem zlw{c:List Arm}(hc:c.length<300)(ha:∀a∈c,a.parts.length<300):zdr [zag c]=some (zab (c.flatMap Arm.parts),true):=by
 have k:zkr (gN 0) zcf (zaj (zau 1 zaw (zaa (eVar 0) aNil))) (gN 1) zcf (eVar 1) [.no,.no] (c.map armD)=some (c.flatMap λa=>a.parts.map .str):=by
  refine zuu λa hm=>⟨[.pl (armD a),.no],rfl,rfl,?_⟩
  have e:zaj (zau 1 zaw (zaa (eVar 0) aNil)) [.pl (armD a),.no]=some (a.parts.map .str,[]):=by
   unfold zaj
   rw[zbd (n:=1) (rs:=[⟨armD a,false,[]⟩]) rfl rfl (zdl a)]
   rfl
  unfold innL
  rw[e]
  show(if(a.parts.map PyData.str).length<300 then zdy (gN 1) zcf (eVar 1) [.pl (armD a),.no] (a.parts.map .str)else none)=_
  rw[if_pos (by rw[qC];exact ha a hm)]
  exact zdh λx _=>⟨[.pl (armD a),.pl (.str x)],rfl,rfl,vs x,rfl,rfl⟩
 have fl:(c.flatMap λa=>a.parts.map PyData.str)=(c.flatMap Arm.parts).map .str:=by
  rw[List.map_flatMap]
 rw[fl]at k
 exact zgj (env:=[.pl (zag c)]) rfl (zir (zara (own:=["arm","name"]) (fr:=[]) (fi:=zaj (eVar 0)) (ds:=c.map armD) (bs:=[]) rfl (by rw[qC];exact hc) k))
theorem zacw(h:WebOk W){c:List Arm}(hc:c.length<300)(ha:∀a∈c,a.parts.length<300)(hk:∀a∈c,∀n∈a.parts,n∈nm W):zie [webD W,.int c.length,zag c]=some (.none,false):=by
 have hW:W.length<=12:=h.len
 have e2:eCB lenD (zaa (eVar 2) aNil) [.pl (webD W),.pl (.int c.length),.pl (zag c)]=some (vi (c.map armD).length):=rfl
 have t:zaz (eOp neD (eCB lenD (zaa (eVar 2) aNil)) (eVar 1)) [.pl (webD W),.pl (.int c.length),.pl (zag c)]=some false:=by
  refine zeu ?_
  unfold eOp
  rw[e2]
  show((neD (.int ((c.map armD).length:Nat)) (.int (c.length:Nat))).bind λz=>some (⟨z.1,z.2,bsOf z.1 ([]++[])⟩:Val))=_
  rw[qC]
  rw[zabt];rfl
 have cn:zfv [webD W,zab (c.flatMap Arm.parts)]=some (.none,false):=zzh (by omega) λn hn=>by
  obtain⟨a,ha',hn'⟩:=qA8.mp hn
  exact hk a ha' n hn'
 exact zbcj (env:=[.pl (webD W),.pl (.int c.length),.pl (zag c)]) rfl (zai (if_f t rfl) (zamq (zbd (n:=2) (rs:=[⟨webD W,false,[]⟩,⟨zab (c.flatMap Arm.parts),true,[]⟩]) (zao rfl (zch (zbd (n:=1) (rs:=[⟨zag c,false,[]⟩]) rfl rfl (zlw hc ha)))) rfl cn)))
def upA(W:Web)(a:Arm):List Str:=a.parts.foldl (λks n=>(up W n).foldl insS ks) []
theorem zzy{a:Arm}:x∈upA W a↔∃n∈a.parts,x∈up W n:=by
 unfold upA
 have:∀(l ks:List Str),x∈l.foldl (λks n=>(up W n).foldl insS ks) ks↔x∈ks\/∃n∈l,x∈up W n:=by
  intro l
  induction l with
  | nil=>intro ks;simp
  | cons n l ih=>intro ks;rw[qBj,ih,zpc];simp[or_assoc]
 rw[this];simp
theorem zaim(h:WebOk W){a:Arm}(hk:∀n∈a.parts,n∈nm W):zkv [.dict (dS zbf (ups W)),armD a]=some (zbf (upA W a),true):=by
 have nd:∀(l ks:List Str),ks.Nodup->(∀x∈ks,x∈nm W)->(l.foldl (λks n=>(up W n).foldl insS ks) ks).Nodup/\∀x∈l.foldl (λks n=>(up W n).foldl insS ks) ks,x∈nm W:=by
  intro l
  induction l with
  | nil=>intro ks h1 h2;exact⟨h1,h2⟩
  | cons n l ih=>
   intro ks h1 h2
   refine ih _ (zzi h1) λx hx=>?_
   rcases zpc.mp hx with z|z
   ·exact h2 x z
   ·exact zagn h z
 obtain⟨env',lp,s3,rfl⟩:=zec (enc:=PyData.str) (g:=gN 3) (body:=sUpd 2 (zdd 0 (eVar 3))) (l:=a.parts) (env:=[.pl (.dict (dS zbf (ups W))),.pl (armD a),.ac (zbf []),.no])
  (λpre env=>∃s3,env=[.pl (.dict (dS zbf (ups W))),.pl (armD a),.ac (zbf (pre.foldl (λks n=>(up W n).foldl insS ks) [])),s3]) ⟨_,rfl⟩ (by
   rintro pre n post env hp ⟨s3,rfl⟩
   have hn:n∈nm W:=hk n (by rw[<- hp];simp)
   refine⟨[.pl (.dict (dS zbf (ups W))),.pl (armD a),.ac (zbf (pre.foldl (λks n=>(up W n).foldl insS ks) [])),.pl (.str n)],[.pl (.dict (dS zbf (ups W))),.pl (armD a),.ac (zbf ((pre++[n]).foldl (λks n=>(up W n).foldl insS ks) [])),.pl (.str n)],rfl,.inl ?_,_,rfl⟩
   ·have l1:=zamr h n
    obtain⟨n1,n2⟩:=nd pre [] qCM (by simp)
    have l2:=zkk _ _ n1 n2
    have l3:=ztn h
    have lz:(zia (pre.foldl (λks n=>(up W n).foldl insS ks) [])).length+(zia (up W n)).length<=100000:=by unfold zia;rw[qC,qC];omega
    simp only[sUpd,zbf,zdd,eVar,qAL,qAK,qE,keyD,zns,zmj hn,qAs]
    rw[if_pos ⟨lz,by simp⟩,znt,qB8]
    simp[frzs])
 exact zgj (env:=[.pl (.dict (dS zbf (ups W))),.pl (armD a),.no,.no]) rfl (zai rfl (zai (for_list (zbd (n:=1) (rs:=[⟨armD a,false,[]⟩]) rfl rfl (zdl a)) lp) rfl))
theorem zwk(h:WebOk W){c:List Arm}(hc:c.length<300)(hk:∀a∈c,∀n∈a.parts,n∈nm W):zen [.dict (dS zbf (ups W)),zag c]=some (.list (c.map λa=>zbf (upA W a)),true):=by
 have k:zdy (gN 0) zcf (zau 2 zkv (zaa (eVar 1) (zaa (eVar 0) aNil))) [.no,.pl (.dict (dS zbf (ups W)))] (c.map armD)=some (c.map λa=>zbf (upA W a)):=
  zdh λa hm=>⟨[.pl (armD a),.pl (.dict (dS zbf (ups W)))],rfl,rfl,_,zbd (n:=2) (rs:=[⟨.dict (dS zbf (ups W)),false,[]⟩,⟨armD a,false,[]⟩]) rfl rfl (zaim h (hk a hm)),rfl⟩
 exact zgj (env:=[.pl (.dict (dS zbf (ups W))),.pl (zag c)]) rfl (zir (zem (own:=["arm"]) (fr:=[0]) (fi:=zaj (eVar 1)) (ds:=c.map armD) (bs:=[]) rfl (by rw[qC];omega) k))
theorem zagw(f:α->PyData)(g:β->PyData)(l:List α)(r:List β):List.zipWith (λd e=>PyData.tuple [d,e]) (l.map f) (r.map g)=(l.zip r).map λz=>PyData.tuple [f z.1,g z.2]:=by
 induction l generalizing r with
 | nil=>rfl
 | cons a l ih=>cases r with
  | nil=>rfl
  | cons b r=>rw[qR,qR,List.zipWith_cons_cons,ih,qBL,qR]
def fitB(W:Web)(ks:List Str)(c:List Arm):Bool:=(ks.zip c).all λz=>decide (z.1∈upA W z.2)
theorem zacx{c:List Arm}(hc:c.length<300):zgl [zaq ks,.list (c.map λa=>zbf (upA W a))]=some (.bool (fitB W ks c),false):=by
 have it:zaed (zaa (eVar 0) (zaa (eVar 1) aNil)) [.pl (zaq ks),.pl (.list (c.map λa=>zbf (upA W a)))]=some ((ks.zip c).map λz=>PyData.tuple [.str z.1,zbf (upA W z.2)],[]):=by
  show some (List.zipWith (λd e=>PyData.tuple [d,e]) (ks.map .str) (c.map λa=>zbf (upA W a)),[]++[])=_
  rw[zagw];rfl
 have k:zdy (gT 2 (zar 0 (zar 1 zdt))) zcf (eDIn false (eVar 0) (eVar 1)) [.no,.no] ((ks.zip c).map λz=>PyData.tuple [.str z.1,zbf (upA W z.2)])=some ((ks.zip c).map λz=>.bool (decide (z.1∈upA W z.2))):=
  zdh λz _=>⟨[.pl (.str z.1),.pl (zbf (upA W z.2))],rfl,rfl,vb (decide (z.1∈upA W z.2)),zate (neg:=false) (fr:=false) (bs:=[]) rfl rfl,rfl⟩
 have lz:(ks.zip c).length<=c.length:=by rw[List.length_zip];exact Nat.min_le_right _ _
 exact zgj (env:=[.pl (zaq ks),.pl (.list (c.map λa=>zbf (upA W a)))]) rfl (zir (bs:=[]) (zbat (zem (own:=["kind","roof"]) (fr:=[]) it (by rw[qC];omega) k)))
def zlx(W:Web)(ks ls:List Str):Bool:=!(ks==ls)&&(ks.zip ls).all λz=>decide (z.2∈up W z.1)
theorem zzz:∀(a b:List Str),PyData.eqvAll (a.map .str) (b.map .str)=(a==b)
 | [],[]=>rfl
 | [],_::_=>rfl
 | _::_,[]=>rfl
 | x::a,y::b=>by
  show(qAO (.str x) (.str y)&&PyData.eqvAll (a.map .str) (b.map .str))=_
  rw[zzz a b]
  show((x==y)&&(a==b))=_
  rfl
def LowS(ks:List Str):Prop:=∀k∈ks,qAH k=true
theorem zly(h:LowS ks):qt (zaq ks)=true:=by
 obtain⟨h1,h2⟩:=zmk ks h
 unfold qt zaq
 rw[qo]
 refine⟨h1,decide_eq_true ?_⟩
 show qh (ks.map .str)+1<=64
 omega
theorem zagx(h1:LowS ks)(h2:LowS ls):neD (zaq ks) (zaq ls)=some (.bool (!(ks==ls)),false):=by
 unfold neD eqOk
 rw[zly h1,zly h2,qDE,qA2,if_pos rfl]
 show some (PyData.bool (!PyData.eqvAll (ks.map .str) (ls.map .str)),false)=_
 rw[zzz]
theorem zaes(h:WebOk W){ks ls:List Str}(h1:LowS ks)(h2:LowS ls)(hk:∀k∈ks,k∈nm W)(hl:ks.length<300):zgb [.dict (dS zbf (ups W)),zaq ks,zaq ls]=some (.bool (zlx W ks ls),false):=by
 have it:zaed (zaa (eVar 1) (zaa (eVar 2) aNil)) [.pl (.dict (dS zbf (ups W))),.pl (zaq ks),.pl (zaq ls)]=some ((ks.zip ls).map λz=>PyData.tuple [.str z.1,.str z.2],[]):=by
  show some (List.zipWith (λd e=>PyData.tuple [d,e]) (ks.map .str) (ls.map .str),[]++[])=_
  rw[zagw];rfl
 have k:zdy (gT 2 (zar 0 (zar 1 zdt))) zcf (eDIn false (eVar 1) (zdd 2 (eVar 0))) [.no,.no,.pl (.dict (dS zbf (ups W)))] ((ks.zip ls).map λz=>PyData.tuple [.str z.1,.str z.2])=some ((ks.zip ls).map λz=>.bool (decide (z.2∈up W z.1))):=
  zdh λz hz=>⟨[.pl (.str z.1),.pl (.str z.2),.pl (.dict (dS zbf (ups W)))],rfl,rfl,vb (decide (z.2∈up W z.1)),zate (neg:=false) (fr:=false) (bs:=[]) rfl (zanf (d:=zbf (up W z.1)) (.inl rfl) rfl (by rw[zns,zmj (hk z.1 (qA4 hz).1)];rfl)),rfl⟩
 have lz:(ks.zip ls).length<=ks.length:=by rw[List.length_zip];exact qBz _ _
 have e1:eOp neD (eVar 1) (eVar 2) [.pl (.dict (dS zbf (ups W))),.pl (zaq ks),.pl (zaq ls)]=some (vb (!(ks==ls))):=by
  show((neD (zaq ks) (zaq ls)).bind λz=>some (⟨z.1,z.2,bsOf z.1 ([]++[])⟩:Val))=_
  rw[zagx h1 h2];rfl
 have e2:=zbat (f:=λz:Str×Str=>decide (z.2∈up W z.1)) (zem (own:=["low","high"]) (fr:=[0]) it (by rw[qC];omega) k)
 refine zgj (env:=[.pl (.dict (dS zbf (ups W))),.pl (zaq ks),.pl (zaq ls)]) rfl (zir (bs:=[]) ?_)
 unfold eAnd
 rw[e1,qE]
 unfold zlx
 cases ks==ls with
 | true=>rfl
 | false=>exact e2
structure RulesOk(W:Web)(rs:List (Str×List Str)):Prop where
 low:∀r∈rs,LowS r.2
 kinds:∀r∈rs,∀k∈r.2,k∈nm W
 few:∀r∈rs,r.2.length<300
 len:rs.length<300
theorem RulesOk.filter{rs:List (Str×List Str)}(h:RulesOk W rs)(p:Str×List Str->Bool):RulesOk W (rs.filter p):=
 ⟨λr hr=>h.low r (qAj.mp hr).1,λr hr=>h.kinds r (qAj.mp hr).1,λr hr=>h.few r (qAj.mp hr).1,qBM (qBQ _ _) h.len⟩
structure CallOk(W:Web)(c:List Arm):Prop where
 len:c.length<300
 few:∀a∈c,a.parts.length<300
 kinds:∀a∈c,∀n∈a.parts,n∈nm W
def fitL(W:Web)(rs:List (Str×List Str))(c:List Arm):List (Str×List Str):=rs.filter λr=>fitB W r.2 c
def zwy(W:Web)(rs:List (Str×List Str)):List (Str×List Str):=rs.filter λr=>!(rs.any λq=>zlx W q.2 r.2)
theorem zagy{rs:List Val}(h:f env=some rs)(hn:rs.length=n)(k:g (zds rs)=some (.bool b,false)):tTru (zau n g f) env=some b:=by
 unfold tTru;rw[zbd h hn k];rfl
theorem zarh{α:Type}{f:α->Bool}{l:List α}{a:EF}{env:DEnv}{fr:Bool}{bs:List Nat}(ha:a env=some ⟨.list (l.map λx=>.bool (f x)),fr,bs⟩):eCB (anyD λbs=>bs.any id) (zaa a aNil) env=some (vb (l.any f)):=by
 unfold eCB
 rw[zch ha,qE]
 show((zot (l.map λx=>.bool (f x))).map _).bind _=_
 rw[zut]
 simp only[qAs,qE,qCH]
 rfl
theorem zacy(h:WebOk W)(hr:RulesOk W rs):zgm [.dict (dS zbf (ups W)),zan rs]=some (zan (zwy W rs),true):=by
 have hlen:=hr.len
 have k:zdy (gN 0) (zgr (tTru (eCB (anyD λbs=>bs.any id) (zaa (zck ["name","kinds"] [0,1] (zaj (eVar 2)) (gT 2 (zar 0 (zar 1 zdt))) zcf (zau 3 zgb (zaa (eVar 3) (zaa (eVar 1) (zaa (eIxV 2 (eC (.int 1))) aNil))))) aNil)))) (eVar 0) [.no,.pl (.dict (dS zbf (ups W))),.pl (zan rs)] (rs.map zcw)=some ((zwy W rs).map zcw):=by
  refine zel (enc:=zcw) (out:=zcw) (e:=eVar 0) (λr=>!(rs.any λq=>zlx W q.2 r.2)) λr hm=>⟨[.pl (zcw r),.pl (.dict (dS zbf (ups W))),.pl (zan rs)],rfl,?_,λ_=>⟨⟨zcw r,false,[]⟩,rfl,rfl⟩⟩
  have k2:zdy (gT 2 (zar 0 (zar 1 zdt))) zcf (zau 3 zgb (zaa (eVar 3) (zaa (eVar 1) (zaa (eIxV 2 (eC (.int 1))) aNil)))) [.no,.no,.pl (zcw r),.pl (.dict (dS zbf (ups W)))] (rs.map zcw)=some (rs.map λq=>.bool (zlx W q.2 r.2)):=
   zdh λq hq=>⟨[.pl (.str q.1),.pl (zaq q.2),.pl (zcw r),.pl (.dict (dS zbf (ups W)))],rfl,rfl,_,zbd (n:=3) (rs:=[⟨.dict (dS zbf (ups W)),false,[]⟩,⟨zaq q.2,false,[]⟩,⟨zaq r.2,false,[]⟩]) rfl rfl (zaes h (hr.low q hq) (hr.low r hm) (hr.kinds q hq) (hr.few q hq)),rfl⟩
  exact zus (zarh (f:=λq:Str×List Str=>zlx W q.2 r.2) (zem (own:=["name","kinds"]) (fr:=[0,1]) (fi:=zaj (eVar 2)) (env:=[.pl (zcw r),.pl (.dict (dS zbf (ups W))),.pl (zan rs)]) (ds:=rs.map zcw) (bs:=[]) rfl (by rw[qC];omega) k2))
 exact zgj (env:=[.pl (.dict (dS zbf (ups W))),.pl (zan rs)]) rfl (zir (zem (own:=["rule"]) (fr:=[0,1]) (fi:=zaj (eVar 1)) (ds:=rs.map zcw) (bs:=[]) rfl (by rw[qC];omega) k))
theorem zacz{rs:List (Str×List Str)}(hl:rs.length<300):zgn [zan rs]=some (zab (rs.map (·.1)),true):=by
 have k:zdy (gT 2 (zar 0 (zar 1 zdt))) zcf (eVar 0) [.no,.no] (rs.map zcw)=some (rs.map λr=>.str r.1):=zdh λr _=>⟨[.pl (.str r.1),.pl (zaq r.2)],rfl,rfl,vs r.1,rfl,rfl⟩
 have e:(rs.map λr=>PyData.str r.1)=(rs.map (·.1)).map .str:=by rw[qBa];rfl
 rw[e]at k
 exact zgj (env:=[.pl (zan rs)]) rfl (zir (zem (own:=["name","kinds"]) (fr:=[]) (fi:=zaj (eVar 0)) (ds:=rs.map zcw) (bs:=[]) rfl (by rw[qC];omega) k))
def zdc:List Str->PyData
 | []=>.tuple [.str "none"]
 | [x]=>.tuple [.str "rule",.str x]
 | xs=>.tuple [.str "quarrel",zaq xs]
theorem zaet:∀(xs:List Str),zhm [zab xs]=some (zdc xs,false)
 | []=>rfl
 | [x]=>rfl
 | x::y::xs=>by
  have t:zaz (eOp eqD (eCB lenD (zaa (eVar 0) aNil)) (eC (.int 1))) [.pl (zab (x::y::xs))]=some false:=by
   rw[zeu (zsm (i:=((x::y::xs).map PyData.str).length) (j:=1) (zmv rfl) rfl)]
   congr 1
  exact zgj (env:=[.pl (zab (x::y::xs))]) rfl (zai (if_f rfl rfl) (zai (if_f t rfl) rfl))
theorem zsw(h:WebOk W){c:List Arm}(hr:RulesOk W rs)(hc:CallOk W c):zed [zam W c.length rs,zag c]=some (zan (fitL W rs c),true):=by
 have hl:=hr.len
 have e5:sSet 5 (zau 2 zen (zaa (zau 1 zfm (zaa (eVar 2) aNil)) (zaa (eVar 1) aNil))) [.pl (zam W c.length rs),.pl (zag c),.pl (webD W),.pl (.int c.length),.pl (zan rs),.no]=some (.nx [.pl (zam W c.length rs),.pl (zag c),.pl (webD W),.pl (.int c.length),.pl (zan rs),.ac (.list (c.map λa=>zbf (upA W a)))]):=
  zbg (r:=⟨.list (c.map λa=>zbf (upA W a)),true,[]⟩) (zbd (n:=2) (rs:=[⟨.dict (dS zbf (ups W)),true,[]⟩,⟨zag c,false,[]⟩]) (zao (zbd (n:=1) (rs:=[⟨webD W,false,[]⟩]) rfl rfl (zxp h)) (zch rfl)) rfl (zwk h hc.len hc.kinds))
 have k:zdy (gN 0) (tTru (zau 2 zgl (zaa (eIxV 0 (eC (.int 1))) (zaa (eVar 1) aNil)))) (eVar 0) [.no,.pl (.list (c.map λa=>zbf (upA W a)))] (rs.map zcw)=some ((fitL W rs c).map zcw):=
  zel (enc:=zcw) (out:=zcw) (e:=eVar 0) (λr=>fitB W r.2 c) λr hm=>⟨[.pl (zcw r),.pl (.list (c.map λa=>zbf (upA W a)))],rfl,zagy (n:=2) (rs:=[⟨zaq r.2,false,[]⟩,⟨.list (c.map λa=>zbf (upA W a)),false,[]⟩]) rfl rfl (zacx hc.len),λ_=>⟨⟨zcw r,false,[]⟩,rfl,rfl⟩⟩
 exact zgj (env:=[.pl (zam W c.length rs),.pl (zag c),.no,.no,.no,.no]) rfl (zai rfl (zai (zamq (zbd (n:=3) (rs:=[⟨webD W,false,[]⟩,vi c.length,⟨zag c,false,[]⟩]) rfl rfl (zacw h hc.len hc.few hc.kinds))) (zai e5 (zir (zem (own:=["rule"]) (fr:=[5]) (fi:=zaj (eVar 4)) (ds:=rs.map zcw) (bs:=[]) rfl (by rw[qC];omega) k)))))
theorem zanm(h:WebOk W){c:List Arm}(hr:RulesOk W rs)(hc:CallOk W c):zpf [zam W c.length rs,zag c]=some (zab ((zwy W (fitL W rs c)).map (·.1)),true):=by
 have e2:sSet 2 (zau 2 zed (zaa (eVar 0) (zaa (eVar 1) aNil))) [.pl (zam W c.length rs),.pl (zag c),.no]=some (.nx [.pl (zam W c.length rs),.pl (zag c),.ac (zan (fitL W rs c))]):=
  zbg (r:=⟨zan (fitL W rs c),true,[]⟩) (zbd (n:=2) (rs:=[⟨zam W c.length rs,false,[]⟩,⟨zag c,false,[]⟩]) rfl rfl (zsw h hr hc))
 have e3:zau 1 zfm (zaa (eIxV 0 (eC (.int 0))) aNil) [.pl (zam W c.length rs),.pl (zag c),.ac (zan (fitL W rs c))]=some ⟨.dict (dS zbf (ups W)),true,[]⟩:=zbd (n:=1) (rs:=[⟨webD W,false,[]⟩]) rfl rfl (zxp h)
 have e4:zau 2 zgm (zaa (zau 1 zfm (zaa (eIxV 0 (eC (.int 0))) aNil)) (zaa (eVar 2) aNil)) [.pl (zam W c.length rs),.pl (zag c),.ac (zan (fitL W rs c))]=some ⟨zan (zwy W (fitL W rs c)),true,[2]⟩:=zbd (n:=2) (rs:=[⟨.dict (dS zbf (ups W)),true,[]⟩,⟨zan (fitL W rs c),false,[2]⟩]) (zao e3 (zch rfl)) rfl (zacy h (hr.filter _))
 exact zgj (env:=[.pl (zam W c.length rs),.pl (zag c),.no]) rfl (zai e2 (zir (zbd (n:=1) (rs:=[⟨zan (zwy W (fitL W rs c)),true,[2]⟩]) (zch e4) rfl (zacz ((hr.filter _).filter _).len))))
theorem zaeu(h:WebOk W){c:List Arm}(hr:RulesOk W rs)(hc:CallOk W c):zeo [zam W c.length rs,zag c]=some (zdc ((zwy W (fitL W rs c)).map (·.1)),false):=
 zgj (env:=[.pl (zam W c.length rs),.pl (zag c)]) rfl (zir (zbd (n:=1) (rs:=[⟨zab ((zwy W (fitL W rs c)).map λr:Str×List Str=>r.1),true,[]⟩]) (zch (zbd (n:=2) (rs:=[⟨zam W c.length rs,false,[]⟩,⟨zag c,false,[]⟩]) rfl rfl (zanm h hr hc))) rfl (zaet _)))
def Two(x:Str):Prop:=∃a b,∀c∈x.cps.toList,c=a\/c=b
theorem zwl{x:Str}(h:c∈(Txt.slice x l u).cps.toList):c∈x.cps.toList:=by
 unfold Txt.slice at h
 split at h
 ·exact h
 ·have h:c∈(List.filterMap (x.cps[·]?) (Builtin.Str.strSliceIndices l u 1 x.length)):=by simpa using h
  obtain⟨i,_,e⟩:=qBg.mp h
  have:=qDJ e
  simpa using this
theorem zagz{x y:List Str}(ha:a env=some ⟨zab x,f1,b1⟩)(hb:b env=some ⟨zab y,f2,b2⟩)(h:x.length+y.length<=100000):eOp addD a b env=some ⟨zab (x++y),true,b1++b2⟩:=by
 unfold eOp
 rw[ha,hb]
 show((if(x.map PyData.str).length+(y.map PyData.str).length<=100000 then some (PyData.list (x.map .str++y.map .str),true)else none).bind λz=>some (⟨z.1,z.2,bsOf z.1 (b1++b2)⟩:Val))=_
 rw[if_pos (by rw[qC,qC];exact h),<- qAJ]
 rfl
theorem zain{x y:List Str}(ha:a env=some ⟨zab x,f,bs⟩)(hl:l env=some lo)(hh:h env=some hi)(e:cutD (x.map .str) lo hi=y.map .str):eSl a l h env=some ⟨zab y,true,bs⟩:=by
 unfold eSl
 rw[ha,hl,hh]
 show(some (PyData.list (cutD (x.map .str) lo hi),true)).bind (λz=>some (⟨z.1,z.2,bsOf z.1 bs⟩:Val))=_
 rw[e]
 rfl
theorem zann{stem:Str}(h:∃a,∀x∈stem.cps.toList,x=a)(hst:0<=st)(k:Nat):Two (zji md o st stem at_ k):=by
 obtain⟨a,ha⟩:=h
 have l1:∀(z:Int)(x:Nat),x∈(ltr z).cps.toList->x=97+z.toNat:=λz x hx=>by unfold ltr at hx;simpa using hx
 unfold zji
 split
 ·refine⟨a,97+((o+st * k) % 26).toNat,λx hx=>?_⟩
  rw[zjh,zjh]at hx
  rcases qu.mp hx with hx|hx
  ·rcases qu.mp hx with hx|hx
   ·exact .inl (ha x (zwl hx))
   ·exact .inr (l1 _ x hx)
  ·exact .inl (ha x (zwl hx))
 ·split
  ·refine⟨a,97+((o+st * k) % 26).toNat,λx hx=>?_⟩
   rw[zjh]at hx
   rcases qu.mp hx with hx|hx
   ·exact .inl (ha x (zwl hx))
   ·exact .inr (l1 _ x hx)
  ·refine⟨97+((o+(k:Int) / 8) % 26).toNat,0,λx hx=>.inl ?_⟩
   unfold ltr at hx
   have:=qx ((k:Int) * st) (show(8:Int)≠0 by decide)
   rw[zpd (by omega)]at hx
   exact qBb hx
def zeg:List Str:=["none","rule","quarrel","near","far","out"]
theorem zrc{x:Str}(h1:a∈x.cps.toList)(h2:b∈x.cps.toList)(h3:c∈x.cps.toList)(n1:a≠b)(n2:a≠c)(n3:b≠c):¬Two x:=by
 rintro⟨p,q,h⟩
 have:=h a h1
 have:=h b h2
 have:=h c h3
 omega
theorem zaio:∀x∈zeg,¬Two x:=by
 intro x hx
 unfold zeg at hx
 simp only[qZ,qAw,or_false]at hx
 rcases hx with rfl|rfl|rfl|rfl|rfl|rfl
 ·exact zrc (a:=110) (b:=111) (c:=101) (by decide +kernel) (by decide +kernel) (by decide +kernel) (by decide) (by decide) (by decide)
 ·exact zrc (a:=114) (b:=117) (c:=108) (by decide +kernel) (by decide +kernel) (by decide +kernel) (by decide) (by decide) (by decide)
 ·exact zrc (a:=113) (b:=117) (c:=97) (by decide +kernel) (by decide +kernel) (by decide +kernel) (by decide) (by decide) (by decide)
 ·exact zrc (a:=110) (b:=101) (c:=97) (by decide +kernel) (by decide +kernel) (by decide +kernel) (by decide) (by decide) (by decide)
 ·exact zrc (a:=102) (b:=97) (c:=114) (by decide +kernel) (by decide +kernel) (by decide +kernel) (by decide) (by decide) (by decide)
 ·exact zrc (a:=111) (b:=117) (c:=116) (by decide +kernel) (by decide +kernel) (by decide +kernel) (by decide) (by decide) (by decide)
theorem zari:zeg.Nodup:=by decide +kernel
theorem zano:∀x∈zeg,Low x:=by
 intro x hx
 unfold zeg at hx
 simp only[qZ,qAw,or_false]at hx
 unfold Low
 rcases hx with rfl|rfl|rfl|rfl|rfl|rfl<;>decide +kernel
theorem zaaa(ds:List PyData)(k:Nat):cutD ds (some (k:Int)) none=ds.drop k:=by
 unfold cutD
 have e1:HT.sIx ds.length ds.length none=ds.length:=rfl
 rw[e1,HT.sIx_nat]
 rcases Nat.le_total k ds.length with h|h
 ·rw[Nat.min_eq_left h,qBm (by rw[qj];exact qL _)]
 ·rw[Nat.min_eq_right h,qBK,List.drop_of_length_le h,List.take_nil]
theorem zanp:∀x∈zeg,x.length<=20:=by decide +kernel
theorem zpy{m c:Int}(m0:0<=m)(m16:m<=16)(c0:0<=c):∃xs:List Str,zbk [.int m,.int c]=some (zab xs,true)/\xs.length=m.toNat/\xs.Nodup/\∀x∈xs,Low x/\x.length<=20:=by
 have md:∀(z j:Int),0<j->0<=z % j/\z % j<j:=λz j hj=>⟨qx z (by omega),qr z hj⟩
 have i8:=md (c / 3) 8 (by decide)
 obtain⟨st,hst,hmem⟩:=zawm i8.1 i8.2
 have st0:0<=st/\st<100:=by
  simp only[qZ,qCB,or_false]at hmem
  rcases hmem with rfl|rfl|rfl|rfl|rfl|rfl|rfl|rfl<;>decide
 have o26:=md (c / 24) 26 (by decide)
 have j26:=md (c / 624) 26 (by decide)
 have n8:=md (c / 16224) 8 (by decide)
 have lowS:Low (Txt.mul (ltr (c / 624 % 26)) (c / 16224 % 8)):=Low.mul (by omega) n8.1
 have lenS:(Txt.mul (ltr (c / 624 % 26)) (c / 16224 % 8)).length<=7:=by unfold ltr;rw[zamv n8.1];omega
 have s3:sSet 3 (eOp ixD (eTup (zaa (eC (.int 1)) (zaa (eC (.int 3)) (zaa (eC (.int 5)) (zaa (eC (.int 7)) (zaa (eC (.int 9)) (zaa (eC (.int 11)) (zaa (eC (.int 15)) (zaa (eC (.int 17)) aNil))))))))) (eOp modD (eOp zbi (eVar 1) (eC (.int 3))) (eC (.int 8)))) [.pl (.int m),.pl (.int c),.pl (.str abc),.no,.no,.no,.no,.no,.no,.no,.no,.no]=some (.nx [.pl (.int m),.pl (.int c),.pl (.str abc),.pl (.int st),.no,.no,.no,.no,.no,.no,.no,.no]):=by
  refine zbg (r:=vi st) ?_
  unfold eOp
  show((some (⟨.tuple [PyData.int 1,.int 3,.int 5,.int 7,.int 9,.int 11,.int 15,.int 17],false,[]⟩:Val)).bind λx=>((some (vi (c / 3 % 8))).bind λy=>(ixD x.d y.d).bind λz=>some (⟨z.1,z.2,bsOf z.1 (x.bs++y.bs)⟩:Val)))=_
  simp only[qE,ixD]
  rw[hst];rfl
 have s5:sSet 5 (eOp mulD (eIxV 2 (eOp modD (eOp zbi (eVar 1) (eC (.int 624))) (eC (.int 26)))) (eOp modD (eOp zbi (eVar 1) (eC (.int 16224))) (eC (.int 8)))) [.pl (.int m),.pl (.int c),.pl (.str abc),.pl (.int st),.pl (.int (c / 24 % 26)),.no,.no,.no,.no,.no,.no,.no] =
   some (.nx [.pl (.int m),.pl (.int c),.pl (.str abc),.pl (.int st),.pl (.int (c / 24 % 26)),.pl (.str (Txt.mul (ltr (c / 624 % 26)) (c / 16224 % 8))),.no,.no,.no,.no,.no,.no]):=
  zbg (r:=vs _) (zatc (zawl rfl rfl j26.1 j26.2) rfl ⟨by show 1<=1000;decide,by omega,by omega⟩)
 have oneS:∃a,∀x∈(Txt.mul (ltr (c / 624 % 26)) (c / 16224 % 8)).cps.toList,x=a:=⟨_,λx hx=>by
  unfold ltr at hx
  rw[zpd n8.1]at hx
  exact qBb hx⟩
 generalize hO:c / 24 % 26=o at o26 s5
 generalize Txt.mul (ltr (c / 624 % 26)) (c / 16224 % 8)=stem at lowS lenS s5 oneS
 clear j26 n8 i8
 have s6:∃at_:Int,sSet 6 (eOp modD (eOp zbi (eVar 1) (eC (.int 129792))) (eOp addD (eCB lenD (zaa (eVar 5) aNil)) (eC (.int 1)))) [.pl (.int m),.pl (.int c),.pl (.str abc),.pl (.int st),.pl (.int o),.pl (.str stem),.no,.no,.no,.no,.no,.no]=some (.nx [.pl (.int m),.pl (.int c),.pl (.str abc),.pl (.int st),.pl (.int o),.pl (.str stem),.pl (.int at_),.no,.no,.no,.no,.no]):=
  ⟨_,zbg (r:=vi _) (zfa rfl (zsl (zatd rfl (by omega)) rfl) (by omega))⟩
 obtain⟨at_,s6⟩:=s6
 have loop:∃env',forL (gN 8) (sSeq (sSet 9 (eIxV 2 (eOp modD (eOp addD (eVar 4) (eOp mulD (eVar 3) (eVar 8))) (eC (.int 26)))))
  (sIf (zaz (eOp eqD (eOp modD (eVar 1) (eC (.int 3))) (eC (.int 0)))) (sApp 7 (eOp addD (eOp addD (eSl (eVar 5) zef (zbe (eVar 6))) (eVar 9)) (eSl (eVar 5) (zbe (eVar 6)) zef))) (sIf (zaz (eOp eqD (eOp modD (eVar 1) (eC (.int 3))) (eC (.int 1)))) (sApp 7 (eOp addD (eSl (eVar 5) zef (zbe (eOp modD (eOp mulD (eVar 8) (eVar 3)) (eOp addD (eCB lenD (zaa (eVar 5) aNil)) (eC (.int 1)))))) (eVar 9))) (sApp 7 (eOp mulD (eIxV 2 (eOp modD (eOp addD (eVar 4) (eOp zbi (eVar 8) (eC (.int 8)))) (eC (.int 26)))) (eOp addD (eC (.int 1)) (eOp modD (eOp mulD (eVar 8) (eVar 3)) (eC (.int 8)))))))))
   ((List.range m.toNat).map λ(k:Nat)=>PyData.int (k:Int)) [.pl (.int m),.pl (.int c),.pl (.str abc),.pl (.int st),.pl (.int o),.pl (.str stem),.pl (.int at_),.ac (.list []),.no,.no,.no,.no]=some (.nx env')/\
   ∃s8 s9,env'=[.pl (.int m),.pl (.int c),.pl (.str abc),.pl (.int st),.pl (.int o),.pl (.str stem),.pl (.int at_),.ac (zab ((List.range m.toNat).map (zji (c % 3) o st stem at_))),s8,s9,.no,.no]:=by
  refine zec (λpre env=>∃s8 s9,env=[.pl (.int m),.pl (.int c),.pl (.str abc),.pl (.int st),.pl (.int o),.pl (.str stem),.pl (.int at_),.ac (zab (pre.map (zji (c % 3) o st stem at_))),s8,s9,.no,.no]) ⟨_,_,rfl⟩ ?_
  rintro pre k post env hk ⟨s8,s9,rfl⟩
  have hkm:k<m.toNat:=qAi.mp (by rw[<- hk];simp)
  have hpl:pre.length<100:=by
   have:=congrArg List.length hk
   simp at this
   omega
  have b1:0<=st * (k:Int):=qC9 st0.1 (Int.natCast_nonneg _)
  have s26:=md (o+st * (k:Int)) 26 (by decide)
  have sl:∀a b,(Txt.slice stem a b).length<=7:=λa b=>qAI (Txt.slice_le stem a b) lenS
  have lz:stem.length<=100000:=qAI lenS (by decide)
  have l1:(ltr ((o+st * (k:Int)) % 26)).length=1:=rfl
  refine⟨_,[.pl (.int m),.pl (.int c),.pl (.str abc),.pl (.int st),.pl (.int o),.pl (.str stem),.pl (.int at_),.ac (zab ((pre++[k]).map (zji (c % 3) o st stem at_))),.pl (.int (k:Int)),.pl (.str (ltr ((o+st * (k:Int)) % 26))),.no,.no],rfl,.inl ?_,_,_,rfl⟩
  refine zai (zbg (r:=vs _) (zawl rfl (zfa (zsl rfl (zaqx rfl rfl (.inl ⟨by omega,by omega⟩))) rfl (by decide)) s26.1 s26.2)) ?_
  have fin:∀x:Str,x=zji (c % 3) o st stem at_ k->(PyData.list ((pre.map (zji (c % 3) o st stem at_)).map PyData.str++[.str x]))=zab ((pre++[k]).map (zji (c % 3) o st stem at_)):=λx e=>by
   unfold zab
   rw[qAJ,qAJ,e];rfl
  have lp:((pre.map (zji (c % 3) o st stem at_)).map PyData.str).length<100000:=by rw[qC,qC];exact qDR hpl (by decide)
  by_cases h0:c % 3=0
  ·refine if_t (zeu (by rw[zsm (zfa rfl rfl (by decide)) rfl];rw[h0];rfl)) ?_
   have z1:=sl none (some at_)
   have z2:=sl (some at_) none
   refine(zuq rfl (zanb (zanb (zawi rfl rfl (zmu rfl) lz) rfl (by omega)) (zawi rfl (zmu rfl) rfl lz) (by rw[zzk];omega)) lp).trans ?_
   rw[fin _ (by unfold zji;rw[if_pos h0])];rfl
  ·refine if_f (zeu (by rw[zsm (zfa rfl rfl (by decide)) rfl];rw[beq_eq_false_iff_ne.mpr h0])) ?_
   by_cases h1:c % 3=1
   ·refine if_t (zeu (by rw[zsm (zfa rfl rfl (by decide)) rfl];rw[h1];rfl)) ?_
    have z1:=sl none (some ((k:Int) * st % ((stem.length:Int)+1)))
    refine(zuq rfl (zanb (zawi rfl rfl (zmu (zfa (zaqx rfl rfl (.inr ⟨by omega,by omega⟩)) (zsl (zatd rfl lz) rfl) (by omega))) lz) rfl (by omega)) lp).trans ?_
    rw[fin _ (by unfold zji;rw[if_neg h0,if_pos h1])];rfl
   ·refine if_f (zeu (by rw[zsm (zfa rfl rfl (by decide)) rfl];rw[beq_eq_false_iff_ne.mpr h1])) ?_
    have t26:=md (o+(k:Int) / 8) 26 (by decide)
    have u8:=md ((k:Int) * st) 8 (by decide)
    refine(zuq rfl (zatc (zawl rfl (zfa (zsl rfl (zgk rfl rfl (by decide) (by decide))) rfl (by decide)) t26.1 t26.2) (zsl rfl (zfa (zaqx rfl rfl (.inr ⟨by omega,by omega⟩)) rfl (by decide))) ⟨by show 1<=1000;decide,by omega,by omega⟩) lp).trans ?_
    rw[fin _ (by unfold zji;rw[if_neg h0,if_neg h1])];rfl
 obtain⟨env',hl,s8,s9,rfl⟩:=loop
 generalize hN:(List.range m.toNat).map (zji (c % 3) o st stem at_)=xs at hl
 have lx:xs.length=m.toNat:=by rw[<- hN];simp
 have nx:xs.Nodup:=by rw[<- hN];exact zup λa b ha hb e=>zamz hmem o26.1 (by omega) (by omega) e
 have lo:∀x∈xs,Low x/\x.length<=20:=λx hx=>by
  rw[<- hN]at hx
  obtain⟨j,_,rfl⟩:=qAa.mp hx
  refine⟨zana lowS o26.1 st0.1 j,?_⟩
  have sl:∀a b,(Txt.slice stem a b).length<=7:=λa b=>qAI (Txt.slice_le stem a b) lenS
  have l1:∀i,(ltr i).length=1:=λ_=>rfl
  unfold zji
  split
  ·rw[zzk,zzk,l1]
   have h1:=sl none (some at_);have h2:=sl (some at_) none
   omega
  ·split
   ·rw[zzk,l1]
    have h1:=sl none (some ((j:Int) * st % ((stem.length:Int)+1)))
    omega
   ·have u8:=md ((j:Int) * st) 8 (by decide)
    unfold ltr
    rw[zamv (by omega)]
    omega
 have tw:∀x∈xs,Two x:=λx hx=>by
  rw[<- hN]at hx
  obtain⟨j,_,rfl⟩:=qAa.mp hx
  exact zann oneS st0.1 j
 have it:zew (zaa (eVar 0) aNil) [.pl (.int m),.pl (.int c),.pl (.str abc),.pl (.int st),.pl (.int o),.pl (.str stem),.pl (.int at_),.ac (.list []),.no,.no,.no,.no]=some ((List.range m.toNat).map λ(k:Nat)=>PyData.int (k:Int),[]):=by
  unfold zew
  rw[zch (r:=vi m) rfl]
  simp only[qE]
  rw[if_pos ⟨by omega,by omega⟩,zpe]
 have run:∀o',(sSeq (sIf (zaz (eOp eqD (eOp modD (eOp zbi (eVar 1) (eC (.int 1038336))) (eC (.int 6))) (eC (.int 5)))) (sSeq (sSet 10 (eLst (zaa (eC (.str "none")) (zaa (eC (.str "rule")) (zaa (eC (.str "quarrel")) (zaa (eC (.str "near")) (zaa (eC (.str "far")) (zaa (eC (.str "out")) aNil))))))))
  (sSeq (sSet 11 (eOp modD (eOp zbi (eVar 1) (eC (.int 6230016))) (eC (.int 6))))
  (sSet 7 (eSl (eOp addD (eOp addD (eSl (eVar 10) (zbe (eVar 11)) zef) (eSl (eVar 10) zef (zbe (eVar 11)))) (eSl (eVar 7) (zbe (eC (.int 6))) zef)) zef (zbe (eVar 0)))))) sNil)
  (zmp 7)) [.pl (.int m),.pl (.int c),.pl (.str abc),.pl (.int st),.pl (.int o),.pl (.str stem),.pl (.int at_),.ac (zab xs),s8,s9,.no,.no]=o'->(zhn [.pl (.int m),.pl (.int c),.no,.no,.no,.no,.no,.no,.no,.no,.no,.no]=o'):=λo' e=>
  zai rfl (zai s3 (zai (e1:=[.pl (.int m),.pl (.int c),.pl (.str abc),.pl (.int st),.pl (.int o),.no,.no,.no,.no,.no,.no,.no]) (by rw[<- hO];rfl) (zai s5 (zai s6 (zai rfl (zai (zgi it hl) e))))))
 have t1:zaz (eOp eqD (eOp modD (eOp zbi (eVar 1) (eC (.int 1038336))) (eC (.int 6))) (eC (.int 5))) [.pl (.int m),.pl (.int c),.pl (.str abc),.pl (.int st),.pl (.int o),.pl (.str stem),.pl (.int at_),.ac (zab xs),s8,s9,.no,.no]=some (c / 1038336 % 6==5):=zeu (zsm (zfa (zgk rfl rfl (by decide) (by decide)) rfl (by decide)) rfl)
 cases hb:(c / 1038336 % 6==5)with
 | false=>
  rw[hb]at t1
  exact⟨xs,zgj (env:=[.pl (.int m),.pl (.int c),.no,.no,.no,.no,.no,.no,.no,.no,.no,.no]) rfl (run _ (zai (if_f t1 rfl) rfl)),lx,nx,lo⟩
 | true=>
  rw[hb]at t1
  have m6:=md (c / 6230016) 6 (by decide)
  obtain⟨q,hq,q6⟩:∃q:Nat,c / 6230016 % 6=(q:Int)/\q<=6:=⟨(c / 6230016 % 6).toNat,by omega,by omega⟩
  have e11:sSet 11 (eOp modD (eOp zbi (eVar 1) (eC (.int 6230016))) (eC (.int 6))) [.pl (.int m),.pl (.int c),.pl (.str abc),.pl (.int st),.pl (.int o),.pl (.str stem),.pl (.int at_),.ac (zab xs),s8,s9,.ac (zab zeg),.no]=some (.nx [.pl (.int m),.pl (.int c),.pl (.str abc),.pl (.int st),.pl (.int o),.pl (.str stem),.pl (.int at_),.ac (zab xs),s8,s9,.ac (zab zeg),.pl (.int (q:Int))]):=by
   rw[<- hq]
   exact zbg (r:=vi _) (zfa (zgk rfl rfl (by decide) (by decide)) rfl (by decide))
  have cutW1:cutD (zeg.map .str) (some (q:Int)) none=(zeg.drop q).map .str:=by rw[zaaa,qBh]
  have cutW2:cutD (zeg.map .str) none (some (q:Int))=(zeg.take q).map .str:=by rw[zaei _ _ (by simpa [zeg]using q6),qBs]
  have cutX:cutD (xs.map .str) (some ((6:Nat):Int)) none=(xs.drop 6).map .str:=by rw[zaaa,qBh]
  have lW:(zeg.drop q++zeg.take q).length=6:=by rw[qO,qj,qAV];show 6 - q+min q 6=6;omega
  have lR:((zeg.drop q++zeg.take q)++xs.drop 6).length>=m.toNat:=by rw[qO,lW,qj,lx];omega
  have cutM:cutD (((zeg.drop q++zeg.take q)++xs.drop 6).map .str) none (some (m.toNat:Int))=(((zeg.drop q++zeg.take q)++xs.drop 6).take m.toNat).map .str:=by rw[zaei _ _ (by rw[qC];exact lR),qBs]
  have hm:(m.toNat:Int)=m:=by omega
  rw[hm]at cutM
  have wl:(zeg.drop q).length+(zeg.take q).length<=100000:=by rw[<- qO,lW];decide
  have a12:eOp addD (eSl (eVar 10) (zbe (eVar 11)) zef) (eSl (eVar 10) zef (zbe (eVar 11))) [.pl (.int m),.pl (.int c),.pl (.str abc),.pl (.int st),.pl (.int o),.pl (.str stem),.pl (.int at_),.ac (zab xs),s8,s9,.ac (zab zeg),.pl (.int (q:Int))]=some ⟨zab (zeg.drop q++zeg.take q),true,[10]++[10]⟩:=
   zagz (zain (x:=zeg) (f:=false) (bs:=[10]) rfl (zmu (i:=(q:Int)) rfl) rfl cutW1) (zain (x:=zeg) (f:=false) (bs:=[10]) rfl rfl (zmu (i:=(q:Int)) rfl) cutW2) wl
  have a3:eSl (eVar 7) (zbe (eC (.int 6))) zef [.pl (.int m),.pl (.int c),.pl (.str abc),.pl (.int st),.pl (.int o),.pl (.str stem),.pl (.int at_),.ac (zab xs),s8,s9,.ac (zab zeg),.pl (.int (q:Int))]=some ⟨zab (xs.drop 6),true,[7]⟩:=zain (x:=xs) (f:=false) (bs:=[7]) rfl (zmu (i:=((6:Nat):Int)) rfl) rfl cutX
  have a4:=zain (l:=zef) (h:=zbe (eVar 0)) (zagz a12 a3 (by rw[lW,qj,lx];omega)) rfl (zmu (i:=m) rfl) cutM
  refine⟨((zeg.drop q++zeg.take q)++xs.drop 6).take m.toNat,zgj (env:=[.pl (.int m),.pl (.int c),.no,.no,.no,.no,.no,.no,.no,.no,.no,.no]) rfl (run _ (zai (if_t t1 (zai rfl (zai e11 (zbg a4)))) rfl)),by rw[qAV];omega,?_,λx hx=>?_⟩
  ·refine List.Nodup.sublist (qCZ _ _) ?_
   have pw:(zeg.drop q++zeg.take q).Perm zeg:=by
    have:=List.perm_append_comm (l₁:=zeg.drop q) (l₂:=zeg.take q)
    rwa [List.take_append_drop]at this
   refine qA3.mpr ⟨pw.nodup_iff.mpr zari,nx.sublist (List.drop_sublist _ _),λa ha b hb e=>?_⟩
   subst e
   exact zaio a (pw.mem_iff.mp ha) (tw a (qAR hb))
  ·rcases qu.mp (qAy hx)with z|z
   ·have hw:x∈zeg:=?_
    exact⟨zano x hw,zanp x hw⟩
    rcases qu.mp z with z|z
    ·exact qAR z
    ·exact qAy z
   ·exact lo x (qAR z)
theorem zada{α:Type}(enc:α->PyData)(l:List α):zwr (l.map enc)=((List.range l.length).zip l).map λz=>PyData.tuple [.int (z.1:Nat),enc z.2]:=by
 rw[zagq]
 have:∀(l:List α)(k:Nat),(l.zipIdx k).map (λ(p:α×Nat)=>PyData.tuple [.int (p.2:Int),enc p.1])=(((List.range l.length).map (·+k)).zip l).map λz=>PyData.tuple [.int (z.1:Nat),enc z.2]:=by
  intro l
  induction l with
  | nil=>intro k;rfl
  | cons x l ih=>
   intro k
   rw[qCe,qR,ih,qy,qDH,qR,qBL,qR,qCd]
   congr 3
   rw[qBa]
   refine qBX λj _=>?_
   show j+(k+1)=j+1+k
   omega
 rw[this l 0]
 simp
theorem zyk(h:WebOk W){ks:List Str}{c:List Arm}(hc:CallOk W c)(hl:ks.length<=c.length):zee [.dict (dS zab (ups W)),zaq ks,zag c]=some (.bool (fitB W ks c),false):=by
 have it:zxl (zaa (eVar 1) aNil) [.pl (.dict (dS zab (ups W))),.pl (zaq ks),.pl (zag c),.no,.no]=some (((List.range ks.length).zip ks).map λz=>PyData.tuple [.int (z.1:Nat),.str z.2],[]):=by
  show some (zwr (ks.map .str),[])=_
  rw[zada]
 have key:=zabs (enc:=λz:Nat×Str=>PyData.tuple [.int (z.1:Nat),.str z.2]) (g:=gT 2 (zar 3 (zar 4 zdt))) (body:=sIf (zgr (tTru (eCB (anyD λbs=>bs.any id) (zaa (zck ["_law_name"] [0,4] (zaj (zau 1 zaw (zaa (eIxV 2 (eVar 3)) aNil))) (gN 0) zcf (eOp (inD false) (eVar 2) (zdd 1 (eVar 0)))) aNil)))) (sRet (eC (.bool false))) sNil)
  (λz=>(c[z.1]?).elim false λa=>decide (z.2∈upA W a)) (.bool false) false (λenv=>∃s3 s4,env=[.pl (.dict (dS zab (ups W))),.pl (zaq ks),.pl (zag c),s3,s4]) ((List.range ks.length).zip ks) [.pl (.dict (dS zab (ups W))),.pl (zaq ks),.pl (zag c),.no,.no] ⟨_,_,rfl⟩ (by
   rintro⟨i,k⟩ hz env ⟨s3,s4,rfl⟩
   have hi:i<c.length:=by
    have:=qAi.mp (qA4 hz).1
    omega
   have ha:c[i]∈c:=qAN _
   refine⟨[.pl (.dict (dS zab (ups W))),.pl (zaq ks),.pl (zag c),.pl (.int (i:Nat)),.pl (.str k)],rfl,?_⟩
   have ix:eIxV 2 (eVar 3) [.pl (.dict (dS zab (ups W))),.pl (zaq ks),.pl (zag c),.pl (.int (i:Nat)),.pl (.str k)]=some ⟨armD c[i],false,[]⟩:=by
    show((ixD (.tuple (c.map armD)) (.int (i:Nat))).bind λz=>some (⟨z.1,z.2,bsOf z.1 ([]++[])⟩:Val))=_
    simp only[ixD]
    rw[zki (v:=armD c[i]) (by rw[qN,qH hi];rfl)]
    simp only[qAs,qE]
    cases c[i]<;>rfl
   have itp:zaj (zau 1 zaw (zaa (eIxV 2 (eVar 3)) aNil)) [.pl (.dict (dS zab (ups W))),.pl (zaq ks),.pl (zag c),.pl (.int (i:Nat)),.pl (.str k)]=some (c[i].parts.map .str,[]):=by
    unfold zaj
    rw[zbd (n:=1) (rs:=[⟨armD c[i],false,[]⟩]) (zch ix) rfl (zdl c[i])]
    rfl
   have k2:zdy (gN 0) zcf (eOp (inD false) (eVar 2) (zdd 1 (eVar 0))) [.no,.pl (.dict (dS zab (ups W))),.pl (.str k)] (c[i].parts.map .str)=some (c[i].parts.map λn=>.bool (decide (k∈up W n))):=
    zdh λn hn=>⟨[.pl (.str n),.pl (.dict (dS zab (ups W))),.pl (.str k)],rfl,rfl,vb (decide (k∈up W n)),e_in (neg:=false) (fr:=false) (bs:=[]) rfl (zanf (d:=zab (up W n)) (.inl rfl) rfl (by rw[zns,zmj (hc.kinds _ ha n hn)];rfl)),rfl⟩
   have t:=zus (zarh (f:=λn:Str=>decide (k∈up W n)) (zem (own:=["_law_name"]) (fr:=[0,4]) itp (by rw[qC];have:=hc.few _ ha;omega) k2))
   have ev:(c[i].parts.any λn=>decide (k∈up W n))=decide (k∈upA W c[i]):=by
    rw[qAo,qA9,decide_eq_true_iff,zzy]
    exact⟨λ⟨n,h1,h2⟩=>⟨n,h1,of_decide_eq_true h2⟩,λ⟨n,h1,h2⟩=>⟨n,h1,decide_eq_true h2⟩⟩
   rw[ev]at t
   have pe:((c[i]?).elim false λa=>decide (k∈upA W a))=decide (k∈upA W c[i]):=by rw[qH hi];rfl
   constructor
   ·intro hp
    have hp:((c[i]?).elim false λa=>decide (k∈upA W a))=true:=hp
    rw[pe]at hp
    rw[hp]at t
    exact⟨_,if_f t rfl,_,_,rfl⟩
   ·intro hp
    have hp:((c[i]?).elim false λa=>decide (k∈upA W a))=false:=hp
    rw[pe]at hp
    rw[hp]at t
    exact if_t t rfl)
 have same:(((List.range ks.length).zip ks).all λz=>(c[z.1]?).elim false λa=>decide (z.2∈upA W a))=fitB W ks c:=by
  have gen:∀(ks:List Str)(c:List Arm)(m:Nat)(cc:List Arm),ks.length<=c.length->(∀j,cc[m+j]?=c[j]?)->((((List.range ks.length).map (·+m)).zip ks).all λz=>(cc[z.1]?).elim false λa=>decide (z.2∈upA W a))=fitB W ks c:=by
   intro ks
   induction ks with
   | nil=>intro c m cc _ _;rfl
   | cons k ks ih=>
    intro c m cc hle hcc
    cases c with
    | nil=>simp at hle
    | cons a c=>
     have h0:=hcc 0
     rw[Nat.add_zero]at h0
     have r:=ih c (m+1) cc (by simpa using hle) λj=>by
      have:=hcc (j+1)
      rw[qAL]at this
      rw[<- this]
      congr 1
      omega
     unfold fitB at r ⊢
     rw[qy,qDH,qR,qBL,qA0,qBL,qA0,<- r,qCd,h0]
     congr 1
     rw[qBa]
     congr 2
     refine qBX λj _=>?_
     show j+1+m=j+(m+1)
     omega
  have:=gen ks c 0 c hl λj=>by rw[qCd]
  simpa using this
 rw[same]at key
 cases hb:fitB W ks c with
 | true=>
  obtain⟨env',lp,s3,s4,rfl⟩:=key.1 hb
  exact zgj (env:=[.pl (.dict (dS zab (ups W))),.pl (zaq ks),.pl (zag c),.no,.no]) rfl (zai (zgi it lp) rfl)
 | false=>exact zgj (env:=[.pl (.dict (dS zab (ups W))),.pl (zaq ks),.pl (zag c),.no,.no]) rfl (zata (zgi it (key.2 hb)))
theorem zanq{ds:List PyData}(he:env[i]?=some (.ac (.list ds)))(hf:f env=some ⟨d,fr,bs⟩)(hl:ds.length<100000)(hi:i∉bs):sApp i f env=some (.nx ((frzs env bs).set i (.ac (.list (ds++[d]))))):=by
 unfold sApp
 rw[he,hf]
 show(if ds.length<100000/\i∉bs then _ else _)=_
 rw[if_pos ⟨hl,hi⟩]
theorem zbaw(ha:a env=some (vi i))(hb:b env=some (vi j)):eOp gtD a b env=some (vb (decide (j<i))):=by
 unfold eOp;rw[ha,hb];rfl
theorem zawq(neg:Bool)(x a b:Str):inD neg (.str x) (.tuple [.str a,.str b])=some (.bool (if neg then !decide (x∈[a,b])else decide (x∈[a,b])),false):=by
 unfold inD
 simp only[zgg]
 rw[if_pos ⟨rfl,zmi [a,b]⟩]
 have:=zagl [a,b] x
 rw[qR,qR,qCF]at this
 rw[this]
theorem b64:-(2 ^ 64)<(4:Int)/\(4:Int)<2 ^ 64:=by omega
structure CallIn(xs:List Str)(c:List Arm):Prop where
 kinds:∀a∈c,∀n∈a.parts,n∈xs
 few:∀a∈c,a.parts.length<=4
 some:∀a∈c,a.parts≠[]
theorem CallIn.snoc{a:Arm}(h:CallIn xs c)(h1:∀n∈a.parts,n∈xs)(h2:a.parts.length<=4)(h3:a.parts≠[]):CallIn xs (c++[a]):=by
 refine⟨λb hb=>?_,λb hb=>?_,λb hb=>?_⟩<;>rcases qu.mp hb with z|z
 ·exact h.kinds b z
 ·rw[qAD.mp z];exact h1
 ·exact h.few b z
 ·rw[qAD.mp z];exact h2
 ·exact h.some b z
 ·rw[qAD.mp z];exact h3
section
variable{A0 A2 A6 s8 s9:Sl}{ds:List PyData}{xs:List Str}{r:Int}{n at_:Nat}
theorem zanr{env:DEnv}{b:EF}{j:Nat}{i:Int}(h1:env[1]?=some (.pl (zab xs)))(hb:b env=some (vi i))(hi:i=(j:Int))(hj:j<xs.length):eIxV 1 b env=some (vs xs[j]):=by
 subst hi
 exact zaeh (ds:=xs.map .str) h1 hb (by rw[qN,qH hj];rfl)
theorem zaha(hn:n=xs.length)(ha:at_<n):∃hj:n - 1 - at_<xs.length,eIxV 1 (eOp subD (eOp subD (eVar 5) (eC (.int 1))) (eVar 7)) [A0,.pl (zab xs),A2,.ac (.list ds),.pl (.int r),.pl (.int (n:Int)),A6,.pl (.int (at_:Int)),s8,s9]=some (vs (xs[n - 1 - at_]'hj)):=by
 have hj:n - 1 - at_<xs.length:=by omega
 have e:(n:Int) - 1 - (at_:Int)=((n - 1 - at_:Nat):Int):=by omega
 exact⟨hj,zanr rfl (zaqw (i:=(n:Int) - 1) (j:=(at_:Int)) (zaqw (i:=(n:Int)) (j:=1) rfl rfl) rfl) e hj⟩
theorem zawr(hn:n=xs.length)(ha:at_<n)(hl:ds.length<100000):∃a:Arm,(∀m∈a.parts,m∈xs)/\a.parts.length<=4/\a.parts≠[]/\sApp 3 (eTup (zaa (eIxV 1 (eOp subD (eOp subD (eVar 5) (eC (.int 1))) (eVar 7))) aNil)) [A0,.pl (zab xs),A2,.ac (.list ds),.pl (.int r),.pl (.int (n:Int)),A6,.pl (.int (at_:Int)),s8,s9]=some (.nx [A0,.pl (zab xs),A2,.ac (.list (ds++[armD a])),.pl (.int r),.pl (.int (n:Int)),A6,.pl (.int (at_:Int)),s8,s9]):=by
 obtain⟨hj,e⟩:=zaha (A0:=A0) (A2:=A2) (A6:=A6) (s8:=s8) (s9:=s9) (ds:=ds) (r:=r) hn ha
 refine⟨.many [xs[n - 1 - at_]'hj],λm hm=>by rw[qAD.mp hm];exact qAN _,by show 1<=4;decide,by simp[Arm.parts],?_⟩
 refine zuq (i:=3) (ds:=ds) (d:=armD (.many [xs[n - 1 - at_]'hj])) (fr:=false) rfl ?_ hl
 unfold eTup
 rw[zch e]
 rfl
theorem zarj(hn:n=xs.length)(ha:at_<n)(hl:ds.length<100000):∃a:Arm,(∀m∈a.parts,m∈xs)/\a.parts.length<=4/\a.parts≠[]/\sApp 3 (eIxV 1 (eOp subD (eOp subD (eVar 5) (eC (.int 1))) (eVar 7))) [A0,.pl (zab xs),A2,.ac (.list ds),.pl (.int r),.pl (.int (n:Int)),A6,.pl (.int (at_:Int)),s8,s9]=some (.nx [A0,.pl (zab xs),A2,.ac (.list (ds++[armD a])),.pl (.int r),.pl (.int (n:Int)),A6,.pl (.int (at_:Int)),s8,s9]):=by
 obtain⟨hj,e⟩:=zaha (A0:=A0) (A2:=A2) (A6:=A6) (s8:=s8) (s9:=s9) (ds:=ds) (r:=r) hn ha
 refine⟨.one (xs[n - 1 - at_]'hj),λm hm=>by rw[qAD.mp hm];exact qAN _,by show 1<=4;decide,by simp[Arm.parts],?_⟩
 exact zuq (i:=3) (ds:=ds) (d:=armD (.one (xs[n - 1 - at_]'hj))) (fr:=false) rfl e hl
end
def Hd(d:PyData)(s:Sl):Prop:=s=.pl d\/s=.ac d
theorem e_hd(h:env[i]?=some s)(hs:Hd d s):∃bs,eVar i env=some ⟨d,false,bs⟩:=by
 unfold eVar
 rw[h]
 rcases hs with rfl|rfl
 ·exact⟨_,rfl⟩
 ·exact⟨_,rfl⟩
section
variable{A0 A2 A6 s8 s9:Sl}{ds:List PyData}{xs:List Str}{r:Int}{n at_:Nat}
theorem zark(hn:n=xs.length)(ha:at_<n)(h1:1<n)(r0:0<=r)(hl:ds.length<100000)(hx:xs.length<=16):∃(a:Arm)(s8' s9':Sl),(∀m∈a.parts,m∈xs)/\a.parts.length<=4/\a.parts≠[]/\
  (sSeq (sSet 8 (eOp modD (eOp addD (eOp addD (eVar 7) (eC (.int 1))) (eOp modD (eOp zbi (eVar 4) (eC (.int 4))) (eOp subD (eVar 5) (eC (.int 1))))) (eVar 5)))
  (sSeq (sSet 9 (zck ["_law_name"] [1,7,8] (zaj (eSl (eVar 1) (zbe (eOp subD (eVar 5) (eOp modD (eVar 4) (eC (.int 3))))) zef)) (gN 0) (zaz (eOp (inD true) (eVar 0) (eTup (zaa (eIxV 1 (eVar 2)) (zaa (eIxV 1 (eVar 3)) aNil))))) (eVar 0)))
  (sApp 3 (eCB zco (zaa (eOp addD (eLst (zaa (eIxV 1 (eVar 7)) (zaa (eIxV 1 (eVar 8)) aNil))) (eVar 9)) aNil))))) [A0,.pl (zab xs),A2,.ac (.list ds),.pl (.int r),.pl (.int (n:Int)),A6,.pl (.int (at_:Int)),s8,s9]=some (.nx [A0,.pl (zab xs),A2,.ac (.list (ds++[armD a])),.pl (.int r),.pl (.int (n:Int)),A6,.pl (.int (at_:Int)),s8',s9']):=by
 have m0:∀(z j:Int),0<j->0<=z % j/\z % j<j:=λz j hj=>⟨qx z (by omega),qr z hj⟩
 have q:=m0 ((at_:Int)+1+r / 4 % ((n:Int) - 1)) (n:Int) (by omega)
 generalize hby:((at_:Int)+1+r / 4 % ((n:Int) - 1)) % (n:Int)=byz at q
 obtain⟨by_,hb⟩:∃b:Nat,byz=(b:Int):=⟨byz.toNat,by omega⟩
 subst hb
 have hbn:by_<n:=by omega
 have e8:sSet 8 (eOp modD (eOp addD (eOp addD (eVar 7) (eC (.int 1))) (eOp modD (eOp zbi (eVar 4) (eC (.int 4))) (eOp subD (eVar 5) (eC (.int 1))))) (eVar 5)) [A0,.pl (zab xs),A2,.ac (.list ds),.pl (.int r),.pl (.int (n:Int)),A6,.pl (.int (at_:Int)),s8,s9]=some (.nx [A0,.pl (zab xs),A2,.ac (.list ds),.pl (.int r),.pl (.int (n:Int)),A6,.pl (.int (at_:Int)),.pl (.int (by_:Int)),s9]):=by
  rw[zbg (zfa (zsl (zsl (i:=(at_:Int)) (j:=1) rfl rfl) (zfa (zgk (i:=r) (j:=4) rfl rfl (by decide) (by decide)) (zaqw (i:=(n:Int)) (j:=1) rfl rfl) (by omega))) (j:=(n:Int)) rfl (by omega)),hby]
  rfl
 have r3:=m0 r 3 (by decide)
 obtain⟨k,hk⟩:∃k:Nat,(n:Int) - r % 3=(k:Int):=⟨((n:Int) - r % 3).toNat,by omega⟩
 have ha':at_<xs.length:=by omega
 have hb':by_<xs.length:=by omega
 have sl:zaj (eSl (eVar 1) (zbe (eOp subD (eVar 5) (eOp modD (eVar 4) (eC (.int 3))))) zef) [A0,.pl (zab xs),A2,.ac (.list ds),.pl (.int r),.pl (.int (n:Int)),A6,.pl (.int (at_:Int)),.pl (.int (by_:Int)),s9]=some ((xs.drop k).map .str,[]):=by
  unfold zaj
  have lo:zbe (eOp subD (eVar 5) (eOp modD (eVar 4) (eC (.int 3)))) [A0,.pl (zab xs),A2,.ac (.list ds),.pl (.int r),.pl (.int (n:Int)),A6,.pl (.int (at_:Int)),.pl (.int (by_:Int)),s9]=some (some (k:Int)):=by
   rw[zmu (zaqw (i:=(n:Int)) rfl (zfa (i:=r) (j:=3) rfl rfl (by decide))),hk]
  rw[zain (x:=xs) (y:=xs.drop k) (f:=false) (bs:=[]) rfl lo rfl (by rw[zaaa,qBh])]
  rfl
 let p:Str->Bool:=λx=>!decide (x∈[xs[at_],xs[by_]])
 have c:zdy (gN 0) (zaz (eOp (inD true) (eVar 0) (eTup (zaa (eIxV 1 (eVar 2)) (zaa (eIxV 1 (eVar 3)) aNil))))) (eVar 0) [.no,.pl (zab xs),.pl (.int (at_:Int)),.pl (.int (by_:Int))] ((xs.drop k).map .str)=some (((xs.drop k).filter p).map .str):=by
  refine zel p λx hx=>⟨[.pl (.str x),.pl (zab xs),.pl (.int (at_:Int)),.pl (.int (by_:Int))],rfl,zeu ?_,λ_=>⟨vs x,rfl,rfl⟩⟩
  have i1:eIxV 1 (eVar 2) [.pl (.str x),.pl (zab xs),.pl (.int (at_:Int)),.pl (.int (by_:Int))]=some (vs xs[at_]):=zanr rfl rfl rfl ha'
  have i2:eIxV 1 (eVar 3) [.pl (.str x),.pl (zab xs),.pl (.int (at_:Int)),.pl (.int (by_:Int))]=some (vs xs[by_]):=zanr rfl rfl rfl hb'
  have tp:eTup (zaa (eIxV 1 (eVar 2)) (zaa (eIxV 1 (eVar 3)) aNil)) [.pl (.str x),.pl (zab xs),.pl (.int (at_:Int)),.pl (.int (by_:Int))]=some ⟨.tuple [.str xs[at_],.str xs[by_]],false,[]⟩:=by
   unfold eTup
   rw[zao i1 (zch i2)]
   rfl
  have st:eOp (inD true) (eVar 0) (eTup (zaa (eIxV 1 (eVar 2)) (zaa (eIxV 1 (eVar 3)) aNil))) [.pl (.str x),.pl (zab xs),.pl (.int (at_:Int)),.pl (.int (by_:Int))]=((inD true (.str x) (.tuple [.str xs[at_],.str xs[by_]])).bind λz=>some (⟨z.1,z.2,bsOf z.1 []⟩:Val)):=by
   unfold eOp
   rw[tp]
   rfl
  rw[st,zawq]
  rfl
 have e9:sSet 9 (zck ["_law_name"] [1,7,8] (zaj (eSl (eVar 1) (zbe (eOp subD (eVar 5) (eOp modD (eVar 4) (eC (.int 3))))) zef)) (gN 0) (zaz (eOp (inD true) (eVar 0) (eTup (zaa (eIxV 1 (eVar 2)) (zaa (eIxV 1 (eVar 3)) aNil))))) (eVar 0)) [A0,.pl (zab xs),A2,.ac (.list ds),.pl (.int r),.pl (.int (n:Int)),A6,.pl (.int (at_:Int)),.pl (.int (by_:Int)),s9]=some (.nx [A0,.pl (zab xs),A2,.ac (.list ds),.pl (.int r),.pl (.int (n:Int)),A6,.pl (.int (at_:Int)),.pl (.int (by_:Int)),.ac (zab ((xs.drop k).filter p))]):=by
  refine zbg (r:=⟨zab ((xs.drop k).filter p),true,[]⟩) ?_
  rw[zem (own:=["_law_name"]) (fr:=[1,7,8]) (ds:=(xs.drop k).map .str) (bs:=[]) sl (by rw[qC,qj];omega) c,zmi]
  rfl
 have hfl:((xs.drop k).filter p).length<=2:=qAI (qBQ _ _) (by rw[qj];omega)
 generalize hmo:(xs.drop k).filter p=more at e9 hfl
 refine⟨.many (xs[at_]::xs[by_]::more),.pl (.int (by_:Int)),.pl (zab more),λm hm=>?_,(by show(xs[at_]::xs[by_]::more).length<=4;rw[qy,qy];omega),(by simp[Arm.parts]),zai e8 (zai e9 ?_)⟩
 ·rcases qZ.mp hm with rfl|hm
  ·exact qAN _
  ·rcases qZ.mp hm with rfl|hm
   ·exact qAN _
   ·rw[<- hmo]at hm
    exact qAR (qAj.mp hm).1
 ·have i1:eIxV 1 (eVar 7) [A0,.pl (zab xs),A2,.ac (.list ds),.pl (.int r),.pl (.int (n:Int)),A6,.pl (.int (at_:Int)),.pl (.int (by_:Int)),.ac (zab more)]=some (vs xs[at_]):=zanr rfl rfl rfl ha'
  have i2:eIxV 1 (eVar 8) [A0,.pl (zab xs),A2,.ac (.list ds),.pl (.int r),.pl (.int (n:Int)),A6,.pl (.int (at_:Int)),.pl (.int (by_:Int)),.ac (zab more)]=some (vs xs[by_]):=zanr rfl rfl rfl hb'
  have l2:eLst (zaa (eIxV 1 (eVar 7)) (zaa (eIxV 1 (eVar 8)) aNil)) [A0,.pl (zab xs),A2,.ac (.list ds),.pl (.int r),.pl (.int (n:Int)),A6,.pl (.int (at_:Int)),.pl (.int (by_:Int)),.ac (zab more)]=some ⟨zab [xs[at_],xs[by_]],true,[]⟩:=by
   unfold eLst
   rw[zao i1 (zch i2)]
   rfl
  have ad:=zagz (x:=[xs[at_],xs[by_]]) (y:=more) (b:=eVar 9) (f2:=false) (b2:=[9]) l2 rfl (by show 2+more.length<=100000;omega)
  have tu:eCB zco (zaa (eOp addD (eLst (zaa (eIxV 1 (eVar 7)) (zaa (eIxV 1 (eVar 8)) aNil))) (eVar 9)) aNil) [A0,.pl (zab xs),A2,.ac (.list ds),.pl (.int r),.pl (.int (n:Int)),A6,.pl (.int (at_:Int)),.pl (.int (by_:Int)),.ac (zab more)]=some ⟨armD (.many (xs[at_]::xs[by_]::more)),false,[9]⟩:=by
   unfold eCB
   rw[zch ad]
   rfl
  exact zanq (i:=3) (ds:=ds) rfl tu hl (by decide)
end
theorem zaip{xs:List Str}{c:Int}{p:Nat}(hx:1<=xs.length/\xs.length<=16)(c0:0<=c)(hp:p<=3):∃cl:List Arm,zfn [.int c,zab xs,.int p]=some (zag cl,false)/\cl.length=p/\CallIn xs cl:=by
 have m0:∀(z j:Int),0<j->0<=z % j/\z % j<j:=λz j hj=>⟨qx z (by omega),qr z hj⟩
 have lp:=zec (enc:=λ(k:Nat)=>PyData.int (k:Int)) (g:=gN 6) (l:=List.range p) (env:=[.pl (.int c),.pl (zab xs),.pl (.int p),.ac (.list []),.pl (.int c),.pl (.int (xs.length:Int)),.no,.no,.no,.no])
  (body:=(sSeq (sSet 7 (eOp modD (eVar 4) (eVar 5)))
  (sSeq (sSet 4 (eOp zbi (eVar 4) (eVar 5)))
  (sSeq (sIf (zaz (eOp eqD (eOp modD (eVar 4) (eC (.int 4))) (eC (.int 2)))) (sApp 3 (eTup (zaa (eIxV 1 (eOp subD (eOp subD (eVar 5) (eC (.int 1))) (eVar 7))) aNil))) (sIf (zadx (zaz (eOp eqD (eOp modD (eVar 4) (eC (.int 4))) (eC (.int 3)))) (zaz (eOp gtD (eVar 5) (eC (.int 1))))) (sSeq (sSet 8 (eOp modD (eOp addD (eOp addD (eVar 7) (eC (.int 1))) (eOp modD (eOp zbi (eVar 4) (eC (.int 4))) (eOp subD (eVar 5) (eC (.int 1))))) (eVar 5)))
  (sSeq (sSet 9 (zck ["_law_name"] [1,7,8] (zaj (eSl (eVar 1) (zbe (eOp subD (eVar 5) (eOp modD (eVar 4) (eC (.int 3))))) zef)) (gN 0) (zaz (eOp (inD true) (eVar 0) (eTup (zaa (eIxV 1 (eVar 2)) (zaa (eIxV 1 (eVar 3)) aNil))))) (eVar 0)))
  (sApp 3 (eCB zco (zaa (eOp addD (eLst (zaa (eIxV 1 (eVar 7)) (zaa (eIxV 1 (eVar 8)) aNil))) (eVar 9)) aNil))))) (sApp 3 (eIxV 1 (eOp subD (eOp subD (eVar 5) (eC (.int 1))) (eVar 7))))))
  (sSet 4 (eOp zbi (eVar 4) (eOp mulD (eC (.int 4)) (eVar 5)))))))) (λpre env=>∃(cl:List Arm) (r:Int) (s6 s7 s8 s9:Sl),env=[.pl (.int c),.pl (zab xs),.pl (.int p),.ac (.list (cl.map armD)),.pl (.int r),.pl (.int (xs.length:Int)),s6,s7,s8,s9]/\0<=r/\cl.length=pre.length/\CallIn xs cl)
  ⟨[],c,_,_,_,_,rfl,c0,rfl,⟨λa h=>(nomatch h),λa h=>(nomatch h),λa h=>(nomatch h)⟩⟩ (by
   rintro pre k post env hk ⟨cl,r,s6,s7,s8,s9,rfl,r0,hcl,ok⟩
   have hpl:pre.length<4:=by
    have:=congrArg List.length hk
    simp at this;omega
   have q:=m0 r (xs.length:Int) (by omega)
   obtain⟨at_,hat⟩:∃a:Nat,r % (xs.length:Int)=(a:Int):=⟨(r % (xs.length:Int)).toNat,by omega⟩
   have ha:at_<xs.length:=by omega
   have e7:sSet 7 (eOp modD (eVar 4) (eVar 5)) [.pl (.int c),.pl (zab xs),.pl (.int p),.ac (.list (cl.map armD)),.pl (.int r),.pl (.int (xs.length:Int)),.pl (.int (k:Int)),s7,s8,s9]=some (.nx [.pl (.int c),.pl (zab xs),.pl (.int p),.ac (.list (cl.map armD)),.pl (.int r),.pl (.int (xs.length:Int)),.pl (.int (k:Int)),.pl (.int (at_:Int)),s8,s9]):=by
    rw[zbg (zfa (i:=r) (j:=(xs.length:Int)) rfl rfl (by omega)),hat];rfl
   have q0:0<=r / (xs.length:Int):=qB0 r0 (by omega)
   have e4:sSet 4 (eOp zbi (eVar 4) (eVar 5)) [.pl (.int c),.pl (zab xs),.pl (.int p),.ac (.list (cl.map armD)),.pl (.int r),.pl (.int (xs.length:Int)),.pl (.int (k:Int)),.pl (.int (at_:Int)),s8,s9]=some (.nx [.pl (.int c),.pl (zab xs),.pl (.int p),.ac (.list (cl.map armD)),.pl (.int (r / (xs.length:Int))),.pl (.int (xs.length:Int)),.pl (.int (k:Int)),.pl (.int (at_:Int)),s8,s9]):=zbg (zgk (i:=r) (j:=(xs.length:Int)) rfl rfl (by omega) (by omega))
   generalize r / (xs.length:Int)=r' at e4 q0
   have hds:(cl.map armD).length<100000:=by rw[qC];omega
   have t2:zaz (eOp eqD (eOp modD (eVar 4) (eC (.int 4))) (eC (.int 2))) [.pl (.int c),.pl (zab xs),.pl (.int p),.ac (.list (cl.map armD)),.pl (.int r'),.pl (.int (xs.length:Int)),.pl (.int (k:Int)),.pl (.int (at_:Int)),s8,s9]=some (r' % 4==2):=zeu (zsm (zfa rfl rfl (by decide)) rfl)
   have t3:zadx (zaz (eOp eqD (eOp modD (eVar 4) (eC (.int 4))) (eC (.int 3)))) (zaz (eOp gtD (eVar 5) (eC (.int 1)))) [.pl (.int c),.pl (zab xs),.pl (.int p),.ac (.list (cl.map armD)),.pl (.int r'),.pl (.int (xs.length:Int)),.pl (.int (k:Int)),.pl (.int (at_:Int)),s8,s9]=some ((r' % 4==3)&&decide (1<(xs.length:Int))):=by
    have t31:zaz (eOp eqD (eOp modD (eVar 4) (eC (.int 4))) (eC (.int 3))) [.pl (.int c),.pl (zab xs),.pl (.int p),.ac (.list (cl.map armD)),.pl (.int r'),.pl (.int (xs.length:Int)),.pl (.int (k:Int)),.pl (.int (at_:Int)),s8,s9]=some (r' % 4==3):=zeu (zsm (zfa rfl rfl (by decide)) rfl)
    have t32:zaz (eOp gtD (eVar 5) (eC (.int 1))) [.pl (.int c),.pl (zab xs),.pl (.int p),.ac (.list (cl.map armD)),.pl (.int r'),.pl (.int (xs.length:Int)),.pl (.int (k:Int)),.pl (.int (at_:Int)),s8,s9]=some (decide (1<(xs.length:Int))):=zeu (zbaw rfl rfl)
    unfold zadx
    rw[t31,qE,t32]
    cases(r' % 4==3)<;>rfl
   have fin:∀(a:Arm)(s8' s9':Sl),sSet 4 (eOp zbi (eVar 4) (eOp mulD (eC (.int 4)) (eVar 5))) [.pl (.int c),.pl (zab xs),.pl (.int p),.ac (.list (cl.map armD++[armD a])),.pl (.int r'),.pl (.int (xs.length:Int)),.pl (.int (k:Int)),.pl (.int (at_:Int)),s8',s9']=some (.nx [.pl (.int c),.pl (zab xs),.pl (.int p),.ac (.list ((cl++[a]).map armD)),.pl (.int (r' / (4 * (xs.length:Int)))),.pl (.int (xs.length:Int)),.pl (.int (k:Int)),.pl (.int (at_:Int)),s8',s9']):=λa s8' s9'=>by
    rw[qAJ]
    exact zbg (zgk (i:=r') rfl (zaqx (i:=4) (j:=(xs.length:Int)) rfl rfl (.inl b64)) (by omega) (by omega))
   have go:∀{G:SF}(a:Arm)(s8' s9':Sl),(∀m∈a.parts,m∈xs)->a.parts.length<=4->a.parts≠[]->G [.pl (.int c),.pl (zab xs),.pl (.int p),.ac (.list (cl.map armD)),.pl (.int r'),.pl (.int (xs.length:Int)),.pl (.int (k:Int)),.pl (.int (at_:Int)),s8,s9]=some (.nx [.pl (.int c),.pl (zab xs),.pl (.int p),.ac (.list (cl.map armD++[armD a])),.pl (.int r'),.pl (.int (xs.length:Int)),.pl (.int (k:Int)),.pl (.int (at_:Int)),s8',s9'])->
     ∃e1 e2,gN 6 (.int (k:Int)) [.pl (.int c),.pl (zab xs),.pl (.int p),.ac (.list (cl.map armD)),.pl (.int r),.pl (.int (xs.length:Int)),s6,s7,s8,s9]=some e1/\((sSeq (sSet 7 (eOp modD (eVar 4) (eVar 5))) (sSeq (sSet 4 (eOp zbi (eVar 4) (eVar 5))) (sSeq G (sSet 4 (eOp zbi (eVar 4) (eOp mulD (eC (.int 4)) (eVar 5))))))) e1=some (.nx e2)\/(sSeq (sSet 7 (eOp modD (eVar 4) (eVar 5))) (sSeq (sSet 4 (eOp zbi (eVar 4) (eVar 5))) (sSeq G (sSet 4 (eOp zbi (eVar 4) (eOp mulD (eC (.int 4)) (eVar 5))))))) e1=some (.ct e2))/\
      ∃(cl':List Arm)(r:Int)(s6 s7 s8 s9:Sl),e2=[.pl (.int c),.pl (zab xs),.pl (.int p),.ac (.list (cl'.map armD)),.pl (.int r),.pl (.int (xs.length:Int)),s6,s7,s8,s9]/\0<=r/\cl'.length=(pre++[k]).length/\CallIn xs cl':=λ{G} a s8' s9' h1 h2 h3 hg=>
    ⟨_,_,rfl,.inl (zai e7 (zai e4 (zai hg (fin a s8' s9')))),cl++[a],_,_,_,_,_,rfl,qB0 q0 (by omega),by simp[hcl],ok.snoc h1 h2 h3⟩
   cases h2:(r' % 4==2)with
   | true=>
    rw[h2]at t2
    obtain⟨a,a1,a2,a3,a4⟩:=zawr (A0:=.pl (.int c)) (A2:=.pl (.int p)) (A6:=.pl (.int (k:Int))) (s8:=s8) (s9:=s9) (ds:=cl.map armD) (xs:=xs) (r:=r') (n:=xs.length) (at_:=at_) rfl ha hds
    exact go a _ _ a1 a2 a3 (if_t t2 a4)
   | false=>
    rw[h2]at t2
    cases h3:((r' % 4==3)&&decide (1<(xs.length:Int)))with
    | true=>
     rw[h3]at t3
     have h1:1<xs.length:=by
      have:=of_decide_eq_true (Bool.and_eq_true_iff.mp h3).2
      omega
     obtain⟨a,s8',s9',a1,a2,a3,a4⟩:=zark (A0:=.pl (.int c)) (A2:=.pl (.int p)) (A6:=.pl (.int (k:Int))) (s8:=s8) (s9:=s9) (ds:=cl.map armD) (xs:=xs) (r:=r') (n:=xs.length) (at_:=at_) rfl ha h1 q0 hds hx.2
     exact go a _ _ a1 a2 a3 (if_f t2 (if_t t3 a4))
    | false=>
     rw[h3]at t3
     obtain⟨a,a1,a2,a3,a4⟩:=zarj (A0:=.pl (.int c)) (A2:=.pl (.int p)) (A6:=.pl (.int (k:Int))) (s8:=s8) (s9:=s9) (ds:=cl.map armD) (xs:=xs) (r:=r') (n:=xs.length) (at_:=at_) rfl ha hds
     exact go a _ _ a1 a2 a3 (if_f t2 (if_f t3 a4)))
 obtain⟨env',lp,cl,r,s6,s7,s8,s9,rfl,_,hcl,ok⟩:=lp
 have el:eCB lenD (zaa (eVar 1) aNil) [.pl (.int c),.pl (zab xs),.pl (.int p),.ac (.list []),.pl (.int c),.no,.no,.no,.no,.no]=some (vi (xs.length:Int)):=by
  have:=zmv (a:=eVar 1) (env:=[.pl (.int c),.pl (zab xs),.pl (.int p),.ac (.list []),.pl (.int c),.no,.no,.no,.no,.no]) (ds:=xs.map .str) (fr:=false) (bs:=[]) rfl
  rw[qC]at this
  exact this
 have it:zew (zaa (eVar 2) aNil) [.pl (.int c),.pl (zab xs),.pl (.int p),.ac (.list []),.pl (.int c),.pl (.int (xs.length:Int)),.no,.no,.no,.no]=some ((List.range p).map (λ(k:Nat)=>PyData.int (k:Int)),[]):=by
  unfold zew
  rw[zch (r:=vi (p:Int)) rfl,qE]
  simp only
  rw[if_pos (by omega),zpe]
  rfl
 refine⟨cl,zgj rfl (zai rfl (zai (zbg (r:=vi c) rfl) (zai (zbg el) (zai (zgi it lp) (zir (bs:=[3]) rfl))))),by rw[hcl,List.length_range],ok⟩
theorem zadb:∀(l:List (List Str)),(∀ks∈l,LowS ks)->qAF (l.map zaq)=true/\qh (l.map zaq)<=1
 | [],_=>⟨rfl,by simp[qh]⟩
 | ks::l,h=>by
  obtain⟨h1,h2⟩:=zadb l λx hx=>h x (qK _ hx)
  obtain⟨g1,g2⟩:=zmk ks (h ks qb)
  constructor
  ·rw[qR]
   simp only[qAF,zaq,PyData.canLay0,qo]
   exact⟨g1,h1⟩
  ·rw[qR]
   simp only[qh,zaq,PyData.depth]
   rw[g2]
   have:qh (l.map λks=>PyData.tuple (ks.map .str))<=1:=h2
   omega
theorem zaev{l:List (List Str)}(h:∀ks∈l,LowS ks):qt (.list (l.map zaq))=true:=by
 obtain⟨h1,h2⟩:=zadb l h
 unfold qt
 rw[qo]
 refine⟨by simpa [PyData.canLay0]using h1,decide_eq_true ?_⟩
 simp only[PyData.depth]
 omega
theorem zans(l:List (List Str))(ks:List Str):((l.map zaq).any λe=>qAO e (zaq ks))=decide (ks∈l):=by
 rw[qCH,qAo,qA9,decide_eq_true_iff]
 have e:∀a b:List Str,qAO (zaq a) (zaq b)=(a==b):=λa b=>by
  unfold zaq
  simp only[qAO]
  exact zzz a b
 constructor
 ·rintro⟨y,hy,h⟩
  have h:qAO (zaq y) (zaq ks)=true:=h
  rw[e,beq_iff_eq]at h
  rw[<- h];exact hy
 ·intro h
  refine⟨ks,h,?_⟩
  show qAO (zaq ks) (zaq ks)=true
  rw[e];exact beq_self_eq_true _
theorem zaws{l:List (List Str)}(h:∀x∈l,LowS x)(hk:LowS ks):inS neg (zaq ks) (.list (l.map zaq))=some (.bool (if neg then !decide (ks∈l)else decide (ks∈l)),false):=by
 unfold inS
 simp only[zgg]
 rw[if_pos ⟨zly hk,zaev h⟩,zans]
theorem zaew(lo:∀x∈nm W,Low x)(h:∀k∈ks,k∈nm W):LowS ks:=λk hk=>zhl (lo k (h k hk))
structure MadeOk(W:Web)(p:Nat)(ts:List Str)(rs:List (Str×List Str)):Prop where
 kinds:∀r∈rs,∀k∈r.2,k∈nm W
 size:∀r∈rs,r.2.length=p
 unl:(rs.map (·.2)).Nodup
 sub:(rs.map (·.1)).Sublist ts
def geB(W:Web)(a b:List Str):Bool:=(a.zip b).all λz=>decide (z.2∈up W z.1)
theorem zarl:zlx W a b=(!(a==b)&&geB W a b):=rfl
abbrev Rule:=Str×List Str
structure OrdOk(W:Web)(p:Nat)(S:List Rule):Prop where
 kinds:∀r∈S,∀k∈r.2,k∈nm W
 size:∀r∈S,r.2.length=p
abbrev nms(S:List Rule):List Str:=S.map (·.1)
theorem zadc:∀(l:List Rule),(∀r∈l,qAH r.1=true/\LowS r.2)->qAF (l.map zcw)=true/\qh (l.map zcw)<=2
 | [],_=>⟨rfl,qAl _⟩
 | p::r,h=>by
  obtain⟨h1,h2⟩:=zadc r λq hq=>h q (qK _ hq)
  obtain⟨g1,g2⟩:=h p qb
  obtain⟨l1,l2⟩:=zmk p.2 g2
  rw[qR]
  constructor
  ·show((qAH p.1&&(qAF (p.2.map .str)&&true))&&qAF (r.map zcw))=true
   rw[g1,l1,h1];rfl
  ·show max (max 0 (max (qh (p.2.map .str)+1) 0)+1) (qh (r.map zcw))<=2
   rw[l2]
   omega
theorem zant(a:List Str):zag (a.map Arm.one)=zaq a:=by
 unfold zag zaq
 rw[qBa]
 rfl
theorem zahb:∀(a b:List Str),fitB W b (a.map Arm.one)=geB W a b
 | [],b=>by unfold fitB geB;simp
 | x::a,[]=>by unfold fitB geB;simp
 | x::a,y::b=>by
  have ih:=zahb (W:=W) a b
  unfold fitB geB at ih ⊢
  rw[qR,qBL,qBL,qA0,qA0,ih]
  congr 1
  rw[decide_eq_decide,zzy]
  show(∃n∈[x],y∈up W n)↔y∈up W x
  simp
theorem zaab(h:LowS xs):qt (zdc xs)=true:=by
 have w1:qAH "none"=true:=by decide +kernel
 have w2:qAH "rule"=true:=by decide +kernel
 have w3:qAH "quarrel"=true:=by decide +kernel
 match xs,h with
 | [],_=>decide +kernel
 | [x],h=>
  unfold qt zdc
  rw[qo]
  refine⟨?_,decide_eq_true (by show max 0 (max 0 0)+1<=64;decide)⟩
  show(qAH "rule"&&(qAH x&&true))=true
  rw[w2,h x qb];rfl
 | x::y::xs,h=>
  obtain⟨h1,h2⟩:=zmk (x::y::xs) h
  unfold qt zdc zaq
  rw[qo]
  refine⟨?_,decide_eq_true ?_⟩
  ·show(qAH "quarrel"&&(qAF ((x::y::xs).map .str)&&true))=true
   rw[w3,h1];rfl
  ·show max 0 (max (qh ((x::y::xs).map .str)+1) 0)+1<=64
   rw[h2];decide
theorem zarm(s:qt d=true):neD d d=some (.bool false,false):=by
 unfold neD eqOk
 rw[s,qDE,qA2,if_pos rfl,qCl _ (qAf s)]
 rfl
theorem zbcm(ha:a env=some ⟨d,f1,b1⟩)(hb:b env=some ⟨d,f2,b2⟩)(s:qt d=true):zaz (eOp neD a b) env=some false:=by
 refine zeu ?_
 unfold eOp;rw[ha,hb]
 simp only[qE]
 rw[zarm s];rfl
theorem zaex(h:WebOk W)(lo:∀x∈nm W,Low x)(lr:∀r∈rs,qAH r.1=true/\LowS r.2):qt (zam W p rs)=true:=by
 obtain⟨w1,w2⟩:=zagr W (zawn h lo)
 obtain⟨r1,r2⟩:=zadc rs lr
 unfold qt zam
 rw[qo]
 refine⟨?_,decide_eq_true ?_⟩
 ·show(qAF (W.map rowD)&&(true&&(qAF (rs.map zcw)&&true)))=true
  rw[w1,r1];rfl
 ·show max (qh (W.map rowD)+1) (max 0 (max (qh (rs.map zcw)+1) 0))+1<=64
  omega
theorem zbax{x y:Val}(ha:a env=some x)(hb:b env=some y)(hw:w x.d y.d=some (z,fr)):eOp w a b env=some ⟨z,fr,bsOf z (x.bs++y.bs)⟩:=by
 unfold eOp;rw[ha,qE,hb,qE,hw];rfl
theorem zawt(hi:env[i]?=some (.pl (.str x)))(hj:env[j]?=some s)(hs:Hd (zab xs) s):zaz (eOp (inD neg) (eVar i) (eVar j)) env=some (if neg then !decide (x∈xs)else decide (x∈xs)):=by
 obtain⟨bs,e⟩:=e_hd hj hs
 have ei:eVar i env=some (vs x):=by unfold eVar;rw[hi]
 exact zeu (zbax ei e (zul neg xs x))
theorem zanu:∀c<128,∀q∈[34,39],(Builtin.Str.reprChar q c).length<=4:=by decide +kernel
def zfj(W:Web)(ns:List Str):Option Str:=ns.find? λn=>!decide (n∈nm W)
theorem zyl:∀(ns:List Str)(all:List Str)(s:Sl),(∀x∈ns,x∉nm W->atD (.str x)=true)->∃s',zadz (gN 3) (xIf (zaz (eOp (inD true) (eVar 3) (eVar 2))) (zov "NoKind" (eVar 3)) (xOf sNil)) (ns.map .str) [.pl (webD W),.pl (zab all),.ac (zab (nm W)),s] =
  (match zfj W ns with|none=>some (.ok (.nx [.pl (webD W),.pl (zab all),.ac (zab (nm W)),s']))|some x=>some (.rx "NoKind" (.str x)))
 | [],all,s,_=>⟨s,rfl⟩
 | n::ns,all,s,h=>by
  have t:=zawt (neg:=true) (i:=3) (j:=2) (env:=[.pl (webD W),.pl (zab all),.ac (zab (nm W)),.pl (.str n)]) (x:=n) (xs:=nm W) rfl rfl (.inr rfl)
  by_cases hm:n∈nm W
  ·obtain⟨s',e⟩:=zyl ns all (.pl (.str n)) λx hx=>h x (qK _ hx)
   refine⟨s',?_⟩
   have b:xIf (zaz (eOp (inD true) (eVar 3) (eVar 2))) (zov "NoKind" (eVar 3)) (xOf sNil) [.pl (webD W),.pl (zab all),.ac (zab (nm W)),.pl (.str n)]=some (.ok (.nx [.pl (webD W),.pl (zab all),.ac (zab (nm W)),.pl (.str n)])):=by
    unfold xIf
    rw[t,qE,if_neg (by simp[hm])]
    rfl
   have f:zfj W (n::ns)=zfj W ns:=by unfold zfj;rw[qA5];simp[hm]
   rw[f,<- e]
   show((xIf _ _ _ [.pl (webD W),.pl (zab all),.ac (zab (nm W)),.pl (.str n)]).bind _)=_
   rw[b];rfl
  ·refine⟨s,?_⟩
   have b:xIf (zaz (eOp (inD true) (eVar 3) (eVar 2))) (zov "NoKind" (eVar 3)) (xOf sNil) [.pl (webD W),.pl (zab all),.ac (zab (nm W)),.pl (.str n)]=some (.rx "NoKind" (.str n)):=by
    unfold xIf
    rw[t,qE,if_pos (by simp[hm])]
    show(if atD (.str n)=true then some (OutX.rx "NoKind" (.str n))else none)=_
    rw[if_pos (h n (by simp) hm)]
   have f:zfj W (n::ns)=some n:=by unfold zfj;rw[qA5];simp[hm]
   rw[f]
   show((xIf _ _ _ [.pl (webD W),.pl (zab all),.ac (zab (nm W)),.pl (.str n)]).bind _)=_
   rw[b];rfl
theorem zwz{W:Web}(hl:W.length<100000)(h:∀x∈ns,x∉nm W->atD (.str x)=true):zfc [webD W,zab ns]=some (match zfj W ns with|none=>.ok .none false|some x=>.rx "NoKind" (.str x)):=by
 obtain⟨s',e⟩:=zyl (W:=W) ns ns .no h
 have f:zfb [.pl (webD W),.pl (zab ns),.no,.no]=zadz (gN 3) (xIf (zaz (eOp (inD true) (eVar 3) (eVar 2))) (zov "NoKind" (eVar 3)) (xOf sNil)) (ns.map .str) [.pl (webD W),.pl (zab ns),.ac (zab (nm W)),.no]:=by
  unfold zfb xSeq xOf
  rw[zbg (zbd (n:=1) (rs:=[⟨webD W,false,[]⟩]) rfl rfl (zxo hl))]
  rfl
 unfold zfc fnX
 show(match zfb [.pl (webD W),.pl (zab ns),.no,.no]with|some (.ok (.rt d fr))=>some (ResX.ok d fr)|some (.ok (.nx _))=>some (.ok .none false)|some (.rx c d)=>some (.rx c d)|_=>none)=_
 rw[f,e]
 cases zfj W ns<;>rfl
theorem zaey(h:f env=some (.ok (.nx e1)))(k:g e1=o):xSeq f g env=o:=by unfold xSeq;rw[h];exact k
theorem zwm(h:f env=some (.rx c d)):xSeq f g env=some (.rx c d):=by unfold xSeq;rw[h];rfl
theorem zbcn(h:t env=some true)(k:f env=o):xIf t f g env=o:=by unfold xIf;rw[h];exact k
theorem zbay(h:t env=some false)(k:g env=o):xIf t f g env=o:=by unfold xIf;rw[h];exact k
theorem zanv{r:Val}(h:f env=some r)(ha:atD r.d=true):zov c f env=some (.rx c r.d):=by unfold zov;rw[h,qE,if_pos ha]
theorem zarn{rs:List Val}(h:f env=some rs)(hn:rs.length=n)(k:g (zds rs)=some (.ok d fr)):zaea n g f env=some (.ok (.nx env)):=by unfold zaea;rw[h,qE,if_pos hn,k];rfl
theorem zahc{rs:List Val}(h:f env=some rs)(hn:rs.length=n)(k:g (zds rs)=some (.rx c d)):zaea n g f env=some (.rx c d):=by unfold zaea;rw[h,qE,if_pos hn,k];rfl
theorem zaez{rs:List Val}(h:f env=some rs)(hn:rs.length=n)(k:g (zds rs)=some (.rx c d)):zaib i n g f env=some (.rx c d):=by unfold zaib;rw[h,qE,if_pos hn,k];rfl
theorem zbaz(h:zid n ds=env)(e:f env=some (.ok (.nx e1))):fnX n f ds=some (.ok .none false):=by unfold fnX;rw[h,e]
theorem zsh(h:zid n ds=env)(e:f env=some (.rx c d)):fnX n f ds=some (.rx c d):=by unfold fnX;rw[h,e]
def zfk(W:Web)(p:Nat)(c:List Arm):Option (Str×PyData):=if c.length=p then(zfj W (c.flatMap Arm.parts)).map λx=>("NoKind",.str x)else some ("NoCall",.none)
structure CallLike(W:Web)(c:List Arm):Prop where
 len:c.length<300
 few:∀a∈c,a.parts.length<300
 at_:∀a∈c,∀n∈a.parts,n∉nm W->atD (.str n)=true
theorem zanw(a b:Nat):neD (.int (a:Int)) (.int (b:Int))=some (.bool (!decide (a=b)),false):=by
 by_cases e:a=b
 ·subst e
  rw[zabt,decide_eq_true rfl];rfl
 ·have:(a:Int)≠(b:Int):=λz=>e (Int.ofNat.inj z)
  rw[decide_eq_false e]
  show some (PyData.bool (!((a:Int)==(b:Int))),false)=_
  rw[beq_eq_false_iff_ne.mpr this]
theorem zaac{W:Web}(h:WebOk W){p:Nat}{c:List Arm}(hc:CallLike W c):zhc [webD W,.int p,zag c]=some (match zfk W p c with|none=>.ok .none false|some z=>.rx z.1 z.2):=by
 have hW:W.length<=12:=h.len
 have e2:eCB lenD (zaa (eVar 2) aNil) [.pl (webD W),.pl (.int p),.pl (zag c)]=some (vi (c.map armD).length):=rfl
 have t:zaz (eOp neD (eCB lenD (zaa (eVar 2) aNil)) (eVar 1)) [.pl (webD W),.pl (.int p),.pl (zag c)]=some (!decide (c.length=p)):=by
  refine zeu ?_
  unfold eOp
  rw[e2]
  show((neD (.int ((c.map armD).length:Nat)) (.int (p:Nat))).bind λz=>some (⟨z.1,z.2,bsOf z.1 ([]++[])⟩:Val))=_
  rw[qC,zanw];rfl
 unfold zfk
 by_cases hp:c.length=p
 ·rw[decide_eq_true hp]at t
  rw[if_pos hp]
  have cn:=zwz (W:=W) (by omega) (ns:=c.flatMap Arm.parts) λx hx hm=>by
   obtain⟨a,ha',hn'⟩:=qA8.mp hx
   exact hc.at_ a ha' x hn' hm
  have ar:zaa (eVar 0) (zaa (zau 1 zdr (zaa (eVar 2) aNil)) aNil) [.pl (webD W),.pl (.int p),.pl (zag c)]=some [⟨webD W,false,[]⟩,⟨zab (c.flatMap Arm.parts),true,[]⟩]:=zao rfl (zch (zbd (n:=1) (rs:=[⟨zag c,false,[]⟩]) rfl rfl (zlw hc.len hc.few)))
  cases hf:zfj W (c.flatMap Arm.parts)with
  | none=>
   rw[hf]at cn
   exact zbaz (env:=[.pl (webD W),.pl (.int p),.pl (zag c)]) rfl (zaey (zbay t rfl) (zarn (n:=2) ar rfl cn))
  | some x=>
   rw[hf]at cn
   exact zsh (env:=[.pl (webD W),.pl (.int p),.pl (zag c)]) rfl (zaey (zbay t rfl) (zahc (n:=2) ar rfl cn))
 ·rw[decide_eq_false hp]at t
  rw[if_neg hp]
  exact zsh (env:=[.pl (webD W),.pl (.int p),.pl (zag c)]) rfl (zwm (zbcn t (zanv (r:=⟨.none,false,[]⟩) rfl rfl)))
theorem zawu{q:List Str}(h1:q.length<300)(h2:∀k∈q,k∈nm W):CallOk W (q.map Arm.one):=⟨by rw[qC];exact h1,λz hz=>by obtain⟨x,_,rfl⟩:=qAa.mp hz;show 1<300;decide,λz hz n hn=>by
 obtain⟨x,hx,rfl⟩:=qAa.mp hz
 have:n=x:=by simpa [Arm.parts]using hn
 rw[this];exact h2 x hx⟩
theorem zsi(d:PyData):bsOf d []=[]:=by unfold bsOf;split<;>rfl
theorem zatk{k n:Nat}{b:EF}{env:DEnv}{ds:List PyData}{d:PyData}(he:env[k]?=some (.pl (.tuple ds)))(hb:b env=some (vi (n:Int)))(hd:ds[n]?=some d):eIxV k b env=some ⟨d,false,[]⟩:=by
 unfold eIxV
 rw[he]
 unfold eOp eVar
 rw[he]
 simp only[qE,hb]
 show((atI ds (n:Int)).map λd=>(d,false)).bind _=_
 rw[zki hd]
 show some (⟨d,false,bsOf d ([]++[])⟩:Val)=_
 rw[qw,zsi]
theorem zatl{x y:List PyData}(ha:a env=some ⟨.tuple x,f1,[]⟩)(hb:b env=some ⟨.tuple y,f2,[]⟩)(h:x.length+y.length<=100000):eOp addE a b env=some ⟨.tuple (x++y),false,[]⟩:=by
 unfold eOp
 rw[ha,hb]
 show(addE (.tuple x) (.tuple y)).bind (λz=>some (⟨z.1,z.2,bsOf z.1 ([]++[])⟩:Val))=_
 have e:addE (.tuple x) (.tuple y)=some (.tuple (x++y),false):=by
  cases x with
  | nil=>rfl
  | cons p x=>exact if_pos ⟨rfl,h⟩
 rw[e,qE,qw,zsi]
theorem zbco(ha:a env=some ⟨.tuple ds,f,[]⟩)(hl:l env=some lo)(hh:h env=some hi)(e:cutD ds lo hi=es):eSlT a l h env=some ⟨.tuple es,false,[]⟩:=by
 unfold eSlT
 rw[ha,hl,hh]
 show some (⟨.tuple (cutD ds lo hi),false,[]⟩:Val)=_
 rw[e]
theorem zahd{rs:List Val}(h:f env=some rs)(hn:rs.length=n)(e:g (zds rs)=some (.rx c d)):zamp n k g f env=some (.rx c d):=by
 unfold zamp;rw[h,qE,if_pos hn,e];rfl
section
variable{W:Web}{p:Nat}{rs:List Rule}{c:List Arm}{z:Str×PyData}
theorem zpz(h:WebOk W)(hc:CallLike W c)(hb:zfk W p c=some z):zbj [zam W p rs,zag c]=some (.rx z.1 z.2):=by
 have g:=zaac h (p:=p) hc
 rw[hb]at g
 exact zsh (env:=[.pl (zam W p rs),.pl (zag c),.no,.no,.no,.no]) rfl (zaey rfl (zwm (zahc (n:=3) (rs:=[⟨webD W,false,[]⟩,vi p,⟨zag c,false,[]⟩]) rfl rfl g)))
theorem zadd(h:WebOk W)(hc:CallLike W c)(hb:zfk W p c=some z):zdj [zam W p rs,zag c]=some (.rx z.1 z.2):=
 zsh (env:=[.pl (zam W p rs),.pl (zag c),.no]) rfl (zwm (zaez (rs:=[⟨zam W p rs,false,[]⟩,⟨zag c,false,[]⟩]) rfl rfl (zpz h hc hb)))
theorem zaro(h:WebOk W)(hc:CallLike W c)(hb:zfk W p c=some z):zcs [zam W p rs,zag c]=some (.rx z.1 z.2):=
 zsh (env:=[.pl (zam W p rs),.pl (zag c)]) rfl (zahd (rs:=[⟨zam W p rs,false,[]⟩,⟨zag c,false,[]⟩]) rfl rfl (zadd h hc hb))
theorem zanx(h:WebOk W)(hc:CallLike W c)(hb:zfk W p c=some z):zea [zam W p rs,zag c]=some (.rx z.1 z.2):=
 zsh (env:=[.pl (zam W p rs),.pl (zag c)]) rfl (zahd (rs:=[⟨zam W p rs,false,[]⟩,⟨zag c,false,[]⟩]) rfl rfl (zpz h hc hb))
theorem zarp(h:WebOk W)(hc:CallLike W c)(hb:zfk W p c=some z):zho [zam W p rs,zag c]=some (.rx z.1 z.2):=
 zsh (env:=[.pl (zam W p rs),.pl (zag c),.no,.no,.no,.no,.no,.no,.no,.no,.no]) rfl (zwm (zaez (rs:=[⟨zam W p rs,false,[]⟩,⟨zag c,false,[]⟩]) rfl rfl (zpz h hc hb)))
theorem zaiq(h:WebOk W)(hc:CallLike W c)(hb:zfk W p c=some z)(d e:PyData):zfh [zam W p rs,zag c,d,e]=some (.rx z.1 z.2):=
 zsh (env:=[.pl (zam W p rs),.pl (zag c),.pl d,.pl e,.no,.no,.no,.no,.no,.no,.no]) rfl (zwm (zaez (rs:=[⟨zam W p rs,false,[]⟩,⟨zag c,false,[]⟩]) rfl rfl (zpz h hc hb)))
def zqa(z:Str×PyData):PyData:=.tuple [.bool (decide (z.1="NoCall")),.bool (decide (z.1="NoKind")),.bool true,.bool false,z.2]
theorem zbba{c:Str}{d:PyData}(hc:c∈(["NoCall","NoKind"]:List Str)):zbb (.rx c d)=some (zqa (c,d)):=by
 have h:c="NoCall"\/c="NoKind":=by simpa using hc
 rcases h with rfl|rfl<;>rfl
end
theorem zarq{x:Str}(h:Low x)(hl:x.length<=20):(reprText x).length<=1000:=by
 have hq:reprQuote x∈[34,39]:=by unfold reprQuote;split<;>simp
 have fold:∀(l:List Nat)(a:Array Nat),(∀c∈l,c<128)->(l.foldl (λout c=>out++(Builtin.Str.reprChar (reprQuote x) c).toArray) a).size<=a.size+4 * l.length:=by
  intro l
  induction l with
  | nil=>intro a _;simp
  | cons c l ih=>
   intro a hc
   rw[qBj]
   have h1:=ih (a++(Builtin.Str.reprChar (reprQuote x) c).toArray) λc' hc'=>hc c' (qK _ hc')
   have h2:=zanu c (hc c (by simp)) _ hq
   rw[Array.size_append]at h1
   simp only[qM,qy]at h1 ⊢
   omega
 show((x.cps.foldl (λout c=>out++(Builtin.Str.reprChar (reprQuote x) c).toArray) #[reprQuote x]).push (reprQuote x)).size<=1000
 rw[Array.size_push,<- Array.foldl_toList]
 have h1:=fold x.cps.toList #[reprQuote x] λc hc=>h c (by first|exact hc|exact qDN.mp hc|exact Array.mem_toList.mp hc)
 have h2:x.cps.toList.length=x.length:=rfl
 have h3:(#[reprQuote x]:Array Nat).size=1:=rfl
 omega
theorem zahe{x:Str}(h:Low x/\x.length<=20):atD (.str x)=true:=decide_eq_true (zarq h.1 h.2)
theorem zany{xs:List Str}(he:env[k]?=some s)(hs:s=.pl (zab xs)\/s=.ac (zab xs)):eCB lenD (zaa (eVar k) aNil) env=some (vi ((xs.length:Nat):Int)):=by
 rcases hs with rfl|rfl
 ·rw[zmv (ds:=xs.map .str) (fr:=false) (bs:=[]) (by unfold eVar;rw[he];rfl),qC]
 ·rw[zmv (ds:=xs.map .str) (fr:=false) (bs:=[k]) (by unfold eVar;rw[he];rfl),qC]
theorem zbbb{i:Int}(ha:a env=some ⟨.int i,false,bs⟩)(h1:-4611686018427387904<=i)(h2:i<4611686018427387904):zew (zaa a aNil) env=some ((List.range i.toNat).map (λ(k:Nat)=>PyData.int (k:Int)),[]):=by
 unfold zew
 rw[zch ha]
 simp only[qE]
 rw[if_pos ⟨h1,h2⟩,zpe]
theorem zwn{xs:List Str}(hx:xs.length<=12):∀(t:Nat)(ls es:List Str)(rs:Int)(s5 s6:Sl),(es++ls).Perm xs->t<=ls.length->
  ∃es' s2 s3 s5' s6',forL (gN 5) (sSeq (sSet 6 (eOp modD (eVar 3) (eCB lenD (zaa (eVar 2) aNil)))) (sSeq (sSet 3 (eOp zbi (eVar 3) (eCB lenD (zaa (eVar 2) aNil)))) (zhj 4 2 (eVar 6)))) ((List.range' es.length t).map λ(k:Nat)=>PyData.int (k:Int)) [A,B,.ac (zab ls),.pl (.int rs),.ac (zab es),s5,s6] =
   some (.nx [A,B,s2,s3,.ac (zab es'),s5',s6'])/\(∃ls',(es'++ls').Perm xs)/\es'.length=t+es.length
 | 0,ls,es,rs,s5,s6,pm,_=>⟨es,_,_,s5,s6,rfl,⟨ls,pm⟩,by simp⟩
 | t+1,ls,es,rs,s5,s6,pm,hl=>by
  have hls:0<ls.length:=by omega
  have pl:=pm.length_eq
  rw[qO]at pl
  have a0:=qx rs (show((ls.length:Nat):Int)≠0 by omega)
  have a1:=qr rs (show(0:Int)<((ls.length:Nat):Int) by omega)
  have hk:(rs % ((ls.length:Nat):Int)).toNat<ls.length:=by omega
  have e9:((rs % ((ls.length:Nat):Int)).toNat:Int)=rs % ((ls.length:Nat):Int):=by omega
  generalize eA:(rs % ((ls.length:Nat):Int)).toNat=at_ at hk e9
  have pm2:((es++[ls[at_]])++ls.eraseIdx at_).Perm xs:=by
   refine List.Perm.trans ?_ pm
   rw[qBC]
   exact qCv es (zqk ls at_ hk)
  obtain⟨es',s2,s3,s5',s6',q,hp,hlen⟩:=zwn (A:=A) (B:=B) hx t (ls.eraseIdx at_) (es++[ls[at_]]) (rs / ((ls.length:Nat):Int)) (.pl (.int (es.length:Int))) (.pl (.int (at_:Int))) pm2 (by rw[qCu hk];omega)
  refine⟨es',s2,s3,s5',s6',?_,hp,by rw[hlen];simp;omega⟩
  rw[List.range'_succ,qR]
  unfold forL
  simp only[gN,qE,qBf,qBe]
  have st1:sSet 6 (eOp modD (eVar 3) (eCB lenD (zaa (eVar 2) aNil))) [A,B,.ac (zab ls),.pl (.int rs),.ac (zab es),.pl (.int (es.length:Int)),s6]=some (.nx [A,B,.ac (zab ls),.pl (.int rs),.ac (zab es),.pl (.int (es.length:Int)),.pl (.int (at_:Int))]):=by
   have:=zbg (i:=6) (zfa (a:=eVar 3) (env:=[A,B,.ac (zab ls),.pl (.int rs),.ac (zab es),.pl (.int (es.length:Int)),s6]) rfl (zmv (a:=eVar 2) rfl) (by rw[qC];omega))
   rw[this,qC,<- e9];rfl
  have st2:sSet 3 (eOp zbi (eVar 3) (eCB lenD (zaa (eVar 2) aNil))) [A,B,.ac (zab ls),.pl (.int rs),.ac (zab es),.pl (.int (es.length:Int)),.pl (.int (at_:Int))]=some (.nx [A,B,.ac (zab ls),.pl (.int (rs / ((ls.length:Nat):Int))),.ac (zab es),.pl (.int (es.length:Int)),.pl (.int (at_:Int))]):=by
   have:=zbg (i:=3) (zgk (a:=eVar 3) (env:=[A,B,.ac (zab ls),.pl (.int rs),.ac (zab es),.pl (.int (es.length:Int)),.pl (.int (at_:Int))]) rfl (zmv (a:=eVar 2) rfl) (by rw[qC];omega) (by rw[qC];omega))
   rw[this,qC];rfl
  have st3:zhj 4 2 (eVar 6) [A,B,.ac (zab ls),.pl (.int (rs / ((ls.length:Nat):Int))),.ac (zab es),.pl (.int (es.length:Int)),.pl (.int (at_:Int))]=some (.nx [A,B,.ac (zab (ls.eraseIdx at_)),.pl (.int (rs / ((ls.length:Nat):Int))),.ac (zab (es++[ls[at_]])),.pl (.int (es.length:Int)),.pl (.int (at_:Int))]):=by
   simp only[zhj,zab,eVar,qAL,qAK,qE]
   rw[if_pos ⟨by omega,by omega,by rw[qC];omega,by decide⟩,qBE,qN,qH hk]
   simp[zur]
  rw[zai st1 (zai st2 st3),qE]
  rw[show(es++[ls[at_]]).length=es.length+1 by simp]at q
  exact q
theorem zawv{xs:List Str}(h0:0<xs.length)(h12:xs.length<=12):∃ar,zdi [.int c,zab xs]=some (zaq ar,false)/\(∀x∈ar,x∈xs)/\ar.length<=12/\ar≠[]:=by
 have m4:=qx c (show((xs.length:Nat):Int)≠0 by omega)
 have m4':=qr c (show(0:Int)<((xs.length:Nat):Int) by omega)
 generalize eN:1+c % ((xs.length:Nat):Int)=N
 have hN:1<=N/\N<=xs.length:=by omega
 obtain⟨es,s2,s3,s5,s6,q,⟨ls,pm⟩,hes⟩:=zwn (A:=.pl (.int c)) (B:=.pl (zab xs)) h12 N.toNat xs [] (c / ((xs.length:Nat):Int)) .no .no (qCb _) (by omega)
 have hes:es.length=N.toNat:=by simpa using hes
 refine⟨es,zgj (env:=[.pl (.int c),.pl (zab xs),.no,.no,.no,.no,.no]) rfl (zai (e1:=[.pl (.int c),.pl (zab xs),.ac (zab xs),.no,.no,.no,.no]) rfl (zai (zbg (r:=vi _) (zgk rfl (zany (xs:=xs) rfl (.inl rfl)) (by omega) (by omega))) (zai rfl (zai (zgi (ds:=(List.range' ([]:List Str).length N.toNat).map λ(k:Nat)=>PyData.int (k:Int)) (bs:=[]) ?_ q) (zir (bs:=[4]) (fr:=false) ?_))))),λx hx=>pm.mem_iff.mp (q9 _ hx),by omega,λz=>by rw[z]at hes;simp at hes;omega⟩
 ·have it:=zbbb (a:=eOp addD (eC (.int 1)) (eOp modD (eVar 0) (eCB lenD (zaa (eVar 1) aNil)))) (env:=[.pl (.int c),.pl (zab xs),.ac (zab xs),.pl (.int (c / ((xs.length:Nat):Int))),.ac (.list []),.no,.no]) (i:=N) (bs:=[]) (by rw[<- eN];exact zsl rfl (zfa rfl (zany (xs:=xs) rfl (.inl rfl)) (by omega))) (by omega) (by omega)
  rw[qDS]at it
  exact it
 ·unfold eCB
  rw[zch (r:=⟨zab es,false,[4]⟩) rfl]
  rfl
structure Cl12(xs:List Str)(c:List Arm):Prop where
 kinds:∀a∈c,∀n∈a.parts,n∈xs
 few:∀a∈c,a.parts.length<=12
 some:∀a∈c,a.parts≠[]
theorem zanz(ha:a env=some ⟨x,f1,b1⟩)(hb:b env=some ⟨y,f2,b2⟩)(h:f x y=some (.bool c,false)):eOp f a b env=some (vb c):=by
 unfold eOp;rw[ha,hb];simp only[qE];rw[h];rfl
theorem zaww{g:ResX->Option PyData}{cs rs:List Val}(h1:zaqm js env=some cs)(h2:a ((zds cs).map .pl)=some rs)(hn:rs.length=n)(h3:gf (zds rs)=some r)(h4:g r=some d):zhk js n gf a g env=some ⟨d,false,bsOf d (bss cs)⟩:=by
 unfold zhk
 rw[h1,qE,h2,qE,if_pos hn,h3,qE,h4];rfl
theorem zqb{rs:List Val}(h:f env=some rs)(hl:rs.length<=100000):eLst f env=some ⟨.list (zds rs),true,bss rs⟩:=by unfold eLst;rw[h,qE,if_pos hl]
theorem zawx{z:Str×PyData}(hb:zfk W p c=some z):z.1∈(["NoCall","NoKind"]:List Str):=by
 unfold zfk at hb
 split at hb
 ·obtain⟨x,_,rfl⟩:=qG.mp hb;simp
 ·cases hb;simp
theorem zbbc(s:qt d=true):eqD d d=some (.bool true,false):=by
 unfold eqD eqOk
 rw[s,qDE,qA2,if_pos rfl,qCl _ (qAf s)]
theorem zahf{z:Str×PyData}(h:z.2=.none\/∃x,z.2=.str x/\qAH x=true):qt (zqa z)=true:=by
 obtain⟨c,d⟩:=z
 rcases h with h|⟨x,h,hx⟩
 ·cases h;rfl
 ·cases h
  unfold zqa qt
  rw[qo]
  refine⟨?_,decide_eq_true (by show(max 0 (max 0 (max 0 (max 0 (max 0 0))))+1)<=64;decide)⟩
  show(true&&(true&&(true&&(true&&(qAH x&&true)))))=true
  rw[hx];rfl
section
variable{W:Web}{p:Nat}{rs:List Rule}{c:List Arm}{z:Str×PyData}
theorem zaoa{vs:List Val}(hz:z.1∈(["NoCall","NoKind"]:List Str))(s:qt (zqa z)=true)(ha:a [.pl (zam W p rs),.pl (zag c)]=some vs)(hn:vs.length=n)(hg:g (zds vs)=some (.rx z.1 z.2)) :
  eOp eqD (zhk [0,1] n g a zbb) (eVar 2) [.pl (zam W p rs),.pl (zag c),.pl (zqa z),.no]=some (vb true):=
 zanz (x:=zqa z) (y:=zqa z) (f1:=false) (f2:=false) (b2:=[]) (zaww (cs:=[⟨zam W p rs,false,[]⟩,⟨zag c,false,[]⟩]) rfl ha hn hg (zbba hz)) rfl (zbbc s)
theorem zwo(h:WebOk W)(hc:CallLike W c)(hb:zfk W p c=some z)(s:qt (zqa z)=true):zbh [zam W p rs,zag c,zqa z]=some (.bool true,false):=by
 have hz:=zawx hb
 have a1:=zaoa (n:=2) (g:=zcs) (a:=zaa (eVar 0) (zaa (eVar 1) aNil)) (W:=W) (p:=p) (rs:=rs) (c:=c) hz s rfl rfl (zaro h hc hb)
 have a2:=zaoa (n:=2) (g:=zea) (a:=zaa (eVar 0) (zaa (eVar 1) aNil)) (W:=W) (p:=p) (rs:=rs) (c:=c) hz s rfl rfl (zanx h hc hb)
 have a3:=zaoa (n:=2) (g:=zdj) (a:=zaa (eVar 0) (zaa (eVar 1) aNil)) (W:=W) (p:=p) (rs:=rs) (c:=c) hz s rfl rfl (zadd h hc hb)
 have a4:=zaoa (n:=2) (g:=zho) (a:=zaa (eVar 0) (zaa (eVar 1) aNil)) (W:=W) (p:=p) (rs:=rs) (c:=c) hz s rfl rfl (zarp h hc hb)
 have a5:=zaoa (n:=4) (g:=zfh) (a:=zaa (eVar 0) (zaa (eVar 1) (zaa (eTup (zaa (eC (.str "none")) aNil)) (zaa (eLst aNil) aNil)))) (W:=W) (p:=p) (rs:=rs) (c:=c) hz s rfl rfl (zaiq h hc hb _ _)
 refine zgj (env:=[.pl (zam W p rs),.pl (zag c),.pl (zqa z),.no]) rfl (zir (bs:=[]) ?_)
 have el:=zqb (zao a1 (zao a2 (zao a3 (zao a4 (zch a5))))) (show(5:Nat)<=100000 by decide)
 unfold eCB
 rw[zch el]
 rfl
end
theorem zaob:∀(xs:List Str),(sSeq (sIf (zaz (eOp eqD (eCB lenD (zaa (eVar 4) aNil)) (eC (.int 0)))) (sRet (eTup (zaa (eC (.str "none")) aNil))) sNil)
  (sSeq (sIf (zaz (eOp eqD (eCB lenD (zaa (eVar 4) aNil)) (eC (.int 1)))) (sRet (eTup (zaa (eC (.str "rule")) (zaa (eIxV 4 (eC (.int 0))) aNil)))) sNil)
  (sRet (eTup (zaa (eC (.str "quarrel")) (zaa (eCB zco (zaa (eVar 4) aNil)) aNil)))))) [A0,A1,A2,A3,.ac (zab xs),A5,A6]=some (.rt (zdc xs) false)
 | []=>rfl
 | [x]=>rfl
 | x::y::xs=>by
  have t:∀j:Int,(j=0\/j=1)->zaz (eOp eqD (eCB lenD (zaa (eVar 4) aNil)) (eC (.int j))) [A0,A1,A2,A3,.ac (zab (x::y::xs)),A5,A6]=some false:=λj hj=>by
   rw[zeu (zsm (i:=((x::y::xs).map PyData.str).length) (j:=j) (zmv rfl) rfl)]
   congr 1
   rw[beq_eq_false_iff_ne,qC,qy,qy]
   omega
  exact zai (if_f (t 0 (.inl rfl)) rfl) (zai (if_f (t 1 (.inr rfl)) rfl) rfl)
abbrev duE(W:Web)(rs:List Rule)(c:List Arm)(s3 s4 s5 s6:Sl):DEnv:=[.pl (.dict (dS zab (ups W))),.pl (zan rs),.pl (zag c),s3,s4,s5,s6]
theorem zawy(h:WebOk W){c:List Arm}(hr:RulesOk W rs)(hc:CallOk W c)(ok:OrdOk W c.length rs) :
  zdz [.dict (dS zab (ups W)),zan rs,zag c]=some (zdc (nms (zwy W (fitL W rs c))),false):=by
 have hl:=hr.len
 generalize hS:fitL W rs c=S
 have hsub:∀x∈S,x∈rs:=λx hx=>by rw[<- hS]at hx;exact(qAj.mp hx).1
 have sl:S.length<=rs.length:=by rw[<- hS];exact qBQ _ _
 have e3:sSet 3 (zck ["_law_rule"] [0,2] (zaj (eVar 1)) (gN 0) (tTru (zau 3 zee (zaa (eVar 1) (zaa (eIxV 0 (eC (.int 1))) (zaa (eVar 2) aNil))))) (eVar 0)) (duE W rs c .no .no .no .no)=some (.nx (duE W rs c (.ac (zan S)) .no .no .no)):=by
  have cm:zdy (gN 0) (tTru (zau 3 zee (zaa (eVar 1) (zaa (eIxV 0 (eC (.int 1))) (zaa (eVar 2) aNil))))) (eVar 0) [.no,.pl (.dict (dS zab (ups W))),.pl (zag c)] (rs.map zcw)=some ((rs.filter λr=>fitB W r.2 c).map zcw):=
   zel (enc:=zcw) (out:=zcw) (λr=>fitB W r.2 c) λr hrr=>⟨[.pl (zcw r),.pl (.dict (dS zab (ups W))),.pl (zag c)],rfl,
    zagy (n:=3) (rs:=[⟨.dict (dS zab (ups W)),false,[]⟩,⟨zaq r.2,false,bsOf (zaq r.2) ([]++[])⟩,⟨zag c,false,[]⟩]) rfl rfl (zyk h hc (by rw[ok.size r hrr];exact qL _)),λ_=>⟨⟨zcw r,false,[]⟩,rfl,rfl⟩⟩
  have co:=zem (own:=["_law_rule"]) (fr:=[0,2]) (fi:=zaj (eVar 1)) (env:=duE W rs c .no .no .no .no) (ds:=rs.map zcw) (bs:=[]) rfl (by rw[qC];omega) cm
  have e0:(if zei ((rs.filter λr=>fitB W r.2 c).map zcw)=true then([]:List Nat)else[]++capA [0,2] (duE W rs c .no .no .no .no))=[]:=by split<;>rfl
  rw[e0,show(rs.filter λr=>fitB W r.2 c)=S from hS]at co
  exact zbg co
 obtain⟨env',lp2,t5,t6,rfl⟩:=zec (enc:=zcw) (g:=gT 2 (zar 5 (zar 6 zdt))) (l:=S) (env:=duE W rs c (.pl (zan S)) (.ac (zab [])) .no .no)
  (body:=(sIf (zgr (tTru (eCB (anyD λbs=>bs.any id) (zaa (zck ["_law_one","_law_other"] [0,6] (zaj (eVar 3)) (gT 2 (zar 0 (zar 1 zdt))) zcf (eAnd (eOp neD (eVar 1) (eVar 3)) (zau 3 zee (zaa (eVar 2) (zaa (eVar 3) (zaa (eVar 1) aNil)))))) aNil)))) (sApp 4 (eVar 5)) sNil))
  (λpre env=>∃s5 s6,env=duE W rs c (.pl (zan S)) (.ac (zab (nms (pre.filter λr=>!(S.any λq=>zlx W q.2 r.2))))) s5 s6) ⟨_,_,rfl⟩ (by
   rintro pre r post env hp ⟨s5,s6,rfl⟩
   have hrr:r∈rs:=hsub r (by rw[<- hp];simp)
   have hpl:pre.length<300:=by
    have:=congrArg List.length hp
    simp at this;omega
   refine⟨_,duE W rs c (.pl (zan S)) (.ac (zab (nms ((pre++[r]).filter λr=>!(S.any λq=>zlx W q.2 r.2))))) (.pl (.str r.1)) (.pl (zaq r.2)),rfl,.inl ?_,_,_,rfl⟩
   have cm2:zdy (gT 2 (zar 0 (zar 1 zdt))) zcf (eAnd (eOp neD (eVar 1) (eVar 3)) (zau 3 zee (zaa (eVar 2) (zaa (eVar 3) (zaa (eVar 1) aNil))))) [.no,.no,.pl (.dict (dS zab (ups W))),.pl (zaq r.2)] (S.map zcw)=some (S.map λq=>.bool (zlx W q.2 r.2)):=by
    refine zdh (enc:=zcw) (out:=λq=>.bool (zlx W q.2 r.2)) λq hq=>⟨[.pl (.str q.1),.pl (zaq q.2),.pl (.dict (dS zab (ups W))),.pl (zaq r.2)],rfl,rfl,vb (zlx W q.2 r.2),?_,rfl⟩
    have hqr:=hsub q hq
    have gf:=zyk h (ks:=r.2) (zawu (hr.few q hqr) (hr.kinds q hqr)) (by rw[qC,ok.size r hrr,ok.size q hqr];exact qL _)
    rw[zant,zahb]at gf
    have e1:eOp neD (eVar 1) (eVar 3) [.pl (.str q.1),.pl (zaq q.2),.pl (.dict (dS zab (ups W))),.pl (zaq r.2)]=some (vb (!(q.2==r.2))):=by
     show((neD (zaq q.2) (zaq r.2)).bind λz=>some (⟨z.1,z.2,bsOf z.1 ([]++[])⟩:Val))=_
     rw[zagx (hr.low q hqr) (hr.low r hrr)];rfl
    have e2:zau 3 zee (zaa (eVar 2) (zaa (eVar 3) (zaa (eVar 1) aNil))) [.pl (.str q.1),.pl (zaq q.2),.pl (.dict (dS zab (ups W))),.pl (zaq r.2)]=some (vb (geB W q.2 r.2)):=zbd (n:=3) (rs:=[⟨.dict (dS zab (ups W)),false,[]⟩,⟨zaq r.2,false,[]⟩,⟨zaq q.2,false,[]⟩]) rfl rfl gf
    unfold eAnd
    rw[e1,e2,zarl]
    cases q.2==r.2<;>rfl
   generalize hacc:pre.filter (λr=>!(S.any λq=>zlx W q.2 r.2))=acc
   have la:acc.length<300:=by rw[<- hacc];exact qBM (qBQ _ _) hpl
   have an:=zus (zarh (f:=λq:Rule=>zlx W q.2 r.2) (zem (own:=["_law_one","_law_other"]) (fr:=[0,6]) (fi:=zaj (eVar 3)) (env:=duE W rs c (.pl (zan S)) (.ac (zab (nms acc))) (.pl (.str r.1)) (.pl (zaq r.2))) (ds:=S.map zcw) (bs:=[]) rfl (by rw[qC];omega) cm2))
   rw[List.filter_append,hacc]
   cases hb:(S.any λq=>zlx W q.2 r.2)with
   | true=>
    rw[hb]at an
    refine if_f an ?_
    rw[show([r].filter λr=>!(S.any λq=>zlx W q.2 r.2))=[] by rw[qCC,hb];rfl,qw]
    rfl
   | false=>
    rw[hb]at an
    refine if_t an ?_
    rw[show([r].filter λr=>!(S.any λq=>zlx W q.2 r.2))=[r] by rw[qCC,hb];rfl]
    rw[zuq (ds:=(nms acc).map .str) (d:=.str r.1) (fr:=false) rfl rfl (by rw[qC,qC];omega)]
    congr 2
    unfold zab nms
    simp)
 exact zgj (env:=duE W rs c .no .no .no .no) rfl (zai e3 (zai rfl (zai (zgi (ds:=S.map zcw) (bs:=[3]) rfl lp2) (zaob _))))
structure Bk15(W:Web)(p:Nat)(rs:List Rule):Prop where
 ok:RulesOk W rs
 ord:OrdOk W p rs
 low:∀r∈rs,qAH r.1=true
abbrev anE(W:Web)(p:Nat)(r1 r2:List Rule)(Cs:List (List Arm))(s3 s4 s5 s6:Sl):DEnv:=[.pl (.list [zam W p r1,zam W p r2]),.pl (.dict (dS zab (ups W))),.pl (.list (Cs.map zag)),s3,s4,s5,s6]
abbrev ANB:SF:=(sSeq (sSet 5 (zau 3 zdz (zaa (eVar 1) (zaa (eIxV 4 (eC (.int 2))) (zaa (eVar 3) aNil)))))
  (sSeq (sSet 6 (zau 2 zeo (zaa (eVar 4) (zaa (eVar 3) aNil))))
  (sIf (tOrF (zgr (tTru (eIsi "tuple" (eVar 6)))) (zaz (eOp neD (eVar 6) (eVar 5)))) (sRet (eC (.bool false))) sNil)))
theorem zawz(xs:List Str):isiB "tuple" (zdc xs)=true:=by
 match xs with
 | []=>rfl
 | [x]=>rfl
 | x::y::xs=>rfl
theorem zaxa(h:WebOk W){c:List Arm}(b:Bk15 W p rs)(hc:CallOk W c)(hp:c.length=p)(s5 s6:Sl) :
  ∃s5' s6',ANB (anE W p r1 r2 Cs (.pl (zag c)) (.pl (zam W p rs)) s5 s6)=some (.nx (anE W p r1 r2 Cs (.pl (zag c)) (.pl (zam W p rs)) s5' s6')):=by
 have hd:=zawy h b.ok hc (by rw[hp];exact b.ord)
 have ha:=zaeu h b.ok hc
 rw[hp]at ha
 have lo:LowS (nms (zwy W (fitL W rs c))):=λx hx=>by
  obtain⟨r,hr,rfl⟩:=qAa.mp hx
  exact b.low r (qAj.mp (qAj.mp hr).1).1
 have sh:=zaab lo
 generalize hx:nms (zwy W (fitL W rs c))=xs at hd lo sh
 have ha':zeo [zam W p rs,zag c]=some (zdc xs,false):=by rw[<- hx];exact ha
 refine⟨.pl (zdc xs),.pl (zdc xs),?_⟩
 have e5:sSet 5 (zau 3 zdz (zaa (eVar 1) (zaa (eIxV 4 (eC (.int 2))) (zaa (eVar 3) aNil)))) (anE W p r1 r2 Cs (.pl (zag c)) (.pl (zam W p rs)) s5 s6)=some (.nx (anE W p r1 r2 Cs (.pl (zag c)) (.pl (zam W p rs)) (.pl (zdc xs)) s6)):=by
  have ix:eIxV 4 (eC (.int 2)) (anE W p r1 r2 Cs (.pl (zag c)) (.pl (zam W p rs)) s5 s6)=some ⟨zan rs,false,[]⟩:=by
   show some (⟨zan rs,false,bsOf (zan rs) ([]++[])⟩:Val)=_
   rw[qw,zsi]
  have:=zbg (i:=5) (zbd (n:=3) (g:=zdz) (rs:=[⟨.dict (dS zab (ups W)),false,[]⟩,⟨zan rs,false,[]⟩,⟨zag c,false,[]⟩]) (zao (a:=eVar 1) rfl (zao ix (zch (a:=eVar 3) rfl))) rfl hd)
  rw[show bss ([⟨.dict (dS zab (ups W)),false,[]⟩,⟨zan rs,false,[]⟩,⟨zag c,false,[]⟩]:List Val)=[]from rfl,zsi]at this
  exact this
 have e6:sSet 6 (zau 2 zeo (zaa (eVar 4) (zaa (eVar 3) aNil))) (anE W p r1 r2 Cs (.pl (zag c)) (.pl (zam W p rs)) (.pl (zdc xs)) s6)=some (.nx (anE W p r1 r2 Cs (.pl (zag c)) (.pl (zam W p rs)) (.pl (zdc xs)) (.pl (zdc xs)))):=by
  have:=zbg (i:=6) (zbd (n:=2) (g:=zeo) (env:=anE W p r1 r2 Cs (.pl (zag c)) (.pl (zam W p rs)) (.pl (zdc xs)) s6) (rs:=[⟨zam W p rs,false,[]⟩,⟨zag c,false,[]⟩]) (zao (a:=eVar 4) rfl (zch (a:=eVar 3) rfl)) rfl ha')
  rw[show bss ([⟨zam W p rs,false,[]⟩,⟨zag c,false,[]⟩]:List Val)=[]from rfl,zsi]at this
  exact this
 have t1:zgr (tTru (eIsi "tuple" (eVar 6))) (anE W p r1 r2 Cs (.pl (zag c)) (.pl (zam W p rs)) (.pl (zdc xs)) (.pl (zdc xs)))=some false:=by
  refine zus (c:=true) ?_
  show some (⟨.bool (isiB "tuple" (zdc xs)),false,[]⟩:Val)=_
  rw[zawz]
 have t2:zaz (eOp neD (eVar 6) (eVar 5)) (anE W p r1 r2 Cs (.pl (zag c)) (.pl (zam W p rs)) (.pl (zdc xs)) (.pl (zdc xs)))=some false:=zbcm (d:=zdc xs) (f1:=false) (f2:=false) (b1:=[]) (b2:=[]) rfl rfl sh
 refine zai e5 (zai e6 (if_f ?_ rfl))
 unfold tOrF
 rw[t1]
 exact t2
theorem zair(h:WebOk W){Cs:List (List Arm)}(b1:Bk15 W p r1)(b2:Bk15 W p r2)(hc:∀c∈Cs,CallOk W c/\c.length=p):zbl [.list [zam W p r1,zam W p r2],.dict (dS zab (ups W)),.list (Cs.map zag)]=some (.bool true,false):=by
 have inner:∀c∈Cs,∀s4 s5 s6:Sl,∃env',forL (gN 4) ANB ([r1,r2,r1,r2].map (zam W p)) (anE W p r1 r2 Cs (.pl (zag c)) s4 s5 s6)=some (.nx env')/\∃s4 s5 s6,env'=anE W p r1 r2 Cs (.pl (zag c)) s4 s5 s6:=by
  intro c hcc s4 s5 s6
  refine zec (λpre env=>∃s4 s5 s6,env=anE W p r1 r2 Cs (.pl (zag c)) s4 s5 s6) ⟨_,_,_,rfl⟩ ?_
  rintro pre rs post env hp ⟨s4,s5,s6,rfl⟩
  have hb:Bk15 W p rs:=by
   have:rs∈[r1,r2,r1,r2]:=by rw[<- hp];simp
   have:rs=r1\/rs=r2\/rs=r1\/rs=r2:=by simpa using this
   rcases this with rfl|rfl|rfl|rfl
   ·exact b1
   ·exact b2
   ·exact b1
   ·exact b2
  obtain⟨s5',s6',k⟩:=zaxa (r1:=r1) (r2:=r2) (Cs:=Cs) h hb (hc c hcc).1 (hc c hcc).2 s5 s6
  exact⟨_,_,rfl,.inl k,_,_,_,rfl⟩
 have outer:∃env',forL (gN 3) (sFor (zaj (eOp addD (eVar 0) (eVar 0))) (gN 4) ANB) (Cs.map zag) (anE W p r1 r2 Cs .no .no .no .no)=some (.nx env')/\∃s3 s4 s5 s6,env'=anE W p r1 r2 Cs s3 s4 s5 s6:=by
  refine zec (λpre env=>∃s3 s4 s5 s6,env=anE W p r1 r2 Cs s3 s4 s5 s6) ⟨_,_,_,_,rfl⟩ ?_
  rintro pre c post env hp ⟨s3,s4,s5,s6,rfl⟩
  have hcc:c∈Cs:=by rw[<- hp];simp
  obtain⟨env',k,s4',s5',s6',rfl⟩:=inner c hcc s4 s5 s6
  exact⟨_,_,rfl,.inl (zgi (ds:=[r1,r2,r1,r2].map (zam W p)) (bs:=[]) rfl k),_,_,_,_,rfl⟩
 obtain⟨env',lo,s3,s4,s5,s6,rfl⟩:=outer
 exact zgj (env:=anE W p r1 r2 Cs .no .no .no .no) rfl (zai (zgi (ds:=Cs.map zag) (bs:=[]) rfl lo) rfl)
theorem zade{i k:Nat}{fk fv:EF}{env:DEnv}{ds:List PyData}{r:Val}(he:env[i]?=some (.ac (.list ds)))(hv:fv env=some r)(hk:fk env=some (vi (k:Int)))(hkl:k<ds.length)(hb:i∉r.bs):znq i fk fv env=some (.nx ((frzs env r.bs).set i (.ac (.list (ds.set k r.d))))):=by
 unfold znq
 rw[he]
 show(fv env).bind _=_
 rw[hv,qE,hk,qE]
 show((ixN ds.length (k:Int)).bind _)=_
 have:ixN ds.length (k:Int)=some k:=by unfold ixN;simp;omega
 rw[this,qE,if_pos hb]
theorem zbcp{i:Nat}{a:AF}{env:DEnv}{ds:List PyData}{k:Nat}{r:Val}(he:env[i]?=some (.ac (.list ds)))(ha:a env=some [vi (k:Int),r])(hk:k<=ds.length)(hl:ds.length<100000)(hb:r.bs=[]):sIns i a env=some (.nx (env.set i (.ac (.list (insL ds k r.d))))):=by
 unfold sIns
 rw[he]
 show(a env).bind _=_
 rw[ha]
 show(if 0<=(k:Int)/\(k:Int).toNat<=ds.length/\ds.length<100000/\i∉r.bs then _ else none)=_
 rw[if_pos ⟨by omega,by omega,hl,by rw[hb];simp⟩,hb,qBE]
 rfl
abbrev stE(c:List Arm)(z0 z1:Int)(o0 o1:Str)(s3 s4 s5 s6:Sl):DEnv:=[.pl (zag c),.pl (zbx [z0,z1]),.pl (zab [o0,o1]),s3,s4,s5,s6]
abbrev stK(c:List Arm)(z0 z1:Int)(o0 o1:Str)(k j:Nat)(s5 s6:Sl):DEnv:=stE c z0 z1 o0 o1 (.pl (.int (k:Int))) (.pl (.int (j:Int))) s5 s6
abbrev zfp(R:List Arm):PyData:=.list (R.map armD)
structure St15(W:Web)(c R:List Arm)(o0 o1:Str)(n at_:Nat):Prop where
 len:R.length=c.length
 few:∀a∈R,a.parts.length<=n
 mem:∀a∈R,∀y∈a.parts,y=o0\/y=o1\/y∈nm W
 has:∃a,R[at_]?=some a/\o0∈a.parts
section
variable{W:Web}{c R:List Arm}{z0 z1:Int}{o0 o1:Str}{n at_:Nat}
theorem zqc:(R.map armD).set k (armD a)=(R.set k a).map armD:=by rw[List.map_set]
theorem zgp{l:List Arm}(h:x∈l.set k a):x=a\/x∈l:=by
 rcases List.mem_or_eq_of_mem_set h with h|h
 ·exact .inr h
 ·exact .inl h
theorem zaoc(ok:CallOk W c)(hf:∀a∈c,a.parts.length<=12)(h0:0<c.length)(h3:c.length<=3):∃w at_,zeq [zag c,zbx [z0,z1],zab [o0,o1]]=some (zag w,false)/\St15 W c w o0 o1 14 at_:=by
 have hc0:(0:Int)<((c.length:Nat):Int):=by omega
 obtain⟨k,hk⟩:=qBk (qx z0 (show((c.length:Nat):Int)≠0 by omega))
 obtain⟨j,hj⟩:=qBk (qx z1 (show((c.length:Nat):Int)≠0 by omega))
 have kl:k<c.length:=by have:=qr z0 hc0;omega
 have jl:j<c.length:=by have:=qr z1 hc0;omega
 have ln:∀s3 s4 s5 s6:Sl,eCB lenD (zaa (eVar 0) aNil) (stE c z0 z1 o0 o1 s3 s4 s5 s6)=some (vi ((c.length:Nat):Int)):=λs3 s4 s5 s6=>by
  show some (vi (((c.map armD).length:Nat):Int))=_
  rw[qC]
 have c0:∀s3 s4 s5 s6:Sl,eIxV 1 (eC (.int 0)) (stE c z0 z1 o0 o1 s3 s4 s5 s6)=some (vi z0):=λ_ _ _ _=>rfl
 have c1:∀s3 s4 s5 s6:Sl,eIxV 1 (eC (.int 1)) (stE c z0 z1 o0 o1 s3 s4 s5 s6)=some (vi z1):=λ_ _ _ _=>rfl
 have e3:sSet 3 (eOp modD (eIxV 1 (eC (.int 0))) (eCB lenD (zaa (eVar 0) aNil))) (stE c z0 z1 o0 o1 .no .no .no .no)=some (.nx (stE c z0 z1 o0 o1 (.pl (.int (k:Int))) .no .no .no)):=by
  refine zbg (r:=vi (k:Int)) ?_
  rw[zfa (c0 _ _ _ _) (ln _ _ _ _) hc0,hk]
 have e4:sSet 4 (eOp modD (eIxV 1 (eC (.int 1))) (eCB lenD (zaa (eVar 0) aNil))) (stE c z0 z1 o0 o1 (.pl (.int (k:Int))) .no .no .no)=some (.nx (stK c z0 z1 o0 o1 k j .no .no)):=by
  refine zbg (r:=vi (j:Int)) ?_
  rw[zfa (c1 _ _ _ _) (ln _ _ _ _) hc0,hj]
 have e5:sSet 5 (eCB zmo (zaa (eVar 0) aNil)) (stK c z0 z1 o0 o1 k j .no .no)=some (.nx (stK c z0 z1 o0 o1 k j (.ac (zfp c)) .no)):=by
  have el:eCB zmo (zaa (eVar 0) aNil) (stK c z0 z1 o0 o1 k j .no .no)=some ⟨zfp c,true,[]⟩:=by
   show some (⟨zfp c,true,bsOf (zfp c) []⟩:Val)=_
   rw[zsi]
  exact zbg el
 have e5b:znq 5 (eVar 3) (eIxV 2 (eC (.int 0))) (stK c z0 z1 o0 o1 k j (.ac (zfp c)) .no)=some (.nx (stK c z0 z1 o0 o1 k j (.ac (zfp (c.set k (.one o0)))) .no)):=by
  rw[zade (k:=k) (r:=vs o0) (ds:=c.map armD) rfl rfl rfl (by rw[qC];exact kl) (by show 5∉([]:List Nat);simp)]
  show some (Out.nx [_,_,_,_,_,.ac (.list ((c.map armD).set k (armD (.one o0)))),_])=_
  rw[zqc]
 have i1:St15 W c (c.set k (.one o0)) o0 o1 12 k:=⟨by rw[qd],λa ha=>by
   rcases zgp ha with rfl|h
   ·show 1<=12;decide
   ·exact hf a h,λa ha y hy=>by
   rcases zgp ha with rfl|h
   ·exact .inl (by simpa [Arm.parts]using hy)
   ·exact .inr (.inr (ok.kinds a h y hy)),⟨.one o0,by rw[qm (by exact kl)],by simp[Arm.parts]⟩⟩
 have e6:∃R s6,St15 W c R o0 o1 13 k/\sIf (zaz (eOp eqD (eOp modD (eOp zbi (eIxV 1 (eC (.int 0))) (eC (.int 3))) (eC (.int 2))) (eC (.int 1)))) (sSeq (sSet 6 (zau 1 zaw (zaa (eIxV 0 (eVar 3)) aNil)))
  (sSeq (sIns 6 (zaa (eOp modD (eOp zbi (eIxV 1 (eC (.int 1))) (eC (.int 3))) (eOp addD (eCB lenD (zaa (eVar 6) aNil)) (eC (.int 1)))) (zaa (eIxV 2 (eC (.int 0))) aNil)))
  (znq 5 (eVar 3) (eCB zco (zaa (eVar 6) aNil))))) sNil (stK c z0 z1 o0 o1 k j (.ac (zfp (c.set k (.one o0)))) .no)=some (.nx (stK c z0 z1 o0 o1 k j (.ac (zfp R)) s6)):=by
  have tc:zaz (eOp eqD (eOp modD (eOp zbi (eIxV 1 (eC (.int 0))) (eC (.int 3))) (eC (.int 2))) (eC (.int 1))) (stK c z0 z1 o0 o1 k j (.ac (zfp (c.set k (.one o0)))) .no)=some (z0 / 3 % 2==1):=
   zeu (zsm (zfa (zgk (c0 _ _ _ _) rfl (by decide) (by decide)) rfl (by decide)) rfl)
  cases hb:(z0 / 3 % 2==1)with
  | false=>
   rw[hb]at tc
   exact⟨c.set k (.one o0),.no,⟨i1.len,λa ha=>qBD (i1.few a ha),i1.mem,i1.has⟩,if_f tc rfl⟩
  | true=>
   rw[hb]at tc
   have hpl:c[k].parts.length<=12:=hf _ (qAN kl)
   generalize hP:c[k].parts=P at hpl
   have ix:eIxV 0 (eVar 3) (stK c z0 z1 o0 o1 k j (.ac (zfp (c.set k (.one o0)))) .no)=some ⟨armD c[k],false,[]⟩:=zatk (ds:=c.map armD) (n:=k) rfl rfl (by rw[qN,qH kl];rfl)
   have gn:=zdl c[k]
   rw[hP]at gn
   have a6:sSet 6 (zau 1 zaw (zaa (eIxV 0 (eVar 3)) aNil)) (stK c z0 z1 o0 o1 k j (.ac (zfp (c.set k (.one o0)))) .no)=some (.nx (stK c z0 z1 o0 o1 k j (.ac (zfp (c.set k (.one o0)))) (.ac (zab P)))):=
    zbg (r:=⟨zab P,true,[]⟩) (zbd (n:=1) (rs:=[⟨armD c[k],false,[]⟩]) (zch ix) rfl gn)
   have b0:=qx (z1 / 3) (show((P.length:Nat):Int)+1≠0 by omega)
   have b1:=qr (z1 / 3) (show(0:Int)<((P.length:Nat):Int)+1 by omega)
   obtain⟨m,hm⟩:=qBk b0
   have ml:m<=P.length:=by omega
   have b6:sIns 6 (zaa (eOp modD (eOp zbi (eIxV 1 (eC (.int 1))) (eC (.int 3))) (eOp addD (eCB lenD (zaa (eVar 6) aNil)) (eC (.int 1)))) (zaa (eIxV 2 (eC (.int 0))) aNil)) (stK c z0 z1 o0 o1 k j (.ac (zfp (c.set k (.one o0)))) (.ac (zab P)))=some (.nx (stK c z0 z1 o0 o1 k j (.ac (zfp (c.set k (.one o0)))) (.ac (zab (insL P m o0))))):=by
    have el:eCB lenD (zaa (eVar 6) aNil) (stK c z0 z1 o0 o1 k j (.ac (zfp (c.set k (.one o0)))) (.ac (zab P)))=some (vi ((P.length:Nat):Int)):=zany (xs:=P) rfl (.inr rfl)
    have em:eOp modD (eOp zbi (eIxV 1 (eC (.int 1))) (eC (.int 3))) (eOp addD (eCB lenD (zaa (eVar 6) aNil)) (eC (.int 1))) (stK c z0 z1 o0 o1 k j (.ac (zfp (c.set k (.one o0)))) (.ac (zab P)))=some (vi (m:Int)):=by
     rw[zfa (zgk (c1 _ _ _ _) rfl (by decide) (by decide)) (zsl el rfl) (by omega),hm]
    rw[zbcp (k:=m) (r:=vs o0) (ds:=P.map .str) rfl (zao em (zch rfl)) (by rw[qC];exact ml) (by rw[qC];omega) rfl]
    have:insL (P.map PyData.str) m (.str o0)=(insL P m o0).map .str:=by unfold insL;rw[qAJ,qR,qBs,qBh]
    show some (Out.nx [_,_,_,_,_,_,.ac (.list (insL (P.map PyData.str) m (.str o0)))])=_
    rw[this]
    rfl
   have d6:∃s6,znq 5 (eVar 3) (eCB zco (zaa (eVar 6) aNil)) (stK c z0 z1 o0 o1 k j (.ac (zfp (c.set k (.one o0)))) (.ac (zab (insL P m o0))))=some (.nx (stK c z0 z1 o0 o1 k j (.ac (zfp ((c.set k (.one o0)).set k (.many (insL P m o0))))) s6)):=by
    have et:eCB zco (zaa (eVar 6) aNil) (stK c z0 z1 o0 o1 k j (.ac (zfp (c.set k (.one o0)))) (.ac (zab (insL P m o0))))=some ⟨armD (.many (insL P m o0)),false,bsOf (armD (.many (insL P m o0))) [6]⟩:=rfl
    have hb5:5∉bsOf (armD (.many (insL P m o0))) [6]:=by unfold bsOf;split<;>decide
    have key:=zade (i:=5) (k:=k) (ds:=(c.set k (.one o0)).map armD) (env:=stK c z0 z1 o0 o1 k j (.ac (zfp (c.set k (.one o0)))) (.ac (zab (insL P m o0)))) rfl et (fk:=eVar 3) rfl (by rw[qC,qd];exact kl) hb5
    rw[key]
    have hcase:bsOf (armD (.many (insL P m o0))) [6]=[]\/bsOf (armD (.many (insL P m o0))) [6]=[6]:=by unfold bsOf;split<;>simp
    rcases hcase with hq|hq
    ·refine⟨.ac (zab (insL P m o0)),?_⟩
     dsimp only
     rw[hq]
     show some (Out.nx [_,_,_,_,_,.ac (.list (((c.set k (.one o0)).map armD).set k (armD (.many (insL P m o0))))),_])=_
     rw[zqc]
    ·refine⟨.pl (zab (insL P m o0)),?_⟩
     dsimp only
     rw[hq]
     show some (Out.nx [_,_,_,_,_,.ac (.list (((c.set k (.one o0)).map armD).set k (armD (.many (insL P m o0))))),_])=_
     rw[zqc]
   obtain⟨s6,d6⟩:=d6
   have insm:∀y,y∈insL P m o0->y=o0\/y∈P:=λy hy=>by
    unfold insL at hy
    rcases qu.mp hy with h|h
    ·exact .inr (qAy h)
    ·rcases qZ.mp h with h|h
     ·exact .inl h
     ·exact .inr (qAR h)
   refine⟨_,s6,⟨by rw[qd,qd],λa ha=>?_,λa ha y hy=>?_,⟨.many (insL P m o0),by rw[qm (by rw[qd];exact kl)],by show o0∈insL P m o0;unfold insL;simp⟩⟩,if_t tc (zai a6 (zai b6 d6))⟩
   ·rcases zgp ha with rfl|h
    ·show(insL P m o0).length<=13
     unfold insL
     simp
     omega
    ·exact qBD (i1.few a h)
   ·rcases zgp ha with rfl|h
    ·rcases insm y hy with h|h
     ·exact .inl h
     ·exact .inr (.inr (ok.kinds _ (qAN kl) y (hP▸h)))
    ·exact i1.mem a h y hy
 obtain⟨R,s6,i2,e6⟩:=e6
 have kR:k<R.length:=by rw[i2.len];exact kl
 have jR:j<R.length:=by rw[i2.len];exact jl
 have e7:∃R',St15 W c R' o0 o1 14 k/\sIf (zaz (eOp neD (eVar 4) (eVar 3))) (znq 5 (eVar 4) (eIxV 2 (eC (.int 1)))) (sIf (zaz (eOp eqD (eOp modD (eOp zbi (eIxV 1 (eC (.int 0))) (eC (.int 6))) (eC (.int 2))) (eC (.int 1)))) (znq 5 (eVar 4) (eCB zco (zaa (eOp addD (zau 1 zaw (zaa (eIxV 5 (eVar 4)) aNil)) (eLst (zaa (eIxV 2 (eC (.int 1))) aNil))) aNil))) sNil) (stK c z0 z1 o0 o1 k j (.ac (zfp R)) s6)=some (.nx (stK c z0 z1 o0 o1 k j (.ac (zfp R')) s6)):=by
  have tn:zaz (eOp neD (eVar 4) (eVar 3)) (stK c z0 z1 o0 o1 k j (.ac (zfp R)) s6)=some (!decide (j=k)):=zeu (zanz (x:=.int (j:Int)) (y:=.int (k:Int)) (f1:=false) (f2:=false) (b1:=[]) (b2:=[]) rfl rfl (zanw j k))
  by_cases hjk:j=k
  ·have tn':zaz (eOp neD (eVar 4) (eVar 3)) (stK c z0 z1 o0 o1 k j (.ac (zfp R)) s6)=some false:=by rw[tn,decide_eq_true hjk];rfl
   have tc:zaz (eOp eqD (eOp modD (eOp zbi (eIxV 1 (eC (.int 0))) (eC (.int 6))) (eC (.int 2))) (eC (.int 1))) (stK c z0 z1 o0 o1 k j (.ac (zfp R)) s6)=some (z0 / 6 % 2==1):=
    zeu (zsm (zfa (zgk (c0 _ _ _ _) rfl (by decide) (by decide)) rfl (by decide)) rfl)
   cases hb:(z0 / 6 % 2==1)with
   | false=>
    rw[hb]at tc
    exact⟨R,⟨i2.len,λa ha=>qBD (i2.few a ha),i2.mem,i2.has⟩,if_f tn' (if_f tc rfl)⟩
   | true=>
    rw[hb]at tc
    have fw:=i2.few R[j] (qAN jR)
    have ix:eIxV 5 (eVar 4) (stK c z0 z1 o0 o1 k j (.ac (zfp R)) s6)=some ⟨armD R[j],false,[]⟩:=by
     show(atI (R.map armD) (j:Int)).map (λd=>(⟨d,false,[]⟩:Val))=_
     rw[zki (v:=armD R[j]) (by rw[qN,qH jR];rfl)]
     rfl
    have ni:zau 1 zaw (zaa (eIxV 5 (eVar 4)) aNil) (stK c z0 z1 o0 o1 k j (.ac (zfp R)) s6)=some ⟨zab R[j].parts,true,[]⟩:=zbd (n:=1) (rs:=[⟨armD R[j],false,[]⟩]) (zch ix) rfl (zdl _)
    have ad:=zagz (b:=eLst (zaa (eIxV 2 (eC (.int 1))) aNil)) (y:=[o1]) (f2:=true) (b2:=[]) ni rfl (by show _+1<=100000;omega)
    have et:eCB zco (zaa (eOp addD (zau 1 zaw (zaa (eIxV 5 (eVar 4)) aNil)) (eLst (zaa (eIxV 2 (eC (.int 1))) aNil))) aNil) (stK c z0 z1 o0 o1 k j (.ac (zfp R)) s6)=some ⟨armD (.many (R[j].parts++[o1])),false,[]⟩:=by
     unfold eCB
     rw[zch ad]
     show some (⟨armD (.many (R[j].parts++[o1])),false,bsOf _ []⟩:Val)=_
     rw[zsi]
    have key:=zade (i:=5) (k:=j) (ds:=R.map armD) (fk:=eVar 4) rfl et rfl (by rw[qC];exact jR) (by show 5∉([]:List Nat);simp)
    refine⟨R.set j (.many (R[j].parts++[o1])),⟨by rw[qd];exact i2.len,λa ha=>?_,λa ha y hy=>?_,?_⟩,if_f tn' (if_t tc (key.trans ?_))⟩
    ·rcases zgp ha with rfl|h
     ·show(R[j].parts++[o1]).length<=14
      rw[qO]
      show _+1<=14
      omega
     ·exact qBD (i2.few a h)
    ·rcases zgp ha with rfl|h
     ·rcases qu.mp (show y∈R[j].parts++[o1]from hy)with h|h
      ·exact i2.mem _ (qAN jR) y h
      ·exact .inr (.inl (by simpa using h))
     ·exact i2.mem a h y hy
    ·obtain⟨a,h1,h2⟩:=i2.has
     refine⟨.many (R[j].parts++[o1]),by rw[<- hjk,qm jR],?_⟩
     have:a=R[j]:=by
      rw[<- hjk,qH jR]at h1
      exact(qX h1).symm
     rw[this]at h2
     exact q9 _ h2
    ·show some (Out.nx [_,_,_,_,_,.ac (.list ((R.map armD).set j (armD (.many (R[j].parts++[o1]))))),_])=_
     rw[zqc]
  ·have tn':zaz (eOp neD (eVar 4) (eVar 3)) (stK c z0 z1 o0 o1 k j (.ac (zfp R)) s6)=some true:=by rw[tn,decide_eq_false hjk];rfl
   have key:=zade (i:=5) (k:=j) (ds:=R.map armD) (fk:=eVar 4) (fv:=eIxV 2 (eC (.int 1))) (env:=stK c z0 z1 o0 o1 k j (.ac (zfp R)) s6) (r:=vs o1) rfl rfl rfl (by rw[qC];exact jR) (by show 5∉([]:List Nat);simp)
   refine⟨R.set j (.one o1),⟨by rw[qd];exact i2.len,λa ha=>?_,λa ha y hy=>?_,?_⟩,if_t tn' (key.trans ?_)⟩
   ·rcases zgp ha with rfl|h
    ·show 1<=14;decide
    ·exact qBD (i2.few a h)
   ·rcases zgp ha with rfl|h
    ·exact .inr (.inl (by simpa [Arm.parts]using hy))
    ·exact i2.mem a h y hy
   ·obtain⟨a,h1,h2⟩:=i2.has
    exact⟨a,by rw[qa hjk];exact h1,h2⟩
   ·show some (Out.nx [_,_,_,_,_,.ac (.list ((R.map armD).set j (armD (.one o1)))),_])=_
    rw[zqc]
 obtain⟨R',i3,e7⟩:=e7
 refine⟨R',k,?_,i3⟩
 exact zgj (env:=stE c z0 z1 o0 o1 .no .no .no .no) rfl (zai e3 (zai e4 (zai e5 (zai e5b (zai e6 (zai e7 rfl))))))
end
theorem zaad{r:Val}(h:f env=some r)(hd:zgg r.d=some ds):zaj f env=some (ds,r.bs):=by unfold zaj;rw[h,qE,hd];rfl
theorem zrd{enc:α->PyData}(q:α->Option PyData)(I:DEnv->Prop):∀(l:List α)(env:DEnv),I env->
  (∀x∈l,∀env,I env->∃e1,g (enc x) env=some e1/\(q x=none->∃e2,body e1=some (.nx e2)/\I e2)/\(∀d,q x=some d->body e1=some (.rt d false)))->
  (l.findSome? q=none->∃env',forL g body (l.map enc) env=some (.nx env')/\I env')/\(∀d,l.findSome? q=some d->forL g body (l.map enc) env=some (.rt d false))
 | [],env,h0,_=>⟨λ_=>⟨env,rfl,h0⟩,λd h=>by cases h⟩
 | x::l,env,h0,hs=>by
  obtain⟨e1,h1,h2,h3⟩:=hs x qb env h0
  rw[qR,qCS]
  unfold forL
  rw[h1,qE]
  cases hq:q x with
  | some d=>
   refine⟨λz=>(nomatch z),λd' hd=>?_⟩
   cases hd
   rw[h3 d hq]
   rfl
  | none=>
   obtain⟨e2,h4,h5⟩:=h2 hq
   obtain⟨ih1,ih2⟩:=zrd q I l e2 h5 λy hy=>hs y (qK _ hy)
   rw[h4,qE]
   exact⟨ih1,ih2⟩
theorem zaod{f:α->List β}{q:β->Option γ}:∀(l:List α),(l.flatMap f).findSome? q=l.findSome? λa=>(f a).findSome? q
 | []=>rfl
 | a::l=>by
  rw[List.flatMap_cons,List.findSome?_append,qCS,zaod l]
  cases(f a).findSome? q<;>rfl
def zsx(o0 o1:Str)(y:Str):Option PyData:=if y∈[o0,o1]then some (.str y)else none
theorem zahg(n0:o0∉nm W)(n1:o1∉nm W):∀(l:List Str),(∀y∈l,y=o0\/y=o1\/y∈nm W)->l.findSome? (zsx o0 o1)=(zfj W l).map .str
 | [],_=>rfl
 | y::l,h=>by
  have ih:=zahg n0 n1 l λz hz=>h z (qK _ hz)
  unfold zfj at ih ⊢
  rw[qCS,qA5]
  by_cases hy:y∈nm W
  ·have:y∉[o0,o1]:=λz=>by
    have:y=o0\/y=o1:=by simpa using z
    rcases this with rfl|rfl
    ·exact n0 hy
    ·exact n1 hy
   have e:zsx o0 o1 y=none:=by unfold zsx;rw[if_neg this]
   rw[e,decide_eq_true hy]
   exact ih
  ·have:y∈[o0,o1]:=by
    rcases h y (by simp)with rfl|rfl|z
    ·simp
    ·simp
    ·exact absurd z hy
   have e:zsx o0 o1 y=some (.str y):=by unfold zsx;rw[if_pos this]
   rw[e,decide_eq_false hy]
   rfl
abbrev fsE(w:List Arm)(o0 o1:Str)(s2 s3:Sl):DEnv:=[.pl (zag w),.pl (zab [o0,o1]),s2,s3]
theorem zadf{w:List Arm}(n0:o0∉nm W)(n1:o1∉nm W)(hm:∀a∈w,∀y∈a.parts,y=o0\/y=o1\/y∈nm W)(hx:zfj W (w.flatMap Arm.parts)=some x):zct [zag w,zab [o0,o1]]=some (.str x,false):=by
 have inner:∀(a:Arm)(s3:Sl),(a.parts.findSome? (zsx o0 o1)=none->∃env',forL (gN 3) (sIf (zaz (eOp (inD false) (eVar 3) (eVar 1))) (zmp 3) sNil) (a.parts.map .str) (fsE w o0 o1 (.pl (armD a)) s3)=some (.nx env')/\∃s3,env'=fsE w o0 o1 (.pl (armD a)) s3)/\
   (∀d,a.parts.findSome? (zsx o0 o1)=some d->forL (gN 3) (sIf (zaz (eOp (inD false) (eVar 3) (eVar 1))) (zmp 3) sNil) (a.parts.map .str) (fsE w o0 o1 (.pl (armD a)) s3)=some (.rt d false)):=by
  intro a s3
  refine zrd (zsx o0 o1) (λenv=>∃s3,env=fsE w o0 o1 (.pl (armD a)) s3) a.parts _ ⟨_,rfl⟩ ?_
  rintro y _ env ⟨s3,rfl⟩
  have t:zaz (eOp (inD false) (eVar 3) (eVar 1)) (fsE w o0 o1 (.pl (armD a)) (.pl (.str y)))=some (decide (y∈[o0,o1])):=zeu (e_in (neg:=false) (xs:=[o0,o1]) rfl rfl)
  refine⟨fsE w o0 o1 (.pl (armD a)) (.pl (.str y)),rfl,λhq=>?_,λd hq=>?_⟩
  ·unfold zsx at hq
   split at hq
   ·cases hq
   ·rename_i hn
    rw[decide_eq_false hn]at t
    exact⟨_,if_f t rfl,_,rfl⟩
  ·unfold zsx at hq
   split at hq
   ·rename_i hn
    cases hq
    rw[decide_eq_true hn]at t
    exact if_t t rfl
   ·cases hq
 have outer:=zrd (enc:=armD) (g:=gN 2) (body:=sFor (zaj (zau 1 zaw (zaa (eVar 2) aNil))) (gN 3) (sIf (zaz (eOp (inD false) (eVar 3) (eVar 1))) (zmp 3) sNil)) (λa=>a.parts.findSome? (zsx o0 o1)) (λenv=>∃s2 s3,env=fsE w o0 o1 s2 s3) w (fsE w o0 o1 .no .no) ⟨_,_,rfl⟩ (by
  rintro a _ env ⟨s2,s3,rfl⟩
  have it:zaj (zau 1 zaw (zaa (eVar 2) aNil)) (fsE w o0 o1 (.pl (armD a)) s3)=some (a.parts.map .str,[]):=zaad (r:=⟨zab a.parts,true,[]⟩) (zbd (n:=1) (rs:=[⟨armD a,false,[]⟩]) rfl rfl (zdl a)) rfl
  obtain⟨k1,k2⟩:=inner a s3
  refine⟨fsE w o0 o1 (.pl (armD a)) s3,rfl,λhq=>?_,λd hq=>zgi it (k2 d hq)⟩
  obtain⟨env',k,s3',rfl⟩:=k1 hq
  exact⟨_,zgi it k,_,_,rfl⟩)
 have hf:w.findSome? (λa=>a.parts.findSome? (zsx o0 o1))=some (.str x):=by
  rw[<- zaod,zahg n0 n1 _ (λy hy=>by obtain⟨a,ha,h⟩:=qA8.mp hy;exact hm a ha y h),hx];rfl
 exact zgj (env:=fsE w o0 o1 .no .no) rfl (zata (zgi (ds:=w.map armD) (bs:=[]) rfl (outer.2 _ hf)))
theorem zsj(h:WebOk W){cs:List Int}(hi:i<cs.length)(hcs:∀z∈cs,0<=z){c0:List Arm}(hne:0<(nm W).length):∀(c:List Arm)(ks:List Str)(r:Int)(s10 s11:Sl),Cl12 (nm W) c->0<=r->(∀k∈ks,k∈nm W)->ks.length+c.length<1000->
  ∃(ks':List Str)(r':Int)(s10' s11':Sl),forL (gN 10) (sSeq (sSet 11 (eVar 1))
  (sSeq (sIf (zaz (eOp gtD (eOp modD (eIxV 0 (eVar 6)) (eC (.int 4))) (eC (.int 0)))) (sSet 11 (zck ["_law_name"] [2,10] (zaj (eVar 1)) (gN 0) (tTru (eCB (anyD λbs=>bs.any id) (zaa (zck ["_law_one"] [0,1] (zaj (zau 1 zaw (zaa (eVar 2) aNil))) (gN 0) zcf (eOp (inD false) (eVar 1) (zdd 2 (eVar 0)))) aNil))) (eVar 0))) sNil)
  (sSeq (sApp 9 (eIxV 11 (eOp modD (eVar 8) (eCB lenD (zaa (eVar 11) aNil)))))
  (sSet 8 (eOp zbi (eVar 8) (eCB lenD (zaa (eVar 11) aNil))))))) (c.map armD) [.pl (zbx cs),.pl (zab (nm W)),.pl (.dict (dS zab (ups W))),A3,A4,A5,.pl (.int (i:Int)),A7,.pl (.int r),.ac (zab ks),s10,s11]=some (.nx [.pl (zbx cs),.pl (zab (nm W)),.pl (.dict (dS zab (ups W))),A3,A4,A5,.pl (.int (i:Int)),A7,.pl (.int r'),.ac (zab ks'),s10',s11'])/\(∀k∈ks',k∈nm W)/\ks'.length=ks.length+c.length
 | [],ks,r,s10,s11,_,_,hk,_=>⟨ks,r,s10,s11,rfl,hk,rfl⟩
 | a::c,ks,r,s10,s11,hc,r0,hk,hl=>by
  have hlW:(nm W).length<=12:=ztn h
  have hap:=hc.kinds a qb
  have e11:sSet 11 (eVar 1) [.pl (zbx cs),.pl (zab (nm W)),.pl (.dict (dS zab (ups W))),A3,A4,A5,.pl (.int (i:Int)),A7,.pl (.int r),.ac (zab ks),.pl (armD a),s11]=some (.nx [.pl (zbx cs),.pl (zab (nm W)),.pl (.dict (dS zab (ups W))),A3,A4,A5,.pl (.int (i:Int)),A7,.pl (.int r),.ac (zab ks),.pl (armD a),.pl (zab (nm W))]):=zbg (r:=⟨zab (nm W),false,[]⟩) rfl
  have pool:∃(pl:List Str)(s:Sl),Hd (zab pl) s/\0<pl.length/\pl.length<=12/\(∀x∈pl,x∈nm W)/\sIf (zaz (eOp gtD (eOp modD (eIxV 0 (eVar 6)) (eC (.int 4))) (eC (.int 0)))) (sSet 11 (zck ["_law_name"] [2,10] (zaj (eVar 1)) (gN 0) (tTru (eCB (anyD λbs=>bs.any id) (zaa (zck ["_law_one"] [0,1] (zaj (zau 1 zaw (zaa (eVar 2) aNil))) (gN 0) zcf (eOp (inD false) (eVar 1) (zdd 2 (eVar 0)))) aNil))) (eVar 0))) sNil [.pl (zbx cs),.pl (zab (nm W)),.pl (.dict (dS zab (ups W))),A3,A4,A5,.pl (.int (i:Int)),A7,.pl (.int r),.ac (zab ks),.pl (armD a),.pl (zab (nm W))]=some (.nx [.pl (zbx cs),.pl (zab (nm W)),.pl (.dict (dS zab (ups W))),A3,A4,A5,.pl (.int (i:Int)),A7,.pl (.int r),.ac (zab ks),.pl (armD a),s]):=by
   have t:zaz (eOp gtD (eOp modD (eIxV 0 (eVar 6)) (eC (.int 4))) (eC (.int 0))) [.pl (zbx cs),.pl (zab (nm W)),.pl (.dict (dS zab (ups W))),A3,A4,A5,.pl (.int (i:Int)),A7,.pl (.int r),.ac (zab ks),.pl (armD a),.pl (zab (nm W))]=some (decide (0<cs[i] % 4)):=
    zeu (zbaw (zfa (i:=cs[i]) (zaeh (n:=i) rfl rfl (by rw[qN,qH hi];rfl)) rfl (by decide)) rfl)
   by_cases hz:0<cs[i] % 4
   ·rw[decide_eq_true hz]at t
    have cm:zdy (gN 0) (tTru (eCB (anyD λbs=>bs.any id) (zaa (zck ["_law_one"] [0,1] (zaj (zau 1 zaw (zaa (eVar 2) aNil))) (gN 0) zcf (eOp (inD false) (eVar 1) (zdd 2 (eVar 0)))) aNil))) (eVar 0) [.no,.pl (.dict (dS zab (ups W))),.pl (armD a)] ((nm W).map .str)=some (((nm W).filter λx=>decide (x∈upA W a)).map .str):=by
     refine zel (λx=>decide (x∈upA W a)) λx hx=>⟨[.pl (.str x),.pl (.dict (dS zab (ups W))),.pl (armD a)],rfl,?_,λ_=>⟨vs x,rfl,rfl⟩⟩
     have itp:zaj (zau 1 zaw (zaa (eVar 2) aNil)) [.pl (.str x),.pl (.dict (dS zab (ups W))),.pl (armD a)]=some (a.parts.map .str,[]):=by
      unfold zaj
      rw[zbd (n:=1) (rs:=[⟨armD a,false,[]⟩]) (zch rfl) rfl (zdl a)]
      rfl
     have k2:zdy (gN 0) zcf (eOp (inD false) (eVar 1) (zdd 2 (eVar 0))) [.no,.pl (.str x),.pl (.dict (dS zab (ups W)))] (a.parts.map .str)=some (a.parts.map λn=>.bool (decide (x∈up W n))):=
      zdh λn hn=>⟨[.pl (.str n),.pl (.str x),.pl (.dict (dS zab (ups W)))],rfl,rfl,vb (decide (x∈up W n)),e_in (neg:=false) (fr:=false) (bs:=[]) rfl (zanf (k:=2) (d:=zab (up W n)) (.inl rfl) rfl (by rw[zns,zmj (hap n hn)];rfl)),rfl⟩
     have an:=zarh (f:=λn:Str=>decide (x∈up W n)) (zem (own:=["_law_one"]) (fr:=[0,1]) itp (by rw[qC];have:=hc.few a qb;omega) k2)
     have ev:(a.parts.any λn=>decide (x∈up W n))=decide (x∈upA W a):=by
      rw[qAo,qA9,decide_eq_true_iff,zzy]
      exact⟨λ⟨n,h1,h2⟩=>⟨n,h1,of_decide_eq_true h2⟩,λ⟨n,h1,h2⟩=>⟨n,h1,decide_eq_true h2⟩⟩
     rw[ev]at an
     unfold tTru
     rw[an]
     rfl
    refine⟨(nm W).filter λx=>decide (x∈upA W a),.ac (zab ((nm W).filter λx=>decide (x∈upA W a))),.inr rfl,?_,qAI (qBQ _ _) hlW,λx hx=>(qAj.mp hx).1,if_t t (zbg (r:=⟨zab ((nm W).filter λx=>decide (x∈upA W a)),true,[]⟩) ?_)⟩
    ·obtain⟨n,hn⟩:=List.exists_mem_of_ne_nil _ (hc.some a qb)
     exact qDI (qAj.mpr ⟨hap n hn,decide_eq_true (zzy.mpr ⟨n,hn,zawg h (hap n hn)⟩)⟩)
    ·rw[zem (own:=["_law_name"]) (fr:=[2,10]) (ds:=(nm W).map .str) (bs:=[]) rfl (by rw[qC];omega) cm,zmi]
     rfl
   ·rw[decide_eq_false hz]at t
    exact⟨nm W,.pl (zab (nm W)),.inl rfl,hne,hlW,λx hx=>hx,if_f t rfl⟩
  obtain⟨pl,s,hs,p0,p12,psub,ep⟩:=pool
  have q0:=qx r (show(pl.length:Int)≠0 by omega)
  have q1:=qr r (show(0:Int)<(pl.length:Int) by omega)
  have hj:(r % (pl.length:Int)).toNat<pl.length:=by omega
  have len:∀(ks:List Str),eCB lenD (zaa (eVar 11) aNil) [.pl (zbx cs),.pl (zab (nm W)),.pl (.dict (dS zab (ups W))),A3,A4,A5,.pl (.int (i:Int)),A7,.pl (.int r),.ac (zab ks),.pl (armD a),s]=some (vi (pl.length:Int)):=λks=>by
   obtain⟨bs,hv⟩:=e_hd (env:=[.pl (zbx cs),.pl (zab (nm W)),.pl (.dict (dS zab (ups W))),A3,A4,A5,.pl (.int (i:Int)),A7,.pl (.int r),.ac (zab ks),.pl (armD a),s]) (i:=11) rfl hs
   have:=zmv (ds:=pl.map .str) hv
   rw[qC]at this
   exact this
  have ix:eIxV 11 (eOp modD (eVar 8) (eCB lenD (zaa (eVar 11) aNil))) [.pl (zbx cs),.pl (zab (nm W)),.pl (.dict (dS zab (ups W))),A3,A4,A5,.pl (.int (i:Int)),A7,.pl (.int r),.ac (zab ks),.pl (armD a),s]=some (vs pl[(r % (pl.length:Int)).toNat]):=by
   have hm:eOp modD (eVar 8) (eCB lenD (zaa (eVar 11) aNil)) [.pl (zbx cs),.pl (zab (nm W)),.pl (.dict (dS zab (ups W))),A3,A4,A5,.pl (.int (i:Int)),A7,.pl (.int r),.ac (zab ks),.pl (armD a),s]=some (vi (((r % (pl.length:Int)).toNat:Nat):Int)):=by
    rw[zfa (i:=r) rfl (len ks) (by omega),Int.toNat_of_nonneg q0]
   have hg:(pl.map PyData.str)[(r % (pl.length:Int)).toNat]?=some (.str pl[(r % (pl.length:Int)).toNat]):=by rw[qN,qH hj];rfl
   rcases id hs with e|e
   ·exact zaeh (ds:=pl.map .str) (by rw[e];rfl) hm hg
   ·exact zbcl (ds:=pl.map .str) (by rw[e];rfl) hm hg
  generalize hx:pl[(r % (pl.length:Int)).toNat]=x at ix
  have hxm:x∈nm W:=psub x (by rw[<- hx];exact qAN _)
  have ap:sApp 9 (eIxV 11 (eOp modD (eVar 8) (eCB lenD (zaa (eVar 11) aNil)))) [.pl (zbx cs),.pl (zab (nm W)),.pl (.dict (dS zab (ups W))),A3,A4,A5,.pl (.int (i:Int)),A7,.pl (.int r),.ac (zab ks),.pl (armD a),s]=some (.nx [.pl (zbx cs),.pl (zab (nm W)),.pl (.dict (dS zab (ups W))),A3,A4,A5,.pl (.int (i:Int)),A7,.pl (.int r),.ac (zab (ks++[x])),.pl (armD a),s]):=by
   rw[zuq (ds:=ks.map .str) (d:=.str x) (fr:=false) rfl ix (by rw[qC];omega)]
   congr 2
   unfold zab
   simp
  have e8:sSet 8 (eOp zbi (eVar 8) (eCB lenD (zaa (eVar 11) aNil))) [.pl (zbx cs),.pl (zab (nm W)),.pl (.dict (dS zab (ups W))),A3,A4,A5,.pl (.int (i:Int)),A7,.pl (.int r),.ac (zab (ks++[x])),.pl (armD a),s]=some (.nx [.pl (zbx cs),.pl (zab (nm W)),.pl (.dict (dS zab (ups W))),A3,A4,A5,.pl (.int (i:Int)),A7,.pl (.int (r / (pl.length:Int))),.ac (zab (ks++[x])),.pl (armD a),s]):=zbg (zgk (i:=r) rfl (len _) (by omega) (by omega))
  obtain⟨ks',r',s10',s11',lp,hk',hl'⟩:=zsj h hi hcs (A3:=A3) (A4:=A4) (A5:=A5) (A7:=A7) (c0:=c0) hne c (ks++[x]) (r / (pl.length:Int)) (.pl (armD a)) s ⟨λb hb=>hc.kinds b (qK _ hb),λb hb=>hc.few b (qK _ hb),λb hb=>hc.some b (qK _ hb)⟩ (qB0 r0 (by omega)) (λk hk2=>(qu.mp hk2).elim (hk k) λz=>by rw[qAD.mp z];exact hxm) (by simp at hl ⊢;omega)
  refine⟨ks',r',s10',s11',?_,hk',by simp at hl' ⊢;omega⟩
  rw[qR]
  unfold forL
  show Option.bind (sSeq _ _ [.pl (zbx cs),.pl (zab (nm W)),.pl (.dict (dS zab (ups W))),A3,A4,A5,.pl (.int (i:Int)),A7,.pl (.int r),.ac (zab ks),.pl (armD a),s11]) _=_
  rw[zai e11 (zai ep (zai ap e8))]
  exact lp
theorem zaae(h:WebOk W)(lo:∀x∈nm W,Low x)(hne:0<(nm W).length){cs:List Int}{c:List Arm}{ts:List Str}(hcs:∀z∈cs,0<=z)(hle:ts.length<=cs.length)(hts:ts.length<=16)(hc:Cl12 (nm W) c)(hcl:c.length<=3) :
  ∃rs,zgc [zbx cs,zab (nm W),.dict (dS zab (ups W)),zag c,zab ts]=some (zan rs,true)/\MadeOk W c.length ts rs:=by
 have it:ztz (zaa (eVar 4) aNil) [.pl (zbx cs),.pl (zab (nm W)),.pl (.dict (dS zab (ups W))),.pl (zag c),.pl (zab ts),.ac (.list []),.no,.no,.no,.no,.no,.no]=some (((List.range ts.length).zip ts).map λz=>PyData.tuple [.int (z.1:Nat),.str z.2],[]):=by
  show some (zwr (ts.map .str),[])=_
  rw[zada]
 obtain⟨env',lp,rs,s6,s7,s8,s9,s10,s11,rfl,ok⟩:=zec (enc:=λz:Nat×Str=>PyData.tuple [.int (z.1:Nat),.str z.2]) (g:=gT 2 (zar 6 (zar 7 zdt))) (l:=(List.range ts.length).zip ts) (env:=[.pl (zbx cs),.pl (zab (nm W)),.pl (.dict (dS zab (ups W))),.pl (zag c),.pl (zab ts),.ac (.list []),.no,.no,.no,.no,.no,.no])
  (body:=(sSeq (sSet 8 (eOp zbi (eIxV 0 (eVar 6)) (eC (.int 4))))
  (sSeq (sSet 9 (eLst aNil))
  (sSeq (sFor (zaj (eVar 3)) (gN 10)
  (sSeq (sSet 11 (eVar 1))
  (sSeq (sIf (zaz (eOp gtD (eOp modD (eIxV 0 (eVar 6)) (eC (.int 4))) (eC (.int 0)))) (sSet 11 (zck ["_law_name"] [2,10] (zaj (eVar 1)) (gN 0) (tTru (eCB (anyD λbs=>bs.any id) (zaa (zck ["_law_one"] [0,1] (zaj (zau 1 zaw (zaa (eVar 2) aNil))) (gN 0) zcf (eOp (inD false) (eVar 1) (zdd 2 (eVar 0)))) aNil))) (eVar 0))) sNil)
  (sSeq (sApp 9 (eIxV 11 (eOp modD (eVar 8) (eCB lenD (zaa (eVar 11) aNil)))))
  (sSet 8 (eOp zbi (eVar 8) (eCB lenD (zaa (eVar 11) aNil))))))))
  (sIf (zaz (eOp (inS true) (eCB zco (zaa (eVar 9) aNil)) (zck ["_law_one","_law_row"] [] (zaj (eVar 5)) (gT 2 (zar 0 (zar 1 zdt))) zcf (eVar 1)))) (sApp 5 (eTup (zaa (eVar 7) (zaa (eCB zco (zaa (eVar 9) aNil)) aNil)))) sNil)))))
  (λpre env=>∃(rs:List (Str×List Str)) (s6 s7 s8 s9 s10 s11:Sl),env=[.pl (zbx cs),.pl (zab (nm W)),.pl (.dict (dS zab (ups W))),.pl (zag c),.pl (zab ts),.ac (zan rs),s6,s7,s8,s9,s10,s11]/\MadeOk W c.length (pre.map (·.2)) rs)
  ⟨[],_,_,_,_,_,_,rfl,λr hr=>(nomatch hr),λr hr=>(nomatch hr),qCM,qC0 _⟩ (by
   rintro pre ⟨i,t⟩ post env hp ⟨rs,s6,s7,s8,s9,s10,s11,rfl,ok⟩
   have hz:(i,t)∈(List.range ts.length).zip ts:=by rw[<- hp];simp
   have hi:i<cs.length:=by
    have:=qAi.mp (qA4 hz).1
    omega
   have hpl:pre.length<=16:=by
    have:=congrArg List.length hp
    simp at this;omega
   have hrs:rs.length<=16:=by
    have:=ok.sub.length_le
    simp at this;omega
   have e8:sSet 8 (eOp zbi (eIxV 0 (eVar 6)) (eC (.int 4))) [.pl (zbx cs),.pl (zab (nm W)),.pl (.dict (dS zab (ups W))),.pl (zag c),.pl (zab ts),.ac (zan rs),.pl (.int (i:Int)),.pl (.str t),s8,s9,s10,s11]=some (.nx [.pl (zbx cs),.pl (zab (nm W)),.pl (.dict (dS zab (ups W))),.pl (zag c),.pl (zab ts),.ac (zan rs),.pl (.int (i:Int)),.pl (.str t),.pl (.int (cs[i] / 4)),s9,s10,s11]):=
    zbg (zgk (i:=cs[i]) (zaeh (n:=i) rfl rfl (by rw[qN,qH hi];rfl)) rfl (by decide) (by decide))
   obtain⟨ks,r',s10',s11',inn,hk,hkl⟩:=zsj h hi hcs (A3:=.pl (zag c)) (A4:=.pl (zab ts)) (A5:=.ac (zan rs)) (A7:=.pl (.str t)) (c0:=c) hne c [] (cs[i] / 4) s10 s11 hc (qB0 (hcs _ (qAN _)) (by decide)) (λk hk=>(nomatch hk)) (by simp;omega)
   have hkl:ks.length=c.length:=by simpa using hkl
   have lk:LowS ks:=zaew lo hk
   have tup:∀(E:DEnv),E[9]?=some (.ac (zab ks))->eCB zco (zaa (eVar 9) aNil) E=some ⟨zaq ks,false,[9]⟩:=λE hE=>by
    unfold eCB
    rw[zch (r:=⟨zab ks,false,[9]⟩) (by unfold eVar;rw[hE])]
    rfl
   have cm:zdy (gT 2 (zar 0 (zar 1 zdt))) zcf (eVar 1) [.no,.no] (rs.map zcw)=some (rs.map λr=>zaq r.2):=zdh (enc:=zcw) (out:=λr=>zaq r.2) λr _=>⟨[.pl (.str r.1),.pl (zaq r.2)],rfl,rfl,⟨zaq r.2,false,[]⟩,rfl,rfl⟩
   have cm2:=zem (own:=["_law_one","_law_row"]) (fr:=[]) (fi:=zaj (eVar 5)) (g:=gT 2 (zar 0 (zar 1 zdt))) (t:=zcf) (e:=eVar 1) (env:=[.pl (zbx cs),.pl (zab (nm W)),.pl (.dict (dS zab (ups W))),.pl (zag c),.pl (zab ts),.ac (zan rs),.pl (.int (i:Int)),.pl (.str t),.pl (.int r'),.ac (zab ks),s10',s11']) (ds:=rs.map zcw) (bs:=[5]) rfl (by rw[qC];omega) cm
   have em:(rs.map λr=>zaq r.2)=(rs.map (·.2)).map zaq:=by rw[qBa];rfl
   rw[em]at cm2
   have tin:zaz (eOp (inS true) (eCB zco (zaa (eVar 9) aNil)) (zck ["_law_one","_law_row"] [] (zaj (eVar 5)) (gT 2 (zar 0 (zar 1 zdt))) zcf (eVar 1))) [.pl (zbx cs),.pl (zab (nm W)),.pl (.dict (dS zab (ups W))),.pl (zag c),.pl (zab ts),.ac (zan rs),.pl (.int (i:Int)),.pl (.str t),.pl (.int r'),.ac (zab ks),s10',s11']=some (!decide (ks∈rs.map (·.2))):=by
    refine zeu ?_
    unfold eOp
    rw[tup _ rfl,cm2]
    simp only[qE]
    rw[zaws (neg:=true) (λx hx=>by
     obtain⟨r,hr,rfl⟩:=qAa.mp hx
     exact zaew lo (ok.kinds r hr)) lk]
    rfl
   have itc:zaj (eVar 3) [.pl (zbx cs),.pl (zab (nm W)),.pl (.dict (dS zab (ups W))),.pl (zag c),.pl (zab ts),.ac (zan rs),.pl (.int (i:Int)),.pl (.str t),.pl (.int (cs[i] / 4)),.ac (zab []),s10,s11]=some (c.map armD,[]):=rfl
   have hpm:(pre++[(i,t)]).map (·.2)=pre.map (·.2)++[t]:=by simp
   by_cases hin:ks∈rs.map (·.2)
   ·rw[decide_eq_true hin]at tin
    exact⟨_,_,rfl,.inl (zai e8 (zai rfl (zai (zgi itc inn) (if_f tin rfl)))),rs,_,_,_,_,_,_,rfl,ok.kinds,ok.size,ok.unl,by rw[hpm];exact ok.sub.trans (List.sublist_append_left _ _)⟩
   ·rw[decide_eq_false hin]at tin
    have et:eTup (zaa (eVar 7) (zaa (eCB zco (zaa (eVar 9) aNil)) aNil)) [.pl (zbx cs),.pl (zab (nm W)),.pl (.dict (dS zab (ups W))),.pl (zag c),.pl (zab ts),.ac (zan rs),.pl (.int (i:Int)),.pl (.str t),.pl (.int r'),.ac (zab ks),s10',s11']=some ⟨zcw (t,ks),false,[9]⟩:=by
     unfold eTup
     rw[zao (r:=vs t) rfl (zch (tup _ rfl))]
     rfl
    have ap:sApp 5 (eTup (zaa (eVar 7) (zaa (eCB zco (zaa (eVar 9) aNil)) aNil))) [.pl (zbx cs),.pl (zab (nm W)),.pl (.dict (dS zab (ups W))),.pl (zag c),.pl (zab ts),.ac (zan rs),.pl (.int (i:Int)),.pl (.str t),.pl (.int r'),.ac (zab ks),s10',s11']=some (.nx [.pl (zbx cs),.pl (zab (nm W)),.pl (.dict (dS zab (ups W))),.pl (zag c),.pl (zab ts),.ac (zan (rs++[(t,ks)])),.pl (.int (i:Int)),.pl (.str t),.pl (.int r'),.pl (zab ks),s10',s11']):=by
     rw[zanq (i:=5) (ds:=rs.map zcw) rfl et (by rw[qC];omega) (by decide)]
     congr 2
     unfold zan
     rw[qAJ]
     rfl
    refine⟨_,_,rfl,.inl (zai e8 (zai rfl (zai (zgi itc inn) (if_t tin ap)))),rs++[(t,ks)],_,_,_,_,_,_,rfl,λr hr=>?_,λr hr=>?_,?_,?_⟩
    ·rcases qu.mp hr with hr|hr
     ·exact ok.kinds r hr
     ·rw[qAD.mp hr];exact hk
    ·rcases qu.mp hr with hr|hr
     ·exact ok.size r hr
     ·rw[qAD.mp hr];exact hkl
    ·rw[qAJ]
     exact qA3.mpr ⟨ok.unl,by simp,λa ha b hb e=>hin (by
      have:b=ks:=by simpa using hb
      rw[<- this,<- e];exact ha)⟩
    ·rw[hpm,qAJ]
     exact ok.sub.append (qC0 _))
 have hs:((List.range ts.length).zip ts).map (·.2)=ts:=by
  rw[show(λz:Nat×Str=>z.2)=Prod.snd from rfl,List.map_snd_zip (by rw[List.length_range];exact qL _)]
 rw[hs]at ok
 exact⟨rs,zgj rfl (zai rfl (zai (zgi it lp) rfl)),ok⟩
theorem zbbd(ys:List Str)(x y:Str):cutD ((ys++[x,y]).map PyData.str) none (some (-2))=ys.map .str:=by
 unfold cutD
 have e1:HT.sIx ((ys++[x,y]).map PyData.str).length 0 none=0:=rfl
 have e2:HT.sIx ((ys++[x,y]).map PyData.str).length ((ys++[x,y]).map PyData.str).length (some (-2))=ys.length:=by
  unfold HT.sIx
  simp
  omega
 rw[e1,e2]
 simp
theorem zbcq(ys:List Str)(x y:Str):atI ((ys++[x,y]).map PyData.str) (-2)=some (.str x):=by
 have e:ixN ((ys++[x,y]).map PyData.str).length (-2)=some ys.length:=by
  unfold ixN
  simp
  omega
 unfold atI
 rw[e]
 simp
theorem zbcr(ys:List Str)(x y:Str):atI ((ys++[x,y]).map PyData.str) (-1)=some (.str y):=by
 have e:ixN ((ys++[x,y]).map PyData.str).length (-1)=some (ys.length+1):=by
  unfold ixN
  simp
  omega
 unfold atI
 rw[e]
 simp
theorem zbbe{xs:List Str}(h:2<=xs.length):∃ys x y,xs=ys++[x,y]:=by
 refine⟨xs.take (xs.length - 2),xs[xs.length - 2]'(by omega),xs[xs.length - 1]'(by omega),?_⟩
 apply List.ext_getElem
 ·simp;omega
 ·intro i h1 h2
  by_cases a:i<xs.length - 2
  ·rw[List.getElem_append_left (by simp;omega)]
   simp
  ·rw[List.getElem_append_right (by simp;omega)]
   have:i=xs.length - 2\/i=xs.length - 1:=by omega
   rcases this with rfl|rfl
   ·simp
   ·have e:xs.length - 1 - (xs.take (xs.length - 2)).length=1:=by simp;omega
    simp only[e]
    rfl
theorem zarr{l:List α}(h:l.length=3):∃a b c,l=[a,b,c]:=by
 match l,h with
 | [a,b,c],_=>exact⟨a,b,c,rfl⟩
abbrev E15(cs:List Int)(s2 s3 s4 s5 s6 s7 s8 s9 s10 s11 s12 s13:Sl):DEnv:=[.no,.pl (zbx cs),s2,s3,s4,s5,s6,s7,s8,s9,s10,s11,s12,s13]
theorem zaoe{cs:List Int}(hl:cs.length=34)(a b:Nat)(x:EF)(y:EF)(env:DEnv)(hb:b<=34)(hab:a<=b)(he:env[1]?=some (.pl (zbx cs)))(hx:x env=some (vi (a:Int)))(hy:y env=some (vi (b:Int))):eSl (eVar 1) (zbe x) (zbe y) env=some ⟨zbx ((cs.drop a).take (b - a)),true,[]⟩:=by
 unfold eSl
 have ee:eVar 1 env=some ⟨zbx cs,false,[]⟩:=by unfold eVar;rw[he]
 rw[ee,zmu hx,zmu hy]
 show some (⟨.list (cutD (cs.map .int) (some (a:Int)) (some (b:Int))),true,[]⟩:Val)=_
 rw[zaqy cs a b (by omega) hab];rfl
abbrev upD(W:Web):PyData:=.dict (dS zab (ups W))
abbrev G15(cs:List Int)(p:Nat)(st:List Str)(x y:Str)(s5 s6 s7 s8 s9 s10 s11 s12 s13:Sl):DEnv:=E15 cs (.pl (.int (p:Int))) (.pl (zab (st++[x,y]))) (.pl (zab st)) s5 s6 s7 s8 s9 s10 s11 s12 s13
abbrev F15(cs:List Int)(p:Nat)(st:List Str)(x y:Str)(W:Web)(s5 s7 s8 s9 s10 s11 s12 s13:Sl):DEnv:=G15 cs p st x y s5 (.pl (webD W)) s7 s8 s9 s10 s11 s12 s13
structure T15(W:Web)(p:Nat)(st:List Str)(x y:Str):Prop where
 ok:WebOk W
 nm_:nm W=st
 low:∀z∈st,Low z
 len:1<=st.length/\st.length<=8
 p1:1<=p/\p<=3
 x0:x∉st/\Low x/\x.length<=20
 y0:y∉st/\Low y/\y.length<=20
theorem zaxb{cs:List Int}(hl:cs.length=34)(h0:∀c∈cs,0<=c):∃p st x y W,T15 W p st x y/\∀rest:SF,
  (sSeq (sSet 2 (eOp addD (eC (.int 1)) (eOp modD (eIxV 1 (eC (.int 0))) (eC (.int 3)))))
  (sSeq (sSet 3 (zau 2 zbk (zaa (eOp addD (eC (.int 3)) (eOp modD (eOp zbi (eIxV 1 (eC (.int 0))) (eC (.int 3))) (eOp ixD (eTup (zaa (eC (.int 8)) (zaa (eC (.int 8)) (zaa (eC (.int 6)) aNil)))) (eOp subD (eVar 2) (eC (.int 1)))))) (zaa (eIxV 1 (eC (.int 1))) aNil))))
  (sSeq (sSet 4 (eSl (eVar 3) zef (zbe (eNeg (eC (.int 2))))))
  (sSeq (sSet 5 (eLst (zaa (eIxV 3 (eNeg (eC (.int 2)))) (zaa (eIxV 3 (eNeg (eC (.int 1)))) aNil))))
  (sSeq (sSet 6 (zau 2 ziq (zaa (eSl (eVar 1) (zbe (eC (.int 8))) (zbe (eC (.int 16)))) (zaa (eVar 4) aNil))))
  (sSeq (sSet 7 (zau 1 zmh (zaa (eVar 6) aNil))) rest)))))) (envL 12 cs)=rest (F15 cs p st x y W (.ac (zab [x,y])) (.ac (upD W)) .no .no .no .no .no .no):=by
 have g1:0<=cs[1]'(by omega):=h0 _ (qAN _)
 have p0:=qx (cs[0]'(by omega)) (show(3:Int)≠0 by decide)
 have p1:=qr (cs[0]'(by omega)) (show(0:Int)<3 by decide)
 obtain⟨p,hp⟩:=qBk (show 0<=1+cs[0]'(by omega) % 3 by omega)
 have hpr:1<=p/\p<=3:=by omega
 obtain⟨q,hq,hq8⟩:∃q:Int,(∀s3 s4:Sl,eOp ixD (eTup (zaa (eC (.int 8)) (zaa (eC (.int 8)) (zaa (eC (.int 6)) aNil)))) (eOp subD (eVar 2) (eC (.int 1))) (E15 cs (.pl (.int (p:Int))) s3 s4 .no .no .no .no .no .no .no .no .no)=some (vi q))/\(q=8\/q=6):=by
  have:p=1\/p=2\/p=3:=by omega
  rcases this with rfl|rfl|rfl
  ·exact⟨8,λ_ _=>rfl,.inl rfl⟩
  ·exact⟨8,λ_ _=>rfl,.inl rfl⟩
  ·exact⟨6,λ_ _=>rfl,.inr rfl⟩
 have m0:=qx (cs[0]'(by omega) / 3) (show q≠0 by omega)
 have m1:=qr (cs[0]'(by omega) / 3) (show(0:Int)<q by omega)
 obtain⟨xs,gx,lx,nx,lox⟩:=zpy (m:=3+cs[0]'(by omega) / 3 % q) (c:=cs[1]'(by omega)) (by omega) (by omega) g1
 obtain⟨st,x,y,rfl⟩:=zbbe (xs:=xs) (by omega)
 have hst:1<=st.length/\st.length<=8:=by
  rw[qO]at lx
  simp only[qy,qBi]at lx
  omega
 have nst:st.Nodup:=(qA3.mp nx).1
 have lo:∀z∈st,Low z:=λz h=>(lox z (q9 _ h)).1
 have lo0:=lox x (qc _ (by simp))
 have lo1:=lox y (qc _ (by simp))
 have nox:x∉st:=λz=>(qA3.mp nx).2.2 x z x (by simp) rfl
 have noy:y∉st:=λz=>(qA3.mp nx).2.2 y z y (by simp) rfl
 obtain⟨W,gw,hnm,ok⟩:=zane (cs:=(cs.drop 8).take 8) (xs:=st) (by rw[qAV,qj];omega) (by omega) nst
 have e2:(sSet 2 (eOp addD (eC (.int 1)) (eOp modD (eIxV 1 (eC (.int 0))) (eC (.int 3))))) (envL 12 cs)=some (.nx (E15 cs (.pl (.int (p:Int))) .no .no .no .no .no .no .no .no .no .no .no)):=by
  refine zbg (r:=vi (p:Int)) ?_
  rw[zsl rfl (zfa (zxq (n:=0) rfl rfl (by omega)) rfl (by decide))]
  exact congrArg (λz=>some (vi z)) hp
 have e3:(sSet 3 (zau 2 zbk (zaa (eOp addD (eC (.int 3)) (eOp modD (eOp zbi (eIxV 1 (eC (.int 0))) (eC (.int 3))) (eOp ixD (eTup (zaa (eC (.int 8)) (zaa (eC (.int 8)) (zaa (eC (.int 6)) aNil)))) (eOp subD (eVar 2) (eC (.int 1)))))) (zaa (eIxV 1 (eC (.int 1))) aNil)))) (E15 cs (.pl (.int (p:Int))) .no .no .no .no .no .no .no .no .no .no .no)=some (.nx (E15 cs (.pl (.int (p:Int))) (.ac (zab (st++[x,y]))) .no .no .no .no .no .no .no .no .no .no)):=
  zbg (r:=⟨zab (st++[x,y]),true,[]⟩) (zbd (n:=2) (rs:=[vi (3+cs[0]'(by omega) / 3 % q),vi (cs[1]'(by omega))]) (zao (zsl rfl (zfa (zgk (zxq (n:=0) rfl rfl (by omega)) rfl (by decide) (by decide)) (hq _ _) (by omega))) (zch (zxq (n:=1) rfl rfl (by omega)))) rfl gx)
 have e4:(sSet 4 (eSl (eVar 3) zef (zbe (eNeg (eC (.int 2)))))) (E15 cs (.pl (.int (p:Int))) (.ac (zab (st++[x,y]))) .no .no .no .no .no .no .no .no .no .no)=some (.nx (E15 cs (.pl (.int (p:Int))) (.pl (zab (st++[x,y]))) (.ac (zab st)) .no .no .no .no .no .no .no .no .no)):=
  zbg (r:=⟨zab st,true,[3]⟩) (zain (x:=st++[x,y]) (f:=false) (bs:=[3]) (lo:=none) (hi:=some (-2)) rfl rfl rfl (zbbd st x y))
 have e5:(sSet 5 (eLst (zaa (eIxV 3 (eNeg (eC (.int 2)))) (zaa (eIxV 3 (eNeg (eC (.int 1)))) aNil)))) (E15 cs (.pl (.int (p:Int))) (.pl (zab (st++[x,y]))) (.ac (zab st)) .no .no .no .no .no .no .no .no .no)=some (.nx (E15 cs (.pl (.int (p:Int))) (.pl (zab (st++[x,y]))) (.ac (zab st)) (.ac (zab [x,y])) .no .no .no .no .no .no .no .no)):=by
  have i2:eIxV 3 (eNeg (eC (.int 2))) (E15 cs (.pl (.int (p:Int))) (.pl (zab (st++[x,y]))) (.ac (zab st)) .no .no .no .no .no .no .no .no .no)=some (vs x):=by
   show((ixD (.list ((st++[x,y]).map PyData.str)) (.int (-2))).bind λz=>some (⟨z.1,z.2,bsOf z.1 ([]++[])⟩:Val))=_
   unfold ixD
   simp only[zbcq,qAs,qE]
   rfl
  have i1:eIxV 3 (eNeg (eC (.int 1))) (E15 cs (.pl (.int (p:Int))) (.pl (zab (st++[x,y]))) (.ac (zab st)) .no .no .no .no .no .no .no .no .no)=some (vs y):=by
   show((ixD (.list ((st++[x,y]).map PyData.str)) (.int (-1))).bind λz=>some (⟨z.1,z.2,bsOf z.1 ([]++[])⟩:Val))=_
   unfold ixD
   simp only[zbcr,qAs,qE]
   rfl
  exact zbg (zqb (zao i2 (zch i1)) (show(2:Nat)<=100000 by decide))
 have e6:(sSet 6 (zau 2 ziq (zaa (eSl (eVar 1) (zbe (eC (.int 8))) (zbe (eC (.int 16)))) (zaa (eVar 4) aNil)))) (E15 cs (.pl (.int (p:Int))) (.pl (zab (st++[x,y]))) (.ac (zab st)) (.ac (zab [x,y])) .no .no .no .no .no .no .no .no)=some (.nx (G15 cs p st x y (.ac (zab [x,y])) (.ac (webD W)) .no .no .no .no .no .no .no)):=
  zbg (r:=⟨webD W,true,[4]⟩) (zbd (n:=2) (rs:=[⟨zbx ((cs.drop 8).take 8),true,[]⟩,⟨zab st,false,[4]⟩]) (zao (zaoe hl 8 16 _ _ _ (by decide) (by decide) rfl rfl rfl) (zch rfl)) rfl gw)
 have e7:(sSet 7 (zau 1 zmh (zaa (eVar 6) aNil))) (G15 cs p st x y (.ac (zab [x,y])) (.ac (webD W)) .no .no .no .no .no .no .no)=some (.nx (F15 cs p st x y W (.ac (zab [x,y])) (.ac (upD W)) .no .no .no .no .no .no)):=
  zbg (r:=⟨.dict (dS zab (ups W)),true,[6]⟩) (zbd (n:=1) (rs:=[⟨webD W,false,[6]⟩]) (zch rfl) rfl (zaqv ok))
 exact⟨p,st,x,y,W,⟨ok,hnm,lo,hst,hpr,⟨nox,lo0⟩,⟨noy,lo1⟩⟩,λrest=>zai e2 (zai e3 (zai e4 (zai e5 (zai e6 (zai e7 rfl)))))⟩
structure C15(W:Web)(p:Nat)(c:List Arm):Prop where
 cl:Cl12 (nm W) c
 len:c.length=p
theorem zaxc{cs:List Int}(hl:cs.length=34)(h0:∀c∈cs,0<=c)(t:T15 W p st x y):∃c0 c1 c2,C15 W p c0/\C15 W p c1/\C15 W p c2/\∀rest:SF,
  (sSeq (sSet 8 (zck ["_law_cell"] [2,4] (zaj (eSl (eVar 1) (zbe (eC (.int 4))) (zbe (eC (.int 7))))) (gN 0) zcf (zau 3 zfn (zaa (eVar 0) (zaa (eVar 2) (zaa (eVar 1) aNil))))))
  (sSeq (sIf (zaz (eOp eqD (eOp modD (eOp zbi (eIxV 1 (eC (.int 3))) (eC (.int 13))) (eC (.int 2))) (eC (.int 1)))) (znq 8 (eC (.int 0)) (eCB zco (zaa (zck ["_law_cell"] [4] (zaj (eSl (eVar 1) (zbe (eC (.int 30))) (zbe (eOp addD (eC (.int 30)) (eVar 2))))) (gN 0) zcf (zau 2 zdi (zaa (eVar 0) (zaa (eVar 1) aNil)))) aNil))) sNil) rest)) (F15 cs p st x y W (.ac (zab [x,y])) (.ac (upD W)) .no .no .no .no .no .no)=rest (F15 cs p st x y W (.ac (zab [x,y])) (.ac (upD W)) (.ac (.list ([c0,c1,c2].map zag))) .no .no .no .no .no):=by
 have hst:=t.len
 have hpr:=t.p1
 have H:∀z:Int,∃cl:List Arm,0<=z->(zfn [.int z,zab st,.int p]=some (zag cl,false)/\cl.length=p/\CallIn st cl):=λz=>by
  by_cases hz:0<=z
  ·obtain⟨cl,h⟩:=zaip (xs:=st) (c:=z) (p:=p) (by omega) hz hpr.2
   exact⟨cl,λ_=>h⟩
  ·exact⟨[],λq=>absurd q hz⟩
 obtain⟨f,hf⟩:=qCk H
 obtain⟨d0,d1,d2,hd⟩:=zarr (l:=(cs.drop 4).take 3) (by rw[qAV,qj];omega)
 have hd0:∀z∈[d0,d1,d2],0<=z:=λz hz=>by rw[<- hd]at hz;exact h0 z (qAR (qAy hz))
 have C:∀z∈[d0,d1,d2],C15 W p (f z):=λz hz=>by
  obtain⟨_,h2,h3⟩:=hf z (hd0 z hz)
  exact⟨by rw[t.nm_];exact⟨h3.kinds,λa ha=>qAI (h3.few a ha) (by decide),h3.some⟩,h2⟩
 have e8:(sSet 8 (zck ["_law_cell"] [2,4] (zaj (eSl (eVar 1) (zbe (eC (.int 4))) (zbe (eC (.int 7))))) (gN 0) zcf (zau 3 zfn (zaa (eVar 0) (zaa (eVar 2) (zaa (eVar 1) aNil)))))) (F15 cs p st x y W (.ac (zab [x,y])) (.ac (upD W)) .no .no .no .no .no .no)=some (.nx (F15 cs p st x y W (.ac (zab [x,y])) (.ac (upD W)) (.ac (.list ([f d0,f d1,f d2].map zag))) .no .no .no .no .no)):=by
  have es:=zaoe hl 4 7 (eC (.int 4)) (eC (.int 7)) (F15 cs p st x y W (.ac (zab [x,y])) (.ac (upD W)) .no .no .no .no .no .no) (by decide) (by decide) rfl rfl rfl
  rw[hd]at es
  have it:=zaad (ds:=[d0,d1,d2].map .int) es rfl
  have cm:zdy (gN 0) zcf (zau 3 zfn (zaa (eVar 0) (zaa (eVar 2) (zaa (eVar 1) aNil)))) [.no,.pl (.int (p:Int)),.pl (zab st)] ([d0,d1,d2].map .int)=some ([d0,d1,d2].map λz=>zag (f z)):=
   zdh λz hz=>⟨[.pl (.int z),.pl (.int (p:Int)),.pl (zab st)],rfl,rfl,⟨zag (f z),false,bsOf (zag (f z)) []⟩,zbd (n:=3) (rs:=[⟨.int z,false,[]⟩,⟨zab st,false,[]⟩,⟨.int (p:Int),false,[]⟩]) rfl rfl (hf z (hd0 z hz)).1,rfl⟩
  have co:=zem (own:=["_law_cell"]) (fr:=[2,4]) it (show(3:Nat)<100000 by decide) cm
  have e0:(if zei ([d0,d1,d2].map λz=>zag (f z))=true then([]:List Nat)else[]++capA [2,4] (F15 cs p st x y W (.ac (zab [x,y])) (.ac (upD W)) .no .no .no .no .no .no))=[]:=by split<;>rfl
  rw[show(if zei ([d0,d1,d2].map λz=>zag (f z))=true then([]:List Nat)else _)=[]from e0]at co
  exact zbg co
 have tc:zaz (eOp eqD (eOp modD (eOp zbi (eIxV 1 (eC (.int 3))) (eC (.int 13))) (eC (.int 2))) (eC (.int 1))) (F15 cs p st x y W (.ac (zab [x,y])) (.ac (upD W)) (.ac (.list ([f d0,f d1,f d2].map zag))) .no .no .no .no .no)=some (cs[3]'(by omega) / 13 % 2==1):=
  zeu (zsm (zfa (zgk (zxq (n:=3) rfl rfl (by omega)) rfl (by decide) (by decide)) rfl (by decide)) rfl)
 cases hb:(cs[3]'(by omega) / 13 % 2==1)with
 | false=>
  rw[hb]at tc
  exact⟨f d0,f d1,f d2,C d0 (by simp),C d1 (by simp),C d2 (by simp),λrest=>zai e8 (zai (if_f tc rfl) rfl)⟩
 | true=>
  rw[hb]at tc
  have HA:∀z:Int,∃ar,zdi [.int z,zab st]=some (zaq ar,false)/\(∀k∈ar,k∈st)/\ar.length<=12/\ar≠[]:=λz=>zawv (by omega) (by omega)
  obtain⟨g,hg⟩:=qCk HA
  have el:((cs.drop 30).take p).length=p:=by rw[qAV,qj];omega
  generalize hm:(cs.drop 30).take p=l at el
  have es:=zaoe hl 30 (30+p) (eC (.int 30)) (eOp addD (eC (.int 30)) (eVar 2)) (F15 cs p st x y W (.ac (zab [x,y])) (.ac (upD W)) (.ac (.list ([f d0,f d1,f d2].map zag))) .no .no .no .no .no) (by omega) (by omega) rfl rfl (by rw[zsl (i:=30) (j:=(p:Int)) rfl rfl,show(30:Int)+(p:Int)=((30+p:Nat):Int) by omega])
  rw[qDG,hm]at es
  have it:=zaad (ds:=l.map .int) es rfl
  have cm:zdy (gN 0) zcf (zau 2 zdi (zaa (eVar 0) (zaa (eVar 1) aNil))) [.no,.pl (zab st)] (l.map .int)=some (l.map λz=>zaq (g z)):=
   zdh λz _=>⟨[.pl (.int z),.pl (zab st)],rfl,rfl,⟨zaq (g z),false,bsOf (zaq (g z)) []⟩,zbd (n:=2) (rs:=[⟨.int z,false,[]⟩,⟨zab st,false,[]⟩]) rfl rfl (hg z).1,rfl⟩
  have co:=zem (own:=["_law_cell"]) (fr:=[4]) it (by rw[qC,el];omega) cm
  have e0:(if zei (l.map λz=>zaq (g z))=true then([]:List Nat)else[]++capA [4] (F15 cs p st x y W (.ac (zab [x,y])) (.ac (upD W)) (.ac (.list ([f d0,f d1,f d2].map zag))) .no .no .no .no .no))=[]:=by split<;>rfl
  rw[show(if zei (l.map λz=>zaq (g z))=true then([]:List Nat)else _)=[]from e0]at co
  have et:eCB zco (zaa (zck ["_law_cell"] [4] (zaj (eSl (eVar 1) (zbe (eC (.int 30))) (zbe (eOp addD (eC (.int 30)) (eVar 2))))) (gN 0) zcf (zau 2 zdi (zaa (eVar 0) (zaa (eVar 1) aNil)))) aNil) (F15 cs p st x y W (.ac (zab [x,y])) (.ac (upD W)) (.ac (.list ([f d0,f d1,f d2].map zag))) .no .no .no .no .no)=some ⟨zag (l.map λz=>.many (g z)),false,[]⟩:=by
   unfold eCB
   rw[zch co]
   show some (⟨.tuple (l.map λz=>zaq (g z)),false,bsOf _ []⟩:Val)=_
   rw[zsi]
   unfold zag
   rw[qBa]
   rfl
  have key:=zade (i:=8) (k:=0) (ds:=[f d0,f d1,f d2].map zag) (fk:=eC (.int 0)) rfl et rfl (by show 0<3;decide) (by show 8∉([]:List Nat);simp)
  have hcl:Cl12 st (l.map λz=>Arm.many (g z)):=by
   refine⟨λa ha n hn=>?_,λa ha=>?_,λa ha=>?_⟩
   ·obtain⟨z,_,rfl⟩:=qAa.mp ha
    exact(hg z).2.1 n hn
   ·obtain⟨z,_,rfl⟩:=qAa.mp ha
    exact(hg z).2.2.1
   ·obtain⟨z,_,rfl⟩:=qAa.mp ha
    exact(hg z).2.2.2
  exact⟨l.map λz=>.many (g z),f d1,f d2,⟨by rw[t.nm_];exact hcl,by rw[qC];exact el⟩,C d1 (by simp),C d2 (by simp),λrest=>zai e8 (zai (if_t tc key) rfl)⟩
theorem zqd{rs:List Val}(h:f env=some rs)(hl:rs.length<=100000):eTup f env=some ⟨.tuple (zds rs),false,bss rs⟩:=by unfold eTup;rw[h,qE,if_pos hl]
theorem zafa{k n:Nat}{b:EF}{env:DEnv}{ds:List PyData}{d:PyData}(he:env[k]?=some (.ac (.list ds)))(hb:b env=some (vi (n:Int)))(hd:ds[n]?=some d):eIxV k b env=some ⟨d,false,[]⟩:=by
 unfold eIxV
 rw[he]
 show(b env).bind _=_
 rw[hb,qE]
 show(atI ds (n:Int)).map _=_
 rw[zki hd]
 rfl
theorem zaxd{cs:List Int}(hl:cs.length=34)(h0:∀c∈cs,0<=c){p:Nat}{st:List Str}{x y:Str}{W:Web}(t:T15 W p st x y){c0 c1 c2:List Arm}(k0:C15 W p c0):∃rs,Bk15 W p rs/\Bk15 W p (rs.drop 1).reverse/\∀rest:SF,
  (sSeq (sSet 9 (zau 5 zgc (zaa (eSl (eVar 1) (zbe (eC (.int 16))) (zbe (eC (.int 28)))) (zaa (eVar 4) (zaa (eVar 7) (zaa (eIxV 8 (eC (.int 0))) (zaa (zau 2 zbk (zaa (eOp modD (eIxV 1 (eC (.int 3))) (eC (.int 13))) (zaa (eIxV 1 (eC (.int 2))) aNil))) aNil)))))))
  (sSeq (sSet 10 (eTup (zaa (zck ["_law_name","_law_elders"] [] (zaj (eVar 6)) (gT 2 (zar 0 (zar 1 zdt))) zcf (eTup (zaa (eVar 0) (zaa (eCB zmo (zaa (eVar 1) aNil)) aNil)))) (zaa (eVar 2) (zaa (eCB zmo (zaa (eVar 9) aNil)) aNil)))))
  (sSeq (sSet 11 (eTup (zaa (eIxV 10 (eC (.int 0))) (zaa (eVar 2) (zaa (eRv0 (eVar 9) (zbe (eC (.int 0))) (zbe (eNeg (eC (.int 1))))) aNil))))) rest))) (F15 cs p st x y W (.ac (zab [x,y])) (.ac (upD W)) (.ac (.list ([c0,c1,c2].map zag))) .no .no .no .no .no)=rest (F15 cs p st x y W (.ac (zab [x,y])) (.pl (upD W)) (.ac (.list ([c0,c1,c2].map zag))) (.pl (zan rs)) (.pl (zam W p rs)) (.pl (zam W p (rs.drop 1).reverse)) .no .no):=by
 have hst:=t.len
 have hpr:=t.p1
 have low:∀z∈nm W,Low z:=by rw[t.nm_];exact t.low
 have hWl:W.length<100000:=by
  have:=congrArg List.length t.nm_
  unfold nm at this
  rw[qC]at this
  omega
 have m0:=qx (cs[3]'(by omega)) (show(13:Int)≠0 by decide)
 have m1:=qr (cs[3]'(by omega)) (show(0:Int)<13 by decide)
 obtain⟨ts,gt,lt,nt,lot⟩:=zpy (m:=cs[3]'(by omega) % 13) (c:=cs[2]'(by omega)) m0 (by omega) (h0 _ (qAN _))
 have htl:ts.length<=12:=by omega
 obtain⟨rs,gr,mk⟩:=zaae t.ok low (by rw[t.nm_];omega) (cs:=(cs.drop 16).take 12) (c:=c0) (ts:=ts) (λz hz=>h0 z (qAR (qAy hz))) (by rw[qAV,qj];omega) (by omega) k0.cl (by rw[k0.len];exact hpr.2)
 rw[t.nm_]at gr
 rw[k0.len]at mk
 have rl:rs.length<=12:=by have:=mk.sub.length_le;rw[qC]at this;omega
 have lowr:∀r∈rs,qAH r.1=true:=λr hr=>zhl (lot r.1 (mk.sub.subset (qAa.mpr ⟨r,hr,rfl⟩))).1
 have b1:Bk15 W p rs:=⟨⟨λr hr=>zaew low (mk.kinds r hr),mk.kinds,λr hr=>by rw[mk.size r hr];omega,by omega⟩,⟨mk.kinds,mk.size⟩,lowr⟩
 have sub:∀r∈(rs.drop 1).reverse,r∈rs:=λr hr=>qAR (List.mem_reverse.mp hr)
 have b2:Bk15 W p (rs.drop 1).reverse:=⟨⟨λr hr=>b1.ok.low r (sub r hr),λr hr=>b1.ok.kinds r (sub r hr),λr hr=>b1.ok.few r (sub r hr),by rw[qCR,qj];omega⟩,⟨λr hr=>b1.ord.kinds r (sub r hr),λr hr=>b1.ord.size r (sub r hr)⟩,λr hr=>lowr r (sub r hr)⟩
 have e9:(sSet 9 (zau 5 zgc (zaa (eSl (eVar 1) (zbe (eC (.int 16))) (zbe (eC (.int 28)))) (zaa (eVar 4) (zaa (eVar 7) (zaa (eIxV 8 (eC (.int 0))) (zaa (zau 2 zbk (zaa (eOp modD (eIxV 1 (eC (.int 3))) (eC (.int 13))) (zaa (eIxV 1 (eC (.int 2))) aNil))) aNil))))))) (F15 cs p st x y W (.ac (zab [x,y])) (.ac (upD W)) (.ac (.list ([c0,c1,c2].map zag))) .no .no .no .no .no)=some (.nx (F15 cs p st x y W (.ac (zab [x,y])) (.pl (upD W)) (.ac (.list ([c0,c1,c2].map zag))) (.ac (zan rs)) .no .no .no .no)):=by
  have ei:eIxV 8 (eC (.int 0)) (F15 cs p st x y W (.ac (zab [x,y])) (.ac (upD W)) (.ac (.list ([c0,c1,c2].map zag))) .no .no .no .no .no)=some ⟨zag c0,false,[]⟩:=zafa (n:=0) (ds:=[c0,c1,c2].map zag) rfl rfl rfl
  have en:zau 2 zbk (zaa (eOp modD (eIxV 1 (eC (.int 3))) (eC (.int 13))) (zaa (eIxV 1 (eC (.int 2))) aNil)) (F15 cs p st x y W (.ac (zab [x,y])) (.ac (upD W)) (.ac (.list ([c0,c1,c2].map zag))) .no .no .no .no .no)=some ⟨zab ts,true,[]⟩:=zbd (n:=2) (rs:=[vi (cs[3]'(by omega) % 13),vi (cs[2]'(by omega))]) (zao (zfa (zxq (n:=3) rfl rfl (by omega)) rfl (by decide)) (zch (zxq (n:=2) rfl rfl (by omega)))) rfl gt
  exact zbg (r:=⟨zan rs,true,[7]⟩) (zbd (n:=5) (rs:=[⟨zbx ((cs.drop 16).take 12),true,[]⟩,⟨zab st,false,[]⟩,⟨.dict (dS zab (ups W)),false,[7]⟩,⟨zag c0,false,[]⟩,⟨zab ts,true,[]⟩]) (zao (zaoe hl 16 28 _ _ _ (by decide) (by decide) rfl rfl rfl) (zao rfl (zao rfl (zao ei (zch en))))) rfl gr)
 have e10:(sSet 10 (eTup (zaa (zck ["_law_name","_law_elders"] [] (zaj (eVar 6)) (gT 2 (zar 0 (zar 1 zdt))) zcf (eTup (zaa (eVar 0) (zaa (eCB zmo (zaa (eVar 1) aNil)) aNil)))) (zaa (eVar 2) (zaa (eCB zmo (zaa (eVar 9) aNil)) aNil))))) (F15 cs p st x y W (.ac (zab [x,y])) (.pl (upD W)) (.ac (.list ([c0,c1,c2].map zag))) (.ac (zan rs)) .no .no .no .no)=some (.nx (F15 cs p st x y W (.ac (zab [x,y])) (.pl (upD W)) (.ac (.list ([c0,c1,c2].map zag))) (.pl (zan rs)) (.pl (zam W p rs)) .no .no .no)):=by
  have cw:=zem (own:=["_law_name","_law_elders"]) (fr:=[]) (fi:=zaj (eVar 6)) (env:=(F15 cs p st x y W (.ac (zab [x,y])) (.pl (upD W)) (.ac (.list ([c0,c1,c2].map zag))) (.ac (zan rs)) .no .no .no .no)) (ds:=W.map rowD) (bs:=[]) rfl (by rw[qC];exact hWl) zaqz
  have e0:(if zei (W.map rowD)=true then([]:List Nat)else[]++capA [] (F15 cs p st x y W (.ac (zab [x,y])) (.pl (upD W)) (.ac (.list ([c0,c1,c2].map zag))) (.ac (zan rs)) .no .no .no .no))=[]:=by split<;>rfl
  rw[show(if zei (W.map rowD)=true then([]:List Nat)else _)=[]from e0]at cw
  refine zbg (r:=⟨zam W p rs,false,[9]⟩) ?_
  exact zqd (rs:=[⟨webD W,true,[]⟩,⟨.int (p:Int),false,[]⟩,⟨zan rs,true,[9]⟩]) (zao cw (zao (a:=eVar 2) rfl (zch (a:=eCB zmo (zaa (eVar 9) aNil)) rfl))) (show(3:Nat)<=100000 by decide)
 have e11:(sSet 11 (eTup (zaa (eIxV 10 (eC (.int 0))) (zaa (eVar 2) (zaa (eRv0 (eVar 9) (zbe (eC (.int 0))) (zbe (eNeg (eC (.int 1))))) aNil))))) (F15 cs p st x y W (.ac (zab [x,y])) (.pl (upD W)) (.ac (.list ([c0,c1,c2].map zag))) (.pl (zan rs)) (.pl (zam W p rs)) .no .no .no)=some (.nx (F15 cs p st x y W (.ac (zab [x,y])) (.pl (upD W)) (.ac (.list ([c0,c1,c2].map zag))) (.pl (zan rs)) (.pl (zam W p rs)) (.pl (zam W p (rs.drop 1).reverse)) .no .no)):=by
  have i0:eIxV 10 (eC (.int 0)) (F15 cs p st x y W (.ac (zab [x,y])) (.pl (upD W)) (.ac (.list ([c0,c1,c2].map zag))) (.pl (zan rs)) (.pl (zam W p rs)) .no .no .no)=some ⟨webD W,false,[]⟩:=zatk (ds:=[webD W,.int (p:Int),zan rs]) (n:=0) rfl rfl rfl
  have er:eRv0 (eVar 9) (zbe (eC (.int 0))) (zbe (eNeg (eC (.int 1)))) (F15 cs p st x y W (.ac (zab [x,y])) (.pl (upD W)) (.ac (.list ([c0,c1,c2].map zag))) (.pl (zan rs)) (.pl (zam W p rs)) .no .no .no)=some ⟨zan (rs.drop 1).reverse,true,[]⟩:=by
   show some (⟨.list ((rs.map zcw).drop 1).reverse,true,[]⟩:Val)=_
   unfold zan
   rw[List.map_reverse,qBh]
  refine zbg (r:=⟨zam W p (rs.drop 1).reverse,false,[]⟩) ?_
  exact zqd (rs:=[⟨webD W,false,[]⟩,⟨.int (p:Int),false,[]⟩,⟨zan (rs.drop 1).reverse,true,[]⟩]) (zao i0 (zao (a:=eVar 2) rfl (zch er))) (show(3:Nat)<=100000 by decide)
 exact⟨rs,b1,b2,λrest=>zai e9 (zai e10 (zai e11 rfl))⟩
theorem C15.ok(h:C15 W p c)(hp:p<=3):CallOk W c:=⟨by rw[h.len];omega,λa ha=>by have:=h.cl.few a ha;omega,h.cl.kinds⟩
theorem zbbf(t:T15 W p st x y)(h:n=x\/n=y\/n∈nm W):n∉nm W->atD (.str n)=true:=λhn=>by
 rcases h with rfl|rfl|h
 ·exact zahe t.x0.2
 ·exact zahe t.y0.2
 ·exact absurd h hn
theorem zaxe{c:List Arm}(h:c.length≠p):zfk W p c=some (("NoCall":Str),PyData.none):=by unfold zfk;rw[if_neg h]
section
variable{cs:List Int}{p:Nat}{st:List Str}{x y:Str}{W:Web}{c0 c1 c2:List Arm}{rs:List Rule}
theorem zatm(t:T15 W p st x y)(k0:C15 W p c0)(k1:C15 W p c1)(k2:C15 W p c2)(b1:Bk15 W p r1)(b2:Bk15 W p r2):zbl [.list [zam W p r1,zam W p r2],.dict (dS zab (ups W)),.list ([c0,c1,c2].map zag)]=some (.bool true,false):=
 zair t.ok b1 b2 λc hc=>by
  have:c=c0\/c=c1\/c=c2:=by simpa using hc
  rcases this with rfl|rfl|rfl
  ·exact⟨k0.ok t.p1.2,k0.len⟩
  ·exact⟨k1.ok t.p1.2,k1.len⟩
  ·exact⟨k2.ok t.p1.2,k2.len⟩
theorem zaof(hl:cs.length=34)(t:T15 W p st x y)(k0:C15 W p c0)(k1:C15 W p c1)(k2:C15 W p c2)(b1:Bk15 W p rs)(b2:Bk15 W p (rs.drop 1).reverse):∃w s5 at_,St15 W c1 w x y 14 at_/\(s5=.ac (zab [x,y])\/s5=.pl (zab [x,y]))/\∀rest:SF,
  (sSeq (sIf (zgr (tTru (zau 3 zbl (zaa (eLst (zaa (eVar 10) (zaa (eVar 11) aNil))) (zaa (eVar 7) (zaa (eVar 8) aNil)))))) (sRet (eC (.bool false))) sNil)
  (sSeq (sSet 12 (zau 3 zeq (zaa (eIxV 8 (eC (.int 1))) (zaa (eSl (eVar 1) (zbe (eC (.int 28))) (zbe (eC (.int 30)))) (zaa (eVar 5) aNil))))) rest)) (F15 cs p st x y W (.ac (zab [x,y])) (.pl (upD W)) (.ac (.list ([c0,c1,c2].map zag))) (.pl (zan rs)) (.pl (zam W p rs)) (.pl (zam W p (rs.drop 1).reverse)) .no .no)=rest (F15 cs p st x y W s5 (.pl (upD W)) (.ac (.list ([c0,c1,c2].map zag))) (.pl (zan rs)) (.pl (zam W p rs)) (.pl (zam W p (rs.drop 1).reverse)) (.pl (zag w)) .no):=by
 obtain⟨z0,z1,hz⟩:∃z0 z1,(cs.drop 28).take 2=[z0,z1]:=by
  have:((cs.drop 28).take 2).length=2:=by rw[qAV,qj];omega
  match h:(cs.drop 28).take 2,this with
  | [a,b],_=>exact⟨a,b,rfl⟩
 have ok1:=k1.ok t.p1.2
 obtain⟨w,at_,gs,sw⟩:=zaoc (W:=W) (c:=c1) (z0:=z0) (z1:=z1) (o0:=x) (o1:=y) ok1 k1.cl.few (by rw[k1.len];exact t.p1.1) (by rw[k1.len];exact t.p1.2)
 have e12:(sIf (zgr (tTru (zau 3 zbl (zaa (eLst (zaa (eVar 10) (zaa (eVar 11) aNil))) (zaa (eVar 7) (zaa (eVar 8) aNil)))))) (sRet (eC (.bool false))) sNil) (F15 cs p st x y W (.ac (zab [x,y])) (.pl (upD W)) (.ac (.list ([c0,c1,c2].map zag))) (.pl (zan rs)) (.pl (zam W p rs)) (.pl (zam W p (rs.drop 1).reverse)) .no .no)=some (.nx (F15 cs p st x y W (.ac (zab [x,y])) (.pl (upD W)) (.ac (.list ([c0,c1,c2].map zag))) (.pl (zan rs)) (.pl (zam W p rs)) (.pl (zam W p (rs.drop 1).reverse)) .no .no)):=by
  have el:eLst (zaa (eVar 10) (zaa (eVar 11) aNil)) (F15 cs p st x y W (.ac (zab [x,y])) (.pl (upD W)) (.ac (.list ([c0,c1,c2].map zag))) (.pl (zan rs)) (.pl (zam W p rs)) (.pl (zam W p (rs.drop 1).reverse)) .no .no)=some ⟨.list [zam W p rs,zam W p (rs.drop 1).reverse],true,[]⟩:=zqb (rs:=[⟨zam W p rs,false,[]⟩,⟨zam W p (rs.drop 1).reverse,false,[]⟩]) rfl (show(2:Nat)<=100000 by decide)
  exact if_f (zus (c:=true) (zbd (n:=3) (rs:=[⟨.list [zam W p rs,zam W p (rs.drop 1).reverse],true,[]⟩,⟨.dict (dS zab (ups W)),false,[]⟩,⟨.list ([c0,c1,c2].map zag),false,[8]⟩]) (zao el (zao rfl (zch rfl))) rfl (zatm t k0 k1 k2 b1 b2))) rfl
 have es:=zaoe hl 28 30 (eC (.int 28)) (eC (.int 30)) (F15 cs p st x y W (.ac (zab [x,y])) (.pl (upD W)) (.ac (.list ([c0,c1,c2].map zag))) (.pl (zan rs)) (.pl (zam W p rs)) (.pl (zam W p (rs.drop 1).reverse)) .no .no) (by decide) (by decide) rfl rfl rfl
 rw[show 30 - 28=2 from rfl,hz]at es
 have ei:eIxV 8 (eC (.int 1)) (F15 cs p st x y W (.ac (zab [x,y])) (.pl (upD W)) (.ac (.list ([c0,c1,c2].map zag))) (.pl (zan rs)) (.pl (zam W p rs)) (.pl (zam W p (rs.drop 1).reverse)) .no .no)=some ⟨zag c1,false,[]⟩:=zafa (n:=1) (ds:=[c0,c1,c2].map zag) rfl rfl rfl
 have cl:=zbd (n:=3) (g:=zeq) (rs:=[⟨zag c1,false,[]⟩,⟨zbx [z0,z1],true,[]⟩,⟨zab [x,y],false,[5]⟩]) (zao ei (zao es (zch (a:=eVar 5) rfl))) rfl gs
 have hcase:bsOf (zag w) (bss ([⟨zag c1,false,[]⟩,⟨zbx [z0,z1],true,[]⟩,⟨zab [x,y],false,[5]⟩]:List Val))=[]\/bsOf (zag w) (bss ([⟨zag c1,false,[]⟩,⟨zbx [z0,z1],true,[]⟩,⟨zab [x,y],false,[5]⟩]:List Val))=[5]:=by unfold bsOf;split<;>simp[bss]
 rcases hcase with hq|hq
 ·rw[hq]at cl
  exact⟨w,.ac (zab [x,y]),at_,sw,.inl rfl,λrest=>zai e12 (zai (zbg cl) rfl)⟩
 ·rw[hq]at cl
  exact⟨w,.pl (zab [x,y]),at_,sw,.inr rfl,λrest=>zai e12 (zai (zbg cl) rfl)⟩
end
def zadg:SF:=(sSeq (sSet 2 (eOp addD (eC (.int 1)) (eOp modD (eIxV 1 (eC (.int 0))) (eC (.int 3)))))
  (sSeq (sSet 3 (zau 2 zbk (zaa (eOp addD (eC (.int 3)) (eOp modD (eOp zbi (eIxV 1 (eC (.int 0))) (eC (.int 3))) (eOp ixD (eTup (zaa (eC (.int 8)) (zaa (eC (.int 8)) (zaa (eC (.int 6)) aNil)))) (eOp subD (eVar 2) (eC (.int 1)))))) (zaa (eIxV 1 (eC (.int 1))) aNil))))
  (sSeq (sSet 4 (eSl (eVar 3) zef (zbe (eNeg (eC (.int 2))))))
  (sSeq (sSet 5 (eLst (zaa (eIxV 3 (eNeg (eC (.int 2)))) (zaa (eIxV 3 (eNeg (eC (.int 1)))) aNil))))
  (sSeq (sSet 6 (zau 2 ziq (zaa (eSl (eVar 1) (zbe (eC (.int 8))) (zbe (eC (.int 16)))) (zaa (eVar 4) aNil))))
  (sSeq (sSet 7 (zau 1 zmh (zaa (eVar 6) aNil)))
  (sSeq (sSet 8 (zck ["_law_cell"] [2,4] (zaj (eSl (eVar 1) (zbe (eC (.int 4))) (zbe (eC (.int 7))))) (gN 0) zcf (zau 3 zfn (zaa (eVar 0) (zaa (eVar 2) (zaa (eVar 1) aNil))))))
  (sSeq (sIf (zaz (eOp eqD (eOp modD (eOp zbi (eIxV 1 (eC (.int 3))) (eC (.int 13))) (eC (.int 2))) (eC (.int 1)))) (znq 8 (eC (.int 0)) (eCB zco (zaa (zck ["_law_cell"] [4] (zaj (eSl (eVar 1) (zbe (eC (.int 30))) (zbe (eOp addD (eC (.int 30)) (eVar 2))))) (gN 0) zcf (zau 2 zdi (zaa (eVar 0) (zaa (eVar 1) aNil)))) aNil))) sNil)
  (sSeq (sSet 9 (zau 5 zgc (zaa (eSl (eVar 1) (zbe (eC (.int 16))) (zbe (eC (.int 28)))) (zaa (eVar 4) (zaa (eVar 7) (zaa (eIxV 8 (eC (.int 0))) (zaa (zau 2 zbk (zaa (eOp modD (eIxV 1 (eC (.int 3))) (eC (.int 13))) (zaa (eIxV 1 (eC (.int 2))) aNil))) aNil)))))))
  (sSeq (sSet 10 (eTup (zaa (zck ["_law_name","_law_elders"] [] (zaj (eVar 6)) (gT 2 (zar 0 (zar 1 zdt))) zcf (eTup (zaa (eVar 0) (zaa (eCB zmo (zaa (eVar 1) aNil)) aNil)))) (zaa (eVar 2) (zaa (eCB zmo (zaa (eVar 9) aNil)) aNil)))))
  (sSeq (sSet 11 (eTup (zaa (eIxV 10 (eC (.int 0))) (zaa (eVar 2) (zaa (eRv0 (eVar 9) (zbe (eC (.int 0))) (zbe (eNeg (eC (.int 1))))) aNil)))))
  (sSeq (sIf (zgr (tTru (zau 3 zbl (zaa (eLst (zaa (eVar 10) (zaa (eVar 11) aNil))) (zaa (eVar 7) (zaa (eVar 8) aNil)))))) (sRet (eC (.bool false))) sNil)
  (sSeq (sSet 12 (zau 3 zeq (zaa (eIxV 8 (eC (.int 1))) (zaa (eSl (eVar 1) (zbe (eC (.int 28))) (zbe (eC (.int 30)))) (zaa (eVar 5) aNil)))))
  (sSeq (sIf (zgr (tTru (zau 3 zbh (zaa (eVar 10) (zaa (eVar 12) (zaa (eTup (zaa (eC (.bool false)) (zaa (eC (.bool true)) (zaa (eC (.bool true)) (zaa (eC (.bool false)) (zaa (zau 2 zct (zaa (eVar 12) (zaa (eVar 5) aNil))) aNil)))))) aNil)))))) (sRet (eC (.bool false))) sNil)
  (sSeq (sFor (zaj (eLst (zaa (eSlT (eIxV 8 (eC (.int 0))) (zbe (eC (.int 1))) zef) (zaa (eOp addE (eIxV 8 (eC (.int 0))) (eTup (zaa (eIxV 4 (eC (.int 0))) aNil))) (zaa (eOp addE (eVar 12) (eTup (zaa (eIxV 5 (eC (.int 1))) aNil))) aNil))))) (gN 13)
  (sIf (zgr (tTru (zau 3 zbh (zaa (eVar 11) (zaa (eVar 13) (zaa (eTup (zaa (eC (.bool true)) (zaa (eC (.bool false)) (zaa (eC (.bool true)) (zaa (eC (.bool false)) (zaa (eC .none) aNil)))))) aNil)))))) (sRet (eC (.bool false))) sNil))
  (sRet (eAnd (zau 3 zbl (zaa (eLst (zaa (eVar 11) (zaa (eVar 10) aNil))) (zaa (eVar 7) (zaa (eVar 8) aNil)))) (eOp eqD (eVar 10) (eTup (zaa (eVar 6) (zaa (eVar 2) (zaa (eVar 9) aNil))))))))))))))))))))))
section
variable{cs:List Int}{p:Nat}{st:List Str}{x y:Str}{W:Web}{c0 c1 c2 w:List Arm}{rs:List Rule}{s5:Sl}{at_:Nat}
theorem zahh(t:T15 W p st x y){d:List Arm}(hl:d.length<300)(hf:∀a∈d,a.parts.length<300)(hm:∀a∈d,∀n∈a.parts,n=x\/n=y\/n∈nm W):CallLike W d:=⟨hl,hf,λa ha n hn=>zbbf t (hm a ha n hn)⟩
theorem zbcs(t:T15 W p st x y)(k0:C15 W p c0)(k1:C15 W p c1)(k2:C15 W p c2)(b1:Bk15 W p rs)(b2:Bk15 W p (rs.drop 1).reverse)(sw:St15 W c1 w x y 14 at_)(hs:s5=.ac (zab [x,y])\/s5=.pl (zab [x,y])) :
  (sSeq (sIf (zgr (tTru (zau 3 zbh (zaa (eVar 10) (zaa (eVar 12) (zaa (eTup (zaa (eC (.bool false)) (zaa (eC (.bool true)) (zaa (eC (.bool true)) (zaa (eC (.bool false)) (zaa (zau 2 zct (zaa (eVar 12) (zaa (eVar 5) aNil))) aNil)))))) aNil)))))) (sRet (eC (.bool false))) sNil)
  (sSeq (sFor (zaj (eLst (zaa (eSlT (eIxV 8 (eC (.int 0))) (zbe (eC (.int 1))) zef) (zaa (eOp addE (eIxV 8 (eC (.int 0))) (eTup (zaa (eIxV 4 (eC (.int 0))) aNil))) (zaa (eOp addE (eVar 12) (eTup (zaa (eIxV 5 (eC (.int 1))) aNil))) aNil))))) (gN 13) (sIf (zgr (tTru (zau 3 zbh (zaa (eVar 11) (zaa (eVar 13) (zaa (eTup (zaa (eC (.bool true)) (zaa (eC (.bool false)) (zaa (eC (.bool true)) (zaa (eC (.bool false)) (zaa (eC .none) aNil)))))) aNil)))))) (sRet (eC (.bool false))) sNil))
  (sRet (eAnd (zau 3 zbl (zaa (eLst (zaa (eVar 11) (zaa (eVar 10) aNil))) (zaa (eVar 7) (zaa (eVar 8) aNil)))) (eOp eqD (eVar 10) (eTup (zaa (eVar 6) (zaa (eVar 2) (zaa (eVar 9) aNil))))))))) (F15 cs p st x y W s5 (.pl (upD W)) (.ac (.list ([c0,c1,c2].map zag))) (.pl (zan rs)) (.pl (zam W p rs)) (.pl (zam W p (rs.drop 1).reverse)) (.pl (zag w)) .no)=some (.rt (.bool true) false):=by
 have nx:x∉nm W:=by rw[t.nm_];exact t.x0.1
 have ny:y∉nm W:=by rw[t.nm_];exact t.y0.1
 have hp:=t.p1
 have wl:w.length=p:=by rw[sw.len,k1.len]
 have wk:CallLike W w:=zahh t (by omega) (λa ha=>by have:=sw.few a ha;omega) sw.mem
 obtain⟨x0,hx0,hxm⟩:∃x0,zfj W (w.flatMap Arm.parts)=some x0/\(x0=x\/x0=y\/x0∈nm W):=by
  cases hf:zfj W (w.flatMap Arm.parts)with
  | some x0=>
   obtain⟨a,ha,h⟩:=qA8.mp (List.mem_of_find?_eq_some hf)
   exact⟨x0,rfl,sw.mem a ha x0 h⟩
  | none=>
   obtain⟨a,ha,h⟩:=sw.has
   have:=List.find?_eq_none.mp hf x (qA8.mpr ⟨a,qAe ha,h⟩)
   rw[decide_eq_false nx]at this
   exact absurd rfl this
 have bw:zfk W p w=some (("NoKind":Str),PyData.str x0):=by unfold zfk;rw[if_pos wl,hx0];rfl
 have okx:qAH x0=true:=by
  rcases hxm with rfl|rfl|h
  ·exact zhl t.x0.2.1
  ·exact zhl t.y0.2.1
  ·exact zhl (t.low _ (by rw[<- t.nm_];exact h))
 have s1:qt (zqa ("NoKind",.str x0))=true:=zahf (.inr ⟨x0,rfl,okx⟩)
 have s2:qt (zqa ("NoCall",.none))=true:=zahf (.inl rfl)
 have e14:(sIf (zgr (tTru (zau 3 zbh (zaa (eVar 10) (zaa (eVar 12) (zaa (eTup (zaa (eC (.bool false)) (zaa (eC (.bool true)) (zaa (eC (.bool true)) (zaa (eC (.bool false)) (zaa (zau 2 zct (zaa (eVar 12) (zaa (eVar 5) aNil))) aNil)))))) aNil)))))) (sRet (eC (.bool false))) sNil) (F15 cs p st x y W s5 (.pl (upD W)) (.ac (.list ([c0,c1,c2].map zag))) (.pl (zan rs)) (.pl (zam W p rs)) (.pl (zam W p (rs.drop 1).reverse)) (.pl (zag w)) .no)=some (.nx (F15 cs p st x y W s5 (.pl (upD W)) (.ac (.list ([c0,c1,c2].map zag))) (.pl (zan rs)) (.pl (zam W p rs)) (.pl (zam W p (rs.drop 1).reverse)) (.pl (zag w)) .no)):=by
  have ef:zau 2 zct (zaa (eVar 12) (zaa (eVar 5) aNil)) (F15 cs p st x y W s5 (.pl (upD W)) (.ac (.list ([c0,c1,c2].map zag))) (.pl (zan rs)) (.pl (zam W p rs)) (.pl (zam W p (rs.drop 1).reverse)) (.pl (zag w)) .no)=some (vs x0):=by
   rcases hs with rfl|rfl
   ·exact zbd (n:=2) (rs:=[⟨zag w,false,[]⟩,⟨zab [x,y],false,[5]⟩]) rfl rfl (zadf nx ny sw.mem hx0)
   ·exact zbd (n:=2) (rs:=[⟨zag w,false,[]⟩,⟨zab [x,y],false,[]⟩]) rfl rfl (zadf nx ny sw.mem hx0)
  have et:=zqd (zao (a:=eC (.bool false)) (env:=(F15 cs p st x y W s5 (.pl (upD W)) (.ac (.list ([c0,c1,c2].map zag))) (.pl (zan rs)) (.pl (zam W p rs)) (.pl (zam W p (rs.drop 1).reverse)) (.pl (zag w)) .no)) rfl (zao (a:=eC (.bool true)) rfl (zao (a:=eC (.bool true)) rfl (zao (a:=eC (.bool false)) rfl (zch ef))))) (show(5:Nat)<=100000 by decide)
  exact if_f (zus (c:=true) (zbd (n:=3) (rs:=[⟨zam W p rs,false,[]⟩,⟨zag w,false,[]⟩,⟨zqa ("NoKind",.str x0),false,[]⟩]) (zao rfl (zao rfl (zch et))) rfl (zwo t.ok wk bw s1))) rfl
 have h0:0<st.length:=t.len.1
 have k0l:=k0.len
 have it:(zaj (eLst (zaa (eSlT (eIxV 8 (eC (.int 0))) (zbe (eC (.int 1))) zef) (zaa (eOp addE (eIxV 8 (eC (.int 0))) (eTup (zaa (eIxV 4 (eC (.int 0))) aNil))) (zaa (eOp addE (eVar 12) (eTup (zaa (eIxV 5 (eC (.int 1))) aNil))) aNil))))) (F15 cs p st x y W s5 (.pl (upD W)) (.ac (.list ([c0,c1,c2].map zag))) (.pl (zan rs)) (.pl (zam W p rs)) (.pl (zam W p (rs.drop 1).reverse)) (.pl (zag w)) .no)=some ([c0.drop 1,c0++[.one st[0]],w++[.one y]].map zag,[]):=by
  have ei:eIxV 8 (eC (.int 0)) (F15 cs p st x y W s5 (.pl (upD W)) (.ac (.list ([c0,c1,c2].map zag))) (.pl (zan rs)) (.pl (zam W p rs)) (.pl (zam W p (rs.drop 1).reverse)) (.pl (zag w)) .no)=some ⟨zag c0,false,[]⟩:=zafa (n:=0) (ds:=[c0,c1,c2].map zag) rfl rfl rfl
  have a1:eSlT (eIxV 8 (eC (.int 0))) (zbe (eC (.int 1))) zef (F15 cs p st x y W s5 (.pl (upD W)) (.ac (.list ([c0,c1,c2].map zag))) (.pl (zan rs)) (.pl (zam W p rs)) (.pl (zam W p (rs.drop 1).reverse)) (.pl (zag w)) .no)=some ⟨zag (c0.drop 1),false,[]⟩:=zbco (ds:=c0.map armD) (lo:=some 1) (hi:=none) ei rfl rfl (by rw[show(1:Int)=((1:Nat):Int)from rfl,zaaa,qBh])
  have i4:eIxV 4 (eC (.int 0)) (F15 cs p st x y W s5 (.pl (upD W)) (.ac (.list ([c0,c1,c2].map zag))) (.pl (zan rs)) (.pl (zam W p rs)) (.pl (zam W p (rs.drop 1).reverse)) (.pl (zag w)) .no)=some (vs st[0]):=zaeh (ds:=st.map .str) (n:=0) rfl rfl (by rw[qN,qH h0];rfl)
  have i5:eIxV 5 (eC (.int 1)) (F15 cs p st x y W s5 (.pl (upD W)) (.ac (.list ([c0,c1,c2].map zag))) (.pl (zan rs)) (.pl (zam W p rs)) (.pl (zam W p (rs.drop 1).reverse)) (.pl (zag w)) .no)=some (vs y):=by
   rcases hs with rfl|rfl<;>rfl
  have a2:eOp addE (eIxV 8 (eC (.int 0))) (eTup (zaa (eIxV 4 (eC (.int 0))) aNil)) (F15 cs p st x y W s5 (.pl (upD W)) (.ac (.list ([c0,c1,c2].map zag))) (.pl (zan rs)) (.pl (zam W p rs)) (.pl (zam W p (rs.drop 1).reverse)) (.pl (zag w)) .no)=some ⟨zag (c0++[.one st[0]]),false,[]⟩:=by
   rw[zatl (x:=c0.map armD) (y:=[.str st[0]]) (f1:=false) (f2:=false) ei (zqd (zch i4) (show(1:Nat)<=100000 by decide)) (by rw[qC];show _+1<=100000;omega)]
   unfold zag
   rw[qAJ]
   rfl
  have a3:eOp addE (eVar 12) (eTup (zaa (eIxV 5 (eC (.int 1))) aNil)) (F15 cs p st x y W s5 (.pl (upD W)) (.ac (.list ([c0,c1,c2].map zag))) (.pl (zan rs)) (.pl (zam W p rs)) (.pl (zam W p (rs.drop 1).reverse)) (.pl (zag w)) .no)=some ⟨zag (w++[.one y]),false,[]⟩:=by
   rw[zatl (x:=w.map armD) (y:=[.str y]) (f1:=false) (f2:=false) rfl (zqd (zch i5) (show(1:Nat)<=100000 by decide)) (by rw[qC];show _+1<=100000;omega)]
   unfold zag
   rw[qAJ]
   rfl
  exact zaad (zqb (zao a1 (zao a2 (zch a3))) (show(3:Nat)<=100000 by decide)) rfl
 have dk:∀d∈[c0.drop 1,c0++[.one st[0]],w++[.one y]],CallLike W d/\d.length≠p:=λd hd=>by
  have:d=c0.drop 1\/d=c0++[.one st[0]]\/d=w++[.one y]:=by simpa using hd
  rcases this with rfl|rfl|rfl
  ·exact⟨zahh t (by rw[qj];omega) (λa ha=>by have:=k0.cl.few a (qAR ha);omega) (λa ha n hn=>.inr (.inr (k0.cl.kinds a (qAR ha) n hn))),by rw[qj];omega⟩
  ·refine⟨zahh t (by rw[qO];show _+1<300;omega) (λa ha=>?_) (λa ha n hn=>?_),by rw[qO];show _+1≠p;omega⟩
   ·rcases qu.mp ha with h|h
    ·have:=k0.cl.few a h;omega
    ·rw[qAD.mp h];show 1<300;decide
   ·rcases qu.mp ha with h|h
    ·exact .inr (.inr (k0.cl.kinds a h n hn))
    ·rw[qAD.mp h]at hn
     have:n=st[0]:=by simpa [Arm.parts]using hn
     exact .inr (.inr (by rw[this,t.nm_];exact qAN _))
  ·refine⟨zahh t (by rw[qO];show _+1<300;omega) (λa ha=>?_) (λa ha n hn=>?_),by rw[qO];show _+1≠p;omega⟩
   ·rcases qu.mp ha with h|h
    ·have:=sw.few a h;omega
    ·rw[qAD.mp h];show 1<300;decide
   ·rcases qu.mp ha with h|h
    ·exact sw.mem a h n hn
    ·rw[qAD.mp h]at hn
     exact .inr (.inl (by simpa [Arm.parts]using hn))
 obtain⟨env',lp,s13,rfl⟩:=zec (enc:=zag) (g:=gN 13) (body:=(sIf (zgr (tTru (zau 3 zbh (zaa (eVar 11) (zaa (eVar 13) (zaa (eTup (zaa (eC (.bool true)) (zaa (eC (.bool false)) (zaa (eC (.bool true)) (zaa (eC (.bool false)) (zaa (eC .none) aNil)))))) aNil)))))) (sRet (eC (.bool false))) sNil)) (l:=[c0.drop 1,c0++[.one st[0]],w++[.one y]]) (env:=(F15 cs p st x y W s5 (.pl (upD W)) (.ac (.list ([c0,c1,c2].map zag))) (.pl (zan rs)) (.pl (zam W p rs)) (.pl (zam W p (rs.drop 1).reverse)) (.pl (zag w)) .no)) (λ_ env=>∃s13,env=(F15 cs p st x y W s5 (.pl (upD W)) (.ac (.list ([c0,c1,c2].map zag))) (.pl (zan rs)) (.pl (zam W p rs)) (.pl (zam W p (rs.drop 1).reverse)) (.pl (zag w)) s13)) ⟨_,rfl⟩ (by
  rintro pre d post env hp' ⟨s13,rfl⟩
  have hd:d∈[c0.drop 1,c0++[.one st[0]],w++[.one y]]:=by rw[<- hp'];simp
  refine⟨_,(F15 cs p st x y W s5 (.pl (upD W)) (.ac (.list ([c0,c1,c2].map zag))) (.pl (zan rs)) (.pl (zam W p rs)) (.pl (zam W p (rs.drop 1).reverse)) (.pl (zag w)) (.pl (zag d))),rfl,.inl ?_,_,rfl⟩
  exact if_f (zus (c:=true) (zbd (n:=3) (rs:=[⟨zam W p (rs.drop 1).reverse,false,[]⟩,⟨zag d,false,[]⟩,⟨zqa ("NoCall",.none),false,[]⟩]) rfl rfl (zwo t.ok (dk d hd).1 (zaxe (dk d hd).2) s2))) rfl)
 have er:(eAnd (zau 3 zbl (zaa (eLst (zaa (eVar 11) (zaa (eVar 10) aNil))) (zaa (eVar 7) (zaa (eVar 8) aNil)))) (eOp eqD (eVar 10) (eTup (zaa (eVar 6) (zaa (eVar 2) (zaa (eVar 9) aNil)))))) (F15 cs p st x y W s5 (.pl (upD W)) (.ac (.list ([c0,c1,c2].map zag))) (.pl (zan rs)) (.pl (zam W p rs)) (.pl (zam W p (rs.drop 1).reverse)) (.pl (zag w)) s13)=some (vb true):=by
  have el:eLst (zaa (eVar 11) (zaa (eVar 10) aNil)) (F15 cs p st x y W s5 (.pl (upD W)) (.ac (.list ([c0,c1,c2].map zag))) (.pl (zan rs)) (.pl (zam W p rs)) (.pl (zam W p (rs.drop 1).reverse)) (.pl (zag w)) s13)=some ⟨.list [zam W p (rs.drop 1).reverse,zam W p rs],true,[]⟩:=zqb (rs:=[⟨zam W p (rs.drop 1).reverse,false,[]⟩,⟨zam W p rs,false,[]⟩]) rfl (show(2:Nat)<=100000 by decide)
  have f1:=zbd (n:=3) (g:=zbl) (rs:=[⟨.list [zam W p (rs.drop 1).reverse,zam W p rs],true,[]⟩,⟨.dict (dS zab (ups W)),false,[]⟩,⟨.list ([c0,c1,c2].map zag),false,[8]⟩]) (zao el (zao (a:=eVar 7) rfl (zch (a:=eVar 8) rfl))) rfl (zatm t k0 k1 k2 b2 b1)
  have low:∀z∈nm W,Low z:=by rw[t.nm_];exact t.low
  have sb:qt (zam W p rs)=true:=zaex t.ok low λr hr=>⟨b1.low r hr,b1.ok.low r hr⟩
  have f2:eOp eqD (eVar 10) (eTup (zaa (eVar 6) (zaa (eVar 2) (zaa (eVar 9) aNil)))) (F15 cs p st x y W s5 (.pl (upD W)) (.ac (.list ([c0,c1,c2].map zag))) (.pl (zan rs)) (.pl (zam W p rs)) (.pl (zam W p (rs.drop 1).reverse)) (.pl (zag w)) s13)=some (vb true):=
   zanz (x:=zam W p rs) (y:=zam W p rs) (f1:=false) (f2:=false) (b1:=[]) (b2:=[]) rfl rfl (zbbc sb)
  unfold eAnd
  rw[f1,f2]
  rfl
 exact zai e14 (zai (zgi it lp) (zir er))
end
theorem zars{cs:List Int}(hl:cs.length=34)(h0:∀c∈cs,0<=c):zadg (envL 12 cs)=some (.rt (.bool true) false):=by
 obtain⟨p,st,x,y,W,t,q1⟩:=zaxb hl h0
 obtain⟨c0,c1,c2,k0,k1,k2,q2⟩:=zaxc hl h0 t
 obtain⟨rs,b1,b2,q3⟩:=zaxd (c1:=c1) (c2:=c2) hl h0 t k0
 obtain⟨w,s5,at_,sw,hs,q4⟩:=zaof hl t k0 k1 k2 b1 b2
 exact(q1 _).trans ((q2 _).trans ((q3 _).trans ((q4 _).trans (zbcs t k0 k1 k2 b1 b2 sw hs))))
section
variable{P:Program}{w:World}{K:qB}{mg:Str->Option Value}{base:Heap}
theorem zbct{s k:Int}(h1:0<=s)(h2:s<2147483647)(h3:0<=k)(h4:k<=64):0<=s * (k+2)+7919 * k * k+11/\s * (k+2)+7919 * k * k+11<200000000000:=by
 have a1:0<=s * (k+2):=qC9 h1 (by omega)
 have a2:s * (k+2)<=2147483647 * 66:=Int.mul_le_mul (by omega) (by omega) (by omega) (by omega)
 have a3:0<=7919 * k * k:=qC9 (by omega) h3
 have a4:7919 * k * k<=7919 * 64 * 64:=Int.mul_le_mul (by omega) h4 h3 (by omega)
 omega
def zafb(K:qB):Sp:=λvs H Q _=>∃(a:Addr)(ns:List Int)(m:Int),vs=[.ref a,.int m]/\SqL K H a (ns.map .int)/\0<=m/\m<=64/\
 ∀p H' (cs:List Int),H p=none->Same H H'->H' p=some (.lst (cs.map .int))->cs.length=m.toNat->(∀c∈cs,0<=c/\c<1000000000000)->Q (.ref p) H'
theorem zadh{f:Addr}{fd:qAb}(F:Fun K "_law_draws" "_law_draws" znz f fd)(T:Txt mg):FnOk P w K mg base CX0 1 f fd ["_law_script","_law_many"] (zafb K):=by
 refine F.ok zru (λvs H Q E h=>?_) (λcdv A outer s H vs Q E hr h=>?_)
 ·obtain⟨a,ns,m,rfl,_⟩:=h
  rfl
 ·obtain⟨a,ns,m,rfl,hS,h0,h64,k⟩:=h
  apply Exists.intro
  apply And.intro
  ·refine'(zlz (zafd (i:=2) (hf:=Or.inl rfl) zgo rfl (Or.inl rfl) zib)
 (zlz (zaiz qk rfl (zapb (K:=K) rfl (zafg (zmn (K:=K) rfl) (pv 0) zajk (zajl zib))) (zadk (i:=3) (hf:=Or.inl rfl) zgo rfl (Or.inl rfl))
  (znh (zafd (i:=2) (hf:=Or.inl rfl) zgo rfl (Or.inl rfl) (zmm zbw (zmm (zbp (K:=K) rfl) (zmm zif (pv 2) zib) (zmm zbw (pv 3) zib)) zib))))
 (zlz (zafd (i:=4) (hf:=Or.inl rfl) zgo rfl (Or.inl rfl) (zarw zre))
 (zlz (zaiz qk rfl (zaah rfl T.range (zkh (pv 1) zre)) (zadk (i:=5) (hf:=Or.inl rfl) zgo rfl (Or.inl rfl))
  (znh (zaxr (zajc zbbp (pv 5) (zaff (zbo (K:=K) rfl) (by rfl) T.len zcb (zkh (pv 0) zre)) (zet _)) (znh (zyo (zake (K:=K) rfl qQ qW qV zbm (pv 4) (zkh (zmm zbw (zaye (zcd (K:=K) rfl) (pv 0) (pv 5) (λ_ _=>rfl)) (zmm zarv zib zib)) zre)))) (znh (zyo (zake (K:=K) rfl qQ qW qV zbm (pv 4) (zkh (zmm zcm (zmm zbw (zmm zarv (zmm (zbp (K:=K) rfl) (zmm (zbp (K:=K) rfl) (zmm zif (pv 2) (zmm (zbp (K:=K) rfl) (pv 5) zib)) (zmm zif (zmm zif zib (pv 5)) (pv 5))) zib) zib) zib) zib) zre)))))))
 (znh (zart (pv 4)))))))
  refine⟨_,rfl,_,rfl,a,_,rfl,hS,λp hp=>⟨p,rfl,⟨_,SqL.of zal⟩,L2.for_list (xs:=cutV (ns.map V.int) none (some 63)) (λi σ H1=>∃(sd:Int)(v3:Option V),σ=[some (.ref a),some (.int m),some (.int sd),v3,none,none]/\H1=upd H p (.lst (cutV (ns.map V.int) none (some 63)))/\0<=sd/\sd<2147483647)
   ⟨7,none,rfl,rfl,by decide,by decide⟩ (λi σ H1 _ ⟨_,_,_,e,_⟩=>e▸SqL.of zal) ?_ ?_⟩⟩
  ·rintro i x σ H1 hi ⟨sd,v3,rfl,rfl,b0,b1⟩
   obtain⟨z,rfl⟩:∃z,x=V.int z:=by
    have hm:=qAe hi
    unfold cutV at hm
    obtain⟨z,_,e⟩:=qAa.mp (qAR (qAy hm))
    exact⟨z,e.symm⟩
   refine⟨_,rfl,.inl ⟨by omega,by omega⟩,_,rfl,_,_,rfl,rfl,(by show(0:Int)<2147483629;decide),_,_,rfl,rfl,(by show(0:Int)<2147483647;decide),?_⟩
   exact⟨_,_,rfl,rfl,qx _ (by decide),qr _ (by decide)⟩
  ·rintro σ H1 ⟨sd,v3,rfl,rfl,b0,b1⟩
   refine⟨qAl _,λq hq=>?_⟩
   have hqH:H q=none:=(Same.new hp).free hq
   have sH:∀o,Same H (upd (upd H p (.lst (cutV (ns.map V.int) none (some 63)))) q o):=λo=>(Same.new hp).upd hqH
   refine⟨_,rfl,m,rfl,by omega,by omega,L2.for_range (n:=m.toNat) (λi σ H2=>∃(cs:List Int)(v5:Option V),σ=[some (.ref a),some (.int m),some (.int sd),v3,some (.ref q),v5]/\H2=upd (upd H p (.lst (cutV (ns.map V.int) none (some 63)))) q (.lst (cs.map .int))/\cs.length=i/\∀c∈cs,0<=c/\c<1000000000000)
    ⟨[],none,rfl,rfl,rfl,λ_ h=>nomatch h⟩ ?_ ?_⟩
   ·rintro i σ H2 hi ⟨cs,v5,rfl,rfl,hc,hp0⟩
    have hi64:(i:Int)<=64:=by omega
    refine⟨_,rfl,_,rfl,_,_,rfl,.inl ⟨_,(sH _).seq hS,rfl⟩,_,_,rfl,rfl,_,rfl,?_⟩
    have lz:(cs.map V.int).length<qU:=by rw[qC,hc];exact qBM (show i<=64 by omega) (by decide)
    have fin:∀v:Int,0<=v->v<1000000000000->∃(cs':List Int)(v5:Option V),[some (.ref a),some (.int m),some (.int sd),v3,some (.ref q),some (.int (0+(i:Int)))]=[some (.ref a),some (.int m),some (.int sd),v3,some (.ref q),v5]/\
      upd (upd (upd H p (.lst (cutV (ns.map V.int) none (some 63)))) q (.lst (cs.map .int))) q (.lst (cs.map V.int++[.int v]))=upd (upd H p (.lst (cutV (ns.map V.int) none (some 63)))) q (.lst (cs'.map .int))/\cs'.length=i+1/\∀c∈cs',0<=c/\c<1000000000000:=λv hv hv2=>by
     refine⟨cs++[v],_,rfl,?_,by simp[hc],λc h=>?_⟩
     ·rw[zatn,qAJ];rfl
     ·rcases qu.mp h with h|h
      ·exact hp0 c h
      ·rw[qAD.mp h];exact⟨hv,hv2⟩
    refine ite2 (λh=>?_) (λh=>?_)
    ·have h:(0:Int)+i<((ns.map V.int).length:Nat):=of_decide_eq_true h
     rw[qC]at h
     have hin:i<ns.length:=by omega
     have ga:atI (ns.map V.int) (0+(i:Int))=some (.int ns[i]):=by
      rw[Int.zero_add]
      exact zki (by rw[qN,qH hin];rfl)
     refine⟨_,rfl,.inl ⟨rfl,_,SqL.of zal⟩,_,rfl,_,rfl,_,_,.inl ((sH _).seq hS),ga,_,_,rfl,rfl,⟨by decide,by decide,by decide⟩,_,_,rfl,rfl,(by show(0:Int)<10 ^ 12;decide),q,_,_,rfl,rfl,zal,lz,?_⟩
     exact fin _ (qx _ (by decide)) (qr _ (by decide))
    ·obtain⟨d1,d2⟩:=zbct (s:=sd) (k:=0+(i:Int)) b0 b1 (by omega) (by omega)
     refine⟨_,rfl,.inl ⟨rfl,_,SqL.of zal⟩,_,rfl,_,rfl,.inl ⟨by omega,by omega⟩,_,rfl,.inl ⟨by decide,by decide⟩,_,rfl,.inr ⟨by omega,by omega⟩,?_⟩
     refine⟨_,_,rfl,rfl,⟨by decide,by decide,?_⟩,_,_,rfl,rfl,(by show(0:Int)<2147483647;decide),_,_,rfl,rfl,⟨by decide,by decide⟩,q,_,_,rfl,rfl,zal,lz,?_⟩
     ·show(sd * (0+(i:Int)+2)+7919 * (0+(i:Int)) * (0+(i:Int))+11).natAbs<2 ^ 64
      omega
     ·refine fin _ (qB0 (qx _ (by decide)) (by decide)) ?_
      have h9:∀z:Int,z % 2147483647 / 7<1000000000000:=λz=>by have:=qr z (show(0:Int)<2147483647 by decide);omega
      exact h9 _
   ·rintro σ H2 ⟨cs,v5,rfl,rfl,hc,hp0⟩
    exact⟨_,rfl,k q _ cs hqH (sH _) zal hc hp0⟩
end
section
variable{P:Program}{w:World}{K:qB}{mg:Str->Option Value}{base:Heap}
def zbcy(K:qB):Sp:=λvs H Q _=>∃(a:Addr)(ns:List Int),vs=[.ref a]/\SqL K H a (ns.map V.int)/\∀H',Q (.bl true) H'
theorem zbbg{f PT:Addr}{fd:qAb}(F:Fun K "law" "law" zaig f fd)(T:Txt mg)(D_law_answered:znf P w K mg base)(D_law_arm:zacn P w K mg base)(D_law_call:zyg P w K mg base)(D_law_draws:Dn P w K mg base "_law_draws" ["_law_script","_law_many"] 1 (zafb K))(D_law_first:zwg P w K mg base)(D_law_names:zwe P w K mg base)(D_law_refused:zpw P w K mg base PT)(D_law_rules:zwf P w K mg base)(D_law_strange:zpx P w K mg base)(D_law_up:zagu P w K mg base)(D_law_web:zacm P w K mg base):FnOk P w K mg base CX0 11 f fd ["_law_script"] (zagc K PT (("_law_refused":Str)++".<locals>."++"<lambda>")):=by
 refine F.ok zatj (λvs H Q E h=>?_) (λcdv A outer s H vs Q E hr h=>?_)
 ·obtain⟨a,ns,rfl,_⟩:=h
  rfl
 ·obtain⟨a,ns,rfl,hS,hTb,k⟩:=h
  have hu:=zyt hr
  apply Exists.intro
  apply And.intro
  ·refine' Bx.out (zad (bpsS (i:=1) ziv rfl (Or.inl rfl) (bpeD D_law_draws hr (bpaC (bv 0) (bpaC zae zac))))
 (zad (bpsS (i:=2) ziv rfl (Or.inr rfl) (zak (zbp (K:=K) rfl) zae (zak zbw (bpeX (zcd (K:=K) rfl) (bv 1) zae) zae)))
 (zad (bpsS (i:=3) ziv rfl (Or.inl rfl) (bpeD D_law_names hr (bpaC (zak (zbp (K:=K) rfl) zae (zak zbw (zak zcm (bpeX (zcd (K:=K) rfl) (bv 1) zae) zae) (bpeX (zcd (K:=K) rfl) (zcg (bpaC zae (bpaC zae (bpaC zae zac)))) (zak ztg (bv 2) zae)))) (bpaC (bpeX (zcd (K:=K) rfl) (bv 1) zae) zac))))
 (zad (bpsS (i:=4) ziv rfl (Or.inr rfl) (zce (zmn (K:=K) rfl) (bv 3) zft (zbu (zaga zafe zae))))
 (zad (bpsS (i:=5) ziv rfl (Or.inl rfl) (zdq (bpaC (bpeX (zcd (K:=K) rfl) (bv 3) (zaga zafe zae)) (bpaC (bpeX (zcd (K:=K) rfl) (bv 3) (zaga zafe zae)) zac))))
 (zad (bpsS (i:=6) ziv rfl (Or.inl rfl) (bpeD D_law_web hr (bpaC (zce (zmn (K:=K) rfl) (bv 1) (zbu zae) (zbu zae)) (bpaC (bv 4) zac))))
 (zad (bpsS (i:=7) ziv rfl (Or.inl rfl) (bpeD D_law_up hr (bpaC (bv 6) zac)))
 (zad (zox (i:=8) (zbn (N':=["_law_cell","_law_places","_law_stand"]) (own:=["_law_cell"]) (fr:=[2,4]) (by kernel_rfl)) rfl (zbc (K:=K) rfl (zce (zmn (K:=K) rfl) (bv 1) (zbu zae) (zbu zae))) ?hb1 (by rfl) ziv rfl rfl (by intro _;rfl))
 (zad (zdf (zbt (zim (K:=K) rfl hr.units) (zak zbw (zak zcm (bpeX (zcd (K:=K) rfl) (bv 1) zae) zae) zae) zae (zet _)) (zaf (zoy (bv 8) zae (bpeT (zcq (K:=K) rfl) T.tuple zcc (bpaC (zdg (zbn (N':=["_law_cell","_law_stand"]) (own:=["_law_cell"]) (fr:=[4]) (by kernel_rfl)) rfl (zbc (K:=K) rfl (zce (zmn (K:=K) rfl) (bv 1) (zbu zae) (zbu (zak (zbp (K:=K) rfl) zae (bv 2))))) ?hb2 (by intro _;rfl)) zac)) (by intro _;rfl) (by rfl) (by rfl) (by rfl))) zbq)
 (zad (bpsS (i:=9) ziv rfl (Or.inl rfl) (bpeD D_law_rules hr (bpaC (zce (zmn (K:=K) rfl) (bv 1) (zbu zae) (zbu zae)) (bpaC (bv 4) (bpaC (bv 7) (bpaC (bpeX (zcd (K:=K) rfl) (bv 8) zae) (bpaC (bpeD D_law_names hr (bpaC (zak zbw (bpeX (zcd (K:=K) rfl) (bv 1) zae) zae) (bpaC (bpeX (zcd (K:=K) rfl) (bv 1) zae) zac))) zac)))))))
 (zad (bpsS (i:=10) ziv rfl (Or.inl rfl) (zcg (bpaC (zdg (zbn (N':=["_law_name","_law_elders"]) (own:=["_law_name","_law_elders"]) (fr:=[]) (by kernel_rfl)) rfl (zbc (K:=K) rfl (bv 6)) ?hb3 (by intro _;rfl)) (bpaC (bv 2) (bpaC (bpeT (zhd (K:=K) rfl) T.list zis (bpaC (bv 9) zac)) zac)))))
 (zad (bpsS (i:=11) ziv rfl (Or.inl rfl) (zcg (bpaC (bpeX (zcd (K:=K) rfl) (bv 10) zae) (bpaC (bv 2) (bpaC (zawd (K:=K) rfl (bv 9) (zbu zae) (zbu (zaga zafe zae))) zac)))))
 (zad (zdf (zks (zcl (K:=K) rfl (bpeD D_law_answered hr (bpaC (zdq (bpaC (bv 10) (bpaC (bv 11) zac))) (bpaC (bv 7) (bpaC (bv 8) zac)))) (λ_=>rfl))) (zaf (zba zgw)) zbq)
 (zad (bpsS (i:=12) ziv rfl (Or.inl rfl) (bpeD D_law_strange hr (bpaC (bpeX (zcd (K:=K) rfl) (bv 8) zae) (bpaC (zce (zmn (K:=K) rfl) (bv 1) (zbu zae) (zbu zae)) (bpaC (bv 5) zac)))))
 (zad (zdf (zks (zcl (K:=K) rfl (bpeD D_law_refused hr (bpaC (bv 10) (bpaC (bv 12) (bpaC (zcg (bpaC zgw (bpaC zgw (bpaC zgw (bpaC zgw (bpaC (bpeD D_law_first hr (bpaC (bv 12) (bpaC (bv 5) zac))) zac)))))) zac)))) (λ_=>rfl))) (zaf (zba zgw)) zbq)
 (zad (zda qk rfl (zbc (K:=K) rfl (zdq (bpaC (zce (sl_W (K:=K) rfl) (bpeX (zcd (K:=K) rfl) (bv 8) zae) (zbu zae) zft) (bpaC (zak (zalv (K:=K) rfl) (bpeX (zcd (K:=K) rfl) (bv 8) zae) (zcg (bpaC (bpeX (zcd (K:=K) rfl) (bv 4) zae) zac))) (bpaC (zak (zalv (K:=K) rfl) (bv 12) (zcg (bpaC (bpeX (zcd (K:=K) rfl) (bv 5) zae) zac))) zac))))) (bpgN (i:=13) ziv rfl (Or.inl rfl))
  (zaf (zdf (zks (zcl (K:=K) rfl (bpeD D_law_refused hr (bpaC (bv 11) (bpaC (bv 13) (bpaC (zcg (bpaC zgw (bpaC zgw (bpaC zgw (bpaC zgw (bpaC zaeg zac)))))) zac)))) (λ_=>rfl))) (zaf (zba zgw)) zbq)) (by intro _;rfl))
 (zaf (zba (zaef (bpeD D_law_answered hr (bpaC (zdq (bpaC (bv 11) (bpaC (bv 10) zac))) (bpaC (bv 7) (bpaC (bv 8) zac)))) (zaee (zme (zim (K:=K) rfl hr.units) (bv 10) (zcg (bpaC (bv 6) (bpaC (bv 2) (bpaC (bv 9) zac)))) (zet _))))))))))))))))))))))
   case hb1=>(intro cl C s H fp;refine'⟨Bx.out (bpgN (i:=0) zani rfl (Or.inl rfl)),Bx.out zex,Bx.out (bpeD D_law_call hr (bpaC (bv 0) (bpaC (bv 2) (bpaC (bv 1) zac))))⟩)
   case hb2=>(intro cl C s H fp;refine'⟨Bx.out (bpgN (i:=0) zanj rfl (Or.inl rfl)),Bx.out zex,Bx.out (bpeD D_law_arm hr (bpaC (bv 0) (bpaC (bv 1) zac)))⟩)
   case hb3=>(intro cl C s H fp;refine'⟨Bx.out (zdn (K:=K) (n:=2) rfl rfl (zav (bpgN (i:=0) zacj rfl (Or.inl rfl)) (zav (bpgN (i:=1) zacj rfl (Or.inl rfl)) zdm (by rfl)) (by rfl)) (by rfl) (by rfl)),Bx.out zex,Bx.out (zcg (bpaC (bv 0) (bpaC (bpeT (zhd (K:=K) rfl) T.list zis (bpaC (bv 1) zac)) zac)))⟩)
  refine⟨_,rfl,a,ns,34,rfl,hS,by decide,by decide,λpc H1 cs hpc s1 e1 lc p1=>?_⟩
  exact zaqp (hT:=s1 _ _ hTb) (F:=zadg) ((zfg (zfy (zrg (zadv zakn (se_c λ_=>zby) (zadv zase (zasr (se_c λ_=>zby)) (se_c λ_=>zby))))) (zfg (zfy ics) (zfg (zfy ics) (zfg (zfy ics) (zfg (zfy ics) (zfg (zfy ics) (zfg (zfy ics) (zfg (zfy (zig ict (zuf ice ice) zfl)) (zfg (zfy ics) (zfg (zfy ics) (zfg (zfy (zrg (zafo (zcn ice (zcn ice (zcn (zban ice (zyz ice) (zyz ice)) zic)))))) (zfg (zfy (zig (zxh (zko ice)) ics zfl)) (zfg (zfy ics) (zfg (zasx (zamc (zamb (zagb ica))) (zfy ics) (zfy zfl)) (zfg (zavy (zasj (zakq (zcn (zbab ice (zyz ice) zakt) (zcn (zadv zalw ice ice) (zcn (zadv zalw ice ice) zic))))) zdp (zasx (zamc (zamb (zagb ica))) (zfy ics) (zfy zfl))) (zfy ics))))))))))))))))) (zawe (n:=12) e1) (zars lc (λc h=>(p1 c h).1)) (λH2 s2=>k H2 (s1.trans s2))
end
theorem all_mk{l:PySem.W.OpenLaw}{w:World}{K:qB}{h:Heap}{mg:Str->Option Value}{fa f1 f2 f3 f4 f5 f6 f7 f8 f9 f10 f11 f12 f13 f14 f15 f16 f17 f18 f19 f20 f21 f22 f23 f24 f25 f26 f27 f28 f29 f30 f31 f32 f33 f34 f35:Addr}{e1 e2 e3 e4 e5 e6 e7 e8 e9 e10 e11 e12 e13 e14 e15 e16 e17 e18 e19 e20 e21 e22 e23 e24 e25 e26 e27 e28 e29 e30 e31 e32 e33 e34 e35:qAb}(X:K.In h)(G:h.Ns qg mg)(hfa:mg "law"=some (.ref fa))
  (d1:DefIn K "names_of" zqn f1 e1)
  (d2:DefIn K "names_in" zqo f2 e2)
  (d3:DefIn K "check_kinds" zjj f3 e3)
  (d4:DefIn K "roofs_of" zqp f4 e4)
  (d5:DefIn K "roof_of" zvd f5 e5)
  (d6:DefIn K "names_in_call" zhq f6 e6)
  (d7:DefIn K "check_call" zlb f7 e7)
  (d8:DefIn K "roofs_in_call" zhr f8 e8)
  (d9:DefIn K "fits_under" zle f9 e9)
  (d10:DefIn K "is_nearer" znu f10 e10)
  (d11:DefIn K "rules_that_fit" zgt f11 e11)
  (d12:DefIn K "nearest_of" zlg f12 e12)
  (d13:DefIn K "rule_names" zli f13 e13)
  (d14:DefIn K "answer_by" znw f14 e14)
  (d15:DefIn K "nearest" zvh f15 e15)
  (d16:DefIn K "answer_of" znx f16 e16)
  (d17:DefIn K "_law_draws" znz f17 e17)
  (d18:DefIn K "_law_names" zoa f18 e18)
  (d19:DefIn K "_law_web" zvm f19 e19)
  (d20:DefIn K "_law_up" zzm f20 e20)
  (d21:DefIn K "_law_parts" zoc f21 e21)
  (d22:DefIn K "_law_arm" zvp f22 e22)
  (d23:DefIn K "_law_call" zqq f23 e23)
  (d24:DefIn K "_law_rules" zoe f24 e24)
  (d25:DefIn K "_law_fits" zqs f25 e25)
  (d26:DefIn K "_law_due" zvv f26 e26)
  (d27:DefIn K "_law_answered" zih f27 e27)
  (d28:DefIn K "_law_told" zqu f28 e28)
  (d29:DefIn K "fitting" zlm f29 e29)
  (d30:DefIn K "why" zzp f30 e30)
  (d31:DefIn K "shows" zqv f31 e31)
  (d32:DefIn K "_law_refused" zax f32 e32)
  (d33:DefIn K "_law_first" zog f33 e33)
  (d34:DefIn K "_law_strange" zjn f34 e34)
  (d35:DefIn K "law" zaig f35 e35)
  {y0 y1 y2 y3 y4 y5 fI:Addr}{eI:qAb}
  (xa0:ClsIn K "NoCall" y0)
  (xa1:ClsIn K "NoKind" y1)
  (xa2:ClsIn K "NoBook" y2)
  (xa3:ClsIn K "NoFit" y3)
  (xa4:ClsIn K "NoRule" y4)
  (xa5:ClsIn K "CallError" y5)
  (xz:qAU K qg "ValueError"=some none)
  (x0:XIn K y0 fI)
  (x1:XIn K y1 fI)
  (xF:Fun K "__init__" "CallError.__init__" (zaui (top 1) 0) fI eI)
  (xs0_B:subIn K (.ref y0) (.ref y5)=some true)
  (xs0_2:subIn K (.ref y0) (.ref y2)=some false)
  (xs0_3:subIn K (.ref y0) (.ref y3)=some false)
  (xs0_1:subIn K (.ref y0) (.ref y1)=some false)
  (xs0_4:subIn K (.ref y0) (.ref y4)=some false)
  (xs1_B:subIn K (.ref y1) (.ref y5)=some true)
  (xs1_2:subIn K (.ref y1) (.ref y2)=some false)
  (xs1_0:subIn K (.ref y1) (.ref y0)=some false)
  (xs1_3:subIn K (.ref y1) (.ref y3)=some false)
  (xs1_4:subIn K (.ref y1) (.ref y4)=some false)
  (xBb:subIn K (.ref y5) (.type "BaseException")=some true)
  {cT PT:Addr}(hti:tabIn K "_law_refused"=some (cT,PT))
  (z1:qAU K qg "all"=some none)(z2:qAU K qg "any"=some none)(z3:qAU K qg "bool"=some none)(z4:qAU K qg "enumerate"=some none)(z5:qAU K qg "int"=some none)(z6:qAU K qg "isinstance"=some none)(z7:qAU K qg "len"=some none)(z8:qAU K qg "list"=some none)(z9:qAU K qg "min"=some none)(z10:qAU K qg "range"=some none)(z11:qAU K qg "tuple"=some none)(z12:qAU K qg "zip"=some none) :
  ∃fd:qAb,(∀(s:Shared)(v:Value),BindsTo s fd ⟨[v],[]⟩ [("_law_script",v)])/\∀base:Heap,K.In base->base.Ns qg mg->BM mg base->CodeHd base cT PT->FnOk l.prog w K mg base CX0 11 fa fd ["_law_script"] (zagc K PT (("_law_refused":Str)++".<locals>."++"<lambda>")):=by
 have e:=hfa.symm.trans (qAh X G d35.ns)
 cases e
 have T:Txt mg:=⟨qAQ X G z1,qAQ X G z2,qAQ X G z3,qAQ X G z4,qAQ X G z5,qAQ X G z6,qAQ X G z7,qAQ X G z8,qAQ X G z9,qAQ X G z10,qAQ X G z11,qAQ X G z12⟩
 obtain⟨_,_,q1,q2,q3,q4,q5,q6,_,rfl,_,_⟩:=d35.fn.ex
 refine⟨qAd "law" "law" (zfq zaig) (zdo zaig) (zah zaig) .none q1 q2 q3 q4 q5 q6,λs v=>.of_eq rfl,λbase _ _ hbm HC=>?_⟩
 have xv:=qAQ X G xz
 obtain⟨cl,cl0,cl1,cl2,cl3,cl4,cl5⟩:∃cl:Str->Addr,cl "NoCall"=y0/\cl "NoKind"=y1/\cl "NoBook"=y2/\cl "NoFit"=y3/\cl "NoRule"=y4/\cl "CallError"=y5:=⟨λs=>if s="NoCall"then y0 else if s="NoKind"then y1 else if s="NoBook"then y2 else if s="NoFit"then y3 else if s="NoRule"then y4 else if s="CallError"then y5 else 0,rfl,rfl,rfl,rfl,rfl,rfl⟩
 have X_NoCall:XcOk l.prog w K mg base "NoCall" (cl "NoCall"):=by rw[cl0];exact⟨fI,_,x0.mx,zakm xF x0.mx xv rfl rfl (by decide) (λ_=>⟨_,rfl⟩),xF.binds (ps:=["self","at"]) (λ_ _ _ _ _ _ us hl=>match us,hl with|[_,_],_=>rfl),qAh X G xa0.ns,x0.cl,zasv x0.be xa0.cl xa0.ty x0.se⟩
 have X_NoKind:XcOk l.prog w K mg base "NoKind" (cl "NoKind"):=by rw[cl1];exact⟨fI,_,x1.mx,zakm xF x1.mx xv rfl rfl (by decide) (λ_=>⟨_,rfl⟩),xF.binds (ps:=["self","at"]) (λ_ _ _ _ _ _ us hl=>match us,hl with|[_,_],_=>rfl),qAh X G xa1.ns,x1.cl,zasv x1.be xa1.cl xa1.ty x1.se⟩
 have XK_law_told:XKit l.prog w K mg base cl ["NoCall","NoKind"] ["NoBook","NoCall","NoFit","NoKind","NoRule"] "CallError":=by
  refine⟨(zcr X_NoCall (zcr X_NoKind zuj)),?_,?_,?_,?_,?_,xv⟩
  ·rw[cl5];exact(zcr (by rw[cl0];exact zasw xBb xa5.cl xa5.ty xs0_B) (zcr (by rw[cl1];exact zasw xBb xa5.cl xa5.ty xs1_B) zuj))
  ·exact(zcr (zcr (by rw[cl0,cl2];exact kd_f (zri x0.se xa2.cl xa2.ty xs0_2) (by decide)) (zcr (by rw[cl0];exact kd_t (zast xa0.cl xa0.ty x0.se) rfl) (zcr (by rw[cl0,cl3];exact kd_f (zri x0.se xa3.cl xa3.ty xs0_3) (by decide)) (zcr (by rw[cl0,cl1];exact kd_f (zri x0.se xa1.cl xa1.ty xs0_1) (by decide)) (zcr (by rw[cl0,cl4];exact kd_f (zri x0.se xa4.cl xa4.ty xs0_4) (by decide)) zuj))))) (zcr (zcr (by rw[cl1,cl2];exact kd_f (zri x1.se xa2.cl xa2.ty xs1_2) (by decide)) (zcr (by rw[cl1,cl0];exact kd_f (zri x1.se xa0.cl xa0.ty xs1_0) (by decide)) (zcr (by rw[cl1,cl3];exact kd_f (zri x1.se xa3.cl xa3.ty xs1_3) (by decide)) (zcr (by rw[cl1];exact kd_t (zast xa1.cl xa1.ty x1.se) rfl) (zcr (by rw[cl1,cl4];exact kd_f (zri x1.se xa4.cl xa4.ty xs1_4) (by decide)) zuj))))) zuj))
  ·exact(zcr (by rw[cl0];exact zasu x0.ve) (zcr (by rw[cl1];exact zasu x1.ve) zuj))
  ·exact(zcr (by rw[cl2];exact qAh X G xa2.ns) (zcr (by rw[cl0];exact qAh X G xa0.ns) (zcr (by rw[cl3];exact qAh X G xa3.ns) (zcr (by rw[cl1];exact qAh X G xa1.ns) (zcr (by rw[cl4];exact qAh X G xa4.ns) zuj)))))
  ·rw[cl5];exact qAh X G xa5.ns
 have D_names_of:zqx l.prog w K mg base:=d1.dn X G (zael d1.fn T ) (d1.b1 λ_ _ _ _ _ _ _=>rfl)
 have D_names_in:zqy l.prog w K mg base:=d2.dn X G (zaem d2.fn T ) (d2.b1 λ_ _ _ _ _ _ _=>rfl)
 have D_check_kinds:zpv l.prog w K mg base:=d3.dn X G (zwv d3.fn T D_names_of) (d3.b2 λ_ _ _ _ _ _ _ _=>rfl)
 have D_roofs_of:zqz l.prog w K mg base:=d4.dn X G (zaen d4.fn T ) (d4.b1 λ_ _ _ _ _ _ _=>rfl)
 have D_roof_of:zack l.prog w K mg base:=d5.dn X G (zaih d5.fn T D_names_in) (d5.b2 λ_ _ _ _ _ _ _ _=>rfl)
 have D_names_in_call:zhx l.prog w K mg base:=d6.dn X G (zso d6.fn T D_names_in) (d6.b1 λ_ _ _ _ _ _ _=>rfl)
 have D_check_call:zsd l.prog w K mg base:=d7.dn X G (zzs d7.fn T D_check_kinds D_names_in_call) (d7.b3 λ_ _ _ _ _ _ _ _ _=>rfl)
 have D_roofs_in_call:zls l.prog w K mg base:=d8.dn X G (zsp d8.fn T D_roof_of) (d8.b2 λ_ _ _ _ _ _ _ _=>rfl)
 have D_fits_under:zse l.prog w K mg base:=d9.dn X G (zzt d9.fn T ) (d9.b2 λ_ _ _ _ _ _ _ _=>rfl)
 have D_is_nearer:zwc l.prog w K mg base:=d10.dn X G (zacp d10.fn T ) (d10.b3 λ_ _ _ _ _ _ _ _ _=>rfl)
 have D_rules_that_fit:zka l.prog w K mg base:=d11.dn X G (zra d11.fn T D_check_call D_fits_under D_roofs_in_call D_roofs_of) (d11.b2 λ_ _ _ _ _ _ _ _=>rfl)
 have D_nearest_of:zsf l.prog w K mg base:=d12.dn X G (zzu d12.fn T D_is_nearer) (d12.b2 λ_ _ _ _ _ _ _ _=>rfl)
 have D_rule_names:zlt l.prog w K mg base:=d13.dn X G (zzv d13.fn T ) (d13.b1 λ_ _ _ _ _ _ _=>rfl)
 have D_answer_by:zoj l.prog w K mg base:=d14.dn X G (zacq d14.fn T ) (d14.b1 λ_ _ _ _ _ _ _=>rfl)
 have D_nearest:zacl l.prog w K mg base:=d15.dn X G (zaii d15.fn T D_nearest_of D_roofs_of D_rule_names D_rules_that_fit) (d15.b2 λ_ _ _ _ _ _ _ _=>rfl)
 have D_answer_of:zwd l.prog w K mg base:=d16.dn X G (zacr d16.fn T D_answer_by D_nearest) (d16.b2 λ_ _ _ _ _ _ _ _=>rfl)
 have D_law_draws:Dn l.prog w K mg base "_law_draws" ["_law_script","_law_many"] 1 (zafb K):=d17.dn X G (zadh d17.fn T ) (d17.b2 λ_ _ _ _ _ _ _ _=>rfl)
 have D_law_names:zwe l.prog w K mg base:=d18.dn X G (zacs d18.fn T ) (d18.b2 λ_ _ _ _ _ _ _ _=>rfl)
 have D_law_web:zacm l.prog w K mg base:=d19.dn X G (zaij d19.fn T ) (d19.b2 λ_ _ _ _ _ _ _ _=>rfl)
 have D_law_up:zagu l.prog w K mg base:=d20.dn X G (zank d20.fn T ) (d20.b1 λ_ _ _ _ _ _ _=>rfl)
 have D_law_parts:zhy l.prog w K mg base:=d21.dn X G (zact d21.fn T ) (d21.b1 λ_ _ _ _ _ _ _=>rfl)
 have D_law_arm:zacn l.prog w K mg base:=d22.dn X G (zaik d22.fn T ) (d22.b2 λ_ _ _ _ _ _ _ _=>rfl)
 have D_law_call:zyg l.prog w K mg base:=d23.dn X G (zaeo d23.fn T ) (d23.b3 λ_ _ _ _ _ _ _ _ _=>rfl)
 have D_law_rules:zwf l.prog w K mg base:=d24.dn X G (zacu d24.fn T D_law_parts) (d24.b5 λ_ _ _ _ _ _ _ _ _ _ _=>rfl)
 have D_law_fits:zyh l.prog w K mg base:=d25.dn X G (zaep d25.fn T D_law_parts) (d25.b3 λ_ _ _ _ _ _ _ _ _=>rfl)
 have D_law_due:zaco l.prog w K mg base:=d26.dn X G (zail d26.fn T D_law_fits) (d26.b3 λ_ _ _ _ _ _ _ _ _=>rfl)
 have D_law_answered:znf l.prog w K mg base:=d27.dn X G (zwh d27.fn T D_law_due D_answer_of) (d27.b3 λ_ _ _ _ _ _ _ _ _=>rfl)
 have D_law_told:zyi l.prog w K mg base cl:=d28.dt X G (zaeq (cl:=cl) d28.fn T XK_law_told) (d28.b1 λ_ _ _ _ _ _ _=>rfl)
 have D_check_kinds__X:zkb l.prog w K mg base cl:=d3.dx X G (zrb (cl:=cl) d3.fn T D_names_of X_NoKind) (d3.b2 λ_ _ _ _ _ _ _ _=>rfl)
 have D_check_call__X:zlu l.prog w K mg base cl:=d7.dx X G (zsq (cl:=cl) d7.fn T D_check_kinds__X D_names_in_call X_NoCall) (d7.b3 λ_ _ _ _ _ _ _ _ _=>rfl)
 have D_rules_that_fit__X:zcv l.prog w K mg base cl:=d11.dx X G (zmr (cl:=cl) d11.fn T D_check_call__X) (d11.b2 λ_ _ _ _ _ _ _ _=>rfl)
 have D_nearest__X:zlv l.prog w K mg base cl:=d15.dx X G (zzw (cl:=cl) d15.fn T D_rules_that_fit__X) (d15.b2 λ_ _ _ _ _ _ _ _=>rfl)
 have D_answer_of__X:zng l.prog w K mg base cl:=d16.dx X G (zwi (cl:=cl) d16.fn T D_answer_by D_nearest__X) (d16.b2 λ_ _ _ _ _ _ _ _=>rfl)
 have D_fitting__X:zsg l.prog w K mg base cl:=d29.dx X G (zzx (cl:=cl) d29.fn T D_rule_names D_rules_that_fit__X) (d29.b2 λ_ _ _ _ _ _ _ _=>rfl)
 have D_why__X:zagv l.prog w K mg base cl:=d30.dx X G (zanl (cl:=cl) d30.fn T D_rules_that_fit__X) (d30.b2 λ_ _ _ _ _ _ _ _=>rfl)
 have D_shows__X:zyj l.prog w K mg base cl:=d31.dx X G (zaer (cl:=cl) d31.fn T D_rules_that_fit__X) (d31.b4 λ_ _ _ _ _ _ _ _ _ _=>rfl)
 have D_law_refused:zpw l.prog w K mg base PT:=d32.dn X G (zww (cl:=cl) d32.fn T D_law_told D_answer_of__X D_fitting__X D_nearest__X D_shows__X D_why__X (d32.code X G hti) HC hbm) (d32.b3 λ_ _ _ _ _ _ _ _ _=>rfl)
 have D_law_first:zwg l.prog w K mg base:=d33.dn X G (zacv d33.fn T D_law_parts) (d33.b2 λ_ _ _ _ _ _ _ _=>rfl)
 have D_law_strange:zpx l.prog w K mg base:=d34.dn X G (zwx d34.fn T D_law_parts) (d34.b3 λ_ _ _ _ _ _ _ _ _=>rfl)
 exact zbbg d35.fn T D_law_answered D_law_arm D_law_call D_law_draws D_law_first D_law_names D_law_refused D_law_rules D_law_strange D_law_up D_law_web
theorem tab_mk{K:qB}{x:Str}{f c P:Addr}{o o2:Value}{d d2:Option Addr}{fd:qAb}{sl sl2:Array (Option Value)}{vs:Array Value}(h1:qAU K qg x=some (some (.ref f)))(h2:K.lookup f=some ⟨o,d,.func fd,sl⟩)(h3:fd.code=.ref c)(h4:K.lookup c=some ⟨o2,d2,.fields vs,sl2⟩)(h5:(vs[11]?:Option Value)=some (.ref P)):tabIn K x=some (c,P):=by
 unfold tabIn
 simp only[h1,h2,h3,h4,h5]
theorem walk{l:PySem.W.OpenLaw}{q:Program}{loose:List Str}{XP:(Str->Option Value)->Heap->Prop}{YP:World->Heap->Prop}{d dt:DefRec}{K:Params->qB}{cT PT:Addr}(hn:l.most=some 63)(hdf:d.params.defaults=[])
  (hY:∀(w:World) (h:Heap),YP w h->(K w.params).In h)
  (hrec:L2.recDef q "_law_refused" dt)(hti:∀w:World,tabIn (K w.params) "_law_refused"=some (cT,PT))(hnt:∀w:World,noTabs (K w.params)=true)
  (F:∀(w:World)(mg:Str->Option Value)(fa:Addr)(h:Heap),(K w.params).In h->h.Ns qg mg->mg d.name=some (.ref fa)->
   ∃fd:qAb,(∀(s:Shared)(u:Value),BindsTo s fd ⟨[u],[]⟩ [("_law_script",u)])/\∀base:Heap,(K w.params).In base->base.Ns qg mg->BM mg base->CodeHd base cT PT->FnOk l.prog w (K w.params) mg base CX0 11 fa fd ["_law_script"] (zagc (K w.params) PT (("_law_refused":Str)++".<locals>."++"<lambda>"))) :
  PySem.W.WalkO q loose XP YP l.row.toRowW d [] (λf vs=>PySem.call f vs):=
 L2.walk_tab (n:=63) (k:=11) (x:="_law_script") hn (by decide) hdf ⟨rfl,by decide,by decide,rfl⟩ hY hrec hti hnt F
end Bc
theorem PySem.W.Fast.tw1250219568984459581:True:=trivial
theorem PySem.W.Fast.tw14368451617222811853:True:=trivial
theorem PySem.W.Fast.tw13885442991452187816:True:=trivial
theorem PySem.W.Fast.tw12412474329483036406:True:=trivial
theorem PySem.W.Fast.tw15214494314105344731:True:=trivial
theorem PySem.W.Fast.tw16668982101670130712:True:=trivial
theorem PySem.W.Fast.tw15215143140762364215:True:=trivial
theorem PySem.W.Fast.tw7528803122299075989:True:=trivial
theorem PySem.W.Fast.tw3597181279378818025:True:=trivial
theorem PySem.W.Fast.tw17728086957096059012:True:=trivial
theorem PySem.W.Fast.tw14049209511676797477:True:=trivial
open PySem PySem.W PyProof.Rows
set_option maxRecDepth 100000 in
set_option maxHeartbeats 0 in
theorem PySem.Challenge.cw_bestcalls_k15_answers_holds : PySem.Challenge.rw_bestcalls_k15_answers.Holds := by
 w_on;o_law;k_head;(case hw=>w_witness2)
 k_fill
 refine' Bc.walk (l:=PySem.Challenge.rw_bestcalls_k15_answers) rfl rfl (λw h Y=>PySem.W.km_in_of Y) ?hrec ?hti ?hnt ?F
 case hrec=>rfl
 case hti=>intro w;refine' Bc.tab_mk ?h1 ?h2 ?h3 ?h4 ?h5;(case h1=>k_is);(case h2=>k_is);(case h3=>rfl);(case h4=>k_is);(case h5=>rfl)
 case hnt=>intro w;kernel_rfl
 case F=>
  intro w mg fa h KX G hmg
  refine' Bc.all_mk KX G hmg ?_ ?_ ?_ ?_ ?_ ?_ ?_ ?_ ?_ ?_ ?_ ?_ ?_ ?_ ?_ ?_ ?_ ?_ ?_ ?_ ?_ ?_ ?_ ?_ ?_ ?_ ?_ ?_ ?_ ?_ ?_ ?_ ?_ ?_ ?_ ?_ ?_ ?_ ?_ ?_ ?_ ?_ ?_ ?_ ?_ ?_ ?_ ?_ ?_ ?_ ?_ ?_ ?_ ?_ ?_ ?_ ?hti ?_ ?_ ?_ ?_ ?_ ?_ ?_ ?_ ?_ ?_ ?_ ?_
  (case hti=>refine' Bc.tab_mk ?h1 ?h2 ?h3 ?h4 ?h5;(case h1=>k_is);(case h2=>k_is);(case h3=>rfl);(case h4=>k_is);(case h5=>rfl))
  any_goals (first|refine' L2.def_mk ?_ ?_ ?_ ?_|refine' L2.cls_mk ?_ ?_ ?_|refine' L2.xin_mk ?_ ?_ ?_ ?_ ?_ ?_ ?_ ?_ ?_ ?_ ?_ ?_ ?_|refine' L2.init_mk ?_ ?_ ?_)
  any_goals (first|k_is|rfl)
