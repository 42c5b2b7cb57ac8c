import PyProof.Rows.All
import KE.KLam
import Wide.All
import OpenK.AllK
import Wide.FinOn
import Lean
import PyProof.EqAt
import PyProof.EqKinds
import PyProof.TupleCall
import KE.KTryOn
import PyProof.ExcInit
import PyProof.ExcClass3
import PyProof.ExcBaseAll.ValueError
import PyProof.InstStoreFacts
import ObjForm.Fk.InstStore
import PyProof.ExcArgsOwn
import PyProof.ExcAttrAll.ValueError
import PyProof.PureStr
import PyProof.FString2
import PyProof.Rows.FactsFmt
import PyProof.FactsAll.NoneType_2
import PyProof.NsDelKeeps
import PyProof.IsiBase
import KE.KRevSl
import PyProof.DictWalks
import PyProof.AutoListH
import PyProof.AutoSeq1
import PyProof.MeetsStr
import PyProof.Rows.MinMaxN
import PySem.Challenge.RW_bestcalls_k04_no_such_kind
set_option genSizeOf false
set_option Elab.async false
set_option linter.all false
set_option maxRecDepth 100000
noncomputable section
open Option renaming bind_eq_some_iff→qA,bind_some→qD,map_eq_some_iff→qG,map_some→qAd,isSome_map→qCE,isSome_some→qDC
open PySem.W renaming Frag→qB,mg_none_of→qAJ,kia_one→qAM,looks_findIn→qAQ,nsIn→qAR,fnOf→qAS,mg_of→qAW,keepIn→qAj,cellsFrom_some→qAw,codeRec_of→qBW,codeIn→qBc,callWith_K→qB5,kitx_list→qDA,kitx_dict→qDB
open List renaming length_map→qC,getElem?_eq_getElem→qK,getElem?_set_ne→qL,getElem?_eq_some_iff→qM,mem_cons_of_mem→qN,getElem?_map→qS,size_toArray→qW,getElem?_set_self→qX,mem_cons→qY,length_append→qZ,getElem?_append_right→qb,mem_append_right→qe,map_cons→qh,getElem?_append_left→qm,mem_cons_self→qp,lookup_cons→qt,mem_of_getElem?→qu,length_set→qw,mem_append_left→qy,length_cons→qz,length_replicate→q0,append_nil→q9,contains_cons→qAC,getElem?_replicate→qAF,getElem?_cons_zero→qAG,drop_eq_getElem_cons→qAI,map_append→qAN,all_eq_true→qAO,getElem?_cons_succ→qAP,getD_eq_getElem?_getD→qAT,mem_singleton→qAU,nodup_append→qAY,nodup_cons→qAe,mem_append→qAf,find?_cons→qAg,take_append_of_le_length→qAi,any_cons→qAv,mem_map→qA1,length_nil→qA2,mem_range→qA7,length_take→qA9,set_cons_zero→qBF,set_cons_succ→qBG,of_mem_zip→qBH,mem_filter→qBI,all_cons→qBJ,append_assoc→qBM,getElem?_eq_none→qBR,drop_length→qBT,replicate_succ→qBX,filterMap_cons→qBY,mem_filterMap→qBf,flatMap_cons→qBl,ext_getElem?→qBm,map_take→qBp,length_eq_zero_iff→qBq,mem_nil_iff→qBr,length_drop→qBs,getElem_mem→qBt,take_append_drop→qBy,map_nil→qBz,foldl_cons→qB0,mem_of_mem_take→qB3,map_congr_left→qB8,getElem_of_mem→qB9,foldl_append→qCG,take_length→qCL,mem_flatMap→qCM,filter_cons→qCN,cons_append→qCO,any_eq_true→qCP,dropLast_concat_getLast→qCS,idxOf_lt_length_of_mem→qCY,length_eraseIdx_of_lt→qCf,pairwise_iff_getElem→qCl,getElem?_zip_eq_some→qCm,eq_of_mem_replicate→qCt,take_of_length_le→qCz,drop_of_length_le→qC0,map_map→qC4,any_map→qC5,all_map→qC6,range_eq_range'→qDE,getElem?_zipIdx→qDF,zipIdx_map_fst→qDK,getElem?_range→qDL
open PySem renaming wpAny_bind→qE,wpAny_pure→qR,Expr→qU,sizeLine→qV,wpAny_loadPart_at→qg,Pos→qi,mainGlobals→qj,FuncData→qk,mem_of_lookup→qo,starEach→qx,wpAny_isSubtype_exc→qAa,wpAny_Call_Name_kw→qAm,codeAny_call_builtin→qAn,wpAny_mono→qAq,codeAny_mono→qA0,wpAny_passesOwn→qA4,wpAny_field→qA5,sizeLine_eq→qA6,wpAny_newFunctionEnv_cells→qBB,wpAny_setField→qBE,wpAny_standAt→qBN,wpAny_getItem_str_slice→qBO,wpAny_execs_nil→qBP,codeAny_builtin→qBQ,wpAny_pyIter_list→qBU,codeAny_call_function→qBV,wpAny_isInstance→qBa,wpAny_execs_cons→qBb,wpAny_holding→qBe,wpAny_pyIter_tuple→qBn,tupleKind_room_in1→qBo,wpAny_truthy_bool→qBv,wpAny_newObj_type→qBw,wpAny_call→qBx,wpAny_callSpecial?_slot→qB1,wpAny_pyNext_list_item→qB4,wpAny_pyReprObj_gives→qCA,wpAny_pyNext_list_end→qCB,wpAny_loadPart'→qCC,post_val_or_str→qCD,call_meets→qCb,wpAny_typeOf→qCh,codeAny_func→qCi,wpAny_call_entry→qCo,codeAny_of_tree→qCy,wpAny_seqItems→qC9,wpAny_comprehension_free→qDJ
open PySem.Heap renaming get?_push_of_some→qF,lt_size→qO,get?_push_size→qd,get?_update_other→qAX,get?_update_self→qAh,get?_none_of_le→qAl,size_push→qBj,get?_update_ne→qDM
open PySem.F renaming plainAttrs_list→qH,type_list_append→qI,slot_list_append→qJ,slot_tuple_iterator_next→qA8,called_set→qBK,excBase_ValueError→qBZ,slot_list_getattribute→qBu,typeOf_object_class→qB6,store_ValueError→qCK,type_list_insert→qCT,type_dict_update→qCU,slot_list_insert→qCV,slot_dict_update→qCW,args_tuple_add_2→qCX,plainAttrs_dict→qCc,entry_tuple_add→qCd,slot_tuple_add→qCk,args_tuple_iterator_next_1→qCn,type_list_pop→qCr,slot_list_pop→qCs,entry_tuple_iterator_next→qCv,slot_gs_get→qDG
open Bool renaming false_ne_true→qP,and_eq_true→qAA,eq_iff_iff→qAs,or_true→qAt,or_eq_true_iff→qBC,false_eq_true→qBL,false_or→qCF,true_and→qCx
open Nat renaming le_refl→qQ,lt_of_lt_of_le→qf,ne_of_lt→qr,le_trans→qAE,zero_le→qAK,lt_irrefl→qAy,le_of_lt→qBD,ne_of_gt→qBh,lt_of_le_of_lt→qBi,not_lt→qCH,le_of_succ_le→qCI,lt_succ_self→qCQ,le_of_not_lt→qCR,le_succ→qCe,zero_add→qDD
open Option.some renaming inj→qa
open PySem.Str renaming ofString→qc
open Int renaming emod_nonneg→qAB,emod_lt_of_pos→qAD,toNat_natCast→qA3,mul_nonneg→qCu,eq_ofNat_of_zero_le→qC1
open PySem.PyData renaming strOk→qAH,canLayAll0→qAc,depthAll→qAr,eqv→qAx
open PySem.PassesOwn renaming never→qAL
open PySem.Obj renaming data_mapFields→qAV,isFreed_of_fields→qAp
open PySem.Builtin.SmallTypes renaming nextOf→qAZ
open Array renaming getElem?_eq_some_iff→qAb,mem_toList_iff→qC8,toList_append→qDH,length_toList→qDI
open Ne renaming symm→qAk
open PySem.SeqAt renaming shaped→qAo,canLay_of_shaped→qAz
open PyProof.Rows renaming callWith_type1→qAu
open List.cons renaming inj→qBA
open PySem.Around renaming under_plainId→qBS,frames_deeper→qC3
open PySem.Calls renaming spliced_cons→qBd,spliced_nil→qBk,Name_function_global→qCa,callWith_builtin→qCw,evalArgs_plain→qC7,Constant_str→qDN
open PySem.Code renaming quiet_builtin→qBg
open Sum.inr renaming inj→qB2
open PySem.Paired renaming length→qB7
open List.Perm renaming refl→qCJ,append_left→qCg
open PySem.Heap.SameBut renaming update→qCZ
open PySem.W.Looks renaming ld→qCj
open PySem.SeqAt.EqAt renaming str_int→qCp,int_str→qCq
open PySem.Heap.DictOf renaming new→qC2
namespace L2
open PySem PySem.Spec PyProof.Rows
noncomputable abbrev Key:=Sum Int Str
noncomputable def zns:Key->Value->Bool
 | .inl k,v=>Value.isInt k v
 | .inr x,v=>Value.isStrOf x v
noncomputable def keyH(w:World):Key->Int
 | .inl k=>hashInt k
 | .inr x=>hashStr w x
theorem zdf:∀{k:Key}{v:Value},zns k v=true->(∃i t,k=Sum.inl i/\v=Value.int i t)\/(∃x t,k=Sum.inr x/\v=Value.str x t)
 | .inl i,v,h=>by
  obtain⟨t,e⟩:=Value.isInt_shape (k:=i) (v:=v) h
  exact .inl ⟨i,t,rfl,e⟩
 | .inr x,v,h=>by
  obtain⟨t,e⟩:=Value.isStrOf_shape (x:=x) (v:=v) h
  exact .inr ⟨x,t,rfl,e⟩
theorem zaft(i:Int)(t:Tok):zns (.inl i) (.int i t)=true:=by simp[zns,Value.isInt]
theorem zafu(x:Str)(t:Tok):zns (.inr x) (.str x t)=true:=by simp[zns,Value.isStrOf]
theorem zath(a b:Int):decide ((Sum.inl a:Key)=Sum.inl b)=(a==b):=by
 by_cases e:a=b
 ·subst e;simp
 ·have h:¬(Sum.inl a:Key)=Sum.inl b:=λq=>e (Sum.inl.inj q)
  rw[decide_eq_false h]
  exact(beq_eq_false_iff_ne.mpr e).symm
theorem zati(a b:Str):decide ((Sum.inr a:Key)=Sum.inr b)=decide (a=b):=by
 by_cases e:a=b
 ·subst e;simp
 ·have h:¬(Sum.inr a:Key)=Sum.inr b:=λq=>e (qB2 q)
  rw[decide_eq_false h,decide_eq_false e]
theorem zatj(a:Int)(b:Str):decide ((Sum.inl a:Key)=Sum.inr b)=false:=decide_eq_false (λq=>nomatch q)
theorem zatk(a:Str)(b:Int):decide ((Sum.inr a:Key)=Sum.inl b)=false:=decide_eq_false (λq=>nomatch q)
noncomputable def zbr(prog:Program)(w:World):PySem.KeyKind prog w Key where
 is:=zns
 hash:=keyH w
 inj:=λv a b ha hb=>by
  rcases zdf ha with⟨i,t,rfl,rfl⟩|⟨x,t,rfl,rfl⟩
  ·rcases zdf hb with⟨j,u,rfl,e⟩|⟨y,u,rfl,e⟩
   ·injection e with e1 _;rw[e1]
   ·exact nomatch e
  ·rcases zdf hb with⟨j,u,rfl,e⟩|⟨y,u,rfl,e⟩
   ·exact nomatch e
   ·injection e with e1 _;rw[e1]
 byValue:=λk v h=>by
  rcases zdf h with⟨i,t,rfl,rfl⟩|⟨x,t,rfl,rfl⟩<;>rfl
 pyHash:=λhv h=>by
  rcases zdf hv with⟨i,t,rfl,rfl⟩|⟨x,t,rfl,rfl⟩
  ·exact wpAny_pyHash_int h
  ·exact wpAny_pyHash_str h
 eqBool:=λhu hv h=>by
  rcases zdf hu with⟨i,t,rfl,rfl⟩|⟨x,t,rfl,rfl⟩
  ·rcases zdf hv with⟨j,u,rfl,rfl⟩|⟨y,u,rfl,rfl⟩
   ·rw[zath]at h;exact wpAny_eqBool_int h
   ·rw[zatj]at h;exact qCq i t y u _ _ _ _ h
  ·rcases zdf hv with⟨j,u,rfl,rfl⟩|⟨y,u,rfl,rfl⟩
   ·rw[zatk]at h;exact qCp x t j u _ _ _ _ h
   ·rw[zati]at h;exact wpAny_eqBool_str h
 «strs»:=λk x t v h=>by
  rcases zdf h with⟨i,u,rfl,e⟩|⟨y,u,rfl,e⟩
  ·exact nomatch e
  ·injection e with e1 _
   subst e1
   cases v<;>rfl
theorem zaad(prog:Program)(w:World)(i:Int)(t:Tok):(zbr prog w).is (.inl i) (.int i t)=true:=zaft i t
theorem zaae(prog:Program)(w:World)(x:Str)(t:Tok):(zbr prog w).is (.inr x) (.str x t)=true:=zafu x t
inductive V where
 | non|bl (b:Bool)|int (i:Int)|str (x:Str)|byt (b:Array UInt8)|flt (b:UInt64)|ref (a:Addr)|ty (n:String)
 deriving DecidableEq
noncomputable def RelV:V->Value->Prop
 | .non,u=>u=Value.none
 | .bl b,u=>u=Value.bool b
 | .int i,u=>∃t,u=Value.int i t
 | .str x,u=>∃t,u=Value.str x t
 | .byt b,u=>∃t,u=Value.bytes b t
 | .flt b,u=>∃t,u=Value.float b t
 | .ref a,u=>u=Value.ref a
 | .ty n,u=>u=Value.type n
noncomputable abbrev Vals:List V->List Value->Prop:=Paired RelV
theorem Vals.length{xs:List V}{us:List Value}(r:Vals xs us):xs.length=us.length:=qB7 r
theorem Vals.get:∀{xs:List V}{us:List Value}{i:Nat}{x:V},Vals xs us->xs[i]?=some x->∃u,us[i]?=some u/\RelV x u
 | _,_,_,_,.nil,e=>by simp at e
 | _,_,0,_,.cons r _,e=>by simp at e;subst e;exact⟨_,rfl,r⟩
 | _,_,i+1,x,.cons _ t,e=>by
  obtain⟨u,h1,h2⟩:=Vals.get (i:=i) (x:=x) t (by simpa using e)
  exact⟨u,by simpa using h1,h2⟩
theorem Vals.set(r:RelV x u):∀{xs:List V}{us:List Value}(i:Nat),Vals xs us->Vals (xs.set i x) (us.set i u)
 | _,_,_,.nil=>.nil
 | _,_,0,.cons _ t=>.cons r t
 | _,_,i+1,.cons q t=>.cons q (Vals.set r i t)
theorem Vals.append:∀{xs ys:List V}{us ws:List Value},Vals xs us->Vals ys ws->Vals (xs++ys) (us++ws)
 | _,_,_,_,.nil,s=>s
 | _,_,_,_,.cons r t,s=>.cons r (Vals.append t s)
theorem Vals.take:∀{xs:List V}{us:List Value}(n:Nat),Vals xs us->Vals (xs.take n) (us.take n)
 | _,_,0,_=>.nil
 | _,_,_+1,.nil=>.nil
 | _,_,n+1,.cons r t=>.cons r (Vals.take n t)
theorem Vals.drop:∀{xs:List V}{us:List Value}(n:Nat),Vals xs us->Vals (xs.drop n) (us.drop n)
 | _,_,0,r=>r
 | _,_,_+1,.nil=>.nil
 | _,_,n+1,.cons _ t=>Vals.drop n t
noncomputable def RelO:Option V->Option Value->Prop
 | some v,some u=>RelV v u
 | none,none=>True
 | _,_=>False
noncomputable def KV{κ:Type}:List (κ×V)->List (κ×Value)->Prop:=Paired λ(p:κ×V)(q:κ×Value)=>p.1=q.1/\RelV p.2 q.2
noncomputable def kV:Key->V
 | .inl i=>.int i
 | .inr x=>.str x
inductive HO where
  | lst (xs:List V)
  | tup (xs:List V)
  | dK (kvs:List (Key×V))|dT (kvs:List (List Key×V))
  | set (S:Int->Bool) (n:Nat)
  | ins (C dx:Addr) (fs:List (Str×V))
  | own (x:Addr)
  | xd (fs:List (Str×V))
  | met (f x:Addr)
  | rng (lo hi:Int)
  | frz (o:Obj) (u:HO)
  | tbl (ps:Array Value)
 | tabO (q:Str)
  | ext (φ:Heap->Prop)
noncomputable abbrev Hp:=Addr->Option HO
noncomputable def upd(H:Hp)(a:Addr)(o:HO):Hp:=λb=>if b=a then some o else H b
theorem zam:upd H a o a=some o:=by unfold upd;rw[if_pos rfl]
theorem zap(h:b≠a):upd H a o b=H b:=by unfold upd;rw[if_neg h]
theorem zapf:upd (upd H a o) a u=upd H a u:=by
 funext b;unfold upd;split<;>rfl
theorem zaxd{H:Hp}{a b:Addr}{o u:HO}(h:H a=some o)(h':H b=some u)(d:o≠u):a≠b:=by
 intro e;subst e;rw[h]at h';exact d (qa h')
theorem zax{H:Hp}{a b:Addr}{o:HO}(h:H a=some o)(h':H b=none):a≠b:=by
 intro e;subst e;rw[h]at h';cases h'
section
variable(P:Program)(w:World)
noncomputable def zdk(H:Hp)(h:Heap)(a:Addr):HO->Prop
 | .lst xs=>xs.length<=qV/\∃(its:List Value)(n:Nat),Vals xs its/\h.get? a=some {cls:=.type "list",data:=.seq its.toArray n}
 | .tup xs=>xs.length<=qV/\∃its:List Value,Vals xs its/\IsTup h a its.toArray
 | .dK kvs=>kvs.length<=qV/\(a==sysModules)=false/\∃vs,KV kvs vs/\h.DictOf (zbr P w) a vs
 | .dT kvs=>kvs.length<=qV/\(a==sysModules)=false/\∃xs:List (List Key×Addr×Value),
   Paired (λ(p:List Key×V)(q:List Key×Addr×Value)=>p.1=q.1/\H q.2.1=some (.tup (p.1.map kV))/\RelV p.2 q.2.2) kvs xs/\
   ∃o es ep,h.get? a=some o/\o.ExactDict/\o.data=.dict es ep/\es.toList=xs.map (entryOfKey (tupleKind (zbr P w)))/\(xs.map (·.1)).Nodup
 | .set S n=>h.SetOf (intKind P w) a S n
 | .ins C dx fs=>H dx=some (.own a)/\fs.length<=1000/\dx≠a/\h.get? a=some (PySem.W.instObj C dx)/\
   ∃mA,h.Ns1 dx mA/\(∀f,RelO (fs.lookup f) (mA f))/\PySem.Within mA (fs.map (·.1))
 | .own _=>∃o,h.get? a=some o
 | .xd fs=>∃mA,h.Ns1 a mA/\∀f,RelO (fs.lookup f) (mA f)
 | .rng lo hi=>∃t u v,h.get? a=some {cls:=.type "range",data:=.fields #[.int lo t,.int hi u,.int 1 v]}
 | .frz o u=>h.get? a=some o/\zdk H h a u
 | .tbl ps=>h.get? a=some {cls:=.none,data:=.fields ps}
 | .tabO q=>∃ps:Array Value,h.get? a=some (PySem.W.tabObj ps)/\TriplesOk ps.toList/\∀pos cv,codeAmong pos ps.toList=some cv->∃c o vs t,cv=.ref c/\c≠a/\H c=some (.frz o (.own a))/\o.data=.fields vs/\vs[1]?=some (.str q t)
 | .met f x=>h.get? a=some (PySem.W.methodObj (.ref f) (.ref x))
 | .ext φ=>φ h/\(∃o,h.get? a=some o)/\∀h1 h2:Heap,φ h1->(∀o,h1.get? a=some o->h2.get? a=some o)->φ h2
noncomputable def HOk(H:Hp)(h:Heap):Prop:=∀a o,H a=some o->zdk P w H h a o
end
section
variable{P:Program}{w:World}{H H':Hp}{h h':Heap}{a:Addr}{o:HO}
theorem zdk.lt(x:zdk P w H h a o):a<h.objs.size:=by
 cases o with
 | lst xs=>obtain⟨_,_,_,_,e⟩:=x;exact qO e
 | tup xs=>obtain⟨_,_,_,p⟩:=x;exact p.lt
 | dK kvs=>obtain⟨_,_,_,_,o,_,_,e,_⟩:=x;exact qO e
 | dT kvs=>obtain⟨_,_,_,_,o,_,_,e,_⟩:=x;exact qO e
 | set S n=>obtain⟨o,_,_,_,e,_⟩:=x;exact qO e
 | ins C dx fs=>obtain⟨_,_,_,e,_⟩:=x;exact qO e
 | own y=>obtain⟨_,e⟩:=x;exact qO e
 | xd fs=>obtain⟨_,⟨_,_,_,e,_⟩,_⟩:=x;exact qO e
 | rng lo hi=>obtain⟨_,_,_,e⟩:=x;exact qO e
 | frz ob u=>obtain⟨e,_⟩:=x;exact qO e
 | tbl ps=>exact qO (show h.get? a=some _ from x)
 | tabO q=>obtain⟨_,e,_⟩:=x;exact qO e
 | met f y=>exact qO (show h.get? a=some _ from x)
 | ext φ=>obtain⟨_,⟨_,e⟩,_⟩:=x;exact qO e
theorem Paired.mapP{F G:α->β->Prop}:∀{l₁:List α}{l₂:List β},Paired F l₁ l₂->(∀a b,F a b->G a b)->Paired G l₁ l₂
 | _,_,.nil,_=>.nil
 | _,_,.cons r t,f=>.cons (f _ _ r) (Paired.mapP t f)
theorem zdk.stay(x:zdk P w H h a o)(k:∀b u,(b=a\/H b=some (.own a))->h.get? b=some u->h'.get? b=some u)
  (ho:∀b,H b=some (.own a)->H' b=some (.own a)) (ht:∀b xs,H b=some (.tup xs)->H' b=some (.tup xs)) (hf:∀(b:Addr)(o':Obj),H b=some (.frz o' (.own a))->H' b=some (.frz o' (.own a)):=by first|exact λ_ _ q=>q|(intro b o' q;rw[zap (zax q (by assumption))];exact q)|(intro b o' q;rw[zap (λz=>by subst z;simp_all)];exact q)):zdk P w H' h' a o:=by
 induction o with
 | lst xs=>obtain⟨z,its,n,r,e⟩:=x;exact⟨z,its,n,r,k _ _ (.inl rfl) e⟩
 | tup xs=>obtain⟨z,its,r,ob,e,c⟩:=x;exact⟨z,its,r,ob,k _ _ (.inl rfl) e,c⟩
 | dK kvs=>obtain⟨z,y,vs,r,ob,es,ep,e,c⟩:=x;exact⟨z,y,vs,r,ob,es,ep,k _ _ (.inl rfl) e,c⟩
 | dT kvs=>
  obtain⟨z,y,xs,r,ob,es,ep,e,c⟩:=x
  exact⟨z,y,xs,Paired.mapP r λp q z=>⟨z.1,ht _ _ z.2.1,z.2.2⟩,ob,es,ep,k _ _ (.inl rfl) e,c⟩
 | set S n=>obtain⟨ob,es,ep,t,e,c⟩:=x;exact⟨ob,es,ep,t,k _ _ (.inl rfl) e,c⟩
 | ins C dx fs=>
  obtain⟨d,z,ne,e,mA,⟨od,es,ep,e2,c⟩,r⟩:=x
  exact⟨ho _ d,z,ne,k _ _ (.inl rfl) e,mA,⟨od,es,ep,k _ _ (.inr d) e2,c⟩,r⟩
 | own y=>obtain⟨ob,e⟩:=x;exact⟨ob,k _ _ (.inl rfl) e⟩
 | xd fs=>obtain⟨mA,⟨od,es,ep,e,c⟩,r⟩:=x;exact⟨mA,⟨od,es,ep,k _ _ (.inl rfl) e,c⟩,r⟩
 | rng lo hi=>obtain⟨t,u,v,e⟩:=x;exact⟨t,u,v,k _ _ (.inl rfl) e⟩
 | frz ob u ih=>obtain⟨e,q⟩:=x;exact⟨k _ _ (.inl rfl) e,ih q⟩
 | tabO q=>
  obtain⟨ps,e,t,c⟩:=x
  exact⟨ps,k _ _ (.inl rfl) e,t,λpos cv hc=>by
   obtain⟨c',o,vs,tt,e1,e2,e3,e5⟩:=c pos cv hc
   exact⟨c',o,vs,tt,e1,e2,hf _ _ e3,e5⟩⟩
 | tbl ps=>
  have e:h.get? a=some {cls:=.none,data:=.fields ps}:=x
  show h'.get? a=some {cls:=.none,data:=.fields ps}
  exact k a _ (.inl rfl) e
 | met f y=>
  have e:h.get? a=some (PySem.W.methodObj (.ref f) (.ref y)):=x
  show h'.get? a=some (PySem.W.methodObj (.ref f) (.ref y))
  exact k a _ (.inl rfl) e
 | ext φ=>obtain⟨p,⟨o,e⟩,st⟩:=x;exact⟨st _ _ p λo q=>k _ _ (.inl rfl) q,⟨o,k _ _ (.inl rfl) e⟩,st⟩
theorem HOk.lt(x:HOk P w H h)(e:H a=some o):a<h.objs.size:=(x a o e).lt
theorem HOk.fresh(x:HOk P w H h)(e:h.objs.size<=a):H a=none:=by
 cases q:H a with
 | none=>rfl
 | some u=>exact absurd (qf (x.lt q) e) (qAy _)
theorem HOk.kept(x:HOk P w H h)(k:∀b u,h.get? b=some u->h'.get? b=some u):HOk P w H h':=λa o e=>
 (x a o e).stay (λb u _ q=>k b u q) (λ_ q=>q) λ_ _ q=>q
theorem HOk.laid(x:HOk P w H h)(k:∀b u,h.get? b=some u->h'.get? b=some u)(hp:h.objs.size<=a)(new:zdk P w (upd H a o) h' a o):HOk P w (upd H a o) h':=λb u e=>by
 have hn:=x.fresh hp
 by_cases hb:b=a
 ·subst hb;rw[zam]at e;cases e;exact new
 ·rw[zap hb]at e
  exact(x b u e).stay (λc v _ q=>k c v q) (λc q=>by rw[zap (zax q hn)];exact q) λc xs q=>by rw[zap (zax q hn)];exact q
end
noncomputable def Rd(H:Hp)(a:Addr)(u:HO):Prop:=H a=some u\/∃o,H a=some (.frz o u)
theorem Rd.ok(r:Rd H a u)(x:HOk P w H h):zdk P w H h a u:=by
 rcases r with r|⟨o,r⟩
 ·exact x a u r
 ·obtain⟨_,q⟩:=x a _ r
  exact q
noncomputable def Mut:Option HO->Prop
 | some (.lst _)=>True
 | some (.dK _)=>True
 | some (.dT _)=>True
 | some (.set _ _)=>True
 | some (.ins _ _ _)=>True
 | some (.ext _)=>True
 | _=>False
section
variable{P:Program}{w:World}{H:Hp}{h h':Heap}{x e:Addr}{o':HO}
theorem HOk.write(ok:HOk P w H h)(mu:Mut (H x))(he:e=x\/H e=some (.own x))(k:∀b u,b≠e->h.get? b=some u->h'.get? b=some u)(heo:∃u,h'.get? e=some u)
  (new:zdk P w (upd H x o') h' x o'):HOk P w (upd H x o') h':=λb u q=>by
 have nown:∀c y,H c=some (.own y)->c≠x:=λc y r z=>by subst z;rw[r]at mu;exact mu
 have ntup:∀c xs,H c=some (.tup xs)->c≠x:=λc xs r z=>by subst z;rw[r]at mu;exact mu
 have nfrz:∀c o2 u2,H c=some (.frz o2 u2)->c≠x:=λc o2 u2 r z=>by subst z;rw[r]at mu;exact mu
 by_cases hb:b=x
 ·subst hb;rw[zam]at q;cases q;exact new
 ·rw[zap hb]at q
  by_cases hbe:b=e
  ·have q':H b=some (.own x):=by
    rcases he with z|z
    ·exact absurd (hbe.trans z) hb
    ·rw[hbe];exact z
   rw[q]at q';cases q'
   obtain⟨v,hv⟩:=heo
   exact⟨v,by rw[hbe];exact hv⟩
  ·refine(ok b u q).stay (λc v hc r=>k c v ?_ r) (λc r=>by rw[zap (nown c b r)];exact r) (λc xs r=>by rw[zap (ntup c xs r)];exact r) (λc o2 r=>by rw[zap (nfrz c o2 _ r)];exact r)
   rcases hc with rfl|hc
   ·exact hbe
   ·rintro rfl
    rcases he with z|z
    ·exact nown c b hc z
    ·rw[hc]at z;cases z;exact hb rfl
end
set_option genInjectivity false in
structure Un(fs ex:List Addr)(H H':Hp)(h h':Heap):Prop where
 keep:∀b o,h.get? b=some o->H b=none->b∉fs->b∉ex->h'.get? b=some o
 slot:∀b o,h.get? b=some o->H b=none->b∈fs->b∉ex->∃sl,h'.get? b=some {o with slots:=sl}
 free:∀b o,h.get? b=some o->H b=none->b∉ex->H' b=none
 there:∀b o,h.get? b=some o->b∉ex->∃o',h'.get? b=some o'
 tups:∀b xs,H b=some (.tup xs)->H' b=some (.tup xs)
 frzs:∀b o u,H b=some (.frz o u)->H' b=some (.frz o u)
 tbls:∀b ps,H b=some (.tbl ps)->∃more,H' b=some (.tbl (ps++more))
section
variable{fs fs' ex ex':List Addr}{H H1 H2:Hp}{h h1 h2 h':Heap}{a x e:Addr}{o:HO}
theorem Un.any(u:Un fs ex H H1 h h1)(q:h.get? b=some ob)(n:H b=none)(hx:b∉ex):∃sl,h1.get? b=some {ob with slots:=sl}:=by
 by_cases hb:b∈fs
 ·exact u.slot b ob q n hb hx
 ·exact⟨ob.slots,u.keep b ob q n hb hx⟩
theorem Un.kept(k:∀b u,h.get? b=some u->h'.get? b=some u):Un fs ex H H h h':=
 ⟨λb ob q _ _ _=>k b ob q,λb ob q _ _ _=>⟨ob.slots,k b ob q⟩,λ_ _ _ n _=>n,λb ob q _=>⟨ob,k b ob q⟩,λ_ _ q=>q,λ_ _ _ q=>q,λ_ ps q=>⟨#[],by rw[q];simp⟩⟩
theorem Un.refl:Un fs ex H H h h:=Un.kept λ_ _ q=>q
theorem Un.laid(k:∀b u,h.get? b=some u->h'.get? b=some u)(hp:h.objs.size<=a)(hn:H a=none):Un fs ex H (upd H a o) h h' where
 keep:=λb u q _ _ _=>k b u q
 slot:=λb u q _ _ _=>⟨u.slots,k b u q⟩
 free:=λb u q n _=>by rw[zap (qr (qf (qO q) hp))];exact n
 there:=λb u q _=>⟨u,k b u q⟩
 tups:=λb xs q=>by rw[zap (zax q hn)];exact q
 frzs:=λb u xs q=>by rw[zap (zax q hn)];exact q
 tbls:=λb ps q=>⟨#[],by rw[zap (zax q hn),q];simp⟩
theorem Un.write(mu:Mut (H x))(he:e=x\/H e=some (.own x))(k:∀b u,b≠e->h.get? b=some u->h'.get? b=some u)(heo:∃u,h'.get? e=some u):Un fs ex H (upd H x o) h h':=by
 have hx:∀b,H b=none->b≠x:=λb n z=>by subst z;rw[n]at mu;exact mu
 have hb:∀b,H b=none->b≠e:=λb n z=>by
  subst z
  rcases he with r|r
  ·exact hx b n r
  ·rw[n]at r;cases r
 have hm:∀b u,H b=some u->¬Mut (some u)->b≠x:=λb u q nm z=>by subst z;rw[q]at mu;exact nm mu
 refine⟨λb u q n _ _=>k b u (hb b n) q,λb u q n _ _=>⟨u.slots,k b u (hb b n) q⟩,λb u q n _=>by rw[zap (hx b n)];exact n,λb u q _=>?_,
  λb xs q=>by rw[zap (hm b _ q λz=>z)];exact q,λb u xs q=>by rw[zap (hm b _ q λz=>z)];exact q,λb ps q=>⟨#[],by rw[zap (hm b _ q λz=>z),q];simp⟩⟩
 by_cases hbe:b=e
 ·subst hbe;exact heo
 ·exact⟨u,k b u hbe q⟩
end
noncomputable def trk(h:Heap)(H:Hp):List Addr:=(List.range h.objs.size).filter λa=>(H a).isSome
noncomputable def hidT(h:Heap)(H:Hp):Heap:=PySem.W.hideAll h (trk h H)
theorem zafv(h:Heap)(H:Hp):(hidT h H).objs.size=h.objs.size:=PySem.W.hideAll_size _ _
theorem zpj{h:Heap}(e:h.get? b=some o)(n:H b=none):(hidT h H).get? b=some o:=
 PySem.W.hideAll_get _ e λhm=>by
  have q:(H b).isSome=true:=(qBI.mp hm).2
  rw[n]at q;simp at q
theorem zapg{h:Heap}(e:(hidT h H).get? b=some o):h.get? b=some o/\H b=none:=by
 have e':h.get? b=some o:=PySem.W.of_hideAll (trk h H) e
 refine⟨e',?_⟩
 cases q:H b with
 | none=>rfl
 | some x=>
  have hm:b∈trk h H:=qBI.mpr ⟨qA7.mpr (qO e'),by simp[q]⟩
  have z:(hidT h H).get? b=none:=PySem.W.hideAll_none (trk h H) hm
  rw[z]at e;cases e
set_option genInjectivity false in
structure Mod(K:qB)(mg:Str->Option Value)(base:Heap):Prop where
 kin:K.In base
 glob:base.Ns qj mg
 blt:∃mb,base.Ns builtinsNs mb/\∀x:Str,x≠"__name__"->mb x=bootBuiltins x
 nolimit:base.NoLimit
set_option genInjectivity false in
structure Cx where
 prog:Program
 w:World
 K:qB
 mg:Str->Option Value
 base:Heap
 A:Around
 N:List Str
 s₀:Shared
 H₀:Hp
 env:Env
 outer:List Env
 stack:List Env
 ex:List Addr
 fn:Str->Bool
 calm:Bool
 pn:List (Addr×Obj)
 xe:Value->Shared->Prop
noncomputable def frs(l:List Env):List Addr:=l.filterMap (·.frame)
noncomputable abbrev Cx.fs(X:Cx):List Addr:=frs X.outer
noncomputable def Vis(sc:Scope)(x:Str):Prop:=sc.names.lookup x=some .local\/sc.names.lookup x=some .cell\/sc.names.lookup x=some .free
noncomputable def visB(sc:Scope)(x:Str):Bool:=match sc.names.lookup x with
 | some .local=>true
 | some .cell=>true
 | some .free=>true
 | _=>false
theorem visB.of(h:visB sc x=true):Vis sc x:=by
 unfold visB at h
 cases e:sc.names.lookup x with
 | none=>rw[e]at h;cases h
 | some k=>rw[e]at h;cases k<;>first|exact .inl e|exact .inr (.inl e)|exact .inr (.inr e)|cases h
noncomputable def Loc(sc:Scope)(x:Str):Prop:=sc.names.lookup x=some .local\/sc.names.lookup x=some .cell
noncomputable def Look(env:Env)(h:Heap)(m:Str->Option Value)(x:Str)(u:Value):Prop:=
 (env.kindOf x=some .local/\m x=some u)\/((env.kindOf x=some .cell\/env.kindOf x=some .free)/\∃c,env.cells.lookup x=some c/\h.IsCell c (some u))
set_option genInjectivity false in
structure Cx.Ok(X:Cx):Prop where
 mod:Mod X.K X.mg X.base
 kind:X.env.scope.kind=.function
 glob:X.env.globals=qj
 blt:X.env.builtins=builtinsNs
 above:X.s₀.heap.objs.size<=X.env.locals
 inj:∀x y c,X.env.cells.lookup x=some c->X.env.cells.lookup y=some c->x=y
 has:∀x,(X.env.kindOf x=some .cell\/X.env.kindOf x=some .free)->∃c,X.env.cells.lookup x=some c
 cab:∀x c,X.fn x=true->X.env.cells.lookup x=some c->X.s₀.heap.objs.size<=c
 hd:X.calm=true->X.A.handled=none
 frames:X.A.frames=some X.stack
 stk:X.stack=X.outer\/(X.stack=X.env::X.outer/\X.env.frame=some X.env.locals)
 exf:∀b∈X.ex,b≠X.env.locals/\∀x c,X.env.cells.lookup x=some c->c≠b
 bs:∀b o,X.base.get? b=some o->X.s₀.heap.get? b=some o/\X.H₀ b=none
 bsz:X.base.objs.size<=X.s₀.heap.objs.size
 noex:∀b o,X.base.get? b=some o->b∉X.ex
 exfs:∀b∈X.ex,b∉X.fs
 funs:X.s₀.heap.FunFrames X.base X.outer
 frf:∀b∈X.fs,X.H₀ b=none
set_option genInjectivity false in
structure Inv(X:Cx)(pins:List (Addr×Obj))(σ:List (Option V))(H:Hp)(s:Shared):Prop where
 ok:X.Ok
 os:s.os=X.s₀.os
 bare:AllBare s.gens
 base:Un X.fs X.ex X.H₀ H X.s₀.heap s.heap
 loc:∃m,s.heap.Ns X.env.locals m/\∀(i:Nat)(x:Str)(v:V),X.N[i]?=some x->σ[i]?=some (some v)->Vis X.env.scope x->∃u,RelV v u/\Look X.env s.heap m x u
 cell:∀x c,X.env.cells.lookup x=some c->∃v,s.heap.IsCell c v
 free:H X.env.locals=none
 freeC:∀x c,X.env.cells.lookup x=some c->H c=none
 pin:∀p∈X.pn++pins,s.heap.get? p.1=some p.2/\H p.1=none/\p.1≠X.env.locals/\p.1∉X.fs/\∀v,p.2.data≠.cell v
 hok:HOk X.prog X.w H s.heap
 len:σ.length=X.N.length
section
variable{X:Cx}{pins:List (Addr×Obj)}{σ:List (Option V)}{H H':Hp}{s:Shared}{h':Heap}
theorem Cx.Ok.nofr(ok:X.Ok)(e:X.base.get? b=some o):b∉X.fs:=λhb=>by
 have:=(ok.funs.mem hb).1
 rw[e]at this;cases this
theorem Inv.bs(I:Inv X pins σ H s):∀b o,X.base.get? b=some o->s.heap.get? b=some o/\H b=none:=λb o e=>
 ⟨I.base.keep b o (I.ok.bs b o e).1 (I.ok.bs b o e).2 (I.ok.nofr e) (I.ok.noex b o e),I.base.free b o (I.ok.bs b o e).1 (I.ok.bs b o e).2 (I.ok.noex b o e)⟩
theorem Inv.bk(I:Inv X pins σ H s):∀b o,X.base.get? b=some o->s.heap.get? b=some o:=λb o e=>(I.bs b o e).1
theorem Inv.mod(I:Inv X pins σ H s):Mod X.K X.mg X.base:=I.ok.mod
theorem Inv.kIn(I:Inv X pins σ H s):X.K.In s.heap:=I.ok.mod.kin.keeps I.bk
theorem Inv.fr(I:Inv X pins σ H s):∃m,Fr X.base X.env.locals s.heap m:=
 let⟨m,hn,_⟩:=I.loc
 ⟨m,hn,I.bk,qAE I.ok.bsz I.ok.above⟩
theorem Inv.lt(I:Inv X pins σ H s):X.env.locals<s.heap.objs.size:=let⟨_,hn,_⟩:=I.loc;hn.lt
theorem Inv.sz(I:Inv X pins σ H s):X.s₀.heap.objs.size<=s.heap.objs.size:=qAE I.ok.above (qBD I.lt)
theorem Inv.nofs(I:Inv X pins σ H s)(h:s.heap.objs.size<=a):a∉X.fs:=λhb=>by
 obtain⟨_,o,ho,_⟩:=I.ok.funs.mem hb
 exact absurd (qf (qO ho) (qAE I.sz h)) (qAy _)
theorem Inv.cne(I:Inv X pins σ H s):∀x c,X.env.cells.lookup x=some c->c≠X.env.locals:=λx c e z=>by
 obtain⟨v,o,ho,hd⟩:=I.cell x c e
 obtain⟨m,⟨o',es,ep,ho',hd',_⟩,_⟩:=I.loc
 rw[z,ho']at ho;cases ho;rw[hd']at hd;cases hd
theorem Inv.funs(I:Inv X pins σ H s):s.heap.FunFrames X.base X.outer:=by
 have all:∀(l:List Env),(∀b∈frs l,b∈X.fs)->X.s₀.heap.FunFrames X.base l->s.heap.FunFrames X.base l:=by
  intro l
  induction l with
  | nil=>intro _ _;trivial
  | cons env r ih=>
   intro hs hl
   obtain⟨hk,⟨L,o,hf,hn,ho,hd⟩,hr⟩:=hl
   have hL:L∈X.fs:=hs L (by unfold frs;rw[qBY,hf];exact qp)
   obtain⟨sl,e⟩:=I.base.slot L o ho (I.ok.frf L hL) hL λz=>I.ok.exfs L z hL
   exact⟨hk,⟨L,_,hf,hn,e,hd⟩,ih (λb hb=>hs b (by unfold frs;rw[qBY,hf];exact qN _ hb)) hr⟩
 exact all X.outer (λ_ hb=>hb) I.ok.funs
theorem Inv.stack(I:Inv X pins σ H s):s.heap.FunFrames X.base X.stack:=by
 rcases I.ok.stk with e|⟨e,hf⟩
 ·rw[e];exact I.funs
 ·rw[e]
  obtain⟨m,hn,_⟩:=I.loc
  refine .cons (by rw[I.ok.kind];decide) hf hn ?_ I.funs
  exact qAl (qAE I.ok.bsz I.ok.above)
theorem Inv.stkSub(I:Inv X pins σ H s):∀b∈frs X.stack,b∈X.env.locals::X.fs:=λb hb=>by
 rcases I.ok.stk with e|⟨e,hf⟩
 ·rw[e]at hb;exact qN _ hb
 ·rw[e]at hb
  unfold frs at hb
  rw[qBY,hf]at hb
  exact hb
theorem Inv.stkFree(I:Inv X pins σ H s):∀b∈frs X.stack,H b=none:=λb hb=>by
 rcases qY.mp (I.stkSub b hb)with e|hb
 ·rw[e];exact I.free
 ·obtain⟨_,o,ho,_⟩:=I.ok.funs.mem hb
  exact I.base.free b o ho (I.ok.frf b hb) λz=>I.ok.exfs b z hb
theorem Inv.step{g':Array GenState}{t':Nat}{d':Drawn}{ch:List Addr}(I:Inv X pins σ H s)
  (hch:∀b∈ch,(b∈X.ex\/X.s₀.heap.objs.size<=b)/\b≠X.env.locals/\(∀x c,X.env.cells.lookup x=some c->c≠b)/\∀p∈X.pn++pins,p.1≠b)
  (keep:∀b o,b≠X.env.locals->b∉X.fs->b∉ch->s.heap.get? b=some o->H b=none->h'.get? b=some o)
  (slot:∀b o,b≠X.env.locals->b∈X.fs->b∉ch->s.heap.get? b=some o->H b=none->∃sl,h'.get? b=some {o with slots:=sl}) (free:∀b o,b∉ch->s.heap.get? b=some o->H b=none->H' b=none)
  (there:∀b o,b∉ch->s.heap.get? b=some o->∃o',h'.get? b=some o')
  (tups:∀b xs,H b=some (.tup xs)->H' b=some (.tup xs))(frzs:∀b o u,H b=some (.frz o u)->H' b=some (.frz o u))(tbls:∀b ps,H b=some (.tbl ps)->∃more,H' b=some (.tbl (ps++more)))
  (ns:∀m,s.heap.Ns X.env.locals m->h'.Ns X.env.locals m)(hok:HOk X.prog X.w H' h')(hg:AllBare g') :
  Inv X pins σ H' {s with heap:=h',gens:=g',drawn:=d',toks:=t'}:=by
 have neL:∀b o,X.s₀.heap.get? b=some o->b≠X.env.locals:=λb o e=>qr (qf (qO e) I.ok.above)
 have neC:∀b o,X.s₀.heap.get? b=some o->b∉X.ex->b∉ch:=λb o e hx hb=>by
  rcases(hch b hb).1 with z|z
  ·exact hx z
  ·exact absurd (qf (qO e) z) (qAy _)
 have cellK:∀x c,X.env.cells.lookup x=some c->∀v,s.heap.IsCell c v->h'.IsCell c v:=λx c e v ⟨o,ho,hd⟩=>by
  have nch:c∉ch:=λz=>(hch c z).2.2.1 x c e rfl
  by_cases hc:c∈X.fs
  ·obtain⟨sl,q⟩:=slot c o (I.cne x c e) hc nch ho (I.freeC x c e)
   exact⟨_,q,hd⟩
  ·exact⟨o,keep c o (I.cne x c e) hc nch ho (I.freeC x c e),hd⟩
 refine⟨I.ok,I.os,hg,⟨λb o e n hb hx=>?_,λb o e n hb hx=>?_,λb o e n hx=>?_,λb o e hx=>?_,λb xs e=>tups b xs (I.base.tups b xs e),λb o xs e=>frzs b o xs (I.base.frzs b o xs e),λb ps e=>?_⟩,?_,λx c e=>?_,?_,λx c e=>?_,λp hp=>?_,hok,I.len⟩
 ·exact keep b o (neL b o e) hb (neC b o e hx) (I.base.keep b o e n hb hx) (I.base.free b o e n hx)
 ·obtain⟨sl,e1⟩:=I.base.slot b o e n hb hx
  obtain⟨sl',e2⟩:=slot b _ (neL b o e) hb (neC b o e hx) e1 (I.base.free b o e n hx)
  exact⟨sl',e2⟩
 ·obtain⟨o',e1⟩:=I.base.there b o e hx
  exact free b o' (neC b o e hx) e1 (I.base.free b o e n hx)
 ·obtain⟨o',e1⟩:=I.base.there b o e hx
  exact there b o' (neC b o e hx) e1
 ·obtain⟨m1,e1⟩:=I.base.tbls b ps e
  obtain⟨m2,e2⟩:=tbls b _ e1
  exact⟨m1++m2,by rw[e2,Array.append_assoc]⟩
 ·obtain⟨m,hn,hl⟩:=I.loc
  refine⟨m,ns m hn,λi x v e1 e2 e3=>?_⟩
  obtain⟨u,r,l⟩:=hl i x v e1 e2 e3
  refine⟨u,r,?_⟩
  rcases l with l|⟨k,c,e,z⟩
  ·exact .inl l
  ·exact .inr ⟨k,c,e,cellK x c e _ z⟩
 ·obtain⟨v,z⟩:=I.cell x c e
  exact⟨v,cellK x c e v z⟩
 ·obtain⟨m,⟨o,_,_,ho,_⟩,_⟩:=I.loc
  exact free _ o (λz=>(hch _ z).2.1 rfl) ho I.free
 ·obtain⟨v,o,ho,hd⟩:=I.cell x c e
  exact free c o (λz=>(hch c z).2.2.1 x c e rfl) ho (I.freeC x c e)
 ·obtain⟨e,n,ne,nf,d⟩:=I.pin p hp
  have nch:p.1∉ch:=λz=>(hch p.1 z).2.2.2 p hp rfl
  exact⟨keep p.1 p.2 ne nf nch e n,free p.1 p.2 nch e n,ne,nf,d⟩
theorem Inv.un{t':Nat}(I:Inv X pins σ H s)(u:Un X.fs [] H H' s.heap h')(hok:HOk X.prog X.w H' h'):Inv X pins σ H' {s with heap:=h',toks:=t'}:=by
 obtain⟨m,⟨o,es,ep,ho,r⟩,_⟩:=id I.loc
 obtain⟨sl,hL⟩:=u.any ho I.free (by simp)
 exact I.step (g':=s.gens) (d':=s.drawn) (ch:=[]) (λ_ z=>nomatch z) (λb o _ hb _ e n=>u.keep b o e n hb (by simp)) (λb o _ hb _ e n=>u.slot b o e n hb (by simp)) (λb o _ e n=>u.free b o e n (by simp)) (λb o _ e=>u.there b o e (by simp)) u.tups u.frzs u.tbls (λm' hm=>by
  obtain⟨o',es',ep',ho',r'⟩:=hm
  rw[ho]at ho';cases ho'
  exact⟨_,es',ep',hL,r'⟩) hok I.bare
theorem Inv.call{g':Array GenState}{t':Nat}{d':Drawn}{ch:List Addr}(I:Inv X pins σ H s)(u:Un (frs X.stack) ch H H' s.heap h')(hok:HOk X.prog X.w H' h')(hg:AllBare g')
  (hch:∀b∈ch,(b∈X.ex\/X.s₀.heap.objs.size<=b)/\b≠X.env.locals/\(∀x c,X.env.cells.lookup x=some c->c≠b)/\∀p∈X.pn++pins,p.1≠b) :
  Inv X pins σ H' {s with heap:=h',gens:=g',drawn:=d',toks:=t'}:=by
 obtain⟨m,⟨o,es,ep,ho,r⟩,_⟩:=id I.loc
 obtain⟨sl,hL⟩:=u.any ho I.free λz=>(hch _ z).2.1 rfl
 exact I.step (ch:=ch) hch (λb o hL hb hc e n=>u.keep b o e n (λz=>(qY.mp (I.stkSub b z)).elim hL hb) hc) (λb o _ _ hc e n=>u.any e n hc) (λb o hc e n=>u.free b o e n hc) (λb o hc e=>u.there b o e hc) u.tups u.frzs u.tbls (λm' hm=>by
  obtain⟨o',es',ep',ho',r'⟩:=hm
  rw[ho]at ho';cases ho'
  exact⟨_,es',ep',hL,r'⟩) hok hg
theorem Inv.turned{t':Nat}{it:Addr}(I:Inv X pins σ H s)(k:∀b o,b≠it->s.heap.get? b=some o->h'.get? b=some o)(hn:H it=none)(hL:it≠X.env.locals)
  (h1:it∈X.ex\/X.s₀.heap.objs.size<=it) (h2:∀x c,X.env.cells.lookup x=some c->c≠it) (h3:∀p∈X.pn++pins,p.1≠it):Inv X pins σ H {s with heap:=h',toks:=t'}:=by
 have nit:∀b u,H b=some u->b≠it:=λb u e z=>by rw[z,hn]at e;cases e
 refine I.step (g':=s.gens) (d':=s.drawn) (ch:=[it]) (λb hb=>?_) (λb o _ _ hc e _=>k b o (λz=>hc (by simp[z])) e) (λb o _ _ hc e _=>⟨o.slots,k b o (λz=>hc (by simp[z])) e⟩) (λ_ _ _ _ n=>n)
  (λb o hc e=>⟨o,k b o (λz=>hc (by simp[z])) e⟩) (λ_ _ e=>e) (λ_ _ _ e=>e) (λb ps e=>⟨#[],by rw[e];simp⟩) (λm hm=>?_) (λb u e=>?_) I.bare
 ·have e:b=it:=by simpa using hb
  subst e
  exact⟨h1,hL,h2,h3⟩
 ·obtain⟨o,es,ep,ho,r⟩:=hm
  exact⟨o,es,ep,k _ o (qAk hL) ho,r⟩
 ·refine(I.hok b u e).stay (λc v hc q=>k c v ?_ q) (λ_ q=>q) λ_ _ q=>q
  rcases hc with z|z
  ·rw[z];exact nit b u e
  ·exact nit c _ z
theorem Inv.tok(I:Inv X pins σ H s)(t:Nat):Inv X pins σ H {s with toks:=t}:=I.un (h':=s.heap) (t':=t) Un.refl I.hok
theorem Inv.kept(I:Inv X pins σ H s)(k:∀b u,s.heap.get? b=some u->h'.get? b=some u):Inv X pins σ H {s with heap:=h',toks:=t'}:=I.un (Un.kept k) (I.hok.kept k)
theorem Inv.laid(I:Inv X pins σ H s)(k:∀b u,s.heap.get? b=some u->h'.get? b=some u)(hp:s.heap.objs.size<=a)(new:zdk X.prog X.w (upd H a o) h' a o) :
  Inv X pins σ (upd H a o) {s with heap:=h',toks:=t'}:=I.un (Un.laid k hp (I.hok.fresh hp)) (I.hok.laid k hp new)
theorem Inv.write(I:Inv X pins σ H s)(mu:Mut (H x))(he:e=x\/H e=some (.own x))(k:∀b u,b≠e->s.heap.get? b=some u->h'.get? b=some u)(heo:∃u,h'.get? e=some u)
  (new:zdk X.prog X.w (upd H x o) h' x o):Inv X pins σ (upd H x o) {s with heap:=h',toks:=t'}:=I.un (Un.write mu he k heo) (I.hok.write mu he k heo new)
theorem Inv.pins_of(I:Inv X pins σ H s)(h:∀p∈pins',s.heap.get? p.1=some p.2/\H p.1=none/\p.1≠X.env.locals/\p.1∉X.fs/\∀v,p.2.data≠.cell v):Inv X pins' σ H s:=
 ⟨I.ok,I.os,I.bare,I.base,I.loc,I.cell,I.free,I.freeC,λp hp=>(qAf.mp hp).elim (λz=>I.pin p (qy _ z)) (h p),I.hok,I.len⟩
theorem zuq{N:List Str}(hN:N.Nodup){i j:Nat}{x:Str}(a:N[i]?=some x)(b:N[j]?=some x):i=j:=by
 obtain⟨h1,e1⟩:=qM.mp a
 obtain⟨h2,e2⟩:=qM.mp b
 exact(List.getElem_inj hN).mp (e1.trans e2.symm)
theorem zws{M:Model}{A:Around}{E:Value->Shared->Prop}{i:Nat}{x:Str}{v:V}{u:Value}{Q:Unit->Shared->Prop}(I:Inv X pins σ H s)(hN:X.N.Nodup)(hi:X.N[i]?=some x)(hx:Loc X.env.scope x)(r:RelV v u)
  (h:∀s',Inv X pins (σ.set i (some v)) H s'->(∃a,Heap.SameBut a s.heap s'.heap/\(a=X.env.locals\/X.env.cells.lookup x=some a))->Q () s') (hf:X.fn x=true\/X.env.scope.names.lookup x=some .local:=by assumption):wpAny M A (storeName X.env x u) Q E s:=by
 obtain⟨m,hn,hl⟩:=id I.loc
 have hcls:(X.env.scope.kind==.class||(X.env.scope.kind==.module&&X.env.locals != X.env.globals))=false:=by rw[I.ok.kind];rfl
 have hiσ:i<σ.length:=by rw[I.len];exact(qM.mp hi).1
 have cne:=I.cne
 have tracked:∀{a:Addr}{h':Heap},(∃o,s.heap.get? a=some o/\H a=none)->Heap.SameBut a s.heap h'->HOk X.prog X.w H h':=λ{a h'} ha hs b ob e=>by
  obtain⟨_,_,hfree⟩:=ha
  refine(I.hok b ob e).stay (λc w' hc q=>(hs.2 c ?_).trans q) (λ_ q=>q) λ_ _ q=>q
  rintro rfl
  rcases hc with rfl|hc
  ·rw[hfree]at e;cases e
  ·rw[hfree]at hc;cases hc
 rcases hx with hk|hk
 ·refine wpAny_storeName_local hk hn (λh' hn' hs=>?_) hcls
  obtain⟨oL,_,_,hoL,_⟩:=id hn
  refine h _ ⟨I.ok,I.os,I.bare,⟨λb o e n hb hx=>?_,λb o e n hb hx=>?_,I.base.free,λb o e hx=>?_,I.base.tups,I.base.frzs,I.base.tbls⟩,⟨_,hn',λj y v' e1 e2 e3=>?_⟩,λy c e=>?_,I.free,I.freeC,λp hp=>?_,tracked ⟨oL,hoL,I.free⟩ hs,by simpa using I.len⟩ ⟨_,hs,.inl rfl⟩
  ·exact(hs.2 b (qr (qf (qO e) I.ok.above))).trans (I.base.keep b o e n hb hx)
  ·obtain⟨sl,e1⟩:=I.base.slot b o e n hb hx
   exact⟨sl,(hs.2 b (qr (qf (qO e) I.ok.above))).trans e1⟩
  ·obtain⟨o',e1⟩:=I.base.there b o e hx
   exact⟨o',(hs.2 b (qr (qf (qO e) I.ok.above))).trans e1⟩
  ·by_cases hj:j=i
   ·subst hj
    rw[hi]at e1;cases e1
    rw[qX hiσ]at e2
    cases e2
    exact⟨u,r,.inl ⟨hk,by simp⟩⟩
   ·rw[qL (qAk hj)]at e2
    obtain⟨u',r',q⟩:=hl j y v' e1 e2 e3
    refine⟨u',r',?_⟩
    rcases q with⟨k,e⟩|⟨k,c,e,z⟩
    ·refine .inl ⟨k,?_⟩
     have:y≠x:=λe=>hj (zuq hN e1 (e▸hi))
     simp[this,e]
    ·exact .inr ⟨k,c,e,z.sameBut hs (cne y c e)⟩
  ·obtain⟨w',z⟩:=I.cell y c e
   exact⟨w',z.sameBut hs (cne y c e)⟩
  ·obtain⟨e,n,ne,nf,d⟩:=I.pin p hp
   exact⟨(hs.2 p.1 ne).trans e,n,ne,nf,d⟩
 ·have hfn:X.fn x=true:=by
   rcases hf with z|z
   ·exact z
   ·rw[z]at hk;cases hk
  obtain⟨c,hc⟩:=I.ok.has x (.inl hk)
  obtain⟨w',z⟩:=I.cell x c hc
  refine wpAny_storeName_cell I.ok.kind hk hc z (λh' hc' hs=>?_)
  obtain⟨oc,hoc,hocd⟩:=id z
  refine h {s with heap:=h'} ⟨I.ok,I.os,I.bare,⟨λb o e n hb hx=>?_,λb o e n hb hx=>?_,I.base.free,λb o e hx=>?_,I.base.tups,I.base.frzs,I.base.tbls⟩,⟨m,hn.sameBut hs (qAk (cne x c hc)),λj y v' e1 e2 e3=>?_⟩,λy c' e=>?_,I.free,I.freeC,λp hp=>?_,tracked ⟨oc,hoc,I.freeC x c hc⟩ hs,by simpa using I.len⟩ ⟨c,hs,.inr hc⟩
  ·exact(hs.2 b (qr (qf (qO e) (I.ok.cab x c hfn hc)))).trans (I.base.keep b o e n hb hx)
  ·obtain⟨sl,e1⟩:=I.base.slot b o e n hb hx
   exact⟨sl,(hs.2 b (qr (qf (qO e) (I.ok.cab x c hfn hc)))).trans e1⟩
  ·obtain⟨o',e1⟩:=I.base.there b o e hx
   exact⟨o',(hs.2 b (qr (qf (qO e) (I.ok.cab x c hfn hc)))).trans e1⟩
  ·by_cases hj:j=i
   ·subst hj
    rw[hi]at e1;cases e1
    rw[qX hiσ]at e2
    cases e2
    exact⟨u,r,.inr ⟨.inl hk,c,hc,hc'⟩⟩
   ·rw[qL (qAk hj)]at e2
    obtain⟨u',r',q⟩:=hl j y v' e1 e2 e3
    refine⟨u',r',?_⟩
    rcases q with q|⟨k,c',e,z'⟩
    ·exact .inl q
    ·refine .inr ⟨k,c',e,z'.sameBut hs ?_⟩
     rintro rfl
     exact hj (zuq hN e1 (I.ok.inj _ _ _ e hc▸hi))
  ·by_cases hcc:c'=c
   ·subst hcc;exact⟨_,hc'⟩
   ·obtain⟨w2,z2⟩:=I.cell y c' e
    exact⟨w2,z2.sameBut hs hcc⟩
  ·obtain⟨e,n,ne,nf,d⟩:=I.pin p hp
   refine⟨(hs.2 p.1 ?_).trans e,n,ne,nf,d⟩
   intro q
   rw[q,hoc]at e
   have q':oc=p.2:=qa e
   exact d w' (by rw[<- q'];exact hocd)
theorem zur{E:Value->Shared->Prop}{Q:Unit->Shared->Prop}(I:Inv X pins σ H s)(hN:X.N.Nodup)(hi:X.N[i]?=some x)(hx:Loc X.env.scope x)(r:RelV v u)
  (h:∀s',Inv X pins (σ.set i (some v)) H s'->Q () s') (hf:X.fn x=true\/X.env.scope.names.lookup x=some .local:=by assumption):wpAny M A (storeName X.env x u) Q E s:=
 zws I hN hi hx r (λs' I' _=>h s' I') hf
theorem Inv.call'{s':Shared}(I:Inv X pins σ H s)(ho:s'.os=s.os)(u:Un (frs X.stack) ch H H' s.heap s'.heap)(hok:HOk X.prog X.w H' s'.heap)(hg:AllBare s'.gens)
  (hch:∀b∈ch,(b∈X.ex\/X.s₀.heap.objs.size<=b)/\b≠X.env.locals/\(∀x c,X.env.cells.lookup x=some c->c≠b)/\∀p∈X.pn++pins,p.1≠b):Inv X pins σ H' s':=by
 obtain⟨h',g',d',t',o'⟩:=s'
 have e:o'=s.os:=ho
 subst e
 exact I.call (g':=g') (t':=t') (d':=d') u hok hg hch
end
noncomputable abbrev XK:=Value->Option Addr->Hp->Prop
noncomputable abbrev St:=List (Option V)
noncomputable abbrev VK:=V->Hp->Prop
noncomputable abbrev TE:=St->Hp->VK->Prop
noncomputable abbrev TT:=St->Hp->(Bool->Hp->Prop)->Prop
noncomputable abbrev TA:=St->Hp->(List V->Hp->Prop)->Prop
set_option genInjectivity false in
structure Ends where
 nx:St->Hp->Prop
 rt:VK
 bk:St->Hp->Prop:=λ_ _=>False
 ct:St->Hp->Prop:=λ_ _=>False
noncomputable abbrev TS:=Ends->St->Hp->Prop
noncomputable def EP(X:Cx)(pins:List (Addr×Obj))(σ:St)(Q:VK)(u:Value)(s':Shared):Prop:=∃v H',Inv X pins σ H' s'/\RelV v u/\Q v H'
noncomputable def TP(X:Cx)(pins:List (Addr×Obj))(σ:St)(Q:Bool->Hp->Prop)(b:Bool)(s':Shared):Prop:=∃H',Inv X pins σ H' s'/\Q b H'
noncomputable def AP(X:Cx)(pins:List (Addr×Obj))(σ:St)(Q:List V->Hp->Prop)(us:List Value)(s':Shared):Prop:=∃vs H',Inv X pins σ H' s'/\Vals vs us/\Q vs H'
noncomputable def SP(X:Cx)(pins:List (Addr×Obj))(D:Ends)(f:Flow)(s':Shared):Prop:=
 match f with
 | .next=>∃σ' H',Inv X pins σ' H' s'/\D.nx σ' H'
 | .brk=>∃σ' H',Inv X pins σ' H' s'/\D.bk σ' H'
 | .cont=>∃σ' H',Inv X pins σ' H' s'/\D.ct σ' H'
 | .ret u=>∃v σ' H',Inv X pins σ' H' s'/\RelV v u/\D.rt v H'
noncomputable def PE(X:Cx)(e:Expr)(t:TE):Prop:=
 ∀(pins:List (Addr×Obj))(s:Shared)(σ:St)(H:Hp)(Q:VK),Inv X pins σ H s->t σ H Q->wpAny (model X.prog X.w) X.A (eval e X.env) (EP X pins σ Q) X.xe s
noncomputable def PT(X:Cx)(e:Expr)(t:TT):Prop:=
 ∀(pins:List (Addr×Obj))(s:Shared)(σ:St)(H:Hp)(Q:Bool->Hp->Prop),Inv X pins σ H s->t σ H Q->wpAny (model X.prog X.w) X.A (isTrue e X.env (eval e X.env)) (TP X pins σ Q) X.xe s
noncomputable def PW(X:Cx)(e:Expr)(t:TT):Prop:=
 ∀(whole:Sem Value)(pins:List (Addr×Obj))(s:Shared)(σ:St)(H:Hp)(Q:Bool->Hp->Prop),Inv X pins σ H s->t σ H Q->wpAny (model X.prog X.w) X.A (isTrue e X.env whole) (TP X pins σ Q) X.xe s
theorem PW.pt(h:PW X e t):PT X e t:=h _
noncomputable def PA(X:Cx)(es:List Expr)(t:TA):Prop:=
 ∀(pos:Pos)(pins:List (Addr×Obj))(s:Shared)(σ:St)(H:Hp)(Q:List V->Hp->Prop),Inv X pins σ H s->t σ H Q->wpAny (model X.prog X.w) X.A (spliced (backTo pos (starEach es X.env))) (AP X pins σ Q) X.xe s
noncomputable def PS(X:Cx)(st:Stmt)(t:TS):Prop:=
 ∀(pins:List (Addr×Obj))(s:Shared)(σ:St)(H:Hp)(D:Ends),Inv X pins σ H s->t D σ H->wpAny (model X.prog X.w) X.A (exec st X.env) (SP X pins D) X.xe s
noncomputable def PSs(X:Cx)(st:List Stmt)(t:TS):Prop:=
 ∀(pins:List (Addr×Obj))(s:Shared)(σ:St)(H:Hp)(D:Ends),Inv X pins σ H s->t D σ H->wpAny (model X.prog X.w) X.A (execs st X.env) (SP X pins D) X.xe s
theorem thn{Q Q':α->Shared->Prop}{E:Value->Shared->Prop}(h:wpAny M A t Q E s)(hQ:∀a s,Q a s->Q' a s):wpAny M A t Q' E s:=qAq h hQ λ_ _ x=>x
section
variable{X:Cx}
theorem bin(ha:PE X a ta)(hb:PE X b tb){R:V->V->Hp->Prop}(I:Inv X pins σ H s)(h:ta σ H λx H1=>tb σ H1 λy H2=>R x y H2)
  {Q:α->Shared->Prop}{f:Value->Value->Sem α}
  (hf:∀v u s2 x y H2,Inv X pins σ H2 s2->RelV x v->RelV y u->R x y H2->wpAny (model X.prog X.w) X.A (f v u) Q X.xe s2) :
  wpAny (model X.prog X.w) X.A (eval a X.env) (λv s₁=>wpAny (model X.prog X.w) X.A (eval b X.env) (λu s₂=>wpAny (model X.prog X.w) X.A (f v u) Q X.xe s₂) X.xe s₁) X.xe s:=by
 refine thn (ha pins s σ H _ I h) λv s1 ⟨x,H1,I1,r1,q1⟩=>?_
 refine thn (hb pins s1 σ H1 _ I1 q1) λu s2 ⟨y,H2,I2,r2,q2⟩=>?_
 exact hf v u s2 x y H2 I2 r1 r2 q2
noncomputable def tVar(i:Nat):TE:=λσ H Q=>∃v,σ[i]?=some (some v)/\Q v H
noncomputable def tC(v:V):TE:=λ_ H Q=>Q v H
theorem zacn(hN:X.N[i]?=some x)(hv:Vis X.env.scope x)(hd:(x==("__debug__":Str))=false:=by decide)(hcd:(x==("__classdict__":Str))=false:=by decide):PE X (.Name x pos) (tVar i):=by
 intro pins s σ H Q I h
 obtain⟨v,e,h⟩:=h
 obtain⟨m,hn,hl⟩:=I.loc
 obtain⟨u,r,l⟩:=hl i x v hN e hv
 have fin:EP X pins σ Q u s:=⟨v,H,I,r,h⟩
 rcases l with⟨hk,hm⟩|⟨hk,c,hc,hcell⟩
 ·exact wpAny_Name (wpAny_loadName_local I.ok.kind hk hn hm fin) hd
 ·rcases hk with hk|hk
  ·exact wpAny_Name (wpAny_loadName_cell I.ok.kind hk hc hcell fin) hd
  ·exact wpAny_Name (wpAny_loadName_free I.ok.kind hk hc hcell fin hcd) hd
theorem zgx{i j pos}:PE X (.Constant (.int i) j pos) (tC (.int i)):=λ_ _ _ H _ I h=>wpAny_Constant_int ⟨.int i,H,I.tok _,⟨_,rfl⟩,h⟩
theorem zaxe{b j pos}:PE X (.Constant (.bool b) j pos) (tC (.bl b)):=λ_ _ _ H _ I h=>Constant_bool ⟨.bl b,H,I,rfl,h⟩
theorem zatl{j pos}:PE X (.Constant .none j pos) (tC .non):=λ_ _ _ H _ I h=>Constant_none ⟨.non,H,I,rfl,h⟩
theorem zatm{x j pos}:PE X (.Constant (.str x) j pos) (tC (.str x)):=λ_ _ _ H _ I h=>qDN ⟨.str x,H,I.tok _,⟨_,rfl⟩,h⟩
noncomputable def Gl(X:Cx)(x:Str):Prop:=X.env.kindOf x=some .globalImplicit
theorem zpr{E:Value->Shared->Prop}{Q:Value->Shared->Prop}(I:Inv X pins σ H s)(hg:Gl X x)(hm:X.mg x=some u)(h:Q u s)
  (hd:(x==("__debug__":Str))=false:=by decide):wpAny (model X.prog X.w) X.A (eval (.Name x pos) X.env) Q E s:=
 qCa I.ok.kind hg (Calls.loadGlobal_global (by rw[I.ok.glob];exact I.mod.glob.keeps I.bk) hm h) hd
theorem zma{E:Value->Shared->Prop}{Q:Value->Shared->Prop}(I:Inv X pins σ H s)(hg:Gl X x)(hm:X.mg x=none)(hv:bootBuiltins x=some u)(h:Q u s)
  (hn:x≠"__name__":=by decide) (hd:(x==("__debug__":Str))=false:=by decide):wpAny (model X.prog X.w) X.A (eval (.Name x pos) X.env) Q E s:=by
 obtain⟨mb,h1,h2⟩:=I.mod.blt
 exact qCa I.ok.kind hg (Calls.loadGlobal_builtin (by rw[I.ok.glob];exact I.mod.glob.keeps I.bk) hm (by rw[I.ok.blt];exact h1.keeps I.bk) ((h2 x hn).trans hv) h) hd
theorem zaph(hg:Gl X x)(hm:X.mg x=none)(hv:bootBuiltins x=some u)(r:RelV v u)(hn:x≠"__name__":=by decide)(hd:(x==("__debug__":Str))=false:=by decide):PE X (.Name x pos) (tC v):=
 λ_ _ _ H _ I h=>zma I hg hm hv ⟨v,H,I,r,h⟩ hn hd
variable{a b:Expr}{ta tb:TE}{pos:Pos}
noncomputable def PC(X:Cx)(op:CmpOp)(a b:Expr)(t:TE):Prop:=
 ∀(pins:List (Addr×Obj))(s:Shared)(σ:St)(H:Hp)(Q:VK),Inv X pins σ H s->t σ H Q->
  wpAny (model X.prog X.w) X.A (eval a X.env) (λv s₁=>wpAny (model X.prog X.w) X.A (eval b X.env) (λu s₂=>wpAny (model X.prog X.w) X.A (compareOp op v u) (EP X pins σ Q) X.xe s₂) X.xe s₁) X.xe s
theorem zakt(b:Expr)(h:op≠.In)(h2:op≠.NotIn):behindInMarks op b=false:=by
 have e1:(op==CmpOp.In)=false:=by cases op<;>first|rfl|exact absurd rfl h
 have e2:(op==CmpOp.NotIn)=false:=by cases op<;>first|rfl|exact absurd rfl h2
 cases b<;>simp[behindInMarks,e1,e2]
noncomputable def tIsN(ta:TE):TE:=λσ H Q=>ta σ H λx H1=>Q (.bl (decide (x=.non))) H1
theorem RelV.none_iff(r:RelV x v):(v==Value.none)=decide (x=.non):=by
 cases x with
 | non=>cases r;rfl
 | bl _=>cases r;rfl
 | int _=>obtain⟨t,rfl⟩:=r;rfl
 | str _=>obtain⟨t,rfl⟩:=r;rfl
 | byt _=>obtain⟨t,rfl⟩:=r;rfl
 | flt _=>obtain⟨t,rfl⟩:=r;rfl
 | ref _=>cases r;rfl
 | ty _=>cases r;rfl
theorem zatn{j pos'}(ha:PE X a ta):PC X .Is a (.Constant .none j pos') (tIsN ta):=by
 intro pins s σ H Q I h
 refine thn (ha pins s σ H _ I h) λv s1 ⟨x,H1,I1,r1,q1⟩=>?_
 exact Constant_none (is_none_gen ⟨.bl _,H1,I1,by rw[r1.none_iff];rfl,q1⟩)
noncomputable def tB(t:TE):TT:=λσ H Q=>t σ H λx H1=>∃c,x=.bl c/\Q c H1
theorem zato(h:PC X op a b t)(h1:behindInMarks op b=false:=by rfl):PE X (.Compare a [op] [b] pos) t:=λpins s σ H Q I hw=>wpAny_Compare1 (h pins s σ H Q I hw) h1
theorem zatp(h:PC X op a b t)(h1:behindInMarks op b=false:=by rfl):PT X (.Compare a [op] [b] pos) (tB t):=by
 intro pins s σ H Q I hw
 refine wpAny_isTrue_Compare1 (thn (h pins s σ H _ I hw) λv s1 h1=>thn h1 λu s2 h2=>thn h2 λc s3 ⟨x,H1,I1,r1,q1⟩=>?_) h1
 obtain⟨d,rfl,q⟩:=q1
 cases r1
 exact qBv ⟨H1,I1,q⟩
variable{tA tB':TT}{rest:List Expr}
noncomputable def tOr(t u:TT):TT:=λσ H Q=>t σ H λc H1=>if c=true then Q true H1 else u σ H1 Q
noncomputable def tNot(t:TT):TT:=λσ H Q=>t σ H λc H1=>Q (!c) H1
theorem zatq(ha:PT X a tA):PW X (.BoolOp .Or [a] pos) tA:=by
 intro wh pins s σ H Q I h
 refine isTrue_or (thn (ha pins s σ H Q I h) λc s1 e=>?_)
 cases c with
 | false=>exact isTrue_or_nil e
 | true=>exact e
theorem zaxf(ha:PT X a tA)(hb:PW X (.BoolOp .Or (b::rest) pos) tB'):PW X (.BoolOp .Or (a::b::rest) pos) (tOr tA tB'):=by
 intro wh pins s σ H Q I h
 refine isTrue_or (thn (ha pins s σ H _ I h) λc s1 ⟨H1,I1,q1⟩=>?_)
 cases c with
 | true=>exact⟨H1,I1,q1⟩
 | false=>exact hb wh pins s1 σ H1 Q I1 q1
theorem zatr(ha:PT X a tA):PT X (.UnaryOp .Not a pos) (tNot tA):=by
 intro pins s σ H Q I h
 exact isTrue_not (ha pins s σ H (λc H1=>Q (!c) H1) I h)
end
noncomputable def SqL(K:qB)(H:Hp)(a:Addr)(xs:List V):Prop:=
 Rd H a (.lst xs)\/
  ∃(o:Obj)(its:Array Value)(n:Nat),K.lookup a=some o/\o.cls=.type "list"/\o.dict=none/\o.data=.seq its n/\its.size<=qV/\Vals xs its.toList
noncomputable def SqT(K:qB)(H:Hp)(a:Addr)(xs:List V):Prop:=
 Rd H a (.tup xs)\/
  ∃(o:Obj)(its:Array Value)(n:Nat),K.lookup a=some o/\o.cls=.type "tuple"/\o.data=.seq its n/\its.size<=qV/\Vals xs its.toList
noncomputable def absV:Value->Option V
 | .none=>some .non
 | .bool b=>some (.bl b)
 | .int i _=>some (.int i)
 | .str x _=>some (.str x)
 | .bytes b _=>some (.byt b)
 | .float b _=>some (.flt b)
 | .ref a=>some (.ref a)
 | .type n=>some (.ty n)
 | _=>none
theorem RelV.abs(r:RelV x u):absV u=some x:=by
 cases x with
 | non=>cases r;rfl
 | bl _=>cases r;rfl
 | int _=>obtain⟨t,rfl⟩:=r;rfl
 | str _=>obtain⟨t,rfl⟩:=r;rfl
 | byt _=>obtain⟨t,rfl⟩:=r;rfl
 | flt _=>obtain⟨t,rfl⟩:=r;rfl
 | ref _=>cases r;rfl
 | ty _=>cases r;rfl
theorem RelV.inj(r:RelV x u)(q:RelV y u):x=y:=qa (r.abs.symm.trans q.abs)
theorem Vals.inj:∀{xs ys:List V}{us:List Value},Vals xs us->Vals ys us->xs=ys
 | _,_,_,.nil,.nil=>rfl
 | _,_,_,.cons r t,.cons r' t'=>by rw[r.inj r',Vals.inj t t']
section
variable{X:Cx}{pins:List (Addr×Obj)}{σ:St}{H:Hp}{s:Shared}{a:Addr}{xs ys:List V}
theorem SqL.of{K:qB}(h:H a=some (.lst xs)):SqL K H a xs:=.inl (.inl h)
theorem SqT.of{K:qB}(h:H a=some (.tup xs)):SqT K H a xs:=.inl (.inl h)
theorem Inv.list(I:Inv X pins σ H s)(h:SqL X.K H a xs):∃its:List Value,Vals xs its/\PlainL s.heap a its.toArray/\xs.length<=qV:=by
 rcases h with h|⟨o,its,n,hk,hc,hd,hs,hz,r⟩
 ·obtain⟨z,its,n,r,e⟩:=h.ok I.hok
  exact⟨its,r,⟨_,n,e,rfl,rfl,rfl⟩,z⟩
 ·refine⟨its.toList,r,⟨o,n,I.kIn a o hk,hc,hd,by simpa using hs⟩,?_⟩
  have e:=r.length
  simp only[qDI]at e
  omega
theorem Inv.tuple(I:Inv X pins σ H s)(h:SqT X.K H a xs):∃its:List Value,Vals xs its/\IsTup s.heap a its.toArray/\xs.length<=qV:=by
 rcases h with h|⟨o,its,n,hk,hc,hs,hz,r⟩
 ·obtain⟨z,its,r,p⟩:=h.ok I.hok
  exact⟨its,r,p,z⟩
 ·refine⟨its.toList,r,⟨o,I.kIn a o hk,hc,n,by simpa using hs⟩,?_⟩
  have e:=r.length
  simp only[qDI]at e
  omega
theorem Inv.list_inj(I:Inv X pins σ H s)(h:SqL X.K H a xs)(h':SqL X.K H a ys):xs=ys:=by
 obtain⟨its,r,⟨o,n,e,_,_,d⟩,_⟩:=I.list h
 obtain⟨its',r',⟨o',n',e',_,_,d'⟩,_⟩:=I.list h'
 rw[e]at e';cases e'
 rw[d]at d'
 injection d' with d1 _
 have:its=its':=by simpa using congrArg Array.toList d1
 subst this
 exact r.inj r'
theorem Inv.tuple_inj(I:Inv X pins σ H s)(h:SqT X.K H a xs)(h':SqT X.K H a ys):xs=ys:=by
 obtain⟨its,r,⟨o,e,_,n,d⟩,_⟩:=I.tuple h
 obtain⟨its',r',⟨o',e',_,n',d'⟩,_⟩:=I.tuple h'
 rw[e]at e';cases e'
 rw[d]at d'
 injection d' with d1 _
 have:its=its':=by simpa using congrArg Array.toList d1
 subst this
 exact r.inj r'
end
noncomputable abbrev Cx.wish(X:Cx)(E:Value->Shared->Prop):Cx:={X with xe:=E}
noncomputable abbrev Cx.nox(X:Cx):Cx:=X.wish λ_ _=>False
theorem Cx.Ok.wish{X:Cx}(ok:X.Ok)(E:Value->Shared->Prop):(X.wish E).Ok:=
 ⟨ok.mod,ok.kind,ok.glob,ok.blt,ok.above,ok.inj,ok.has,ok.cab,ok.hd,ok.frames,ok.stk,ok.exf,ok.bs,ok.bsz,ok.noex,ok.exfs,ok.funs,ok.frf⟩
theorem Cx.Ok.unwish{X:Cx}{E:Value->Shared->Prop}(ok:(X.wish E).Ok):X.Ok:=
 ⟨ok.mod,ok.kind,ok.glob,ok.blt,ok.above,ok.inj,ok.has,ok.cab,ok.hd,ok.frames,ok.stk,ok.exf,ok.bs,ok.bsz,ok.noex,ok.exfs,ok.funs,ok.frf⟩
section
variable{X:Cx}{pins:List (Addr×Obj)}{σ:St}{H:Hp}{s:Shared}{E:Value->Shared->Prop}
theorem Inv.wish(I:Inv X pins σ H s)(E:Value->Shared->Prop):Inv (X.wish E) pins σ H s:=⟨I.ok.wish E,I.os,I.bare,I.base,I.loc,I.cell,I.free,I.freeC,I.pin,I.hok,I.len⟩
theorem Inv.unwish(I:Inv (X.wish E) pins σ H s):Inv X pins σ H s:=⟨I.ok.unwish,I.os,I.bare,I.base,I.loc,I.cell,I.free,I.freeC,I.pin,I.hok,I.len⟩
theorem SP.unwish(h:SP (X.wish E) pins D f s'):SP X pins D f s':=by
 cases f with
 | next=>obtain⟨σ',H',I,q⟩:=h;exact⟨σ',H',I.unwish,q⟩
 | brk=>obtain⟨σ',H',I,q⟩:=h;exact⟨σ',H',I.unwish,q⟩
 | cont=>obtain⟨σ',H',I,q⟩:=h;exact⟨σ',H',I.unwish,q⟩
 | ret u=>obtain⟨v,σ',H',I,r,q⟩:=h;exact⟨v,σ',H',I.unwish,r,q⟩
theorem PSs.nox{st:List Stmt}{t:TS}(h:PSs X.nox st t):PSs X st t:=λpins s σ H D I hw=>
 qAq (h pins s σ H D (I.wish _) hw) (λ_ _ q=>q.unwish) λ_ _ z=>False.elim z
end
section
variable{X:Cx}{st:Stmt}{rest:List Stmt}{t u:TS}{e:Expr}{te:TE}{pos:Pos}
noncomputable def tNext:TS:=λD σ H=>D.nx σ H
noncomputable def tSeq(t u:TS):TS:=λD σ H=>t {D with nx:=u D} σ H
theorem zapi:PSs X [] tNext:=λ_ _ σ H _ I h=>qBP ⟨σ,H,I,h⟩
theorem zkr(h1:PS X st t)(h2:PSs X rest u):PSs X (st::rest) (tSeq t u):=by
 intro pins s σ H D I h
 refine qBb (thn (h1 pins s σ H {D with nx:=u D} I h) λf s1 q=>?_)
 cases f with
 | next=>
  obtain⟨σ',H',I',q⟩:=q
  exact h2 pins s1 σ' H' D I' q
 | ret v=>exact q
 | brk=>exact q
 | cont=>exact q
theorem zlj(h1:PS X st t):PSs X [st] t:=by
 intro pins s σ H D I h
 refine qBb (thn (h1 pins s σ H D I h) λf s1 q=>?_)
 cases f with
 | next=>exact qBP q
 | ret v=>exact q
 | brk=>exact q
 | cont=>exact q
theorem Inv.quiet(I:Inv X pins σ H s):interactive X.env=false:=by simp[interactive,I.ok.kind]
noncomputable def tDrop(te:TE):TS:=λD σ H=>te σ H λ_ H1=>D.nx σ H1
theorem zus(he:PE X e te)(hs:swapsWith e none pos.line X.env=pure false:=by rfl):PS X (.Expr e pos) (tDrop te):=by
 intro pins s σ H D I h
 exact wpAny_Expr_any (thn (he pins s σ H _ I h) λv s1 ⟨x,H1,I1,r1,q1⟩=>⟨σ,H1,I1,q1⟩) I.quiet hs
noncomputable def tRet(te:TE):TS:=λD σ H=>te σ H D.rt
theorem zanx(he:PE X e te):PS X (.Return (some e) pos) (tRet te):=by
 intro pins s σ H D I h
 exact wpAny_Return_some (thn (he pins s σ H _ I h) λv s1 ⟨x,H1,I1,r1,q1⟩=>⟨x,σ,H1,I1,r1,q1⟩)
noncomputable def tIfS(c:TT)(t u:TS):TS:=λD σ H=>c σ H λb H1=>if b=true then t D σ H1 else u D σ H1
theorem zats(hc:PT X c tc)(ha:PSs X a t)(hb:PSs X b u):PS X (.If c a b pos) (tIfS tc t u):=by
 intro pins s σ H D I h
 refine wpAny_If (thn (hc pins s σ H _ I h) λd s1 ⟨H1,I1,q1⟩=>?_)
 cases d with
 | true=>exact ha pins s1 σ H1 D I1 q1
 | false=>exact hb pins s1 σ H1 D I1 q1
noncomputable def tNever:TS:=λ_ _ _=>False
theorem zaku:PS X st tNever:=λ_ _ _ _ _ _ h=>h.elim
end
noncomputable abbrev TG:=V->St->Hp->(St->Hp->Prop)->Prop
noncomputable abbrev TGs:=List V->St->Hp->(St->Hp->Prop)->Prop
noncomputable def PG(X:Cx)(target:Expr)(t:TG):Prop:=
 ∀(pins:List (Addr×Obj))(s:Shared)(σ:St)(H:Hp)(v:V)(u:Value)(Q:St->Hp->Prop),Inv X pins σ H s->RelV v u->t v σ H Q->
  wpAny (model X.prog X.w) X.A (assign target X.env u) (λ_ s'=>∃σ' H',Inv X pins σ' H' s'/\Q σ' H') X.xe s
noncomputable def PGs(X:Cx)(ts:List Expr)(t:TGs):Prop:=
 ∀(pins:List (Addr×Obj))(s:Shared)(σ:St)(H:Hp)(vs:List V)(us:List Value)(Q:St->Hp->Prop),Inv X pins σ H s->Vals vs us->t vs σ H Q->
  wpAny (model X.prog X.w) X.A (assignInOrder ((assignEach ts X.env).map (·.2)) us) (λ_ s'=>∃σ' H',Inv X pins σ' H' s'/\Q σ' H') X.xe s
section
variable{X:Cx}{pos:Pos}
noncomputable def gName(i:Nat):TG:=λv σ H Q=>Q (σ.set i (some v)) H
theorem zaaf(hN:X.N.Nodup)(hi:X.N[i]?=some x)(hx:Loc X.env.scope x)(hf:X.fn x=true\/X.env.scope.names.lookup x=some .local:=by assumption):PG X (.Name x pos) (gName i):=by
 intro pins s σ H v u Q I r h
 exact wpAny_assign_Name (zur I hN hi hx r (λs' I'=>⟨_,H,I',h⟩) hf)
noncomputable def gNil:TGs:=λvs σ H Q=>vs=[]/\Q σ H
noncomputable def gCons(t:TG)(u:TGs):TGs:=λvs σ H Q=>∃v r,vs=v::r/\t v σ H λσ' H'=>u r σ' H' Q
theorem zapj:PGs X [] gNil:=by
 intro pins s σ H vs us Q I r h
 obtain⟨e,h⟩:=h
 subst e
 cases r
 exact assignInOrder_nil ⟨σ,H,I,h⟩
theorem zakv(h1:PG X e t)(h2:PGs X es u)
  (hs:(assignEach (e::es) X.env).map (·.2)=assign e X.env::(assignEach es X.env).map (·.2):=by rfl):PGs X (e::es) (gCons t u):=by
 intro pins s σ H vs us Q I r h
 obtain⟨v,vr,e1,h⟩:=h
 subst e1
 cases r with
 | cons r rr=>
  rw[hs]
  refine assignInOrder_cons (thn (h1 pins s σ H _ _ _ I r h) λ_ s1 ⟨σ1,H1,I1,q1⟩=>?_)
  exact h2 pins s1 σ1 H1 _ _ Q I1 rr q1
noncomputable def gTup(K:qB)(n:Nat)(t:TGs):TG:=λv σ H Q=>∃a xs,v=.ref a/\SqT K H a xs/\xs.length=n/\t xs σ H Q
theorem zatt(hc:X.calm=true)(h:PGs X es t)
  (hn:(assignEach es X.env).length=n:=by rfl) (hst:(assignEach es X.env).findIdx? (·.1)=none:=by rfl):PG X (.Tuple es k pos) (gTup X.K n t):=by
 intro pins s σ H v u Q I r hw
 obtain⟨a,xs,e1,hq,hl,hw⟩:=hw
 subst e1
 cases r
 obtain⟨its,rv,ht,hz⟩:=I.tuple hq
 refine assign_Tuple_tuple (I.ok.hd hc) ht (by simp[hn,<- hl,rv.length]) hst λh' hx=>?_
 have I1:Inv X pins σ H {s with heap:=h'}:=I.kept (t':=s.toks) λb o e=>hx b o (qr (qO e)) e
 exact h pins _ σ H xs _ Q I1 (by simpa using rv) hw
noncomputable def tAsg(te:TE)(g:TG):TS:=λD σ H=>te σ H λx H1=>g x σ H1 D.nx
theorem zaco(hN:X.N.Nodup)(hi:X.N[i]?=some x)(hx:Loc X.env.scope x)(he:PE X e te)(hs:swapsWith e (some (.Name x pos')) pos.line X.env=pure false:=by rfl)(hf:X.fn x=true\/X.env.scope.names.lookup x=some .local:=by assumption) :
  PS X (.Assign [.Name x pos'] e pos) (tAsg te (gName i)):=by
 intro pins s σ H D I h
 refine wpAny_Assign_Name (thn (he pins s σ H _ I h) λv s1 ⟨y,H1,I1,r1,q1⟩=>?_) hs
 exact zur I1 hN hi hx r1 (λs2 I2=>⟨_,H1,I2,q1⟩) hf
end
section
variable{X:Cx}{pos:Pos}
noncomputable def tWhile(c:TT)(tb:TS):TS:=λD σ H=>∃W:Nat->St->Hp->Prop,(∃m,W m σ H)/\∀m σ H,W m σ H->
 c σ H λb H1=>if b=true then ∃N:St->Hp->Prop,(∀σ' H',N σ' H'->∃m',m'<m/\W m' σ' H')/\tb {D with nx:=N,ct:=N,bk:=D.nx} σ H1 else D.nx σ H1
theorem zakw(hp:PassesOwn (model X.prog X.w) X.A X.env X.xe)(hc:PT X c tc)(hb:PSs X body tb):PS X (.While c body [] pos) (tWhile tc tb):=by
 intro pins s σ H D I h
 obtain⟨W,⟨m0,w0⟩,turn⟩:=h
 refine wpAny_While (codeAny_whileLoop (λn s'=>∃σ' H',Inv X pins σ' H' s'/\W n σ' H') ?_ m0 ⟨σ,H,I,w0⟩)
 rintro n s1 ⟨σ1,H1,I1,w1⟩
 refine qA4 hp (thn (hc pins s1 σ1 H1 _ I1 (turn n σ1 H1 w1)) λb s2 ⟨H2,I2,q2⟩=>?_)
 cases b with
 | true=>
  obtain⟨N,hN,q2⟩:=q2
  rw[if_pos rfl]
  refine qA4 hp (thn (hb pins s2 σ1 H2 _ I2 q2) λf s3 q3=>?_)
  cases f with
  | next=>
   obtain⟨σ3,H3,I3,n3⟩:=q3
   obtain⟨m',hm,w3⟩:=hN σ3 H3 n3
   exact⟨m',hm,σ3,H3,I3,w3⟩
  | cont=>
   obtain⟨σ3,H3,I3,n3⟩:=q3
   obtain⟨m',hm,w3⟩:=hN σ3 H3 n3
   exact⟨m',hm,σ3,H3,I3,w3⟩
  | brk=>exact q3
  | ret v=>exact q3
 | false=>
  rw[if_neg qP]
  exact qBP ⟨σ1,H2,I2,q2⟩
end
set_option genInjectivity false in
structure It where
 go:Nat->Hp->Prop
 yld:Nat->Hp->V->Hp->Prop
 stop:Nat->Hp->Prop
noncomputable def FpOk(X:Cx)(pins:List (Addr×Obj))(H:Hp)(b:Addr):Prop:=
 H b=none/\b≠X.env.locals/\b∉X.fs/\(b∈X.ex\/X.s₀.heap.objs.size<=b)/\(∀x c,X.env.cells.lookup x=some c->c≠b)/\∀p∈X.pn++pins,p.1≠b
theorem Inv.fpOk{s:Shared}(I:Inv X pins σ H s)(hb:s.heap.objs.size<=b)(hn:H' b=none):FpOk X pins H' b:=by
 refine⟨hn,qBh (qf I.lt hb),I.nofs hb,.inr (qAE I.sz hb),λx c e z=>?_,λp hp z=>?_⟩
 ·obtain⟨v,q⟩:=I.cell x c e
  exact absurd (qf q.lt (by rw[z];exact hb)) (qAy _)
 ·exact absurd (qf (qO (I.pin p hp).1) (by rw[z];exact hb)) (qAy _)
set_option genInjectivity false in
structure Turn(P:Program)(w:World)(K:qB)(tg:Expr)(J:It)(fp:List Addr)(it:Addr)(tn:Nat->Heap->Prop):Prop where
 mem:it∈fp
 obj:∀i h,tn i h->∀b∈fp,∃o,h.get? b=some o/\∀v,o.data≠.cell v
 keep:∀i h h',tn i h->(∀b∈fp,∀o,h.get? b=some o->h'.get? b=some o)->tn i h'
 item:∀(X:Cx),X.prog=P->X.w=w->X.K=K->X.calm=true->∀(i:Nat)(pins:List (Addr×Obj))(s:Shared)(σ:St)(H:Hp)(E:Value->Shared->Prop),Inv X pins σ H s->(∀b∈fp,FpOk X pins H b)->tn i s.heap->J.go i H->
  wpAny (model P w) X.A (pyNext (.ref it)) (λr s1=>∃u,r=some u/\
   wpAny (model P w) X.A (letOwnedTupleGo tg (.ref it) u) (λ_ s2=>∃x H',Inv X pins σ H' s2/\RelV x u/\J.yld i H x H'/\tn (i+1) s2.heap/\∀b∈fp,H' b=none) E s1) E s
 done:∀(X:Cx),X.prog=P->X.w=w->X.K=K->X.calm=true->∀(i:Nat)(pins:List (Addr×Obj))(s:Shared)(σ:St)(H:Hp)(E:Value->Shared->Prop),Inv X pins σ H s->(∀b∈fp,FpOk X pins H b)->tn i s.heap->J.stop i H->
  wpAny (model P w) X.A (pyNext (.ref it)) (λr s1=>r=none/\Inv X pins σ H s1) E s
 self:∀(A:Around)(i:Nat)(s:Shared)(Q:Value->Shared->Prop)(E:Value->Shared->Prop),tn i s.heap->Q (.ref it) s->wpAny (model P w) A (pyIter (.ref it)) Q E s
noncomputable abbrev TI:=St->Hp->(It->Hp->Prop)->Prop
noncomputable def PIE(X:Cx)(pins:List (Addr×Obj))(σ:St)(tg:Expr)(R:It->Hp->Prop)(itv:Value)(s2:Shared):Prop:=
 ∃(it:Addr)(fp:List Addr)(tn:Nat->Heap->Prop)(J:It)(H':Hp),itv=.ref it/\Inv X pins σ H' s2/\Turn X.prog X.w X.K tg J fp it tn/\tn 0 s2.heap/\(∀b∈fp,FpOk X pins H' b)/\R J H'
noncomputable def PI(X:Cx)(tg iter:Expr)(wi:TI):Prop:=
 ∀(pins:List (Addr×Obj))(s:Shared)(σ:St)(H:Hp)(R:It->Hp->Prop),Inv X pins σ H s->wi σ H R->
  wpAny (model X.prog X.w) X.A (eval iter X.env) (λv s1=>wpAny (model X.prog X.w) X.A (pyIter v) (PIE X pins σ tg R) X.xe s1) X.xe s
theorem zapk{E:Value->Shared->Prop}{s:Shared}{o:Obj}{Q:Unit->Shared->Prop}(ho:s.heap.get? it=some o)(hc:o.cls=.type n)(hd:o.data=.fields vs)
  (hn:["enumerate","zip","dict_itemiterator","dict_reverseitemiterator","odict_iterator","itertools.zip_longest","itertools.pairwise"].contains n=false) (hQ:Q () s):wpAny M A (letOwnedTupleGo tg (.ref it) u) Q E s:=by
 unfold letOwnedTupleGo
 cases tg<;>first
  | exact qR hQ
  | (cases u<;>first
    | exact qR hQ
    | (refine qE (wpAny_load ho ?_)
       rw[hc,hd]
       show wpAny M A (if(["enumerate","zip","dict_itemiterator","dict_reverseitemiterator","odict_iterator","itertools.zip_longest","itertools.pairwise"].contains n&&vs[0]?==some (rawInt _))=true then _ else _) Q E s
       rw[if_neg (by intro h;rw[hn,Bool.false_and]at h;cases h)]
       exact qR hQ))
noncomputable def Itl(K:qB)(a:Addr):It:=
 ⟨λi H=>∃xs x,SqL K H a xs/\xs[i]?=some x,λi H x H'=>H'=H/\∀xs,SqL K H a xs->xs[i]?=some x,λi H=>∃xs,SqL K H a xs/\xs.length<=i⟩
noncomputable def Itt(K:qB)(a:Addr):It:=
 ⟨λi H=>∃xs x,SqT K H a xs/\xs[i]?=some x,λi H x H'=>H'=H/\∀xs,SqT K H a xs->xs[i]?=some x,λi H=>∃xs,SqT K H a xs/\xs.length<=i⟩
noncomputable def Itr(lo:Int)(n:Nat):It:=⟨λi _=>i<n,λi H x H'=>H'=H/\x=.int (lo+i),λi _=>n<=i⟩
theorem zwt{P:Program}{w:World}{K:qB}{tg:Expr}(a it:Addr):Turn P w K tg (Itl K a) [it] it (λi h=>h.IsListIter it a i) where
 mem:=by simp
 obj:=λi h st b hb=>by
  have e:b=it:=by simpa using hb
  subst e
  obtain⟨o,e,c,d⟩:=st
  exact⟨o,e,λv z=>by rw[d]at z;cases z⟩
 keep:=λi h h' st k=>st.at λo e=>k it (by simp) o e
 item:=by
  intro X hP hw hK hc i pins s σ H E I hf st hg
  subst hP hw hK
  obtain⟨xs,x,hq,hx⟩:=hg
  obtain⟨its,rv,p,hz⟩:=I.list hq
  obtain⟨u,hu,ru⟩:=rv.get hx
  obtain⟨f0,f1,f2,f3,f4,f5⟩:=hf it (by simp)
  refine qB4 st p.isList (x:=u) (by simpa using hu) λh' st' sb=>?_
  have I1:Inv X pins σ H {s with heap:=h'}:=I.turned (t':=s.toks) (λb o hb e=>(sb.2 b hb).trans e) f0 f1 f3 f4 f5
  obtain⟨o,e,c,d⟩:=id st'
  exact⟨u,rfl,zapk (s:={s with heap:=h'}) e c d (by decide) ⟨x,H,I1,ru,⟨rfl,λys hy=>by rw[I.list_inj hy hq];exact hx⟩,st',λb hb=>(hf b hb).1⟩⟩
 done:=by
  intro X hP hw hK hc i pins s σ H E I hf st hg
  subst hP hw hK
  obtain⟨xs,hq,hx⟩:=hg
  obtain⟨its,rv,p,hz⟩:=I.list hq
  obtain⟨f0,f1,f2,f3,f4,f5⟩:=hf it (by simp)
  have hl:=rv.length
  exact qCB (I.ok.hd hc) st p.isList (by simp;omega) λh' eb=>⟨rfl,I.turned (t':=s.toks) (λb o hb e=>eb b o hb e) f0 f1 f3 f4 f5⟩
 self:=λ_ _ _ _ _ st h=>wpAny_pyIter_listiter st h
theorem zaed{P:Program}{w:World}{K:qB}{tg:Expr}(a it:Addr):Turn P w K tg (Itt K a) [it] it (λi h=>h.IsTupleIter it a i) where
 mem:=by simp
 obj:=λi h st b hb=>by
  have e:b=it:=by simpa using hb
  subst e
  obtain⟨o,e,c,d⟩:=st
  exact⟨o,e,λv z=>by rw[d]at z;cases z⟩
 keep:=λi h h' st k=>st.at λo e=>k it (by simp) o e
 item:=by
  intro X hP hw hK hc i pins s σ H E I hf st hg
  subst hP hw hK
  obtain⟨xs,x,hq,hx⟩:=hg
  obtain⟨its,rv,p,hz⟩:=I.tuple hq
  obtain⟨u,hu,ru⟩:=rv.get hx
  obtain⟨f0,f1,f2,f3,f4,f5⟩:=hf it (by simp)
  refine wpAny_pyNext_tuple_item st (show s.heap.IsTuple a its.toArray from p) (x:=u) (by simpa using hu) λh' st' sb=>?_
  have I1:Inv X pins σ H {s with heap:=h'}:=I.turned (t':=s.toks) (λb o hb e=>(sb.2 b hb).trans e) f0 f1 f3 f4 f5
  obtain⟨o,e,c,d⟩:=id st'
  exact⟨u,rfl,zapk (s:={s with heap:=h'}) e c d (by decide) ⟨x,H,I1,ru,⟨rfl,λys hy=>by rw[I.tuple_inj hy hq];exact hx⟩,st',λb hb=>(hf b hb).1⟩⟩
 done:=by
  intro X hP hw hK hc i pins s σ H E I hf st hg
  subst hP hw hK
  obtain⟨xs,hq,hx⟩:=hg
  obtain⟨its,rv,p,hz⟩:=I.tuple hq
  obtain⟨f0,f1,f2,f3,f4,f5⟩:=hf it (by simp)
  have hl:=rv.length
  exact wpAny_pyNext_tuple_end (I.ok.hd hc) st (show s.heap.IsTuple a its.toArray from p) (by simp;omega) λh' eb=>⟨rfl,I.turned (t':=s.toks) (λb o hb e=>eb b o hb e) f0 f1 f3 f4 f5⟩
 self:=λ_ _ _ _ _ st h=>wpAny_pyIter_tupleiter st h
theorem zaee{P:Program}{w:World}{K:qB}{tg:Expr}(it:Addr)(lo:Int)(n:Nat):Turn P w K tg (Itr lo n) [it] it (λi h=>IsRangeIter h it (lo+(i:Nat) * 1) ((n:Int) - (i:Nat)) 1) where
 mem:=by simp
 obj:=λi h st b hb=>by
  have e:b=it:=by simpa using hb
  subst e
  exact⟨_,st,λv z=>by
   have z':Data.fields _=Data.cell v:=z
   cases z'⟩
 keep:=λi h h' st k=>k it (by simp) _ st
 item:=by
  intro X hP hw hK hc i pins s σ H E I hf st hg
  subst hP hw hK
  obtain⟨f0,f1,f2,f3,f4,f5⟩:=hf it (by simp)
  have W:=Walks.range (prog:=X.prog) (w:=X.w) (I.ok.hd hc) it lo 1 n
  refine W.item i s _ _ hg st λv h' tk hv st' kk=>?_
  obtain⟨t,rfl⟩:=hv
  have I1:Inv X pins σ H {s with heap:=h',toks:=tk}:=I.turned (λb o hb e=>kk b o (by simpa using hb) e) f0 f1 f3 f4 f5
  refine⟨_,rfl,zapk (s:={s with heap:=h',toks:=tk}) (n:="range_iterator") st' rfl rfl (by decide) ⟨.int (lo+i),H,I1,⟨t,?_⟩,⟨rfl,rfl⟩,st',λb hb=>(hf b hb).1⟩⟩
  rw[Int.mul_one]
 done:=by
  intro X hP hw hK hc i pins s σ H E I hf st hg
  subst hP hw hK
  obtain⟨f0,f1,f2,f3,f4,f5⟩:=hf it (by simp)
  exact wpAny_pyNext_range_end (I.ok.hd hc) st (by have:n<=i:=hg;omega) λh' eb=>⟨rfl,I.turned (t':=s.toks) (λb o hb e=>eb b o hb e) f0 f1 f3 f4 f5⟩
 self:=λ_ _ _ _ _ st h=>wpAny_pyIter_rangeiter st h
section
variable{X:Cx}{tg:Expr}
noncomputable def zatu(K:qB)(tl:TE):TI:=λσ H R=>tl σ H λx H1=>∃a,x=.ref a/\(∃xs,SqL K H1 a xs)/\R (Itl K a) H1
theorem zapl{l:Expr}{tl:TE}(hl:PE X l tl):PI X tg l (zatu X.K tl):=by
 intro pins s σ H R I h
 refine thn (hl pins s σ H _ I h) λv s1 ⟨x,H1,I1,r1,q1⟩=>?_
 obtain⟨a,e,⟨xs,hq⟩,q⟩:=q1
 subst e
 cases r1
 obtain⟨its,rv,p,hz⟩:=I1.list hq
 refine qBU p.isList ?_
 refine⟨s1.heap.objs.size,[s1.heap.objs.size],_,_,H1,rfl,I1.kept (t':=s1.toks) λb o e=>qF _ e,zwt a _,⟨_,qd _ rfl,rfl,rfl⟩,λb hb=>?_,q⟩
 have e:b=s1.heap.objs.size:=by simpa using hb
 subst e
 exact I1.fpOk (qQ _) (I1.hok.fresh (qQ _))
theorem zacp{pins:List (Addr×Obj)}{σ:St}{H:Hp}{s:Shared}{R:It->Hp->Prop}{E:Value->Shared->Prop}{lo hi:Int}{t u v:Tok}{tk:Nat}(I:Inv X pins σ H s)(h1:-(2 ^ 62)<=lo)(h2:lo<2 ^ 62)(h3:-(2 ^ 62)<=hi)(h4:hi<2 ^ 62)
  (q:R (Itr lo (hi - lo).toNat) H):wpAny (model X.prog X.w) X.A (pyIter (.ref s.heap.objs.size)) (PIE X pins σ tg R) E {s with heap:=s.heap.push {cls:=.type "range",data:=.fields #[.int lo t,.int hi u,.int 1 v]},toks:=tk}:=by
 refine wpAny_pyIter_range (IsRange.new ..) (small_one h1 h2 h3 h4) ?_
 have I1:Inv X pins σ H {s with heap:=s.heap.push {cls:=.type "range",data:=.fields #[.int lo t,.int hi u,.int 1 v]},toks:=tk}:=I.kept λb o e=>qF _ e
 refine⟨(s.heap.push {cls:=.type "range",data:=.fields #[.int lo t,.int hi u,.int 1 v]}).objs.size,[(s.heap.push {cls:=.type "range",data:=.fields #[.int lo t,.int hi u,.int 1 v]}).objs.size],_,_,H,rfl,
  I1.kept (t':=tk) λb o e=>qF _ e,zaee _ lo (hi - lo).toNat,?_,λb hb=>?_,q⟩
 ·have e1:lo+((0:Nat):Int) * 1=lo:=by simp
  have e2:(((hi - lo).toNat:Nat):Int) - ((0:Nat):Int)=Builtin.Range.rangeSize lo hi 1:=by rw[rangeSize_one];split<;>omega
  show IsRangeIter _ _ (lo+((0:Nat):Int) * 1) ((((hi - lo).toNat:Nat):Int) - ((0:Nat):Int)) 1
  rw[e1,e2]
  exact qd _ rfl
 ·have e:b=(s.heap.push {cls:=.type "range",data:=.fields #[.int lo t,.int hi u,.int 1 v]}).objs.size:=by simpa using hb
  subst e
  exact I1.fpOk (qQ _) (I1.hok.fresh (qQ _))
noncomputable def iRng1(ta:TA):TI:=λσ H R=>ta σ H λvs H1=>∃j:Int,vs=[.int j]/\-(2 ^ 62)<=j/\j<2 ^ 62/\R (Itr 0 j.toNat) H1
noncomputable def iRng2(ta:TA):TI:=λσ H R=>ta σ H λvs H1=>∃i j:Int,vs=[.int i,.int j]/\(-(2 ^ 62)<=i/\i<2 ^ 62/\-(2 ^ 62)<=j/\j<2 ^ 62)/\R (Itr i (j - i).toNat) H1
theorem zwu{a:Expr}{ta:TA}{p pos:Pos}(hg:Gl X "range")(hm:X.mg "range"=none)(ha:PA X [a] ta)(hs:starEach [a] X.env=[(false,eval a X.env)]:=by rfl):PI X tg (.Call (.Name "range" p) [a] [] pos) (iRng1 ta):=by
 intro pins s σ H R I h
 refine Call_ (zma I hg hm boot_range (qAu (thn (ha pos pins s σ H _ I h) λus s1 ⟨vs,H1,I1,r1,q1⟩=>?_) hs rfl))
 obtain⟨j,e,q1,q2,q⟩:=q1
 subst e
 cases r1 with
 | cons r rr=>
  cases rr
  obtain⟨t,rfl⟩:=r
  exact call_range_1 (zacp I1 (by omega) (by omega) q1 q2 (by simpa using q))
theorem zafw(hg:Gl X "range")(hm:X.mg "range"=none)(ha:PA X [a,b] ta)(hs:starEach [a,b] X.env=[(false,eval a X.env),(false,eval b X.env)]:=by rfl)(hs2:starEach [b] X.env=[(false,eval b X.env)]:=by rfl) :
  PI X tg (.Call (.Name "range" p) [a,b] [] pos) (iRng2 ta):=by
 intro pins s σ H R I h
 refine Call_ (zma I hg hm boot_range (qAu (thn (ha pos pins s σ H _ I h) λus s1 ⟨vs,H1,I1,r1,q1⟩=>?_) (by rw[hs,hs2]) (by rw[hs2];rfl)))
 obtain⟨i,j,e,⟨q1,q2,q3,q4⟩,q⟩:=q1
 subst e
 cases r1 with
 | cons r rr=>
  cases rr with
  | cons r' rr=>
   cases rr
   obtain⟨t,rfl⟩:=r
   obtain⟨t',rfl⟩:=r'
   exact call_range_2 (zacp I1 q1 q2 q3 q4 q)
noncomputable def tFor(wi:TI)(g:TG)(tb:TS):TS:=λD σ H=>wi σ H λJ H1=>∃W:Nat->Nat->St->Hp->Prop,(∃m,W 0 m σ H1)/\∀i m σ H,W i m σ H->
 (J.stop i H/\D.nx σ H)\/(J.go i H/\∃N:St->Hp->Prop,(∀σ' H',N σ' H'->∃m',m'<m/\W (i+1) m' σ' H')/\∀x H',J.yld i H x H'->g x σ H' λσ2 H2=>tb {D with nx:=N,ct:=N,bk:=D.nx} σ2 H2)
noncomputable def zwv(fp:List Addr)(h:Heap):List (Addr×Obj):=fp.filterMap λb=>(h.get? b).map λo=>(b,o)
theorem zks{h:Heap}(hb:b∈fp)(e:h.get? b=some o):(b,o)∈zwv fp h:=qBf.mpr ⟨b,hb,by rw[e];rfl⟩
theorem zafx{h:Heap}{p:Addr×Obj}(hp:p∈zwv fp h):p.1∈fp/\h.get? p.1=some p.2:=by
 obtain⟨b,hb,e⟩:=qBf.mp hp
 cases q:h.get? b with
 | none=>rw[q]at e;cases e
 | some o=>
  rw[q]at e
  have e':(b,o)=p:=qa e
  subst e'
  exact⟨hb,q⟩
theorem Inv.pinned{s:Shared}(I:Inv X pins σ H s)(hf:∀b∈fp,FpOk X pins H b)(ho:∀b∈fp,∃o,s.heap.get? b=some o/\∀v,o.data≠.cell v):Inv X (pins++zwv fp s.heap) σ H s:=
 I.pins_of λp hp=>(qAf.mp hp).elim (λz=>I.pin p (qe _ z)) λz=>by
  obtain⟨hb,e⟩:=zafx z
  obtain⟨f0,f1,f2,_⟩:=hf p.1 hb
  obtain⟨o,e',d⟩:=ho p.1 hb
  rw[e]at e';cases e'
  exact⟨e,f0,f1,f2,d⟩
theorem Inv.unpinned(I:Inv X (pins++pl) σ H s):Inv X pins σ H s:=I.pins_of λp hp=>I.pin p (qe _ (qy _ hp))
theorem zafy(hp:PassesOwn (model X.prog X.w) X.A X.env X.xe)(hc:X.calm=true)(hi:PI X tg iter wi)(hg:PG X tg g)(hb:PSs X body tb)
  (hs:∀x,foldedSetIterable iter X.env x=pure x:=by intro _;rfl):PS X (.For tg iter body [] pos) (tFor wi g tb):=by
 intro pins s σ H D I h
 refine wpAny_For (thn (hi pins s σ H _ I h) λv s1 h1=>thn h1 λitv s2 h2=>?_) hs
 obtain⟨it,fp,tn,J,H2,e,I2,T,st2,f2,W,⟨m0,w0⟩,turn⟩:=h2
 subst e
 have stat:∀{H':Hp},(∀b∈fp,H' b=none)->∀b∈fp,FpOk X pins H' b:=λhn b hb=>⟨hn b hb,(f2 b hb).2⟩
 refine codeAny_forLoop_any (λn s'=>∃i σ' H',Inv X pins σ' H' s'/\tn i s'.heap/\(∀b∈fp,H' b=none)/\W i n σ' H') ?_ m0 ⟨0,σ,H2,I2,st2,λb hb=>(f2 b hb).1,w0⟩
 rintro n s3 ⟨i,σ3,H3,I3,st3,fr3,w3⟩
 rcases turn i n σ3 H3 w3 with⟨stop,qn⟩|⟨go,N,hN,step⟩
 ·refine qA4 hp (thn (T.done X rfl rfl rfl hc i pins s3 σ3 H3 X.xe I3 (stat fr3) st3 stop) λr s4 ⟨hr,I4⟩=>?_)
  subst hr
  exact qBP ⟨σ3,H3,I4,qn⟩
 ·refine qA4 hp (thn (T.item X rfl rfl rfl hc i pins s3 σ3 H3 X.xe I3 (stat fr3) st3 go) λr s4 ⟨u,hr,h4⟩=>?_)
  subst hr
  refine qA4 hp (thn h4 λ_ s5 ⟨x,H5,I5,r5,y5,st5,fr5⟩=>?_)
  have I5':=I5.pinned (stat fr5) (T.obj _ _ st5)
  refine qA4 hp (thn (hg _ s5 σ3 H5 x u _ I5' r5 (step x H5 y5)) λ_ s6 ⟨σ6,H6,I6,q6⟩=>?_)
  refine qA4 hp (thn (hb _ s6 σ6 H6 _ I6 q6) λf s7 q7=>?_)
  have again:∀{σ7:St}{H7:Hp},Inv X (pins++zwv fp s5.heap) σ7 H7 s7->N σ7 H7->∃m,m<n/\∃i σ' H',Inv X pins σ' H' s7/\tn i s7.heap/\(∀b∈fp,H' b=none)/\W i m σ' H':=λ{σ7 H7} I7 n7=>by
   obtain⟨m',hm,w7⟩:=hN σ7 H7 n7
   refine⟨m',hm,i+1,σ7,H7,I7.unpinned,T.keep _ _ _ st5 λb hb o e=>(I7.pin (b,o) (qe _ (qe _ (zks hb e)))).1,λb hb=>?_,w7⟩
   obtain⟨o,e,d⟩:=T.obj _ _ st5 b hb
   exact(I7.pin (b,o) (qe _ (qe _ (zks hb e)))).2.1
  cases f with
  | next=>obtain⟨σ7,H7,I7,n7⟩:=q7;exact again I7 n7
  | cont=>obtain⟨σ7,H7,I7,n7⟩:=q7;exact again I7 n7
  | brk=>obtain⟨σ7,H7,I7,q7⟩:=q7;exact⟨σ7,H7,I7.unpinned,q7⟩
  | ret v=>obtain⟨x7,σ7,H7,I7,r7,q7⟩:=q7;exact⟨x7,σ7,H7,I7.unpinned,r7,q7⟩
end
theorem for_list{K:qB}{a:Addr}{xs:List V}{g:TG}{tb:TS}{D:Ends}{σ:St}{H:Hp}(Pv:Nat->St->Hp->Prop)(h0:Pv 0 σ H)(hl:∀i σ H,i<=xs.length->Pv i σ H->SqL K H a xs)
  (hs:∀i x σ H,xs[i]?=some x->Pv i σ H->g x σ H λσ2 H2=>tb {D with nx:=Pv (i+1),ct:=Pv (i+1),bk:=D.nx} σ2 H2) (hd:∀σ H,Pv xs.length σ H->D.nx σ H) :
  ∃W:Nat->Nat->St->Hp->Prop,(∃m,W 0 m σ H)/\∀i m σ H,W i m σ H->
   ((Itl K a).stop i H/\D.nx σ H)\/((Itl K a).go i H/\∃N:St->Hp->Prop,(∀σ' H',N σ' H'->∃m',m'<m/\W (i+1) m' σ' H')/\∀x H',(Itl K a).yld i H x H'->g x σ H' λσ2 H2=>tb {D with nx:=N,ct:=N,bk:=D.nx} σ2 H2):=by
 refine⟨λi m σ H=>m=xs.length - i/\i<=xs.length/\Pv i σ H,⟨xs.length,by simp,qAK _,h0⟩,?_⟩
 rintro i m σ H ⟨rfl,hi,p⟩
 have q:=hl i σ H hi p
 by_cases hlt:i<xs.length
 ·refine .inr ⟨⟨xs,xs[i],q,by simp[hlt]⟩,Pv (i+1),λσ' H' p'=>⟨xs.length - (i+1),by omega,rfl,hlt,p'⟩,λx H' y=>?_⟩
  obtain⟨e,y⟩:=y
  subst e
  exact hs i x σ _ (y xs q) p
 ·have e:i=xs.length:=by omega
  subst e
  exact .inl ⟨⟨xs,q,qQ _⟩,hd σ H p⟩
theorem for_range{lo:Int}{n:Nat}{g:TG}{tb:TS}{D:Ends}{σ:St}{H:Hp}(Pv:Nat->St->Hp->Prop)(h0:Pv 0 σ H)
  (hs:∀i σ H,i<n->Pv i σ H->g (.int (lo+i)) σ H λσ2 H2=>tb {D with nx:=Pv (i+1),ct:=Pv (i+1),bk:=D.nx} σ2 H2) (hd:∀σ H,Pv n σ H->D.nx σ H) :
  ∃W:Nat->Nat->St->Hp->Prop,(∃m,W 0 m σ H)/\∀i m σ H,W i m σ H->
   ((Itr lo n).stop i H/\D.nx σ H)\/((Itr lo n).go i H/\∃N:St->Hp->Prop,(∀σ' H',N σ' H'->∃m',m'<m/\W (i+1) m' σ' H')/\∀x H',(Itr lo n).yld i H x H'->g x σ H' λσ2 H2=>tb {D with nx:=N,ct:=N,bk:=D.nx} σ2 H2):=by
 refine⟨λi m σ H=>m=n - i/\i<=n/\Pv i σ H,⟨n,by simp,qAK _,h0⟩,?_⟩
 rintro i m σ H ⟨rfl,hi,p⟩
 by_cases hlt:i<n
 ·refine .inr ⟨hlt,Pv (i+1),λσ' H' p'=>⟨n - (i+1),by omega,rfl,hlt,p'⟩,λx H' y=>?_⟩
  obtain⟨e,y⟩:=y
  subst e y
  exact hs i σ _ hlt p
 ·have e:i=n:=by omega
  subst e
  exact .inl ⟨qQ _,hd σ H p⟩
noncomputable abbrev R2:=V->V->Hp->VK->Prop
noncomputable def OpR(X:Cx)(f:Value->Value->Sem Value)(r:R2):Prop:=
 ∀(pins:List (Addr×Obj))(s:Shared)(σ:St)(H:Hp)(x y:V)(v u:Value)(Q:VK),Inv X pins σ H s->RelV x v->RelV y u->r x y H Q->
  wpAny (model X.prog X.w) X.A (f v u) (EP X pins σ Q) X.xe s
noncomputable def UnR(X:Cx)(f:Value->Sem Value)(r:V->Hp->VK->Prop):Prop:=
 ∀(pins:List (Addr×Obj))(s:Shared)(σ:St)(H:Hp)(x:V)(v:Value)(Q:VK),Inv X pins σ H s->RelV x v->r x H Q->
  wpAny (model X.prog X.w) X.A (f v) (EP X pins σ Q) X.xe s
noncomputable def CallR(X:Cx)(f:Value)(r:List V->Hp->VK->Prop):Prop:=
 ∀(pins:List (Addr×Obj))(s:Shared)(σ:St)(H:Hp)(xs:List V)(us:List Value)(Q:VK),Inv X pins σ H s->Vals xs us->r xs H Q->
  wpAny (model X.prog X.w) X.A (call f us) (EP X pins σ Q) X.xe s
noncomputable def TruR(X:Cx)(r:V->Hp->(Bool->Hp->Prop)->Prop):Prop:=
 ∀(pins:List (Addr×Obj))(s:Shared)(σ:St)(H:Hp)(x:V)(v:Value)(Q:Bool->Hp->Prop),Inv X pins σ H s->RelV x v->r x H Q->
  wpAny (model X.prog X.w) X.A (truthy v) (TP X pins σ Q) X.xe s
noncomputable def tOp(r:R2)(ta tb:TE):TE:=λσ H Q=>ta σ H λx H1=>tb σ H1 λy H2=>r x y H2 Q
noncomputable def tUn(r:V->Hp->VK->Prop)(ta:TE):TE:=λσ H Q=>ta σ H λx H1=>r x H1 Q
noncomputable def rI(C:Int->Int->Prop)(g:Int->Int->V):R2:=λx y H Q=>∃i j,x=.int i/\y=.int j/\C i j/\Q (g i j) H
noncomputable def rI0(g:Int->Int->V):R2:=λx y H Q=>∃i j,x=.int i/\y=.int j/\Q (g i j) H
noncomputable def rU(g:Int->V):V->Hp->VK->Prop:=λx H Q=>∃i,x=.int i/\Q (g i) H
section
variable{X:Cx}{a b c:Expr}{ta tb tc:TE}{pos:Pos}
theorem binT(ha:PE X a ta)(hb:PE X b tb){R:V->V->Hp->Prop}(I:Inv X pins σ H s)
  (h:ta σ H λx H1=>tb σ H1 λy H2=>R x y H2){Q:Value->Shared->Prop}{f:Value->Value->Sem Value}
  (hf:∀v u s2 x y H2,Inv X pins σ H2 s2->RelV x v->RelV y u->R x y H2->wpAny (model X.prog X.w) X.A (f v u) Q X.xe s2) :
  wpAny (model X.prog X.w) X.A (eval a X.env) (λv s₁=>wpAny (model X.prog X.w) X.A (eval b X.env) (λu s₂=>wpAny (model X.prog X.w) X.A (f v u) Q X.xe s₂) X.xe s₁) X.xe s:=by
 refine thn (ha pins s σ H _ I h) λv s1 ⟨x,H1,I1,r1,q1⟩=>?_
 refine thn (hb pins s1 σ H1 _ I1 q1) λu s2 ⟨y,H2,I2,r2,q2⟩=>?_
 exact hf v u s2 x y H2 I2 r1 r2 q2
theorem zlc(ho:OpR X (binaryOp op) r)(ha:PE X a ta)(hb:PE X b tb):PE X (.BinOp a op b pos) (tOp r ta tb):=by
 intro pins s σ H Q I h
 exact wpAny_BinOp (binT ha hb I h λv u s2 x y H2 I2 rx ry q=>ho pins s2 σ H2 x y v u Q I2 rx ry q)
theorem zaxg{r:V->Hp->VK->Prop}(ho:UnR X (unaryOp op) r)(ha:PE X a ta):PE X (.UnaryOp op a pos) (tUn r ta):=by
 intro pins s σ H Q I h
 exact UnaryOp_ (thn (ha pins s σ H _ I h) λv s1 ⟨x,H1,I1,r1,q1⟩=>ho pins s1 σ H1 x v Q I1 r1 q1)
theorem opI{f:Value->Value->Sem Value}{C:Int->Int->Prop}{g:Int->Int->Int}
  (rule:∀(i j:Int)(t u:Tok)(s:Shared)(Q:Value->Shared->Prop)(E:Value->Shared->Prop),C i j->Q (.int (g i j) s.toks) {s with toks:=s.toks+1}->wpAny (model X.prog X.w) X.A (f (.int i t) (.int j u)) Q E s) :
  OpR X f (rI C λi j=>.int (g i j)):=by
 intro pins s σ H x y v u Q I rx ry h
 obtain⟨i,j,rfl,rfl,hc,q⟩:=h
 obtain⟨t,rfl⟩:=rx
 obtain⟨t',rfl⟩:=ry
 exact rule i j t t' s _ _ hc ⟨.int (g i j),H,I.tok _,⟨_,rfl⟩,q⟩
theorem opI0{f:Value->Value->Sem Value}{g:Int->Int->Int}
  (rule:∀(i j:Int)(t u:Tok)(s:Shared)(Q:Value->Shared->Prop)(E:Value->Shared->Prop),Q (.int (g i j) s.toks) {s with toks:=s.toks+1}->wpAny (model X.prog X.w) X.A (f (.int i t) (.int j u)) Q E s) :
  OpR X f (rI0 λi j=>.int (g i j)):=by
 intro pins s σ H x y v u Q I rx ry h
 obtain⟨i,j,rfl,rfl,q⟩:=h
 obtain⟨t,rfl⟩:=rx
 obtain⟨t',rfl⟩:=ry
 exact rule i j t t' s _ _ ⟨.int (g i j),H,I.tok _,⟨_,rfl⟩,q⟩
theorem opB0{f:Value->Value->Sem Value}{g:Int->Int->Bool}
  (rule:∀(i j:Int) (t u:Tok) (s:Shared) (Q:Value->Shared->Prop) (E:Value->Shared->Prop),Q (.bool (g i j)) s->wpAny (model X.prog X.w) X.A (f (.int i t) (.int j u)) Q E s) :
  OpR X f (rI0 λi j=>.bl (g i j)):=by
 intro pins s σ H x y v u Q I rx ry h
 obtain⟨i,j,rfl,rfl,q⟩:=h
 obtain⟨t,rfl⟩:=rx
 obtain⟨t',rfl⟩:=ry
 exact rule i j t t' s _ _ ⟨.bl (g i j),H,I,rfl,q⟩
noncomputable def CDiv(i j:Int):Prop:=0<j/\j<1073741824
noncomputable def CPow(i j:Int):Prop:=0<=j/\j<=1000000/\i.natAbs<2 ^ 64
noncomputable def CMul(i j:Int):Prop:=(-(2 ^ 64)<i/\i<2 ^ 64)\/(-(2 ^ 64)<j/\j<2 ^ 64)
theorem CMul.ok(h:CMul i j):IntMulOk i j:=by
 rcases h with⟨h1,h2⟩|⟨h1,h2⟩
 ·exact .of_left (intBits_le_64 h1 h2)
 ·exact .of_right (intBits_le_64 h1 h2)
theorem zatv:OpR X (binaryOp .Add) (rI0 λi j=>.int (i+j)):=opI0 λ_ _ _ _ _ _ _ q=>add_int q
theorem zatw:OpR X (binaryOp .Sub) (rI0 λi j=>.int (i - j)):=opI0 λ_ _ _ _ _ _ _ q=>sub_int q
theorem zatx:OpR X (binaryOp .Mult) (rI CMul λi j=>.int (i * j)):=opI λ_ _ _ _ _ _ _ hc q=>mul_int q hc.ok
theorem zez:OpR X (binaryOp .FloorDiv) (rI CDiv λi j=>.int (i / j)):=opI λi j _ _ _ _ _ hc q=>by
 have h1:(0:Int)<j:=hc.1
 have h2:j<1073741824:=hc.2
 exact floordiv_int (by omega) (by rw[Int.fdiv_eq_ediv_of_nonneg i (by omega)];exact q) (.inl (PyProof.noPylong_small (by omega)))
theorem zdl:OpR X (binaryOp .Mod) (rI (λ_ j=>0<j) λi j=>.int (i % j)):=opI λi j _ _ _ _ _ hc q=>by
 have h1:(0:Int)<j:=hc
 exact mod_int' (by omega) (by rw[Int.fmod_eq_emod_of_nonneg i (by omega)];exact q)
theorem zany:OpR X (binaryOp .Pow) (rI CPow λi j=>.int (i ^ j.toNat)):=opI λ_ _ _ _ _ _ _ hc q=>pow_int_small hc.1 hc.2.1 hc.2.2 q
theorem unI{f:Value->Sem Value}{g:Int->Int}
  (rule:∀(i:Int)(t:Tok)(s:Shared)(Q:Value->Shared->Prop)(E:Value->Shared->Prop),Q (.int (g i) s.toks) {s with toks:=s.toks+1}->wpAny (model X.prog X.w) X.A (f (.int i t)) Q E s) :
  UnR X f (rU λi=>.int (g i)):=by
 intro pins s σ H x v Q I rx h
 obtain⟨i,rfl,q⟩:=h
 obtain⟨t,rfl⟩:=rx
 exact rule i t s _ _ ⟨.int (g i),H,I.tok _,⟨_,rfl⟩,q⟩
theorem zmb:UnR X (unaryOp .USub) (rU λi=>.int (-i)):=unI λ_ _ _ _ _ q=>neg_int q
end
noncomputable def scal:V->V->Bool
 | .non,.non=>true|.non,.int _=>true|.int _,.non=>true|.non,.bl _=>true|.bl _,.non=>true|.non,.str _=>true|.str _,.non=>true
 | .int _,.int _=>true|.bl _,.bl _=>true|.str _,.str _=>true|.byt _,.byt _=>true
 | .int _,.str _=>true|.str _,.int _=>true|.bl _,.str _=>true|.str _,.bl _=>true
 | _,_=>false
noncomputable def rEq:R2:=λx y H Q=>scal x y=true/\Q (.bl (decide (x=y))) H
noncomputable def rNe:R2:=λx y H Q=>scal x y=true/\Q (.bl (!decide (x=y))) H
theorem zaag:decide (V.int i=V.int j)=(i==j):=by
 rw[qAs]
 simp
theorem zacq:decide (V.bl i=V.bl j)=(i==j):=by
 rw[qAs]
 simp
theorem zaah:decide (V.str i=V.str j)=(i==j):=by
 rw[qAs]
 simp
theorem zafz{i j:Array UInt8}:decide (V.byt i=V.byt j)=(i.toList==j.toList):=by
 rw[qAs]
 cases i
 cases j
 simp
section
variable{X:Cx}{a b c:Expr}{ta tb tc:TE}{pos:Pos}
theorem zcq(I:Inv X pins σ H s)(q:Q (.bl k) H)(e:k=k'):EP X pins σ Q (.bool k') s:=by
 subst e
 exact⟨.bl k,H,I,rfl,q⟩
theorem zaxh:OpR X (compareOp .Eq) rEq:=by
 intro pins s σ H x y v u Q I rx ry h
 obtain⟨hs,q⟩:=h
 cases x with
 | non=>
  cases rx
  cases y with
  | non=>cases ry;exact PySem.EqNone.eq_none_none (zcq I q (by simp))
  | bl j=>cases ry;exact PySem.EqNone.eq_none_bool (zcq I q (by simp))
  | int j=>obtain⟨t',rfl⟩:=ry;exact PySem.EqNone.eq_none_int (zcq I q (by simp))
  | str j=>obtain⟨t',rfl⟩:=ry;exact PySem.EqNone.eq_none_str (zcq I q (by simp))
  | _=>exact absurd (show false=true from hs) qP
 | bl i=>
  cases rx
  cases y with
  | non=>cases ry;exact PySem.EqNone.eq_bool_none (zcq I q (by simp))
  | bl j=>cases ry;exact eq_bool (zcq I q zacq)
  | str j=>obtain⟨t',rfl⟩:=ry;exact PySem.EqMixed.eq_bool_str (zcq I q (by simp))
  | _=>exact absurd (show false=true from hs) qP
 | int i=>
  obtain⟨t,rfl⟩:=rx
  cases y with
  | non=>cases ry;exact PySem.EqNone.eq_int_none (zcq I q (by simp))
  | int j=>obtain⟨t',rfl⟩:=ry;exact eq_int (zcq I q zaag)
  | str j=>obtain⟨t',rfl⟩:=ry;exact PySem.EqMixed.eq_int_str (zcq I q (by simp))
  | _=>exact absurd (show false=true from hs) qP
 | str i=>
  obtain⟨t,rfl⟩:=rx
  cases y with
  | non=>cases ry;exact PySem.EqNone.eq_str_none (zcq I q (by simp))
  | bl j=>cases ry;exact PySem.EqMixed.eq_str_bool (zcq I q (by simp))
  | int j=>obtain⟨t',rfl⟩:=ry;exact PySem.EqMixed.eq_str_int (zcq I q (by simp))
  | str j=>obtain⟨t',rfl⟩:=ry;exact eq_str (zcq I q zaah)
  | _=>exact absurd (show false=true from hs) qP
 | byt i=>
  obtain⟨t,rfl⟩:=rx
  cases y with
  | byt j=>obtain⟨t',rfl⟩:=ry;exact PySem.W.eq_bytes (zcq I q zafz)
  | _=>exact absurd (show false=true from hs) qP
 | _=>cases y<;>exact absurd (show false=true from hs) qP
theorem zaxi:OpR X (compareOp .NotEq) rNe:=by
 intro pins s σ H x y v u Q I rx ry h
 obtain⟨hs,q⟩:=h
 cases x with
 | non=>
  cases rx
  cases y with
  | non=>cases ry;exact PySem.EqNone.ne_none_none (zcq I q (by simp))
  | bl j=>cases ry;exact PySem.EqNone.ne_none_bool (zcq I q (by simp))
  | int j=>obtain⟨t',rfl⟩:=ry;exact PySem.EqNone.ne_none_int (zcq I q (by simp))
  | str j=>obtain⟨t',rfl⟩:=ry;exact PySem.EqNone.ne_none_str (zcq I q (by simp))
  | _=>exact absurd (show false=true from hs) qP
 | bl i=>
  cases rx
  cases y with
  | non=>cases ry;exact PySem.EqNone.ne_bool_none (zcq I q (by simp))
  | bl j=>cases ry;exact ne_bool (zcq I q (congrArg not zacq))
  | str j=>obtain⟨t',rfl⟩:=ry;exact PySem.EqMixed.ne_bool_str (zcq I q (by simp))
  | _=>exact absurd (show false=true from hs) qP
 | int i=>
  obtain⟨t,rfl⟩:=rx
  cases y with
  | non=>cases ry;exact PySem.EqNone.ne_int_none (zcq I q (by simp))
  | int j=>obtain⟨t',rfl⟩:=ry;exact ne_int (zcq I q (congrArg not zaag))
  | str j=>obtain⟨t',rfl⟩:=ry;exact PySem.EqMixed.ne_int_str (zcq I q (by simp))
  | _=>exact absurd (show false=true from hs) qP
 | str i=>
  obtain⟨t,rfl⟩:=rx
  cases y with
  | non=>cases ry;exact PySem.EqNone.ne_str_none (zcq I q (by simp))
  | bl j=>cases ry;exact PySem.EqMixed.ne_str_bool (zcq I q (by simp))
  | int j=>obtain⟨t',rfl⟩:=ry;exact PySem.EqMixed.ne_str_int (zcq I q (by simp))
  | str j=>obtain⟨t',rfl⟩:=ry;exact ne_str (zcq I q (congrArg not zaah))
  | _=>exact absurd (show false=true from hs) qP
 | byt i=>
  obtain⟨t,rfl⟩:=rx
  cases y with
  | byt j=>obtain⟨t',rfl⟩:=ry;exact PySem.W.ne_bytes (zcq I q (congrArg not zafz))
  | _=>exact absurd (show false=true from hs) qP
 | _=>cases y<;>exact absurd (show false=true from hs) qP
theorem zaxj:OpR X (compareOp .Lt) (rI0 λi j=>.bl (decide (i<j))):=opB0 λ_ _ _ _ _ _ _ q=>lt_int q
theorem OpR.or{f:Value->Value->Sem Value}(h:OpR X f r)(h':OpR X f r'):OpR X f (λx y H Q=>r x y H Q\/r' x y H Q):=by
 intro pins s σ H x y v u Q I rx ry q
 rcases q with q|q
 ·exact h pins s σ H x y v u Q I rx ry q
 ·exact h' pins s σ H x y v u Q I rx ry q
theorem zfv(b:Expr)(h:op≠.In:=by decide)(h2:op≠.NotIn:=by decide):behindInMarks op b=false:=by
 have e1:(op==CmpOp.In)=false:=by cases op<;>first|rfl|exact absurd rfl h
 have e2:(op==CmpOp.NotIn)=false:=by cases op<;>first|rfl|exact absurd rfl h2
 cases b<;>simp[behindInMarks,e1,e2]
theorem zapm(ho:OpR X (compareOp op) r)(ha:PE X a ta)(hb:PE X b tb)(hm:behindInMarks op b=false):PE X (.Compare a [op] [b] pos) (tOp r ta tb):=by
 intro pins s σ H Q I h
 exact wpAny_Compare1 (binT ha hb I h λv u s2 x y H2 I2 rx ry q=>ho pins s2 σ H2 x y v u Q I2 rx ry q) hm
noncomputable def tTest(t:TE):TT:=λσ H Q=>t σ H λx H'=>∃k,x=.bl k/\Q k H'
theorem zaga(ho:OpR X (compareOp op) r)(ha:PE X a ta)(hb:PE X b tb)(hm:behindInMarks op b=false):PT X (.Compare a [op] [b] pos) (tTest (tOp r ta tb)):=by
 intro pins s σ H Q I h
 refine wpAny_isTrue_Compare1 (thn (ha pins s σ H _ I h) λv s1 ⟨x,H1,I1,r1,q1⟩=>thn (hb pins s1 σ H1 _ I1 q1) λu s2 ⟨y,H2,I2,r2,q2⟩=>
  thn (ho pins s2 σ H2 x y v u _ I2 r1 r2 q2) λc s3 ⟨z,H3,I3,r3,k,e,q3⟩=>?_) hm
 subst e
 cases r3
 exact qBv ⟨H3,I3,q3⟩
noncomputable def TruV(K:qB)(x:V)(H:Hp)(k:Bool):Prop:=
 match x with
 | .non=>k=false
 | .bl b=>k=b
 | .int i=>k=(i != 0)
 | .str y=>y.length<=qV/\k=((y.length:Int) != 0)
 | .byt y=>y.size<=qV/\k=((y.size:Int) != 0)
 | .ref p=>(∃xs,SqL K H p xs/\k=!xs.isEmpty)\/(∃xs,SqT K H p xs/\k=!xs.isEmpty)\/∃kvs,H p=some (.dK kvs)/\k=!kvs.isEmpty
 | _=>False
theorem zaef{kvs:List (κ×V)}{vs:List (κ×Value)}(r:KV kvs vs):(!vs.isEmpty)=!kvs.isEmpty:=by
 cases r<;>rfl
theorem ztf{xs:List V}{its:List Value}(r:Vals xs its):(!its.toArray.isEmpty)=!xs.isEmpty:=by
 cases r<;>simp
theorem zww:(qV:Nat)<2 ^ 63:=by rw[qA6];decide
theorem zaty:TruR X (λx H Q=>∃k,TruV X.K x H k/\Q k H):=by
 intro pins s σ H x v Q I rx h
 obtain⟨k,e,q⟩:=h
 have hl:=zww
 have hs:qV=16777216:=qA6
 cases x with
 | non=>
  cases rx
  have e':k=false:=e
  subst e'
  exact truthy_none ⟨H,I,q⟩
 | bl b=>
  cases rx
  have e':k=b:=e
  subst e'
  exact qBv ⟨H,I,q⟩
 | int i=>
  obtain⟨t,rfl⟩:=rx
  have e':k=(i != 0):=e
  subst e'
  exact PySem.P.truthy_int ⟨H,I,q⟩
 | str y=>
  obtain⟨t,rfl⟩:=rx
  obtain⟨hy,e'⟩:y.length<=qV/\k=((y.length:Int) != 0):=e
  subst e'
  exact PySem.P.truthy_str (by omega) ⟨H,I.tok _,q⟩
 | byt y=>
  obtain⟨t,rfl⟩:=rx
  obtain⟨hy,e'⟩:y.size<=qV/\k=((y.size:Int) != 0):=e
  subst e'
  exact PySem.W.truthy_bytes (by omega) ⟨H,I.tok _,q⟩
 | ref p=>
  cases rx
  have e':(∃xs,SqL X.K H p xs/\k=!xs.isEmpty)\/(∃xs,SqT X.K H p xs/\k=!xs.isEmpty)\/∃kvs,H p=some (.dK kvs)/\k=!kvs.isEmpty:=e
  rcases e' with⟨xs,hx,e'⟩|⟨xs,hx,e'⟩|⟨kvs,hx,e'⟩
  ·subst e'
   obtain⟨its,r,pl,hz⟩:=I.list hx
   have hlen:=r.length
   exact wpAny_truthy_list pl.isList (by simp only[qW];omega) ⟨H,I.tok _,by rw[ztf r];exact q⟩
  ·subst e'
   obtain⟨its,r,pl,hz⟩:=I.tuple hx
   have hlen:=r.length
   exact truthy_tuple pl (by simp only[qW];omega) ⟨H,I.tok _,by rw[ztf r];exact q⟩
  ·subst e'
   obtain⟨hz,hS,vs,r,m⟩:kvs.length<=qV/\(p==sysModules)=false/\∃vs,KV kvs vs/\s.heap.DictOf (zbr X.prog X.w) p vs:=I.hok p _ hx
   have hlen:kvs.length=vs.length:=qB7 r
   exact wpAny_truthy_dict hS m (by omega) ⟨H,I.tok _,by rw[zaef r];exact q⟩
 | _=>exact(show False from e).elim
theorem zakx(ha:PE X a ta)(he:∀whole,isTrue a X.env whole=(do let v <- whole;standAt a.pos;holding [v] (truthy v))) :
  PT X a (λσ H Q=>ta σ H λx H'=>∃k,TruV X.K x H' k/\Q k H'):=by
 intro pins s σ H Q I h
 exact isTrue_plain (thn (ha pins s σ H _ I h) λv s1 ⟨x,H1,I1,r1,q1⟩=>zaty pins s1 σ H1 x v Q I1 r1 q1) (he _)
theorem zaeg:OpR X (binaryOp .Add) (λx y H Q=>∃i j,x=.str i/\y=.str j/\i.length+j.length<=qV/\Q (.str (i++j)) H):=by
 intro pins s σ H x y v u Q I rx ry h
 obtain⟨i,j,rfl,rfl,hz,q⟩:=h
 obtain⟨t,rfl⟩:=rx
 obtain⟨t',rfl⟩:=ry
 exact add_str (λt' tk=>⟨.str (i++j),H,I.tok _,⟨_,rfl⟩,q⟩) hz
theorem zaai(r:Vals [x] us):∃u,us=[u]/\RelV x u:=by
 cases r with
 | cons r1 r2=>cases r2;exact⟨_,rfl,r1⟩
theorem zwx(r:Vals [x,y] us):∃u w',us=[u,w']/\RelV x u/\RelV y w':=by
 cases r with
 | cons r1 r2=>
  cases r2 with
  | cons r3 r4=>cases r4;exact⟨_,_,rfl,r1,r3⟩
theorem zagb(hc:X.calm=true):CallR X (.builtin "min") (λxs H Q=>∃i j,xs=[.int i,.int j]/\Q (.int (if j<i then j else i)) H):=by
 intro pins s σ H xs us Q I r h
 obtain⟨i,j,rfl,q⟩:=h
 obtain⟨u,w',rfl,⟨t,rfl⟩,⟨t',rfl⟩⟩:=zwx r
 refine min_two_ints (I.ok.hd hc) λh' tk k=>⟨_,H,I.kept k,?_,q⟩
 by_cases hj:j<i
 ·rw[if_pos hj,if_pos hj];exact⟨_,rfl⟩
 ·rw[if_neg hj,if_neg hj];exact⟨_,rfl⟩
noncomputable def LenV(K:qB)(x:V)(H:Hp)(n:Nat):Prop:=
 match x with
 | .str y=>y.length<=qV/\n=y.length
 | .byt y=>y.size<=qV/\n=y.size
 | .ref p=>(∃xs,SqL K H p xs/\n=xs.length)\/∃xs,SqT K H p xs/\n=xs.length
 | _=>False
theorem zaky:CallR X (.builtin "len") (λxs H Q=>∃x n,xs=[x]/\LenV X.K x H n/\Q (.int n) H):=by
 intro pins s σ H xs us Q I r h
 obtain⟨x,n,rfl,e,q⟩:=h
 obtain⟨u,rfl,rx⟩:=zaai r
 have hl:=zww
 have hs:qV=16777216:=qA6
 cases x with
 | str y=>
  obtain⟨t,rfl⟩:=rx
  obtain⟨hy,e'⟩:y.length<=qV/\n=y.length:=e
  subst e'
  exact len_str (by omega) ⟨.int _,H,I.tok _,⟨_,rfl⟩,q⟩
 | byt y=>
  obtain⟨t,rfl⟩:=rx
  obtain⟨hy,e'⟩:y.size<=qV/\n=y.size:=e
  subst e'
  exact PySem.W.len_bytes (by omega) ⟨.int _,H,I.tok _,⟨_,rfl⟩,q⟩
 | ref p=>
  cases rx
  have e':(∃xs,SqL X.K H p xs/\n=xs.length)\/∃xs,SqT X.K H p xs/\n=xs.length:=e
  rcases e' with⟨xs,hx,e'⟩|⟨xs,hx,e'⟩
  ·subst e'
   obtain⟨its,r',pl,hz⟩:=I.list hx
   have hlen:=r'.length
   exact Calls.call_len_list pl.isList (by simp only[qW];omega) ⟨.int xs.length,H,I.tok _,⟨_,by simp only[qW];rw[hlen]⟩,q⟩
  ·subst e'
   obtain⟨its,r',pl,hz⟩:=I.tuple hx
   have hlen:=r'.length
   exact len_tuple pl (by simp only[qW];omega) ⟨.int xs.length,H,I.tok _,⟨_,by simp only[qW];rw[hlen]⟩,q⟩
 | _=>exact(show False from e).elim
end
set_option genInjectivity false in
structure ObjM(h:Heap)(x dx C:Addr)(mA:Str->Option Value):Prop where
 obj:h.get? x=some (PySem.W.instObj C dx)
 ns:h.Ns1 dx mA
 ne:dx≠x
theorem zagc{h:Heap}{mA:Str->Option Value}(n:h.Ns1 dx mA):∃od,h.get? dx=some od/\∀name,PySem.W.lookIn name od=some (mA name):=by
 obtain⟨o,es,ep,ho,hd,hk,_,hm⟩:=n
 refine⟨o,ho,λname=>?_⟩
 have e:=hm name
 unfold nsFind findBy at e
 rw[<- Array.find?_toList]at e
 unfold PySem.W.lookIn
 rw[hd]
 dsimp only
 split
 ·rename_i y q
  rw[q]at e
  exact congrArg some e
 ·rename_i q
  rw[q]at e
  have a:es.toList.any (·.refKey)=false:=by
   rw[List.any_eq_false]
   intro y hy
   obtain⟨z,t,hkey⟩:=hk y (qC8.mp hy)
   simp[DictEntry.refKey,hkey]
  have a':¬es.toList.any (·.refKey)=true:=by rw[a];exact qP
  rw[if_neg a']
  exact congrArg some e
theorem ObjM.look{mA:Str->Option Value}(I:ObjM h x dx C mA):∃od,PySem.W.InstAt h x (PySem.W.instObj C dx) C (some od)/\∀name,PySem.W.lookIn name od=some (mA name):=
 let⟨od,ho,hl⟩:=zagc I.ns
 ⟨od,⟨I.obj,rfl,rfl,ho⟩,hl⟩
theorem RelO.some_of(r:RelO (some v) o):∃u,o=some u/\RelV v u:=by
 cases o with
 | none=>exact(show False from r).elim
 | some u=>exact⟨u,rfl,r⟩
theorem zagd(r:RelV v u):PySem.W.handedIn u=true:=by
 cases v with
 | non=>cases(show u=Value.none from r);rfl
 | bl b=>cases(show u=Value.bool b from r);rfl
 | int i=>obtain⟨t,e⟩:=(show ∃t,u=Value.int i t from r);cases e;rfl
 | str x=>obtain⟨t,e⟩:=(show ∃t,u=Value.str x t from r);cases e;rfl
 | byt b=>obtain⟨t,e⟩:=(show ∃t,u=Value.bytes b t from r);cases e;rfl
 | flt b=>obtain⟨t,e⟩:=(show ∃t,u=Value.float b t from r);cases e;rfl
 | ref a=>cases(show u=Value.ref a from r);rfl
 | ty n=>cases(show u=Value.type n from r);rfl
section
variable{P:Program}{w:World}{H H':Hp}{h h':Heap}{a C dx:Addr}{fs fs':List (Str×V)}
theorem zapn(hok:HOk P w H h)(e:H a=some (.ins C dx fs)):∃mA,ObjM h a dx C mA/\(∀f,RelO (fs.lookup f) (mA f))/\PySem.Within mA (fs.map (·.1))/\fs.length<=1000/\H dx=some (.own a):=by
 obtain⟨d,z,ne,ob,mA,n,r,q⟩:=(show zdk P w H h a (.ins C dx fs)from hok a _ e)
 exact⟨mA,⟨ob,n,ne⟩,r,q,z,d⟩
end
set_option genInjectivity false in
structure Cls(K:qB)(C:Addr):Prop where
 pg:PySem.W.plainGet K C Str.empty=true
 hd:PySem.W.hasDictIn K C=true
 po:PySem.W.plainOver K C=true
 sa:PySem.W.findIn K (.ref C) "__setattr__"=some (some (.builtin "object.__setattr__"))
theorem Cls.get{K:qB}{C:Addr}(c:Cls K C)(f:Str):PySem.W.plainGet K C f=true:=c.pg
set_option genInjectivity false in
set_option genInjectivity false in
section
variable{X:Cx}{pins:List (Addr×Obj)}{σ:St}{H:Hp}{s:Shared}{a C dx:Addr}{fs:List (Str×V)}{f:Str}{v:V}{A:Around}{E:Value->Shared->Prop}
theorem zapo{Q:Value->Shared->Prop}(hb:attributeBase e f env (eval e env)=eval e env)
  (h:wpAny (model prog w) A (eval e env) (λo s₁=>wpAny (model prog w) A (getAttr o f true) Q E s₁) E s):wpAny (model prog w) A (eval (.Attribute e f pos) env) Q E s:=
 Attribute_any_ h (by rw[arm_eval_Attribute,hb])
end
section
variable{X:Cx}{pins:List (Addr×Obj)}{σ:St}{H:Hp}{s:Shared}{A:Around}{E:Value->Shared->Prop}{Q:Value->Shared->Prop}{c:Value}{b:Bool}
inductive TyOf(K:qB)(H:Hp):V->Value->Prop where
 | non:TyOf K H .non (.type "NoneType")
 | bl (x:Bool):TyOf K H (.bl x) (.type "bool")
 | int (i:Int):TyOf K H (.int i) (.type "int")
 | str (x:Str):TyOf K H (.str x) (.type "str")
 | flt (x:UInt64):TyOf K H (.flt x) (.type "float")
 | lst {a:Addr} {xs:List V} (e:H a=some (.lst xs)):TyOf K H (.ref a) (.type "list")
 | frz {a:Addr} {o:Obj} {xs:List V} (e:H a=some (.frz o (.lst xs))):TyOf K H (.ref a) (.type "list")
 | tup {a:Addr} {xs:List V} (e:H a=some (.tup xs)):TyOf K H (.ref a) (.type "tuple")
 | dK {a:Addr} {kvs:List (Key×V)} (e:H a=some (.dK kvs)):TyOf K H (.ref a) (.type "dict")
 | dT {a:Addr} {kvs:List (List Key×V)} (e:H a=some (.dT kvs)):TyOf K H (.ref a) (.type "dict")
 | ins {a C dx:Addr} {fs:List (Str×V)} (e:H a=some (.ins C dx fs)) (cl:Cls K C) (ha:PySem.W.findIn K (.ref C) "__class__"=some (some (.builtin "object.__class__")))
   (hn:PySem.W.specialIn K (.builtin "object.__class__") "__get__"=some (some (.builtin "getset_descriptor.__get__")))(htk:PySem.W.takesIn K (.builtin "object.__class__")=some true)
   (hm:PySem.W.mroIn K C (.type "object")=some true):TyOf K H (.ref a) (.ref C)
theorem zage (I:Inv X pins σ H s) (rx:RelV x u) (ty:TyOf X.K H x t) (e:PySem.W.kitOne X.K t c=some b) (h:∀tk,Q (.bool b) {s with toks:=tk}) :
  wpAny (model X.prog X.w) A (call (.builtin "isinstance") [u,c]) Q E s:=by
 cases ty with
 | non=>cases(show u=Value.none from rx);exact qAM PySem.W.kitx_none I.kIn True.intro e (λz=>nomatch z) h
 | bl y=>cases(show u=Value.bool y from rx);exact qAM PySem.W.kitx_bool I.kIn True.intro e (λz=>nomatch z) h
 | int i=>obtain⟨t,q⟩:=(show ∃t,u=Value.int i t from rx);cases q;exact qAM PySem.W.kitx_int I.kIn True.intro e (λz=>nomatch z) h
 | str y=>obtain⟨t,q⟩:=(show ∃t,u=Value.str y t from rx);cases q;exact qAM PySem.W.kitx_str I.kIn True.intro e (λz=>nomatch z) h
 | flt y=>obtain⟨t,q⟩:=(show ∃t,u=Value.float y t from rx);cases q;exact qAM PySem.W.kitx_float I.kIn True.intro e (λz=>nomatch z) h
 | @lst a xs ea=>
  cases(show u=Value.ref a from rx)
  obtain⟨_,_,n,_,h1⟩:=(show zdk X.prog X.w H s.heap a (.lst xs)from I.hok a _ ea)
  exact qAM qDA I.kIn ⟨_,h1,rfl⟩ e (λz=>nomatch z) h
 | @frz a ob xs ea=>
  cases(show u=Value.ref a from rx)
  obtain⟨_,_,_,n,_,h1⟩:=(show zdk X.prog X.w H s.heap a (.frz ob (.lst xs))from I.hok a _ ea)
  exact qAM qDA I.kIn ⟨_,h1,rfl⟩ e (λz=>nomatch z) h
 | @tup a xs ea=>
  cases(show u=Value.ref a from rx)
  obtain⟨_,_,_,p⟩:=(show zdk X.prog X.w H s.heap a (.tup xs)from I.hok a _ ea)
  obtain⟨o,h1,h2,_⟩:=p
  exact qAM PySem.W.kitx_tuple I.kIn ⟨o,h1,h2⟩ e (λz=>nomatch z) h
 | @dK a kvs ea=>
  cases(show u=Value.ref a from rx)
  obtain⟨_,_,vs,_,p⟩:=(show zdk X.prog X.w H s.heap a (.dK kvs)from I.hok a _ ea)
  obtain⟨o,es,ep,h1,h2,_⟩:=p
  exact qAM qDB I.kIn ⟨o,h1,h2.1⟩ e (λz=>nomatch z) h
 | @dT a kvs ea=>
  cases(show u=Value.ref a from rx)
  obtain⟨_,_,xs,_,o,es,ep,h1,h2,_⟩:=(show zdk X.prog X.w H s.heap a (.dT kvs)from I.hok a _ ea)
  exact qAM qDB I.kIn ⟨o,h1,h2.1⟩ e (λz=>nomatch z) h
 | @ins a C dx fs ea cl ha hn htk hm=>
  cases(show u=Value.ref a from rx)
  obtain⟨mA,O,_⟩:=zapn I.hok ea
  obtain⟨od,J,_⟩:=O.look
  exact qAM (PySem.W.kitx_own (cl.get _) cl.hd ha hn htk hm) I.kIn J e (λz=>nomatch z) h
end
set_option genInjectivity false in
structure Room(k:Nat)(A:Around):Prop where
 hd:A.handled=none
 dp:A.depth+3 * k+5<recursionLimit
 un:A.units+16 * k+200<cLine
 gd:A.guards=some []
theorem Room.mono(r:Room k A)(h:j<=k):Room j A:=⟨r.hd,by have:=r.dp;omega,by have:=r.un;omega,r.gd⟩
theorem Room.deeper{A:Around}(r:Room (k+1) A)(env:Env):Room k (A.deeper env):=
 ⟨r.hd,by have:=r.dp;show A.depth+1+3 * k+5<_;omega,by have:=r.un;show A.units+3+16 * k+200<_;omega,r.gd⟩
theorem zaeh{A:Around}:(A.under (.builtin "type.__call__" ⟨.ref C::us,kw⟩)).depth=A.depth+1:=by
 first|rfl|simp[Around.under,Code.weight,Code.isCreation,Code.isGuard,Code.isCaller,Code.frames,Code.isFrame,guardIds]
theorem zaei{A:Around}:(A.under (.builtin "type.__call__" ⟨.ref C::us,kw⟩)).units=A.units+1:=by
 first|rfl|simp[Around.under,Code.cUnits,Code.frames,Code.isFrame]
theorem Room.make{A:Around}(r:Room (k+1) A)(C:Addr)(us:List Value)(kw:List (Str×Value)):Room k (A.under (.builtin "type.__call__" ⟨.ref C::us,kw⟩)):=
 ⟨r.hd,by have:=r.dp;rw[zaeh];omega,by have:=r.un;rw[zaei];omega,by first|exact r.gd|(simpa [Around.under,Code.isGuard,Code.isFrame,guardIds]using r.gd)⟩
theorem Room.depth{A:Around}(r:Room k A):A.depth<recursionLimit:=by have:=r.dp;omega
theorem Room.units{A:Around}(r:Room k A):A.units+64<cLine:=by have:=r.un;omega
noncomputable def tNil:TA:=λ_ H Q=>Q [] H
noncomputable def tCons(ta:TE)(tr:TA):TA:=λσ H Q=>ta σ H λx H1=>tr σ H1 λxs H2=>Q (x::xs) H2
section
variable{X:Cx}{e:Expr}{es:List Expr}{te:TE}{t:TA}{pos:Pos}
theorem zoo:PA X [] tNil:=λ_ _ _ _ H Q I h=>qBk ⟨[],H,I,.nil,h⟩
theorem zjp(ha:PE X e te)(hr:PA X es t)(hs:starEach (e::es) X.env=(false,eval e X.env)::starEach es X.env:=by rfl):PA X (e::es) (tCons te t):=by
 intro pos pins s σ H Q I h
 rw[hs]
 show wpAny _ _ (spliced ((false,eval e X.env)::backTo pos (starEach es X.env))) _ _ s
 refine qBd (thn (ha pins s σ H _ I h) λu s1 ⟨x,H1,I1,r1,q1⟩=>?_)
 exact thn (hr pos pins s1 σ H1 _ I1 q1) λus s2 ⟨xs,H2,I2,r2,q2⟩=>⟨x::xs,H2,I2,.cons r1 r2,q2⟩
noncomputable def tTup(t:TA):TE:=λσ H Q=>t σ H λxs H1=>xs.length<=qV/\∀p,H1 p=none->Q (.ref p) (upd H1 p (.tup xs))
noncomputable def tLst(t:TA):TE:=λσ H Q=>t σ H λxs H1=>xs.length<=qV/\∀p,H1 p=none->Q (.ref p) (upd H1 p (.lst xs))
theorem zatz{x1}(h:PA X es t):PE X (.Tuple es x1 pos) (tTup t):=by
 intro pins s σ H Q I hq
 refine wpAny_Tuple_spliced (thn (h pos pins s σ H _ I hq) λus s1 ⟨xs,H1,I1,r,z,q⟩=>⟨by rw[<- r.length];exact z,?_⟩)
 have hf:H1 s1.heap.objs.size=none:=I1.hok.fresh (qQ _)
 refine⟨.ref s1.heap.objs.size,upd H1 s1.heap.objs.size (.tup xs),I1.laid (t':=s1.toks) (λb u e=>qF _ e) (qQ _) ?_,rfl,q _ hf⟩
 exact⟨z,us,r,⟨_,qd _ rfl,rfl,_,rfl⟩⟩
theorem zanz(h:PA X es t):PE X (.List es pos) (tLst t):=by
 intro pins s σ H Q I hq
 refine wpAny_List_spliced (thn (h pos pins s σ H _ I hq) λus s1 ⟨xs,H1,I1,r,z,q⟩=>⟨by rw[<- r.length];exact z,?_⟩)
 have hf:H1 s1.heap.objs.size=none:=I1.hok.fresh (qQ _)
 refine⟨.ref s1.heap.objs.size,upd H1 s1.heap.objs.size (.lst xs),I1.laid (t':=s1.toks) (λb u e=>qF _ e) (qQ _) ?_,rfl,q _ hf⟩
 exact⟨z,us,0,r,qd _ rfl⟩
end
noncomputable abbrev Sp:=List V->Hp->VK->XK->Prop
noncomputable abbrev CXT:=List Env->Hp->Shared->XK->Value->Shared->Prop
set_option genInjectivity false in
structure Env0(P:Program)(w:World)(K:qB)(mg:Str->Option Value)(base:Heap)(A:Around)(outer:List Env)(s:Shared)(H:Hp):Prop where
 frames:A.frames=some outer
 mod:Mod K mg base
 bs:∀b o,base.get? b=some o->s.heap.get? b=some o/\H b=none
 bsz:base.objs.size<=s.heap.objs.size
 funs:s.heap.FunFrames base outer
 frf:∀b∈frs outer,H b=none
 hok:HOk P w H s.heap
 bare:AllBare s.gens
noncomputable def CE(outer:List Env)(P:Program)(w:World)(H:Hp)(s:Shared)(Q:VK)(u:Value)(s':Shared):Prop:=
 ∃v H',s'.os=s.os/\AllBare s'.gens/\Un (frs outer) [] H H' s.heap s'.heap/\HOk P w H' s'.heap/\RelV v u/\Q v H'
noncomputable def CR(CX:CXT)(outer:List Env)(P:Program)(w:World)(H:Hp)(s:Shared)(Q:VK)(E:XK)(r:Result)(s':Shared):Prop:=
 match r with
 | .ok (.ret u)=>CE outer P w H s Q u s'
 | .ok _=>False
 | .error e=>CX outer H s E e s'
set_option genInjectivity false in
structure FnOk(P:Program)(w:World)(K:qB)(mg:Str->Option Value)(base:Heap)(CX:CXT)(k:Nat)(f:Addr)(fd:qk)(ps:List Str)(sp:Sp):Prop where
 len:∀vs H Q E,sp vs H Q E->vs.length=ps.length
 run:∀(A:Around)(outer:List Env)(s:Shared)(H:Hp)(args:Args)(us:List Value)(vs:List V)(Q:VK)(E:XK),Room k A->Env0 P w K mg base A outer s H->BindsTo s fd args (ps.zip us)->Vals vs us->sp vs H Q E->
  codeAny (model P w) A (.call (.ref f) args) (CR CX outer P w H s Q E) s
theorem Env0.make{P:Program}{w:World}{K:qB}{mg:Str->Option Value}{base:Heap}{A:Around}{outer:List Env}{s:Shared}{H:Hp}(e:Env0 P w K mg base A outer s H)(C:Addr)(us:List Value)(kw:List (Str×Value)) :
  Env0 P w K mg base (A.under (.builtin "type.__call__" ⟨.ref C::us,kw⟩)) outer s H:=⟨by first|exact e.frames|(simpa [Around.under,Code.envs,Code.isFrame,pushEnvs]using e.frames),e.mod,e.bs,e.bsz,e.funs,e.frf,e.hok,e.bare⟩
section
variable{X:Cx}{pins:List (Addr×Obj)}{σ:St}{H:Hp}{s s':Shared}
theorem Inv.env0(I:Inv X pins σ H s):Env0 X.prog X.w X.K X.mg X.base X.A X.stack s H:=
 ⟨I.ok.frames,I.ok.mod,I.bs,qAE I.ok.bsz I.sz,I.stack,I.stkFree,I.hok,I.bare⟩
theorem Inv.after(I:Inv X pins σ H s)(h:CE X.stack X.prog X.w H s Q u s'):EP X pins σ Q u s':=by
 obtain⟨v,H',os,bare,un,hok,r,q⟩:=h
 obtain⟨hh,g,d,t,os'⟩:=s'
 obtain rfl:os'=s.os:=os
 exact⟨v,H',I.call (h':=hh) (g':=g) (d':=d) (t':=t) (ch:=[]) un hok bare (λb z=>absurd z (by simp)),r,q⟩
end
noncomputable def tCall(sp:Sp)(dvs:List V)(E:XK)(t:TA):TE:=λσ H Q=>t σ H λvs H1=>sp (vs++dvs) H1 Q E
noncomputable def zij(K:qB)(fd:qk)(ps:List Str)(ds:List Value):Prop:=
 ∀(s:Shared)(us:List Value),K.In s.heap->(us++ds).length=ps.length->BindsTo s fd ⟨us,[]⟩ (ps.zip (us++ds))
theorem zij.all{K:qB}{fd:qk}{ps:List Str}(h:∀us:List Value,us.length=ps.length->bindArgs fd ⟨us,[]⟩=pure (ps.zip us)):zij K fd ps []:=λs us _ hl=>by
 rw[q9]at hl ⊢
 exact .of_eq (h us hl)
noncomputable def ztg(CX:CXT)(X:Cx)(E:XK):Prop:=∀(pins:List (Addr×Obj))(σ:St)(H:Hp)(s:Shared)(e:Value)(s':Shared),Inv X pins σ H s->CX X.stack H s E e s'->X.xe e s'
section
variable{X:Cx}{CX:CXT}{k:Nat}{f C:Addr}{fd:qk}{ps:List Str}{sp:Sp}{dvs:List V}{ds:List Value}{E:XK}{x m:Str}{p pos apos:Pos}{e o:Expr}{es:List Expr}{ta:TE}{t:TA}
theorem zaua(F:FnOk X.prog X.w X.K X.mg X.base CX k f fd ps sp)(hr:Room k X.A)(hb:zij X.K fd ps ds)(hd:Vals dvs ds)(hx:ztg CX X E)
  (I:Inv X pins σ H s) (r:Vals vs us) (h:sp (vs++dvs) H Q E):wpAny (model X.prog X.w) X.A (call (.ref f) us) (EP X pins σ Q) X.xe s:=by
 have r2:Vals (vs++dvs) (us++ds):=r.append hd
 have hl:(us++ds).length=ps.length:=by rw[<- r2.length];exact F.len _ _ _ _ h
 refine qBx (qA0 (F.run X.A X.stack s H ⟨us,[]⟩ (us++ds) (vs++dvs) Q E hr I.env0 (hb s us I.kIn hl) r2 h) λr s' hq=>?_)
 cases r with
 | error e=>exact hx pins σ H s e s' I hq
 | ok fl=>
  cases fl with
  | ret u=>exact I.after hq
  | next=>exact False.elim hq
  | brk=>exact False.elim hq
  | cont=>exact False.elim hq
theorem zagf(F:FnOk X.prog X.w X.K X.mg X.base CX k f fd ps sp)(hr:Room k X.A)(hg:Gl X x)(hm:X.mg x=some (.ref f))(hk:qAj X.K (.ref f)=true)(hb:zij X.K fd ps ds)(hd:Vals dvs ds)(hx:ztg CX X E)
  (ha:PA X (e::es) t)(hdb:(x==("__debug__":Str))=false:=by decide)(he:starEach (e::es) X.env=(false,eval e X.env)::starEach es X.env:=by rfl)(hpl:(backTo pos (starEach es X.env)).any (·.1)=false:=by rfl) :
  PE X (.Call (.Name x p) (e::es) [] pos) (tCall sp dvs E t):=by
 intro pins s σ H Q I h
 refine qAm (zpr I hg hm ?_ hdb)
 refine qB5 (h₀:=X.base) I.ok.mod.kin hk (thn (ha pos pins s σ H _ I h) λus s1 ⟨vs,H1,I1,r,q⟩=>⟨I1.kIn,?_⟩) he hpl
 exact zaua F hr hb hd hx I1 r q
set_option genInjectivity false in
end
section
variable{X:Cx}{CX:CXT}{k:Nat}{f C:Addr}{fd:qk}{ps ks:List Str}{sp:Sp}{E:XK}{x m:Str}{p pos apos kpos:Pos}{e o:Expr}{es:List Expr}{kws:List Keyword}{te ta:TE}{t tk:TA}{nm:Option Str}
set_option genInjectivity false in
variable{g:List Value->List Value->List Value}{gV:List V->List V->List V}
end
set_option genInjectivity false in
structure FnScope(N P:List Str)(sc:Scope):Prop where
 kind:sc.kind=.function
 co:sc.isCoroutine=false
 gen:sc.isGenerator=false
 nd:N.Nodup
 pre:N.take P.length=P
 par:∀x∈P,sc.names.lookup x=some .local\/sc.names.lookup x=some .cell
 nofree:∀y∈sc.names,y.2≠.free
theorem zwy{kindOf:Str->Option NameKind}:∀{binds:List (Str×Value)}{m:Str->Option Value},(∀v,(x,v)∉binds)->bindL kindOf binds m x=m x
 | [],_,_=>rfl
 | (n,v)::r,m,h=>by
  unfold bindL
  rw[zwy λw hw=>h w (qN _ hw)]
  split
  ·have:x≠n:=by rintro rfl;exact h v qp
   simp[this]
  ·rfl
theorem zwz{kindOf:Str->Option NameKind}:∀{binds:List (Str×Value)}{m:Str->Option Value},(∀v,(x,v)∉binds)->bindC kindOf binds m x=m x
 | [],_,_=>rfl
 | (n,v)::r,m,h=>by
  unfold bindC
  rw[zwz λw hw=>h w (qN _ hw)]
  split
  ·rfl
  ·have:x≠n:=by rintro rfl;exact h v qp
   simp[this]
theorem zxa{kindOf:Str->Option NameKind}:∀{P:List Str}{vs:List Value}{i:Nat}{m:Str->Option Value},P.Nodup->P[i]?=some x->vs[i]?=some v->kindOf x=some .local->
  bindL kindOf (P.zip vs) m x=some v
 | [],_,_,_,_,h,_,_=>by simp at h
 | _::_,[],_,_,_,_,h,_=>by simp at h
 | p::P,w::vs,0,m,nd,h1,h2,hk=>by
  simp at h1 h2;subst h1;subst h2
  show bindL kindOf ((p,w)::P.zip vs) m p=_
  unfold bindL
  rw[zwy λv hv=>(qAe.mp nd).1 (qBH hv).1,if_pos hk]
  simp
 | p::P,w::vs,i+1,m,nd,h1,h2,hk=>by
  show bindL kindOf ((p,w)::P.zip vs) m x=_
  unfold bindL
  exact zxa (i:=i) (qAe.mp nd).2 (by simpa using h1) (by simpa using h2) hk
theorem zxb{kindOf:Str->Option NameKind}:∀{P:List Str}{vs:List Value}{i:Nat}{m:Str->Option Value},P.Nodup->P[i]?=some x->vs[i]?=some v->kindOf x≠some .local->
  bindC kindOf (P.zip vs) m x=some v
 | [],_,_,_,_,h,_,_=>by simp at h
 | _::_,[],_,_,_,_,h,_=>by simp at h
 | p::P,w::vs,0,m,nd,h1,h2,hk=>by
  simp at h1 h2;subst h1;subst h2
  show bindC kindOf ((p,w)::P.zip vs) m p=_
  unfold bindC
  rw[zwz λv hv=>(qAe.mp nd).1 (qBH hv).1,if_neg hk]
  simp
 | p::P,w::vs,i+1,m,nd,h1,h2,hk=>by
  show bindC kindOf ((p,w)::P.zip vs) m x=_
  unfold bindC
  exact zxb (i:=i) (qAe.mp nd).2 (by simpa using h1) (by simpa using h2) hk
noncomputable def zcg(N:List Str)(vs:List V):St:=vs.map some++List.replicate (N.length - vs.length) none
noncomputable def cxOf(CX:CXT)(P:Program)(w:World)(K:qB)(mg:Str->Option Value)(base:Heap)(N:List Str)(qual:Str)(scope:Scope)(f:Addr)(cd:Value)(A:Around)(outer:List Env)(s:Shared)(H:Hp)(E:XK):Cx where
 prog:=P
 w:=w
 K:=K
 mg:=mg
 base:=base
 A:=A.deeper (envOfC qual scope s.heap.objs.size f cd)
 N:=N
 s₀:=s
 H₀:=H
 env:=envOfC qual scope s.heap.objs.size f cd
 outer:=outer
 stack:=envOfC qual scope s.heap.objs.size f cd::outer
 ex:=[]
 calm:=true
 fn:=λ_=>true
 pn:=[]
 xe:=λe s'=>wpAny (model P w) (A.deeper (envOfC qual scope s.heap.objs.size f cd)) (leaving (envOfC qual scope s.heap.objs.size f cd) e) (λ_ s''=>CX outer H s E e s'') (λe' s''=>CX outer H s E e' s'') s'
theorem zut{sc:Scope}(h:sc.names.lookup x=some .cell):∃c,(cellsFrom n sc.names []).lookup x=some c:=by
 have q:=qAw sc.names n [] (.inl h)
 exact Option.isSome_iff_exists.mp q
theorem zmc{CX:CXT}{P:Program}{w:World}{K:qB}{mg:Str->Option Value}{base:Heap}{N ps:List Str}{qual:Str}{scope:Scope}{f:Addr}{cd:Value}{A:Around}{outer:List Env}{s s1:Shared}{H:Hp}{E:XK}{us:List Value}{vs:List V}
  (S:FnScope N ps scope)(hd:A.handled=none)(e0:Env0 P w K mg base A outer s H)(hl:vs.length=ps.length)(r:Vals vs us)
  (x:InCallC s s.heap.objs.size (bindL (envOfC qual scope s.heap.objs.size f cd).kindOf (ps.zip us) λ_=>none) (cellsFrom (s.heap.objs.size+1) scope.names []) (bindC (envOfC qual scope s.heap.objs.size f cd).kindOf (ps.zip us) λ_=>none) s1) :
  Inv (cxOf CX P w K mg base N qual scope f cd A outer s H E) [] (zcg N vs) H s1:=by
 have hpl:ps.length<=N.length:=by have:=congrArg List.length S.pre;rw[qA9]at this;omega
 obtain⟨h1,tk,rfl,hk⟩:=x.done
 have noA:∀b:Addr,b∉(cxOf CX P w K mg base N qual scope f cd A outer s H E).ex:=λb z=>absurd (show b∈([]:List Addr)from z) (by simp)
 refine⟨⟨e0.mod,S.kind,rfl,rfl,qQ _,λy z c h1 h2=>?_,λy hy=>?_,λy c _ h=>?_,λ_=>hd,qC3 e0.frames,.inr ⟨rfl,rfl⟩,λb z=>absurd z (noA b),e0.bs,e0.bsz,λb _ _=>noA b,λb z=>absurd z (noA b),e0.funs,e0.frf⟩,
  rfl,e0.bare,Un.kept hk,⟨_,x.toInCall.ns,λi y v h1 h2 h3=>?_⟩,λy c h=>⟨_,x.cell y c h⟩,e0.hok.fresh (qQ _),λy c h=>?_,λp hp=>absurd (show p∈([]:List (Addr×Obj))from hp) (by simp),e0.hok.kept hk,?_⟩
 ·exact name_of_addr x.apart (qo h1) (qo h2)
 ·have hy:scope.names.lookup y=some .cell\/scope.names.lookup y=some .free:=hy
  rcases hy with hy|hy
  ·exact zut hy
  ·exact absurd rfl (S.nofree _ (qo hy))
 ·exact qBD (x.above y c (qo h))
 ·have hi:i<vs.length:=by
   unfold zcg at h2
   by_cases hi:i<vs.length
   ·exact hi
   ·rw[qb (by simpa using hi)]at h2
    rw[qAF]at h2
    split at h2<;>cases h2
  have ha:vs[i]?=some v:=by
   unfold zcg at h2
   rw[qm (by simpa using hi),qS]at h2
   cases e:vs[i]? with
   | none=>rw[e]at h2;cases h2
   | some a=>rw[e]at h2;cases h2;rfl
  obtain⟨u,hu,rv⟩:=r.get ha
  have hp:ps[i]?=some y:=by
   rw[<- S.pre,List.getElem?_take_of_lt (by omega)];exact h1
  have ndP:ps.Nodup:=by rw[<- S.pre];exact S.nd.sublist (List.take_sublist _ _)
  refine⟨u,rv,?_⟩
  rcases S.par y (qu hp)with k|k
  ·exact .inl ⟨k,zxa ndP hp hu k⟩
  ·obtain⟨c,e⟩:=zut (n:=s.heap.objs.size+1) k
   refine .inr ⟨.inl k,c,e,?_⟩
   have q:=x.cell y c e
   rw[zxb ndP hp hu (by show scope.names.lookup y≠_;rw[k];decide)]at q
   exact q
 ·exact e0.hok.fresh (qBD (x.above y c (qo h)))
 ·unfold zcg
  show _=N.length
  rw[qZ,qC,q0]
  omega
theorem zaxk{CX:CXT}{P:Program}{w:World}{K:qB}{mg:Str->Option Value}{base:Heap}{k:Nat}{f:Addr}{name qual:Str}{params:Arguments}{body:List Stmt}{scope:Scope}{dV kV doc pm cdv ct oc:Value}{an od:Option Addr}
  {osl:Array (Option Value)}{N ps:List Str}{sp:Sp}(lk:K.lookup f=some ⟨oc,od,.func (qAS name qual params body scope dV kV doc pm an cdv ct),osl⟩)(hcd:qBc K cdv qual=true)(S:FnScope N ps scope)
  (len:∀vs H Q E,sp vs H Q E->vs.length=ps.length)
  (hbody:∀(A:Around)(outer:List Env)(s:Shared)(H:Hp)(vs:List V)(Q:VK)(E:XK),Room k (A.deeper (envOfC qual scope s.heap.objs.size f cdv))->sp vs H Q E->
   ∃t,PSs (cxOf CX P w K mg base N qual scope f cdv A outer s H E) body t/\t {nx:=λ_ H'=>Q .non H',rt:=Q} (zcg N vs) H) :
  FnOk P w K mg base CX (k+1) f (qAS name qual params body scope dV kV doc pm an cdv ct) ps sp:=by
 refine⟨len,λA outer s H args us vs Q E hr e0 hb r hsp=>?_⟩
 have hl:=len _ _ _ _ hsp
 have KX:K.In s.heap:=e0.mod.kin.keeps λb o e=>(e0.bs b o e).1
 have lim:s.heap.NoLimit:=e0.mod.nolimit.keeps λb o e=>(e0.bs b o e).1
 have hkind:∀y∈ps.zip us,scope.names.lookup y.1=some .local\/(scope.names.lookup y.1=some .cell/\((cellsFrom (s.heap.objs.size+1) scope.names []).lookup y.1).isSome=true):=λ⟨n,v⟩ hy=>by
  rcases S.par n (qBH hy).1 with q|q
  ·exact .inl q
  ·exact .inr ⟨q,qAw _ _ _ (.inl q)⟩
 refine qBV hr.depth (KX _ _ lk) rfl S.co S.gen rfl (qBW KX hcd) (hb _ _ _ _ ?_)
 refine qBB S.kind hkind λenv he s1 x=>?_
 subst he
 refine⟨lim.keeps x.toInCall.keep,qCi ?_⟩
 obtain⟨t,ht,hq⟩:=hbody A outer s H vs Q E (hr.deeper _) hsp
 have I:Inv (cxOf CX P w K mg base N qual scope f cdv A outer s H E) [] (zcg N vs) H s1:=zmc S hr.hd e0 hl r x
 refine qAq (ht [] s1 (zcg N vs) H _ I hq) (λfl s' hs=>?_) λe s' hs=>hs
 have fin:∀{σ':St}{H':Hp}{v:V}{u:Value},Inv (cxOf CX P w K mg base N qual scope f cdv A outer s H E) [] σ' H' s'->RelV v u->Q v H'->CE outer P w H s Q u s':=
  λ{σ' H' v u} J rv q=>⟨v,H',J.os,J.bare,J.base,J.hok,rv,q⟩
 cases fl with
 | ret u=>
  obtain⟨v,σ',H',J,rv,q⟩:=hs
  exact fin J rv q
 | next=>
  obtain⟨σ',H',J,q⟩:=hs
  exact fin (v:=V.non) (u:=Value.none) J rfl q
 | brk=>
  obtain⟨_,_,_,q⟩:=hs
  exact False.elim q
 | cont=>
  obtain⟨_,_,_,q⟩:=hs
  exact False.elim q
section
variable{X:Cx}{x:Str}{p pos:Pos}{e:Expr}{es:List Expr}{t:TA}{id T:String}{r:List V->Hp->VK->Prop}
noncomputable def tCB(r:List V->Hp->VK->Prop)(t:TA):TE:=λσ H Q=>t σ H λvs H1=>r vs H1 Q
theorem zacr(hc:CallR X (.builtin id) r)(hg:Gl X x)(hm:X.mg x=none)(hv:bootBuiltins x=some (.builtin id))(ha:PA X (e::es) t)(hn:x≠"__name__":=by decide)(hdb:(x==("__debug__":Str))=false:=by decide)
  (he:starEach (e::es) X.env=(false,eval e X.env)::starEach es X.env:=by rfl) (hpl:(backTo pos (starEach es X.env)).any (·.1)=false:=by rfl):PE X (.Call (.Name x p) (e::es) [] pos) (tCB r t):=by
 intro pins s σ H Q I h
 refine qAm (zma I hg hm hv ?_ hn hdb)
 exact PyProof.Rows.callWith_builtin1 (thn (ha pos pins s σ H _ I h) λus s1 ⟨vs,H1,I1,r1,q1⟩=>hc pins s1 σ H1 vs us Q I1 r1 q1) he hpl
theorem zagg(hc:CallR X (.type T) r)(hg:Gl X x)(hm:X.mg x=none)(hv:bootBuiltins x=some (.type T))(ha:PA X (e::es) t)(hn:x≠"__name__":=by decide)(hdb:(x==("__debug__":Str))=false:=by decide)
  (he:starEach (e::es) X.env=(false,eval e X.env)::starEach es X.env:=by rfl) (hpl:(backTo pos (starEach es X.env)).any (·.1)=false:=by rfl):PE X (.Call (.Name x p) (e::es) [] pos) (tCB r t):=by
 intro pins s σ H Q I h
 refine qAm (zma I hg hm hv ?_ hn hdb)
 exact qAu (thn (ha pos pins s σ H _ I h) λus s1 ⟨vs,H1,I1,r1,q1⟩=>hc pins s1 σ H1 vs us Q I1 r1 q1) he hpl
end
end L2
namespace HT
open PySem PyProof.Rows
section
open PySem.SeqAt
open PySem.AutoSeq1 (wpAny_loadPart')
open PySem.MeetsSeq PySem.MeetsSeq2 PySem.MeetsSeq3
end
section
variable{prog:Program}{w:World}{A:Around}{E:Value->Shared->Prop}{s:Shared}
theorem cat_tup{vs ws:List Value}{Q:Value->Shared->Prop}(ht:IsTup s.heap t vs.toArray)(hb:IsTup s.heap b ws.toArray)(hv:vs≠[])
  (h1:ws=[]->Q (.ref t) s) (h2:ws≠[]->Q (.ref s.heap.objs.size) {s with heap:=s.heap.push {cls:=.type "tuple",data:=.seq (vs++ws).toArray}})
  (hsz:vs.length+ws.length<=qV):wpAny (model prog w) A (binaryOp .Add (.ref t) (.ref b)) Q E s:=by
 obtain⟨⟨cls,dd,data,sl⟩,ho,hc,n,hd⟩:=id ht
 obtain⟨⟨cls2,dd2,data2,sl2⟩,ho2,hc2,n2,hd2⟩:=id hb
 simp only at hc hd hc2 hd2
 subst hc hd hc2 hd2
 have e:vs.toArray++ws.toArray=(vs++ws).toArray:=by simp
 by_cases hw:ws=[]
 ·exact concat_meets ⟨_,ho,rfl⟩ ⟨_,ho2,rfl⟩ noFill_tuple_add seq_tuple_add qCk qCd (qCX _ _)
   (tuple_addW1 t b vs.toArray ws.toArray n n2 dd dd2 sl sl2 (by simpa using hv) (by simp[hw])) ⟨ho,ho2,h1 hw⟩
 ·refine concat_meets ⟨_,ho,rfl⟩ ⟨_,ho2,rfl⟩ noFill_tuple_add seq_tuple_add qCk qCd (qCX _ _)
   (tuple_addW2 t b vs.toArray ws.toArray n n2 dd dd2 sl sl2 (by simpa using hv) (by simpa using hw) (by rw[qW,qW];exact hsz)) ⟨ho,ho2,?_⟩
  rw[e]
  exact h2 hw
noncomputable def sIx(n d:Nat):Option Int->Nat
 | none=>d
 | some v=>if v<0 then(v+(n:Int)).toNat else min v.toNat n
theorem sIx_nat(n d k:Nat):sIx n d (some (k:Int))=min k n:=by
 show(if(k:Int)<0 then((k:Int)+(n:Int)).toNat else min (k:Int).toNat n)=min k n
 rw[if_neg (by omega),qA3]
end
end HT
namespace L2
open PySem PySem.Spec PyProof.Rows
noncomputable abbrev TO:=St->Hp->(Option Int->Hp->Prop)->Prop
noncomputable def PO(X:Cx)(e:Option Expr)(t:TO):Prop:=
 ∀(pins:List (Addr×Obj))(s:Shared)(σ:St)(H:Hp)(Q:Option Int->Hp->Prop),Inv X pins σ H s->t σ H Q->
  wpAny (model X.prog X.w) X.A (evalPart e X.env) (λu s'=>∃o H',Inv X pins σ H' s'/\IsPart u o/\Q o H') X.xe s
noncomputable def tNoPart:TO:=λ_ H Q=>Q none H
noncomputable def tPart(t:TE):TO:=λσ H Q=>t σ H λx H1=>∃i,x=.int i/\Q (some i) H1
section
variable{X:Cx}{e:Expr}{te:TE}{lo hi:Option Expr}{tl th:TO}{pos p2:Pos}
theorem zagh:PO X none tNoPart:=by
 intro pins s σ H Q I h
 rw[evalPart_none]
 exact qR ⟨none,H,I,.none,h⟩
theorem zagi(h:PE X e te):PO X (some e) (tPart te):=by
 intro pins s σ H Q I hw
 rw[evalPart_some]
 refine thn (h pins s σ H _ I hw) λu s1 ⟨x,H1,I1,r1,q1⟩=>?_
 obtain⟨i,rfl,q⟩:=q1
 obtain⟨t,rfl⟩:=r1
 exact⟨some i,H1,I1,.int i t,q⟩
noncomputable def SlR(X:Cx)(r:V->Option Int->Option Int->Hp->VK->Prop):Prop:=
 ∀(pins:List (Addr×Obj))(s:Shared)(σ:St)(H:Hp)(x:V)(v vl vu:Value)(lo hi:Option Int)(sl:Addr)(Q:VK),Inv X pins σ H s->RelV x v->s.heap.IsSliceOf sl vl vu .none->IsPart vl lo->IsPart vu hi->r x lo hi H Q->
  ∃T id,typeLookup (.type T) "__getitem__"=pure (some (.builtin id))/\s.TypeIs v T/\wpAny (model X.prog X.w) X.A (getItem v (.ref sl)) (EP X pins σ Q) X.xe s
noncomputable def tSl(r:V->Option Int->Option Int->Hp->VK->Prop)(te:TE)(tl th:TO):TE:=λσ H Q=>te σ H λx H1=>tl σ H1 λl H2=>th σ H2 λu H3=>r x l u H3 Q
theorem zacs{r:V->Option Int->Option Int->Hp->VK->Prop}(hr:SlR X r)(he:PE X e te)(hl:PO X lo tl)(hu:PO X hi th):PE X (.Subscript e (.Slice lo hi none p2) pos) (tSl r te tl th):=by
 intro pins s σ H Q I h
 refine Subscript_ (thn (he pins s σ H _ I h) λv s1 ⟨x,H1,I1,r1,q1⟩=>?_)
 refine wpAny_Slice (thn (hl pins s1 σ H1 _ I1 q1) λvl s2 ⟨l,H2,I2,pl,q2⟩=>thn (hu pins s2 σ H2 _ I2 q2) λvu s3 ⟨u,H3,I3,pu,q3⟩=>?_)
 rw[evalPart_none]
 refine qR ?_
 have I4:Inv X pins σ H3 {s3 with heap:=s3.heap.push {cls:=.type "slice",data:=.fields #[vl,vu,.none]}}:=I3.kept (t':=s3.toks) λb ob q=>qF _ q
 obtain⟨T,id,hT,ht,hg⟩:=hr pins {s3 with heap:=s3.heap.push {cls:=.type "slice",data:=.fields #[vl,vu,.none]}} σ H3 x v vl vu l u s3.heap.objs.size Q I4 r1 (Heap.IsSliceOf.new ..) pl pu q3
 show wpAny (model X.prog X.w) X.A (subscriptTail e (.Slice lo hi none p2) v (.ref s3.heap.objs.size)) (EP X pins σ Q) X.xe {s3 with heap:=s3.heap.push {cls:=.type "slice",data:=.fields #[vl,vu,.none]}}
 exact tail_any (ops:=[.ref s3.heap.objs.size,v]) ht hT hg (by with_unfolding_all rfl)
noncomputable def cutV(xs:List V)(lo hi:Option Int):List V:=(xs.drop (HT.sIx xs.length 0 lo)).take (HT.sIx xs.length xs.length hi - HT.sIx xs.length 0 lo)
theorem zaaj(xs:List V)(lo hi:Option Int):(cutV xs lo hi).length<=xs.length:=by
 unfold cutV
 rw[qA9,qBs]
 omega
noncomputable def zaub(K:qB):R2:=λx y H Q=>∃a b xs ys,x=.ref a/\y=.ref b/\SqT K H a xs/\SqT K H b ys/\xs≠[]/\xs.length+ys.length<=qV/\
 (ys=[]->Q (.ref a) H)/\(ys≠[]->∀p,H p=none->Q (.ref p) (upd H p (.tup (xs++ys))))
theorem Vals.nil_iff(r:Vals xs us):us=[]↔xs=[]:=by
 cases r with
 | nil=>simp
 | cons _ _=>simp
theorem zapp:OpR X (binaryOp .Add) (zaub X.K):=by
 intro pins s σ H x y v u Q I rx ry h
 obtain⟨a,b,xs,ys,rfl,rfl,ha,hb,hx,hz,q1,q2⟩:=h
 cases rx
 cases ry
 obtain⟨its,r1,p1,_⟩:=I.tuple ha
 obtain⟨its2,r2,p2,_⟩:=I.tuple hb
 refine HT.cat_tup p1 p2 (λz=>hx (r1.nil_iff.mp z)) (λz=>⟨.ref a,H,I,rfl,q1 (r2.nil_iff.mp z)⟩) (λz=>?_) (by rw[<- r1.length,<- r2.length];exact hz)
 refine⟨.ref s.heap.objs.size,_,I.laid (t':=s.toks) (o:=.tup (xs++ys)) (λb ob q=>qF _ q) (qQ _) ?_,rfl,q2 (λw=>z (r2.nil_iff.mpr w)) _ (I.hok.fresh (qQ _))⟩
 exact⟨by rw[qZ];exact hz,_,r1.append r2,IsTup.new _ _⟩
end
noncomputable def ixN(n:Nat)(i:Int):Option Nat:=if 0<=i then(if i<n then some i.toNat else none)else if -(n:Int)<=i then some (i+n).toNat else none
noncomputable def atI{α:Type}(xs:List α)(i:Int):Option α:=(ixN xs.length i).bind λj=>xs[j]?
theorem zapq(h:ixN n i=some j):seqIndex? i n=some j/\j<n/\-(n:Int)<=i/\i<n:=by
 unfold ixN at h
 by_cases h0:0<=i
 ·rw[if_pos h0]at h
  by_cases h1:i<n
  ·rw[if_pos h1]at h
   have e:i.toNat=j:=qa h
   exact⟨by rw[seqIndex_of h0 h1,e],by omega,by omega,h1⟩
  ·rw[if_neg h1]at h;cases h
 ·rw[if_neg h0]at h
  by_cases h1:-(n:Int)<=i
  ·rw[if_pos h1]at h
   have e:(i+n).toNat=j:=qa h
   exact⟨by rw[seqIndex_neg (by omega) h1,e],by omega,h1,by omega⟩
  ·rw[if_neg h1]at h;cases h
theorem zaak{xs:List α}(h:atI xs i=some v):∃j,seqIndex? i xs.length=some j/\xs[j]?=some v/\j<xs.length/\-(xs.length:Int)<=i/\i<xs.length:=by
 unfold atI at h
 cases e:ixN xs.length i with
 | none=>rw[e]at h;cases h
 | some j=>
  rw[e]at h
  obtain⟨h1,h2,h3,h4⟩:=zapq e
  exact⟨j,h1,h,h2,h3,h4⟩
theorem zps{α:Type}{xs:List α}{j:Nat}{v:α}(h:xs[j]?=some v):atI xs (j:Int)=some v:=by
 have hj:j<xs.length:=(qM.mp h).1
 have e:ixN xs.length (j:Int)=some j:=by
  unfold ixN
  rw[if_pos (by omega),if_pos (by omega)];simp
 unfold atI;rw[e];exact h
theorem zakz(xs:List α)(v:α):atI (xs++[v]) (-1)=some v:=by
 have hl:(xs++[v]).length=xs.length+1:=by simp
 have e:ixN (xs++[v]).length (-1)=some xs.length:=by
  unfold ixN
  rw[hl,if_neg (by decide),if_pos (by omega)]
  congr 1
  omega
 unfold atI
 rw[e]
 show(xs++[v])[xs.length]?=some v
 simp
noncomputable def PlainIx(b:Expr):Prop:=∀o i,subscripted b false o i=operate [o,i] (getItem o i)
noncomputable def IxR(X:Cx)(r:R2):Prop:=
 ∀(value slice:Expr)(pins:List (Addr×Obj))(s:Shared)(σ:St)(H:Hp)(x y:V)(v u:Value)(Q:VK),Inv X pins σ H s->RelV x v->RelV y u->r x y H Q->
  subscripted slice false v u=operate [v,u] (getItem v u)->wpAny (model X.prog X.w) X.A (subscriptTail value slice v u) (EP X pins σ Q) X.xe s
noncomputable def MtR(X:Cx)(id:String)(r:V->List V->Hp->VK->Prop):Prop:=
 ∀(pins:List (Addr×Obj))(s:Shared)(σ:St)(H:Hp)(x:V)(xs:List V)(v:Value)(us:List Value)(Q:VK),Inv X pins σ H s->RelV x v->Vals xs us->r x xs H Q->
  wpAny (model X.prog X.w) X.A (call (.builtin id) (v::us)) (EP X pins σ Q) X.xe s
section
variable{X:Cx}{a b:Expr}{ta tb:TE}{pos:Pos}
theorem zauc(hr:IxR X r)(ha:PE X a ta)(hb:PE X b tb)(hs:PlainIx b):PE X (.Subscript a b pos) (tOp r ta tb):=by
 intro pins s σ H Q I h
 exact Subscript_ (binT ha hb I h λv u s2 x y H2 I2 rx ry q=>hr a b pins s2 σ H2 x y v u Q I2 rx ry q (hs _ _))
noncomputable def rIxL(K:qB):R2:=λx y H Q=>∃p xs i v,x=.ref p/\y=.int i/\SqL K H p xs/\atI xs i=some v/\Q v H
noncomputable def rIxT(K:qB):R2:=λx y H Q=>∃p xs i v,x=.ref p/\y=.int i/\SqT K H p xs/\atI xs i=some v/\Q v H
noncomputable def rIxS:R2:=λx y H Q=>∃z i c,x=.str z/\y=.int i/\z.length<=qV/\atI z.cps.toList i=some c/\Q (.str ⟨#[c]⟩) H
theorem zapr:IxR X (rIxL X.K):=by
 intro value slice pins s σ H x y v u Q I rx ry h hs
 obtain⟨p,xs,i,z,rfl,rfl,hq,he,q⟩:=h
 cases rx
 obtain⟨t,rfl⟩:=ry
 obtain⟨its,r,pl,hz⟩:=I.list hq
 obtain⟨j,h1,h2,h3,h4,h5⟩:=zaak he
 obtain⟨w,ew,rw'⟩:=r.get h2
 have hl:=r.length
 have hn:=zww
 have fin:EP X pins σ Q w s:=⟨z,H,I,rw',q⟩
 by_cases h0:0<=i
 ·have hj:i.toNat=j:=by
   rw[seqIndex_of h0 h5]at h1
   exact qa h1
  exact item_listR pl.isList h0 (by omega) (by rw[hj];simpa using ew) fin hs
 ·have hj:(i+(its.toArray.size:Int)).toNat=j:=by
   rw[seqIndex_neg (by omega) h4]at h1
   rw[qW,<- hl]
   exact qa h1
  exact subscriptTail_builtinR (x:=w) pl.isList.typeIs slot_list_getitem.lookup
   (wpAny_getItem_list_neg (Q:=λr s'=>r=w/\EP X pins σ Q r s') pl.isList (by omega) (by rw[qW]<;>omega) (by omega) (by rw[hj];simpa using ew) ⟨rfl,fin⟩) hs
theorem zaud:IxR X (rIxT X.K):=by
 intro value slice pins s σ H x y v u Q I rx ry h hs
 obtain⟨p,xs,i,z,rfl,rfl,hq,he,q⟩:=h
 cases rx
 obtain⟨t,rfl⟩:=ry
 obtain⟨its,r,pl,hz⟩:=I.tuple hq
 obtain⟨j,h1,h2,h3,h4,h5⟩:=zaak he
 obtain⟨w,ew,rw'⟩:=r.get h2
 have hl:=r.length
 have hn:=zww
 have fin:EP X pins σ Q w s:=⟨z,H,I,rw',q⟩
 exact subscriptTail_builtinR (x:=w) pl.typeIs slot_tuple_getitem.lookup
  (getItem_tuple (j:=j) (Q:=λr s'=>r=w/\EP X pins σ Q r s') pl (by omega) (by omega) (by rw[qW,<- hl];exact h1) (by simpa using ew) ⟨rfl,fin⟩) hs
theorem zaue:IxR X rIxS:=by
 intro value slice pins s σ H x y v u Q I rx ry h hs
 obtain⟨z,i,c,rfl,rfl,hz,he,q⟩:=h
 obtain⟨t,rfl⟩:=rx
 obtain⟨t',rfl⟩:=ry
 obtain⟨j,h1,h2,h3,h4,h5⟩:=zaak he
 have hl:z.cps.toList.length=z.length:=by simp[Str.length]
 rw[hl]at h1 h4 h5
 have hn:=zww
 exact tail_any (typeIs_str s z t) slot_str_getitem.lookup (getItem_str (c:=c) (by
  have e1:decide (i < -(2 ^ 63:Int))=false:=decide_eq_false (by omega)
  have e2:decide (i>=2 ^ 63)=false:=decide_eq_false (by omega)
  rw[e1,e2,Bool.or_false]) (by rw[h1];simpa using h2) ⟨.str ⟨#[c]⟩,H,I.tok _,⟨_,rfl⟩,q⟩) hs
theorem zxc(lo hi:Option Int)(n:Nat):(sliceBounds lo hi none n).1=((HT.sIx n 0 lo:Nat):Int)/\(sliceBounds lo hi none n).2.1=((HT.sIx n n hi:Nat):Int)/\(sliceBounds lo hi none n).2.2=1:=by
 refine⟨?_,?_,rfl⟩
 ·cases lo with
  | none=>simp[sliceBounds,HT.sIx]
  | some i=>
   simp only[sliceBounds,HT.sIx,Option.getD_none,show(1:Int) > 0 by decide,if_true]
   by_cases h:i<0
   ·simp only[h,if_true]<;>omega
   ·simp only[h,if_false]<;>omega
 ·cases hi with
  | none=>simp[sliceBounds,HT.sIx]
  | some i=>
   simp only[sliceBounds,HT.sIx,Option.getD_none,show(1:Int) > 0 by decide,if_true]
   by_cases h:i<0
   ·simp only[h,if_true]<;>omega
   ·simp only[h,if_false]<;>omega
theorem zuu(its:List Value)(lo hi:Option Int):slicePick its.toArray lo hi none=((its.drop (HT.sIx its.length 0 lo)).take (HT.sIx its.length its.length hi - HT.sIx its.length 0 lo)).toArray:=by
 obtain⟨h1,h2,h3⟩:=zxc lo hi its.toArray.size
 unfold slicePick
 rw[h1,h2,h3]
 simp only[sliceRange_one,pick_run,qW]<;>rfl
noncomputable def rSlL(K:qB):V->Option Int->Option Int->Hp->VK->Prop:=λx lo hi H Q=>∃a xs,x=.ref a/\SqL K H a xs/\∀p,H p=none->Q (.ref p) (upd H p (.lst (cutV xs lo hi)))
theorem zaps:SlR X (rSlL X.K):=by
 intro pins s σ H x v vl vu lo hi sl Q I rx hs pl pu h
 obtain⟨a,xs,rfl,hx,q⟩:=h
 cases rx
 obtain⟨its,r,ht,hz⟩:=I.list hx
 have hlen:=r.length
 refine⟨"list",_,slot_list_getitem.lookup,ht.isList.typeIs,?_⟩
 refine wpAny_getItem_list_slice ht.isList hs pl pu .none (by simp) ?_ (by rw[qW]<;>omega)
 rw[zuu,<- hlen]
 refine⟨.ref s.heap.objs.size,_,I.laid (t':=s.toks) (o:=.lst (cutV xs lo hi)) (λb ob q=>qF _ q) (qQ _) ?_,rfl,q _ (I.hok.fresh (qQ _))⟩
 exact⟨qAE (zaaj xs lo hi) hz,_,0,(r.drop (HT.sIx xs.length 0 lo)).take (HT.sIx xs.length xs.length hi - HT.sIx xs.length 0 lo),qd _ rfl⟩
noncomputable def zsd:V->Bool
 | .non=>true
 | .bl _=>true
 | .int _=>true
 | .str _=>true
 | _=>false
noncomputable def eqV:V->V->Bool
 | .non,.non=>true
 | .bl a,.bl b=>a==b
 | .bl a,.int b=>(if a then 1 else 0)==b
 | .int a,.bl b=>a==(if b then 1 else 0)
 | .int a,.int b=>a==b
 | .str a,.str b=>a==b
 | _,_=>false
theorem zauf(ry:RelV y u)(rx:RelV x v)(fy:zsd y=true)(fx:zsd x=true):SeqAt.EqAt A s u v (eqV y x):=by
 cases y with
 | non=>
  cases ry
  cases x with
  | non=>cases rx;exact SeqAt.EqAt.same _
  | bl b=>cases rx;exact SeqAt.EqAt.none_bool b
  | int b=>obtain⟨t,rfl⟩:=rx;exact SeqAt.EqAt.none_int b t
  | str b=>obtain⟨t,rfl⟩:=rx;exact SeqAt.EqAt.none_str b t
  | _=>exact absurd (show false=true from fx) qP
 | bl a=>
  cases ry
  cases x with
  | non=>cases rx;exact SeqAt.EqAt.bool_none a
  | bl b=>cases rx;exact SeqAt.EqAt.bool_bool a b
  | int b=>obtain⟨t,rfl⟩:=rx;exact SeqAt.EqAt.bool_int a b t
  | str b=>obtain⟨t,rfl⟩:=rx;exact SeqAt.EqAt.bool_str a b t
  | _=>exact absurd (show false=true from fx) qP
 | int a=>
  obtain⟨t',rfl⟩:=ry
  cases x with
  | non=>cases rx;exact SeqAt.EqAt.int_none a t'
  | bl b=>cases rx;exact SeqAt.EqAt.int_bool a t' b
  | int b=>obtain⟨t,rfl⟩:=rx;exact SeqAt.EqAt.int_int a t' b t
  | str b=>obtain⟨t,rfl⟩:=rx;exact qCq a t' b t
  | _=>exact absurd (show false=true from fx) qP
 | str a=>
  obtain⟨t',rfl⟩:=ry
  cases x with
  | non=>cases rx;exact SeqAt.EqAt.str_none a t'
  | bl b=>cases rx;exact SeqAt.EqAt.str_bool a t' b
  | int b=>obtain⟨t,rfl⟩:=rx;exact qCp a t' b t
  | str b=>obtain⟨t,rfl⟩:=rx;exact SeqAt.EqAt.str_str a t' b t
  | _=>exact absurd (show false=true from fx) qP
 | _=>exact absurd (show false=true from fy) qP
noncomputable def eqU(x:V)(u:Value):Bool:=match u with
 | .none=>eqV .non x
 | .bool b=>eqV (.bl b) x
 | .int i _=>eqV (.int i) x
 | .str z _=>eqV (.str z) x
 | _=>false
theorem zaoa(r:RelV y u)(f:zsd y=true):eqU x u=eqV y x:=by
 cases y with
 | non=>cases r;rfl
 | bl b=>cases r;rfl
 | int i=>obtain⟨t,rfl⟩:=r;rfl
 | str z=>obtain⟨t,rfl⟩:=r;rfl
 | _=>exact absurd (show false=true from f) qP
theorem zpt:∀{xs:List V}{us:List Value},Vals xs us->xs.all zsd=true->us.any (eqU x)=xs.any λy=>eqV y x
 | _,_,.nil,_=>rfl
 | y::xs,u::us,.cons r t,f=>by
  rw[qBJ,qAA]at f
  rw[qAv,qAv,zaoa r f.1,zpt t f.2]
theorem zmd(rx:RelV x v)(fx:zsd x=true):∀{xs:List V}{us:List Value},Vals xs us->xs.all zsd=true->∀u∈us,SeqAt.EqAt A s u v (eqU x u)
 | _,_,.nil,_=>λu hu=>by cases hu
 | y::xs,u::us,.cons r t,f=>λu' hu=>by
  rw[qBJ,qAA]at f
  rcases qY.mp hu with rfl|hu
  ·rw[zaoa r f.1];exact zauf r rx f.1 fx
  ·exact zmd rx fx t f.2 u' hu
noncomputable def inV(x:V)(xs:List V):Bool:=xs.any λy=>eqV y x
noncomputable def rIn(K:qB)(neg:Bool):R2:=λx y H Q=>∃p xs,y=.ref p/\(SqL K H p xs\/SqT K H p xs)/\zsd x=true/\xs.all zsd=true/\Q (.bl (if neg then !inV x xs else inV x xs)) H
theorem zagj:OpR X (compareOp .In) (rIn X.K false):=by
 intro pins s σ H x y v u Q I rx ry h
 obtain⟨p,xs,rfl,hq,fx,fs,q⟩:=h
 cases ry
 rcases hq with hq|hq
 ·obtain⟨its,r,pl,hz⟩:=I.list hq
  refine SeqAt.in_listAt (eqU x) pl.isList (λw hw=>zmd rx fx r fs w (by simpa using hw)) ⟨.bl _,H,I,rfl,?_⟩
  rw[show its.toArray.any (eqU x)=its.any (eqU x) by simp,zpt r fs]
  exact q
 ·obtain⟨its,r,pl,hz⟩:=I.tuple hq
  refine SeqAt.in_tupleAt (eqU x) pl (λw hw=>zmd rx fx r fs w (by simpa using hw)) ⟨.bl _,H,I,rfl,?_⟩
  rw[show its.toArray.any (eqU x)=its.any (eqU x) by simp,zpt r fs]
  exact q
theorem zxd:OpR X (compareOp .NotIn) (rIn X.K true):=by
 intro pins s σ H x y v u Q I rx ry h
 obtain⟨p,xs,rfl,hq,fx,fs,q⟩:=h
 cases ry
 rcases hq with hq|hq
 ·obtain⟨its,r,pl,hz⟩:=I.list hq
  refine SeqAt.notIn_listAt (eqU x) pl.isList (λw hw=>zmd rx fx r fs w (by simpa using hw)) ⟨.bl _,H,I,rfl,?_⟩
  rw[show its.toArray.any (eqU x)=its.any (eqU x) by simp,zpt r fs]
  exact q
 ·obtain⟨its,r,pl,hz⟩:=I.tuple hq
  refine SeqAt.notIn_tupleAt (eqU x) pl (λw hw=>zmd rx fx r fs w (by simpa using hw)) ⟨.bl _,H,I,rfl,?_⟩
  rw[show its.toArray.any (eqU x)=its.any (eqU x) by simp,zpt r fs]
  exact q
theorem zxe:CallR X (.type "list") (λxs H Q=>∃p ys,xs=[.ref p]/\(SqL X.K H p ys\/SqT X.K H p ys)/\∀l,H l=none->Q (.ref l) (upd H l (.lst ys))):=by
 intro pins s σ H xs us Q I r h
 obtain⟨p,ys,rfl,hq,q⟩:=h
 obtain⟨u,rfl,rx⟩:=zaai r
 cases rx
 have fin:∀(its:List Value),Vals ys its->ys.length<=qV->∀(h':Heap)(c':Nat),(∀b o',s.heap.get? b=some o'->h'.get? b=some o')->
   h'.get? s.heap.objs.size=some {cls:=.type "list",dict:=none,data:=.seq its.toArray c',slots:=#[]}->EP X pins σ Q (.ref s.heap.objs.size) {s with heap:=h'}:=λits r' hz h' c' kp e=>
  ⟨.ref s.heap.objs.size,_,I.laid (t':=s.toks) kp (qQ _) (show zdk X.prog X.w _ h' _ (.lst ys)from⟨hz,its,c',r',e⟩),rfl,q _ (I.hok.fresh (qQ _))⟩
 rcases hq with hq|hq
 ·obtain⟨its,r',pl,hz⟩:=I.list hq
  have hlen:=r'.length
  obtain⟨o,ho,hc,n,hd⟩:=pl.isList
  exact call_list_seq p (.inl rfl) ho hc hd (λh' c' kp e=>fin its r' hz h' c' kp e) (by simp only[qW]<;>omega)
 ·obtain⟨its,r',pl,hz⟩:=I.tuple hq
  have hlen:=r'.length
  obtain⟨o,ho,hc,n,hd⟩:=pl
  exact call_list_seq p (.inr rfl) ho hc hd (λh' c' kp e=>fin its r' hz h' c' kp e) (by simp only[qW]<;>omega)
theorem zuv:CallR X (.type "tuple") (λxs H Q=>∃p ys,xs=[.ref p]/\((SqL X.K H p ys/\∀l,H l=none->Q (.ref l) (upd H l (.tup ys)))\/(SqT X.K H p ys/\Q (.ref p) H))):=by
 intro pins s σ H xs us Q I r h
 obtain⟨p,ys,rfl,h⟩:=h
 obtain⟨u,rfl,rx⟩:=zaai r
 cases rx
 rcases h with⟨hq,q⟩|⟨hq,q⟩
 ·obtain⟨its,r',pl,hz⟩:=I.list hq
  have hlen:=r'.length
  refine call_tuple_list pl.isList (λh' kp=>?_) (by simp only[qW]<;>omega)
  have I1:Inv X pins σ H {s with heap:=h'}:=I.kept (t':=s.toks) kp
  have I2:Inv X pins σ (upd H h'.objs.size (.tup ys)) {s with heap:=h'.push {cls:=.type "tuple",data:=.seq its.toArray}}:=
   I1.laid (t':=s.toks) (λb o e=>qF _ e) (qQ _) (show zdk X.prog X.w _ _ _ (.tup ys)from⟨hz,its,r',IsTup.new _ _⟩)
  exact⟨.ref h'.objs.size,_,I2,rfl,q _ (I1.hok.fresh (qQ _))⟩
 ·obtain⟨its,r',pl,hz⟩:=I.tuple hq
  exact call_tuple_same pl ⟨.ref p,H,I,rfl,q⟩
noncomputable def tyV(K:qB)(T:String)(x:V)(H:Hp):Prop:=match x with
 | .str _=>T="str"
 | .int _=>T="int"
 | .ref p=>(T="list"/\∃xs,SqL K H p xs)\/(T="tuple"/\∃o,K.lookup p=some o/\o.cls=.type "tuple"/\o.dict=none)\/
   (T="dict"/\((∃kvs,H p=some (.dK kvs))\/∃kvs,H p=some (.dT kvs)))\/(T="set"/\∃S n,H p=some (.set S n))
 | _=>False
theorem zaug{s:Shared}(I:Inv X pins σ H s)(r:RelV x v)(ty:tyV X.K T x H) :
  s.TypeIs v T/\∀a,v=.ref a->∃ob,s.heap.get? a=some ob/\ob.dict=none:=by
 cases x with
 | str z=>
  obtain⟨t,rfl⟩:=r
  cases(show T="str"from ty)
  exact⟨typeIs_str s z t,λ_ e=>nomatch e⟩
 | int i=>
  obtain⟨t,rfl⟩:=r
  cases(show T="int"from ty)
  exact⟨typeIs_int s i t,λ_ e=>nomatch e⟩
 | ref p=>
  cases r
  rcases ty with⟨rfl,xs,hq⟩|⟨rfl,o,hk,hc,hd⟩|⟨rfl,hk⟩|⟨rfl,S,n,hk⟩
  ·obtain⟨its,_,pl,_⟩:=I.list hq
   refine⟨pl.isList.typeIs,λa e=>?_⟩
   cases e
   obtain⟨o,n,e,c,hd,_⟩:=pl
   exact⟨o,e,hd⟩
  ·refine⟨⟨o,I.kIn p o hk,hc⟩,λa e=>?_⟩
   cases e
   exact⟨o,I.kIn _ o hk,hd⟩
  ·have z:∃o,s.heap.get? p=some o/\o.ExactDict:=by
    rcases hk with⟨kvs,hk⟩|⟨kvs,hk⟩
    ·obtain⟨_,_,_,_,o,_,_,e,ex,_⟩:=I.hok p _ hk
     exact⟨o,e,ex⟩
    ·obtain⟨_,_,_,_,o,_,_,e,ex,_⟩:=I.hok p _ hk
     exact⟨o,e,ex⟩
   obtain⟨o,e,ex⟩:=z
   refine⟨⟨o,e,ex.1⟩,λa e2=>?_⟩
   cases e2
   exact⟨o,e,ex.2.1⟩
  ·obtain⟨o,_,_,_,e,ex,_⟩:=I.hok p _ hk
   refine⟨⟨o,e,ex.1⟩,λa e2=>?_⟩
   cases e2
   exact⟨o,e,ex.2.1⟩
 | _=>exact False.elim ty
noncomputable def tBM(K:qB)(T:String)(r:V->List V->Hp->VK->Prop)(to:TE)(t:TA):TE:=λσ H Q=>to σ H λx H1=>tyV K T x H1/\t σ H1 λxs H2=>r x xs H2 Q
variable{o e:Expr}{es:List Expr}{to:TE}{t:TA}{name:Str}{apos cpos:Pos}{T id:String}{r:V->List V->Hp->VK->Prop}
theorem zaxl(pa:PlainAttrs T)(slot:Slot T name id)(hty:typeOf (.builtin id)=pure (.type "method_descriptor"))(hm:MtR X id r)(ho:PE X o to)(ha:PA X (e::es) t)
  (hbase:attributeBase o name X.env (eval o X.env)=eval o X.env:=by rfl)
  (hfew:((backTo cpos (starEach (e::es) X.env)).all (λx=>!x.1)&&(backToKw cpos (keywordEach [] X.env)).all (λx=>x.1.isSome)
   && decide ((e::es).length+([]:List Keyword).length+(if([]:List Keyword).isEmpty then 0 else 1)<30))=true:=by rfl)
  (hline:(apos.endLine==cpos.line)=true:=by rfl)(hs:starEach (e::es) X.env=(false,eval e X.env)::starEach es X.env:=by rfl)(hplain:(backTo cpos (starEach es X.env)).any (·.1)=false:=by rfl) :
  PE X (.Call (.Attribute o name apos) (e::es) [] cpos) (tBM X.K T r to t):=by
 intro pins s σ H Q I h
 refine wpAny_Call_method_late hbase hfew hline rfl (thn (ho pins s σ H _ I h) λv s1 ⟨x,H1,I1,r1,ty,q1⟩=>?_)
 obtain⟨h1,h2⟩:=zaug I1 r1 ty
 refine⟨T,id,pa,slot,hty,h1,h2,?_⟩
 have hA:=ha cpos pins s1 σ H1 _ I1 q1
 rw[hs]at hA ⊢
 refine qCw (by show(false||(backTo cpos (starEach es X.env)).any (·.1))=false;rw[hplain]<;>rfl) (qC7 ?_)
 exact thn hA λus s2 ⟨vs,H2,I2,r2,q2⟩=>hm pins s2 σ H2 x vs v us Q I2 r1 r2 q2
end
noncomputable def MtM(X:Cx)(id:String)(r:V->List V->Hp->VK->Prop):Prop:=
 ∀(pins:List (Addr×Obj))(s:Shared)(σ:St)(H:Hp)(x:V)(xs:List V)(v:Value)(us:List Value)(Q:VK),Inv X pins σ H s->RelV x v->Vals xs us->r x xs H Q->
  wpAny (model X.prog X.w) X.A (call (.builtin id) (v::us)) (EP X pins σ Q) X.xe s
theorem Vals.one:∀{x:V}{us:List Value},Vals [x] us->∃u,us=[u]/\RelV x u
 | _,_,.cons r .nil=>⟨_,rfl,r⟩
theorem Vals.eraseIdx:∀{xs:List V}{us:List Value}(i:Nat),Vals xs us->Vals (xs.eraseIdx i) (us.eraseIdx i)
 | _,_,_,.nil=>.nil
 | _,_,0,.cons _ t=>t
 | _,_,i+1,.cons r t=>.cons r (Vals.eraseIdx i t)
theorem zxf:∀(l:List α)(i:Nat),(l.eraseIdx i).length<=l.length
 | [],_=>qQ _
 | _::_,0=>qCe _
 | _::r,i+1=>Nat.succ_le_succ (zxf r i)
section
variable{X:Cx}{pins:List (Addr×Obj)}{σ:St}{H:Hp}{s:Shared}{l b:Addr}{xs ys zs:List V}
theorem Inv.lset{its its':List Value}{f:Array Value->Array Value}(I:Inv X pins σ H s)(hH:H l=some (.lst xs))
  (e:s.heap.get? l=some {cls:=.type "list",data:=.seq its.toArray n}) (hf:f its.toArray=its'.toArray) (hv:Vals ys its') (hz:ys.length<=qV) :
  Inv X pins σ (upd H l (.lst ys)) {s with heap:=s.heap.update l (Obj.mapSeq f),toks:=t'}:=by
 have q:=PySem.IsL.update e f
 rw[hf]at q
 refine I.write (x:=l) (e:=l) (by rw[hH];exact trivial) (.inl rfl) (λb' u hb hu=>(qAX s.heap (Obj.mapSeq f) (qAk hb)).trans hu) ⟨_,q⟩ ?_
 exact⟨hz,its',_,hv,q⟩
theorem Inv.lnew{its:List Value}(I:Inv X pins σ H s)(hv:Vals ys its)(hz:ys.length<=qV) :
  Inv X pins σ (upd H s.heap.objs.size (.lst ys)) {s with heap:=s.heap.push {cls:=.type "list",data:=.seq its.toArray},toks:=t'}:=
 I.laid (λ_ _ q=>qF _ q) (qQ _) ⟨hz,its,0,hv,qd _ rfl⟩
theorem Inv.fresh(I:Inv X pins σ H s):H s.heap.objs.size=none:=I.hok.fresh (qQ _)
theorem Inv.lstM(I:Inv X pins σ H s)(hH:H l=some (.lst xs)):xs.length<=qV/\∃(its:List Value)(n:Nat),Vals xs its/\xs.length=its.length/\s.heap.get? l=some {cls:=.type "list",data:=.seq its.toArray n}:=by
 obtain⟨z,its,n,r,e⟩:=I.hok l _ hH
 exact⟨z,its,n,r,r.length,e⟩
theorem zala(h:n<=qV):Builtin.List.listTooLong n=false:=by
 unfold Builtin.List.listTooLong
 exact decide_eq_false (by omega)
end
section
variable{X:Cx}
noncomputable def zuw:V->List V->Hp->VK->Prop:=λx vs H Q=>∃l xs y,x=.ref l/\vs=[y]/\H l=some (.lst xs)/\xs.length<qV/\Q .non (upd H l (.lst (xs++[y])))
theorem zaw:MtM X "list.append" zuw:=by
 intro pins s σ H x vs v us Q I rx rv h
 obtain⟨l,xs,y,rfl,rfl,hH,hz,q⟩:=h
 cases rx
 obtain⟨u,rfl,ru⟩:=rv.one
 obtain⟨z,its,n,r,hl,e⟩:=I.lstM hH
 refine qCb F.slot_list_append ⟨_,e,rfl⟩ F.entry_list_append (F.args_list_append_2 _ _) (PySem.list_append l its.toArray n u (by rw[qW];omega)) ⟨e,?_⟩
 refine⟨.non,_,I.lset (its':=its++[u]) hH e (by simp) (r.append (.cons ru .nil)) ?_,rfl,q⟩
 rw[qZ,List.length_singleton]
 omega
noncomputable def zapt:V->List V->Hp->VK->Prop:=λx vs H Q=>∃l b xs zs,x=.ref l/\vs=[.ref b]/\H l=some (.lst xs)/\H b=some (.lst zs)/\xs.length+zs.length<=qV/\Q .non (upd H l (.lst (xs++zs)))
theorem zauh:MtM X "list.extend" zapt:=by
 intro pins s σ H x vs v us Q I rx rv h
 obtain⟨l,b,xs,zs,rfl,rfl,hH,hB,hz,q⟩:=h
 cases rx
 obtain⟨u,rfl,ru⟩:=rv.one
 cases ru
 obtain⟨z,its,n,r,hl,e⟩:=I.lstM hH
 obtain⟨z2,its2,n2,r2,hl2,e2⟩:=I.lstM hB
 have hsz:its.toArray.size+its2.toArray.size<=qV:=by rw[qW,qW];omega
 have hlong:¬(!its.toArray.isEmpty&&Builtin.List.listTooLong (its.toArray.size+its2.toArray.size))=true:=by
  rw[zala hsz,Bool.and_false]
  exact qP
 refine qCb F.slot_list_extend ⟨_,e,rfl⟩ F.entry_list_extend (F.args_list_extend_2 _ _)
  (AutoSeq1.list_extend_list_list_0 l its.toArray n b its2.toArray n2 hlong (by rw[qW];omega) (by omega)) ⟨e,e2,?_⟩
 refine⟨.non,_,I.lset (its':=its++its2) hH e (by simp) (r.append r2) ?_,rfl,q⟩
 rw[qZ]
 omega
noncomputable def zaob:V->List V->Hp->VK->Prop:=λx vs H Q=>∃l xs i k y,x=.ref l/\vs=[.int i]/\H l=some (.lst xs)/\-(2 ^ 63)<=i/\i<2 ^ 63/\seqIndex? i xs.length=some k/\xs[k]?=some y/\Q y (upd H l (.lst (xs.eraseIdx k)))
theorem zact:MtM X "list.pop" zaob:=by
 intro pins s σ H x vs v us Q I rx rv h
 obtain⟨l,xs,i,k,y,rfl,rfl,hH,h1,h2,hk,hy,q⟩:=h
 cases rx
 obtain⟨u,rfl,ru⟩:=rv.one
 obtain⟨t,rfl⟩:=ru
 obtain⟨z,its,n,r,hl,e⟩:=I.lstM hH
 obtain⟨w,hw,rw'⟩:=r.get hy
 refine qCb F.slot_list_pop ⟨_,e,rfl⟩ F.entry_list_pop (F.args_list_pop_2 _ _)
  (MeetsSeq.list_pop_at l its.toArray n i t k w (fitsIndex_both h1 h2) (by rw[qW,<- hl];exact hk) (by rw[<- Array.getElem?_toList];exact hw) (by rw[qW];omega)) ⟨e,?_⟩
 refine⟨y,_,I.lset (its':=its.eraseIdx k) hH e ?_ (r.eraseIdx k) ?_,rw',q⟩
 ·show its.toArray.eraseIdxIfInBounds k=(its.eraseIdx k).toArray
  rw[List.eraseIdxIfInBounds_toArray]
 ·have:=zxf xs k
  omega
noncomputable def rCat:R2:=λx y H Q=>∃l b xs zs,x=.ref l/\y=.ref b/\H l=some (.lst xs)/\H b=some (.lst zs)/\xs.length+zs.length<=qV/\∀p,H p=none->Q (.ref p) (upd H p (.lst (xs++zs)))
theorem zaui:OpR X (binaryOp .Add) rCat:=by
 intro pins s σ H x y v u Q I rx ry h
 obtain⟨l,b,xs,zs,rfl,rfl,hH,hB,hz,q⟩:=h
 cases rx
 cases ry
 obtain⟨z,its,n,r,hl,e⟩:=I.lstM hH
 obtain⟨z2,its2,n2,r2,hl2,e2⟩:=I.lstM hB
 refine PySem.P.add_list e e2 ?_ (by rw[qW,qW];omega)
 have ea:its.toArray++its2.toArray=(its++its2).toArray:=by simp
 rw[ea]
 exact⟨.ref _,_,I.lnew (t':=s.toks) (r.append r2) (by rw[qZ];omega),rfl,q _ I.fresh⟩
end
section
variable{prog:Program}{w:World}{A:Around}{E:Value->Shared->Prop}{s:Shared}
set_option maxRecDepth 100000 in
end
section
variable{κ:Type}[DecidableEq κ]
noncomputable def valV(kvs:List (κ×V))(k:κ):Option V:=(kvs.find? λkv=>decide (kv.1=k)).map (·.2)
noncomputable def putK(kvs:List (κ×V))(k:κ)(v:V):List (κ×V):=
 if(kvs.any λkv=>decide (kv.1=k))=true then kvs.map (λkv=>if kv.1=k then(kv.1,v)else kv)else kvs++[(k,v)]
theorem zpk{p:κ×V}(e:p.1=k):valV (p::r) k=some p.2:=by simp[valV,qAg,e]
theorem zpl{p:κ×V}(e:¬p.1=k):valV (p::r) k=valV r k:=by simp[valV,qAg,e]
theorem zacu(k:κ):∀kvs:List (κ×V),(kvs.any λkv=>decide (kv.1=k))=(valV kvs k).isSome
 | []=>rfl
 | p::r=>by
  rw[qAv]
  by_cases e:p.1=k
  ·simp only[zpk e,decide_eq_true e,Bool.true_or,qDC]
  ·rw[zpl e,decide_eq_false e,qCF];exact zacu k r
theorem zlk(kvs:List (κ×V))(k:κ)(v:V):(putK kvs k v).length<=kvs.length+1:=by
 unfold putK
 split
 ·rw[qC];omega
 ·rw[qZ,qz,qA2];omega
theorem RelO.isSome_eq{o:Option V}{u:Option Value}(r:RelO o u):o.isSome=u.isSome:=by
 cases o with
 | none=>cases u with
  | none=>rfl
  | some _=>exact(show False from r).elim
 | some _=>cases u with
  | none=>exact(show False from r).elim
  | some _=>rfl
theorem KV.val(r:KV kvs vs)(k:κ):RelO (valV kvs k) (valueAt vs k):=by
 unfold KV at r
 induction r with
 | nil=>exact True.intro
 | @cons p q ps qs h t ih=>
  obtain⟨h1,h2⟩:=h
  by_cases e:p.1=k
  ·have e':q.1=k:=h1.symm.trans e
   have b:valueAt (q::qs) k=some q.2:=by simp[valueAt,qAg,e']
   rw[zpk e,b];exact h2
  ·have e':¬q.1=k:=λz=>e (h1.trans z)
   have b:valueAt (q::qs) k=valueAt qs k:=by simp[valueAt,qAg,e']
   rw[zpl e,b];exact ih
theorem KV.any{kvs:List (κ×V)}{vs:List (κ×Value)}(r:KV kvs vs)(k:κ):(kvs.any λkv=>decide (kv.1=k))=vs.any λkv=>decide (kv.1=k):=by
 unfold KV at r
 induction r with
 | nil=>rfl
 | cons h t ih=>rw[qAv,qAv,ih,h.1]
theorem KV.repl{kvs:List (κ×V)}{vs:List (κ×Value)}(r:KV kvs vs)(k:κ)(ry:RelV y u) :
  KV (kvs.map λkv=>if kv.1=k then(kv.1,y)else kv) (vs.map λkv=>if kv.1=k then(kv.1,u)else kv):=by
 unfold KV at r ⊢
 induction r with
 | nil=>exact .nil
 | @cons p q ps qs h t ih=>
  rw[qh,qh]
  refine .cons ?_ ih
  obtain⟨h1,h2⟩:=h
  by_cases e:p.1=k
  ·rw[if_pos e,if_pos (h1.symm.trans e)];exact⟨h1,ry⟩
  ·rw[if_neg e,if_neg (λz=>e (h1.trans z))];exact⟨h1,h2⟩
theorem KV.put(r:KV kvs vs)(k:κ)(ry:RelV y u):KV (putK kvs k y) (stored vs k u):=by
 unfold putK stored
 rw[r.any k]
 by_cases e:(vs.any λkv=>decide (kv.1=k))=true
 ·rw[if_pos e,if_pos e];exact r.repl k ry
 ·rw[if_neg e,if_neg e];exact Paired.snoc r ⟨rfl,ry⟩
theorem KV.length{kvs:List (κ×V)}{vs:List (κ×Value)}(r:KV kvs vs):kvs.length=vs.length:=qB7 r
end
theorem zxg(r:RelV (kV k) u):(zbr P w).is k u=true:=by
 cases k with
 | inl i=>obtain⟨t,e⟩:=(show ∃t,u=Value.int i t from r);subst e;exact zaad P w i t
 | inr x=>obtain⟨t,e⟩:=(show ∃t,u=Value.str x t from r);subst e;exact zaae P w x t
theorem zxh:∀{ks:List Key}{us:List Value},Vals (ks.map kV) us->ItemsAre (zbr P w) ks us
 | [],_,r=>by rw[qBz]at r;cases r;exact .nil
 | k::ks,_,r=>by
  rw[qh]at r
  cases r with
  | cons h t=>exact .cons (zxg h) (zxh t)
noncomputable abbrev KT(H:Hp):List (List Key×V)->List (List Key×Addr×Value)->Prop:=Paired λp q=>p.1=q.1/\H q.2.1=some (.tup (p.1.map kV))/\RelV p.2 q.2.2
theorem KT.val(r:KT H kvs xs)(k:List Key):RelO (valV kvs k) ((atKey xs k).map (·.2)):=by
 induction r with
 | nil=>exact True.intro
 | @cons p q ps qs h t ih=>
  obtain⟨h1,_,h2⟩:=h
  by_cases e:p.1=k
  ·have e':q.1=k:=h1.symm.trans e
   have b:atKey (q::qs) k=some q.2:=by simp[atKey,qAg,e']
   rw[zpk e,b];exact h2
  ·have e':¬q.1=k:=λz=>e (h1.trans z)
   have b:atKey (q::qs) k=atKey qs k:=by simp[atKey,qAg,e']
   rw[zpl e,b];exact ih
theorem KT.repl{kvs:List (List Key×V)}{xs:List (List Key×Addr×Value)}(r:KT H kvs xs)(k:List Key)(ry:RelV y u) :
  KT H (kvs.map λkv=>if kv.1=k then(kv.1,y)else kv) (xs.map (putAt k u)):=by
 induction r with
 | nil=>exact .nil
 | @cons p q ps qs h t ih=>
  rw[qh,qh]
  refine .cons ?_ ih
  obtain⟨h1,h2,h3⟩:=h
  unfold putAt
  by_cases e:p.1=k
  ·rw[if_pos e,if_pos (h1.symm.trans e)];exact⟨h1,h2,ry⟩
  ·rw[if_neg e,if_neg (λz=>e (h1.trans z))];exact⟨h1,h2,h3⟩
theorem KT.put(r:KT H kvs xs)(k:List Key)(hb:H b=some (.tup (k.map kV)))(ry:RelV y u) :
  KT H (putK kvs k y) (storedH xs k b u):=by
 have e:(kvs.any λkv=>decide (kv.1=k))=(atKey xs k).isSome:=by
  rw[zacu,(r.val k).isSome_eq,qCE]
 unfold putK storedH
 rw[e]
 by_cases q:(atKey xs k).isSome=true
 ·rw[if_pos q,if_pos q];exact r.repl k ry
 ·rw[if_neg q,if_neg q];exact Paired.snoc r ⟨rfl,hb,ry⟩
theorem KT.keeps(r:KT H kvs xs)(ht:∀b ys,H b=some (.tup ys)->H' b=some (.tup ys)):KT H' kvs xs:=
 Paired.mapP r λ_ _ z=>⟨z.1,ht _ _ z.2.1,z.2.2⟩
section
variable{P:Program}{w:World}{H:Hp}{h:Heap}{a:Addr}
theorem zauj(ok:HOk P w H h)(e:Rd H a u):zdk P w H h a u:=e.ok ok
theorem zagk{kvs:List (Key×V)}(ok:HOk P w H h)(e:Rd H a (.dK kvs)):kvs.length<=qV/\(a==sysModules)=false/\∃vs,KV kvs vs/\h.DictOf (zbr P w) a vs:=
 show zdk P w H h a (.dK kvs)from zauj ok e
theorem zalb{kvs:List (Key×V)}(ok:HOk P w H h)(e:H a=some (.dK kvs)):kvs.length<=qV/\(a==sysModules)=false/\∃vs,KV kvs vs/\h.DictOf (zbr P w) a vs:=zagk ok (.inl e)
theorem zxi{ks:List Key}(ok:HOk P w H h)(e:H a=some (.tup (ks.map kV))):(tupleKind (zbr P w)).is h ks a:=by
 obtain⟨_,its,r,o,h1,h2,n,h3⟩:=(show zdk P w H h a (.tup (ks.map kV))from ok a _ e)
 exact⟨o,its.toArray,n,h1,h2,h3,by simpa using zxh r⟩
theorem zagl{kvs:List (List Key×V)}(ok:HOk P w H h)(e:Rd H a (.dT kvs)):kvs.length<=qV/\(a==sysModules)=false/\
  ∃xs,KT H kvs xs/\h.DictOfH (tupleKind (zbr P w)) a xs:=by
 obtain⟨z,y,xs,r,o,es,ep,h1,h2,h3,h4,h5⟩:=(show zdk P w H h a (.dT kvs)from zauj ok e)
 refine⟨z,y,xs,r,o,es,ep,h1,h2,h3,h4,λx hx=>?_,h5⟩
 have all:∀{l:List (List Key×V)}{m:List (List Key×Addr×Value)},KT H l m->∀x∈m,(tupleKind (zbr P w)).is h x.1 x.2.1:=by
  intro l m q
  induction q with
  | nil=>intro x hx;exact nomatch hx
  | @cons p q ps qs hq t ih=>
   intro x hx
   rcases qY.mp hx with e|hx
   ·subst e
    exact zxi ok (by rw[<- hq.1];exact hq.2.1)
   ·exact ih x hx
 exact all r x hx
theorem zaxm{kvs:List (List Key×V)}(ok:HOk P w H h)(e:H a=some (.dT kvs)):kvs.length<=qV/\(a==sysModules)=false/\
  ∃xs,KT H kvs xs/\h.DictOfH (tupleKind (zbr P w)) a xs:=zagl ok (.inl e)
end
noncomputable def DGet(H:Hp)(a:Addr)(y:V)(r:Option V):Prop:=
 (∃kvs k,Rd H a (.dK kvs)/\y=kV k/\r=valV kvs k)\/∃kvs k b,Rd H a (.dT kvs)/\y=.ref b/\H b=some (.tup (k.map kV))/\r=valV kvs k
noncomputable def DPut(H:Hp)(a:Addr)(y v:V)(H':Hp):Prop:=
 (∃kvs k,H a=some (.dK kvs)/\y=kV k/\kvs.length<qV/\H'=upd H a (.dK (putK kvs k v)))\/
 ∃kvs k b,H a=some (.dT kvs)/\y=.ref b/\H b=some (.tup (k.map kV))/\kvs.length<qV/\H'=upd H a (.dT (putK kvs k v))
theorem DGet.k{H:Hp}{a:Addr}{kvs:List (Key×V)}{k:Key}(e:H a=some (.dK kvs)):DGet H a (kV k) (valV kvs k):=.inl ⟨kvs,k,.inl e,rfl,rfl⟩
theorem DPut.k{H:Hp}{a:Addr}{kvs:List (Key×V)}{k:Key}{v:V}(e:H a=some (.dK kvs))(hl:kvs.length<qV):DPut H a (kV k) v (upd H a (.dK (putK kvs k v))):=.inl ⟨kvs,k,e,rfl,hl,rfl⟩
section
variable{X:Cx}{pins:List (Addr×Obj)}{σ:St}{H:Hp}{s:Shared}{a:Addr}{y v:V}{u r:Value}{o:Option V}{A:Around}{E:Value->Shared->Prop}
theorem Inv.big(I:Inv X pins σ H s):sysModules<s.heap.objs.size:=by
 have h:qj<s.heap.objs.size:=(I.mod.glob.keeps I.bk).lt
 exact Nat.lt_trans (by decide) h
theorem zagm{Q:Value->Shared->Prop}(hu:A.units+1<cLine)(I:Inv X pins σ H s)(g:DGet H a y (some v))(ry:RelV y u)(h:∀w' s',Inv X pins σ H s'->RelV v w'->Q w' s') :
  wpAny (model X.prog X.w) A (getItem (.ref a) u) Q E s:=by
 rcases g with⟨kvs,k,e,ey,l⟩|⟨kvs,k,b,e,ey,eb,l⟩
 ·subst ey
  obtain⟨z,hd,vs,rel,dd⟩:=zagk I.hok e
  obtain⟨w',hw,rw'⟩:=RelO.some_of (v:=v) (o:=valueAt vs k) (by rw[l];exact rel.val k)
  exact wpAny_getItem_of (zxg ry) dd.mapOf hw (h w' _ (I.tok _) rw')
 ·subst ey
  cases(show u=Value.ref b from ry)
  obtain⟨z,hd,xs,rel,dd⟩:=zagl I.hok e
  obtain⟨w',hw,rw'⟩:=RelO.some_of (v:=v) (o:=(atKey xs k).map (·.2)) (by rw[l];exact rel.val k)
  obtain⟨p,hp,hp2⟩:=qG.mp hw
  refine wpAny_getItem_heap (qBo hu) (zxi I.hok eb) dd hp ?_
  rw[hp2]
  exact h w' _ (I.tok _) rw'
theorem d_in{Q:Value->Shared->Prop}(hu:A.units+1<cLine)(I:Inv X pins σ H s)(g:DGet H a y o)(ry:RelV y u)(h:∀s',Inv X pins σ H s'->Q (.bool o.isSome) s') :
  wpAny (model X.prog X.w) A (compareOp .In u (.ref a)) Q E s:=by
 rcases g with⟨kvs,k,e,ey,l⟩|⟨kvs,k,b,e,ey,eb,l⟩
 ·subst ey
  obtain⟨z,hd,vs,rel,dd⟩:=zagk I.hok e
  refine wpAny_in_of (zxg ry) hd dd.mapOf ?_
  rw[<- (rel.val k).isSome_eq,<- l]
  exact h _ (I.tok _)
 ·subst ey
  cases(show u=Value.ref b from ry)
  obtain⟨z,hd,xs,rel,dd⟩:=zagl I.hok e
  refine wpAny_in_heap (qBo hu) (zxi I.hok eb) hd dd ?_
  have q:=(rel.val k).isSome_eq
  rw[qCE]at q
  rw[<- q,<- l]
  exact h _ (I.tok _)
theorem zapu{Q:Value->Shared->Prop}(hu:A.units+1<cLine)(I:Inv X pins σ H s)(g:DGet H a y o)(ry:RelV y u)(h:∀s',Inv X pins σ H s'->Q (.bool (!o.isSome)) s') :
  wpAny (model X.prog X.w) A (compareOp .NotIn u (.ref a)) Q E s:=by
 rcases g with⟨kvs,k,e,ey,l⟩|⟨kvs,k,b,e,ey,eb,l⟩
 ·subst ey
  obtain⟨z,hd,vs,rel,dd⟩:=zagk I.hok e
  refine wpAny_notIn_of (zxg ry) hd dd.mapOf ?_
  rw[<- (rel.val k).isSome_eq,<- l]
  exact h _ (I.tok _)
 ·subst ey
  cases(show u=Value.ref b from ry)
  obtain⟨z,hd,xs,rel,dd⟩:=zagl I.hok e
  refine wpAny_notIn_heap (qBo hu) (zxi I.hok eb) hd dd ?_
  have q:=(rel.val k).isSome_eq
  rw[qCE]at q
  rw[<- q,<- l]
  exact h _ (I.tok _)
theorem zux{h':Heap}(I:Inv X pins σ H s)(mu:Mut (H a))(hs:Heap.SameBut a s.heap h')(he:∃q,h'.get? a=some q)(new:zdk X.prog X.w (upd H a ob) h' a ob) :
  Inv X pins σ (upd H a ob) {s with heap:=h',toks:=t'}:=
 I.write (x:=a) (e:=a) mu (.inl rfl) (λb q hb z=>(hs.2 b hb).trans z) he new
theorem zacv{h':Heap}{kvs:List (Key×V)}(z:kvs.length<=qV)(hd:(a==sysModules)=false)(rel:KV kvs vs)(dd:h'.DictOf (zbr P w) a vs) :
  zdk P w H' h' a (.dK kvs):=⟨z,hd,vs,rel,dd⟩
theorem zagn{Q:Unit->Shared->Prop}(hu:A.units+1<cLine)(I:Inv X pins σ H s)(g:DPut H a y v H')(ry:RelV y u)(rv:RelV v r)(h:∀s',Inv X pins σ H' s'->Q () s') :
  wpAny (model X.prog X.w) A (setItem (.ref a) u r) Q E s:=by
 rcases g with⟨kvs,k,e,ey,l,eH⟩|⟨kvs,k,b,e,ey,eb,l,eH⟩
 ·subst ey eH
  obtain⟨z,hd,vs,rel,dd⟩:=zalb I.hok e
  have hz:vs.length<=qV:=by rw[<- rel.length];exact z
  have hl:(putK kvs k v).length<=qV:=by have:=zlk kvs k v;omega
  refine wpAny_setItem_pairs (hsz:=hz) (zxg ry) dd λh' dd' hs=>h _ ?_
  have he:∃q,h'.get? a=some q:=let⟨q,_,_,hq,_⟩:=dd';⟨q,hq⟩
  exact zux I (by rw[e];exact True.intro) hs he (zacv hl hd (rel.put k rv) dd')
 ·subst ey eH
  cases(show u=Value.ref b from ry)
  obtain⟨z,hd,xs,rel,dd⟩:=zaxm I.hok e
  have hz:xs.length<=qV:=by rw[<- qB7 rel];exact z
  have hl:(putK kvs k v).length<=qV:=by have:=zlk kvs k v;omega
  refine wpAny_setItem_heap (hsz:=hz) (qBo hu) (zxi I.hok eb) dd λh' dd' hs=>h _ ?_
  obtain⟨q,es,ep,hq,h2,h3,h4,_,h5⟩:=dd'
  refine zux I (by rw[e];exact True.intro) hs ⟨q,hq⟩ ⟨hl,hd,_,(rel.put k eb rv).keeps λc ys ec=>?_,q,es,ep,hq,h2,h3,h4,h5⟩
  rw[zap (zaxd ec e (λz=>nomatch z))]
  exact ec
end
noncomputable def NoSl(i:Expr):Prop:=∀ov iv,subscripted i false ov iv=operate [ov,iv] (getItem ov iv)
theorem zapv{prog:Program}{w:World}{A:Around}{E:Value->Shared->Prop}{s:Shared}{env:Env}{value slice:Expr}{pos:Pos}{T id:String}{Q:Value->Shared->Prop}
  (hl:typeLookup (.type T) "__getitem__"=pure (some (.builtin id)))(hs:NoSl slice)
  (h:wpAny (model prog w) A (eval value env) (λo s₁=>wpAny (model prog w) A (eval slice env) (λi s₂=>s₂.TypeIs o T/\wpAny (model prog w) A (getItem o i) Q E s₂) E s₁) E s) :
  wpAny (model prog w) A (eval (.Subscript value slice pos) env) Q E s:=by
 refine Subscript_ (qAq h (λo s₁ h₁=>qAq h₁ (λi s₂ h₂=>?_) λ_ _ x=>x) λ_ _ x=>x)
 obtain⟨hT,h₂⟩:=h₂
 unfold subscriptTail
 refine qE ?_
 rw[getitemInPython_of_ne hT.not_modules]
 refine qE (wpAny_specialOf hT hl ?_)
 have fin:wpAny (model prog w) A (subscripted slice false o i) (λr s₃=>wpAny (model prog w) A (letTemporaryGo value o r >>=λ_=>pure r) Q E s₃) E s₂:=by
  rw[hs o i]
  exact wpAny_operating (qAq h₂ (λr s₃ h₃=>qE (wpAny_letTemporaryGo (qR h₃))) λ_ _ x=>x)
 first
  | exact qR (qE fin)
  | exact qE (qR (qE fin))
  | exact qE fin
theorem zaal{s:Shared}(I:Inv X pins σ H s)(g:DGet H a y o):s.TypeIs (.ref a) "dict":=by
 rcases g with⟨kvs,k,e,_,_⟩|⟨kvs,k,b,e,_,_,_⟩
 ·obtain⟨_,_,vs,_,dd⟩:=zagk I.hok e
  exact dd.typeIs
 ·obtain⟨_,_,xs,_,dd⟩:=zagl I.hok e
  exact dd.typeIs
noncomputable def tDGet(td ty:TE):TE:=λσ H Q=>td σ H λx H1=>ty σ H1 λy H2=>∃a v,x=.ref a/\DGet H2 a y (some v)/\Q v H2
noncomputable def tDIn(ty td:TE):TE:=λσ H Q=>ty σ H λy H1=>td σ H1 λx H2=>∃a o,x=.ref a/\DGet H2 a y o/\Q (.bl o.isSome) H2
noncomputable def tDNotIn(ty td:TE):TE:=λσ H Q=>ty σ H λy H1=>td σ H1 λx H2=>∃a o,x=.ref a/\DGet H2 a y o/\Q (.bl (!o.isSome)) H2
noncomputable def sDPut(td ty tv:TE):TS:=λD σ H=>tv σ H λv H1=>td σ H1 λx H2=>ty σ H2 λy H3=>∃a H4,x=.ref a/\DPut H3 a y v H4/\D.nx σ H4
section
variable{X:Cx}{o i e value:Expr}{pos pos' tpos:Pos}{td ty tv:TE}
theorem zapw(hu:X.A.units+1<cLine)(ho:PE X o td)(hi:PE X i ty)(hs:NoSl i):PE X (.Subscript o i pos) (tDGet td ty):=by
 intro pins s σ H Q I h
 refine zapv PySem.F.slot_dict_getitem.lookup hs (thn (ho pins s σ H _ I h) λu s1 ⟨x,H1,I1,rx,q1⟩=>thn (hi pins s1 σ H1 _ I1 q1) λiv s2 ⟨y,H2,I2,ry,a,v,ex,g,q2⟩=>?_)
 subst ex
 obtain rfl:u=Value.ref a:=rx
 exact⟨zaal I2 g,zagm hu I2 g ry λw' s3 I3 rw'=>⟨v,H2,I3,rw',q2⟩⟩
theorem zauk(hu:X.A.units+1<cLine)(hi:PE X i ty)(ho:PE X o td):PC X .In i o (tDIn ty td):=by
 intro pins s σ H Q I h
 refine thn (hi pins s σ H _ I h) λiv s1 ⟨y,H1,I1,ry,q1⟩=>thn (ho pins s1 σ H1 _ I1 q1) λu s2 ⟨x,H2,I2,rx,a,ov,ex,g,q2⟩=>?_
 subst ex
 obtain rfl:u=Value.ref a:=rx
 exact d_in hu I2 g ry λs3 I3=>⟨.bl ov.isSome,H2,I3,rfl,q2⟩
theorem zago(hu:X.A.units+1<cLine)(hi:PE X i ty)(ho:PE X o td):PC X .NotIn i o (tDNotIn ty td):=by
 intro pins s σ H Q I h
 refine thn (hi pins s σ H _ I h) λiv s1 ⟨y,H1,I1,ry,q1⟩=>thn (ho pins s1 σ H1 _ I1 q1) λu s2 ⟨x,H2,I2,rx,a,ov,ex,g,q2⟩=>?_
 subst ex
 obtain rfl:u=Value.ref a:=rx
 exact zapu hu I2 g ry λs3 I3=>⟨.bl (!ov.isSome),H2,I3,rfl,q2⟩
theorem zapx(hu:X.A.units+1<cLine)(ho:PE X o td)(hi:PE X i ty)(hv:PE X value tv)(hs:swapsWith value (some (.Subscript o i pos')) pos.line X.env=pure false) :
  PS X (.Assign [.Subscript o i pos'] value pos) (sDPut td ty tv):=by
 intro pins s σ H D I h
 refine wpAny_Assign_Subscript (thn (hv pins s σ H _ I h) λr s1 ⟨v,H1,I1,rv,q1⟩=>thn (ho pins s1 σ H1 _ I1 q1) λu s2 ⟨x,H2,I2,rx,q2⟩=>thn (hi pins s2 σ H2 _ I2 q2) λiv s3 ⟨y,H3,I3,ry,a,H4,ex,g,q3⟩=>?_) hs
 subst ex
 obtain rfl:u=Value.ref a:=rx
 exact zagn hu I3 g ry rv λs4 I4=>⟨σ,H4,I4,q3⟩
end
theorem zacw(h:Heap)(hb:sysModules<h.objs.size):zdk P w H (h.push {cls:=.type "dict",data:=.dict #[]}) h.objs.size (.dK []):=
 ⟨qAK _,beq_eq_false_iff_ne.mpr (qAk (qr hb)),[],.nil,qC2 h⟩
noncomputable def tDNewK:TE:=λ_ H Q=>∀p,H p=none->Q (.ref p) (upd H p (.dK []))
section
variable{X:Cx}{pos:Pos}
theorem zalc:PE X (.Dict [] [] pos) tDNewK:=λpins s σ H Q I h=>
 wpAny_Dict_empty ⟨.ref s.heap.objs.size,_,I.laid (a:=s.heap.objs.size) (o:=.dK []) (t':=s.toks) (λ_ _ q=>qF _ q) (qQ _) (zacw s.heap I.big),rfl,h _ (I.hok.fresh (qQ _))⟩
end
noncomputable def zagp:List (TE×TE)->St->Hp->(List (V×V)->Hp->Prop)->Prop
 | [],_,H,Q=>Q [] H
 | (tk,tv)::r,σ,H,Q=>tk σ H λx H1=>tv σ H1 λy H2=>zagp r σ H2 λps H3=>Q ((x,y)::ps) H3
noncomputable abbrev VV:List (V×V)->List (Value×Value)->Prop:=Paired λp q=>RelV p.1 q.1/\RelV p.2 q.2
noncomputable def PPs(X:Cx)(pos:Pos)(keys:List (Option Expr))(values:List Expr)(trs:List (TE×TE)):Prop:=
 ∀(pins:List (Addr×Obj))(s:Shared)(σ:St)(H:Hp)(Q:List (V×V)->Hp->Prop),Inv X pins σ H s->zagp trs σ H Q->
  wpAny (model X.prog X.w) X.A (evalPairs (pairTrees keys values X.env pos)) (λvs s'=>∃ps H',Inv X pins σ H' s'/\VV ps vs/\Q ps H') X.xe s
theorem zapy:PPs X pos [] [] []:=λpins s σ H Q I h=>pairTrees_nil_walk ⟨[],H,I,.nil,h⟩
theorem zald(hk:PE X k tk)(hv:PE X v tv)(hr:PPs X pos ks vs trs) :
  PPs X pos (some k::ks) (v::vs) ((tk,tv)::trs):=λpins s σ H Q I h=>
 pairTrees_cons_walk (thn (hk pins s σ H _ I h) λu s1 ⟨x,H1,I1,rx,q1⟩=>thn (hv pins s1 σ H1 _ I1 q1) λw2 s2 ⟨y,H2,I2,ry,q2⟩=>
  thn (hr pins s2 σ H2 _ I2 q2) λws s3 ⟨ps,H3,I3,rel,q3⟩=>⟨(x,y)::ps,H3,I3,.cons ⟨rx,ry⟩ rel,q3⟩)
noncomputable def zgy(kvs more:List (Key×V)):List (Key×V):=more.foldl (λacc kv=>putK acc kv.1 kv.2) kvs
theorem KV.merge:∀{more:List (Key×V)}{rs:List (Key×Value)}{kvs:List (Key×V)}{vs:List (Key×Value)},KV more rs->KV kvs vs->KV (zgy kvs more) (merged vs rs):=by
 intro more rs kvs vs r
 unfold KV at r
 induction r generalizing kvs vs with
 | nil=>intro q;exact q
 | @cons p q ps qs h t ih=>
  intro r0
  have e:KV (putK kvs p.1 p.2) (stored vs q.1 q.2):=by
   have:=r0.put p.1 h.2
   rw[<- h.1];exact this
  exact ih e
theorem zfw:∀(more kvs:List (Key×V)),(zgy kvs more).length<=kvs.length+more.length
 | [],kvs=>by show kvs.length<=kvs.length+0;omega
 | p::r,kvs=>by
  have h1:=zfw r (putK kvs p.1 p.2)
  have h2:=zlk kvs p.1 p.2
  show(zgy (putK kvs p.1 p.2) r).length<=_
  rw[qz];omega
theorem zth:∀{kvs:List (Key×V)}{ws:List (Value×Value)},VV (kvs.map λkv=>(kV kv.1,kv.2)) ws->∃rs,Carries (zbr P w) ws rs/\KV kvs rs
 | [],_,r=>by rw[qBz]at r;cases r;exact⟨[],True.intro,.nil⟩
 | p::kvs,_,r=>by
  rw[qh]at r
  cases r with
  | @cons a b as bs h t=>
   obtain⟨rs,c,q⟩:=zth (P:=P) (w:=w) t
   obtain⟨b1,b2⟩:=b
   exact⟨(p.1,b2)::rs,⟨zxg h.1,rfl,c⟩,.cons ⟨rfl,h.2⟩ q⟩
noncomputable def tDisp(trs:List (TE×TE)):TE:=λσ H Q=>∀p,H p=none->zagp trs σ (upd H p (.dK [])) λps H2=>H2 p=some (.dK [])/\∃kvs:List (Key×V),ps=kvs.map (λkv=>(kV kv.1,kv.2))/\kvs.length<=15/\Q (.ref p) (upd H2 p (.dK (zgy [] kvs)))
theorem zapz{keys:List (Option Expr)}{values:List Expr}(h:PPs X pos keys values trs)(hall:keys.all (·.isSome)=true)(hl:keys.length=values.length)(h0:keys≠[])
  (h15:keys.length<=15):PE X (.Dict keys values pos) (tDisp trs):=by
 intro pins s σ H Q I q
 have hn:=I.hok.fresh (qQ s.heap.objs.size)
 have I1:=I.laid (a:=s.heap.objs.size) (o:=.dK []) (h':=s.heap.push {cls:=.type "dict",data:=.dict #[]}) (t':=s.toks) (λ_ _ q=>qF _ q) (qQ _) (zacw s.heap I.big)
 refine wpAny_Dict_walk (knd:=zbr X.prog X.w) hall hl h0 h15 (thn (h pins _ σ _ _ I1 (q _ hn)) λws s2 ⟨ps,H2,I2,rel,e,kvs,ep,lk,q2⟩=>?_)
 subst ep
 obtain⟨rs,c,rk⟩:=zth (P:=X.prog) (w:=X.w) rel
 obtain⟨z,hd,vs0,r0,dd⟩:=zalb I2.hok e
 cases r0
 refine⟨rs,c,dd,λh' dd' hs=>⟨.ref s.heap.objs.size,_,?_,rfl,q2⟩⟩
 have hz:(zgy [] kvs).length<=qV:=by
  have h1:=zfw kvs []
  rw[qA2]at h1
  rw[qA6];omega
 have he:∃q,h'.get? s.heap.objs.size=some q:=let⟨q,_,_,hq,_⟩:=dd';⟨q,hq⟩
 exact zux I2 (by rw[e];exact True.intro) hs he (zacv hz hd (rk.merge .nil) dd')
set_option genInjectivity false in
set_option genInjectivity false in
section
variable{X:Cx}{pins:List (Addr×Obj)}{σ:St}{H:Hp}{s:Shared}{a:Addr}{y d:V}{u r:Value}{o:Option V}{A:Around}{E:Value->Shared->Prop}
end
end L2
namespace Att
open PySem PySem.W PySem.Calls PyProof.Rows
theorem zpu:∀(ns:List Int)(vs:List Value),WellAll P h vs (ns.map WData.int)->IntsAre vs ns:=by
 intro ns
 induction ns with
 | nil=>
  intro vs w
  rw[qBz]at w
  cases w
  exact .nil
 | cons n ns ih=>
  intro vs w
  rw[qh]at w
  cases w with
  | cons a b=>
   cases a
   exact .cons _ _ (ih _ b)
theorem zagq{l:OpenLaw}(hn:l.most=some n){h:Heap}
  (hpre:l.row.toRowW.claim.pre args=true)(hwl:WellAll P h vals args) :
  ∃a vs ns,vals=[Value.ref a]/\args=[WData.list (ns.map WData.int)]/\h.get? a=some {cls:=.type "list",data:=.seq vs.toArray}/\IntsAre vs ns/\ns.length<=n:=by
 have hsh:WShape.hasAll [] args [.list .int]=true:=(pre_splitW hpre).1
 have hc:l.pre.holds [] {args:=args}=true:=(pre_splitW hpre).2
 obtain⟨d,r,rfl,h1,h2⟩:=hasAllW_cons hsh
 obtain rfl:=hasAllW_nil h2
 obtain⟨xs,rfl,h3⟩:=hasW_list h1
 obtain⟨ns,rfl⟩:=items_int h3
 have hlen:ns.length<=n:=by
  unfold OpenLaw.pre at hc
  have h4:(WTm.not (.lt (.lit (.int (n:Int))) (.len (.arg 0)))).holds [] {args:=[.list (ns.map .int)]}=true:=by
   have h4:=(holds_andW hc).1
   rw[hn]at h4
   exact h4
  have h5:=condW_of h4 (w_not (w_lt w_lit (w_len_list (w_arg rfl))))
  rw[qC]at h5
  refine qCR λq=>?_
  have q':(n:Int)<((ns.length:Nat):Int):=by omega
  first
   | (rw[decide_eq_true q']at h5;exact absurd h5 (by decide))
   | (simp at h5;omega)
 cases hwl with
 | cons w1 w2=>
  cases w2
  cases w1 with
  | list ho hall=>exact⟨_,_,ns,rfl,rfl,ho,zpu ns _ hall,hlen⟩
theorem zagr(l:OpenLaw)(args:List WData):l.row.toRowW.claim.post args (.bool true) args=true:=
 postW_of (r:=l.row.toRowW) (X:=(true==true))
  (show WShape.has [] (.bool true) .bool=true by first|rfl|decide|simp[WShape.has,WShape.arms,WShape.armsAll])
  (show(WTm.eq .res (.lit (.bool true))).value [] {args:=args,res:=some (.bool true),after:=args}=some (.bool (true==true))from w_eq_bool (w_res rfl) w_lit) rfl
theorem attach_call{l:OpenLaw}{XP:(Str->Option Value)->Heap->Prop}{YP:World->Heap->Prop}{d:DefRec}
  (hn:l.most=some n)(hdf:d.params.defaults=[])
  (call:∀(w:World)(s₀ s₁:Shared)(mg mb:Str->Option Value)(fa:Addr)(o:Obj)(pm cd doc:Value)(a:Addr)(vs:List Value)(ns:List Int),
   Ground q loose [] XP w s₀ mg mb s₁.heap->YP w s₁.heap->
   s₁.heap.get? fa=some o->o.data=.func (docDef d.name d.params d.body d.scope pm cd doc)->s₁.heap.CodeRec cd d.name->mg d.name=some (.ref fa)->
   s₁.heap.get? a=some {cls:=.type "list",data:=.seq vs.toArray}->IntsAre vs ns->ns.length<=n->s₁.gens=#[]->
   codeAny (model l.prog w) callerA (.call (.ref fa) ⟨[.ref a],[]⟩) (λr s'=>r=.ok (.ret (.bool true))/\OldK s₁.heap s'.heap/\s'.os=s₁.os/\AllBare s'.gens) s₁) :
  WalkO q loose XP YP l.row.toRowW d [] (λf vs=>PySem.call f vs):=by
 intro w s₀ s₁ mg mb G Y fa o pm cd doc dV kV ho hd hcd hD hmg hg args vals as hpre hlay hrd hwl hlo
 obtain rfl:dV=.none:=Dflts.none hD hdf
 obtain rfl:kV=.none:=Dflts.noKw hD
 obtain⟨a,vs,ns,rfl,rfl,hobj,hints,hlen⟩:=zagq hn hpre hwl
 refine enter_call (qA0 (call w s₀ s₁ mg mb fa o pm cd doc a vs ns G Y ho (fd_plain hd) hcd hmg hobj hints hlen hg) λr s' hq=>?_)
 obtain⟨rfl,h2,h3,h4⟩:=hq
 exact⟨.inl ⟨.bool true,.bool true,[],rfl,λ_=>rfl,.bool true,zagr l _,λ_=>⟨List.Pairwise.nil,λ_ hm=>(nomatch hm)⟩⟩,h2,h3,h4⟩
end Att
namespace L2
open PySem PySem.Spec PyProof.Rows
theorem zxj:∀{vs:List Value}{ns:List Int},IntsAre vs ns->Vals (ns.map V.int) vs
 | _,_,.nil=>.nil
 | _,_,.cons n t h=>.cons ⟨t,rfl⟩ (zxj h)
end L2
namespace L2
open PySem PySem.Spec PyProof.Rows
noncomputable def zaqa(s:Stmt)(j:Nat):Stmt:=match s with
 | .ClassDef _ _ _ body _ _ _ _ _ _ _=>body.getD j (.Pass ⟨0,0,0,0⟩)
 | _=>.Pass ⟨0,0,0,0⟩
noncomputable def zep(s:Stmt):Arguments:=match s with
 | .FunctionDef _ a _ _ _ _ _ _ _ _=>a
 | _=>{posonlyargs:=[],args:=[],vararg:=none,kwonlyargs:=[],kw_defaults:=[],kwarg:=none,defaults:=[]}
noncomputable def zcy(s:Stmt):List Stmt:=match s with
 | .FunctionDef _ _ b _ _ _ _ _ _ _=>b
 | _=>[]
noncomputable def zaj(s:Stmt):Scope:=match s with
 | .FunctionDef _ _ _ _ _ _ sc _ _ _=>sc
 | _=>{kind:=.function,names:=[],isGenerator:=false,isCoroutine:=false}
noncomputable abbrev CX0:CXT:=λ_ _ _ _ _ _=>False
noncomputable abbrev E0:XK:=λ_ _ _=>False
theorem zaxn:ztg CX0 X E0:=λ_ _ _ _ _ _ _ h=>h.elim
set_option genInjectivity false in
structure Fun(K:qB)(x qual:Str)(st:Stmt)(f:Addr)(fd:qk):Prop where
 ex:∃(oc:Value)(od:Option Addr)(kV doc pm:Value)(an:Option Addr)(cdv ct:Value)(osl:Array (Option Value)),
  fd=qAS x qual (zep st) (zcy st) (zaj st) .none kV doc pm an cdv ct/\K.lookup f=some ⟨oc,od,.func fd,osl⟩/\qBc K cdv qual=true
 kp:qAj K (.ref f)=true
section
variable{P:Program}{w:World}{K:qB}{mg:Str->Option Value}{base:Heap}
theorem Fun.ok{x qual:Str}{st:Stmt}{f:Addr}{fd:qk}{N ps:List Str}{k:Nat}{sp:Sp}(F:Fun K x qual st f fd)(S:FnScope N ps (zaj st))(len:∀vs H Q E,sp vs H Q E->vs.length=ps.length)
  (hbody:∀(cdv:Value)(A:Around)(outer:List Env)(s:Shared)(H:Hp)(vs:List V)(Q:VK)(E:XK),Room k (A.deeper (envOfC qual (zaj st) s.heap.objs.size f cdv))->sp vs H Q E->
   ∃t,PSs (cxOf CX0 P w K mg base N qual (zaj st) f cdv A outer s H E).nox (zcy st) t/\t {nx:=λ_ H'=>Q .non H',rt:=Q} (zcg N vs) H):FnOk P w K mg base CX0 (k+1) f fd ps sp:=by
 obtain⟨oc,od,kV,doc,pm,an,cdv,ct,osl,rfl,lk,hcd⟩:=F.ex
 refine zaxk lk hcd S len λA outer s H vs Q E hr hsp=>?_
 obtain⟨t,h,q⟩:=hbody cdv A outer s H vs Q E hr hsp
 exact⟨t,h.nox,q⟩
theorem Fun.binds{x qual:Str}{st:Stmt}{f:Addr}{fd:qk}{ps:List Str}(F:Fun K x qual st f fd)
  (h:∀(kV doc pm:Value) (an:Option Addr) (cdv ct:Value) (us:List Value),us.length=ps.length->bindArgs (qAS x qual (zep st) (zcy st) (zaj st) .none kV doc pm an cdv ct) ⟨us,[]⟩=pure (ps.zip us)):zij K fd ps []:=by
 obtain⟨oc,od,kV,doc,pm,an,cdv,ct,osl,rfl,lk,hcd⟩:=F.ex
 exact .all (h kV doc pm an cdv ct)
theorem zaoc{x qual:Str}{st:Stmt}{f:Addr}{oc:Value}{od an:Option Addr}{osl:Array (Option Value)}{kV doc pm cdv ct:Value}(l:K.lookup f=some ⟨oc,od,.func (qAS x qual (zep st) (zcy st) (zaj st) .none kV doc pm an cdv ct),osl⟩)
  (c:qBc K cdv qual=true) (k:qAj K (.ref f)=true):Fun K x qual st f (qAS x qual (zep st) (zcy st) (zaj st) .none kV doc pm an cdv ct):=⟨⟨oc,od,kV,doc,pm,an,cdv,ct,osl,rfl,l,c⟩,k⟩
end
theorem zfl{A:Around}(hr:Room k A):A.units+1<cLine:=qBi (Nat.add_le_add_left (by decide:1<=64) _) hr.units
section
variable{X:Cx}
theorem pv(i:Nat)(hN:X.N[i]?=some x:=by rfl)(hv:visB X.env.scope x=true:=by rfl)(hd:(x==("__debug__":Str))=false:=by decide)
  (hcd:(x==("__classdict__":Str))=false:=by decide):PE X (.Name x pos) (tVar i):=zacn hN (visB.of hv) hd hcd
end
theorem iteF{A B:Prop}(h:B):if false=true then A else B:=by
 rw[if_neg qP]
 exact h
theorem iteT{A B:Prop}(h:A):if true=true then A else B:=by
 rw[if_pos rfl]
 exact h
theorem ite2{c A B:Prop}[Decidable c](h1:c->A)(h2:¬c->B):if c then A else B:=by
 by_cases h:c
 ·rw[if_pos h]
  exact h1 h
 ·rw[if_neg h]
  exact h2 h
noncomputable def Same(H H':Hp):Prop:=∀b o,H b=some o->H' b=some o
theorem Same.refl(H:Hp):Same H H:=λ_ _ h=>h
theorem Same.trans(a:Same H H1)(b:Same H1 H2):Same H H2:=λc o h=>b c o (a c o h)
theorem Same.free(e:Same H H')(h:H' l=Option.none):H l=Option.none:=by
 cases q:H l with
 | none=>rfl
 | some o=>
  rw[e l o q]at h
  cases h
theorem Same.seq{K:qB}{H H':Hp}{a:Addr}{xs:List V}(e:Same H H')(h:SqL K H a xs):SqL K H' a xs:=by
 rcases h with(h|⟨o,h⟩)|h
 ·exact .inl (.inl (e _ _ h))
 ·exact .inl (.inr ⟨o,e _ _ h⟩)
 ·exact .inr h
section
variable{κ:Type}[DecidableEq κ]
theorem zaam:∀{l:List κ}{k:κ},l.Nodup->¬k∈l->(l++[k]).Nodup
 | [],k,_,_=>by simp
 | a::r,k,h,hk=>by
  obtain⟨h1,h2⟩:=qAe.mp h
  show(a::(r++[k])).Nodup
  refine qAe.mpr ⟨λm=>?_,zaam h2 λm=>hk (qY.mpr (Or.inr m))⟩
  rcases qAf.mp m with q|q
  ·exact h1 q
  ·exact hk (qY.mpr (Or.inl (qAU.mp q).symm))
end
end L2
set_option maxHeartbeats 4000000
namespace L2
open PySem PySem.Spec PyProof.Rows
noncomputable def clos(cells:List (Str×Addr)):List (Str×NameKind)->List (Str×Addr)->List (Str×Addr)
 | [],acc=>acc
 | (n,k)::r,acc=>if k==.free then clos cells r ((n,(cells.lookup n).getD 0)::acc)else clos cells r acc
theorem zuy{cells:List (Str×Addr)}:∀{names:List (Str×NameKind)}{acc:List (Str×Addr)},(∀y∈names,y.2=.free->∃c,cells.lookup y.1=some c)->∀p∈clos cells names acc,p∈acc\/((p.1,NameKind.free)∈names/\cells.lookup p.1=some p.2)
 | [],acc,_,p,hp=>.inl hp
 | (n,k)::r,acc,h,p,hp=>by
  unfold clos at hp
  have hr:∀y∈r,y.2=.free->∃c,cells.lookup y.1=some c:=λy hy=>h y (qN _ hy)
  split at hp
  ·rename_i hk
   rcases zuy hr p hp with q|q
   ·rcases qY.mp q with q|q
    ·subst q
     have hk':k=.free:=by simpa using hk
     subst hk'
     obtain⟨c,hc⟩:=h (n,.free) qp rfl
     exact .inr ⟨qp,by show cells.lookup n=some ((cells.lookup n).getD 0);rw[hc];rfl⟩
    ·exact .inl q
   ·exact .inr ⟨qN _ q.1,q.2⟩
  ·rcases zuy hr p hp with q|q
   ·exact .inl q
   ·exact .inr ⟨qN _ q.1,q.2⟩
theorem zuz:∀{names:List (Str×NameKind)}{acc:List (Str×Addr)},∀p∈acc,p∈clos cells names acc
 | [],acc,p,hp=>hp
 | (n,k)::r,acc,p,hp=>by
  unfold clos
  split
  ·exact zuz p (qN _ hp)
  ·exact zuz p hp
theorem zva:∀{names:List (Str×NameKind)}{acc:List (Str×Addr)},(x,NameKind.free)∈names->∃c,(x,c)∈clos cells names acc
 | [],_,h=>by simp at h
 | (n,k)::r,acc,h=>by
  unfold clos
  rcases qY.mp h with e|h
  ·cases e
   rw[if_pos (show(NameKind.free==NameKind.free)=true by decide)]
   exact⟨_,zuz _ qp⟩
  ·split
   ·exact zva h
   ·exact zva h
theorem zme:∀{l:List (Str×α)},(x,c)∈l->∃c',l.lookup x=some c'
 | [],h=>by simp at h
 | (k,v)::r,h=>by
  rw[qt]
  cases hb:x==k with
  | true=>exact⟨v,rfl⟩
  | false=>
   rcases qY.mp h with e|h
   ·cases e;simp at hb
   ·exact zme h
theorem zmf{scope:Scope}{env:Env}(h:∀y∈scope.names,y.2=.free->∃c,env.cells.lookup y.1=some c):closureFor scope env=pure (clos env.cells scope.names []):=by
 unfold closureFor
 have key:∀(names:List (Str×NameKind))(acc:List (Str×Addr)),(∀y∈names,y.2=.free->∃c,env.cells.lookup y.1=some c)->
   (forIn names acc (λ(x:Str×NameKind) (r:List (Str×Addr))=>(if(x.2==.free)=true then(do let a <- cellOf env x.1;pure (ForInStep.yield ((x.1,a)::r)))else pure (ForInStep.yield r):Sem (ForInStep (List (Str×Addr))))))=pure (clos env.cells names acc):=by
  intro names
  induction names with
  | nil=>intro acc _;rfl
  | cons y r ih=>
   intro acc hy
   obtain⟨n,k⟩:=y
   have hr:=λy (hm:y∈r)=>hy y (qN _ hm)
   rw[List.forIn_cons]
   unfold clos
   cases hk:(k==NameKind.free)with
   | true=>
    have hk':k=.free:=by simpa using hk
    subst hk'
    obtain⟨c,hc⟩:=hy (n,.free) qp rfl
    have e1:cellOf env n=pure c:=by unfold cellOf;rw[hc]
    simp only[if_true]
    have hc':env.cells.lookup n=some c:=hc
    rw[e1,hc']
    simp only[pure_bind,Option.getD_some]
    exact ih _ hr
   | false=>
    simp only[qBL,if_false,pure_bind]
    exact ih _ hr
 simpa using key scope.names [] h
theorem zfx:∀(names:List (Str×NameKind))(n:Nat)(acc:List (Str×Addr)),cellsFrom n names acc=cellsFrom n names []++acc
 | [],_,_=>rfl
 | (name,kind)::r,n,acc=>by
  unfold cellsFrom
  split
  ·rw[zfx r (n+1) ((name,n)::acc),zfx r (n+1) [(name,n)],qBM];rfl
  ·exact zfx r n acc
theorem zfy:∀(names:List (Str×NameKind))(n:Nat)(acc:List (Str×Addr)),(x,c)∈cellsFrom n names acc->(x,c)∈acc\/(x,NameKind.cell)∈names
 | [],_,_,h=>.inl h
 | (name,kind)::r,n,acc,h=>by
  unfold cellsFrom at h
  split at h
  ·rename_i hk
   have hk':kind=.cell:=by simpa using hk
   subst hk'
   rcases zfy r _ _ h with q|q
   ·rcases qY.mp q with q|q
    ·cases q;exact .inr qp
    ·exact .inl q
   ·exact .inr (qN _ q)
  ·rcases zfy r _ _ h with q|q
   ·exact .inl q
   ·exact .inr (qN _ q)
theorem zkt:∀{l r:List (Str×α)},(l++r).lookup x=(l.lookup x).or (r.lookup x)
 | [],_=>by simp
 | (k,v)::l,r=>by
  rw[qCO,qt,qt]
  cases x==k with
  | true=>rfl
  | false=>exact zkt
theorem zfj{env:Env}:∀{names:List (Str×NameKind)},
  (names.map λ(n,k)=>if(k==NameKind.free&&env.scope.kind==.function&&env.kindOf n==some .cell)then(n,NameKind.cell)else(n,k)).lookup x=some k'->
  ∃k,names.lookup x=some k/\(k'=k\/(k=.free/\k'=.cell))
 | [],h=>by simp at h
 | (n,k)::r,h=>by
  rw[qh]at h
  by_cases hc:(k==NameKind.free&&env.scope.kind==.function&&env.kindOf n==some .cell)=true
  ·simp only[hc,if_true]at h
   rw[qt]at h ⊢
   cases hx:x==n with
   | true=>
    rw[hx]at h
    have hk:k=.free:=by simp at hc;exact hc.1.1
    exact⟨k,rfl,.inr ⟨hk,(qa h).symm⟩⟩
   | false=>rw[hx]at h;exact zfj h
  ·simp only[hc,qBL,if_false]at h
   rw[qt]at h ⊢
   cases hx:x==n with
   | true=>rw[hx]at h;exact⟨k,rfl,.inl (qa h).symm⟩
   | false=>rw[hx]at h;exact zfj h
theorem zjq{env:Env}:∀{names:List (Str×NameKind)},names.lookup x=some .free->
  ((names.map λ(n,k)=>if(k==NameKind.free&&env.scope.kind==.function&&env.kindOf n==some .cell)then(n,NameKind.cell)else(n,k)).lookup x=some .free\/
   (names.map λ(n,k)=>if(k==NameKind.free&&env.scope.kind==.function&&env.kindOf n==some .cell)then(n,NameKind.cell)else(n,k)).lookup x=some .cell)
 | [],h=>by simp at h
 | (n,k)::r,h=>by
  rw[qh]
  rw[qt]at h
  by_cases hc:(k==NameKind.free&&env.scope.kind==.function&&env.kindOf n==some .cell)=true
  ·simp only[hc,if_true]
   rw[qt]
   cases hx:x==n with
   | true=>exact .inr rfl
   | false=>rw[hx]at h;exact zjq h
  ·simp only[hc,qBL,if_false]
   rw[qt]
   cases hx:x==n with
   | true=>rw[hx]at h;exact .inl h
   | false=>rw[hx]at h;exact zjq h
theorem zaej{E:Value->Shared->Prop}{s:Shared}{scope:Scope}{env:Env}{Q:Env->Shared->Prop}
  (hQ:∀h',(∀b o,s.heap.get? b=some o->h'.get? b=some o)->h'.Ns s.heap.objs.size (λ_=>none)->(∀n c,(n,c)∈cellsFrom (s.heap.objs.size+1) scope.names []->h'.IsCell c none/\s.heap.objs.size+1<=c)->
   ((cellsFrom (s.heap.objs.size+1) scope.names []).Pairwise λx y=>x.2≠y.2)->
   Q {scope:=scope,locals:=s.heap.objs.size,globals:=globals,cells:=cellsFrom (s.heap.objs.size+1) scope.names []++cl,qual:=qual,func:=none,code:=env.code,frame:=env.frame,builtins:=env.builtins} {s with heap:=h'}) :
  wpAny M A (newFunctionEnv scope globals cl [] qual none .none (some env)) Q E s:=by
 simp only[newFunctionEnv,qDC,if_true]
 refine qE (wpAny_alloc ?_)
 refine qE (wpAny_layCells _ (λname kind cells=>by cases hkc:kind==NameKind.cell<;>simp[hkc]) _ _ _ _ ?_)
 have ok:=cellsFrom_ok scope.names (s.heap.push {cls:=.type "dict",data:=.dict #[]}) (s.heap.objs.size+1) [] ⟨λ_ _ hm=>(nomatch hm),List.Pairwise.nil⟩ (by rw[qBj];exact qQ _)
 rw[qBj]at ok
 rw[show({s with heap:=s.heap.push {cls:=.type "dict",data:=.dict #[]}}:Shared).heap.objs.size=s.heap.objs.size+1 from qBj ..]
 rw[zfx]
 refine qE ?_
 refine qR (qR ?_)
 exact hQ _ (λb o e=>pushCells_keeps _ _ b o (qF _ e)) ((Heap.Ns.new s.heap (.type "dict")).keeps (pushCells_keeps _ _)) ok.empty ok.apart
noncomputable def cxComp(X:Cx)(scope:Scope)(N' own:List Str)(cl:List (Str×Addr))(C:Addr)(s:Shared)(H:Hp)(fp:List Addr):Cx:=
 {X with N:=N',s₀:=s,H₀:=H,env:=compEnvC scope cl C X.env,outer:=X.stack,stack:=X.stack,ex:=fp,fn:=λx=>own.contains x,pn:=[],xe:=λ_ _=>False}
structure CompOk(X:Cx)(scope:Scope)(N' own:List Str)(fr:List Nat):Prop where
 kind:scope.kind=.function
 names:∀y∈scope.names,scope.names.lookup y.1=some y.2
 up:∀y∈scope.names,y.2=.free->(X.env.kindOf y.1=some .cell\/X.env.kindOf y.1=some .free)
 nm:N'=own++fr.map (λj=>X.N.getD j Str.empty)
 fr:∀j∈fr,j<X.N.length/\scope.names.lookup (X.N.getD j Str.empty)=some .free
 own:∀x∈own,scope.names.lookup x=some .local\/scope.names.lookup x=some .cell
noncomputable def tau(own:List Str)(fr:List Nat)(σ:St):St:=own.map (λ_=>none)++fr.map (λj=>σ.getD j none)
section
variable{X:Cx}{pins:List (Addr×Obj)}{σ:St}{H:Hp}{s:Shared}{scope:Scope}{N' own:List Str}{fr:List Nat}
theorem znt(c:CompOk X scope N' own fr)(ok:X.Ok):∀y∈scope.names,y.2=.free->∃a,X.env.cells.lookup y.1=some a:=λy hy e=>ok.has y.1 (c.up y hy e)
theorem zale{h':Heap}(c:CompOk X scope N' own fr)(I:Inv X pins σ H s)
  (hf:∀b∈fp,FpOk X pins H b)(ho:∀b∈fp,∃o,s.heap.get? b=some o/\∀v,o.data≠.cell v)
  (keep:∀b o,s.heap.get? b=some o->h'.get? b=some o)(ns:h'.Ns s.heap.objs.size (λ_=>none))
  (cells:∀n c,(n,c)∈cellsFrom (s.heap.objs.size+1) scope.names []->h'.IsCell c none/\s.heap.objs.size+1<=c)
  (apart:(cellsFrom (s.heap.objs.size+1) scope.names []).Pairwise λx y=>x.2≠y.2) :
  Inv (cxComp X scope N' own (cellsFrom (s.heap.objs.size+1) scope.names []++clos X.env.cells scope.names []) s.heap.objs.size s H fp) [] (tau own fr σ) H {s with heap:=h'}:=by
 have found:=znt c I.ok
 have clm:∀x a,(x,a)∈clos X.env.cells scope.names []->(x,NameKind.free)∈scope.names/\X.env.cells.lookup x=some a:=λx a hm=>by
  rcases zuy found (x,a) hm with q|q
  ·simp at q
  ·exact q
 have look:∀x a,(cellsFrom (s.heap.objs.size+1) scope.names []++clos X.env.cells scope.names []).lookup x=some a->
   ((x,a)∈cellsFrom (s.heap.objs.size+1) scope.names []/\(x,NameKind.cell)∈scope.names)\/((x,NameKind.free)∈scope.names/\X.env.cells.lookup x=some a):=λx a e=>by
  rw[zkt]at e
  cases q:(cellsFrom (s.heap.objs.size+1) scope.names []).lookup x with
  | some b=>
   rw[q]at e
   cases e
   have hm:=qo q
   rcases zfy _ _ _ hm with z|z
   ·simp at z
   ·exact .inl ⟨hm,z⟩
  | none=>
   rw[q]at e
   exact .inr (clm x a (qo e))
 have lookF:∀x a,(x,NameKind.free)∈scope.names->X.env.cells.lookup x=some a->(cellsFrom (s.heap.objs.size+1) scope.names []++clos X.env.cells scope.names []).lookup x=some a:=λx a hx e=>by
  rw[zkt]
  have q:(cellsFrom (s.heap.objs.size+1) scope.names []).lookup x=none:=by
   cases q:(cellsFrom (s.heap.objs.size+1) scope.names []).lookup x with
   | none=>rfl
   | some b=>
    rcases zfy _ _ _ (qo q)with z|z
    ·simp at z
    ·have h1:=c.names _ hx
     have h2:=c.names _ z
     rw[h1]at h2
     cases h2
  rw[q]
  obtain⟨d,hd⟩:=zva (cells:=X.env.cells) (acc:=[]) hx
  obtain⟨d',hd'⟩:=zme hd
  have:=(clm x d' (qo hd')).2
  rw[e]at this
  cases this
  exact hd'
 have below:∀b o,s.heap.get? b=some o->b<s.heap.objs.size:=λb o e=>qO e
 have cold:∀x a,X.env.cells.lookup x=some a->a<s.heap.objs.size:=λx a e=>let⟨v,q⟩:=I.cell x a e;q.lt
 refine⟨⟨I.ok.mod,c.kind,I.ok.glob,I.ok.blt,qQ _,?inj,?has,?cab,I.ok.hd,I.ok.frames,.inl rfl,?exf,I.bs,qAE I.ok.bsz I.sz,?noex,?exfs,I.stack,I.stkFree⟩,
  rfl,I.bare,Un.kept keep,⟨_,ns,?loc⟩,?cell,I.hok.fresh (qQ _),?freeC,?pin,I.hok.kept keep,?len⟩
 case inj=>
  intro x y a h1 h2
  rcases look x a h1 with⟨m1,k1⟩|⟨k1,e1⟩<;>rcases look y a h2 with⟨m2,k2⟩|⟨k2,e2⟩
  ·exact name_of_addr apart m1 m2
  ·exact absurd (qf (cold y a e2) (qCI (cells x a m1).2)) (qAy _)
  ·exact absurd (qf (cold x a e1) (qCI (cells y a m2).2)) (qAy _)
  ·exact I.ok.inj x y a e1 e2
 case has=>
  intro x hx
  have hx':(∃k,scope.names.lookup x=some k/\(k=.cell\/k=.free)):=by
   rcases hx with hx|hx
   ·obtain⟨k,e,q⟩:=zfj (env:=X.env) (names:=scope.names) hx
    rcases q with q|⟨q,_⟩
    ·exact⟨k,e,.inl q.symm⟩
    ·exact⟨k,e,.inr q⟩
   ·obtain⟨k,e,q⟩:=zfj (env:=X.env) (names:=scope.names) hx
    rcases q with q|⟨q,_⟩
    ·exact⟨k,e,.inr q.symm⟩
    ·exact⟨k,e,.inr q⟩
  obtain⟨k,e,q⟩:=hx'
  show ∃a,(cellsFrom (s.heap.objs.size+1) scope.names []++clos X.env.cells scope.names []).lookup x=some a
  rcases q with rfl|rfl
  ·obtain⟨a,ha⟩:=zut (n:=s.heap.objs.size+1) e
   exact⟨a,by rw[zkt,ha];rfl⟩
  ·obtain⟨a,ha⟩:=found _ (qo e) rfl
   exact⟨a,lookF x a (qo e) ha⟩
 case cab=>
  intro x a hx e
  have hx:own.contains x=true:=hx
  have hx':x∈own:=by simpa using hx
  rcases look x a e with⟨m1,_⟩|⟨k1,_⟩
  ·have:=(cells x a m1).2
   show s.heap.objs.size<=a
   omega
  ·have h1:=c.names _ k1
   rcases c.own x hx' with h2|h2
   ·rw[h1]at h2;cases h2
   ·rw[h1]at h2;cases h2
 case exf=>
  intro b hb
  obtain⟨o,e,d⟩:=ho b hb
  refine⟨qr (below b o e),λx a q z=>?_⟩
  subst z
  rcases look x a q with⟨m1,_⟩|⟨k1,e1⟩
  ·exact absurd (qf (below a o e) (qCI (cells x a m1).2)) (qAy _)
  ·obtain⟨v,o',e',d'⟩:=I.cell x a e1
   rw[e]at e'
   cases e'
   exact d v d'
 case noex=>
  intro b o e hb
  rcases(hf b hb).2.2.2.1 with z|z
  ·exact I.ok.noex b o e z
  ·exact absurd (qf (qf (qO e) I.ok.bsz) z) (qAy _)
 case exfs=>
  intro b hb z
  rcases qY.mp (I.stkSub b z)with q|q
  ·exact(hf b hb).2.1 q
  ·exact(hf b hb).2.2.1 q
 case loc=>
  intro i x v h1 h2 h3
  have h1:N'[i]?=some x:=h1
  rw[c.nm]at h1
  unfold tau at h2
  by_cases hi:i<own.length
  ·rw[qm (by simpa using hi),qS]at h2
   cases q:own[i]? with
   | none=>rw[q]at h2;cases h2
   | some z=>rw[q]at h2;cases h2
  ·rw[qb (by simpa using hi),qS,qC]at h2
   rw[qb (by simpa using hi),qS]at h1
   cases q:fr[i - own.length]? with
   | none=>rw[q]at h2;cases h2
   | some j=>
    rw[q]at h1 h2
    have e1:X.N.getD j Str.empty=x:=qa h1
    have e2:σ.getD j none=some v:=qa h2
    obtain⟨hj,hfree⟩:=c.fr j (qu q)
    rw[e1]at hfree
    have hNj:X.N[j]?=some x:=by
     rw[<- e1,qAT,qK hj];rfl
    have hσj:σ[j]?=some (some v):=by
     rw[qAT]at e2
     cases z:σ[j]? with
     | none=>rw[z]at e2;cases e2
     | some w=>rw[z]at e2;rw[show w=some v from e2]
    have hmem:(x,NameKind.free)∈scope.names:=qo hfree
    have hup:=c.up _ hmem rfl
    obtain⟨m,hn,hl⟩:=I.loc
    obtain⟨u,ru,lk⟩:=hl j x v hNj hσj (by rcases hup with z|z;exact .inr (.inl z);exact .inr (.inr z))
    refine⟨u,ru,.inr ⟨?_,?_⟩⟩
    ·rcases zjq (env:=X.env) (names:=scope.names) hfree with z|z
     ·exact .inr z
     ·exact .inl z
    ·rcases lk with⟨k1,_⟩|⟨_,a,ha,hc⟩
     ·rcases hup with z|z
      ·rw[show X.env.kindOf x=some .cell from z]at k1;cases k1
      ·rw[show X.env.kindOf x=some .free from z]at k1;cases k1
     ·exact⟨a,lookF x a hmem ha,hc.keeps keep⟩
 case cell=>
  intro x a e
  rcases look x a e with⟨m1,_⟩|⟨k1,e1⟩
  ·exact⟨_,(cells x a m1).1⟩
  ·obtain⟨v,q⟩:=I.cell x a e1
   exact⟨v,q.keeps keep⟩
 case freeC=>
  intro x a e
  rcases look x a e with⟨m1,_⟩|⟨k1,e1⟩
  ·exact I.hok.fresh (by have:=(cells x a m1).2;omega)
  ·exact I.freeC x a e1
 case pin=>intro p hp;exact absurd (show p∈([]:List (Addr×Obj))from hp) (by simp)
 case len=>
  show(tau own fr σ).length=N'.length
  rw[c.nm];unfold tau;simp
end
noncomputable abbrev TM:=St->Hp->(St->Hp->Prop)->Prop
noncomputable def PM(X:Cx)(act:Sem Unit)(t:TM):Prop:=
 ∀(pins:List (Addr×Obj))(s:Shared)(σ:St)(H:Hp)(Q:St->Hp->Prop),Inv X pins σ H s->t σ H Q->wpAny (model X.prog X.w) X.A act (λ_ s'=>∃σ' H',Inv X pins σ' H' s'/\Q σ' H') X.xe s
noncomputable def PF(X:Cx)(ifs:List Expr)(t:TT):Prop:=
 ∀(pins:List (Addr×Obj))(s:Shared)(σ:St)(H:Hp)(Q:Bool->Hp->Prop),Inv X pins σ H s->t σ H Q->
  wpAny (model X.prog X.w) X.A (forIn ifs true λc r=>if r=true then do let ok <- isTrue c X.env (eval c X.env);pure (ForInStep.yield ok)else pure (ForInStep.yield r)) (TP X pins σ Q) X.xe s
noncomputable def tAll:TT:=λ_ H Q=>Q true H
section
variable{X:Cx}
theorem zaul:PF X [] tAll:=λ_ s σ H Q I h=>wpAny_tests_nil ⟨H,I,h⟩
theorem zaum(h:PT X c t):PF X [c] t:=λpins s σ H Q I q=>wpAny_tests_one (h pins s σ H Q I q)
noncomputable def zaek(p:Addr)(te:TE):TM:=λσ H Q=>te σ H λv H1=>∃ys,H1 p=some (.lst ys)/\ys.length<qV/\Q σ (upd H1 p (.lst (ys++[v])))
theorem zaan(h:PE X elt te):PM X (do let _ <- call (.builtin "list.append") [.ref p,<- eval elt X.env]) (zaek p te):=by
 intro pins s σ H Q I q
 refine qE (thn (h pins s σ H _ I q) λu s1 ⟨v,H1,I1,r,ys,hp,hz,q1⟩=>?_)
 refine qE (thn (zaw pins s1 σ H1 (.ref p) [v] (.ref p) [u] (λ_ H2=>Q σ H2) I1 rfl (.cons r .nil) ⟨p,ys,v,rfl,rfl,hp,hz,q1⟩) λ_ s2 ⟨_,H2,I2,_,q2⟩=>?_)
 exact qR ⟨σ,H2,I2,q2⟩
noncomputable def zags(J:It)(g:TG)(tt:TT)(tm:TM):TM:=λσ H Q=>∃W:Nat->Nat->St->Hp->Prop,(∃m,W 0 m σ H)/\∀i m σ H,W i m σ H->
 (J.stop i H/\Q σ H)\/(J.go i H/\∃N:St->Hp->Prop,(∀σ' H',N σ' H'->∃m',m'<m/\W (i+1) m' σ' H')/\∀x H',J.yld i H x H'->g x σ H' λσ2 H2=>tt σ2 H2 λb H3=>if b=true then tm σ2 H3 N else N σ2 H3)
theorem zpv{tn:Nat->Heap->Prop}{s:Shared}{Q:St->Hp->Prop}
  (hx:X.xe=λ_ _=>False)(hc:X.calm=true)
  (eq:compTurn (.ListComp elt0 gens scope cpos) depth (.ref it) acc X.env=(do
   standAt ip
   match <- pyNext (.ref it)with
   | none=>pure (.done .next)
   | some v=>
    letOwnedTupleGo target (.ref it) v
    assign target X.env v
    let mut ok:=true
    for c in ifs do
     if ok then ok <- isTrue c X.env (eval c X.env)
    if ok then emit
    again (.compLoop (.ListComp elt0 gens scope cpos) depth (.ref it) acc X.env)))
  (T:Turn X.prog X.w X.K target J fp it tn)(hg:PG X target g)(ht:PF X ifs tt)(hm:PM X emit tm)
  (I:Inv X pins σ H s)(st:tn 0 s.heap)(hf:∀b∈fp,FpOk X pins H b)(h:zags J g tt tm σ H Q) :
  codeAny (model X.prog X.w) X.A (.compLoop (.ListComp elt0 gens scope cpos) depth (.ref it) acc X.env) (λr s'=>r=.ok .next/\∃σ' H',Inv X pins σ' H' s'/\Q σ' H') s:=by
 obtain⟨W,⟨m0,w0⟩,turn⟩:=h
 have stat:∀{H':Hp},(∀b∈fp,H' b=none)->∀b∈fp,FpOk X pins H' b:=λhn b hb=>⟨hn b hb,(hf b hb).2⟩
 have xe:∀{α:Type}{m:Sem α}{Q':α->Shared->Prop}{E:Value->Shared->Prop}{s:Shared},wpAny (model X.prog X.w) X.A m Q' X.xe s->wpAny (model X.prog X.w) X.A m Q' E s:=λq=>qAq q (λ_ _ z=>z) λ_ _ z=>by rw[hx]at z;exact z.elim
 refine codeAny_loop rfl (λn s'=>∃i σ' H',Inv X pins σ' H' s'/\tn i s'.heap/\(∀b∈fp,H' b=none)/\W i n σ' H') ?_ m0 ⟨0,σ,H,I,st,λb hb=>(hf b hb).1,w0⟩
 rintro n s3 ⟨i,σ3,H3,I3,st3,fr3,w3⟩
 show wpAny _ X.A ((compTurn (.ListComp elt0 gens scope cpos) depth (.ref it) acc X.env).onRaise (λx=>do noteFrame x X.env;theTreesLotGoes x)) _ _ s3
 refine wpAny_noted ?_
 rw[eq]
 refine qE (qBN (qE ?_))
 rcases turn i n σ3 H3 w3 with⟨stop,qn⟩|⟨go,N,hN,step⟩
 ·refine thn (T.done X rfl rfl rfl hc i pins s3 σ3 H3 _ I3 (stat fr3) st3 stop) λr s4 ⟨hr,I4⟩=>?_
  subst hr
  exact qR ⟨rfl,σ3,H3,I4,qn⟩
 ·refine thn (T.item X rfl rfl rfl hc i pins s3 σ3 H3 _ I3 (stat fr3) st3 go) λr s4 ⟨u,hr,h4⟩=>?_
  subst hr
  refine qE (thn h4 λ_ s5 ⟨x,H5,I5,r5,y5,st5,fr5⟩=>?_)
  have I5':=I5.pinned (stat fr5) (T.obj _ _ st5)
  refine qE (xe (thn (hg _ s5 σ3 H5 x u _ I5' r5 (step x H5 y5)) λ_ s6 ⟨σ6,H6,I6,q6⟩=>?_))
  have again:∀{σ7:St}{H7:Hp}{s7:Shared},Inv X (pins++zwv fp s5.heap) σ7 H7 s7->N σ7 H7->∃m,m<n/\∃i σ' H',Inv X pins σ' H' s7/\tn i s7.heap/\(∀b∈fp,H' b=none)/\W i m σ' H':=λ{σ7 H7 s7} I7 n7=>by
   obtain⟨m',hm,w7⟩:=hN σ7 H7 n7
   refine⟨m',hm,i+1,σ7,H7,I7.unpinned,T.keep _ _ _ st5 λb hb o e=>(I7.pin (b,o) (qe _ (qe _ (zks hb e)))).1,λb hb=>?_,w7⟩
   obtain⟨o,e,d⟩:=T.obj _ _ st5 b hb
   exact(I7.pin (b,o) (qe _ (qe _ (zks hb e)))).2.1
  refine qE (xe (thn (ht _ s6 σ6 H6 _ I6 q6) λok s7 ⟨H7,I7,q7⟩=>?_))
  cases ok with
  | false=>
   rw[if_neg (by decide)]at q7
   exact qR ⟨rfl,again I7 q7⟩
  | true=>
   rw[if_pos rfl]at q7
   refine qE (xe (thn (hm _ s7 σ6 H7 _ I7 q7) λ_ s8 ⟨σ8,H8,I8,q8⟩=>?_))
   exact qR ⟨rfl,again I8 q8⟩
end
section
variable{X:Cx}{pins:List (Addr×Obj)}{σ:St}{H:Hp}{s:Shared}{scope:Scope}{N' own:List Str}{fr:List Nat}
theorem zaao{elt0 target iter:Expr}{ifs:List Expr}{rest:List Comprehension}{cpos:Pos}{g:TG}{tt:TT}{tm:Addr->TM}{emit:Value->Env->Sem Unit}{it:Addr}{fp:List Addr}{tn:Nat->Heap->Prop}{J:It}{Q:VK}{E:Value->Shared->Prop}{RR:Value->Addr->Result->Shared->Prop}
  (c:CompOk X scope N' own fr)(hc:X.calm=true)
  (eq:∀it acc env,compTurn (.ListComp elt0 (⟨target,iter,ifs,0⟩::rest) scope cpos) 0 it acc env=(do
   standAt iter.pos
   match <- pyNext it with
   | none=>pure (.done .next)
   | some v=>
    letOwnedTupleGo target it v
    assign target env v
    let mut ok:=true
    for c in ifs do
     if ok then ok <- isTrue c env (eval c env)
    if ok then emit acc env
    again (.compLoop (.ListComp elt0 (⟨target,iter,ifs,0⟩::rest) scope cpos) 0 it acc env)))
  (T:Turn X.prog X.w X.K target J fp it tn)
  (hb:∀(cl:List (Str×Addr)) (C:Addr) (s:Shared) (H:Hp) (fp:List Addr) (p:Addr),Inv X pins σ H s->(∀b∈fp,FpOk X pins H b)->PG (cxComp X scope N' own cl C s H fp) target g/\PF (cxComp X scope N' own cl C s H fp) ifs tt/\PM (cxComp X scope N' own cl C s H fp) (emit (.ref p) (compEnvC scope cl C X.env)) (tm p))
  (I:Inv X pins σ H s)(st:tn 0 s.heap)(hf:∀b∈fp,FpOk X pins H b)
  (h:∀p,H p=none->zags J g tt (tm p) (tau own fr σ) (upd H p (.lst [])) (λ_ H'=>Q (.ref p) H'))
  (hRR:∀(p C:Addr) (m:Str->Option Value) (H':Hp) (s':Shared),Inv X pins σ H' s'->s'.heap.Ns C m->FpOk X pins H' C->Q (.ref p) H'->RR (.ref p) C (.ok .next) s') :
  wpAny (model X.prog X.w) X.A (newList []) (λacc s₃=>wpAny (model X.prog X.w) X.A (newFunctionEnv scope X.env.globals (clos X.env.cells scope.names []) [] X.env.qual none .none (some X.env)) (λcenv s₄=>
   codeAny (model X.prog X.w) X.A (.compStart (.ListComp elt0 (⟨target,iter,ifs,0⟩::rest) scope cpos) 0 (.ref it) acc {cenv with scope:=relabel scope X.env}) (RR acc cenv.locals) s₄) E s₃) E s:=by
 refine qBw ?_
 have I3:Inv X pins σ (upd H s.heap.objs.size (.lst [])) {s with heap:=s.heap.push {cls:=.type "list",dict:=none,data:=.seq ([]:List Value).toArray}}:=I.lnew (t':=s.toks) .nil (qAK _)
 have hn0:H s.heap.objs.size=none:=I.hok.fresh (qQ _)
 generalize e3:({s with heap:=s.heap.push {cls:=.type "list",dict:=none,data:=.seq ([]:List Value).toArray}}:Shared)=s3 at I3 ⊢
 have k3:∀b o,s.heap.get? b=some o->s3.heap.get? b=some o:=λb o e=>by rw[<- e3];exact qF _ e
 have hne:∀b∈fp,b≠s.heap.objs.size:=λb hb=>by
  obtain⟨o,e,_⟩:=T.obj _ _ st b hb
  exact qr (qO e)
 have hf3:∀b∈fp,FpOk X pins (upd H s.heap.objs.size (.lst [])) b:=λb hb=>⟨by rw[zap (hne b hb)];exact(hf b hb).1,(hf b hb).2⟩
 have st3:tn 0 s3.heap:=T.keep _ _ _ st λb _ o e=>k3 b o e
 refine zaej λh' keep ns cells apart=>?_
 have I4:=zale c I3 hf3 (T.obj _ _ st3) keep ns cells apart
 have st4:tn 0 h':=T.keep _ _ _ st3 λb _ o e=>keep b o e
 obtain⟨hg,ht,hm⟩:=hb (cellsFrom (s3.heap.objs.size+1) scope.names []++clos X.env.cells scope.names []) s3.heap.objs.size s3 (upd H s.heap.objs.size (.lst [])) fp s.heap.objs.size I3 hf3
 have hf4:∀b∈fp,FpOk (cxComp X scope N' own (cellsFrom (s3.heap.objs.size+1) scope.names []++clos X.env.cells scope.names []) s3.heap.objs.size s3 (upd H s.heap.objs.size (.lst [])) fp) [] (upd H s.heap.objs.size (.lst [])) b:=λb hb=>
  ⟨(hf3 b hb).1,(I4.ok.exf b hb).1,I4.ok.exfs b hb,.inl hb,(I4.ok.exf b hb).2,λp hp=>absurd (show p∈([]:List (Addr×Obj))from hp) (by simp)⟩
 have loop:codeAny (model X.prog X.w) X.A (.compLoop (.ListComp elt0 (⟨target,iter,ifs,0⟩::rest) scope cpos) 0 (.ref it) (.ref s.heap.objs.size) (compEnvC scope (cellsFrom (s3.heap.objs.size+1) scope.names []++clos X.env.cells scope.names []) s3.heap.objs.size X.env)) (RR (.ref s.heap.objs.size) s3.heap.objs.size) {s3 with heap:=h'}:=by
  refine qA0 (zpv (X:=cxComp X scope N' own (cellsFrom (s3.heap.objs.size+1) scope.names []++clos X.env.cells scope.names []) s3.heap.objs.size s3 (upd H s.heap.objs.size (.lst [])) fp) (pins:=[]) rfl hc (eq _ _ _) T hg ht hm I4 st4 hf4 (h _ hn0)) λr s5 hr=>?_
  obtain⟨rfl,σ5,H5,I5,q5⟩:=hr
  obtain⟨m,hn,_⟩:=id I5.loc
  have u5:Un (frs X.stack) fp (upd H s.heap.objs.size (.lst [])) H5 s3.heap s5.heap:=I5.base
  have hok5:HOk X.prog X.w H5 s5.heap:=I5.hok
  have os5:s5.os=s3.os:=I5.os
  have bare5:=I5.bare
  have free5:H5 s3.heap.objs.size=none:=I5.free
  have hn:s5.heap.Ns s3.heap.objs.size m:=hn
  clear I5
  obtain⟨hh,gg,dd,tk,os'⟩:=s5
  obtain rfl:os'=s3.os:=os5
  have I6:Inv X pins σ H5 {s3 with heap:=hh,gens:=gg,drawn:=dd,toks:=tk}:=I3.call (ch:=fp) u5 hok5 bare5 λb hb=>⟨(hf3 b hb).2.2.2.1,(hf3 b hb).2.1,(hf3 b hb).2.2.2.2.1,(hf3 b hb).2.2.2.2.2⟩
  exact hRR _ _ m H5 _ I6 hn (I3.fpOk (qQ _) free5) q5
 exact codeAny_compStart_list loop (T.self _ 0 _ _ _ st4 loop)
theorem zti{elt0 target iter:Expr}{ifs:List Expr}{rest:List Comprehension}{cpos:Pos}{g:TG}{tt:TT}{tm:Addr->TM}{emit:Value->Env->Sem Unit}{it:Addr}{fp:List Addr}{tn:Nat->Heap->Prop}{J:It}{Q:VK}{E:Value->Shared->Prop}{RR:Value->Addr->Result->Shared->Prop}
  (c:CompOk X scope N' own fr)(hc:X.calm=true)
  (eq:∀it acc env,compTurn (.ListComp elt0 (⟨target,iter,ifs,0⟩::rest) scope cpos) 0 it acc env=(do
   standAt iter.pos
   match <- pyNext it with
   | none=>pure (.done .next)
   | some v=>
    letOwnedTupleGo target it v
    assign target env v
    let mut ok:=true
    for c in ifs do
     if ok then ok <- isTrue c env (eval c env)
    if ok then emit acc env
    again (.compLoop (.ListComp elt0 (⟨target,iter,ifs,0⟩::rest) scope cpos) 0 it acc env)))
  (T:Turn X.prog X.w X.K target J fp it tn)
  (hb:∀(cl:List (Str×Addr)) (C:Addr) (s:Shared) (H:Hp) (fp:List Addr) (p:Addr),PG (cxComp X scope N' own cl C s H fp) target g/\PF (cxComp X scope N' own cl C s H fp) ifs tt/\PM (cxComp X scope N' own cl C s H fp) (emit (.ref p) (compEnvC scope cl C X.env)) (tm p))
  (I:Inv X pins σ H s)(st:tn 0 s.heap)(hf:∀b∈fp,FpOk X pins H b)
  (h:∀p,H p=none->zags J g tt (tm p) (tau own fr σ) (upd H p (.lst [])) (λ_ H'=>Q (.ref p) H'))
  (hRR:∀(p C:Addr) (m:Str->Option Value) (H':Hp) (s':Shared),Inv X pins σ H' s'->s'.heap.Ns C m->FpOk X pins H' C->Q (.ref p) H'->RR (.ref p) C (.ok .next) s') :
  wpAny (model X.prog X.w) X.A (newList []) (λacc s₃=>wpAny (model X.prog X.w) X.A (newFunctionEnv scope X.env.globals (clos X.env.cells scope.names []) [] X.env.qual none .none (some X.env)) (λcenv s₄=>
   codeAny (model X.prog X.w) X.A (.compStart (.ListComp elt0 (⟨target,iter,ifs,0⟩::rest) scope cpos) 0 (.ref it) acc {cenv with scope:=relabel scope X.env}) (RR acc cenv.locals) s₄) E s₃) E s:=zaao c hc eq T (λcl C s H fp p _ _=>hb cl C s H fp p) I st hf h hRR
noncomputable def zalf(wi:TI)(g:TG)(tt:TT)(tm:Addr->TM)(own:List Str)(fr:List Nat):TE:=λσ H Q=>wi σ H λJ H1=>∀p,H1 p=none->zags J g tt (tm p) (tau own fr σ) (upd H1 p (.lst [])) (λ_ H'=>Q (.ref p) H')
theorem zacx{elt0 target iter:Expr}{ifs:List Expr}{rest:List Comprehension}{cpos:Pos}{wi:TI}{g:TG}{tt:TT}{tm:Addr->TM}{emit:Value->Env->Sem Unit}(c:CompOk X scope N' own fr)(hc:X.calm=true)
  (eq:∀it acc env,compTurn (.ListComp elt0 (⟨target,iter,ifs,0⟩::rest) scope cpos) 0 it acc env=(do
   standAt iter.pos
   match <- pyNext it with
   | none=>pure (.done .next)
   | some v=>
    letOwnedTupleGo target it v
    assign target env v
    let mut ok:=true
    for c in ifs do
     if ok then ok <- isTrue c env (eval c env)
    if ok then emit acc env
    again (.compLoop (.ListComp elt0 (⟨target,iter,ifs,0⟩::rest) scope cpos) 0 it acc env)))
  (hi:PI X target iter wi)
  (hb:∀(cl:List (Str×Addr)) (C:Addr) (s:Shared) (H:Hp) (fp:List Addr) (p:Addr),PG (cxComp X scope N' own cl C s H fp) target g/\PF (cxComp X scope N' own cl C s H fp) ifs tt/\PM (cxComp X scope N' own cl C s H fp) (emit (.ref p) (compEnvC scope cl C X.env)) (tm p))
  (hs:∀x,foldedSetIterable iter X.env x=pure x:=by intro _;rfl) :
  PE X (.ListComp elt0 (⟨target,iter,ifs,0⟩::rest) scope cpos) (zalf wi g tt tm own fr):=by
 intro pins s σ H Q I h
 rw[eval_ListComp]
 refine qDJ (use:=none) rfl hs (zmf (znt c I.ok)) c.kind (λy hy e=>(c.names y hy).trans (by rw[e])) ?_
 refine thn (hi pins s σ H _ I h) λv s1 h1=>thn h1 λitv s2 h2=>?_
 obtain⟨it,fp,tn,J,H2,e,I2,T,st2,f2,q⟩:=h2
 subst e
 refine zti (Q:=Q) c hc eq T hb I2 st2 f2 q λp C m H' s' I' hn hC q'=>?_
 exact⟨m,hn,λh' sb=>⟨.ref p,H',I'.turned (t':=s'.toks) (λb o hb e=>(sb.2 b hb).trans e) hC.1 hC.2.1 hC.2.2.2.1 hC.2.2.2.2.1 hC.2.2.2.2.2,rfl,q'⟩⟩
noncomputable def zaun(wi:TI)(g:TG)(tt:TT)(tm:Addr->TM)(own:List Str)(fr:List Nat)(i:Nat):TS:=λD σ H=>zalf wi g tt tm own fr σ H λv H'=>D.nx (σ.set i (some v)) H'
theorem zalg{elt0 target iter:Expr}{ifs:List Expr}{rest:List Comprehension}{cpos spos py:Pos}{wi:TI}{g:TG}{tt:TT}{tm:Addr->TM}{emit:Value->Env->Sem Unit}{i:Nat}{y:Str}(c:CompOk X scope N' own fr)(hc:X.calm=true)
  (eq:∀it acc env,compTurn (.ListComp elt0 (⟨target,iter,ifs,0⟩::rest) scope cpos) 0 it acc env=(do
   standAt iter.pos
   match <- pyNext it with
   | none=>pure (.done .next)
   | some v=>
    letOwnedTupleGo target it v
    assign target env v
    let mut ok:=true
    for c in ifs do
     if ok then ok <- isTrue c env (eval c env)
    if ok then emit acc env
    again (.compLoop (.ListComp elt0 (⟨target,iter,ifs,0⟩::rest) scope cpos) 0 it acc env)))
  (hi:PI X target iter wi)
  (hb:∀(cl:List (Str×Addr)) (C:Addr) (s:Shared) (H:Hp) (fp:List Addr) (p:Addr),PG (cxComp X scope N' own cl C s H fp) target g/\PF (cxComp X scope N' own cl C s H fp) ifs tt/\PM (cxComp X scope N' own cl C s H fp) (emit (.ref p) (compEnvC scope cl C X.env)) (tm p))
  (hsw:swapsWith (.ListComp elt0 (⟨target,iter,ifs,0⟩::rest) scope cpos) (some (.Name y py)) spos.line X.env=pure true)
  (hN:X.N.Nodup)(hy:X.N[i]?=some y)(hl:X.env.scope.names.lookup y=some .local)
  (hs:∀x,foldedSetIterable iter X.env x=pure x:=by intro _;rfl) :
  PS X (.Assign [.Name y py] (.ListComp elt0 (⟨target,iter,ifs,0⟩::rest) scope cpos) spos) (zaun wi g tt tm own fr i):=by
 intro pins s σ H D I h
 rw[exec_Assign_Name_used _ _ _ _ hsw]
 refine qE (qBN (qE ?_))
 show wpAny _ X.A (do let _ <- comprehension (.ListComp elt0 (⟨target,iter,ifs,0⟩::rest) scope cpos) scope X.env _ (newList []) false (eval iter X.env) (some (assign (.Name y py) X.env))) _ _ s
 refine qE (thn (qDJ (use:=some (assign (.Name y py) X.env)) (Q:=λ_ s'=>SP X pins D .next s') rfl hs (zmf (znt c I.ok)) c.kind (λy hy e=>(c.names y hy).trans (by rw[e])) ?_) λ_ s' q=>qR (qR q))
 refine thn (hi pins s σ H _ I h) λv s1 h1=>thn h1 λitv s2 h2=>?_
 obtain⟨it,fp,tn,J,H2,e,I2,T,st2,f2,q⟩:=h2
 subst e
 refine zti (Q:=λv H'=>D.nx (σ.set i (some v)) H') c hc eq T hb I2 st2 f2 q λp C m H' s' I' hn hC q'=>?_
 show wpAny _ X.A (assign (.Name y py) X.env (.ref p)) _ _ _
 refine wpAny_assign_Name (zws I' hN hy (.inl hl) (v:=.ref p) rfl (λs'' I'' ⟨a,sb,ha⟩=>?_) (.inr hl))
 have hCa:C≠a:=by
  rcases ha with rfl|ha
  ·exact hC.2.1
  ·exact qAk (hC.2.2.2.2.1 y a ha)
 refine⟨m,hn.sameBut sb hCa,λh' sb'=>⟨σ.set i (some (.ref p)),H',I''.turned (t':=s''.toks) (λb o hb e=>(sb'.2 b hb).trans e) hC.1 hC.2.1 hC.2.2.2.1 hC.2.2.2.2.1 hC.2.2.2.2.2,q'⟩⟩
end
section
variable{X:Cx}
section
variable{scope:Scope}{N' own:List Str}{fr:List Nat}{elt target iter:Expr}{ifs:List Expr}{cpos:Pos}{wi:TI}{g:TG}{tt:TT}{te:TE}
noncomputable def tComp1(wi:TI)(g:TG)(tt:TT)(te:TE)(own:List Str)(fr:List Nat):TE:=zalf wi g tt (λp=>zaek p te) own fr
theorem zalh(c:CompOk X scope N' own fr)(hc:X.calm=true)(hi:PI X target iter wi)
  (hb:∀(cl:List (Str×Addr)) (C:Addr) (s:Shared) (H:Hp) (fp:List Addr),PG (cxComp X scope N' own cl C s H fp) target g/\PF (cxComp X scope N' own cl C s H fp) ifs tt/\PE (cxComp X scope N' own cl C s H fp) elt te)
  (hs:∀x,foldedSetIterable iter X.env x=pure x:=by intro _;rfl):PE X (.ListComp elt [⟨target,iter,ifs,0⟩] scope cpos) (tComp1 wi g tt te own fr):=
 zacx (emit:=λacc env=>do let _ <- call (.builtin "list.append") [acc,<- eval elt env]) c hc (λ_ _ _=>rfl) hi
  (λcl C s H fp p=>⟨(hb cl C s H fp).1,(hb cl C s H fp).2.1,zaan (hb cl C s H fp).2.2⟩) hs
noncomputable def tAsgC1(wi:TI)(g:TG)(tt:TT)(te:TE)(own:List Str)(fr:List Nat)(i:Nat):TS:=zaun wi g tt (λp=>zaek p te) own fr i
theorem zali{spos py:Pos}(c:CompOk X scope N' own fr)(hc:X.calm=true)(hi:PI X target iter wi)
  (hb:∀(cl:List (Str×Addr)) (C:Addr) (s:Shared) (H:Hp) (fp:List Addr),PG (cxComp X scope N' own cl C s H fp) target g/\PF (cxComp X scope N' own cl C s H fp) ifs tt/\PE (cxComp X scope N' own cl C s H fp) elt te)
  (hsw:swapsWith (.ListComp elt [⟨target,iter,ifs,0⟩] scope cpos) (some (.Name y py)) spos.line X.env=pure true)
  (hN:X.N.Nodup)(hy:X.N[i]?=some y)(hl:X.env.scope.names.lookup y=some .local)
  (hs:∀x,foldedSetIterable iter X.env x=pure x:=by intro _;rfl):PS X (.Assign [.Name y py] (.ListComp elt [⟨target,iter,ifs,0⟩] scope cpos) spos) (tAsgC1 wi g tt te own fr i):=
 zalg (emit:=λacc env=>do let _ <- call (.builtin "list.append") [acc,<- eval elt env]) c hc (λ_ _ _=>rfl) hi
  (λcl C s H fp p=>⟨(hb cl C s H fp).1,(hb cl C s H fp).2.1,zaan (hb cl C s H fp).2.2⟩) hsw hN hy hl hs
end
noncomputable def zaxo:R2:=λx y H Q=>∃z n,x=.str z/\y=.int n/\z.length<=1000/\-1000<=n/\n<=1000/\Q (.str (Txt.mul z n)) H
theorem zaqb:OpR X (binaryOp .Mult) zaxo:=by
 intro pins s σ H x y v u Q I rx ry h
 obtain⟨z,n,rfl,rfl,h1,h2,h3,q⟩:=h
 obtain⟨t,rfl⟩:=rx
 obtain⟨t',rfl⟩:=ry
 exact SB.mul (mulOk_of 1000 1000 h1 (by omega) (by omega) (by decide) (by decide)) λt' k=>⟨.str (Txt.mul z n),H,I.tok _,⟨_,rfl⟩,q⟩
noncomputable def rSlS:V->Option Int->Option Int->Hp->VK->Prop:=λx lo hi H Q=>∃z,x=.str z/\z.length<=qV/\Q (.str (Txt.slice z lo hi)) H
theorem zauo:SlR X rSlS:=by
 intro pins s σ H x v vl vu lo hi sl Q I rx hs pl pu h
 obtain⟨z,rfl,hz,q⟩:=h
 obtain⟨t,rfl⟩:=rx
 refine⟨"str",_,F.slot_str_getitem.lookup,typeIs_str _ _ _,?_⟩
 have fin:∀t' k,EP X pins σ Q (.str (Txt.slice z lo hi) t') {s with toks:=k}:=λt' k=>⟨.str (Txt.slice z lo hi),H,I.tok _,⟨_,rfl⟩,q⟩
 have fz:(Txt.slice z lo hi).length<=qV:=qAE (Txt.slice_le z _ _) hz
 cases pl with
 | none=>cases pu with
  | none=>exact qBO (l:=none) (u:=none) (st:=none) hs rfl (qCD ⟨fz,fin⟩)
  | int j tj=>exact qBO (l:=none) (u:=some (j,tj)) (st:=none) hs rfl (qCD ⟨fz,fin⟩)
 | int i ti=>cases pu with
  | none=>exact qBO (l:=some (i,ti)) (u:=none) (st:=none) hs rfl (qCD ⟨fz,fin⟩)
  | int j tj=>exact qBO (l:=some (i,ti)) (u:=some (j,tj)) (st:=none) hs rfl (qCD ⟨fz,fin⟩)
noncomputable def zagt:V->List V->Hp->VK->Prop:=λx vs H Q=>∃d o kvs more,x=.ref d/\vs=[.ref o]/\d≠o/\H d=some (.dK kvs)/\H o=some (.dK more)/\kvs.length+more.length<=qV/\Q .non (upd H d (.dK (zgy kvs more)))
theorem zxk:MtM X "dict.update" zagt:=by
 intro pins s σ H x vs v us Q I rx rv h
 obtain⟨d,o,kvs,more,rfl,rfl,hne,hd,ho,hz,q⟩:=h
 cases rx
 obtain⟨u,rfl,ru⟩:=rv.one
 cases ru
 obtain⟨z1,s1,vs1,rel1,dd1⟩:=zalb I.hok hd
 obtain⟨z2,s2,vs2,rel2,dd2⟩:=zalb I.hok ho
 refine call_meetsIn F.slot_dict_update dd1.typeIs F.entry_dict_update (F.args_dict_update_2 _ _) (meets_dict_update (zbr X.prog X.w) d o hne s2) ⟨vs1,vs2,dd1,dd2,?_,λh' h1 h2 sb=>?_⟩
 ·rw[<- rel1.length,<- rel2.length];exact hz
 ·have he:∃q,h'.get? d=some q:=by obtain⟨ob,_,_,e,_⟩:=h1;exact⟨ob,e⟩
  refine⟨.non,_,zux (t':=s.toks) I (by rw[hd];trivial) sb he (zacv (qAE (zfw more kvs) hz) s1 (rel2.merge rel1) h1),rfl,q⟩
theorem zalj{id:String}(hid:id="isinstance"):CallR X (.builtin id) (λxs H Q=>∃x n t b,xs=[x,.ty n]/\TyOf X.K H x t/\PySem.W.kitOne X.K t (.type n)=some b/\Q (.bl b) H):=by
 subst hid
 intro pins s σ H xs us Q I r h
 obtain⟨x,n,t,b,rfl,ty,e,q⟩:=h
 obtain⟨u,w',rfl,rx,ry⟩:=zwx r
 cases ry
 exact zage I rx ty e λtk=>⟨.bl b,H,I.tok _,rfl,q⟩
end
mutual
def Rep(K:qB)(H:Hp):PyData->V->Prop
 | .none,v=>v=.non
 | .bool b,v=>v=.bl b
 | .int i,v=>v=.int i
 | .str x,v=>v=.str x
 | .list ds,v=>∃a xs,v=.ref a/\SqL K H a xs/\Reps K H ds xs
 | .tuple ds,v=>∃a xs,v=.ref a/\SqT K H a xs/\Reps K H ds xs
 | .dict _,_=>False
def Reps(K:qB)(H:Hp):List PyData->List V->Prop
 | [],xs=>xs=[]
 | d::ds,xs=>∃v vs,xs=v::vs/\Rep K H d v/\Reps K H ds vs
end
mutual
theorem zjr{X:Cx}{s:Shared}(I:Inv X pins σ H s):∀(d:PyData){v:V}{u:Value},Rep X.K H d v->RelV v u->∃as,Reads s.heap u d as
 | .none,v,u,h,r=>by unfold Rep at h;subst h;cases r;exact⟨_,.none⟩
 | .bool b,v,u,h,r=>by unfold Rep at h;subst h;cases r;exact⟨_,.bool b⟩
 | .int i,v,u,h,r=>by unfold Rep at h;subst h;obtain⟨t,rfl⟩:=r;exact⟨_,.int i t⟩
 | .str x,v,u,h,r=>by unfold Rep at h;subst h;obtain⟨t,rfl⟩:=r;exact⟨_,.str x t⟩
 | .list ds,v,u,h,r=>by
  unfold Rep at h
  obtain⟨a,xs,rfl,hq,hr⟩:=h
  cases r
  obtain⟨its,rv,p,hz⟩:=I.list hq
  obtain⟨as,q⟩:=reps_reads I ds hr rv
  obtain⟨o,h1,h2,n,h3⟩:=p.isList
  exact⟨_,reads_list_at h1 h2 h3 (by simpa using q)⟩
 | .tuple ds,v,u,h,r=>by
  unfold Rep at h
  obtain⟨a,xs,rfl,hq,hr⟩:=h
  cases r
  obtain⟨its,rv,p,hz⟩:=I.tuple hq
  obtain⟨as,q⟩:=reps_reads I ds hr rv
  obtain⟨o,h1,h2,n,h3⟩:=p
  exact⟨_,reads_tuple_at h1 h2 h3 (by simpa using q)⟩
 | .dict _,_,_,h,_=>by unfold Rep at h;exact h.elim
theorem reps_reads{X:Cx}{s:Shared}(I:Inv X pins σ H s):∀(ds:List PyData){vs:List V}{us:List Value},Reps X.K H ds vs->Vals vs us->∃as,ReadsAll s.heap us ds as
 | [],vs,us,h,r=>by unfold Reps at h;subst h;cases r;exact⟨_,.nil⟩
 | d::ds,vs,us,h,r=>by
  unfold Reps at h
  obtain⟨v,vs',rfl,h1,h2⟩:=h
  cases r with
  | cons r rr=>
   obtain⟨as,q1⟩:=zjr I d h1 r
   obtain⟨bs,q2⟩:=reps_reads I ds h2 rr
   exact⟨_,.cons q1 q2⟩
end
theorem SqT.same{K:qB}{H H':Hp}{a:Addr}{xs:List V}(h:Same H H')(q:SqT K H a xs):SqT K H' a xs:=by
 rcases q with(q|⟨o,q⟩)|q
 ·exact .inl (.inl (h _ _ q))
 ·exact .inl (.inr ⟨o,h _ _ q⟩)
 ·exact .inr q
section
variable{X:Cx}
noncomputable def rEqD(K:qB)(neg:Bool):R2:=λx y H Q=>∃d e,Rep K H d x/\Rep K H e y/\qAo d=true/\qAo e=true/\Q (.bl (if neg then !PyData.eqv d e else qAx d e)) H
theorem zaup(hu:X.A.units+64<cLine):OpR X (compareOp .Eq) (rEqD X.K false):=by
 intro pins s σ H x y v u Q I rx ry h
 obtain⟨d,e,hd,he,sd,se,q⟩:=h
 obtain⟨as,r1⟩:=zjr I d hd rx
 obtain⟨bs,r2⟩:=zjr I e he ry
 exact eq_dataH r1 r2 sd se hu ⟨.bl (qAx d e),H,I,rfl,q⟩
theorem zauq(hu:X.A.units+64<cLine):OpR X (compareOp .NotEq) (rEqD X.K true):=by
 intro pins s σ H x y v u Q I rx ry h
 obtain⟨d,e,hd,he,sd,se,q⟩:=h
 obtain⟨as,r1⟩:=zjr I d hd rx
 obtain⟨bs,r2⟩:=zjr I e he ry
 exact ne_dataH r1 r2 sd se hu ⟨.bl (!PyData.eqv d e),H,I,rfl,q⟩
theorem zaqc{bs:List Bool}:∀{its:List Value},Vals (bs.map V.bl) its->its=bs.map Value.bool:=by
 induction bs with
 | nil=>intro its r;cases r;rfl
 | cons b bs ih=>
  intro its r
  cases r with
  | cons r rr=>cases r;rw[ih rr];rfl
theorem zagu(bs:List Bool):(List.range bs.length).all (λi=>bs.getD i false)=bs.all id:=by
 rw[qAs,qAO,qAO]
 constructor
 ·intro h b hb
  obtain⟨i,hi,e⟩:=qB9 hb
  have q:=h i (qA7.mpr hi)
  rw[qAT,qK hi,e]at q
  exact q
 ·intro h i hi
  have hi:=qA7.mp hi
  have q:=h _ (qBt hi)
  rw[qAT,qK hi]
  exact q
noncomputable def rAny(K:qB)(f:List Bool->Bool):List V->Hp->VK->Prop:=λxs H Q=>∃p bs,xs=[.ref p]/\SqL K H p (bs.map V.bl)/\Q (.bl (f bs)) H
theorem zalk(hc:X.calm=true):CallR X (.builtin "all") (rAny X.K λbs=>bs.all id):=by
 intro pins s σ H xs us Q I r h
 obtain⟨p,bs,rfl,hq,q⟩:=h
 obtain⟨u,rfl,ru⟩:=zaai r
 cases ru
 obtain⟨its,rv,pl,hz⟩:=I.list hq
 cases zaqc rv
 have hne:p≠s.heap.objs.size:=by obtain⟨o,e,_⟩:=pl.isList;exact qr (qO e)
 refine call_all_walk (qBU pl.isList ⟨s.heap.objs.size,_,_,_,_,_,λi=>bs.getD i false,rfl,Walks.list (A:=X.A.in1) (show X.A.in1.handled=none from I.ok.hd hc) _ p hne (bs.map Value.bool).toArray,⟨⟨_,qd _ rfl,rfl,rfl⟩,?_⟩,?_,?_⟩)
 ·obtain⟨o,e,z⟩:=pl.isList
  exact⟨o,qF _ e,z⟩
 ·intro i v s' Q' E' hv hQ
  have hv:(bs.map Value.bool)[i]?=some v:=by simpa using hv
  rw[qS]at hv
  cases e:bs[i]? with
  | none=>rw[e]at hv;cases hv
  | some b=>
   rw[e]at hv
   cases hv
   have z:bs.getD i false=b:=by rw[qAT,e];rfl
   have hQ:Q' (bs.getD i false) s':=hQ
   rw[z]at hQ
   exact qBv hQ
 ·intro h' tk hk
  refine⟨.bl (bs.all id),H,?_,by rw[<- zagu bs];simp;rfl,q⟩
  exact I.kept (t':=tk) λb o e=>hk b o (by have:=qO e;simp;exact qr this) (qF _ e)
end
noncomputable def zagv(o:Option NameKind):Bool:=o==some .cell||o==some .free
noncomputable def zagw(sc:Scope)(N:List Str)(scope:Scope)(N' own:List Str)(fr:List Nat):Bool:=
 (scope.kind==.function)&&(scope.names.all λy=>scope.names.lookup y.1==some y.2)&&(scope.names.all λy=>!(y.2==.free)||zagv (sc.names.lookup y.1))&&
 (N'==own++fr.map λj=>N.getD j Str.empty)&&(fr.all λj=>decide (j<N.length)&&(scope.names.lookup (N.getD j Str.empty)==some .free))&&
 (own.all λx=>scope.names.lookup x==some .local||scope.names.lookup x==some .cell)
section
variable{X:Cx}
theorem zfm(h:zagw X.env.scope X.N scope N' own fr=true):CompOk X scope N' own fr:=by
 unfold zagw at h
 simp only[qAA]at h
 obtain⟨⟨⟨⟨⟨h1,h2⟩,h3⟩,h4⟩,h5⟩,h6⟩:=h
 refine⟨eq_of_beq h1,λy hy=>eq_of_beq (qAO.mp h2 y hy),λy hy e=>?_,eq_of_beq h4,λj hj=>?_,λx hx=>?_⟩
 ·have q:=qAO.mp h3 y hy
  rw[e]at q
  have q:zagv (X.env.scope.names.lookup y.1)=true:=by simpa using q
  unfold zagv at q
  rcases qBC.mp q with z|z
  ·exact .inl (eq_of_beq z)
  ·exact .inr (eq_of_beq z)
 ·have q:=qAO.mp h5 j hj
  rw[qAA]at q
  exact⟨of_decide_eq_true q.1,eq_of_beq q.2⟩
 ·have q:=qAO.mp h6 x hx
  rcases qBC.mp q with z|z
  ·exact .inl (eq_of_beq z)
  ·exact .inr (eq_of_beq z)
noncomputable def zaqd(K:qB):R2:=λx y H Q=>match x,y with
 | .int i,.int j=>Q (.int (i+j)) H
 | .str a,.str b=>a.length+b.length<=qV/\Q (.str (a++b)) H
 | .ref _,.ref _=>rCat x y H Q\/zaub K x y H Q
 | _,_=>False
theorem zaqe:OpR X (binaryOp .Add) (zaqd X.K):=by
 intro pins s σ H x y v u Q I rx ry h
 cases x<;>cases y<;>first
  | exact h.elim
  | exact zatv pins s σ H _ _ v u Q I rx ry ⟨_,_,rfl,rfl,h⟩
  | exact zaeg pins s σ H _ _ v u Q I rx ry ⟨_,_,rfl,rfl,h.1,h.2⟩
  | exact(zaui.or zapp) pins s σ H _ _ v u Q I rx ry h
noncomputable def zaur:R2:=λx y H Q=>match x,y with
 | .int i,.int j=>CMul i j/\Q (.int (i * j)) H
 | .str z,.int n=>z.length<=1000/\-1000<=n/\n<=1000/\Q (.str (Txt.mul z n)) H
 | _,_=>False
theorem zik:OpR X (binaryOp .Mult) zaur:=by
 intro pins s σ H x y v u Q I rx ry h
 cases x<;>cases y<;>first
  | exact h.elim
  | exact zatx pins s σ H _ _ v u Q I rx ry ⟨_,_,rfl,rfl,h.1,h.2⟩
  | exact zaqb pins s σ H _ _ v u Q I rx ry ⟨_,_,rfl,rfl,h.1,h.2.1,h.2.2.1,h.2.2.2⟩
noncomputable def rIxU(K:qB):R2:=λx y H Q=>match x,y with
 | .str z,.int i=>z.length<=qV/\∃c,atI z.cps.toList i=some c/\Q (.str ⟨#[c]⟩) H
 | .ref p,.int i=>∃xs v,(SqL K H p xs\/SqT K H p xs)/\atI xs i=some v/\Q v H
 | _,_=>False
theorem ix_U:IxR X (rIxU X.K):=by
 intro value slice pins s σ H x y v u Q I rx ry h hs
 cases x<;>cases y<;>first
  | exact h.elim
  | (obtain⟨h1,c,h2,h3⟩:=h;exact zaue value slice pins s σ H _ _ v u Q I rx ry ⟨_,_,c,rfl,rfl,h1,h2,h3⟩ hs)
  | (obtain⟨xs,w,h1,h2,h3⟩:=h
     rcases h1 with h1|h1
     ·exact zapr value slice pins s σ H _ _ v u Q I rx ry ⟨_,xs,_,w,rfl,rfl,h1,h2,h3⟩ hs
     ·exact zaud value slice pins s σ H _ _ v u Q I rx ry ⟨_,xs,_,w,rfl,rfl,h1,h2,h3⟩ hs)
noncomputable def rSlU(K:qB):V->Option Int->Option Int->Hp->VK->Prop:=λx lo hi H Q=>match x with
 | .str z=>z.length<=qV/\Q (.str (Txt.slice z lo hi)) H
 | .ref _=>rSlL K x lo hi H Q
 | _=>False
theorem sl_U:SlR X (rSlU X.K):=by
 intro pins s σ H x v vl vu lo hi sl Q I rx hs pl pu h
 cases x<;>first
  | exact h.elim
  | exact zauo pins s σ H _ v vl vu lo hi sl Q I rx hs pl pu ⟨_,rfl,h.1,h.2⟩
  | exact zaps pins s σ H _ v vl vu lo hi sl Q I rx hs pl pu h
noncomputable def Dn(P:Program)(w:World)(K:qB)(mg:Str->Option Value)(base:Heap)(x:Str)(ps:List Str)(k:Nat)(sp:Sp):Prop:=
 ∃f fd,FnOk P w K mg base CX0 k f fd ps sp/\mg x=some (.ref f)/\qAj K (.ref f)=true/\zij K fd ps []
theorem zaxp(D:Dn X.prog X.w X.K X.mg X.base x ps k sp)(hr:Room k X.A)(hg:Gl X x)(ha:PA X (e::es) t)
  (hdb:(x==("__debug__":Str))=false:=by decide)(he:starEach (e::es) X.env=(false,eval e X.env)::starEach es X.env:=by rfl)(hpl:(backTo pos (starEach es X.env)).any (·.1)=false:=by rfl) :
  PE X (.Call (.Name x p) (e::es) [] pos) (tCall sp [] E0 t):=by
 obtain⟨f,fd,F,hm,hk,hb⟩:=D
 exact zagf F hr hg hm hk hb .nil zaxn ha hdb he hpl
end
theorem Same.upd(h:Same H H')(hp:H p=none):Same H (upd H' p o):=λb u e=>by rw[zap (zax e hp)];exact h b u e
theorem Same.new(hp:H p=none):Same H (L2.upd H p o):=(Same.refl H).upd hp
end L2
namespace Bc
open PySem L2
noncomputable abbrev Web:=List (Str×List Str)
noncomputable def nm(W:Web):List Str:=W.map (·.1)
structure WebOk(W:Web):Prop where
 nd:(nm W).Nodup
 el:∀i n es,W[i]?=some (n,es)->∀e∈es,e∈nm (W.take i)
 few:∀p∈W,p.2.length<=4
 len:W.length<=12
theorem zpw[DecidableEq α]:∀(l m:List α),l.Nodup->(∀x∈l,x∈m)->l.length<=m.length
 | [],_,_,_=>qAK _
 | a::l,m,h,s=>by
  obtain⟨h1,h2⟩:=qAe.mp h
  have ha:=s a qp
  have q:=zpw l (m.erase a) h2 λx hx=>(List.mem_erase_of_ne (λ(z:x=a)=>h1 (by rw[<- z];exact hx))).mpr (s x (qN _ hx))
  rw[List.length_erase_of_mem ha]at q
  have:=List.length_pos_of_mem ha
  rw[qz]
  omega
theorem zxl(h:WebOk W):(nm W).length<=12:=by unfold nm;rw[qC];exact h.len
end Bc
namespace L2
open PySem PySem.Spec PyProof.Rows
section
variable{X:Cx}{K:qB}(hK:X.K=K)
include hK
theorem zaqf(hc:X.calm=true)(h:PGs X es t)
  (hn:(assignEach es X.env).length=n:=by rfl) (hst:(assignEach es X.env).findIdx? (·.1)=none:=by rfl):PG X (.Tuple es k pos) (gTup K n t):=by subst hK;exact zatt hc h hn hst
theorem zea:IxR X (rIxU K):=by subst hK;exact ix_U
theorem zaap:SlR X (rSlU K):=by subst hK;exact sl_U
theorem zct:OpR X (binaryOp .Add) (zaqd K):=by subst hK;exact zaqe
theorem zacy:OpR X (compareOp .In) (rIn K false):=by subst hK;exact zagj
theorem zjs:OpR X (compareOp .NotIn) (rIn K true):=by subst hK;exact zxd
theorem zcu:CallR X (.builtin "len") (λxs H Q=>∃x n,xs=[x]/\LenV K x H n/\Q (.int n) H):=by subst hK;exact zaky
theorem zxm(hc:X.calm=true):CallR X (.builtin "all") (rAny K λbs=>bs.all id):=by subst hK;exact zalk hc
theorem zpx:CallR X (.builtin "isinstance") (λxs H Q=>∃x n t b,xs=[x,.ty n]/\TyOf K H x t/\PySem.W.kitOne K t (.type n)=some b/\Q (.bl b) H):=by subst hK;exact zalj rfl
theorem znu:CallR X (.type "list") (λxs H Q=>∃p ys,xs=[.ref p]/\(SqL K H p ys\/SqT K H p ys)/\∀l,H l=none->Q (.ref l) (upd H l (.lst ys))):=by subst hK;exact zxe
theorem zall(hl:PE X l tl):PI X tg l (zatu K tl):=by subst hK;exact zapl hl
theorem zagx{T:String}{name:Str}{id:String}{r:V->List V->Hp->VK->Prop}{o e:Expr}{es:List Expr}{to:TE}{t:TA}{apos cpos:Pos}(pa:PlainAttrs T)(slot:Slot T name id)(hty:typeOf (.builtin id)=pure (.type "method_descriptor"))(hm:MtR X id r)(ho:PE X o to)(ha:PA X (e::es) t)
  (hbase:attributeBase o name X.env (eval o X.env)=eval o X.env:=by rfl)
  (hfew:((backTo cpos (starEach (e::es) X.env)).all (λx=>!x.1)&&(backToKw cpos (keywordEach [] X.env)).all (λx=>x.1.isSome)
   && decide ((e::es).length+([]:List Keyword).length+(if([]:List Keyword).isEmpty then 0 else 1)<30))=true:=by rfl)
  (hline:(apos.endLine==cpos.line)=true:=by rfl)(hs:starEach (e::es) X.env=(false,eval e X.env)::starEach es X.env:=by rfl)(hplain:(backTo cpos (starEach es X.env)).any (·.1)=false:=by rfl) :
  PE X (.Call (.Attribute o name apos) (e::es) [] cpos) (tBM K T r to t):=by subst hK;exact zaxl pa slot hty hm ho ha hbase hfew hline hs hplain
end
noncomputable def xcIn(K:qB)(C:Addr):Bool:=match K.lookup C with
 | some ⟨.type "type",_,.cls cd,sl⟩=>(match cd.mro,sl.toList with
  | .ref C'::bm,[_,_,_,_,some (.builtin n),_]=>C'==C&&!cd.hasDel&&cd.hasDict&&n=="ValueError.__new__"&&bm.contains (.type "ValueError")&&bm.contains (.type "BaseException")&&!bm.contains (.type "AttributeError")&&!bm.contains (.type "NameError")
  | _,_=>false)
 | _=>false
theorem zaus{K:qB}{h:Heap}(X:K.In h)(q:xcIn K C=true):∃nm qn N bs bm sn sub ab col dd k0 k1 k2 k3 k5,
  h.get? C=some (excClassObj nm qn C N bs bm true sn sub ab col dd k0 k1 k2 k3 k5 "ValueError.__new__")/\(Value.ref C::bm).contains (.type "ValueError")=true/\(Value.ref C::bm).contains (.type "BaseException")=true/\(Value.ref C::bm).contains (.type "AttributeError")=false/\(Value.ref C::bm).contains (.type "NameError")=false:=by
 unfold xcIn at q
 split at q
 ·rename_i dd cd sl ho
  split at q
  ·rename_i C' bm k0 k1 k2 k3 n k5 hm hs
   simp only[qAA,beq_iff_eq,Bool.not_eq_true']at q
   obtain⟨⟨⟨⟨⟨⟨⟨rfl,hdel⟩,hdc⟩,rfl⟩,hv⟩,hb⟩,ha⟩,hn⟩:=q
   obtain⟨nm,bs,mro,ns,qn,hd,sn,sub,ab,col,del⟩:=cd
   dsimp only at hm hdel hdc
   subst hm hdel hdc
   have hsl:sl=#[k0,k1,k2,k3,some (.builtin "ValueError.__new__"),k5]:=by
    obtain⟨l⟩:=sl
    simp only at hs
    rw[hs]
   subst hsl
   refine⟨nm,qn,ns,bs,bm,sn,sub,ab,col,dd,k0,k1,k2,k3,k5,X _ _ ho,?_,?_,?_,?_⟩
   ·rw[qAC,hv,qAt]
   ·rw[qAC,hb,qAt]
   ·rw[qAC,ha];rfl
   ·rw[qAC,hn];rfl
  ·cases q
 ·cases q
end L2
namespace PySem
open Sem (wp)
section
variable{prog:Program}{w:World}{A:Around}{E:Value->Shared->Prop}{h:Heap}{g:Array GenState}{d:Drawn}{t:Nat}{os:OsState}
variable{nm q:Str}{C N:Addr}{bs bm:List Value}{sn:List Str}{sub:List Value}{ab:Bool}{col:Option Bool}{dd:Option Addr}{k0 k1 k2 k3 k5:Option Value}
theorem zael{Q:Unit->Shared->Prop}(hC:h.get? C=some (excClassObj nm q C N bs bm true sn sub ab col dd k0 k1 k2 k3 k5 "ValueError.__new__"))(hv:(Value.ref C::bm).contains (.type "ValueError")=true)
  (hq:Q () ⟨h,g,d,t,os⟩):wpAny M A (checkBuiltinCall "ValueError.__new__" ⟨.ref C::rest,[]⟩) Q E ⟨h,g,d,t,os⟩:=by
 have F:=qBZ
 have f0:=F.noStar
 simp only[checkBuiltinCall,F.newKind,F.newSplit,F.newRow]
 repeat (first|refine qg hC ?_|(refine qAa hC ?_;rw[hv])|refine wpAny_staticBase_exc hC ?_|refine wpAny_madeBy_exc hC ?_|simp only[bne_self_eq_false,qBL,if_false]|wp_step)
 exact hq
theorem zagy{rest:List Value}{R:Result->Shared->Prop}(hC:h.get? C=some (excClassObj nm q C N bs bm true sn sub ab col dd k0 k1 k2 k3 k5 "ValueError.__new__"))(hv:(Value.ref C::bm).contains (.type "ValueError")=true)(ha:(Value.ref C::bm).contains (.type "AttributeError")=false)(hn:(Value.ref C::bm).contains (.type "NameError")=false)
  (hq:R (.ok (.ret (.ref (h.objs.size+1)))) ⟨(h.push {cls:=.type "tuple",data:=.seq rest.toArray}).push {cls:=.ref C,data:=.fields #[.ref h.objs.size,.none,.none,.none,.bool false,.none]},g,d,t,os⟩) (hr:rest.length<=qV) :
  codeAny (model prog w) A (.builtin "ValueError.__new__" ⟨.ref C::rest,[]⟩) R ⟨h,g,d,t,os⟩:=by
 have F:=qBZ
 have f0:=F.ends
 refine codeAny_builtinAt F.entry ?_
 unfold Builtin.«BaseException.__new__»
 refine wpAt_bind ?_
 show wpAt _ _ _ (stack >>=_) _ _ _
 refine wpAt_bind (wpAt_stack λp below=>wpAt_of_wpAny ?_)
 wp_walk
 refine wpAt_of_wpAny ?_
 rw[F.owner]
 repeat (first|with_reducible refine wpAny_madeHere_exc F.canon hC ?_|with_reducible refine qg hC ?_|(with_reducible refine qAa hC ?_;first|rw[hv]|rw[ha]|rw[hn])|wp_step)
 show R _ _
 rw[qBj]
 exact hq
theorem zaxq{rest:List Value}{oI:Obj}{Q:Value->Shared->Prop}(hC:h.get? C=some (excClassObj nm q C N bs bm true sn sub ab col dd k0 k1 k2 k3 k5 "ValueError.__new__"))(hv:(Value.ref C::bm).contains (.type "ValueError")=true)(ha:(Value.ref C::bm).contains (.type "AttributeError")=false)(hn:(Value.ref C::bm).contains (.type "NameError")=false)
  (LI:W.Looks (model prog w) h (typeLookup (.ref C) "__init__") (some (.ref fI)))(hfI:h.get? fI=some oI)(hfc:oI.cls=.type "function")(hr:rest.length<=qV)
  (hq:∀h' e,Heap.MadeExcOf h h' e (.ref C) rest->wpAny (model prog w) (A.under (.builtin "type.__call__" ⟨.ref C::rest,[]⟩)) (call (.ref fI) (.ref e::rest)) (λr s'=>r=.none/\Q (.ref e) s') E ⟨h',g,d,t,os⟩) :
  wpAny (model prog w) A (call (.ref C) rest) Q E ⟨h,g,d,t,os⟩:=by
 have F:=qBZ
 have f1:=tc_lookup
 have f2:=tc_bind (.ref C)
 have hT:(⟨h,g,d,t,os⟩:Shared).TypeIs (.ref C) "type":=⟨_,hC,rfl⟩
 refine qBx (qCy ?_)
 show wpAny _ _ (callAny (.ref C) _) _ _ _
 repeat (any_goals (first|assumption|with_reducible refine qg hC ?_|wp_step))
 refine⟨rfl,?_⟩
 refine codeAny_call_builtin_at (qBg _ (by decide +kernel)) entry_typeCall (wpAny_check_type_call_sub hC ?_)
 repeat (first|with_reducible refine qg hC ?_|with_reducible refine wpAny_madeBy_exc hC ?_|wp_step)
 refine codeAny_call_builtin_code (qBg _ F.quiet) (zael hC hv ?_)
 refine zagy hC hv ha hn ?_ hr
 show wpAny _ _ _ _ _ _
 have kp:∀b o,h.get? b=some o->((h.push {cls:=.type "tuple",data:=.seq rest.toArray}).push {cls:=.ref C,data:=.fields #[.ref h.objs.size,.none,.none,.none,.bool false,.none]}).get? b=some o:=λb o e=>qF _ (qF _ e)
 have hC1:=kp _ _ hC
 have he:((h.push {cls:=.type "tuple",data:=.seq rest.toArray}).push {cls:=.ref C,data:=.fields #[.ref h.objs.size,.none,.none,.none,.bool false,.none]}).get? (h.objs.size+1)=some {cls:=.ref C,data:=.fields #[.ref h.objs.size,.none,.none,.none,.bool false,.none]}:=by heap_get
 have hcC:(Value.ref C::bm).contains (.ref C)=true:=by simp
 unfold isInstance
 repeat (first|with_reducible refine qg he ?_|(refine qAa hC1 ?_;rw[hcC])|wp_step)
 show wpAny _ _ (typeLookup (.ref C) _) _ _ _
 refine(LI.keeps kp).here ?_
 refine qBe (qE ?_)
 unfold bindSpecial
 refine qE (qCh (T:="function") ⟨_,kp _ _ hfI,hfc⟩ ?_)
 rw[if_pos (by decide)]
 refine qR (qE (qAq (hq _ (h.objs.size+1) ⟨kp,qAl (qCe _),h.objs.size,he,qAl (qQ _),?_⟩) (λr s' hh=>?_) λ_ _ x=>x))
 ·exact qF _ (Heap.get?_push_at rfl rfl)
 ·obtain⟨rfl,hQ⟩:=hh
  wp_walk
  exact hQ
end
open Builtin Builtin.ObjectAttr
noncomputable def vmro:List Value:=[.type "ValueError",.type "Exception",.type "BaseException",.type "object"]
noncomputable def zdw:List Value->Bool
 | .ref _::r=>zdw r
 | l=>l==vmro
theorem zmg(self:Value)(what:Str):∀{l:List Value},zdw l=true->refuseLoop self what l=refuseLoop self what vmro
 | [],h=>by cases h
 | v::r,h=>by
  cases v with
  | ref a=>rw[refuseLoop_ref];exact zmg self what h
  | _=>rw[eq_of_beq (show(_==vmro)=true from h)]
theorem zdd(hT:vmro.contains T=true):∀{l:List Value},zdw l=true->l.contains T=true
 | [],h=>by cases h
 | v::r,h=>by
  cases v with
  | ref a=>rw[qAC,zdd hT (l:=r) h,qAt]
  | _=>rw[eq_of_beq (show(_==vmro)=true from h)];exact hT
section
variable{prog:Program}{w:World}{A:Around}{E:Value->Shared->Prop}{h:Heap}{g:Array GenState}{d:Drawn}{t:Nat}{os:OsState}
variable{nm q:Str}{C N x:Addr}{bs bm:List Value}{sn:List Str}{sub:List Value}{ab:Bool}{col:Option Bool}{dd:Option Addr}{k0 k1 k2 k3 k5:Option Value}{newId:String}{name:Str}{v:Value}
theorem zxn{o:Obj}{Q:Unit->Shared->Prop}(hr:zdw bm=true)
  (hC:h.get? C=some (excClassObj nm q C N bs bm true sn sub ab col dd k0 k1 k2 k3 k5 newId))(hx:h.get? x=some o)(hc:o.cls=.ref C)(hq:Q () ⟨h,g,d,t,os⟩) :
  wpAny M A (checkBuiltinCall "object.__setattr__" ⟨[.ref x,nameV,v],[]⟩) Q E ⟨h,g,d,t,os⟩:=by
 have SF:=qCK
 have hcB:(Value.ref C::bm).contains (.type "object")=true:=by rw[qAC,zdd (by decide) hr,qAt]
 have ha:=SF.args (.ref x) nameV v
 simp only[checkBuiltinCall,SF.kind,SF.split]
 refine qE ?_
 ·unfold isInstance
  repeat (first|(with_reducible refine qg hx ?_;rw[hc])|(with_reducible refine qAa hC ?_;rw[hcB])|wp_step)
  exact hq
theorem zxo{Q:Fin->Shared->Prop}{o:Obj}(hr:zdw bm=true)
  (hC:h.get? C=some (excClassObj nm q C N bs bm true sn sub ab col dd k0 k1 k2 k3 k5 newId))(hx:h.get? x=some o)(hc:o.cls=.ref C)(hnc:∀c,o.data≠.cls c)(hdn:o.dict=none)
  (LA:W.Looks (model prog w) h (typeLookup (.ref C) name) none)
  (hq:∀h' tk' dx,h.objs.size<=dx->h'.Ns1 dx (λy=>if y=name then some v else none)->h'.get? x=some {o with dict:=some dx}->
   (∀b o,b≠x->h.get? b=some o->h'.get? b=some o)->Q (.done (.ret .none)) ⟨h',g,d,tk',os⟩) :
  wpAny (model prog w) A (Builtin.«object.__setattr__» ⟨[.ref x,.str name tk,v],[]⟩) Q E ⟨h,g,d,t,os⟩:=by
 have SF:=qCK
 have hpass:refuseLoop (.ref x) "__setattr__" bm=pure ():=by rw[zmg _ _ hr];exact SF.passes (.ref x)
 unfold Builtin.«object.__setattr__»
 repeat (first|rw[refuse_eq]|(rw[refuseLoop_ref,hpass])|(with_reducible refine qg hx ?_;rw[hc])|with_reducible refine wpAny_mroOf_exc hC ?_|(with_reducible refine LA.here ?_)|wp_step)
 rw[hdn,if_neg (by simp[typeHasDict])]
 split
 ·rename_i hcd
  cases hcd
 split
 ·rename_i c hcd
  exact absurd hcd (hnc c)
 ·have hx₁:(h.push {cls:=.type "dict",data:=.dict #[]}).get? x=some o:=qF _ hx
  have hxs:x≠h.objs.size:=qr (qO hx)
  refine qE (wpAny_alloc' ?_)
  refine qE (wpAny_update' hx₁ ?_)
  refine qR ?_
  have hgd:((h.push {cls:=.type "dict",data:=.dict #[]}).update x λo=>{cls:=o.cls,dict:=some h.objs.size,data:=o.data,slots:=o.slots}).get? h.objs.size
    = some {cls:=.type "dict",data:=.dict #[]}:=
   (qDM _ _ _ _ hxs.symm).trans (Heap.get?_push_at rfl rfl)
  have hnd:((h.push {cls:=.type "dict",data:=.dict #[]}).update x λo=>{cls:=o.cls,dict:=some h.objs.size,data:=o.data,slots:=o.slots}).Ns h.objs.size (λ_=>none):=
   ⟨_,#[],_,hgd,rfl,λe he=>absurd he (by simp),λ_=>rfl⟩
  show wpAny _ _ (storeInDict h.objs.size (.str name tk) name v) _ _ _
  unfold storeInDict newKeyGuard
  refine qE (qR (qE (wpAny_nsSet1EFk (Heap.Ns1.of_empty hnd) λh' hn' hs hkeepD=>?_)))
  obtain⟨oD,esD,epD,hoD,hdD,hcD⟩:=hn'.count (Within.cons name v Within.nil)
  refine qE (wpAny_lookBehind hoD (by rw[hdD];exact pastItsLine_dict (qAE hcD (by rw[qz,qA2,qA6];omega))) ?_)
  wp_walk
  refine hq h' _ h.objs.size (qQ _) hn' ?_ (λb ob hbx hb=>?_)
  ·refine(hs.2 x hxs).trans (qAh _ hx₁ ?_)
   have hfr:=(Heap.get?_some_iff.mp hx).2
   obtain⟨oc,od,odt,osl⟩:=o
   cases odt<;>first|rfl|exact hfr
  ·exact(hs.2 b (qr (qO hb))).trans ((qDM _ _ _ _ hbx).trans (qF _ hb))
theorem zaut{Q:Unit->Shared->Prop}{o:Obj}(hr:zdw bm=true)
  (hC:h.get? C=some (excClassObj nm q C N bs bm true sn sub ab col dd k0 k1 k2 k3 k5 newId))(hx:h.get? x=some o)(hc:o.cls=.ref C)(hnc:∀c,o.data≠.cls c)(hdn:o.dict=none)
  (LS:W.Looks (model prog w) h (typeLookup (.ref C) "__setattr__") (some (.builtin "object.__setattr__")))(LA:W.Looks (model prog w) h (typeLookup (.ref C) name) none)
  (hq:∀h' tk' dx,h.objs.size<=dx->h'.Ns1 dx (λy=>if y=name then some v else none)->h'.get? x=some {o with dict:=some dx}->
   (∀b o,b≠x->h.get? b=some o->h'.get? b=some o)->Q () ⟨h',g,d,tk',os⟩) :
  wpAny (model prog w) A (setAttr (.ref x) name v) Q E ⟨h,g,d,t,os⟩:=by
 have SF:=qCK
 have f3:=SF.slot.bind (.ref x)
 unfold setAttr callSpecial? specialOf
 repeat (any_goals (first|assumption|(with_reducible refine qg hx ?_;rw[hc])|(with_reducible refine LS.here ?_)|wp_step))
 refine qAn SF.slot.plain SF.entry (zxn hr hC hx hc (zxo hr hC hx hc hnc hdn LA λh' tk' dx a1 a2 a3 a4=>?_))
 repeat (any_goals (first|assumption|wp_step))
 exact hq h' tk' dx a1 a2 a3 a4
theorem zaxr{Q:Value->Shared->Prop}{o:Obj}{mA:Str->Option Value}(hr:zdw bm=true)
  (hC:h.get? C=some (excClassObj nm q C N bs bm true sn sub ab col dd k0 k1 k2 k3 k5 newId))(hx:h.get? x=some o)(hc:o.cls=.ref C)(hd:o.data=.fields vs)(hdd:o.dict=some dx)
  (hns:h.Ns dx mA)(hv:mA name=some v)
  (LG:W.Looks (model prog w) h (typeLookup (.ref C) "__getattribute__") (some (.builtin "BaseException.__getattribute__")))(LH:W.Looks (model prog w) h (typeLookup (.ref C) "__getattr__") none)(LA:W.Looks (model prog w) h (typeLookup (.ref C) name) none)
  (hh:W.handedIn v=true)(hq:∀tk',Q v ⟨h,g,d,tk',os⟩) :
  wpAny (model prog w) A (getAttr (.ref x) name expr) Q E ⟨h,g,d,t,os⟩:=by
 have hk:builtinKind "BaseException.__getattribute__"=some .slot:=by decide +kernel
 have hsplit:splitId "BaseException.__getattribute__"=some ("BaseException","__getattribute__"):=by decide +kernel
 have hcB:(Value.ref C::bm).contains (.type "BaseException")=true:=by rw[qAC,zdd (by decide) hr,qAt]
 have hx0:(expr&&onTheHeap (Value.builtin "BaseException.__getattribute__"))=false:=by cases expr<;>rfl
 have hx2:(Value.builtin "BaseException.__getattribute__"==Value.builtin "object.__getattribute__")=false:=by decide +kernel
 have hx1:(onTheHeap (Value.ref C)&&Value.builtin "BaseException.__getattribute__"==Value.builtin "object.__getattribute__")=false:=by rw[hx2];rfl
 have FB:=F.attr_ValueError
 have f3:=FB.ga.bind (.ref x)
 have ha:=F.args_bexc_ga (.ref x)
 unfold getAttr getAttrBy
 repeat (any_goals (first|assumption|(with_reducible refine qg hx ?_;rw[hc])|(with_reducible refine LG.here ?_)|(with_reducible refine LH.here ?_)|wp_step))
 refine qAn FB.ga.plain F.entry_bexc_ga ?_
 simp only[checkBuiltinCall,hk,hsplit]
 refine qE ?_
 unfold isInstance
 repeat (first|(with_reducible refine qg hx ?_;rw[hc])|(with_reducible refine qAa hC ?_;rw[hcB])|wp_step)
 repeat (any_goals (first|assumption|(with_reducible refine qg hx ?_;rw[hc])|(with_reducible refine LA.here ?_)|wp_step))
 rw[hd]
 dsimp only
 unfold instanceDict
 repeat (any_goals (first|assumption|(with_reducible refine qg hx ?_;rw[hc])|(with_reducible refine qg hC ?_)|wp_step))
 rw[hdd]
 dsimp only
 refine qR ?_
 unfold inDict
 refine wpAny_nsGet hns ?_
 rw[hv]
 dsimp only
 repeat (any_goals (first|assumption|wp_step))
 show wpAny _ _ (handedOut v) _ _ _
 rw[W.handedOut_of hh]
 exact qR (hq _)
theorem zaxs{Q:Value->Shared->Prop}{o:Obj}{vs:Array Value}{rest:List Value}(hr:zdw bm=true)(hl:rest.length<=qV)
  (hC:h.get? C=some (excClassObj nm q C N bs bm true sn sub ab col dd k0 k1 k2 k3 k5 newId))(hx:h.get? x=some o)(hc:o.cls=.ref C)(hd:o.data=.fields vs)(hs:0<vs.size)
  (hq:∀h' p,h'.get? x=some {o with data:=.fields (vs.setIfInBounds 0 (.ref p))}->(∀b o,b≠x->h.get? b=some o->h'.get? b=some o)->Q .none ⟨h',g,d,t,os⟩) :
  wpAny (model prog w) A (call (.builtin "ValueError.__init__") (.ref x::rest)) Q E ⟨h,g,d,t,os⟩:=by
 have F:=qBZ
 have hcB:(Value.ref C::bm).contains (.type "ValueError")=true:=by rw[qAC,zdd (by decide) hr,qAt]
 have hshort:=F.noStar
 refine qBx (qAn F.init.plain F.initEntry ?_)
 simp only[checkBuiltinCall,F.initKind,F.initSplit,F.initRow]
 repeat (first|(with_reducible refine qg hx ?_;rw[hc])|with_reducible refine qg hC ?_|(with_reducible refine qAa hC ?_;rw[hcB])|wp_step)
 refine wpAny_onRaise ?_
 rw[show ∀(a b:String)(n:Nat),Bind.check ⟨.positional,"*","ValueError",.self,[⟨"args",.varPos,false⟩]⟩ a b n (List.map (λx=>x.fst) ({pos:=Value.ref x::rest}:Args).kw)=pure ()from
  λa b n=>check_star_args _ _ _ _ _ _]
 refine qR ?_
 unfold Builtin.«BaseException.__init__»
 repeat (any_goals (first|assumption|wp_step))
 rw[hd]
 dsimp only
 refine qR ?_
 rw[Array.getElem?_eq_getElem hs]
 dsimp only
 refine qR (qE ?_)
 have hx':(h.push {cls:=.type "tuple",data:=.seq rest.toArray}).get? x=some o:=qF _ hx
 refine qBE hx' hd hs ?_
 have fin:Q .none ⟨(h.push {cls:=.type "tuple",data:=.seq rest.toArray}).update x (Obj.mapFields (·.setIfInBounds 0 (Value.ref h.objs.size))),g,d,t,os⟩:=by
  refine hq _ h.objs.size ?_ λb ob hb e=>by rw[qAX _ _ (qAk hb)];exact qF _ e
  have hd₃:=qAV hd (·.setIfInBounds 0 (Value.ref h.objs.size))
  rw[qAh _ hx' (qAp hd₃)]
  unfold Obj.mapFields
  obtain⟨oc,od,odt,osl⟩:=o
  cases hd
  rfl
 cases vs[0]<;>(repeat (any_goals (first|exact fin|assumption|wp_step)))
end
noncomputable def Heap.Tb(h:Heap)(T:Addr):Prop:=∃oT ts,h.get? T=some oT/\oT.data=.fields ts/\ts[3]?=some .none
section
variable{M:Model}{A:Around}{E:Value->Shared->Prop}{s:Shared}{base:Heap}{env:Env}{outer:List Env}{L e:Addr}{oe:Obj}{vs:Array Value}
theorem mapf{o:Obj}(hd:o.data=.fields vs)(f:Array Value->Array Value):Obj.mapFields f o={o with data:=.fields (f vs)}:=by
 unfold Obj.mapFields
 obtain⟨oc,od,odt,osl⟩:=o
 cases hd
 rfl
theorem zpy{Q:Unit->Shared->Prop}
  (hfr:A.frames=some (env::outer))(hl:s.heap.FunFrames base (env::outer))(hf:env.frame=some L)(he:s.heap.get? e=some oe)(hd:oe.data=.fields vs)(hsz:1<vs.size)
  (hQ:∀h' T,s.heap.objs.size<=T->T≠e->(∀b o,b≠e->b∉(env::outer).filterMap (·.frame)->s.heap.get? b=some o->h'.get? b=some o)->
   (∀b o,b≠e->s.heap.get? b=some o->∃sl,h'.get? b=some {o with slots:=sl})->h'.get? e=some {oe with data:=.fields (vs.setIfInBounds 1 (.ref T))}->h'.Tb T->Q () {s with heap:=h'}) :
  wpAny M A (do let a <- frameOf env;let pl <- entryPlaceOf L hadNext;let b <- EntryCells.newEntry head a .none (rawInt L) .none pl;setField (.ref e) 1 b) (λ_ s'=>wpAny M A (setFlight (.ref e) none) Q E s') E s:=by
 have hene:e∉(env::outer).filterMap (·.frame):=λhm=>by
  obtain⟨_,o,ho,hnf⟩:=hl.mem hm
  rw[he]at ho;injection ho with ho;subst ho;exact hnf vs hd
 refine qE (wpAny_frameOf_fun hfr hl hf λh₁ hs₁=>?_)
 refine qE (wpAny_entryPlaceOf λpl hpl=>?_)
 unfold EntryCells.newEntry newFields
 refine qE (qBw ?_ (hpl.sizeOk5 _ _ _ _ _))
 have he₁:h₁.get? e=some oe:=(hs₁.2.1 e hene).trans he
 have he₂:=qF (h:=h₁) {cls:=.type "traceback",dict:=none,data:=.fields ([head,.ref L,.none,rawInt L,.none]++(if pl.isEmpty then List.replicate 6 Value.none else pl)).toArray} he₁
 refine qBE he₂ hd hsz ?_
 have hTe:h₁.objs.size≠e:=qBh (qO he₁)
 have hd₃:=qAV hd (·.setIfInBounds 1 (Value.ref h₁.objs.size))
 have he₃:=qAh (Obj.mapFields (·.setIfInBounds 1 (Value.ref h₁.objs.size))) he₂ (qAp hd₃)
 have hT₃:=(qAX (h₁.push {cls:=.type "traceback",dict:=none,data:=.fields ([head,.ref L,.none,rawInt L,.none]++(if pl.isEmpty then List.replicate 6 Value.none else pl)).toArray})
  (Obj.mapFields (·.setIfInBounds 1 (Value.ref h₁.objs.size))) (qAk hTe)).trans (qd h₁ rfl)
 unfold setFlight
 refine qE (qA5 he₃ hd₃ (x:=.ref h₁.objs.size) (by simp[hsz]) ?_)
 rw[if_pos (show(Value.ref h₁.objs.size != Value.none)=true from by simp)]
 refine qBE hT₃ rfl (by simp only[qW,qZ,qz,qA2]<;>omega) ?_
 have keep:∀b o,b≠e->h₁.get? b=some o->
   (((h₁.push {cls:=.type "traceback",dict:=none,data:=.fields ([head,.ref L,.none,rawInt L,.none]++(if pl.isEmpty then List.replicate 6 Value.none else pl)).toArray}).update e (Obj.mapFields (·.setIfInBounds 1 (Value.ref h₁.objs.size)))).update h₁.objs.size
    (Obj.mapFields (·.setIfInBounds 3 ((none:Option Addr).elim Value.none λf=>rawInt f)))).get? b=some o:=λb o hbe hb=>by
  have hbT:h₁.objs.size≠b:=qBh (qO hb)
  rw[qAX _ _ hbT,qAX _ _ (qAk hbe)]
  exact qF _ hb
 refine hQ _ h₁.objs.size (Nat.le_of_eq hs₁.1.symm) hTe (λb o hb hn ho=>keep b o hb ((hs₁.2.1 b hn).trans ho)) (λb o hb ho=>?_) ?_ ?_
 ·obtain⟨sl,hs⟩:=hs₁.2.2 b o ho
  exact⟨sl,keep b _ hb hs⟩
 ·rw[qAX _ _ hTe,he₃,mapf hd]
 ·exact⟨_,_,qAh _ hT₃ (qAp (qAV rfl _)),qAV rfl _,by first|(simp;done)|(rcases hpl with rfl|⟨_,_,_,_,_,_,_,rfl⟩<;>simp)⟩
theorem zaaq{Q:Unit->Shared->Prop}
  (hfr:A.frames=some (env::outer))(hl:s.heap.FunFrames base (env::outer))(hf:env.frame=some L)(he:s.heap.get? e=some oe)(hd:oe.data=.fields vs)
  (h1:vs[1]?=some .none\/∃T,vs[1]?=some (.ref T)/\T≠e/\s.heap.Tb T)
  (hQ:∀h' T,s.heap.objs.size<=T->T≠e->(∀b o,b≠e->vs[1]?≠some (.ref b)->b∉(env::outer).filterMap (·.frame)->s.heap.get? b=some o->h'.get? b=some o)->
   (∀b o,b≠e->vs[1]?≠some (.ref b)->s.heap.get? b=some o->∃sl,h'.get? b=some {o with slots:=sl})->(∀b,vs[1]?=some (.ref b)->h'.Tb b)->
   h'.get? e=some {oe with data:=.fields (vs.setIfInBounds 1 (.ref T))}->h'.Tb T->Q () {s with heap:=h'}) :
  wpAny M A (noteFrame (.ref e) env) (λ_ s'=>wpAny M A (setFlight (.ref e) none) Q E s') E s:=by
 unfold noteFrame
 simp only[hf]
 rcases h1 with h1|⟨T,h1,hTe,oT,ts,hT,hdT,h3⟩
 ·refine(qE (qA5 he hd h1 ?_))
  rw[if_neg (by decide)]
  exact zpy hfr hl hf he hd (qAb.mp h1).1 λh' T a1 a2 a3 a4 a5 a6=>hQ h' T a1 a2 (λb o q _=>a3 b o q) (λb o q _=>a4 b o q) (λb q=>by rw[h1]at q;cases q) a5 a6
 ·refine(qE (qA5 he hd h1 ?_))
  rw[if_pos (show(Value.ref T != Value.none)=true from by simp)]
  refine qE (qA5 hT hdT h3 ?_)
  rw[if_neg (show ¬((Value.none==rawInt L)=true)from by simp[rawInt])]
  have hsz3:=(qAb.mp h3).1
  refine qE (qBE hT hdT hsz3 ?_)
  have other:∀b,b≠T->(s.heap.update T (Obj.mapFields (·.setIfInBounds 3 Value.none))).get? b=s.heap.get? b:=λb hb=>qAX _ _ (qAk hb)
  have hT':=qAh (Obj.mapFields (·.setIfInBounds 3 Value.none)) hT (qAp (qAV hdT _))
  have noRecord:∀b o,s.heap.get? b=some o->(∀vs,o.data≠.fields vs)->b≠T:=λb o hb hnf q=>by
   rw[q,hT]at hb;injection hb with hb;subst hb;exact hnf ts hdT
  have ne:∀{b:Addr},vs[1]?≠some (.ref b)->b≠T:=λq z=>q (by rw[h1,z])
  refine zpy hfr (hl.of_keeps λb o hb hnf=>⟨o,(other b (noRecord b o hb hnf)).trans hb,rfl⟩) hf ((other e (qAk hTe)).trans he) hd (qAb.mp h1).1 λh' T' a1 a2 a3 a4 a5 a6=>?_
  refine hQ h' T' (by rw[Heap.size_update]at a1;exact a1) a2 (λb o q n z ho=>a3 b o q z ((other b (ne n)).trans ho)) (λb o q n ho=>a4 b o q ((other b (ne n)).trans ho)) (λb q=>?_) a5 a6
  rw[h1]at q
  cases q
  obtain⟨sl,hs⟩:=a4 T _ hTe hT'
  exact⟨_,_,hs,qAV hdT _,by simp[hsz3]⟩
theorem zagz{Q:Unit->Shared->Prop}(he:s.heap.get? e=some oe)(hd:oe.data=.fields vs)(h1:vs[1]?=some (.ref T))(hT:s.heap.Tb T)
  (hQ:∀h',(∀b o,b≠T->s.heap.get? b=some o->h'.get? b=some o)->h'.Tb T->Q () {s with heap:=h'}):wpAny M A (setFlight (.ref e) none) Q E s:=by
 obtain⟨oT,ts,hT,hdT,h3⟩:=hT
 have hsz3:=(qAb.mp h3).1
 unfold setFlight
 refine qE (qA5 he hd h1 ?_)
 rw[if_pos (show(Value.ref T != Value.none)=true from by simp)]
 refine qBE hT hdT hsz3 (hQ _ (λb o hb ho=>by rw[qAX _ _ (qAk hb)];exact ho) ?_)
 exact⟨_,_,qAh _ hT (qAp (qAV hdT _)),qAV hdT _,by simp[hsz3]⟩
end
end PySem
namespace L2
open PySem PySem.Spec PyProof.Rows
noncomputable def xeD(e C dx:Addr)(tv:Value)(h:Heap):Prop:=∃vs sl,h.get? e=some {cls:=.ref C,dict:=some dx,data:=.fields vs,slots:=sl}/\vs[1]?=some tv
theorem xeD.stay(h1 h2:Heap)(h:xeD e C dx tv h1)(k:∀o,h1.get? e=some o->h2.get? e=some o):xeD e C dx tv h2:=
 let⟨vs,sl,a,b⟩:=h;⟨vs,sl,k _ a,b⟩
theorem zaqg(h1 h2:Heap)(h:h1.Tb T)(k:∀o,h1.get? T=some o->h2.get? T=some o):h2.Tb T:=
 let⟨oT,ts,a,b⟩:=h;⟨oT,ts,k _ a,b⟩
theorem zaod(q:xeD e C dx tv h):zdk P w H h e (.ext (xeD e C dx tv)):=
 ⟨q,let⟨_,_,a,_⟩:=q;⟨_,a⟩,λh1 h2=>xeD.stay h1 h2⟩
theorem zaha{h:Heap}(q:h.Tb T):zdk P w H h T (.ext λh=>h.Tb T):=
 ⟨q,let⟨_,_,a,_⟩:=q;⟨_,a⟩,λh1 h2=>zaqg h1 h2⟩
theorem zdk.there{h:Heap}(x:zdk P w H h a o):∃ob,h.get? a=some ob:=by
 cases o with
 | lst xs=>obtain⟨_,_,_,_,e⟩:=x;exact⟨_,e⟩
 | tup xs=>obtain⟨_,_,_,ob,e,_⟩:=x;exact⟨_,e⟩
 | dK kvs=>obtain⟨_,_,_,_,o,_,_,e,_⟩:=x;exact⟨_,e⟩
 | dT kvs=>obtain⟨_,_,_,_,o,_,_,e,_⟩:=x;exact⟨_,e⟩
 | set S n=>obtain⟨o,_,_,_,e,_⟩:=x;exact⟨_,e⟩
 | ins C dx fs=>obtain⟨_,_,_,e,_⟩:=x;exact⟨_,e⟩
 | own y=>exact x
 | xd fs=>obtain⟨_,⟨_,_,_,e,_⟩,_⟩:=x;exact⟨_,e⟩
 | rng lo hi=>obtain⟨_,_,_,e⟩:=x;exact⟨_,e⟩
 | frz ob u=>obtain⟨e,_⟩:=x;exact⟨_,e⟩
 | tbl ps=>exact⟨_,x⟩
 | tabO q=>obtain⟨_,e,_⟩:=x;exact⟨_,e⟩
 | met f y=>exact⟨_,x⟩
 | ext φ=>exact x.2.1
theorem HOk.no{h:Heap}(x:HOk P w H h)(n:h.get? a=none):H a=none:=by
 cases q:H a with
 | none=>rfl
 | some u=>obtain⟨ob,z⟩:=(x a u q).there;rw[n]at z;cases z
noncomputable def zalm(H H':Hp):Prop:=∀b o,H b=some o->(∀φ,o≠.ext φ)->H' b=some o
noncomputable def StX(H0:Hp)(E:XK):XK:=λc dx H'=>∀H3,(∀b o,H0 b=some o->H' b=some o->H3 b=some o)->zalm H' H3->E c dx H3
structure Flt(h:Heap)(H':Hp)(e C dx:Addr):Prop where
 new:h.get? e=none
 st:∃tv,H' e=some (.ext (xeD e C dx tv))/\(tv=.none\/∃T,tv=.ref T/\T≠e/\h.get? T=none/\H' T=some (.ext λh=>h.Tb T))
noncomputable def CXE(P:Program)(w:World):CXT:=λouter H s E e s'=>∃ea C dx H',e=.ref ea/\s'.os=s.os/\AllBare s'.gens/\Un (frs outer) [] H H' s.heap s'.heap/\HOk P w H' s'.heap/\Flt s.heap H' ea C dx/\StX H E (.ref C) (some dx) H'
section
variable{X:Cx}{pins:List (Addr×Obj)}{σ:St}{H1:Hp}{s:Shared}{e C dx:Addr}{E:Value->Shared->Prop}
theorem zxp{h0:Heap}{Q:Unit->Shared->Prop}(I:Inv X pins σ H1 s)(hst:X.stack=X.env::X.outer)(hfr:X.env.frame=some X.env.locals)(hz:∀b ob,h0.get? b=some ob->∃o',s.heap.get? b=some o')(F:Flt h0 H1 e C dx)
  (k:∀s' H2,Inv X pins σ H2 s'->(∃T,H2 e=some (.ext (xeD e C dx (.ref T)))/\T≠e/\h0.get? T=none/\H2 T=some (.ext λh=>h.Tb T))->
   (∀b o ob,h0.get? b=some ob->H1 b=some o->H2 b=some o)->zalm H1 H2->(s.heap.objs.size<=s'.heap.objs.size)->Q () s') :
  wpAny (model X.prog X.w) X.A (noteFrame (.ref e) X.env) (λ_ s'=>wpAny (model X.prog X.w) X.A (setFlight (.ref e) none) Q E s') E s:=by
 obtain⟨tv,he,ht⟩:=F.st
 obtain⟨⟨vs,sl,oe,h1⟩,_,_⟩:=I.hok e _ he
 have hfs:∀b,b∈(X.env::X.outer).filterMap (·.frame)->H1 b=none:=λb hb=>I.stkFree b (by unfold frs;rw[hst];exact hb)
 have hT1:tv=.none\/∃T,tv=.ref T/\T≠e/\s.heap.Tb T:=ht.imp id λ⟨T,a,b,c,d⟩=>⟨T,a,b,(I.hok T _ d).1⟩
 refine zaaq (base:=X.base) (L:=X.env.locals) (by rw[<- hst];exact I.ok.frames) (by rw[<- hst];exact I.stack) hfr oe rfl (hT1.imp (λz=>by rw[h1,z]) λ⟨T,a,b,c⟩=>⟨T,by rw[h1,a],b,c⟩) λh' T a1 a2 a3 a4 a5 a6 a7=>?_
 have nT:H1 T=none:=I.hok.fresh a1
 have tr:∀b,vs[1]?=some (.ref b)->H1 b=some (.ext λh=>h.Tb b)/\b≠e/\h0.get? b=none:=λb q=>by
  rw[h1]at q
  rcases ht with z|⟨T0,z,b1,c1,d1⟩
  ·rw[z]at q;cases q
  ·rw[z]at q;cases q;exact⟨d1,b1,c1⟩
 let H2:Hp:=upd (upd H1 T (.ext λh=>h.Tb T)) e (.ext (xeD e C dx (.ref T)))
 have h2:∀b,b≠e->b≠T->H2 b=H1 b:=λb q z=>by show upd _ _ _ b=_;rw[zap q,zap z]
 have h2e:H2 e=some (.ext (xeD e C dx (.ref T))):=zam
 have h2T:H2 T=some (.ext λh=>h.Tb T):=by show upd _ _ _ T=_;rw[zap a2,zam]
 have ext2:∀b o,H1 b=some o->(∀φ,o≠.ext φ)->H2 b=some o:=λb o q n=>by
  rw[h2 b (λz=>by rw[z,he]at q;cases q;exact n _ rfl) (λz=>by rw[z,nT]at q;cases q)];exact q
 have kp:∀b o,H1 b=some o->b≠e->vs[1]?≠some (.ref b)->∀u,s.heap.get? b=some u->h'.get? b=some u:=λb o q n n2 u z=>a3 b u n n2 (λm=>by rw[hfs b m]at q;cases q) z
 have hsz1:1<vs.size:=(qAb.mp h1).1
 have ok2:HOk X.prog X.w H2 h':=λb o q=>by
  by_cases hb:b=e
  ·subst hb
   rw[h2e]at q
   cases q
   exact zaod ⟨_,_,a6,by rw[Array.getElem?_setIfInBounds_self_of_lt hsz1]⟩
  ·by_cases hbT:b=T
   ·subst hbT
    rw[h2T]at q
    cases q
    exact zaha a7
   ·rw[h2 b hb hbT]at q
    by_cases hv:vs[1]?=some (.ref b)
    ·rw[(tr b hv).1]at q
     cases q
     exact zaha (a5 b hv)
    ·refine(I.hok b o q).stay (λc u hc z=>?_) (λc z=>ext2 c _ z (λφ y=>by cases y)) (λc xs z=>ext2 c _ z (λφ y=>by cases y)) (λc o2 z=>ext2 c _ z (λφ y=>by cases y))
     rcases hc with rfl|hc
     ·exact kp c o q hb hv u z
     ·exact kp c _ hc (λy=>by rw[y,he]at hc;cases hc) (λy=>by rw[(tr c y).1]at hc;cases hc) u z
 have un:Un (frs X.stack) [] H1 H2 s.heap h':=by
  have nb:∀b,H1 b=none->b≠e/\vs[1]?≠some (.ref b):=λb n=>⟨λy=>(by rw[y,he]at n;cases n),λy=>(by rw[(tr b y).1]at n;cases n)⟩
  have hfs':∀b,b∈frs X.stack↔b∈(X.env::X.outer).filterMap (·.frame):=λb=>by unfold frs;rw[hst]
  refine⟨λb o q n hb _=>a3 b o (nb b n).1 (nb b n).2 (λm=>hb ((hfs' b).mpr m)) q,λb o q n hb _=>a4 b o (nb b n).1 (nb b n).2 q,λb o q n _=>?_,λb o q _=>?_,λb xs q=>ext2 b _ q (λφ y=>by cases y),λb o u q=>ext2 b _ q (λφ y=>by cases y),λb ps q=>⟨#[],by rw[ext2 b _ q (λφ y=>by cases y)];simp⟩⟩
  ·rw[h2 b (nb b n).1 (λy=>by rw[y]at q;exact absurd (qO q) (qCH.mpr a1))];exact n
  ·by_cases hb:b=e
   ·exact⟨_,by rw[hb];exact a6⟩
   ·by_cases hv:vs[1]?=some (.ref b)
    ·obtain⟨oT,_,z,_⟩:=a5 b hv;exact⟨oT,z⟩
    ·obtain⟨sl,z⟩:=a4 b o hb hv q;exact⟨_,z⟩
 have n0:h0.get? T=none:=by
  cases y:h0.get? T with
  | none=>rfl
  | some ob=>obtain⟨o',z⟩:=hz T ob y;exact absurd (qO z) (qCH.mpr a1)
 have hs:s.heap.objs.size<=h'.objs.size:=qBD (qBi a1 (let⟨_,_,z,_⟩:=a7;qO z))
 refine k _ H2 (I.call' (s':={s with heap:=h'}) rfl un ok2 I.bare (λb z=>absurd z (by simp))) ⟨T,h2e,a2,n0,h2T⟩ (λb o ob q z=>?_) ext2 hs
 rw[h2 b (λy=>by rw[y,F.new]at q;cases q) (λy=>by rw[y,nT]at z;cases z)]
 exact z
theorem zacz{h0:Heap}{Q:Unit->Shared->Prop}(I:Inv X pins σ H1 s)(hst:X.stack=X.env::X.outer)(hfr:X.env.frame=some X.env.locals)(hz:∀b ob,h0.get? b=some ob->∃o',s.heap.get? b=some o')(F:Flt h0 H1 e C dx)
  (k:∀s' H2,Inv X pins σ H2 s'->(∃T,H2 e=some (.ext (xeD e C dx (.ref T)))/\T≠e/\h0.get? T=none/\H2 T=some (.ext λh=>h.Tb T))->
   (∀b o ob,h0.get? b=some ob->H1 b=some o->H2 b=some o)->zalm H1 H2->(s.heap.objs.size<=s'.heap.objs.size)->Q () s') :
  wpAny (model X.prog X.w) X.A (leaving X.env (.ref e)) Q E s:=by
 unfold leaving
 exact qE (zxp I hst hfr hz F k)
end
theorem zaoe{P:Program}{w:World}{K:qB}{mg:Str->Option Value}{base:Heap}{N:List Str}{qual:Str}{scope:Scope}{f:Addr}{cd:Value}{A:Around}{outer:List Env}{s:Shared}{H:Hp}{E:XK}
  {pins:List (Addr×Obj)}{σ:St}{H1:Hp}{s1:Shared}{e C dx:Addr}(I:Inv (cxOf (CXE P w) P w K mg base N qual scope f cd A outer s H E) pins σ H1 s1)(h0k:HOk P w H s.heap)(F:Flt s.heap H1 e C dx)(q:StX H E (.ref C) (some dx) H1) :
  (cxOf (CXE P w) P w K mg base N qual scope f cd A outer s H E).xe (.ref e) s1:=by
 refine zacz (X:=cxOf (CXE P w) P w K mg base N qual scope f cd A outer s H E) I rfl rfl (λb ob z=>I.base.there b ob z (λy=>absurd (show b∈([]:List Addr)from y) (by simp))) F λs' H2 I2 ht hk hx _=>?_
 refine⟨e,C,dx,H2,rfl,I2.os,I2.bare,I2.base,I2.hok,⟨F.new,_,ht.choose_spec.1,.inr ⟨_,rfl,ht.choose_spec.2⟩⟩,λH3 r1 r2=>q H3 (λb o z1 z2=>?_) (λb o z n=>r2 b o (hx b o z n) n)⟩
 obtain⟨ob,y⟩:=(h0k b o z1).there
 exact r1 b o z1 (hk b o ob y z2)
theorem zll{P:Program}{w:World}{K:qB}{mg:Str->Option Value}{base:Heap}{N:List Str}{qual:Str}{scope:Scope}{f:Addr}{cd:Value}{A:Around}{outer:List Env}{s:Shared}{H:Hp}{E:XK}(h0k:HOk P w H s.heap) :
  ztg (CXE P w) (cxOf (CXE P w) P w K mg base N qual scope f cd A outer s H E) (StX H E):=by
 intro pins σ H1 s1 e s2 I h
 obtain⟨ea,C,dx,H2,rfl,os,bare,un,ok,F,q⟩:=h
 have I2:=I.call' (s':=s2) os un ok bare (λb z=>absurd z (by simp))
 have old:∀b ob,s.heap.get? b=some ob->∃o',s1.heap.get? b=some o':=λb ob z=>I.base.there b ob z (λy=>absurd (show b∈([]:List Addr)from y) (by simp))
 have nw:∀b,s1.heap.get? b=none->s.heap.get? b=none:=λb z=>by
  cases y:s.heap.get? b with
  | none=>rfl
  | some ob=>obtain⟨o',y'⟩:=old b ob y;rw[z]at y';cases y'
 refine zaoe I2 h0k ⟨nw _ F.new,?_⟩ (q H2 (λ_ _ _ z=>z) (λ_ _ z _=>z))
 obtain⟨tv,a,b⟩:=F.st
 exact⟨tv,a,b.imp id λ⟨T,x1,x2,x3,x4⟩=>⟨T,x1,x2,nw _ x3,x4⟩⟩
theorem zop{CX:CXT}{P:Program}{w:World}{K:qB}{mg:Str->Option Value}{base:Heap}{x qual:Str}{st:Stmt}{f:Addr}{fd:qk}{N ps:List Str}{k:Nat}{sp:Sp}(Fu:Fun K x qual st f fd)(S:FnScope N ps (zaj st))(len:∀vs H Q E,sp vs H Q E->vs.length=ps.length)
  (hbody:∀(cdv:Value)(A:Around)(outer:List Env)(s:Shared)(H:Hp)(vs:List V)(Q:VK)(E:XK),Room k (A.deeper (envOfC qual (zaj st) s.heap.objs.size f cdv))->HOk P w H s.heap->sp vs H Q E->
   ∃t,PSs (cxOf CX P w K mg base N qual (zaj st) f cdv A outer s H E) (zcy st) t/\t {nx:=λ_ H'=>Q .non H',rt:=Q} (zcg N vs) H):FnOk P w K mg base CX (k+1) f fd ps sp:=by
 refine⟨len,λA outer s H args us vs Q E hr e0 hb r hsp=>?_⟩
 obtain⟨oc,od,kV,doc,pm,an,cdv,ct,osl,rfl,lk,hcd⟩:=Fu.ex
 have KX:K.In s.heap:=e0.mod.kin.keeps λb o e=>(e0.bs b o e).1
 refine qBV hr.depth (KX _ _ lk) rfl S.co S.gen rfl (qBW KX hcd) (hb _ _ _ _ (qBB S.kind (λ⟨n,v⟩ hy=>?_) λenv he s1 x=>?_))
 ·rcases S.par n (qBH hy).1 with q|q
  ·exact .inl q
  ·exact .inr ⟨q,qAw _ _ _ (.inl q)⟩
 ·subst he
  obtain⟨t,ht,hq⟩:=hbody cdv A outer s H vs Q E (hr.deeper _) e0.hok hsp
  have I:=zmc (CX:=CX) (E:=E) S hr.hd e0 (len _ _ _ _ hsp) r x
  refine⟨(e0.mod.nolimit.keeps λb o e=>(e0.bs b o e).1).keeps x.toInCall.keep,qCi (qAq (ht [] s1 (zcg N vs) H _ I hq) (λfl s' hs=>?_) λe s' hs=>hs)⟩
  cases fl with
  | ret u=>obtain⟨v,σ',H',J,rv,q⟩:=hs;exact⟨v,H',J.os,J.bare,J.base,J.hok,rv,q⟩
  | next=>obtain⟨σ',H',J,q⟩:=hs;exact⟨.non,H',J.os,J.bare,J.base,J.hok,rfl,q⟩
  | brk=>obtain⟨_,_,_,q⟩:=hs;exact q.elim
  | cont=>obtain⟨_,_,_,q⟩:=hs;exact q.elim
noncomputable def xcR(K:qB)(C:Addr):Bool:=match K.lookup C with
 | some ⟨_,_,.cls cd,_⟩=>(match cd.mro with|_::bm=>zdw bm|_=>false)
 | _=>false
theorem zjt{K:qB}{h:Heap}(X:K.In h)(q:xcIn K C=true)(q2:xcR K C=true):∃nm qn N bs bm sn sub ab col dd k0 k1 k2 k3 k5,
  h.get? C=some (excClassObj nm qn C N bs bm true sn sub ab col dd k0 k1 k2 k3 k5 "ValueError.__new__")/\zdw bm=true/\(Value.ref C::bm).contains (.type "AttributeError")=false/\(Value.ref C::bm).contains (.type "NameError")=false:=by
 obtain⟨nm,qn,N,bs,bm,sn,sub,ab,col,dd,k0,k1,k2,k3,k5,hC,_,_,ha,hn⟩:=zaus X q
 refine⟨nm,qn,N,bs,bm,sn,sub,ab,col,dd,k0,k1,k2,k3,k5,hC,?_,ha,hn⟩
 unfold xcR at q2
 split at q2
 ·rename_i a b cd sl ho
  have:=X _ _ ho
  rw[hC]at this
  have e:=qa this
  unfold excClassObj at e
  injection e with _ _ e _
  injection e with e
  subst e
  exact q2
 ·cases q2
structure XMk(K:qB)(C f:Addr):Prop where
 cls:xcIn K C=true
 tail:xcR K C=true
 init:PySem.W.findIn K (.ref C) "__init__"=some (some (.ref f))
 fn:PySem.W.isFn K (.ref f)=true
 kp:qAj K (.ref C)=true
 sa:PySem.W.findIn K (.ref C) "__setattr__"=some (some (.builtin "object.__setattr__"))
 at_:PySem.W.findIn K (.ref C) "at"=some none
 ga:PySem.W.findIn K (.ref C) "__getattribute__"=some (some (.builtin "BaseException.__getattribute__"))
 gh:PySem.W.findIn K (.ref C) "__getattr__"=some none
noncomputable def atV:V->Prop
 | .non=>True
 | .str x=>(PySem.reprText x).length<=1000
 | .int n=>0<=n/\n<100
 | _=>False
noncomputable def xe0(e C:Addr)(h:Heap):Prop:=∃vs sl,h.get? e=some {cls:=.ref C,dict:=none,data:=.fields vs,slots:=sl}/\vs[1]?=some .none
theorem zahb(q:xe0 e C h):zdk P w H h e (.ext (xe0 e C)):=
 ⟨q,(let⟨_,_,a,_⟩:=q;⟨_,a⟩),λh1 h2 ⟨vs,sl,a,b⟩ k=>⟨vs,sl,k _ a,b⟩⟩
noncomputable def spI(C:Addr):Sp:=λvs H Q _=>∃e v,vs=[.ref e,v]/\H e=some (.ext (xe0 e C))/\atV v/\∀dx,H dx=none->dx≠e->Q .non (upd (upd H dx (.xd [("at",v)])) e (.ext (xeD e C dx .none)))
section
variable{X:Cx}{pins:List (Addr×Obj)}{σ:St}{H:Hp}{s:Shared}{C f:Addr}{k:Nat}{fd:qk}
theorem Inv.new{h':Heap}(I:Inv X pins σ H s)(k:∀b u,s.heap.get? b=some u->h'.get? b=some u)(hn:s.heap.get? a=none)(new:zdk X.prog X.w (upd H a o) h' a o):Inv X pins σ (upd H a o) {s with heap:=h',toks:=t'}:=by
 have hH:=HOk.no I.hok hn
 have ne:∀b u,s.heap.get? b=some u->b≠a:=λb u q z=>by rw[z,hn]at q;cases q
 have neH:∀b u,H b=some u->b≠a:=λb u q z=>by rw[z,hH]at q;cases q
 refine I.un (h':=h') ⟨λb o q _ _ _=>k b o q,λb o q _ _ _=>⟨o.slots,k b o q⟩,λb o q n _=>by rw[zap (ne b o q)];exact n,λb o q _=>⟨o,k b o q⟩,λb xs q=>by rw[zap (neH b _ q)];exact q,λb o u q=>by rw[zap (neH b _ q)];exact q,λb ps q=>⟨#[],by rw[zap (neH b _ q),q];simp⟩⟩ λb u q=>?_
 by_cases hb:b=a
 ·subst hb;rw[zam]at q;cases q;exact new
 ·rw[zap hb]at q
  exact(I.hok b u q).stay (λc v _ q=>k c v q) (λc q=>by rw[zap (neH c _ q)];exact q) λc xs q=>by rw[zap (neH c _ q)];exact q
theorem zahc(M:XMk X.K C f)(F:FnOk X.prog X.w X.K X.mg X.base CX0 k f fd ["self","at"] (spI C))(hr:Room (k+1) X.A)(hb:zij X.K fd ["self","at"] [])(hex:X.ex=[])(I:Inv X pins σ H s)(rv:RelV v u)(av:atV v)
  {Q:Value->Shared->Prop}(q:∀e dx H' s',Inv X pins σ H' s'->Flt X.s₀.heap H' e C dx->H' e=some (.ext (xeD e C dx .none))->H' dx=some (.xd [("at",v)])->Same H H'->Q (.ref e) s') :
  wpAny (model X.prog X.w) X.A (call (.ref C) [u]) Q X.xe s:=by
 obtain⟨nm,qn,N,bs,bm,sn,sub,ab,col,dd,k0,k1,k2,k3,k5,hC,hbm,ha,hn⟩:=zjt I.kIn M.cls M.tail
 obtain⟨hh,g,d,tk,os⟩:=s
 obtain⟨oI,hfI,hfc⟩:∃oI,hh.get? f=some oI/\oI.cls=.type "function":=by
  have z:(X.K.lookup f).map (·.cls)=some (.type "function"):=beq_iff_eq.mp M.fn
  cases y:X.K.lookup f with
  | none=>rw[y]at z;cases z
  | some o=>rw[y]at z;exact⟨o,I.kIn _ _ y,qa z⟩
 refine zaxq (C:=C) hC (by rw[qAC,zdd (by decide) hbm,qAt]) ha hn (qAQ I.kIn M.init) hfI hfc (by show 1<=qV;rw[qA6];omega) λh' e hm=>?_
 obtain⟨t,he,htn,ht⟩:=hm.there
 have I2:=Inv.new (h':=h') (a:=e) (o:=.ext (xe0 e C)) (t':=tk) I hm.keeps hm.new (zahb ⟨_,_,he,rfl⟩)
 have hHe:H e=none:=HOk.no I.hok hm.new
 have sp:spI C [.ref e,v] (upd H e (.ext (xe0 e C))) (λr H2=>r=.non/\∃dx,H dx=none/\dx≠e/\H2=upd (upd (upd H e (.ext (xe0 e C))) dx (.xd [("at",v)])) e (.ext (xeD e C dx .none))) E0:=
  ⟨e,v,rfl,zam,av,λdx hd ne=>⟨rfl,dx,by rw[zap ne]at hd;exact hd,ne,rfl⟩⟩
 refine qBx (qA0 (F.run _ X.stack _ _ ⟨[.ref e,u],[]⟩ [.ref e,u] _ _ E0 (hr.make C [u] []) (I2.env0.make C [u] []) (by have:=hb ⟨h',g,d,tk,os⟩ [.ref e,u] I2.kIn rfl;rw[q9]at this;exact this) (show Vals [V.ref e,v] [Value.ref e,u]from .cons rfl (.cons rv .nil)) sp) λr s' hq=>?_)
 cases r with
 | error x=>exact hq.elim
 | ok fl=>
  cases fl with
  | ret w=>
   obtain⟨v',H2,I3,rv',rfl,dx,hd,ne,rfl⟩:=I2.after hq
   refine⟨rv',q e dx _ s' I3 ⟨?_,.none,zam,.inl rfl⟩ zam (by rw[zap ne,zam]) λb o z=>?_⟩
   ·cases y:X.s₀.heap.get? e with
    | none=>rfl
    | some ob=>
     obtain⟨o',z⟩:=I.base.there e ob y (by rw[hex];simp)
     have:=hm.new
     rw[show hh.get? e=some o' from z]at this
     cases this
   ·have n1:b≠e:=λy=>by rw[y,hHe]at z;cases z
    have n2:b≠dx:=λy=>by rw[y,hd]at z;cases z
    rw[zap n1,zap n2,zap n1]
    exact z
  | next=>exact False.elim hq
  | brk=>exact False.elim hq
  | cont=>exact False.elim hq
noncomputable def Lvs(X:Cx)(E:XK):Prop:=∀(pins:List (Addr×Obj))(σ:St)(H1:Hp)(s1:Shared)(e C dx:Addr),Inv X pins σ H1 s1->Flt X.s₀.heap H1 e C dx->E (.ref C) (some dx) H1->X.xe (.ref e) s1
noncomputable def zahd(C:Addr)(E:XK)(te:TE):TS:=λ_ σ H=>te σ H λv H1=>atV v/\∀H' dx,Same H1 H'->H' dx=some (.xd [("at",v)])->E (.ref C) (some dx) H'
theorem zaln(M:XMk X.K C f)(F:FnOk X.prog X.w X.K X.mg X.base CX0 k f fd ["self","at"] (spI C))(hr:Room (k+1) X.A)(hb:zij X.K fd ["self","at"] [])(hex:X.ex=[])(hc:X.calm=true)(hx:Lvs X E)
  (hg:Gl X x)(hm:X.mg x=some (.ref C))(ha:PE X a te)(hdb:(x==("__debug__":Str))=false:=by decide)(he:starEach [a] X.env=[(false,eval a X.env)]:=by rfl) :
  PS X (.Raise (some (.Call (.Name x np) [a] [] cpos)) none pos) (zahd C E te):=by
 intro pins s σ H D I h
 rw[arm_exec_Raise]
 refine qE (qBN ?_)
 unfold raiseStmt
 simp only[evalOpt,Option.map]
 refine qE ?_
 have hcall:wpAny (model X.prog X.w) X.A (eval (.Call (.Name x np) [a] [] cpos) X.env) (λr s'=>∃e dx H' v H1,r=.ref e/\Inv X pins σ H' s'/\Flt X.s₀.heap H' e C dx/\H' e=some (.ext (xeD e C dx .none))/\H' dx=some (.xd [("at",v)])/\Same H1 H'/\∀H' dx,Same H1 H'->H' dx=some (.xd [("at",v)])->E (.ref C) (some dx) H') X.xe s:=by
  refine qAm (zpr I hg hm ?_ hdb)
  refine qB5 (h₀:=X.base) I.ok.mod.kin M.kp (thn (zjp ha zoo he cpos pins s σ H (λvs H1=>match vs with|[v]=>atV v/\∀H' dx,Same H1 H'->H' dx=some (.xd [("at",v)])->E (.ref C) (some dx) H'|_=>False) I h) λus s1 ⟨vs,H1,I1,r,q⟩=>⟨I1.kIn,?_⟩) he rfl
  match vs,q,r with
  | [v],q,r=>
   obtain⟨u,rfl,rv⟩:=zaai r
   exact zahc M F hr hb hex I1 rv q.1 λe dx H' s' I' fl he0 hd sm=>⟨e,dx,H',v,H1,rfl,I',fl,he0,hd,sm,q.2⟩
  | [],q,_=>exact q.elim
  | _::_::_,q,_=>exact q.elim
 refine qE (thn hcall λr s' hh=>?_)
 obtain⟨e,dx,H',v,H1,rfl,I',fl,he',hd,sm,q⟩:=hh
 refine qE (qBN (qR ?_))
 obtain⟨nm,qn,N,bs,bm,sn,sub,ab,col,dd,k0,k1,k2,k3,k5,hC,hbm,_,_⟩:=zjt I'.kIn M.cls M.tail
 have hcB:(Value.ref C::bm).contains (.type "BaseException")=true:=by rw[qAC,zdd (by decide) hbm,qAt]
 obtain⟨⟨vs,sl,oe,h1⟩,_,_⟩:=I'.hok e _ he'
 have hxe:=hx pins σ H' s' e C dx I' fl (q H' dx sm hd)
 have hh:=I'.ok.hd hc
 obtain⟨hp,g,d,tk,os⟩:=s'
 repeat (first|with_reducible refine qg oe ?_|with_reducible refine qg hC ?_|(with_reducible refine qAa hC ?_;rw[hcB])|wp_step)
 rw[h1]
 dsimp only
 refine qR ?_
 rw[if_neg (by decide)]
 exact qR (wpAny_raiseNew_none hh hxe)
end
section
variable{X:Cx}{pins:List (Addr×Obj)}{σ:St}{H:Hp}{s:Shared}{C f:Addr}{k:Nat}{fd:qk}
noncomputable def tMsg(te:TE):TE:=λσ H Q=>te σ H λv H1=>atV v/\∀m,Q (.str m) H1
theorem zahe:∀m<100,Nat.log2 m<1920:=by decide +kernel
theorem ztj:∀m<100,(Str.ofString (toString ((m:Nat):Int))).length<=10:=by decide +kernel
theorem zaqh {E:Value->Shared->Prop} {Q:Value->Shared->Prop} (r:RelV v u) (av:atV v) (q:∀(m:Str) t,m.length<=1000->Q (.str m s.toks) {s with toks:=t}) :
  wpAny (model X.prog X.w) A (pyReprObj u) Q E s:=by
 cases v with
 | non=>
  cases r
  exact qCA (T:="NoneType") rfl F.slot_NoneType_repr F.entry_NoneType_repr (by unfold argsOk;kernel_rfl) gives_none_repr (q "None" _ (by decide)) (hx:=by decide)
 | str x=>
  obtain⟨t,rfl⟩:=r
  exact qCA (T:="str") rfl PyProof.Rows.slot_str_repr PyProof.Rows.entry_str_repr (PyProof.Rows.args_str_repr _) (gives_str_repr x t) (q _ _ av) (hx:=qAE av (by rw[qA6];omega))
 | int n=>
  obtain⟨t,rfl⟩:=r
  obtain⟨n0,n1⟩:=av
  obtain⟨m,rfl⟩:∃m:Nat,n=(m:Int):=⟨n.toNat,by omega⟩
  have hm:m<100:=by omega
  have hb:(m:Int).natAbs.log2<1920:=by
   rw[Int.natAbs_natCast]
   exact zahe m hm
  exact qCA (T:="int") rfl F.slot_int_repr F.entry_int_repr (F.args_int_repr_1 _) (gives_int_repr (m:Int) t hb) (q _ _ (qAE (ztj m hm) (by decide))) (hx:=qAE (ztj m hm) (by rw[qA6];omega))
 | _=>exact av.elim
theorem zauu{c:Str}{j p a p2 pos te}(ha:PE X a te)(hc:c.length<=1000):PE X (.JoinedStr [.Constant (.str c) j p,.FormattedValue a 114 none p2] pos) (tMsg te):=by
 intro pins s σ H Q I h
 have la:∀x y:Str,(x++y).length=x.length+y.length:=λx y=>by show(x.cps++y.cps).size=x.cps.size+y.cps.size;exact Array.size_append
 have l0:(Str.empty).length=0:=rfl
 have big:(3000:Nat)<=qV:=by rw[qA6];omega
 refine wpAny_JoinedStr ?_
 show wpAny _ _ (eval (.Constant (.str c) j p) X.env) (λv s₁=>∃y t,v=.str y t/\(Str.empty++y).length<=qV/\wpAny _ _ (eval (.FormattedValue a 114 none p2) X.env) (λv s₂=>∃z t,v=.str z t/\((Str.empty++y)++z).length<=qV/\(((Str.empty++y)++z).length<=qV/\_)) _ s₁) _ s
 refine qDN ⟨c,_,rfl,by rw[la,l0];omega,?_⟩
 refine wpAny_FormattedValue_repr (thn (ha pins _ σ H _ (I.tok _) h) λu s1 ⟨v,H1,I1,r,av,q⟩=>zaqh (X:=X) r av λm t hm=>?_)
 have lz:((Str.empty++c)++m).length<=qV:=by rw[la,la,l0];omega
 have fin:∀tk,EP X pins σ Q (.str ((Str.empty++c)++m) tk) {s1 with toks:=tk+1}:=λtk=>⟨.str _,H1,I1.tok _,⟨_,rfl⟩,q _⟩
 exact wpAny_formatField_str ⟨m,_,rfl,lz,lz,fin _⟩ ⟨m,_,rfl,lz,lz,fin _⟩ (by omega)
noncomputable def zaof(C:Addr)(t:TA):TE:=λσ H Q=>t σ H λvs H1=>∃e m,vs=[.ref e,m]/\H1 e=some (.ext (xe0 e C))/\Q .non H1
theorem zaar{K:qB}:PySem.W.findCls K (.type "ValueError") (.type "type") "__init__"=some (.val (.builtin "ValueError.__init__")):=by
 first|rfl|decide +kernel|kernel_rfl
theorem zju:bootBuiltins "ValueError"=some (.type "ValueError"):=by decide +kernel
theorem zalo{p p2 pos:Pos}(M:XMk X.K C f)(hg:Gl X "ValueError")(hm:X.mg "ValueError"=none)(ha:PA X (e::es) t)
  (hst:starEach (e::es) X.env=(false,eval e X.env)::starEach es X.env:=by rfl)(hpl:(backTo pos (starEach es X.env)).any (·.1)=false:=by rfl)
  (ht:eval (.Call (.Attribute (.Name "ValueError" p) "__init__" p2) (e::es) [] pos) X.env=(do
   let ov <- eval (.Name "ValueError" p) X.env
   standAt p2.atName
   let(f,first) <- holding [ov] (getMethod ov "__init__" pl)
   callWith pos f first (backTo pos (starEach (e::es) X.env)) (backToKw pos (keywordEach [] X.env))):=by rfl) :
  PE X (.Call (.Attribute (.Name "ValueError" p) "__init__" p2) (e::es) [] pos) (zaof C t):=by
 intro pins s σ H Q I h
 refine PySem.W.methodCall_KW (pl:=pl) (zma I hg hm zju ?_ (by decide) (by decide)) ht
 obtain⟨m,fr⟩:=I.fr
 refine PySem.W.method_type fr I.ok.mod.kin (by kernel_rfl) (by decide +kernel) zaar (by decide +kernel) ?_
 have hA:=ha pos pins _ σ H _ (I.tok (s.toks+1)) h
 rw[hst]at hA ⊢
 refine qCw (by show(false||(backTo pos (starEach es X.env)).any (·.1))=false;rw[hpl]<;>rfl) (qC7 ?_)
 refine thn hA λus s2 ⟨vs,H2,I2,r2,e',mv,ev,he,q⟩=>?_
 subst ev
 obtain⟨u1,u2,rfl,r1,r3⟩:=zwx r2
 cases r1
 obtain⟨nm,qn,N,bs,bm,sn,sub,ab,col,dd,k0,k1,k2,k3,k5,hC,hbm,_,_⟩:=zjt I2.kIn M.cls M.tail
 obtain⟨⟨vs,sl,oe,h1⟩,_,_⟩:=I2.hok e' _ he
 obtain⟨hh,g,d,tk,os⟩:=s2
 refine zaxs hbm (by show 1<=qV;rw[qA6];omega) hC oe rfl rfl (Nat.lt_of_succ_lt (qAb.mp h1).1) λh' p' a1 a2=>?_
 refine⟨.non,H2,?_,rfl,q⟩
 have hup:upd H2 e' (.ext (xe0 e' C))=H2:=by
  funext b
  by_cases hb:b=e'
  ·subst hb;rw[zam,he]
  ·rw[zap hb]
 have:=I2.write (x:=e') (e:=e') (o:=.ext (xe0 e' C)) (h':=h') (t':=tk) (by rw[he];exact True.intro) (.inl rfl) (λb u hb z=>a2 b u hb z) ⟨_,a1⟩ (zahb ⟨_,_,a1,by rw[Array.getElem?_setIfInBounds_ne (by decide)];exact h1⟩)
 rw[hup]at this
 exact this
end
section
variable{X:Cx}{pins:List (Addr×Obj)}{σ:St}{H:Hp}{s:Shared}{C f:Addr}{k:Nat}{fd:qk}
noncomputable def tSat(C:Addr)(ta tv:TE):TS:=λD σ H=>tv σ H λv H1=>ta σ H1 λx H2=>∃e,x=.ref e/\H2 e=some (.ext (xe0 e C))/\∀dx,H2 dx=none->dx≠e->D.nx σ (upd (upd H2 dx (.xd [("at",v)])) e (.ext (xeD e C dx .none)))
theorem zauv{pos' pos:Pos}(M:XMk X.K C f)(ha:PE X o ta)(hv:PE X value tv)(hs:swapsWith value (some (.Attribute o "at" pos')) pos.line X.env=pure false:=by rfl):PS X (.Assign [.Attribute o "at" pos'] value pos) (tSat C ta tv):=by
 intro pins s σ H D I h
 refine plainObj_wpAny_Assign_Attribute (thn (hv pins s σ H _ I h) λu s1 ⟨y,H1,I1,ry,q⟩=>thn (ha pins s1 σ H1 _ I1 q) λov s2 ⟨x,H2,I2,rx,e,ex,he,q2⟩=>?_) hs
 subst ex
 obtain rfl:ov=Value.ref e:=rx
 obtain⟨nm,qn,N,bs,bm,sn,sub,ab,col,dd,k0,k1,k2,k3,k5,hC,hbm,_,_⟩:=zjt I2.kIn M.cls M.tail
 obtain⟨⟨vs,sl,oe,h1⟩,_,_⟩:=I2.hok e _ he
 obtain⟨hh,g,d,tk,os⟩:=s2
 refine zaut hbm hC oe rfl (λc z=>by cases z) rfl (qAQ I2.kIn M.sa) (qAQ I2.kIn M.at_) λh' tk' dx a1 a2 a3 a4=>?_
 have hdx:H2 dx=none:=I2.hok.fresh a1
 have ne:dx≠e:=λz=>by rw[z,he]at hdx;cases hdx
 refine⟨σ,upd (upd H2 dx (.xd [("at",y)])) e (.ext (xeD e C dx .none)),?_,q2 dx hdx ne⟩
 have n2:∀b,b≠e->b≠dx->upd (upd H2 dx (.xd [("at",y)])) e (.ext (xeD e C dx .none)) b=H2 b:=λb p q=>by rw[zap p,zap q]
 have nb:∀b o,H2 b=some o->(∀φ,o≠.ext φ)->b≠e/\b≠dx:=λb o z n=>⟨λy=>(by rw[y,he]at z;cases z;exact n _ rfl),λy=>(by rw[y,hdx]at z;cases z)⟩
 have st:∀b o,H2 b=some o->(∀φ,o≠.ext φ)->upd (upd H2 dx (.xd [("at",y)])) e (.ext (xeD e C dx .none)) b=some o:=λb o z n=>by rw[n2 b (nb b o z n).1 (nb b o z n).2];exact z
 have lt:∀b u,hh.get? b=some u->b≠dx:=λb u z y=>by rw[y]at z;exact absurd (qO z) (qCH.mpr a1)
 refine Inv.un (s:=⟨hh,g,d,tk,os⟩) I2 (h':=h') ⟨λb o z n _ _=>a4 b o (λy=>by rw[y,he]at n;cases n) z,λb o z n _ _=>⟨o.slots,a4 b o (λy=>by rw[y,he]at n;cases n) z⟩,λb o z n _=>?_,λb o z _=>?_,λb xs z=>st b _ z (λφ y=>by cases y),λb o u z=>st b _ z (λφ y=>by cases y),λb ps z=>⟨#[],by rw[st b _ z (λφ y=>by cases y)];simp⟩⟩ λb o z=>?_
 ·rw[n2 b (λy=>by rw[y,he]at n;cases n) (lt b o z)];exact n
 ·by_cases hb:b=e
  ·exact⟨_,by rw[hb];exact a3⟩
  ·exact⟨o,a4 b o hb z⟩
 ·by_cases hb:b=e
  ·subst hb
   rw[zam]at z
   cases z
   exact zaod ⟨vs,sl,a3,h1⟩
  ·by_cases hd:b=dx
   ·subst hd
    rw[zap hb,zam]at z
    cases z
    refine⟨_,a2,λn=>?_⟩
    by_cases hn:n="at"
    ·subst hn
     exact ry
    ·have:List.lookup n [((("at":Str)),y)]=none:=by
      rw[qt]
      have:(n==("at":Str))=false:=by rw[beq_eq_false_iff_ne];exact hn
      rw[this]
      rfl
     rw[this]
     show RelO none (if n=("at":Str)then _ else _)
     rw[if_neg hn]
     trivial
   ·rw[n2 b hb hd]at z
    refine(I2.hok b o z).stay (λc u hc y=>a4 c u ?_ y) (λc y=>st c _ y (λφ x=>by cases x)) (λc xs y=>st c _ y (λφ x=>by cases x)) (λc o' y=>st c _ y (λφ x=>by cases x))
    rcases hc with rfl|hc
    ·exact hb
    ·exact λx=>by rw[x,he]at hc;cases hc
noncomputable def tXat(C:Addr)(te:TE):TE:=λσ H Q=>te σ H λx H1=>∃e dx tv v,x=.ref e/\H1 e=some (.ext (xeD e C dx tv))/\H1 dx=some (.xd [("at",v)])/\Q v H1
theorem zauw(M:XMk X.K C f)(ho:PE X o te)(hb:attributeBase o "at" X.env (eval o X.env)=eval o X.env:=by rfl):PE X (.Attribute o "at" pos) (tXat C te):=by
 intro pins s σ H Q I h
 refine zapo hb (thn (ho pins s σ H _ I h) λu s1 ⟨x,H1,I1,rx,e,dx,tv,v,ex,he,hd,q⟩=>?_)
 subst ex
 obtain rfl:u=Value.ref e:=rx
 obtain⟨nm,qn,N,bs,bm,sn,sub,ab,col,dd,k0,k1,k2,k3,k5,hC,hbm,_,_⟩:=zjt I1.kIn M.cls M.tail
 obtain⟨⟨vs,sl,oe,h1⟩,_,_⟩:=I1.hok e _ he
 obtain⟨mA,ns,rl⟩:=I1.hok dx _ hd
 have hv:∃w,mA "at"=some w/\RelV v w:=by
  have:=rl "at"
  rw[show List.lookup ("at":Str) [(("at":Str),v)]=some v from rfl]at this
  cases y:mA "at"with
  | none=>rw[y]at this;exact this.elim
  | some w=>rw[y]at this;exact⟨w,rfl,this⟩
 obtain⟨w,hw,rw'⟩:=hv
 obtain⟨hh,g,d,tk,os⟩:=s1
 refine zaxr hbm hC oe rfl rfl rfl ns.ns hw (qAQ I1.kIn M.ga) (qAQ I1.kIn M.gh) (qAQ I1.kIn M.at_) (zagd rw') λtk'=>⟨v,H1,I1.tok _,rw',q⟩
end
noncomputable def zalp(c:Str)(p1 p2 p3 p4 p5 p6 p7 p8 p9 p10 p11 p12 p13:Pos):List Stmt:=
 [.Expr (.Call (.Attribute (.Name "ValueError" p1) "__init__" p2) [.Name "self" p3,.JoinedStr [.Constant (.str c) 0 p4,.FormattedValue (.Name "at" p5) 114 none p6] p7] [] p8) p9,
  .Assign [.Attribute (.Name "self" p10) "at" p11] (.Name "at" p12) p13]
noncomputable def zalq(c:Str)(p1 p2 p3 p4 p5 p6 p7 p8:Pos):Prop:=∀env:Env,∃pl:Sem Bool,eval (.Call (.Attribute (.Name "ValueError" p1) "__init__" p2) [.Name "self" p3,.JoinedStr [.Constant (.str c) 0 p4,.FormattedValue (.Name "at" p5) 114 none p6] p7] [] p8) env=(do
   let ov <- eval (.Name "ValueError" p1) env
   standAt p2.atName
   let(f,first) <- holding [ov] (getMethod ov "__init__" pl)
   callWith p8 f first (backTo p8 (starEach [.Name "self" p3,.JoinedStr [.Constant (.str c) 0 p4,.FormattedValue (.Name "at" p5) 114 none p6] p7] env)) (backToKw p8 (keywordEach [] env)))
theorem zaqi{P:Program}{w:World}{K:qB}{mg:Str->Option Value}{base:Heap}{C f:Addr}{qual:Str}{st:Stmt}{fd:qk}{c:Str}{p1 p2 p3 p4 p5 p6 p7 p8 p9 p10 p11 p12 p13:Pos}(F:Fun K "__init__" qual st f fd)(M:XMk K C f)(hm:mg "ValueError"=none)
  (hb:zcy st=zalp c p1 p2 p3 p4 p5 p6 p7 p8 p9 p10 p11 p12 p13) (hsc:zaj st={kind:=.function,names:=[("self",.local),("at",.local),("ValueError",.globalImplicit)],isGenerator:=false,isCoroutine:=false}) (hc:c.length<=1000) (ht:zalq c p1 p2 p3 p4 p5 p6 p7 p8) :
  FnOk P w K mg base CX0 1 f fd ["self","at"] (spI C):=by
 have nd:(["self","at"]:List Str).Nodup:=by decide +kernel
 have S:FnScope ["self","at"] ["self","at"] (zaj st):=by rw[hsc];exact⟨rfl,rfl,rfl,nd,rfl,by decide +kernel,by decide +kernel⟩
 refine F.ok S (λvs H Q E h=>by obtain⟨e,v,rfl,_⟩:=h;rfl) λcdv A outer s H vs Q E hr h=>?_
 obtain⟨e,v,rfl,he,av,q⟩:=h
 have g0:visB (cxOf CX0 P w K mg base ["self","at"] qual (zaj st) f cdv A outer s H E).nox.env.scope "self"=true:=by show visB (zaj st) _=_;rw[hsc];decide +kernel
 have g1:visB (cxOf CX0 P w K mg base ["self","at"] qual (zaj st) f cdv A outer s H E).nox.env.scope "at"=true:=by show visB (zaj st) _=_;rw[hsc];decide +kernel
 have g2:Gl (cxOf CX0 P w K mg base ["self","at"] qual (zaj st) f cdv A outer s H E).nox "ValueError":=by show(zaj st).names.lookup _=_;rw[hsc];decide +kernel
 have e0:∀{p:Pos},PE (cxOf CX0 P w K mg base ["self","at"] qual (zaj st) f cdv A outer s H E).nox (.Name "self" p) (tVar 0):=λ{p}=>pv 0 rfl g0
 have e1:∀{p:Pos},PE (cxOf CX0 P w K mg base ["self","at"] qual (zaj st) f cdv A outer s H E).nox (.Name "at" p) (tVar 1):=λ{p}=>pv 1 rfl g1
 refine⟨tSeq (tDrop (zaof C (tCons (tVar 0) (tCons (tMsg (tVar 1)) tNil)))) (tSat C (tVar 0) (tVar 1)),?_,?_⟩
 ·rw[hb]
  obtain⟨pl,ht⟩:=ht (cxOf CX0 P w K mg base ["self","at"] qual (zaj st) f cdv A outer s H E).nox.env
  exact zkr (zus (zalo (f:=f) (pl:=pl) M g2 hm (zjp e0 (zjp (zauu e1 hc) zoo)) rfl rfl ht)) (zlj (zauv M e0 e1))
 ·exact⟨_,rfl,v,rfl,av,λm=>⟨e,_,rfl,he,v,rfl,_,rfl,e,rfl,he,q⟩⟩
noncomputable def keyD:PyData->Option Key
 | .int i=>some (Sum.inl i)
 | .str s=>some (Sum.inr s)
 | _=>none
mutual
def Rp(H:Hp):PyData->V->Prop
 | .none,v=>v=.non
 | .bool b,v=>v=.bl b
 | .int i,v=>v=.int i
 | .str x,v=>v=.str x
 | .list ds,v=>∃a xs,v=.ref a/\H a=some (.lst xs)/\Rps H ds xs
 | .tuple ds,v=>∃a xs,v=.ref a/\H a=some (.tup xs)/\Rps H ds xs
 | .dict kvs,v=>∃a ps,v=.ref a/\H a=some (.dK ps)/\Rpd H kvs ps
def Rps(H:Hp):List PyData->List V->Prop
 | [],xs=>xs=[]
 | d::ds,xs=>∃v vs,xs=v::vs/\Rp H d v/\Rps H ds vs
def Rpd(H:Hp):List (PyData×PyData)->List (Key×V)->Prop
 | [],ps=>ps=[]
 | (k,d)::r,ps=>∃k' v vs,ps=(k',v)::vs/\keyD k=some k'/\Rp H d v/\Rpd H r vs
end
mutual
theorem Rp.same(h:Same H H'):∀(d:PyData){v:V},Rp H d v->Rp H' d v
 | .none,v,q=>by unfold Rp at q ⊢;exact q
 | .bool b,v,q=>by unfold Rp at q ⊢;exact q
 | .int i,v,q=>by unfold Rp at q ⊢;exact q
 | .str x,v,q=>by unfold Rp at q ⊢;exact q
 | .list ds,v,q=>by
  unfold Rp at q ⊢
  obtain⟨a,xs,e,hq,hr⟩:=q
  exact⟨a,xs,e,h _ _ hq,Rps.same h ds hr⟩
 | .tuple ds,v,q=>by
  unfold Rp at q ⊢
  obtain⟨a,xs,e,hq,hr⟩:=q
  exact⟨a,xs,e,h _ _ hq,Rps.same h ds hr⟩
 | .dict kvs,v,q=>by
  unfold Rp at q ⊢
  obtain⟨a,xs,e,hq,hr⟩:=q
  exact⟨a,xs,e,h _ _ hq,Rpd.same h kvs hr⟩
theorem Rps.same(h:Same H H'):∀(ds:List PyData){vs:List V},Rps H ds vs->Rps H' ds vs
 | [],vs,q=>by unfold Rps at q ⊢;exact q
 | d::ds,vs,q=>by
  unfold Rps at q ⊢
  obtain⟨v,vs',e,h1,h2⟩:=q
  exact⟨v,vs',e,Rp.same h d h1,Rps.same h ds h2⟩
theorem Rpd.same(h:Same H H'):∀(ds:List (PyData×PyData)){vs:List (Key×V)},Rpd H ds vs->Rpd H' ds vs
 | [],vs,q=>by unfold Rpd at q ⊢;exact q
 | (k,d)::ds,vs,q=>by
  unfold Rpd at q ⊢
  obtain⟨k',v,vs',e,h0,h1,h2⟩:=q
  exact⟨k',v,vs',e,h0,Rp.same h d h1,Rpd.same h ds h2⟩
end
theorem zcs:∀{ds:List PyData}{xs:List V},Rps H ds xs↔Paired (Rp H) ds xs
 | [],xs=>by
  constructor
  ·intro h;unfold Rps at h;subst h;exact .nil
  ·intro h;cases h;unfold Rps;rfl
 | d::ds,xs=>by
  constructor
  ·intro h
   unfold Rps at h
   obtain⟨v,vs,rfl,h1,h2⟩:=h
   exact .cons h1 (zcs.mp h2)
  ·intro h
   cases h with
   | cons h1 h2=>unfold Rps;exact⟨_,_,rfl,h1,zcs.mpr h2⟩
theorem Rps.length{ds:List PyData}{xs:List V}(h:Rps H ds xs):ds.length=xs.length:=(zcs.mp h).length
theorem zdq(h:Rp H (.list ds) v):∃a xs,v=.ref a/\H a=some (.lst xs)/\Rps H ds xs:=by unfold Rp at h;exact h
theorem zdg(h:Rp H (.tuple ds) v):∃a xs,v=.ref a/\H a=some (.tup xs)/\Rps H ds xs:=by unfold Rp at h;exact h
theorem zil(h:Rp H (.dict ds) v):∃a xs,v=.ref a/\H a=some (.dK xs)/\Rpd H ds xs:=by unfold Rp at h;exact h
theorem zdm(h:Rp H (.int i) v):v=.int i:=by unfold Rp at h;exact h
theorem zmh(h:Rp H (.str i) v):v=.str i:=by unfold Rp at h;exact h
theorem zjv(h:Rp H (.bool i) v):v=.bl i:=by unfold Rp at h;exact h
theorem zaas(h:Rp H .none v):v=.non:=by unfold Rp at h;exact h
theorem zai:Rp H (.int i) (.int i):=by unfold Rp;rfl
theorem zgk:Rp H (.str i) (.str i):=by unfold Rp;rfl
theorem zar:Rp H (.bool i) (.bl i):=by unfold Rp;rfl
theorem zgf:Rp H .none .non:=by unfold Rp;rfl
theorem zhz(h:H a=some (.lst xs))(r:Rps H ds xs):Rp H (.list ds) (.ref a):=by unfold Rp;exact⟨a,xs,rfl,h,r⟩
theorem zaat(h:H a=some (.tup xs))(r:Rps H ds xs):Rp H (.tuple ds) (.ref a):=by unfold Rp;exact⟨a,xs,rfl,h,r⟩
theorem zku(h:H a=some (.dK xs))(r:Rpd H ds xs):Rp H (.dict ds) (.ref a):=by unfold Rp;exact⟨a,xs,rfl,h,r⟩
theorem zeb:Rps H [] []:=by unfold Rps;rfl
theorem zjw:Rpd H [] []:=by unfold Rpd;rfl
theorem zcx(h:Rp H d v)(r:Rps H ds vs):Rps H (d::ds) (v::vs):=by
 show Rps H (d::ds) _
 unfold Rps;exact⟨v,vs,rfl,h,r⟩
theorem Rps.append(h:Rps H ds vs)(r:Rps H es ws):Rps H (ds++es) (vs++ws):=by
 replace h:=zcs.mp h
 refine zcs.mpr ?_
 induction h with
 | nil=>exact zcs.mp r
 | cons h _ ih=>exact .cons h ih
theorem Rps.get2{H:Hp}{ds:List PyData}{vs:List V}(h:Rps H ds vs){i:Nat}{d:PyData}(e:ds[i]?=some d):∃v,vs[i]?=some v/\Rp H d v:=by
 replace h:=zcs.mp h
 induction h generalizing i with
 | nil=>simp at e
 | cons h _ ih=>
  cases i with
  | zero=>simp at e;subst e;exact⟨_,rfl,h⟩
  | succ i=>simpa using ih (by simpa using e)
open Classical in
noncomputable def Offs(A:Addr->Prop)(H:Hp):Hp:=λb=>if A b then none else H b
theorem Offs.get{A:Addr->Prop}(h:¬A b):Offs A H b=H b:=if_neg h
theorem Offs.out{A:Addr->Prop}(h:A b):Offs A H b=none:=if_pos h
theorem Offs.of{A:Addr->Prop}(h:Offs A H b=some o):¬A b/\H b=some o:=by
 by_cases hb:A b
 ·rw[Offs.out hb]at h;cases h
 ·rw[Offs.get hb]at h;exact⟨hb,h⟩
theorem Offs.mono{A B:Addr->Prop}(s:Same H H')(h:∀b o,H b=some o->¬A b->¬B b):Same (Offs A H) (Offs B H'):=λb o e=>by
 obtain⟨h1,h2⟩:=Offs.of e
 rw[Offs.get (h b o h2 h1)]
 exact s b o h2
theorem Offs.same(A:Addr->Prop)(H:Hp):Same (Offs A H) H:=λb o e=>(Offs.of e).2
theorem Offs.sub{A B:Addr->Prop}(h:∀b,B b->A b):Same (Offs A H) (Offs B H):=Offs.mono (Same.refl _) λb _ _ n z=>n (h b z)
theorem Offs.grow{A:Addr->Prop}(s:Same H H'):Same (Offs A H) (Offs A H'):=Offs.mono s λ_ _ _ z=>z
theorem Offs.upd{A:Addr->Prop}(h:A a):Offs A (upd H a o)=Offs A H:=by
 funext b
 by_cases hb:A b
 ·rw[Offs.out hb,Offs.out hb]
 ·rw[Offs.get hb,Offs.get hb,zap (λe=>hb (by rw[e];exact h))]
inductive Sl where
 | no
  | pl (d:PyData)
  | ac (d:PyData)
noncomputable abbrev DEnv:=List Sl
noncomputable def own(env:DEnv)(σ:St)(a:Addr):Prop:=∃(i:Nat)(d:PyData),env[i]?=some (.ac d)/\σ[i]?=some (some (.ref a))
noncomputable def zhf(Ho H:Hp)(a:Addr):PyData->Prop
 | .list ds=>∃xs,H a=some (.lst xs)/\Rps Ho ds xs
 | .dict kvs=>∃ps,H a=some (.dK ps)/\Rpd Ho kvs ps
 | _=>False
theorem zhf.rp(h:zhf Ho H a d)(s:Same Ho H')(e:∀o,H a=some o->H' a=some o):Rp H' d (.ref a):=by
 cases d with
 | list ds=>
  obtain⟨xs,h1,h2⟩:=h
  exact zhz (e _ h1) (Rps.same s _ h2)
 | dict ds=>
  obtain⟨xs,h1,h2⟩:=h
  exact zku (e _ h1) (Rpd.same s _ h2)
 | _=>exact h.elim
theorem zhf.same(h:zhf Ho H a d)(s:Same Ho Ho')(e:∀o,H a=some o->H' a=some o):zhf Ho' H' a d:=by
 cases d with
 | list ds=>
  obtain⟨xs,h1,h2⟩:=h
  exact⟨xs,e _ h1,Rps.same s _ h2⟩
 | dict ds=>
  obtain⟨xs,h1,h2⟩:=h
  exact⟨xs,e _ h1,Rpd.same s _ h2⟩
 | _=>exact h.elim
theorem zhf.ex(h:zhf Ho H a d):∃o,H a=some o:=by
 cases d with
 | list ds=>obtain⟨xs,h1,h2⟩:=h;exact⟨_,h1⟩
 | dict ds=>obtain⟨xs,h1,h2⟩:=h;exact⟨_,h1⟩
 | _=>exact h.elim
structure EnvOk(fx:Addr->Prop)(H0:Hp)(env:DEnv)(σ:St)(H:Hp):Prop where
 len:env.length=σ.length
 pl:∀(i:Nat)(d:PyData),env[i]?=some (.pl d)->∃v,σ[i]?=some (some v)/\Rp (Offs (λa=>fx a\/own env σ a) H) d v
 ac:∀(i:Nat)(d:PyData),env[i]?=some (.ac d)->∃a,σ[i]?=some (some (.ref a))/\H0 a=none/\¬fx a/\zhf (Offs (λa=>fx a\/own env σ a) H) H a d
 inj:∀(i j:Nat)(d e:PyData)(a:Addr),env[i]?=some (.ac d)->env[j]?=some (.ac e)->σ[i]?=some (some (.ref a))->σ[j]?=some (some (.ref a))->i=j
 base:Same H0 H
 fxs:∀b,fx b->∃o,H b=some o
theorem EnvOk.grow{fx fx':Addr->Prop}(h:EnvOk fx H0 env σ H)(s:Same H H')(f:∀b o,H b=some o->¬fx b->¬fx' b)(g:∀b,fx' b->∃o,H' b=some o):EnvOk fx' H0 env σ H':=by
 have so:Same (Offs (λa=>fx a\/own env σ a) H) (Offs (λa=>fx' a\/own env σ a) H'):=Offs.mono s λb o e n=>λz=>z.elim (f b o e λy=>n (.inl y)) λy=>n (.inr y)
 refine⟨h.len,λi d e=>?_,λi d e=>?_,h.inj,h.base.trans s,g⟩
 ·obtain⟨v,h1,h2⟩:=h.pl i d e
  exact⟨v,h1,Rp.same so d h2⟩
 ·obtain⟨a,h1,h2,h3,h4⟩:=h.ac i d e
  obtain⟨o,ho⟩:=h4.ex
  exact⟨a,h1,h2,f a o ho h3,h4.same so λo=>s a o⟩
theorem EnvOk.up{fx:Addr->Prop}(h:EnvOk fx H0 env σ H)(s:Same H H'):EnvOk fx H0 env σ H':=
 h.grow s (λ_ _ _ z=>z) λb z=>let⟨o,e⟩:=h.fxs b z;⟨o,s b o e⟩
structure Val where
 d:PyData
 fr:Bool
 bs:List Nat
noncomputable def lim(fx:Addr->Prop)(env:DEnv)(σ:St)(bs:List Nat)(a:Addr):Prop:=fx a\/∃(i:Nat)(d:PyData),i∉bs/\env[i]?=some (.ac d)/\σ[i]?=some (some (.ref a))
structure ValOk(A:Addr->Prop)(H H':Hp)(r:Val)(v:V):Prop where
 rp:Rp (Offs A H') r.d v
 fr:r.fr=true->∃a,v=.ref a/\H a=none/\zhf (Offs (λb=>A b\/b=a) H') H' a r.d
theorem zaau{fx:Addr->Prop}(h:∀i∈bs,i∈cs):∀a,lim fx env σ cs a->lim fx env σ bs a:=by
 rintro a (z|⟨i,d,h1,h2,h3⟩)
 ·exact .inl z
 ·exact .inr ⟨i,d,λq=>h1 (h i q),h2,h3⟩
theorem zpz{fx:Addr->Prop}:∀a,lim fx env σ bs a->fx a\/own env σ a:=by
 rintro a (z|⟨i,d,h1,h2,h3⟩)
 ·exact .inl z
 ·exact .inr ⟨i,d,h2,h3⟩
theorem zaqj{fx:Addr->Prop}:∀a,fx a\/own env σ a->lim fx env σ [] a:=by
 rintro a (z|⟨i,d,h2,h3⟩)
 ·exact .inl z
 ·exact .inr ⟨i,d,by simp,h2,h3⟩
theorem EnvOk.lims{fx:Addr->Prop}(h:EnvOk fx H0 env σ H)(bs:List Nat):∀b,lim fx env σ bs b->∃o,H b=some o:=by
 rintro b (z|⟨i,d,h1,h2,h3⟩)
 ·exact h.fxs b z
 ·obtain⟨a,g1,g2,g3,g4⟩:=h.ac i d h2
  rw[h3]at g1
  cases g1
  exact g4.ex
theorem ValOk.later{A B:Addr->Prop}(h:ValOk A H H' r v)(s0:Same H0 H)(s:Same H' H'')(hB:∀b,B b->A b):ValOk B H0 H'' r v:=by
 refine⟨Rp.same (Offs.mono s λb _ _ n z=>n (hB b z)) _ h.rp,λe=>?_⟩
 obtain⟨a,h1,h2,h3⟩:=h.fr e
 exact⟨a,h1,s0.free h2,h3.same (Offs.mono s λb _ _ n z=>n (z.elim (λy=>.inl (hB b y)) .inr)) λo=>s a o⟩
noncomputable def zev:PyData->Bool
 | .list _=>false
 | .tuple _=>false
 | .dict _=>false
 | _=>true
theorem zqa(f:zev d=true)(h:Rp H d v):Rp H' d v:=by
 cases d<;>first
  | (unfold Rp at h ⊢;exact h)
  | cases f
noncomputable def bsOf(d:PyData)(bs:List Nat):List Nat:=if zev d=true then[]else bs
theorem zqb{fx:Addr->Prop}(h:Rp (Offs (lim fx env σ bs) H) d v):Rp (Offs (lim fx env σ (bsOf d bs)) H) d v:=by
 unfold bsOf
 split
 ·rename_i e;exact zqa e h
 ·exact h
noncomputable abbrev EF:=DEnv->Option Val
noncomputable def SE(te:TE)(f:EF):Prop:=∀(fx:Addr->Prop)(H0:Hp)(env:DEnv)(σ:St)(H:Hp),EnvOk fx H0 env σ H->∀r,f env=some r->∀Q:VK,(∀v H',Same H H'->ValOk (lim fx env σ r.bs) H H' r v->Q v H')->te σ H Q
noncomputable abbrev TF:=DEnv->Option Bool
noncomputable def ST(tt:TT)(f:TF):Prop:=∀(fx:Addr->Prop)(H0:Hp)(env:DEnv)(σ:St)(H:Hp),EnvOk fx H0 env σ H->∀b,f env=some b->∀Q:Bool->Hp->Prop,(∀H',Same H H'->Q b H')->tt σ H Q
noncomputable abbrev AF:=DEnv->Option (List Val)
noncomputable def SA(ta:TA)(f:AF):Prop:=∀(fx:Addr->Prop)(H0:Hp)(env:DEnv)(σ:St)(H:Hp),EnvOk fx H0 env σ H->∀rs,f env=some rs->∀Q:List V->Hp->Prop,
 (∀vs H',Same H H'->Paired (λr v=>ValOk (lim fx env σ r.bs) H H' r v) rs vs->Q vs H')->ta σ H Q
section
variable{X:Cx}
noncomputable def eVar(i:Nat):EF:=λenv=>match env[i]? with
 | some (.pl d)=>some ⟨d,false,[]⟩
 | some (.ac d)=>some ⟨d,false,[i]⟩
 | _=>none
theorem zac(i:Nat):SE (tVar i) (eVar i):=by
 intro fx H0 env σ H h r hr Q q
 unfold eVar at hr
 cases e:env[i]? with
 | none=>rw[e]at hr;cases hr
 | some sl=>
  rw[e]at hr
  cases sl with
  | no=>cases hr
  | pl d=>
   cases hr
   obtain⟨v,h1,h2⟩:=h.pl i d e
   exact⟨v,h1,q v H (Same.refl _) ⟨Rp.same (Offs.sub zpz) _ h2,λz=>by cases z⟩⟩
  | ac d=>
   cases hr
   obtain⟨a,h1,h2,h3,h4⟩:=h.ac i d e
   have hna:¬lim fx env σ [i] a:=by
    rintro(z|⟨j,d',g1,g2,g3⟩)
    ·exact h3 z
    ·exact g1 (qAU.mpr (h.inj j i d' d a g2 e g3 h1))
   exact⟨_,h1,q _ H (Same.refl _) ⟨h4.rp (Offs.sub zpz) λo z=>by rw[Offs.get hna];exact z,λz=>by cases z⟩⟩
noncomputable def eC(d:PyData):EF:=λ_=>some ⟨d,false,[]⟩
theorem se_c(h:∀H,Rp H d v):SE (tC v) (eC d):=by
 intro fx H0 env σ H _ r hr Q q
 cases hr
 exact q v H (Same.refl _) ⟨h _,λz=>by cases z⟩
noncomputable abbrev OF:=PyData->PyData->Option (PyData×Bool)
noncomputable def SO(r:R2)(f:OF):Prop:=∀(A:Addr->Prop)(H:Hp)(x y:V)(dx dy:PyData),(∀b,A b->∃o,H b=some o)->Rp (Offs A H) dx x->Rp (Offs A H) dy y->∀d fr,f dx dy=some (d,fr)->∀Q:VK,
 (∀v H',Same H H'->Rp (Offs A H') d v->(fr=true->∃a,v=.ref a/\H a=none/\zhf (Offs (λb=>A b\/b=a) H') H' a d)->Q v H')->r x y H Q
noncomputable def eOp(f:OF)(a b:EF):EF:=λenv=>(a env).bind λx=>(b env).bind λy=>(f x.d y.d).bind λz=>some ⟨z.1,z.2,bsOf z.1 (x.bs++y.bs)⟩
theorem zbb(ho:SO r f)(ha:SE ta fa)(hb:SE tb fb):SE (tOp r ta tb) (eOp f fa fb):=by
 intro fx H0 env σ H h rr hr Q q
 unfold eOp at hr
 obtain⟨x,ex,hr⟩:=qA.mp hr
 obtain⟨y,ey,hr⟩:=qA.mp hr
 obtain⟨⟨d,fr⟩,ez,hr⟩:=qA.mp hr
 cases hr
 refine ha fx H0 env σ H h x ex _ λv H1 s1 v1=>hb fx H0 env σ H1 (h.up s1) y ey _ λu H2 s2 v2=>?_
 have l1:∀b,lim fx env σ (x.bs++y.bs) b->lim fx env σ x.bs b:=zaau λi hi=>qy _ hi
 have l2:∀b,lim fx env σ (x.bs++y.bs) b->lim fx env σ y.bs b:=zaau λi hi=>qe _ hi
 refine ho (lim fx env σ (x.bs++y.bs)) H2 v u x.d y.d ((h.up (s1.trans s2)).lims _) (v1.later (Same.refl _) s2 l1).rp (v2.later (Same.refl _) (Same.refl _) l2).rp d fr ez _ λw H3 s3 rp fr3=>q w H3 ((s1.trans s2).trans s3) ⟨zqb rp,λe=>?_⟩
 obtain⟨a,g1,g2,g3⟩:=fr3 e
 refine⟨a,g1,(s1.trans s2).free g2,?_⟩
 have nf:zev d=false:=by cases d<;>first|rfl|exact g3.elim
 show zhf (Offs (λb=>lim fx env σ (bsOf d (x.bs++y.bs)) b\/b=a) H3) H3 a d
 rw[show bsOf d (x.bs++y.bs)=x.bs++y.bs by unfold bsOf;rw[if_neg (by rw[nf];decide)]]
 exact g3
end
theorem zfs(h:n<=100000):n<=qV:=qAE h (by decide)
theorem zlm(h:n<100000):n<qV:=Nat.lt_trans h (by decide)
theorem zeq{A:Addr->Prop}{H:Hp}(hA:∀b,A b->∃o,H b=some o){p:Addr}(hp:H p=none):¬A p:=λz=>by
 obtain⟨o,e⟩:=hA p z
 rw[hp]at e;cases e
theorem zvb{A:Addr->Prop}(hp:H p=none)(r:Rps (Offs A H) ds xs):zhf (Offs (λb=>A b\/b=p) (upd H p (.lst xs))) (upd H p (.lst xs)) p (.list ds):=by
 refine⟨xs,zam,Rps.same (Offs.mono (Same.new hp) λb o e n z=>?_) _ r⟩
 rcases z with z|z
 ·exact n z
 ·rw[z,hp]at e;cases e
theorem zada{A:Addr->Prop}(hp:H p=none)(hA:¬A p)(r:Rps (Offs A H) ds xs):Rp (Offs A (upd H p (.lst xs))) (.list ds) (.ref p):=
 zhz (by rw[Offs.get hA];exact zam) (Rps.same (Offs.grow (Same.new hp)) _ r)
theorem zqc{A:Addr->Prop}(hp:H p=none)(hA:¬A p)(r:Rps (Offs A H) ds xs):Rp (Offs A (upd H p (.tup xs))) (.tuple ds) (.ref p):=
 zaat (by rw[Offs.get hA];exact zam) (Rps.same (Offs.grow (Same.new hp)) _ r)
theorem zcz{A:Addr->Prop}(h:Offs A H a=some o):H a=some o:=(Offs.of h).2
noncomputable def addD:OF
 | .int i,.int j=>some (.int (i+j),false)
 | .str a,.str b=>if a.length+b.length<=100000 then some (.str (a++b),false)else none
 | .list a,.list b=>if a.length+b.length<=100000 then some (.list (a++b),true)else none
 | .tuple a,.tuple b=>if a.isEmpty=false/\a.length+b.length<=100000 then some (.tuple (a++b),false)else none
 | _,_=>none
theorem zia{K:qB}:SO (zaqd K) addD:=by
 intro A H x y dx dy hA rx ry d fr e Q q
 unfold addD at e
 split at e
 ·cases e
  cases zdm rx;cases zdm ry
  exact q _ H (Same.refl _) zai (λz=>by cases z)
 ·split at e
  ·rename_i hl
   cases e
   cases zmh rx;cases zmh ry
   exact⟨zfs hl,q _ H (Same.refl _) zgk (λz=>by cases z)⟩
  ·cases e
 ·split at e
  ·rename_i hl
   cases e
   obtain⟨p,xs,rfl,hp,r1⟩:=zdq rx
   obtain⟨p',ys,rfl,hp',r2⟩:=zdq ry
   refine .inl ⟨p,p',xs,ys,rfl,rfl,zcz hp,zcz hp',zfs (by rw[<- r1.length,<- r2.length];exact hl),λb hb=>?_⟩
   exact q _ _ (Same.new hb) (zada hb (zeq hA hb) (r1.append r2)) λ_=>⟨b,rfl,hb,zvb hb (r1.append r2)⟩
  ·cases e
 ·split at e
  ·rename_i hl
   cases e
   obtain⟨p,xs,rfl,hp,r1⟩:=zdg rx
   obtain⟨p',ys,rfl,hp',r2⟩:=zdg ry
   refine .inr ⟨p,p',xs,ys,rfl,rfl,SqT.of (zcz hp),SqT.of (zcz hp'),λz=>?_,zfs (by rw[<- r1.length,<- r2.length];exact hl.2),λz=>?_,λ_ b hb=>?_⟩
   ·have h1:=r1.length
    have h0:=hl.1
    rw[z]at h1
    rw[List.isEmpty_eq_false_iff]at h0
    exact h0 (qBq.mp h1)
   ·have h2:=r2.length
    rw[z]at h2
    have:=qBq.mp h2
    subst this
    rw[q9]at q
    exact q _ H (Same.refl _) rx (λz=>by cases z)
   ·exact q _ _ (Same.new hb) (zqc hb (zeq hA hb) (r1.append r2)) (λz=>by cases z)
  ·cases e
 ·cases e
noncomputable def intD(c:Int->Int->Bool)(f:Int->Int->PyData):OF
 | .int i,.int j=>if c i j=true then some (f i j,false)else none
 | _,_=>none
theorem zaog{C:Int->Int->Prop}{g:Int->Int->V}{c:Int->Int->Bool}{f:Int->Int->PyData}(hc:∀i j,c i j=true->C i j)(hf:∀H i j,Rp H (f i j) (g i j)):SO (rI C g) (intD c f):=by
 intro A H x y dx dy hA rx ry d fr e Q q
 unfold intD at e
 split at e
 ·split at e
  ·rename_i h
   cases e
   cases zdm rx;cases zdm ry
   exact⟨_,_,rfl,rfl,hc _ _ h,q _ H (Same.refl _) (hf _ _ _) (λz=>by cases z)⟩
  ·cases e
 ·cases e
theorem zaqk{g:Int->Int->V}{f:Int->Int->PyData}(hf:∀H i j,Rp H (f i j) (g i j)):SO (rI0 g) (intD (λ_ _=>true) f):=by
 intro A H x y dx dy hA rx ry d fr e Q q
 unfold intD at e
 split at e
 ·split at e
  ·cases e
   cases zdm rx;cases zdm ry
   exact⟨_,_,rfl,rfl,q _ H (Same.refl _) (hf _ _ _) (λz=>by cases z)⟩
  ·cases e
 ·cases e
noncomputable def subD:OF:=intD (λ_ _=>true) λi j=>.int (i - j)
theorem zaux:SO (rI0 λi j=>.int (i - j)) subD:=zaqk λ_ _ _=>zai
noncomputable def modD:OF:=intD (λ_ j=>decide (0<j)) λi j=>.int (i % j)
theorem zed:SO (rI (λ_ j=>0<j) λi j=>.int (i % j)) modD:=zaog (λ_ _ h=>of_decide_eq_true h) λ_ _ _=>zai
noncomputable def zeo:OF:=intD (λ_ j=>decide (0<j/\j<1073741824)) λi j=>.int (i / j)
theorem zft:SO (rI CDiv λi j=>.int (i / j)) zeo:=zaog (λi j h=>(of_decide_eq_true h:0<j/\j<1073741824)) λ_ _ _=>zai
noncomputable def mulD:OF
 | .int i,.int j=>if(-(2 ^ 64)<i/\i<2 ^ 64)\/(-(2 ^ 64)<j/\j<2 ^ 64)then some (.int (i * j),false)else none
 | .str z,.int n=>if z.length<=1000/\-1000<=n/\n<=1000 then some (.str (Txt.mul z n),false)else none
 | _,_=>none
theorem zxq:SO zaur mulD:=by
 intro A H x y dx dy hA rx ry d fr e Q q
 unfold mulD at e
 split at e
 ·split at e
  ·rename_i h
   cases e
   cases zdm rx;cases zdm ry
   exact⟨h,q _ H (Same.refl _) zai (λz=>by cases z)⟩
  ·cases e
 ·split at e
  ·rename_i h
   cases e
   cases zmh rx;cases zdm ry
   exact⟨h.1,h.2.1,h.2.2,q _ H (Same.refl _) zgk (λz=>by cases z)⟩
  ·cases e
 ·cases e
mutual
theorem zxr{K:qB}{H:Hp}:∀{d:PyData}{v:V},d.canLay0=true->Rp H d v->Rep K H d v
 | .none,v,_,h=>by unfold Rp at h;unfold Rep;exact h
 | .bool b,v,_,h=>by unfold Rp at h;unfold Rep;exact h
 | .int i,v,_,h=>by unfold Rp at h;unfold Rep;exact h
 | .str x,v,_,h=>by unfold Rp at h;unfold Rep;exact h
 | .list ds,v,c,h=>by
  obtain⟨a,xs,e,h1,h2⟩:=zdq h
  unfold Rep
  exact⟨a,xs,e,SqL.of h1,rps_reps (by simpa [PyData.canLay0]using c) h2⟩
 | .tuple ds,v,c,h=>by
  obtain⟨a,xs,e,h1,h2⟩:=zdg h
  unfold Rep
  exact⟨a,xs,e,SqT.of h1,rps_reps (by simpa [PyData.canLay0]using c) h2⟩
 | .dict _,v,c,h=>by simp[PyData.canLay0]at c
theorem rps_reps{K:qB}{H:Hp}:∀{ds:List PyData}{vs:List V},qAc ds=true->Rps H ds vs->Reps K H ds vs
 | [],vs,_,h=>by unfold Rps at h;unfold Reps;exact h
 | d::ds,vs,c,h=>by
  unfold Rps at h
  obtain⟨v,ws,e,h1,h2⟩:=h
  have c:d.canLay0=true/\qAc ds=true:=by simpa [qAc]using c
  unfold Reps
  exact⟨v,ws,e,zxr c.1 h1,rps_reps c.2 h2⟩
end
noncomputable def zalr:PyData->PyData->Bool
 | .none,.none=>true|.none,.int _=>true|.int _,.none=>true|.none,.bool _=>true|.bool _,.none=>true|.none,.str _=>true|.str _,.none=>true
 | .int _,.int _=>true|.bool _,.bool _=>true|.str _,.str _=>true
 | .int _,.str _=>true|.str _,.int _=>true|.bool _,.str _=>true|.str _,.bool _=>true
 | _,_=>false
noncomputable def eqOk(dx dy:PyData):Bool:=zalr dx dy||(qAo dx&&qAo dy)
noncomputable def eqD:OF:=λdx dy=>if eqOk dx dy=true then some (.bool (qAx dx dy),false)else none
noncomputable def neD:OF:=λdx dy=>if eqOk dx dy=true then some (.bool (!PyData.eqv dx dy),false)else none
theorem zahf(s:zalr dx dy=true)(rx:Rp H dx x)(ry:Rp H dy y):scal x y=true/\decide (x=y)=qAx dx dy:=by
 cases dx<;>cases dy<;>first
  | (exact absurd (show false=true from s) qP)
  | (unfold Rp at rx ry;subst rx;subst ry;refine⟨rfl,?_⟩;first|rfl|exact zaag|exact zacq|exact zaah|simp[qAx])
theorem zahg{K:qB}:SO (λx y H Q=>rEq x y H Q\/rEqD K false x y H Q) eqD:=by
 intro A H x y dx dy hA rx ry d fr e Q q
 unfold eqD at e
 split at e
 ·rename_i h
  cases e
  cases hs:zalr dx dy with
  | true=>
   obtain⟨h1,h2⟩:=zahf hs rx ry
   exact .inl ⟨h1,by rw[h2];exact q _ H (Same.refl _) zar (λz=>by cases z)⟩
  | false=>
   unfold eqOk at h
   rw[hs,qCF,qAA]at h
   have rx:=Rp.same (Offs.same A H) _ rx
   have ry:=Rp.same (Offs.same A H) _ ry
   exact .inr ⟨dx,dy,zxr (qAz h.1) rx,zxr (qAz h.2) ry,h.1,h.2,q _ H (Same.refl _) zar (λz=>by cases z)⟩
 ·cases e
theorem zaav{K:qB}:SO (λx y H Q=>rNe x y H Q\/rEqD K true x y H Q) neD:=by
 intro A H x y dx dy hA rx ry d fr e Q q
 unfold neD at e
 split at e
 ·rename_i h
  cases e
  cases hs:zalr dx dy with
  | true=>
   obtain⟨h1,h2⟩:=zahf hs rx ry
   exact .inl ⟨h1,by rw[h2];exact q _ H (Same.refl _) zar (λz=>by cases z)⟩
  | false=>
   unfold eqOk at h
   rw[hs,qCF,qAA]at h
   have rx:=Rp.same (Offs.same A H) _ rx
   have ry:=Rp.same (Offs.same A H) _ ry
   exact .inr ⟨dx,dy,zxr (qAz h.1) rx,zxr (qAz h.2) ry,h.1,h.2,q _ H (Same.refl _) zar (λz=>by cases z)⟩
 ·cases e
noncomputable def zex(ds:List PyData):Bool:=ds.all zev
theorem zaoh(f:zev d=true)(h:Rp H d v):zsd v=true:=by
 cases d<;>first
  | (unfold Rp at h;subst h;rfl)
  | cases f
theorem zaql{vs:List V}(f:zex ds=true)(h:Rps H ds vs):vs.all zsd=true:=by
 replace h:=zcs.mp h
 induction h with
 | nil=>rfl
 | cons h _ ih=>
  unfold zex at f
  rw[qBJ,qAA]at f
  rw[qBJ,zaoh f.1 h,ih f.2];rfl
theorem zaqm(f:zev d=true)(g:zev e=true)(h:Rp H d v)(k:Rp H e u):eqV v u=qAx d e:=by
 cases d<;>cases e<;>first
  | (unfold Rp at h k;subst h;subst k;rfl)
  | exact absurd (show false=true from f) qP
  | exact absurd (show false=true from g) qP
theorem zaqn(f:zev d=true)(h:Rp H d v){ds:List PyData}(g:zex ds=true)(r:Rps H ds vs):inV v vs=ds.any λe=>qAx e d:=by
 replace r:=zcs.mp r
 unfold inV
 induction r with
 | nil=>rfl
 | cons r _ ih=>
  unfold zex at g
  rw[qBJ,qAA]at g
  rw[qAv,qAv,zaqm g.1 f r h,ih g.2]
noncomputable def zld:PyData->Option (List PyData)
 | .list ds=>some ds
 | .tuple ds=>some ds
 | _=>none
noncomputable def inD(neg:Bool):OF:=λd c=>match zld c with
 | some ds=>if zev d=true/\zex ds=true then some (.bool (if neg then !(ds.any λe=>qAx e d)else ds.any λe=>qAx e d),false)else none
 | none=>none
theorem zadb{K:qB}{H:Hp}{c:PyData}{v:V}{ds:List PyData}(h:Rp H c v)(e:zld c=some ds):∃p xs,v=.ref p/\(SqL K H p xs\/SqT K H p xs)/\Rps H ds xs:=by
 cases c<;>first
  | cases e
  | skip
 ·obtain⟨a,xs,e,h1,h2⟩:=zdq h;exact⟨a,xs,e,.inl (SqL.of h1),h2⟩
 ·obtain⟨a,xs,e,h1,h2⟩:=zdg h;exact⟨a,xs,e,.inr (SqT.of h1),h2⟩
theorem zvc{K:qB}{neg:Bool}:SO (rIn K neg) (inD neg):=by
 intro A H x y dx dy hA rx ry d fr e Q q
 unfold inD at e
 split at e
 ·rename_i ds hi
  split at e
  ·rename_i h
   cases e
   have rx:=Rp.same (Offs.same A H) _ rx
   obtain⟨p,xs,rfl,hq,r⟩:=zadb (K:=K) (Rp.same (Offs.same A H) _ ry) hi
   refine⟨p,xs,rfl,hq,zaoh h.1 rx,zaql h.2 r,?_⟩
   rw[zaqn h.1 rx h.2 r]
   refine q _ H (Same.refl _) ?_ (λz=>by cases z)
   cases neg<;>exact zar
  ·cases e
 ·cases e
noncomputable def ixD:OF
 | .str z,.int i=>if z.length<=100000 then(atI z.cps.toList i).map λc=>(.str ⟨#[c]⟩,false)else none
 | .list ds,.int i=>(atI ds i).map λd=>(d,false)
 | .tuple ds,.int i=>(atI ds i).map λd=>(d,false)
 | _,_=>none
theorem Rps.atI(h:Rps H ds vs)(e:atI ds i=some d):∃v,L2.atI vs i=some v/\Rp H d v:=by
 unfold L2.atI at e ⊢
 rw[<- h.length]
 cases g:ixN ds.length i with
 | none=>rw[g]at e;cases e
 | some j=>
  rw[g]at e
  exact h.get2 e
theorem zaqo{K:qB}:SO (rIxU K) ixD:=by
 intro A H x y dx dy hA rx ry d fr e Q q
 unfold ixD at e
 split at e
 ·split at e
  ·rename_i z i hl
   obtain⟨c,hc,e⟩:=qG.mp e
   cases e
   cases zmh rx;cases zdm ry
   exact⟨zfs hl,c,hc,q _ H (Same.refl _) zgk (λz=>by cases z)⟩
  ·cases e
 ·obtain⟨c,hc,e⟩:=qG.mp e
  cases e
  obtain⟨p,xs,rfl,hp,r⟩:=zdq rx
  cases zdm ry
  obtain⟨v,hv,rv⟩:=r.atI hc
  exact⟨xs,v,.inl (SqL.of (zcz hp)),hv,q _ H (Same.refl _) rv (λz=>by cases z)⟩
 ·obtain⟨c,hc,e⟩:=qG.mp e
  cases e
  obtain⟨p,xs,rfl,hp,r⟩:=zdg rx
  cases zdm ry
  obtain⟨v,hv,rv⟩:=r.atI hc
  exact⟨xs,v,.inr (SqT.of (zcz hp)),hv,q _ H (Same.refl _) rv (λz=>by cases z)⟩
 ·cases e
noncomputable def zln:List (PyData×PyData)->Key->Option PyData
 | [],_=>none
 | (k,d)::r,j=>if keyD k=some j then some d else zln r j
noncomputable def zaaw(kvs:List (PyData×PyData))(j:Key):Bool:=(zln kvs j).isSome
noncomputable def zse(kvs:List (PyData×PyData))(k:PyData)(d:PyData):List (PyData×PyData):=
 if(kvs.any λkv=>decide (keyD kv.1=keyD k))=true then kvs.map (λkv=>if keyD kv.1=keyD k then(kv.1,d)else kv)else kvs++[(k,d)]
noncomputable def zhg(kvs more:List (PyData×PyData)):List (PyData×PyData):=more.foldl (λacc kv=>zse acc kv.1 kv.2) kvs
theorem zim(hk:keyD k=some k')(h:Rp H d v)(q:Rpd H r vs):Rpd H ((k,d)::r) ((k',v)::vs):=by
 show Rpd H ((k,d)::r) _
 unfold Rpd;exact⟨k',v,vs,rfl,hk,h,q⟩
theorem zgg(h:Rpd H ((k,d)::r) ps):∃k' v vs,ps=(k',v)::vs/\keyD k=some k'/\Rp H d v/\Rpd H r vs:=by
 unfold Rpd at h;exact h
theorem Rpd.length:∀{kvs:List (PyData×PyData)}{ps:List (Key×V)},Rpd H kvs ps->kvs.length=ps.length
 | [],ps,h=>by unfold Rpd at h;subst h;rfl
 | (k,d)::r,ps,h=>by
  obtain⟨k',v,vs,rfl,_,_,h3⟩:=zgg h
  rw[qz,qz,h3.length]
theorem Rpd.get:∀{kvs:List (PyData×PyData)}{ps:List (Key×V)},Rpd H kvs ps->match zln kvs j with
  | some d=>∃v,valV ps j=some v/\Rp H d v
  | none=>valV ps j=none
 | [],ps,h=>by unfold Rpd at h;subst h;rfl
 | (k,d)::r,ps,h=>by
  obtain⟨k',v,vs,rfl,hk,h2,h3⟩:=zgg h
  have ih:=Rpd.get (j:=j) h3
  unfold zln
  by_cases e:k'=j
  ·rw[if_pos (by rw[hk,e])]
   exact⟨v,zpk e,h2⟩
  ·rw[if_neg (λz=>e (by rw[hk]at z;exact qa z)),zpl e]
   exact ih
theorem Rpd.any:∀{kvs:List (PyData×PyData)}{ps:List (Key×V)},Rpd H kvs ps->(kvs.any λkv=>decide (keyD kv.1=some j))=ps.any λkv=>decide (kv.1=j)
 | [],ps,h=>by unfold Rpd at h;subst h;rfl
 | (k,d)::r,ps,h=>by
  obtain⟨k',v,vs,rfl,hk,h2,h3⟩:=zgg h
  rw[qAv,qAv,h3.any,hk]
  congr 1
  simp
theorem Rpd.map(h':Rp H d' v'):∀{kvs:List (PyData×PyData)}{ps:List (Key×V)},Rpd H kvs ps->Rpd H (kvs.map λkv=>if keyD kv.1=some j then(kv.1,d')else kv) (ps.map λkv=>if kv.1=j then(kv.1,v')else kv)
 | [],ps,h=>by unfold Rpd at h;subst h;exact zjw
 | (k,d)::r,ps,h=>by
  obtain⟨k',v,vs,rfl,hk,h2,h3⟩:=zgg h
  rw[qh,qh]
  by_cases e:k'=j
  ·rw[if_pos (show keyD (k,d).1=some j by rw[hk,e]),if_pos (show((k',v):Key×V).1=j from e)]
   exact zim hk h' (Rpd.map h' h3)
  ·rw[if_neg (show ¬keyD (k,d).1=some j from λz=>e (by rw[hk]at z;exact qa z)),if_neg (show ¬((k',v):Key×V).1=j from e)]
   exact zim hk h2 (Rpd.map h' h3)
theorem Rpd.snoc(hk:keyD k=some k')(h':Rp H d v):∀{kvs:List (PyData×PyData)}{ps:List (Key×V)},Rpd H kvs ps->Rpd H (kvs++[(k,d)]) (ps++[(k',v)])
 | [],ps,h=>by unfold Rpd at h;subst h;exact zim hk h' zjw
 | (k0,d0)::r,ps,h=>by
  obtain⟨k1,v1,vs,rfl,hk1,h2,h3⟩:=zgg h
  exact zim hk1 h2 (Rpd.snoc hk h' h3)
theorem Rpd.put(h:Rpd H kvs ps)(hk:keyD k=some j)(h':Rp H d v):Rpd H (zse kvs k d) (putK ps j v):=by
 unfold zse putK
 rw[hk,h.any]
 split
 ·exact h.map h'
 ·exact h.snoc hk h'
theorem Rpd.merge:∀{more:List (PyData×PyData)}{ps:List (Key×V)}{kvs:List (PyData×PyData)}{qs:List (Key×V)},Rpd H kvs qs->Rpd H more ps->Rpd H (zhg kvs more) (zgy qs ps)
 | [],ps,kvs,qs,h,g=>by unfold Rpd at g;subst g;exact h
 | (k,d)::r,ps,kvs,qs,h,g=>by
  obtain⟨k',v,vs,rfl,hk,h2,h3⟩:=zgg g
  show Rpd H (zhg (zse kvs k d) r) (zgy (putK qs k' v) vs)
  exact Rpd.merge (h.put hk h2) h3
theorem zaax(h:Rp H d v)(e:keyD d=some k):v=kV k:=by
 cases d<;>first
  | (cases e;unfold Rp at h;exact h)
  | cases e
noncomputable def zahh(a b:EF):EF:=λenv=>(a env).bind λx=>(b env).bind λy=>match x.d with
 | .dict kvs=>(keyD y.d).bind λk=>(zln kvs k).bind λd=>some ⟨d,false,bsOf d x.bs⟩
 | _=>none
theorem zaqp(ha:SE td fa)(hb:SE ty fb):SE (tDGet td ty) (zahh fa fb):=by
 intro fx H0 env σ H h rr hr Q q
 unfold zahh at hr
 obtain⟨⟨dx,frx,bx⟩,ex,hr⟩:=qA.mp hr
 obtain⟨⟨dy,fry,by'⟩,ey,hr⟩:=qA.mp hr
 cases dx with
 | dict kvs=>
  obtain⟨k,ek,hr⟩:=qA.mp hr
  obtain⟨d,ed,hr⟩:=qA.mp hr
  cases hr
  refine ha fx H0 env σ H h _ ex _ λv H1 s1 v1=>hb fx H0 env σ H1 (h.up s1) _ ey _ λu H2 s2 v2=>?_
  obtain⟨a,ps,rfl,hp,r⟩:=zil (v1.later (Same.refl _) s2 λ_ z=>z).rp
  have g:=r.get (j:=k)
  rw[ed]at g
  obtain⟨w,e1,e2⟩:=g
  rw[zaax v2.rp ek]
  have dg:=DGet.k (k:=k) (zcz hp)
  rw[e1]at dg
  exact⟨a,w,rfl,dg,q w H2 (s1.trans s2) ⟨zqb e2,λz=>by cases z⟩⟩
 | _=>cases hr
noncomputable def eDIn(neg:Bool)(a b:EF):EF:=λenv=>(a env).bind λx=>(b env).bind λy=>match y.d with
 | .dict kvs=>(keyD x.d).bind λk=>some ⟨.bool (if neg then !zaaw kvs k else zaaw kvs k),false,[]⟩
 | _=>none
theorem zahi(r:Rpd H kvs ps)(k:Key):(valV ps k).isSome=zaaw kvs k:=by
 have g:=r.get (j:=k)
 unfold zaaw
 cases e:zln kvs k with
 | none=>rw[e]at g;rw[show valV ps k=none from g];rfl
 | some d=>rw[e]at g;obtain⟨w,e1,_⟩:=g;rw[e1];rfl
theorem zadc(ha:SE ty fa)(hb:SE td fb):SE (tDIn ty td) (eDIn false fa fb):=by
 intro fx H0 env σ H h rr hr Q q
 unfold eDIn at hr
 obtain⟨⟨dx,frx,bx⟩,ex,hr⟩:=qA.mp hr
 obtain⟨⟨dy,fry,by'⟩,ey,hr⟩:=qA.mp hr
 cases dy with
 | dict kvs=>
  obtain⟨k,ek,hr⟩:=qA.mp hr
  cases hr
  refine ha fx H0 env σ H h _ ex _ λv H1 s1 v1=>hb fx H0 env σ H1 (h.up s1) _ ey _ λu H2 s2 v2=>?_
  obtain⟨a,ps,rfl,hp,r⟩:=zil v2.rp
  rw[zaax v1.rp ek]
  exact⟨a,_,rfl,DGet.k (zcz hp),by rw[zahi r k];exact q _ H2 (s1.trans s2) ⟨zar,λz=>by cases z⟩⟩
 | _=>cases hr
theorem zahj(ha:SE ty fa)(hb:SE td fb):SE (tDNotIn ty td) (eDIn true fa fb):=by
 intro fx H0 env σ H h rr hr Q q
 unfold eDIn at hr
 obtain⟨⟨dx,frx,bx⟩,ex,hr⟩:=qA.mp hr
 obtain⟨⟨dy,fry,by'⟩,ey,hr⟩:=qA.mp hr
 cases dy with
 | dict kvs=>
  obtain⟨k,ek,hr⟩:=qA.mp hr
  cases hr
  refine ha fx H0 env σ H h _ ex _ λv H1 s1 v1=>hb fx H0 env σ H1 (h.up s1) _ ey _ λu H2 s2 v2=>?_
  obtain⟨a,ps,rfl,hp,r⟩:=zil v2.rp
  rw[zaax v1.rp ek]
  exact⟨a,_,rfl,DGet.k (zcz hp),by rw[zahi r k];exact q _ H2 (s1.trans s2) ⟨zar,λz=>by cases z⟩⟩
 | _=>cases hr
noncomputable def zbc(f:EF):TF:=λenv=>(f env).bind λr=>match r.d with|.bool b=>some b|_=>none
theorem st_b(h:SE te f):ST (tB te) (zbc f):=by
 intro fx H0 env σ H hE b hb Q q
 unfold zbc at hb
 obtain⟨⟨d,fr,bs⟩,e,hb⟩:=qA.mp hb
 cases d with
 | bool c=>
  have hb:some c=some b:=hb
  cases hb
  exact h fx H0 env σ H hE _ e _ λv H' s v1=>⟨_,zjv v1.rp,q H' s⟩
 | _=>cases hb
theorem st_t(h:SE te f):ST (tTest te) (zbc f):=st_b h
noncomputable def truD:PyData->Option Bool
 | .none=>some false
 | .bool b=>some b
 | .int i=>some (i != 0)
 | .str x=>if x.length<=100000 then some ((x.length:Int) != 0)else none
 | .list ds=>some (!ds.isEmpty)
 | .tuple ds=>some (!ds.isEmpty)
 | .dict ds=>some (!ds.isEmpty)
noncomputable def tTru(f:EF):TF:=λenv=>(f env).bind λr=>truD r.d
theorem zlo{xs:List α}{ys:List β}(h:xs.length=ys.length):xs.isEmpty=ys.isEmpty:=by
 cases xs<;>cases ys<;>simp at h<;>rfl
theorem zauy{K:qB}{H:Hp}{d:PyData}{v:V}{b:Bool}(h:Rp H d v)(e:truD d=some b):TruV K v H b:=by
 cases d with
 | none=>cases e;cases zaas h;rfl
 | bool c=>cases e;cases zjv h;rfl
 | int i=>cases e;cases zdm h;rfl
 | str x=>
  have e:(if x.length<=100000 then some ((x.length:Int) != 0)else none)=some b:=e
  split at e
  ·rename_i hl;cases e;cases zmh h;exact⟨zfs hl,rfl⟩
  ·cases e
 | list ds=>cases e;obtain⟨a,xs,rfl,h1,h2⟩:=zdq h;exact .inl ⟨xs,SqL.of h1,by rw[zlo h2.length]⟩
 | tuple ds=>cases e;obtain⟨a,xs,rfl,h1,h2⟩:=zdg h;exact .inr (.inl ⟨xs,SqT.of h1,by rw[zlo h2.length]⟩)
 | dict ds=>cases e;obtain⟨a,xs,rfl,h1,h2⟩:=zil h;exact .inr (.inr ⟨xs,h1,by rw[zlo h2.length]⟩)
theorem ztk{K:qB}{te:TE}{f:EF}(h:SE te f):ST (λσ H Q=>te σ H λx H1=>∃k,TruV K x H1 k/\Q k H1) (tTru f):=by
 intro fx H0 env σ H hE b hb Q q
 unfold tTru at hb
 obtain⟨r,e,hb⟩:=qA.mp hb
 exact h fx H0 env σ H hE _ e _ λv H' s v1=>⟨b,zauy (Rp.same (Offs.same _ _) _ v1.rp) hb,q H' s⟩
noncomputable def tOrF(f g:TF):TF:=λenv=>(f env).bind λb=>if b=true then some true else g env
noncomputable def zjx(f:TF):TF:=λenv=>(f env).map λb=>!b
theorem zaem(h:ST t f)(k:ST u g):ST (tOr t u) (tOrF f g):=by
 intro fx H0 env σ H hE b hb Q q
 unfold tOrF at hb
 obtain⟨c,e,hb⟩:=qA.mp hb
 refine h fx H0 env σ H hE c e _ λH' s=>?_
 cases c with
 | false=>exact iteF (k fx H0 env σ H' (hE.up s) b hb _ λH'' s'=>q H'' (s.trans s'))
 | true=>cases hb;exact iteT (q H' s)
theorem zxs(h:ST t f):ST (tNot t) (zjx f):=by
 intro fx H0 env σ H hE b hb Q q
 unfold zjx at hb
 obtain⟨c,e,rfl⟩:=qG.mp hb
 exact h fx H0 env σ H hE c e _ λH' s=>q H' s
noncomputable def zaay:PyData->Bool|.none=>true|_=>false
noncomputable def eIsN(neg:Bool)(a:EF):EF:=λenv=>(a env).map λx=>⟨.bool (if neg then !zaay x.d else zaay x.d),false,[]⟩
theorem zaxt(h:Rp H d v):decide (v=.non)=zaay d:=by
 cases d with
 | list ds=>obtain⟨a,xs,rfl,_⟩:=zdq h;rfl
 | tuple ds=>obtain⟨a,xs,rfl,_⟩:=zdg h;rfl
 | dict ds=>obtain⟨a,xs,rfl,_⟩:=zil h;rfl
 | _=>unfold Rp at h;subst h;rfl
theorem zauz(ha:SE ta fa):SE (tIsN ta) (eIsN false fa):=by
 intro fx H0 env σ H h rr hr Q q
 unfold eIsN at hr
 obtain⟨x,ex,rfl⟩:=qG.mp hr
 refine ha fx H0 env σ H h _ ex _ λv H1 s1 v1=>?_
 rw[zaxt v1.rp]
 exact q _ H1 s1 ⟨zar,λz=>by cases z⟩
noncomputable def aNil:AF:=λ_=>some []
noncomputable def zaa(a:EF)(r:AF):AF:=λenv=>(a env).bind λx=>(r env).map λxs=>x::xs
theorem zal:SA tNil aNil:=by
 intro fx H0 env σ H h rs hr Q q
 cases hr
 exact q [] H (Same.refl _) .nil
theorem zab(h1:SE te f)(h2:SA ta g):SA (tCons te ta) (zaa f g):=by
 intro fx H0 env σ H h rs hr Q q
 unfold zaa at hr
 obtain⟨x,ex,hr⟩:=qA.mp hr
 obtain⟨xs,exs,rfl⟩:=qG.mp hr
 exact h1 fx H0 env σ H h x ex _ λv H1 s1 v1=>h2 fx H0 env σ H1 (h.up s1) xs exs _ λvs H2 s2 vs2=>q (v::vs) H2 (s1.trans s2)
  (.cons (v1.later (Same.refl _) s2 λ_ z=>z) (Paired.mapP vs2 λ_ _ z=>z.later s1 (Same.refl _) λ_ y=>y))
noncomputable def zfn(rs:List Val):List PyData:=rs.map (·.d)
noncomputable def bss(rs:List Val):List Nat:=rs.flatMap (·.bs)
theorem zfk{fx:Addr->Prop}:∀{rs:List Val}{vs:List V}{cs:List Nat},(∀i∈bss rs,i∈cs)->Paired (λr v=>ValOk (lim fx env σ r.bs) H H' r v) rs vs->Rps (Offs (lim fx env σ cs) H') (zfn rs) vs
 | _,_,_,_,.nil=>zeb
 | r::rs,v::vs,cs,hc,.cons h t=>zcx (Rp.same (Offs.sub (zaau λi hi=>hc i (qCM.mpr ⟨r,qp,hi⟩))) _ h.rp)
   (zfk (λi hi=>hc i (by obtain⟨x,h1,h2⟩:=qCM.mp hi;exact qCM.mpr ⟨x,qN _ h1,h2⟩)) t)
noncomputable def eTup(f:AF):EF:=λenv=>(f env).bind λrs=>if rs.length<=100000 then some ⟨.tuple (zfn rs),false,bss rs⟩else none
noncomputable def eLst(f:AF):EF:=λenv=>(f env).bind λrs=>if rs.length<=100000 then some ⟨.list (zfn rs),true,bss rs⟩else none
theorem zgl(rs:List Val):(zfn rs).length=rs.length:=by unfold zfn;rw[qC]
theorem zqd(ha:SA ta f):SE (tTup ta) (eTup f):=by
 intro fx H0 env σ H h rr hr Q q
 unfold eTup at hr
 obtain⟨rs,er,hr⟩:=qA.mp hr
 split at hr
 ·rename_i hl
  cases hr
  refine ha fx H0 env σ H h rs er _ λvs H1 s1 v1=>?_
  have r:=zfk (λi hi=>hi) v1
  have hA:=(h.up s1).lims (bss rs)
  refine⟨zfs (by rw[<- r.length,zgl];exact hl),λp hp=>q _ _ (s1.trans (Same.new hp)) ⟨zqc hp (zeq hA hp) r,λz=>by cases z⟩⟩
 ·cases hr
theorem zcl(ha:SA ta f):SE (tLst ta) (eLst f):=by
 intro fx H0 env σ H h rr hr Q q
 unfold eLst at hr
 obtain⟨rs,er,hr⟩:=qA.mp hr
 split at hr
 ·rename_i hl
  cases hr
  refine ha fx H0 env σ H h rs er _ λvs H1 s1 v1=>?_
  have r:=zfk (λi hi=>hi) v1
  have hA:=(h.up s1).lims (bss rs)
  refine⟨zfs (by rw[<- r.length,zgl];exact hl),λp hp=>q _ _ (s1.trans (Same.new hp)) ⟨zada hp (zeq hA hp) r,λ_=>⟨p,rfl,s1.free hp,zvb hp r⟩⟩⟩
 ·cases hr
noncomputable def zaqq:EF:=λ_=>some ⟨.dict [],true,[]⟩
theorem zahk:SE tDNewK zaqq:=by
 intro fx H0 env σ H h rr hr Q q
 cases hr
 intro p hp
 have hA:=h.lims []
 exact q _ _ (Same.new hp) ⟨zku (by rw[Offs.get (zeq hA hp)];exact zam) zjw,λ_=>⟨p,rfl,hp,⟨[],zam,zjw⟩⟩⟩
noncomputable def eD1(k v:EF):EF:=λenv=>(k env).bind λx=>(v env).bind λy=>(keyD x.d).bind λ_=>some ⟨.dict [(x.d,y.d)],true,y.bs⟩
theorem zaxu(h1:SE tk f)(h2:SE tv g):SE (tDisp [(tk,tv)]) (eD1 f g):=by
 intro fx H0 env σ H h rr hr Q q
 unfold eD1 at hr
 obtain⟨x,ex,hr⟩:=qA.mp hr
 obtain⟨y,ey,hr⟩:=qA.mp hr
 obtain⟨k,ek,hr⟩:=qA.mp hr
 cases hr
 intro p hp
 have hp0:Same H (upd H p (.dK [])):=Same.new hp
 have npf:¬fx p:=zeq h.fxs hp
 have hE:EnvOk (λb=>fx b\/b=p) H0 env σ (upd H p (.dK [])):=h.grow hp0 (λb o e n z=>z.elim n λy=>by rw[y,hp]at e;cases e) λb z=>by
  rcases z with z|z
  ·obtain⟨o,e⟩:=h.fxs b z;exact⟨o,hp0 b o e⟩
  ·rw[z];exact⟨_,zam⟩
 refine h1 _ H0 env σ _ hE x ex _ λv H1 s1 v1=>h2 _ H0 env σ H1 (hE.up s1) y ey _ λu H2 s2 v2=>?_
 have ep:H2 p=some (.dK []):=(s1.trans s2) _ _ zam
 refine⟨ep,[(k,u)],by rw[zaax v1.rp ek];rfl,(by show 1<=15;decide),?_⟩
 have em:zgy [] [(k,u)]=[(k,u)]:=rfl
 rw[em]
 have rp2:Rp (Offs (λb=>lim fx env σ y.bs b\/b=p) (upd H2 p (.dK [(k,u)]))) y.d u:=by
  rw[Offs.upd (.inr rfl)]
  exact Rp.same (Offs.sub λb z=>by
   rcases z with(z|z)|z
   ·exact .inl (.inl z)
   ·exact .inr z
   ·exact .inl (.inr z)) _ v2.rp
 have hs:Same H (upd H2 p (.dK [(k,u)])):=λb o e=>by
  rw[zap (zax e hp)]
  exact s2 _ _ (s1 _ _ (hp0 _ _ e))
 have hnp:¬lim fx env σ y.bs p:=zeq (h.lims y.bs) hp
 refine q _ _ hs ⟨zku (by rw[Offs.get hnp];exact zam) (zim ek (Rp.same (Offs.sub λb z=>.inl z) _ rp2) zjw),λ_=>⟨p,rfl,hp,⟨_,zam,zim ek rp2 zjw⟩⟩⟩
noncomputable abbrev GF:=List PyData->Option (PyData×Bool)
noncomputable def SC(r:List V->Hp->VK->Prop)(g:GF):Prop:=∀(A:Addr->Prop)(H:Hp)(vs:List V)(ds:List PyData),(∀b,A b->∃o,H b=some o)->Rps (Offs A H) ds vs->∀d fr,g ds=some (d,fr)->∀Q:VK,
 (∀v H',Same H H'->Rp (Offs A H') d v->(fr=true->∃a,v=.ref a/\H a=none/\zhf (Offs (λb=>A b\/b=a) H') H' a d)->Q v H')->r vs H Q
noncomputable def eCB(g:GF)(f:AF):EF:=λenv=>(f env).bind λrs=>(g (zfn rs)).bind λz=>some ⟨z.1,z.2,bsOf z.1 (bss rs)⟩
theorem zgm{r:List V->Hp->VK->Prop}(hc:SC r g)(ha:SA ta f):SE (tCB r ta) (eCB g f):=by
 intro fx H0 env σ H h rr hr Q q
 unfold eCB at hr
 obtain⟨rs,er,hr⟩:=qA.mp hr
 obtain⟨⟨d,fr⟩,ez,hr⟩:=qA.mp hr
 cases hr
 refine ha fx H0 env σ H h rs er _ λvs H1 s1 v1=>hc (lim fx env σ (bss rs)) H1 vs (zfn rs) ((h.up s1).lims _) (zfk (λi hi=>hi) v1) d fr ez _ λw H3 s3 rp fr3=>q w H3 (s1.trans s3) ⟨zqb rp,λe=>?_⟩
 obtain⟨a,g1,g2,g3⟩:=fr3 e
 refine⟨a,g1,s1.free g2,?_⟩
 have nf:zev d=false:=by cases d<;>first|rfl|exact g3.elim
 show zhf (Offs (λb=>lim fx env σ (bsOf d (bss rs)) b\/b=a) H3) H3 a d
 rw[show bsOf d (bss rs)=bss rs by unfold bsOf;rw[if_neg (by rw[nf];decide)]]
 exact g3
theorem rps1(h:Rps H [d] vs):∃v,vs=[v]/\Rp H d v:=by
 unfold Rps at h
 obtain⟨v,ws,rfl,h1,h2⟩:=h
 unfold Rps at h2
 subst h2
 exact⟨v,rfl,h1⟩
theorem rps2(h:Rps H [d,e] vs):∃v u,vs=[v,u]/\Rp H d v/\Rp H e u:=by
 unfold Rps at h
 obtain⟨v,ws,rfl,h1,h2⟩:=h
 obtain⟨u,rfl,h3⟩:=rps1 h2
 exact⟨v,u,rfl,h1,h3⟩
noncomputable def lenD:GF
 | [.str x]=>if x.length<=100000 then some (.int x.length,false)else none
 | [.list ds]=>some (.int ds.length,false)
 | [.tuple ds]=>some (.int ds.length,false)
 | _=>none
theorem zib{K:qB}:SC (λxs H Q=>∃x n,xs=[x]/\LenV K x H n/\Q (.int n) H) lenD:=by
 intro A H vs ds hA rv d fr e Q q
 unfold lenD at e
 split at e
 ·split at e
  ·rename_i hl
   cases e
   obtain⟨v,rfl,r⟩:=rps1 rv
   cases zmh r
   exact⟨_,_,rfl,⟨zfs hl,rfl⟩,q _ H (Same.refl _) zai (λz=>by cases z)⟩
  ·cases e
 ·cases e
  obtain⟨v,rfl,r⟩:=rps1 rv
  obtain⟨a,xs,rfl,h1,h2⟩:=zdq r
  exact⟨_,_,rfl,.inl ⟨xs,SqL.of (zcz h1),rfl⟩,by rw[<- h2.length];exact q _ H (Same.refl _) zai (λz=>by cases z)⟩
 ·cases e
  obtain⟨v,rfl,r⟩:=rps1 rv
  obtain⟨a,xs,rfl,h1,h2⟩:=zdg r
  exact⟨_,_,rfl,.inr ⟨xs,SqT.of (zcz h1),rfl⟩,by rw[<- h2.length];exact q _ H (Same.refl _) zai (λz=>by cases z)⟩
 ·cases e
noncomputable def minD:GF
 | [.int i,.int j]=>some (.int (if j<i then j else i),false)
 | _=>none
theorem zava:SC (λxs H Q=>∃i j,xs=[.int i,.int j]/\Q (.int (if j<i then j else i)) H) minD:=by
 intro A H vs ds hA rv d fr e Q q
 unfold minD at e
 split at e
 ·cases e
  obtain⟨v,u,rfl,r1,r2⟩:=rps2 rv
  cases zdm r1;cases zdm r2
  exact⟨_,_,rfl,q _ H (Same.refl _) zai (λz=>by cases z)⟩
 ·cases e
noncomputable def zaaz:GF
 | [c]=>(zld c).map λds=>(.list ds,true)
 | _=>none
theorem zaba{K:qB}:SC (λxs H Q=>∃p ys,xs=[.ref p]/\(SqL K H p ys\/SqT K H p ys)/\∀l,H l=none->Q (.ref l) (upd H l (.lst ys))) zaaz:=by
 intro A H vs ds hA rv d fr e Q q
 unfold zaaz at e
 split at e
 ·obtain⟨es,he,e⟩:=qG.mp e
  cases e
  obtain⟨v,rfl,r1⟩:=rps1 rv
  obtain⟨p,xs,rfl,hq,r⟩:=zadb (K:=K) r1 he
  refine⟨p,xs,rfl,hq.imp (Offs.same A H).seq (SqT.same (Offs.same A H)),λl hl=>?_⟩
  exact q _ _ (Same.new hl) (zada hl (zeq hA hl) r) λ_=>⟨l,rfl,hl,zvb hl r⟩
 ·cases e
noncomputable def zqe:GF
 | [c]=>(zld c).map λds=>(.tuple ds,false)
 | _=>none
theorem zals{K:qB}:SC (λxs H Q=>∃p ys,xs=[.ref p]/\((SqL K H p ys/\∀l,H l=none->Q (.ref l) (upd H l (.tup ys)))\/(SqT K H p ys/\Q (.ref p) H))) zqe:=by
 intro A H vs ds hA rv d fr e Q q
 unfold zqe at e
 split at e
 ·obtain⟨es,he,e⟩:=qG.mp e
  cases e
  obtain⟨v,rfl,r1⟩:=rps1 rv
  rename_i c
  cases c with
  | list ds=>
   cases he
   obtain⟨p,xs,rfl,h1,r⟩:=zdq r1
   exact⟨p,xs,rfl,.inl ⟨SqL.of (zcz h1),λl hl=>q _ _ (Same.new hl) (zqc hl (zeq hA hl) r) (λz=>by cases z)⟩⟩
  | tuple ds=>
   cases he
   obtain⟨p,xs,rfl,h1,r⟩:=zdg r1
   exact⟨p,xs,rfl,.inr ⟨SqT.of (zcz h1),q _ H (Same.refl _) r1 (λz=>by cases z)⟩⟩
  | _=>cases he
 ·cases e
noncomputable def ztl:List PyData->Option (List Bool)
 | []=>some []
 | .bool b::r=>(ztl r).map λbs=>b::bs
 | _=>none
theorem zxt:∀{ds:List PyData}{vs:List V}{bs:List Bool},Rps H ds vs->ztl ds=some bs->vs=bs.map V.bl
 | [],vs,bs,h,e=>by unfold Rps at h;cases e;exact h
 | d::ds,vs,bs,h,e=>by
  unfold Rps at h
  obtain⟨v,ws,rfl,h1,h2⟩:=h
  cases d with
  | bool b=>
   obtain⟨cs,ec,rfl⟩:=qG.mp e
   rw[zjv h1,zxt h2 ec];rfl
  | _=>cases e
noncomputable def anyD(f:List Bool->Bool):GF
 | [.list ds]=>(ztl ds).map λbs=>(.bool (f bs),false)
 | _=>none
theorem zaoi{K:qB}{f:List Bool->Bool}:SC (rAny K f) (anyD f):=by
 intro A H vs ds hA rv d fr e Q q
 unfold anyD at e
 split at e
 ·obtain⟨bs,he,e⟩:=qG.mp e
  cases e
  obtain⟨v,rfl,r1⟩:=rps1 rv
  obtain⟨p,xs,rfl,h1,r⟩:=zdq r1
  cases zxt r he
  exact⟨p,bs,rfl,SqL.of (zcz h1),q _ H (Same.refl _) zar (λz=>by cases z)⟩
 ·cases e
noncomputable def ztm:PyData->String
 | .none=>"NoneType"|.bool _=>"bool"|.int _=>"int"|.str _=>"str"|.list _=>"list"|.tuple _=>"tuple"|.dict _=>"dict"
theorem zaxv{K:qB}{H:Hp}{d:PyData}{v:V}(h:Rp H d v):TyOf K H v (.type (ztm d)):=by
 cases d with
 | list ds=>obtain⟨a,xs,rfl,h1,_⟩:=zdq h;exact .lst h1
 | tuple ds=>obtain⟨a,xs,rfl,h1,_⟩:=zdg h;exact .tup h1
 | dict ds=>obtain⟨a,xs,rfl,h1,_⟩:=zil h;exact .dK h1
 | none=>cases zaas h;exact .non
 | bool b=>cases zjv h;exact .bl _
 | int b=>cases zdm h;exact .int _
 | str b=>cases zmh h;exact .str _
noncomputable def isiB(n:String)(d:PyData):Bool:=ztm d==n||(ztm d=="bool"&&n=="int")
noncomputable def eIsi(n:String)(a:EF):EF:=λenv=>(a env).map λx=>⟨.bool (isiB n x.d),false,[]⟩
theorem zahl{K:qB}{n:String}{te:TE}{f:EF}(h1:SE te f)(hk:∀d,PySem.W.kitOne K (.type (ztm d)) (.type n)=some (isiB n d)) :
  SE (tCB (λxs H Q=>∃x n t b,xs=[x,.ty n]/\TyOf K H x t/\PySem.W.kitOne K t (.type n)=some b/\Q (.bl b) H) (tCons te (tCons (tC (.ty n)) tNil))) (eIsi n f):=by
 intro fx H0 env σ H h rr hr Q q
 unfold eIsi at hr
 obtain⟨x,ex,rfl⟩:=qG.mp hr
 refine h1 fx H0 env σ H h _ ex _ λv H1 s1 v1=>?_
 exact⟨v,n,_,_,rfl,zaxv (Rp.same (Offs.same _ _) _ v1.rp),hk _,q _ H1 s1 ⟨zar,λz=>by cases z⟩⟩
theorem zadd{K:qB}:∀d,PySem.W.kitOne K (.type (ztm d)) (.type "list")=some (isiB "list" d):=by intro d;cases d<;>rfl
theorem zahm{K:qB}:∀d,PySem.W.kitOne K (.type (ztm d)) (.type "tuple")=some (isiB "tuple" d):=by intro d;cases d<;>rfl
noncomputable abbrev PF':=DEnv->Option (Option Int)
noncomputable def SPt(t:TO)(f:PF'):Prop:=∀(fx:Addr->Prop)(H0:Hp)(env:DEnv)(σ:St)(H:Hp),EnvOk fx H0 env σ H->∀r,f env=some r->∀Q:Option Int->Hp->Prop,(∀H',Same H H'->Q r H')->t σ H Q
noncomputable def zlp:PF':=λ_=>some none
noncomputable def zfz(a:EF):PF':=λenv=>(a env).bind λx=>match x.d with|.int i=>some (some i)|_=>none
theorem zqf:SPt tNoPart zlp:=by
 intro fx H0 env σ H h r hr Q q
 cases hr
 exact q H (Same.refl _)
theorem zlq(h1:SE te f):SPt (tPart te) (zfz f):=by
 intro fx H0 env σ H h r hr Q q
 unfold zfz at hr
 obtain⟨⟨d,fr,bs⟩,ex,hr⟩:=qA.mp hr
 cases d with
 | int i=>
  cases hr
  exact h1 fx H0 env σ H h _ ex _ λv H1 s1 v1=>⟨i,zdm v1.rp,q H1 s1⟩
 | _=>cases hr
noncomputable def cutD(xs:List PyData)(lo hi:Option Int):List PyData:=(xs.drop (HT.sIx xs.length 0 lo)).take (HT.sIx xs.length xs.length hi - HT.sIx xs.length 0 lo)
theorem Rps.drop{ds:List PyData}{vs:List V}(h:Rps H ds vs)(n:Nat):Rps H (ds.drop n) (vs.drop n):=by
 induction n generalizing ds vs with
 | zero=>exact h
 | succ n ih=>
  cases ds with
  | nil=>unfold Rps at h;subst h;exact zeb
  | cons d ds=>unfold Rps at h;obtain⟨v,ws,rfl,h1,h2⟩:=h;exact ih h2
theorem Rps.take{ds:List PyData}{vs:List V}(h:Rps H ds vs)(n:Nat):Rps H (ds.take n) (vs.take n):=by
 induction n generalizing ds vs with
 | zero=>exact zeb
 | succ n ih=>
  cases ds with
  | nil=>unfold Rps at h;subst h;exact zeb
  | cons d ds=>unfold Rps at h;obtain⟨v,ws,rfl,h1,h2⟩:=h;exact zcx h1 (ih h2)
theorem Rps.cut(h:Rps H ds vs)(lo hi:Option Int):Rps H (cutD ds lo hi) (cutV vs lo hi):=by
 unfold cutD cutV
 rw[<- h.length]
 exact(h.drop _).take _
noncomputable def slD(d:PyData)(lo hi:Option Int):Option (PyData×Bool):=match d with
 | .str z=>if z.length<=100000 then some (.str (Txt.slice z lo hi),false)else none
 | .list ds=>some (.list (cutD ds lo hi),true)
 | _=>none
noncomputable def eSl(a:EF)(l h:PF'):EF:=λenv=>(a env).bind λx=>(l env).bind λlo=>(h env).bind λhi=>(slD x.d lo hi).bind λz=>some ⟨z.1,z.2,bsOf z.1 x.bs⟩
theorem zaen{K:qB}{te:TE}{tl th:TO}{f:EF}{fl fh:PF'}(h1:SE te f)(h2:SPt tl fl)(h3:SPt th fh):SE (tSl (rSlU K) te tl th) (eSl f fl fh):=by
 intro fx H0 env σ H h rr hr Q q
 unfold eSl at hr
 obtain⟨⟨d,frd,bs⟩,ex,hr⟩:=qA.mp hr
 obtain⟨lo,el,hr⟩:=qA.mp hr
 obtain⟨hi,eh,hr⟩:=qA.mp hr
 obtain⟨⟨d',fr'⟩,ez,hr⟩:=qA.mp hr
 cases hr
 refine h1 fx H0 env σ H h _ ex _ λv H1 s1 v1=>h2 fx H0 env σ H1 (h.up s1) _ el _ λH2 s2=>h3 fx H0 env σ H2 (h.up (s1.trans s2)) _ eh _ λH3 s3=>?_
 have v3:=(v1.later (Same.refl _) (s2.trans s3) λ_ z=>z).rp
 have t3:=(s1.trans s2).trans s3
 cases d with
 | str z=>
  have ez:(if z.length<=100000 then some (PyData.str (Txt.slice z lo hi),false)else none)=some (d',fr'):=ez
  split at ez
  ·rename_i hl
   cases ez
   cases zmh v3
   exact⟨zfs hl,q _ H3 t3 ⟨zgk,λz=>by cases z⟩⟩
  ·cases ez
 | list ds=>
  cases ez
  obtain⟨p,xs,rfl,hp,r⟩:=zdq v3
  refine⟨p,xs,rfl,SqL.of (zcz hp),λl hl=>q _ _ (t3.trans (Same.new hl)) ?_⟩
  have hA:=(h.up t3).lims bs
  exact⟨zada hl (zeq hA hl) (r.cut lo hi),λ_=>⟨l,rfl,t3.free hl,zvb hl (r.cut lo hi)⟩⟩
 | _=>cases ez
noncomputable def zabb(fx:Addr->Prop)(H0:Hp)(d:PyData)(fr:Bool)(v:V)(H:Hp):Prop:=Rp (Offs fx H) d v/\(fr=true->∃a,v=.ref a/\H0 a=none/\zhf (Offs (λb=>fx b\/b=a) H) H a d)
noncomputable def spD(n:Nat)(g:GF):Sp:=λvs H Q _=>∃(fx:Addr->Prop)(ds:List PyData)(d:PyData)(fr:Bool),ds.length=n/\(∀b,fx b->∃o,H b=some o)/\Rps (Offs fx H) ds vs/\g ds=some (d,fr)/\∀v H',Same H H'->zabb fx H d fr v H'->Q v H'
noncomputable def zbj(n:Nat)(g:GF)(f:AF):EF:=λenv=>(f env).bind λrs=>if rs.length=n then(g (zfn rs)).bind λz=>some ⟨z.1,z.2,bsOf z.1 (bss rs)⟩else none
theorem zbs(ha:SA ta f):SE (tCall (spD n g) [] E0 ta) (zbj n g f):=by
 intro fx H0 env σ H h rr hr Q q
 unfold zbj at hr
 obtain⟨rs,er,hr⟩:=qA.mp hr
 split at hr
 ·rename_i hn
  obtain⟨⟨d,fr⟩,ez,hr⟩:=qA.mp hr
  cases hr
  refine ha fx H0 env σ H h rs er _ λvs H1 s1 v1=>?_
  rw[q9]
  refine⟨lim fx env σ (bss rs),zfn rs,d,fr,by rw[zgl];exact hn,(h.up s1).lims _,zfk (λi hi=>hi) v1,ez,λw H3 s3 ⟨rp,fr3⟩=>q w H3 (s1.trans s3) ⟨zqb rp,λe=>?_⟩⟩
  obtain⟨a,g1,g2,g3⟩:=fr3 e
  refine⟨a,g1,s1.free g2,?_⟩
  have nf:zev d=false:=by cases d<;>first|rfl|exact g3.elim
  show zhf (Offs (λb=>lim fx env σ (bsOf d (bss rs)) b\/b=a) H3) H3 a d
  rw[show bsOf d (bss rs)=bss rs by unfold bsOf;rw[if_neg (by rw[nf];decide)]]
  exact g3
 ·cases hr
inductive Out where
 | nx (env:DEnv)
 | bk (env:DEnv)
 | ct (env:DEnv)
 | rt (d:PyData) (fr:Bool)
noncomputable def Sat(fx:Addr->Prop)(H0:Hp)(D:Ends):Out->Prop
 | .nx env=>∀σ H,EnvOk fx H0 env σ H->D.nx σ H
 | .bk env=>∀σ H,EnvOk fx H0 env σ H->D.bk σ H
 | .ct env=>∀σ H,EnvOk fx H0 env σ H->D.ct σ H
 | .rt d fr=>∀v H,Same H0 H->zabb fx H0 d fr v H->D.rt v H
noncomputable abbrev SF:=DEnv->Option Out
noncomputable def SS(ts:TS)(F:SF):Prop:=∀(fx:Addr->Prop)(H0:Hp)(env:DEnv)(σ:St)(H:Hp)(D:Ends),EnvOk fx H0 env σ H->∀o,F env=some o->Sat fx H0 D o->ts D σ H
noncomputable def frz1(env:DEnv)(i:Nat):DEnv:=match env[i]? with
 | some (.ac d)=>env.set i (.pl d)
 | _=>env
noncomputable def frzs(env:DEnv)(bs:List Nat):DEnv:=bs.foldl frz1 env
theorem zade(env:DEnv)(i:Nat):(frz1 env i).length=env.length:=by
 unfold frz1;split
 ·rw[qw]
 ·rfl
theorem zcm{l:List α}(h:(l.set i x)[j]?=some y):(j=i/\y=x)\/(j≠i/\l[j]?=some y):=by
 rw[List.getElem?_set]at h
 by_cases e:i=j
 ·subst e
  rw[if_pos rfl]at h
  split at h
  ·exact .inl ⟨rfl,(qa h).symm⟩
  ·cases h
 ·rw[if_neg e]at h
  exact .inr ⟨λz=>e z.symm,h⟩
theorem znv(h:(frz1 env i)[j]?=some (.ac d)):env[j]?=some (.ac d)/\j≠i:=by
 unfold frz1 at h
 split at h
 ·rcases zcm h with⟨_,e⟩|⟨e,h⟩
  ·cases e
  ·exact⟨h,e⟩
 ·rename_i hn
  refine⟨h,λe=>?_⟩
  subst e
  exact hn d h
theorem zaqr(h:(frz1 env i)[j]?=some (.pl d)):env[j]?=some (.pl d)\/(j=i/\env[i]?=some (.ac d)):=by
 unfold frz1 at h
 split at h
 ·rename_i d' hd
  rcases zcm h with⟨e1,e⟩|⟨e,h⟩
  ·cases e;exact .inr ⟨e1,hd⟩
  ·exact .inl h
 ·exact .inl h
theorem zalt:∀a,own (frz1 env i) σ a->own env σ a:=by
 rintro a ⟨j,d,h1,h2⟩
 exact⟨j,d,(znv h1).1,h2⟩
theorem EnvOk.frz1{fx:Addr->Prop}(h:EnvOk fx H0 env σ H)(i:Nat):EnvOk fx H0 (frz1 env i) σ H:=by
 have so:Same (Offs (λa=>fx a\/own env σ a) H) (Offs (λa=>fx a\/own (L2.frz1 env i) σ a) H):=Offs.sub λb z=>z.imp (λy=>y) (zalt b)
 refine⟨by rw[zade];exact h.len,λj d e=>?_,λj d e=>?_,λj k d d' a h1 h2 h3 h4=>h.inj j k d d' a (znv h1).1 (znv h2).1 h3 h4,h.base,h.fxs⟩
 ·rcases zaqr e with e|⟨rfl,e⟩
  ·obtain⟨v,h1,h2⟩:=h.pl j d e
   exact⟨v,h1,Rp.same so _ h2⟩
  ·obtain⟨a,h1,h2,h3,h4⟩:=h.ac j d e
   refine⟨_,h1,h4.rp so λo eo=>?_⟩
   rw[Offs.get]
   ·exact eo
   ·rintro(z|⟨k,d',z1,z2⟩)
    ·exact h3 z
    ·obtain⟨z1,z3⟩:=znv z1
     exact z3 (h.inj k j d' d a z1 e z2 h1)
 ·obtain⟨a,h1,h2,h3,h4⟩:=h.ac j d (znv e).1
  exact⟨a,h1,h2,h3,h4.same so λo z=>z⟩
theorem EnvOk.frzs{fx:Addr->Prop}:∀(bs:List Nat){env:DEnv},EnvOk fx H0 env σ H->EnvOk fx H0 (frzs env bs) σ H
 | [],_,h=>h
 | i::bs,_,h=>EnvOk.frzs bs (h.frz1 i)
theorem zahn:∀{bs:List Nat}{env:DEnv}{j:Nat}{d:PyData},(frzs env bs)[j]?=some (.ac d)->env[j]?=some (.ac d)/\j∉bs
 | [],_,_,_,h=>⟨h,by simp⟩
 | i::bs,env,j,d,h=>by
  obtain⟨h1,h2⟩:=zahn (bs:=bs) h
  obtain⟨h3,h4⟩:=znv h1
  exact⟨h3,by simp[h4,h2]⟩
theorem zgz{fx:Addr->Prop}:∀a,fx a\/own (frzs env bs) σ a->lim fx env σ bs a:=by
 rintro a (z|⟨i,d,h1,h2⟩)
 ·exact .inl z
 ·obtain⟨h3,h4⟩:=zahn h1
  exact .inr ⟨i,d,h4,h3,h2⟩
theorem zaho{env:DEnv}{σ:St}:∀a,own (env.set i (.pl d)) (σ.set i (some v)) a->own env σ a:=by
 rintro a ⟨j,e,h1,h2⟩
 rcases zcm h1 with⟨_,z⟩|⟨ne,h1⟩
 ·cases z
 ·rcases zcm h2 with⟨z,_⟩|⟨_,h2⟩
  ·exact absurd z ne
  ·exact⟨j,e,h1,h2⟩
theorem EnvOk.setPl{fx:Addr->Prop}{env:DEnv}{σ:St}(h:EnvOk fx H0 env σ H)(i:Nat)(r:Rp (Offs (λa=>fx a\/own env σ a) H) d v):EnvOk fx H0 (env.set i (.pl d)) (σ.set i (some v)) H:=by
 have so:Same (Offs (λa=>fx a\/own env σ a) H) (Offs (λa=>fx a\/own (env.set i (.pl d)) (σ.set i (some v)) a) H):=Offs.sub λb z=>z.imp (λy=>y) (zaho b)
 have kept:∀{j:Nat},j≠i->(σ.set i (some v))[j]?=σ[j]?:=λ{j} n=>qL λz=>n z.symm
 refine⟨by rw[qw,qw];exact h.len,λj e hj=>?_,λj e hj=>?_,λj k d1 d2 a h1 h2 h3 h4=>?_,h.base,h.fxs⟩
 ·rcases zcm hj with⟨rfl,z⟩|⟨ne,hj'⟩
  ·cases z
   have hl:j<env.length:=by have:=(qM.mp hj).1;rwa [qw]at this
   exact⟨v,by rw[qX (by rw[<- h.len];exact hl)],Rp.same so _ r⟩
  ·obtain⟨u,h1,h2⟩:=h.pl j e hj'
   exact⟨u,by rw[kept ne];exact h1,Rp.same so _ h2⟩
 ·rcases zcm hj with⟨_,z⟩|⟨ne,hj'⟩
  ·cases z
  ·obtain⟨a,h1,h2,h3,h4⟩:=h.ac j e hj'
   exact⟨a,by rw[kept ne];exact h1,h2,h3,h4.same so λo z=>z⟩
 ·rcases zcm h1 with⟨_,z⟩|⟨n1,h1⟩
  ·cases z
  rcases zcm h2 with⟨_,z⟩|⟨n2,h2⟩
  ·cases z
  rw[kept n1]at h3
  rw[kept n2]at h4
  exact h.inj j k d1 d2 a h1 h2 h3 h4
theorem EnvOk.setAc {fx:Addr->Prop} {env:DEnv} {σ:St} (h:EnvOk (λb=>fx b\/b=a) H0 env σ H) (i:Nat) (r:zhf (Offs (λb=>(fx b\/own env σ b)\/b=a) H) H a d) (h0:H0 a=none) (hf:¬fx a) :
  EnvOk fx H0 (env.set i (.ac d)) (σ.set i (some (.ref a))) H:=by
 have kept:∀{j:Nat},j≠i->(σ.set i (some (V.ref a)))[j]?=σ[j]?:=λ{j} n=>qL λz=>n z.symm
 have sub:∀b,fx b\/own (env.set i (.ac d)) (σ.set i (some (.ref a))) b->(fx b\/b=a)\/own env σ b:=by
  rintro b (z|⟨j,e,h1,h2⟩)
  ·exact .inl (.inl z)
  ·rcases zcm h1 with⟨rfl,z⟩|⟨ne,h1⟩
   ·have hl:j<env.length:=by have:=(qM.mp ‹(env.set j (.ac d))[j]?=_›).1;rwa [qw]at this
    rw[qX (by rw[<- h.len];exact hl)]at h2
    cases h2
    exact .inl (.inr rfl)
   ·rw[kept ne]at h2
    exact .inr ⟨j,e,h1,h2⟩
 have so:Same (Offs (λb=>(fx b\/b=a)\/own env σ b) H) (Offs (λb=>fx b\/own (env.set i (.ac d)) (σ.set i (some (.ref a))) b) H):=Offs.sub sub
 have so2:Same (Offs (λb=>(fx b\/own env σ b)\/b=a) H) (Offs (λb=>fx b\/own (env.set i (.ac d)) (σ.set i (some (.ref a))) b) H):=Offs.sub λb z=>by
  rcases sub b z with(y|y)|y
  ·exact .inl (.inl y)
  ·exact .inr y
  ·exact .inl (.inr y)
 refine⟨by rw[qw,qw];exact h.len,λj e hj=>?_,λj e hj=>?_,λj k d1 d2 b h1 h2 h3 h4=>?_,h.base,λb z=>h.fxs b (.inl z)⟩
 ·rcases zcm hj with⟨_,z⟩|⟨ne,hj'⟩
  ·cases z
  ·obtain⟨u,h1,h2⟩:=h.pl j e hj'
   exact⟨u,by rw[kept ne];exact h1,Rp.same so _ h2⟩
 ·rcases zcm hj with⟨rfl,z⟩|⟨ne,hj'⟩
  ·cases z
   have hl:j<env.length:=by have:=(qM.mp hj).1;rwa [qw]at this
   exact⟨a,by rw[qX (by rw[<- h.len];exact hl)],h0,hf,r.same so2 λo z=>z⟩
  ·obtain⟨b,h1,h2,h3,h4⟩:=h.ac j e hj'
   exact⟨b,by rw[kept ne];exact h1,h2,λz=>h3 (.inl z),h4.same so λo z=>z⟩
 ·rcases zcm h1 with⟨e1,z1⟩|⟨n1,h1'⟩<;>rcases zcm h2 with⟨e2,z2⟩|⟨n2,h2'⟩
  ·rw[e1,e2]
  ·subst e1
   have hl:j<env.length:=by have:=(qM.mp h1).1;rwa [qw]at this
   rw[qX (by rw[<- h.len];exact hl)]at h3
   rw[kept n2]at h4
   cases h3
   obtain⟨b,g1,g2,g3,g4⟩:=h.ac k d2 h2'
   rw[h4]at g1
   cases g1
   exact absurd (.inr rfl) g3
  ·subst e2
   have hl:k<env.length:=by have:=(qM.mp h2).1;rwa [qw]at this
   rw[qX (by rw[<- h.len];exact hl)]at h4
   rw[kept n1]at h3
   cases h4
   obtain⟨b,g1,g2,g3,g4⟩:=h.ac j d1 h1'
   rw[h3]at g1
   cases g1
   exact absurd (.inr rfl) g3
  ·rw[kept n1]at h3
   rw[kept n2]at h4
   exact h.inj j k d1 d2 b h1' h2' h3 h4
noncomputable def slOf(r:Val):Sl:=if r.fr=true then .ac r.d else .pl r.d
noncomputable def putV(env:DEnv)(i:Nat)(r:Val):DEnv:=(frzs env r.bs).set i (slOf r)
theorem EnvOk.put{fx:Addr->Prop}{σ:St}(h:EnvOk fx H0 env σ H)(s:Same H H'){r:Val}(hv:ValOk (lim fx env σ r.bs) H H' r v)(i:Nat):EnvOk fx H0 (putV env i r) (σ.set i (some v)) H':=by
 unfold putV slOf
 cases e:r.fr with
 | false=>
  rw[if_neg qP]
  exact((h.up s).frzs r.bs).setPl i (Rp.same (Offs.sub zgz) _ hv.rp)
 | true=>
  rw[if_pos rfl]
  obtain⟨a,rfl,ha,hacc⟩:=hv.fr e
  have nfx:¬fx a:=zeq h.fxs ha
  have g:EnvOk (λb=>fx b\/b=a) H0 env σ H':=h.grow s (λb o eo n z=>z.elim n λy=>by rw[y,ha]at eo;cases eo) λb z=>by
   rcases z with z|z
   ·obtain⟨o,eo⟩:=h.fxs b z;exact⟨o,s b o eo⟩
   ·rw[z];exact hacc.ex
  refine(g.frzs r.bs).setAc i (hacc.same (Offs.sub λb z=>?_) λo z=>z) (h.base.free ha) nfx
  rcases z with z|z
  ·exact .inl (zgz b z)
  ·exact .inr z
noncomputable def sNil:SF:=λenv=>some (.nx env)
noncomputable def sSeq(f g:SF):SF:=λenv=>(f env).bind λo=>match o with
 | .nx env'=>g env'
 | o=>some o
theorem zey:SS tNext sNil:=by
 intro fx H0 env σ H D h o e q
 cases e
 exact q σ H h
theorem zay(h1:SS t f)(h2:SS u g):SS (tSeq t u) (sSeq f g):=by
 intro fx H0 env σ H D h o e q
 unfold sSeq at e
 obtain⟨o1,e1,e⟩:=qA.mp e
 refine h1 fx H0 env σ H _ h o1 e1 ?_
 cases o1 with
 | nx env'=>exact λσ' H' h'=>h2 fx H0 env' σ' H' D h' o e q
 | bk env'=>cases e;exact q
 | ct env'=>cases e;exact q
 | rt d fr=>cases e;exact q
noncomputable def zahp:SF:=λ_=>none
theorem zalu:SS tNever zahp:=by
 intro fx H0 env σ H D h o e q
 cases e
noncomputable def zlr(f:EF):SF:=λenv=>(f env).map λ_=>.nx env
theorem zls(h1:SE te f):SS (tDrop te) (zlr f):=by
 intro fx H0 env σ H D h o e q
 unfold zlr at e
 obtain⟨r,er,rfl⟩:=qG.mp e
 exact h1 fx H0 env σ H h r er _ λv H' s _=>q σ H' (h.up s)
noncomputable def sRet(f:EF):SF:=λenv=>(f env).map λr=>.rt r.d r.fr
theorem zdz(h1:SE te f):SS (tRet te) (sRet f):=by
 intro fx H0 env σ H D h o e q
 unfold sRet at e
 obtain⟨r,er,rfl⟩:=qG.mp e
 refine h1 fx H0 env σ H h r er _ λv H' s hv=>q v H' (h.base.trans s) ⟨Rp.same (Offs.sub λb z=>.inl z) _ hv.rp,λz=>?_⟩
 obtain⟨a,g1,g2,g3⟩:=hv.fr z
 exact⟨a,g1,h.base.free g2,g3.same (Offs.sub λb y=>y.imp .inl id) λo z=>z⟩
noncomputable def zqg(i:Nat):SF:=λenv=>match env[i]? with
 | some (.pl d)=>some (.rt d false)
 | some (.ac d)=>some (.rt d true)
 | _=>none
theorem zjy:SS (tRet (tVar i)) (zqg i):=by
 intro fx H0 env σ H D h o e q
 unfold zqg at e
 cases ei:env[i]? with
 | none=>rw[ei]at e;cases e
 | some sl=>
  rw[ei]at e
  cases sl with
  | no=>cases e
  | pl d=>
   cases e
   obtain⟨v,h1,h2⟩:=h.pl i d ei
   exact⟨v,h1,q v H h.base ⟨Rp.same (Offs.sub λb z=>.inl z) _ h2,λz=>by cases z⟩⟩
  | ac d=>
   cases e
   obtain⟨a,h1,h2,h3,h4⟩:=h.ac i d ei
   refine⟨_,h1,q _ H h.base ⟨h4.rp (Offs.sub λb z=>.inl z) λo eo=>by rw[Offs.get h3];exact eo,λ_=>⟨a,rfl,h2,h4.same (Offs.sub λb z=>?_) λo z=>z⟩⟩⟩
   rcases z with z|z
   ·exact .inl z
   ·rw[z];exact .inr ⟨i,d,ei,h1⟩
noncomputable def sIf(c:TF)(f g:SF):SF:=λenv=>(c env).bind λb=>if b=true then f env else g env
theorem zjm(hc:ST tc c)(h1:SS t f)(h2:SS u g):SS (tIfS tc t u) (sIf c f g):=by
 intro fx H0 env σ H D h o e q
 unfold sIf at e
 obtain⟨b,eb,e⟩:=qA.mp e
 refine hc fx H0 env σ H h b eb _ λH' s=>?_
 cases b with
 | true=>exact iteT (h1 fx H0 env σ H' D (h.up s) o e q)
 | false=>exact iteF (h2 fx H0 env σ H' D (h.up s) o e q)
noncomputable def sSet(i:Nat)(f:EF):SF:=λenv=>(f env).map λr=>.nx (putV env i r)
theorem zbp(h1:SE te f):SS (tAsg te (gName i)) (sSet i f):=by
 intro fx H0 env σ H D h o e q
 unfold sSet at e
 obtain⟨r,er,rfl⟩:=qG.mp e
 exact h1 fx H0 env σ H h r er _ λv H' s hv=>q _ H' (h.put s hv i)
noncomputable abbrev GT:=PyData->DEnv->Option DEnv
noncomputable def SG(g:TG)(f:GT):Prop:=∀(fx:Addr->Prop)(H0:Hp)(env:DEnv)(σ:St)(H:Hp)(d:PyData)(v:V),EnvOk fx H0 env σ H->Rp (Offs (λa=>fx a\/own env σ a) H) d v->∀env',f d env=some env'->∀Q:St->Hp->Prop,
 (∀σ',EnvOk fx H0 env' σ' H->Q σ' H)->g v σ H Q
noncomputable abbrev GTs:=List PyData->DEnv->Option DEnv
noncomputable def SGs(g:TGs)(f:GTs):Prop:=∀(fx:Addr->Prop)(H0:Hp)(env:DEnv)(σ:St)(H:Hp)(ds:List PyData)(vs:List V),EnvOk fx H0 env σ H->Rps (Offs (λa=>fx a\/own env σ a) H) ds vs->∀env',f ds env=some env'->∀Q:St->Hp->Prop,
 (∀σ',EnvOk fx H0 env' σ' H->Q σ' H)->g vs σ H Q
noncomputable def gN(i:Nat):GT:=λd env=>some (env.set i (.pl d))
theorem zei:SG (gName i) (gN i):=by
 intro fx H0 env σ H d v h r env' e Q q
 cases e
 exact q _ (h.setPl i r)
noncomputable def zqh:GTs:=λds env=>match ds with|[]=>some env|_=>none
noncomputable def zej(i:Nat)(g:GTs):GTs:=λds env=>match ds with|d::r=>g r (env.set i (.pl d))|[]=>none
theorem zvd:SGs gNil zqh:=by
 intro fx H0 env σ H ds vs h r env' e Q q
 cases ds with
 | nil=>cases e;unfold Rps at r;exact⟨r,q _ h⟩
 | cons _ _=>cases e
theorem zha(h1:SGs t g):SGs (gCons (gName i) t) (zej i g):=by
 intro fx H0 env σ H ds vs h r env' e Q q
 cases ds with
 | nil=>cases e
 | cons d ds=>
  unfold Rps at r
  obtain⟨v,ws,rfl,r1,r2⟩:=r
  refine⟨v,ws,rfl,h1 fx H0 (env.set i (.pl d)) _ H ds ws (h.setPl i r1) (Rps.same (Offs.sub λb z=>z.imp (λy=>y) (zaho b)) _ r2) env' e Q q⟩
noncomputable def gT(n:Nat)(g:GTs):GT:=λd env=>match d with|.tuple ds=>if ds.length=n then g ds env else none|_=>none
theorem zadf{K:qB}{n:Nat}{t:TGs}{g:GTs}(h1:SGs t g):SG (gTup K n t) (gT n g):=by
 intro fx H0 env σ H d v h r env' e Q q
 unfold gT at e
 cases d with
 | tuple ds=>
  have e:(if ds.length=n then g ds env else none)=some env':=e
  split at e
  ·rename_i hn
   obtain⟨a,xs,rfl,ha,rs⟩:=zdg r
   exact⟨a,xs,rfl,SqT.of (zcz ha),by rw[<- rs.length];exact hn,h1 fx H0 env σ H ds xs h rs env' e Q q⟩
  ·cases e
 | _=>cases e
theorem EnvOk.mut{fx:Addr->Prop}{env:DEnv}(h:EnvOk fx H0 env σ H)(e:env[i]?=some (.ac d))(ea:σ[i]?=some (some (.ref a)))
  (r:zhf (Offs (λb=>fx b\/own env σ b) H) (upd H a o) a d'):EnvOk fx H0 (env.set i (.ac d')) σ (upd H a o):=by
 have hl:i<env.length:=(qM.mp e).1
 have oa:own env σ a:=⟨i,d,e,ea⟩
 have ow:∀b,own (env.set i (.ac d')) σ b↔own env σ b:=by
  intro b
  constructor
  ·rintro⟨j,d1,h1,h2⟩
   rcases zcm h1 with⟨rfl,z⟩|⟨ne,h1⟩
   ·exact⟨j,d,e,h2⟩
   ·exact⟨j,d1,h1,h2⟩
  ·rintro⟨j,d1,h1,h2⟩
   by_cases hj:j=i
   ·subst hj;exact⟨j,d',by rw[qX hl],h2⟩
   ·exact⟨j,d1,by rw[qL λz=>hj z.symm];exact h1,h2⟩
 have so:Same (Offs (λb=>fx b\/own env σ b) H) (Offs (λb=>fx b\/own (env.set i (.ac d')) σ b) (upd H a o)):=by
  have:Same (Offs (λb=>fx b\/own env σ b) (upd H a o)) (Offs (λb=>fx b\/own (env.set i (.ac d')) σ b) (upd H a o)):=Offs.sub λb z=>z.imp (λy=>y) (ow b).mp
  rw[Offs.upd (.inr oa)]at this
  exact this
 obtain⟨a',g1,g2,g3,g4⟩:=h.ac i d e
 rw[ea]at g1
 cases g1
 refine⟨by rw[qw];exact h.len,λj d1 hj=>?_,λj d1 hj=>?_,λj k d1 d2 b h1 h2 h3 h4=>?_,λb u eb=>by rw[zap (zax eb g2)];exact h.base b u eb,λb z=>?_⟩
 ·rcases zcm hj with⟨_,z⟩|⟨ne,hj'⟩
  ·cases z
  ·obtain⟨u,h1,h2⟩:=h.pl j d1 hj'
   exact⟨u,h1,Rp.same so _ h2⟩
 ·rcases zcm hj with⟨rfl,z⟩|⟨ne,hj'⟩
  ·cases z
   exact⟨a,ea,g2,g3,r.same so λo z=>z⟩
  ·obtain⟨b,h1,h2,h3,h4⟩:=h.ac j d1 hj'
   refine⟨b,h1,h2,h3,h4.same so λo' z=>?_⟩
   rw[zap λy=>ne (h.inj j i d1 d a hj' e (by rw[<- y];exact h1) ea)]
   exact z
 ·have f:∀{j:Nat}{d1:PyData},(env.set i (.ac d'))[j]?=some (.ac d1)->∃d2,env[j]?=some (.ac d2):=λ{j d1} hj=>by
   rcases zcm hj with⟨rfl,z⟩|⟨ne,hj'⟩
   ·exact⟨d,e⟩
   ·exact⟨d1,hj'⟩
  obtain⟨e1,h1⟩:=f h1
  obtain⟨e2,h2⟩:=f h2
  exact h.inj j k e1 e2 b h1 h2 h3 h4
 ·obtain⟨u,eu⟩:=h.fxs b z
  exact⟨u,by rw[zap λy=>g3 (by rw[<- y];exact z)];exact eu⟩
noncomputable def sApp(i:Nat)(f:EF):SF:=λenv=>match env[i]? with
 | some (.ac (.list ds))=>(f env).bind λr=>if ds.length<100000/\i∉r.bs then some (.nx ((frzs env r.bs).set i (.ac (.list (ds++[r.d])))))else none
 | _=>none
theorem zkv:∀{bs:List Nat},i∉bs->env[i]?=some (.ac d)->(frzs env bs)[i]?=some (.ac d):=by
 intro bs
 induction bs generalizing env with
 | nil=>intro _ e;exact e
 | cons j bs ih=>
  intro hn e
  have hj:i≠j:=λz=>hn (by simp[z])
  refine ih (λz=>hn (qN _ z)) ?_
  unfold frz1
  split
  ·rw[qL λz=>hj z.symm];exact e
  ·exact e
theorem zxu{K:qB}{i:Nat}{te:TE}{f:EF}(h1:SE te f):SS (tDrop (tBM K "list" zuw (tVar i) (tCons te tNil))) (sApp i f):=by
 intro fx H0 env σ H D h o e q
 unfold sApp at e
 split at e
 ·rename_i ds ei
  obtain⟨r,er,e⟩:=qA.mp e
  split at e
  ·rename_i hl
   cases e
   obtain⟨a,g1,g2,g3,g4⟩:=h.ac i _ ei
   obtain⟨xs,hx,rx⟩:=g4
   refine⟨_,g1,.inl ⟨rfl,_,SqL.of hx⟩,h1 fx H0 env σ H h r er _ λv H' s hv=>?_⟩
   have h':=(h.up s).frzs r.bs
   have ei':=zkv hl.2 ei
   have hx':=s _ _ hx
   have rx':Rps (Offs (λb=>fx b\/own (frzs env r.bs) σ b) H') ds xs:=by
    obtain⟨a',z1,_,_,z4⟩:=h'.ac i _ ei'
    rw[g1]at z1
    cases z1
    obtain⟨ys,y1,y2⟩:=z4
    rw[hx']at y1
    cases y1
    exact y2
   refine⟨a,xs,v,rfl,rfl,hx',zlm (by rw[<- rx.length];exact hl.1),?_⟩
   refine q σ _ (h'.mut ei' g1 ⟨_,zam,rx'.append (zcx (Rp.same (Offs.sub zgz) _ hv.rp) zeb)⟩)
  ·cases e
 ·cases e
noncomputable def sPut(i:Nat)(fk fv:EF):SF:=λenv=>match env[i]? with
 | some (.ac (.dict kvs))=>(fv env).bind λr=>(fk env).bind λk=>(keyD k.d).bind λ_=>if kvs.length<100000/\i∉r.bs then some (.nx ((frzs env r.bs).set i (.ac (.dict (zse kvs k.d r.d)))))else none
 | _=>none
theorem zavb(h1:SE tk fk)(h2:SE tv fv):SS (sDPut (tVar i) tk tv) (sPut i fk fv):=by
 intro fx H0 env σ H D h o e q
 unfold sPut at e
 split at e
 ·rename_i kvs ei
  obtain⟨r,er,e⟩:=qA.mp e
  obtain⟨k,ek,e⟩:=qA.mp e
  obtain⟨kk,ekk,e⟩:=qA.mp e
  split at e
  ·rename_i hl
   cases e
   obtain⟨a,g1,g2,g3,g4⟩:=h.ac i _ ei
   obtain⟨ps,hx,rx⟩:=g4
   refine h2 fx H0 env σ H h r er _ λv H' s hv=>⟨_,g1,h1 fx H0 env σ H' (h.up s) k ek _ λu H2 s2 hk=>?_⟩
   have t2:=s.trans s2
   have h':=(h.up t2).frzs r.bs
   have ei':=zkv hl.2 ei
   have hx':=t2 _ _ hx
   have rx':Rpd (Offs (λb=>fx b\/own (frzs env r.bs) σ b) H2) kvs ps:=by
    obtain⟨a',z1,_,_,z4⟩:=h'.ac i _ ei'
    rw[g1]at z1
    cases z1
    obtain⟨ys,y1,y2⟩:=z4
    rw[hx']at y1
    cases y1
    exact y2
   rw[zaax hk.rp ekk]
   refine⟨a,_,rfl,DPut.k hx' (zlm (by rw[<- rx.length];exact hl.1)),?_⟩
   refine q σ _ (h'.mut ei' g1 ⟨_,zam,rx'.put ekk (Rp.same (Offs.sub zgz) _ (hv.later (Same.refl _) s2 λ_ z=>z).rp)⟩)
  ·cases e
 ·cases e
noncomputable def sUpd(i:Nat)(f:EF):SF:=λenv=>match env[i]? with
 | some (.ac (.dict kvs))=>(f env).bind λr=>match r.d with
  | .dict more=>if kvs.length+more.length<=100000/\i∉r.bs then some (.nx ((frzs env r.bs).set i (.ac (.dict (zhg kvs more)))))else none
  | _=>none
 | _=>none
theorem zaoj{K:qB}{i:Nat}{te:TE}{f:EF}(h1:SE te f):SS (tDrop (tBM K "dict" zagt (tVar i) (tCons te tNil))) (sUpd i f):=by
 intro fx H0 env σ H D h o e q
 unfold sUpd at e
 split at e
 ·rename_i kvs ei
  obtain⟨⟨rd,rfr,rbs⟩,er,e⟩:=qA.mp e
  cases rd with
  | dict more=>
   have e:(if kvs.length+more.length<=100000/\i∉rbs then some (Out.nx ((frzs env rbs).set i (.ac (.dict (zhg kvs more)))))else none)=some o:=e
   split at e
   ·rename_i hl
    cases e
    obtain⟨a,g1,g2,g3,g4⟩:=h.ac i _ ei
    obtain⟨ps,hx,rx⟩:=g4
    refine⟨_,g1,.inr (.inr (.inl ⟨rfl,.inl ⟨_,hx⟩⟩)),h1 fx H0 env σ H h _ er _ λv H' s hv=>?_⟩
    have h':=(h.up s).frzs rbs
    have ei':=zkv hl.2 ei
    have hx':=s _ _ hx
    have rx':Rpd (Offs (λb=>fx b\/own (frzs env rbs) σ b) H') kvs ps:=by
     obtain⟨a',z1,_,_,z4⟩:=h'.ac i _ ei'
     rw[g1]at z1
     cases z1
     obtain⟨ys,y1,y2⟩:=z4
     rw[hx']at y1
     cases y1
     exact y2
    obtain⟨b,qs,rfl,hb,rb⟩:=zil (Rp.same (Offs.sub zgz) _ hv.rp)
    have hab:a≠b:=λz=>by
     subst z
     exact(Offs.of hb).1 (.inr ⟨i,_,ei',g1⟩)
    refine⟨a,b,ps,qs,rfl,rfl,hab,hx',zcz hb,zfs (by rw[<- rx.length,<- rb.length];exact hl.1),?_⟩
    exact q σ _ (h'.mut ei' g1 ⟨_,zam,rx'.merge rb⟩)
   ·cases e
  | _=>cases e
 ·cases e
theorem EnvOk.rebase{fx:Addr->Prop}(h:EnvOk fx H0 env σ H):EnvOk fx (Offs (own env σ) H) env σ H:=by
 refine⟨h.len,h.pl,λi d e=>?_,h.inj,Offs.same _ _,h.fxs⟩
 obtain⟨a,h1,h2,h3,h4⟩:=h.ac i d e
 exact⟨a,h1,Offs.out ⟨i,d,e,h1⟩,h3,h4⟩
theorem EnvOk.floor{fx:Addr->Prop}(h:EnvOk fx H0 env σ H):Same H0 (Offs (own env σ) H):=λb o e=>by
 rw[Offs.get]
 ·exact h.base b o e
 ·rintro⟨i,d,h1,h2⟩
  obtain⟨a,g1,g2,_⟩:=h.ac i d h1
  rw[h2]at g1
  cases g1
  rw[g2]at e
  cases e
theorem EnvOk.unbase{fx:Addr->Prop}(h:EnvOk fx F env σ H)(s:Same H0 F):EnvOk fx H0 env σ H:=by
 refine⟨h.len,h.pl,λi d e=>?_,h.inj,s.trans h.base,h.fxs⟩
 obtain⟨a,h1,h2,h3,h4⟩:=h.ac i d e
 exact⟨a,h1,s.free h2,h3,h4⟩
theorem zabb.unbase{fx:Addr->Prop}(h:zabb fx F d fr v H)(s:Same H0 F):zabb fx H0 d fr v H:=
 ⟨h.1,λe=>let⟨a,h1,h2,h3⟩:=h.2 e;⟨a,h1,s.free h2,h3⟩⟩
theorem EnvOk.seen{fx:Addr->Prop}(h:EnvOk fx (Offs (own env σ) H) env' σ' H'):Same (Offs (λb=>fx b\/own env σ b) H) (Offs (λb=>fx b\/own env' σ' b) H'):=λb o e=>by
 obtain⟨h1,h2⟩:=Offs.of e
 have hF:Offs (own env σ) H b=some o:=by rw[Offs.get λz=>h1 (.inr z)];exact h2
 rw[Offs.get]
 ·exact h.base b o hF
 ·rintro(z|⟨i,d,g1,g2⟩)
  ·exact h1 (.inl z)
  ·obtain⟨a,k1,k2,_⟩:=h.ac i d g1
   rw[g2]at k1
   cases k1
   rw[k2]at hF
   cases hF
theorem EnvOk.all{fx:Addr->Prop}(h:EnvOk fx H0 env σ H):∀b,fx b\/own env σ b->∃o,H b=some o:=λb z=>h.lims [] b (zaqj b z)
noncomputable def Yl(A0:Addr->Prop)(H1:Hp)(J:It)(ds:List PyData):Prop:=∀(A:Addr->Prop)(H':Hp),(∀b,A b->∃o,H' b=some o)->Same (Offs A0 H1) (Offs A H')->
 (∀i d,ds[i]?=some d->J.go i H'/\∀x H'',J.yld i H' x H''->Same H' H''/\Rp (Offs A H'') d x)/\J.stop ds.length H'
noncomputable abbrev IF':=DEnv->Option (List PyData×List Nat)
noncomputable def SI(wi:TI)(f:IF'):Prop:=∀(fx:Addr->Prop)(H0:Hp)(env:DEnv)(σ:St)(H:Hp),EnvOk fx H0 env σ H->∀ds bs,f env=some (ds,bs)->∀R:It->Hp->Prop,
 (∀J H1,Same H H1->Yl (λb=>fx b\/own (frzs env bs) σ b) H1 J ds->R J H1)->wi σ H R
noncomputable def iSeq(K:qB)(te:TE):TI:=λσ H R=>te σ H λx H1=>∃a,x=.ref a/\((∃xs,SqL K H1 a xs)/\R (Itl K a) H1\/(∃xs,SqT K H1 a xs)/\R (Itt K a) H1)
theorem zavc{X:Cx}(hl:PE X l tl):PI X tg l (iSeq X.K tl):=by
 intro pins s σ H R I h
 refine thn (hl pins s σ H _ I h) λv s1 ⟨x,H1,I1,r1,q1⟩=>?_
 obtain⟨a,e,q⟩:=q1
 subst e
 cases r1
 rcases q with⟨⟨xs,hq⟩,q⟩|⟨⟨xs,hq⟩,q⟩
 ·obtain⟨its,rv,p,hz⟩:=I1.list hq
  refine qBU p.isList ?_
  refine⟨s1.heap.objs.size,[s1.heap.objs.size],_,_,H1,rfl,I1.kept (t':=s1.toks) λb o e=>qF _ e,zwt a _,⟨_,qd _ rfl,rfl,rfl⟩,λb hb=>?_,q⟩
  have e:b=s1.heap.objs.size:=by simpa using hb
  subst e
  exact I1.fpOk (qQ _) (I1.hok.fresh (qQ _))
 ·obtain⟨its,rv,p,hz⟩:=I1.tuple hq
  refine qBn (show s1.heap.IsTuple a its.toArray from p) ?_
  refine⟨s1.heap.objs.size,[s1.heap.objs.size],_,_,H1,rfl,I1.kept (t':=s1.toks) λb o e=>qF _ e,zaed a _,⟨_,qd _ rfl,rfl,rfl⟩,λb hb=>?_,q⟩
  have e:b=s1.heap.objs.size:=by simpa using hb
  subst e
  exact I1.fpOk (qQ _) (I1.hok.fresh (qQ _))
theorem zaqs{X:Cx}{K:qB}(hK:X.K=K){tg l:Expr}{tl:TE}(hl:PE X l tl):PI X tg l (iSeq K tl):=by subst hK;exact zavc hl
noncomputable def zbv(f:EF):IF':=λenv=>(f env).bind λr=>(zld r.d).map λds=>(ds,r.bs)
theorem zaqt{K:qB}{A0:Addr->Prop}{H1:Hp}{a:Addr}{ds:List PyData}{xs:List V}(h:Offs A0 H1 a=some (.lst xs))(r:Rps (Offs A0 H1) ds xs):Yl A0 H1 (Itl K a) ds:=by
 intro A H' hA s
 have ha:=zcz (s _ _ h)
 have r':=Rps.same s _ r
 refine⟨λi d e=>?_,⟨xs,SqL.of ha,by rw[r.length];exact qQ _⟩⟩
 obtain⟨v,hv,rv⟩:=r'.get2 e
 refine⟨⟨xs,v,SqL.of ha,hv⟩,λx H'' y=>?_⟩
 obtain⟨rfl,y⟩:=y
 have:=y xs (SqL.of ha)
 rw[hv]at this
 cases this
 exact⟨Same.refl _,rv⟩
theorem zavd{K:qB}{A0:Addr->Prop}{H1:Hp}{a:Addr}{ds:List PyData}{xs:List V}(h:Offs A0 H1 a=some (.tup xs))(r:Rps (Offs A0 H1) ds xs):Yl A0 H1 (Itt K a) ds:=by
 intro A H' hA s
 have ha:=zcz (s _ _ h)
 have r':=Rps.same s _ r
 refine⟨λi d e=>?_,⟨xs,SqT.of ha,by rw[r.length];exact qQ _⟩⟩
 obtain⟨v,hv,rv⟩:=r'.get2 e
 refine⟨⟨xs,v,SqT.of ha,hv⟩,λx H'' y=>?_⟩
 obtain⟨rfl,y⟩:=y
 have:=y xs (SqT.of ha)
 rw[hv]at this
 cases this
 exact⟨Same.refl _,rv⟩
theorem zhb{K:qB}{te:TE}{f:EF}(h1:SE te f):SI (iSeq K te) (zbv f):=by
 intro fx H0 env σ H h ds bs e R q
 unfold zbv at e
 obtain⟨⟨d,fr,bs'⟩,er,e⟩:=qA.mp e
 obtain⟨es,he,e⟩:=qG.mp e
 cases e
 refine h1 fx H0 env σ H h _ er _ λv H1 s hv=>?_
 have rp:=Rp.same (Offs.sub (zgz (bs:=bs'))) _ hv.rp
 cases d with
 | list ds=>
  cases he
  obtain⟨a,xs,rfl,ha,r⟩:=zdq rp
  exact⟨a,rfl,.inl ⟨⟨xs,SqL.of (zcz ha)⟩,q _ H1 s (zaqt ha r)⟩⟩
 | tuple ds=>
  cases he
  obtain⟨a,xs,rfl,ha,r⟩:=zdg rp
  exact⟨a,rfl,.inr ⟨⟨xs,SqT.of (zcz ha)⟩,q _ H1 s (zavd ha r)⟩⟩
 | _=>cases he
noncomputable def zabc(ds:List PyData):List PyData:=ds.zipIdx.map λp=>.tuple [.int p.2,p.1]
noncomputable def zadg(f:AF):IF':=λenv=>(f env).bind λrs=>match rs with
 | [r]=>match r.d with
  | .list ds=>some (zabc ds,r.bs)
  | _=>none
 | _=>none
noncomputable def zjz(lo:Int)(n:Nat):List PyData:=(List.range n).map λ(k:Nat)=>.int (lo+(k:Int))
theorem zadh{A0:Addr->Prop}{H1:Hp}{lo:Int}{n:Nat}:Yl A0 H1 (Itr lo n) (zjz lo n):=by
 intro A H' hA s
 have hl:(zjz lo n).length=n:=by unfold zjz;simp
 refine⟨λi d e=>?_,by rw[hl];exact qQ _⟩
 unfold zjz at e
 rw[qS]at e
 by_cases hi:i<n
 ·rw[qDL hi]at e
  cases e
  exact⟨hi,λx H'' ⟨e1,e2⟩=>by subst e1;subst e2;exact⟨Same.refl _,zai⟩⟩
 ·rw[qBR (by simpa using hi)]at e
  cases e
noncomputable def zgn(f:AF):IF':=λenv=>(f env).bind λrs=>match rs with
 | [⟨.int j,_,_⟩]=>if -(2 ^ 62)<=j/\j<2 ^ 62 then some (zjz 0 j.toNat,[])else none
 | _=>none
theorem zqi(h1:SA ta f):SI (iRng1 ta) (zgn f):=by
 intro fx H0 env σ H h ds bs e R q
 unfold zgn at e
 obtain⟨rs,er,e⟩:=qA.mp e
 split at e
 ·split at e
  ·rename_i hj
   cases e
   refine h1 fx H0 env σ H h _ er _ λvs H1 s hv=>?_
   cases hv with
   | cons hv t=>
    cases t
    cases zdm hv.rp
    exact⟨_,rfl,hj.1,hj.2,q _ H1 s zadh⟩
  ·cases e
 ·cases e
noncomputable def znw(f:AF):IF':=λenv=>(f env).bind λrs=>match rs with
 | [⟨.int i,_,_⟩,⟨.int j,_,_⟩]=>if -(2 ^ 62)<=i/\i<2 ^ 62/\-(2 ^ 62)<=j/\j<2 ^ 62 then some (zjz i (j - i).toNat,[])else none
 | _=>none
theorem zahq(h1:SA ta f):SI (iRng2 ta) (znw f):=by
 intro fx H0 env σ H h ds bs e R q
 unfold znw at e
 obtain⟨rs,er,e⟩:=qA.mp e
 split at e
 ·split at e
  ·rename_i hj
   cases e
   refine h1 fx H0 env σ H h _ er _ λvs H1 s hv=>?_
   cases hv with
   | cons hv t=>
    cases t with
    | cons hv2 t=>
     cases t
     cases zdm hv.rp
     cases zdm hv2.rp
     exact⟨_,_,rfl,hj,q _ H1 s zadh⟩
  ·cases e
 ·cases e
noncomputable def forL(g:GT)(body:SF):List PyData->DEnv->Option Out
 | [],env=>some (.nx env)
 | d::ds,env=>(g d env).bind λe1=>(body e1).bind λo=>match o with
  | .nx e2=>forL g body ds e2
  | .ct e2=>forL g body ds e2
  | .bk e2=>some (.nx e2)
  | .rt d fr=>some (.rt d fr)
noncomputable def sFor(f:IF')(g:GT)(body:SF):SF:=λenv=>(f env).bind λz=>forL g body z.1 (frzs env z.2)
theorem zmi(h1:SI wi f)(h2:SG g gf)(h3:SS tb body):SS (tFor wi g tb) (sFor f gf body):=by
 intro fx H0 env σ H D h o e q
 unfold sFor at e
 obtain⟨⟨ds,bs⟩,er,e⟩:=qA.mp e
 refine h1 fx H0 env σ H h ds bs er _ λJ H1 s yl=>?_
 have hE:=(h.up s).frzs bs
 have fl:=hE.floor
 refine⟨λi m σ' H'=>m=ds.length - i/\i<=ds.length/\∃env',forL gf body (ds.drop i) env'=some o/\EnvOk fx (Offs (own (frzs env bs) σ) H1) env' σ' H',⟨ds.length,rfl,qAK _,_,e,hE.rebase⟩,?_⟩
 rintro i m σ' H' ⟨rfl,hi,env',e',h'⟩
 obtain⟨yi,ys⟩:=yl _ H' h'.all h'.seen
 by_cases hlt:i<ds.length
 ·obtain⟨yg,yy⟩:=yi i ds[i] (qK hlt)
  refine .inr ⟨yg,λσ'' H''=>i+1<=ds.length/\∃env'',forL gf body (ds.drop (i+1)) env''=some o/\EnvOk fx (Offs (own (frzs env bs) σ) H1) env'' σ'' H'',?_,?_⟩
  ·rintro σ'' H'' ⟨hle,env'',e'',h''⟩
   exact⟨ds.length - (i+1),by omega,rfl,hle,env'',e'',h''⟩
  ·intro x H'' hy
   obtain⟨sy,ry⟩:=yy x H'' hy
   rw[qAI hlt]at e'
   obtain⟨e1,ee1,e'⟩:=qA.mp e'
   obtain⟨o1,eo1,e'⟩:=qA.mp e'
   refine h2 fx _ env' σ' H'' _ x (h'.up sy) ry e1 ee1 _ λσ2 h2'=>h3 fx _ e1 σ2 H'' _ h2' o1 eo1 ?_
   cases o1 with
   | nx e2=>exact λσ3 H3 hh=>⟨hlt,e2,e',hh⟩
   | ct e2=>exact λσ3 H3 hh=>⟨hlt,e2,e',hh⟩
   | bk e2=>cases e';exact λσ3 H3 hh=>q σ3 H3 (hh.unbase fl)
   | rt d fr=>cases e';exact λv H3 sh rt=>q v H3 (fl.trans sh) (rt.unbase fl)
 ·have hi':i=ds.length:=by omega
  subst hi'
  rw[qBT]at e'
  cases e'
  exact .inl ⟨ys,q σ' H' (h'.unbase fl)⟩
noncomputable def zka(c:TF)(body:SF):Nat->DEnv->Option Out
 | 0,_=>none
 | n+1,env=>(c env).bind λb=>if b=true then(body env).bind λo=>match o with
  | .nx e2=>zka c body n e2
  | .ct e2=>zka c body n e2
  | .bk e2=>some (.nx e2)
  | .rt d fr=>some (.rt d fr)
  else some (.nx env)
theorem zalv(n:Nat)(h1:ST tc c)(h2:SS tb body):SS (tWhile tc tb) (zka c body n):=by
 intro fx H0 env σ H D h o e q
 refine⟨λm σ' H'=>∃env',zka c body m env'=some o/\EnvOk fx H0 env' σ' H',⟨n,env,e,h⟩,?_⟩
 rintro m σ' H' ⟨env',e',h'⟩
 cases m with
 | zero=>cases e'
 | succ m=>
  obtain⟨b,eb,e'⟩:=qA.mp e'
  refine h1 fx H0 env' σ' H' h' b eb _ λH1 s1=>?_
  cases b with
  | false=>cases e';exact iteF (q σ' H1 (h'.up s1))
  | true=>
   have e':((body env').bind λo=>match o with
    | .nx e2=>zka c body m e2
    | .ct e2=>zka c body m e2
    | .bk e2=>some (.nx e2)
    | .rt d fr=>some (.rt d fr))=some o:=e'
   obtain⟨o1,eo1,e'⟩:=qA.mp e'
   refine iteT ⟨λσ'' H''=>∃env'',zka c body m env''=some o/\EnvOk fx H0 env'' σ'' H'',λσ'' H'' hh=>⟨m,qCQ _,hh⟩,?_⟩
   refine h2 fx H0 env' σ' H1 _ (h'.up s1) o1 eo1 ?_
   cases o1 with
   | nx e2=>exact λσ3 H3 hh=>⟨e2,e',hh⟩
   | ct e2=>exact λσ3 H3 hh=>⟨e2,e',hh⟩
   | bk e2=>cases e';exact λσ3 H3 hh=>q σ3 H3 hh
   | rt d fr=>cases e';exact λv H3 sh rt=>q v H3 sh rt
noncomputable def zcn(n:Nat)(ds:List PyData):DEnv:=ds.map .pl++List.replicate (n - ds.length) .no
noncomputable def fnD(n:Nat)(f:SF):GF:=λds=>match f (zcn n ds)with
 | some (.rt d fr)=>some (d,fr)
 | some (.nx _)=>some (.none,false)
 | _=>none
theorem zxv{ds:List PyData}{n i:Nat}{sl:Sl}(e:(zcn n ds)[i]?=some sl):(∃d,ds[i]?=some d/\sl=.pl d)\/sl=.no:=by
 unfold zcn at e
 by_cases hi:i<ds.length
 ·rw[qm (by simpa using hi),qS,qK hi]at e
  cases e
  exact .inl ⟨_,qK hi,rfl⟩
 ·rw[qb (by simpa using hi),qAF]at e
  split at e
  ·cases e;exact .inr rfl
  ·cases e
theorem zfo{fx:Addr->Prop}{H:Hp}{N:List Str}{ds:List PyData}{vs:List V}(hf:∀b,fx b->∃o,H b=some o)(r:Rps (Offs fx H) ds vs):EnvOk fx H (zcn N.length ds) (zcg N vs) H:=by
 have no:∀(i:Nat)(d:PyData),(zcn N.length ds)[i]?≠some (Sl.ac d):=λi d e=>by
  rcases zxv e with⟨d',_,z⟩|z<;>cases z
 refine⟨?_,λi d e=>?_,λi d e=>absurd e (no i d),λi j d e a h1=>absurd h1 (no i d),Same.refl _,hf⟩
 ·unfold zcn zcg
  rw[qZ,qZ,qC,qC,q0,q0,r.length]
 ·rcases zxv e with⟨d',hd,z⟩|z
  ·cases z
   obtain⟨v,hv,rv⟩:=r.get2 hd
   refine⟨v,?_,Rp.same (Offs.sub λb z=>?_) _ rv⟩
   ·unfold zcg
    have hi:i<vs.length:=(qM.mp hv).1
    rw[qm (by simpa using hi),qS,hv];rfl
   ·rcases z with z|⟨j,d',z,_⟩
    ·exact z
    ·exact absurd z (no j d')
  ·cases z
theorem fn_d{N:List Str}(hs:SS t f)(h:spD n (fnD N.length f) vs H Q E):t {nx:=λ_ H'=>Q .non H',rt:=Q} (zcg N vs) H:=by
 obtain⟨fx,ds,d,fr,hn,hf,r,g,k⟩:=h
 unfold fnD at g
 split at g
 ·rename_i d' fr' eo
  cases g
  exact hs fx H _ _ H _ (zfo hf r) _ eo λv H' s rt=>k v H' s rt
 ·rename_i e' eo
  cases g
  exact hs fx H _ _ H _ (zfo hf r) _ eo λσ H' hE=>k .non H' hE.base ⟨zgf,λz=>by cases z⟩
 ·cases g
theorem zdr{vs:List V}(h:spD n g vs H Q E):vs.length=n:=by
 obtain⟨fx,ds,d,fr,hn,hf,r,_⟩:=h
 rw[<- r.length];exact hn
noncomputable def atD:PyData->Bool
 | .none=>true
 | .str x=>decide ((PySem.reprText x).length<=1000)
 | .int n=>decide (0<=n/\n<100)
 | _=>false
theorem zadi(h:atD d=true):zev d=true:=by cases d<;>first|rfl|cases h
theorem zaxw(h:atD d=true)(r:Rp H d v):atV v:=by
 cases d with
 | none=>rw[zaas r];trivial
 | str x=>rw[zmh r];show(PySem.reprText x).length<=1000;exact of_decide_eq_true h
 | int n=>rw[zdm r];show 0<=n/\n<100;exact of_decide_eq_true h
 | _=>cases h
noncomputable def RX(H0:Hp)(C:Addr)(d:PyData):XK:=λc od H'=>c=.ref C/\Same H0 H'/\zev d=true/\∃dx v,od=some dx/\H' dx=some (.xd [("at",v)])/\Rp H' d v
theorem RX.base(s:Same H0 H1)(h:RX H1 C d c od H'):RX H0 C d c od H':=
 let⟨a,b,r⟩:=h;⟨a,s.trans b,r⟩
theorem RX.stx(h:∀c od H',RX H0 C d c od H'->E c od H')(q:RX H0 C d c od H'):StX H0 E c od H':=by
 intro H3 r1 r2
 obtain⟨a,b,f,dx,v,e1,e2,e3⟩:=q
 exact h _ _ _ ⟨a,λx o z=>r1 x o z (b x o z),f,dx,v,e1,r2 _ _ e2 (λφ z=>by cases z),zqa f e3⟩
inductive OutX where
 | ok (o:Out)
 | rx (c:Str) (d:PyData)
noncomputable def SatX(cl:Str->Addr)(fx:Addr->Prop)(H0:Hp)(D:Ends)(E:XK):OutX->Prop
 | .ok o=>Sat fx H0 D o
 | .rx c d=>∀k od H',RX H0 (cl c) d k od H'->E k od H'
noncomputable abbrev SFX:=DEnv->Option OutX
noncomputable def SSx(cl:Str->Addr)(ts:XK->TS)(F:SFX):Prop:=∀(fx:Addr->Prop)(H0:Hp)(env:DEnv)(σ:St)(H:Hp)(D:Ends)(E:XK),EnvOk fx H0 env σ H->∀o,F env=some o->SatX cl fx H0 D E o->ts E D σ H
section
variable{cl:Str->Addr}
noncomputable def xOf(f:SF):SFX:=λenv=>(f env).map .ok
theorem zmj(h:SS t f):SSx cl (λ_=>t) (xOf f):=by
 intro fx H0 env σ H D E hE o e q
 obtain⟨o',e',rfl⟩:=qG.mp e
 exact h fx H0 env σ H D hE o' e' q
noncomputable def xSeq(f g:SFX):SFX:=λenv=>(f env).bind λo=>match o with
 | .ok (.nx env')=>g env'
 | o=>some o
theorem zkb{t u:XK->TS}(h1:SSx cl t f)(h2:SSx cl u g):SSx cl (λE=>tSeq (t E) (u E)) (xSeq f g):=by
 intro fx H0 env σ H D E hE o e q
 obtain⟨o1,e1,e⟩:=qA.mp e
 refine h1 fx H0 env σ H _ E hE o1 e1 ?_
 cases o1 with
 | rx c d=>cases e;exact q
 | ok o1=>
  cases o1 with
  | nx env'=>exact λσ' H' h'=>h2 fx H0 env' σ' H' D E h' o e q
  | bk env'=>cases e;exact q
  | ct env'=>cases e;exact q
  | rt d fr=>cases e;exact q
noncomputable def xIf(c:TF)(f g:SFX):SFX:=λenv=>(c env).bind λb=>if b=true then f env else g env
theorem zave{t u:XK->TS}(hc:ST tc c)(h1:SSx cl t f)(h2:SSx cl u g):SSx cl (λE=>tIfS tc (t E) (u E)) (xIf c f g):=by
 intro fx H0 env σ H D E h o e q
 obtain⟨b,eb,e⟩:=qA.mp e
 refine hc fx H0 env σ H h b eb _ λH' s=>?_
 cases b with
 | true=>exact iteT (h1 fx H0 env σ H' D E (h.up s) o e q)
 | false=>exact iteF (h2 fx H0 env σ H' D E (h.up s) o e q)
noncomputable def ztn(c:Str)(f:EF):SFX:=λenv=>(f env).bind λr=>if atD r.d=true then some (.rx c r.d)else none
theorem zahr(h1:SE te f):SSx cl (λE=>zahd (cl c) E te) (ztn c f):=by
 intro fx H0 env σ H D E h o e q
 obtain⟨r,er,e⟩:=qA.mp e
 split at e
 ·rename_i ha
  cases e
  refine h1 fx H0 env σ H h r er _ λv H' s hv=>⟨zaxw ha hv.rp,λH2 dx s2 hd=>q _ _ _ ⟨rfl,(h.base.trans s).trans s2,zadi ha,dx,v,rfl,hd,zqa (zadi ha) hv.rp⟩⟩
 ·cases e
noncomputable def zabd(g:GT)(body:SFX):List PyData->DEnv->Option OutX
 | [],env=>some (.ok (.nx env))
 | d::ds,env=>(g d env).bind λe1=>(body e1).bind λo=>match o with
  | .ok (.nx e2)=>zabd g body ds e2
  | .ok (.ct e2)=>zabd g body ds e2
  | .ok (.bk e2)=>some (.ok (.nx e2))
  | .ok (.rt d fr)=>some (.ok (.rt d fr))
  | .rx c d=>some (.rx c d)
noncomputable def xFor(f:IF')(g:GT)(body:SFX):SFX:=λenv=>(f env).bind λz=>zabd g body z.1 (frzs env z.2)
theorem zaqu{tb:XK->TS}(h1:SI wi f)(h2:SG g gf)(h3:SSx cl tb body):SSx cl (λE=>tFor wi g (tb E)) (xFor f gf body):=by
 intro fx H0 env σ H D E h o e q
 obtain⟨⟨ds,bs⟩,er,e⟩:=qA.mp e
 refine h1 fx H0 env σ H h ds bs er _ λJ H1 s yl=>?_
 have hE:=(h.up s).frzs bs
 have fl:=hE.floor
 refine⟨λi m σ' H'=>m=ds.length - i/\i<=ds.length/\∃env',zabd gf body (ds.drop i) env'=some o/\EnvOk fx (Offs (own (frzs env bs) σ) H1) env' σ' H',⟨ds.length,rfl,qAK _,_,e,hE.rebase⟩,?_⟩
 rintro i m σ' H' ⟨rfl,hi,env',e',h'⟩
 obtain⟨yi,ys⟩:=yl _ H' h'.all h'.seen
 by_cases hlt:i<ds.length
 ·obtain⟨yg,yy⟩:=yi i ds[i] (qK hlt)
  refine .inr ⟨yg,λσ'' H''=>i+1<=ds.length/\∃env'',zabd gf body (ds.drop (i+1)) env''=some o/\EnvOk fx (Offs (own (frzs env bs) σ) H1) env'' σ'' H'',?_,?_⟩
  ·rintro σ'' H'' ⟨hle,env'',e'',h''⟩
   exact⟨ds.length - (i+1),by omega,rfl,hle,env'',e'',h''⟩
  ·intro x H'' hy
   obtain⟨sy,ry⟩:=yy x H'' hy
   rw[qAI hlt]at e'
   obtain⟨e1,ee1,e'⟩:=qA.mp e'
   obtain⟨o1,eo1,e'⟩:=qA.mp e'
   refine h2 fx _ env' σ' H'' _ x (h'.up sy) ry e1 ee1 _ λσ2 h2'=>h3 fx _ e1 σ2 H'' _ E h2' o1 eo1 ?_
   cases o1 with
   | rx c d=>cases e';exact λk od H3 r=>q k od H3 (r.base fl)
   | ok o1=>
    cases o1 with
    | nx e2=>exact λσ3 H3 hh=>⟨hlt,e2,e',hh⟩
    | ct e2=>exact λσ3 H3 hh=>⟨hlt,e2,e',hh⟩
    | bk e2=>cases e';exact λσ3 H3 hh=>q σ3 H3 (hh.unbase fl)
    | rt d fr=>cases e';exact λv H3 sh rt=>q v H3 (fl.trans sh) (rt.unbase fl)
 ·have hi':i=ds.length:=by omega
  subst hi'
  rw[qBT]at e'
  cases e'
  exact .inl ⟨ys,q σ' H' (h'.unbase fl)⟩
inductive ResX where
 | ok (d:PyData) (fr:Bool)
 | rx (c:Str) (d:PyData)
noncomputable abbrev GFX:=List PyData->Option ResX
noncomputable def zaxx(cl:Str->Addr)(fx:Addr->Prop)(H:Hp)(Q:VK)(E:XK):ResX->Prop
 | .ok d fr=>∀v H',Same H H'->zabb fx H d fr v H'->Q v H'
 | .rx c d=>∀k od H',RX H (cl c) d k od H'->E k od H'
noncomputable def spX(cl:Str->Addr)(n:Nat)(g:GFX):Sp:=λvs H Q E=>∃(fx:Addr->Prop)(ds:List PyData)(r:ResX),ds.length=n/\(∀b,fx b->∃o,H b=some o)/\Rps (Offs fx H) ds vs/\g ds=some r/\zaxx cl fx H Q E r
theorem zkc{vs:List V}(h:spX cl n g vs H Q E):vs.length=n:=by
 obtain⟨fx,ds,r,hn,hf,rr,_⟩:=h
 rw[<- rr.length];exact hn
noncomputable def fnX(n:Nat)(f:SFX):GFX:=λds=>match f (zcn n ds)with
 | some (.ok (.rt d fr))=>some (.ok d fr)
 | some (.ok (.nx _))=>some (.ok .none false)
 | some (.rx c d)=>some (.rx c d)
 | _=>none
theorem fn_x{N:List Str}{t:XK->TS}(hs:SSx cl t f)(h:spX cl n (fnX N.length f) vs H Q E):t (StX H E) {nx:=λ_ H'=>Q .non H',rt:=Q} (zcg N vs) H:=by
 obtain⟨fx,ds,r,hn,hf,rr,g,k⟩:=h
 unfold fnX at g
 split at g
 ·rename_i d' fr' eo
  cases g
  exact hs fx H _ _ H _ _ (zfo hf rr) _ eo λv H' s rt=>k v H' s rt
 ·rename_i e' eo
  cases g
  exact hs fx H _ _ H _ _ (zfo hf rr) _ eo λσ H' hE=>k .non H' hE.base ⟨zgf,λz=>by cases z⟩
 ·rename_i c d eo
  cases g
  exact hs fx H _ _ H _ _ (zfo hf rr) _ eo λk' od H' q=>RX.stx k q
 ·cases g
noncomputable def zsf(n:Nat)(g:GFX)(f:AF):SFX:=λenv=>(f env).bind λrs=>if rs.length=n then(g (zfn rs)).map λr=>match r with
 | .ok _ _=>.ok (.nx env)
 | .rx c d=>.rx c d else none
theorem zin(ha:SA ta f):SSx cl (λE=>tDrop (tCall (spX cl n g) [] E ta)) (zsf n g f):=by
 intro fx H0 env σ H D E h o e q
 obtain⟨rs,er,e⟩:=qA.mp e
 split at e
 ·rename_i hn
  obtain⟨r,ez,rfl⟩:=qG.mp e
  refine ha fx H0 env σ H h rs er _ λvs H1 s1 v1=>?_
  rw[q9]
  refine⟨lim fx env σ (bss rs),zfn rs,r,by rw[zgl];exact hn,(h.up s1).lims _,zfk (λi hi=>hi) v1,ez,?_⟩
  cases r with
  | ok d fr=>exact λw H3 s3 _=>q σ H3 (h.up (s1.trans s3))
  | rx c d=>exact λk od H3 r=>q k od H3 (r.base (h.base.trans s1))
 ·cases e
end
noncomputable abbrev Cx.hold(X:Cx)(e:Addr):Cx:={X with A:=X.A.mark (some (.ref e)),calm:=false,xe:=λ_ _=>False}
section
variable{X:Cx}{pins:List (Addr×Obj)}{σ:St}{H:Hp}{s:Shared}
theorem Inv.hold(I:Inv X pins σ H s)(e:Addr):Inv (X.hold e) pins σ H s:=
 ⟨⟨I.ok.mod,I.ok.kind,I.ok.glob,I.ok.blt,I.ok.above,I.ok.inj,I.ok.has,I.ok.cab,(λz=>by cases z),I.ok.frames,I.ok.stk,I.ok.exf,I.ok.bs,I.ok.bsz,I.ok.noex,I.ok.exfs,I.ok.funs,I.ok.frf⟩,I.os,I.bare,I.base,I.loc,I.cell,I.free,I.freeC,I.pin,I.hok,I.len⟩
theorem Inv.unhold(ok:X.Ok)(I:Inv (X.hold e) pins σ H s):Inv X pins σ H s:=
 ⟨ok,I.os,I.bare,I.base,I.loc,I.cell,I.free,I.freeC,I.pin,I.hok,I.len⟩
theorem zaqv{E:Value->Shared->Prop}{Q:Unit->Shared->Prop}(I:Inv X pins σ H s)(hN:X.N.Nodup)(hj:X.N[j]?=some n)(hl:X.env.scope.names.lookup n=some .local)
  (h:∀s',Inv X pins (σ.set j none) H s'->Q () s'):wpAny (model X.prog X.w) A (do bindName X.env n .none;unbindBehindTheSuite X.env n pos) Q E s:=by
 obtain⟨m,hn,hlk⟩:=id I.loc
 have hcls:(X.env.scope.kind==.class||(X.env.scope.kind==.module&&X.env.locals != X.env.globals))=false:=by rw[I.ok.kind];rfl
 refine wpAny_nameGoes_keeps hl hn hcls λh' v ns sb=>h _ ?_
 have lo:∀b ob,X.s₀.heap.get? b=some ob->h'.get? b=s.heap.get? b:=λb ob e=>sb.2 b (qr (qf (qO e) I.ok.above))
 have cne:=I.cne
 refine⟨I.ok,I.os,I.bare,⟨λb o e n hb hx=>(lo b o e).trans (I.base.keep b o e n hb hx),λb o e n hb hx=>?_,I.base.free,λb o e hx=>?_,I.base.tups,I.base.frzs,I.base.tbls⟩,⟨_,ns,λk y v' e1 e2 e3=>?_⟩,λy c e=>?_,I.free,I.freeC,λp hp=>?_,λb ob e=>?_,by simpa using I.len⟩
 ·obtain⟨sl,e1⟩:=I.base.slot b o e n hb hx
  exact⟨sl,(lo b o e).trans e1⟩
 ·obtain⟨o',e1⟩:=I.base.there b o e hx
  exact⟨o',(lo b o e).trans e1⟩
 ·by_cases hk:k=j
  ·subst hk
   rw[qX (by have:=(qM.mp hj).1;rw[I.len];exact this)]at e2
   cases e2
  ·rw[qL (qAk hk)]at e2
   obtain⟨u',r',q⟩:=hlk k y v' e1 e2 e3
   refine⟨u',r',?_⟩
   rcases q with⟨z,e⟩|⟨z,c,e,y'⟩
   ·refine .inl ⟨z,?_⟩
    have:y≠n:=λe=>hk (zuq hN e1 (e▸hj))
    simp[this,e]
   ·exact .inr ⟨z,c,e,y'.sameBut sb (cne y c e)⟩
 ·obtain⟨w',z⟩:=I.cell y c e
  exact⟨w',z.sameBut sb (cne y c e)⟩
 ·obtain⟨e,n,ne,nf,d⟩:=I.pin p hp
  exact⟨(sb.2 p.1 ne).trans e,n,ne,nf,d⟩
 ·refine(I.hok b ob e).stay (λc w' hc q=>(sb.2 c ?_).trans q) (λ_ q=>q) (λ_ _ q=>q) (λ_ _ q=>q)
  rintro rfl
  rcases hc with hc|hc
  ·rw[<- hc,I.free]at e;cases e
  ·rw[I.free]at hc;cases hc
end
noncomputable def tErr(Ok:Addr->Prop)(ts:Addr->TS)(j:Nat)(D:Ends)(σ:St)(H1:Hp):XK:=λc od H2=>∃C dx,c=.ref C/\Ok C/\od=some dx/\
 ∀e H3,(∀b o,H1 b=some o->H2 b=some o->H3 b=some o)->zalm H2 H3->(∃tv,H3 e=some (.ext (xeD e C dx tv)))->
  ts C {nx:=λσ' H'=>D.nx (σ'.set j none) H',rt:=λ_ _=>False} (σ.set j (some (.ref e))) H3
section
variable{X:Cx}{pins:List (Addr×Obj)}{σ:St}{H1:Hp}{s1:Shared}
theorem handled{Ok:Addr->Prop}{ts:Addr->TS}
  (hN:X.N.Nodup)(hj:X.N[j]?=some n)(hn:X.env.scope.names.lookup n=some .local)(hst:X.stack=X.env::X.outer)(hfr:X.env.frame=some X.env.locals)(hgc:Gl X cn)(hmc:X.mg cn=some (.ref B))
  (hex:∀C,Ok C->PySem.W.exmOne X.K (.ref C) (.ref B)=some true)(hs:∀C,Ok C->∀e,PSs (X.hold e) (st0::suite) (ts C))(hdc:(cn==("__debug__":Str))=false)
  (I1:Inv X pins σ H1 s1)(hq:CXE X.prog X.w X.stack H1 s1 (tErr Ok ts j D σ H1) ev s') :
  wpAny (model X.prog X.w) X.A (noteFrame ev X.env) (λ_ s2=>wpAny (model X.prog X.w) X.A (setFlight ev none) (λ_ s3=>wpAny (model X.prog X.w) X.A (handleBy ev X.env [.ExceptHandler (some (.Name cn cp)) (some n) (st0::suite) hpos]) (SP X pins D) X.xe s3) X.xe s2) X.xe s':=by
 obtain⟨e,C',dx,H2,rfl,os,bare,un,ok,fl,stx⟩:=hq
 have I2:=I1.call' (s':=s') os un ok bare (λb z=>absurd z (by simp))
 refine zxp I2 hst hfr (λb ob z=>un.there b ob z (by simp)) fl λs3 H3 I3 ⟨T,hT1,hT2,hT3,hT4⟩ ho hkx hz3=>?_
 obtain⟨C,dx',eC,hOk,edx,sq⟩:=stx H3 (λb o z1 z2=>ho b o _ (I1.hok b o z1).there.choose_spec z2) hkx
 cases eC
 cases edx
 obtain⟨⟨vs',sl,oe,h1⟩,_,_⟩:=I3.hok e _ hT1
 have tb:=(I3.hok T _ hT4).1
 have J3:=I3.hold e
 refine wpAny_handleBy_cons (codeAny_handlers_test (zpr J3 hgc hmc ?_ hdc)) (by intro z;cases z)
 have LT:PySem.W.Looks (model X.prog X.w) s3.heap (typeOf (.ref e)) (.ref C'):=(qCj oe).andThen .now
 refine(PySem.W.exm_one (I3.kIn) LT (hex C' hOk)).here ?_
 show codeAny _ _ _ _ _
 refine codeAny_handlers_suite_as (zagz oe rfl h1 tb λh' kp tb'=>?_)
 have hup:upd H3 T (.ext λh=>h.Tb T)=H3:=by
  funext b
  by_cases hb:b=T
  ·subst hb;rw[zam,hT4]
  ·rw[zap hb]
 have J4:Inv (X.hold e) pins σ H3 {s3 with heap:=h'}:=by
  have:=J3.write (x:=T) (e:=T) (o:=.ext λh=>h.Tb T) (h':=h') (t':=s3.toks) (by rw[hT4];exact True.intro) (.inl rfl) (λb u hb z=>kp b u hb z) (let⟨oT,_,z,_⟩:=tb';⟨oT,z⟩) (zaha tb')
  rw[hup]at this
  exact this
 refine zur (X:=X) (Inv.unhold I1.ok J4) hN hj (.inl hn) (show RelV (.ref e) (.ref e)from rfl) (λs5 J5=>?_) (.inr hn)
 refine qAq (hs C' hOk e pins s5 _ H3 _ (J5.hold e) (sq e H3 (λ_ _ _ z=>z) (λ_ _ z _=>z) ⟨_,hT1⟩)) (λfl s6 q6=>?_) λ_ _ z=>z.elim
 cases fl with
 | next=>
  obtain⟨σ',H',J6,q6⟩:=q6
  exact zaqv (Inv.unhold I1.ok J6) hN hj hn λs7 I7=>⟨_,_,I7,q6⟩
 | ret u=>obtain⟨v,σ',H',J6,_,q6⟩:=q6;exact q6.elim
 | brk=>obtain⟨σ',H',J6,q6⟩:=q6;exact q6.elim
 | cont=>obtain⟨σ',H',J6,q6⟩:=q6;exact q6.elim
end
noncomputable def ownB(P b:Addr):Option HO->Bool
 | some (.own x)=>x==P
 | some (.frz _ (.own x))=>x==P||x==b
 | _=>false
theorem zaok(h:ownB P b o=true):o=some (.own P)\/∃ob x,o=some (.frz ob (.own x))/\(x=P\/x=b):=by
 unfold ownB at h
 split at h
 ·rename_i x
  have:x=P:=by simpa using h
  rw[this];exact .inl rfl
 ·rename_i ob x
  refine .inr ⟨ob,x,rfl,?_⟩
  rcases qBC.mp h with z|z
  ·exact .inl (by simpa using z)
  ·exact .inr (by simpa using z)
 ·cases h
noncomputable def hidB(P:Addr)(H:Hp)(b:Addr):Bool:=b==P||ownB P b (H b)
noncomputable def hidP(P:Addr)(H:Hp):Hp:=λb=>if hidB P H b=true then none else H b
noncomputable def resP(P:Addr)(H H':Hp):Hp:=λb=>if hidB P H b=true then H b else H' b
noncomputable def outB:HO->Bool
 | .own _=>false
 | .frz _ (.own _)=>false
 | _=>true
section
variable{P:Addr}{H H':Hp}{b:Addr}{u:HO}{q:Str}
theorem zaol(h:H b=some u)(hb:b≠P)(hu:outB u=true):hidB P H b=false:=by
 unfold hidB
 rw[beq_eq_false_iff_ne.mpr hb,qCF]
 cases e:ownB P b (H b)with
 | false=>rfl
 | true=>
  rcases zaok e with z|⟨ob,x,z,_⟩
  ·rw[z]at h;cases h;cases hu
  ·rw[z]at h;cases h;cases hu
theorem zavf(hP:H P=some (.tabO q))(h:H b=none):hidB P H b=false:=by
 unfold hidB
 rw[h,beq_eq_false_iff_ne.mpr (λz=>by rw[z,hP]at h;cases h)];rfl
theorem zqj(h:H b=some u)(hb:b≠P)(hu:outB u=true):hidP P H b=some u:=by
 unfold hidP;rw[zaol h hb hu];exact h
theorem zahs(h:hidP P H b=some u):H b=some u/\hidB P H b=false:=by
 unfold hidP at h
 cases e:hidB P H b with
 | true=>rw[e]at h;cases h
 | false=>rw[e]at h;exact⟨h,rfl⟩
theorem zqk(h:H b=none):hidP P H b=none:=by unfold hidP;split<;>first|rfl|exact h
theorem zadj(h:hidB P H b=false):hidP P H b=H b:=by unfold hidP;rw[h];rfl
theorem zql(h:hidB P H b=true):hidP P H b=none:=by unfold hidP;rw[h];rfl
theorem zle(h:hidB P H b=false):resP P H H' b=H' b:=by unfold resP;rw[h];rfl
theorem zxw(h:hidB P H b=true):resP P H H' b=H b:=by unfold resP;rw[h];rfl
theorem zaht(h:hidB P H b=true):b=P\/H b=some (.own P)\/∃ob x,H b=some (.frz ob (.own x))/\(x=P\/x=b):=by
 unfold hidB at h
 rcases qBC.mp h with z|z
 ·exact .inl (by simpa using z)
 ·exact .inr (zaok z)
theorem zavg:hidB P H P=true:=by unfold hidB;simp
theorem zaom(h:H b=some (.own P)):hidB P H b=true:=by unfold hidB;rw[h];simp[ownB]
theorem zaon(h:H b=some (.frz ob (.own P))):hidB P H b=true:=by unfold hidB;rw[h];simp[ownB]
theorem zxx(h:H b=some (.frz ob (.own b))):hidB P H b=true:=by unfold hidB;rw[h];simp[ownB]
theorem zavh(hP:H P=some (.tabO q))(x:HOk Pr w H h):HOk Pr w (hidP P H) h:=λb u e=>by
 obtain⟨e1,e2⟩:=zahs e
 have nb:b≠P:=λz=>by rw[z,zavg]at e2;cases e2
 have hh:∀c u,H c=some u->(u=.own b\/∃ob,u=.frz ob (.own b))->hidP P H c=some u:=λc u z hu=>by
  cases hc:hidB P H c with
  | false=>rw[zadj hc];exact z
  | true=>
   rcases zaht hc with y|y|⟨ob,x,y,hx⟩
   ·rw[y,hP]at z;cases z;rcases hu with hu|⟨_,hu⟩<;>cases hu
   ·rw[y]at z;cases z;rcases hu with hu|⟨_,hu⟩
    ·cases hu;exact absurd rfl nb
    ·cases hu
   ·rw[y]at z;cases z;rcases hu with hu|⟨_,hu⟩
    ·cases hu
    ·cases hu
     rcases hx with hx|hx
     ·exact absurd hx nb
     ·rw[hx,hc]at e2;cases e2
 exact(x b u e1).stay (λc v _ z=>z) (λc z=>hh c _ z (.inl rfl)) (λc xs z=>zqj z (λy=>by rw[y,hP]at z;cases z) rfl) (λc o z=>hh c _ z (.inr ⟨o,rfl⟩))
theorem zalw(hP:H P=some (.tabO q))(ok:HOk Pr w H h)(hfs:∀b∈fs,H b=none)(un:Un fs [] (hidP P H) H' h h')(ok':HOk Pr w H' h') :
  Un fs [] H (resP P H H') h h'/\HOk Pr w (resP P H H') h'/\∀b,hidB P H b=true->H' b=none:=by
 have hs:∀b,hidB P H b=true->∃u,H b=some u:=λb e=>by
  rcases zaht e with z|z|⟨ob,x,z,_⟩
  ·exact⟨.tabO q,z▸hP⟩
  ·exact⟨_,z⟩
  ·exact⟨_,z⟩
 have hn:∀b,hidB P H b=true->hidP P H b=none:=λb e=>zql e
 have kp:∀b o,hidB P H b=true->h.get? b=some o->h'.get? b=some o:=λb o e z=>un.keep b o z (hn b e) (λy=>by obtain⟨u,q⟩:=hs b e;rw[hfs b y]at q;cases q) (by simp)
 have fr:∀b,hidB P H b=true->H' b=none:=λb e=>by
  obtain⟨u,z⟩:=hs b e
  obtain⟨o,y⟩:=(ok b u z).there
  exact un.free b o y (hn b e) (by simp)
 have up:∀b u,H b=some u->outB u=true->b≠P->hidB P H b=false/\hidP P H b=some u:=λb u z hu hb=>⟨zaol z hb hu,zqj z hb hu⟩
 have nh:∀c v,H' c=some v->hidB P H c=false:=λc v y=>by
  cases z:hidB P H c with
  | false=>rfl
  | true=>rw[fr c z]at y;cases y
 refine⟨⟨λb o z n hb hx=>un.keep b o z (zqk n) hb hx,λb o z n hb hx=>un.slot b o z (zqk n) hb hx,λb o z n hx=>?_,λb o z hx=>un.there b o z hx,λb xs z=>?_,λb o u z=>?_,λb ps z=>?_⟩,λb u e=>?_,fr⟩
 ·rw[zle (zavf hP n)];exact un.free b o z (zqk n) hx
 ·obtain⟨a1,a2⟩:=up b _ z rfl (λy=>by rw[y,hP]at z;cases z)
  rw[zle a1];exact un.tups b xs a2
 ·cases hb:hidB P H b with
  | true=>rw[zxw hb];exact z
  | false=>rw[zle hb];exact un.frzs b o u (by rw[zadj hb];exact z)
 ·obtain⟨a1,a2⟩:=up b _ z rfl (λy=>by rw[y,hP]at z;cases z)
  rw[zle a1];exact un.tbls b ps a2
 ·cases hb:hidB P H b with
  | true=>
   rw[zxw hb]at e
   rcases zaht hb with z|z|⟨ob,x,z,_⟩
   ·subst z
    rw[hP]at e
    cases e
    refine(ok b _ hP).stay (λc v hc y=>kp c v (hc.elim (λz=>by rw[z];exact hb) zaom) y) (λc y=>by rw[zxw (zaom y)];exact y) (λc xs y=>?_) (λc o y=>by rw[zxw (zaon y)];exact y)
    obtain⟨a1,a2⟩:=up c _ y rfl (λz=>by rw[z,hP]at y;cases y)
    rw[zle a1];exact un.tups c xs a2
   ·rw[z]at e
    cases e
    obtain⟨o,y⟩:=(ok b _ z).there
    exact⟨o,kp b o hb y⟩
   ·rw[z]at e
    cases e
    obtain⟨y,o,y2⟩:=ok b _ z
    exact⟨kp b ob hb y,o,kp b o hb y2⟩
  | false=>
   rw[zle hb]at e
   exact(ok' b u e).stay (λc v _ z=>z) (λc y=>by rw[zle (nh c _ y)];exact y) (λc xs y=>by rw[zle (nh c _ y)];exact y) (λc o y=>by rw[zle (nh c _ y)];exact y)
end
theorem zahu(l:List Value)(h:TriplesOk l)(e:codeAmong pos (l++[rawInt a,rawInt b,c])=some cv):codeAmong pos l=some cv\/cv=c:=by
 fun_induction TriplesOk l with
 | case1=>
  simp only[List.nil_append,rawInt,codeAmong]at e
  split at e
  ·exact .inr (qa e).symm
  ·cases e
 | case2 x t y u z rest ih=>
  simp only[qCO,codeAmong]at e ⊢
  split at e
  ·rename_i hc;rw[if_pos hc];exact .inl e
  ·rename_i hc;rw[if_neg hc];exact ih h e
 | case3 l h1 h2=>exact h.elim
theorem zabe(l:List Value)(h:TriplesOk l):TriplesOk (l++[rawInt a,rawInt b,c]):=by
 fun_induction TriplesOk l with
 | case1=>exact True.intro
 | case2 x t y u z rest ih=>exact ih h
 | case3 l h1 h2=>exact h.elim
theorem zto{h:Heap}(hs:h.objs.size<=a):h.get? a=none:=by
 cases e:h.get? a with
 | none=>rfl
 | some o=>exact absurd (qO e) (qCH.mpr hs)
noncomputable def BM(mg:Str->Option Value)(base:Heap):Prop:=∃bm ob,mg "__builtins__"=some (.ref bm)/\bm≠builtinsNs/\base.get? bm=some ob/\ob.cls=.type "module"/\ob.dict=some builtinsNs/\ob.data=.plain
section
variable{X:Cx}{pins:List (Addr×Obj)}{σ:St}{H:Hp}{s:Shared}{c P:Addr}{params:Arguments}{body:Expr}{scope:Scope}{clos:List (Str×Addr)}{pos:Pos}
noncomputable def zaqw(q:Str)(H:Hp)(c P:Addr):Prop:=∃oc vs t,H c=some (.frz oc (.own P))/\oc.data=.fields vs/\vs[1]?=some (.str q t)
noncomputable abbrev lamQ(X:Cx):Str:=X.env.qual++"<lambda>"
theorem zalx{Q:Value->Shared->Prop}{E:Value->Shared->Prop}(I:Inv X pins σ H s)(hcode:X.env.code=.ref c)(C:PySem.W.CodeHd X.base c P)(hP:H P=some (.tabO (lamQ X)))(hbm:BM X.mg X.base)(hcl:closureFor scope X.env=pure clos)(hdef:defaultsOf params X.env=([],[]))
  (h:∀(s':Shared)(H':Hp)(f c':Addr)(ctv pm:Value),Inv X pins σ H' s'->(H'=H\/(H c'=none/\∃oc,H'=upd H c' (.frz oc (.own P))))->H' f=none->s'.heap.get? f=some (PySem.W.kla_obj "<lambda>" (lamQ X) params body scope clos pm c' ctv)->zaqw (lamQ X) H' c' P->s.heap.get? f=none->Q (.ref f) s') :
  wpAny (model X.prog X.w) X.A (eval (.Lambda params body scope pos) X.env) Q E s:=by
 obtain⟨ps,hps,tr,ent⟩:=I.hok P _ hP
 have Cs:PySem.W.CodeHd s.heap c P:=C.keeps I.bk
 have hgs:s.heap.Ns qj X.mg:=I.mod.glob.keeps I.bk
 have nP:∀b o,X.base.get? b=some o->b≠P:=λb o e z=>by have:=(I.bs b o e).2;rw[z,hP]at this;cases this
 have hgP:qj≠P:=by
  obtain⟨o,es,ep,e,_⟩:=I.mod.glob
  exact nP _ o e
 obtain⟨bm,ob,b1,b2,b3,b4,b5,b6⟩:=hbm
 have hbG:bm≠qj:=λz=>by
  obtain⟨o,es,ep,e,hd,_⟩:=I.mod.glob
  rw[z,e]at b3;cases b3;rw[hd]at b6;cases b6
 have hb:s.heap.BuiltinsAt X.mg P:=⟨bm,ob,b1,b2,hbG,nP _ _ b3,I.bk _ _ b3,b4,b5,b6⟩
 refine PySem.W.kla_eval hdef ?_
 cases hf:codeAmong pos ps.toList with
 | none=>
  refine PySem.W.kla_makeFunction (mg:=X.mg) hcl I.ok.glob hgs hcode Cs hps tr hf hgP hb λc' ctv h' tk hx hge hlt hrec htb=>?_
  have nc:H c'=none:=I.hok.fresh hge
  have nP':c'≠P:=λz=>by rw[z,hP]at nc;cases nc
  generalize hob:PySem.W.kla_obj "<lambda>" (lamQ X) params body scope clos ((X.mg "__name__").getD .none) c' ctv=obj
  have kp:∀b o,b≠P->s.heap.get? b=some o->(h'.push obj).get? b=some o:=λb o z e=>qF _ (hx b o z e)
  have hsz:s.heap.objs.size<=h'.objs.size:=qBD (qBi hge hlt)
  obtain⟨c2,oc,vs,t,e2,hoc,hd,hv⟩:=hrec
  cases e2
  have up:∀b u,H b=some u->upd H c' (.frz oc (.own P)) b=some u:=λb u e=>by rw[zap (λz=>by rw[z,nc]at e;cases e)];exact e
  have tabN:(h'.push obj).get? P=some (PySem.W.tabObj (ps++#[rawInt pos.line,rawInt pos.col,.ref c'])):=qF _ htb
  have un:Un X.fs [] H (upd H c' (.frz oc (.own P))) s.heap (h'.push obj):=
   ⟨λb o e n _ _=>kp b o (λz=>by rw[z,hP]at n;cases n) e,λb o e n _ _=>⟨o.slots,kp b o (λz=>by rw[z,hP]at n;cases n) e⟩,λb o e n _=>by rw[zap (qr (qf (qO e) hge))];exact n,
    λb o e _=>(Decidable.em (b=P)).elim (λz=>⟨_,z▸tabN⟩) (λz=>⟨o,kp b o z e⟩),λb xs e=>up b _ e,λb o u e=>up b _ e,λb ps e=>⟨#[],by rw[up b _ e];simp⟩⟩
  have ok:HOk X.prog X.w (upd H c' (.frz oc (.own P))) (h'.push obj):=λb u e=>by
   by_cases hb:b=c'
   ·subst hb
    rw[zam]at e
    cases e
    exact⟨qF _ hoc,oc,qF _ hoc⟩
   ·rw[zap hb]at e
    by_cases hbP:b=P
    ·subst hbP
     rw[hP]at e
     cases e
     refine⟨_,tabN,by rw[qDH];exact zabe _ tr,λpos' cv hc=>?_⟩
     rw[qDH]at hc
     rcases zahu _ tr hc with hc|hc
     ·obtain⟨c1,o,vs1,t1,a1,a2,a3,a5⟩:=ent pos' cv hc
      exact⟨c1,o,vs1,t1,a1,a2,up _ _ a3,a5⟩
     ·exact⟨c',oc,vs,t,hc,nP',zam,hd,hv⟩
    ·exact(I.hok b u e).stay (λc v hc z=>kp c v (hc.elim (λy=>by rw[y];exact hbP) λy w=>by rw[w,hP]at y;cases y) z) (λc z=>up c _ z) (λc xs z=>up c _ z) (λc o z=>up c _ z)
  refine h _ _ h'.objs.size c' ctv _ (I.un (t':=tk) un ok) (.inr ⟨nc,oc,rfl⟩) ?_ (by rw[<- hob];exact qd _ rfl) ⟨oc,vs,t,zam,hd,hv⟩ (zto hsz)
  rw[zap (qBh hlt)]
  exact I.hok.fresh hsz
 | some cv=>
  obtain⟨c',oc,vs,t,rfl,ne,own,hd,hv⟩:=ent pos cv hf
  refine PySem.W.kla_makeFunctionHit (mg:=X.mg) hcl I.ok.glob hgs hcode Cs hps tr hf hb λctv h' tk hk hsz=>?_
  have kp:∀b o,s.heap.get? b=some o->(h'.push (PySem.W.kla_obj "<lambda>" (lamQ X) params body scope clos ((X.mg "__name__").getD .none) c' ctv)).get? b=some o:=λb o e=>qF _ (hk b o e)
  exact h _ H h'.objs.size c' ctv _ (I.un (t':=tk) (Un.kept kp) (I.hok.kept kp)) (.inl rfl) (I.hok.fresh hsz) (qd _ rfl) ⟨oc,vs,t,own,hd,hv⟩ (zto hsz)
end
structure LamScope(N:List Str)(sc:Scope):Prop where
 kind:sc.kind=.function
 co:sc.isCoroutine=false
 gen:sc.isGenerator=false
 nocell:∀x∈sc.names,x.2≠.cell
 free:∀x∈N,sc.names.lookup x=some .free
noncomputable def zve(CX:CXT)(P:Program)(w:World)(K:qB)(mg:Str->Option Value)(base:Heap)(N:List Str)(qual:Str)(scope:Scope)(f:Addr)(cd:Value)(cl:List (Str×Addr))(A:Around)(outer:List Env)(s:Shared)(H:Hp)(E:XK):Cx where
 prog:=P
 w:=w
 K:=K
 mg:=mg
 base:=base
 A:=A.deeper (PySem.W.envX qual scope s.heap.objs.size f cd cl)
 N:=N
 s₀:=s
 H₀:=H
 env:=PySem.W.envX qual scope s.heap.objs.size f cd cl
 outer:=outer
 stack:=PySem.W.envX qual scope s.heap.objs.size f cd cl::outer
 ex:=[]
 calm:=true
 fn:=λ_=>false
 pn:=[]
 xe:=λe s'=>wpAny (model P w) (A.deeper (PySem.W.envX qual scope s.heap.objs.size f cd cl)) (leaving (PySem.W.envX qual scope s.heap.objs.size f cd cl) e) (λ_ s''=>CX outer H s E e s'') (λe' s''=>CX outer H s E e' s'') s'
structure Cells(cl:List (Str×Addr))(N:List Str)(vs:List V)(h:Heap)(H:Hp)(sc:Scope):Prop where
 inj:∀x y c,cl.lookup x=some c->cl.lookup y=some c->x=y
 has:∀x,sc.names.lookup x=some .free->∃c,cl.lookup x=some c
 cell:∀x c,cl.lookup x=some c->(∃v,h.IsCell c v)/\H c=none
 val:∀(i:Nat)(x:Str)(v:V),N[i]?=some x->vs[i]?=some v->∃c u,cl.lookup x=some c/\h.IsCell c (some u)/\RelV v u
 len:vs.length=N.length
section
variable{CX:CXT}{P:Program}{w:World}{K:qB}{mg:Str->Option Value}{base:Heap}{N:List Str}{name qual:Str}{params:Arguments}{body:Expr}{scope:Scope}{f c':Addr}{cl:List (Str×Addr)}{A:Around}{outer:List Env}{s:Shared}{H:Hp}{E:XK}{Q:VK}{vs:List V}{pm ctv:Value}{k:Nat}
theorem zaqx(S:LamScope N scope)(hr:Room (k+1) A)(e0:Env0 P w K mg base A outer s H){o:Obj}(ho:s.heap.get? f=some o)(hod:o.data=.func (PySem.W.kla_fn name qual params body scope cl pm (.ref c') ctv))(hcd:s.heap.CodeRec (.ref c') qual)
  (hbind:bindArgs (PySem.W.kla_fn name qual params body scope cl pm (.ref c') ctv) ⟨[],[]⟩=pure [])(Ce:Cells cl N vs s.heap H scope)
  (hbody:Room k (A.deeper (PySem.W.envX qual scope s.heap.objs.size f (.ref c') cl))->∃t,PE (zve CX P w K mg base N qual scope f (.ref c') cl A outer s H E) body t/\t (vs.map some) H Q) :
  codeAny (model P w) A (.call (.ref f) ⟨[],[]⟩) (CR CX outer P w H s Q E) s:=by
 refine PySem.W.kla_callFunE hr.depth ho hod S.co S.gen rfl hcd ?_
 rw[hbind]
 refine qR (wpAny_newFunctionEnv S.nocell (λx hx=>absurd (show x∈([]:List (Str×Value))from hx) (by simp)) (λh₁ hns hsb=>⟨((e0.mod.nolimit.keeps λb o e=>(e0.bs b o e).1)).fresh _ hsb,?_⟩) S.kind)
 show codeAny _ _ (.expr body (PySem.W.envX qual scope s.heap.objs.size f (.ref c') cl)) _ _
 have hk:∀b o,s.heap.get? b=some o->h₁.get? b=some o:=λb o e=>hsb.extBut b o (qr (qO e)) (qF _ e)
 obtain⟨t,ht,hq⟩:=hbody (hr.deeper _)
 have noA:∀b:Addr,b∉(zve CX P w K mg base N qual scope f (.ref c') cl A outer s H E).ex:=λb z=>absurd (show b∈([]:List Addr)from z) (by simp)
 have cellK:∀c v,s.heap.IsCell c v->h₁.IsCell c v:=λc v ⟨o,e,d⟩=>⟨o,hk _ _ e,d⟩
 have I:Inv (zve CX P w K mg base N qual scope f (.ref c') cl A outer s H E) [] (vs.map some) H {s with heap:=h₁,toks:=s.toks+([]:List (Str×Value)).length}:=by
  refine⟨⟨e0.mod,S.kind,rfl,rfl,qQ _,Ce.inj,λy hy=>?_,λy c z _=>?_,λ_=>hr.hd,qC3 e0.frames,.inr ⟨rfl,rfl⟩,λb z=>absurd z (noA b),e0.bs,e0.bsz,λb _ _=>noA b,λb z=>absurd z (noA b),e0.funs,e0.frf⟩,
   rfl,e0.bare,Un.kept hk,⟨_,hns,λi y v h1 h2 h3=>?_⟩,λy c z=>?_,e0.hok.fresh (qQ _),λy c z=>(Ce.cell y c z).2,λp hp=>absurd (show p∈([]:List (Addr×Obj))from hp) (by simp),e0.hok.kept hk,?_⟩
  ·have hy:scope.names.lookup y=some .cell\/scope.names.lookup y=some .free:=hy
   rcases hy with hy|hy
   ·exact absurd rfl (S.nocell _ (qo hy))
   ·exact Ce.has y hy
  ·cases z
  ·rw[qS]at h2
   cases ev:vs[i]? with
   | none=>rw[ev]at h2;cases h2
   | some v0=>
    rw[ev]at h2
    cases h2
    obtain⟨c,u,a1,a2,a3⟩:=Ce.val i y v h1 ev
    exact⟨u,a3,.inr ⟨.inr (S.free y (qu h1)),c,a1,cellK _ _ a2⟩⟩
  ·obtain⟨v,z⟩:=(Ce.cell y c z).1
   exact⟨v,cellK _ _ z⟩
  ·rw[qC];exact Ce.len
 refine PySem.W.kla_codeExpr (qAq (ht [] _ (vs.map some) H Q I hq) (λu s' h=>?_) λe s' h=>h)
 obtain⟨v,H',J,rv,q⟩:=h
 exact⟨v,H',J.os,J.bare,J.base,J.hok,rv,q⟩
end
noncomputable def Asks(P:Program)(w:World)(K:qB)(mg:Str->Option Value)(base:Heap)(CX:CXT)(k:Nat)(fs:List Addr)(s:Shared)(H:Hp)(g:Addr)(R:Hp->VK->XK->Prop):Prop:=
 ∀(A:Around)(outer:List Env)(s':Shared)(H':Hp)(Q:VK)(E:XK),Room k A->Env0 P w K mg base A outer s' H'->Un fs [] H H' s.heap s'.heap->R H' Q E->codeAny (model P w) A (.call (.ref g) ⟨[],[]⟩) (CR CX outer P w H' s' Q E) s'
structure ToldOk(P:Program)(w:World)(K:qB)(mg:Str->Option Value)(base:Heap)(k j:Nat)(f:Addr)(fd:qk)(p:Str)(tol:(Hp->VK->XK->Prop)->Hp->VK->Prop):Prop where
 run:∀(A:Around)(outer:List Env)(s:Shared)(H:Hp)(args:Args)(g:Addr)(R:Hp->VK->XK->Prop)(Q:VK),Room k A->Env0 P w K mg base A outer s H->BindsTo s fd args [(p,.ref g)]->PySem.W.FnAt g s.heap->H g=none->Asks P w K mg base (CXE P w) j (frs outer) s H g R->tol R H Q->
  codeAny (model P w) A (.call (.ref f) args) (CR CX0 outer P w H s Q λ_ _ _=>False) s
theorem zaqy{P:Program}{w:World}{K:qB}{mg:Str->Option Value}{base:Heap}{x qual:Str}{st:Stmt}{f:Addr}{fd:qk}{N:List Str}{p:Str}{k j:Nat}{tol:(Hp->VK->XK->Prop)->Hp->VK->Prop}(Fu:Fun K x qual st f fd)(S:FnScope N [p] (zaj st))
  (hbody:∀(cdv:Value)(A:Around)(outer:List Env)(s:Shared)(H:Hp)(g:Addr)(R:Hp->VK->XK->Prop)(Q:VK),Room k (A.deeper (envOfC qual (zaj st) s.heap.objs.size f cdv))->HOk P w H s.heap->PySem.W.FnAt g s.heap->H g=none->Asks P w K mg base (CXE P w) j (frs outer) s H g R->tol R H Q->
   ∃t,PSs (cxOf CX0 P w K mg base N qual (zaj st) f cdv A outer s H λ_ _ _=>False) (zcy st) t/\t {nx:=λ_ H'=>Q .non H',rt:=Q} (zcg N [.ref g]) H):ToldOk P w K mg base (k+1) j f fd p tol:=by
 refine⟨λA outer s H args g R Q hr e0 hb hg hn ha ht=>?_⟩
 obtain⟨oc,od,kV,doc,pm,an,cdv,ct,osl,rfl,lk,hcd⟩:=Fu.ex
 have KX:K.In s.heap:=e0.mod.kin.keeps λb o e=>(e0.bs b o e).1
 refine qBV hr.depth (KX _ _ lk) rfl S.co S.gen rfl (qBW KX hcd) (hb _ _ _ _ (qBB S.kind (λ⟨n,v⟩ hy=>?_) λenv he s1 x=>?_))
 ·have hy':(n,v)∈[p].zip [Value.ref g]:=hy
  rcases S.par n (qBH hy').1 with q|q
  ·exact .inl q
  ·exact .inr ⟨q,qAw _ _ _ (.inl q)⟩
 ·subst he
  obtain⟨t,ht,hq⟩:=hbody cdv A outer s H g R Q (hr.deeper _) e0.hok hg hn ha ht
  have I:=zmc (CX:=CX0) (E:=λ_ _ _=>False) (us:=[.ref g]) (vs:=[.ref g]) S hr.hd e0 rfl (.cons rfl .nil) x
  refine⟨(e0.mod.nolimit.keeps λb o e=>(e0.bs b o e).1).keeps x.toInCall.keep,qCi (qAq (ht [] s1 (zcg N [.ref g]) H _ I hq) (λfl s' hs=>?_) λe s' hs=>hs)⟩
  cases fl with
  | ret u=>obtain⟨v,σ',H',J,rv,q⟩:=hs;exact⟨v,H',J.os,J.bare,J.base,J.hok,rv,q⟩
  | next=>obtain⟨σ',H',J,q⟩:=hs;exact⟨.non,H',J.os,J.bare,J.base,J.hok,rfl,q⟩
  | brk=>obtain⟨_,_,_,q⟩:=hs;exact q.elim
  | cont=>obtain⟨_,_,_,q⟩:=hs;exact q.elim
noncomputable def zaqz(Ok:Addr->Prop)(g:Addr)(R:Hp->VK->XK->Prop)(ts:Addr->TS)(i j:Nat):TS:=λD σ H=>σ[i]?=some (some (.ref g))/\R H (λ_ H2=>D.nx σ H2) (tErr Ok ts j D σ H)
section
variable{X:Cx}
theorem zara{Ok:Addr->Prop}{R:Hp->VK->XK->Prop}{p cpos pos epos hpos cp:Pos}{ts:Addr->TS}
  (As:Asks X.prog X.w X.K X.mg X.base (CXE X.prog X.w) k X.fs X.s₀ X.H₀ g R)(hex0:X.ex=[])(hr:Room k X.A)(hg:PySem.W.FnAt g X.s₀.heap)(hn0:X.H₀ g=none)
  (hi:X.N[i]?=some an)(hv:Vis X.env.scope an)
  (hN:X.N.Nodup)(hj:X.N[j]?=some n)(hn:X.env.scope.names.lookup n=some .local)
  (hst:X.stack=X.env::X.outer)(hfr:X.env.frame=some X.env.locals)(hgc:Gl X cn)(hmc:X.mg cn=some (.ref B))(hex:∀C,Ok C->PySem.W.exmOne X.K (.ref C) (.ref B)=some true)(hs:∀C,Ok C->∀e,PSs (X.hold e) (st0::suite) (ts C))
  (hdb:(an==("__debug__":Str))=false)(hda:(an==("__classdict__":Str))=false)(hdc:(cn==("__debug__":Str))=false)
  (hsw:swapsWith (.Call (.Name an p) [] [] cpos) none epos.line X.env=pure false) :
  PS X (.Try [.Expr (.Call (.Name an p) [] [] cpos) epos] [.ExceptHandler (some (.Name cn cp)) (some n) (st0::suite) hpos] [] [] pos) (zaqz Ok g R ts i j):=by
 intro pins s σ H D I h
 obtain⟨hσ,hR⟩:=h
 refine wpAny_Try_except ?_
 refine qBb (wpAny_Expr_any (qAm ?_) I.quiet hsw)
 refine qAq (zacn (X:=X.nox) hi hv hdb hda pins s σ H (λv H'=>v=.ref g/\H'=H) (I.wish _) ⟨_,hσ,rfl,rfl⟩) (λu s1 ⟨v,H1,I1,rv,ev,eH⟩=>?_) λ_ _ z=>z.elim
 subst ev
 subst eH
 cases rv
 have I1:Inv X pins σ H1 s1:=I1.unwish
 obtain⟨oc,od,fd,sl,eg⟩:=hg
 have fnA:PySem.W.FnAt g s1.heap:=by
  obtain⟨sl',z⟩:=I1.base.any eg hn0 (by rw[hex0];simp)
  exact⟨oc,od,fd,sl',z⟩
 refine PySem.W.callWith_F0 fnA ?_
 have un:Un X.fs [] X.H₀ H1 X.s₀.heap s1.heap:=by
  have:=I1.base
  rw[hex0]at this
  exact this
 refine qBx (qA0 (As X.A X.stack s1 H1 _ _ hr I1.env0 un hR) λres s' hq=>?_)
 cases res with
 | ok fl=>
  cases fl with
  | ret u=>
   obtain⟨v,H2,I2,rv,q2⟩:=I1.after hq
   exact qBP (qBP ⟨_,H2,I2,q2⟩)
  | next=>exact False.elim hq
  | brk=>exact False.elim hq
  | cont=>exact False.elim hq
 | error ev=>exact handled hN hj hn hst hfr hgc hmc hex hs hdc I1 hq
end
noncomputable def clF(sc:Scope)(env:Env):List (Str×Addr):=(sc.names.filterMap λp=>if p.2==.free then(env.cells.lookup p.1).map λc=>(p.1,c)else none).reverse
theorem zahv{sc:Scope}{env:Env}:(x,c)∈clF sc env↔(x,NameKind.free)∈sc.names/\env.cells.lookup x=some c:=by
 unfold clF
 rw[List.mem_reverse,qBf]
 constructor
 ·rintro⟨⟨y,k⟩,h1,h2⟩
  dsimp only at h2
  split at h2
  ·rename_i hk
   have hk:k=NameKind.free:=by simpa using hk
   obtain⟨d,e1,e2⟩:=qG.mp h2
   cases e2
   exact⟨hk▸h1,e1⟩
  ·cases h2
 ·rintro⟨h1,h2⟩
  exact⟨(x,.free),h1,by dsimp only;rw[if_pos (by rfl),h2];rfl⟩
theorem ztp:∀{l:List (Str×α)}{x:Str}{c:α},(x,c)∈l->∃d,l.lookup x=some d
 | (k,v)::r,x,c,h=>by
  rw[qt]
  cases hb:x==k with
  | true=>exact⟨v,rfl⟩
  | false=>
   rcases qY.mp h with e|h
   ·cases e;simp at hb
   ·exact ztp h
theorem zkw{env:Env}(h:(clF sc env).lookup x=some c):env.cells.lookup x=some c:=(zahv.mp (qo h)).2
theorem zahw{sc:Scope}{env:Env}(h:(x,NameKind.free)∈sc.names)(e:env.cells.lookup x=some c):(clF sc env).lookup x=some c:=by
 obtain⟨d,hd⟩:=ztp (zahv.mpr ⟨h,e⟩)
 rw[hd]
 exact(zkw hd).symm.trans e
section
variable{P:Program}{w:World}{K:qB}{mg:Str->Option Value}{base:Heap}{N:List Str}{qual:Str}{scope:Scope}{f:Addr}{cd:Value}{cl:List (Str×Addr)}{A:Around}{outer:List Env}{s:Shared}{H:Hp}{E:XK}
theorem zarb(I:Inv (zve (CXE P w) P w K mg base N qual scope f cd cl A outer s H E) pins σ H1 s1)(h0k:HOk P w H s.heap)(F:Flt s.heap H1 e C dx)(q:StX H E (.ref C) (some dx) H1) :
  (zve (CXE P w) P w K mg base N qual scope f cd cl A outer s H E).xe (.ref e) s1:=by
 refine zacz (X:=zve (CXE P w) P w K mg base N qual scope f cd cl A outer s H E) I rfl rfl (λb ob z=>I.base.there b ob z (λy=>absurd (show b∈([]:List Addr)from y) (by simp))) F λs' H2 I2 ht hk hx _=>?_
 refine⟨e,C,dx,H2,rfl,I2.os,I2.bare,I2.base,I2.hok,⟨F.new,_,ht.choose_spec.1,.inr ⟨_,rfl,ht.choose_spec.2⟩⟩,λH3 r1 r2=>q H3 (λb o z1 z2=>?_) (λb o z n=>r2 b o (hx b o z n) n)⟩
 obtain⟨ob,y⟩:=(h0k b o z1).there
 exact r1 b o z1 (hk b o ob y z2)
theorem zch(h0k:HOk P w H s.heap):ztg (CXE P w) (zve (CXE P w) P w K mg base N qual scope f cd cl A outer s H E) (StX H E):=by
 intro pins σ H1 s1 e s2 I h
 obtain⟨ea,C,dx,H2,rfl,os,bare,un,ok,F,q⟩:=h
 have I2:=I.call' (s':=s2) os un ok bare (λb z=>absurd z (by simp))
 have old:∀b ob,s.heap.get? b=some ob->∃o',s1.heap.get? b=some o':=λb ob z=>I.base.there b ob z (λy=>absurd (show b∈([]:List Addr)from y) (by simp))
 have nw:∀b,s1.heap.get? b=none->s.heap.get? b=none:=λb z=>by
  cases y:s.heap.get? b with
  | none=>rfl
  | some ob=>obtain⟨o',y'⟩:=old b ob y;rw[z]at y';cases y'
 refine zarb I2 h0k ⟨nw _ F.new,?_⟩ (q H2 (λ_ _ _ z=>z) (λ_ _ z _=>z))
 obtain⟨tv,a,b⟩:=F.st
 exact⟨tv,a,b.imp id λ⟨T,x1,x2,x3,x4⟩=>⟨T,x1,x2,nw _ x3,x4⟩⟩
end
end L2
namespace PySem
open Sem (wp)
open Builtin Builtin.ObjectAttr
section
variable{prog:Program}{w:World}{A:Around}{E:Value->Shared->Prop}{h:Heap}{g:Array GenState}{d:Drawn}{t:Nat}{os:OsState}
variable{nm q:Str}{C N x:Addr}{bs bm:List Value}{sn:List Str}{sub:List Value}{ab:Bool}{col:Option Bool}{dd:Option Addr}{k0 k1 k2 k3 k5:Option Value}{newId:String}{o:Obj}
theorem zaeo {R:Result->Shared->Prop} (hr:zdw bm=true) (hC:h.get? C=some (excClassObj nm q C N bs bm true sn sub ab col dd k0 k1 k2 k3 k5 newId)) (hx:h.get? x=some o) (hc:o.cls=.ref C) (hq:R (.ok (.ret (.ref C))) ⟨h,g,d,t,os⟩) :
  codeAny (model prog w) A (.call (.builtin "getset_descriptor.__get__") ⟨[.builtin "object.__class__",.ref x,.ref C],[]⟩) R ⟨h,g,d,t,os⟩:=by
 have hT5:(⟨h,g,d,t,os⟩:Shared).TypeIs (.builtin "object.__class__") "getset_descriptor":=qB6
 have hcB:(Value.ref C::bm).contains (.type (".".intercalate ("object.__class__".cutAt '.').dropLast))=true:=by
  rw[F.owner_object_class,qAC,zdd (by decide) hr];rfl
 refine qAn qDG.plain F.entry_gs_get (qDG.check _ _ _ _ _ _ _ _ hT5 (F.args_gs_get _ _ _) ?_)
 repeat (any_goals (first|assumption|(with_reducible refine qg hx ?_;rw[hc])|(with_reducible refine qAa hC ?_;rw[hcB])|wp_step))
 refine⟨qBg _ (by decide +kernel),qBQ F.entry_object_class ?_⟩
 repeat (any_goals (first|assumption|(with_reducible refine qg hx ?_;rw[hc])|wp_step))
theorem zavi{Q:Option Value->Shared->Prop}(hr:zdw bm=true)(hC:h.get? C=some (excClassObj nm q C N bs bm true sn sub ab col dd k0 k1 k2 k3 k5 newId))(hx:h.get? x=some o)(hc:o.cls=.ref C)
  (LG:W.Looks (model prog w) h (typeLookup (.ref C) "__getattribute__") (some (.builtin "BaseException.__getattribute__")))(LA:W.Looks (model prog w) h (typeLookup (.ref C) "__class__") (some (.builtin "object.__class__")))
  (LH:W.Looks (model prog w) h (typeLookup (.ref C) "__getattr__") none) (hq:Q (some (.ref C)) ⟨h,g,d,t+1,os⟩):wpAny (model prog w) A (getAttr? (.ref x) "__class__") Q E ⟨h,g,d,t,os⟩:=by
 have hk:builtinKind "BaseException.__getattribute__"=some .slot:=by decide +kernel
 have hsplit:splitId "BaseException.__getattribute__"=some ("BaseException","__getattribute__"):=by decide +kernel
 have hcB:(Value.ref C::bm).contains (.type "BaseException")=true:=by rw[qAC,zdd (by decide) hr,qAt]
 have hx2:(Value.builtin "BaseException.__getattribute__"==Value.builtin "object.__getattribute__")=false:=by decide +kernel
 have hx1:(onTheHeap (Value.ref C)&&Value.builtin "BaseException.__getattribute__"==Value.builtin "object.__getattribute__")=false:=by rw[hx2];rfl
 have FB:=F.attr_ValueError
 have f3:=FB.ga.bind (.ref x)
 have hT5:(⟨h,g,d,t+1,os⟩:Shared).TypeIs (.builtin "object.__class__") "getset_descriptor":=qB6
 have f5:=qB6
 have f6:=qDG.lookup
 have f7:=F.slot_gs_set.lookup
 unfold getAttr? getAttrBy? getAttrBy
 repeat (any_goals (first|assumption|(with_reducible refine qg hx ?_;rw[hc])|(with_reducible refine LG.here ?_)|(with_reducible refine LH.here ?_)|wp_step))
 refine qAn FB.ga.plain F.entry_bexc_ga ?_
 simp only[checkBuiltinCall,hk,hsplit]
 refine qE ?_
 unfold isInstance
 repeat (first|(with_reducible refine qg hx ?_;rw[hc])|(with_reducible refine qAa hC ?_;rw[hcB])|wp_step)
 repeat (any_goals (first|assumption|(with_reducible refine qg hx ?_;rw[hc])|(with_reducible refine LA.here ?_)|wp_step))
 refine zaeo hr hC hx hc ?_
 repeat (any_goals (first|assumption|wp_step))
end
end PySem
namespace L2
open PySem PySem.Spec PyProof.Rows
section
variable{X:Cx}{C f:Addr}
theorem zvf{K:qB}{e C dx f:Addr}(M:XMk K C f)(ha:PySem.W.findIn K (.ref C) "__class__"=some (some (.builtin "object.__class__"))):PySem.W.KitX K (.ref e) (.ref C) (λh=>∃tv,xeD e C dx tv h) where
 ty:=λ_ _ _ ⟨_,_,_,a,_⟩=>(qCj a).andThen .now
 it:=λ_ _ X _=>by
  obtain⟨nm,qn,N,bs,bm,sn,sub,ab,col,dd,k0,k1,k2,k3,k5,hC,_⟩:=zjt X M.cls M.tail
  intro A' Q' E' s' k q
  unfold isType loadHead
  exact qE (wpAny_loadPart (k _ _ hC) (qR q))
 ne:=λh tp dd its n sl X htp=>by
  obtain⟨nm,qn,N,bs,bm,sn,sub,ab,col,dd,k0,k1,k2,k3,k5,hC,_⟩:=zjt X M.cls M.tail
  refine Bool.eq_false_iff.mpr λq=>?_
  have e:C=tp:=Value.ref.inj (beq_iff_eq.mp q)
  subst e
  have z:=congrArg Obj.cls (qa (hC.symm.trans htp))
  unfold excClassObj at z
  injection z with z
  exact absurd z (by decide)
 ca:=λ{prog w A E Q s} X ⟨tv,vs,sl,a,_⟩ k=>by
  obtain⟨nm,qn,N,bs,bm,sn,sub,ab,col,dd,k0,k1,k2,k3,k5,hC,hbm,_⟩:=zjt X M.cls M.tail
  obtain⟨h,g,d,t,os⟩:=s
  exact zavi hbm hC a rfl (qAQ X M.ga) (qAQ X ha) (qAQ X M.gh) k
noncomputable def rIsX(K:qB)(C:Addr):List V->Hp->VK->Prop:=λxs H Q=>∃e dx tv b,H e=some (.ext (xeD e C dx tv))/\Q (.bl b) H/\
 ((∃c,xs=[.ref e,.ref c]/\PySem.W.kitOne K (.ref C) (.ref c)=some b)\/(∃n,xs=[.ref e,.ty n]/\PySem.W.kitOne K (.ref C) (.type n)=some b)\/∃p ys us,xs=[.ref e,.ref p]/\H p=some (.tup ys)/\(∀its,Vals ys its->its=us)/\PySem.W.kitAny K (.ref C) us=some b)
theorem zaly(M:XMk X.K C f)(ha:PySem.W.findIn X.K (.ref C) "__class__"=some (some (.builtin "object.__class__"))):CallR X (.builtin "isinstance") (rIsX X.K C):=by
 intro pins s σ H xs us Q I r h
 obtain⟨e,dx,tv,b,he,q,h⟩:=h
 have hx:=(I.hok e _ he).1
 rcases h with⟨c,rfl,kk⟩|⟨n,rfl,kk⟩|⟨p,ys,us',rfl,hp,hv,kk⟩
 ·obtain⟨u1,u2,rfl,r1,r2⟩:=zwx r
  cases r1
  cases r2
  exact qAM (zvf (dx:=dx) M ha) I.kIn ⟨tv,hx⟩ kk (λz=>nomatch z) λtk=>⟨.bl b,H,I.tok _,rfl,q⟩
 ·obtain⟨u1,u2,rfl,r1,r2⟩:=zwx r
  cases r1
  cases r2
  exact qAM (zvf (dx:=dx) M ha) I.kIn ⟨tv,hx⟩ kk (λz=>nomatch z) λtk=>⟨.bl b,H,I.tok _,rfl,q⟩
 ·obtain⟨u1,u2,rfl,r1,r2⟩:=zwx r
  cases r1
  cases r2
  obtain⟨_,its,vi,op,hop,ho1,n,ho2⟩:=I.hok p _ hp
  cases hv its vi
  obtain⟨oc,od,odt,osl⟩:=op
  cases ho1
  cases ho2
  exact PySem.W.kia_tup (zvf (dx:=dx) M ha) I.kIn ⟨tv,hx⟩ hop kk (λz=>nomatch z) λtk=>⟨.bl b,H,I.tok _,rfl,q⟩
end
theorem zarc{X:Cx}(hg:Gl X x)(hm:X.mg x=some (.ref C))(hd:(x==("__debug__":Str))=false:=by decide):PE X (.Name x pos) (tC (.ref C)):=
 λ_ _ _ H _ I h=>zpr I hg hm ⟨.ref C,H,I,rfl,h⟩ hd
noncomputable def zard:Sl->Sl
 | .ac d=>.pl d
 | s=>s
noncomputable def envB(own:List Str)(fr:List Nat)(env:DEnv):DEnv:=own.map (λ_=>Sl.no)++fr.map (λj=>zard (env.getD j .no))
noncomputable def isAc:Option Sl->Bool
 | some (.ac _)=>true
 | _=>false
noncomputable def capA(fr:List Nat)(env:DEnv):List Nat:=fr.filter λj=>isAc env[j]?
theorem zvg{own:List Str}(e:(envB own fr env)[i]?=some (.pl d)):∃j k,i=own.length+k/\fr[k]?=some j/\(env[j]?=some (.pl d)\/env[j]?=some (.ac d)):=by
 unfold envB at e
 by_cases hi:i<own.length
 ·rw[qm (by simpa using hi),qS,qK hi]at e
  cases e
 ·rw[qb (by simpa using hi),qC,qS]at e
  cases ej:fr[i - own.length]? with
  | none=>rw[ej]at e;cases e
  | some j=>
   rw[ej]at e
   refine⟨j,i - own.length,by omega,ej,?_⟩
   have e:zard (env.getD j .no)=.pl d:=qa e
   rw[qAT]at e
   cases ev:env[j]? with
   | none=>rw[ev]at e;cases e
   | some s=>
    rw[ev]at e
    cases s with
    | no=>cases e
    | pl d'=>cases e;exact .inl rfl
    | ac d'=>cases e;exact .inr rfl
theorem zio{own:List Str}{fr:List Nat}{env:DEnv}{i:Nat}{d:PyData}:(envB own fr env)[i]?≠some (.ac d):=by
 intro e
 unfold envB at e
 by_cases hi:i<own.length
 ·rw[qm (by simpa using hi),qS,qK hi]at e
  cases e
 ·rw[qb (by simpa using hi),qC,qS]at e
  cases ej:fr[i - own.length]? with
  | none=>rw[ej]at e;cases e
  | some j=>
   rw[ej]at e
   have e:zard (env.getD j .no)=.ac d:=qa e
   cases ev:env.getD j .no with
   | no=>rw[ev]at e;cases e
   | pl d'=>rw[ev]at e;cases e
   | ac d'=>rw[ev]at e;cases e
theorem zahx{own:List Str}(hk:fr[k]?=some j)(hv:σ[j]?=some (some v)):(tau own fr σ)[own.length+k]?=some (some v):=by
 unfold tau
 rw[qb (by simp),qC,Nat.add_sub_cancel_left,qS,hk]
 show some (σ.getD j none)=_
 rw[qAT,hv];rfl
theorem zxy{fx:Addr->Prop}{H0:Hp}{env:DEnv}{σ:St}{H H1:Hp}{p:Addr}(h:EnvOk fx H0 env σ H)(s:Same H H1)(hp:H1 p=none)(own:List Str)(fr:List Nat)(bs:List Nat) :
  EnvOk (λb=>lim fx env σ (bs++capA fr env) b\/b=p) H1 (envB own fr env) (tau own fr σ) (upd H1 p (.lst [])):=by
 have h1:=h.up s
 have sp:Same H1 (upd H1 p (.lst [])):=Same.new hp
 have so:Same (Offs (λb=>fx b\/L2.own env σ b) H1) (Offs (λb=>(lim fx env σ (bs++capA fr env) b\/b=p)\/L2.own (envB own fr env) (tau own fr σ) b) (upd H1 p (.lst []))):=Offs.mono sp λb o e n z=>by
  rcases z with(z|z)|⟨i,d,z,_⟩
  ·exact n (zpz b z)
  ·rw[z,hp]at e;cases e
  ·exact absurd z zio
 refine⟨?_,λi d e=>?_,λi d e=>absurd e zio,λi j d e a z=>absurd z zio,sp,λb z=>?_⟩
 ·unfold envB tau;simp
 ·obtain⟨j,k,rfl,hk,hj⟩:=zvg e
  rcases hj with hj|hj
  ·obtain⟨v,h2,h3⟩:=h1.pl j d hj
   exact⟨v,zahx hk h2,Rp.same so _ h3⟩
  ·obtain⟨a,h2,h3,h4,h5⟩:=h1.ac j d hj
   refine⟨_,zahx hk h2,h5.rp so λo eo=>?_⟩
   rw[Offs.get]
   ·exact sp _ _ eo
   ·rintro((z|⟨i',d',z1,z2,z3⟩)|⟨i',d',z,_⟩)
    ·rcases z with z|⟨i',d',z1,z2,z3⟩
     ·exact h4 z
     ·have e2:=h1.inj i' j d' d a z2 hj z3 h2
      subst e2
      refine z1 (qe _ (qBI.mpr ⟨qu hk,?_⟩))
      rw[hj];rfl
    ·rw[hp]at eo;cases eo
    ·exact absurd z zio
 ·rcases z with z|z
  ·obtain⟨o,e⟩:=h1.lims _ b z;exact⟨o,sp b o e⟩
  ·rw[z];exact⟨_,zam⟩
theorem EnvOk.weaken{fx:Addr->Prop}{env e1:DEnv}(h:EnvOk fx H0 e1 σ H)(hl:env.length=e1.length)(hp:∀(i:Nat) (d:PyData),env[i]?=some (.pl d)->e1[i]?=some (.pl d))(ha:∀(i:Nat) (d:PyData),env[i]?≠some (.ac d)):EnvOk fx H0 env σ H:=by
 refine⟨hl.trans h.len,λi d e=>?_,λi d e=>absurd e (ha i d),λi j d e a z=>absurd z (ha i d),h.base,h.fxs⟩
 obtain⟨v,h1,h2⟩:=h.pl i d (hp i d e)
 exact⟨v,h1,Rp.same (Offs.sub λb z=>z.imp (λy=>y) λ⟨j,d',z,_⟩=>absurd z (ha j d')) _ h2⟩
theorem EnvOk.updFx{fx:Addr->Prop}(h:EnvOk fx H0 env σ H)(hp:fx p)(h0:H0 p=none):EnvOk fx H0 env σ (upd H p o):=by
 have so:Offs (λb=>fx b\/own env σ b) (upd H p o)=Offs (λb=>fx b\/own env σ b) H:=Offs.upd (.inl hp)
 refine⟨h.len,λi d e=>?_,λi d e=>?_,h.inj,λb u e=>by rw[zap (zax e h0)];exact h.base b u e,λb z=>?_⟩
 ·rw[so];exact h.pl i d e
 ·obtain⟨a,h1,h2,h3,h4⟩:=h.ac i d e
  rw[so]
  exact⟨a,h1,h2,h3,h4.same (Same.refl _) λu z=>by rw[zap λy=>h3 (by rw[y];exact hp)];exact z⟩
 ·by_cases e:b=p
  ·rw[e];exact⟨_,zam⟩
  ·obtain⟨u,hu⟩:=h.fxs b z
   exact⟨u,by rw[zap e];exact hu⟩
noncomputable def GX(n:Nat)(g:GT):Prop:=∀d env e1,g d env=some e1->e1.length=env.length/\∀i,n<=i->e1[i]?=env[i]?
noncomputable def GXs(n:Nat)(g:GTs):Prop:=∀ds env e1,g ds env=some e1->e1.length=env.length/\∀i,n<=i->e1[i]?=env[i]?
theorem zqm(h:i<n):GX n (gN i):=by
 intro d env e1 e
 cases e
 exact⟨qw,λj hj=>qL (by omega)⟩
theorem zahy:GXs n zqh:=by
 intro ds env e1 e
 cases ds with
 | nil=>cases e;exact⟨rfl,λ_ _=>rfl⟩
 | cons _ _=>cases e
theorem zpm(h:i<n)(hg:GXs n g):GXs n (zej i g):=by
 intro ds env e1 e
 cases ds with
 | nil=>cases e
 | cons d ds=>
  obtain⟨h1,h2⟩:=hg ds _ e1 e
  rw[qw]at h1
  exact⟨h1,λj hj=>(h2 j hj).trans (qL (by omega))⟩
theorem zaoo(hg:GXs n g):GX n (gT m g):=by
 intro d env e1 e
 unfold gT at e
 cases d with
 | tuple ds=>
  have e:(if ds.length=m then g ds env else none)=some e1:=e
  split at e
  ·exact hg ds env e1 e
  ·cases e
 | _=>cases e
noncomputable def zew(g:GT)(t:TF)(e:EF)(env:DEnv):List PyData->Option (List PyData)
 | []=>some []
 | d::ds=>(g d env).bind λe1=>(t e1).bind λb=>if b=true then(e e1).bind λr=>(zew g t e env ds).map λrs=>r.d::rs else zew g t e env ds
noncomputable def zgo(own:List Str)(fr:List Nat)(fi:IF')(g:GT)(t:TF)(e:EF):EF:=λenv=>(fi env).bind λz=>if z.1.length<100000 then
 (zew g t e (envB own fr env) z.1).map λrs=>⟨.list rs,true,if zex rs=true then[]else z.2++capA fr env⟩else none
theorem zmk(f:zex ds=true)(h:Rps H ds vs):Rps H' ds vs:=by
 replace h:=zcs.mp h
 induction h with
 | nil=>exact zeb
 | cons h _ ih=>
  unfold zex at f
  rw[qBJ,qAA]at f
  exact zcx (zqa f.1 h) (ih f.2)
theorem zlt{own:List Str}{fr:List Nat}{wi:TI}{g:TG}{tt:TT}{te:TE}{fi:IF'}{gf:GT}{t:TF}{e:EF}(h1:SI wi fi)(h2:SG g gf)(hx:GX own.length gf)(h3:ST tt t)(h4:SE te e) :
  SE (tComp1 wi g tt te own fr) (zgo own fr fi gf t e):=by
 intro fx H0 env σ H h rr hr Q q
 unfold zgo at hr
 obtain⟨⟨ds,bs⟩,ei,hr⟩:=qA.mp hr
 split at hr
 ·rename_i hlen
  have hlen:ds.length<100000:=hlen
  obtain⟨rs,ers,rfl⟩:=qG.mp hr
  refine h1 fx H0 env σ H h ds bs ei _ λJ H1 s yl=>λp hp=>?_
  have hB:=zxy h s hp own fr bs
  generalize hA:(λb=>lim fx env σ (bs++capA fr env) b)=A
  have hA':∀b,lim fx env σ (bs++capA fr env) b↔A b:=λb=>by rw[<- hA]
  have eA:(λb=>lim fx env σ (bs++capA fr env) b\/b=p)=λb=>A b\/b=p:=by rw[<- hA]
  rw[eA]at hB
  have nA:¬A p:=λz=>by
   obtain⟨o,eo⟩:=(h.up s).lims _ p ((hA' p).mpr z)
   rw[hp]at eo;cases eo
  have seen:∀{σ':St}{H':Hp},EnvOk (λb=>A b\/b=p) H1 (envB own fr env) σ' H'->Same (Offs (λb=>fx b\/L2.own (frzs env bs) σ b) H1) (Offs (λb=>A b\/b=p) H'):=λ{σ' H'} hE=>Offs.mono hE.base λb o eo n z=>by
   rcases z with z|z
   ·rcases(hA' b).mpr z with z|⟨i,d,z1,z2,z3⟩
    ·exact n (.inl z)
    ·exact n (.inr ⟨i,d,zkv (λy=>z1 (qy _ y)) z2,z3⟩)
   ·rw[z,hp]at eo;cases eo
  refine⟨λi m σ' H'=>m=ds.length - i/\i<=ds.length/\∃vs done rest,H' p=some (.lst vs)/\Rps (Offs (λb=>A b\/b=p) H') done vs/\done.length<=i/\zew gf t e (envB own fr env) (ds.drop i)=some rest/\done++rest=rs/\EnvOk (λb=>A b\/b=p) H1 (envB own fr env) σ' H',
   ⟨ds.length,rfl,qAK _,[],[],rs,zam,zeb,qAK _,ers,rfl,hB⟩,?_⟩
  rintro i m σ' H' ⟨rfl,hi,vs,done,rest,ep,rd,dl,ec,edr,hE⟩
  obtain⟨yi,ys⟩:=yl _ H' hE.fxs (seen hE)
  by_cases hlt:i<ds.length
  ·obtain⟨yg,yy⟩:=yi i ds[i] (qK hlt)
   refine .inr ⟨yg,λσ'' H''=>i+1<=ds.length/\∃vs done rest,H'' p=some (.lst vs)/\Rps (Offs (λb=>A b\/b=p) H'') done vs/\done.length<=i+1/\zew gf t e (envB own fr env) (ds.drop (i+1))=some rest/\done++rest=rs/\EnvOk (λb=>A b\/b=p) H1 (envB own fr env) σ'' H'',?_,?_⟩
   ·rintro σ'' H'' ⟨hle,hh⟩
    exact⟨ds.length - (i+1),by omega,rfl,hle,hh⟩
   ·intro x H'' hy
    obtain⟨sy,ry⟩:=yy x H'' hy
    rw[qAI hlt]at ec
    obtain⟨e1,ee1,ec⟩:=qA.mp ec
    obtain⟨b,eb,ec⟩:=qA.mp ec
    have ry':Rp (Offs (λa=>(A a\/a=p)\/L2.own (envB own fr env) σ' a) H'') ds[i] x:=Rp.same (Offs.sub λb z=>z.elim (λy=>y) λ⟨j,d',z,_⟩=>absurd z zio) _ ry
    refine h2 _ H1 (envB own fr env) σ' H'' _ x (hE.up sy) ry' e1 ee1 _ λσ2 hE2=>?_
    refine h3 _ H1 e1 σ2 H'' hE2 b eb _ λH3 s3=>?_
    have hE3:=hE2.up s3
    obtain⟨gl,gk⟩:=hx _ _ _ ee1
    have back:∀{H4:Hp},EnvOk (λb=>A b\/b=p) H1 e1 σ2 H4->EnvOk (λb=>A b\/b=p) H1 (envB own fr env) σ2 H4:=λ{H4} hh=>hh.weaken gl.symm (λj d' ej=>by
     by_cases hj:own.length<=j
     ·rw[gk j hj];exact ej
     ·obtain⟨_,k,rfl,_⟩:=zvg ej;omega) λj d'=>zio
    cases b with
    | false=>
     have ec:zew gf t e (envB own fr env) (ds.drop (i+1))=some rest:=ec
     exact iteF ⟨hlt,vs,done,rest,s3 _ _ (sy _ _ ep),Rps.same (Offs.grow (sy.trans s3)) _ rd,Nat.le_succ_of_le dl,ec,edr,back hE3⟩
    | true=>
     have ec:((e e1).bind λr=>(zew gf t e (envB own fr env) (ds.drop (i+1))).map λrs=>r.d::rs)=some rest:=ec
     obtain⟨r,er,ec⟩:=qA.mp ec
     obtain⟨rest',er',rfl⟩:=qG.mp ec
     refine iteT (h4 _ H1 e1 σ2 H3 hE3 r er _ λv H4 s4 hv=>?_)
     have t4:=(sy.trans s3).trans s4
     refine⟨vs,t4 _ _ ep,zlm (by rw[<- rd.length];omega),hlt,vs++[v],done++[r.d],rest',zam,?_,by rw[qZ];simp;omega,er',by rw[<- edr];simp,(back (hE3.up s4)).updFx (.inr rfl) hp⟩
     rw[Offs.upd (.inr rfl)]
     exact(Rps.same (Offs.grow t4) _ rd).append (zcx (Rp.same (Offs.sub λb z=>.inl z) _ hv.rp) zeb)
  ·have hi':i=ds.length:=by omega
   subst hi'
   rw[qBT]at ec
   cases ec
   rw[q9]at edr
   subst edr
   refine .inl ⟨ys,q _ H' (s.trans hE.base) ⟨?_,λ_=>⟨p,rfl,s.free hp,?_⟩⟩⟩
   ·show Rp (Offs (lim fx env σ (if zex done=true then[]else bs++capA fr env)) H') (.list done) (.ref p)
    have nl:∀cs,¬lim fx env σ cs p:=λcs z=>by
     obtain⟨o,eo⟩:=(h.up s).lims _ p z
     rw[hp]at eo;cases eo
    refine zhz (by rw[Offs.get (nl _)];exact ep) ?_
    split
    ·rename_i f;exact zmk f rd
    ·exact Rps.same (Offs.sub λb z=>.inl ((hA' b).mp z)) _ rd
   ·show zhf (Offs (λb=>lim fx env σ (if zex done=true then[]else bs++capA fr env) b\/b=p) H') H' p (.list done)
    refine⟨vs,ep,?_⟩
    split
    ·rename_i f;exact zmk f rd
    ·exact Rps.same (Offs.sub λb z=>z.imp (hA' b).mp id) _ rd
 ·cases hr
section
variable{X:Cx}{K:qB}
theorem zahz(hK:X.K=K){a:Expr}(ha:PE X a ta)(he:∀whole,isTrue a X.env whole=(do let v <- whole;standAt a.pos;holding [v] (truthy v))) :
  PT X a (λσ H Q=>ta σ H λx H'=>∃k,TruV K x H' k/\Q k H'):=by subst hK;exact zakx ha he
theorem zabf(hK:X.K=K):CallR X (.type "tuple") (λxs H Q=>∃p ys,xs=[.ref p]/\((SqL K H p ys/\∀l,H l=none->Q (.ref l) (upd H l (.tup ys)))\/(SqT K H p ys/\Q (.ref p) H))):=by subst hK;exact zuv
theorem zxz(hK:X.K=K)(hu:X.A.units+64<cLine):OpR X (compareOp .Eq) (λx y H Q=>rEq x y H Q\/rEqD K false x y H Q):=by subst hK;exact zaxh.or (zaup hu)
theorem zqn(hK:X.K=K)(hu:X.A.units+64<cLine):OpR X (compareOp .NotEq) (λx y H Q=>rNe x y H Q\/rEqD K true x y H Q):=by subst hK;exact zaxi.or (zauq hu)
noncomputable def zml:TF:=λ_=>some true
theorem zya:ST tAll zml:=by
 intro fx H0 env σ H hE b hb Q q
 cases hb
 exact q H (Same.refl _)
noncomputable def rIsC(neg:Bool):R2:=λx y H Q=>∃b,y=.bl b/\Q (.bl (if neg then !decide (x=y)else decide (x=y))) H
theorem zaia(r:RelV x v):(v==Value.bool b)=decide (x=.bl b):=by
 cases x with
 | non=>cases r;rfl
 | bl c=>cases r;cases b<;>cases c<;>rfl
 | int _=>obtain⟨t,rfl⟩:=r;rfl
 | str _=>obtain⟨t,rfl⟩:=r;rfl
 | byt _=>obtain⟨t,rfl⟩:=r;rfl
 | flt _=>obtain⟨t,rfl⟩:=r;rfl
 | ref _=>cases r;rfl
 | ty _=>cases r;rfl
theorem zaep(r:RelV x v):plainIs v (.bool b)=true:=by
 cases x with
 | non=>cases r;rfl
 | bl c=>cases r;rfl
 | int _=>obtain⟨t,rfl⟩:=r;rfl
 | str _=>obtain⟨t,rfl⟩:=r;rfl
 | byt _=>obtain⟨t,rfl⟩:=r;rfl
 | flt _=>obtain⟨t,rfl⟩:=r;rfl
 | ref _=>cases r;rfl
 | ty _=>cases r;rfl
theorem zqo:OpR X (compareOp .IsNot) (rIsC true):=by
 intro pins s σ H x y v u Q I rx ry h
 obtain⟨b,rfl,q⟩:=h
 cases ry
 exact wpAny_isNot_plain (zaep rx) ⟨.bl _,H,I,by rw[zaia rx];rfl,q⟩
noncomputable def isB:PyData->Bool->Bool
 | .bool c,b=>c==b
 | _,_=>false
noncomputable def isCD(neg:Bool):OF:=λd e=>match e with
 | .bool b=>some (.bool (if neg then !isB d b else isB d b),false)
 | _=>none
theorem zaxy(h:Rp H d v):decide (v=.bl b)=isB d b:=by
 cases d with
 | list ds=>obtain⟨a,xs,rfl,_⟩:=zdq h;rfl
 | tuple ds=>obtain⟨a,xs,rfl,_⟩:=zdg h;rfl
 | dict ds=>obtain⟨a,xs,rfl,_⟩:=zil h;rfl
 | bool c=>cases zjv h;exact zacq
 | _=>unfold Rp at h;subst h;rfl
theorem zare:SO (rIsC neg) (isCD neg):=by
 intro A H x y dx dy hA rx ry d fr e Q q
 unfold isCD at e
 split at e
 ·cases e
  cases zjv ry
  refine⟨_,rfl,?_⟩
  rw[zaxy rx]
  exact q _ H (Same.refl _) zar (λz=>by cases z)
 ·cases e
noncomputable def eNeg(a:EF):EF:=λenv=>(a env).bind λx=>match x.d with|.int i=>some ⟨.int (-i),false,[]⟩|_=>none
theorem zmm(h1:SE te f):SE (tUn (rU λi=>.int (-i)) te) (eNeg f):=by
 intro fx H0 env σ H h rr hr Q q
 unfold eNeg at hr
 obtain⟨⟨d,fr,bs⟩,ex,hr⟩:=qA.mp hr
 cases d with
 | int i=>
  cases hr
  exact h1 fx H0 env σ H h _ ex _ λv H1 s1 v1=>⟨i,zdm v1.rp,q _ H1 s1 ⟨zai,λz=>by cases z⟩⟩
 | _=>cases hr
end
end L2
namespace PySem
open Sem (wp)
theorem zaib:typeLookup (.type "list") "keys"=pure none:=by rw[typeLookup_type,builtinLookup_eq_fast];kernel_rfl
theorem zsg{prog:Program}{w:World}{A:Around}{E:Value->Shared->Prop}{s:Shared}{a:Addr}{o:Obj}{xs:Array Value}{k:Nat}{u:Tok}{Q:Value->Shared->Prop}
  (hx:s.heap.get? a=some o)(hc:o.cls=.type "list")(hdat:o.data=.seq xs k)(hd:o.dict=none)(hA:A.handled=none)
  (h:∀h' tk e,Heap.NewExcOf s.heap h' e "AttributeError"->E (.ref e) {s with heap:=h',toks:=tk}) :
  wpAny (model prog w) A (getAttrBy (.ref a) (.str "keys" u) false) Q E s:=by
 obtain⟨c,dct,dat,sl⟩:=o
 simp only at hc hdat hd
 subst hc hdat hd
 obtain⟨hp,g,d,tk,os⟩:=s
 have hT:∀tk',(⟨hp,g,d,tk',os⟩:Shared).TypeIs (.ref a) "list":=λ_=>⟨_,hx,rfl⟩
 have f1:=sub_AttributeError
 have f3:=qBu.lookup
 have f4:=qBu.bind (.ref a)
 have f5:=am_list_getattr_none
 unfold getAttrBy
 repeat (any_goals (first|assumption|exact hT _|((with_reducible show wpAny _ _ (call (Value.builtin "list.__getattribute__") _ _) _ _ _);refine qCb qBu (hT _) am_entry_list_getattribute (F.args_list_getattribute_2 _ _) (meets_getattribute_miss_list a xs k sl "keys" _ zaib (by decide) (by size_fits)) ⟨hx,hA,λh' tk' e hx'=>?_⟩)|wp_step))
 obtain⟨t',u',he⟩:=hx'.there
 show wpAny _ _ (getattributeRaised _ _ _ _ _ _ _) _ _ _
 unfold getattributeRaised
 repeat (any_goals (first|assumption|wp_step))
 exact h _ _ _ hx'.of
theorem zvh{prog:Program}{w:World}{A:Around}{E:Value->Shared->Prop}{s:Shared}{a:Addr}{o:Obj}{xs:Array Value}{k:Nat}{Q:Option Value->Shared->Prop}
  (hx:s.heap.get? a=some o)(hc:o.cls=.type "list")(hdat:o.data=.seq xs k)(hd:o.dict=none)(hA:A.handled=none)
  (h:∀h' tk,(∀b o,s.heap.get? b=some o->h'.get? b=some o)->Q none {s with heap:=h',toks:=tk}) :
  wpAny (model prog w) A (getAttr? (.ref a) "keys") Q E s:=by
 unfold getAttr? getAttrBy?
 refine qE (wpAny_mkText (qE (wpAny_attempt (zsg (s:={s with toks:=s.toks+1}) hx hc hdat hd hA λh' tk e x=>?_))))
 obtain⟨ob,vs,he,hcl,_,_⟩:=x.there
 show wpAny _ _ (do if <- isInstance (.ref e) (.type "AttributeError")then pure none else throw (.ref e)) _ _ _
 refine qE (qBa (T:="AttributeError") ⟨ob,he,hcl⟩ sub_AttributeError ?_)
 exact qR (h h' tk x.keeps)
theorem zer:plainId "dict.update.loop"=true:=by decide +kernel
theorem zkd:entryFor table "dict.update.loop"=some Builtin.«dict.update.loop»:=entryFor_of_fast (by kernel_rfl)
end PySem
namespace L2
open PySem PySem.Spec PyProof.Rows
theorem zke{α β:Type}{F:α->β->Prop}:∀{l:List α}{r:List β}{i:Nat}{x:α},Paired F l r->l[i]?=some x->∃y,r[i]?=some y/\F x y
 | _,_,_,_,.nil,e=>by simp at e
 | _,_,0,_,.cons h _,e=>by simp at e;subst e;exact⟨_,rfl,h⟩
 | _,_,i+1,x,.cons _ t,e=>by
  obtain⟨y,h1,h2⟩:=zke (i:=i) (x:=x) t (by simpa using e)
  exact⟨y,by simpa using h1,h2⟩
theorem zaeq(kvs:List (Key×Value))(k:Key)(v:Value):(stored kvs k v).length<=kvs.length+1:=by
 unfold stored
 split
 ·rw[qC];omega
 ·rw[qZ];simp
noncomputable def _root_.PySem.Heap.IsList0(h:Heap)(l:Addr)(items:Array Value):Prop:=∃o,h.get? l=some o/\o.cls=.type "list"/\∃n,o.data=.seq items n/\o.dict=none
noncomputable def zalz(ps:List (Key×Value))(kvs:List (Key×Value)):List (Key×Value):=ps.foldl (λacc p=>stored acc p.1 p.2) kvs
theorem zaic{prog:Program}{w:World}{A:Around}{R:Result->Shared->Prop}{d it l:Addr}{h0:Heap}{items:List Value}{ps:List (Key×Value)}(hA:A.in1.handled=none)
  (pr:Paired (λ(v:Value) (p:Key×Value)=>∃t kv,v=.ref t/\IsTup h0 t #[kv,p.2]/\zns p.1 kv=true) items ps)(hl:h0.IsList l items.toArray)(hd:h0.get? d=none)(hi:h0.get? it=none)(hdi:d≠it)(hz:items.length<=qV) :
  ∀(k i:Nat)(s:Shared)(kvs:List (Key×Value))(tk:Tok),items.length - i=k->i<=items.length->s.heap.IsListIter it l i->s.heap.DictOf (zbr prog w) d kvs->(∀b o,h0.get? b=some o->s.heap.get? b=some o)->kvs.length<=i->
  (∀h' tk',h'.DictOf (zbr prog w) d (zalz (ps.drop i) kvs)->(∀b o,h0.get? b=some o->h'.get? b=some o)->R (.ok (.ret .none)) {s with heap:=h',toks:=tk'})->
  codeAny (model prog w) A (.builtin "dict.update.loop" ⟨[.ref d,.ref it,.int i tk,.none],[]⟩) R s:=by
 have hlen:=pr.length
 have keepL:∀{h:Heap},(∀b o,h0.get? b=some o->h.get? b=some o)->h.IsList l items.toArray:=λ{h} kp=>Heap.IsList.at hl λo e=>kp _ o e
 intro k
 induction k with
 | zero=>
  intro i s kvs tk hk hile hit hdo kp hkl hR
  have hin:i=items.length:=by omega
  subst hin
  refine qBQ zkd ?_
  rw[qBS zer _]
  show wpAny _ A.in1 (pyNext (.ref it) >>=_) _ _ s
  refine qE (qCB hA hit (keepL kp) (by simp) λh' eb=>?_)
  show wpAny _ _ (Builtin.Dict.addKeywords d [] >>=_) _ _ _
  refine qE (qR (qR ?_))
  refine hR h' s.toks ?_ λb o e=>eb b o (λz=>by rw[z,hi]at e;cases e) (kp b o e)
  rw[qC0 (by omega)]
  exact hdo.extBut eb hdi
 | succ k ih=>
  intro i s kvs tk hk hile hit hdo kp hkl hR
  have hlt:i<items.length:=by omega
  obtain⟨p,hp,t,kv,ev,ht,hkey⟩:∃p,ps[i]?=some p/\∃t kv,items[i]=.ref t/\IsTup h0 t #[kv,p.2]/\zns p.1 kv=true:=by
   have:=pr
   obtain⟨p,h1,h2⟩:=zke pr (qK hlt)
   exact⟨p,h1,h2⟩
  refine qBQ zkd ?_
  rw[qBS zer _]
  show wpAny _ A.in1 (pyNext (.ref it) >>=_) _ _ s
  refine qE (qB4 hit (keepL kp) (x:=.ref t) (by rw[<- ev];simp[hlt]) λh1 hit1 sb1=>?_)
  have kp1:∀b o,h0.get? b=some o->h1.get? b=some o:=λb o e=>(sb1.2 b (λz=>by rw[z,hi]at e;cases e)).trans (kp b o e)
  have hd1:h1.DictOf (zbr prog w) d kvs:=hdo.sameBut sb1 hdi
  obtain⟨ot,g1,g2,n3,g3⟩:=ht
  refine qE (qBe (qE (wpAny_tryCatch ?_)))
  unfold Builtin.Dict.pairItems
  refine qE (qCh (T:="tuple") ⟨ot,kp1 _ _ g1,g2⟩ ?_)
  rw[if_pos (by decide)]
  refine qE (qC9 (kp1 _ _ g1) g3 (qR ?_))
  show wpAny _ _ (holding [kv,p.2] (dictSet d kv p.2)) _ _ _
  refine qBe (wpAny_dictSet_pairs (knd:=zbr prog w) (k:=p.1) hkey hd1 (λh2 hd2 sb2=>?_) (by omega))
  have hit2:h2.IsListIter it l (i+1):=by obtain⟨o,q1,q2,q3⟩:=hit1;exact⟨o,(sb2.2 _ (qAk hdi)).trans q1,q2,q3⟩
  refine qR ⟨plainId_quiet zer _,?_⟩
  have kp2:∀b o,h0.get? b=some o->h2.get? b=some o:=λb o e=>(sb2.2 b (λz=>by rw[z,hd]at e;cases e)).trans (kp1 b o e)
  refine ih (i+1) {s with heap:=h2,toks:=s.toks+1} (stored kvs p.1 p.2) _ (by omega) hlt hit2 hd2 kp2 ?_ λh' tk' hd' kp'=>?_
  ·have:=zaeq kvs p.1 p.2;omega
  ·refine hR h' tk' ?_ kp'
   have e:ps.drop i=p::ps.drop (i+1):=by
    obtain⟨hh,e⟩:=qM.mp hp
    rw[<- e];exact qAI hh
   rw[e]
   exact hd'
theorem zsh{prog:Program}{w:World}{A:Around}{E:Value->Shared->Prop}{s:Shared}{l:Addr}{items:List Value}{ps:List (Key×Value)}{Q:Value->Shared->Prop}(hA:A.handled=none)
  (pr:Paired (λ(v:Value) (p:Key×Value)=>∃t kv,v=.ref t/\IsTup s.heap t #[kv,p.2]/\zns p.1 kv=true) items ps)(hl:Heap.IsList0 s.heap l items.toArray)(hz:items.length<=qV)
  (h:∀h' tk,h'.DictOf (zbr prog w) s.heap.objs.size (zalz ps [])->(∀b o,s.heap.get? b=some o->h'.get? b=some o)->Q (.ref s.heap.objs.size) {s with heap:=h',toks:=tk}) :
  wpAny (model prog w) A (call (.type "dict") [.ref l]) Q E s:=by
 refine callType_codes (Q₁:=λobj s₁=>obj=.ref s.heap.objs.size/\s₁={s with heap:=s.heap.push {cls:=.type "dict",data:=.dict #[]}}) F.kt_called_dict (F.kt_typeCall_dict_1 _) F.entry_dict_init (kt_code_dict_new _ ⟨rfl,rfl⟩) ?_
 rintro obj s₁ ⟨rfl,rfl⟩
 have hnew:(s.heap.push {cls:=.type "dict",data:=.dict #[]}).DictOf (zbr prog w) s.heap.objs.size []:=qC2 s.heap
 obtain⟨ol,g1,g2,n3,g3,g4⟩:=id hl
 have hl':(s.heap.push {cls:=.type "dict",data:=.dict #[]}).get? l=some ol:=qF _ g1
 refine⟨hnew.typeIs,F.args_dict_init_2 _ _,?_⟩
 unfold Builtin.«dict.__init__»
 refine qE ?_
 unfold Builtin.Dict.selfAndRest
 refine qE (wpAny_notOrdered_dict hnew.typeIs ?_)
 show wpAny _ _ (pure (s.heap.objs.size,[Value.ref l])) _ _ _
 refine qR ?_
 show wpAny _ _ (Builtin.Dict.updateFrom "dict.__init__" s.heap.objs.size (.ref l) [] .none) _ _ _
 unfold Builtin.Dict.updateFrom
 refine qE (qCh (T:="list") ⟨ol,hl',g2⟩ ?_)
 rw[if_pos (by decide)]
 refine qE (zvh (s:={s with heap:=s.heap.push {cls:=.type "dict",data:=.dict #[]}}) hl' g2 g3 g4 hA λh1 tk1 kp1=>?_)
 rw[if_pos (by rfl)]
 refine qE (wpAny_rule ?_)
 have k1:∀b o,s.heap.get? b=some o->h1.get? b=some o:=λb o e=>kp1 b o (qF _ e)
 have hd1:h1.DictOf (zbr prog w) s.heap.objs.size []:=by
  obtain⟨o,es,ep,q1,q2⟩:=hnew
  exact⟨o,es,ep,kp1 _ _ q1,q2⟩
 refine qE (qBU (items:=items.toArray) ⟨ol,k1 _ _ g1,g2,n3,g3⟩ ?_)
 refine qR ⟨plainId_quiet zer _,?_⟩
 have hsz:s.heap.objs.size<h1.objs.size:=by obtain⟨o,es,ep,q1,q2⟩:=hd1;exact qO q1
 refine zaic (h0:=s.heap) (by exact hA) pr ⟨ol,g1,g2,n3,g3⟩ (qAl (qQ _)) (qAl (qBD hsz)) (qr hsz) hz items.length 0 _ [] _ rfl (qAK _) ⟨_,qd _ rfl,rfl,rfl⟩ (hd1.push _) (λb o e=>qF _ (k1 b o e)) (qAK _) λh' tk' hd' kp'=>?_
 exact⟨rfl,h h' tk' hd' kp'⟩
noncomputable def zavj:List V->Hp->VK->Prop:=λxs H Q=>∃p rows kvs,xs=[.ref p]/\H p=some (.lst rows)/\Paired (λ(v:V)(kv:Key×V)=>∃t,v=.ref t/\H t=some (.tup [kV kv.1,kv.2])) rows kvs/\∀d,H d=none->Q (.ref d) (upd H d (.dK (zgy [] kvs)))
theorem zaid:∀{more:List (Key×V)}{ms:List (Key×Value)}{kvs:List (Key×V)}{vs:List (Key×Value)},KV kvs vs->KV more ms->KV (zgy kvs more) (zalz ms vs)
 | _,_,_,_,h,.nil=>h
 | p::r,q::s,kvs,vs,h,.cons e t=>by
  obtain⟨e1,e2⟩:=e
  show KV (zgy (putK kvs p.1 p.2) r) (zalz s (stored vs q.1 q.2))
  rw[<- e1]
  exact zaid (h.put p.1 e2) t
theorem zaie{s:Shared}(I:Inv X pins σ H s):∀{rows:List V}{kvs:List (Key×V)}{its:List Value},Paired (λ(v:V)(kv:Key×V)=>∃t,v=.ref t/\H t=some (.tup [kV kv.1,kv.2])) rows kvs->Vals rows its->
  ∃ms:List (Key×Value),KV kvs ms/\Paired (λ(v:Value)(p:Key×Value)=>∃t kv,v=.ref t/\IsTup s.heap t #[kv,p.2]/\zns p.1 kv=true) its ms
 | _,_,_,.nil,.nil=>⟨[],.nil,.nil⟩
 | v::rows,kv::kvs,u::its,.cons h t,.cons r rr=>by
  obtain⟨ms,h1,h2⟩:=zaie I t rr
  obtain⟨a,rfl,ha⟩:=h
  cases(show u=Value.ref a from r)
  obtain⟨_,its',rv,ht⟩:=(show zdk X.prog X.w H s.heap a (.tup [kV kv.1,kv.2])from I.hok a _ ha)
  obtain⟨k',v',rfl,rk,rv'⟩:=zwx rv
  exact⟨(kv.1,v')::ms,.cons ⟨rfl,rv'⟩ h1,.cons ⟨a,k',rfl,ht,zxg (P:=X.prog) (w:=X.w) rk⟩ h2⟩
theorem znx{X:Cx}(hc:X.calm=true):CallR X (.type "dict") zavj:=by
 intro pins s σ H xs us Q I r h
 obtain⟨p,rows,kvs,rfl,hp,pr,q⟩:=h
 obtain⟨u,rfl,ru⟩:=zaai r
 cases ru
 obtain⟨hz,its,n,rv,hg⟩:=(show zdk X.prog X.w H s.heap p (.lst rows)from I.hok p _ hp)
 obtain⟨ms,h1,h2⟩:=zaie I pr rv
 refine zsh (I.ok.hd hc) h2 ⟨_,hg,rfl,n,rfl,rfl⟩ (by rw[<- rv.length];exact hz) λh' tk hd kp=>?_
 refine⟨.ref s.heap.objs.size,_,I.laid (t':=tk) kp (qQ _) ?_,rfl,q _ (I.hok.fresh (qQ _))⟩
 refine zacv ?_ ?_ (zaid .nil h1) hd
 ·refine qAE (zfw kvs []) ?_
  rw[qA2,qDD,<- pr.length];exact hz
 ·have:=I.big
  exact beq_eq_false_iff_ne.mpr (qBh this)
noncomputable def ztq:List PyData->Option (List (PyData×PyData))
 | []=>some []
 | .tuple [k,v]::r=>(keyD k).bind λ_=>(ztq r).map λps=>(k,v)::ps
 | _=>none
noncomputable def zny:GF
 | [.list rows]=>(ztq rows).map λps=>(.dict (zhg [] ps),true)
 | _=>none
theorem zyb{A:Addr->Prop}:∀{rows:List PyData}{vs:List V}{ps:List (PyData×PyData)},Rps (Offs A H) rows vs->ztq rows=some ps->
  ∃kvs:List (Key×V),Rpd (Offs A H) ps kvs/\Paired (λ(v:V)(kv:Key×V)=>∃t,v=.ref t/\H t=some (.tup [kV kv.1,kv.2])) vs kvs
 | [],vs,ps,h,e=>by unfold Rps at h;cases e;subst h;exact⟨[],zjw,.nil⟩
 | d::rows,vs,ps,h,e=>by
  unfold Rps at h
  obtain⟨v,ws,rfl,h1,h2⟩:=h
  unfold ztq at e
  split at e
  ·rename_i heq;cases heq
  ·rename_i k d' r heq
   cases heq
   obtain⟨kk,ek,e⟩:=qA.mp e
   obtain⟨ps',ep,rfl⟩:=qG.mp e
   obtain⟨kvs,g1,g2⟩:=zyb h2 ep
   obtain⟨a,xs,rfl,ha,r⟩:=zdg h1
   obtain⟨x,y,rfl,r1,r2⟩:=rps2 r
   rw[zaax r1 ek]at ha
   exact⟨(kk,y)::kvs,zim ek r2 g1,.cons ⟨a,rfl,zcz ha⟩ g2⟩
  ·cases e
theorem zabg:SC zavj zny:=by
 intro A H vs ds hA rv d fr e Q q
 unfold zny at e
 split at e
 ·obtain⟨ps,he,e⟩:=qG.mp e
  cases e
  obtain⟨v,rfl,r1⟩:=rps1 rv
  obtain⟨p,xs,rfl,h1,r⟩:=zdq r1
  obtain⟨kvs,g1,g2⟩:=zyb r he
  refine⟨p,xs,kvs,rfl,zcz h1,g2,λd hd=>?_⟩
  have m:∀{B:Addr->Prop},(∀b,B b->A b\/b=d)->Rpd (Offs B (upd H d (.dK (zgy [] kvs)))) (zhg [] ps) (zgy [] kvs):=λ{B} hB=>Rpd.merge zjw (Rpd.same (Offs.mono (Same.new hd) λb o eo n z=>(hB b z).elim n λy=>by rw[y,hd]at eo;cases eo) _ g1)
  exact q _ _ (Same.new hd) (zku (by rw[Offs.get (zeq hA hd)];exact zam) (m λb z=>.inl z)) λ_=>⟨d,rfl,hd,⟨_,zam,m λb z=>z⟩⟩
 ·cases e
noncomputable def zgp(i j:Nat)(f:EF):SF:=λenv=>match env[i]?,env[j]? with
 | some (.ac (.list ds)),some (.ac (.list es))=>(f env).bind λr=>match r.d with
  | .int k=>if 0<=k/\k<100000/\ds.length<100000/\i≠j then(es[k.toNat]?).bind λd=>some (.nx ((env.set j (.ac (.list (es.eraseIdx k.toNat)))).set i (.ac (.list (ds++[d])))))else none
  | _=>none
 | _,_=>none
theorem Rps.erase{ds:List PyData}{vs:List V}(h:Rps H ds vs)(n:Nat):Rps H (ds.eraseIdx n) (vs.eraseIdx n):=by
 induction n generalizing ds vs with
 | zero=>
  cases ds with
  | nil=>unfold Rps at h;subst h;exact zeb
  | cons d ds=>unfold Rps at h;obtain⟨v,ws,rfl,h1,h2⟩:=h;exact h2
 | succ n ih=>
  cases ds with
  | nil=>unfold Rps at h;subst h;exact zeb
  | cons d ds=>unfold Rps at h;obtain⟨v,ws,rfl,h1,h2⟩:=h;exact zcx h1 (ih h2)
theorem zyc{K:qB}{i j:Nat}{te:TE}{f:EF}(h1:SE te f):SS (tDrop (tBM K "list" zuw (tVar i) (tCons (tBM K "list" zaob (tVar j) (tCons te tNil)) tNil))) (zgp i j f):=by
 intro fx H0 env σ H D h o e q
 unfold zgp at e
 split at e
 ·rename_i ds es ei ej
  obtain⟨⟨rd,rfr,rbs⟩,er,e⟩:=qA.mp e
  cases rd with
  | int k=>
   have e:(if 0<=k/\k<100000/\ds.length<100000/\i≠j then(es[k.toNat]?).bind λd=>some (Out.nx ((env.set j (.ac (.list (es.eraseIdx k.toNat)))).set i (.ac (.list (ds++[d])))))else none)=some o:=e
   split at e
   ·rename_i hl
    obtain⟨d,ed,e⟩:=qA.mp e
    cases e
    obtain⟨a,g1,g2,g3,g4⟩:=h.ac i _ ei
    obtain⟨xs,hx,rx⟩:=g4
    obtain⟨b,k1,k2,k3,k4⟩:=h.ac j _ ej
    obtain⟨ys,hy,ry⟩:=k4
    have hab:a≠b:=λz=>hl.2.2.2 (h.inj i j _ _ a ei ej g1 (by rw[z];exact k1))
    refine⟨_,g1,.inl ⟨rfl,_,SqL.of hx⟩,_,k1,.inl ⟨rfl,_,SqL.of hy⟩,h1 fx H0 env σ H h _ er _ λv H' s hv=>?_⟩
    cases zdm hv.rp
    have h':=h.up s
    have hy':=s _ _ hy
    have hx':=s _ _ hx
    have ry':Rps (Offs (λb=>fx b\/own env σ b) H') es ys:=Rps.same (Offs.grow s) _ ry
    have rx':Rps (Offs (λb=>fx b\/own env σ b) H') ds xs:=Rps.same (Offs.grow s) _ rx
    obtain⟨u,hu,ru⟩:=ry'.get2 ed
    have hlt:k.toNat<ys.length:=(qM.mp hu).1
    have hsq:seqIndex? k ys.length=some k.toNat:=seqIndex_of hl.1 (by omega)
    refine⟨b,ys,k,k.toNat,u,rfl,rfl,hy',by omega,by omega,hsq,hu,?_⟩
    have h2:=h'.mut ej k1 (d':=.list (es.eraseIdx k.toNat)) (o:=.lst (ys.eraseIdx k.toNat)) ⟨_,zam,ry'.erase _⟩
    have ei2:(env.set j (.ac (.list (es.eraseIdx k.toNat))))[i]?=some (.ac (.list ds)):=by rw[qL (qAk hl.2.2.2)];exact ei
    have hx2:(upd H' b (.lst (ys.eraseIdx k.toNat))) a=some (.lst xs):=by rw[zap hab];exact hx'
    obtain⟨a',z1,_,_,z4⟩:=h2.ac i _ ei2
    rw[g1]at z1
    cases z1
    obtain⟨zs,y1,y2⟩:=z4
    rw[hx2]at y1
    cases y1
    have ow:Same (Offs (λb=>fx b\/own env σ b) H') (Offs (λc=>fx c\/own (env.set j (.ac (.list (es.eraseIdx k.toNat)))) σ c) (upd H' b (.lst (ys.eraseIdx k.toNat)))):=by
     have t:Same (Offs (λb=>fx b\/own env σ b) (upd H' b (.lst (ys.eraseIdx k.toNat)))) (Offs (λc=>fx c\/own (env.set j (.ac (.list (es.eraseIdx k.toNat)))) σ c) (upd H' b (.lst (ys.eraseIdx k.toNat)))):=Offs.sub λc z=>z.imp (λy=>y) λ⟨m,d1,w1,w2⟩=>by
      rcases zcm w1 with⟨rfl,_⟩|⟨_,w1⟩
      ·exact⟨m,_,ej,w2⟩
      ·exact⟨m,d1,w1,w2⟩
     rw[Offs.upd (.inr ⟨j,_,ej,k1⟩)]at t
     exact t
    refine⟨a,xs,u,rfl,rfl,hx2,zlm (by rw[<- rx.length];exact hl.2.2.1),?_⟩
    exact q σ _ (h2.mut ei2 g1 ⟨_,zam,y2.append (zcx (Rp.same ow _ ru) zeb)⟩)
   ·cases e
  | _=>cases e
 ·cases e
noncomputable def zco(i:Nat)(b:EF):EF:=λenv=>match env[i]? with
 | some (.pl (.dict kvs))=>(b env).bind λy=>(keyD y.d).bind λk=>(zln kvs k).bind λd=>some ⟨d,false,[]⟩
 | some (.ac (.dict kvs))=>(b env).bind λy=>(keyD y.d).bind λk=>(zln kvs k).bind λd=>some ⟨d,false,[]⟩
 | _=>none
theorem zhc(hb:SE ty fb):SE (tDGet (tVar i) ty) (zco i fb):=by
 intro fx H0 env σ H h rr hr Q q
 unfold zco at hr
 have key:∀(a:Addr)(ps:List (Key×V))(kvs:List (PyData×PyData)),σ[i]?=some (some (.ref a))->H a=some (.dK ps)->Rpd (Offs (λb=>fx b\/own env σ b) H) kvs ps->((fb env).bind λy=>(keyD y.d).bind λk=>(zln kvs k).bind λd=>some (⟨d,false,[]⟩:Val))=some rr->tDGet (tVar i) ty σ H Q:=by
  intro a ps kvs hs ha r hr
  obtain⟨y,ey,hr⟩:=qA.mp hr
  obtain⟨k,ek,hr⟩:=qA.mp hr
  obtain⟨d,ed,hr⟩:=qA.mp hr
  cases hr
  refine⟨_,hs,hb fx H0 env σ H h _ ey _ λu H2 s2 v2=>?_⟩
  have g:=(Rpd.same (Offs.grow s2) _ r).get (j:=k)
  rw[ed]at g
  obtain⟨w,e1,e2⟩:=g
  rw[zaax v2.rp ek]
  have dg:=DGet.k (k:=k) (s2 _ _ ha)
  rw[e1]at dg
  exact⟨a,w,rfl,dg,q w H2 s2 ⟨Rp.same (Offs.sub zpz) _ e2,λz=>by cases z⟩⟩
 split at hr
 ·rename_i kvs ei
  obtain⟨v,h1,h2⟩:=h.pl i _ ei
  obtain⟨a,ps,rfl,ha,r⟩:=zil h2
  exact key a ps kvs h1 (zcz ha) r hr
 ·rename_i kvs ei
  obtain⟨a,h1,h2,h3,ps,ha,r⟩:=h.ac i _ ei
  exact key a ps kvs h1 ha r hr
 ·cases hr
noncomputable def eIxV(i:Nat)(b:EF):EF:=λenv=>match env[i]? with
 | some (.ac (.list ds))=>(b env).bind λy=>match y.d with
  | .int k=>(atI ds k).map λd=>⟨d,false,[]⟩
  | _=>none
 | _=>eOp ixD (eVar i) b env
theorem zcr{K:qB}{i:Nat}{tb:TE}{fb:EF}(hb:SE tb fb):SE (tOp (rIxU K) (tVar i) tb) (eIxV i fb):=by
 intro fx H0 env σ H h rr hr Q q
 unfold eIxV at hr
 split at hr
 ·rename_i ds ei
  obtain⟨⟨dy,fy,bys⟩,ey,hr⟩:=qA.mp hr
  cases dy with
  | int k=>
   obtain⟨d,ed,rfl⟩:=qG.mp hr
   obtain⟨a,h1,h2,h3,xs,ha,r⟩:=h.ac i _ ei
   refine⟨_,h1,hb fx H0 env σ H h _ ey _ λu H2 s2 v2=>?_⟩
   cases zdm v2.rp
   obtain⟨v,hv,rv⟩:=(Rps.same (Offs.grow s2) _ r).atI ed
   exact⟨xs,v,.inl (SqL.of (s2 _ _ ha)),hv,q _ H2 s2 ⟨Rp.same (Offs.sub zpz) _ rv,λz=>by cases z⟩⟩
  | _=>cases hr
 ·exact zbb zaqo (zac i) hb fx H0 env σ H h rr hr Q q
noncomputable def zaif(wi:TI)(g:TG)(tt:TT)(tm:TM):TM:=λσ H Q=>wi σ H λJ H1=>zags J g tt tm σ H1 Q
section
variable{X:Cx}
theorem zabh{M:Model}{P:Program}{w:World}{A:Around}{R:Result->Shared->Prop}{s:Shared}{elt:Expr}{g0:Comprehension}{target iter:Expr}{ifs:List Expr}{rest:List Comprehension}{scope:Scope}{cpos:Pos}{it acc:Value}{env:Env}
  (l:codeAny (model P w) A (.compLoop (.ListComp elt (g0::⟨target,iter,ifs,0⟩::rest) scope cpos) 1 it acc env) R s)
  (t:∀(A:Around) (E:Value->Shared->Prop),wpAny (model P w) A (pyIter it) (λu s'=>u=it/\s'=s) E s) :
  codeAny (model P w) A (.compStart (.ListComp elt (g0::⟨target,iter,ifs,0⟩::rest) scope cpos) 1 it acc env) R s:=by
 refine qCy ?_
 show wpAny _ _ ((compStart (.ListComp elt (g0::⟨target,iter,ifs,0⟩::rest) scope cpos) 1 it acc env).onRaise (λx=>do noteFrame x env;standAt theWindowsPlace)) _ _ s
 refine wpAny_notedAt ?_
 unfold compStart
 show wpAny _ _ (ask >>=_) _ _ s
 refine qE (wpAny_askSetting (wpAny_ite ?_))
 split
 ·first
   | exact qE (qR (qR (And.intro rfl l)))
   | exact qR (And.intro rfl l)
 ·refine qE (wpAny_rule ?_)
  first
   | exact qE (qBN (qE (thn (t _ _) λu s' z=>by obtain⟨e1,e2⟩:=z;subst e1;subst e2;exact qR (And.intro rfl l))))
   | (show wpAny _ _ (standAt iter.pos >>=_) _ _ s;exact qE (qBN (qE (thn (t _ _) λu s' z=>by obtain⟨e1,e2⟩:=z;subst e1;subst e2;exact qR (And.intro rfl l)))))
theorem zama{target iter:Expr}
  (hx:X.xe=λ_ _=>False)(hc:X.calm=true)(hi:PI X target iter wi)(hg:PG X target g)(ht:PF X ifs tt)(he:PE X elt0 te)
  (hs:∀x,foldedSetIterable iter X.env x=pure x) :
  PM X (do
   let x <- eval iter X.env
   standAt iter.pos
   let x <- foldedSetIterable iter X.env x
   let _ <- runOwn (.compStart (.ListComp elt0 [g0,⟨target,iter,ifs,0⟩] scope cpos) 1 (<- holding [x] (pyIter x)) (.ref p) X.env) X.env) (zaif wi g tt (zaek p te)):=by
 intro pins s σ H Q I h
 refine qE (thn (hi pins s σ H _ I h) λv s1 h1=>?_)
 refine qE (qBN ?_)
 rw[hs]
 refine qE (qR (qE (qBe (thn h1 λitv s2 h2=>?_))))
 obtain⟨it,fp,tn,J,H2,e,I2,T,st2,f2,q⟩:=h2
 subst e
 refine qE (thn (wpAny_runOwn (h:=none) (Q:=λ_ s'=>∃σ' H',Inv X pins σ' H' s'/\Q σ' H') ?_) λ_ _ z=>qR z)
 refine zabh (M:=model X.prog X.w) ?_ λA E=>T.self A 0 s2 _ E st2 ⟨rfl,rfl⟩
 refine qA0 (zpv (X:=X) (pins:=pins) hx hc (elt0:=elt0) (gens:=[g0,⟨target,iter,ifs,0⟩]) (depth:=1) (ip:=iter.pos) (emit:=(do let _ <- call (.builtin "list.append") [.ref p,<- eval elt0 X.env])) rfl T hg ht (zaan he) I2 st2 f2 q) λr s5 hr=>?_
 obtain⟨rfl,z⟩:=hr
 exact z
theorem zaxz(elt target iter target2 iter2:Expr)(ifs ifs2:List Expr)(scope:Scope)(cpos:Pos)(it acc:Value)(env:Env) :
  compTurn (.ListComp elt [⟨target,iter,ifs,0⟩,⟨target2,iter2,ifs2,0⟩] scope cpos) 0 it acc env=(do
   standAt iter.pos
   match <- pyNext it with
   | none=>pure (.done .next)
   | some v=>
    letOwnedTupleGo target it v
    assign target env v
    let mut ok:=true
    for c in ifs do
     if ok then ok <- isTrue c env (eval c env)
    if ok then do
     let x <- eval iter2 env
     standAt iter2.pos
     let x <- foldedSetIterable iter2 env x
     let i <- holding [x] (pyIter x)
     let _ <- runOwn (.compStart (.ListComp elt [⟨target,iter,ifs,0⟩,⟨target2,iter2,ifs2,0⟩] scope cpos) 1 i acc env) env
     again (.compLoop (.ListComp elt [⟨target,iter,ifs,0⟩,⟨target2,iter2,ifs2,0⟩] scope cpos) 0 it acc env)
    else again (.compLoop (.ListComp elt [⟨target,iter,ifs,0⟩,⟨target2,iter2,ifs2,0⟩] scope cpos) 0 it acc env)):=rfl
noncomputable def tComp2(wi:TI)(g:TG)(tt:TT)(wi2:TI)(g2:TG)(tt2:TT)(te:TE)(own:List Str)(fr:List Nat):TE:=zalf wi g tt (λp=>zaif wi2 g2 tt2 (zaek p te)) own fr
theorem zamb{scope:Scope}{N' own:List Str}{fr:List Nat}{elt target iter target2 iter2:Expr}{ifs ifs2:List Expr}{cpos:Pos}{wi wi2:TI}{g g2:TG}{tt tt2:TT}{te:TE}(c:CompOk X scope N' own fr)(hc:X.calm=true)(hi:PI X target iter wi)
  (hb:∀(cl:List (Str×Addr)) (C:Addr) (s:Shared) (H:Hp) (fp:List Addr),PG (cxComp X scope N' own cl C s H fp) target g/\PF (cxComp X scope N' own cl C s H fp) ifs tt/\PI (cxComp X scope N' own cl C s H fp) target2 iter2 wi2/\PG (cxComp X scope N' own cl C s H fp) target2 g2/\PF (cxComp X scope N' own cl C s H fp) ifs2 tt2/\PE (cxComp X scope N' own cl C s H fp) elt te)
  (hs:∀x,foldedSetIterable iter X.env x=pure x:=by intro _;rfl)(hs2:∀env x,foldedSetIterable iter2 env x=pure x:=by intro _ _;rfl) :
  PE X (.ListComp elt [⟨target,iter,ifs,0⟩,⟨target2,iter2,ifs2,0⟩] scope cpos) (tComp2 wi g tt wi2 g2 tt2 te own fr):=
 zacx (emit:=λacc env=>do
   let x <- eval iter2 env
   standAt iter2.pos
   let x <- foldedSetIterable iter2 env x
   let _ <- runOwn (.compStart (.ListComp elt [⟨target,iter,ifs,0⟩,⟨target2,iter2,ifs2,0⟩] scope cpos) 1 (<- holding [x] (pyIter x)) acc env) env) c hc (λit acc env=>by
   rw[zaxz]
   refine bind_congr λ_=>bind_congr λr=>?_
   cases r with
   | none=>rfl
   | some v=>
    refine bind_congr λ_=>bind_congr λ_=>bind_congr λok=>?_
    cases ok with
    | false=>rfl
    | true=>simp only[if_true,bind_assoc,pure_bind]) hi
  (λcl C s H fp p=>let⟨h1,h2,h3,h4,h5,h6⟩:=hb cl C s H fp;⟨h1,h2,zama (X:=cxComp X scope N' own cl C s H fp) rfl hc h3 h4 h5 h6 (λx=>hs2 _ x)⟩) hs
end
noncomputable def NoAc(env:DEnv):Prop:=∀(i:Nat)(d:PyData),env[i]?≠some (.ac d)
noncomputable def GZ(lo hi:Nat)(g:GT):Prop:=∀d env e1,g d env=some e1->e1.length=env.length/\(∀i,(i<lo\/hi<=i)->e1[i]?=env[i]?)/\(NoAc env->NoAc e1)
theorem zamc{env:DEnv}(h:NoAc env):NoAc (env.set i (.pl d)):=by
 intro j d' e
 by_cases q:i=j
 ·subst q
  by_cases l:i<env.length
  ·rw[qX l]at e;cases e
  ·rw[qBR (by simp;omega)]at e;cases e
 ·rw[qL q]at e;exact h j d' e
theorem zaig{lo hi i:Nat}(h:lo<=i)(h':i<hi):GZ lo hi (gN i):=by
 intro d env e1 e
 cases e
 exact⟨qw,λj hj=>qL (by omega),zamc⟩
theorem zqp:∀{ds rs:List PyData},zew g t e env ds=some rs->rs.length<=ds.length
 | [],rs,h=>by cases h;exact qQ _
 | d::ds,rs,h=>by
  unfold zew at h
  obtain⟨e1,_,h⟩:=qA.mp h
  obtain⟨b,_,h⟩:=qA.mp h
  split at h
  ·obtain⟨r,_,h⟩:=qA.mp h
   obtain⟨rs',h',rfl⟩:=qG.mp h
   have:=zqp h'
   simp;omega
  ·have:=zqp h
   simp;omega
noncomputable def innL(f2:IF')(g2:GT)(t2:TF)(e:EF)(e1:DEnv):Option (List PyData):=(f2 e1).bind λz=>if z.1.length<300 then zew g2 t2 e e1 z.1 else none
noncomputable def zkf(g:GT)(t:TF)(f2:IF')(g2:GT)(t2:TF)(e:EF)(env:DEnv):List PyData->Option (List PyData)
 | []=>some []
 | d::ds=>(g d env).bind λe1=>(t e1).bind λb=>if b=true then(innL f2 g2 t2 e e1).bind λr1=>(zkf g t f2 g2 t2 e env ds).map λrs=>r1++rs else zkf g t f2 g2 t2 e env ds
noncomputable def zyd(own:List Str)(fr:List Nat)(fi:IF')(g:GT)(t:TF)(f2:IF')(g2:GT)(t2:TF)(e:EF):EF:=λenv=>(fi env).bind λz=>if z.1.length<300 then
 (zkf g t f2 g2 t2 e (envB own fr env) z.1).map λrs=>⟨.list rs,true,if zex rs=true then[]else z.2++capA fr env⟩else none
theorem zamd{B:Addr->Prop}{done rest ds:List PyData}{Q:St->Hp->Prop}
  (h5:SI wi2 f2)(h6:SG g2 gf2)(hy:GZ k n gf2)(h7:ST tt2 t2)(h4:SE te e)(na:NoAc e1)(no:∀(i:Nat) (d:PyData),k<=i->i<n->e1[i]?≠some (.pl d))
  (hB:B p)(hp:H1 p=none)(hE:EnvOk B H1 e1 σ H)(ep:H p=some (.lst vs))(rd:Rps (Offs B H) done vs)(ei:f2 e1=some (ds,bs))(dl:done.length+ds.length<100000)(ec:zew gf2 t2 e e1 ds=some rest)
  (q:∀σ' H' vs',H' p=some (.lst vs')->Rps (Offs B H') (done++rest) vs'->EnvOk B H1 e1 σ' H'->Q σ' H'):zaif wi2 g2 tt2 (zaek p te) σ H Q:=by
 refine h5 B H1 e1 σ H hE ds bs ei _ λJ H4 s4 yl=>?_
 have hE4:=hE.up s4
 have n4:Offs (λb=>b=p) H4 p=none:=Offs.out rfl
 refine⟨λi m σ' H'=>m=ds.length - i/\i<=ds.length/\∃vs done' rest',H' p=some (.lst vs)/\Rps (Offs B H') done' vs/\done'.length<=done.length+i/\zew gf2 t2 e e1 (ds.drop i)=some rest'/\done'++rest'=done++rest/\EnvOk B (Offs (λb=>b=p) H4) e1 σ' H',
  ⟨ds.length,rfl,qAK _,vs,done,rest,s4 _ _ ep,Rps.same (Offs.grow s4) _ rd,qQ _,ec,rfl,⟨hE4.len,hE4.pl,λi d z=>absurd z (na i d),hE4.inj,Offs.same _ _,hE4.fxs⟩⟩,?_⟩
 rintro i m σ' H' ⟨rfl,hi,vs,done',rest',ep',rd',dl',ec',edr,hE'⟩
 obtain⟨yi,ys⟩:=yl B H' hE'.fxs λb o z=>by
  obtain⟨z1,z2⟩:=Offs.of z
  have hb:¬B b:=λy=>z1 (.inl y)
  rw[Offs.get hb]
  exact hE'.base b o (by rw[Offs.get λy=>hb (by rw[y];exact hB)];exact z2)
 by_cases hlt:i<ds.length
 ·obtain⟨yg,yy⟩:=yi i ds[i] (qK hlt)
  refine .inr ⟨yg,λσ'' H''=>i+1<=ds.length/\∃vs done' rest',H'' p=some (.lst vs)/\Rps (Offs B H'') done' vs/\done'.length<=done.length+(i+1)/\zew gf2 t2 e e1 (ds.drop (i+1))=some rest'/\done'++rest'=done++rest/\EnvOk B (Offs (λb=>b=p) H4) e1 σ'' H'',?_,?_⟩
  ·rintro σ'' H'' ⟨hle,hh⟩
   exact⟨ds.length - (i+1),by omega,rfl,hle,hh⟩
  ·intro x H'' hyx
   obtain⟨sy,ry⟩:=yy x H'' hyx
   rw[qAI hlt]at ec'
   obtain⟨e2,ee2,ec'⟩:=qA.mp ec'
   obtain⟨b,eb,ec'⟩:=qA.mp ec'
   have ry':Rp (Offs (λa=>B a\/L2.own e1 σ' a) H'') ds[i] x:=Rp.same (Offs.sub λb z=>z.elim (λy=>y) λ⟨j,d',z,_⟩=>absurd z (na _ _)) _ ry
   refine h6 _ _ e1 σ' H'' _ x (hE'.up sy) ry' e2 ee2 _ λσ2 hE2=>?_
   refine h7 _ _ e2 σ2 H'' hE2 b eb _ λH3 s3=>?_
   have hE3:=hE2.up s3
   obtain⟨gl,gk,_⟩:=hy _ _ _ ee2
   have back:∀{H4':Hp},EnvOk B (Offs (λb=>b=p) H4) e2 σ2 H4'->EnvOk B (Offs (λb=>b=p) H4) e1 σ2 H4':=λ{H4'} hh=>hh.weaken gl.symm (λj d' ej=>by
    by_cases hj:j<k\/n<=j
    ·rw[gk j hj];exact ej
    ·exact absurd ej (no j d' (by omega) (by omega))) na
   cases b with
   | false=>
    have ec':zew gf2 t2 e e1 (ds.drop (i+1))=some rest':=ec'
    exact iteF ⟨hlt,vs,done',rest',s3 _ _ (sy _ _ ep'),Rps.same (Offs.grow (sy.trans s3)) _ rd',Nat.le_succ_of_le dl',ec',edr,back hE3⟩
   | true=>
    have ec':((e e2).bind λr=>(zew gf2 t2 e e1 (ds.drop (i+1))).map λrs=>r.d::rs)=some rest':=ec'
    obtain⟨r,er,ec'⟩:=qA.mp ec'
    obtain⟨rest2,er',rfl⟩:=qG.mp ec'
    refine iteT (h4 _ _ e2 σ2 H3 hE3 r er _ λv H5 s5 hv=>?_)
    have t5:=(sy.trans s3).trans s5
    refine⟨vs,t5 _ _ ep',zlm (by rw[<- rd'.length];omega),hlt,vs++[v],done'++[r.d],rest2,zam,?_,by rw[qZ];simp;omega,er',by rw[<- edr];simp,(back (hE3.up s5)).updFx hB n4⟩
    rw[Offs.upd hB]
    refine(Rps.same (Offs.grow t5) _ rd').append (zcx (Rp.same (Offs.sub λb z=>.inl z) _ hv.rp) zeb)
 ·have hi':i=ds.length:=by omega
  subst hi'
  rw[qBT]at ec'
  cases ec'
  rw[q9]at edr
  subst edr
  exact .inl ⟨ys,q σ' H' vs ep' rd' ⟨hE'.len,hE'.pl,λi d z=>absurd z (na i d),hE'.inj,λb o z=>hE'.base b o (by rw[Offs.get λy=>by rw[y,hp]at z;cases z];exact s4 b o (hE.base b o z)),hE'.fxs⟩⟩
theorem zame{own:List Str}(h:i<own.length):(envB own fr env)[i]?=some .no:=by
 unfold envB
 rw[qm (by simpa using h),qS,qK h];rfl
theorem zamf{own:List Str}(h1:SI wi fi)(h2:SG g gf)(hx:GZ 0 k gf)(hk:k<=own.length)(h3:ST tt t)
  (h5:SI wi2 f2)(h6:SG g2 gf2)(hy:GZ k own.length gf2)(h7:ST tt2 t2)(h4:SE te e) :
  SE (tComp2 wi g tt wi2 g2 tt2 te own fr) (zyd own fr fi gf t f2 gf2 t2 e):=by
 intro fx H0 env σ H h rr hr Q q
 unfold zyd at hr
 obtain⟨⟨ds,bs⟩,ei,hr⟩:=qA.mp hr
 split at hr
 ·rename_i hlen
  have hlen:ds.length<300:=hlen
  obtain⟨rs,ers,rfl⟩:=qG.mp hr
  refine h1 fx H0 env σ H h ds bs ei _ λJ H1 s yl=>λp hp=>?_
  have hB:=zxy h s hp own fr bs
  generalize hA:(λb=>lim fx env σ (bs++capA fr env) b)=A
  have hA':∀b,lim fx env σ (bs++capA fr env) b↔A b:=λb=>by rw[<- hA]
  have eA:(λb=>lim fx env σ (bs++capA fr env) b\/b=p)=λb=>A b\/b=p:=by rw[<- hA]
  rw[eA]at hB
  have seen:∀{σ':St}{H':Hp},EnvOk (λb=>A b\/b=p) H1 (envB own fr env) σ' H'->Same (Offs (λb=>fx b\/L2.own (frzs env bs) σ b) H1) (Offs (λb=>A b\/b=p) H'):=λ{σ' H'} hE=>Offs.mono hE.base λb o eo n z=>by
   rcases z with z|z
   ·rcases(hA' b).mpr z with z|⟨i,d,z1,z2,z3⟩
    ·exact n (.inl z)
    ·exact n (.inr ⟨i,d,zkv (λy=>z1 (qy _ y)) z2,z3⟩)
   ·rw[z,hp]at eo;cases eo
  refine⟨λi m σ' H'=>m=ds.length - i/\i<=ds.length/\∃vs done rest,H' p=some (.lst vs)/\Rps (Offs (λb=>A b\/b=p) H') done vs/\done.length<=i * 300/\zkf gf t f2 gf2 t2 e (envB own fr env) (ds.drop i)=some rest/\done++rest=rs/\EnvOk (λb=>A b\/b=p) H1 (envB own fr env) σ' H',
   ⟨ds.length,rfl,qAK _,[],[],rs,zam,zeb,qAK _,ers,rfl,hB⟩,?_⟩
  rintro i m σ' H' ⟨rfl,hi,vs,done,rest,ep,rd,dl,ec,edr,hE⟩
  obtain⟨yi,ys⟩:=yl _ H' hE.fxs (seen hE)
  by_cases hlt:i<ds.length
  ·obtain⟨yg,yy⟩:=yi i ds[i] (qK hlt)
   refine .inr ⟨yg,λσ'' H''=>i+1<=ds.length/\∃vs done rest,H'' p=some (.lst vs)/\Rps (Offs (λb=>A b\/b=p) H'') done vs/\done.length<=(i+1) * 300/\zkf gf t f2 gf2 t2 e (envB own fr env) (ds.drop (i+1))=some rest/\done++rest=rs/\EnvOk (λb=>A b\/b=p) H1 (envB own fr env) σ'' H'',?_,?_⟩
   ·rintro σ'' H'' ⟨hle,hh⟩
    exact⟨ds.length - (i+1),by omega,rfl,hle,hh⟩
   ·intro x H'' hyx
    obtain⟨sy,ry⟩:=yy x H'' hyx
    rw[qAI hlt]at ec
    obtain⟨e1,ee1,ec⟩:=qA.mp ec
    obtain⟨b,eb,ec⟩:=qA.mp ec
    have ry':Rp (Offs (λa=>(A a\/a=p)\/L2.own (envB own fr env) σ' a) H'') ds[i] x:=Rp.same (Offs.sub λb z=>z.elim (λy=>y) λ⟨j,d',z,_⟩=>absurd z zio) _ ry
    refine h2 _ H1 (envB own fr env) σ' H'' _ x (hE.up sy) ry' e1 ee1 _ λσ2 hE2=>?_
    refine h3 _ H1 e1 σ2 H'' hE2 b eb _ λH3 s3=>?_
    have hE3:=hE2.up s3
    obtain⟨gl,gk,gn⟩:=hx _ _ _ ee1
    have na:NoAc e1:=gn λ_ _=>zio
    have back:∀{σ4:St}{H4:Hp},EnvOk (λb=>A b\/b=p) H1 e1 σ4 H4->EnvOk (λb=>A b\/b=p) H1 (envB own fr env) σ4 H4:=λ{σ4 H4} hh=>hh.weaken gl.symm (λj d' ej=>by
     by_cases hj:own.length<=j
     ·rw[gk j (.inr (by omega))];exact ej
     ·obtain⟨_,k,rfl,_⟩:=zvg ej;omega) λj d'=>zio
    cases b with
    | false=>
     have ec:zkf gf t f2 gf2 t2 e (envB own fr env) (ds.drop (i+1))=some rest:=ec
     exact iteF ⟨hlt,vs,done,rest,s3 _ _ (sy _ _ ep),Rps.same (Offs.grow (sy.trans s3)) _ rd,by omega,ec,edr,back hE3⟩
    | true=>
     have ec:((innL f2 gf2 t2 e e1).bind λr1=>(zkf gf t f2 gf2 t2 e (envB own fr env) (ds.drop (i+1))).map λrs=>r1++rs)=some rest:=ec
     obtain⟨r1,er,ec⟩:=qA.mp ec
     obtain⟨rest',er',rfl⟩:=qG.mp ec
     obtain⟨⟨ds2,bs2⟩,e2,er⟩:=qA.mp er
     split at er
     ·rename_i hl2
      have hl2:ds2.length<300:=hl2
      have l2:=zqp er
      refine iteT (zamd (B:=λb=>A b\/b=p) (p:=p) (vs:=vs) (done:=done) h5 h6 hy h7 h4 na (λj d' h8 h9 ej=>?_) (.inr rfl) hp hE3 (s3 _ _ (sy _ _ ep)) (Rps.same (Offs.grow (sy.trans s3)) _ rd) e2 (by omega) er λσ5 H5 vs5 ep5 rd5 hE5=>?_)
      ·rw[gk j (.inr h8),zame h9]at ej;cases ej
      ·have l2':r1.length<=ds2.length:=l2
       exact⟨hlt,vs5,done++r1,rest',ep5,rd5,by rw[qZ];omega,er',by rw[<- edr,qBM],back hE5⟩
     ·cases er
  ·have hi':i=ds.length:=by omega
   subst hi'
   rw[qBT]at ec
   cases ec
   rw[q9]at edr
   subst edr
   refine .inl ⟨ys,q _ H' (s.trans hE.base) ⟨?_,λ_=>⟨p,rfl,s.free hp,?_⟩⟩⟩
   ·show Rp (Offs (lim fx env σ (if zex done=true then[]else bs++capA fr env)) H') (.list done) (.ref p)
    have nl:∀cs,¬lim fx env σ cs p:=λcs z=>by
     obtain⟨o,eo⟩:=(h.up s).lims _ p z
     rw[hp]at eo;cases eo
    refine zhz (by rw[Offs.get (nl _)];exact ep) ?_
    split
    ·rename_i f;exact zmk f rd
    ·exact Rps.same (Offs.sub λb z=>.inl ((hA' b).mp z)) _ rd
   ·show zhf (Offs (λb=>lim fx env σ (if zex done=true then[]else bs++capA fr env) b\/b=p) H') H' p (.list done)
    refine⟨vs,ep,?_⟩
    split
    ·rename_i f;exact zmk f rd
    ·exact Rps.same (Offs.sub λb z=>z.imp (hA' b).mp id) _ rd
 ·cases hr
end L2
namespace PySem
open Sem (wp)
theorem zhh:plainId "set.update.loop"=true:=by decide +kernel
theorem zlf:entryFor table "set.update.loop"=some Builtin.«set.update.loop»:=entryFor_of_fast (by kernel_rfl)
theorem zye:isSubtype (.type "list") (.type "set")=pure false:=by rw[isSubtype_type];kernel_rfl
theorem zvi:isSubtype (.type "list") (.type "frozenset")=pure false:=by rw[isSubtype_type];kernel_rfl
theorem zaih(a:Value):checkBuiltinCall "set.__new__" ⟨[.type "set",a],[]⟩=pure ():=by kernel_rfl
theorem zaer(a:Value):checkTypeCall "set" ⟨[a],[]⟩=pure ():=by kernel_rfl
end PySem
namespace L2
open PySem PySem.Spec PyProof.Rows
instance memKey (k:Key) (l:List Key):Decidable (k∈l):=decidable_of_iff (∃x,x∈l/\x=k) ⟨λ⟨x,h,e⟩=>e▸h,λh=>⟨k,h,rfl⟩⟩
noncomputable def unl(seen:List Key):List Key->Nat
 | []=>0
 | k::ks=>(if k∈seen then 0 else 1)+unl (k::seen) ks
theorem zamg{prog:Program}{w:World}{A:Around}{R:Result->Shared->Prop}{d it l:Addr}{h0:Heap}{items:List Value}{ks:List Key}(hA:A.in1.handled=none)
  (pr:Paired (λ(v:Value) (k:Key)=>zns k v=true/\v.scannable=true) items ks)(hl:h0.IsList l items.toArray)(hd:h0.get? d=none)(hi:h0.get? it=none)(hdi:d≠it)(hz:items.length<4000) :
  ∀(k i:Nat)(s:Shared)(seen:List Key)(n:Nat),items.length - i=k->i<=items.length->s.heap.IsListIter it l i->s.heap.SetOf (zbr prog w) d (λx=>decide (x∈seen)) n->(∀b o,h0.get? b=some o->s.heap.get? b=some o)->n<=i->
  (∀h' tk' S,h'.SetOf (zbr prog w) d S (n+unl seen (ks.drop i))->(∀b o,h0.get? b=some o->h'.get? b=some o)->R (.ok (.ret .none)) {s with heap:=h',toks:=tk'})->
  codeAny (model prog w) A (.builtin "set.update.loop" ⟨[.ref d,.ref it],[]⟩) R s:=by
 have hlen:=pr.length
 have keepL:∀{h:Heap},(∀b o,h0.get? b=some o->h.get? b=some o)->h.IsList l items.toArray:=λ{h} kp=>Heap.IsList.at hl λo e=>kp _ o e
 intro k
 induction k with
 | zero=>
  intro i s seen n hk hile hit hdo kp hn hR
  have hin:i=items.length:=by omega
  subst hin
  refine qBQ zlf ?_
  rw[qBS zhh _]
  show wpAny _ A.in1 (pyNext (.ref it) >>=_) _ _ s
  refine qE (qCB hA hit (keepL kp) (by simp) λh' eb=>?_)
  refine qR ?_
  refine hR h' s.toks (λx=>decide (x∈seen)) ?_ λb o e=>eb b o (λz=>by rw[z,hi]at e;cases e) (kp b o e)
  rw[qC0 (by omega)]
  obtain⟨o,es,ep,t,q1,q⟩:=hdo
  exact⟨o,es,ep,t,eb _ _ hdi q1,q⟩
 | succ k ih=>
  intro i s seen n hk hile hit hdo kp hn hR
  have hlt:i<items.length:=by omega
  obtain⟨p,hp,hkey,hsc⟩:=zke pr (qK hlt)
  refine qBQ zlf ?_
  rw[qBS zhh _]
  show wpAny _ A.in1 (pyNext (.ref it) >>=_) _ _ s
  refine qE (qB4 hit (keepL kp) (x:=items[i]) (by simp[hlt]) λh1 hit1 sb1=>?_)
  have kp1:∀b o,h0.get? b=some o->h1.get? b=some o:=λb o e=>(sb1.2 b (λz=>by rw[z,hi]at e;cases e)).trans (kp b o e)
  have hd1:h1.SetOf (zbr prog w) d (λx=>decide (x∈seen)) n:=by
   obtain⟨o,es,ep,t,q1,q⟩:=hdo
   exact⟨o,es,ep,t,(sb1.2 d hdi).trans q1,q⟩
  show wpAny _ _ (holding [items[i]] (setAdd d items[i]) >>=_) _ _ _
  refine qE (qBe ?_)
  unfold setAdd
  refine qBe (qE ((zbr prog w).pyHash hkey ?_))
  refine wpAny_setAddHashed_of (knd:=zbr prog w) (k:=p) hkey hsc hd1 (by show n+1<4096;omega) λh2 sb2 hd2=>?_
  have hit2:h2.IsListIter it l (i+1):=by obtain⟨o,q1,q2,q3⟩:=hit1;exact⟨o,(sb2.2 _ (qAk hdi)).trans q1,q2,q3⟩
  refine qR ⟨plainId_quiet zhh _,?_⟩
  have kp2:∀b o,h0.get? b=some o->h2.get? b=some o:=λb o e=>(sb2.2 b (λz=>by rw[z,hd]at e;cases e)).trans (kp1 b o e)
  have eS:(λk'=>decide (k'∈seen)||decide (k'=p))=λx=>decide (x∈p::seen):=by
   funext x;by_cases h1:x=p<;>by_cases h2:x∈seen<;>simp[h1,h2]
  rw[eS]at hd2
  refine ih (i+1) _ (p::seen) _ (by omega) hlt hit2 hd2 kp2 (by split<;>omega) λh' tk' S hS kp'=>?_
  refine hR h' tk' S ?_ kp'
  have e:ks.drop i=p::ks.drop (i+1):=by
   obtain⟨hh,e⟩:=qM.mp hp
   rw[<- e];exact qAI hh
  rw[e]
  unfold unl
  have:n+((if p∈seen then 0 else 1)+unl (p::seen) (ks.drop (i+1)))=(if decide (p∈seen)=true then n else n+1)+unl (p::seen) (ks.drop (i+1)):=by
   by_cases h:p∈seen<;>simp[h]<;>omega
  rw[this]
  exact hS
theorem zaii{prog:Program}{w:World}{A:Around}{E:Value->Shared->Prop}{s:Shared}(a:Value){Q₁:Value->Shared->Prop}
  (h:∀led:Bool,Q₁ (.ref s.heap.objs.size) {s with heap:=s.heap.push {cls:=.type "set",dict:=none,data:=.set #[] 0 (.fresh 0 0 led)}}) :
  codeAny (model prog w) A (.call (.builtin "set.__new__") ⟨[.type "set",a],[]⟩) (wants Q₁ E) s:=by
 refine qAn F.plain_set_new F.entry_set_new (wpAny_of_eq (zaih a) ?_)
 have hsub:=sub_set_self
 obtain⟨hp,g,d,tk,os⟩:=s
 unfold Builtin.«set.__new__» Builtin.Frozenset.newClass
 dsimp only
 wp_walk
 refine wpAny_askSetting (qR ?_)
 dsimp only
 simp only[newObj]
 refine qE (wpAny_alloc (qR ?_))
 exact qR (h _)
theorem zabi{M:Model}{A:Around}{E:Value->Shared->Prop}{s:Shared}{self v:Value}{Q:Unit->Shared->Prop}(hT:s.TypeIs self "set")(hQ:Q () s) :
  wpAny M A (checkBuiltinCall "set.__init__" ⟨[self,v],[]⟩) Q E s:=by
 simp only[checkBuiltinCall,kind_set_init,split_set_init,sig_set_init]
 refine qE (qBa hT sub_set_self ?_)
 simp only[Bool.not_true,qBL,if_false]
 unfold Bind.checkArgs
 dsimp only
 refine qE (m:=Bind.printed "set" true _ _) (printed_name (by decide) ?_)
 refine qE (m:=Bind.printed "*" false _ _) (printed_star (self:=self) rfl hT λshort=>?_)
 have e:(Manifest.Receiver.self==Manifest.Receiver.none)=false:=by decide
 have n:(if(Manifest.Receiver.self==Manifest.Receiver.none)=true then[self,v].length else[self,v].length - 1)=1:=by simp[e]
 rw[n]
 simp only[qBz]
 have c:Bind.check ⟨.positional,"set","*",.self,[⟨"iterable",.posOnly,false⟩]⟩ "set" short 1 []=pure ():=by
  first|rfl|kernel_rfl
 rw[c]
 exact qR hQ
theorem zarf{prog:Program}{w:World}{h:Heap}{led:Bool}:(h.push {cls:=.type "set",dict:=none,data:=.set #[] 0 (.fresh 0 0 led)}).SetOf (zbr prog w) h.objs.size (λx=>decide (x∈([]:List Key))) 0:=by
 refine⟨_,#[],0,_,qd _ rfl,⟨rfl,rfl,rfl⟩,rfl,λe he=>?_,λk=>?_,by decide,by cases led<;>rfl,rfl⟩
 ·simp at he
 ·simp
theorem zvj{prog:Program}{w:World}{A:Around}{E:Value->Shared->Prop}{s:Shared}{l:Addr}{items:List Value}{ks:List Key}{Q:Value->Shared->Prop}(hA:A.handled=none)
  (pr:Paired (λ(v:Value) (k:Key)=>zns k v=true/\v.scannable=true) items ks)(hl:s.heap.IsList l items.toArray)(hz:items.length<4000)
  (h:∀h' tk S,h'.SetOf (zbr prog w) s.heap.objs.size S (unl [] ks)->(∀b o,s.heap.get? b=some o->h'.get? b=some o)->Q (.ref s.heap.objs.size) {s with heap:=h',toks:=tk}) :
  wpAny (model prog w) A (call (.type "set") [.ref l]) Q E s:=by
 obtain⟨c,tl,hmro⟩:=qBK.mro
 have hmade:=qBK.made
 have hsub:=qBK.sub
 refine qBx (qCy ?_)
 show wpAny _ _ (callAny (.type "set") _) _ _ _
 refine qR ⟨qBg _ (by decide +kernel),qBQ F.entry_type_call ?_⟩
 rw[Around.under_plain (weight_type_call_type "set" [.ref l] []) rfl]
 have h1:=qBK.notType
 have h2:=qBK.canCreate
 have hct:=zaer (.ref l)
 repeat (any_goals (first|assumption|wp_step))
 refine qA0 (zaii (E:=E) (.ref l) (Q₁:=λobj s₁=>∃led:Bool,obj=.ref s.heap.objs.size/\s₁={s with heap:=s.heap.push {cls:=.type "set",dict:=none,data:=.set #[] 0 (.fresh 0 0 led)}}) λled=>⟨led,rfl,rfl⟩) λr s₁ hr=>?_
 cases r with
 | error e=>exact hr
 | ok fl=>
  cases fl with
  | ret obj=>
   obtain⟨led,rfl,rfl⟩:=hr
   have hS:=zarf (prog:=prog) (w:=w) (h:=s.heap) (led:=led)
   have hT:Shared.TypeIs {s with heap:=s.heap.push {cls:=.type "set",dict:=none,data:=.set #[] 0 (.fresh 0 0 led)}} (.ref s.heap.objs.size) "set":=⟨_,qd _ rfl,rfl⟩
   have hli:=qBK.init.lookup
   have hbi:=qBK.init.bind (.ref s.heap.objs.size)
   repeat (any_goals (first|assumption|wp_step))
   refine qA0 (qAn (R:=wants (λr s₂=>r=.none/\Q (.ref s.heap.objs.size) s₂) E) qBK.init.plain F.entry_set_init (zabi hT ?_)) λr₂ s₂ hr₂=>?_
   ·unfold Builtin.«set.__init__» noKeywords
    obtain⟨ol,g1,g2,n3,g3⟩:=id hl
    have hl':(s.heap.push {cls:=.type "set",dict:=none,data:=.set #[] 0 (.fresh 0 0 led)}).get? l=some ol:=qF _ g1
    have hTl:Shared.TypeIs {s with heap:=s.heap.push {cls:=.type "set",dict:=none,data:=.set #[] 0 (.fresh 0 0 led)}} (.ref l) "list":=⟨_,hl',g2⟩
    have n1:=zye
    have n2:=zvi
    have hst:∀{P:Bool->Shared->Prop}{E':Value->Shared->Prop}{A':Around},P false {s with heap:=s.heap.push {cls:=.type "set",dict:=none,data:=.set #[] 0 (.fresh 0 0 led)}}->wpAny (model prog w) A' (setUsed s.heap.objs.size) P E' {s with heap:=s.heap.push {cls:=.type "set",dict:=none,data:=.set #[] 0 (.fresh 0 0 led)}}:=λhP=>by
     unfold setUsed
     refine qE (wpAny_setState_of (qd _ rfl) rfl (by cases led<;>rfl) (qR ?_))
     cases led<;>exact hP
    refine qE (m:=(pure ():Sem Unit)) (qR ?_)
    refine qE ?_
    unfold typeNameOfCut shownTypeOf
    refine qE ?_
    refine thn (Q:=λa s'=>a=.type "set"/\s'={s with heap:=s.heap.push {cls:=.type "set",dict:=none,data:=.set #[] 0 (.fresh 0 0 led)}}) ?_ λa s' ha=>?_
    ·repeat (any_goals (first|assumption|wp_step))
     exact⟨rfl,rfl⟩
    obtain⟨rfl,rfl⟩:=ha
    refine qR ?_
    refine qE (qR ?_)
    refine qE (qR ?_)
    refine qE (hst ?_)
    show wpAny _ _ (Builtin.Frozenset.updateFrom "set.__init__" s.heap.objs.size (.ref l) >>=_) _ _ _
    unfold Builtin.Frozenset.updateFrom Builtin.Frozenset.isAnySet
    refine qE (qE (thn (Q:=λb s'=>b=false/\s'={s with heap:=s.heap.push {cls:=.type "set",dict:=none,data:=.set #[] 0 (.fresh 0 0 led)}}) ?_ λb s' hb=>?_))
    ·simp only[orM]
     refine qE (qBa hTl n1 ?_)
     exact qBa hTl n2 ⟨rfl,rfl⟩
    obtain⟨rfl,rfl⟩:=hb
    rw[if_neg (by decide)]
    refine qE (qCh hTl ?_)
    rw[if_neg (by decide)]
    have g0:∀b o,s.heap.get? b=some o->(s.heap.push {cls:=.type "set",dict:=none,data:=.set #[] 0 (.fresh 0 0 led)}).get? b=some o:=λb o e=>qF _ e
    refine qE (qBU (items:=items.toArray) ⟨ol,hl',g2,n3,g3⟩ ?_)
    have hsz:s.heap.objs.size<(s.heap.push {cls:=.type "set",dict:=none,data:=.set #[] 0 (.fresh 0 0 led)}).objs.size:=qO (qd _ rfl)
    refine qE (wpAny_runValue (zamg (h0:=s.heap) (by exact hA) pr hl (qAl (qQ _)) (qAl (qBD hsz)) (qr hsz) hz items.length 0 _ [] 0 rfl (qAK _) ⟨_,qd _ rfl,rfl,rfl⟩ ?_ (λb o e=>qF _ (g0 b o e)) (qAK _) λh' tk' S hd' kp'=>?_))
    ·obtain⟨o,es,ep,t,q1,q⟩:=hS
     exact⟨o,es,ep,t,qF _ q1,q⟩
    ·refine qR ?_
     refine qR ⟨rfl,h h' tk' S ?_ kp'⟩
     rw[qDD]at hd'
     exact hd'
   ·cases r₂ with
    | error e=>exact hr₂
    | ok fl₂=>
     cases fl₂ with
     | ret r=>
      obtain⟨rfl,hq⟩:=hr₂
      repeat (any_goals (first|assumption|wp_step))
     | _=>exact hr₂.elim
  | _=>exact hr.elim
noncomputable def tLenSet(te:TE):TE:=λσ H Q=>te σ H λx H1=>∃p vs ks,x=.ref p/\H1 p=some (.lst vs)/\vs=ks.map kV/\vs.length<4000/\Q (.int (unl [] ks)) H1
theorem zarg{k:Key}{u:Value}(r:RelV (kV k) u):u.scannable=true:=by
 cases k with
 | inl i=>obtain⟨t,e⟩:=(show ∃t,u=Value.int i t from r);subst e;rfl
 | inr x=>obtain⟨t,e⟩:=(show ∃t,u=Value.str x t from r);subst e;rfl
theorem zqq{P:Program}{w:World}:∀{ks:List Key}{us:List Value},Vals (ks.map kV) us->Paired (λ(v:Value)(k:Key)=>zns k v=true/\v.scannable=true) us ks
 | [],us,h=>by cases h;exact .nil
 | k::ks,us,h=>by cases h with|cons r t=>exact .cons ⟨zxg (P:=P) (w:=w) r,zarg r⟩ (zqq (P:=P) (w:=w) t)
theorem zavk:bootBuiltins "len"=some (.builtin "len"):=by decide +kernel
theorem zavl:bootBuiltins "set"=some (.type "set"):=by decide +kernel
theorem zaij{X:Cx}{e:Expr}{te:TE}{p1 p2 pos1 pos2:Pos}(hc:X.calm=true)(hgl:Gl X "len")(hml:X.mg "len"=none)(hgs:Gl X "set")(hms:X.mg "set"=none)(he:PE X e te)
  (hs:starEach [e] X.env=(false,eval e X.env)::starEach [] X.env:=by rfl) :
  PE X (.Call (.Name "len" p1) [.Call (.Name "set" p2) [e] [] pos2] [] pos1) (tLenSet te):=by
 intro pins s σ H Q I h
 refine qAm (zma I hgl hml zavk ?_ (by decide) (by decide))
 refine callWith_builtin1 ?_ rfl rfl
 show wpAny _ _ (spliced ((false,eval (.Call (.Name "set" p2) [e] [] pos2) X.env)::[])) _ _ s
 refine qBd ?_
 refine qAm (zma I hgs hms zavl ?_ (by decide) (by decide))
 refine callWith_type1 ?_ hs rfl
 rw[hs]
 show wpAny _ _ (spliced ((false,eval e X.env)::[])) _ _ s
 refine qBd (thn (he pins s σ H _ I h) λu s1 z=>?_)
 obtain⟨x,H1,I1,r1,p,vs,ks,rfl,hp,rfl,hz,q⟩:=z
 cases r1
 refine qBk ?_
 obtain⟨hz',its,n,rv,hg⟩:=(show zdk X.prog X.w H1 s1.heap p (.lst (ks.map kV))from I1.hok p _ hp)
 have hl:=rv.length
 refine zvj (I1.ok.hd hc) (zqq (P:=X.prog) (w:=X.w) rv) ⟨_,hg,rfl,n,rfl⟩ (by omega) λh' tk S hS kp=>?_
 refine qBk ?_
 obtain⟨o,es,ep,t,ho,hex,hd,_,_,hb,hf,hn⟩:=hS
 refine call_len_set (s:={s1 with heap:=h',toks:=tk}) ho hex hd hf (by have:es.size<4096:=hb;omega) ?_
 exact⟨.int (unl [] ks),H1,I1.kept (t':=_) kp,⟨tk+1,by rw[hn]⟩,q⟩
noncomputable def zabj:List PyData->Option (List Key)
 | []=>some []
 | d::ds=>(keyD d).bind λk=>(zabj ds).map λks=>k::ks
noncomputable def zvk(f:EF):EF:=λenv=>(f env).bind λr=>match r.d with
 | .list ds=>(zabj ds).bind λks=>if ds.length<4000 then some ⟨.int (unl [] ks),false,[]⟩else none
 | _=>none
theorem zadk{H:Hp}:∀{ds:List PyData}{vs:List V}{ks:List Key},Rps H ds vs->zabj ds=some ks->vs=ks.map kV
 | [],vs,ks,h,e=>by unfold Rps at h;cases e;subst h;rfl
 | d::ds,vs,ks,h,e=>by
  obtain⟨k,ek,e⟩:=qA.mp e
  obtain⟨ks',e',rfl⟩:=qG.mp e
  cases zcs.mp h with
  | cons h1 h2=>
   rename_i v vs'
   have:=zadk (zcs.mpr h2) e'
   subst this
   cases d with
   | int i=>cases ek;unfold Rp at h1;subst h1;rfl
   | str x=>cases ek;unfold Rp at h1;subst h1;rfl
   | _=>cases ek
theorem zaik{te:TE}{f:EF}(h:SE te f):SE (tLenSet te) (zvk f):=by
 intro fx H0 env σ H hE rr hr Q q
 unfold zvk at hr
 obtain⟨⟨d,fr,bs⟩,er,hr⟩:=qA.mp hr
 cases d with
 | list ds=>
  have hr:((zabj ds).bind λks=>if ds.length<4000 then some (⟨.int (unl [] ks),false,[]⟩:Val)else none)=some rr:=hr
  obtain⟨ks,ek,hr⟩:=qA.mp hr
  split at hr
  ·rename_i hl
   cases hr
   refine h fx H0 env σ H hE _ er _ λv H1 s1 hv=>?_
   obtain⟨p,xs,rfl,h1,r⟩:=zdq hv.rp
   have e:=zadk r ek
   refine⟨p,xs,ks,rfl,zcz h1,e,by rw[<- r.length];exact hl,q _ H1 s1 ⟨zai,λz=>by cases z⟩⟩
  ·cases hr
 | _=>cases hr
end L2
namespace PySem
open Sem (wp)
noncomputable def SqIt(b:Bool)(h:Heap)(it l:Addr)(i:Nat):Prop:=match b with
 | true=>h.IsListIter it l i
 | false=>h.IsTupleIter it l i
noncomputable def zqr(b:Bool)(h:Heap)(l:Addr)(xs:Array Value):Prop:=match b with
 | true=>h.IsList l xs
 | false=>h.IsTuple l xs
theorem SqIt.moved{h h':Heap}(x:SqIt b h it l i)(e:∀o,h.get? it=some o->h'.get? it=some o):SqIt b h' it l i:=by
 cases b with
 | true=>obtain⟨o,q,r⟩:=x;exact⟨o,e o q,r⟩
 | false=>obtain⟨o,q,r⟩:=x;exact⟨o,e o q,r⟩
theorem zqr.moved{h h':Heap}(x:zqr b h l xs)(e:∀o,h.get? l=some o->h'.get? l=some o):zqr b h' l xs:=by
 cases b with
 | true=>obtain⟨o,q,r⟩:=x;exact⟨o,e o q,r⟩
 | false=>obtain⟨o,q,r⟩:=x;exact⟨o,e o q,r⟩
theorem SqIt.obj{h:Heap}(x:SqIt b h it l i):∃o,h.get? it=some o/\∀v,o.data≠.cell v:=by
 cases b with
 | true=>obtain⟨o,q,_,r⟩:=x;exact⟨o,q,λv z=>by rw[r]at z;cases z⟩
 | false=>obtain⟨o,q,_,r⟩:=x;exact⟨o,q,λv z=>by rw[r]at z;cases z⟩
section
variable{prog:Program}{w:World}{A:Around}{E:Value->Shared->Prop}{s:Shared}
theorem zvl{items}{Q:Value->Shared->Prop}(hit:s.heap.IsTupleIter it l i)
  (hl:s.heap.IsTuple l items)(hx:items[i]?=some x)
  (hQ:∀h',h'.IsTupleIter it l (i+1)->Heap.SameBut it s.heap h'->Q x {s with heap:=h'}) :
  wpAny (model prog w) A (qAZ (.ref it)) Q E s:=by
 obtain⟨o,ho,hc,hd⟩:=id hit
 obtain⟨ol,hol,_,nl,hdl⟩:=hl
 unfold qAZ
 refine qE (qB1 (name:=Str.ofString "__next__") hit.typeIs qA8
  (qCo qA8 hit.typeIs qCv ?_ (qCn _)))
 show wpAny _ _ (field (.ref it) 0 >>=_) _ _ s
 refine qE (qA5 ho hd (x:=.ref l) rfl ?_)
 show wpAny _ _ (if(Value.ref l==Value.none)=true then _ else _) _ _ s
 rw[if_neg (show ¬((Value.ref l==Value.none)=true)from qP)]
 show wpAny _ _ (field (.ref it) 1 >>=_) _ _ s
 refine qE (qA5 ho hd (x:=.int i 0) rfl ?_)
 show wpAny _ _ (seqItems? (.ref l) >>=_) _ _ s
 refine qE (qC9 hol hdl ?_)
 simp only[qA3,hx]
 refine qE (qBE ho hd (by simp) (qR ⟨x,rfl,qR (hQ _ ?_ (qCZ ..))⟩))
 exact⟨_,qAh _ ho (qAp (qAV hd _)),(Obj.cls_mapFields ..).trans hc,by
  rw[qAV hd];simp[rawInt]⟩
theorem zyf{items}{Q:Value->Shared->Prop}(hh:A.handled=none)
  (hit:s.heap.IsTupleIter it l i)(hl:s.heap.IsTuple l items)(hx:items[i]?=none)
  (hE:∀h' e,Heap.ExtBut it s.heap h'->(∃o,h'.get? e=some o/\o.cls=.type "StopIteration")->E (.ref e) {s with heap:=h'}) :
  wpAny (model prog w) A (qAZ (.ref it)) Q E s:=by
 obtain⟨o,ho,hc,hd⟩:=id hit
 obtain⟨ol,hol,_,nl,hdl⟩:=hl
 unfold qAZ
 refine qE (qB1 (name:=Str.ofString "__next__") hit.typeIs qA8
  (qCo qA8 hit.typeIs qCv ?_ (qCn _)))
 show wpAny _ _ (field (.ref it) 0 >>=_) _ _ s
 refine qE (qA5 ho hd (x:=.ref l) rfl ?_)
 show wpAny _ _ (if(Value.ref l==Value.none)=true then _ else _) _ _ s
 rw[if_neg (show ¬((Value.ref l==Value.none)=true)from qP)]
 show wpAny _ _ (field (.ref it) 1 >>=_) _ _ s
 refine qE (qA5 ho hd (x:=.int i 0) rfl ?_)
 show wpAny _ _ (seqItems? (.ref l) >>=_) _ _ s
 refine qE (qC9 hol hdl ?_)
 simp only[qA3,hx]
 refine qE (wpAny_rule (qE (qBE ho hd (by simp) ?_)))
 show wpAny _ _ (newExc (.type "StopIteration") [] >>=_) _ _ _
 refine qE ?_
 simp only[newExc,newTuple]
 refine qE (qBw ?_ (by size_fits))
 refine qE (m:=firstArgMember _ _) (wpAny_of_eq (a:=Value.none) (by first|rfl|(simp only[firstArgMember];rfl)) ?_)
 refine qBw ?_ (by size_fits)
 simp only[raiseNew]
 refine qE (wpAny_handled ?_)
 first|rw[show A.in1.handled=none from hh]|rw[hh]
 refine qE (qR (wpAny_throw ?_))
 exact hE _ _ (((qCZ ..).extBut.push _).push _) ⟨_,qd _ rfl,rfl⟩
theorem zarh{Q:Value->Shared->Prop}(hit:SqIt b s.heap it l i)(hl:zqr b s.heap l xs)(hx:xs[i]?=some x)
  (hQ:∀h',SqIt b h' it l (i+1)->Heap.SameBut it s.heap h'->Q x {s with heap:=h'}):wpAny (model prog w) A (qAZ (.ref it)) Q E s:=by
 cases b with
 | true=>exact wpAny_nextOf_list_item hit hl hx hQ
 | false=>exact zvl hit hl hx hQ
theorem zaop{Q:Value->Shared->Prop}(hh:A.handled=none)(hit:SqIt b s.heap it l i)(hl:zqr b s.heap l xs)(hx:xs[i]?=none)
  (hE:∀h' e,Heap.ExtBut it s.heap h'->(∃o,h'.get? e=some o/\o.cls=.type "StopIteration")->E (.ref e) {s with heap:=h'}):wpAny (model prog w) A (qAZ (.ref it)) Q E s:=by
 cases b with
 | true=>exact wpAny_nextOf_list_end hh hit hl hx hE
 | false=>exact zyf hh hit hl hx hE
end
end PySem
namespace L2
open PySem PySem.Spec PyProof.Rows
noncomputable def SqX(b:Bool)(K:qB)(H:Hp)(a:Addr)(xs:List V):Prop:=match b with
 | true=>SqL K H a xs
 | false=>SqT K H a xs
section
variable{X:Cx}{pins:List (Addr×Obj)}{σ:St}{H:Hp}{s:Shared}
theorem Inv.sq{xs:List V}(I:Inv X pins σ H s)(h:SqX b X.K H a xs):∃its:List Value,Vals xs its/\zqr b s.heap a its.toArray/\xs.length<=qV:=by
 cases b with
 | true=>obtain⟨its,r,p,z⟩:=I.list h;exact⟨its,r,p.isList,z⟩
 | false=>obtain⟨its,r,p,z⟩:=I.tuple h;exact⟨its,r,(show s.heap.IsTuple a its.toArray from p),z⟩
theorem Inv.sq_inj(I:Inv X pins σ H s)(h:SqX b X.K H a xs)(h':SqX b X.K H a ys):xs=ys:=by
 cases b with
 | true=>exact I.list_inj h h'
 | false=>exact I.tuple_inj h h'
end
end L2
namespace PySem
open Sem (wp)
noncomputable def itO(b:Bool)(l:Addr):Obj:=match b with
 | true=>{cls:=.type "list_iterator",data:=.fields #[.ref l,.int 0 0]}
 | false=>{cls:=.type "tuple_iterator",data:=.fields #[.ref l,.int 0 0]}
theorem zamh{h:Heap}(e:h.get? a=some (itO b l)):SqIt b h a l 0:=by
 cases b with
 | true=>exact⟨_,e,rfl,rfl⟩
 | false=>exact⟨_,e,rfl,rfl⟩
end PySem
namespace L2
open PySem PySem.Spec PyProof.Rows
theorem zqr.there{h:Heap}(x:zqr b h l xs):l<h.objs.size:=by
 cases b with
 | true=>obtain⟨o,q,_⟩:=x;exact qO q
 | false=>obtain⟨o,q,_⟩:=x;exact qO q
theorem zavm{K:qB}{A:Addr->Prop}{H:Hp}{d:PyData}{ds:List PyData}{v:V}(h:Rp (Offs A H) d v)(e:zld d=some ds):∃(b:Bool)(a:Addr)(xs:List V),v=.ref a/\Rps (Offs A H) ds xs/\∀(B:Addr->Prop)(H':Hp),Same (Offs A H) (Offs B H')->SqX b K H' a xs:=by
 cases d with
 | list es=>
  cases e
  obtain⟨a,xs,rfl,ha,r⟩:=zdq h
  exact⟨true,a,xs,rfl,r,λB H' s=>SqL.of (zcz (s _ _ ha))⟩
 | tuple es=>
  cases e
  obtain⟨a,xs,rfl,ha,r⟩:=zdg h
  exact⟨false,a,xs,rfl,r,λB H' s=>SqT.of (zcz (s _ _ ha))⟩
 | _=>cases e
end L2
namespace PySem
open Sem (wp)
open AutoSeq1 (wpAny_loadPart')
theorem zami{A:Around}(hh:A.handled=none)(b:Bool)(it l:Addr)(hne:l≠it)(items:Array Value) :
  Draws prog w A it [it,l] items.size (λi v=>items[i]?=some v) (λi h=>SqIt b h it l i/\zqr b h l items) where
 live:=λ_ _ st=>let⟨o,ho,_⟩:=st.1.obj;⟨o,ho⟩
 frame:=λ_ _ _ st hk=>⟨st.1.moved λo e=>hk it (by simp) o e,st.2.moved λo e=>hk l (by simp) o e⟩
 item:=λi s Q E hi st hQ=>by
  refine zarh st.1 st.2 (x:=items[i]) (by simp[hi]) λh' hit' hs'=>?_
  exact hQ _ h' s.toks (by simp[hi]) ⟨hit',st.2.moved λo e=>hs'.extBut _ o hne e⟩ hs'
 done:=λs Q E st hE=>zaop hh st.1 st.2 (by simp) hE
theorem zpf(l:Addr)(items:Array Value)(n:Nat)(dct:Option Addr)(sl:Array (Option Value)) :
  Meets (Builtin.«enumerate.__new__» ⟨[.type "enumerate",.ref l],[]⟩) (λ_ R s=>s.heap.get? l=some {cls:=.type "tuple",dict:=dct,data:=.seq items n,slots:=sl}/\
   R (.ok (.ret (.ref (s.heap.push (itO false l)).objs.size))) {s with heap:=(s.heap.push (itO false l)).push {cls:=.type "enumerate",data:=.fields #[.none,.bool false,.ref s.heap.objs.size,rawInt 0,.none,.none]}}):=
 .of_wp λprog w A R s h=>by
  obtain⟨hp,g,d,tk,os⟩:=s;obtain⟨hl,h⟩:=h
  have hsub:=sub_enumerate
  have e1:Heap.IsTuple (Shared.heap ⟨hp,g,d,tk,os⟩) l items:=⟨_,hl,rfl,n,rfl⟩
  wp_walk using qCC hl
  refine wpAny_stack_any λst=>qR ?_
  split
  ·rename_i c _ _ _ _ _
   cases(c==Value.type "enumerate")
   ·wp_walk using qCC hl,qBn e1
    exact⟨_,rfl,h⟩
   ·wp_walk using qCC hl,qBn e1
    exact⟨_,rfl,h⟩
  ·wp_walk using qCC hl,qBn e1
   exact⟨_,rfl,h⟩
theorem zyg{E:Value->Shared->Prop}{s:Shared}{Q:Value->Shared->Prop}(hL:zqr b s.heap l items)
  (h:∀h',IsEnum h' (s.heap.objs.size+1) s.heap.objs.size 0 .none->SqIt b h' s.heap.objs.size l 0->(∀c o,s.heap.get? c=some o->h'.get? c=some o)->Q (.ref (s.heap.objs.size+1)) {s with heap:=h'}) :
  wpAny (model prog w) A (call (.type "enumerate") [.ref l]) Q E s:=by
 cases b with
 | true=>exact call_enumerate_list hL λh' e i _ k=>h h' e i k
 | false=>
  obtain⟨⟨c,dct,dt,sl⟩,hl,hc,n,hd⟩:=hL
  replace hc:c=.type "tuple":=hc
  replace hd:dt=.seq items n:=hd
  subst hc hd
  refine callType_new F.called_enumerate (by decide) (F.typeCall_enumerate_1 _) (F.newCall_enumerate_1 _) (λobj=>F.args_object_init_2 obj _) F.entry_enumerate_new (zpf l items n dct sl) ⟨hl,?_⟩
  have hz:(s.heap.push (itO false l)).objs.size=s.heap.objs.size+1:=qBj ..
  have he:=qd (s.heap.push (itO false l)) (o:={cls:=.type "enumerate",data:=.fields #[.none,.bool false,.ref s.heap.objs.size,rawInt 0,.none,.none]}) rfl
  show _/\_
  rw[hz]at he ⊢
  exact⟨⟨_,he,rfl⟩,h _ he (zamh (b:=false) (qF _ (qd _ rfl))) λc o x=>qF _ (qF _ x)⟩
end PySem
namespace L2
open PySem PySem.Spec PyProof.Rows
noncomputable def Itx(K:qB)(b:Bool)(a:Addr):It:=
 ⟨λi H=>∃xs x,SqX b K H a xs/\xs[i]?=some x,λi H x H'=>∃p y,x=.ref p/\H p=none/\H'=upd H p (.tup [.int i,y])/\∀xs,SqX b K H a xs->xs[i]?=some y,λi H=>∃xs,SqX b K H a xs/\xs.length<=i⟩
theorem zaes{P:Program}{w:World}{K:qB}{elts:List Expr}{x1}{tpos:Pos}{b:Bool}(a e it:Addr)(hne:e≠it)(hea:e≠a)(hai:a≠it) :
  Turn P w K (.Tuple elts x1 tpos) (Itx K b a) [e,it] e (λi h=>SqIt b h it a i/\∃old,IsEnum h e it (i:Int) old) where
 mem:=by simp
 obj:=λi h st c hc=>by
  obtain⟨h1,old,h4⟩:=st
  rcases qY.mp hc with rfl|hc
  ·exact⟨_,h4,λv z=>by simp at z⟩
  ·have q:c=it:=by simpa using hc
   subst q
   exact h1.obj
 keep:=λi h h' st k=>⟨st.1.moved λo q=>k it (by simp) o q,let⟨old,q⟩:=st.2;⟨old,k e (by simp) _ q⟩⟩
 item:=by
  intro X hP hw hK hc i pins s σ H E I hf st hg
  subst hP hw hK
  obtain⟨xs,x,hq,hx⟩:=hg
  obtain⟨its,rv,p,hz⟩:=I.sq hq
  obtain⟨u,hu,ru⟩:=rv.get hx
  obtain⟨hit,old,he⟩:=st
  have fe:=hf e (by simp)
  have fi:=hf it (by simp)
  have hlt:i<its.toArray.size:=by
   obtain⟨hh,_⟩:=qM.mp hu
   simpa using hh
  refine wpAny_pyNext_enum_itemD (zami (by exact I.ok.hd hc) b it a hai its.toArray) he ⟨hit,p⟩ hlt hne (by simp[hne,hea]) λu' h1 tk pu e1 i1 t1 z1 k1=>?_
  have hu':u'=u:=by
   have pu:its.toArray[i]?=some u':=pu
   rw[List.getElem?_toArray,hu]at pu
   exact(qa pu).symm
  subst hu'
  refine⟨_,rfl,wpAny_letOwnedTupleGo_enum (s:={s with heap:=h1,toks:=tk+1}) e1 λh2 e2 sb2=>?_⟩
  have hp:H s.heap.objs.size=none:=I.hok.fresh (qQ _)
  have hes:e≠s.heap.objs.size:=qr (qO he)
  have k2:∀c o,c≠e->c≠it->s.heap.get? c=some o->h2.get? c=some o:=λc o q1 q2 q=>(sb2.2 c q1).trans (k1 c o q1 q2 q)
  have t2:h2.get? s.heap.objs.size=some {cls:=.type "tuple",data:=.seq #[.int i tk,u']}:=(sb2.2 _ (qAk hes)).trans t1
  have nch:∀c,c∉[e,it]->c≠e/\c≠it:=λc hb=>⟨λz=>hb (by simp[z]),λz=>hb (by simp[z])⟩
  refine⟨.ref s.heap.objs.size,upd H s.heap.objs.size (.tup [.int i,x]),?_,rfl,⟨_,x,rfl,hp,rfl,λys hy=>by rw[I.sq_inj hy hq];exact hx⟩,⟨?_,u',e2⟩,λc hb=>?_⟩
  ·refine Inv.step (s:=s) (h':=h2) (g':=s.gens) (d':=s.drawn) (t':=tk+1) (ch:=[e,it]) I (λc hb=>?_) (λc o _ _ hc q _=>k2 c o (nch c hc).1 (nch c hc).2 q) (λc o _ _ hc q _=>⟨o.slots,k2 c o (nch c hc).1 (nch c hc).2 q⟩)
    (λc o _ q n=>by rw[zap (qr (qO q))];exact n) (λc o hc q=>⟨o,k2 c o (nch c hc).1 (nch c hc).2 q⟩)
    (λc xs q=>by rw[zap (zax q hp)];exact q) (λc o v q=>by rw[zap (zax q hp)];exact q) (λc ps q=>⟨#[],by rw[zap (zax q hp),q];simp⟩) (λm hm=>?_) (λc v q=>?_) I.bare
   ·rcases qY.mp hb with rfl|hb
    ·exact⟨fe.2.2.2.1,fe.2.1,fe.2.2.2.2.1,fe.2.2.2.2.2⟩
    ·have z:c=it:=by simpa using hb
     subst z
     exact⟨fi.2.2.2.1,fi.2.1,fi.2.2.2.2.1,fi.2.2.2.2.2⟩
   ·obtain⟨o,es,ep,ho,r⟩:=hm
    exact⟨o,es,ep,k2 _ o (qAk fe.2.1) (qAk fi.2.1) ho,r⟩
   ·by_cases hb:c=s.heap.objs.size
    ·subst hb
     rw[zam]at q
     cases q
     exact⟨by show 2<=qV;decide,[.int i tk,u'],.cons ⟨_,rfl⟩ (.cons ru .nil),_,t2,rfl,_,rfl⟩
    ·rw[zap hb]at q
     have nt:∀c w',H c=some w'->c≠e/\c≠it:=λc w' z=>⟨(λy=>by rw[y,fe.1]at z;cases z),(λy=>by rw[y,fi.1]at z;cases z)⟩
     refine(I.hok c v q).stay (λc w' hc r=>?_) (λc r=>by rw[zap (zax r hp)];exact r) λc ys r=>by rw[zap (zax r hp)];exact r
     rcases hc with rfl|hc
     ·exact k2 c w' (nt c v q).1 (nt c v q).2 r
     ·exact k2 c w' (nt c _ hc).1 (nt c _ hc).2 r
  ·exact i1.1.moved λo q=>(sb2.2 _ (qAk hne)).trans q
  ·rcases qY.mp hb with rfl|hb
   ·rw[zap hes];exact fe.1
   ·have z:c=it:=by simpa using hb
    subst z
    obtain⟨o,q1,_⟩:=hit.obj
    rw[zap (qr (qO q1))]
    exact fi.1
 done:=by
  intro X hP hw hK hc i pins s σ H E I hf st hg
  subst hP hw hK
  obtain⟨xs,hq,hx⟩:=hg
  obtain⟨its,rv,p,hz⟩:=I.sq hq
  obtain⟨hit,old,he⟩:=st
  obtain⟨f0,f1,f2,f3,f4,f5⟩:=hf it (by simp)
  have hl:=rv.length
  have hT:s.TypeIs (.ref e) "enumerate":=⟨_,he,rfl⟩
  unfold pyNext
  refine qE (wpAny_attempt (qB1 (name:=Str.ofString "__next__") hT F.slot_enumerate_next (qCo F.slot_enumerate_next hT F.entry_enumerate_next ?_ (F.args_enumerate_next_1 _))))
  show wpAny _ _ (field (.ref e) 2 >>=_) _ _ _
  refine qE (qA5 he rfl (x:=.ref it) rfl ?_)
  refine qE (zaop (by exact I.ok.hd hc) hit p (by simp;omega) λh' x he' hx'=>?_)
  obtain⟨o,ho,hcl⟩:=hx'
  refine qE (qBa (T:="StopIteration") (b:=true) ⟨o,ho,hcl⟩ isSubtype_stop (qR ⟨rfl,?_⟩))
  exact I.turned (t':=s.toks) (λc o hb q=>he' c o hb q) f0 f1 f3 f4 f5
 self:=λ_ _ _ _ _ st h=>let⟨_,q⟩:=st.2;wpAny_pyIter_enum q h
noncomputable def iEnumX(K:qB)(ta:TA):TI:=λσ H R=>ta σ H λvs H1=>∃b a,vs=[.ref a]/\(∃xs,SqX b K H1 a xs)/\R (Itx K b a) H1
theorem zamj{X:Cx}{K:qB}(hK:X.K=K){a:Expr}{ta:TA}{p pos:Pos}{elts:List Expr}{x1}{tpos:Pos}(hg:Gl X "enumerate")(hm:X.mg "enumerate"=none)(ha:PA X [a] ta)(hs:starEach [a] X.env=[(false,eval a X.env)]:=by rfl) :
  PI X (.Tuple elts x1 tpos) (.Call (.Name "enumerate" p) [a] [] pos) (iEnumX K ta):=by
 subst hK
 intro pins s σ H R I h
 refine Call_ (zma I hg hm boot_enumerate (qAu (thn (ha pos pins s σ H _ I h) λus s1 ⟨vs,H1,I1,r1,q1⟩=>?_) hs rfl))
 obtain⟨b,l,rfl,⟨xs,hq⟩,q⟩:=q1
 obtain⟨u,rfl,ru⟩:=zaai r1
 cases ru
 obtain⟨its,rv,pl,hz⟩:=I1.sq hq
 have lt:=zqr.there pl
 refine zyg pl λh' he hit hk=>wpAny_pyIter_enum he ?_
 have I2:Inv X pins σ H1 {s1 with heap:=h'}:=I1.kept (t':=s1.toks) hk
 refine⟨s1.heap.objs.size+1,[s1.heap.objs.size+1,s1.heap.objs.size],_,_,H1,rfl,I2,zaes l _ _ (Nat.succ_ne_self _) (qBh (Nat.lt_succ_of_lt lt)) (qr lt),⟨hit,_,he⟩,λc hb=>?_,q⟩
 rcases qY.mp hb with rfl|hb
 ·exact I1.fpOk (qCe _) (I1.hok.fresh (qCe _))
 ·have e:c=s1.heap.objs.size:=by simpa using hb
  subst e
  exact I1.fpOk (qQ _) (I1.hok.fresh (qQ _))
noncomputable def zail(f:AF):IF':=λenv=>(f env).bind λrs=>match rs with
 | [r]=>(zld r.d).map λds=>(zabc ds,r.bs)
 | _=>none
theorem zamk{K:qB}{ta:TA}{f:AF}(h1:SA ta f):SI (iEnumX K ta) (zail f):=by
 intro fx H0 env σ H h ds bs e R q
 unfold zail at e
 obtain⟨rs,er,e⟩:=qA.mp e
 split at e
 ·rename_i r
  obtain⟨d1,ed1,e⟩:=qG.mp e
  cases e
  refine h1 fx H0 env σ H h _ er _ λvs H1 s hv=>?_
  cases hv with
  | cons hv t=>
   cases t
   obtain⟨b,a,xs,rfl,r1,e1⟩:=zavm (K:=K) (Rp.same (Offs.sub (zgz (bs:=r.bs))) _ hv.rp) ed1
   refine⟨b,a,rfl,⟨xs,e1 _ H1 (Same.refl _)⟩,q _ H1 s ?_⟩
   intro A H' hA ss
   have q1:=e1 A H' ss
   have r1':=Rps.same ss _ r1
   have hl:(zabc d1).length=d1.length:=by unfold zabc;simp
   refine⟨λi d e=>?_,⟨xs,q1,by rw[hl,r1.length];exact qQ _⟩⟩
   unfold zabc at e
   rw[qS,qDF]at e
   cases e0:d1[i]? with
   | none=>rw[e0]at e;cases e
   | some d0=>
    rw[e0]at e
    obtain⟨v,hv,rv⟩:=r1'.get2 e0
    have e:PyData.tuple [.int ((0+i:Nat):Int),d0]=d:=qa e
    rw[qDD]at e
    subst e
    refine⟨⟨xs,v,q1,hv⟩,λx H'' y=>?_⟩
    obtain⟨p,y',rfl,hp,rfl,y⟩:=y
    have:=y xs q1
    rw[hv]at this
    cases this
    exact⟨Same.new hp,zqc hp (zeq hA hp) (zcx zai (zcx rv zeb))⟩
 ·cases e
theorem zaim{K:qB}{ta:TA}{f:AF}(h1:SA ta f):SI (iEnumX K ta) (zadg f):=λfx H0 env σ H h ds bs e R q=>
 zamk h1 fx H0 env σ H h ds bs (by
  unfold zadg at e
  unfold zail
  obtain⟨rs,er,e⟩:=qA.mp e
  rw[er]
  cases rs with
  | nil=>cases e
  | cons r t=>
   cases t with
   | nil=>
    obtain⟨d,fr,b⟩:=r
    cases d<;>first|exact e|cases e
   | cons _ _=>cases e) R q
noncomputable def isStar:Expr->Bool
 | .Starred ..=>true
 | _=>false
theorem zak(h:isStar e=false):starEach (e::es) env=(false,eval e env)::starEach es env:=by
 cases e<;>first
  | rfl
  | cases h
theorem zaml(ha:PE X e te)(hr:PA X es t)(hs:isStar e=false:=by rfl):PA X (e::es) (tCons te t):=zjp ha hr (zak hs)
end L2
namespace PySem.SeqAt
open AutoSeq1 (wpAny_loadPart')
open MeetsSeq PyProof.Rows
end PySem.SeqAt
namespace L2
open PySem PySem.Spec PyProof.Rows
structure Bx(p:Prop):Prop where
 out:p
theorem Bx.pt(h:Bx (PW X e t)):Bx (PT X e t):=⟨h.out.pt⟩
theorem zao{X:Cx}{i:Int}{j:Nat}{pos:qi}:Bx (PE X (qU.Constant (PySem.Const.int i) j pos) (tC (L2.V.int i))):=⟨zgx⟩
theorem zad{X:Cx}:Bx (PA X [] tNil):=⟨zoo⟩
theorem zain{X:Cx}{e:qU}{es:List qU}{te:TE}{t:TA}(ha:Bx (PE X e te))(hr:Bx (PA X es t))(hs:L2.isStar e=Bool.false):Bx (PA X (e::es) (tCons te t)):=⟨zaml ha.out hr.out hs⟩
theorem zba{X:Cx}{a b:qU}{ta tb:TE}{pos:qi}{op:PySem.Operator}{r:L2.R2}(ho:OpR X (PySem.binaryOp op) r)(ha:Bx (PE X a ta))(hb:Bx (PE X b tb)):Bx (PE X (a.BinOp op b pos) (tOp r ta tb)):=⟨zlc ho ha.out hb.out⟩
theorem zan{X:Cx}{st:Stmt}{t:TS}(h1:Bx (PS X st t)):Bx (PSs X [st] t):=⟨zlj h1.out⟩
theorem zah{X:Cx}{st:Stmt}{rest:List Stmt}{t u:TS}(h1:Bx (PS X st t))(h2:Bx (PSs X rest u)):Bx (PSs X (st::rest) (L2.tSeq t u)):=⟨zkr h1.out h2.out⟩
theorem zavn {X:Cx} {x:Str} {p pos:qi} {e:qU} {es:List qU} {t:TA} {ps:List Str} {k:Nat} {sp:L2.Sp} (D:L2.Dn X.prog X.w X.K X.mg X.base x ps k sp) (hr:L2.Room k X.A) (hg:Gl X x) (ha:Bx (PA X (e::es) t)) (hdb:(x==qc "__debug__")=Bool.false) (he:qx (e::es) X.env=(Bool.false,PySem.eval e X.env)::qx es X.env) (hpl:((PySem.backTo pos (qx es X.env)).any λ(x:Bool×PySem.Sem Value)=>x.fst)=Bool.false):Bx (PE X ((qU.Name x p).Call (e::es) [] pos) (L2.tCall sp [] L2.E0 t)):=⟨zaxp D hr hg ha.out hdb he hpl⟩
theorem zbn{X:Cx}{e:qU}{te:TE}{pos:qi}(he:Bx (PE X e te)):Bx (PS X (PySem.Stmt.Return (Option.some e) pos) (L2.tRet te)):=⟨zanx he.out⟩
theorem zari{X:Cx}{pos:qi}{i:Nat}{x:Str}{e:qU}{te:TE}{pos':qi}(hN:X.N.Nodup)(hi:X.N[i]?=Option.some x)(hx:L2.Loc X.env.scope x)(he:Bx (PE X e te))(hs:PySem.swapsWith e (Option.some (qU.Name x pos')) pos.line X.env=Pure.pure Bool.false)(hf:X.fn x=Bool.true\/List.lookup x X.env.scope.names=Option.some PySem.NameKind.local):Bx (PS X (PySem.Stmt.Assign [qU.Name x pos'] e pos) (L2.tAsg te (L2.gName i))):=⟨zaco hN hi hx he.out hs hf⟩
theorem zaio {X:Cx} {x:Str} {p pos:qi} {e:qU} {es:List qU} {t:TA} {id:String} {r:List L2.V->Hp->VK->Prop} (hc:CallR X (PySem.Value.builtin id) r) (hg:Gl X x) (hm:X.mg x=Option.none) (hv:PySem.bootBuiltins x=Option.some (PySem.Value.builtin id)) (ha:Bx (PA X (e::es) t)) (hn:x≠qc "__name__") (hdb:(x==qc "__debug__")=Bool.false) (he:qx (e::es) X.env=(Bool.false,PySem.eval e X.env)::qx es X.env) (hpl:((PySem.backTo pos (qx es X.env)).any λ(x:Bool×PySem.Sem Value)=>x.fst)=Bool.false):Bx (PE X ((qU.Name x p).Call (e::es) [] pos) (L2.tCB r t)):=⟨zacr hc hg hm hv ha.out hn hdb he hpl⟩
theorem zee{X:Cx}{b:Bool}{j:Nat}{pos:qi}:Bx (PE X (qU.Constant (PySem.Const.bool b) j pos) (tC (L2.V.bl b))):=⟨zaxe⟩
theorem zavo{X:Cx}{a b:qU}{ta tb:TE}{pos:qi}{r:L2.R2}(hr:IxR X r)(ha:Bx (PE X a ta))(hb:Bx (PE X b tb))(hs:L2.PlainIx b):Bx (PE X (a.Subscript b pos) (tOp r ta tb)):=⟨zauc hr ha.out hb.out hs⟩
theorem zef{X:Cx}{t u:TS}{pos:qi}{c:qU}{a b:List Stmt}{tc:TT}(hc:Bx (PT X c tc))(ha:Bx (PSs X a t))(hb:Bx (PSs X b u)):Bx (PS X (PySem.Stmt.If c a b pos) (L2.tIfS tc t u)):=⟨zats hc.out ha.out hb.out⟩
theorem zci{X:Cx}:Bx (PSs X [] L2.tNext):=⟨zapi⟩
theorem znz{X:Cx}{a:qU}{pos:qi}{tA:TT}(ha:Bx (PT X a tA)):Bx (PT X (qU.UnaryOp PySem.UnaryOp.Not a pos) (L2.tNot tA)):=⟨zatr ha.out⟩
theorem zfa:∀{X:Cx}{K:qB},
 X.K=K->
  ∀{a:qU}{ta:TE},
   Bx (PE X a ta)->
    (∀(whole:PySem.Sem Value),
      PySem.isTrue a X.env whole=do
       let v <- whole
       PySem.standAt a.pos
       PySem.holding [v] (PySem.truthy v))->
     Bx (PT X a λ(σ:L2.St)(H:Hp)(Q:Bool->Hp->Prop)=>ta σ H λ(x:L2.V)(H':Hp)=>∃(k:Bool),L2.TruV K x H' k/\Q k H'):=by
 intro X K hK a ta ha he
 exact⟨zahz hK ha.out he⟩
theorem zamm{X:Cx}{pos:qi}{i:Nat}{x:Str}(hN:X.N.Nodup)(hi:X.N[i]?=Option.some x)(hx:L2.Loc X.env.scope x)(hf:X.fn x=Bool.true\/List.lookup x X.env.scope.names=Option.some PySem.NameKind.local):Bx (PG X (qU.Name x pos) (L2.gName i)):=⟨zaaf hN hi hx hf⟩
theorem zbo{X:Cx}{es:List qU}{t:TA}{pos:qi}(h:Bx (PA X es t)):Bx (PE X (qU.List es pos) (tLst t)):=⟨zanz h.out⟩
theorem zgq{X:Cx}{tg iter:qU}{body:List Stmt}{wi:TI}{g:TG}{tb:TS}{pos:qi}(hp:PySem.PassesOwn (PySem.model X.prog X.w) X.A X.env X.xe)(hc:X.calm=Bool.true)(hi:Bx (PI X tg iter wi))(hg:Bx (PG X tg g))(hb:Bx (PSs X body tb))(hs:(∀(x:Value),PySem.foldedSetIterable iter X.env x=Pure.pure x)):Bx (PS X (PySem.Stmt.For tg iter body [] pos) (L2.tFor wi g tb)):=⟨zafy hp hc hi.out hg.out hb.out hs⟩
theorem zcc{X:Cx}{a b:qU}{ta tb:TE}{pos:qi}{op:PySem.CmpOp}{r:L2.R2}(ho:OpR X (PySem.compareOp op) r)(ha:Bx (PE X a ta))(hb:Bx (PE X b tb))(hm:PySem.behindInMarks op b=Bool.false):Bx (PT X (a.Compare [op] [b] pos) (L2.tTest (tOp r ta tb))):=⟨zaga ho ha.out hb.out hm⟩
theorem zaip{X:Cx}{x:Str}{j:Nat}{pos:qi}:Bx (PE X (qU.Constant (PySem.Const.str x) j pos) (tC (L2.V.str x))):=⟨zatm⟩
theorem zas{X:Cx}{e:qU}{te:TE}{pos:qi}(he:Bx (PE X e te))(hs:PySem.swapsWith e Option.none pos.line X.env=Pure.pure Bool.false):Bx (PS X (PySem.Stmt.Expr e pos) (L2.tDrop te)):=⟨zus he.out hs⟩
theorem zbm{X:Cx}{es:List qU}{t:TA}{pos:qi}{x1:Nat}(h:Bx (PA X es t)):Bx (PE X (qU.Tuple es x1 pos) (tTup t)):=⟨zatz h.out⟩
theorem zvm{X:Cx}{a b:qU}{ta tb:TE}{pos:qi}{op:PySem.CmpOp}{r:L2.R2}(ho:OpR X (PySem.compareOp op) r)(ha:Bx (PE X a ta))(hb:Bx (PE X b tb))(hm:PySem.behindInMarks op b=Bool.false):Bx (PE X (a.Compare [op] [b] pos) (tOp r ta tb)):=⟨zapm ho ha.out hb.out hm⟩
theorem zaet {X:Cx} {x:Str} {p pos:qi} {e:qU} {es:List qU} {t:TA} {T:String} {r:List L2.V->Hp->VK->Prop} (hc:CallR X (PySem.Value.type T) r) (hg:Gl X x) (hm:X.mg x=Option.none) (hv:PySem.bootBuiltins x=Option.some (PySem.Value.type T)) (ha:Bx (PA X (e::es) t)) (hn:x≠qc "__name__") (hdb:(x==qc "__debug__")=Bool.false) (he:qx (e::es) X.env=(Bool.false,PySem.eval e X.env)::qx es X.env) (hpl:((PySem.backTo pos (qx es X.env)).any λ(x:Bool×PySem.Sem Value)=>x.fst)=Bool.false):Bx (PE X ((qU.Name x p).Call (e::es) [] pos) (L2.tCB r t)):=⟨zagg hc hg hm hv ha.out hn hdb he hpl⟩
theorem zpn{X:Cx}{x:Str}{v:L2.V}{u:Value}{pos:qi}(hg:Gl X x)(hm:X.mg x=Option.none)(hv:PySem.bootBuiltins x=Option.some u)(r:L2.RelV v u)(hn:x≠qc "__name__")(hd:(x==qc "__debug__")=Bool.false):Bx (PE X (qU.Name x pos) (tC v)):=⟨zaph hg hm hv r hn hd⟩
theorem zlu{X:Cx}{a:qU}{pos:qi}{tA:TT}(ha:Bx (PT X a tA)):Bx (PW X (qU.BoolOp PySem.BoolOp.Or [a] pos) tA):=⟨zatq ha.out⟩
theorem zqs {X:Cx} {a b:qU} {pos:qi} {tA tB':TT} {rest:List qU} (ha:Bx (PT X a tA)) (hb:Bx (PW X (qU.BoolOp PySem.BoolOp.Or (b::rest) pos) tB')):Bx (PW X (qU.BoolOp PySem.BoolOp.Or (a::b::rest) pos) (L2.tOr tA tB')):=⟨zaxf ha.out hb.out⟩
theorem ziq{X:Cx}{e:qU}{te:TE}(h:Bx (PE X e te)):Bx (PO X (Option.some e) (tPart te)):=⟨zagi h.out⟩
theorem zmn{X:Cx}:Bx (PO X Option.none L2.tNoPart):=⟨zagh⟩
theorem zic{X:Cx}{e:qU}{te:TE}{lo hi:Option qU}{tl th:TO}{pos p2:qi}{r:L2.V->Option Int->Option Int->Hp->VK->Prop}(hr:SlR X r)(he:Bx (PE X e te))(hl:Bx (PO X lo tl))(hu:Bx (PO X hi th)):Bx (PE X (e.Subscript (qU.Slice lo hi Option.none p2) pos) (L2.tSl r te tl th)):=⟨zacs hr he.out hl.out hu.out⟩
theorem zkg {X:Cx} {scope:Scope} {N' own:List Str} {fr:List Nat} {elt target iter:qU} {ifs:List qU} {cpos:qi} {wi:TI} {g:TG} {tt:TT} {te:TE} (c:L2.CompOk X scope N' own fr) (hc:X.calm=Bool.true) (hi:Bx (PI X target iter wi)) (hb:(∀(cl:List (Str×Addr))(C:Addr)(s:Shared)(H:Hp)(fp:List Addr),PG (cxComp X scope N' own cl C s H fp) target g/\PF (cxComp X scope N' own cl C s H fp) ifs tt/\PE (cxComp X scope N' own cl C s H fp) elt te)) (hs:(∀(x:Value),PySem.foldedSetIterable iter X.env x=Pure.pure x)):Bx (PE X (elt.ListComp [{target:=target,iter:=iter,ifs:=ifs,is_async:=0}] scope cpos) (L2.tComp1 wi g tt te own fr)):=⟨zalh c hc hi.out hb hs⟩
theorem zbh {X:Cx} {K:qB} (hK:X.K=K) {T:String} {name:Str} {id:String} {r:L2.V->List L2.V->Hp->VK->Prop} {o e:qU} {es:List qU} {to:TE} {t:TA} {apos cpos:qi} (pa:PySem.PlainAttrs T) (slot:PySem.Slot T name id) (hty:PySem.typeOf (PySem.Value.builtin id)=Pure.pure (PySem.Value.type "method_descriptor")) (hm:MtR X id r) (ho:Bx (PE X o to)) (ha:Bx (PA X (e::es) t)) (hbase:PySem.attributeBase o name X.env (PySem.eval o X.env)=PySem.eval o X.env) (hfew:((((PySem.backTo cpos (qx (e::es) X.env)).all λ(x:Bool×PySem.Sem Value)=>!x.fst)&&(PySem.backToKw cpos (PySem.keywordEach [] X.env)).all λ(x:Option Str×PySem.Sem Value)=>x.fst.isSome)&&Decidable.decide (((e::es).length+([]:List Keyword).length+if([]:List Keyword).isEmpty=Bool.true then 0 else 1)<30))=Bool.true) (hline:(apos.endLine==cpos.line)=Bool.true) (hs:qx (e::es) X.env=(Bool.false,PySem.eval e X.env)::qx es X.env) (hplain:((PySem.backTo cpos (qx es X.env)).any λ(x:Bool×PySem.Sem Value)=>x.fst)=Bool.false):Bx (PE X ((o.Attribute name apos).Call (e::es) [] cpos) (L2.tBM K T r to t)):=⟨zagx hK pa slot hty hm ho.out ha.out hbase hfew hline hs hplain⟩
theorem zamn{X:Cx}{pos:qi}:Bx (PPs X pos [] [] []):=⟨zapy⟩
theorem zaiq{X:Cx}{pos:qi}{k v:qU}{ks:List (Option qU)}{vs:List qU}{tk tv:TE}{trs:List (TE×TE)}(hk:Bx (PE X k tk))(hv:Bx (PE X v tv))(hr:Bx (PPs X pos ks vs trs)):Bx (PPs X pos (Option.some k::ks) (v::vs) ((tk,tv)::trs)):=⟨zald hk.out hv.out hr.out⟩
theorem zdh{X:Cx}{K:qB}(hK:X.K=K){tg l:qU}{tl:TE}(hl:Bx (PE X l tl)):Bx (PI X tg l (L2.iSeq K tl)):=⟨zaqs hK hl.out⟩
theorem zoa{X:Cx}{tg a:qU}{ta:TA}{p pos:qi}(hg:Gl X (qc "range"))(hm:X.mg (qc "range")=Option.none)(ha:Bx (PA X [a] ta))(hs:qx [a] X.env=[(Bool.false,PySem.eval a X.env)]):Bx (PI X tg ((qU.Name (qc "range") p).Call [a] [] pos) (L2.iRng1 ta)):=⟨zwu hg hm ha.out hs⟩
theorem zaeu{X:Cx}{tg a b:qU}{ta:TA}{p pos:qi}(hg:Gl X (qc "range"))(hm:X.mg (qc "range")=Option.none)(ha:Bx (PA X [a,b] ta))(hs:qx [a,b] X.env=[(Bool.false,PySem.eval a X.env),(Bool.false,PySem.eval b X.env)])(hs2:qx [b] X.env=[(Bool.false,PySem.eval b X.env)]):Bx (PI X tg ((qU.Name (qc "range") p).Call [a,b] [] pos) (L2.iRng2 ta)):=⟨zafw hg hm ha.out hs hs2⟩
theorem zqt{X:Cx}:Bx (PF X [] L2.tAll):=⟨zaul⟩
theorem zvn{X:Cx}{j:Nat}{pos:qi}:Bx (PE X (qU.Constant PySem.Const.none j pos) (tC L2.V.non)):=⟨zatl⟩
theorem zyh{X:Cx}{pos:qi}:Bx (PE X (qU.Dict [] [] pos) L2.tDNewK):=⟨zalc⟩
theorem zamo{X:Cx}{pos:qi}{keys:List (Option qU)}{values:List qU}{trs:List (TE×TE)}(h:Bx (PPs X pos keys values trs))(hall:(keys.all λ(x:Option qU)=>x.isSome)=Bool.true)(hl:keys.length=values.length)(h0:keys≠[])(h15:keys.length<=15):Bx (PE X (qU.Dict keys values pos) (L2.tDisp trs)):=⟨zapz h.out hall hl h0 h15⟩
theorem zvo{X:Cx}{c:qU}{t:TT}(h:Bx (PT X c t)):Bx (PF X [c] t):=⟨zaum h.out⟩
theorem zga{X:Cx}{o i:qU}{pos:qi}{td ty:TE}(hu:X.A.units+1<PySem.cLine)(ho:Bx (PE X o td))(hi:Bx (PE X i ty))(hs:L2.NoSl i):Bx (PE X (o.Subscript i pos) (L2.tDGet td ty)):=⟨zapw hu ho.out hi.out hs⟩
theorem zair{X:Cx}{pos:qi}{c:qU}{body:List Stmt}{tc:TT}{tb:TS}(hp:PySem.PassesOwn (PySem.model X.prog X.w) X.A X.env X.xe)(hc:Bx (PT X c tc))(hb:Bx (PSs X body tb)):Bx (PS X (PySem.Stmt.While c body [] pos) (L2.tWhile tc tb)):=⟨zakw hp hc.out hb.out⟩
theorem zais{X:Cx}{st:Stmt}:Bx (PS X st L2.tNever):=⟨zaku⟩
theorem zamp{X:Cx}{o i value:qU}{pos pos':qi}{td ty tv:TE}(hu:X.A.units+1<PySem.cLine)(ho:Bx (PE X o td))(hi:Bx (PE X i ty))(hv:Bx (PE X value tv))(hs:PySem.swapsWith value (Option.some (o.Subscript i pos')) pos.line X.env=Pure.pure Bool.false):Bx (PS X (PySem.Stmt.Assign [o.Subscript i pos'] value pos) (L2.sDPut td ty tv)):=⟨zapx hu ho.out hi.out hv.out hs⟩
theorem zyi {X:Cx} {scope:Scope} {N' own:List Str} {fr:List Nat} {elt target iter:qU} {ifs:List qU} {cpos:qi} {wi:TI} {g:TG} {tt:TT} {te:TE} {spos py:qi} {i:Nat} {y:Str} (c:L2.CompOk X scope N' own fr) (hc:X.calm=Bool.true) (hi:Bx (PI X target iter wi)) (hb:(∀(cl:List (Str×Addr))(C:Addr)(s:Shared)(H:Hp)(fp:List Addr),PG (cxComp X scope N' own cl C s H fp) target g/\PF (cxComp X scope N' own cl C s H fp) ifs tt/\PE (cxComp X scope N' own cl C s H fp) elt te)) (hsw:PySem.swapsWith (elt.ListComp [{target:=target,iter:=iter,ifs:=ifs,is_async:=0}] scope cpos) (Option.some (qU.Name y py)) spos.line X.env=Pure.pure Bool.true) (hN:X.N.Nodup) (hy:X.N[i]?=Option.some y) (hl:List.lookup y X.env.scope.names=Option.some PySem.NameKind.local) (hs:(∀(x:Value),PySem.foldedSetIterable iter X.env x=Pure.pure x)):Bx (PS X (PySem.Stmt.Assign [qU.Name y py] (elt.ListComp [{target:=target,iter:=iter,ifs:=ifs,is_async:=0}] scope cpos) spos) (L2.tAsgC1 wi g tt te own fr i)):=⟨zali c hc hi.out hb hsw hN hy hl hs⟩
theorem zait{X:Cx}{K:qB}(hK:X.K=K){a:qU}{ta:TA}{p pos:qi}{elts:List qU}{x1:Nat}{tpos:qi}(hg:Gl X (qc "enumerate"))(hm:X.mg (qc "enumerate")=Option.none)(ha:Bx (PA X [a] ta))(hs:qx [a] X.env=[(Bool.false,PySem.eval a X.env)]):Bx (PI X (qU.Tuple elts x1 tpos) ((qU.Name (qc "enumerate") p).Call [a] [] pos) (L2.iEnumX K ta)):=⟨zamj hK hg hm ha.out hs⟩
theorem zmo{X:Cx}:Bx (PGs X [] L2.gNil):=⟨zapj⟩
theorem zeg {X:Cx} {e:qU} {es:List qU} {t:TG} {u:L2.TGs} (h1:Bx (PG X e t)) (h2:Bx (PGs X es u)) (hs:List.map (λ(x:Bool×(Value->PySem.Sem Unit))=>x.snd) (PySem.assignEach (e::es) X.env)=PySem.assign e X.env::List.map (λ(x:Bool×(Value->PySem.Sem Unit))=>x.snd) (PySem.assignEach es X.env)):Bx (PGs X (e::es) (L2.gCons t u)):=⟨zakv h1.out h2.out hs⟩
theorem zmp {X:Cx} {K:qB} (hK:X.K=K) {es:List qU} {k:Nat} {t:L2.TGs} {n:Nat} {pos:qi} (hc:X.calm=Bool.true) (h:Bx (PGs X es t)) (hn:(PySem.assignEach es X.env).length=n) (hst:List.findIdx? (λ(x:Bool×(Value->PySem.Sem Unit))=>x.fst) (PySem.assignEach es X.env)=Option.none):Bx (PG X (qU.Tuple es k pos) (L2.gTup K n t)):=⟨zaqf hK hc h.out hn hst⟩
theorem zmq{X:Cx}{a:qU}{ta:TE}{pos:qi}{op:PySem.UnaryOp}{r:L2.V->Hp->VK->Prop}(ho:L2.UnR X (PySem.unaryOp op) r)(ha:Bx (PE X a ta)):Bx (PE X (qU.UnaryOp op a pos) (L2.tUn r ta)):=⟨zaxg ho ha.out⟩
theorem zaev{X:Cx}{e:qU}{te:TE}{p1 p2 pos1 pos2:qi}(hc:X.calm=Bool.true)(hgl:Gl X (qc "len"))(hml:X.mg (qc "len")=Option.none)(hgs:Gl X (qc "set"))(hms:X.mg (qc "set")=Option.none)(he:Bx (PE X e te))(hs:qx [e] X.env=(Bool.false,PySem.eval e X.env)::qx [] X.env):Bx (PE X ((qU.Name (qc "len") p1).Call [(qU.Name (qc "set") p2).Call [e] [] pos2] [] pos1) (L2.tLenSet te)):=⟨zaij hc hgl hml hgs hms he.out hs⟩
theorem zaiu {X:Cx} {scope:Scope} {N' own:List Str} {fr:List Nat} {elt target iter target2 iter2:qU} {ifs ifs2:List qU} {cpos:qi} {wi wi2:TI} {g g2:TG} {tt tt2:TT} {te:TE} (c:L2.CompOk X scope N' own fr) (hc:X.calm=Bool.true) (hi:Bx (PI X target iter wi)) (hb:(∀(cl:List (Str×Addr))(C:Addr)(s:Shared)(H:Hp)(fp:List Addr),PG (cxComp X scope N' own cl C s H fp) target g/\PF (cxComp X scope N' own cl C s H fp) ifs tt/\PI (cxComp X scope N' own cl C s H fp) target2 iter2 wi2/\PG (cxComp X scope N' own cl C s H fp) target2 g2/\PF (cxComp X scope N' own cl C s H fp) ifs2 tt2/\PE (cxComp X scope N' own cl C s H fp) elt te)) (hs:(∀(x:Value),PySem.foldedSetIterable iter X.env x=Pure.pure x)) (hs2:(∀(env:PySem.Env)(x:Value),PySem.foldedSetIterable iter2 env x=Pure.pure x)):Bx (PE X (elt.ListComp [{target:=target,iter:=iter,ifs:=ifs,is_async:=0},{target:=target2,iter:=iter2,ifs:=ifs2,is_async:=0}] scope cpos) (L2.tComp2 wi g tt wi2 g2 tt2 te own fr)):=⟨zamb c hc hi.out hb hs hs2⟩
theorem zarj{X:Cx}{a:qU}{ta:TE}{j:Nat}{pos':qi}(ha:Bx (PE X a ta)):Bx (L2.PC X PySem.CmpOp.Is a (qU.Constant PySem.Const.none j pos') (L2.tIsN ta)):=⟨zatn ha.out⟩
theorem zaew{X:Cx}{o i:qU}{td ty:TE}(hu:X.A.units+1<PySem.cLine)(hi:Bx (PE X i ty))(ho:Bx (PE X o td)):Bx (L2.PC X PySem.CmpOp.NotIn i o (L2.tDNotIn ty td)):=⟨zago hu hi.out ho.out⟩
theorem zvp{X:Cx}{o i:qU}{td ty:TE}(hu:X.A.units+1<PySem.cLine)(hi:Bx (PE X i ty))(ho:Bx (PE X o td)):Bx (L2.PC X PySem.CmpOp.In i o (L2.tDIn ty td)):=⟨zauk hu hi.out ho.out⟩
theorem zark{X:Cx}{a b:qU}{pos:qi}{op:PySem.CmpOp}{t:TE}(h:Bx (L2.PC X op a b t))(h1:PySem.behindInMarks op b=Bool.false):Bx (PE X (a.Compare [op] [b] pos) t):=⟨zato h.out h1⟩
theorem zqu{X:Cx}{a b:qU}{pos:qi}{op:PySem.CmpOp}{t:TE}(h:Bx (L2.PC X op a b t))(h1:PySem.behindInMarks op b=Bool.false):Bx (PT X (a.Compare [op] [b] pos) (L2.tB t)):=⟨zatp h.out h1⟩
theorem bv{X:Cx}(i:Nat){x:Str}{pos:Pos}(hN:X.N[i]?=some x:=by rfl)(hv:visB X.env.scope x=true:=by rfl)(hd:(x==("__debug__":Str))=false:=by decide)
  (hcd:(x==("__classdict__":Str))=false:=by decide):Bx (PE X (.Name x pos) (tVar i)):=⟨zacn hN (visB.of hv) hd hcd⟩
noncomputable def SatK(fx:Addr->Prop)(H0:Hp)(J:Nat->Prop)(σ0:St)(D:Ends):Out->Prop
 | .nx env=>∀σ H,EnvOk fx H0 env σ H->(∀j,J j->σ[j]?=σ0[j]?)->D.nx σ H
 | .bk env=>∀σ H,EnvOk fx H0 env σ H->(∀j,J j->σ[j]?=σ0[j]?)->D.bk σ H
 | .ct env=>∀σ H,EnvOk fx H0 env σ H->(∀j,J j->σ[j]?=σ0[j]?)->D.ct σ H
 | .rt d fr=>∀v H,Same H0 H->zabb fx H0 d fr v H->D.rt v H
theorem SatK.move{fx:Addr->Prop}{J:Nat->Prop}(h:SatK fx H0 J σ0 D o)(e:∀j,J j->σ1[j]?=σ0[j]?):SatK fx H0 J σ1 D o:=by
 cases o with
 | nx env=>exact λσ H hE k=>h σ H hE λj hj=>(k j hj).trans (e j hj)
 | bk env=>exact λσ H hE k=>h σ H hE λj hj=>(k j hj).trans (e j hj)
 | ct env=>exact λσ H hE k=>h σ H hE λj hj=>(k j hj).trans (e j hj)
 | rt d fr=>exact h
noncomputable def SSk(J:Nat->Prop)(ts:TS)(F:SF):Prop:=∀(fx:Addr->Prop)(H0:Hp)(env:DEnv)(σ:St)(H:Hp)(D:Ends),EnvOk fx H0 env σ H->∀o,F env=some o->SatK fx H0 J σ D o->ts D σ H
section
variable{J:Nat->Prop}
theorem zarl(h1:SE te f)(hJ:¬J i):SSk J (tAsg te (gName i)) (sSet i f):=by
 intro fx H0 env σ H D h o e q
 unfold sSet at e
 obtain⟨r,er,rfl⟩:=qG.mp e
 exact h1 fx H0 env σ H h r er _ λv H' s hv=>q _ H' (h.put s hv i) λj hj=>qL λz=>hJ (by rw[z];exact hj)
end
end L2
namespace HT
open PySem PySem.Spec PyProof.Rows L2
end HT
namespace L2
open PySem PySem.Spec PyProof.Rows
end L2
namespace PySem
open Sem (wp)
end PySem
namespace L2
open PySem PySem.Spec PyProof.Rows
end L2
namespace PySem
open Sem (wp)
end PySem
namespace L2
open PySem PySem.Spec PyProof.Rows
noncomputable def DnX(P:Program)(w:World)(K:qB)(mg:Str->Option Value)(base:Heap)(x:Str)(ps:List Str)(k:Nat)(sp:Sp):Prop:=
 ∃f fd,FnOk P w K mg base (CXE P w) k f fd ps sp/\mg x=some (.ref f)/\qAj K (.ref f)=true/\zij K fd ps []
section
variable{X:Cx}
theorem zbt(D:DnX X.prog X.w X.K X.mg X.base x ps k sp)(hx:ztg (CXE X.prog X.w) X E)(hr:Room k X.A)(hg:Gl X x)(ha:Bx (PA X (e::es) t))
  (hdb:(x==("__debug__":Str))=false)(he:starEach (e::es) X.env=(false,eval e X.env)::starEach es X.env)(hpl:(backTo pos (starEach es X.env)).any (·.1)=false) :
  Bx (PE X (.Call (.Name x p) (e::es) [] pos) (tCall sp [] E t)):=by
 obtain⟨f,fd,F,hm,hk,hb⟩:=D
 exact⟨zagf F hr hg hm hk hb .nil hx ha.out hdb he hpl⟩
noncomputable def XcOk(P:Program)(w:World)(K:qB)(mg:Str->Option Value)(base:Heap)(x:Str)(C:Addr):Prop:=
 ∃f fd,XMk K C f/\FnOk P w K mg base CX0 1 f fd ["self","at"] (spI C)/\zij K fd ["self","at"] []/\mg x=some (.ref C)/\PySem.W.findIn K (.ref C) "__class__"=some (some (.builtin "object.__class__"))/\PySem.W.exmOne K (.ref C) (.ref C)=some true
theorem zaiv(M:XcOk X.prog X.w X.K X.mg X.base x C)(hr:Room 2 X.A)(hex:X.ex=[])(hc:X.calm=true)(hx:Lvs X E)(hg:Gl X x)(ha:Bx (PE X a te))
  (hdb:(x==("__debug__":Str))=false) (he:starEach [a] X.env=[(false,eval a X.env)]):Bx (PS X (.Raise (some (.Call (.Name x np) [a] [] cpos)) none pos) (zahd C E te)):=by
 obtain⟨f,fd,M,F,hb,hm,_⟩:=M
 exact⟨zaln M F hr hb hex hc hx hg hm ha.out hdb he⟩
end
theorem zavp{P:Program}{w:World}{K:qB}{mg:Str->Option Value}{base:Heap}{N:List Str}{qual:Str}{scope:Scope}{f:Addr}{cd:Value}{A:Around}{outer:List Env}{s:Shared}{H:Hp}{E:XK}(h0k:HOk P w H s.heap) :
  Lvs (cxOf (CXE P w) P w K mg base N qual scope f cd A outer s H E) (StX H E):=λpins σ H1 s1 e C dx I F q=>zaoe I h0k F q
structure ErrAt(H:Hp)(e C dx:Addr)(d:PyData):Prop where
 ex:∃tv,H e=some (.ext (xeD e C dx tv))
 at_:∃v,H dx=some (.xd [("at",v)])/\∀H',Rp H' d v
theorem ErrAt.up(h:ErrAt H e C dx d)(s:Same H H'):ErrAt H' e C dx d:=
 ⟨let⟨tv,z⟩:=h.ex;⟨tv,s _ _ z⟩,let⟨v,z,r⟩:=h.at_;⟨v,s _ _ z,r⟩⟩
noncomputable def SEe(j:Nat)(C:Addr)(d:PyData)(te:TE)(f:EF):Prop:=∀(fx:Addr->Prop)(H0:Hp)(env:DEnv)(σ:St)(H:Hp)(e dx:Addr),EnvOk fx H0 env σ H->σ[j]?=some (some (.ref e))->ErrAt H e C dx d->∀r,f env=some r->∀Q:VK,(∀v H',Same H H'->ValOk (lim fx env σ r.bs) H H' r v->Q v H')->te σ H Q
noncomputable def SAe(j:Nat)(C:Addr)(d:PyData)(ta:TA)(f:AF):Prop:=∀(fx:Addr->Prop)(H0:Hp)(env:DEnv)(σ:St)(H:Hp)(e dx:Addr),EnvOk fx H0 env σ H->σ[j]?=some (some (.ref e))->ErrAt H e C dx d->∀rs,f env=some rs->∀Q:List V->Hp->Prop,
 (∀vs H',Same H H'->Paired (λr v=>ValOk (lim fx env σ r.bs) H H' r v) rs vs->Q vs H')->ta σ H Q
noncomputable def SSe(j:Nat)(C:Addr)(d:PyData)(ts:TS)(F:SF):Prop:=∀(fx:Addr->Prop)(H0:Hp)(env:DEnv)(σ:St)(H:Hp)(D:Ends)(e dx:Addr),EnvOk fx H0 env σ H->σ[j]?=some (some (.ref e))->ErrAt H0 e C dx d->∀o,F env=some o->SatK fx H0 (λk=>k=j) σ D o->ts D σ H
section
variable{j:Nat}{C:Addr}{d:PyData}
theorem zavq(h:SE te f):SEe j C d te f:=λfx H0 env σ H e dx hE _ _=>h fx H0 env σ H hE
theorem zavr(h:SA ta f):SAe j C d ta f:=λfx H0 env σ H e dx hE _ _=>h fx H0 env σ H hE
theorem zavs:SEe j C d (tXat C (tVar j)) (eC d):=by
 intro fx H0 env σ H e dx h hj he r hr Q q
 cases hr
 obtain⟨tv,he1⟩:=he.ex
 obtain⟨v,hd,rv⟩:=he.at_
 exact⟨_,hj,e,dx,tv,v,rfl,he1,hd,q v H (Same.refl _) ⟨rv _,λz=>by cases z⟩⟩
theorem zarm{K:qB}{c:Addr}{b:Bool}(hk:PySem.W.kitOne K (.ref C) (.ref c)=some b):SEe j C d (tCB (rIsX K C) (tCons (tVar j) (tCons (tC (.ref c)) tNil))) (eC (.bool b)):=by
 intro fx H0 env σ H e dx h hj he r hr Q q
 cases hr
 obtain⟨tv,he1⟩:=he.ex
 exact⟨_,hj,e,dx,tv,b,he1,q _ H (Same.refl _) ⟨zar,λz=>by cases z⟩,.inl ⟨c,rfl,hk⟩⟩
theorem zarn{K:qB}{n:String}{b:Bool}(hk:PySem.W.kitOne K (.ref C) (.type n)=some b):SEe j C d (tCB (rIsX K C) (tCons (tVar j) (tCons (tC (.ty n)) tNil))) (eC (.bool b)):=by
 intro fx H0 env σ H e dx h hj he r hr Q q
 cases hr
 obtain⟨tv,he1⟩:=he.ex
 exact⟨_,hj,e,dx,tv,b,he1,q _ H (Same.refl _) ⟨zar,λz=>by cases z⟩,.inr (.inl ⟨n,rfl,hk⟩)⟩
theorem zaro:SAe j C d tNil aNil:=zavr zal
theorem zpo(h1:SEe j C d te f)(h2:SAe j C d ta g):SAe j C d (tCons te ta) (zaa f g):=by
 intro fx H0 env σ H e dx h hj he rs hr Q q
 unfold zaa at hr
 obtain⟨x,ex,hr⟩:=qA.mp hr
 obtain⟨xs,exs,rfl⟩:=qG.mp hr
 exact h1 fx H0 env σ H e dx h hj he x ex _ λv H1 s1 v1=>h2 fx H0 env σ H1 e dx (h.up s1) hj (he.up s1) xs exs _ λvs H2 s2 vs2=>q (v::vs) H2 (s1.trans s2)
  (.cons (v1.later (Same.refl _) s2 λ_ z=>z) (Paired.mapP vs2 λ_ _ z=>z.later s1 (Same.refl _) λ_ y=>y))
theorem zarp(ha:SAe j C d ta f):SEe j C d (tTup ta) (eTup f):=by
 intro fx H0 env σ H e dx h hj he rr hr Q q
 unfold eTup at hr
 obtain⟨rs,er,hr⟩:=qA.mp hr
 split at hr
 ·rename_i hl
  cases hr
  refine ha fx H0 env σ H e dx h hj he rs er _ λvs H1 s1 v1=>?_
  have r:=zfk (λi hi=>hi) v1
  have hA:=(h.up s1).lims (bss rs)
  refine⟨zfs (by rw[<- r.length,zgl];exact hl),λp hp=>q _ _ (s1.trans (Same.new hp)) ⟨zqc hp (zeq hA hp) r,λz=>by cases z⟩⟩
 ·cases hr
theorem zaiw(h1:SEe j C d te f)(hJ:¬i=j):SSe j C d (tAsg te (gName i)) (sSet i f):=by
 intro fx H0 env σ H D e dx h hj he o er q
 unfold sSet at er
 obtain⟨r,er',rfl⟩:=qG.mp er
 exact h1 fx H0 env σ H e dx h hj (he.up h.base) r er' _ λv H' s hv=>q _ H' (h.put s hv i) λk hk=>qL λz=>hJ (by rw[z];exact hk)
theorem zarq(h1:SSe j C d t f)(h2:SSe j C d u g):SSe j C d (tSeq t u) (sSeq f g):=by
 intro fx H0 env σ H D e dx h hj he o er q
 unfold sSeq at er
 obtain⟨o1,e1,er⟩:=qA.mp er
 refine h1 fx H0 env σ H _ e dx h hj he o1 e1 ?_
 cases o1 with
 | nx env'=>exact λσ' H' h' k=>h2 fx H0 env' σ' H' D e dx h' ((k j rfl).trans hj) he o er (q.move k)
 | bk env'=>cases er;exact q
 | ct env'=>cases er;exact q
 | rt d fr=>cases er;exact q
end
noncomputable def zayi(CS:List Str)(i j:Nat)(w:Str)(n:Nat)(g:GFX)(f:AF)(hd:Str->PyData->SF):SF:=λenv=>(f env).bind λrs=>if rs.length=n then(g (zfn rs)).bind λr=>match r with
 | .ok d fr=>some (.nx (putV env i ⟨.tuple [.str w,d],false,bss rs⟩))
 | .rx c d=>if c∈CS then(hd c d (env.set j .no)).bind λo=>match o with
  | .nx e=>some (.nx (e.set j .no))
  | _=>none else none else none
theorem EnvOk.setNo{fx:Addr->Prop}{env:DEnv}{σ:St}(h:EnvOk fx H0 env σ H)(i:Nat)(v:Option V):EnvOk fx H0 (env.set i .no) (σ.set i v) H:=by
 have oN:∀b,own (env.set i .no) (σ.set i v) b->own env σ b:=λb ⟨k,d,h1,h2⟩=>by
  rcases zcm h1 with⟨_,z⟩|⟨n,z⟩
  ·cases z
  ·exact⟨k,d,z,by rw[qL (λy=>n y.symm)]at h2;exact h2⟩
 refine⟨by rw[qw,qw];exact h.len,λk d e=>?_,λk d e=>?_,λk l d d' a e1 e2 z1 z2=>?_,h.base,h.fxs⟩
 ·rcases zcm e with⟨_,z⟩|⟨n,z⟩
  ·cases z
  ·obtain⟨u,g1,g2⟩:=h.pl k d z
   exact⟨u,by rw[qL (λy=>n y.symm)];exact g1,Rp.same (Offs.sub λb y=>y.imp id (oN b)) _ g2⟩
 ·rcases zcm e with⟨_,z⟩|⟨n,z⟩
  ·cases z
  ·obtain⟨a,g1,g2,g3,g4⟩:=h.ac k d z
   exact⟨a,by rw[qL (λy=>n y.symm)];exact g1,g2,g3,g4.same (Offs.sub λb y=>y.imp id (oN b)) λo z=>z⟩
 ·rcases zcm e1 with⟨_,z⟩|⟨n1,y1⟩
  ·cases z
  ·rcases zcm e2 with⟨_,z⟩|⟨n2,y2⟩
   ·cases z
   ·rw[qL (λy=>n1 y.symm)]at z1
    rw[qL (λy=>n2 y.symm)]at z2
    exact h.inj k l d d' a y1 y2 z1 z2
theorem zavt{cl:Str->Addr}{CS:List Str}{fx:Addr->Prop}{H0:Hp}{env:DEnv}{σ:St}{H1:Hp}{D:Ends}{j:Nat}{hd:Str->PyData->SF}{ts:Addr->TS}{c:Str}{d:PyData}{o:Out}
  (h1:EnvOk fx H0 env σ H1) (hj:j<env.length) (hc:c∈CS) (hs:∀c∈CS,∀d,SSe j (cl c) d (ts (cl c)) (hd c d)) (e:((hd c d (env.set j .no)).bind λo=>match o with|.nx e=>some (Out.nx (e.set j .no))|_=>none)=some o) (q:Sat fx H0 D o) :
  ∀k od H',RX H1 (cl c) d k od H'->tErr (λC=>∃c∈CS,C=cl c) ts j D σ H1 k od H':=by
 rintro k od H2 ⟨rfl,s2,fl,dx,v,rfl,hdx,rp⟩
 obtain⟨o1,e1,e⟩:=qA.mp e
 refine⟨cl c,dx,rfl,⟨c,hc,rfl⟩,rfl,λea H3 q1 q2 ⟨tv,hea⟩=>?_⟩
 have s3:Same H1 H3:=λb o z=>q1 b o z (s2 b o z)
 have hd3:H3 dx=some (.xd [("at",v)]):=q2 _ _ hdx (λφ z=>by cases z)
 have h3:EnvOk fx H0 (env.set j .no) (σ.set j (some (.ref ea))) H3:=(h1.up s3).setNo j _
 have noown:∀b u,H3 b=some u->(∀xs,u≠.lst xs)->(∀xs,u≠.dK xs)->¬own (env.set j .no) (σ.set j (some (.ref ea))) b:=λb u hb n1 n2 ⟨k,d',y1,y2⟩=>by
  obtain⟨a,g1,g2,g3,g4⟩:=h3.ac k d' y1
  rw[y2]at g1
  cases g1
  cases d' with
  | list ds=>obtain⟨ys,z1,_⟩:=g4;rw[hb]at z1;cases z1;exact n1 _ rfl
  | dict ds=>obtain⟨ys,z1,_⟩:=g4;rw[hb]at z1;cases z1;exact n2 _ rfl
  | _=>exact g4.elim
 refine hs c hc d fx _ _ _ H3 _ ea dx h3.rebase (qX (by rw[<- h1.len];exact hj)) ⟨⟨tv,by rw[Offs.get (noown _ _ hea (λ_ z=>by cases z) (λ_ z=>by cases z))];exact hea⟩,v,by rw[Offs.get (noown _ _ hd3 (λ_ z=>by cases z) (λ_ z=>by cases z))];exact hd3,λH'=>zqa fl rp⟩ o1 e1 ?_
 cases o1 with
 | nx e2=>
  cases e
  exact λσ' H' h' k=>q _ _ ((h'.unbase h3.floor).setNo j none)
 | bk e2=>cases e
 | ct e2=>cases e
 | rt d2 fr=>cases e
noncomputable def xcB(C:Addr)(cd:ClassData)(sl:Array (Option Value)):Bool:=match cd.mro,sl.toList with
 | .ref C'::bm,[_,_,_,_,some (.builtin n),_]=>C'==C&&!cd.hasDel&&cd.hasDict&&n=="ValueError.__new__"&&bm.contains (.type "ValueError")&&bm.contains (.type "BaseException")&&!bm.contains (.type "AttributeError")&&!bm.contains (.type "NameError")&&zdw bm
 | _,_=>false
theorem zavu{K:qB}(l:K.lookup C=some ⟨.type "type",dd,.cls cd,sl⟩)(h:xcB C cd sl=true):xcIn K C=true/\xcR K C=true:=by
 unfold xcB at h
 unfold xcIn xcR
 rw[l]
 split at h
 ·rename_i C' bm a0 a1 a2 a3 n a5 hm hs
  obtain⟨nm,bs,mro,ns,qn,hd,sn,sub,ab,col,del⟩:=cd
  obtain⟨sl⟩:=sl
  dsimp only at hm hs
  subst hm
  have hs:sl=[a0,a1,a2,a3,some (.builtin n),a5]:=hs
  subst hs
  rw[qAA]at h
  exact h
 ·cases h
section
variable{K:qB}{C c:Addr}
theorem zvq(h1:PySem.W.isClsIn K c=true)(h2:PySem.W.typeIn K (.ref c)=some (.type "type"))(h3:PySem.W.subIn K (.ref C) (.ref c)=some b):PySem.W.kitCls K (.ref C) (.ref c)=some b:=by
 unfold PySem.W.kitCls
 dsimp only
 have h1:(PySem.W.clsIn K c).isSome=true:=h1
 rw[if_pos (by rw[h1,h2];rfl)]
 exact h3
theorem zavv(h1:PySem.W.isClsIn K c=true)(h2:PySem.W.typeIn K (.ref c)=some (.type "type"))(h3:PySem.W.subIn K (.ref C) (.ref c)=some true):PySem.W.kitOne K (.ref C) (.ref c)=some true:=by
 unfold PySem.W.kitOne
 split
 ·rfl
 ·exact zvq h1 h2 h3
theorem zyj(h0:PySem.W.subIn K (.ref C) (.ref C)=some true)(h1:PySem.W.isClsIn K c=true)(h2:PySem.W.typeIn K (.ref c)=some (.type "type"))(h3:PySem.W.subIn K (.ref C) (.ref c)=some false):PySem.W.kitOne K (.ref C) (.ref c)=some false:=by
 unfold PySem.W.kitOne
 split
 ·rename_i e
  have e:C=c:=Value.ref.inj (beq_iff_eq.mp e)
  rw[<- e,h0]at h3
  cases h3
 ·exact zvq h1 h2 h3
theorem zavw(h3:PySem.W.subIn K (.ref C) (.type "ValueError")=some true):PySem.W.kitOne K (.ref C) (.type "ValueError")=some true:=by
 unfold PySem.W.kitOne
 rw[if_neg (by intro e;cases beq_iff_eq.mp e)]
 unfold PySem.W.kitCls
 dsimp only
 rw[if_pos (show PySem.W.kitMeta "ValueError"=true by decide +kernel)]
 exact h3
theorem zavx(hb:PySem.W.subIn K (.ref C) (.type "BaseException")=some true)(h1:PySem.W.isClsIn K C=true)(h2:PySem.W.typeIn K (.ref C)=some (.type "type"))(h3:PySem.W.subIn K (.ref C) (.ref C)=some true):PySem.W.exmOne K (.ref C) (.ref C)=some true:=by
 unfold PySem.W.exmOne
 rw[hb,if_pos (by rfl)]
 exact zvq h1 h2 h3
end
structure XKit(P:Program)(w:World)(K:qB)(mg:Str->Option Value)(base:Heap)(cl:Str->Addr)(CS KS:List Str)(B:Str):Prop where
 ok:∀c∈CS,XcOk P w K mg base c (cl c)
 ex:∀c∈CS,PySem.W.exmOne K (.ref (cl c)) (.ref (cl B))=some true
 kit:∀c∈CS,∀k∈KS,PySem.W.kitOne K (.ref (cl c)) (.ref (cl k))=some (decide (c=k))
 val:∀c∈CS,PySem.W.kitOne K (.ref (cl c)) (.type "ValueError")=some true
 mgk:∀k∈KS,mg k=some (.ref (cl k))
 mgB:mg B=some (.ref (cl B))
 mgV:mg "ValueError"=none
theorem ztr{p:Str->Prop}:∀c∈([]:List Str),p c:=λc h=>absurd h (by simp)
theorem zec{p:Str->Prop}(h:p a)(t:∀c∈l,p c):∀c∈a::l,p c:=λc hc=>(qY.mp hc).elim (λe=>e▸h) (t c)
section
variable{K:qB}{C c B:Addr}{a b:Str}
theorem kd_t(h:PySem.W.kitOne K (.ref C) (.ref c)=some true)(e:a=b):PySem.W.kitOne K (.ref C) (.ref c)=some (decide (a=b)):=by rw[h,decide_eq_true e]
theorem kd_f(h:PySem.W.kitOne K (.ref C) (.ref c)=some false)(e:a≠b):PySem.W.kitOne K (.ref C) (.ref c)=some (decide (a=b)):=by rw[h,decide_eq_false e]
theorem zavy(hb:PySem.W.subIn K (.ref B) (.type "BaseException")=some true)(h1:PySem.W.isClsIn K B=true)(h2:PySem.W.typeIn K (.ref B)=some (.type "type"))(h3:PySem.W.subIn K (.ref C) (.ref B)=some true):PySem.W.exmOne K (.ref C) (.ref B)=some true:=by
 unfold PySem.W.exmOne
 rw[hb,if_pos (by rfl)]
 exact zvq h1 h2 h3
end
section
variable{X:Cx}
theorem zkx(hg:Gl X x)(hm:X.mg x=some (.ref C))(hd:(x==("__debug__":Str))=false):Bx (PE X (.Name x pos) (tC (.ref C))):=⟨zarc hg hm hd⟩
theorem zarr(M:XMk X.K C f)(ho:Bx (PE X o te))(hb:attributeBase o "at" X.env (eval o X.env)=eval o X.env):Bx (PE X (.Attribute o "at" pos) (tXat C te)):=⟨zauw M ho.out hb⟩
theorem zqv{K:qB}{C f:Addr}(hK:X.K=K)(M:XMk K C f)(ha:PySem.W.findIn K (.ref C) "__class__"=some (some (.builtin "object.__class__"))):CallR X (.builtin "isinstance") (rIsX K C):=by
 subst hK;exact zaly M ha
theorem zamq{K:qB}{C f:Addr}{o:Expr}{pos:Pos}{te:TE}(hK:X.K=K)(M:XMk K C f)(ho:Bx (PE X o te))(hb:attributeBase o "at" X.env (eval o X.env)=eval o X.env):Bx (PE X (.Attribute o "at" pos) (tXat C te)):=by
 subst hK;exact zarr M ho hb
end
noncomputable def insL{α:Type}(xs:List α)(k:Nat)(y:α):List α:=xs.take k++y::xs.drop k
theorem zvr{xs:List α}:(insL xs k y).length=xs.length+1:=by
 unfold insL
 rw[qZ,qz,qA9,qBs]
 omega
noncomputable def zaix:V->List V->Hp->VK->Prop:=λx vs H Q=>∃l xs,∃(k:Nat),∃y,x=.ref l/\vs=[.int (k:Int),y]/\H l=some (.lst xs)/\k<=xs.length/\xs.length<qV/\k<2 ^ 62/\Q .non (upd H l (.lst (insL xs k y)))
theorem zyk:MtM X "list.insert" zaix:=by
 intro pins s σ H x vs v us Q I rx rv h
 obtain⟨l,xs,k,y,rfl,rfl,hH,hk,hz,hk2,q⟩:=h
 cases rx
 obtain⟨u1,u2,rfl,r1,r2⟩:=zwx rv
 obtain⟨t,rfl⟩:=r1
 obtain⟨z,its,n,r,hl,e⟩:=I.lstM hH
 have k1:(-(2 ^ 63):Int)<=(k:Int):=Int.le_trans (by decide) (Int.natCast_nonneg k)
 have k2:(k:Int)<2 ^ 63:=Int.lt_trans (Int.ofNat_lt.mpr hk2) (by decide)
 have hsz:its.toArray.size<=qV:=by rw[qW,<- hl];exact qBD hz
 obtain⟨x,hx⟩:∃x:Int,x=(k:Int):=⟨_,rfl⟩
 rw[<- hx]at k1 k2
 have hfit:¬(!Builtin.List.listFitsIndex x)=true:=by rw[fitsIndex_both k1 k2];exact qP
 have M:=PySem.AutoSeq1.list_insert_list_int_val_1 l its.toArray n x t u2 hfit hsz
 rw[show(Value.int (k:Int) t)=Value.int x t by rw[hx]]
 refine qCb F.slot_list_insert ⟨_,e,rfl⟩ F.entry_list_insert (F.args_list_insert_3 _ _ _) M ⟨e,?_⟩
 refine⟨.non,_,I.lset (its':=insL its k u2) hH e ?_ ((r.take k).append (.cons r2 (r.drop k))) ?_,rfl,q⟩
 ·have e0:(if x<0 then(x+((its.toArray.size:Nat):Int)).toNat else min x.toNat its.toArray.size)=k:=by
   rw[if_neg (by omega),qW];omega
  show(its.toArray.extract 0 (if x<0 then(x+((its.toArray.size:Nat):Int)).toNat else min x.toNat its.toArray.size)).push u2++its.toArray.extract (if x<0 then(x+((its.toArray.size:Nat):Int)).toNat else min x.toNat its.toArray.size)=(insL its k u2).toArray
  rw[e0]
  apply Array.ext'
  unfold insL
  simp
  exact qCz (by rw[qBs];exact qQ _)
 ·show(insL xs k y).length<=qV
  rw[zvr];omega
theorem Rps.ins(h:Rps H ds vs)(k:Nat)(r:Rp H d v):Rps H (insL ds k d) (insL vs k v):=(h.take k).append (zcx r (h.drop k))
noncomputable def sIns(i:Nat)(a:AF):SF:=λenv=>match env[i]? with
 | some (.ac (.list ds))=>(a env).bind λrs=>(match rs with
  | [k,r]=>(match k.d with
   | .int z=>if 0<=z/\z.toNat<=ds.length/\ds.length<100000/\i∉r.bs then some (.nx ((frzs env r.bs).set i (.ac (.list (insL ds z.toNat r.d)))))else none
   | _=>none)
  | _=>none)
 | _=>none
theorem zaoq{K:qB}{i:Nat}{ta:TA}{g:AF}(h1:SA ta g):SS (tDrop (tBM K "list" zaix (tVar i) ta)) (sIns i g):=by
 intro fx H0 env σ H D h o e q
 unfold sIns at e
 split at e
 ·rename_i ds ei
  obtain⟨rs,er,e⟩:=qA.mp e
  split at e
  ·rename_i k r
   split at e
   ·rename_i z hz
    split at e
    ·rename_i hl
     cases e
     obtain⟨a,g1,g2,g3,g4⟩:=h.ac i _ ei
     obtain⟨xs0,hx0,rx0⟩:=g4
     refine⟨_,g1,.inl ⟨rfl,_,SqL.of hx0⟩,h1 fx H0 env σ H h _ er _ λvs H' s hv=>?_⟩
     cases hv with
     | cons hk t=>
      cases t with
      | cons hr t=>
       cases t
       have hk:=hk.rp
       rw[hz]at hk
       cases zdm hk
       have h':=(h.up s).frzs r.bs
       have ei':=zkv hl.2.2.2 ei
       obtain⟨a',z1,_,_,z4⟩:=h'.ac i _ ei'
       rw[g1]at z1
       cases z1
       obtain⟨xs,hx',rx'⟩:=z4
       refine⟨a,xs,z.toNat,_,rfl,by rw[Int.toNat_of_nonneg hl.1],hx',by rw[<- rx'.length];exact hl.2.1,zlm (by rw[<- rx'.length];exact hl.2.2.1),by omega,?_⟩
       exact q σ _ (h'.mut ei' g1 ⟨_,zam,rx'.ins z.toNat (Rp.same (Offs.sub zgz) _ hr.rp)⟩)
    ·cases e
   ·cases e
  ·cases e
 ·cases e
noncomputable abbrev TbH(P:Addr)(q:Str)(H:Hp):Prop:=H P=some (.tabO q)
noncomputable def SEb(P:Addr)(q:Str)(te:TE)(f:EF):Prop:=∀(fx:Addr->Prop)(H0:Hp)(env:DEnv)(σ:St)(H:Hp),TbH P q H->EnvOk fx H0 env σ H->∀r,f env=some r->∀Q:VK,(∀v H',Same H H'->ValOk (lim fx env σ r.bs) H H' r v->Q v H')->te σ H Q
noncomputable def STb(P:Addr)(q:Str)(tt:TT)(f:TF):Prop:=∀(fx:Addr->Prop)(H0:Hp)(env:DEnv)(σ:St)(H:Hp),TbH P q H->EnvOk fx H0 env σ H->∀b,f env=some b->∀Q:Bool->Hp->Prop,(∀H',Same H H'->Q b H')->tt σ H Q
noncomputable def SSb(P:Addr)(q:Str)(ts:TS)(F:SF):Prop:=∀(fx:Addr->Prop)(H0:Hp)(env:DEnv)(σ:St)(H:Hp)(D:Ends),TbH P q H0->EnvOk fx H0 env σ H->∀o,F env=some o->Sat fx H0 D o->ts D σ H
section
variable{P:Addr}{q:Str}
theorem zavz(h:ST tt f):STb P q tt f:=λfx H0 env σ H _ hE=>h fx H0 env σ H hE
theorem zes(h:SS ts F):SSb P q ts F:=λfx H0 env σ H D _ hE=>h fx H0 env σ H D hE
theorem zars{K:qB}{te:TE}{f:EF}(h:SEb P q te f):STb P q (λσ H Q=>te σ H λx H1=>∃k,TruV K x H1 k/\Q k H1) (tTru f):=by
 intro fx H0 env σ H hT hE b hb Q qq
 unfold tTru at hb
 obtain⟨r,e,hb⟩:=qA.mp hb
 exact h fx H0 env σ H hT hE _ e _ λv H' s v1=>⟨b,zauy (Rp.same (Offs.same _ _) _ v1.rp) hb,qq H' s⟩
theorem zawa(h:STb P q t f)(k:STb P q u g):STb P q (tOr t u) (tOrF f g):=by
 intro fx H0 env σ H hT hE b hb Q qq
 unfold tOrF at hb
 obtain⟨c,e,hb⟩:=qA.mp hb
 refine h fx H0 env σ H hT hE c e _ λH' s=>?_
 cases c with
 | true=>cases hb;exact iteT (qq H' s)
 | false=>exact iteF (k fx H0 env σ H' (s _ _ hT) (hE.up s) b hb _ λH2 s2=>qq H2 (s.trans s2))
theorem zart(h:STb P q t f):STb P q (tNot t) (zjx f):=by
 intro fx H0 env σ H hT hE b hb Q qq
 unfold zjx at hb
 obtain⟨c,e,rfl⟩:=qG.mp hb
 exact h fx H0 env σ H hT hE c e _ λH' s=>qq H' s
theorem zdo(h1:SSb P q t f)(h2:SSb P q u g):SSb P q (tSeq t u) (sSeq f g):=by
 intro fx H0 env σ H D hT h o e qq
 unfold sSeq at e
 obtain⟨o1,e1,e⟩:=qA.mp e
 refine h1 fx H0 env σ H _ hT h o1 e1 ?_
 cases o1 with
 | nx env'=>exact λσ' H' h'=>h2 fx H0 env' σ' H' D hT h' o e qq
 | bk env'=>cases e;exact qq
 | ct env'=>cases e;exact qq
 | rt d fr=>cases e;exact qq
theorem zawb(hc:STb P q tc c)(h1:SSb P q t f)(h2:SSb P q u g):SSb P q (tIfS tc t u) (sIf c f g):=by
 intro fx H0 env σ H D hT h o e qq
 unfold sIf at e
 obtain⟨b,eb,e⟩:=qA.mp e
 refine hc fx H0 env σ H (h.base _ _ hT) h b eb _ λH' s=>?_
 cases b with
 | true=>exact iteT (h1 fx H0 env σ H' D hT (h.up s) o e qq)
 | false=>exact iteF (h2 fx H0 env σ H' D hT (h.up s) o e qq)
theorem zaru(h1:SEb P q te f):SSb P q (tRet te) (sRet f):=by
 intro fx H0 env σ H D hT h o e qq
 unfold sRet at e
 obtain⟨r,er,rfl⟩:=qG.mp e
 refine h1 fx H0 env σ H (h.base _ _ hT) h r er _ λv H' s hv=>qq v H' (h.base.trans s) ⟨Rp.same (Offs.sub λb z=>.inl z) _ hv.rp,λz=>?_⟩
 obtain⟨a,g1,g2,g3⟩:=hv.fr z
 exact⟨a,g1,h.base.free g2,g3.same (Offs.sub λb y=>y.imp (λw=>.inl w) id) λo w=>w⟩
noncomputable def spDT(P:Addr)(q:Str)(n:Nat)(g:GF):Sp:=λvs H Q E=>TbH P q H/\spD n g vs H Q E
theorem zadl(ha:SA ta f):SEb P q (tCall (spDT P q n g) [] E0 ta) (zbj n g f):=by
 intro fx H0 env σ H hT h rr hr Q qq
 unfold zbj at hr
 obtain⟨rs,er,hr⟩:=qA.mp hr
 split at hr
 ·rename_i hn
  obtain⟨⟨d,fr⟩,ez,hr⟩:=qA.mp hr
  cases hr
  refine ha fx H0 env σ H h rs er _ λvs H1 s1 v1=>?_
  have hA:=(h.up s1).lims (bss rs)
  refine⟨s1 _ _ hT,lim fx env σ (bss rs),zfn rs,d,fr,by rw[zgl];exact hn,hA,?_,ez,λv H2 s2 rt=>qq v H2 (s1.trans s2) ⟨zqb rt.1,λe=>?_⟩⟩
  ·rw[q9];exact zfk (λi hi=>hi) v1
  ·obtain⟨a,g1,g2,g3⟩:=rt.2 e
   refine⟨a,g1,s1.free g2,?_⟩
   have nf:zev d=false:=by cases d<;>first|rfl|exact g3.elim
   show zhf (Offs (λb=>lim fx env σ (bsOf d (bss rs)) b\/b=a) H2) H2 a d
   rw[show bsOf d (bss rs)=bss rs by unfold bsOf;rw[if_neg (by rw[nf];decide)]]
   exact g3
 ·cases hr
end
noncomputable def zaiy:HO->Bool
 | .lst _=>true
 | .tup _=>true
 | .dK _=>true
 | _=>false
theorem zamr(h:zaiy o=true):outB o=true:=by cases o<;>first|rfl|cases h
mutual
theorem zaiz(h:∀b o,G b=some o->zaiy o=true->G' b=some o):∀(d:PyData){v:V},Rp G d v->Rp G' d v
 | .none,v,r=>by unfold Rp at r ⊢;exact r
 | .bool b,v,r=>by unfold Rp at r ⊢;exact r
 | .int i,v,r=>by unfold Rp at r ⊢;exact r
 | .str x,v,r=>by unfold Rp at r ⊢;exact r
 | .list ds,v,r=>by
  unfold Rp at r ⊢
  obtain⟨a,xs,h1,h2,h3⟩:=r
  exact⟨a,xs,h1,h a _ h2 rfl,rps_dat h ds h3⟩
 | .tuple ds,v,r=>by
  unfold Rp at r ⊢
  obtain⟨a,xs,h1,h2,h3⟩:=r
  exact⟨a,xs,h1,h a _ h2 rfl,rps_dat h ds h3⟩
 | .dict ds,v,r=>by
  unfold Rp at r ⊢
  obtain⟨a,xs,h1,h2,h3⟩:=r
  exact⟨a,xs,h1,h a _ h2 rfl,rpd_dat h ds h3⟩
theorem rps_dat(h:∀b o,G b=some o->zaiy o=true->G' b=some o):∀(ds:List PyData){vs:List V},Rps G ds vs->Rps G' ds vs
 | [],vs,r=>by unfold Rps at r ⊢;exact r
 | d::ds,vs,r=>by
  unfold Rps at r ⊢
  obtain⟨v,vs',h1,h2,h3⟩:=r
  exact⟨v,vs',h1,zaiz h d h2,rps_dat h ds h3⟩
theorem rpd_dat(h:∀b o,G b=some o->zaiy o=true->G' b=some o):∀(ds:List (PyData×PyData)){vs:List (Key×V)},Rpd G ds vs->Rpd G' ds vs
 | [],vs,r=>by unfold Rpd at r ⊢;exact r
 | (k,d)::ds,vs,r=>by
  unfold Rpd at r ⊢
  obtain⟨k',v,vs',h1,h0,h2,h3⟩:=r
  exact⟨k',v,vs',h1,h0,zaiz h d h2,rpd_dat h ds h3⟩
end
noncomputable def ResW(cl:Str->Addr)(H:Hp)(Q:VK)(E:XK):ResX->Prop
 | .ok _ _=>∀v H',Same H H'->Q v H'
 | .rx c d=>∀k od H',RX H (cl c) d k od H'->E k od H'
noncomputable def tolD(cl:Str->Addr)(g:ResX->Option PyData):(Hp->VK->XK->Prop)->Hp->VK->Prop:=λR H Q=>∃(fx:Addr->Prop)(r:ResX)(d:PyData),(∀b,fx b->∃o,H b=some o)/\(∀H' Q' E',Same H H'->ResW cl H' Q' E' r->R H' Q' E')/\g r=some d/\∀v H',Same H H'->Rp (Offs fx H') d v->Q v H'
noncomputable def zams:List Nat->AF
 | []=>aNil
 | j::js=>zaa (eVar j) (zams js)
noncomputable def zaja:List Nat->TA
 | []=>tNil
 | j::js=>tCons (tVar j) (zaja js)
theorem zajb:∀js:List Nat,SA (zaja js) (zams js)
 | []=>zal
 | j::js=>zab (zac j) (zajb js)
theorem zyl:∀(js:List Nat){σ:St}{H:Hp}{Q:List V->Hp->Prop},zaja js σ H Q->∃vs:List V,(js.map λj=>σ[j]?)=vs.map (λv=>some (some v))/\Q vs H
 | [],σ,H,Q,h=>⟨[],rfl,h⟩
 | j::js,σ,H,Q,h=>by
  obtain⟨v,e,h⟩:=h
  obtain⟨vs,e2,h2⟩:=zyl js h
  exact⟨v::vs,by rw[qh,qh,e,e2],h2⟩
noncomputable def zaz(js:List Nat)(n:Nat)(gf:GFX)(a:AF)(g:ResX->Option PyData):EF:=λenv=>(zams js env).bind λcs=>(a ((zfn cs).map .pl)).bind λrs=>if rs.length=n then(gf (zfn rs)).bind λr=>(g r).map λd=>⟨d,false,bsOf d (bss cs)⟩else none
theorem zarv{fx:Addr->Prop}{ds:List PyData}{vs:List V}(hf:∀b,fx b->∃o,H b=some o)(r:Rps (Offs fx H) ds vs):EnvOk fx H (ds.map .pl) (vs.map some) H:=by
 have:=zfo (N:=List.replicate ds.length ("":Str)) hf r
 unfold zcn zcg at this
 rw[q0,Nat.sub_self,<- r.length,Nat.sub_self]at this
 simpa using this
theorem zts{env:Env}:∀(l:List (Str×NameKind))(acc:List (Str×Addr)),(∀p∈l,p.2=.free->∃c,env.cells.lookup p.1=some c)->
  (forIn l acc (λ(x:Str×NameKind) (r:List (Str×Addr))=>match x with|(name,kind)=>if(kind==NameKind.free)=true then do let c <- cellOf env name;pure (ForInStep.yield ((name,c)::r))else pure (ForInStep.yield r)):Sem (List (Str×Addr))) =
   pure ((l.filterMap λp=>if p.2==.free then(env.cells.lookup p.1).map λc=>(p.1,c)else none).reverse++acc)
 | [],acc,_=>rfl
 | (x,k)::l,acc,h=>by
  rw[List.forIn_cons,qBY]
  have ih:=λacc=>zts (env:=env) l acc λp hp=>h p (qN _ hp)
  cases hk:(k==NameKind.free)with
  | true=>
   obtain⟨c,e⟩:=h (x,k) (by simp) (by simpa using hk)
   have e2:cellOf env x=pure c:=by
    have e':env.cells.lookup x=some c:=e
    unfold cellOf
    rw[e']
   dsimp only
   rw[hk,if_pos rfl,if_pos rfl,e2,pure_bind,pure_bind]
   dsimp only
   rw[ih,show env.cells.lookup x=some c from e]
   simp
  | false=>
   dsimp only
   rw[hk,if_neg (by decide),if_neg (by decide),pure_bind]
   exact ih acc
theorem zaex{sc:Scope}{env:Env}(h:∀p∈sc.names,p.2=.free->∃c,env.cells.lookup p.1=some c):closureFor sc env=pure (clF sc env):=by
 unfold closureFor clF
 have:=zts (env:=env) sc.names [] h
 rw[q9]at this
 show(forIn sc.names [] _ >>=λr=>pure r)=_
 rw[bind_pure]
 exact this
noncomputable def DnT(P:Program)(w:World)(K:qB)(mg:Str->Option Value)(base:Heap)(x pr:Str)(k j:Nat)(tol:(Hp->VK->XK->Prop)->Hp->VK->Prop):Prop:=
 ∃f fd,ToldOk P w K mg base k j f fd pr tol/\mg x=some (.ref f)/\qAj K (.ref f)=true/\zij K fd [pr] []
section
variable{X:Cx}
noncomputable def frB(sc so:Scope):Bool:=sc.names.all λq=>(q.2 != .free)||(so.names.lookup q.1==some .cell)
theorem frB.of{sc so:Scope}(h:frB sc so=true):∀q∈sc.names,q.2=.free->so.names.lookup q.1=some .cell:=λq hq hf=>by
 have:=qAO.mp h q hq
 rw[hf]at this
 simpa using this
theorem zamt{cl:Str->Addr}{R:Hp->VK->XK->Prop}{p cpos pos epos hpos cp:Pos}{ts:Addr->TS}
  (As:Asks X.prog X.w X.K X.mg X.base (CXE X.prog X.w) k X.fs X.s₀ X.H₀ g R)(XK:XKit X.prog X.w X.K X.mg X.base cl CS KS cn)(hex0:X.ex=[])(hr:Room k X.A)(hg:PySem.W.FnAt g X.s₀.heap)(hn0:X.H₀ g=none)
  (hi:X.N[i]?=some an)(hv:visB X.env.scope an=true)
  (hN:X.N.Nodup)(hj:X.N[j]?=some n)(hn:X.env.scope.names.lookup n=some .local)
  (hst:X.stack=X.env::X.outer)(hfr:X.env.frame=some X.env.locals)(hgc:Gl X cn)
  (hs:∀C e f,XMk X.K C f->PySem.W.findIn X.K (.ref C) "__class__"=some (some (.builtin "object.__class__"))->Bx (PSs (X.hold e) (st0::suite) (ts C)))
  (hdb:(an==("__debug__":Str))=false)(hda:(an==("__classdict__":Str))=false)(hdc:(cn==("__debug__":Str))=false)
  (hsw:swapsWith (.Call (.Name an p) [] [] cpos) none epos.line X.env=pure false) :
  Bx (PS X (.Try [.Expr (.Call (.Name an p) [] [] cpos) epos] [.ExceptHandler (some (.Name cn cp)) (some n) (st0::suite) hpos] [] [] pos) (zaqz (λC=>∃c∈CS,C=cl c) g R ts i j)):=by
 refine⟨zara As hex0 hr hg hn0 hi (visB.of hv) hN hj hn hst hfr hgc XK.mgB (λC ⟨c,hc,e⟩=>by subst e;exact XK.ex c hc) (λC ⟨c,hc,e⟩ ea=>?_) hdb hda hdc hsw⟩
 subst e
 obtain⟨f2,_,M,_,_,_,hcl,_⟩:=XK.ok c hc
 exact(hs _ ea f2 M hcl).out
end
noncomputable def zawc(CS:List Str)(j:Nat)(r:ResX)(hd:Str->PyData->SF):SF:=λenv=>match r with
 | .ok _ _=>some (.nx env)
 | .rx c d=>if c∈CS then(hd c d (env.set j .no)).bind λo=>match o with
  | .nx e=>some (.nx (e.set j .no))
  | _=>none else none
noncomputable def zarw(n i j:Nat)(CS:List Str)(E0:EF)(hd:Str->PyData->SF):ResX->Option PyData:=λr=>match(sSeq (sSet i E0) (sSeq (zawc CS j r hd) (zqg i))) (List.replicate n .no)with
 | some (.rt d _)=>some d
 | _=>none
theorem zawd{cl:Str->Addr}{CS:List Str}{N:List Str}{i j:Nat}{te0:TE}{E0:EF}{ts:Addr->TS}{hd:Str->PyData->SF}(hi:i≠0)(hj:j<N.length)(hN:1<=N.length)(h0:SE te0 E0)(hs:∀c∈CS,∀d,SSe j (cl c) d (ts (cl c)) (hd c d)){H:Hp}{g:Addr}{R:Hp->VK->XK->Prop}{Q:VK}
  (h:tolD cl (zarw N.length i j CS E0 hd) R H Q):tSeq (tAsg te0 (gName i)) (tSeq (zaqz (λC=>∃c∈CS,C=cl c) g R ts 0 j) (tRet (tVar i))) {nx:=λ_ H'=>Q .non H',rt:=Q} (zcg N [.ref g]) H:=by
 obtain⟨fx,r,d,hf,hR,hg,hq⟩:=h
 unfold zarw at hg
 split at hg
 ·rename_i d' fr eo
  cases hg
  have hl:(zcg N [V.ref g]).length=N.length:=by
   unfold zcg
   rw[qZ,qC,q0]
   show 1+(N.length - 1)=N.length
   omega
  have no:∀(k:Nat)(sl:Sl),(List.replicate N.length Sl.no)[k]?=some sl->sl=.no:=λk sl e=>qCt (qu e)
  have hE:EnvOk fx H (List.replicate N.length .no) (zcg N [.ref g]) H:=⟨by rw[q0,hl],λk d e=>by(have:=no k _ e;cases this),λk d e=>by(have:=no k _ e;cases this),λk l d e a h1=>by(have:=no k _ h1;cases this),Same.refl _,hf⟩
  unfold sSeq at eo
  obtain⟨o1,e1,eo⟩:=qA.mp eo
  refine zarl (J:=λk=>k=0) h0 hi fx H _ _ H _ hE o1 e1 ?_
  cases o1 with
  | nx env1=>
   intro σ1 H1 hE1 hk1
   have hl1:env1.length=N.length:=by
    unfold sSet at e1
    obtain⟨r1,_,e1⟩:=qG.mp e1
    cases e1
    have:=hE1.len
    unfold putV
    rw[qw]
    have fz:∀(bs:List Nat)(env:DEnv),(frzs env bs).length=env.length:=λbs=>by
     induction bs with
     | nil=>intro env;rfl
     | cons b bs ih=>intro env;show(frzs (frz1 env b) bs).length=_;rw[ih,zade]
    rw[fz,q0]
   dsimp only at eo
   obtain⟨o2,e2,eo⟩:=qA.mp eo
   have hv:σ1[0]?=some (some (.ref g)):=(hk1 0 rfl).trans rfl
   have beh:∀env2 σ2 H2,EnvOk fx H env2 σ2 H2->zqg i env2=some (.rt d fr)->(tRet (tVar i)) {nx:=λ_ H'=>Q .non H',rt:=Q} σ2 H2:=λenv2 σ2 H2 hE2 e3=>zjy fx H env2 σ2 H2 _ hE2 _ e3 λv H3 s3 rt=>hq v H3 s3 rt.1
   refine⟨hv,hR H1 _ _ hE1.base ?_⟩
   unfold zawc at e2
   cases r with
   | ok d0 f0=>
    cases e2
    exact λv H2 s2=>beh env1 σ1 H2 (hE1.up s2) eo
   | rx c d0=>
    dsimp only at e2
    split at e2
    ·rename_i hc
     refine zavt (D:={nx:=λσ' H'=>(tRet (tVar i)) {nx:=λ_ H'=>Q .non H',rt:=Q} σ' H',rt:=Q}) hE1 (by rw[hl1];exact hj) hc hs e2 ?_
     obtain⟨o3,_,e2⟩:=qA.mp e2
     cases o3 with
     | nx env3=>cases e2;exact λσ3 H3 hE3=>beh _ σ3 H3 hE3 eo
     | bk _=>cases e2
     | ct _=>cases e2
     | rt _ _=>cases e2
    ·cases e2
  | bk _=>unfold sSet at e1;obtain⟨_,_,e1⟩:=qG.mp e1;cases e1
  | ct _=>unfold sSet at e1;obtain⟨_,_,e1⟩:=qG.mp e1;cases e1
  | rt _ _=>unfold sSet at e1;obtain⟨_,_,e1⟩:=qG.mp e1;cases e1
 ·cases hg
theorem zamu{vs:List V}(h:spDT P q n g vs H Q E):vs.length=n:=zdr h.2
noncomputable def zadm(K:qB)(P:Addr)(q:Str):Sp:=λvs H Q _=>∃(a:Addr)(ns:List Int),vs=[.ref a]/\SqL K H a (ns.map V.int)/\TbH P q H/\∀H',Same H H'->Q (.bl true) H'
theorem zamv(hs:SSb P q t F){nx:St->Hp->Prop}(hT:TbH P q H1)(hE:EnvOk (λ_=>False) H1 env σ H1)(e:F env=some (.rt (.bool true) false))(k:∀H',Same H1 H'->Q (.bl true) H'):t {nx:=nx,rt:=Q} σ H1:=by
 refine hs _ H1 env σ H1 _ hT hE _ e λv H s rt=>?_
 rw[show v=.bl true from zjv rt.1]
 exact k H s
theorem zarx{P:Program}{w:World}{K:qB}{mg mb:Str->Option Value}{CX:CXT}{k:Nat}{fa a c TP:Addr}{q:Str}{fd:qk}{x:Str}{sp:Sp}{s₁:Shared}{vs:List Value}{ns:List Int}
  (KX:K.In s₁.heap)(hns:s₁.heap.Ns qj mg)(hb:s₁.heap.Ns builtinsNs mb)(hbb:∀x:Str,x≠"__name__"->mb x=bootBuiltins x)(hlim:s₁.heap.NoLimit)(hg:s₁.gens=#[])
  (ha:s₁.heap.get? a=some {cls:=.type "list",data:=.seq vs.toArray}) (hi:IntsAre vs ns) (hl:ns.length<=qV) (hr:Room k callerA)
  (hT:PySem.W.CodeHd s₁.heap c TP)(hT0:s₁.heap.get? TP=some (PySem.W.tabObj #[]))(nT:PySem.W.noTabs K=true)(hbm:BM mg s₁.heap)
  (F:∀base:Heap,K.In base->base.Ns qj mg->BM mg base->PySem.W.CodeHd base c TP->FnOk P w K mg base CX k fa fd [x] sp)(hbind:∀(s:Shared) (u:Value),BindsTo s fd ⟨[u],[]⟩ [(x,u)])
  (hsp:∀H:Hp,TbH TP q H->SqL K H a (ns.map V.int)->sp [.ref a] H (λv H'=>v=.bl true/\TbH TP q H') λ_ _ _=>False)
  (hCX:∀H e s',CX [] H s₁ (λ_ _ _=>False) e s'->False) :
  codeAny (model P w) callerA (.call (.ref fa) ⟨[.ref a],[]⟩) (λr s'=>r=.ok (.ret (.bool true))/\OldK s₁.heap s'.heap/\s'.os=s₁.os/\AllBare s'.gens) s₁:=by
 have rv:=zxj hi
 have lenV:=hi.length
 have naT:a≠TP:=λz=>by rw[z,hT0]at ha;cases ha
 have KT:K.lookup TP=none:=by
  cases e:K.lookup TP with
  | none=>rfl
  | some o=>
   have e1:=KX _ _ e
   rw[hT0]at e1
   cases e1
   have h2:=qAO.mp nT _ (PySem.W.mem_of_lookupK e)
   exact absurd (show false=true from h2) qP
 have core:∀H:Hp,TbH TP q H->SqL K H a (ns.map V.int)->HOk P w H s₁.heap->(∀b,H b≠none->b=a\/b=TP)->(H a≠none->K.lookup a=none/\∃o xs,H a=some (.frz o (.lst xs)))->
   codeAny (model P w) callerA (.call (.ref fa) ⟨[.ref a],[]⟩) (λr s'=>r=.ok (.ret (.bool true))/\OldK s₁.heap s'.heap/\s'.os=s₁.os/\AllBare s'.gens) s₁:=by
  intro H hTb hS hok hA hK
  have free:∀{b:Addr}{o:Obj},s₁.heap.get? b=some o->(∀xs n,o.data≠.seq xs n)->(∀vs,o.data≠.fields vs\/o.cls≠.none)->H b=none:=λ{b o} e n1 n2=>by
   cases z:H b with
   | none=>rfl
   | some u=>
    rcases hA b (by rw[z];simp)with rfl|rfl
    ·rw[ha]at e;cases e;exact absurd rfl (n1 _ _)
    ·rw[hT0]at e;cases e;exact(n2 #[]).elim (λy=>absurd rfl y) (λy=>absurd rfl y)
  have nsK:∀{b:Addr}{m:Str->Option Value},s₁.heap.Ns b m->(hidT s₁.heap H).Ns b m:=λ{b m} ⟨o,es,ep,e,d,r⟩=>⟨o,es,ep,zpj e (free e (λxs n z=>by rw[d]at z;cases z) (λvs=>.inl λz=>by rw[d]at z;cases z)),d,r⟩
  have hKb:K.In (hidT s₁.heap H):=λb o e=>zpj (KX b o e) (by
   cases z:H b with
   | none=>rfl
   | some u=>
    rcases hA b (by rw[z];simp)with rfl|rfl
    ·rw[(hK (by rw[z];simp)).1]at e;cases e
    ·rw[KT]at e;cases e)
  have hM:Mod K mg (hidT s₁.heap H):=⟨hKb,nsK hns,⟨mb,nsK hb,hbb⟩,let⟨mc,h1,h2⟩:=hlim;⟨mc,nsK h1,h2⟩⟩
  have hBM:BM mg (hidT s₁.heap H):=by
   obtain⟨bm,ob,b1,b2,b3,b4,b5,b6⟩:=hbm
   exact⟨bm,ob,b1,b2,zpj b3 (free b3 (λxs n z=>by rw[b6]at z;cases z) (λvs=>.inl λz=>by rw[b6]at z;cases z)),b4,b5,b6⟩
  have hCd:PySem.W.CodeHd (hidT s₁.heap H) c TP:=by
   obtain⟨o,vs',file,tf,flags,tg,inF,text,tt,e1,e2,e3,r⟩:=hT
   exact⟨o,vs',file,tf,flags,tg,inF,text,tt,zpj e1 (free e1 (λxs n z=>by rw[e3]at z;cases z) (λvs=>.inr λz=>by rw[e2]at z;cases z)),e2,e3,r⟩
  have e0:Env0 P w K mg (hidT s₁.heap H) callerA [] s₁ H:=⟨rfl,hM,λb o e=>zapg e,Nat.le_of_eq (zafv _ _),trivial,λb hb=>absurd (show b∈([]:List Addr)from hb) (by simp),hok,.of_eq hg⟩
  refine qA0 ((F _ hKb (nsK hns) hBM hCd).run callerA [] s₁ H ⟨[.ref a],[]⟩ [.ref a] [.ref a] _ _ hr e0 (hbind s₁ (.ref a)) (.cons rfl .nil) (hsp H hTb hS)) λr s' h=>?_
  cases r with
  | error e=>exact(hCX H e s' h).elim
  | ok fl=>
   cases fl with
   | next=>exact False.elim h
   | brk=>exact False.elim h
   | cont=>exact False.elim h
   | ret u=>
    obtain⟨v,H',os,bare,un,hok',r',qv,qT⟩:=h
    subst qv
    obtain rfl:u=Value.bool true:=r'
    have kept:∀b o,s₁.heap.get? b=some o->b≠TP->s'.heap.get? b=some o:=λb o e nb=>by
     cases z:H b with
     | none=>exact un.keep b o e z (by intro z;exact absurd (show b∈([]:List Addr)from z) (by simp)) (by simp)
     | some u=>
      rcases hA b (by rw[z];simp)with rfl|rfl
      ·obtain⟨_,ob,xs,z'⟩:=hK (by rw[z];simp)
       have z2:=un.frzs b ob _ z'
       obtain⟨e1,_⟩:=hok b _ z'
       obtain⟨e2,_⟩:=hok' b _ z2
       rw[e]at e1;cases e1
       exact e2
      ·exact absurd rfl nb
    obtain⟨ps,hps,_⟩:=hok' TP _ qT
    refine⟨rfl,⟨λb o e=>?_,λb o e=>?_⟩,os,bare⟩
    ·by_cases nb:b=TP
     ·subst nb
      rw[hT0]at e
      cases e
      exact .inr (.inl ⟨(hT.tab hT0).isCodeTable,rfl,#[],ps,rfl,by rw[Array.empty_append];exact hps⟩)
     ·exact .inl (kept b o e nb)
    ·by_cases nb:b=TP
     ·exact⟨_,by rw[nb];exact hps⟩
     ·exact⟨o,kept b o e nb⟩
 have tabOk:∀H:Hp,zdk P w H s₁.heap TP (.tabO q):=λH=>⟨#[],hT0,trivial,λpos cv h=>by cases h⟩
 cases hk:K.lookup a with
 | some o=>
  have e:=KX a o hk
  rw[ha]at e
  cases e
  refine core (λb=>if b=TP then some (.tabO q)else none) (if_pos rfl) (.inr ⟨_,vs.toArray,_,hk,rfl,rfl,rfl,by rw[qW,lenV];exact hl,by simpa using rv⟩) (λb u z=>?_) (λb z=>?_) λz=>?_
  ·by_cases nb:b=TP
   ·subst nb;have z':=(if_pos rfl).symm.trans z;cases z';exact tabOk _
   ·have z':=(if_neg nb).symm.trans z;cases z'
  ·by_cases nb:b=TP
   ·exact .inr nb
   ·exact absurd (if_neg nb) z
  ·exact absurd (if_neg naT) z
 | none=>
  refine core (λb=>if b=TP then some (.tabO q)else if b=a then some (.frz {cls:=.type "list",data:=.seq vs.toArray} (.lst (ns.map V.int)))else none) (if_pos rfl) (.inl (.inr ⟨{cls:=.type "list",data:=.seq vs.toArray},(if_neg naT).trans (if_pos rfl)⟩)) (λb u z=>?_) (λb z=>?_) λ_=>⟨hk,_,_,(if_neg naT).trans (if_pos rfl)⟩
  ·by_cases nb:b=TP
   ·subst nb;have z':=(if_pos rfl).symm.trans z;cases z';exact tabOk _
   ·have z:=(if_neg nb).symm.trans z
    by_cases hb:b=a
    ·have z':=(if_pos hb).symm.trans z
     cases z'
     subst hb
     exact⟨ha,by rw[qC];exact hl,vs,_,rv,ha⟩
    ·have z':=(if_neg hb).symm.trans z
     cases z'
  ·by_cases nb:b=TP
   ·exact .inr nb
   ·by_cases hb:b=a
    ·exact .inl hb
    ·exact absurd ((if_neg nb).trans (if_neg hb)) z
noncomputable abbrev recDef(q:Program)(tx:Str)(dt:DefRec):Prop:=(recsOf q).find? (λe=>e.name==tx)=some dt
theorem walk_tab{l:PySem.W.OpenLaw}{n k:Nat}{q:Program}{loose:List Str}{XP:(Str->Option Value)->Heap->Prop}{YP:World->Heap->Prop}{d dt:DefRec}{K:Params->qB}{x tx lq:Str}{c TP:Addr}
  (hn:l.most=some n)(hn2:n<=qV)(hdf:d.params.defaults=[])(hr:Room k callerA)
  (hY:∀(w:World) (h:Heap),YP w h->(K w.params).In h)
  (hrec:recDef q tx dt)(hti:∀w:World,PySem.W.tabIn (K w.params) tx=some (c,TP))(hnt:∀w:World,PySem.W.noTabs (K w.params)=true)
  (F:∀(w:World)(mg:Str->Option Value)(fa:Addr)(h:Heap),(K w.params).In h->h.Ns qj mg->mg d.name=some (.ref fa)->
   ∃fd:qk,(∀(s:Shared)(u:Value),BindsTo s fd ⟨[u],[]⟩ [(x,u)])/\
    ∀base:Heap,(K w.params).In base->base.Ns qj mg->BM mg base->PySem.W.CodeHd base c TP->FnOk l.prog w (K w.params) mg base CX0 k fa fd [x] (zadm (K w.params) TP lq)) :
  PySem.W.WalkO q loose XP YP l.row.toRowW d [] (λf vs=>PySem.call f vs):=by
 refine Att.attach_call hn hdf λw s₀ s₁ mg mb fa o pm cd doc a vs ns G Y ho hd hcd hmg hobj hints hlen hg=>?_
 have KX:=hY w _ Y
 obtain⟨fd,hb,hF⟩:=F w mg fa _ KX G.T.g hmg
 obtain⟨t1,t2⟩:=PySem.W.tab_of (x:=tx) G.T KX hrec (hti w)
 obtain⟨bm,ob,b1,b2,b3,b4,b5,b6⟩:=G.T.bmain
 exact zarx (q:=lq) KX G.T.g G.T.b G.T.builtins G.T.nolimit hg hobj hints (qAE hlen hn2) hr t1 t2 (hnt w) ⟨bm,ob,b1,b2,b3,b4,b5,b6⟩ hF hb (λH hT hS=>⟨a,ns,rfl,hS,hT,λH' s'=>⟨rfl,s' _ _ hT⟩⟩) λH e s' z=>z.elim
structure LamI where
 params:Arguments
 body:Expr
 scope:Scope
 NB:List Str
 js:List Nat
 tb:Hp->XK->TE
noncomputable def Clo(X:Cx)(P:Addr)(L:LamI)(H:Hp)(g:Addr):Prop:=∃(pm:Value)(c':Addr)(ctv:Value),H g=some (.frz (PySem.W.kla_obj "<lambda>" (lamQ X) L.params L.body L.scope (clF L.scope X.env) pm c' ctv) (.own g))/\zaqw (lamQ X) H c' P
theorem Clo.same(s:∀b o u,H b=some (.frz o u)->H1 b=some (.frz o u))(h:Clo X P L H g):Clo X P L H1 g:=by
 obtain⟨pm,c',ctv,e,oc,vs,t,e2,r⟩:=h
 exact⟨pm,c',ctv,s _ _ _ e,oc,vs,t,s _ _ _ e2,r⟩
structure LamOk(X:Cx)(j:Nat)(L:LamI):Prop where
 S:LamScope L.NB L.scope
 dfl:defaultsOf L.params X.env=([],[])
 bind:∀(cl:List (Str×Addr))(pm cd ctv:Value),bindArgs (PySem.W.kla_fn "<lambda>" (lamQ X) L.params L.body L.scope cl pm cd ctv) ⟨[],[]⟩=pure []
 free:frB L.scope X.env.scope=true
 js:L.js.map (λi=>X.N[i]?)=L.NB.map some
 hB:∀(A:Around)(outer:List Env)(s:Shared)(H:Hp)(E:XK)(g c':Addr)(cl:List (Str×Addr)),Room j (A.deeper (PySem.W.envX (lamQ X) L.scope s.heap.objs.size g (.ref c') cl))->HOk X.prog X.w H s.heap->Bx (PE (zve (CXE X.prog X.w) X.prog X.w X.K X.mg X.base L.NB (lamQ X) L.scope g (.ref c') cl A outer s H E) L.body (L.tb H E))
theorem LamOk.fr{X:Cx}{L:LamI}(h:LamOk X j L):∀q∈L.scope.names,q.2=.free->X.env.kindOf q.1=some .cell:=frB.of h.free
section
variable{X:Cx}{pins:List (Addr×Obj)}{σ:St}{H:Hp}{s:Shared}
theorem Inv.put(I:Inv X pins σ H s)(n:H f=none)(n0:X.s₀.heap.get? f=none)(nl:f≠X.env.locals)(nc:∀x c,X.env.cells.lookup x=some c->c≠f)(np:∀p∈X.pn++pins,p.1≠f)(new:zdk X.prog X.w (upd H f u) s.heap f u):Inv X pins σ (upd H f u) s:=by
 have up:∀b o,H b=some o->upd H f u b=some o:=λb o e=>by rw[zap (zax e n)];exact e
 refine⟨I.ok,I.os,I.bare,⟨I.base.keep,I.base.slot,λb o e m hx=>?_,I.base.there,λb xs e=>up _ _ (I.base.tups b xs e),λb o v e=>up _ _ (I.base.frzs b o v e),λb ps e=>?_⟩,I.loc,I.cell,?_,λx c e=>?_,λp hp=>?_,λb v e=>?_,I.len⟩
 ·rw[zap (λz=>by rw[z,n0]at e;cases e)];exact I.base.free b o e m hx
 ·obtain⟨more,e⟩:=I.base.tbls b ps e;exact⟨more,up _ _ e⟩
 ·rw[zap (qAk nl)];exact I.free
 ·rw[zap (nc x c e)];exact I.freeC x c e
 ·obtain⟨p1,p2,p3⟩:=I.pin p hp
  exact⟨p1,by rw[zap (np p hp)];exact p2,p3⟩
 ·by_cases hb:b=f
  ·subst hb;rw[zam]at e;cases e;exact new
  ·rw[zap hb]at e
   exact(I.hok b v e).stay (λ_ _ _ z=>z) (λc z=>up _ _ z) (λc xs z=>up _ _ z) (λc o z=>up _ _ z)
noncomputable def tLam(P:Addr)(q:Str)(C:Hp->Addr->Prop):TE:=λ_ H Q=>H P=some (.tabO q)/\∀g H1,Same H H1->H g=none->C H1 g->Q (.ref g) H1
theorem zcj{L:LamI}(ok:LamOk X j L)(hcode:X.env.code=.ref c)(C:PySem.W.CodeHd X.base c P)(hbm:BM X.mg X.base)(hex:X.ex=[]):Bx (PE X (.Lambda L.params L.body L.scope pos) (tLam P (lamQ X) (Clo X P L))):=by
 refine⟨λpins s σ H Q I h=>?_⟩
 obtain⟨hP,h⟩:=h
 refine zalx I hcode C hP hbm (zaex λp hp hf=>I.ok.has p.1 (.inl (ok.fr p hp hf))) ok.dfl λs1 H1 f c' ctv pm I1 hH1 nf hob hrec hf0=>?_
 have sm:Same H H1:=by
  rcases hH1 with rfl|⟨n,oc,rfl⟩
  ·exact Same.refl _
  ·exact Same.new n
 have ns:∀b o,s.heap.get? b=some o->b≠f:=λb o e z=>by rw[z,hf0]at e;cases e
 have I2:=I1.put (f:=f) (u:=.frz _ (.own f)) nf (by
   cases e:X.s₀.heap.get? f with
   | none=>rfl
   | some o=>
    obtain⟨o',e'⟩:=I.base.there f o e (by rw[hex];simp)
    exact absurd rfl (ns _ _ e'))
  (λz=>by obtain⟨m,⟨o,es,ep,e,_⟩,_⟩:=I.loc;exact ns _ _ e z.symm)
  (λx c e z=>by obtain⟨v,o,e',_⟩:=I.cell x c e;exact ns _ _ e' z)
  (λp hp z=>ns _ _ (I.pin p hp).1 z) ⟨hob,_,hob⟩
 exact⟨.ref f,_,I2,rfl,h f _ (sm.trans (Same.new nf)) (I.hok.no hf0) ⟨pm,c',ctv,zam,by
  obtain⟨oc,vs,t,e,r⟩:=hrec
  exact⟨oc,vs,t,by rw[zap (zax e nf)];exact e,r⟩⟩⟩
end
noncomputable def LamS(P:Addr)(q:Str)(tol:(Hp->VK->XK->Prop)->Hp->VK->Prop)(L:LamI)(f:EF):Prop:=∀(fx:Addr->Prop)(H0:Hp)(env:DEnv)(σ:St)(H:Hp),TbH P q H->EnvOk fx H0 env σ H->∀r,f env=some r->
 ∃vs:List V,(L.js.map λj=>σ[j]?)=vs.map (λv=>some (some v))/\∃R:Hp->VK->XK->Prop,(∀H' Q' E',R H' Q' E'->L.tb H' E' (vs.map some) H' Q')/\
  ∀Q:VK,(∀v H',((∀b,hidB P H b=true->H' b=none)->Same H (resP P H H')/\Rp (resP P H H') r.d v)->Q v H')->tol R (hidP P H) Q
theorem zgb{cl:Str->Addr}{g:ResX->Option PyData}(ha:SA ta a) :
  LamS P q (tolD cl g) ⟨params,body,scope,NB,js,λH E=>tCall (spX cl n gf) [] (StX H E) ta⟩ (zaz js n gf a g):=by
 intro fx H0 env σ H hT h rr hr
 unfold zaz at hr
 obtain⟨cs,ec,hr⟩:=qA.mp hr
 obtain⟨rs,er,hr⟩:=qA.mp hr
 split at hr
 ·rename_i hn
  obtain⟨r,eg,hr⟩:=qA.mp hr
  obtain⟨d,ed,rfl⟩:=qG.mp hr
  obtain⟨vs,ev,Hx,sx,hv⟩:=zyl js (zajb js fx H0 env σ H h cs ec (λvs H'=>∃Hx,Same H Hx/\Hx=H'/\Rps (Offs (lim fx env σ (bss cs)) H') (zfn cs) vs) λvs H' s v1=>⟨H',s,rfl,zfk (λi hi=>hi) v1⟩)
  obtain⟨rfl,hv⟩:=hv
  have hA:=h.lims (bss cs)
  let fx':Addr->Prop:=λb=>lim fx env σ (bss cs) b/\hidB P Hx b=false
  have fxs:∀b,fx' b->∃o,hidP P Hx b=some o:=λb ⟨z1,z2⟩=>by
   obtain⟨o,e⟩:=hA b z1
   exact⟨o,by rw[zadj z2];exact e⟩
  have dat:∀(H':Hp),Same (hidP P Hx) H'->∀b o,Offs (lim fx env σ (bss cs)) Hx b=some o->zaiy o=true->Offs fx' H' b=some o:=λH' s' b o e hd=>by
   obtain⟨nl,e⟩:=Offs.of e
   have nb:b≠P:=λz=>by rw[z,hT]at e;cases e;cases hd
   rw[Offs.get (λz=>nl z.1)]
   exact s' _ _ (zqj e nb (zamr hd))
  refine⟨vs,ev,λH' Q' E'=>Same (hidP P Hx) H'/\ResW cl H' Q' E' r,λH' Q' E' ⟨s',rw'⟩=>?_,λQ qq=>⟨fx',r,d,fxs,λH' Q' E' s' w=>⟨s',w⟩,ed,λv H' s' rp=>qq v H' λhn'=>?_⟩⟩
  ·have hE:=zarv (fx:=fx') (H:=H') (λb z=>let⟨o,e⟩:=fxs b z;⟨o,s' _ _ e⟩) (rps_dat (dat H' s') _ hv)
   refine ha fx' H' _ _ H' hE rs er _ λws H2 s2 v2=>?_
   refine⟨lim fx' ((zfn cs).map .pl) (vs.map some) (bss rs),zfn rs,r,by rw[zgl];exact hn,(hE.up s2).lims _,by rw[q9];exact zfk (λi hi=>hi) v2,eg,?_⟩
   cases r with
   | ok d' fr'=>exact λv H3 s3 _=>rw' v H3 (s2.trans s3)
   | rx c d'=>exact λk od H3 z=>RX.stx (H0:=H') rw' (RX.base s2 z)
  ·have key:∀b o,H' b=some o->resP P Hx H' b=some o:=λb o e=>by
    cases hb:hidB P Hx b with
    | true=>rw[hn' b hb]at e;cases e
    | false=>rw[zle hb];exact e
   refine⟨λb o e=>?_,zaiz (λb o e _=>key b o (Offs.of e).2) _ rp⟩
   cases hb:hidB P Hx b with
   | true=>rw[zxw hb];exact e
   | false=>exact key b o (s' _ _ (by rw[zadj hb];exact e))
 ·cases hr
theorem EnvOk.atNo{fx:Addr->Prop}{σ:St}(h:EnvOk fx H0 env σ H)(hx:env[x]?=some .no):EnvOk fx H0 env (σ.set x v) H:=by
 have ne:∀(i:Nat)(sl:Sl),env[i]?=some sl->sl≠.no->(σ.set x v)[i]?=σ[i]?:=λi sl e n=>by
  rw[qL]
  intro z
  rw[<- z,hx]at e
  cases e
  exact n rfl
 have ho:own env (σ.set x v)=own env σ:=funext λa=>propext ⟨λ⟨i,d,e1,e2⟩=>⟨i,d,e1,(ne i _ e1 (by simp))▸e2⟩,λ⟨i,d,e1,e2⟩=>⟨i,d,e1,by rw[ne i _ e1 (by simp)];exact e2⟩⟩
 refine⟨by rw[qw];exact h.len,λi d e=>?_,λi d e=>?_,λi j d e a h1 h2 h3 h4=>?_,h.base,h.fxs⟩
 ·rw[ne i _ e (by simp),ho];exact h.pl i d e
 ·rw[ne i _ e (by simp),ho];exact h.ac i d e
 ·rw[ne i _ h1 (by simp)]at h3
  rw[ne j _ h2 (by simp)]at h4
  exact h.inj i j d e a h1 h2 h3 h4
noncomputable def zaor(x:Nat)(tl:TE):TS:=tAsg (tLst (tCons tl tNil)) (gName x)
noncomputable def zajc(K:qB)(x:Nat)(tl:TE):TS:=tDrop (tBM K "list" zuw (tVar x) (tCons tl tNil))
section
variable{K:qB}{X:Cx}{P:Addr}{x:Nat}
theorem zajd(h:Rp H d v):Rp (Offs (λ_=>False) H) d v:=Rp.same (λb o e=>by rw[Offs.get (λz=>z)];exact e) _ h
end
noncomputable def zfb(e:Expr):Arguments×Expr×Scope:=match e with
 | .Lambda p b s _=>(p,b,s)
 | _=>(default,e,default)
theorem zamw{tol:(Hp->VK->XK->Prop)->Hp->VK->Prop}:∀(i:Nat) L f,([]:List LamI)[i]?=some L->([]:List EF)[i]?=some f->LamS P q tol L f:=λi L f e=>by cases e
theorem zbd{tol:(Hp->VK->XK->Prop)->Hp->VK->Prop}(h:LamS P q tol L0 f0)(hs:∀(i:Nat) L f,Ls[i]?=some L->fs[i]?=some f->LamS P q tol L f):∀(i:Nat) L f,(L0::Ls)[i]?=some L->(f0::fs)[i]?=some f->LamS P q tol L f
 | 0,L,f,e1,e2=>by cases e1;cases e2;exact h
 | i+1,L,f,e1,e2=>hs i L f e1 e2
theorem zamx:∀L∈([]:List LamI),LamOk X j L:=λ_ h=>nomatch h
theorem zbe(h:LamOk X j L0)(hs:∀L∈Ls,LamOk X j L):∀L∈L0::Ls,LamOk X j L:=λL m=>(qY.mp m).elim (λe=>e▸h) (hs L)
structure LamR(P:Program)(w:World)(K:qB)(mg:Str->Option Value)(base:Heap)(q:Str)(j:Nat)(L:LamI):Prop where
 S:LamScope L.NB L.scope
 bind:∀(cl:List (Str×Addr))(pm cd ctv:Value),bindArgs (PySem.W.kla_fn "<lambda>" q L.params L.body L.scope cl pm cd ctv) ⟨[],[]⟩=pure []
 hB:∀(A:Around)(outer:List Env)(s:Shared)(H:Hp)(E:XK)(g c':Addr)(cl:List (Str×Addr)),Room j (A.deeper (PySem.W.envX q L.scope s.heap.objs.size g (.ref c') cl))->HOk P w H s.heap->Bx (PE (zve (CXE P w) P w K mg base L.NB q L.scope g (.ref c') cl A outer s H E) L.body (L.tb H E))
noncomputable def CloC(q:Str)(P:Addr)(L:LamI)(vs:List V)(H:Hp)(g:Addr):Prop:=∃(cl:List (Str×Addr))(pm:Value)(c':Addr)(ctv:Value),
 H g=some (.frz (PySem.W.kla_obj "<lambda>" q L.params L.body L.scope cl pm c' ctv) (.own g))/\zaqw q H c' P/\(∀x y c,cl.lookup x=some c->cl.lookup y=some c->x=y)/\(∀x,L.scope.names.lookup x=some .free->∃c,cl.lookup x=some c)/\
 (∀x c,cl.lookup x=some c->∃(oc:Obj) (v:Option Value),H c=some (.frz oc (.own c))/\oc.data=.cell v)/\(∀(i:Nat) (x:Str) (v:V),L.NB[i]?=some x->vs[i]?=some v->∃(c:Addr) (u:Value) (oc:Obj),cl.lookup x=some c/\H c=some (.frz oc (.own c))/\oc.data=.cell (some u)/\RelV v u)/\vs.length=L.NB.length
theorem CloC.same(s:Same H H1)(h:CloC q P L vs H g):CloC q P L vs H1 g:=by
 obtain⟨cl,pm,c',ctv,e,⟨oc,ws,t,e2,r⟩,h1,h2,h3,h4,h5⟩:=h
 refine⟨cl,pm,c',ctv,s _ _ e,⟨oc,ws,t,s _ _ e2,r⟩,h1,h2,λx c z=>?_,λi x v a b=>?_,h5⟩
 ·obtain⟨o,v,a,b⟩:=h3 x c z
  exact⟨o,v,s _ _ a,b⟩
 ·obtain⟨c,u,o,a1,a2,a3⟩:=h4 i x v a b
  exact⟨c,u,o,a1,s _ _ a2,a3⟩
noncomputable def zaos(q:Str)(P:Addr)(Ls:List LamI)(i:Nat)(tol:(Hp->VK->XK->Prop)->Hp->VK->Prop):TE:=λτ H Q=>H P=some (.tabO q)/\∃g L vs,τ[i]?=some (some (.ref g))/\L∈Ls/\CloC q P L vs H g/\
 ∃R:Hp->VK->XK->Prop,(∀H' Q' E',R H' Q' E'->L.tb H' E' (vs.map some) H' Q')/\tol R (hidP P H) (λv H'=>(∀b,hidB P H b=true->H' b=none)->Q v (resP P H H'))
section
variable{X:Cx}{q:Str}{P:Addr}{k j i:Nat}{Ls:List LamI}{pr tn y:Str}{tol:(Hp->VK->XK->Prop)->Hp->VK->Prop}{p yp pos:Pos}
theorem zaje(D:DnT X.prog X.w X.K X.mg X.base tn pr k (j+1) tol)(hr:Room k X.A)(hg:Gl X tn)(ok:∀L∈Ls,LamR X.prog X.w X.K X.mg X.base q j L)
  (hi:X.N[i]?=some y)(hv:visB X.env.scope y=true)(hdy:(y==("__debug__":Str))=false)(hcy:(y==("__classdict__":Str))=false)
  (hdb:(tn==("__debug__":Str))=false)(he:starEach [.Name y yp] X.env=(false,eval (.Name y yp) X.env)::starEach [] X.env)(hpl:(backTo pos (starEach [] X.env)).any (·.1)=false) :
  Bx (PE X (.Call (.Name tn p) [.Name y yp] [] pos) (zaos q P Ls i tol)):=by
 obtain⟨f,fd,T,hm,hk,hb⟩:=D
 refine⟨λpins s τ H Q I h=>?_⟩
 obtain⟨hP,g,L,vs,hτ,hL,hclo,R,hR,hT⟩:=h
 refine qAm (zpr I hg hm ?_ hdb)
 refine qB5 (h₀:=X.base) I.ok.mod.kin hk ?_ he hpl
 rw[he]
 show wpAny _ _ (spliced ((false,eval (.Name y yp) X.env)::backTo pos (starEach [] X.env))) _ _ s
 refine qBd (thn (zacn (X:=X) hi (visB.of hv) hdy hcy pins s τ H (λv H'=>v=.ref g/\H'=H) I ⟨_,hτ,rfl,rfl⟩) λu s1 ⟨v,H1,I1,rv,ev,eH⟩=>?_)
 subst ev
 subst eH
 cases rv
 refine qBk ⟨I1.kIn,?_⟩
 obtain⟨cl,pm,c',ctv,eg,hrec,inj,has,cel,val,len⟩:=hclo
 have hob:=(I1.hok g _ eg).1
 have ok:=ok L hL
 have As:Asks X.prog X.w X.K X.mg X.base (CXE X.prog X.w) (j+1) (frs X.stack) s1 (hidP P H1) g R:=by
  intro A outer s' H' Q' E' hr' e0 un hR'
  obtain⟨sl,hg'⟩:=un.any hob (zql (zxx eg)) (by simp)
  obtain⟨oc,vs2,t,hown,hd,hv⟩:=hrec
  have hoc:=(I1.hok _ _ hown).1
  obtain⟨sl2,hc'⟩:=un.any hoc (zql (zaon hown)) (by simp)
  refine zaqx (N:=L.NB) (vs:=vs) ok.S hr' e0 hg' rfl ⟨c',_,vs2,t,rfl,hc',hd,hv⟩ (ok.bind _ _ _ _) ⟨inj,has,λx c z=>?_,λi x v e1 e2=>?_,len⟩ λrm=>⟨_,(ok.hB A outer s' H' E' g c' _ rm e0.hok).out,hR H' Q' E' hR'⟩
  ·obtain⟨o,v,a,b⟩:=cel x c z
   have ho:=(I1.hok _ _ a).1
   obtain⟨sl3,z3⟩:=un.any ho (zql (zxx a)) (by simp)
   exact⟨⟨v,_,z3,b⟩,un.free c o ho (zql (zxx a)) (by simp)⟩
  ·obtain⟨c,u,o,a1,a2,a3,a4⟩:=val i x v e1 e2
   obtain⟨sl3,z3⟩:=un.any (I1.hok _ _ a2).1 (zql (zxx a2)) (by simp)
   exact⟨c,u,a1,⟨_,z3,a3⟩,a4⟩
 have e0:=I1.env0
 have e0':Env0 X.prog X.w X.K X.mg X.base X.A X.stack s1 (hidP P H1):=⟨e0.frames,e0.mod,λb o z=>⟨(e0.bs b o z).1,zqk (e0.bs b o z).2⟩,e0.bsz,e0.funs,λb z=>zqk (e0.frf b z),zavh hP e0.hok,e0.bare⟩
 refine qBx (qA0 (T.run X.A X.stack s1 (hidP P H1) ⟨[.ref g],[]⟩ g R _ hr e0' (hb s1 [.ref g] I1.kIn rfl) ⟨_,_,_,_,hob⟩ (zql (zxx eg)) As hT) λres s' hq=>?_)
 cases res with
 | error e=>exact hq.elim
 | ok fl=>
  cases fl with
  | ret u=>
   obtain⟨v,H2,os,bare,un,ok,rv,q2⟩:=hq
   obtain⟨un',ok',hn⟩:=zalw hP I1.hok I1.stkFree un ok
   exact⟨v,_,I1.call' os un' ok' bare (λb z=>absurd z (by simp)),rv,q2 hn⟩
  | next=>exact False.elim hq
  | brk=>exact False.elim hq
  | cont=>exact False.elim hq
end
noncomputable def PSd(X:Cx)(b:List Stmt)(T:(St->V->Hp->Prop)->St->Hp->Prop):Prop:=
 ∀(pins:List (Addr×Obj))(s:Shared)(σ:St)(H:Hp)(R:St->V->Hp->Prop),Inv X pins σ H s->T R σ H->wpAny (model X.prog X.w) X.A (execs b X.env) (λfl s'=>∃u,fl=.ret u/\∃v σ' H',Inv X pins σ' H' s'/\RelV v u/\R σ' v H') X.xe s
section
variable{X:Cx}
theorem zary(he:Bx (PE X e te)):Bx (PSd X [.Return (some e) pos] λR σ H=>te σ H λv H'=>R σ v H'):=by
 refine⟨λpins s σ H R I h=>qBb (wpAny_Return_some (thn (he.out pins s σ H _ I h) λv s1 ⟨x,H1,I1,r1,q1⟩=>?_))⟩
 exact⟨v,rfl,x,σ,H1,I1,r1,q1⟩
theorem zbw{st:Stmt}{rest:List Stmt}{t:TS}{T:(St->V->Hp->Prop)->St->Hp->Prop}(h1:Bx (PS X st t))(h2:Bx (PSd X rest T)):Bx (PSd X (st::rest) λR σ H=>t {nx:=T R,rt:=λ_ _=>False} σ H):=by
 refine⟨λpins s σ H R I h=>qBb (thn (h1.out pins s σ H _ I h) λf s1 q=>?_)⟩
 cases f with
 | next=>obtain⟨σ',H',I',q⟩:=q;exact h2.out pins s1 σ' H' R I' q
 | ret v=>obtain⟨_,_,_,_,_,q⟩:=q;exact q.elim
 | brk=>obtain⟨_,_,_,q⟩:=q;exact q.elim
 | cont=>obtain⟨_,_,_,q⟩:=q;exact q.elim
noncomputable def Laid(X:Cx)(σ:St)(H H2:Hp):Prop:=Same H H2/\∀x c,X.env.cells.lookup x=some c->∃(oc:Obj)(w:Option Value),H2 c=some (.frz oc (.own c))/\oc.data=.cell w/\∀(i:Nat)(v:V),X.N[i]?=some x->σ[i]?=some (some v)->X.env.kindOf x=some .cell->∃u,w=some u/\RelV v u
open Classical in
theorem Inv.laidC{s:Shared}(I:Inv X pins σ H s)(hex:X.ex=[])(hfn:∀x,X.fn x=true):∃H2,Un X.fs [] X.H₀ H2 X.s₀.heap s.heap/\HOk X.prog X.w H2 s.heap/\Laid X σ H H2:=by
 let isC:Addr->Prop:=λb=>∃x,X.env.cells.lookup x=some b
 let H2:Hp:=λb=>if isC b then(s.heap.get? b).map λo=>.frz o (.own b)else H b
 have hc:∀b,isC b->∃o,s.heap.get? b=some o/\H2 b=some (.frz o (.own b))/\H b=none:=λb hb=>by
  obtain⟨x,e⟩:=hb
  obtain⟨v,o,eo,d⟩:=I.cell x b e
  refine⟨o,eo,?_,I.freeC x b e⟩
  show(if isC b then _ else _)=_
  rw[if_pos ⟨x,e⟩,eo];rfl
 have hn:∀b,¬isC b->H2 b=H b:=λb hb=>if_neg hb
 have up:∀b o,H b=some o->H2 b=some o:=λb o e=>by
  rw[hn b λhb=>by obtain⟨_,_,_,z⟩:=hc b hb;rw[z]at e;cases e]
  exact e
 have un:Un X.fs [] X.H₀ H X.s₀.heap s.heap:=by have:=I.base;rw[hex]at this;exact this
 refine⟨H2,⟨un.keep,un.slot,λb o e n hx=>?_,un.there,λb xs e=>up _ _ (un.tups b xs e),λb o u e=>up _ _ (un.frzs b o u e),λb ps e=>?_⟩,λb u e=>?_,up,λx c e=>?_⟩
 ·rw[hn b λ⟨x,z⟩=>absurd (qO e) (qCH.mpr (I.ok.cab x b (hfn x) z))]
  exact un.free b o e n hx
 ·obtain⟨more,z⟩:=un.tbls b ps e;exact⟨more,up _ _ z⟩
 ·by_cases hb:isC b
  ·obtain⟨o,eo,e2,_⟩:=hc b hb
   rw[e2]at e;cases e
   exact⟨eo,o,eo⟩
  ·rw[hn b hb]at e
   exact(I.hok b u e).stay (λ_ _ _ z=>z) (λc z=>up _ _ z) (λc xs z=>up _ _ z) (λc o z=>up _ _ z)
 ·obtain⟨o,eo,e2,_⟩:=hc c ⟨x,e⟩
  obtain⟨w,o',eo',d⟩:=I.cell x c e
  rw[eo]at eo';cases eo'
  refine⟨o,w,e2,d,λi v h1 h2 h3=>?_⟩
  obtain⟨m,_,hl⟩:=I.loc
  obtain⟨u,rv,lk⟩:=hl i x v h1 h2 (.inr (.inl h3))
  rcases lk with⟨z,_⟩|⟨_,c2,ec,o2,eo2,d2⟩
  ·rw[h3]at z;cases z
  ·rw[e]at ec;cases ec
   rw[eo]at eo2;cases eo2
   rw[d]at d2;cases d2
   exact⟨u,rfl,rv⟩
theorem Clo.laid{L:LamI}{vs:List V}(ok:LamOk X j L)(X0:X.Ok)(h:Clo X P L H g)(hl:Laid X σ H H2)(hvs:(L.js.map λj=>σ[j]?)=vs.map (λv=>some (some v))):CloC (lamQ X) P L vs H2 g:=by
 obtain⟨pm,c',ctv,e,oc,ws,t,e2,r⟩:=h
 have fr:∀x,L.scope.names.lookup x=some .free->∃c,(clF L.scope X.env).lookup x=some c:=λx z=>by
  have m:=qo z
  obtain⟨c,e⟩:=X0.has x (.inl (ok.fr _ m rfl))
  exact⟨c,zahw m e⟩
 refine⟨clF L.scope X.env,pm,c',ctv,hl.1 _ _ e,⟨oc,ws,t,hl.1 _ _ e2,r⟩,λx y c z1 z2=>X0.inj x y c (zkw z1) (zkw z2),fr,λx c z=>?_,λi x v e1 e2=>?_,?_⟩
 ·obtain⟨o,w,a,b,_⟩:=hl.2 x c (zkw z)
  exact⟨o,w,a,b⟩
 ·have h1:=congrArg (λl=>l[i]?) ok.js
  have h2:=congrArg (λl=>l[i]?) hvs
  simp only[qS]at h1 h2
  rw[e1]at h1
  rw[e2]at h2
  cases ej:L.js[i]? with
  | none=>rw[ej]at h1;cases h1
  | some jj=>
   rw[ej]at h1 h2
   have g1:X.N[jj]?=some x:=qa h1
   have g2:σ[jj]?=some (some v):=qa h2
   have kf:L.scope.names.lookup x=some .free:=ok.S.free x (qu e1)
   have kc:X.env.kindOf x=some .cell:=ok.fr _ (qo kf) rfl
   obtain⟨c,ec⟩:=X0.has x (.inl kc)
   obtain⟨o,w,a,b,z⟩:=hl.2 x c ec
   obtain⟨u,rfl,rv⟩:=z jj v g1 g2 kc
   exact⟨c,u,o,zahw (qo kf) ec,a,b,rv⟩
 ·have h1:=congrArg List.length hvs
  have h2:=congrArg List.length ok.js
  simp only[qC]at h1 h2
  omega
end
theorem zawe{P:Program}{w:World}{K:qB}{mg:Str->Option Value}{base:Heap}{x qual:Str}{st:Stmt}{f c:Addr}{fd:qk}{N ps:List Str}{k:Nat}{sp:Sp}(Fu:Fun K x qual st f fd)(S:FnScope N ps (zaj st))(len:∀vs H Q E,sp vs H Q E->vs.length=ps.length)(hc:fd.code=.ref c)
  (hbody:∀(A:Around)(outer:List Env)(s:Shared)(H:Hp)(vs:List V)(Q:VK)(E:XK),Room k (A.deeper (envOfC qual (zaj st) s.heap.objs.size f (.ref c)))->sp vs H Q E->
   ∃T,PSd (cxOf CX0 P w K mg base N qual (zaj st) f (.ref c) A outer s H E).nox (zcy st) T/\((cxOf CX0 P w K mg base N qual (zaj st) f (.ref c) A outer s H E).nox.Ok->T (λσ v H'=>∀H2,Laid (cxOf CX0 P w K mg base N qual (zaj st) f (.ref c) A outer s H E).nox σ H' H2->Q v H2) (zcg N vs) H)):FnOk P w K mg base CX0 (k+1) f fd ps sp:=by
 refine⟨len,λA outer s H args us vs Q E hr e0 hb r hsp=>?_⟩
 obtain⟨oc,od,kV,doc,pm,an,cdv,ct,osl,rfl,lk,hcd⟩:=Fu.ex
 have hc':cdv=.ref c:=hc
 subst hc'
 have KX:K.In s.heap:=e0.mod.kin.keeps λb o e=>(e0.bs b o e).1
 refine qBV hr.depth (KX _ _ lk) rfl S.co S.gen rfl (qBW KX hcd) (hb _ _ _ _ (qBB S.kind (λ⟨n,v⟩ hy=>?_) λenv he s1 x=>?_))
 ·rcases S.par n (qBH hy).1 with q|q
  ·exact .inl q
  ·exact .inr ⟨q,qAw _ _ _ (.inl q)⟩
 ·subst he
  obtain⟨T,hT,hq⟩:=hbody A outer s H vs Q E (hr.deeper _) hsp
  have I:=zmc (CX:=CX0) (E:=E) S hr.hd e0 (len _ _ _ _ hsp) r x
  have I':=I.wish (λ_ _=>False)
  refine⟨(e0.mod.nolimit.keeps λb o e=>(e0.bs b o e).1).keeps x.toInCall.keep,qCi (qAq (hT [] s1 (zcg N vs) H _ I' (hq I'.ok)) (λfl s' hs=>?_) λe s' hs=>hs.elim)⟩
  obtain⟨u,rfl,v,σ',H',J,rv,q⟩:=hs
  obtain⟨H2,un,ok,ld⟩:=J.laidC rfl (λ_=>rfl)
  exact⟨v,H2,J.os,J.bare,un,ok,rv,q H2 ld⟩
noncomputable def Says(td:TE)(σ:St)(H:Hp)(n:Str):Prop:=∀(H1:Hp)(Q:VK),Same H H1->(∀H2,Same H1 H2->Q (.str n) H2)->td σ H1 Q
theorem zarz{fx:Addr->Prop}{r:Val}(h:SE td e)(hE:EnvOk fx H0 env σ H)(er:e env=some r)(hr:r.d=.str n):Says td σ H n:=λH1 Q s k=>h fx H0 env σ H1 (hE.up s) r er Q λv H2 s2 hv=>by
 have:=hv.rp
 rw[hr]at this
 rw[show v=.str n from by unfold Rp at this;exact this]
 exact k H2 s2
noncomputable def tRow(td tl:TE):TE:=tTup (tCons td (tCons tl tNil))
structure RowSt(X:Cx)(P:Addr)(Rs:List (Str×LamI))(Hs:Hp)(l:Addr)(ts:List Addr)(H:Hp):Prop where
 same:Same Hs H
 new:Hs l=none
 lst:H l=some (.lst (ts.map .ref))
 len:ts.length=Rs.length
 row:∀(i:Nat) n L t,Rs[i]?=some (n,L)->ts[i]?=some t->∃g,H t=some (.tup [.str n,.ref g])/\Clo X P L H g
section
variable{K:qB}{X:Cx}{P:Addr}{x:Nat}
theorem zajf {u:St->Hp->Prop} {σ:St} (hd:Says td σ H n) (hT:TbH P (lamQ X) H) (k:∀l t H1,RowSt X P [(n,L)] H l [t] H1->u (σ.set x (some (.ref l))) H1):(zaor x (tRow td (tLam P (lamQ X) (Clo X P L)))) {nx:=u,rt:=r} σ H:=by
 refine hd H _ (Same.refl _) λH1 s1=>⟨s1 _ _ hT,λg H2 s2 n2 c=>⟨(show 2<=qV by decide),λp hp=>⟨(show 1<=qV by decide),λl hl=>k l p _ ?_⟩⟩⟩
 have hpl:p≠l:=λz=>by rw[z,zam]at hl;cases hl
 have hl2:H2 l=none:=by rw[zap (qAk hpl)]at hl;exact hl
 have s12:=s1.trans s2
 refine⟨λb o e=>?_,?_,zam,rfl,λi n' L' t e1 e2=>?_⟩
 ·have e2:=s12 _ _ e
  rw[zap (zax e2 hl2),zap (zax e2 hp)];exact e2
 ·cases e:H l with
  | none=>rfl
  | some o=>rw[s12 _ _ e]at hl2;cases hl2
 ·cases i with
  | zero=>
   cases e1;cases e2
   exact⟨g,by rw[zap hpl,zam],c.same λb o u e=>by rw[zap (zax e hl2),zap (zax e hp)];exact e⟩
  | succ i=>cases e1
theorem zasa{Rs:List (Str×LamI)}{u:St->Hp->Prop}(hd:Says td σ Hs n)(hT:TbH P (lamQ X) Hs)(st:RowSt X P Rs Hs l ts H)(hz:Rs.length<100000)(hσ:σ[x]?=some (some (.ref l)))
  (k:∀t H1,RowSt X P (Rs++[(n,L)]) Hs l (ts++[t]) H1->u σ H1):(zajc K x (tRow td (tLam P (lamQ X) (Clo X P L)))) {nx:=u,rt:=r} σ H:=by
 refine⟨.ref l,hσ,.inl ⟨rfl,_,.inl (.inl st.lst)⟩,hd H _ st.same λH1 s1=>⟨s1 _ _ (st.same _ _ hT),λg H2 s2 n2 c=>⟨(show 2<=qV by decide),λp hp=>?_⟩⟩⟩
 have hl2:=s2 _ _ (s1 _ _ st.lst)
 have hpl:l≠p:=λz=>by rw[z,hp]at hl2;cases hl2
 refine⟨l,ts.map .ref,.ref p,rfl,rfl,by rw[zap hpl];exact hl2,by rw[qC,st.len];exact zlm hz,k p _ ?_⟩
 have kp:∀b o u,H2 b=some (.frz o u)->upd (upd H2 p (.tup [.str n,.ref g])) l (.lst (ts.map .ref++[.ref p])) b=some (.frz o u):=λb o u e=>by rw[zap (λz=>by rw[z,hl2]at e;cases e),zap (zax e hp)];exact e
 refine⟨λb o e=>?_,st.new,?_,?_,λi n' L' t e1 e2=>?_⟩
 ·have e2:=s2 _ _ (s1 _ _ (st.same _ _ e))
  rw[zap (zax e st.new),zap (zax e2 hp)];exact e2
 ·rw[qAN];exact zam
 ·rw[qZ,qZ,st.len];rfl
 ·by_cases hi:i<Rs.length
  ·rw[qm hi]at e1
   rw[qm (by rw[st.len];exact hi)]at e2
   obtain⟨g',a1,a2⟩:=st.row i n' L' t e1 e2
   have a3:=s2 _ _ (s1 _ _ a1)
   exact⟨g',by rw[zap (λz=>by rw[z,hl2]at a3;cases a3),zap (zax a3 hp)];exact a3,a2.same λb o u e=>kp b o u (s2 _ _ (s1 _ _ e))⟩
  ·rw[qb (qCR hi)]at e1
   rw[qb (by rw[st.len];exact qCR hi),st.len]at e2
   cases hk:i - Rs.length with
   | zero=>
    rw[hk]at e1 e2
    cases e1;cases e2
    exact⟨g,by rw[zap (qAk hpl),zam],c.same kp⟩
   | succ m=>rw[hk]at e1;cases e1
noncomputable def zasb(K:qB)(X:Cx)(P:Addr)(x:Nat):List (TE×LamI)->((St->V->Hp->Prop)->St->Hp->Prop)->(St->V->Hp->Prop)->St->Hp->Prop
 | [],T=>T
 | (td,L)::rs,T=>λR σ H=>(zajc K x (tRow td (tLam P (lamQ X) (Clo X P L)))) {nx:=zasb K X P x rs T R,rt:=λ_ _=>False} σ H
noncomputable def dAll(K:qB)(X:Cx)(P:Addr)(x:Nat)(td0:TE)(L0:LamI)(rs:List (TE×LamI)):(St->V->Hp->Prop)->St->Hp->Prop:=λR σ H=>
 (zaor x (tRow td0 (tLam P (lamQ X) (Clo X P L0)))) {nx:=zasb K X P x rs (λR σ H=>(tVar x) σ H λv H'=>R σ v H') R,rt:=λ_ _=>False} σ H
theorem zadn{T:(St->V->Hp->Prop)->St->Hp->Prop}{R:St->V->Hp->Prop}(hT:TbH P (lamQ X) Hs)(hσ:σ[x]?=some (some (.ref l))):∀(rs:List (TE×LamI))(ns:List Str)(Rs:List (Str×LamI))(ts:List Addr)(H:Hp),ns.length=rs.length->
  (∀(i:Nat) td L n,rs[i]?=some (td,L)->ns[i]?=some n->Says td σ Hs n)->RowSt X P Rs Hs l ts H->(Rs++ns.zip (rs.map (·.2))).length<100000->(∀ts' H',RowSt X P (Rs++ns.zip (rs.map (·.2))) Hs l ts' H'->T R σ H')->zasb K X P x rs T R σ H
 | [],ns,Rs,ts,H,hl,_,st,_,k=>k ts H (by cases ns with|nil=>simpa using st|cons _ _=>cases hl)
 | (td,L)::rs,[],Rs,ts,H,hl,_,st,_,k=>by cases hl
 | (td,L)::rs,n::ns,Rs,ts,H,hl,hd,st,hz,k=>by
  have e:Rs++(n::ns).zip (((td,L)::rs).map (·.2))=(Rs++[(n,L)])++ns.zip (rs.map (·.2)):=by simp
  refine zasa (hd 0 td L n rfl rfl) hT st (by rw[e,qZ,qZ]at hz;simp at hz;omega) hσ λt H1 st1=>?_
  exact zadn hT hσ rs ns _ _ H1 (Nat.succ.inj hl) (λi td' L' n' a b=>hd (i+1) td' L' n' a b) st1 (by rw[e]at hz;exact hz) λts' H' st'=>k ts' H' (by rw[e];exact st')
end
noncomputable def zym(P:Addr)(q:Str)(n m:Nat)(es:List EF)(Ls:List LamI):Sp:=λvs H Q _=>TbH P q H/\∃(fx:Addr->Prop)(ds:List PyData)(ns:List Str),ds.length=n/\(∀b,fx b->∃o,H b=some o)/\Rps (Offs fx H) ds vs/\ns.length=Ls.length/\
 (∀(i:Nat) e x,es[i]?=some e->ns[i]?=some x->∃r,e (zcn m ds)=some r/\r.d=.str x)/\
 ∀(l:Addr)(ts:List Addr)(H2:Hp),Same H H2->H2 l=some (.lst (ts.map .ref))->ts.length=Ls.length->(∀(i:Nat) L x t,Ls[i]?=some L->ns[i]?=some x->ts[i]?=some t->∃g,H2 t=some (.tup [.str x,.ref g])/\∀ws:List V,(L.js.map λj=>vs[j]?)=ws.map some->CloC q P L ws H2 g)->Q (.ref l) H2
theorem zaey{vs:List V}(h:zym P q n m es Ls vs H Q E):vs.length=n:=by
 obtain⟨_,fx,ds,ns,h1,_,h2,_⟩:=h
 rw[<- h2.length];exact h1
section
variable{K:qB}{X:Cx}{P:Addr}{x j n:Nat}
theorem zasc{N:List Str}{rs:List (TE×LamI)}{es:List EF}(X0:X.Ok)(ok:∀L∈L0::rs.map (·.2),LamOk X j L)(hse:∀(i:Nat) td e,(td0::rs.map (·.1))[i]?=some td->es[i]?=some e->SE td e)(hel:es.length=rs.length+1)(hz:rs.length<1000)
  (hx:n<=x)(hxN:x<N.length)(hjs:∀L∈L0::rs.map (·.2),∀j∈L.js,j<n)(h:zym P (lamQ X) n N.length es (L0::rs.map (·.2)) vs H Q E) :
  dAll K X P x td0 L0 rs (λσ v H'=>∀H2,Laid X σ H' H2->Q v H2) (zcg N vs) H:=by
 obtain⟨hT,fx,ds,ns,hn,hf,r,hl,hns,k⟩:=h
 have hE:=zfo (N:=N) hf r
 have hno:(zcn N.length ds)[x]?=some .no:=by
  unfold zcn
  rw[qb (by rw[qC,hn];exact hx),qC,hn,qAF,if_pos (by omega)]
 have hxs:x<(zcg N vs).length:=by rw[<- hE.len];exact(qM.mp hno).1
 cases ns with
 | nil=>cases hl
 | cons n0 ns=>
  have hl':ns.length=rs.length:=by simpa using hl
  have say:∀(σ:St),EnvOk fx H (zcn N.length ds) σ H->∀(i:Nat) td x,(td0::rs.map (·.1))[i]?=some td->(n0::ns)[i]?=some x->Says td σ H x:=λσ hE' i td x e1 e2=>by
   have hi:i<es.length:=by
    have:=(qM.mp e1).1
    simp at this
    omega
   obtain⟨r,a1,a2⟩:=hns i es[i] x (qK hi) e2
   exact zarz (hse i td es[i] e1 (qK hi)) hE' a1 a2
  refine zajf (say _ hE 0 td0 n0 rfl rfl) hT λl t H1 st=>?_
  have hσ:((zcg N vs).set x (some (V.ref l)))[x]?=some (some (.ref l)):=by rw[qX hxs]
  refine zadn hT hσ rs ns [(n0,L0)] [t] H1 hl' (λi td L y e1 e2=>say _ (hE.atNo hno) (i+1) td y ?_ e2) st (by simp;omega) λts' H' st'=>?_
  ·show(rs.map (·.1))[i]?=_
   rw[qS,e1];rfl
  ·refine⟨.ref l,hσ,λH2 ld=>?_⟩
   have zl:([(n0,L0)]++ns.zip (rs.map (·.2))).length=(L0::rs.map (·.2)).length:=by simp[hl']
   refine k l ts' H2 (st'.same.trans ld.1) (ld.1 _ _ st'.lst) (by rw[st'.len,zl]) λi L y t e1 e2 e3=>?_
   have hz1:([(n0,L0)]++ns.zip (rs.map (·.2)))[i]?=some (y,L):=by
    show((n0::ns).zip (L0::rs.map (·.2)))[i]?=_
    rw[qCm]
    exact⟨e2,e1⟩
   obtain⟨g,a1,a2⟩:=st'.row i y L t hz1 e3
   refine⟨g,ld.1 _ _ a1,λws hw=>a2.laid (ok L (qu e1)) X0 ld ?_⟩
   have hj:=hjs L (qu e1)
   have vl:vs.length=n:=by rw[<- r.length];exact hn
   clear k a2 a1 st'
   have key:∀(js:List Nat)(ws:List V),(∀j∈js,j<n)->(js.map λj=>vs[j]?)=ws.map some->(js.map λj=>((zcg N vs).set x (some (V.ref l)))[j]?)=ws.map λv=>some (some v):=λjs=>by
    induction js with
    | nil=>intro ws _ e;cases ws with|nil=>rfl|cons _ _=>cases e
    | cons j js ih=>
     intro ws hj e
     cases ws with
     | nil=>cases e
     | cons w ws=>
      have e1:vs[j]?=some w:=(qBA e).1
      have e2:=(qBA e).2
      have jn:j<n:=hj j (by simp)
      have q:((zcg N vs).set x (some (V.ref l)))[j]?=some (some w):=by
       rw[qL (by omega)]
       unfold zcg
       rw[qm (by rw[qC];omega),qS,e1];rfl
      rw[qh,qh,q,ih ws (λj' h'=>hj j' (qN _ h')) e2]
   exact key L.js ws hj hw
end
noncomputable def askD(x:Str):PyData:=.tuple [.bool true,.bool true,.bool false,.str x]
open Classical in
noncomputable def zajg(m:Nat)(rs:List (EF×EF)):SF:=λenv=>if(∀p∈rs,∃r z x,p.1 (env.take m)=some r/\r.d=.str x/\p.2 env=some z/\neD z.d (askD x)=some (.bool false,false))then some (.rt (.bool true) false)else none
noncomputable def zaot(K:qB)(q:Str)(P:Addr)(Ls:List LamI)(i j:Nat)(tol:(Hp->VK->XK->Prop)->Hp->VK->Prop):TS:=
 tIfS (tTest (tOp (λx y H Q=>rNe x y H Q\/rEqD K true x y H Q) (zaos q P Ls j tol) (tTup (tCons (tC (.bl true)) (tCons (tC (.bl true)) (tCons (tC (.bl false)) (tCons (tVar i) tNil))))))) (tRet (tC (.bl false))) tNext
noncomputable def zawf(K:qB)(q:Str)(P:Addr)(Ls:List LamI)(es:List EF)(n m i j:Nat)(ta:TA)(tol:(Hp->VK->XK->Prop)->Hp->VK->Prop):TS:=
 tSeq (tFor (iSeq K (tCall (zym P q n m es Ls) [] E0 ta)) (gTup K 2 (gCons (gName i) (gCons (gName j) gNil))) (zaot K q P Ls i j tol)) (tRet (tC (.bl true)))
section
variable{K:qB}{q:Str}{P:Addr}{n m i j:Nat}
theorem zyn:∀(js:List Nat)(vs:List V){σ:St}{H:Hp}{Q:List V->Hp->Prop},(js.map λj=>σ[j]?)=vs.map (λv=>some (some v))->Q vs H->zaja js σ H Q
 | [],[],σ,H,Q,_,h=>h
 | [],_::_,σ,H,Q,e,h=>by cases e
 | j::js,[],σ,H,Q,e,h=>by cases e
 | j::js,v::vs,σ,H,Q,e,h=>⟨v,(qBA e).1,zyn js vs (qBA e).2 h⟩
theorem zamy{N:List Str}{tol:(Hp->VK->XK->Prop)->Hp->VK->Prop}{Ls:List LamI}{es fs:List EF}(hel:es.length=Ls.length)(hfl:fs.length=Ls.length)(hS:∀(i:Nat) L f,Ls[i]?=some L->fs[i]?=some f->LamS P q tol L f)(hz:Ls.length<1000)
  (hN:N.length=n+2) (hi:i=n) (hj:j=n+1) (hm:m=n+1) (hjs:∀L∈Ls,∀j∈L.js,j<n) (h:spDT P q n (fnD N.length (zajg m (es.zip fs))) vs H Q E) :
  zawf K q P Ls es n m i j (zaja (List.range n)) tol {nx:=λ_ H'=>Q .non H',rt:=Q} (zcg N vs) H:=by
 subst hi
 subst hj
 subst hm
 obtain⟨hT,fx,ds,d,fr,hn,hf,r,g,k⟩:=h
 unfold fnD at g
 have hE:=zfo (N:=N) hf r
 have vl:vs.length=i:=by rw[<- r.length];exact hn
 have st_j:∀j,j<i->(zcg N vs)[j]?=(vs[j]?).map some:=λj hj=>by
  unfold zcg
  rw[qm (by rw[qC];omega),qS]
 split at g
 ·rename_i d' fr' eo
  cases g
  unfold zajg at eo
  split at eo
  ·rename_i hall
   cases eo
   have tk:(zcn N.length ds).take (i+1)=zcn (i+1) ds:=by
    unfold zcn
    rw[List.take_append,qC,hn,qCz (by rw[qC];omega),List.take_replicate]
    congr 2
    omega
   rw[tk]at hall
   have row:∀(k:Nat) e f,es[k]?=some e->fs[k]?=some f->∃r z x,e (zcn (i+1) ds)=some r/\r.d=.str x/\f (zcn N.length ds)=some z/\neD z.d (askD x)=some (.bool false,false):=λk e f h1 h2=>
    hall (e,f) (qu (i:=k) (by rw[qCm];exact⟨h1,h2⟩))
   obtain⟨ns,hnl,hns⟩:∃ns:List Str,ns.length=Ls.length/\∀(k:Nat) e f x,es[k]?=some e->fs[k]?=some f->ns[k]?=some x->∃r z,e (zcn (i+1) ds)=some r/\r.d=.str x/\f (zcn N.length ds)=some z/\neD z.d (askD x)=some (.bool false,false):=by
    have:∀(es fs:List EF),es.length=fs.length->(∀(k:Nat) e f,es[k]?=some e->fs[k]?=some f->∃r z x,e (zcn (i+1) ds)=some r/\r.d=.str x/\f (zcn N.length ds)=some z/\neD z.d (askD x)=some (.bool false,false))->
      ∃ns:List Str,ns.length=es.length/\∀(k:Nat) e f x,es[k]?=some e->fs[k]?=some f->ns[k]?=some x->∃r z,e (zcn (i+1) ds)=some r/\r.d=.str x/\f (zcn N.length ds)=some z/\neD z.d (askD x)=some (.bool false,false):=by
     intro es
     induction es with
     | nil=>intro fs _ _;exact⟨[],rfl,λk e f x h1=>by cases h1⟩
     | cons e es ih=>
      intro fs hl hr
      cases fs with
      | nil=>cases hl
      | cons f fs=>
       obtain⟨ns,l1,l2⟩:=ih fs (Nat.succ.inj hl) λk e' f' a b=>hr (k+1) e' f' a b
       obtain⟨r,z,x,a⟩:=hr 0 e f rfl rfl
       refine⟨x::ns,by rw[qz,qz,l1],λk e' f' x' h1 h2 h3=>?_⟩
       cases k with
       | zero=>cases h1;cases h2;cases h3;exact⟨r,z,a⟩
       | succ k=>exact l2 k e' f' x' h1 h2 h3
    obtain⟨ns,a,b⟩:=this es fs (hel.trans hfl.symm) row
    exact⟨ns,a.trans hel,b⟩
   have noi:(zcn N.length ds)[i]?=some .no:=by
    unfold zcn
    rw[qb (by rw[qC,hn];omega),qC,hn,qAF,if_pos (by omega)]
   have noj:(zcn N.length ds)[i+1]?=some .no:=by
    unfold zcn
    rw[qb (by rw[qC,hn];omega),qC,hn,qAF,if_pos (by omega)]
   have sl:(zcg N vs).length=i+2:=by rw[<- hE.len];unfold zcn;rw[qZ,qC,q0,hn];omega
   have allv:((List.range i).map λj=>(zcg N vs)[j]?)=vs.map λv=>some (some v):=by
    apply qBm
    intro k
    rw[qS,qS]
    by_cases hk:k<i
    ·rw[qDL hk,qAd,st_j k hk,qK (by omega)];rfl
    ·rw[qBR (by rw[List.length_range];omega),qBR (by omega)];rfl
   refine zyn (List.range i) vs allv ?_
   rw[q9]
   refine⟨hT,fx,ds,ns,hn,hf,r,hnl,λk' e x h1 h2=>?_,λl ts H2 s2 hl2 tl hrow=>?_⟩
   ·have hk:k'<fs.length:=by have:=(qM.mp h1).1;omega
    obtain⟨r,z,a1,a2,_⟩:=hns k' e fs[k'] x h1 (qK hk) h2
    exact⟨r,a1,a2⟩
   ·have sq:∀H',Same H2 H'->SqL K H' l (ts.map .ref):=λH' s=>.inl (.inl (s _ _ hl2))
    refine⟨l,rfl,.inl ⟨⟨_,sq H2 (Same.refl _)⟩,?_⟩⟩
    refine⟨λa b σ' H'=>b=Ls.length - a/\a<=Ls.length/\(∃u v,σ'=((zcg N vs).set i u).set (i+1) v)/\Same H2 H',⟨Ls.length,rfl,qAK _,⟨none,none,?_⟩,Same.refl _⟩,?_⟩
    ·have e1:(zcg N vs)[i]?=some none:=by unfold zcg;rw[qb (by rw[qC];omega),qC,qAF,if_pos (by omega)]
     have e2:(zcg N vs)[i+1]?=some none:=by unfold zcg;rw[qb (by rw[qC];omega),qC,qAF,if_pos (by omega)]
     have g1:(zcg N vs).set i none=zcg N vs:=by
      apply qBm
      intro k
      by_cases hk:i=k
      ·subst hk;rw[qX (by omega),e1]
      ·rw[qL hk]
     rw[g1]
     apply qBm
     intro k
     by_cases hk:i+1=k
     ·subst hk;rw[qX (by omega),e2]
     ·rw[qL hk]
    ·rintro a b σ' H' ⟨rfl,ha,⟨u,v,rfl⟩,s'⟩
     by_cases hlt:a<Ls.length
     ·have hts:ts[a]?=some (ts[a]'(by omega)):=qK _
      refine .inr ⟨⟨ts.map .ref,.ref (ts[a]'(by omega)),sq H' s',by rw[qS,hts];rfl⟩,λσ2 H3=>a+1<=Ls.length/\(∃u v,σ2=((zcg N vs).set i u).set (i+1) v)/\Same H2 H3,?_,?_⟩
      ·rintro σ2 H3 ⟨a1,a2,a3⟩
       exact⟨Ls.length - (a+1),by omega,rfl,a1,a2,a3⟩
      ·rintro y H'' ⟨rfl,hy⟩
       have hy:=hy _ (sq H'' s')
       rw[qS,hts]at hy
       cases hy
       have hL:Ls[a]?=some Ls[a]:=qK hlt
       have hx:ns[a]?=some (ns[a]'(by omega)):=qK _
       have he:es[a]?=some (es[a]'(by omega)):=qK _
       have hfa:fs[a]?=some (fs[a]'(by omega)):=qK _
       obtain⟨g,t1,t2⟩:=hrow a _ _ _ hL hx hts
       obtain⟨r,z,z1,z2,z3,z4⟩:=hns a _ _ _ he hfa hx
       generalize hxx:ns[a]'(by omega)=xx at *
       refine⟨ts[a]'(by omega),[.str xx,.ref g],rfl,.inl (.inl (s' _ _ t1)),rfl,.str xx,[.ref g],rfl,.ref g,[],rfl,rfl,?_⟩
       have eσ:((((zcg N vs).set i u).set (i+1) v).set i (some (V.str xx))).set (i+1) (some (V.ref g))=((zcg N vs).set i (some (.str xx))).set (i+1) (some (.ref g)):=by
        apply qBm
        intro k
        by_cases h1:i+1=k
        ·subst h1
         rw[qX (by simp;omega),qX (by simp;omega)]
        ·by_cases h2:i=k
         ·subst h2
          rw[qL h1,qX (by simp;omega),qL h1,qX (by omega)]
         ·rw[qL h1,qL h2,qL h1,qL h2,qL h1,qL h2]
       show(zaot K q P Ls i (i+1) tol) _ (((((zcg N vs).set i u).set (i+1) v).set i (some (V.str xx))).set (i+1) (some (V.ref g))) H''
       rw[eσ]
       have hE2:EnvOk fx H (zcn N.length ds) (((zcg N vs).set i (some (.str xx))).set (i+1) (some (.ref g))) H'':=((hE.up (s2.trans s')).atNo noi).atNo noj
       have hTb:=s' _ _ (s2 _ _ hT)
       obtain⟨ws,q1,R,q2,q3⟩:=hS a _ _ hL hfa fx H _ _ H'' hTb hE2 z z3
       have hws:(Ls[a].js.map λj=>vs[j]?)=ws.map some:=by
        have hj:=hjs Ls[a] (qu hL)
        have key:∀(js:List Nat)(ws:List V),(∀j∈js,j<i)->(js.map λj=>(((zcg N vs).set i (some (.str xx))).set (i+1) (some (.ref g)))[j]?)=ws.map (λv=>some (some v))->(js.map λj=>vs[j]?)=ws.map some:=λjs=>by
         induction js with
         | nil=>intro ws _ e;cases ws with|nil=>rfl|cons _ _=>cases e
         | cons j js ih=>
          intro ws hj e
          cases ws with
          | nil=>cases e
          | cons w ws=>
           have e1:(((zcg N vs).set i (some (.str xx))).set (i+1) (some (.ref g)))[j]?=some (some w):=(qBA e).1
           have jn:j<i:=hj j (by simp)
           rw[qL (by omega),qL (by omega),st_j j jn]at e1
           have e3:vs[j]?=some w:=by
            cases q:vs[j]? with
            | none=>rw[q]at e1;cases e1
            | some w'=>rw[q]at e1;cases e1;rfl
           rw[qh,qh,e3,ih ws (λj' h'=>hj j' (qN _ h')) (qBA e).2]
        exact key _ ws hj q1
       refine⟨hTb,g,Ls[a],ws,by rw[qX (by simp;omega)],qu hL,(t2 ws hws).same s',R,q2,q3 _ λv3 H3 hh hn3=>?_⟩
       obtain⟨s3,rv⟩:=hh hn3
       refine⟨.str xx,by rw[qL (by omega),qX (by omega)],(show 4<=qV by decide),λp hp=>?_⟩
       have sp:Same (resP P H'' H3) (upd (resP P H'' H3) p (.tup [.bl true,.bl true,.bl false,.str xx])):=Same.new hp
       have rrow:Rp (upd (resP P H'' H3) p (.tup [.bl true,.bl true,.bl false,.str xx])) (askD xx) (.ref p):=by
        unfold askD Rp
        exact⟨p,_,rfl,zam,zcx zar (zcx zar (zcx zar (zcx zgk zeb)))⟩
       refine zaav (K:=K) (λ_=>False) _ v3 (.ref p) z.d (askD xx) (λ_ z=>z.elim) (zajd (Rp.same sp _ rv)) (zajd rrow) _ _ z4 _ λw H4 s4 rw4 _=>?_
       cases zjv rw4
       refine⟨false,rfl,?_⟩
       exact⟨hlt,⟨_,_,rfl⟩,s'.trans (s3.trans (sp.trans s4))⟩
     ·have ha':a=Ls.length:=by omega
      subst ha'
      refine .inl ⟨⟨ts.map .ref,sq H' s',by rw[qC];omega⟩,?_⟩
      exact k (.bl true) H' (s2.trans s') ⟨zar,λz=>by cases z⟩
  ·cases eo
 ·rename_i e' eo
  unfold zajg at eo
  split at eo<;>cases eo
 ·cases g
end
section
variable{X:Cx}
theorem bpaC(h1:Bx (PE X e te))(h2:Bx (PA X es t))(h3:isStar e=false:=by rfl):Bx (PA X (e::es) (tCons te t)):=zain h1 h2 h3
theorem bpeD{x:Str}(D:Dn X.prog X.w X.K X.mg X.base x ps k sp)(hr:Room m X.A)(ha:Bx (PA X (e::es) t))(hm:k<=m:=by decide)(hg:Gl X x:=by rfl)(hd:(x==("__debug__":Str))=false:=by decide)
  (hs:isStar e=false:=by rfl) (hp:((backTo pos (starEach es X.env)).any λx=>x.1)=false:=by rfl):Bx (PE X (.Call (.Name x p) (e::es) [] pos) (tCall sp [] E0 t)):=zavn D (hr.mono hm) hg ha hd (zak hs) hp
theorem bpeB{x:Str}{p pos:Pos}{e:Expr}{es:List Expr}{t:TA}{id:String}{r:List V->Hp->VK->Prop}(hc:CallR X (.builtin id) r)(hm:X.mg x=none)(hb:bootBuiltins x=some (.builtin id))(ha:Bx (PA X (e::es) t))(hg:Gl X x:=by rfl)(h1:x≠("__name__":Str):=by decide)(h2:(x==("__debug__":Str))=false:=by decide)
  (hs:isStar e=false:=by rfl) (hp:((backTo pos (starEach es X.env)).any λx=>x.1)=false:=by rfl):Bx (PE X (.Call (.Name x p) (e::es) [] pos) (tCB r t)):=zaio hc hg hm hb ha h1 h2 (zak hs) hp
theorem bpeT{x:Str}{r:List V->Hp->VK->Prop}(hc:CallR X (.type T) r)(hm:X.mg x=none)(hb:bootBuiltins x=some (.type T))(ha:Bx (PA X (e::es) t))(hg:Gl X x:=by rfl)(h1:x≠("__name__":Str):=by decide)(h2:(x==("__debug__":Str))=false:=by decide)
  (hs:isStar e=false:=by rfl) (hp:((backTo pos (starEach es X.env)).any λx=>x.1)=false:=by rfl):Bx (PE X (.Call (.Name x p) (e::es) [] pos) (tCB r t)):=zaet hc hg hm hb ha h1 h2 (zak hs) hp
theorem bpsS{pos:Pos}(hN:X.N.Nodup)(hi:X.N[i]?=some x)(hl:Loc X.env.scope x)(he:Bx (PE X e te))(hs:swapsWith e (some (.Name x pos')) pos.line X.env=pure false:=by rfl)(hf:X.fn x=true\/X.env.scope.names.lookup x=some .local:=by exact .inl rfl):Bx (PS X (.Assign [.Name x pos'] e pos) (tAsg te (gName i))):=zari hN hi hl he hs hf
theorem bpeX(hr:IxR X r)(h1:Bx (PE X a ta))(h2:Bx (PE X b tb))(hp:PlainIx b:=by exact λ_ _=>rfl):Bx (PE X (.Subscript a b pos) (tOp r ta tb)):=zavo hr h1 h2 hp
theorem bpgN(hN:X.N.Nodup)(hi:X.N[i]?=some x)(hl:Loc X.env.scope x)(hf:X.fn x=true\/X.env.scope.names.lookup x=some .local:=by first|exact .inl rfl|exact .inr rfl|assumption):Bx (PG X (.Name x pos) (gName i)):=zamm hN hi hl hf
end
section
variable{P:Program}{w:World}{K:qB}{h:Heap}{mg:Str->Option Value}{base:Heap}{x:Str}{st:Stmt}{f:Addr}{fd:qk}{ps:List Str}{k:Nat}{sp:Sp}
structure DefIn(K:qB)(x:Str)(st:Stmt)(f:Addr)(fd:qk):Prop where
 ns:qAR K qj x=some (some (.ref f))
 fn:Fun K x x st f fd
theorem def_mk{oc:Value}{od an:Option Addr}{osl:Array (Option Value)}{kV doc pm cdv ct:Value}(a:qAR K qj x=some (some (.ref f)))(l:K.lookup f=some ⟨oc,od,.func (qAS x x (zep st) (zcy st) (zaj st) .none kV doc pm an cdv ct),osl⟩)
  (c:qBc K cdv x=true) (k:qAj K (.ref f)=true):DefIn K x st f (qAS x x (zep st) (zcy st) (zaj st) .none kV doc pm an cdv ct):=⟨a,zaoc l c k⟩
theorem DefIn.b1{p:Str}(d:DefIn K x st f fd)(h:∀(kV doc pm:Value) (an:Option Addr) (cdv ct a:Value),bindArgs (qAS x x (zep st) (zcy st) (zaj st) .none kV doc pm an cdv ct) ⟨[a],[]⟩=pure [(p,a)]):zij K fd [p] []:=
 d.fn.binds λkV doc pm an cdv ct us hl=>match us,hl with|[a],_=>h kV doc pm an cdv ct a
theorem DefIn.b2{p q:Str}(d:DefIn K x st f fd)(h:∀(kV doc pm:Value) (an:Option Addr) (cdv ct a b:Value),bindArgs (qAS x x (zep st) (zcy st) (zaj st) .none kV doc pm an cdv ct) ⟨[a,b],[]⟩=pure [(p,a),(q,b)]):zij K fd [p,q] []:=
 d.fn.binds λkV doc pm an cdv ct us hl=>match us,hl with|[a,b],_=>h kV doc pm an cdv ct a b
theorem DefIn.b3{p q r:Str}(d:DefIn K x st f fd)(h:∀(kV doc pm:Value) (an:Option Addr) (cdv ct a b c:Value),bindArgs (qAS x x (zep st) (zcy st) (zaj st) .none kV doc pm an cdv ct) ⟨[a,b,c],[]⟩=pure [(p,a),(q,b),(r,c)]):zij K fd [p,q,r] []:=
 d.fn.binds λkV doc pm an cdv ct us hl=>match us,hl with|[a,b,c],_=>h kV doc pm an cdv ct a b c
theorem DefIn.b4{p q r s:Str}(d:DefIn K x st f fd)(h:∀(kV doc pm:Value) (an:Option Addr) (cdv ct a b c e:Value),bindArgs (qAS x x (zep st) (zcy st) (zaj st) .none kV doc pm an cdv ct) ⟨[a,b,c,e],[]⟩=pure [(p,a),(q,b),(r,c),(s,e)]):zij K fd [p,q,r,s] []:=
 d.fn.binds λkV doc pm an cdv ct us hl=>match us,hl with|[a,b,c,e],_=>h kV doc pm an cdv ct a b c e
theorem DefIn.b5{p q r s t:Str}(d:DefIn K x st f fd)(h:∀(kV doc pm:Value) (an:Option Addr) (cdv ct a b c e g:Value),bindArgs (qAS x x (zep st) (zcy st) (zaj st) .none kV doc pm an cdv ct) ⟨[a,b,c,e,g],[]⟩=pure [(p,a),(q,b),(r,c),(s,e),(t,g)]):zij K fd [p,q,r,s,t] []:=
 d.fn.binds λkV doc pm an cdv ct us hl=>match us,hl with|[a,b,c,e,g],_=>h kV doc pm an cdv ct a b c e g
theorem DefIn.dn(d:DefIn K x st f fd)(X:K.In h)(G:h.Ns qj mg)(ok:FnOk P w K mg base CX0 k f fd ps sp)(b:zij K fd ps []):Dn P w K mg base x ps k sp:=⟨f,fd,ok,qAW X G d.ns,d.fn.kp,b⟩
theorem DefIn.dx(d:DefIn K x st f fd)(X:K.In h)(G:h.Ns qj mg)(ok:FnOk P w K mg base (CXE P w) k f fd ps sp)(b:zij K fd ps []):DnX P w K mg base x ps k sp:=⟨f,fd,ok,qAW X G d.ns,d.fn.kp,b⟩
theorem DefIn.dt{p:Str}{j:Nat}{tol:(Hp->VK->XK->Prop)->Hp->VK->Prop}(d:DefIn K x st f fd)(X:K.In h)(G:h.Ns qj mg)(ok:ToldOk P w K mg base k j f fd p tol)(b:zij K fd [p] []):DnT P w K mg base x p k j tol:=⟨f,fd,ok,qAW X G d.ns,d.fn.kp,b⟩
theorem DefIn.code{c T:Addr}(d:DefIn K x st f fd)(X:K.In h)(G:h.Ns qj mg)(ht:PySem.W.tabIn K x=some (c,T)):fd.code=.ref c:=by
 obtain⟨oc,od,kV,doc,pm,an,cdv,ct,osl,rfl,lk,hcd⟩:=d.fn.ex
 exact PySem.W.law_code X G ht (qAW X G d.ns) (X _ _ lk) rfl
structure ClsIn(K:qB)(x:Str)(f:Addr):Prop where
 ns:qAR K qj x=some (some (.ref f))
 cl:PySem.W.isClsIn K f=true
 ty:PySem.W.typeIn K (.ref f)=some (.type "type")
theorem cls_mk(a:qAR K qj x=some (some (.ref f)))(b:PySem.W.isClsIn K f=true)(c:PySem.W.typeIn K (.ref f)=some (.type "type")):ClsIn K x f:=⟨a,b,c⟩
structure XIn(K:qB)(y fI:Addr):Prop where
 mx:XMk K y fI
 cl:PySem.W.findIn K (.ref y) "__class__"=some (some (.builtin "object.__class__"))
 be:PySem.W.subIn K (.ref y) (.type "BaseException")=some true
 ve:PySem.W.subIn K (.ref y) (.type "ValueError")=some true
 se:PySem.W.subIn K (.ref y) (.ref y)=some true
theorem xin_mk{y fI:Addr}{dd:Option Addr}{sl:Array (Option Value)}{cd:ClassData}(xi:PySem.W.findIn K (.ref y) "__init__"=some (some (.ref fI)))(xf:PySem.W.isFn K (.ref fI)=true)(lk:K.lookup y=some ⟨.type "type",dd,.cls cd,sl⟩)(xb:xcB y cd sl=true)(kp:qAj K (.ref y)=true)
  (sa:PySem.W.findIn K (.ref y) "__setattr__"=some (some (.builtin "object.__setattr__")))(at_:PySem.W.findIn K (.ref y) "at"=some none)(ga:PySem.W.findIn K (.ref y) "__getattribute__"=some (some (.builtin "BaseException.__getattribute__")))(gh:PySem.W.findIn K (.ref y) "__getattr__"=some none)
  (cl:PySem.W.findIn K (.ref y) "__class__"=some (some (.builtin "object.__class__")))(be:PySem.W.subIn K (.ref y) (.type "BaseException")=some true)(ve:PySem.W.subIn K (.ref y) (.type "ValueError")=some true)(se:PySem.W.subIn K (.ref y) (.ref y)=some true):XIn K y fI:=
 ⟨⟨(zavu lk xb).1,(zavu lk xb).2,xi,xf,kp,sa,at_,ga,gh⟩,cl,be,ve,se⟩
theorem init_mk{qual:Str}{oc:Value}{od an:Option Addr}{osl:Array (Option Value)}{kV doc pm cdv ct:Value}(l:K.lookup f=some ⟨oc,od,.func (qAS x qual (zep st) (zcy st) (zaj st) .none kV doc pm an cdv ct),osl⟩)
  (c:qBc K cdv qual=true) (k:qAj K (.ref f)=true):Fun K x qual st f (qAS x qual (zep st) (zcy st) (zaj st) .none kV doc pm an cdv ct):=zaoc l c k
noncomputable def sCut:SF:=λ_=>none
noncomputable def tCut:TS:=λ_ _ _=>False
theorem zir{X:Cx}{b:List Stmt}:Bx (PSs X b tCut):=⟨λ_ _ _ _ _ _ h=>h.elim⟩
theorem zqw:SS tCut sCut:=by intro fx H0 env σ H D h o e;cases e
universe u9
end
theorem zaez{K:qB}{C:Value}:PySem.W.kitAny K C []=some false:=by unfold PySem.W.kitAny;rfl
theorem zgr{K:qB}{C c:Value}{l:List Value}{b1 b2:Bool}(h1:PySem.W.kitOne K C c=some b1)(h2:PySem.W.kitAny K C l=some b2):PySem.W.kitAny K C (c::l)=some (b1||b2):=by
 unfold PySem.W.kitAny
 rw[h1]
 cases b1 with
 | true=>rfl
 | false=>exact h2
theorem zamz{j:Nat}{C:Addr}{d:PyData}{K:qB}{c1 c2 c3 c4 c5:Addr}{b:Bool}(hk:PySem.W.kitAny K (.ref C) [.ref c1,.ref c2,.ref c3,.ref c4,.ref c5]=some b):SEe j C d (tCB (rIsX K C) (tCons (tVar j) (tCons (tTup (tCons (tC (.ref c1)) (tCons (tC (.ref c2)) (tCons (tC (.ref c3)) (tCons (tC (.ref c4)) (tCons (tC (.ref c5)) tNil)))))) tNil))) (eC (.bool b)):=by
 intro fx H0 env σ H e dx h hj he r hr Q q
 cases hr
 obtain⟨tv,he1⟩:=he.ex
 refine⟨_,hj,by show 5<=_;exact zfs (by decide),λp hp=>?_⟩
 have sn:Same H (upd H p (.tup [.ref c1,.ref c2,.ref c3,.ref c4,.ref c5])):=Same.new hp
 refine⟨e,dx,tv,b,sn _ _ he1,q _ _ sn ⟨zar,λz=>by cases z⟩,.inr (.inr ⟨p,_,[.ref c1,.ref c2,.ref c3,.ref c4,.ref c5],rfl,zam,λits v=>?_,hk⟩)⟩
 match its,v with
 | [_,_,_,_,_],.cons r1 (.cons r2 (.cons r3 (.cons r4 (.cons r5 .nil))))=>cases r1;cases r2;cases r3;cases r4;cases r5;rfl
noncomputable def zfc(st:Stmt)(k:Nat):Expr:=match(zcy st)[k]? with
 | some (.Assign _ (.List [.Tuple [_,e] _ _] _) _)=>e
 | some (.Expr (.Call _ [.Tuple [_,e] _ _] _ _) _)=>e
 | _=>default
noncomputable def mkR(st:Stmt)(k:Nat)(NB:List Str)(js:List Nat)(tb:Hp->XK->TE):LamI:=⟨(zfb (zfc st k)).1,(zfb (zfc st k)).2.1,(zfb (zfc st k)).2.2,NB,js,tb⟩
theorem zana{P:Program}{w:World}{K:qB}{mg:Str->Option Value}{base:Heap}{q:Str}{j:Nat}:∀L∈([]:List LamI),LamR P w K mg base q j L:=λ_ h=>nomatch h
theorem zbf{P:Program}{w:World}{K:qB}{mg:Str->Option Value}{base:Heap}{q:Str}{j:Nat}{L0:LamI}{Ls:List LamI}(h:LamR P w K mg base q j L0)(hs:∀L∈Ls,LamR P w K mg base q j L):∀L∈L0::Ls,LamR P w K mg base q j L:=λL m=>(qY.mp m).elim (λe=>e▸h) (hs L)
theorem zck{X:Cx}{L:LamI}(h:LamR X.prog X.w X.K X.mg X.base (lamQ X) j L)(hd:defaultsOf L.params X.env=([],[]))(hf:frB L.scope X.env.scope=true)(hj:L.js.map (λi=>X.N[i]?)=L.NB.map some):LamOk X j L:=⟨h.S,hd,h.bind,hf,hj,h.hB⟩
theorem zasd:∀(i:Nat) td e,([]:List TE)[i]?=some td->([]:List EF)[i]?=some e->SE td e:=λi td e h=>by cases h
theorem zbx(h:SE t0 e0)(hs:∀(i:Nat) td e,ts[i]?=some td->es[i]?=some e->SE td e):∀(i:Nat) td e,(t0::ts)[i]?=some td->(e0::es)[i]?=some e->SE td e
 | 0,td,e,a,b=>by cases a;cases b;exact h
 | i+1,td,e,a,b=>hs i td e a b
theorem zajh:∀L∈([]:List LamI),∀j∈L.js,j<n:=λ_ h=>nomatch h
theorem zat{L0:LamI}(h:∀j∈L0.js,j<n)(hs:∀L∈Ls,∀j∈L.js,j<n):∀L∈L0::Ls,∀j∈L.js,j<n:=λL m=>(qY.mp m).elim (λe=>e▸h) (hs L)
open PySem
end L2
namespace Bc
open PySem L2
noncomputable def zid:SF:=(sRet (zgo ["name","elders"] [] (zbv (eVar 0)) (gT 2 (zej 0 (zej 1 zqh))) zml (eVar 0)))
noncomputable def zda:GF:=fnD 1 zid
noncomputable def zet:SF:=(sSeq (sSet 2 (zbj 1 zda (zaa (eVar 0) aNil)))
  (sFor (zbv (eVar 1)) (gN 3)
  (sIf (zbc (eOp (inD true) (eVar 3) (eVar 2))) zahp sNil)))
noncomputable def zbg:GF:=fnD 4 zet
noncomputable def ztt:SF:=(sSeq (sSet 1 zaqq)
  (sSeq (sFor (zbv (eVar 0)) (gT 2 (zej 2 (zej 3 zqh)))
  (sSeq (sSet 4 (eD1 (eVar 2) (eC (.bool true))))
  (sSeq (sFor (zbv (eVar 3)) (gN 5)
  (sUpd 4 (zco 1 (eVar 5))))
  (sPut 1 (eVar 2) (eVar 4)))))
  (zqg 1)))
noncomputable def zdb:GF:=fnD 6 ztt
noncomputable def zaou:SF:=(sSeq (zlr (zbj 2 zbg (zaa (eVar 0) (zaa (eLst (zaa (eVar 1) (zaa (eVar 2) aNil))) aNil))))
  (sSeq (sSet 3 (zbj 1 zdb (zaa (eVar 0) aNil)))
  (sSeq (sIf (zbc (eDIn true (eVar 2) (zco 3 (eVar 1)))) (sRet (eC .none)) sNil)
  (sSeq (sSet 4 (eCB zny (zaa (eVar 0) aNil)))
  (sSeq (sSet 5 (eLst (zaa (eVar 1) aNil)))
  (sSeq (zka (zbc (eOp neD (eIxV 5 (eNeg (eC (.int 1)))) (eVar 2))) (sSeq (sSet 6 (zgo ["elder"] [2,3] (zbv (zco 4 (eIxV 5 (eNeg (eC (.int 1)))))) (gN 0) (zbc (eDIn false (eVar 1) (zco 2 (eVar 0)))) (eVar 0)))
  (sApp 5 (eIxV 6 (eC (.int 0))))) 1000)
  (zqg 5)))))))
noncomputable def zmr:GF:=fnD 7 zaou
noncomputable def zyo:SF:=(sSeq (zlr (zbj 2 zbg (zaa (eVar 0) (zaa (eLst (zaa (eVar 1) (zaa (eVar 2) aNil))) aNil))))
  (sSeq (sIf (tOrF (zjx (tTru (eIsi "list" (eVar 3)))) (zjx (tTru (eVar 3)))) (sRet (eC (.bool false))) sNil)
  (sSeq (sIf (tOrF (zbc (eOp neD (eIxV 3 (eC (.int 0))) (eVar 1))) (zbc (eOp neD (eIxV 3 (eNeg (eC (.int 1)))) (eVar 2)))) (sRet (eC (.bool false))) sNil)
  (sSeq (sSet 4 (eCB zny (zaa (eVar 0) aNil)))
  (sSeq (sFor (znw (zaa (eC (.int 1)) (zaa (eCB lenD (zaa (eVar 3) aNil)) aNil))) (gN 5)
  (sIf (zbc (eOp (inD true) (eIxV 3 (eVar 5)) (zco 4 (eIxV 3 (eOp subD (eVar 5) (eC (.int 1))))))) (sRet (eC (.bool false))) sNil))
  (sRet (eC (.bool true))))))))
noncomputable def zkh:GF:=fnD 6 zyo
noncomputable def zqx:SF:=(sSeq (sSet 2 (eC (.str "abcdefghijklmnopqrstuvwxyz")))
  (sSeq (sSet 3 (eOp ixD (eTup (zaa (eC (.int 1)) (zaa (eC (.int 3)) (zaa (eC (.int 5)) (zaa (eC (.int 7)) (zaa (eC (.int 9)) (zaa (eC (.int 11)) (zaa (eC (.int 15)) (zaa (eC (.int 17)) aNil))))))))) (eOp modD (eOp zeo (eVar 1) (eC (.int 3))) (eC (.int 8)))))
  (sSeq (sSet 4 (eOp modD (eOp zeo (eVar 1) (eC (.int 24))) (eC (.int 26))))
  (sSeq (sSet 5 (eOp mulD (eIxV 2 (eOp modD (eOp zeo (eVar 1) (eC (.int 624))) (eC (.int 26)))) (eOp modD (eOp zeo (eVar 1) (eC (.int 16224))) (eC (.int 8)))))
  (sSeq (sSet 6 (eOp modD (eOp zeo (eVar 1) (eC (.int 129792))) (eOp addD (eCB lenD (zaa (eVar 5) aNil)) (eC (.int 1)))))
  (sSeq (sSet 7 (eLst aNil))
  (sSeq (sFor (zgn (zaa (eVar 0) aNil)) (gN 8)
  (sSeq (sSet 9 (eIxV 2 (eOp modD (eOp addD (eVar 4) (eOp mulD (eVar 3) (eVar 8))) (eC (.int 26)))))
  (sIf (zbc (eOp eqD (eOp modD (eVar 1) (eC (.int 3))) (eC (.int 0)))) (sApp 7 (eOp addD (eOp addD (eSl (eVar 5) zlp (zfz (eVar 6))) (eVar 9)) (eSl (eVar 5) (zfz (eVar 6)) zlp))) (sIf (zbc (eOp eqD (eOp modD (eVar 1) (eC (.int 3))) (eC (.int 1)))) (sApp 7 (eOp addD (eSl (eVar 5) zlp (zfz (eOp modD (eOp mulD (eVar 8) (eVar 3)) (eOp addD (eCB lenD (zaa (eVar 5) aNil)) (eC (.int 1)))))) (eVar 9))) (sApp 7 (eOp mulD (eIxV 2 (eOp modD (eOp addD (eVar 4) (eOp zeo (eVar 8) (eC (.int 8)))) (eC (.int 26)))) (eOp addD (eC (.int 1)) (eOp modD (eOp mulD (eVar 8) (eVar 3)) (eC (.int 8))))))))))
  (zqg 7))))))))
noncomputable def zfd:GF:=fnD 10 zqx
noncomputable def zyp:SF:=(sSeq (sSet 2 (eLst aNil))
  (sSeq (sFor (zadg (zaa (eVar 1) aNil)) (gT 2 (zej 3 (zej 4 zqh)))
  (sSeq (sSet 5 (eSl (eVar 1) zlp (zfz (eVar 3))))
  (sSeq (sSet 6 (eOp zeo (eIxV 0 (eVar 3)) (eC (.int 5))))
  (sSeq (sSet 7 (eLst aNil))
  (sSeq (sFor (zgn (zaa (eCB minD (zaa (eOp modD (eIxV 0 (eVar 3)) (eC (.int 5))) (zaa (eVar 3) aNil))) aNil)) (gN 8)
  (sSeq (sSet 9 (eOp modD (eVar 6) (eCB lenD (zaa (eVar 5) aNil))))
  (sSeq (sSet 6 (eOp zeo (eVar 6) (eCB lenD (zaa (eVar 5) aNil))))
  (zgp 7 5 (eVar 9)))))
  (sApp 2 (eTup (zaa (eVar 4) (zaa (eVar 7) aNil)))))))))
  (zqg 2)))
noncomputable def zie:GF:=fnD 10 zyp
theorem zek{enc out:α->PyData}(p:α->Bool):∀{l:List α},(∀x∈l,∃e1,g (enc x) env=some e1/\t e1=some (p x)/\(p x=true->∃r,e e1=some r/\r.d=out x))->
  zew g t e env (l.map enc)=some ((l.filter p).map out)
 | [],_=>rfl
 | x::l,h=>by
  obtain⟨e1,h1,h2,h3⟩:=h x qp
  have ih:=zek (l:=l) p λy hy=>h y (qN _ hy)
  rw[qh]
  unfold zew
  rw[h1,qD,h2,qD]
  cases hp:p x with
  | false=>
   rw[if_neg qP,ih,qCN,hp];rfl
  | true=>
   obtain⟨r,h4,h5⟩:=h3 hp
   rw[if_pos rfl,h4,qD,ih,qCN,hp]
   simp[h5]
theorem zms{enc out:α->PyData}{l:List α}(h:∀x∈l,∃e1,g (enc x) env=some e1/\t e1=some true/\∃r,e e1=some r/\r.d=out x):zew g t e env (l.map enc)=some (l.map out):=by
 have q:=zek (enc:=enc) (out:=out) (g:=g) (t:=t) (e:=e) (env:=env) (λ_=>true) (l:=l) λx hx=>let⟨e1,h1,h2,h3⟩:=h x hx;⟨e1,h1,h2,λ_=>h3⟩
 rw[q]
 congr 2
 exact List.filter_eq_self.mpr λ_ _=>rfl
theorem zado{enc:α->PyData}(I:List α->DEnv->Prop)(all:List α):∀(l pre:List α)(env:DEnv),pre++l=all->I pre env->
  (∀pre x post env,pre++x::post=all->I pre env->∃e1 e2,g (enc x) env=some e1/\(body e1=some (.nx e2)\/body e1=some (.ct e2))/\I (pre++[x]) e2)->∃env',forL g body (l.map enc) env=some (.nx env')/\I all env'
 | [],pre,env,hall,h0,hs=>by
  rw[q9]at hall
  subst hall
  exact⟨env,rfl,h0⟩
 | x::l,pre,env,hall,h0,hs=>by
  obtain⟨e1,e2,h1,h2,h3⟩:=hs pre x l env hall h0
  obtain⟨env',h4,h5⟩:=zado I all l (pre++[x]) e2 (by rw[<- hall];simp) h3 hs
  refine⟨env',?_,h5⟩
  rw[qh]
  unfold forL
  rw[h1,qD]
  rcases h2 with h2|h2<;>rw[h2,qD]<;>exact h4
theorem zmt{enc:α->PyData}{l:List α}(I:List α->DEnv->Prop)(h0:I [] env)(hs:∀pre x post env,pre++x::post=l->I pre env->∃e1 e2,g (enc x) env=some e1/\(body e1=some (.nx e2)\/body e1=some (.ct e2))/\I (pre++[x]) e2) :
  ∃env',forL g body (l.map enc) env=some (.nx env')/\I l env':=zado I l l [] env rfl h0 hs
noncomputable def zgv(cs:List Int):PyData:=.list (cs.map .int)
theorem zadp:∀(cs:List Int),Rps H (cs.map .int) (cs.map .int)
 | []=>zeb
 | c::cs=>zcx zai (zadp cs)
noncomputable def envL(n:Nat)(cs:List Int):DEnv:=.no::.pl (zgv cs)::List.replicate n .no
theorem zase{cs:List Int}(e:H1 pc=some (.lst (cs.map .int))):EnvOk (λ_=>False) H1 (envL n cs) (some (.ref a)::some (.ref pc)::List.replicate n none) H1:=by
 have no:∀(i:Nat)(d:PyData),(envL n cs)[i]?≠some (Sl.ac d):=λi d=>by
  unfold envL
  cases i with
  | zero=>simp
  | succ i=>cases i with
   | zero=>simp
   | succ i=>simp[qAF]
 refine⟨by unfold envL;simp,λi d h=>?_,λi d h=>absurd h (no i d),λi j d e a h=>absurd h (no i d),Same.refl _,λb z=>z.elim⟩
 unfold envL at h
 cases i with
 | zero=>simp at h
 | succ i=>cases i with
  | zero=>
   simp at h
   subst h
   refine⟨.ref pc,rfl,zhz ?_ (zadp cs)⟩
   rw[Offs.get]
   ·exact e
   ·rintro(z|⟨j,d',z,_⟩)
    ·exact z
    ·exact no j d' z
  | succ i=>simp[qAF]at h
theorem zaq(h:f env=some (.nx e1))(k:g e1=o):sSeq f g env=o:=by unfold sSeq;rw[h];exact k
theorem zyq(h:f env=some (.rt d fr)):sSeq f g env=some (.rt d fr):=by unfold sSeq;rw[h];rfl
theorem for_list(h:f env=some ⟨.list ds,fr,bs⟩)(k:forL g b ds (frzs env bs)=o):sFor (zbv f) g b env=o:=by
 unfold sFor zbv;rw[h];exact k
theorem zyr(h:f env=some (ds,bs))(k:forL g b ds (frzs env bs)=o):sFor f g b env=o:=by
 unfold sFor;rw[h];exact k
theorem if_t(h:c env=some true)(k:f env=o):sIf c f g env=o:=by unfold sIf;rw[h];exact k
theorem if_f(h:c env=some false)(k:g env=o):sIf c f g env=o:=by unfold sIf;rw[h];exact k
theorem zcf(h:f env=some r):sSet i f env=some (.nx (putV env i r)):=by unfold sSet;rw[h];rfl
theorem zvs(h:f env=some r):zlr f env=some (.nx env):=by unfold zlr;rw[h];rfl
theorem ztu(h:f env=some ⟨d,fr,bs⟩):sRet f env=some (.rt d fr):=by unfold sRet;rw[h];rfl
theorem zby{rs:List Val}(h:f env=some rs)(hn:rs.length=n)(k:g (zfn rs)=some (d,fr)):zbj n g f env=some ⟨d,fr,bsOf d (bss rs)⟩:=by
 unfold zbj;rw[h,qD,if_pos hn,k];rfl
theorem zob{own:List Str}{fr:List Nat}{fi:IF'}{g:GT}{t:TF}{e:EF}{env:DEnv}{ds:List PyData}{bs:List Nat}{rs:List PyData}(h:fi env=some (ds,bs))(hl:ds.length<100000)(k:zew g t e (envB own fr env) ds=some rs) :
  zgo own fr fi g t e env=some ⟨.list rs,true,if zex rs=true then[]else bs++capA fr env⟩:=by
 unfold zgo;rw[h,qD,if_pos hl,k];rfl
theorem zjn(h:zcn n ds=env)(e:f env=some (.rt d fr)):fnD n f ds=some (d,fr):=by
 unfold fnD;rw[h,e]
noncomputable def zae(xs:List Str):PyData:=.list (xs.map .str)
noncomputable def rowD(p:Str×List Str):PyData:=.tuple [.str p.1,zae p.2]
noncomputable def webD(W:Web):PyData:=.list (W.map rowD)
theorem zoc(xs:List Str):zex (xs.map .str)=true:=by
 unfold zex
 rw[qC6]
 exact qAO.mpr λ_ _=>rfl
theorem zanb(xs:List Str)(x:Str):((xs.map PyData.str).any λe=>qAx e (.str x))=decide (x∈xs):=by
 rw[qC5,qAs,qCP,decide_eq_true_iff]
 constructor
 ·rintro⟨y,hy,h⟩
  have:y=x:=by simpa [qAx]using h
  rw[<- this];exact hy
 ·exact λh=>⟨x,h,by simp[qAx]⟩
theorem zabk(b:Bool)(xs:List Str)(x:Str):inD b (.str x) (zae xs)=some (.bool (if b then !decide (x∈xs)else decide (x∈xs)),false):=by
 unfold inD zae
 simp only[zld]
 rw[if_pos ⟨rfl,zoc xs⟩,zanb]
theorem zif{W:Web}(hl:W.length<100000):zda [webD W]=some (zae (nm W),true):=by
 have c:zew (gT 2 (zej 0 (zej 1 zqh))) zml (eVar 0) [.no,.no] (W.map rowD)=some (W.map λp=>PyData.str p.1):=zms λp _=>⟨[.pl (.str p.1),.pl (zae p.2)],rfl,rfl,⟨.str p.1,false,[]⟩,rfl,rfl⟩
 have e:zid [.pl (webD W)]=some (.rt (zae (nm W)) true):=by
  unfold zid sRet zgo zbv
  simp only[eVar,qAG,qD,webD,zld,qAd,qC]
  rw[if_pos hl]
  show Option.map _ (Option.map _ (zew _ _ _ [.no,.no] _))=_
  rw[c]
  unfold zae nm
  simp
 show(match zid [.pl (webD W)]with|some (.rt d fr)=>some (d,fr)|some (.nx _)=>some (.none,false)|_=>none)=_
 rw[e]
theorem zgc{W:Web}(hl:W.length<100000)(h:∀n∈ns,n∈nm W):zbg [webD W,zae ns]=some (.none,false):=by
 have l:∃env',forL (gN 3) (sIf (zbc (eOp (inD true) (eVar 3) (eVar 2))) zahp sNil) (ns.map .str) [.pl (webD W),.pl (zae ns),.ac (zae (nm W)),.no]=some (.nx env')/\True:=by
  refine zmt (λ_ env=>∃s,env=[.pl (webD W),.pl (zae ns),.ac (zae (nm W)),s]) ⟨_,rfl⟩ ?_ |>.imp λ_ q=>⟨q.1,trivial⟩
  rintro pre x post env hx ⟨s,rfl⟩
  have hm:=h x (by rw[<- hx];simp)
  refine⟨_,[.pl (webD W),.pl (zae ns),.ac (zae (nm W)),.pl (.str x)],rfl,.inl ?_,_,rfl⟩
  simp[sIf,zbc,eOp,eVar,sNil,zabk,hm,bsOf,zev]
 obtain⟨env',l,_⟩:=l
 have e:zet [.pl (webD W),.pl (zae ns),.no,.no]=some (.nx env'):=by
  unfold zet sSeq sSet zbj sFor zbv
  simp only[zaa,aNil,eVar,qAG,qAP,qD,qAd,zfn,qh,qBz,qz,qA2,zif hl,if_true]
  simp[putV,frzs,bsOf,zae,zev,bss,slOf,zld]
  exact l
 show(match zet [.pl (webD W),.pl (zae ns),.no,.no]with|some (.rt d fr)=>some (d,fr)|some (.nx _)=>some (.none,false)|_=>none)=_
 rw[e]
noncomputable def insS(ks:List Str)(k:Str):List Str:=if k∈ks then ks else ks++[k]
noncomputable def upL(acc:List (Str×List Str))(e:Str):List Str:=(acc.lookup e).getD []
noncomputable def zki(acc:List (Str×List Str))(p:Str×List Str):List (Str×List Str):=acc++[(p.1,p.2.foldl (λks e=>(upL acc e).foldl insS ks) [p.1])]
noncomputable def ups(W:Web):List (Str×List Str):=W.foldl zki []
noncomputable def up(W:Web)(n:Str):List Str:=upL (ups W) n
theorem zky(W:Web)(p:Str×List Str):ups (W++[p])=zki (ups W) p:=by unfold ups;rw[qCG];rfl
theorem zanc:x∈insS ks k↔x∈ks\/x=k:=by
 unfold insS
 split
 ·rename_i h
  exact⟨.inl,λz=>z.elim id λe=>e▸h⟩
 ·simp
theorem zqy:∀{ms ks:List Str},x∈ms.foldl insS ks↔x∈ks\/x∈ms
 | [],ks=>by simp
 | m::ms,ks=>by
  rw[qB0,zqy,zanc]
  simp[or_assoc]
theorem zasf{ks:List Str}(h:ks.Nodup):(insS ks k).Nodup:=by
 unfold insS
 split
 ·exact h
 ·rename_i hk;exact zaam h hk
theorem zadq:∀{ms ks:List Str},ks.Nodup->(ms.foldl insS ks).Nodup
 | [],_,h=>h
 | _::ms,_,h=>zadq (ms:=ms) (zasf h)
theorem zvt:∀{es ks:List Str},x∈es.foldl (λks e=>(upL acc e).foldl insS ks) ks↔x∈ks\/∃e∈es,x∈upL acc e
 | [],ks=>by simp
 | e::es,ks=>by
  rw[qB0,zvt,zqy]
  simp[or_assoc]
theorem zaji:∀{es ks:List Str},ks.Nodup->(es.foldl (λks e=>(upL acc e).foldl insS ks) ks).Nodup
 | [],_,h=>h
 | _::es,_,h=>zaji (es:=es) (zadq h)
theorem zdi{l:List (Str×List Str)}{p:Str×List Str}:(l++[p]).lookup n=(l.lookup n).or (if n==p.1 then some p.2 else none):=by
 induction l with
 | nil=>
  obtain⟨a,b⟩:=p
  show List.lookup n [(a,b)]=_
  rw[qt]
  cases n==a<;>rfl
 | cons q l ih=>
  obtain⟨a,b⟩:=q
  rw[qCO,qt,qt]
  cases n==a with
  | true=>rfl
  | false=>exact ih
theorem zod{P:List α->Prop}(h0:P [])(hs:∀l x,P l->P (l++[x])):∀l,P l:=by
 intro l
 have:∀n (l:List α),l.length=n->P l:=by
  intro n
  induction n with
  | zero=>intro l e;rw[qBq.mp e];exact h0
  | succ n ih=>
   intro l e
   have hne:l≠[]:=λz=>by rw[z]at e;cases e
   rw[<- qCS hne]
   exact hs _ _ (ih _ (by rw[List.length_dropLast,e];rfl))
 exact this _ l rfl
theorem zis:∀(W:Web),(ups W).map (·.1)=nm W:=by
 refine zod rfl λW p ih=>?_
 rw[zky]
 unfold zki nm
 rw[qAN,qAN,ih]
 rfl
theorem zfu(W:Web)(p:Str×List Str):nm (W++[p])=nm W++[p.1]:=by unfold nm;rw[qAN];rfl
theorem zig{p:Str×List Str}(h:WebOk (W++[p])):WebOk W/\p.1∉nm W/\(∀e∈p.2,e∈nm W)/\p.2.length<=4:=by
 have hp:(W++[p])[W.length]?=some p:=by simp
 refine⟨⟨?_,λi n es e=>?_,λq hq=>h.few q (qy _ hq),?_⟩,?_,λe he=>?_,h.few p (by simp)⟩
 ·have:=h.nd;rw[zfu]at this;exact(qAY.mp this).1
 ·have hi:i<W.length:=(qM.mp e).1
  have q:=h.el i n es (by rw[qm hi];exact e)
  rw[qAi (by omega)]at q
  exact q
 ·have:=h.len;simp at this;omega
 ·have:=h.nd
  rw[zfu]at this
  intro hm
  exact(qAY.mp this).2.2 p.1 hm p.1 (by simp) rfl
 ·have q:=h.el W.length p.1 p.2 hp e he
  rw[qAi (qQ _),qCL]at q
  exact q
theorem zfe{l:List (Str×List Str)}(h:n∈l.map (·.1)):∃ks,l.lookup n=some ks/\(n,ks)∈l:=by
 induction l with
 | nil=>simp at h
 | cons q l ih=>
  obtain⟨a,b⟩:=q
  rw[qt]
  cases e:n==a with
  | true=>rw[eq_of_beq e];exact⟨b,rfl,qp⟩
  | false=>
   have hn:n≠a:=beq_eq_false_iff_ne.mp e
   rcases qY.mp h with z|z
   ·exact absurd z hn
   ·obtain⟨ks,h1,h2⟩:=ih z
    exact⟨ks,h1,qN _ h2⟩
theorem zkj(h:m∈nm W):up (W++[p]) m=up W m:=by
 unfold up upL
 rw[zky]
 unfold zki
 obtain⟨ks,e,_⟩:=zfe (l:=ups W) (n:=m) (by rw[zis];exact h)
 rw[zdi,e]
 rfl
theorem zit{l:List (Str×List Str)}(h:n∉l.map (·.1)):l.lookup n=none:=by
 induction l with
 | nil=>rfl
 | cons q l ih=>
  obtain⟨a,b⟩:=q
  rw[qt]
  have h1:n≠a:=λz=>h (by simp[z])
  rw[beq_eq_false_iff_ne.mpr h1]
  exact ih λz=>h (qN _ z)
theorem zaov{p:Str×List Str}(h:p.1∉nm W):up (W++[p]) p.1=p.2.foldl (λks e=>(upL (ups W) e).foldl insS ks) [p.1]:=by
 unfold up upL
 rw[zky]
 unfold zki
 rw[zdi,zit (by rw[zis];exact h)]
 simp[upL]
theorem zawg(h:(n,es)∈W):n∈nm W:=qA1.mpr ⟨_,h,rfl⟩
theorem zmu(h:WebOk W)(hm:(n,es)∈W):∀e∈es,e∈nm W:=λe he=>by
 obtain⟨i,hi,e'⟩:=qB9 hm
 have q:=h.el i n es (by rw[qK hi,e']) e he
 obtain⟨p,h1,h2⟩:=qA1.mp q
 exact qA1.mpr ⟨p,qB3 h1,h2⟩
theorem zys:∀{W:Web},WebOk W->∀{n:Str}{es:List Str},(n,es)∈W->(x∈up W n↔x=n\/∃e∈es,x∈up W e):=by
 intro W
 refine zod (P:=λW=>WebOk W->∀{n:Str}{es:List Str},(n,es)∈W->(x∈up W n↔x=n\/∃e∈es,x∈up W e)) (λ_ n es h=>nomatch h) (λW p ih h n es hm=>?_) W
 obtain⟨hW,hp,hel,_⟩:=zig h
 rcases qAf.mp hm with hm|hm
 ·rw[zkj (zawg hm),ih hW hm]
  have:(∃e∈es,x∈up W e)↔∃e∈es,x∈up (W++[p]) e:=by
   constructor
   ·rintro⟨e,he,hx⟩;exact⟨e,he,by rw[zkj (zmu hW hm e he)];exact hx⟩
   ·rintro⟨e,he,hx⟩;exact⟨e,he,by rw[zkj (zmu hW hm e he)]at hx;exact hx⟩
  rw[this]
 ·have e:(n,es)=p:=by simpa using hm
  subst e
  rw[zaov hp,zvt]
  have:(∃e∈es,x∈upL (ups W) e)↔∃e∈es,x∈up (W++[(n,es)]) e:=by
   constructor
   ·rintro⟨e,he,hx⟩;exact⟨e,he,by rw[zkj (hel e he)];exact hx⟩
   ·rintro⟨e,he,hx⟩;exact⟨e,he,by rw[zkj (hel e he)]at hx;exact hx⟩
  rw[this]
  simp
theorem zvu(h:WebOk W)(hn:n∈nm W):n∈up W n:=by
 obtain⟨⟨m,es⟩,h1,h2⟩:=qA1.mp hn
 cases h2
 exact(zys h h1).mpr (.inl rfl)
theorem zyt:∀{W:Web},WebOk W->∀{n x:Str},x∈up W n->x∈nm W:=by
 intro W
 refine zod (P:=λW=>WebOk W->∀{n x:Str},x∈up W n->x∈nm W) (λ_ n x h=>by simp[up,ups,upL]at h) (λW p ih h n x hx=>?_) W
 obtain⟨hW,hp,hel,_⟩:=zig h
 rw[zfu]
 by_cases hn:n∈nm W
 ·rw[zkj hn]at hx
  exact qy _ (ih hW hx)
 ·by_cases e:n=p.1
  ·rw[e,zaov hp,zvt]at hx
   rcases hx with hx|⟨e',_,hx⟩
   ·exact qe _ (by simpa using hx)
   ·exact qy _ (ih hW hx)
  ·unfold up upL at hx
   rw[zky]at hx
   unfold zki at hx
   rw[zdi,zit (by rw[zis];exact hn),beq_eq_false_iff_ne.mpr e]at hx
   simp at hx
theorem zaya:∀{W:Web}{n:Str},(up W n).Nodup:=by
 intro W
 refine zod (P:=λW=>∀{n:Str},(up W n).Nodup) (λ{n}=>by simp[up,ups,upL]) (λW p ih n=>?_) W
 unfold up upL
 rw[zky]
 unfold zki
 rw[zdi]
 cases e:(ups W).lookup n with
 | some ks=>
  have q:=ih (n:=n)
  unfold up upL at q
  rw[e]at q
  exact q
 | none=>
  show((if n==p.1 then some _ else none).getD []).Nodup
  split
  ·exact zaji (by simp)
  ·exact List.nodup_nil
theorem zaow(h:WebOk W)(n:Str):(up W n).length<=12:=by
 have:=zpw _ (nm W) (zaya (W:=W) (n:=n)) λx hx=>zyt h hx
 have:=zxl h
 omega
noncomputable def dS(f:List Str->PyData)(l:List (Str×List Str)):List (PyData×PyData):=l.map λp=>(.str p.1,f p.2)
theorem zhi(f:List Str->PyData)(n:Str):∀l:List (Str×List Str),zln (dS f l) (Sum.inr n)=(l.lookup n).map f
 | []=>rfl
 | (a,b)::l=>by
  have ih:=zhi f n l
  show(if keyD (.str a)=some (Sum.inr n)then some (f b)else zln (dS f l) (Sum.inr n))=_
  rw[qt]
  by_cases e:a=n
  ·subst e;rw[if_pos (show keyD (.str a)=some (Sum.inr a)from rfl),beq_self_eq_true];rfl
  ·rw[if_neg (show ¬keyD (.str a)=some (Sum.inr n)from λz=>e (qB2 (qa z))),beq_eq_false_iff_ne.mpr (qAk e)]
   exact ih
theorem zajj(f:List Str->PyData){l:List (Str×List Str)}(h:n∉l.map (·.1)):zse (dS f l) (.str n) (f ks)=dS f (l++[(n,ks)]):=by
 unfold zse dS
 rw[if_neg,qAN]
 ·rfl
 ·intro z
  rw[qC5,qCP]at z
  obtain⟨p,hp,e⟩:=z
  have e:=of_decide_eq_true e
  exact h (qA1.mpr ⟨p,hp,qB2 (qa e)⟩)
noncomputable def zgw(ks:List Str):List (PyData×PyData):=ks.map λk=>(.str k,.bool true)
noncomputable def zbi(ks:List Str):PyData:=.dict (zgw ks)
theorem zyu(x:Str):∀ks:List Str,zaaw (zgw ks) (Sum.inr x)=decide (x∈ks)
 | []=>by simp[zgw,zaaw,zln]
 | k::ks=>by
  have ih:=zyu x ks
  unfold zaaw at ih ⊢
  show(if keyD (.str k)=some (Sum.inr x)then some (PyData.bool true)else zln (zgw ks) (Sum.inr x)).isSome=_
  by_cases e:k=x
  ·subst e;rw[if_pos (show keyD (.str k)=some (Sum.inr k)from rfl)];simp
  ·rw[if_neg (show ¬keyD (.str k)=some (Sum.inr x)from λz=>e (qB2 (qa z))),ih]
   have:¬x=k:=λz=>e z.symm
   simp[this]
theorem zajk(ks:List Str)(k:Str):zse (zgw ks) (.str k) (.bool true)=zgw (insS ks k):=by
 have ha:((zgw ks).any λkv=>decide (keyD kv.1=keyD (.str k)))=decide (k∈ks):=by
  unfold zgw
  rw[qC5,qAs,qCP,decide_eq_true_iff]
  constructor
  ·rintro⟨y,hy,h⟩
   have h:=of_decide_eq_true h
   have:y=k:=qB2 (qa h)
   rw[<- this];exact hy
  ·exact λh=>⟨k,h,decide_eq_true rfl⟩
 unfold zse insS
 rw[ha]
 by_cases hk:k∈ks
 ·rw[if_pos (decide_eq_true hk),if_pos hk]
  unfold zgw
  rw[qC4]
  refine qB8 λy _=>?_
  show(if keyD (PyData.str y)=keyD (.str k)then(PyData.str y,PyData.bool true)else(PyData.str y,PyData.bool true))=_
  split<;>rfl
 ·rw[if_neg (by simpa using hk),if_neg hk]
  unfold zgw
  rw[qAN];rfl
theorem zlv:∀(ms ks:List Str),zhg (zgw ks) (zgw ms)=zgw (ms.foldl insS ks)
 | [],_=>rfl
 | m::ms,ks=>by
  show zhg (zse (zgw ks) (.str m) (.bool true)) (zgw ms)=_
  rw[zajk,zlv ms];rfl
theorem zand(h:pre++x::post=l):l=(pre++[x])++post:=by rw[<- h];simp
theorem zajl:∀{post W:Web},WebOk (W++post)->WebOk W:=by
 intro post
 refine zod (P:=λpost=>∀{W:Web},WebOk (W++post)->WebOk W) (λ{W} h=>by rwa [q9]at h) (λpost p ih W h=>?_) post
 rw[<- qBM]at h
 exact ih (zig h).1
theorem zkz(h:WebOk W):zdb [webD W]=some (.dict (dS zbi (ups W)),true):=by
 have inner:∀(V:Web)(p:Str×List Str)(es pre:List Str)(s5:Sl),WebOk (V++[p])->pre++es=p.2->
   ∃s5',forL (gN 5) (sUpd 4 (zco 1 (eVar 5))) (es.map .str) [.pl (webD W),.ac (.dict (dS zbi (ups V))),.pl (.str p.1),.pl (zae p.2),.ac (zbi (pre.foldl (λks e=>(upL (ups V) e).foldl insS ks) [p.1])),s5] =
    some (.nx [.pl (webD W),.ac (.dict (dS zbi (ups V))),.pl (.str p.1),.pl (zae p.2),.ac (zbi (p.2.foldl (λks e=>(upL (ups V) e).foldl insS ks) [p.1])),s5']):=by
  intro V p es
  induction es with
  | nil=>intro pre s5 _ e;rw[q9]at e;subst e;exact⟨s5,rfl⟩
  | cons e es ih=>
   intro pre s5 hV hp
   obtain⟨hV',hn,hel,hfew⟩:=zig hV
   have he:e∈nm V:=hel e (by rw[<- hp];simp)
   obtain⟨ks,lk,_⟩:=zfe (l:=ups V) (n:=e) (by rw[zis];exact he)
   have eup:upL (ups V) e=ks:=by unfold upL;rw[lk];rfl
   have l1:ks.length<=12:=by rw[<- eup];exact zaow hV' e
   have sub:∀x∈pre.foldl (λks e=>(upL (ups V) e).foldl insS ks) [p.1],x∈nm (V++[p]):=λx hx=>by
    rw[zfu]
    rcases zvt.mp hx with z|⟨e',_,z⟩
    ·exact qe _ (by simpa using z)
    ·exact qy _ (zyt hV' z)
   have l2:(pre.foldl (λks e=>(upL (ups V) e).foldl insS ks) [p.1]).length<=12:=by
    have:=zpw _ _ (zaji (acc:=ups V) (es:=pre) (ks:=[p.1]) (by simp)) sub
    have:=zxl hV
    omega
   obtain⟨s5',q⟩:=ih (pre++[e]) (.pl (.str e)) hV (by rw[<- hp];simp)
   refine⟨s5',?_⟩
   rw[qh]
   unfold forL
   simp only[gN,qD,qBG,qBF]
   have b:sUpd 4 (zco 1 (eVar 5)) [.pl (webD W),.ac (.dict (dS zbi (ups V))),.pl (.str p.1),.pl (zae p.2),.ac (zbi (pre.foldl (λks e=>(upL (ups V) e).foldl insS ks) [p.1])),.pl (.str e)] =
     some (.nx [.pl (webD W),.ac (.dict (dS zbi (ups V))),.pl (.str p.1),.pl (zae p.2),.ac (zbi ((pre++[e]).foldl (λks e=>(upL (ups V) e).foldl insS ks) [p.1])),.pl (.str e)]):=by
    have lz:(zgw (pre.foldl (λks e=>(upL (ups V) e).foldl insS ks) [p.1])).length+(zgw ks).length<=100000:=by unfold zgw;rw[qC,qC];omega
    simp only[sUpd,zbi,zco,eVar,qAP,qAG,qD,keyD,zhi,lk,qAd]
    rw[if_pos ⟨lz,by simp⟩,zlv]
    simp[frzs,qCG,eup]
   rw[b,qD]
   exact q
 have outer:∃env',forL (gT 2 (zej 2 (zej 3 zqh))) (sSeq (sSet 4 (eD1 (eVar 2) (eC (.bool true)))) (sSeq (sFor (zbv (eVar 3)) (gN 5) (sUpd 4 (zco 1 (eVar 5)))) (sPut 1 (eVar 2) (eVar 4)))) (W.map rowD) [.pl (webD W),.ac (.dict []),.no,.no,.no,.no]=some (.nx env')/\
   ∃s2 s3 s4 s5,env'=[.pl (webD W),.ac (.dict (dS zbi (ups W))),s2,s3,s4,s5]:=by
  refine zmt (λpre env=>∃s2 s3 s4 s5,env=[.pl (webD W),.ac (.dict (dS zbi (ups pre))),s2,s3,s4,s5]) ⟨_,_,_,_,rfl⟩ ?_
  rintro pre p post env hp ⟨s2,s3,s4,s5,rfl⟩
  have hV:WebOk (pre++[p]):=zajl (post:=post) (by rw[<- zand hp];exact h)
  obtain⟨hV',hn,hel,hfew⟩:=zig hV
  obtain⟨s5',q⟩:=inner pre p p.2 [] s5 hV rfl
  refine⟨[.pl (webD W),.ac (.dict (dS zbi (ups pre))),.pl (.str p.1),.pl (zae p.2),s4,s5],[.pl (webD W),.ac (.dict (dS zbi (ups (pre++[p])))),.pl (.str p.1),.pl (zae p.2),.pl (zbi (p.2.foldl (λks e=>(upL (ups pre) e).foldl insS ks) [p.1])),s5'],rfl,.inl ?_,_,_,_,_,rfl⟩
  have lz:(dS zbi (ups pre)).length<100000:=by
   unfold dS
   rw[qC,<- qC (f:=(·.1)),zis]
   have:=zxl hV'
   omega
  have st:sSet 4 (eD1 (eVar 2) (eC (.bool true))) [.pl (webD W),.ac (.dict (dS zbi (ups pre))),.pl (.str p.1),.pl (zae p.2),s4,s5]=some (.nx [.pl (webD W),.ac (.dict (dS zbi (ups pre))),.pl (.str p.1),.pl (zae p.2),.ac (zbi [p.1]),s5]):=by
   simp[sSet,eD1,eVar,eC,keyD,putV,frzs,slOf,zbi,zgw]
  have pt:sPut 1 (eVar 2) (eVar 4) [.pl (webD W),.ac (.dict (dS zbi (ups pre))),.pl (.str p.1),.pl (zae p.2),.ac (zbi (p.2.foldl (λks e=>(upL (ups pre) e).foldl insS ks) [p.1])),s5'] =
    some (.nx [.pl (webD W),.ac (.dict (dS zbi (ups (pre++[p])))),.pl (.str p.1),.pl (zae p.2),.pl (zbi (p.2.foldl (λks e=>(upL (ups pre) e).foldl insS ks) [p.1])),s5']):=by
   simp only[sPut,eVar,qAP,qAG,qD,keyD]
   rw[if_pos ⟨lz,by simp⟩,zajj zbi (by rw[zis];exact hn),zky]
   simp[frzs,frz1,zki]
  exact zaq st (zaq (for_list rfl q) pt)
 obtain⟨env',hl,s2,s3,s4,s5,rfl⟩:=outer
 exact zjn (env:=[.pl (webD W),.no,.no,.no,.no,.no]) rfl (zaq rfl (zaq (for_list rfl hl) rfl))
noncomputable def ltr(i:Int):Str:=⟨#[97+i.toNat]⟩
noncomputable def Low(x:Str):Prop:=∀c∈x.cps.toList,c<128
theorem zds(h:Low x):qAH x=true:=by
 unfold qAH
 rw[<- Array.all_toList,qAO]
 intro c hc
 have:=h c hc
 exact decide_eq_true (by omega)
theorem zpp(a b:Str):(a++b).cps.toList=a.cps.toList++b.cps.toList:=by
 show(a.cps++b.cps).toList=_
 simp
theorem Low.app(h1:Low a)(h2:Low b):Low (a++b):=λc hc=>by
 rw[zpp]at hc
 exact(qAf.mp hc).elim (h1 c) (h2 c)
theorem Low.slice(h:Low x)(l u:Option Int):Low (Txt.slice x l u):=λc hc=>by
 unfold Txt.slice at hc
 split at hc
 ·exact h c hc
 ·have hc:c∈(List.filterMap (x.cps[·]?) (Builtin.Str.strSliceIndices l u 1 x.length)):=by simpa using hc
  obtain⟨i,_,e⟩:=qBf.mp hc
  exact h c (by
   have:=Array.mem_of_getElem? e
   simpa using this)
theorem Low.ltr(h0:0<=i)(h1:i<26):Low (ltr i):=λc hc=>by
 have:c=97+i.toNat:=by simpa [Bc.ltr]using hc
 omega
theorem zyv(c:Nat):∀(n:Nat)(acc:Array Nat),((List.replicate n #[c]).foldl (·++·) acc).toList=acc.toList++List.replicate n c
 | 0,acc=>by simp
 | n+1,acc=>by
  rw[qBX,qB0,zyv c n,qBX]
  simp
theorem zvv{n:Int}(h:0<=n):(Txt.mul ⟨#[c]⟩ n).cps.toList=List.replicate n.toNat c:=by
 unfold Txt.mul
 split
 ·have:n.toNat=0:=by omega
  rw[this];rfl
 ·split
  ·rename_i h1 h2
   have:n=1:=by
    rcases qBC.mp h2 with z|z
    ·exact eq_of_beq z
    ·exact absurd z (by simp[Str.length])
   subst this
   rfl
  ·rw[zyv];rfl
theorem Low.mul(hc:c<128)(h:0<=n):Low (Txt.mul ⟨#[c]⟩ n):=λd hd=>by
 rw[zvv h]at hd
 rw[qCt hd];exact hc
theorem zajm{n:Int}(h:0<=n):(Txt.mul ⟨#[c]⟩ n).length=n.toNat:=by
 have:=congrArg List.length (zvv (c:=c) h)
 rw[q0]at this
 simpa [Str.length]using this
noncomputable def zkk(md o st:Int)(stem:Str)(at_:Int)(k:Nat):Str:=
 if md=0 then Txt.slice stem none (some at_)++ltr ((o+st * k) % 26)++Txt.slice stem (some at_) none
 else if md=1 then Txt.slice stem none (some (k * st % (stem.length+1)))++ltr ((o+st * k) % 26)
 else Txt.mul (ltr ((o+k / 8) % 26)) (1+k * st % 8)
theorem zajn(h0:0<=i)(h1:0<=j)(h:ltr i=ltr j):i=j:=by
 unfold ltr at h
 have:#[97+i.toNat]=#[97+j.toNat]:=by injection h
 have:97+i.toNat=97+j.toNat:=by simpa using this
 omega
theorem zyw:∀st∈([1,3,5,7,9,11,15,17]:List Nat),∀a<16,∀b<16,st * a % 26=st * b % 26->a=b:=by decide +kernel
theorem zadr{o st:Int}(hs:st∈([1,3,5,7,9,11,15,17]:List Int)){a b:Nat}(ha:a<16)(hb:b<16)(h:(o+st * a) % 26=(o+st * b) % 26):a=b:=by
 have h2:=Int.emod_add_cancel_left.mp h
 simp only[qY,qBr,or_false]at hs
 rcases hs with rfl|rfl|rfl|rfl|rfl|rfl|rfl|rfl
 ·exact zyw 1 (by decide) a ha b hb (by exact_mod_cast h2)
 ·exact zyw 3 (by decide) a ha b hb (by exact_mod_cast h2)
 ·exact zyw 5 (by decide) a ha b hb (by exact_mod_cast h2)
 ·exact zyw 7 (by decide) a ha b hb (by exact_mod_cast h2)
 ·exact zyw 9 (by decide) a ha b hb (by exact_mod_cast h2)
 ·exact zyw 11 (by decide) a ha b hb (by exact_mod_cast h2)
 ·exact zyw 15 (by decide) a ha b hb (by exact_mod_cast h2)
 ·exact zyw 17 (by decide) a ha b hb (by exact_mod_cast h2)
theorem zasg{x y:Int}(hx:0<=x)(hy:0<=y)(h:97+x.toNat=97+y.toNat):x=y:=by omega
theorem zawh{x y:Int}(hx:0<=x)(hy:0<=y)(h:(1+x).toNat=(1+y).toNat):x=y:=by omega
theorem zajo{x:Int}(hx:0<=x):(1+x).toNat=x.toNat+1:=by omega
theorem tab8:∀st∈([1,3,5,7,9,11,15,17]:List Nat),∀a<16,∀b<16,a / 8=b / 8->a * st % 8=b * st % 8->a=b:=by decide +kernel
theorem zajp{o st:Int}(hs:st∈([1,3,5,7,9,11,15,17]:List Int)){a b:Nat}(ha:a<16)(hb:b<16)(h:(o+(a:Int) / 8) % 26=(o+(b:Int) / 8) % 26)(h2:(a:Int) * st % 8=b * st % 8):a=b:=by
 have q1:a / 8=b / 8:=by omega
 simp only[qY,qBr,or_false]at hs
 rcases hs with rfl|rfl|rfl|rfl|rfl|rfl|rfl|rfl
 ·exact tab8 1 (by decide) a ha b hb q1 (by exact_mod_cast h2)
 ·exact tab8 3 (by decide) a ha b hb q1 (by exact_mod_cast h2)
 ·exact tab8 5 (by decide) a ha b hb q1 (by exact_mod_cast h2)
 ·exact tab8 7 (by decide) a ha b hb q1 (by exact_mod_cast h2)
 ·exact tab8 9 (by decide) a ha b hb q1 (by exact_mod_cast h2)
 ·exact tab8 11 (by decide) a ha b hb q1 (by exact_mod_cast h2)
 ·exact tab8 15 (by decide) a ha b hb q1 (by exact_mod_cast h2)
 ·exact tab8 17 (by decide) a ha b hb q1 (by exact_mod_cast h2)
theorem zajq{md o st at_:Int}{stem:Str}(hs:st∈([1,3,5,7,9,11,15,17]:List Int))(ho:0<=o){a b:Nat}(ha:a<16)(hb:b<16)(h:zkk md o st stem at_ a=zkk md o st stem at_ b):a=b:=by
 have st0:0<=st:=by
  simp only[qY,qBr,or_false]at hs
  rcases hs with rfl|rfl|rfl|rfl|rfl|rfl|rfl|rfl<;>decide
 have n26:∀z:Int,0<=z % 26:=λz=>qAB z (by decide)
 unfold zkk at h
 by_cases h0:md=0
 ·rw[if_pos h0,if_pos h0]at h
  have q:=congrArg (λx:Str=>x.cps.toList) h
  simp only[zpp]at q
  have q2:=List.append_cancel_right q
  have q3:=List.append_cancel_left q2
  have q4:ltr ((o+st * a) % 26)=ltr ((o+st * b) % 26):=by
   unfold ltr at q3 ⊢
   congr 1
   exact Array.toList_inj.mp q3
  exact zadr hs ha hb (zajn (n26 _) (n26 _) q4)
 ·rw[if_neg h0,if_neg h0]at h
  by_cases h1:md=1
  ·rw[if_pos h1,if_pos h1]at h
   have q:=congrArg (λx:Str=>x.cps.toList) h
   simp only[zpp]at q
   have q3:=(List.append_inj' q (by simp[ltr])).2
   have q4:ltr ((o+st * a) % 26)=ltr ((o+st * b) % 26):=by
    unfold ltr at q3 ⊢
    congr 1
    exact Array.toList_inj.mp q3
   exact zadr hs ha hb (zajn (n26 _) (n26 _) q4)
  ·rw[if_neg h1,if_neg h1]at h
   have m8:∀z:Int,0<=z % 8:=λz=>qAB z (by decide)
   have q:(Txt.mul (ltr ((o+(a:Int) / 8) % 26)) (1+a * st % 8)).cps.toList=(Txt.mul (ltr ((o+(b:Int) / 8) % 26)) (1+b * st % 8)).cps.toList:=by rw[h]
   have ea:∀k:Nat,(Txt.mul (ltr ((o+(k:Int) / 8) % 26)) (1+k * st % 8)).cps.toList=List.replicate (1+(k:Int) * st % 8).toNat (97+((o+(k:Int) / 8) % 26).toNat):=λk=>zvv (by have:=m8 (k * st);omega)
   rw[ea a,ea b]at q
   have ql:=congrArg List.length q
   rw[q0,q0]at ql
   have w1:=m8 (a * st)
   have w2:=m8 (b * st)
   have hh:(97+((o+(a:Int) / 8) % 26).toNat)=(97+((o+(b:Int) / 8) % 26).toNat):=by
    have c1:(1+(a:Int) * st % 8).toNat=((a:Int) * st % 8).toNat+1:=zajo w1
    have c2:(1+(b:Int) * st % 8).toNat=((b:Int) * st % 8).toNat+1:=zajo w2
    rw[c1,c2,qBX,qBX]at q
    exact(qBA q).1
   have z1:=n26 (o+(a:Int) / 8)
   have z2:=n26 (o+(b:Int) / 8)
   exact zajp (o:=o) hs ha hb (zasg z1 z2 hh) (zawh w1 w2 ql)
theorem zqz{f:Nat->α}(h:∀a b,a<n->b<n->f a=f b->a=b):((List.range n).map f).Nodup:=by
 rw[List.nodup_iff_pairwise_ne,List.pairwise_map]
 refine List.Pairwise.imp_of_mem ?_ (List.pairwise_lt_range (n:=n))
 intro a b ha hb hab e
 have:=h a b (qA7.mp ha) (qA7.mp hb) e
 omega
theorem zajr(hl:Low stem)(ho:0<=o)(hst:0<=st)(k:Nat):Low (zkk md o st stem at_ k):=by
 have n26:∀z:Int,0<=z % 26/\z % 26<26:=λz=>⟨qAB z (by decide),qAD z (by decide)⟩
 unfold zkk
 split
 ·exact((hl.slice _ _).app (Low.ltr (n26 _).1 (n26 _).2)).app (hl.slice _ _)
 ·split
  ·exact(hl.slice _ _).app (Low.ltr (n26 _).1 (n26 _).2)
  ·have:=qAB ((k:Int) * st) (show(8:Int)≠0 by decide)
   exact Low.mul (by have:=n26 (o+(k:Int) / 8);omega) (by omega)
noncomputable abbrev vi(i:Int):Val:=⟨.int i,false,[]⟩
noncomputable abbrev vs(x:Str):Val:=⟨.str x,false,[]⟩
noncomputable abbrev vb(b:Bool):Val:=⟨.bool b,false,[]⟩
section
variable{a b:EF}{env:DEnv}{i j:Int}
theorem zjo(ha:a env=some (vi i))(hb:b env=some (vi j))(h:0<j):eOp modD a b env=some (vi (i % j)):=by
 unfold eOp;rw[ha,hb];simp[modD,intD,h,bsOf,zev]
theorem zra(ha:a env=some (vi i))(hb:b env=some (vi j))(h:0<j)(h2:j<1073741824):eOp zeo a b env=some (vi (i / j)):=by
 unfold eOp;rw[ha,hb];simp[zeo,intD,h,h2,bsOf,zev]
theorem zyx(ha:a env=some (vi i))(hb:b env=some (vi j)):eOp addD a b env=some (vi (i+j)):=by
 unfold eOp;rw[ha,hb];simp[addD,bsOf,zev]
theorem zash(ha:a env=some (vi i))(hb:b env=some (vi j))(h:(-(2 ^ 64)<i/\i<2 ^ 64)\/(-(2 ^ 64)<j/\j<2 ^ 64)):eOp mulD a b env=some (vi (i * j)):=by
 unfold eOp;rw[ha,hb]
 simp only[qD,mulD]
 rw[if_pos h];simp[bsOf,zev]
theorem zabl(ha:a env=some (vi i))(hb:b env=some (vi j)):eOp eqD a b env=some (vb (i==j)):=by
 unfold eOp;rw[ha,hb];rfl
theorem zajs{x y:Str}(ha:a env=some (vs x))(hb:b env=some (vs y))(h:x.length+y.length<=100000):eOp addD a b env=some (vs (x++y)):=by
 unfold eOp;rw[ha,hb]
 simp only[qD,addD]
 rw[if_pos h];simp[bsOf,zev]
theorem zaox{x:Str}(ha:a env=some (vs x))(hb:b env=some (vi j))(h:x.length<=1000/\-1000<=j/\j<=1000):eOp mulD a b env=some (vs (Txt.mul x j)):=by
 unfold eOp;rw[ha,hb]
 simp only[qD,mulD]
 rw[if_pos h];simp[bsOf,zev]
theorem zasi{x:Str}(ha:a env=some (vs x))(hl:l env=some lo)(hh:h env=some hi)(hz:x.length<=100000):eSl a l h env=some (vs (Txt.slice x lo hi)):=by
 unfold eSl;rw[ha,hl,hh]
 simp only[qD,slD]
 rw[if_pos hz];simp[bsOf,zev]
theorem zyy(ha:a env=some (vi i)):zfz a env=some (some i):=by unfold zfz;rw[ha];rfl
theorem zde(ha:a env=some (vb c)):zbc a env=some c:=by unfold zbc;rw[ha];rfl
theorem zgs(ha:a env=some r):zaa a aNil env=some [r]:=by unfold zaa aNil;rw[ha];rfl
theorem zaoy{x:Str}(ha:a env=some (vs x))(hz:x.length<=100000):eCB lenD (zaa a aNil) env=some (vi x.length):=by
 unfold eCB
 rw[zgs ha]
 simp[zfn,lenD,hz,bsOf,zev]
theorem zmv{ds:List PyData}(ha:a env=some ⟨.list ds,fr,bs⟩):eCB lenD (zaa a aNil) env=some (vi ds.length):=by
 unfold eCB
 rw[zgs ha]
 simp[zfn,lenD,bsOf,zev]
theorem zasj{k n:Nat}{b:EF}{ds:List PyData}{d:PyData}(he:env[k]?=some (.pl (.list ds)))(hb:b env=some (vi (n:Int)))(hd:ds[n]?=some d):eIxV k b env=some ⟨d,false,[]⟩:=by
 unfold eIxV
 rw[he]
 unfold eOp eVar
 rw[he,hb]
 simp only[qD,ixD]
 rw[zps hd]
 simp[bsOf]
theorem zawi{k n:Nat}{b:EF}{ds:List PyData}{d:PyData}(he:env[k]?=some (.ac (.list ds)))(hb:b env=some (vi (n:Int)))(hd:ds[n]?=some d):eIxV k b env=some ⟨d,false,[]⟩:=by
 unfold eIxV
 rw[he]
 simp only
 rw[hb]
 simp only[qD]
 rw[zps hd];rfl
end
noncomputable def abc:Str:="abcdefghijklmnopqrstuvwxyz"
theorem zask:(List.range 26).all (λi=>abc.cps.toList[i]?==some (97+i))=true:=by decide +kernel
theorem zasl:abc.length=26:=by decide +kernel
theorem zawj{i:Int}(h0:0<=i)(h1:i<26):atI abc.cps.toList i=some (97+i.toNat):=by
 have q:=qAO.mp zask i.toNat (qA7.mpr (by omega))
 have e:((i.toNat:Nat):Int)=i:=by omega
 rw[<- e]
 have z:=zps (eq_of_beq q)
 rw[e]at z ⊢
 exact z
theorem zasm(he:env[k]?=some (.pl (.str abc)))(hb:b env=some (vi i))(h0:0<=i)(h1:i<26):eIxV k b env=some (vs (ltr i)):=by
 unfold eIxV
 rw[he]
 unfold eOp eVar
 rw[he,hb]
 simp only[qD,ixD]
 rw[if_pos (by rw[zasl];decide),zawj h0 h1]
 simp[bsOf,zev,ltr]
theorem zasn(h0:0<=i)(h1:i<8):∃st:Int,atI [PyData.int 1,.int 3,.int 5,.int 7,.int 9,.int 11,.int 15,.int 17] i=some (.int st)/\st∈([1,3,5,7,9,11,15,17]:List Int):=by
 rcases(show i=0\/i=1\/i=2\/i=3\/i=4\/i=5\/i=6\/i=7 by omega)with rfl|rfl|rfl|rfl|rfl|rfl|rfl|rfl
 all_goals exact⟨_,rfl,by decide⟩
theorem zads{env:DEnv}{ds:List PyData}(he:env[i]?=some (.ac (.list ds)))(hf:f env=some ⟨d,fr,[]⟩)(hl:ds.length<100000):sApp i f env=some (.nx (env.set i (.ac (.list (ds++[d]))))):=by
 unfold sApp
 rw[he]
 simp only
 rw[hf]
 simp only[qD]
 rw[if_pos ⟨hl,by simp⟩];rfl
theorem zrb(n:Nat):zjz 0 n=(List.range n).map (λ(k:Nat)=>PyData.int (k:Int)):=by
 unfold zjz
 refine qB8 λk _=>?_
 show PyData.int (0+(k:Int))=_
 rw[Int.zero_add]
theorem zvw(a b:Str):(a++b).length=a.length+b.length:=by
 have:=congrArg List.length (zpp a b)
 rw[qZ]at this
 simpa [Str.length]using this
theorem zyz{m c:Int}(m0:0<=m)(m16:m<=16)(c0:0<=c):∃xs:List Str,zfd [.int m,.int c]=some (zae xs,true)/\xs.length=m.toNat/\xs.Nodup/\(∀x∈xs,Low x)/\∀x∈xs,x.length<=30:=by
 have md:∀(z j:Int),0<j->0<=z % j/\z % j<j:=λz j hj=>⟨qAB z (by omega),qAD z hj⟩
 have i8:=md (c / 3) 8 (by decide)
 obtain⟨st,hst,hmem⟩:=zasn i8.1 i8.2
 have st0:0<=st/\st<100:=by
  simp only[qY,qBr,or_false]at hmem
  rcases hmem with rfl|rfl|rfl|rfl|rfl|rfl|rfl|rfl<;>decide
 have o26:=md (c / 24) 26 (by decide)
 have j26:=md (c / 624) 26 (by decide)
 have n8:=md (c / 16224) 8 (by decide)
 have lowS:Low (Txt.mul (ltr (c / 624 % 26)) (c / 16224 % 8)):=Low.mul (by omega) n8.1
 have lenS:(Txt.mul (ltr (c / 624 % 26)) (c / 16224 % 8)).length<=7:=by unfold ltr;rw[zajm n8.1];omega
 have s3:sSet 3 (eOp ixD (eTup (zaa (eC (.int 1)) (zaa (eC (.int 3)) (zaa (eC (.int 5)) (zaa (eC (.int 7)) (zaa (eC (.int 9)) (zaa (eC (.int 11)) (zaa (eC (.int 15)) (zaa (eC (.int 17)) aNil))))))))) (eOp modD (eOp zeo (eVar 1) (eC (.int 3))) (eC (.int 8)))) [.pl (.int m),.pl (.int c),.pl (.str abc),.no,.no,.no,.no,.no,.no,.no]=some (.nx [.pl (.int m),.pl (.int c),.pl (.str abc),.pl (.int st),.no,.no,.no,.no,.no,.no]):=by
  refine zcf (r:=vi st) ?_
  unfold eOp
  show((some (⟨.tuple [PyData.int 1,.int 3,.int 5,.int 7,.int 9,.int 11,.int 15,.int 17],false,[]⟩:Val)).bind λx=>((some (vi (c / 3 % 8))).bind λy=>(ixD x.d y.d).bind λz=>some (⟨z.1,z.2,bsOf z.1 (x.bs++y.bs)⟩:Val)))=_
  simp only[qD,ixD]
  rw[hst];rfl
 have s5:sSet 5 (eOp mulD (eIxV 2 (eOp modD (eOp zeo (eVar 1) (eC (.int 624))) (eC (.int 26)))) (eOp modD (eOp zeo (eVar 1) (eC (.int 16224))) (eC (.int 8)))) [.pl (.int m),.pl (.int c),.pl (.str abc),.pl (.int st),.pl (.int (c / 24 % 26)),.no,.no,.no,.no,.no] =
   some (.nx [.pl (.int m),.pl (.int c),.pl (.str abc),.pl (.int st),.pl (.int (c / 24 % 26)),.pl (.str (Txt.mul (ltr (c / 624 % 26)) (c / 16224 % 8))),.no,.no,.no,.no]):=
  zcf (r:=vs _) (zaox (zasm rfl rfl j26.1 j26.2) rfl ⟨by show 1<=1000;decide,by omega,by omega⟩)
 generalize hO:c / 24 % 26=o at o26 s5
 generalize Txt.mul (ltr (c / 624 % 26)) (c / 16224 % 8)=stem at lowS lenS s5
 have s6:∃at_:Int,sSet 6 (eOp modD (eOp zeo (eVar 1) (eC (.int 129792))) (eOp addD (eCB lenD (zaa (eVar 5) aNil)) (eC (.int 1)))) [.pl (.int m),.pl (.int c),.pl (.str abc),.pl (.int st),.pl (.int o),.pl (.str stem),.no,.no,.no,.no]=some (.nx [.pl (.int m),.pl (.int c),.pl (.str abc),.pl (.int st),.pl (.int o),.pl (.str stem),.pl (.int at_),.no,.no,.no]):=
  ⟨_,zcf (r:=vi _) (zjo rfl (zyx (zaoy rfl (by omega)) rfl) (by omega))⟩
 obtain⟨at_,s6⟩:=s6
 have loop:∃env',forL (gN 8) (sSeq (sSet 9 (eIxV 2 (eOp modD (eOp addD (eVar 4) (eOp mulD (eVar 3) (eVar 8))) (eC (.int 26)))))
  (sIf (zbc (eOp eqD (eOp modD (eVar 1) (eC (.int 3))) (eC (.int 0)))) (sApp 7 (eOp addD (eOp addD (eSl (eVar 5) zlp (zfz (eVar 6))) (eVar 9)) (eSl (eVar 5) (zfz (eVar 6)) zlp))) (sIf (zbc (eOp eqD (eOp modD (eVar 1) (eC (.int 3))) (eC (.int 1)))) (sApp 7 (eOp addD (eSl (eVar 5) zlp (zfz (eOp modD (eOp mulD (eVar 8) (eVar 3)) (eOp addD (eCB lenD (zaa (eVar 5) aNil)) (eC (.int 1)))))) (eVar 9))) (sApp 7 (eOp mulD (eIxV 2 (eOp modD (eOp addD (eVar 4) (eOp zeo (eVar 8) (eC (.int 8)))) (eC (.int 26)))) (eOp addD (eC (.int 1)) (eOp modD (eOp mulD (eVar 8) (eVar 3)) (eC (.int 8)))))))))
   ((List.range m.toNat).map λ(k:Nat)=>PyData.int (k:Int)) [.pl (.int m),.pl (.int c),.pl (.str abc),.pl (.int st),.pl (.int o),.pl (.str stem),.pl (.int at_),.ac (.list []),.no,.no]=some (.nx env')/\
   ∃s8 s9,env'=[.pl (.int m),.pl (.int c),.pl (.str abc),.pl (.int st),.pl (.int o),.pl (.str stem),.pl (.int at_),.ac (zae ((List.range m.toNat).map (zkk (c % 3) o st stem at_))),s8,s9]:=by
  refine zmt (λpre env=>∃s8 s9,env=[.pl (.int m),.pl (.int c),.pl (.str abc),.pl (.int st),.pl (.int o),.pl (.str stem),.pl (.int at_),.ac (zae (pre.map (zkk (c % 3) o st stem at_))),s8,s9]) ⟨_,_,rfl⟩ ?_
  rintro pre k post env hk ⟨s8,s9,rfl⟩
  have hkm:k<m.toNat:=qA7.mp (by rw[<- hk];simp)
  have hpl:pre.length<100:=by
   have:=congrArg List.length hk
   simp at this
   omega
  have b1:0<=st * (k:Int):=qCu st0.1 (by omega)
  have s26:=md (o+st * (k:Int)) 26 (by decide)
  have sl:∀a b,(Txt.slice stem a b).length<=7:=λa b=>qAE (Txt.slice_le stem a b) lenS
  have lz:stem.length<=100000:=by omega
  have l1:(ltr ((o+st * (k:Int)) % 26)).length=1:=rfl
  refine⟨_,[.pl (.int m),.pl (.int c),.pl (.str abc),.pl (.int st),.pl (.int o),.pl (.str stem),.pl (.int at_),.ac (zae ((pre++[k]).map (zkk (c % 3) o st stem at_))),.pl (.int (k:Int)),.pl (.str (ltr ((o+st * (k:Int)) % 26)))],rfl,.inl ?_,_,_,rfl⟩
  refine zaq (zcf (r:=vs _) (zasm rfl (zjo (zyx rfl (zash rfl rfl (.inl ⟨by omega,by omega⟩))) rfl (by decide)) s26.1 s26.2)) ?_
  have fin:∀x:Str,x=zkk (c % 3) o st stem at_ k->(PyData.list ((pre.map (zkk (c % 3) o st stem at_)).map PyData.str++[.str x]))=zae ((pre++[k]).map (zkk (c % 3) o st stem at_)):=λx e=>by
   unfold zae
   rw[qAN,qAN,e];rfl
  have lp:((pre.map (zkk (c % 3) o st stem at_)).map PyData.str).length<100000:=by rw[qC,qC];omega
  by_cases h0:c % 3=0
  ·refine if_t (zde (by rw[zabl (zjo rfl rfl (by decide)) rfl];rw[h0];rfl)) ?_
   have z1:=sl none (some at_)
   have z2:=sl (some at_) none
   refine(zads rfl (zajs (zajs (zasi rfl rfl (zyy rfl) lz) rfl (by omega)) (zasi rfl (zyy rfl) rfl lz) (by rw[zvw];omega)) lp).trans ?_
   rw[fin _ (by unfold zkk;rw[if_pos h0])];rfl
  ·refine if_f (zde (by rw[zabl (zjo rfl rfl (by decide)) rfl];rw[beq_eq_false_iff_ne.mpr h0])) ?_
   by_cases h1:c % 3=1
   ·refine if_t (zde (by rw[zabl (zjo rfl rfl (by decide)) rfl];rw[h1];rfl)) ?_
    have z1:=sl none (some ((k:Int) * st % ((stem.length:Int)+1)))
    refine(zads rfl (zajs (zasi rfl rfl (zyy (zjo (zash rfl rfl (.inr ⟨by omega,by omega⟩)) (zyx (zaoy rfl lz) rfl) (by omega))) lz) rfl (by omega)) lp).trans ?_
    rw[fin _ (by unfold zkk;rw[if_neg h0,if_pos h1])];rfl
   ·refine if_f (zde (by rw[zabl (zjo rfl rfl (by decide)) rfl];rw[beq_eq_false_iff_ne.mpr h1])) ?_
    have t26:=md (o+(k:Int) / 8) 26 (by decide)
    have u8:=md ((k:Int) * st) 8 (by decide)
    refine(zads rfl (zaox (zasm rfl (zjo (zyx rfl (zra rfl rfl (by decide) (by decide))) rfl (by decide)) t26.1 t26.2) (zyx rfl (zjo (zash rfl rfl (.inr ⟨by omega,by omega⟩)) rfl (by decide))) ⟨by show 1<=1000;decide,by omega,by omega⟩) lp).trans ?_
    rw[fin _ (by unfold zkk;rw[if_neg h0,if_neg h1])];rfl
 obtain⟨env',hl,s8,s9,rfl⟩:=loop
 refine⟨(List.range m.toNat).map (zkk (c % 3) o st stem at_),?_,by simp,zqz λa b ha hb e=>zajq hmem o26.1 (by omega) (by omega) e,λx hx=>?_,λx hx=>?_⟩
 ·refine zjn (env:=[.pl (.int m),.pl (.int c),.no,.no,.no,.no,.no,.no,.no,.no]) rfl (zaq rfl (zaq s3 (zaq (e1:=[.pl (.int m),.pl (.int c),.pl (.str abc),.pl (.int st),.pl (.int o),.no,.no,.no,.no,.no]) (by rw[<- hO];rfl) (zaq s5 (zaq s6 (zaq rfl (zaq (zyr (ds:=(List.range m.toNat).map λ(k:Nat)=>PyData.int (k:Int)) (bs:=[]) ?_ hl) rfl)))))))
  unfold zgn
  rw[zgs (r:=vi m) rfl]
  simp only[qD]
  rw[if_pos ⟨by omega,by omega⟩,zrb]
 ·obtain⟨j,_,rfl⟩:=qA1.mp hx
  exact zajr lowS o26.1 st0.1 j
 ·obtain⟨j,_,rfl⟩:=qA1.mp hx
  have sl:∀a b,(Txt.slice stem a b).length<=7:=λa b=>qAE (Txt.slice_le stem a b) lenS
  have l1:∀i,(ltr i).length=1:=λ_=>rfl
  unfold zkk
  split
  ·rw[zvw,zvw,l1]
   have h1:=sl none (some at_);have h2:=sl (some at_) none
   omega
  ·split
   ·rw[zvw,l1]
    have h1:=sl none (some ((j:Int) * st % ((stem.length:Int)+1)))
    omega
   ·have u8:=md ((j:Int) * st) 8 (by decide)
    unfold ltr
    rw[zajm (by omega)]
    omega
theorem zajt:WebOk []:=⟨List.nodup_nil,λi n es e=>by simp at e,λp hp=>by simp at hp,by simp⟩
theorem zrc{W:Web}{p:Str×List Str}(h:WebOk W)(hn:p.1∉nm W)(he:∀e∈p.2,e∈nm W)(hf:p.2.length<=4)(hl:W.length<12):WebOk (W++[p]):=by
 refine⟨by rw[zfu];exact zaam h.nd hn,λi n es e=>?_,λq hq=>?_,by simp;omega⟩
 ·by_cases hi:i<W.length
  ·rw[qm hi]at e
   rw[qAi (by omega)]
   exact h.el i n es e
  ·rw[qb (by omega)]at e
   have hi2:i - W.length=0:=by
    have:=(qM.mp e).1
    simp at this;omega
   rw[hi2]at e
   cases e
   have:i=W.length:=by omega
   subst this
   rw[qAi (qQ _),qCL]
   exact he
 ·rcases qAf.mp hq with hq|hq
  ·exact h.few q hq
  ·rw[qAU.mp hq];exact hf
theorem zaso(ds:List PyData)(k:Nat)(h:k<=ds.length):cutD ds none (some (k:Int))=ds.take k:=by
 unfold cutD
 have e1:HT.sIx ds.length 0 none=0:=rfl
 rw[e1,HT.sIx_nat]
 simp
theorem zane(enc:α->PyData)(l:List α):zabc (l.map enc)=(l.zipIdx).map λ(p:α×Nat)=>PyData.tuple [.int (p.2:Int),enc p.1]:=by
 unfold zabc
 rw[List.zipIdx_map,qC4];rfl
theorem zawk{l:List α}(nd:l.Nodup){hi:i<l.length}{hj:j<l.length}(e:l[i]=l[j]):i=j:=by
 rcases Nat.lt_trichotomy i j with h|h|h
 ·exact absurd e (qCl.mp nd i j hi hj h)
 ·exact h
 ·exact absurd e.symm (qCl.mp nd j i hj hi h)
theorem zoe:∀(l:List α)(i:Nat)(h:i<l.length),(l[i]::l.eraseIdx i).Perm l
 | [],_,h=>by simp at h
 | a::l,0,_=>qCJ _
 | a::l,i+1,h=>by
  have hi:i<l.length:=by simpa using h
  have ih:=zoe l i hi
  show(l[i]::a::l.eraseIdx i).Perm (a::l)
  exact(List.Perm.swap a l[i] _).trans (List.Perm.cons a ih)
theorem zrd(f:α->β):∀(l:List α)(i:Nat),(l.map f).eraseIdx i=(l.eraseIdx i).map f
 | [],_=>rfl
 | _::_,0=>rfl
 | a::l,i+1=>by
  show f a::(l.map f).eraseIdx i=f a::(l.eraseIdx i).map f
  rw[zrd f l i]
theorem zza{xs:List Str}(hx:xs.length<=12):∀(t:Nat)(ls es:List Str)(rs:Int)(s8 s9:Sl),(es++ls).Perm xs->t+es.length<=4->t<=ls.length->
  ∃es' s5 s6 s8' s9',forL (gN 8) (sSeq (sSet 9 (eOp modD (eVar 6) (eCB lenD (zaa (eVar 5) aNil)))) (sSeq (sSet 6 (eOp zeo (eVar 6) (eCB lenD (zaa (eVar 5) aNil)))) (zgp 7 5 (eVar 9)))) ((List.range' es.length t).map λ(k:Nat)=>PyData.int (k:Int)) [A,B,C,.pl (.int (kk:Int)),nn,.ac (zae ls),.pl (.int rs),.ac (zae es),s8,s9] =
   some (.nx [A,B,C,.pl (.int (kk:Int)),nn,s5,s6,.ac (zae es'),s8',s9'])/\es'.Nodup=es'.Nodup/\(∃ls',(es'++ls').Perm xs)/\es'.length=t+es.length
 | 0,ls,es,rs,s8,s9,pm,_,_=>⟨es,_,_,s8,s9,rfl,rfl,⟨ls,pm⟩,by simp⟩
 | t+1,ls,es,rs,s8,s9,pm,h4,hl=>by
  have hls:0<ls.length:=by omega
  have pl:=pm.length_eq
  rw[qZ]at pl
  have a0:=qAB rs (show((ls.length:Nat):Int)≠0 by omega)
  have a1:=qAD rs (show(0:Int)<((ls.length:Nat):Int) by omega)
  have hk:(rs % ((ls.length:Nat):Int)).toNat<ls.length:=by omega
  have e9:((rs % ((ls.length:Nat):Int)).toNat:Int)=rs % ((ls.length:Nat):Int):=by omega
  generalize eA:(rs % ((ls.length:Nat):Int)).toNat=at_ at hk e9
  have pm2:((es++[ls[at_]])++ls.eraseIdx at_).Perm xs:=by
   refine List.Perm.trans ?_ pm
   rw[qBM]
   exact qCg es (zoe ls at_ hk)
  obtain⟨es',s5,s6,s8',s9',q,_,hp,hlen⟩:=zza (A:=A) (B:=B) (C:=C) (kk:=kk) (nn:=nn) hx t (ls.eraseIdx at_) (es++[ls[at_]]) (rs / ((ls.length:Nat):Int)) (.pl (.int (es.length:Int))) (.pl (.int (at_:Int))) pm2 (by simp;omega) (by rw[qCf hk];omega)
  refine⟨es',s5,s6,s8',s9',?_,rfl,hp,by rw[hlen];simp;omega⟩
  rw[List.range'_succ,qh]
  unfold forL
  simp only[gN,qD,qBG,qBF]
  have st1:sSet 9 (eOp modD (eVar 6) (eCB lenD (zaa (eVar 5) aNil))) [A,B,C,.pl (.int (kk:Int)),nn,.ac (zae ls),.pl (.int rs),.ac (zae es),.pl (.int (es.length:Int)),s9]=some (.nx [A,B,C,.pl (.int (kk:Int)),nn,.ac (zae ls),.pl (.int rs),.ac (zae es),.pl (.int (es.length:Int)),.pl (.int (at_:Int))]):=by
   have:=zcf (i:=9) (zjo (a:=eVar 6) (env:=[A,B,C,.pl (.int (kk:Int)),nn,.ac (zae ls),.pl (.int rs),.ac (zae es),.pl (.int (es.length:Int)),s9]) rfl (zmv (a:=eVar 5) rfl) (by rw[qC];omega))
   rw[this,qC,<- e9];rfl
  have st2:sSet 6 (eOp zeo (eVar 6) (eCB lenD (zaa (eVar 5) aNil))) [A,B,C,.pl (.int (kk:Int)),nn,.ac (zae ls),.pl (.int rs),.ac (zae es),.pl (.int (es.length:Int)),.pl (.int (at_:Int))]=some (.nx [A,B,C,.pl (.int (kk:Int)),nn,.ac (zae ls),.pl (.int (rs / ((ls.length:Nat):Int))),.ac (zae es),.pl (.int (es.length:Int)),.pl (.int (at_:Int))]):=by
   have:=zcf (i:=6) (zra (a:=eVar 6) (env:=[A,B,C,.pl (.int (kk:Int)),nn,.ac (zae ls),.pl (.int rs),.ac (zae es),.pl (.int (es.length:Int)),.pl (.int (at_:Int))]) rfl (zmv (a:=eVar 5) rfl) (by rw[qC];omega) (by rw[qC];omega))
   rw[this,qC];rfl
  have st3:zgp 7 5 (eVar 9) [A,B,C,.pl (.int (kk:Int)),nn,.ac (zae ls),.pl (.int (rs / ((ls.length:Nat):Int))),.ac (zae es),.pl (.int (es.length:Int)),.pl (.int (at_:Int))]=some (.nx [A,B,C,.pl (.int (kk:Int)),nn,.ac (zae (ls.eraseIdx at_)),.pl (.int (rs / ((ls.length:Nat):Int))),.ac (zae (es++[ls[at_]])),.pl (.int (es.length:Int)),.pl (.int (at_:Int))]):=by
   simp only[zgp,zae,eVar,qAP,qAG,qD]
   rw[if_pos ⟨by omega,by omega,by rw[qC];omega,by decide⟩,qA3,qS,qK hk]
   simp[zrd]
  rw[zaq st1 (zaq st2 st3),qD]
  rw[show(es++[ls[at_]]).length=es.length+1 by simp]at q
  exact q
theorem zaju{cs:List Int}{xs:List Str}(hle:xs.length<=cs.length)(h12:xs.length<=12)(nd:xs.Nodup):∃W,zie [zgv cs,zae xs]=some (webD W,true)/\nm W=xs/\WebOk W:=by
 have loop:∃env',forL (gT 2 (zej 3 (zej 4 zqh))) (sSeq (sSet 5 (eSl (eVar 1) zlp (zfz (eVar 3))))
  (sSeq (sSet 6 (eOp zeo (eIxV 0 (eVar 3)) (eC (.int 5))))
  (sSeq (sSet 7 (eLst aNil))
  (sSeq (sFor (zgn (zaa (eCB minD (zaa (eOp modD (eIxV 0 (eVar 3)) (eC (.int 5))) (zaa (eVar 3) aNil))) aNil)) (gN 8)
  (sSeq (sSet 9 (eOp modD (eVar 6) (eCB lenD (zaa (eVar 5) aNil))))
  (sSeq (sSet 6 (eOp zeo (eVar 6) (eCB lenD (zaa (eVar 5) aNil))))
  (zgp 7 5 (eVar 9)))))
  (sApp 2 (eTup (zaa (eVar 4) (zaa (eVar 7) aNil)))))))) ((xs.zipIdx).map λ(p:Str×Nat)=>PyData.tuple [.int (p.2:Int),.str p.1]) [.pl (zgv cs),.pl (zae xs),.ac (webD []),.no,.no,.no,.no,.no,.no,.no]=some (.nx env')/\
   ∃W s3 s4 s5 s6 s7 s8 s9,env'=[.pl (zgv cs),.pl (zae xs),.ac (webD W),s3,s4,s5,s6,s7,s8,s9]/\nm W=(xs.zipIdx).map (λp:Str×Nat=>p.1)/\WebOk W:=by
  refine zmt (λpre env=>∃W s3 s4 s5 s6 s7 s8 s9,env=[.pl (zgv cs),.pl (zae xs),.ac (webD W),s3,s4,s5,s6,s7,s8,s9]/\nm W=pre.map (λp:Str×Nat=>p.1)/\WebOk W) ⟨[],_,_,_,_,_,_,_,rfl,rfl,zajt⟩ ?_
  rintro pre ⟨n,i⟩ post env hp ⟨W,s3,s4,s5,s6,s7,s8,s9,rfl,hnm,ok⟩
  have hz:(xs.zipIdx)[pre.length]?=some (n,i):=by rw[<- hp];simp
  rw[qDF]at hz
  have hi:i=pre.length/\xs[pre.length]?=some n:=by
   cases e:xs[pre.length]? with
   | none=>rw[e]at hz;cases hz
   | some y=>rw[e]at hz;simp at hz;exact⟨by omega,by rw[hz.1]⟩
  obtain⟨rfl,hn⟩:=hi
  have hix:pre.length<xs.length:=(qM.mp hn).1
  have hic:pre.length<cs.length:=by omega
  have hpre:pre.map (λp:Str×Nat=>p.1)=xs.take pre.length:=by
   have e1:(xs.zipIdx).map (λp:Str×Nat=>p.1)=xs:=qDK 0 xs
   have e2:=congrArg (λl:List (Str×Nat)=>(l.map (λp:Str×Nat=>p.1)).take pre.length) hp
   simp only[e1]at e2
   rw[<- e2,qAN,qAi (by simp),<- qBp,qCL]
  have hWl:W.length=pre.length:=by
   have:=congrArg List.length hnm
   unfold nm at this
   simpa using this
  have gc:∀{env:DEnv},env[0]?=some (.pl (zgv cs))->env[3]?=some (.pl (.int (pre.length:Int)))->eIxV 0 (eVar 3) env=some (vi cs[pre.length]):=λ{env} h0 h3=>
   zasj (ds:=cs.map .int) h0 (by unfold eVar;rw[h3]) (by rw[qS,qK hic];rfl)
  have m5:=qAB cs[pre.length] (show(5:Int)≠0 by decide)
  have m5':=qAD cs[pre.length] (show(0:Int)<5 by decide)
  generalize eN:(if((pre.length:Nat):Int)<cs[pre.length] % 5 then((pre.length:Nat):Int)else cs[pre.length] % 5)=N
  have hN:0<=N/\N<=pre.length/\N<=4:=by rw[<- eN];split<;>omega
  have tl:(xs.take pre.length).length=pre.length:=by rw[qA9];omega
  obtain⟨es,s5',s6',s8',s9',q,_,⟨ls,pm⟩,hes⟩:=zza (A:=.pl (zgv cs)) (B:=.pl (zae xs)) (C:=.ac (webD W)) (kk:=pre.length) (nn:=.pl (.str n)) (xs:=xs.take pre.length) (by omega) N.toNat (xs.take pre.length) [] (cs[pre.length] / 5) s8 s9 (qCJ _) (by simp;omega) (by omega)
  have ndT:(xs.take pre.length).Nodup:=nd.sublist (List.take_sublist _ _)
  have ndE:es.Nodup:=(qAY.mp (pm.nodup_iff.mpr ndT)).1
  have subE:∀e∈es,e∈nm W:=λe he=>by rw[hnm,hpre];exact pm.mem_iff.mp (qy _ he)
  have nW:n∉nm W:=by
   rw[hnm,hpre]
   intro hm
   obtain⟨j,hj,ej⟩:=qB9 hm
   rw[List.getElem_take]at ej
   obtain⟨hh,en⟩:=qM.mp hn
   have:=zawk nd (ej.trans en.symm)
   rw[tl]at hj
   omega
  refine⟨_,[.pl (zgv cs),.pl (zae xs),.ac (webD (W++[(n,es)])),.pl (.int (pre.length:Int)),.pl (.str n),s5',s6',.pl (zae es),s8',s9'],rfl,.inl ?_,W++[(n,es)],_,_,_,_,_,_,_,rfl,by rw[zfu,hnm];simp,zrc ok nW subE (by rw[hes];simp;omega) (by omega)⟩
  have st5:sSet 5 (eSl (eVar 1) zlp (zfz (eVar 3))) [.pl (zgv cs),.pl (zae xs),.ac (webD W),.pl (.int (pre.length:Int)),.pl (.str n),s5,s6,s7,s8,s9]=some (.nx [.pl (zgv cs),.pl (zae xs),.ac (webD W),.pl (.int (pre.length:Int)),.pl (.str n),.ac (zae (xs.take pre.length)),s6,s7,s8,s9]):=by
   have:eSl (eVar 1) zlp (zfz (eVar 3)) [.pl (zgv cs),.pl (zae xs),.ac (webD W),.pl (.int (pre.length:Int)),.pl (.str n),s5,s6,s7,s8,s9]=some ⟨zae (xs.take pre.length),true,[]⟩:=by
    simp only[eSl,eVar,zlp,zfz,qAP,qAG,qD,zae,slD]
    rw[zaso _ _ (by rw[qC];omega),<- qBp]
    simp[bsOf,zev]
   exact zcf this
  refine zaq st5 (zaq (zcf (r:=vi _) (zra (gc rfl rfl) rfl (by decide) (by decide))) (zaq rfl (zaq (zyr (ds:=(List.range' ([]:List Str).length N.toNat).map λ(k:Nat)=>PyData.int (k:Int)) (bs:=[]) ?_ q) ?_)))
  ·have:eCB minD (zaa (eOp modD (eIxV 0 (eVar 3)) (eC (.int 5))) (zaa (eVar 3) aNil)) [.pl (zgv cs),.pl (zae xs),.ac (webD W),.pl (.int (pre.length:Int)),.pl (.str n),.ac (zae (xs.take pre.length)),.pl (.int (cs[pre.length] / 5)),.ac (.list []),s8,s9]=some (vi N):=by
    unfold eCB zaa
    rw[zjo (gc rfl rfl) (j:=5) rfl (by decide)]
    show((minD [.int (cs[pre.length] % 5),.int ((pre.length:Nat):Int)]).bind λz=>some (⟨z.1,z.2,bsOf z.1 _⟩:Val))=_
    unfold minD
    simp only[qD]
    rw[eN];rfl
   show zgn _ [.pl (zgv cs),.pl (zae xs),.ac (webD W),.pl (.int (pre.length:Int)),.pl (.str n),.ac (zae (xs.take pre.length)),.pl (.int (cs[pre.length] / 5)),.ac (.list []),s8,s9]=_
   unfold zgn
   rw[zgs this]
   simp only[qD]
   rw[if_pos ⟨by omega,by omega⟩,zrb,qDE]
   rfl
  ·have lz:(W.map rowD).length<100000:=by rw[qC];omega
   simp only[sApp,webD,eTup,zaa,aNil,eVar,qAP,qAG,qD,qAd,zfn,bss]
   rw[if_pos (by simp)]
   simp only[qD]
   rw[if_pos ⟨lz,by simp⟩]
   simp[frzs,frz1,rowD,zae]
 obtain⟨env',hl,W,s3,s4,s5,s6,s7,s8,s9,rfl,hnm,ok⟩:=loop
 refine⟨W,zjn (env:=[.pl (zgv cs),.pl (zae xs),.no,.no,.no,.no,.no,.no,.no,.no]) rfl (zaq rfl (zaq (zyr (ds:=(xs.zipIdx).map λ(p:Str×Nat)=>PyData.tuple [.int (p.2:Int),.str p.1]) (bs:=[]) ?_ hl) rfl)),hnm.trans (qDK 0 xs),ok⟩
 unfold zadg
 rw[zgs (r:=⟨zae xs,false,[]⟩) rfl]
 simp only[qD,zae]
 rw[zane]
section
variable{a b:EF}{env:DEnv}{x y:Str}
theorem zasp(ha:a env=some (vs x))(hb:b env=some (vs y)):eOp neD a b env=some (vb (!(x==y))):=by
 unfold eOp;rw[ha,hb];rfl
theorem e_in(ha:a env=some (vs x))(hb:b env=some ⟨zae xs,fr,bs⟩):eOp (inD neg) a b env=some (vb (if neg then !decide (x∈xs)else decide (x∈xs))):=by
 unfold eOp;rw[ha,hb];simp[zabk,bsOf,zev]
theorem ztv(he:env[k]?=some (.pl (.dict kvs))\/env[k]?=some (.ac (.dict kvs)))(hb:b env=some (vs y))(hd:zln kvs (Sum.inr y)=some d):zco k b env=some ⟨d,false,[]⟩:=by
 unfold zco
 rcases he with he|he<;>rw[he]<;>simp only<;>rw[hb]<;>simp[keyD,hd]
theorem zzb(ha:a env=some (vs x))(hb:b env=some ⟨zbi ks,fr,bs⟩):eDIn neg a b env=some (vb (if neg then !decide (x∈ks)else decide (x∈ks))):=by
 unfold eDIn;rw[ha,hb];simp[zbi,keyD,zyu]
theorem zajv{l:List α}(h:l≠[]):atI l (-1)=some (l.getLast h):=by
 have:=zakz l.dropLast (l.getLast h)
 rwa [qCS h]at this
theorem zasq{ds:List PyData}(he:env[k]?=some (.pl (.list ds)))(h:ds≠[]):eIxV k (eNeg (eC (.int 1))) env=some ⟨ds.getLast h,false,[]⟩:=by
 unfold eIxV
 rw[he]
 unfold eOp eVar eNeg eC
 rw[he]
 simp only[qD,ixD]
 rw[zajv h]
 simp[bsOf]
theorem zasr{ds:List PyData}(he:env[k]?=some (.ac (.list ds)))(h:ds≠[]):eIxV k (eNeg (eC (.int 1))) env=some ⟨ds.getLast h,false,[]⟩:=by
 unfold eIxV eNeg eC
 rw[he]
 simp only[qD]
 rw[zajv h];rfl
end
theorem zajw:∀(W:Web),(nm W).Nodup->zhg [] (dS zae W)=dS zae W:=by
 refine zod (λ_=>rfl) λW p ih h=>?_
 rw[zfu]at h
 have e:dS zae (W++[p])=dS zae W++[(.str p.1,zae p.2)]:=by unfold dS;rw[qAN];rfl
 rw[e]
 unfold zhg at ih ⊢
 rw[qCG,ih (qAY.mp h).1,<- e]
 exact zajj zae λhm=>(qAY.mp h).2.2 p.1 hm p.1 (by simp) rfl
theorem zzc:∀(W:Web),ztq (W.map rowD)=some (dS zae W)
 | []=>rfl
 | p::W=>by
  rw[qh]
  unfold rowD ztq
  simp only[keyD,qD]
  rw[show W.map (λp=>PyData.tuple [.str p.1,zae p.2])=W.map rowD from rfl,zzc W]
  rfl
theorem zvx(h:(nm W).Nodup):zny [webD W]=some (.dict (dS zae W),true):=by
 unfold zny webD
 simp only
 rw[zzc,qAd,zajw W h]
theorem zzd:∀{W:Web},W.lookup n=some es->W[(nm W).idxOf n]?=some (n,es)
 | [],h=>by cases h
 | (a,b)::W,h=>by
  rw[qt]at h
  show((a,b)::W)[(a::nm W).idxOf n]?=_
  rw[List.idxOf_cons]
  cases e:n==a with
  | true=>
   rw[e]at h
   cases h
   rw[<- eq_of_beq e]
   simp
  | false=>
   rw[e]at h
   have hne:(a==n)=false:=by
    have:=beq_eq_false_iff_ne.mp e
    exact beq_eq_false_iff_ne.mpr (qAk this)
   rw[hne]
   simpa using zzd (W:=W) h
theorem zanf{l:List Str}(h:x∈l.take n):l.idxOf x<n:=by
 have:l.idxOf x=(l.take n).idxOf x:=by
  conv=>lhs;rw[<- qBy n l]
  rw[List.idxOf_append,if_pos h]
 rw[this]
 have h2:=qCY h
 rw[qA9]at h2
 omega
theorem zadt(h:WebOk W)(he:e∈upL W n):e∈nm W/\(nm W).idxOf e<(nm W).idxOf n:=by
 unfold upL at he
 cases hl:W.lookup n with
 | none=>rw[hl]at he;simp at he
 | some es=>
  rw[hl]at he
  have hi:=zzd hl
  have q:=h.el _ _ _ hi e he
  have:nm (W.take ((nm W).idxOf n))=(nm W).take ((nm W).idxOf n):=by unfold nm;rw[qBp]
  rw[this]at q
  exact⟨qB3 q,zanf q⟩
theorem zre{W:Web}(h:n∈nm W):∃es,W.lookup n=some es/\(n,es)∈W:=zfe (l:=W) (n:=n) h
theorem zajx(h:WebOk W)(hn:n∈nm W):x∈up W n↔x=n\/∃e∈upL W n,x∈up W e:=by
 obtain⟨es,hl,hm⟩:=zre hn
 rw[zys h hm]
 unfold upL
 rw[hl];rfl
noncomputable def Walk(W:Web):Str->List Str->Str->Prop
 | c,[],o=>c=o
 | c,d::q,o=>d∈upL W c/\Walk W d q o
theorem zajy(h:WebOk W):∀{q:List Str}{c o:Str},c∈nm W->Walk W c q o->o∈up W c
 | [],c,_,hc,w=>by rw[<- (show c=_ from w)];exact zvu h hc
 | d::q,c,o,hc,w=>(zajx h hc).mpr (.inr ⟨d,w.1,zajy h (zadt h w.1).1 w.2⟩)
theorem zih(h:n∈nm W):(ups W).lookup n=some (up W n):=by
 obtain⟨ks,e,_⟩:=zfe (l:=ups W) (n:=n) (by rw[zis];exact h)
 unfold up upL
 rw[e];rfl
noncomputable abbrev zawl:TF:=zbc (eOp neD (eIxV 5 (eNeg (eC (.int 1)))) (eVar 2))
noncomputable abbrev zass:SF:=sSeq (sSet 6 (zgo ["elder"] [2,3] (zbv (zco 4 (eIxV 5 (eNeg (eC (.int 1)))))) (gN 0) (zbc (eDIn false (eVar 1) (zco 2 (eVar 0)))) (eVar 0))) (sApp 5 (eIxV 6 (eC (.int 0))))
theorem ztw(h:WebOk W):∀(m:Nat)(pre:List Str)(c:Str)(s6:Sl),(nm W).idxOf c<m->c∈nm W->o∈up W c->pre.length+(nm W).idxOf c<1000->
  ∃q s6',zka zawl zass m [.pl (webD W),.pl (.str k),.pl (.str o),.ac (.dict (dS zbi (ups W))),.ac (.dict (dS zae W)),.ac (zae (pre++[c])),s6] =
   some (.nx [.pl (webD W),.pl (.str k),.pl (.str o),.ac (.dict (dS zbi (ups W))),.ac (.dict (dS zae W)),.ac (zae (pre++c::q)),s6'])/\Walk W c q o/\q.length<=(nm W).idxOf c
 | 0,_,_,_,hm,_,_,_=>by omega
 | m+1,pre,c,s6,hm,hc,ho,hpl=>by
  have ne:(pre++[c]).map PyData.str≠[]:=by simp
  have lst:((pre++[c]).map PyData.str).getLast ne=.str c:=by rw[List.getLast_map];simp
  have e5:∀s6,eIxV 5 (eNeg (eC (.int 1))) [.pl (webD W),.pl (.str k),.pl (.str o),.ac (.dict (dS zbi (ups W))),.ac (.dict (dS zae W)),.ac (zae (pre++[c])),s6]=some (vs c):=λs6=>by
   rw[zasr (ds:=(pre++[c]).map PyData.str) rfl ne,lst]
  have ec:zawl [.pl (webD W),.pl (.str k),.pl (.str o),.ac (.dict (dS zbi (ups W))),.ac (.dict (dS zae W)),.ac (zae (pre++[c])),s6]=some (!(c==o)):=zde (zasp (e5 s6) rfl)
  by_cases hco:c=o
  ·refine⟨[],s6,?_,hco,qAK _⟩
   unfold zka
   rw[ec,hco,beq_self_eq_true]
   rfl
  ·obtain⟨es,hl,hmem⟩:=zre hc
   have eu:upL W c=es:=by unfold upL;rw[hl];rfl
   have hex:∃e∈es,o∈up W e:=by
    rcases(zajx h hc).mp ho with z|⟨e,he,hz⟩
    ·exact absurd z.symm hco
    ·exact⟨e,by rw[<- eu];exact he,hz⟩
   have cp:zew (gN 0) (zbc (eDIn false (eVar 1) (zco 2 (eVar 0)))) (eVar 0) [.no,.pl (.str o),.pl (.dict (dS zbi (ups W)))] (es.map .str)=some ((es.filter λe=>decide (o∈up W e)).map PyData.str):=
    zek (λe=>decide (o∈up W e)) λe he=>by
     have hen:e∈nm W:=(zadt h (by rw[eu];exact he)).1
     refine⟨[.pl (.str e),.pl (.str o),.pl (.dict (dS zbi (ups W)))],rfl,zde ?_,λ_=>⟨vs e,rfl,rfl⟩⟩
     exact zzb rfl (ztv (d:=zbi (up W e)) (.inl rfl) rfl (by rw[zhi,zih hen];rfl))
   generalize hf:es.filter (λe=>decide (o∈up W e))=fs at cp
   have hfs:fs≠[]:=by
    obtain⟨e,he,hz⟩:=hex
    rw[<- hf]
    exact List.ne_nil_of_mem (qBI.mpr ⟨he,decide_eq_true hz⟩)
   obtain⟨d,ds,rfl⟩:∃d ds,fs=d::ds:=by
    cases fs with
    | nil=>exact absurd rfl hfs
    | cons d ds=>exact⟨d,ds,rfl⟩
   have hd:d∈es/\o∈up W d:=by
    have:d∈es.filter (λe=>decide (o∈up W e)):=by rw[hf];exact qp
    obtain⟨z1,z2⟩:=qBI.mp this
    exact⟨z1,of_decide_eq_true z2⟩
   obtain⟨dn,dl⟩:=zadt h (show d∈upL W c by rw[eu];exact hd.1)
   obtain⟨q,s6',ih,hw,hq⟩:=ztw h (k:=k) m (pre++[c]) d (.ac (zae (d::ds))) (by omega) dn hd.2 (by simp;omega)
   refine⟨d::q,s6',?_,⟨by rw[eu];exact hd.1,hw⟩,by simp;omega⟩
   have st6:sSet 6 (zgo ["elder"] [2,3] (zbv (zco 4 (eIxV 5 (eNeg (eC (.int 1)))))) (gN 0) (zbc (eDIn false (eVar 1) (zco 2 (eVar 0)))) (eVar 0)) [.pl (webD W),.pl (.str k),.pl (.str o),.ac (.dict (dS zbi (ups W))),.ac (.dict (dS zae W)),.ac (zae (pre++[c])),s6] =
     some (.nx [.pl (webD W),.pl (.str k),.pl (.str o),.ac (.dict (dS zbi (ups W))),.ac (.dict (dS zae W)),.ac (zae (pre++[c])),.ac (zae (d::ds))]):=by
    have gi:zbv (zco 4 (eIxV 5 (eNeg (eC (.int 1))))) [.pl (webD W),.pl (.str k),.pl (.str o),.ac (.dict (dS zbi (ups W))),.ac (.dict (dS zae W)),.ac (zae (pre++[c])),s6]=some (es.map .str,[]):=by
     unfold zbv
     rw[ztv (d:=zae es) (.inr rfl) (e5 s6) (by rw[zhi,hl];rfl)];rfl
    have hes4:=h.few _ hmem
    have:=zcf (i:=6) (zob (own:=["elder"]) (fr:=[2,3]) gi (by rw[qC];show es.length<100000;have:es.length<=4:=hes4;omega) cp)
    rw[this,if_pos (zoc _)]
    rfl
   have st5:sApp 5 (eIxV 6 (eC (.int 0))) [.pl (webD W),.pl (.str k),.pl (.str o),.ac (.dict (dS zbi (ups W))),.ac (.dict (dS zae W)),.ac (zae (pre++[c])),.ac (zae (d::ds))] =
     some (.nx [.pl (webD W),.pl (.str k),.pl (.str o),.ac (.dict (dS zbi (ups W))),.ac (.dict (dS zae W)),.ac (zae (pre++[c]++[d])),.ac (zae (d::ds))]):=by
    rw[zads (ds:=(pre++[c]).map PyData.str) (d:=.str d) (fr:=false) rfl (zawi (n:=0) rfl rfl rfl) (by rw[qC];simp;omega)]
    simp[zae]
   unfold zka
   rw[ec,beq_eq_false_iff_ne.mpr hco,qD]
   show((zass _).bind _)=_
   rw[show zass [.pl (webD W),.pl (.str k),.pl (.str o),.ac (.dict (dS zbi (ups W))),.ac (.dict (dS zae W)),.ac (zae (pre++[c])),s6]=_ from zaq st6 st5,qD]
   have e2:pre++[c]++d::q=pre++c::d::q:=by simp
   rw[e2]at ih
   exact ih
theorem chk2(h:WebOk W)(hk:k∈nm W)(ho:o∈nm W)(h0:env[0]?=some (.pl (webD W)))(h1:env[1]?=some (.pl (.str k)))(h2:env[2]?=some (.pl (.str o))) :
  zlr (zbj 2 zbg (zaa (eVar 0) (zaa (eLst (zaa (eVar 1) (zaa (eVar 2) aNil))) aNil))) env=some (.nx env):=by
 refine zvs (r:=⟨.none,false,[]⟩) ?_
 have e0:eVar 0 env=some ⟨webD W,false,[]⟩:=by unfold eVar;rw[h0]
 have e1:eVar 1 env=some (vs k):=by unfold eVar;rw[h1]
 have e2:eVar 2 env=some (vs o):=by unfold eVar;rw[h2]
 have ea:zaa (eVar 0) (zaa (eLst (zaa (eVar 1) (zaa (eVar 2) aNil))) aNil) env=some [⟨webD W,false,[]⟩,⟨zae [k,o],true,[]⟩]:=by
  simp only[zaa,eLst,aNil]
  rw[e0,e1,e2]
  rfl
 have hw:W.length<100000:=by have:=h.len;omega
 rw[zby (n:=2) ea rfl (zgc hw (ns:=[k,o]) (by intro n hn;simp at hn;rcases hn with rfl|rfl<;>assumption))]
 rfl
theorem zawm{W:Web}(h:WebOk W)(hk:k∈nm W)(ho:o∈nm W) :
  (o∉up W k->zmr [webD W,.str k,.str o]=some (.none,false))/\(o∈up W k->∃q,zmr [webD W,.str k,.str o]=some (zae (k::q),true)/\Walk W k q o/\q.length<W.length):=by
 have s3:sSet 3 (zbj 1 zdb (zaa (eVar 0) aNil)) [.pl (webD W),.pl (.str k),.pl (.str o),.no,.no,.no,.no]=some (.nx [.pl (webD W),.pl (.str k),.pl (.str o),.ac (.dict (dS zbi (ups W))),.no,.no,.no]):=
  zcf (r:=⟨.dict (dS zbi (ups W)),true,[]⟩) (zby (rs:=[⟨webD W,false,[]⟩]) rfl rfl (zkz h))
 have tst:zbc (eDIn true (eVar 2) (zco 3 (eVar 1))) [.pl (webD W),.pl (.str k),.pl (.str o),.ac (.dict (dS zbi (ups W))),.no,.no,.no]=some (!decide (o∈up W k)):=
  zde (zzb rfl (ztv (d:=zbi (up W k)) (.inr rfl) rfl (by rw[zhi,zih hk];rfl)))
 refine⟨λhn=>?_,λhy=>?_⟩
 ·rw[decide_eq_false hn]at tst
  exact zjn (env:=[.pl (webD W),.pl (.str k),.pl (.str o),.no,.no,.no,.no]) rfl (zaq (chk2 h hk ho rfl rfl rfl) (zaq s3 (zyq (if_t tst rfl))))
 ·rw[decide_eq_true hy]at tst
  have hidx:(nm W).idxOf k<W.length:=by have:=qCY hk;unfold nm at this ⊢;rwa [qC]at this
  have hW:=h.len
  obtain⟨q,s6',hwh,hw,hq⟩:=ztw h (k:=k) (o:=o) 1000 [] k .no (by omega) hk hy (by simp;omega)
  refine⟨q,?_,hw,by omega⟩
  have s4:sSet 4 (eCB zny (zaa (eVar 0) aNil)) [.pl (webD W),.pl (.str k),.pl (.str o),.ac (.dict (dS zbi (ups W))),.no,.no,.no]=some (.nx [.pl (webD W),.pl (.str k),.pl (.str o),.ac (.dict (dS zbi (ups W))),.ac (.dict (dS zae W)),.no,.no]):=by
   refine zcf (r:=⟨.dict (dS zae W),true,[]⟩) ?_
   unfold eCB
   rw[zgs (r:=⟨webD W,false,[]⟩) rfl]
   show((zny [webD W]).bind _)=_
   rw[zvx h.nd];rfl
  exact zjn (env:=[.pl (webD W),.pl (.str k),.pl (.str o),.no,.no,.no,.no]) rfl (zaq (chk2 h hk ho rfl rfl rfl) (zaq s3 (zaq (if_f tst rfl) (zaq s4 (zaq rfl (zaq hwh rfl))))))
theorem c1:-(2 ^ 62)<=(1:Int):=by omega
theorem c2:(1:Int)<2 ^ 62:=by omega
theorem c3{n:Nat}(h:n<100000):-(2 ^ 62)<=(n:Int):=by omega
theorem c4{n:Nat}(h:n<100000):(n:Int)<2 ^ 62:=by omega
theorem zafa(n:Nat):zjz 1 n=(List.range n).map (λ(k:Nat)=>PyData.int ((k+1:Nat):Int)):=by
 unfold zjz
 refine qB8 λk _=>?_
 show PyData.int (1+(k:Int))=PyData.int ((k+1:Nat):Int)
 congr 1
 omega
theorem zcp{a:EF}{f:AF}{env:DEnv}{r:Val}{rs:List Val}(ha:a env=some r)(hf:f env=some rs):zaa a f env=some (r::rs):=by unfold zaa;rw[ha,hf];rfl
theorem it2{a b:EF}{env:DEnv}{i j:Int}(ha:a env=some (vi i))(hb:b env=some (vi j))(h:-(2 ^ 62)<=i/\i<2 ^ 62/\-(2 ^ 62)<=j/\j<2 ^ 62):znw (zaa a (zaa b aNil)) env=some (zjz i (j - i).toNat,[]):=by
 unfold znw
 rw[zcp ha (zgs hb)]
 simp only[qD]
 exact if_pos h
theorem zajz{env:DEnv}{k:Nat}{xs:List Str}(h:env[k]?=some (.pl (zae xs))\/env[k]?=some (.ac (zae xs)))(h0:0<xs.length)(hl:xs.length<100000):znw (zaa (eC (.int 1)) (zaa (eCB lenD (zaa (eVar k) aNil)) aNil)) env=some ((List.range (xs.length - 1)).map (λ(k:Nat)=>PyData.int ((k+1:Nat):Int)),[]):=by
 have e:eCB lenD (zaa (eVar k) aNil) env=some (vi xs.length):=by
  rcases h with h|h
  ·rw[zmv (ds:=xs.map .str) (fr:=false) (bs:=[]) (by unfold eVar;rw[h];rfl),qC]
  ·rw[zmv (ds:=xs.map .str) (fr:=false) (bs:=[k]) (by unfold eVar;rw[h];rfl),qC]
 have e2:((xs.length:Int) - 1).toNat=xs.length - 1:=by omega
 rw[it2 (i:=1) rfl e ⟨c1,c2,c3 hl,c4 hl⟩,e2,zafa]
theorem zaka{f:EF}{env:DEnv}{c:Bool}(h:f env=some (vb c)):zjx (tTru f) env=some (!c):=by unfold zjx tTru;rw[h];rfl
theorem zang(cs:List Int)(a b:Nat)(h:b<=cs.length)(hab:a<=b):cutD (cs.map .int) (some (a:Int)) (some (b:Int))=((cs.drop a).take (b - a)).map .int:=by
 unfold cutD
 have e1:min a cs.length=a:=by omega
 have e2:min b cs.length=b:=by omega
 rw[HT.sIx_nat,HT.sIx_nat,qC,e1,e2,<- List.map_drop,<- qBp]
theorem zrf{env:DEnv}{cs:List Int}{b:EF}{n:Nat}(h1:env[1]?=some (.pl (zgv cs)))(hb:b env=some (vi (n:Int)))(hn:n<cs.length):eIxV 1 b env=some (vi (cs[n]'hn)):=
 zasj (ds:=cs.map .int) h1 hb (by rw[qS,qK hn];rfl)
theorem zanh{W:Web}:zew (gT 2 (zej 0 (zej 1 zqh))) zml (eTup (zaa (eVar 0) (zaa (eCB zaaz (zaa (eVar 1) aNil)) aNil))) [.no,.no] (W.map rowD)=some (W.map rowD):=
 zms λp _=>⟨[.pl (.str p.1),.pl (zae p.2)],rfl,rfl,⟨rowD p,false,[]⟩,rfl,rfl⟩
theorem zvy:∀(xs:List Str),(∀x∈xs,qAH x=true)->qAc (xs.map .str)=true/\qAr (xs.map .str)=0
 | [],_=>⟨rfl,rfl⟩
 | x::xs,h=>by
  obtain⟨h1,h2⟩:=zvy xs λy hy=>h y (qN _ hy)
  rw[qh]
  refine⟨?_,?_⟩
  ·show(qAH x&&qAc (xs.map .str))=true
   rw[h x qp,h1];rfl
  ·show max 0 (qAr (xs.map .str))=0
   rw[h2];rfl
theorem zadu:∀(W:Web),(∀p∈W,qAH p.1=true/\∀e∈p.2,qAH e=true)->qAc (W.map rowD)=true/\qAr (W.map rowD)<=2
 | [],_=>⟨rfl,qAK _⟩
 | p::r,h=>by
  obtain⟨h1,h2⟩:=zadu r λq hq=>h q (qN _ hq)
  obtain⟨g1,g2⟩:=h p qp
  obtain⟨l1,l2⟩:=zvy p.2 g2
  rw[qh]
  constructor
  ·show((qAH p.1&&(qAc (p.2.map .str)&&true))&&qAc (r.map rowD))=true
   rw[g1,l1,h1];rfl
  ·show max (max 0 (max (qAr (p.2.map .str)+1) 0)+1) (qAr (r.map rowD))<=2
   rw[l2]
   omega
theorem zafb(h:∀p∈W,qAH p.1=true/\∀e∈p.2,qAH e=true):qAo (webD W)=true:=by
 obtain⟨h1,h2⟩:=zadu W h
 unfold qAo webD
 rw[qAA]
 refine⟨h1,decide_eq_true ?_⟩
 show qAr (W.map rowD)+1<=64
 omega
theorem zast(h:WebOk W)(hl:∀x∈nm W,Low x):∀p∈W,qAH p.1=true/\∀e∈p.2,qAH e=true:=λp hp=>
 ⟨zds (hl _ (qA1.mpr ⟨p,hp,rfl⟩)),λe he=>zds (hl e (zmu h (n:=p.1) (es:=p.2) hp e he))⟩
noncomputable def zkl:SF:=(sSeq (sIf (zjx (tTru (eCB (anyD λbs=>bs.all id) (zaa (zgo ["thing"] [0] (zbv (eVar 1)) (gN 0) zml (eOp (inD false) (eVar 0) (eVar 1))) aNil)))) (sRet (eC (.bool false))) sNil)
  (sRet (eOp eqD (zvk (eVar 1)) (eCB lenD (zaa (eVar 1) aNil)))))
noncomputable def zdt:GF:=fnD 2 zkl
noncomputable def ztx:SF:=(sSeq (sIf (tTru (eIsi "tuple" (eVar 0))) (sRet (eCB zaaz (zaa (eVar 0) aNil))) sNil)
  (sRet (eLst (zaa (eVar 0) aNil))))
noncomputable def zel:GF:=fnD 1 ztx
noncomputable def zze:SF:=(sSeq (sSet 2 zaqq)
  (sSeq (sFor (zbv (zbj 1 zel (zaa (eVar 1) aNil))) (gN 3)
  (sUpd 2 (zco 0 (eVar 3))))
  (zqg 2)))
noncomputable def zkm:GF:=fnD 4 zze
noncomputable def zakb:SF:=(sSeq (zlr (zbj 2 zbg (zaa (eVar 0) (zaa (zbj 1 zel (zaa (eVar 1) aNil)) aNil))))
  (sSeq (sSet 2 (zbj 2 zkm (zaa (zbj 1 zdb (zaa (eVar 0) aNil)) (zaa (eVar 1) aNil))))
  (sRet (zgo ["name"] [2] (zbv (zbj 1 zda (zaa (eVar 0) aNil))) (gN 0) (zbc (eDIn false (eVar 0) (eVar 1))) (eVar 0)))))
noncomputable def zrg:GF:=fnD 3 zakb
noncomputable def zakc:SF:=(sSeq (zlr (zbj 2 zbg (zaa (eVar 0) (zaa (eLst (zaa (eVar 1) (zaa (eVar 2) aNil))) aNil))))
  (sSeq (sSet 3 (zbj 2 zrg (zaa (eVar 0) (zaa (eVar 1) aNil))))
  (sSeq (sIf (zbc (eOp (inD false) (eVar 2) (eVar 3))) (sRet (eC .none)) sNil)
  (zqg 3))))
noncomputable def zkn:GF:=fnD 4 zakc
noncomputable def zty:SF:=(sSeq (zlr (zbj 2 zbg (zaa (eVar 0) (zaa (eLst (zaa (eVar 1) (zaa (eVar 2) aNil))) aNil))))
  (sSeq (sIf (tOrF (zjx (tTru (eIsi "list" (eVar 3)))) (zjx (tTru (zbj 2 zdt (zaa (zbj 1 zda (zaa (eVar 0) aNil)) (zaa (eVar 3) aNil)))))) (sRet (eC (.bool false))) sNil)
  (sSeq (sIf (tOrF (zbc (eOp (inD true) (eVar 1) (eVar 3))) (zbc (eOp (inD false) (eVar 2) (eVar 3)))) (sRet (eC (.bool false))) sNil)
  (sSeq (sSet 4 (eCB zny (zaa (eVar 0) aNil)))
  (sRet (eCB (anyD λbs=>bs.all id) (zaa (zyd ["name","elder"] [3,4] (zbv (eVar 3)) (gN 0) zml (zbv (zco 3 (eVar 0))) (gN 1) zml (eOp (inD false) (eVar 1) (eVar 2))) aNil)))))))
noncomputable def zgh:GF:=fnD 5 zty
noncomputable def hdg(W:Web)(n:Str):List Str:=(nm W).filter λx=>decide (x∈up W n)
theorem zasu(h:WebOk W):x∈hdg W n↔x∈up W n:=by
 unfold hdg;rw[qBI,decide_eq_true_iff];exact⟨λz=>z.2,λz=>⟨zyt h z,z⟩⟩
theorem ztz(n:Str):zel [.str n]=some (zae [n],true):=rfl
theorem zakd(h:WebOk W)(hn:n∈nm W):zkm [.dict (dS zbi (ups W)),.str n]=some (zbi ((up W n).foldl insS []),true):=by
 have b:sUpd 2 (zco 0 (eVar 3)) [.pl (.dict (dS zbi (ups W))),.pl (.str n),.ac (zbi []),.pl (.str n)]=some (.nx [.pl (.dict (dS zbi (ups W))),.pl (.str n),.ac (zbi ((up W n).foldl insS [])),.pl (.str n)]):=by
  have l:=zaow h n
  have lz:(zgw []).length+(zgw (up W n)).length<=100000:=by unfold zgw;rw[qC,qC];simp;omega
  simp only[sUpd,zbi,zco,eVar,qAP,qAG,qD,keyD,zhi,zih hn,qAd]
  rw[if_pos ⟨lz,by simp⟩,zlv]
  simp[frzs]
 have lp:forL (gN 3) (sUpd 2 (zco 0 (eVar 3))) [.str n] [.pl (.dict (dS zbi (ups W))),.pl (.str n),.ac (zbi []),.no]=some (.nx [.pl (.dict (dS zbi (ups W))),.pl (.str n),.ac (zbi ((up W n).foldl insS [])),.pl (.str n)]):=by
  unfold forL
  simp only[gN,qD,qBG,qBF]
  rw[b];rfl
 exact zjn (env:=[.pl (.dict (dS zbi (ups W))),.pl (.str n),.no,.no]) rfl (zaq rfl (zaq (for_list (zby (n:=1) (rs:=[vs n]) rfl rfl (ztz n)) lp) rfl))
theorem zasv(h:WebOk W)(hn:n∈nm W):zrg [webD W,.str n]=some (zae (hdg W n),true):=by
 have hl:=zxl h
 have hW:W.length<=12:=h.len
 have e1:zlr (zbj 2 zbg (zaa (eVar 0) (zaa (zbj 1 zel (zaa (eVar 1) aNil)) aNil))) [.pl (webD W),.pl (.str n),.no]=some (.nx [.pl (webD W),.pl (.str n),.no]):=
  zvs (zby (n:=2) (rs:=[⟨webD W,false,[]⟩,⟨zae [n],true,[]⟩]) (zcp rfl (zgs (zby (n:=1) (rs:=[vs n]) rfl rfl (ztz n)))) rfl (zgc (by omega) (by simpa using hn)))
 have e2:sSet 2 (zbj 2 zkm (zaa (zbj 1 zdb (zaa (eVar 0) aNil)) (zaa (eVar 1) aNil))) [.pl (webD W),.pl (.str n),.no]=some (.nx [.pl (webD W),.pl (.str n),.ac (zbi ((up W n).foldl insS []))]):=
  zcf (r:=⟨zbi ((up W n).foldl insS []),true,[]⟩) (zby (n:=2) (rs:=[⟨.dict (dS zbi (ups W)),true,[]⟩,vs n]) (zcp (zby (n:=1) (rs:=[⟨webD W,false,[]⟩]) rfl rfl (zkz h)) (zgs rfl)) rfl (zakd h hn))
 have c:zew (gN 0) (zbc (eDIn false (eVar 0) (eVar 1))) (eVar 0) [.no,.pl (zbi ((up W n).foldl insS []))] ((nm W).map .str)=some ((hdg W n).map .str):=by
  have q:=zek (enc:=PyData.str) (out:=PyData.str) (g:=gN 0) (t:=zbc (eDIn false (eVar 0) (eVar 1))) (e:=eVar 0) (env:=[.no,.pl (zbi ((up W n).foldl insS []))]) (λx=>decide (x∈(up W n).foldl insS [])) (l:=nm W)
   λx _=>⟨[.pl (.str x),.pl (zbi ((up W n).foldl insS []))],rfl,zde (zzb (neg:=false) (fr:=false) (bs:=[]) rfl rfl),λ_=>⟨vs x,rfl,rfl⟩⟩
  rw[q]
  unfold hdg
  congr 3
  funext x
  exact decide_eq_decide.mpr (by rw[zqy];simp)
 have e3:sRet (zgo ["name"] [2] (zbv (zbj 1 zda (zaa (eVar 0) aNil))) (gN 0) (zbc (eDIn false (eVar 0) (eVar 1))) (eVar 0)) [.pl (webD W),.pl (.str n),.ac (zbi ((up W n).foldl insS []))]=some (.rt (zae (hdg W n)) true):=by
  refine ztu (zob (ds:=(nm W).map .str) (bs:=[]) ?_ (by rw[qC];omega) c)
  unfold zbv
  rw[zby (n:=1) (rs:=[⟨webD W,false,[]⟩]) rfl rfl (zif (by omega))]
  rfl
 exact zjn (env:=[.pl (webD W),.pl (.str n),.no]) rfl (zaq e1 (zaq e2 e3))
theorem zasw(h:WebOk W)(hk:k∈nm W)(ho:o∈nm W)(hu:¬o∈up W k):zkn [webD W,.str k,.str o]=some (zae (hdg W k),true):=by
 have s3:sSet 3 (zbj 2 zrg (zaa (eVar 0) (zaa (eVar 1) aNil))) [.pl (webD W),.pl (.str k),.pl (.str o),.no]=some (.nx [.pl (webD W),.pl (.str k),.pl (.str o),.ac (zae (hdg W k))]):=
  zcf (r:=⟨zae (hdg W k),true,[]⟩) (zby (n:=2) (rs:=[⟨webD W,false,[]⟩,vs k]) rfl rfl (zasv h hk))
 have c:zbc (eOp (inD false) (eVar 2) (eVar 3)) [.pl (webD W),.pl (.str k),.pl (.str o),.ac (zae (hdg W k))]=some false:=by
  rw[zde (e_in (neg:=false) (xs:=hdg W k) (fr:=false) (bs:=[3]) rfl rfl),decide_eq_false λz=>hu ((zasu h).mp z)];rfl
 exact zjn (env:=[.pl (webD W),.pl (.str k),.pl (.str o),.no]) rfl (zaq (chk2 h hk ho rfl rfl rfl) (zaq s3 (zaq (if_f c rfl) rfl)))
theorem zaoz:∀(ks seen:List Key),unl seen ks<=ks.length
 | [],_=>qQ _
 | k::ks,seen=>by
  unfold unl
  have:=zaoz ks (k::seen)
  rw[qz]
  split<;>omega
theorem zapa:∀(ks seen:List Key),unl seen ks=ks.length↔ks.Nodup/\∀k∈ks,k∉seen
 | [],_=>by simp[unl]
 | k::ks,seen=>by
  have l:=zaoz ks (k::seen)
  have ih:=zapa ks (k::seen)
  unfold unl
  rw[qz,qAe]
  by_cases hk:k∈seen
  ·rw[if_pos hk]
   constructor
   ·intro z;omega
   ·intro z;exact absurd hk (z.2 k qp)
  ·rw[if_neg hk]
   constructor
   ·intro z
    obtain⟨n,a⟩:=ih.mp (by omega)
    exact⟨⟨λy=>a k y qp,n⟩,λx hx=>by
     rcases qY.mp hx with rfl|hx
     ·exact hk
     ·exact λy=>a x hx (qN _ y)⟩
   ·rintro⟨⟨n1,n2⟩,a⟩
    have:=ih.mpr ⟨n2,λx hx y=>by
     rcases qY.mp y with rfl|y
     ·exact n1 hx
     ·exact a x (qN _ hx) y⟩
    omega
theorem zzf:∀(xs:List Str),zabj (xs.map .str)=some (xs.map Sum.inr)
 | []=>rfl
 | x::xs=>by
  show((keyD (.str x)).bind λk=>(zabj (xs.map .str)).map λks=>k::ks)=_
  rw[zzf xs];rfl
theorem zake:∀(xs:List Str),(xs.map (Sum.inr:Str->Key)).Nodup↔xs.Nodup
 | []=>by simp
 | x::xs=>by
  rw[qh,qAe,qAe,zake xs]
  simp
theorem zzg(f:α->Bool):∀(l:List α),ztl (l.map λx=>.bool (f x))=some (l.map f)
 | []=>rfl
 | x::l=>by
  show(ztl (l.map λx=>.bool (f x))).map _=_
  rw[zzg f l];rfl
theorem zawn{f:α->Bool}{l:List α}{bs:List Nat}(ha:a env=some ⟨.list (l.map λx=>.bool (f x)),fr,bs⟩):eCB (anyD λbs=>bs.all id) (zaa a aNil) env=some (vb (l.all f)):=by
 unfold eCB
 rw[zgs ha,qD]
 show((ztl (l.map λx=>.bool (f x))).map _).bind _=_
 rw[zzg]
 simp only[qAd,qD,qC6]
 rfl
theorem zrh{N xs:List Str}(hl:xs.length<4000):zdt [zae N,zae xs]=some (.bool ((xs.all λx=>decide (x∈N))&&decide xs.Nodup),false):=by
 have c:zew (gN 0) zml (eOp (inD false) (eVar 0) (eVar 1)) [.no,.pl (zae N)] (xs.map .str)=some (xs.map λx=>.bool (decide (x∈N))):=
  zms λx _=>⟨[.pl (.str x),.pl (zae N)],rfl,rfl,vb (decide (x∈N)),e_in (neg:=false) (fr:=false) (bs:=[]) rfl rfl,rfl⟩
 have t:zjx (tTru (eCB (anyD λbs=>bs.all id) (zaa (zgo ["thing"] [0] (zbv (eVar 1)) (gN 0) zml (eOp (inD false) (eVar 0) (eVar 1))) aNil))) [.pl (zae N),.pl (zae xs)]=some (!(xs.all λx=>decide (x∈N))):=
  zaka (zawn (zob (env:=[.pl (zae N),.pl (zae xs)]) (fr:=[0]) (own:=["thing"]) (ds:=xs.map .str) (bs:=[]) rfl (by rw[qC];omega) c))
 cases ha:xs.all λx=>decide (x∈N)with
 | false=>
  rw[ha]at t
  exact zjn (env:=[.pl (zae N),.pl (zae xs)]) rfl (zyq (if_t t rfl))
 | true=>
  rw[ha]at t
  refine zjn (env:=[.pl (zae N),.pl (zae xs)]) rfl (zaq (if_f t rfl) (ztu (bs:=[]) ?_))
  have e1:zvk (eVar 1) [.pl (zae N),.pl (zae xs)]=some (vi (unl [] (xs.map Sum.inr))):=by
   show((zabj (xs.map .str)).bind λks=>if(xs.map PyData.str).length<4000 then some (⟨.int (unl [] ks),false,[]⟩:Val)else none)=_
   rw[zzf,qD,if_pos (by rw[qC];exact hl)]
  have e2:eCB lenD (zaa (eVar 1) aNil) [.pl (zae N),.pl (zae xs)]=some (vi (xs.map PyData.str).length):=zmv rfl
  rw[zabl e1 e2,qCx]
  have:(((unl [] (xs.map Sum.inr):Nat):Int)==(((xs.map PyData.str).length:Nat):Int))=decide xs.Nodup:=by
   rw[qAs,beq_iff_eq,decide_eq_true_iff,qC]
   have q:=zapa (xs.map Sum.inr) []
   rw[qC]at q
   constructor
   ·intro z;exact(zake xs).mp (q.mp (by omega)).1
   ·intro z
    have:=q.mpr ⟨(zake xs).mpr z,λ_ _ y=>by simp at y⟩
    omega
  rw[this]
noncomputable def isH(W:Web)(k o:Str)(xs:List Str):Bool:=((xs.all λx=>decide (x∈nm W))&&decide xs.Nodup)&&((decide (k∈xs)&&!decide (o∈xs))&&xs.all λx=>(upL W x).all λe=>decide (e∈xs))
theorem zri{enc:α->PyData}{out:α->List PyData}:∀{l:List α},(∀x∈l,∃e1,g (enc x) env=some e1/\t e1=some true/\innL f2 g2 t2 e e1=some (out x))->
  zkf g t f2 g2 t2 e env (l.map enc)=some (l.flatMap out)
 | [],_=>rfl
 | x::l,h=>by
  obtain⟨e1,h1,h2,h3⟩:=h x qp
  have ih:=zri (l:=l) λy hy=>h y (qN _ hy)
  rw[qh]
  unfold zkf
  rw[h1,qD,h2,qD,if_pos rfl,h3,qD,ih,qBl]
  rfl
theorem zani{own:List Str}{fr:List Nat}{fi:IF'}{g:GT}{t:TF}{f2:IF'}{g2:GT}{t2:TF}{e:EF}{env:DEnv}{ds:List PyData}{bs:List Nat}{rs:List PyData}(h:fi env=some (ds,bs))(hl:ds.length<300)(k:zkf g t f2 g2 t2 e (envB own fr env) ds=some rs) :
  zyd own fr fi g t f2 g2 t2 e env=some ⟨.list rs,true,if zex rs=true then[]else bs++capA fr env⟩:=by
 unfold zyd;rw[h,qD,if_pos hl,k];rfl
theorem zafc(f:α->List β)(p:α->β->Bool)(l:List α):(l.flatMap λx=>(f x).map λe=>PyData.bool (p x e))=((l.flatMap λx=>(f x).map λe=>(x,e)).map λz=>PyData.bool (p z.1 z.2)):=by
 induction l with
 | nil=>rfl
 | cons x l ih=>rw[qBl,qBl,qAN,ih,qC4];rfl
theorem zanj(f:α->List β)(p:α->β->Bool)(l:List α):((l.flatMap λx=>(f x).map λe=>(x,e)).all λz=>p z.1 z.2)=l.all λx=>(f x).all (p x):=by
 induction l with
 | nil=>rfl
 | cons x l ih=>rw[qBl,List.all_append,ih,qBJ,qC6];rfl
theorem zafd{W:Web}(h:WebOk W){k o:Str}(hk:k∈nm W)(ho:o∈nm W){xs:List Str}(hl:xs.length<300):zgh [webD W,.str k,.str o,zae xs]=some (.bool (isH W k o xs),false):=by
 have hW:W.length<=12:=h.len
 have i1:tOrF (zjx (tTru (eIsi "list" (eVar 3)))) (zjx (tTru (zbj 2 zdt (zaa (zbj 1 zda (zaa (eVar 0) aNil)) (zaa (eVar 3) aNil))))) [.pl (webD W),.pl (.str k),.pl (.str o),.pl (zae xs),.no]=some (!((xs.all λx=>decide (x∈nm W))&&decide xs.Nodup)):=by
  have f1:zjx (tTru (eIsi "list" (eVar 3))) [.pl (webD W),.pl (.str k),.pl (.str o),.pl (zae xs),.no]=some false:=rfl
  unfold tOrF
  rw[f1,qD,if_neg (by decide)]
  exact zaka (zby (n:=2) (rs:=[⟨zae (nm W),true,[]⟩,⟨zae xs,false,[]⟩]) (zcp (zby (n:=1) (rs:=[⟨webD W,false,[]⟩]) rfl rfl (zif (by omega))) (zgs rfl)) rfl (zrh (by omega)))
 have i2:tOrF (zbc (eOp (inD true) (eVar 1) (eVar 3))) (zbc (eOp (inD false) (eVar 2) (eVar 3))) [.pl (webD W),.pl (.str k),.pl (.str o),.pl (zae xs),.no]=some (!(decide (k∈xs)&&!decide (o∈xs))):=by
  have f1:zbc (eOp (inD true) (eVar 1) (eVar 3)) [.pl (webD W),.pl (.str k),.pl (.str o),.pl (zae xs),.no]=some (!decide (k∈xs)):=zde (e_in (neg:=true) (fr:=false) (bs:=[]) rfl rfl)
  have f2:zbc (eOp (inD false) (eVar 2) (eVar 3)) [.pl (webD W),.pl (.str k),.pl (.str o),.pl (zae xs),.no]=some (decide (o∈xs)):=zde (e_in (neg:=false) (fr:=false) (bs:=[]) rfl rfl)
  unfold tOrF
  rw[f1,qD,f2]
  cases decide (k∈xs)<;>cases decide (o∈xs)<;>rfl
 unfold isH
 cases hA:(xs.all λx=>decide (x∈nm W))&&decide xs.Nodup with
 | false=>
  rw[hA]at i1
  exact zjn (env:=[.pl (webD W),.pl (.str k),.pl (.str o),.pl (zae xs),.no]) rfl (zaq (chk2 h hk ho rfl rfl rfl) (zyq (if_t i1 rfl)))
 | true=>
  rw[hA]at i1
  rw[qCx]
  cases hB:decide (k∈xs)&&!decide (o∈xs)with
  | false=>
   rw[hB]at i2
   exact zjn (env:=[.pl (webD W),.pl (.str k),.pl (.str o),.pl (zae xs),.no]) rfl (zaq (chk2 h hk ho rfl rfl rfl) (zaq (if_f i1 rfl) (zyq (if_t i2 rfl))))
  | true=>
   rw[hB]at i2
   rw[qCx]
   have s4:sSet 4 (eCB zny (zaa (eVar 0) aNil)) [.pl (webD W),.pl (.str k),.pl (.str o),.pl (zae xs),.no]=some (.nx [.pl (webD W),.pl (.str k),.pl (.str o),.pl (zae xs),.ac (.dict (dS zae W))]):=by
    refine zcf (r:=⟨.dict (dS zae W),true,[]⟩) ?_
    unfold eCB
    rw[zgs (r:=⟨webD W,false,[]⟩) rfl]
    show((zny [webD W]).bind _)=_
    rw[zvx h.nd];rfl
   have c:zkf (gN 0) zml (zbv (zco 3 (eVar 0))) (gN 1) zml (eOp (inD false) (eVar 1) (eVar 2)) [.no,.no,.pl (zae xs),.pl (.dict (dS zae W))] (xs.map .str)=some (xs.flatMap λx=>(upL W x).map λe=>.bool (decide (e∈xs))):=by
    refine zri λx hx=>⟨[.pl (.str x),.no,.pl (zae xs),.pl (.dict (dS zae W))],rfl,rfl,?_⟩
    have hxn:x∈nm W:=by
     have:=(qAA _ _▸hA).1
     exact of_decide_eq_true (qAO.mp this x hx)
    obtain⟨es,lk,hm⟩:=zre hxn
    have eu:upL W x=es:=by unfold upL;rw[lk];rfl
    have few:es.length<=4:=h.few (x,es) hm
    rw[eu]
    unfold innL zbv
    rw[ztv (d:=zae es) (.inl rfl) rfl (by rw[zhi,lk];rfl)]
    show(if(es.map PyData.str).length<300 then zew (gN 1) zml (eOp (inD false) (eVar 1) (eVar 2)) [.pl (.str x),.no,.pl (zae xs),.pl (.dict (dS zae W))] (es.map .str)else none)=_
    rw[if_pos (by rw[qC];omega)]
    exact zms λe _=>⟨[.pl (.str x),.pl (.str e),.pl (zae xs),.pl (.dict (dS zae W))],rfl,rfl,vb (decide (e∈xs)),e_in (neg:=false) (fr:=false) (bs:=[]) rfl rfl,rfl⟩
   rw[zafc (upL W) (λ_ e=>decide (e∈xs))]at c
   have al:=zawn (f:=λz:Str×Str=>decide (z.2∈xs)) (zani (env:=[.pl (webD W),.pl (.str k),.pl (.str o),.pl (zae xs),.ac (.dict (dS zae W))]) (own:=["name","elder"]) (fr:=[3,4]) (fi:=zbv (eVar 3)) (ds:=xs.map .str) (bs:=[]) rfl (by rw[qC];exact hl) c)
   rw[zanj (upL W) (λ_ e=>decide (e∈xs))]at al
   exact zjn (env:=[.pl (webD W),.pl (.str k),.pl (.str o),.pl (zae xs),.no]) rfl (zaq (chk2 h hk ho rfl rfl rfl) (zaq (if_f i1 rfl) (zaq (if_f i2 rfl) (zaq s4 (ztu (bs:=[]) al)))))
noncomputable def zeh:SFX:=(xSeq (xOf (sSet 2 (zbj 1 zda (zaa (eVar 0) aNil))))
  (xFor (zbv (eVar 1)) (gN 3)
  (xIf (zbc (eOp (inD true) (eVar 3) (eVar 2))) (ztn "NoKind" (eVar 3)) (xOf sNil))))
noncomputable def zbl:GFX:=fnX 4 zeh
noncomputable def zzh:SF:=(sSeq (zlr (zbj 2 zbg (zaa (eVar 0) (zaa (eLst (zaa (eVar 1) aNil)) aNil))))
  (sSeq (sSet 2 (zbj 1 zdb (zaa (eVar 0) aNil)))
  (sRet (zgo ["name"] [1,2] (zbv (zbj 1 zda (zaa (eVar 0) aNil))) (gN 0) (zbc (eDIn false (eVar 1) (zco 2 (eVar 0)))) (eVar 0)))))
noncomputable def zfp:GF:=fnD 3 zzh
noncomputable def zadv:SF:=(sSeq (zlr (zbj 2 zbg (zaa (eVar 0) (zaa (eLst (zaa (eVar 1) (zaa (eVar 2) aNil))) aNil))))
  (sRet (eDIn false (eVar 2) (zahh (zbj 1 zdb (zaa (eVar 0) aNil)) (eVar 1)))))
noncomputable def ziu:GF:=fnD 3 zadv
noncomputable def zmw:SF:=(sSeq (sSet 2 (eCB zaaz (zaa (eVar 1) aNil)))
  (sSeq (sSet 3 (eOp zeo (eVar 0) (eCB lenD (zaa (eVar 1) aNil))))
  (sSeq (sSet 4 (eLst aNil))
  (sSeq (sFor (zgn (zaa (eOp addD (eC (.int 1)) (eOp modD (eVar 0) (eCB lenD (zaa (eVar 1) aNil)))) aNil)) (gN 5)
  (sSeq (sSet 6 (eOp modD (eVar 3) (eCB lenD (zaa (eVar 2) aNil))))
  (sSeq (sSet 3 (eOp zeo (eVar 3) (eCB lenD (zaa (eVar 2) aNil))))
  (zgp 4 2 (eVar 6)))))
  (zqg 4)))))
noncomputable def zdx:GF:=fnD 7 zmw
noncomputable def zaf:ResX->Option PyData:=(zarw 4 2 1 ["NoKind"] (eTup (zaa (eC (.str "no refusal")) aNil)) (λxc xd=>(sSeq (sSet 3 (eC (.bool (decide (xc="NoWeb")||(decide (xc="NoBook")||(decide (xc="NoCall")||(decide (xc="NoRule")||(decide (xc="NoFit")||false)))))))) (sSet 2 (eTup (zaa (eC (.bool (decide (xc="NoKind")))) (zaa (eC (.bool true)) (zaa (eVar 3) (zaa (eC xd) aNil)))))))))
noncomputable def zrj:SFX:=(xSeq (zsf 2 zbl (zaa (eVar 0) (zaa (zbj 1 zel (zaa (eVar 1) aNil)) aNil)))
  (xOf sCut))
noncomputable def zdj:GFX:=fnX 3 zrj
noncomputable def zmx:SFX:=(xSeq (zsf 2 zbl (zaa (eVar 0) (zaa (eLst (zaa (eVar 1) aNil)) aNil)))
  (xOf sCut))
noncomputable def zdy:GFX:=fnX 3 zmx
noncomputable def zoq:SFX:=(xSeq (zsf 2 zbl (zaa (eVar 0) (zaa (eLst (zaa (eVar 1) (zaa (eVar 2) aNil))) aNil)))
  (xOf sCut))
noncomputable def zbk:GFX:=fnX 3 zoq
noncomputable def zua:SFX:=(xSeq (zsf 2 zbl (zaa (eVar 0) (zaa (eLst (zaa (eVar 1) (zaa (eVar 2) aNil))) aNil)))
  (xOf sCut))
noncomputable def zca:GFX:=fnX 7 zua
noncomputable def zrk:SFX:=(xSeq (zsf 2 zbl (zaa (eVar 0) (zaa (eLst (zaa (eVar 1) (zaa (eVar 2) aNil))) aNil)))
  (xOf sCut))
noncomputable def zbu:GFX:=fnX 4 zrk
noncomputable def zmy:SFX:=(xSeq (zsf 2 zbl (zaa (eVar 0) (zaa (eLst (zaa (eVar 1) (zaa (eVar 2) aNil))) aNil)))
  (xOf sCut))
noncomputable def zbq:GFX:=fnX 6 zmy
noncomputable def zlg:SFX:=(xSeq (zsf 2 zbl (zaa (eVar 0) (zaa (eLst (zaa (eVar 1) (zaa (eVar 2) aNil))) aNil)))
  (xOf sCut))
noncomputable def zau:GFX:=fnX 5 zlg
noncomputable def zff:SF:=(zajg 6 [((eVar 2),zaz [0,2] 2 zdj (zaa (eVar 0) (zaa (eVar 1) aNil)) zaf),
  ((eIxV 4 (eC (.int 0))),zaz [0,4] 2 zdj (zaa (eVar 0) (zaa (eIxV 1 (eC (.int 1))) aNil)) zaf),
  ((eVar 3),zaz [0,3] 2 zdy (zaa (eVar 0) (zaa (eVar 1) aNil)) zaf),
  ((eVar 2),zaz [0,1,2] 3 zbk (zaa (eVar 0) (zaa (eVar 1) (zaa (eVar 2) aNil))) zaf),
  ((eVar 3),zaz [0,1,3] 3 zbk (zaa (eVar 0) (zaa (eVar 2) (zaa (eVar 1) aNil))) zaf),
  ((eVar 3),zaz [0,2,3] 3 zbk (zaa (eVar 0) (zaa (eVar 2) (zaa (eVar 1) aNil))) zaf),
  ((eVar 2),zaz [0,2,3] 3 zca (zaa (eVar 0) (zaa (eVar 1) (zaa (eVar 2) aNil))) zaf),
  ((eVar 3),zaz [0,1,3] 3 zca (zaa (eVar 0) (zaa (eVar 1) (zaa (eVar 2) aNil))) zaf),
  ((eVar 2),zaz [0,1,2] 3 zca (zaa (eVar 0) (zaa (eVar 2) (zaa (eVar 1) aNil))) zaf),
  ((eVar 2),zaz [0,1,2] 3 zbu (zaa (eVar 0) (zaa (eVar 1) (zaa (eVar 2) aNil))) zaf),
  ((eVar 3),zaz [0,1,3] 3 zbu (zaa (eVar 0) (zaa (eVar 2) (zaa (eVar 1) aNil))) zaf),
  ((eVar 2),zaz [0,2,3] 4 zbq (zaa (eVar 0) (zaa (eVar 1) (zaa (eVar 2) (zaa (eLst (zaa (eVar 1) aNil)) aNil)))) zaf),
  ((eVar 3),zaz [0,1,3] 4 zbq (zaa (eVar 0) (zaa (eVar 1) (zaa (eVar 2) (zaa (eC .none) aNil)))) zaf),
  ((eVar 3),zaz [0,2,3] 4 zau (zaa (eVar 0) (zaa (eVar 2) (zaa (eVar 1) (zaa (eLst (zaa (eVar 2) aNil)) aNil)))) zaf),
  ((eVar 2),zaz [0,1,2] 4 zau (zaa (eVar 0) (zaa (eVar 1) (zaa (eVar 2) (zaa (eLst (zaa (eVar 1) aNil)) aNil)))) zaf),
  ((eVar 2),zaz [0,2] 3 zbk (zaa (eVar 0) (zaa (eVar 1) (zaa (eVar 1) aNil))) zaf),
  ((eVar 2),zaz [0,2] 3 zca (zaa (eVar 0) (zaa (eVar 1) (zaa (eVar 1) aNil))) zaf),
  ((eVar 2),zaz [0,2] 3 zbu (zaa (eVar 0) (zaa (eVar 1) (zaa (eVar 1) aNil))) zaf),
  ((eVar 3),zaz [0,2,3] 3 zbu (zaa (eVar 0) (zaa (eVar 2) (zaa (eVar 1) aNil))) zaf),
  ((eVar 2),zaz [0,2] 4 zbq (zaa (eVar 0) (zaa (eVar 1) (zaa (eVar 1) (zaa (eLst (zaa (eVar 1) aNil)) aNil)))) zaf),
  ((eVar 2),zaz [0,2] 4 zau (zaa (eVar 0) (zaa (eVar 1) (zaa (eVar 1) (zaa (eLst (zaa (eVar 1) aNil)) aNil)))) zaf),
  ((eVar 2),zaz [0,1,2] 4 zau (zaa (eVar 0) (zaa (eVar 2) (zaa (eVar 1) (zaa (eC .none) aNil)))) zaf),
  ((eVar 3),zaz [0,1,3] 4 zau (zaa (eVar 0) (zaa (eVar 1) (zaa (eVar 2) (zaa (eLst (zaa (eVar 2) aNil)) aNil)))) zaf),
  ((eVar 3),zaz [0,2,3] 4 zau (zaa (eVar 0) (zaa (eVar 2) (zaa (eVar 1) (zaa (eLst aNil) aNil)))) zaf)])
noncomputable def zcb:GF:=fnD 7 zff
theorem zadw:bootBuiltins "all"=some (.builtin "all"):=by decide +kernel
theorem zrl:bootBuiltins "dict"=some (.type "dict"):=by decide +kernel
theorem zdc:bootBuiltins "isinstance"=some (.builtin "isinstance"):=by decide +kernel
theorem zdp:bootBuiltins "len"=some (.builtin "len"):=by decide +kernel
theorem zko:bootBuiltins "list"=some (.type "list"):=by decide +kernel
theorem zank:bootBuiltins "min"=some (.builtin "min"):=by decide +kernel
theorem zaxc:bootBuiltins "set"=some (.type "set"):=by decide +kernel
theorem zub:bootBuiltins "tuple"=some (.type "tuple"):=by decide +kernel
noncomputable def top(i:Nat):Stmt:=PySem.Challenge.pw_bestcalls_k04_no_such_kind.main.body.getD i (.Pass ⟨0,0,0,0⟩)
structure Txt(mg:Str->Option Value):Prop where
 all:mg "all"=none
 dict:mg "dict"=none
 enumerate:mg "enumerate"=none
 isinstance:mg "isinstance"=none
 len:mg "len"=none
 list:mg "list"=none
 min:mg "min"=none
 range:mg "range"=none
 set:mg "set"=none
 tuple:mg "tuple"=none
noncomputable abbrev zgt:Stmt:=top 9
noncomputable abbrev zkp:List Str:=["known","things"]
theorem zpg:zkp.Nodup:=by decide +kernel
theorem zph:FnScope zkp ["known","things"] (zaj zgt):=⟨rfl,rfl,rfl,zpg,rfl,by decide +kernel,by decide +kernel⟩
noncomputable abbrev zof:Stmt:=top 10
noncomputable abbrev zuc:List Str:=["web"]
theorem zabm:zuc.Nodup:=by decide +kernel
theorem zabn:FnScope zuc ["web"] (zaj zof):=⟨rfl,rfl,rfl,zabm,rfl,by decide +kernel,by decide +kernel⟩
noncomputable abbrev zog:Stmt:=top 11
noncomputable abbrev zud:List Str:=["arm"]
theorem zabo:zud.Nodup:=by decide +kernel
theorem zabp:FnScope zud ["arm"] (zaj zog):=⟨rfl,rfl,rfl,zabo,rfl,by decide +kernel,by decide +kernel⟩
noncomputable abbrev ziv:Stmt:=top 12
noncomputable abbrev zmz:List Str:=["web","names","known","name"]
theorem zhj:zmz.Nodup:=by decide +kernel
theorem zsi:FnScope zmz ["web","names"] (zaj ziv):=⟨rfl,rfl,rfl,zhj,rfl,by decide +kernel,by decide +kernel⟩
noncomputable abbrev zoh:Stmt:=top 13
noncomputable abbrev zue:List Str:=["web","roofs","name","elders","roof","elder"]
theorem zfg:zue.Nodup:=by decide +kernel
theorem zabq:FnScope zue ["web"] (zaj zoh):=⟨rfl,rfl,rfl,zfg,rfl,by decide +kernel,by decide +kernel⟩
noncomputable abbrev zrm:Stmt:=top 14
noncomputable abbrev zzi:List Str:=["roofs","arm","roof","name"]
theorem zoi:zzi.Nodup:=by decide +kernel
theorem zafe:FnScope zzi ["roofs","arm"] (zaj zrm):=⟨rfl,rfl,rfl,zoi,rfl,by decide +kernel,by decide +kernel⟩
noncomputable abbrev zabr:Stmt:=top 15
noncomputable abbrev zakf:List Str:=["web","arm","roof"]
theorem zadx:zakf.Nodup:=by decide +kernel
theorem zanl:FnScope zakf ["web","arm"] (zaj zabr):=⟨rfl,rfl,rfl,zadx,rfl,by decide +kernel,by decide +kernel⟩
noncomputable abbrev zrn:Stmt:=top 16
noncomputable abbrev zzj:List Str:=["web","kind","roofs"]
theorem zuf:zzj.Nodup:=by decide +kernel
theorem zaff:FnScope zzj ["web","kind"] (zaj zrn):=⟨rfl,rfl,rfl,zuf,rfl,by decide +kernel,by decide +kernel⟩
noncomputable abbrev zvz:Stmt:=top 17
noncomputable abbrev zady:List Str:=["web","kind","other"]
theorem zakg:zady.Nodup:=by decide +kernel
theorem zakh:FnScope zady ["web","kind","other"] (zaj zvz):=⟨rfl,rfl,rfl,zakg,rfl,by decide +kernel,by decide +kernel⟩
noncomputable abbrev zaki:Stmt:=top 19
noncomputable abbrev zapb:List Str:=["web","kind","other","roofs","elders","names","onto"]
theorem zro:zapb.Nodup:=by decide +kernel
theorem zasx:FnScope zapb ["web","kind","other"] (zaj zaki):=⟨rfl,rfl,rfl,zro,rfl,by decide +kernel,by decide +kernel⟩
noncomputable abbrev zabs:Stmt:=top 20
noncomputable abbrev zakj:List Str:=["web","kind","other","names"]
theorem zadz:zakj.Nodup:=by decide +kernel
theorem zanm:FnScope zakj ["web","kind","other"] (zaj zabs):=⟨rfl,rfl,rfl,zadz,rfl,by decide +kernel,by decide +kernel⟩
noncomputable abbrev zrp:Stmt:=top 21
noncomputable abbrev zzk:List Str:=["web","kind","other","thing","elders","number"]
theorem zoj:zzk.Nodup:=by decide +kernel
theorem zafg:FnScope zzk ["web","kind","other","thing"] (zaj zrp):=⟨rfl,rfl,rfl,zoj,rfl,by decide +kernel,by decide +kernel⟩
noncomputable abbrev zok:Stmt:=top 22
noncomputable abbrev zug:List Str:=["web","kind","other","thing","elders"]
theorem zrq:zug.Nodup:=by decide +kernel
theorem zabt:FnScope zug ["web","kind","other","thing"] (zaj zok):=⟨rfl,rfl,rfl,zrq,rfl,by decide +kernel,by decide +kernel⟩
noncomputable abbrev zlw:Stmt:=top 24
noncomputable abbrev zrr:List Str:=["_law_script","_law_many","_law_seed","_law_cell","_law_found","_law_k"]
theorem zem:zrr.Nodup:=by decide +kernel
theorem zzl:FnScope zrr ["_law_script","_law_many"] (zaj zlw):=⟨rfl,rfl,rfl,zem,rfl,by decide +kernel,by decide +kernel⟩
noncomputable abbrev zlx:Stmt:=top 25
noncomputable abbrev zrs:List Str:=["_law_many","_law_cell","_law_letters","_law_step","_law_origin","_law_stem","_law_at","_law_names_here","_law_k","_law_sign"]
theorem zcv:zrs.Nodup:=by decide +kernel
theorem zzm:FnScope zrs ["_law_many","_law_cell"] (zaj zlx):=⟨rfl,rfl,rfl,zcv,rfl,by decide +kernel,by decide +kernel⟩
noncomputable abbrev zrt:Stmt:=top 26
noncomputable abbrev zzn:List Str:=["_law_cells","_law_names_here","_law_web_here","_law_k","_law_name","_law_left","_law_rest","_law_elders","_law_turn","_law_at"]
theorem zdn:zzn.Nodup:=by decide +kernel
theorem zafh:FnScope zzn ["_law_cells","_law_names_here"] (zaj zrt):=⟨rfl,rfl,rfl,zdn,rfl,by decide +kernel,by decide +kernel⟩
noncomputable abbrev zru:Stmt:=top 27
noncomputable abbrev zzo:List Str:=["_law_cell","_law_names_here","_law_left","_law_rest","_law_arm_here","_law_turn","_law_at"]
theorem zfh:zzo.Nodup:=by decide +kernel
theorem zafi:FnScope zzo ["_law_cell","_law_names_here"] (zaj zru):=⟨rfl,rfl,rfl,zfh,rfl,by decide +kernel,by decide +kernel⟩
noncomputable abbrev zol:Stmt:=top 28
noncomputable abbrev zuh:List Str:=["_law_ask","e","_law_told_here","_law_wrong"]
theorem zgu:zuh.Nodup:=by decide +kernel
theorem zabu:FnScope zuh ["_law_ask"] (zaj zol):=⟨rfl,rfl,rfl,zgu,rfl,by decide +kernel,by decide +kernel⟩
noncomputable abbrev zag:Stmt:=top 29
noncomputable abbrev zav:List Str:=["_law_web_here","_law_kind","_law_lost","_law_odd","_law_arm_here","_law_asks_here"]
theorem zrv:zav.Nodup:=by decide +kernel
theorem zabv:FnScope zav ["_law_web_here","_law_kind","_law_lost","_law_odd","_law_arm_here"] (zaj zag):=⟨rfl,rfl,rfl,zrv,rfl,by decide +kernel,by decide +kernel⟩
noncomputable abbrev ziw:Stmt:=top 30
noncomputable abbrev zix:List Str:=["_law_web_here","_law_kind","_law_lost","_law_odd","_law_arm_here","_law_due","_law_ask"]
theorem zhk:zix.Nodup:=by decide +kernel
theorem zsj:FnScope zix ["_law_web_here","_law_kind","_law_lost","_law_odd","_law_arm_here"] (zaj ziw):=⟨rfl,rfl,rfl,zhk,rfl,by decide +kernel,by decide +kernel⟩
noncomputable abbrev zafj:Stmt:=top 31
noncomputable abbrev zawo:List Str:=["_law_script","_law_cells","_law_names_here","_law_stand","_law_lost","_law_odd","_law_kind","_law_row","_law_arm_here","_law_web_here","_law_handed","_law_more"]
theorem zhd:zawo.Nodup:=by decide +kernel
theorem zawp:FnScope zawo ["_law_script"] (zaj zafj):=⟨rfl,rfl,rfl,zhd,rfl,by decide +kernel,by decide +kernel⟩
noncomputable abbrev zjk:Stmt:=top 12
noncomputable abbrev zjl:List Str:=["web","names","known","name"]
theorem zfi:zjl.Nodup:=by decide +kernel
theorem zom:FnScope zjl ["web","names"] (zaj zjk):=⟨rfl,rfl,rfl,zfi,rfl,by decide +kernel,by decide +kernel⟩
noncomputable abbrev zui:Stmt:=top 15
noncomputable abbrev zuj:List Str:=["web","arm","roof"]
theorem zabw:zuj.Nodup:=by decide +kernel
theorem zabx:FnScope zuj ["web","arm"] (zaj zui):=⟨rfl,rfl,rfl,zabw,rfl,by decide +kernel,by decide +kernel⟩
noncomputable abbrev zor:Stmt:=top 16
noncomputable abbrev zos:List Str:=["web","kind","roofs"]
theorem zwa:zos.Nodup:=by decide +kernel
theorem zwb:FnScope zos ["web","kind"] (zaj zor):=⟨rfl,rfl,rfl,zwa,rfl,by decide +kernel,by decide +kernel⟩
noncomputable abbrev zrw:Stmt:=top 17
noncomputable abbrev zrx:List Str:=["web","kind","other"]
theorem zzp:zrx.Nodup:=by decide +kernel
theorem zzq:FnScope zrx ["web","kind","other"] (zaj zrw):=⟨rfl,rfl,rfl,zzp,rfl,by decide +kernel,by decide +kernel⟩
noncomputable abbrev zzr:Stmt:=top 19
noncomputable abbrev zzs:List Str:=["web","kind","other","roofs","elders","names","onto"]
theorem zafk:zzs.Nodup:=by decide +kernel
theorem zafl:FnScope zzs ["web","kind","other"] (zaj zzr):=⟨rfl,rfl,rfl,zafk,rfl,by decide +kernel,by decide +kernel⟩
noncomputable abbrev zuk:Stmt:=top 20
noncomputable abbrev zul:List Str:=["web","kind","other","names"]
theorem zaby:zul.Nodup:=by decide +kernel
theorem zabz:FnScope zul ["web","kind","other"] (zaj zuk):=⟨rfl,rfl,rfl,zaby,rfl,by decide +kernel,by decide +kernel⟩
noncomputable abbrev zot:Stmt:=top 21
noncomputable abbrev zou:List Str:=["web","kind","other","thing","elders","number"]
theorem zwc:zou.Nodup:=by decide +kernel
theorem zwd:FnScope zou ["web","kind","other","thing"] (zaj zot):=⟨rfl,rfl,rfl,zwc,rfl,by decide +kernel,by decide +kernel⟩
noncomputable abbrev zna:Stmt:=top 22
noncomputable abbrev znb:List Str:=["web","kind","other","thing","elders"]
theorem zsk:znb.Nodup:=by decide +kernel
theorem zsl:FnScope znb ["web","kind","other","thing"] (zaj zna):=⟨rfl,rfl,rfl,zsk,rfl,by decide +kernel,by decide +kernel⟩
theorem zly:(["thing","known"]:List Str).Nodup:=by decide +kernel
theorem zlh:(["name","elders"]:List Str).Nodup:=by decide +kernel
theorem zaca:(["name","roof"]:List Str).Nodup:=by decide +kernel
theorem zwe:(["name","kind","roofs"]:List Str).Nodup:=by decide +kernel
theorem zafm:(["elder","other","roofs"]:List Str).Nodup:=by decide +kernel
theorem zli:(["name","elder","thing","elders"]:List Str).Nodup:=by decide +kernel
theorem zakk:(["_law_name","_law_stand"]:List Str).Nodup:=by decide +kernel
theorem zzt:(["_law_name","_law_elders"]:List Str).Nodup:=by decide +kernel
section
variable(P:Program)(w:World)(K:qB)(mg:Str->Option Value)(base:Heap)
noncomputable abbrev zkq:Prop:=Dn P w K mg base "are_unlike_of" ["known","things"] 1 (spD 2 zdt)
noncomputable abbrev zgi:Prop:=Dn P w K mg base "names_of" ["web"] 1 (spD 1 zda)
noncomputable abbrev zla:Prop:=Dn P w K mg base "names_in" ["arm"] 1 (spD 1 zel)
noncomputable abbrev zcw:Prop:=Dn P w K mg base "check_kinds" ["web","names"] 2 (spD 2 zbg)
noncomputable abbrev zii:Prop:=Dn P w K mg base "roofs_of" ["web"] 1 (spD 1 zdb)
noncomputable abbrev zzu:Prop:=Dn P w K mg base "roof_of" ["roofs","arm"] 2 (spD 2 zkm)
noncomputable abbrev zakl:Prop:=Dn P w K mg base "above" ["web","arm"] 3 (spD 2 zrg)
noncomputable abbrev zzv:Prop:=Dn P w K mg base "beneath" ["web","kind"] 3 (spD 2 zfp)
noncomputable abbrev zaea:Prop:=Dn P w K mg base "stands" ["web","kind","other"] 3 (spD 3 ziu)
noncomputable abbrev zapc:Prop:=Dn P w K mg base "road" ["web","kind","other"] 3 (spD 3 zmr)
noncomputable abbrev zakm:Prop:=Dn P w K mg base "hedge" ["web","kind","other"] 4 (spD 3 zkn)
noncomputable abbrev zzw:Prop:=Dn P w K mg base "is_road" ["web","kind","other","thing"] 3 (spD 4 zkh)
noncomputable abbrev zum:Prop:=Dn P w K mg base "is_hedge" ["web","kind","other","thing"] 3 (spD 4 zgh)
noncomputable abbrev zry:Prop:=Dn P w K mg base "_law_names" ["_law_many","_law_cell"] 1 (spD 2 zfd)
noncomputable abbrev zzx:Prop:=Dn P w K mg base "_law_web" ["_law_cells","_law_names_here"] 1 (spD 2 zie)
noncomputable abbrev zzy:Prop:=Dn P w K mg base "_law_arm" ["_law_cell","_law_names_here"] 1 (spD 2 zdx)
noncomputable abbrev zun(cl:Str->Addr):Prop:=DnT P w K mg base "_law_told" "_law_ask" 6 5 (tolD cl zaf)
noncomputable abbrev zbz(cl:Str->Addr):Prop:=DnX P w K mg base "check_kinds" ["web","names"] 3 (spX cl 2 zbl)
noncomputable abbrev zgj(cl:Str->Addr):Prop:=DnX P w K mg base "above" ["web","arm"] 4 (spX cl 2 zdj)
noncomputable abbrev zfq(cl:Str->Addr):Prop:=DnX P w K mg base "beneath" ["web","kind"] 4 (spX cl 2 zdy)
noncomputable abbrev zdu(cl:Str->Addr):Prop:=DnX P w K mg base "stands" ["web","kind","other"] 4 (spX cl 3 zbk)
noncomputable abbrev zfr(cl:Str->Addr):Prop:=DnX P w K mg base "road" ["web","kind","other"] 4 (spX cl 3 zca)
noncomputable abbrev zen(cl:Str->Addr):Prop:=DnX P w K mg base "hedge" ["web","kind","other"] 4 (spX cl 3 zbu)
noncomputable abbrev zdv(cl:Str->Addr):Prop:=DnX P w K mg base "is_road" ["web","kind","other","thing"] 4 (spX cl 4 zbq)
noncomputable abbrev zcd(cl:Str->Addr):Prop:=DnX P w K mg base "is_hedge" ["web","kind","other","thing"] 4 (spX cl 4 zau)
noncomputable abbrev znc(PT:Addr):Prop:=Dn P w K mg base "_law_refused" ["_law_web_here","_law_kind","_law_lost","_law_odd","_law_arm_here"] 7 (spDT PT (("_law_asks":Str)++".<locals>."++"<lambda>") 5 zcb)
end
section
variable{P:Program}{w:World}{K:qB}{mg:Str->Option Value}{base:Heap}
theorem zpi {f:Addr} {fd:qk} (F:Fun K "are_unlike_of" "are_unlike_of" zgt f fd) (T:Txt mg)  : FnOk P w K mg base CX0 1 f fd ["known","things"] (spD 2 zdt):=by
 refine F.ok zph (λvs H Q E h=>zdr h) (λcdv A outer s H vs Q E hr h=>?_)
 have hu:=zfl hr
 apply Exists.intro
 apply And.intro
 ·refine' Bx.out (zah (zef (znz (zfa (K:=K) rfl (bpeB (zxm (K:=K) rfl rfl) T.all zadw (bpaC (zkg (zfm (N':=["thing","known"]) (own:=["thing"]) (fr:=[0]) (by kernel_rfl)) rfl (zdh (K:=K) rfl (bv 1)) ?hb1 (by intro _;rfl)) zad)) (λ_=>rfl))) (zan (zbn zee)) zci)
 (zan (zbn (zvm (zxz (K:=K) rfl hr.units) (zaev rfl (by rfl) T.len (by rfl) T.set (bv 1) (zak (by rfl))) (bpeB (zcu (K:=K) rfl) T.len zdp (bpaC (bv 1) zad)) (zfv _)))))
  case hb1=>(intro cl C s H fp;refine'⟨Bx.out (bpgN (i:=0) zly rfl (Or.inl rfl)),Bx.out zqt,Bx.out (zvm (zacy (K:=K) rfl) (bv 0) (bv 1) (by rfl))⟩)
 exact fn_d (f:=zkl) ((zay (zjm (zxs (ztk (zgm zaoi (zab (zlt (zhb (zac 1)) zei (zqm (by decide)) zya (zbb zvc (zac 0) (zac 1))) zal)))) (zdz (se_c λ_=>zar)) zey) (zdz (zbb zahg (zaik (zac 1)) (zgm zib (zab (zac 1) zal)))))) h
theorem zacb {f:Addr} {fd:qk} (F:Fun K "names_of" "names_of" zof f fd) (T:Txt mg)  : FnOk P w K mg base CX0 1 f fd ["web"] (spD 1 zda):=by
 refine F.ok zabn (λvs H Q E h=>zdr h) (λcdv A outer s H vs Q E hr h=>?_)
 have hu:=zfl hr
 apply Exists.intro
 apply And.intro
 ·refine' Bx.out (zan (zbn (zkg (zfm (N':=["name","elders"]) (own:=["name","elders"]) (fr:=[]) (by kernel_rfl)) rfl (zdh (K:=K) rfl (bv 0)) ?hb1 (by intro _;rfl))))
  case hb1=>(intro cl C s H fp;refine'⟨Bx.out (zmp (K:=K) (n:=2) rfl rfl (zeg (bpgN (i:=0) zlh rfl (Or.inl rfl)) (zeg (bpgN (i:=1) zlh rfl (Or.inl rfl)) zmo (by rfl)) (by rfl)) (by rfl) (by rfl)),Bx.out zqt,Bx.out (bv 0)⟩)
 exact fn_d (f:=zid) ((zdz (zlt (zhb (zac 0)) (zadf (zha (zha zvd))) (zaoo (zpm (by decide) (zpm (by decide) zahy))) zya (zac 0)))) h
theorem zacc {f:Addr} {fd:qk} (F:Fun K "names_in" "names_in" zog f fd) (T:Txt mg)  : FnOk P w K mg base CX0 1 f fd ["arm"] (spD 1 zel):=by
 refine F.ok zabp (λvs H Q E h=>zdr h) (λcdv A outer s H vs Q E hr h=>?_)
 have hu:=zfl hr
 apply Exists.intro
 apply And.intro
 ·refine' Bx.out (zah (zef (zfa (K:=K) rfl (bpeB (zpx (K:=K) rfl) T.isinstance zdc (bpaC (bv 0) (bpaC (zpn (v:=.ty "tuple") (by rfl) T.tuple zub rfl (by decide) (by decide)) zad))) (λ_=>rfl)) (zan (zbn (bpeT (znu (K:=K) rfl) T.list zko (bpaC (bv 0) zad)))) zci)
 (zan (zbn (zbo (bpaC (bv 0) zad)))))
 exact fn_d (f:=ztx) ((zay (zjm (ztk (zahl (zac 0) zahm)) (zdz (zgm zaba (zab (zac 0) zal))) zey) (zdz (zcl (zab (zac 0) zal))))) h
theorem zsm{f:Addr}{fd:qk}(F:Fun K "check_kinds" "check_kinds" ziv f fd)(T:Txt mg)(D_names_of:zgi P w K mg base):FnOk P w K mg base CX0 2 f fd ["web","names"] (spD 2 zbg):=by
 refine F.ok zsi (λvs H Q E h=>zdr h) (λcdv A outer s H vs Q E hr h=>?_)
 have hu:=zfl hr
 apply Exists.intro
 apply And.intro
 ·refine' Bx.out (zah (bpsS (i:=2) zhj rfl (Or.inl rfl) (bpeD D_names_of hr (bpaC (bv 0) zad)))
 (zan (zgq qAL rfl (zdh (K:=K) rfl (bv 1)) (bpgN (i:=3) zhj rfl (Or.inl rfl))
  (zan (zef (zcc (zjs (K:=K) rfl) (bv 3) (bv 2) (by rfl)) (zan zais) zci)) (by intro _;rfl))))
 exact fn_d (f:=zet) ((zay (zbp (zbs (zab (zac 0) zal))) (zmi (zhb (zac 1)) zei (zjm (st_t (zbb zvc (zac 3) (zac 2))) zalu zey)))) h
theorem zacd {f:Addr} {fd:qk} (F:Fun K "roofs_of" "roofs_of" zoh f fd) (T:Txt mg)  : FnOk P w K mg base CX0 1 f fd ["web"] (spD 1 zdb):=by
 refine F.ok zabq (λvs H Q E h=>zdr h) (λcdv A outer s H vs Q E hr h=>?_)
 have hu:=zfl hr
 apply Exists.intro
 apply And.intro
 ·refine' Bx.out (zah (bpsS (i:=1) zfg rfl (Or.inl rfl) zyh)
 (zah (zgq qAL rfl (zdh (K:=K) rfl (bv 0)) (zmp (K:=K) (n:=2) rfl rfl (zeg (bpgN (i:=2) zfg rfl (Or.inl rfl)) (zeg (bpgN (i:=3) zfg rfl (Or.inl rfl)) zmo (by rfl)) (by rfl)) (by rfl) (by rfl))
  (zah (bpsS (i:=4) zfg rfl (Or.inl rfl) (zamo (zaiq (bv 2) zee zamn) rfl rfl (by simp) (by decide)))
 (zah (zgq qAL rfl (zdh (K:=K) rfl (bv 3)) (bpgN (i:=5) zfg rfl (Or.inl rfl))
  (zan (zas (zbh (K:=K) rfl qCc qCW qCU zxk (bv 4) (bpaC (zga hu (bv 1) (bv 5) (λ_ _=>rfl)) zad) (by rfl) (by rfl) (by rfl) (zak (by rfl)) (by rfl)) (by rfl))) (by intro _;rfl))
 (zan (zamp hu (bv 1) (bv 2) (bv 4) rfl)))) (by intro _;rfl))
 (zan (zbn (bv 1)))))
 exact fn_d (f:=ztt) ((zay (zbp zahk) (zay (zmi (zhb (zac 0)) (zadf (zha (zha zvd))) (zay (zbp (zaxu (zac 2) (se_c λ_=>zar))) (zay (zmi (zhb (zac 3)) zei (zaoj (zhc (zac 5)))) (zavb (zac 2) (zac 4))))) zjy))) h
theorem zafn{f:Addr}{fd:qk}(F:Fun K "roof_of" "roof_of" zrm f fd)(T:Txt mg)(D_names_in:zla P w K mg base):FnOk P w K mg base CX0 2 f fd ["roofs","arm"] (spD 2 zkm):=by
 refine F.ok zafe (λvs H Q E h=>zdr h) (λcdv A outer s H vs Q E hr h=>?_)
 have hu:=zfl hr
 apply Exists.intro
 apply And.intro
 ·refine' Bx.out (zah (bpsS (i:=2) zoi rfl (Or.inl rfl) zyh)
 (zah (zgq qAL rfl (zdh (K:=K) rfl (bpeD D_names_in hr (bpaC (bv 1) zad))) (bpgN (i:=3) zoi rfl (Or.inl rfl))
  (zan (zas (zbh (K:=K) rfl qCc qCW qCU zxk (bv 2) (bpaC (zga hu (bv 0) (bv 3) (λ_ _=>rfl)) zad) (by rfl) (by rfl) (by rfl) (zak (by rfl)) (by rfl)) (by rfl))) (by intro _;rfl))
 (zan (zbn (bv 2)))))
 exact fn_d (f:=zze) ((zay (zbp zahk) (zay (zmi (zhb (zbs (zab (zac 1) zal))) zei (zaoj (zhc (zac 3)))) zjy))) h
theorem zann{f:Addr}{fd:qk}(F:Fun K "above" "above" zabr f fd)(T:Txt mg)(D_check_kinds:zcw P w K mg base)(D_names_in:zla P w K mg base)(D_names_of:zgi P w K mg base)(D_roof_of:zzu P w K mg base)(D_roofs_of:zii P w K mg base):FnOk P w K mg base CX0 3 f fd ["web","arm"] (spD 2 zrg):=by
 refine F.ok zanl (λvs H Q E h=>zdr h) (λcdv A outer s H vs Q E hr h=>?_)
 have hu:=zfl hr
 apply Exists.intro
 apply And.intro
 ·refine' Bx.out (zah (zas (bpeD D_check_kinds hr (bpaC (bv 0) (bpaC (bpeD D_names_in hr (bpaC (bv 1) zad)) zad))) (by rfl))
 (zah (bpsS (i:=2) zadx rfl (Or.inr rfl) (bpeD D_roof_of hr (bpaC (bpeD D_roofs_of hr (bpaC (bv 0) zad)) (bpaC (bv 1) zad))))
 (zan (zbn (zkg (zfm (N':=["name","roof"]) (own:=["name"]) (fr:=[2]) (by kernel_rfl)) rfl (zdh (K:=K) rfl (bpeD D_names_of hr (bpaC (bv 0) zad))) ?hb1 (by intro _;rfl))))))
  case hb1=>(intro cl C s H fp;refine'⟨Bx.out (bpgN (i:=0) zaca rfl (Or.inl rfl)),Bx.out (zvo (zqu (zvp hu (bv 0) (bv 1)) (by rfl))),Bx.out (bv 0)⟩)
 exact fn_d (f:=zakb) ((zay (zls (zbs (zab (zac 0) (zab (zbs (zab (zac 1) zal)) zal)))) (zay (zbp (zbs (zab (zbs (zab (zac 0) zal)) (zab (zac 1) zal)))) (zdz (zlt (zhb (zbs (zab (zac 0) zal))) zei (zqm (by decide)) (st_b (zadc (zac 0) (zac 1))) (zac 0)))))) h
theorem zafo{f:Addr}{fd:qk}(F:Fun K "beneath" "beneath" zrn f fd)(T:Txt mg)(D_check_kinds:zcw P w K mg base)(D_names_of:zgi P w K mg base)(D_roofs_of:zii P w K mg base):FnOk P w K mg base CX0 3 f fd ["web","kind"] (spD 2 zfp):=by
 refine F.ok zaff (λvs H Q E h=>zdr h) (λcdv A outer s H vs Q E hr h=>?_)
 have hu:=zfl hr
 apply Exists.intro
 apply And.intro
 ·refine' Bx.out (zah (zas (bpeD D_check_kinds hr (bpaC (bv 0) (bpaC (zbo (bpaC (bv 1) zad)) zad))) (by rfl))
 (zah (bpsS (i:=2) zuf rfl (Or.inr rfl) (bpeD D_roofs_of hr (bpaC (bv 0) zad)))
 (zan (zbn (zkg (zfm (N':=["name","kind","roofs"]) (own:=["name"]) (fr:=[1,2]) (by kernel_rfl)) rfl (zdh (K:=K) rfl (bpeD D_names_of hr (bpaC (bv 0) zad))) ?hb1 (by intro _;rfl))))))
  case hb1=>(intro cl C s H fp;refine'⟨Bx.out (bpgN (i:=0) zwe rfl (Or.inl rfl)),Bx.out (zvo (zqu (zvp hu (bv 1) (zga hu (bv 2) (bv 0) (λ_ _=>rfl))) (by rfl))),Bx.out (bv 0)⟩)
 exact fn_d (f:=zzh) ((zay (zls (zbs (zab (zac 0) (zab (zcl (zab (zac 1) zal)) zal)))) (zay (zbp (zbs (zab (zac 0) zal))) (zdz (zlt (zhb (zbs (zab (zac 0) zal))) zei (zqm (by decide)) (st_b (zadc (zac 1) (zhc (zac 0)))) (zac 0)))))) h
theorem zakn{f:Addr}{fd:qk}(F:Fun K "stands" "stands" zvz f fd)(T:Txt mg)(D_check_kinds:zcw P w K mg base)(D_roofs_of:zii P w K mg base):FnOk P w K mg base CX0 3 f fd ["web","kind","other"] (spD 3 ziu):=by
 refine F.ok zakh (λvs H Q E h=>zdr h) (λcdv A outer s H vs Q E hr h=>?_)
 have hu:=zfl hr
 apply Exists.intro
 apply And.intro
 ·refine' Bx.out (zah (zas (bpeD D_check_kinds hr (bpaC (bv 0) (bpaC (zbo (bpaC (bv 1) (bpaC (bv 2) zad))) zad))) (by rfl))
 (zan (zbn (zark (zvp hu (bv 2) (zga hu (bpeD D_roofs_of hr (bpaC (bv 0) zad)) (bv 1) (λ_ _=>rfl))) (by rfl)))))
 exact fn_d (f:=zadv) ((zay (zls (zbs (zab (zac 0) (zab (zcl (zab (zac 1) (zab (zac 2) zal))) zal)))) (zdz (zadc (zac 2) (zaqp (zbs (zab (zac 0) zal)) (zac 1)))))) h
theorem zasy{f:Addr}{fd:qk}(F:Fun K "road" "road" zaki f fd)(T:Txt mg)(D_check_kinds:zcw P w K mg base)(D_roofs_of:zii P w K mg base):FnOk P w K mg base CX0 3 f fd ["web","kind","other"] (spD 3 zmr):=by
 refine F.ok zasx (λvs H Q E h=>zdr h) (λcdv A outer s H vs Q E hr h=>?_)
 have hu:=zfl hr
 apply Exists.intro
 apply And.intro
 ·refine' Bx.out (zah (zas (bpeD D_check_kinds hr (bpaC (bv 0) (bpaC (zbo (bpaC (bv 1) (bpaC (bv 2) zad))) zad))) (by rfl))
 (zah (bpsS (i:=3) zro rfl (Or.inr rfl) (bpeD D_roofs_of hr (bpaC (bv 0) zad)))
 (zah (zef (zqu (zaew hu (bv 2) (zga hu (bv 3) (bv 1) (λ_ _=>rfl))) (by rfl)) (zan (zbn zvn)) zci)
 (zah (bpsS (i:=4) zro rfl (Or.inl rfl) (bpeT (znx rfl) T.dict zrl (bpaC (bv 0) zad)))
 (zah (bpsS (i:=5) zro rfl (Or.inl rfl) (zbo (bpaC (bv 1) zad)))
 (zah (zair qAL (zcc (zqn (K:=K) rfl hr.units) (bpeX (zea (K:=K) rfl) (bv 5) (zmq zmb zao)) (bv 2) (zfv _)) (zah (zyi (i:=6) (zfm (N':=["elder","other","roofs"]) (own:=["elder"]) (fr:=[2,3]) (by kernel_rfl)) rfl (zdh (K:=K) rfl (zga hu (bv 4) (bpeX (zea (K:=K) rfl) (bv 5) (zmq zmb zao)) (λ_ _=>rfl))) ?hb1 (by rfl) zro rfl rfl (by intro _;rfl))
 (zan (zas (zbh (K:=K) rfl qH qJ qI zaw (bv 5) (bpaC (bpeX (zea (K:=K) rfl) (bv 6) zao) zad) (by rfl) (by rfl) (by rfl) (zak (by rfl)) (by rfl)) (by rfl)))))
 (zan (zbn (bv 5)))))))))
  case hb1=>(intro cl C s H fp;refine'⟨Bx.out (bpgN (i:=0) zafm rfl (Or.inl rfl)),Bx.out (zvo (zqu (zvp hu (bv 1) (zga hu (bv 2) (bv 0) (λ_ _=>rfl))) (by rfl))),Bx.out (bv 0)⟩)
 exact fn_d (f:=zaou) ((zay (zls (zbs (zab (zac 0) (zab (zcl (zab (zac 1) (zab (zac 2) zal))) zal)))) (zay (zbp (zbs (zab (zac 0) zal))) (zay (zjm (st_b (zahj (zac 2) (zhc (zac 1)))) (zdz (se_c λ_=>zgf)) zey) (zay (zbp (zgm zabg (zab (zac 0) zal))) (zay (zbp (zcl (zab (zac 1) zal))) (zay (zalv 1000 (st_t (zbb zaav (zcr (zmm (se_c λ_=>zai))) (zac 2))) (zay (zbp (zlt (zhb (zhc (zcr (zmm (se_c λ_=>zai))))) zei (zqm (by decide)) (st_b (zadc (zac 1) (zhc (zac 0)))) (zac 0))) (zxu (zcr (se_c λ_=>zai))))) zjy))))))) h
theorem zano{f:Addr}{fd:qk}(F:Fun K "hedge" "hedge" zabs f fd)(T:Txt mg)(D_above:zakl P w K mg base)(D_check_kinds:zcw P w K mg base):FnOk P w K mg base CX0 4 f fd ["web","kind","other"] (spD 3 zkn):=by
 refine F.ok zanm (λvs H Q E h=>zdr h) (λcdv A outer s H vs Q E hr h=>?_)
 have hu:=zfl hr
 apply Exists.intro
 apply And.intro
 ·refine' Bx.out (zah (zas (bpeD D_check_kinds hr (bpaC (bv 0) (bpaC (zbo (bpaC (bv 1) (bpaC (bv 2) zad))) zad))) (by rfl))
 (zah (bpsS (i:=3) zadz rfl (Or.inl rfl) (bpeD D_above hr (bpaC (bv 0) (bpaC (bv 1) zad))))
 (zah (zef (zcc (zacy (K:=K) rfl) (bv 2) (bv 3) (by rfl)) (zan (zbn zvn)) zci)
 (zan (zbn (bv 3))))))
 exact fn_d (f:=zakc) ((zay (zls (zbs (zab (zac 0) (zab (zcl (zab (zac 1) (zab (zac 2) zal))) zal)))) (zay (zbp (zbs (zab (zac 0) (zab (zac 1) zal)))) (zay (zjm (st_t (zbb zvc (zac 2) (zac 3))) (zdz (se_c λ_=>zgf)) zey) zjy)))) h
theorem zafp{f:Addr}{fd:qk}(F:Fun K "is_road" "is_road" zrp f fd)(T:Txt mg)(D_check_kinds:zcw P w K mg base):FnOk P w K mg base CX0 3 f fd ["web","kind","other","thing"] (spD 4 zkh):=by
 refine F.ok zafg (λvs H Q E h=>zdr h) (λcdv A outer s H vs Q E hr h=>?_)
 have hu:=zfl hr
 apply Exists.intro
 apply And.intro
 ·refine' Bx.out (zah (zas (bpeD D_check_kinds hr (bpaC (bv 0) (bpaC (zbo (bpaC (bv 1) (bpaC (bv 2) zad))) zad))) (by rfl))
 (zah (zef (zqs (znz (zfa (K:=K) rfl (bpeB (zpx (K:=K) rfl) T.isinstance zdc (bpaC (bv 3) (bpaC (zpn (v:=.ty "list") (by rfl) T.list zko rfl (by decide) (by decide)) zad))) (λ_=>rfl))) (zlu (znz (zfa (K:=K) rfl (bv 3) (λ_=>rfl))))).pt (zan (zbn zee)) zci)
 (zah (zef (zqs (zcc (zqn (K:=K) rfl hr.units) (bpeX (zea (K:=K) rfl) (bv 3) zao) (bv 1) (zfv _)) (zlu (zcc (zqn (K:=K) rfl hr.units) (bpeX (zea (K:=K) rfl) (bv 3) (zmq zmb zao)) (bv 2) (zfv _)))).pt (zan (zbn zee)) zci)
 (zah (bpsS (i:=4) zoj rfl (Or.inl rfl) (bpeT (znx rfl) T.dict zrl (bpaC (bv 0) zad)))
 (zah (zgq qAL rfl (zaeu rfl T.range (bpaC zao (bpaC (bpeB (zcu (K:=K) rfl) T.len zdp (bpaC (bv 3) zad)) zad)) (by rfl) (by rfl)) (bpgN (i:=5) zoj rfl (Or.inl rfl))
  (zan (zef (zcc (zjs (K:=K) rfl) (bpeX (zea (K:=K) rfl) (bv 3) (bv 5)) (zga hu (bv 4) (bpeX (zea (K:=K) rfl) (bv 3) (zba zatw (bv 5) zao)) (λ_ _=>rfl)) (by rfl)) (zan (zbn zee)) zci)) (by intro _;rfl))
 (zan (zbn zee)))))))
 exact fn_d (f:=zyo) ((zay (zls (zbs (zab (zac 0) (zab (zcl (zab (zac 1) (zab (zac 2) zal))) zal)))) (zay (zjm (zaem (zxs (ztk (zahl (zac 3) zadd))) (zxs (ztk (zac 3)))) (zdz (se_c λ_=>zar)) zey) (zay (zjm (zaem (st_t (zbb zaav (zcr (se_c λ_=>zai)) (zac 1))) (st_t (zbb zaav (zcr (zmm (se_c λ_=>zai))) (zac 2)))) (zdz (se_c λ_=>zar)) zey) (zay (zbp (zgm zabg (zab (zac 0) zal))) (zay (zmi (zahq (zab (se_c λ_=>zai) (zab (zgm zib (zab (zac 3) zal)) zal))) zei (zjm (st_t (zbb zvc (zcr (zac 5)) (zhc (zcr (zbb zaux (zac 5) (se_c λ_=>zai)))))) (zdz (se_c λ_=>zar)) zey)) (zdz (se_c λ_=>zar)))))))) h
theorem zace{f:Addr}{fd:qk}(F:Fun K "is_hedge" "is_hedge" zok f fd)(T:Txt mg)(D_are_unlike_of:zkq P w K mg base)(D_check_kinds:zcw P w K mg base)(D_names_of:zgi P w K mg base):FnOk P w K mg base CX0 3 f fd ["web","kind","other","thing"] (spD 4 zgh):=by
 refine F.ok zabt (λvs H Q E h=>zdr h) (λcdv A outer s H vs Q E hr h=>?_)
 have hu:=zfl hr
 apply Exists.intro
 apply And.intro
 ·refine' Bx.out (zah (zas (bpeD D_check_kinds hr (bpaC (bv 0) (bpaC (zbo (bpaC (bv 1) (bpaC (bv 2) zad))) zad))) (by rfl))
 (zah (zef (zqs (znz (zfa (K:=K) rfl (bpeB (zpx (K:=K) rfl) T.isinstance zdc (bpaC (bv 3) (bpaC (zpn (v:=.ty "list") (by rfl) T.list zko rfl (by decide) (by decide)) zad))) (λ_=>rfl))) (zlu (znz (zfa (K:=K) rfl (bpeD D_are_unlike_of hr (bpaC (bpeD D_names_of hr (bpaC (bv 0) zad)) (bpaC (bv 3) zad))) (λ_=>rfl))))).pt (zan (zbn zee)) zci)
 (zah (zef (zqs (zcc (zjs (K:=K) rfl) (bv 1) (bv 3) (by rfl)) (zlu (zcc (zacy (K:=K) rfl) (bv 2) (bv 3) (by rfl)))).pt (zan (zbn zee)) zci)
 (zah (bpsS (i:=4) zrq rfl (Or.inr rfl) (bpeT (znx rfl) T.dict zrl (bpaC (bv 0) zad)))
 (zan (zbn (bpeB (zxm (K:=K) rfl rfl) T.all zadw (bpaC (zaiu (zfm (N':=["name","elder","thing","elders"]) (own:=["name","elder"]) (fr:=[3,4]) (by kernel_rfl)) rfl (zdh (K:=K) rfl (bv 3)) ?hb1 (by intro _;rfl) (by intro _ _;rfl)) zad))))))))
  case hb1=>(intro cl C s H fp;refine'⟨Bx.out (bpgN (i:=0) zli rfl (Or.inl rfl)),Bx.out zqt,Bx.out (zdh (K:=K) rfl (zga hu (bv 3) (bv 0) (λ_ _=>rfl))),Bx.out (bpgN (i:=1) zli rfl (Or.inl rfl)),Bx.out zqt,Bx.out (zvm (zacy (K:=K) rfl) (bv 1) (bv 2) (by rfl))⟩)
 exact fn_d (f:=zty) ((zay (zls (zbs (zab (zac 0) (zab (zcl (zab (zac 1) (zab (zac 2) zal))) zal)))) (zay (zjm (zaem (zxs (ztk (zahl (zac 3) zadd))) (zxs (ztk (zbs (zab (zbs (zab (zac 0) zal)) (zab (zac 3) zal)))))) (zdz (se_c λ_=>zar)) zey) (zay (zjm (zaem (st_t (zbb zvc (zac 1) (zac 3))) (st_t (zbb zvc (zac 2) (zac 3)))) (zdz (se_c λ_=>zar)) zey) (zay (zbp (zgm zabg (zab (zac 0) zal))) (zdz (zgm zaoi (zab (zamf (k:=1) (zhb (zac 3)) zei (zaig (by decide) (by decide)) (by decide) zya (zhb (zhc (zac 0))) zei (zaig (by decide) (by decide)) zya (zbb zvc (zac 1) (zac 2))) zal)))))))) h
theorem zzz {f:Addr} {fd:qk} (F:Fun K "_law_names" "_law_names" zlx f fd) (T:Txt mg)  : FnOk P w K mg base CX0 1 f fd ["_law_many","_law_cell"] (spD 2 zfd):=by
 refine F.ok zzm (λvs H Q E h=>zdr h) (λcdv A outer s H vs Q E hr h=>?_)
 have hu:=zfl hr
 apply Exists.intro
 apply And.intro
 ·refine' Bx.out (zah (bpsS (i:=2) zcv rfl (Or.inl rfl) zaip)
 (zah (bpsS (i:=3) zcv rfl (Or.inl rfl) (bpeX (zea (K:=K) rfl) (zbm (bpaC zao (bpaC zao (bpaC zao (bpaC zao (bpaC zao (bpaC zao (bpaC zao (bpaC zao zad))))))))) (zba zdl (zba zez (bv 1) zao) zao)))
 (zah (bpsS (i:=4) zcv rfl (Or.inl rfl) (zba zdl (zba zez (bv 1) zao) zao))
 (zah (bpsS (i:=5) zcv rfl (Or.inl rfl) (zba zik (bpeX (zea (K:=K) rfl) (bv 2) (zba zdl (zba zez (bv 1) zao) zao)) (zba zdl (zba zez (bv 1) zao) zao)))
 (zah (bpsS (i:=6) zcv rfl (Or.inl rfl) (zba zdl (zba zez (bv 1) zao) (zba (zct (K:=K) rfl) (bpeB (zcu (K:=K) rfl) T.len zdp (bpaC (bv 5) zad)) zao)))
 (zah (bpsS (i:=7) zcv rfl (Or.inl rfl) (zbo zad))
 (zah (zgq qAL rfl (zoa rfl T.range (bpaC (bv 0) zad) (by rfl)) (bpgN (i:=8) zcv rfl (Or.inl rfl))
  (zah (bpsS (i:=9) zcv rfl (Or.inl rfl) (bpeX (zea (K:=K) rfl) (bv 2) (zba zdl (zba (zct (K:=K) rfl) (bv 4) (zba zik (bv 3) (bv 8))) zao)))
 (zan (zef (zcc (zxz (K:=K) rfl hr.units) (zba zdl (bv 1) zao) zao (zfv _)) (zan (zas (zbh (K:=K) rfl qH qJ qI zaw (bv 7) (bpaC (zba (zct (K:=K) rfl) (zba (zct (K:=K) rfl) (zic (zaap (K:=K) rfl) (bv 5) zmn (ziq (bv 6))) (bv 9)) (zic (zaap (K:=K) rfl) (bv 5) (ziq (bv 6)) zmn)) zad) (by rfl) (by rfl) (by rfl) (zak (by rfl)) (by rfl)) (by rfl))) (zan (zef (zcc (zxz (K:=K) rfl hr.units) (zba zdl (bv 1) zao) zao (zfv _)) (zan (zas (zbh (K:=K) rfl qH qJ qI zaw (bv 7) (bpaC (zba (zct (K:=K) rfl) (zic (zaap (K:=K) rfl) (bv 5) zmn (ziq (zba zdl (zba zik (bv 8) (bv 3)) (zba (zct (K:=K) rfl) (bpeB (zcu (K:=K) rfl) T.len zdp (bpaC (bv 5) zad)) zao)))) (bv 9)) zad) (by rfl) (by rfl) (by rfl) (zak (by rfl)) (by rfl)) (by rfl))) (zan (zas (zbh (K:=K) rfl qH qJ qI zaw (bv 7) (bpaC (zba zik (bpeX (zea (K:=K) rfl) (bv 2) (zba zdl (zba (zct (K:=K) rfl) (bv 4) (zba zez (bv 8) zao)) zao)) (zba (zct (K:=K) rfl) zao (zba zdl (zba zik (bv 8) (bv 3)) zao))) zad) (by rfl) (by rfl) (by rfl) (zak (by rfl)) (by rfl)) (by rfl)))))))) (by intro _;rfl))
 (zan (zbn (bv 7))))))))))
 exact fn_d (f:=zqx) ((zay (zbp (se_c λ_=>zgk)) (zay (zbp (zbb zaqo (zqd (zab (se_c λ_=>zai) (zab (se_c λ_=>zai) (zab (se_c λ_=>zai) (zab (se_c λ_=>zai) (zab (se_c λ_=>zai) (zab (se_c λ_=>zai) (zab (se_c λ_=>zai) (zab (se_c λ_=>zai) zal))))))))) (zbb zed (zbb zft (zac 1) (se_c λ_=>zai)) (se_c λ_=>zai)))) (zay (zbp (zbb zed (zbb zft (zac 1) (se_c λ_=>zai)) (se_c λ_=>zai))) (zay (zbp (zbb zxq (zcr (zbb zed (zbb zft (zac 1) (se_c λ_=>zai)) (se_c λ_=>zai))) (zbb zed (zbb zft (zac 1) (se_c λ_=>zai)) (se_c λ_=>zai)))) (zay (zbp (zbb zed (zbb zft (zac 1) (se_c λ_=>zai)) (zbb zia (zgm zib (zab (zac 5) zal)) (se_c λ_=>zai)))) (zay (zbp (zcl zal)) (zay (zmi (zqi (zab (zac 0) zal)) zei (zay (zbp (zcr (zbb zed (zbb zia (zac 4) (zbb zxq (zac 3) (zac 8))) (se_c λ_=>zai)))) (zjm (st_t (zbb zahg (zbb zed (zac 1) (se_c λ_=>zai)) (se_c λ_=>zai))) (zxu (zbb zia (zbb zia (zaen (zac 5) zqf (zlq (zac 6))) (zac 9)) (zaen (zac 5) (zlq (zac 6)) zqf))) (zjm (st_t (zbb zahg (zbb zed (zac 1) (se_c λ_=>zai)) (se_c λ_=>zai))) (zxu (zbb zia (zaen (zac 5) zqf (zlq (zbb zed (zbb zxq (zac 8) (zac 3)) (zbb zia (zgm zib (zab (zac 5) zal)) (se_c λ_=>zai))))) (zac 9))) (zxu (zbb zxq (zcr (zbb zed (zbb zia (zac 4) (zbb zft (zac 8) (se_c λ_=>zai))) (se_c λ_=>zai))) (zbb zia (se_c λ_=>zai) (zbb zed (zbb zxq (zac 8) (zac 3)) (se_c λ_=>zai))))))))) zjy)))))))) h
theorem zafq {f:Addr} {fd:qk} (F:Fun K "_law_web" "_law_web" zrt f fd) (T:Txt mg)  : FnOk P w K mg base CX0 1 f fd ["_law_cells","_law_names_here"] (spD 2 zie):=by
 refine F.ok zafh (λvs H Q E h=>zdr h) (λcdv A outer s H vs Q E hr h=>?_)
 have hu:=zfl hr
 apply Exists.intro
 apply And.intro
 ·refine' Bx.out (zah (bpsS (i:=2) zdn rfl (Or.inl rfl) (zbo zad))
 (zah (zgq qAL rfl (zait (K:=K) rfl rfl T.enumerate (bpaC (bv 1) zad) (by rfl)) (zmp (K:=K) (n:=2) rfl rfl (zeg (bpgN (i:=3) zdn rfl (Or.inl rfl)) (zeg (bpgN (i:=4) zdn rfl (Or.inl rfl)) zmo (by rfl)) (by rfl)) (by rfl) (by rfl))
  (zah (bpsS (i:=5) zdn rfl (Or.inl rfl) (zic (zaap (K:=K) rfl) (bv 1) zmn (ziq (bv 3))))
 (zah (bpsS (i:=6) zdn rfl (Or.inl rfl) (zba zez (bpeX (zea (K:=K) rfl) (bv 0) (bv 3)) zao))
 (zah (bpsS (i:=7) zdn rfl (Or.inl rfl) (zbo zad))
 (zah (zgq qAL rfl (zoa rfl T.range (bpaC (bpeB (zagb rfl) T.min zank (bpaC (zba zdl (bpeX (zea (K:=K) rfl) (bv 0) (bv 3)) zao) (bpaC (bv 3) zad))) zad) (by rfl)) (bpgN (i:=8) zdn rfl (Or.inl rfl))
  (zah (bpsS (i:=9) zdn rfl (Or.inl rfl) (zba zdl (bv 6) (bpeB (zcu (K:=K) rfl) T.len zdp (bpaC (bv 5) zad))))
 (zah (bpsS (i:=6) zdn rfl (Or.inl rfl) (zba zez (bv 6) (bpeB (zcu (K:=K) rfl) T.len zdp (bpaC (bv 5) zad))))
 (zan (zas (zbh (K:=K) rfl qH qJ qI zaw (bv 7) (bpaC (zbh (K:=K) rfl qH qCs qCr zact (bv 5) (bpaC (bv 9) zad) (by rfl) (by rfl) (by rfl) (zak (by rfl)) (by rfl)) zad) (by rfl) (by rfl) (by rfl) (zak (by rfl)) (by rfl)) (by rfl))))) (by intro _;rfl))
 (zan (zas (zbh (K:=K) rfl qH qJ qI zaw (bv 2) (bpaC (zbm (bpaC (bv 4) (bpaC (bv 7) zad))) zad) (by rfl) (by rfl) (by rfl) (zak (by rfl)) (by rfl)) (by rfl))))))) (by intro _;rfl))
 (zan (zbn (bv 2)))))
 exact fn_d (f:=zyp) ((zay (zbp (zcl zal)) (zay (zmi (zaim (zab (zac 1) zal)) (zadf (zha (zha zvd))) (zay (zbp (zaen (zac 1) zqf (zlq (zac 3)))) (zay (zbp (zbb zft (zcr (zac 3)) (se_c λ_=>zai))) (zay (zbp (zcl zal)) (zay (zmi (zqi (zab (zgm zava (zab (zbb zed (zcr (zac 3)) (se_c λ_=>zai)) (zab (zac 3) zal))) zal)) zei (zay (zbp (zbb zed (zac 6) (zgm zib (zab (zac 5) zal)))) (zay (zbp (zbb zft (zac 6) (zgm zib (zab (zac 5) zal)))) (zyc (zac 9))))) (zxu (zqd (zab (zac 4) (zab (zac 7) zal))))))))) zjy))) h
theorem zafr {f:Addr} {fd:qk} (F:Fun K "_law_arm" "_law_arm" zru f fd) (T:Txt mg)  : FnOk P w K mg base CX0 1 f fd ["_law_cell","_law_names_here"] (spD 2 zdx):=by
 refine F.ok zafi (λvs H Q E h=>zdr h) (λcdv A outer s H vs Q E hr h=>?_)
 have hu:=zfl hr
 apply Exists.intro
 apply And.intro
 ·refine' Bx.out (zah (bpsS (i:=2) zfh rfl (Or.inl rfl) (bpeT (znu (K:=K) rfl) T.list zko (bpaC (bv 1) zad)))
 (zah (bpsS (i:=3) zfh rfl (Or.inl rfl) (zba zez (bv 0) (bpeB (zcu (K:=K) rfl) T.len zdp (bpaC (bv 1) zad))))
 (zah (bpsS (i:=4) zfh rfl (Or.inl rfl) (zbo zad))
 (zah (zgq qAL rfl (zoa rfl T.range (bpaC (zba (zct (K:=K) rfl) zao (zba zdl (bv 0) (bpeB (zcu (K:=K) rfl) T.len zdp (bpaC (bv 1) zad)))) zad) (by rfl)) (bpgN (i:=5) zfh rfl (Or.inl rfl))
  (zah (bpsS (i:=6) zfh rfl (Or.inl rfl) (zba zdl (bv 3) (bpeB (zcu (K:=K) rfl) T.len zdp (bpaC (bv 2) zad))))
 (zah (bpsS (i:=3) zfh rfl (Or.inl rfl) (zba zez (bv 3) (bpeB (zcu (K:=K) rfl) T.len zdp (bpaC (bv 2) zad))))
 (zan (zas (zbh (K:=K) rfl qH qJ qI zaw (bv 4) (bpaC (zbh (K:=K) rfl qH qCs qCr zact (bv 2) (bpaC (bv 6) zad) (by rfl) (by rfl) (by rfl) (zak (by rfl)) (by rfl)) zad) (by rfl) (by rfl) (by rfl) (zak (by rfl)) (by rfl)) (by rfl))))) (by intro _;rfl))
 (zan (zbn (bv 4)))))))
 exact fn_d (f:=zmw) ((zay (zbp (zgm zaba (zab (zac 1) zal))) (zay (zbp (zbb zft (zac 0) (zgm zib (zab (zac 1) zal)))) (zay (zbp (zcl zal)) (zay (zmi (zqi (zab (zbb zia (se_c λ_=>zai) (zbb zed (zac 0) (zgm zib (zab (zac 1) zal)))) zal)) zei (zay (zbp (zbb zed (zac 3) (zgm zib (zab (zac 2) zal)))) (zay (zbp (zbb zft (zac 3) (zgm zib (zab (zac 2) zal)))) (zyc (zac 6))))) zjy))))) h
theorem zacf{f:Addr}{fd:qk}{cl:Str->Addr}(F:Fun K "_law_told" "_law_told" zol f fd)(T:Txt mg)(XK:XKit P w K mg base cl ["NoKind"] ["NoBook","NoCall","NoFit","NoKind","NoRule","NoWeb"] "CallError"):ToldOk P w K mg base 6 5 f fd "_law_ask" (tolD cl zaf):=by
 refine zaqy F zabu (λcdv A outer s H g R Q hr h0k hg hn ha ht=>?_)
 have hu:=zfl hr
 apply Exists.intro
 apply And.intro
 ·refine' Bx.out (zah (bpsS (i:=2) zgu rfl (Or.inl rfl) (zbm (bpaC zaip zad)))
 (zah (zamt (i:=0) (j:=1) ha XK rfl (hr.mono (by decide)) hg hn rfl rfl zgu rfl rfl rfl rfl (by rfl) (λ_ _ _ hxm hxcl=>(zah (bpsS (i:=3) zgu rfl (Or.inl rfl) (bpeB (zqv (K:=K) rfl hxm hxcl) T.isinstance zdc (bpaC (bv 1) (bpaC (zbm (bpaC (zkx (by rfl) (XK.mgk "NoWeb" (by decide)) (by decide)) (bpaC (zkx (by rfl) (XK.mgk "NoBook" (by decide)) (by decide)) (bpaC (zkx (by rfl) (XK.mgk "NoCall" (by decide)) (by decide)) (bpaC (zkx (by rfl) (XK.mgk "NoRule" (by decide)) (by decide)) (bpaC (zkx (by rfl) (XK.mgk "NoFit" (by decide)) (by decide)) zad)))))) zad)))) (zan (bpsS (i:=2) zgu rfl (Or.inl rfl) (zbm (bpaC (bpeB (zqv (K:=K) rfl hxm hxcl) T.isinstance zdc (bpaC (bv 1) (bpaC (zkx (by rfl) (XK.mgk "NoKind" (by decide)) (by decide)) zad))) (bpaC (bpeB (zqv (K:=K) rfl hxm hxcl) T.isinstance zdc (bpaC (bv 1) (bpaC (zpn (v:=.ty "ValueError") (by rfl) XK.mgV zju rfl (by decide) (by decide)) zad))) (bpaC (bv 3) (bpaC (zamq (K:=K) rfl hxm (bv 1) (by rfl)) zad))))))))) (by decide) (by decide) (by decide) (by rfl))
 (zan (zbn (bv 2)))))
 exact(zawd (cl:=cl) (by decide) (by decide) (by decide) (zqd (zab (se_c λ_=>zgk) zal)) (by intro xc hxc xd;exact(zarq (zaiw (i:=3) (j:=1) (zamz (zgr (XK.kit xc hxc "NoWeb" (by decide)) (zgr (XK.kit xc hxc "NoBook" (by decide)) (zgr (XK.kit xc hxc "NoCall" (by decide)) (zgr (XK.kit xc hxc "NoRule" (by decide)) (zgr (XK.kit xc hxc "NoFit" (by decide)) zaez)))))) (by decide)) (zaiw (i:=2) (j:=1) (zarp (zpo (zarm (XK.kit xc hxc "NoKind" (by decide))) (zpo (zarn (XK.val xc hxc)) (zpo (zavq (zac 3)) (zpo zavs zaro))))) (by decide))))) ht
theorem zon{f:Addr}{fd:qk}{cl:Str->Addr}(F:Fun K "check_kinds" "check_kinds" zjk f fd)(T:Txt mg)(D_names_of:zgi P w K mg base)(X_NoKind:XcOk P w K mg base "NoKind" (cl "NoKind")):FnOk P w K mg base (CXE P w) 3 f fd ["web","names"] (spX cl 2 zbl):=by
 refine zop F zom (λvs H Q E h=>zkc h) (λcdv A outer s H vs Q E hr h0k h=>?_)
 have hu:=zfl hr
 apply Exists.intro
 apply And.intro
 ·refine' Bx.out (zah (bpsS (i:=2) zfi rfl (Or.inl rfl) (bpeD D_names_of hr (bpaC (bv 0) zad)))
 (zan (zgq PassesOwn.leaving rfl (zdh (K:=K) rfl (bv 1)) (bpgN (i:=3) zfi rfl (Or.inl rfl))
  (zan (zef (zcc (zjs (K:=K) rfl) (bv 3) (bv 2) (by rfl)) (zan (zaiv (C:=cl "NoKind") X_NoKind (hr.mono (by decide)) rfl rfl (zavp h0k) (by rfl) (bv 3) (by decide) (by rfl))) zci)) (by intro _;rfl))))
 exact fn_x (f:=zeh) ((zkb (zmj (zbp (zbs (zab (zac 0) zal)))) (zaqu (zhb (zac 1)) zei (zave (st_t (zbb zvc (zac 3) (zac 2))) (zahr (zac 3)) (zmj zey))))) h
theorem zacg{f:Addr}{fd:qk}{cl:Str->Addr}(F:Fun K "above" "above" zui f fd)(T:Txt mg)(D_check_kinds__X:zbz P w K mg base cl)(D_names_in:zla P w K mg base):FnOk P w K mg base (CXE P w) 4 f fd ["web","arm"] (spX cl 2 zdj):=by
 refine zop F zabx (λvs H Q E h=>zkc h) (λcdv A outer s H vs Q E hr h0k h=>?_)
 have hu:=zfl hr
 apply Exists.intro
 apply And.intro
 ·refine' Bx.out (zah (zas (zbt D_check_kinds__X (zll h0k) (hr.mono (by decide)) (by rfl) (bpaC (bv 0) (bpaC (bpeD D_names_in hr (bpaC (bv 1) zad)) zad)) (by decide) (zak (by rfl)) (by rfl)) (by rfl))
 zir)
 exact fn_x (f:=zrj) ((zkb (zin (zab (zac 0) (zab (zbs (zab (zac 1) zal)) zal))) (zmj zqw))) h
theorem zwf{f:Addr}{fd:qk}{cl:Str->Addr}(F:Fun K "beneath" "beneath" zor f fd)(T:Txt mg)(D_check_kinds__X:zbz P w K mg base cl):FnOk P w K mg base (CXE P w) 4 f fd ["web","kind"] (spX cl 2 zdy):=by
 refine zop F zwb (λvs H Q E h=>zkc h) (λcdv A outer s H vs Q E hr h0k h=>?_)
 have hu:=zfl hr
 apply Exists.intro
 apply And.intro
 ·refine' Bx.out (zah (zas (zbt D_check_kinds__X (zll h0k) (hr.mono (by decide)) (by rfl) (bpaC (bv 0) (bpaC (zbo (bpaC (bv 1) zad)) zad)) (by decide) (zak (by rfl)) (by rfl)) (by rfl))
 zir)
 exact fn_x (f:=zmx) ((zkb (zin (zab (zac 0) (zab (zcl (zab (zac 1) zal)) zal))) (zmj zqw))) h
theorem zaaa{f:Addr}{fd:qk}{cl:Str->Addr}(F:Fun K "stands" "stands" zrw f fd)(T:Txt mg)(D_check_kinds__X:zbz P w K mg base cl):FnOk P w K mg base (CXE P w) 4 f fd ["web","kind","other"] (spX cl 3 zbk):=by
 refine zop F zzq (λvs H Q E h=>zkc h) (λcdv A outer s H vs Q E hr h0k h=>?_)
 have hu:=zfl hr
 apply Exists.intro
 apply And.intro
 ·refine' Bx.out (zah (zas (zbt D_check_kinds__X (zll h0k) (hr.mono (by decide)) (by rfl) (bpaC (bv 0) (bpaC (zbo (bpaC (bv 1) (bpaC (bv 2) zad))) zad)) (by decide) (zak (by rfl)) (by rfl)) (by rfl))
 zir)
 exact fn_x (f:=zoq) ((zkb (zin (zab (zac 0) (zab (zcl (zab (zac 1) (zab (zac 2) zal))) zal))) (zmj zqw))) h
theorem zafs{f:Addr}{fd:qk}{cl:Str->Addr}(F:Fun K "road" "road" zzr f fd)(T:Txt mg)(D_check_kinds__X:zbz P w K mg base cl):FnOk P w K mg base (CXE P w) 4 f fd ["web","kind","other"] (spX cl 3 zca):=by
 refine zop F zafl (λvs H Q E h=>zkc h) (λcdv A outer s H vs Q E hr h0k h=>?_)
 have hu:=zfl hr
 apply Exists.intro
 apply And.intro
 ·refine' Bx.out (zah (zas (zbt D_check_kinds__X (zll h0k) (hr.mono (by decide)) (by rfl) (bpaC (bv 0) (bpaC (zbo (bpaC (bv 1) (bpaC (bv 2) zad))) zad)) (by decide) (zak (by rfl)) (by rfl)) (by rfl))
 zir)
 exact fn_x (f:=zua) ((zkb (zin (zab (zac 0) (zab (zcl (zab (zac 1) (zab (zac 2) zal))) zal))) (zmj zqw))) h
theorem zach{f:Addr}{fd:qk}{cl:Str->Addr}(F:Fun K "hedge" "hedge" zuk f fd)(T:Txt mg)(D_check_kinds__X:zbz P w K mg base cl):FnOk P w K mg base (CXE P w) 4 f fd ["web","kind","other"] (spX cl 3 zbu):=by
 refine zop F zabz (λvs H Q E h=>zkc h) (λcdv A outer s H vs Q E hr h0k h=>?_)
 have hu:=zfl hr
 apply Exists.intro
 apply And.intro
 ·refine' Bx.out (zah (zas (zbt D_check_kinds__X (zll h0k) (hr.mono (by decide)) (by rfl) (bpaC (bv 0) (bpaC (zbo (bpaC (bv 1) (bpaC (bv 2) zad))) zad)) (by decide) (zak (by rfl)) (by rfl)) (by rfl))
 zir)
 exact fn_x (f:=zrk) ((zkb (zin (zab (zac 0) (zab (zcl (zab (zac 1) (zab (zac 2) zal))) zal))) (zmj zqw))) h
theorem zwg{f:Addr}{fd:qk}{cl:Str->Addr}(F:Fun K "is_road" "is_road" zot f fd)(T:Txt mg)(D_check_kinds__X:zbz P w K mg base cl):FnOk P w K mg base (CXE P w) 4 f fd ["web","kind","other","thing"] (spX cl 4 zbq):=by
 refine zop F zwd (λvs H Q E h=>zkc h) (λcdv A outer s H vs Q E hr h0k h=>?_)
 have hu:=zfl hr
 apply Exists.intro
 apply And.intro
 ·refine' Bx.out (zah (zas (zbt D_check_kinds__X (zll h0k) (hr.mono (by decide)) (by rfl) (bpaC (bv 0) (bpaC (zbo (bpaC (bv 1) (bpaC (bv 2) zad))) zad)) (by decide) (zak (by rfl)) (by rfl)) (by rfl))
 zir)
 exact fn_x (f:=zmy) ((zkb (zin (zab (zac 0) (zab (zcl (zab (zac 1) (zab (zac 2) zal))) zal))) (zmj zqw))) h
theorem zsn{f:Addr}{fd:qk}{cl:Str->Addr}(F:Fun K "is_hedge" "is_hedge" zna f fd)(T:Txt mg)(D_check_kinds__X:zbz P w K mg base cl):FnOk P w K mg base (CXE P w) 4 f fd ["web","kind","other","thing"] (spX cl 4 zau):=by
 refine zop F zsl (λvs H Q E h=>zkc h) (λcdv A outer s H vs Q E hr h0k h=>?_)
 have hu:=zfl hr
 apply Exists.intro
 apply And.intro
 ·refine' Bx.out (zah (zas (zbt D_check_kinds__X (zll h0k) (hr.mono (by decide)) (by rfl) (bpaC (bv 0) (bpaC (zbo (bpaC (bv 1) (bpaC (bv 2) zad))) zad)) (by decide) (zak (by rfl)) (by rfl)) (by rfl))
 zir)
 exact fn_x (f:=zlg) ((zkb (zin (zab (zac 0) (zab (zcl (zab (zac 1) (zab (zac 2) zal))) zal))) (zmj zqw))) h
end
noncomputable def zeu(K:qB)(cl:Str->Addr):LamI:=mkR zag 0 ["_law_web_here","_law_lost"] [0,2] (λH E=>tCall (spX cl 2 zdj) [] (StX H E) (tCons (tVar 0) (tCons (tVar 1) tNil)))
theorem zwh:LamScope ["_law_web_here","_law_lost"] (zfb (zfc zag 0)).2.2:=⟨rfl,rfl,rfl,by decide +kernel,by decide +kernel⟩
noncomputable def ziy(K:qB)(cl:Str->Addr):LamI:=mkR zag 1 ["_law_web_here","_law_arm_here"] [0,4] (λH E=>tCall (spX cl 2 zdj) [] (StX H E) (tCons (tVar 0) (tCons (tOp (rIxU K) (tVar 1) (tC (.int 1))) tNil)))
theorem zwi:LamScope ["_law_web_here","_law_arm_here"] (zfb (zfc zag 1)).2.2:=⟨rfl,rfl,rfl,by decide +kernel,by decide +kernel⟩
noncomputable def ziz(K:qB)(cl:Str->Addr):LamI:=mkR zag 2 ["_law_web_here","_law_odd"] [0,3] (λH E=>tCall (spX cl 2 zdy) [] (StX H E) (tCons (tVar 0) (tCons (tVar 1) tNil)))
theorem zwj:LamScope ["_law_web_here","_law_odd"] (zfb (zfc zag 2)).2.2:=⟨rfl,rfl,rfl,by decide +kernel,by decide +kernel⟩
noncomputable def zja(K:qB)(cl:Str->Addr):LamI:=mkR zag 3 ["_law_web_here","_law_kind","_law_lost"] [0,1,2] (λH E=>tCall (spX cl 3 zbk) [] (StX H E) (tCons (tVar 0) (tCons (tVar 1) (tCons (tVar 2) tNil))))
theorem zwk:LamScope ["_law_web_here","_law_kind","_law_lost"] (zfb (zfc zag 3)).2.2:=⟨rfl,rfl,rfl,by decide +kernel,by decide +kernel⟩
noncomputable def zjb(K:qB)(cl:Str->Addr):LamI:=mkR zag 4 ["_law_web_here","_law_kind","_law_odd"] [0,1,3] (λH E=>tCall (spX cl 3 zbk) [] (StX H E) (tCons (tVar 0) (tCons (tVar 2) (tCons (tVar 1) tNil))))
theorem zwl:LamScope ["_law_web_here","_law_kind","_law_odd"] (zfb (zfc zag 4)).2.2:=⟨rfl,rfl,rfl,by decide +kernel,by decide +kernel⟩
noncomputable def zjc(K:qB)(cl:Str->Addr):LamI:=mkR zag 5 ["_law_web_here","_law_lost","_law_odd"] [0,2,3] (λH E=>tCall (spX cl 3 zbk) [] (StX H E) (tCons (tVar 0) (tCons (tVar 2) (tCons (tVar 1) tNil))))
theorem zwm:LamScope ["_law_web_here","_law_lost","_law_odd"] (zfb (zfc zag 5)).2.2:=⟨rfl,rfl,rfl,by decide +kernel,by decide +kernel⟩
noncomputable def zjd(K:qB)(cl:Str->Addr):LamI:=mkR zag 6 ["_law_web_here","_law_lost","_law_odd"] [0,2,3] (λH E=>tCall (spX cl 3 zca) [] (StX H E) (tCons (tVar 0) (tCons (tVar 1) (tCons (tVar 2) tNil))))
theorem zwn:LamScope ["_law_web_here","_law_lost","_law_odd"] (zfb (zfc zag 6)).2.2:=⟨rfl,rfl,rfl,by decide +kernel,by decide +kernel⟩
noncomputable def zje(K:qB)(cl:Str->Addr):LamI:=mkR zag 7 ["_law_web_here","_law_kind","_law_odd"] [0,1,3] (λH E=>tCall (spX cl 3 zca) [] (StX H E) (tCons (tVar 0) (tCons (tVar 1) (tCons (tVar 2) tNil))))
theorem zwo:LamScope ["_law_web_here","_law_kind","_law_odd"] (zfb (zfc zag 7)).2.2:=⟨rfl,rfl,rfl,by decide +kernel,by decide +kernel⟩
noncomputable def zjf(K:qB)(cl:Str->Addr):LamI:=mkR zag 8 ["_law_web_here","_law_kind","_law_lost"] [0,1,2] (λH E=>tCall (spX cl 3 zca) [] (StX H E) (tCons (tVar 0) (tCons (tVar 2) (tCons (tVar 1) tNil))))
theorem zwp:LamScope ["_law_web_here","_law_kind","_law_lost"] (zfb (zfc zag 8)).2.2:=⟨rfl,rfl,rfl,by decide +kernel,by decide +kernel⟩
noncomputable def zjg(K:qB)(cl:Str->Addr):LamI:=mkR zag 9 ["_law_web_here","_law_kind","_law_lost"] [0,1,2] (λH E=>tCall (spX cl 3 zbu) [] (StX H E) (tCons (tVar 0) (tCons (tVar 1) (tCons (tVar 2) tNil))))
theorem zwq:LamScope ["_law_web_here","_law_kind","_law_lost"] (zfb (zfc zag 9)).2.2:=⟨rfl,rfl,rfl,by decide +kernel,by decide +kernel⟩
noncomputable def zhl(K:qB)(cl:Str->Addr):LamI:=mkR zag 10 ["_law_web_here","_law_kind","_law_odd"] [0,1,3] (λH E=>tCall (spX cl 3 zbu) [] (StX H E) (tCons (tVar 0) (tCons (tVar 2) (tCons (tVar 1) tNil))))
theorem zso:LamScope ["_law_web_here","_law_kind","_law_odd"] (zfb (zfc zag 10)).2.2:=⟨rfl,rfl,rfl,by decide +kernel,by decide +kernel⟩
noncomputable def zhm(K:qB)(cl:Str->Addr):LamI:=mkR zag 11 ["_law_web_here","_law_lost","_law_odd"] [0,2,3] (λH E=>tCall (spX cl 4 zbq) [] (StX H E) (tCons (tVar 0) (tCons (tVar 1) (tCons (tVar 2) (tCons (tLst (tCons (tVar 1) tNil)) tNil)))))
theorem zsp:LamScope ["_law_web_here","_law_lost","_law_odd"] (zfb (zfc zag 11)).2.2:=⟨rfl,rfl,rfl,by decide +kernel,by decide +kernel⟩
noncomputable def zhn(K:qB)(cl:Str->Addr):LamI:=mkR zag 12 ["_law_web_here","_law_kind","_law_odd"] [0,1,3] (λH E=>tCall (spX cl 4 zbq) [] (StX H E) (tCons (tVar 0) (tCons (tVar 1) (tCons (tVar 2) (tCons (tC .non) tNil)))))
theorem zsq:LamScope ["_law_web_here","_law_kind","_law_odd"] (zfb (zfc zag 12)).2.2:=⟨rfl,rfl,rfl,by decide +kernel,by decide +kernel⟩
noncomputable def zho(K:qB)(cl:Str->Addr):LamI:=mkR zag 13 ["_law_web_here","_law_lost","_law_odd"] [0,2,3] (λH E=>tCall (spX cl 4 zau) [] (StX H E) (tCons (tVar 0) (tCons (tVar 2) (tCons (tVar 1) (tCons (tLst (tCons (tVar 2) tNil)) tNil)))))
theorem zsr:LamScope ["_law_web_here","_law_lost","_law_odd"] (zfb (zfc zag 13)).2.2:=⟨rfl,rfl,rfl,by decide +kernel,by decide +kernel⟩
noncomputable def zhp(K:qB)(cl:Str->Addr):LamI:=mkR zag 14 ["_law_web_here","_law_kind","_law_lost"] [0,1,2] (λH E=>tCall (spX cl 4 zau) [] (StX H E) (tCons (tVar 0) (tCons (tVar 1) (tCons (tVar 2) (tCons (tLst (tCons (tVar 1) tNil)) tNil)))))
theorem zss:LamScope ["_law_web_here","_law_kind","_law_lost"] (zfb (zfc zag 14)).2.2:=⟨rfl,rfl,rfl,by decide +kernel,by decide +kernel⟩
noncomputable def zhq(K:qB)(cl:Str->Addr):LamI:=mkR zag 15 ["_law_web_here","_law_lost"] [0,2] (λH E=>tCall (spX cl 3 zbk) [] (StX H E) (tCons (tVar 0) (tCons (tVar 1) (tCons (tVar 1) tNil))))
theorem zst:LamScope ["_law_web_here","_law_lost"] (zfb (zfc zag 15)).2.2:=⟨rfl,rfl,rfl,by decide +kernel,by decide +kernel⟩
noncomputable def zhr(K:qB)(cl:Str->Addr):LamI:=mkR zag 16 ["_law_web_here","_law_lost"] [0,2] (λH E=>tCall (spX cl 3 zca) [] (StX H E) (tCons (tVar 0) (tCons (tVar 1) (tCons (tVar 1) tNil))))
theorem zsu:LamScope ["_law_web_here","_law_lost"] (zfb (zfc zag 16)).2.2:=⟨rfl,rfl,rfl,by decide +kernel,by decide +kernel⟩
noncomputable def zhs(K:qB)(cl:Str->Addr):LamI:=mkR zag 17 ["_law_web_here","_law_lost"] [0,2] (λH E=>tCall (spX cl 3 zbu) [] (StX H E) (tCons (tVar 0) (tCons (tVar 1) (tCons (tVar 1) tNil))))
theorem zsv:LamScope ["_law_web_here","_law_lost"] (zfb (zfc zag 17)).2.2:=⟨rfl,rfl,rfl,by decide +kernel,by decide +kernel⟩
noncomputable def zht(K:qB)(cl:Str->Addr):LamI:=mkR zag 18 ["_law_web_here","_law_lost","_law_odd"] [0,2,3] (λH E=>tCall (spX cl 3 zbu) [] (StX H E) (tCons (tVar 0) (tCons (tVar 2) (tCons (tVar 1) tNil))))
theorem zsw:LamScope ["_law_web_here","_law_lost","_law_odd"] (zfb (zfc zag 18)).2.2:=⟨rfl,rfl,rfl,by decide +kernel,by decide +kernel⟩
noncomputable def zhu(K:qB)(cl:Str->Addr):LamI:=mkR zag 19 ["_law_web_here","_law_lost"] [0,2] (λH E=>tCall (spX cl 4 zbq) [] (StX H E) (tCons (tVar 0) (tCons (tVar 1) (tCons (tVar 1) (tCons (tLst (tCons (tVar 1) tNil)) tNil)))))
theorem zsx:LamScope ["_law_web_here","_law_lost"] (zfb (zfc zag 19)).2.2:=⟨rfl,rfl,rfl,by decide +kernel,by decide +kernel⟩
noncomputable def zhv(K:qB)(cl:Str->Addr):LamI:=mkR zag 20 ["_law_web_here","_law_lost"] [0,2] (λH E=>tCall (spX cl 4 zau) [] (StX H E) (tCons (tVar 0) (tCons (tVar 1) (tCons (tVar 1) (tCons (tLst (tCons (tVar 1) tNil)) tNil)))))
theorem zsy:LamScope ["_law_web_here","_law_lost"] (zfb (zfc zag 20)).2.2:=⟨rfl,rfl,rfl,by decide +kernel,by decide +kernel⟩
noncomputable def zhw(K:qB)(cl:Str->Addr):LamI:=mkR zag 21 ["_law_web_here","_law_kind","_law_lost"] [0,1,2] (λH E=>tCall (spX cl 4 zau) [] (StX H E) (tCons (tVar 0) (tCons (tVar 2) (tCons (tVar 1) (tCons (tC .non) tNil)))))
theorem zsz:LamScope ["_law_web_here","_law_kind","_law_lost"] (zfb (zfc zag 21)).2.2:=⟨rfl,rfl,rfl,by decide +kernel,by decide +kernel⟩
noncomputable def zhx(K:qB)(cl:Str->Addr):LamI:=mkR zag 22 ["_law_web_here","_law_kind","_law_odd"] [0,1,3] (λH E=>tCall (spX cl 4 zau) [] (StX H E) (tCons (tVar 0) (tCons (tVar 1) (tCons (tVar 2) (tCons (tLst (tCons (tVar 2) tNil)) tNil)))))
theorem zta:LamScope ["_law_web_here","_law_kind","_law_odd"] (zfb (zfc zag 22)).2.2:=⟨rfl,rfl,rfl,by decide +kernel,by decide +kernel⟩
noncomputable def zhy(K:qB)(cl:Str->Addr):LamI:=mkR zag 23 ["_law_web_here","_law_lost","_law_odd"] [0,2,3] (λH E=>tCall (spX cl 4 zau) [] (StX H E) (tCons (tVar 0) (tCons (tVar 2) (tCons (tVar 1) (tCons (tLst tNil) tNil)))))
theorem ztb:LamScope ["_law_web_here","_law_lost","_law_odd"] (zfb (zfc zag 23)).2.2:=⟨rfl,rfl,rfl,by decide +kernel,by decide +kernel⟩
noncomputable abbrev zjh(K:qB)(cl:Str->Addr):List (TE×LamI):=[((tOp (rIxU K) (tVar 4) (tC (.int 0))),ziy K cl),((tVar 3),ziz K cl),((tVar 2),zja K cl),((tVar 3),zjb K cl),((tVar 3),zjc K cl),((tVar 2),zjd K cl),((tVar 3),zje K cl),((tVar 2),zjf K cl),((tVar 2),zjg K cl),((tVar 3),zhl K cl),((tVar 2),zhm K cl),((tVar 3),zhn K cl),((tVar 3),zho K cl),((tVar 2),zhp K cl),((tVar 2),zhq K cl),((tVar 2),zhr K cl),((tVar 2),zhs K cl),((tVar 3),zht K cl),((tVar 2),zhu K cl),((tVar 2),zhv K cl),((tVar 2),zhw K cl),((tVar 3),zhx K cl),((tVar 3),zhy K cl)]
noncomputable abbrev zgd(K:qB)(cl:Str->Addr):List LamI:=zeu K cl::(zjh K cl).map (·.2)
noncomputable abbrev zji:List EF:=[(eVar 2),(eIxV 4 (eC (.int 0))),(eVar 3),(eVar 2),(eVar 3),(eVar 3),(eVar 2),(eVar 3),(eVar 2),(eVar 2),(eVar 3),(eVar 2),(eVar 3),(eVar 3),(eVar 2),(eVar 2),(eVar 2),(eVar 2),(eVar 3),(eVar 2),(eVar 2),(eVar 2),(eVar 3),(eVar 3)]
noncomputable abbrev zaci:List EF:=[zaz [0,2] 2 zdj (zaa (eVar 0) (zaa (eVar 1) aNil)) zaf,zaz [0,4] 2 zdj (zaa (eVar 0) (zaa (eIxV 1 (eC (.int 1))) aNil)) zaf,zaz [0,3] 2 zdy (zaa (eVar 0) (zaa (eVar 1) aNil)) zaf,zaz [0,1,2] 3 zbk (zaa (eVar 0) (zaa (eVar 1) (zaa (eVar 2) aNil))) zaf,zaz [0,1,3] 3 zbk (zaa (eVar 0) (zaa (eVar 2) (zaa (eVar 1) aNil))) zaf,zaz [0,2,3] 3 zbk (zaa (eVar 0) (zaa (eVar 2) (zaa (eVar 1) aNil))) zaf,zaz [0,2,3] 3 zca (zaa (eVar 0) (zaa (eVar 1) (zaa (eVar 2) aNil))) zaf,zaz [0,1,3] 3 zca (zaa (eVar 0) (zaa (eVar 1) (zaa (eVar 2) aNil))) zaf,zaz [0,1,2] 3 zca (zaa (eVar 0) (zaa (eVar 2) (zaa (eVar 1) aNil))) zaf,zaz [0,1,2] 3 zbu (zaa (eVar 0) (zaa (eVar 1) (zaa (eVar 2) aNil))) zaf,zaz [0,1,3] 3 zbu (zaa (eVar 0) (zaa (eVar 2) (zaa (eVar 1) aNil))) zaf,zaz [0,2,3] 4 zbq (zaa (eVar 0) (zaa (eVar 1) (zaa (eVar 2) (zaa (eLst (zaa (eVar 1) aNil)) aNil)))) zaf,zaz [0,1,3] 4 zbq (zaa (eVar 0) (zaa (eVar 1) (zaa (eVar 2) (zaa (eC .none) aNil)))) zaf,zaz [0,2,3] 4 zau (zaa (eVar 0) (zaa (eVar 2) (zaa (eVar 1) (zaa (eLst (zaa (eVar 2) aNil)) aNil)))) zaf,zaz [0,1,2] 4 zau (zaa (eVar 0) (zaa (eVar 1) (zaa (eVar 2) (zaa (eLst (zaa (eVar 1) aNil)) aNil)))) zaf,zaz [0,2] 3 zbk (zaa (eVar 0) (zaa (eVar 1) (zaa (eVar 1) aNil))) zaf,zaz [0,2] 3 zca (zaa (eVar 0) (zaa (eVar 1) (zaa (eVar 1) aNil))) zaf,zaz [0,2] 3 zbu (zaa (eVar 0) (zaa (eVar 1) (zaa (eVar 1) aNil))) zaf,zaz [0,2,3] 3 zbu (zaa (eVar 0) (zaa (eVar 2) (zaa (eVar 1) aNil))) zaf,zaz [0,2] 4 zbq (zaa (eVar 0) (zaa (eVar 1) (zaa (eVar 1) (zaa (eLst (zaa (eVar 1) aNil)) aNil)))) zaf,zaz [0,2] 4 zau (zaa (eVar 0) (zaa (eVar 1) (zaa (eVar 1) (zaa (eLst (zaa (eVar 1) aNil)) aNil)))) zaf,zaz [0,1,2] 4 zau (zaa (eVar 0) (zaa (eVar 2) (zaa (eVar 1) (zaa (eC .none) aNil)))) zaf,zaz [0,1,3] 4 zau (zaa (eVar 0) (zaa (eVar 1) (zaa (eVar 2) (zaa (eLst (zaa (eVar 2) aNil)) aNil)))) zaf,zaz [0,2,3] 4 zau (zaa (eVar 0) (zaa (eVar 2) (zaa (eVar 1) (zaa (eLst aNil) aNil)))) zaf]
noncomputable abbrev zuo(P:Program)(w:World)(K:qB)(mg:Str->Option Value)(base:Heap)(PT:Addr)(cl:Str->Addr):Prop:=Dn P w K mg base "_law_asks" ["_law_web_here","_law_kind","_law_lost","_law_odd","_law_arm_here"] 5 (zym PT (("_law_asks":Str)++".<locals>."++"<lambda>") 5 6 zji (zgd K cl))
section
variable{P:Program}{w:World}{K:qB}{mg:Str->Option Value}{base:Heap}
theorem zov{cl:Str->Addr}(T:Txt mg)(D_above__X:zgj P w K mg base cl):LamR P w K mg base (("_law_asks":Str)++".<locals>."++"<lambda>") 4 (zeu K cl):=⟨zwh,(by intros;rfl),λ_ _ _ _ _ _ _ _ hr h0k=>zbt D_above__X (zch h0k) (hr.mono (by decide)) (by rfl) (bpaC (bv 0) (bpaC (bv 1) zad)) (by decide) (zak (by rfl)) (by rfl)⟩
theorem zow{cl:Str->Addr}(T:Txt mg)(D_above__X:zgj P w K mg base cl):LamR P w K mg base (("_law_asks":Str)++".<locals>."++"<lambda>") 4 (ziy K cl):=⟨zwi,(by intros;rfl),λ_ _ _ _ _ _ _ _ hr h0k=>zbt D_above__X (zch h0k) (hr.mono (by decide)) (by rfl) (bpaC (bv 0) (bpaC (bpeX (zea (K:=K) rfl) (bv 1) zao) zad)) (by decide) (zak (by rfl)) (by rfl)⟩
theorem zox{cl:Str->Addr}(T:Txt mg)(D_beneath__X:zfq P w K mg base cl):LamR P w K mg base (("_law_asks":Str)++".<locals>."++"<lambda>") 4 (ziz K cl):=⟨zwj,(by intros;rfl),λ_ _ _ _ _ _ _ _ hr h0k=>zbt D_beneath__X (zch h0k) (hr.mono (by decide)) (by rfl) (bpaC (bv 0) (bpaC (bv 1) zad)) (by decide) (zak (by rfl)) (by rfl)⟩
theorem zoy{cl:Str->Addr}(T:Txt mg)(D_stands__X:zdu P w K mg base cl):LamR P w K mg base (("_law_asks":Str)++".<locals>."++"<lambda>") 4 (zja K cl):=⟨zwk,(by intros;rfl),λ_ _ _ _ _ _ _ _ hr h0k=>zbt D_stands__X (zch h0k) (hr.mono (by decide)) (by rfl) (bpaC (bv 0) (bpaC (bv 1) (bpaC (bv 2) zad))) (by decide) (zak (by rfl)) (by rfl)⟩
theorem zoz{cl:Str->Addr}(T:Txt mg)(D_stands__X:zdu P w K mg base cl):LamR P w K mg base (("_law_asks":Str)++".<locals>."++"<lambda>") 4 (zjb K cl):=⟨zwl,(by intros;rfl),λ_ _ _ _ _ _ _ _ hr h0k=>zbt D_stands__X (zch h0k) (hr.mono (by decide)) (by rfl) (bpaC (bv 0) (bpaC (bv 2) (bpaC (bv 1) zad))) (by decide) (zak (by rfl)) (by rfl)⟩
theorem zpa{cl:Str->Addr}(T:Txt mg)(D_stands__X:zdu P w K mg base cl):LamR P w K mg base (("_law_asks":Str)++".<locals>."++"<lambda>") 4 (zjc K cl):=⟨zwm,(by intros;rfl),λ_ _ _ _ _ _ _ _ hr h0k=>zbt D_stands__X (zch h0k) (hr.mono (by decide)) (by rfl) (bpaC (bv 0) (bpaC (bv 2) (bpaC (bv 1) zad))) (by decide) (zak (by rfl)) (by rfl)⟩
theorem zpb{cl:Str->Addr}(T:Txt mg)(D_road__X:zfr P w K mg base cl):LamR P w K mg base (("_law_asks":Str)++".<locals>."++"<lambda>") 4 (zjd K cl):=⟨zwn,(by intros;rfl),λ_ _ _ _ _ _ _ _ hr h0k=>zbt D_road__X (zch h0k) (hr.mono (by decide)) (by rfl) (bpaC (bv 0) (bpaC (bv 1) (bpaC (bv 2) zad))) (by decide) (zak (by rfl)) (by rfl)⟩
theorem zpc{cl:Str->Addr}(T:Txt mg)(D_road__X:zfr P w K mg base cl):LamR P w K mg base (("_law_asks":Str)++".<locals>."++"<lambda>") 4 (zje K cl):=⟨zwo,(by intros;rfl),λ_ _ _ _ _ _ _ _ hr h0k=>zbt D_road__X (zch h0k) (hr.mono (by decide)) (by rfl) (bpaC (bv 0) (bpaC (bv 1) (bpaC (bv 2) zad))) (by decide) (zak (by rfl)) (by rfl)⟩
theorem zpd{cl:Str->Addr}(T:Txt mg)(D_road__X:zfr P w K mg base cl):LamR P w K mg base (("_law_asks":Str)++".<locals>."++"<lambda>") 4 (zjf K cl):=⟨zwp,(by intros;rfl),λ_ _ _ _ _ _ _ _ hr h0k=>zbt D_road__X (zch h0k) (hr.mono (by decide)) (by rfl) (bpaC (bv 0) (bpaC (bv 2) (bpaC (bv 1) zad))) (by decide) (zak (by rfl)) (by rfl)⟩
theorem zpe{cl:Str->Addr}(T:Txt mg)(D_hedge__X:zen P w K mg base cl):LamR P w K mg base (("_law_asks":Str)++".<locals>."++"<lambda>") 4 (zjg K cl):=⟨zwq,(by intros;rfl),λ_ _ _ _ _ _ _ _ hr h0k=>zbt D_hedge__X (zch h0k) (hr.mono (by decide)) (by rfl) (bpaC (bv 0) (bpaC (bv 1) (bpaC (bv 2) zad))) (by decide) (zak (by rfl)) (by rfl)⟩
theorem znd{cl:Str->Addr}(T:Txt mg)(D_hedge__X:zen P w K mg base cl):LamR P w K mg base (("_law_asks":Str)++".<locals>."++"<lambda>") 4 (zhl K cl):=⟨zso,(by intros;rfl),λ_ _ _ _ _ _ _ _ hr h0k=>zbt D_hedge__X (zch h0k) (hr.mono (by decide)) (by rfl) (bpaC (bv 0) (bpaC (bv 2) (bpaC (bv 1) zad))) (by decide) (zak (by rfl)) (by rfl)⟩
theorem zne{cl:Str->Addr}(T:Txt mg)(D_is_road__X:zdv P w K mg base cl):LamR P w K mg base (("_law_asks":Str)++".<locals>."++"<lambda>") 4 (zhm K cl):=⟨zsp,(by intros;rfl),λ_ _ _ _ _ _ _ _ hr h0k=>zbt D_is_road__X (zch h0k) (hr.mono (by decide)) (by rfl) (bpaC (bv 0) (bpaC (bv 1) (bpaC (bv 2) (bpaC (zbo (bpaC (bv 1) zad)) zad)))) (by decide) (zak (by rfl)) (by rfl)⟩
theorem znf{cl:Str->Addr}(T:Txt mg)(D_is_road__X:zdv P w K mg base cl):LamR P w K mg base (("_law_asks":Str)++".<locals>."++"<lambda>") 4 (zhn K cl):=⟨zsq,(by intros;rfl),λ_ _ _ _ _ _ _ _ hr h0k=>zbt D_is_road__X (zch h0k) (hr.mono (by decide)) (by rfl) (bpaC (bv 0) (bpaC (bv 1) (bpaC (bv 2) (bpaC zvn zad)))) (by decide) (zak (by rfl)) (by rfl)⟩
theorem zng{cl:Str->Addr}(T:Txt mg)(D_is_hedge__X:zcd P w K mg base cl):LamR P w K mg base (("_law_asks":Str)++".<locals>."++"<lambda>") 4 (zho K cl):=⟨zsr,(by intros;rfl),λ_ _ _ _ _ _ _ _ hr h0k=>zbt D_is_hedge__X (zch h0k) (hr.mono (by decide)) (by rfl) (bpaC (bv 0) (bpaC (bv 2) (bpaC (bv 1) (bpaC (zbo (bpaC (bv 2) zad)) zad)))) (by decide) (zak (by rfl)) (by rfl)⟩
theorem znh{cl:Str->Addr}(T:Txt mg)(D_is_hedge__X:zcd P w K mg base cl):LamR P w K mg base (("_law_asks":Str)++".<locals>."++"<lambda>") 4 (zhp K cl):=⟨zss,(by intros;rfl),λ_ _ _ _ _ _ _ _ hr h0k=>zbt D_is_hedge__X (zch h0k) (hr.mono (by decide)) (by rfl) (bpaC (bv 0) (bpaC (bv 1) (bpaC (bv 2) (bpaC (zbo (bpaC (bv 1) zad)) zad)))) (by decide) (zak (by rfl)) (by rfl)⟩
theorem zni{cl:Str->Addr}(T:Txt mg)(D_stands__X:zdu P w K mg base cl):LamR P w K mg base (("_law_asks":Str)++".<locals>."++"<lambda>") 4 (zhq K cl):=⟨zst,(by intros;rfl),λ_ _ _ _ _ _ _ _ hr h0k=>zbt D_stands__X (zch h0k) (hr.mono (by decide)) (by rfl) (bpaC (bv 0) (bpaC (bv 1) (bpaC (bv 1) zad))) (by decide) (zak (by rfl)) (by rfl)⟩
theorem znj{cl:Str->Addr}(T:Txt mg)(D_road__X:zfr P w K mg base cl):LamR P w K mg base (("_law_asks":Str)++".<locals>."++"<lambda>") 4 (zhr K cl):=⟨zsu,(by intros;rfl),λ_ _ _ _ _ _ _ _ hr h0k=>zbt D_road__X (zch h0k) (hr.mono (by decide)) (by rfl) (bpaC (bv 0) (bpaC (bv 1) (bpaC (bv 1) zad))) (by decide) (zak (by rfl)) (by rfl)⟩
theorem znk{cl:Str->Addr}(T:Txt mg)(D_hedge__X:zen P w K mg base cl):LamR P w K mg base (("_law_asks":Str)++".<locals>."++"<lambda>") 4 (zhs K cl):=⟨zsv,(by intros;rfl),λ_ _ _ _ _ _ _ _ hr h0k=>zbt D_hedge__X (zch h0k) (hr.mono (by decide)) (by rfl) (bpaC (bv 0) (bpaC (bv 1) (bpaC (bv 1) zad))) (by decide) (zak (by rfl)) (by rfl)⟩
theorem znl{cl:Str->Addr}(T:Txt mg)(D_hedge__X:zen P w K mg base cl):LamR P w K mg base (("_law_asks":Str)++".<locals>."++"<lambda>") 4 (zht K cl):=⟨zsw,(by intros;rfl),λ_ _ _ _ _ _ _ _ hr h0k=>zbt D_hedge__X (zch h0k) (hr.mono (by decide)) (by rfl) (bpaC (bv 0) (bpaC (bv 2) (bpaC (bv 1) zad))) (by decide) (zak (by rfl)) (by rfl)⟩
theorem znm{cl:Str->Addr}(T:Txt mg)(D_is_road__X:zdv P w K mg base cl):LamR P w K mg base (("_law_asks":Str)++".<locals>."++"<lambda>") 4 (zhu K cl):=⟨zsx,(by intros;rfl),λ_ _ _ _ _ _ _ _ hr h0k=>zbt D_is_road__X (zch h0k) (hr.mono (by decide)) (by rfl) (bpaC (bv 0) (bpaC (bv 1) (bpaC (bv 1) (bpaC (zbo (bpaC (bv 1) zad)) zad)))) (by decide) (zak (by rfl)) (by rfl)⟩
theorem zno{cl:Str->Addr}(T:Txt mg)(D_is_hedge__X:zcd P w K mg base cl):LamR P w K mg base (("_law_asks":Str)++".<locals>."++"<lambda>") 4 (zhv K cl):=⟨zsy,(by intros;rfl),λ_ _ _ _ _ _ _ _ hr h0k=>zbt D_is_hedge__X (zch h0k) (hr.mono (by decide)) (by rfl) (bpaC (bv 0) (bpaC (bv 1) (bpaC (bv 1) (bpaC (zbo (bpaC (bv 1) zad)) zad)))) (by decide) (zak (by rfl)) (by rfl)⟩
theorem znp{cl:Str->Addr}(T:Txt mg)(D_is_hedge__X:zcd P w K mg base cl):LamR P w K mg base (("_law_asks":Str)++".<locals>."++"<lambda>") 4 (zhw K cl):=⟨zsz,(by intros;rfl),λ_ _ _ _ _ _ _ _ hr h0k=>zbt D_is_hedge__X (zch h0k) (hr.mono (by decide)) (by rfl) (bpaC (bv 0) (bpaC (bv 2) (bpaC (bv 1) (bpaC zvn zad)))) (by decide) (zak (by rfl)) (by rfl)⟩
theorem znq{cl:Str->Addr}(T:Txt mg)(D_is_hedge__X:zcd P w K mg base cl):LamR P w K mg base (("_law_asks":Str)++".<locals>."++"<lambda>") 4 (zhx K cl):=⟨zta,(by intros;rfl),λ_ _ _ _ _ _ _ _ hr h0k=>zbt D_is_hedge__X (zch h0k) (hr.mono (by decide)) (by rfl) (bpaC (bv 0) (bpaC (bv 1) (bpaC (bv 2) (bpaC (zbo (bpaC (bv 2) zad)) zad)))) (by decide) (zak (by rfl)) (by rfl)⟩
theorem znr{cl:Str->Addr}(T:Txt mg)(D_is_hedge__X:zcd P w K mg base cl):LamR P w K mg base (("_law_asks":Str)++".<locals>."++"<lambda>") 4 (zhy K cl):=⟨ztb,(by intros;rfl),λ_ _ _ _ _ _ _ _ hr h0k=>zbt D_is_hedge__X (zch h0k) (hr.mono (by decide)) (by rfl) (bpaC (bv 0) (bpaC (bv 2) (bpaC (bv 1) (bpaC (zbo zad) zad)))) (by decide) (zak (by rfl)) (by rfl)⟩
theorem zaab{cl:Str->Addr}(T:Txt mg)(D_above__X:zgj P w K mg base cl)(D_beneath__X:zfq P w K mg base cl)(D_hedge__X:zen P w K mg base cl)(D_is_hedge__X:zcd P w K mg base cl)(D_is_road__X:zdv P w K mg base cl)(D_road__X:zfr P w K mg base cl)(D_stands__X:zdu P w K mg base cl):∀L∈zgd K cl,LamR P w K mg base (("_law_asks":Str)++".<locals>."++"<lambda>") 4 L:=(zbf (zov T D_above__X) (zbf (zow T D_above__X) (zbf (zox T D_beneath__X) (zbf (zoy T D_stands__X) (zbf (zoz T D_stands__X) (zbf (zpa T D_stands__X) (zbf (zpb T D_road__X) (zbf (zpc T D_road__X) (zbf (zpd T D_road__X) (zbf (zpe T D_hedge__X) (zbf (znd T D_hedge__X) (zbf (zne T D_is_road__X) (zbf (znf T D_is_road__X) (zbf (zng T D_is_hedge__X) (zbf (znh T D_is_hedge__X) (zbf (zni T D_stands__X) (zbf (znj T D_road__X) (zbf (znk T D_hedge__X) (zbf (znl T D_hedge__X) (zbf (znm T D_is_road__X) (zbf (zno T D_is_hedge__X) (zbf (znp T D_is_hedge__X) (zbf (znq T D_is_hedge__X) (zbf (znr T D_is_hedge__X) zana))))))))))))))))))))))))
theorem zacj{f cT PT:Addr}{fd:qk}{cl:Str->Addr}(F:Fun K "_law_asks" "_law_asks" zag f fd)(T:Txt mg)(D_above__X:zgj P w K mg base cl)(D_beneath__X:zfq P w K mg base cl)(D_hedge__X:zen P w K mg base cl)(D_is_hedge__X:zcd P w K mg base cl)(D_is_road__X:zdv P w K mg base cl)(D_road__X:zfr P w K mg base cl)(D_stands__X:zdu P w K mg base cl)(hcd:fd.code=.ref cT)(HC:PySem.W.CodeHd base cT PT)(hbm:BM mg base):FnOk P w K mg base CX0 5 f fd ["_law_web_here","_law_kind","_law_lost","_law_odd","_law_arm_here"] (zym PT (("_law_asks":Str)++".<locals>."++"<lambda>") 5 6 zji (zgd K cl)):=by
 refine zawe F zabv (λvs H Q E h=>zaey h) hcd (λA outer s H vs Q E hr h=>?_)
 have o0:LamOk (cxOf CX0 P w K mg base zav "_law_asks" (zaj zag) f (.ref cT) A outer s H E).nox 4 (zeu K cl):=zck (zov T D_above__X) rfl (by rfl) (by rfl)
 have o1:LamOk (cxOf CX0 P w K mg base zav "_law_asks" (zaj zag) f (.ref cT) A outer s H E).nox 4 (ziy K cl):=zck (zow T D_above__X) rfl (by rfl) (by rfl)
 have o2:LamOk (cxOf CX0 P w K mg base zav "_law_asks" (zaj zag) f (.ref cT) A outer s H E).nox 4 (ziz K cl):=zck (zox T D_beneath__X) rfl (by rfl) (by rfl)
 have o3:LamOk (cxOf CX0 P w K mg base zav "_law_asks" (zaj zag) f (.ref cT) A outer s H E).nox 4 (zja K cl):=zck (zoy T D_stands__X) rfl (by rfl) (by rfl)
 have o4:LamOk (cxOf CX0 P w K mg base zav "_law_asks" (zaj zag) f (.ref cT) A outer s H E).nox 4 (zjb K cl):=zck (zoz T D_stands__X) rfl (by rfl) (by rfl)
 have o5:LamOk (cxOf CX0 P w K mg base zav "_law_asks" (zaj zag) f (.ref cT) A outer s H E).nox 4 (zjc K cl):=zck (zpa T D_stands__X) rfl (by rfl) (by rfl)
 have o6:LamOk (cxOf CX0 P w K mg base zav "_law_asks" (zaj zag) f (.ref cT) A outer s H E).nox 4 (zjd K cl):=zck (zpb T D_road__X) rfl (by rfl) (by rfl)
 have o7:LamOk (cxOf CX0 P w K mg base zav "_law_asks" (zaj zag) f (.ref cT) A outer s H E).nox 4 (zje K cl):=zck (zpc T D_road__X) rfl (by rfl) (by rfl)
 have o8:LamOk (cxOf CX0 P w K mg base zav "_law_asks" (zaj zag) f (.ref cT) A outer s H E).nox 4 (zjf K cl):=zck (zpd T D_road__X) rfl (by rfl) (by rfl)
 have o9:LamOk (cxOf CX0 P w K mg base zav "_law_asks" (zaj zag) f (.ref cT) A outer s H E).nox 4 (zjg K cl):=zck (zpe T D_hedge__X) rfl (by rfl) (by rfl)
 have o10:LamOk (cxOf CX0 P w K mg base zav "_law_asks" (zaj zag) f (.ref cT) A outer s H E).nox 4 (zhl K cl):=zck (znd T D_hedge__X) rfl (by rfl) (by rfl)
 have o11:LamOk (cxOf CX0 P w K mg base zav "_law_asks" (zaj zag) f (.ref cT) A outer s H E).nox 4 (zhm K cl):=zck (zne T D_is_road__X) rfl (by rfl) (by rfl)
 have o12:LamOk (cxOf CX0 P w K mg base zav "_law_asks" (zaj zag) f (.ref cT) A outer s H E).nox 4 (zhn K cl):=zck (znf T D_is_road__X) rfl (by rfl) (by rfl)
 have o13:LamOk (cxOf CX0 P w K mg base zav "_law_asks" (zaj zag) f (.ref cT) A outer s H E).nox 4 (zho K cl):=zck (zng T D_is_hedge__X) rfl (by rfl) (by rfl)
 have o14:LamOk (cxOf CX0 P w K mg base zav "_law_asks" (zaj zag) f (.ref cT) A outer s H E).nox 4 (zhp K cl):=zck (znh T D_is_hedge__X) rfl (by rfl) (by rfl)
 have o15:LamOk (cxOf CX0 P w K mg base zav "_law_asks" (zaj zag) f (.ref cT) A outer s H E).nox 4 (zhq K cl):=zck (zni T D_stands__X) rfl (by rfl) (by rfl)
 have o16:LamOk (cxOf CX0 P w K mg base zav "_law_asks" (zaj zag) f (.ref cT) A outer s H E).nox 4 (zhr K cl):=zck (znj T D_road__X) rfl (by rfl) (by rfl)
 have o17:LamOk (cxOf CX0 P w K mg base zav "_law_asks" (zaj zag) f (.ref cT) A outer s H E).nox 4 (zhs K cl):=zck (znk T D_hedge__X) rfl (by rfl) (by rfl)
 have o18:LamOk (cxOf CX0 P w K mg base zav "_law_asks" (zaj zag) f (.ref cT) A outer s H E).nox 4 (zht K cl):=zck (znl T D_hedge__X) rfl (by rfl) (by rfl)
 have o19:LamOk (cxOf CX0 P w K mg base zav "_law_asks" (zaj zag) f (.ref cT) A outer s H E).nox 4 (zhu K cl):=zck (znm T D_is_road__X) rfl (by rfl) (by rfl)
 have o20:LamOk (cxOf CX0 P w K mg base zav "_law_asks" (zaj zag) f (.ref cT) A outer s H E).nox 4 (zhv K cl):=zck (zno T D_is_hedge__X) rfl (by rfl) (by rfl)
 have o21:LamOk (cxOf CX0 P w K mg base zav "_law_asks" (zaj zag) f (.ref cT) A outer s H E).nox 4 (zhw K cl):=zck (znp T D_is_hedge__X) rfl (by rfl) (by rfl)
 have o22:LamOk (cxOf CX0 P w K mg base zav "_law_asks" (zaj zag) f (.ref cT) A outer s H E).nox 4 (zhx K cl):=zck (znq T D_is_hedge__X) rfl (by rfl) (by rfl)
 have o23:LamOk (cxOf CX0 P w K mg base zav "_law_asks" (zaj zag) f (.ref cT) A outer s H E).nox 4 (zhy K cl):=zck (znr T D_is_hedge__X) rfl (by rfl) (by rfl)
 have ok:=(zbe o0 (zbe o1 (zbe o2 (zbe o3 (zbe o4 (zbe o5 (zbe o6 (zbe o7 (zbe o8 (zbe o9 (zbe o10 (zbe o11 (zbe o12 (zbe o13 (zbe o14 (zbe o15 (zbe o16 (zbe o17 (zbe o18 (zbe o19 (zbe o20 (zbe o21 (zbe o22 (zbe o23 zamx))))))))))))))))))))))))
 refine⟨dAll K (cxOf CX0 P w K mg base zav "_law_asks" (zaj zag) f (.ref cT) A outer s H E).nox PT 5 (tVar 2) (zeu K cl) (zjh K cl),?_,λX0=>zasc (K:=K) (X:=(cxOf CX0 P w K mg base zav "_law_asks" (zaj zag) f (.ref cT) A outer s H E).nox) (P:=PT) (x:=5) (j:=4) (n:=5) (N:=zav) (td0:=(tVar 2)) (L0:=zeu K cl) (rs:=zjh K cl) (es:=zji) X0 ok (zbx (zac 2) (zbx (zcr (se_c λ_=>zai)) (zbx (zac 3) (zbx (zac 2) (zbx (zac 3) (zbx (zac 3) (zbx (zac 2) (zbx (zac 3) (zbx (zac 2) (zbx (zac 2) (zbx (zac 3) (zbx (zac 2) (zbx (zac 3) (zbx (zac 3) (zbx (zac 2) (zbx (zac 2) (zbx (zac 2) (zbx (zac 2) (zbx (zac 3) (zbx (zac 2) (zbx (zac 2) (zbx (zac 2) (zbx (zac 3) (zbx (zac 3) zasd)))))))))))))))))))))))) rfl (show 23<1000 by decide) (by decide) (by decide) (zat (by decide:∀j∈([0,2]:List Nat),j<5) (zat (by decide:∀j∈([0,4]:List Nat),j<5) (zat (by decide:∀j∈([0,3]:List Nat),j<5) (zat (by decide:∀j∈([0,1,2]:List Nat),j<5) (zat (by decide:∀j∈([0,1,3]:List Nat),j<5) (zat (by decide:∀j∈([0,2,3]:List Nat),j<5) (zat (by decide:∀j∈([0,2,3]:List Nat),j<5) (zat (by decide:∀j∈([0,1,3]:List Nat),j<5) (zat (by decide:∀j∈([0,1,2]:List Nat),j<5) (zat (by decide:∀j∈([0,1,2]:List Nat),j<5) (zat (by decide:∀j∈([0,1,3]:List Nat),j<5) (zat (by decide:∀j∈([0,2,3]:List Nat),j<5) (zat (by decide:∀j∈([0,1,3]:List Nat),j<5) (zat (by decide:∀j∈([0,2,3]:List Nat),j<5) (zat (by decide:∀j∈([0,1,2]:List Nat),j<5) (zat (by decide:∀j∈([0,2]:List Nat),j<5) (zat (by decide:∀j∈([0,2]:List Nat),j<5) (zat (by decide:∀j∈([0,2]:List Nat),j<5) (zat (by decide:∀j∈([0,2,3]:List Nat),j<5) (zat (by decide:∀j∈([0,2]:List Nat),j<5) (zat (by decide:∀j∈([0,2]:List Nat),j<5) (zat (by decide:∀j∈([0,1,2]:List Nat),j<5) (zat (by decide:∀j∈([0,1,3]:List Nat),j<5) (zat (by decide:∀j∈([0,2,3]:List Nat),j<5) zajh)))))))))))))))))))))))) h⟩
 exact Bx.out (zbw (bpsS (i:=5) zrv rfl (Or.inl rfl) (zbo (bpaC (zbm (bpaC (bv 2) (bpaC (zcj o0 rfl HC hbm rfl) zad))) zad)))
 (zbw (zas (zbh (K:=K) rfl qH qJ qI zaw (bv 5) (bpaC (zbm (bpaC (bpeX (zea (K:=K) rfl) (bv 4) zao) (bpaC (zcj o1 rfl HC hbm rfl) zad))) zad) (by rfl) (by rfl) (by rfl) (zak (by rfl)) (by rfl)) (by rfl))
 (zbw (zas (zbh (K:=K) rfl qH qJ qI zaw (bv 5) (bpaC (zbm (bpaC (bv 3) (bpaC (zcj o2 rfl HC hbm rfl) zad))) zad) (by rfl) (by rfl) (by rfl) (zak (by rfl)) (by rfl)) (by rfl))
 (zbw (zas (zbh (K:=K) rfl qH qJ qI zaw (bv 5) (bpaC (zbm (bpaC (bv 2) (bpaC (zcj o3 rfl HC hbm rfl) zad))) zad) (by rfl) (by rfl) (by rfl) (zak (by rfl)) (by rfl)) (by rfl))
 (zbw (zas (zbh (K:=K) rfl qH qJ qI zaw (bv 5) (bpaC (zbm (bpaC (bv 3) (bpaC (zcj o4 rfl HC hbm rfl) zad))) zad) (by rfl) (by rfl) (by rfl) (zak (by rfl)) (by rfl)) (by rfl))
 (zbw (zas (zbh (K:=K) rfl qH qJ qI zaw (bv 5) (bpaC (zbm (bpaC (bv 3) (bpaC (zcj o5 rfl HC hbm rfl) zad))) zad) (by rfl) (by rfl) (by rfl) (zak (by rfl)) (by rfl)) (by rfl))
 (zbw (zas (zbh (K:=K) rfl qH qJ qI zaw (bv 5) (bpaC (zbm (bpaC (bv 2) (bpaC (zcj o6 rfl HC hbm rfl) zad))) zad) (by rfl) (by rfl) (by rfl) (zak (by rfl)) (by rfl)) (by rfl))
 (zbw (zas (zbh (K:=K) rfl qH qJ qI zaw (bv 5) (bpaC (zbm (bpaC (bv 3) (bpaC (zcj o7 rfl HC hbm rfl) zad))) zad) (by rfl) (by rfl) (by rfl) (zak (by rfl)) (by rfl)) (by rfl))
 (zbw (zas (zbh (K:=K) rfl qH qJ qI zaw (bv 5) (bpaC (zbm (bpaC (bv 2) (bpaC (zcj o8 rfl HC hbm rfl) zad))) zad) (by rfl) (by rfl) (by rfl) (zak (by rfl)) (by rfl)) (by rfl))
 (zbw (zas (zbh (K:=K) rfl qH qJ qI zaw (bv 5) (bpaC (zbm (bpaC (bv 2) (bpaC (zcj o9 rfl HC hbm rfl) zad))) zad) (by rfl) (by rfl) (by rfl) (zak (by rfl)) (by rfl)) (by rfl))
 (zbw (zas (zbh (K:=K) rfl qH qJ qI zaw (bv 5) (bpaC (zbm (bpaC (bv 3) (bpaC (zcj o10 rfl HC hbm rfl) zad))) zad) (by rfl) (by rfl) (by rfl) (zak (by rfl)) (by rfl)) (by rfl))
 (zbw (zas (zbh (K:=K) rfl qH qJ qI zaw (bv 5) (bpaC (zbm (bpaC (bv 2) (bpaC (zcj o11 rfl HC hbm rfl) zad))) zad) (by rfl) (by rfl) (by rfl) (zak (by rfl)) (by rfl)) (by rfl))
 (zbw (zas (zbh (K:=K) rfl qH qJ qI zaw (bv 5) (bpaC (zbm (bpaC (bv 3) (bpaC (zcj o12 rfl HC hbm rfl) zad))) zad) (by rfl) (by rfl) (by rfl) (zak (by rfl)) (by rfl)) (by rfl))
 (zbw (zas (zbh (K:=K) rfl qH qJ qI zaw (bv 5) (bpaC (zbm (bpaC (bv 3) (bpaC (zcj o13 rfl HC hbm rfl) zad))) zad) (by rfl) (by rfl) (by rfl) (zak (by rfl)) (by rfl)) (by rfl))
 (zbw (zas (zbh (K:=K) rfl qH qJ qI zaw (bv 5) (bpaC (zbm (bpaC (bv 2) (bpaC (zcj o14 rfl HC hbm rfl) zad))) zad) (by rfl) (by rfl) (by rfl) (zak (by rfl)) (by rfl)) (by rfl))
 (zbw (zas (zbh (K:=K) rfl qH qJ qI zaw (bv 5) (bpaC (zbm (bpaC (bv 2) (bpaC (zcj o15 rfl HC hbm rfl) zad))) zad) (by rfl) (by rfl) (by rfl) (zak (by rfl)) (by rfl)) (by rfl))
 (zbw (zas (zbh (K:=K) rfl qH qJ qI zaw (bv 5) (bpaC (zbm (bpaC (bv 2) (bpaC (zcj o16 rfl HC hbm rfl) zad))) zad) (by rfl) (by rfl) (by rfl) (zak (by rfl)) (by rfl)) (by rfl))
 (zbw (zas (zbh (K:=K) rfl qH qJ qI zaw (bv 5) (bpaC (zbm (bpaC (bv 2) (bpaC (zcj o17 rfl HC hbm rfl) zad))) zad) (by rfl) (by rfl) (by rfl) (zak (by rfl)) (by rfl)) (by rfl))
 (zbw (zas (zbh (K:=K) rfl qH qJ qI zaw (bv 5) (bpaC (zbm (bpaC (bv 3) (bpaC (zcj o18 rfl HC hbm rfl) zad))) zad) (by rfl) (by rfl) (by rfl) (zak (by rfl)) (by rfl)) (by rfl))
 (zbw (zas (zbh (K:=K) rfl qH qJ qI zaw (bv 5) (bpaC (zbm (bpaC (bv 2) (bpaC (zcj o19 rfl HC hbm rfl) zad))) zad) (by rfl) (by rfl) (by rfl) (zak (by rfl)) (by rfl)) (by rfl))
 (zbw (zas (zbh (K:=K) rfl qH qJ qI zaw (bv 5) (bpaC (zbm (bpaC (bv 2) (bpaC (zcj o20 rfl HC hbm rfl) zad))) zad) (by rfl) (by rfl) (by rfl) (zak (by rfl)) (by rfl)) (by rfl))
 (zbw (zas (zbh (K:=K) rfl qH qJ qI zaw (bv 5) (bpaC (zbm (bpaC (bv 2) (bpaC (zcj o21 rfl HC hbm rfl) zad))) zad) (by rfl) (by rfl) (by rfl) (zak (by rfl)) (by rfl)) (by rfl))
 (zbw (zas (zbh (K:=K) rfl qH qJ qI zaw (bv 5) (bpaC (zbm (bpaC (bv 3) (bpaC (zcj o22 rfl HC hbm rfl) zad))) zad) (by rfl) (by rfl) (by rfl) (zak (by rfl)) (by rfl)) (by rfl))
 (zbw (zas (zbh (K:=K) rfl qH qJ qI zaw (bv 5) (bpaC (zbm (bpaC (bv 3) (bpaC (zcj o23 rfl HC hbm rfl) zad))) zad) (by rfl) (by rfl) (by rfl) (zak (by rfl)) (by rfl)) (by rfl))
 (zary (bv 5))))))))))))))))))))))))))
theorem ztc{f PT:Addr}{fd:qk}{cl:Str->Addr}(F:Fun K "_law_refused" "_law_refused" ziw f fd)(T:Txt mg)(D_law_asks:zuo P w K mg base PT cl)(D_law_told:zun P w K mg base cl)(D_above__X:zgj P w K mg base cl)(D_beneath__X:zfq P w K mg base cl)(D_hedge__X:zen P w K mg base cl)(D_is_hedge__X:zcd P w K mg base cl)(D_is_road__X:zdv P w K mg base cl)(D_road__X:zfr P w K mg base cl)(D_stands__X:zdu P w K mg base cl):FnOk P w K mg base CX0 7 f fd ["_law_web_here","_law_kind","_law_lost","_law_odd","_law_arm_here"] (spDT PT (("_law_asks":Str)++".<locals>."++"<lambda>") 5 zcb):=by
 refine F.ok zsj (λvs H Q E h=>zamu h) (λcdv A outer s H vs Q E hr h=>?_)
 have ok:=zaab (P:=P) (w:=w) (base:=base) T D_above__X D_beneath__X D_hedge__X D_is_hedge__X D_is_road__X D_road__X D_stands__X
 refine⟨_,?_,zamy (K:=K) (q:=(("_law_asks":Str)++".<locals>."++"<lambda>")) (P:=PT) (n:=5) (m:=6) (i:=5) (j:=5+1) (N:=zix) (tol:=tolD cl zaf) (Ls:=zgd K cl) (es:=zji) (fs:=zaci) rfl rfl (zbd (zgb (zab (zac 0) (zab (zac 1) zal))) (zbd (zgb (zab (zac 0) (zab (zcr (se_c λ_=>zai)) zal))) (zbd (zgb (zab (zac 0) (zab (zac 1) zal))) (zbd (zgb (zab (zac 0) (zab (zac 1) (zab (zac 2) zal)))) (zbd (zgb (zab (zac 0) (zab (zac 2) (zab (zac 1) zal)))) (zbd (zgb (zab (zac 0) (zab (zac 2) (zab (zac 1) zal)))) (zbd (zgb (zab (zac 0) (zab (zac 1) (zab (zac 2) zal)))) (zbd (zgb (zab (zac 0) (zab (zac 1) (zab (zac 2) zal)))) (zbd (zgb (zab (zac 0) (zab (zac 2) (zab (zac 1) zal)))) (zbd (zgb (zab (zac 0) (zab (zac 1) (zab (zac 2) zal)))) (zbd (zgb (zab (zac 0) (zab (zac 2) (zab (zac 1) zal)))) (zbd (zgb (zab (zac 0) (zab (zac 1) (zab (zac 2) (zab (zcl (zab (zac 1) zal)) zal))))) (zbd (zgb (zab (zac 0) (zab (zac 1) (zab (zac 2) (zab (se_c λ_=>zgf) zal))))) (zbd (zgb (zab (zac 0) (zab (zac 2) (zab (zac 1) (zab (zcl (zab (zac 2) zal)) zal))))) (zbd (zgb (zab (zac 0) (zab (zac 1) (zab (zac 2) (zab (zcl (zab (zac 1) zal)) zal))))) (zbd (zgb (zab (zac 0) (zab (zac 1) (zab (zac 1) zal)))) (zbd (zgb (zab (zac 0) (zab (zac 1) (zab (zac 1) zal)))) (zbd (zgb (zab (zac 0) (zab (zac 1) (zab (zac 1) zal)))) (zbd (zgb (zab (zac 0) (zab (zac 2) (zab (zac 1) zal)))) (zbd (zgb (zab (zac 0) (zab (zac 1) (zab (zac 1) (zab (zcl (zab (zac 1) zal)) zal))))) (zbd (zgb (zab (zac 0) (zab (zac 1) (zab (zac 1) (zab (zcl (zab (zac 1) zal)) zal))))) (zbd (zgb (zab (zac 0) (zab (zac 2) (zab (zac 1) (zab (se_c λ_=>zgf) zal))))) (zbd (zgb (zab (zac 0) (zab (zac 1) (zab (zac 2) (zab (zcl (zab (zac 2) zal)) zal))))) (zbd (zgb (zab (zac 0) (zab (zac 2) (zab (zac 1) (zab (zcl zal) zal))))) zamw)))))))))))))))))))))))) (show 24<1000 by decide) rfl rfl rfl rfl (zat (by decide:∀j∈([0,2]:List Nat),j<5) (zat (by decide:∀j∈([0,4]:List Nat),j<5) (zat (by decide:∀j∈([0,3]:List Nat),j<5) (zat (by decide:∀j∈([0,1,2]:List Nat),j<5) (zat (by decide:∀j∈([0,1,3]:List Nat),j<5) (zat (by decide:∀j∈([0,2,3]:List Nat),j<5) (zat (by decide:∀j∈([0,2,3]:List Nat),j<5) (zat (by decide:∀j∈([0,1,3]:List Nat),j<5) (zat (by decide:∀j∈([0,1,2]:List Nat),j<5) (zat (by decide:∀j∈([0,1,2]:List Nat),j<5) (zat (by decide:∀j∈([0,1,3]:List Nat),j<5) (zat (by decide:∀j∈([0,2,3]:List Nat),j<5) (zat (by decide:∀j∈([0,1,3]:List Nat),j<5) (zat (by decide:∀j∈([0,2,3]:List Nat),j<5) (zat (by decide:∀j∈([0,1,2]:List Nat),j<5) (zat (by decide:∀j∈([0,2]:List Nat),j<5) (zat (by decide:∀j∈([0,2]:List Nat),j<5) (zat (by decide:∀j∈([0,2]:List Nat),j<5) (zat (by decide:∀j∈([0,2,3]:List Nat),j<5) (zat (by decide:∀j∈([0,2]:List Nat),j<5) (zat (by decide:∀j∈([0,2]:List Nat),j<5) (zat (by decide:∀j∈([0,1,2]:List Nat),j<5) (zat (by decide:∀j∈([0,1,3]:List Nat),j<5) (zat (by decide:∀j∈([0,2,3]:List Nat),j<5) zajh)))))))))))))))))))))))) h⟩
 exact Bx.out (zah (zgq qAL rfl (zdh (K:=K) rfl (bpeD D_law_asks hr (bpaC (bv 0) (bpaC (bv 1) (bpaC (bv 2) (bpaC (bv 3) (bpaC (bv 4) zad))))))) (zmp (K:=K) (n:=2) rfl rfl (zeg (bpgN (i:=5) zhk rfl (Or.inl rfl)) (zeg (bpgN (i:=6) zhk rfl (Or.inl rfl)) zmo (by rfl)) (by rfl)) (by rfl) (by rfl))
  (zan (zef (zcc (zqn (K:=K) rfl hr.units) (zaje D_law_told (hr.mono (by decide)) (by rfl) ok rfl (by rfl) (by decide) (by decide) (by decide) (zak (by rfl)) (by rfl)) (zbm (bpaC zee (bpaC zee (bpaC zee (bpaC (bv 5) zad))))) (zfv _)) (zan (zbn zee)) zci)) (by intro _;rfl))
 (zan (zbn zee)))
end
inductive Arm where
 | one (n:Str)
 | many (ns:List Str)
noncomputable def Arm.parts:Arm->List Str
 | .one n=>[n]
 | .many ns=>ns
noncomputable def armD:Arm->PyData
 | .one n=>.str n
 | .many ns=>.tuple (ns.map .str)
noncomputable def zhe(ks:List Str):PyData:=.tuple (ks.map .str)
theorem ztd(a:Arm):zel [armD a]=some (zae a.parts,true):=by
 cases a with
 | one n=>rfl
 | many ns=>rfl
theorem zayb{x y:List Str}(ha:a env=some ⟨zae x,f,bs⟩)(hl:l env=some lo)(hh:h env=some hi)(e:cutD (x.map .str) lo hi=y.map .str):eSl a l h env=some ⟨zae y,true,bs⟩:=by
 unfold eSl
 rw[ha,hl,hh]
 show(some (PyData.list (cutD (x.map .str) lo hi),true)).bind (λz=>some (⟨z.1,z.2,bsOf z.1 bs⟩:Val))=_
 rw[e]
 rfl
noncomputable def Hd(d:PyData)(s:Sl):Prop:=s=.pl d\/s=.ac d
theorem e_hd(h:env[i]?=some s)(hs:Hd d s):∃bs,eVar i env=some ⟨d,false,bs⟩:=by
 unfold eVar
 rw[h]
 rcases hs with rfl|rfl
 ·exact⟨_,rfl⟩
 ·exact⟨_,rfl⟩
theorem zako(h:WebOk W):∀(m:Nat){x y:Str},(nm W).idxOf y<m->y∈nm W->x∈up W y->x=y\/(nm W).idxOf x<(nm W).idxOf y
 | 0,_,_,hm,_,_=>absurd hm (Nat.not_lt_zero _)
 | m+1,x,y,hm,hy,hx=>by
  rcases(zajx h hy).mp hx with rfl|⟨e,he,hxe⟩
  ·exact .inl rfl
  ·obtain⟨g1,g2⟩:=zadt h he
   rcases zako h m (by omega) g1 hxe with rfl|hlt
   ·exact .inr g2
   ·exact .inr (by omega)
theorem zasz(h:WebOk W)(hx:x∈nm W)(hy:y∈nm W)(h1:x∈up W y)(h2:y∈up W x):x=y:=by
 rcases zako h _ (qCQ _) hy h1 with e|e
 ·exact e
 ·rcases zako h _ (qCQ _) hx h2 with e'|e'
  ·exact e'.symm
  ·omega
theorem zpq(s:qAo d=true):neD d d=some (.bool false,false):=by
 unfold neD eqOk
 rw[s,Bool.and_self,qAt,if_pos rfl,PySem.SeqAt.eqv_refl _ (qAz s)]
 rfl
theorem zawq{x y:Val}(ha:a env=some x)(hb:b env=some y)(hw:w x.d y.d=some (z,fr)):eOp w a b env=some ⟨z,fr,bsOf z (x.bs++y.bs)⟩:=by
 unfold eOp;rw[ha,qD,hb,qD,hw];rfl
theorem zata(hi:env[i]?=some (.pl (.str x)))(hj:env[j]?=some s)(hs:Hd (zae xs) s):zbc (eOp (inD neg) (eVar i) (eVar j)) env=some (if neg then !decide (x∈xs)else decide (x∈xs)):=by
 obtain⟨bs,e⟩:=e_hd hj hs
 have ei:eVar i env=some (vs x):=by unfold eVar;rw[hi]
 exact zde (zawq ei e (zabk neg xs x))
theorem zakp:∀c<128,∀q∈[34,39],(Builtin.Str.reprChar q c).length<=4:=by decide +kernel
noncomputable def zce(W:Web)(ns:List Str):Option Str:=ns.find? λn=>!decide (n∈nm W)
theorem zup:∀(ns:List Str)(all:List Str)(s:Sl),(∀x∈ns,x∉nm W->atD (.str x)=true)->∃s',zabd (gN 3) (xIf (zbc (eOp (inD true) (eVar 3) (eVar 2))) (ztn "NoKind" (eVar 3)) (xOf sNil)) (ns.map .str) [.pl (webD W),.pl (zae all),.ac (zae (nm W)),s] =
  (match zce W ns with|none=>some (.ok (.nx [.pl (webD W),.pl (zae all),.ac (zae (nm W)),s']))|some x=>some (.rx "NoKind" (.str x)))
 | [],all,s,_=>⟨s,rfl⟩
 | n::ns,all,s,h=>by
  have t:=zata (neg:=true) (i:=3) (j:=2) (env:=[.pl (webD W),.pl (zae all),.ac (zae (nm W)),.pl (.str n)]) (x:=n) (xs:=nm W) rfl rfl (.inr rfl)
  by_cases hm:n∈nm W
  ·obtain⟨s',e⟩:=zup ns all (.pl (.str n)) λx hx=>h x (qN _ hx)
   refine⟨s',?_⟩
   have b:xIf (zbc (eOp (inD true) (eVar 3) (eVar 2))) (ztn "NoKind" (eVar 3)) (xOf sNil) [.pl (webD W),.pl (zae all),.ac (zae (nm W)),.pl (.str n)]=some (.ok (.nx [.pl (webD W),.pl (zae all),.ac (zae (nm W)),.pl (.str n)])):=by
    unfold xIf
    rw[t,qD,if_neg (by simp[hm])]
    rfl
   have f:zce W (n::ns)=zce W ns:=by unfold zce;rw[qAg];simp[hm]
   rw[f,<- e]
   show((xIf _ _ _ [.pl (webD W),.pl (zae all),.ac (zae (nm W)),.pl (.str n)]).bind _)=_
   rw[b];rfl
  ·refine⟨s,?_⟩
   have b:xIf (zbc (eOp (inD true) (eVar 3) (eVar 2))) (ztn "NoKind" (eVar 3)) (xOf sNil) [.pl (webD W),.pl (zae all),.ac (zae (nm W)),.pl (.str n)]=some (.rx "NoKind" (.str n)):=by
    unfold xIf
    rw[t,qD,if_pos (by simp[hm])]
    show(if atD (.str n)=true then some (OutX.rx "NoKind" (.str n))else none)=_
    rw[if_pos (h n (by simp) hm)]
   have f:zce W (n::ns)=some n:=by unfold zce;rw[qAg];simp[hm]
   rw[f]
   show((xIf _ _ _ [.pl (webD W),.pl (zae all),.ac (zae (nm W)),.pl (.str n)]).bind _)=_
   rw[b];rfl
theorem zte{W:Web}(hl:W.length<100000)(h:∀x∈ns,x∉nm W->atD (.str x)=true):zbl [webD W,zae ns]=some (match zce W ns with|none=>.ok .none false|some x=>.rx "NoKind" (.str x)):=by
 obtain⟨s',e⟩:=zup (W:=W) ns ns .no h
 have f:zeh [.pl (webD W),.pl (zae ns),.no,.no]=zabd (gN 3) (xIf (zbc (eOp (inD true) (eVar 3) (eVar 2))) (ztn "NoKind" (eVar 3)) (xOf sNil)) (ns.map .str) [.pl (webD W),.pl (zae ns),.ac (zae (nm W)),.no]:=by
  unfold zeh xSeq xOf
  rw[zcf (zby (n:=1) (rs:=[⟨webD W,false,[]⟩]) rfl rfl (zif hl))]
  rfl
 unfold zbl fnX
 show(match zeh [.pl (webD W),.pl (zae ns),.no,.no]with|some (.ok (.rt d fr))=>some (ResX.ok d fr)|some (.ok (.nx _))=>some (.ok .none false)|some (.rx c d)=>some (.rx c d)|_=>none)=_
 rw[f,e]
 cases zce W ns<;>rfl
theorem zlz(h:f env=some (.rx c d)):xSeq f g env=some (.rx c d):=by unfold xSeq;rw[h];rfl
theorem zjj{rs:List Val}(h:f env=some rs)(hn:rs.length=n)(k:g (zfn rs)=some (.rx c d)):zsf n g f env=some (.rx c d):=by unfold zsf;rw[h,qD,if_pos hn,k];rfl
theorem zrz(h:zcn n ds=env)(e:f env=some (.rx c d)):fnX n f ds=some (.rx c d):=by unfold fnX;rw[h,e]
theorem zaeb{xs:List Str}(he:env[k]?=some s)(hs:s=.pl (zae xs)\/s=.ac (zae xs)):eCB lenD (zaa (eVar k) aNil) env=some (vi ((xs.length:Nat):Int)):=by
 rcases hs with rfl|rfl
 ·rw[zmv (ds:=xs.map .str) (fr:=false) (bs:=[]) (by unfold eVar;rw[he];rfl),qC]
 ·rw[zmv (ds:=xs.map .str) (fr:=false) (bs:=[k]) (by unfold eVar;rw[he];rfl),qC]
theorem zawr{i:Int}(ha:a env=some ⟨.int i,false,bs⟩)(h1:-4611686018427387904<=i)(h2:i<4611686018427387904):zgn (zaa a aNil) env=some ((List.range i.toNat).map (λ(k:Nat)=>PyData.int (k:Int)),[]):=by
 unfold zgn
 rw[zgs ha]
 simp only[qD]
 rw[if_pos ⟨h1,h2⟩,zrb]
theorem zsa{xs:List Str}(hx:xs.length<=12):∀(t:Nat)(ls es:List Str)(rs:Int)(s5 s6:Sl),(es++ls).Perm xs->t<=ls.length->
  ∃es' s2 s3 s5' s6',forL (gN 5) (sSeq (sSet 6 (eOp modD (eVar 3) (eCB lenD (zaa (eVar 2) aNil)))) (sSeq (sSet 3 (eOp zeo (eVar 3) (eCB lenD (zaa (eVar 2) aNil)))) (zgp 4 2 (eVar 6)))) ((List.range' es.length t).map λ(k:Nat)=>PyData.int (k:Int)) [A,B,.ac (zae ls),.pl (.int rs),.ac (zae es),s5,s6] =
   some (.nx [A,B,s2,s3,.ac (zae es'),s5',s6'])/\(∃ls',(es'++ls').Perm xs)/\es'.length=t+es.length
 | 0,ls,es,rs,s5,s6,pm,_=>⟨es,_,_,s5,s6,rfl,⟨ls,pm⟩,by simp⟩
 | t+1,ls,es,rs,s5,s6,pm,hl=>by
  have hls:0<ls.length:=by omega
  have pl:=pm.length_eq
  rw[qZ]at pl
  have a0:=qAB rs (show((ls.length:Nat):Int)≠0 by omega)
  have a1:=qAD rs (show(0:Int)<((ls.length:Nat):Int) by omega)
  have hk:(rs % ((ls.length:Nat):Int)).toNat<ls.length:=by omega
  have e9:((rs % ((ls.length:Nat):Int)).toNat:Int)=rs % ((ls.length:Nat):Int):=by omega
  generalize eA:(rs % ((ls.length:Nat):Int)).toNat=at_ at hk e9
  have pm2:((es++[ls[at_]])++ls.eraseIdx at_).Perm xs:=by
   refine List.Perm.trans ?_ pm
   rw[qBM]
   exact qCg es (zoe ls at_ hk)
  obtain⟨es',s2,s3,s5',s6',q,hp,hlen⟩:=zsa (A:=A) (B:=B) hx t (ls.eraseIdx at_) (es++[ls[at_]]) (rs / ((ls.length:Nat):Int)) (.pl (.int (es.length:Int))) (.pl (.int (at_:Int))) pm2 (by rw[qCf hk];omega)
  refine⟨es',s2,s3,s5',s6',?_,hp,by rw[hlen];simp;omega⟩
  rw[List.range'_succ,qh]
  unfold forL
  simp only[gN,qD,qBG,qBF]
  have st1:sSet 6 (eOp modD (eVar 3) (eCB lenD (zaa (eVar 2) aNil))) [A,B,.ac (zae ls),.pl (.int rs),.ac (zae es),.pl (.int (es.length:Int)),s6]=some (.nx [A,B,.ac (zae ls),.pl (.int rs),.ac (zae es),.pl (.int (es.length:Int)),.pl (.int (at_:Int))]):=by
   have:=zcf (i:=6) (zjo (a:=eVar 3) (env:=[A,B,.ac (zae ls),.pl (.int rs),.ac (zae es),.pl (.int (es.length:Int)),s6]) rfl (zmv (a:=eVar 2) rfl) (by rw[qC];omega))
   rw[this,qC,<- e9];rfl
  have st2:sSet 3 (eOp zeo (eVar 3) (eCB lenD (zaa (eVar 2) aNil))) [A,B,.ac (zae ls),.pl (.int rs),.ac (zae es),.pl (.int (es.length:Int)),.pl (.int (at_:Int))]=some (.nx [A,B,.ac (zae ls),.pl (.int (rs / ((ls.length:Nat):Int))),.ac (zae es),.pl (.int (es.length:Int)),.pl (.int (at_:Int))]):=by
   have:=zcf (i:=3) (zra (a:=eVar 3) (env:=[A,B,.ac (zae ls),.pl (.int rs),.ac (zae es),.pl (.int (es.length:Int)),.pl (.int (at_:Int))]) rfl (zmv (a:=eVar 2) rfl) (by rw[qC];omega) (by rw[qC];omega))
   rw[this,qC];rfl
  have st3:zgp 4 2 (eVar 6) [A,B,.ac (zae ls),.pl (.int (rs / ((ls.length:Nat):Int))),.ac (zae es),.pl (.int (es.length:Int)),.pl (.int (at_:Int))]=some (.nx [A,B,.ac (zae (ls.eraseIdx at_)),.pl (.int (rs / ((ls.length:Nat):Int))),.ac (zae (es++[ls[at_]])),.pl (.int (es.length:Int)),.pl (.int (at_:Int))]):=by
   simp only[zgp,zae,eVar,qAP,qAG,qD]
   rw[if_pos ⟨by omega,by omega,by rw[qC];omega,by decide⟩,qA3,qS,qK hk]
   simp[zrd]
  rw[zaq st1 (zaq st2 st3),qD]
  rw[show(es++[ls[at_]]).length=es.length+1 by simp]at q
  exact q
noncomputable def bnt(W:Web)(n:Str):List Str:=(nm W).filter λx=>decide (n∈up W x)
theorem zakq{W:Web}(h:WebOk W){n:Str}(hn:n∈nm W):zfp [webD W,.str n]=some (zae (bnt W n),true):=by
 have hl:=zxl h
 have hW:W.length<=12:=h.len
 have e1:zlr (zbj 2 zbg (zaa (eVar 0) (zaa (eLst (zaa (eVar 1) aNil)) aNil))) [.pl (webD W),.pl (.str n),.no]=some (.nx [.pl (webD W),.pl (.str n),.no]):=
  zvs (zby (n:=2) (rs:=[⟨webD W,false,[]⟩,⟨zae [n],true,[]⟩]) rfl rfl (zgc (by omega) (by simpa using hn)))
 have e2:sSet 2 (zbj 1 zdb (zaa (eVar 0) aNil)) [.pl (webD W),.pl (.str n),.no]=some (.nx [.pl (webD W),.pl (.str n),.ac (.dict (dS zbi (ups W)))]):=
  zcf (r:=⟨.dict (dS zbi (ups W)),true,[]⟩) (zby (n:=1) (rs:=[⟨webD W,false,[]⟩]) rfl rfl (zkz h))
 have c:zew (gN 0) (zbc (eDIn false (eVar 1) (zco 2 (eVar 0)))) (eVar 0) [.no,.pl (.str n),.pl (.dict (dS zbi (ups W)))] ((nm W).map .str)=some ((bnt W n).map .str):=
  zek (enc:=PyData.str) (out:=PyData.str) (λx=>decide (n∈up W x)) λx hx=>⟨[.pl (.str x),.pl (.str n),.pl (.dict (dS zbi (ups W)))],rfl,zde (zzb (neg:=false) (fr:=false) (bs:=[]) rfl (ztv (d:=zbi (up W x)) (.inl rfl) rfl (by rw[zhi,zih hx];rfl))),λ_=>⟨vs x,rfl,rfl⟩⟩
 have e3:sRet (zgo ["name"] [1,2] (zbv (zbj 1 zda (zaa (eVar 0) aNil))) (gN 0) (zbc (eDIn false (eVar 1) (zco 2 (eVar 0)))) (eVar 0)) [.pl (webD W),.pl (.str n),.ac (.dict (dS zbi (ups W)))]=some (.rt (zae (bnt W n)) true):=by
  refine ztu (zob (ds:=(nm W).map .str) (bs:=[]) ?_ (by rw[qC];omega) c)
  unfold zbv
  rw[zby (n:=1) (rs:=[⟨webD W,false,[]⟩]) rfl rfl (zif (by omega))]
  rfl
 exact zjn (env:=[.pl (webD W),.pl (.str n),.no]) rfl (zaq e1 (zaq e2 e3))
theorem zanp{W:Web}(h:WebOk W){k o:Str}(hk:k∈nm W)(ho:o∈nm W):ziu [webD W,.str k,.str o]=some (.bool (decide (o∈up W k)),false):=by
 have hW:W.length<=12:=h.len
 have e1:zlr (zbj 2 zbg (zaa (eVar 0) (zaa (eLst (zaa (eVar 1) (zaa (eVar 2) aNil))) aNil))) [.pl (webD W),.pl (.str k),.pl (.str o)]=some (.nx [.pl (webD W),.pl (.str k),.pl (.str o)]):=
  zvs (zby (n:=2) (rs:=[⟨webD W,false,[]⟩,⟨zae [k,o],true,[]⟩]) rfl rfl (zgc (by omega) (by
   intro n hn
   rcases qY.mp hn with rfl|hn
   ·exact hk
   ·rw[qAU.mp hn];exact ho)))
 have eg:zahh (zbj 1 zdb (zaa (eVar 0) aNil)) (eVar 1) [.pl (webD W),.pl (.str k),.pl (.str o)]=some ⟨zbi (up W k),false,[]⟩:=by
  unfold zahh
  rw[zby (n:=1) (rs:=[⟨webD W,false,[]⟩]) rfl rfl (zkz h)]
  show(Option.bind (zln (dS zbi (ups W)) (Sum.inr k)) _)=_
  rw[zhi,zih hk]
  rfl
 exact zjn (env:=[.pl (webD W),.pl (.str k),.pl (.str o)]) rfl (zaq e1 (ztu (zzb (neg:=false) rfl eg)))
theorem zanq{a:EF}{env:DEnv}{d:PyData}{ds:List PyData}{f:Bool}(ha:a env=some ⟨.list (d::ds),f,[]⟩):eOp ixD a (eC (.int 0)) env=some ⟨d,false,bsOf d []⟩:=by
 unfold eOp
 rw[ha]
 show(((atI (d::ds) ((0:Nat):Int)).map λd=>(d,false)).bind λz=>some (⟨z.1,z.2,bsOf z.1 ([]++[])⟩:Val))=_
 rw[zps (v:=d) rfl]
 rfl
theorem zsb{xs:List Str}(h:∀x∈xs,qAH x=true):qAo (zae xs)=true:=by
 obtain⟨h1,h2⟩:=zvy xs h
 unfold qAo zae
 rw[qAA]
 refine⟨h1,decide_eq_true ?_⟩
 show qAr (xs.map .str)+1<=64
 omega
theorem zayc(h:n∈nm W):zce W (n::l)=zce W l:=by unfold zce;rw[qAg];simp[h]
theorem zapd(h:n∉nm W):zce W (n::l)=some n:=by unfold zce;rw[qAg];simp[h]
section
variable{W:Web}{z:Str}
theorem chkX(hw:W.length<100000)(h:∀x∈ns,x∉nm W->atD (.str x)=true)(hf:zce W ns=some z):zbl [webD W,zae ns]=some (.rx "NoKind" (.str z)):=by rw[zte hw h,hf]
theorem zape(hw:W.length<100000){a:Arm}(h:∀x∈a.parts,x∉nm W->atD (.str x)=true)(hf:zce W a.parts=some z):zdj [webD W,armD a]=some (.rx "NoKind" (.str z)):=
 zrz (env:=[.pl (webD W),.pl (armD a),.no]) rfl (zlz (zjj (n:=2) (rs:=[⟨webD W,false,[]⟩,⟨zae a.parts,true,[]⟩]) (zcp rfl (zgs (zby (n:=1) (rs:=[⟨armD a,false,[]⟩]) rfl rfl (ztd a)))) rfl (chkX hw h hf)))
theorem zanr(hw:W.length<100000)(h:∀n∈[x],n∉nm W->atD (.str n)=true)(hf:zce W [x]=some z):zdy [webD W,.str x]=some (.rx "NoKind" (.str z)):=
 zrz (env:=[.pl (webD W),.pl (.str x),.no]) rfl (zlz (zjj (n:=2) (rs:=[⟨webD W,false,[]⟩,⟨zae [x],true,[]⟩]) rfl rfl (chkX hw h hf)))
variable{x y:Str}(hw:W.length<100000)(h:∀n∈[x,y],n∉nm W->atD (.str n)=true)(hf:zce W [x,y]=some z)
include hw h hf
theorem zwr:zbk [webD W,.str x,.str y]=some (.rx "NoKind" (.str z)):=
 zrz (env:=[.pl (webD W),.pl (.str x),.pl (.str y)]) rfl (zlz (zjj (n:=2) (rs:=[⟨webD W,false,[]⟩,⟨zae [x,y],true,[]⟩]) rfl rfl (chkX hw h hf)))
theorem zans:zca [webD W,.str x,.str y]=some (.rx "NoKind" (.str z)):=
 zrz (env:=[.pl (webD W),.pl (.str x),.pl (.str y),.no,.no,.no,.no]) rfl (zlz (zjj (n:=2) (rs:=[⟨webD W,false,[]⟩,⟨zae [x,y],true,[]⟩]) rfl rfl (chkX hw h hf)))
theorem zaec:zbu [webD W,.str x,.str y]=some (.rx "NoKind" (.str z)):=
 zrz (env:=[.pl (webD W),.pl (.str x),.pl (.str y),.no]) rfl (zlz (zjj (n:=2) (rs:=[⟨webD W,false,[]⟩,⟨zae [x,y],true,[]⟩]) rfl rfl (chkX hw h hf)))
theorem zack(d:PyData):zbq [webD W,.str x,.str y,d]=some (.rx "NoKind" (.str z)):=
 zrz (env:=[.pl (webD W),.pl (.str x),.pl (.str y),.pl d,.no,.no]) rfl (zlz (zjj (n:=2) (rs:=[⟨webD W,false,[]⟩,⟨zae [x,y],true,[]⟩]) rfl rfl (chkX hw h hf)))
theorem zlb(d:PyData):zau [webD W,.str x,.str y,d]=some (.rx "NoKind" (.str z)):=
 zrz (env:=[.pl (webD W),.pl (.str x),.pl (.str y),.pl d,.no]) rfl (zlz (zjj (n:=2) (rs:=[⟨webD W,false,[]⟩,⟨zae [x,y],true,[]⟩]) rfl rfl (chkX hw h hf)))
end
theorem zaws(z:Str):zaf (.rx "NoKind" (.str z))=some (askD z):=rfl
theorem zawt(h:qAH z=true):qAo (askD z)=true:=by
 unfold askD
 simp[qAo,PyData.canLay0,qAc,PyData.depth,qAr,h]
noncomputable def zawu(env:DEnv)(p:EF×EF):Prop:=∃r z x,p.1 (env.take 6)=some r/\r.d=.str x/\p.2 env=some z/\neD z.d (askD x)=some (.bool false,false)
theorem zge{env:DEnv}{cs rs:List Val}{r:Val}(he:e (env.take 6)=some r)(hr:r.d=.str z)(hc:zams js env=some cs)(ha:a ((zfn cs).map .pl)=some rs)(hn:rs.length=n)(hg:gf (zfn rs)=some (.rx "NoKind" (.str z)))(s:qAH z=true) :
  zawu env (e,zaz js n gf a zaf):=by
 refine⟨r,⟨askD z,false,bsOf (askD z) (bss cs)⟩,z,he,hr,?_,zpq (zawt s)⟩
 show zaz js n gf a zaf env=_
 unfold zaz
 rw[hc,qD,ha,qD,if_pos hn,hg,qD,zaws]
 rfl
theorem zatb{P:α->Prop}:∀p∈([]:List α),P p:=λ_ h=>nomatch h
theorem all_cons{P:α->Prop}(h:P a)(hs:∀p∈l,P p):∀p∈a::l,P p:=λp m=>(qY.mp m).elim (λe=>e▸h) (hs p)
noncomputable abbrev zatc(W:Web)(k x y z:Str)(row:List Str):DEnv:=[.pl (webD W),.pl (.str k),.pl (.str x),.pl (.str y),.pl (.tuple [.str z,zhe row]),.no,.no]
theorem zacl{W:Web}(hw:W.length<100000)(hk:k∈nm W)(hx:x∉nm W)(hy:y∉nm W)(ax:atD (.str x)=true)(ay:atD (.str y)=true)(hz:zce W row=some z)(hat:∀n∈row,n∉nm W->atD (.str n)=true)(sx:qAH x=true)(sy:qAH y=true)(sz:qAH z=true) :
  zcb [webD W,.str k,.str x,.str y,.tuple [.str z,zhe row]]=some (.bool true,false):=by
 have at2:∀a b:Str,(a=k\/a=x\/a=y)->(b=k\/b=x\/b=y)->∀n∈[a,b],n∉nm W->atD (.str n)=true:=λa b ha hb n hn hnn=>by
  have one:∀c:Str,(c=k\/c=x\/c=y)->c∉nm W->atD (.str c)=true:=λc hc hcn=>by
   rcases hc with rfl|rfl|rfl
   ·exact absurd hk hcn
   ·exact ax
   ·exact ay
  rcases qY.mp hn with rfl|hn
  ·exact one _ ha hnn
  ·rcases qY.mp hn with rfl|hn
   ·exact one _ hb hnn
   ·cases hn
 have at1:∀a:Str,(a=k\/a=x\/a=y)->∀n∈[a],n∉nm W->atD (.str n)=true:=λa ha n hn=>at2 a a ha ha n (qN _ hn)
 have K1:∀{l},zce W (k::l)=zce W l:=zayc hk
 have X1:∀{l},zce W (x::l)=some x:=zapd hx
 have Y1:∀{l},zce W (y::l)=some y:=zapd hy
 have kx:zce W [k,x]=some x:=K1.trans X1
 have ky:zce W [k,y]=some y:=K1.trans Y1
 have tk:=at2 k x (.inl rfl) (.inr (.inl rfl))
 have tky:=at2 k y (.inl rfl) (.inr (.inr rfl))
 have txk:=at2 x k (.inr (.inl rfl)) (.inl rfl)
 have tyk:=at2 y k (.inr (.inr rfl)) (.inl rfl)
 have txy:=at2 x y (.inr (.inl rfl)) (.inr (.inr rfl))
 have tyx:=at2 y x (.inr (.inr rfl)) (.inr (.inl rfl))
 have txx:=at2 x x (.inr (.inl rfl)) (.inr (.inl rfl))
 have e:zff (zatc W k x y z row)=some (.rt (.bool true) false):=by
  unfold zff zajg
  rw[if_pos]
  show ∀p∈_,zawu (zatc W k x y z row) p
  refine all_cons (zge rfl rfl rfl rfl rfl (zape (a:=.one x) hw (at1 x (.inr (.inl rfl))) X1) sx) ?_
  refine all_cons (zge (r:=⟨.str z,false,[]⟩) (rs:=[⟨webD W,false,[]⟩,⟨zhe row,false,[]⟩]) rfl rfl rfl rfl rfl (zape (a:=.many row) hw hat hz) sz) ?_
  refine all_cons (zge rfl rfl rfl rfl rfl (zanr hw (at1 y (.inr (.inr rfl))) Y1) sy) ?_
  refine all_cons (zge rfl rfl rfl rfl rfl (zwr hw tk kx) sx) ?_
  refine all_cons (zge rfl rfl rfl rfl rfl (zwr hw tyk Y1) sy) ?_
  refine all_cons (zge rfl rfl rfl rfl rfl (zwr hw tyx Y1) sy) ?_
  refine all_cons (zge rfl rfl rfl rfl rfl (zans hw txy X1) sx) ?_
  refine all_cons (zge rfl rfl rfl rfl rfl (zans hw tky ky) sy) ?_
  refine all_cons (zge rfl rfl rfl rfl rfl (zans hw txk X1) sx) ?_
  refine all_cons (zge rfl rfl rfl rfl rfl (zaec hw tk kx) sx) ?_
  refine all_cons (zge rfl rfl rfl rfl rfl (zaec hw tyk Y1) sy) ?_
  refine all_cons (zge rfl rfl rfl rfl rfl (zack hw txy X1 _) sx) ?_
  refine all_cons (zge rfl rfl rfl rfl rfl (zack hw tky ky _) sy) ?_
  refine all_cons (zge rfl rfl rfl rfl rfl (zlb hw tyx Y1 _) sy) ?_
  refine all_cons (zge rfl rfl rfl rfl rfl (zlb hw tk kx _) sx) ?_
  refine all_cons (zge rfl rfl rfl rfl rfl (zwr hw txx X1) sx) ?_
  refine all_cons (zge rfl rfl rfl rfl rfl (zans hw txx X1) sx) ?_
  refine all_cons (zge rfl rfl rfl rfl rfl (zaec hw txx X1) sx) ?_
  refine all_cons (zge rfl rfl rfl rfl rfl (zaec hw tyx Y1) sy) ?_
  refine all_cons (zge rfl rfl rfl rfl rfl (zack hw txx X1 _) sx) ?_
  refine all_cons (zge rfl rfl rfl rfl rfl (zlb hw txx X1 _) sx) ?_
  refine all_cons (zge rfl rfl rfl rfl rfl (zlb hw txk X1 _) sx) ?_
  refine all_cons (zge rfl rfl rfl rfl rfl (zlb hw tky ky _) sy) ?_
  exact all_cons (zge rfl rfl rfl rfl rfl (zlb hw tyx Y1 _) sy) zatb
 exact zjn (env:=zatc W k x y z row) rfl e
theorem zant(h:WebOk W)(hk:k∈nm W)(hy:y∉nm W):zkh [webD W,.str k,.str k,zae [k,y,k]]=some (.bool false,false):=by
 have s4:sSet 4 (eCB zny (zaa (eVar 0) aNil)) [.pl (webD W),.pl (.str k),.pl (.str k),.pl (zae [k,y,k]),.no,.no]=some (.nx [.pl (webD W),.pl (.str k),.pl (.str k),.pl (zae [k,y,k]),.ac (.dict (dS zae W)),.no]):=by
  refine zcf (r:=⟨.dict (dS zae W),true,[]⟩) ?_
  unfold eCB
  rw[zgs (r:=⟨webD W,false,[]⟩) rfl]
  show((zny [webD W]).bind _)=_
  rw[zvx h.nd];rfl
 have en:tOrF (zbc (eOp neD (eIxV 3 (eC (.int 0))) (eVar 1))) (zbc (eOp neD (eIxV 3 (eNeg (eC (.int 1)))) (eVar 2))) [.pl (webD W),.pl (.str k),.pl (.str k),.pl (zae [k,y,k]),.no,.no]=some false:=by
  have a:eOp neD (eIxV 3 (eC (.int 0))) (eVar 1) [.pl (webD W),.pl (.str k),.pl (.str k),.pl (zae [k,y,k]),.no,.no]=some (vb (!(k==k))):=zasp rfl rfl
  have b:eOp neD (eIxV 3 (eNeg (eC (.int 1)))) (eVar 2) [.pl (webD W),.pl (.str k),.pl (.str k),.pl (zae [k,y,k]),.no,.no]=some (vb (!(k==k))):=zasp rfl rfl
  unfold tOrF
  rw[zde a,zde b]
  simp
 obtain⟨ks,lk,mk⟩:=zfe (l:=W) (n:=k) hk
 have ny:y∉ks:=λz=>hy (zmu h mk y z)
 have bd:sIf (zbc (eOp (inD true) (eIxV 3 (eVar 5)) (zco 4 (eIxV 3 (eOp subD (eVar 5) (eC (.int 1))))))) (sRet (eC (.bool false))) sNil [.pl (webD W),.pl (.str k),.pl (.str k),.pl (zae [k,y,k]),.ac (.dict (dS zae W)),.pl (.int 1)]=some (.rt (.bool false) false):=by
  refine if_t ?_ rfl
  have g:zco 4 (eIxV 3 (eOp subD (eVar 5) (eC (.int 1)))) [.pl (webD W),.pl (.str k),.pl (.str k),.pl (zae [k,y,k]),.ac (.dict (dS zae W)),.pl (.int 1)]=some ⟨zae ks,false,[]⟩:=ztv (y:=k) (.inr rfl) rfl (by rw[zhi,lk];rfl)
  have:=e_in (neg:=true) (a:=eIxV 3 (eVar 5)) (x:=y) (xs:=ks) rfl g
  rw[zde this]
  simp[ny]
 exact zjn (env:=[.pl (webD W),.pl (.str k),.pl (.str k),.pl (zae [k,y,k]),.no,.no]) rfl (zaq (chk2 h hk hk rfl rfl rfl) (zaq rfl (zaq (if_f en rfl) (zaq s4 (zyq (by
  refine(zyr (zajz (xs:=[k,y,k]) (.inl rfl) (by simp) (by simp)) ?_)
  show forL (gN 5) _ (PyData.int 1::_) [.pl (webD W),.pl (.str k),.pl (.str k),.pl (zae [k,y,k]),.ac (.dict (dS zae W)),.no]=_
  unfold forL
  simp only[gN,qD,qBG,qBF]
  rw[bd]
  rfl))))))
theorem zakr(h:WebOk W)(hk:k∈nm W)(ho:o∈nm W)(hy:y∉nm W):zgh [webD W,.str k,.str o,zae [y,k]]=some (.bool false,false):=by
 rw[zafd h hk ho (by simp)]
 simp[isH,hy]
theorem zayd(h:WebOk W)(hm:(n,es)∈W):n∉es:=λhe=>by
 obtain⟨i,hi⟩:=List.getElem?_of_mem hm
 have h1:=h.el i n es hi n he
 obtain⟨hlt,e⟩:=qM.mp hi
 have e2:nm W=nm (W.take i)++n::nm (W.drop (i+1)):=by
  have e3:W=W.take i++(n,es)::W.drop (i+1):=by
   rw[<- e,<- qAI hlt,qBy]
  conv=>lhs;rw[e3]
  simp[nm]
 have nd:=h.nd
 rw[e2]at nd
 exact(qAY.mp nd).2.2 n h1 n (by simp) rfl
structure More(W:Web)(k x y:Str):Prop where
 ok:WebOk W
 len:W.length<=8
 hk:k∈nm W
 hx:x∉nm W
 hy:y∉nm W
 ne:x≠y
noncomputable def web2(W:Web)(k x y:Str):Web:=W++[(x,[k])]++[(y,[x])]
section
variable{W:Web}{k x y:Str}(m:More W k x y)
include m
theorem More.ok1:WebOk (W++[(x,[k])]):=zrc m.ok m.hx (λe he=>by rw[qAU.mp he];exact m.hk) (by simp) (by have:=m.len;omega)
theorem More.y1:y∉nm (W++[(x,[k])]):=by
 rw[zfu]
 intro z
 rcases qAf.mp z with z|z
 ·exact m.hy z
 ·exact m.ne (qAU.mp z).symm
theorem More.ok2:WebOk (web2 W k x y):=zrc m.ok1 m.y1 (λe he=>by rw[qAU.mp he,zfu];simp) (by simp) (by have:=m.len;simp;omega)
omit m in
theorem More.names:nm (web2 W k x y)=nm W++[x]++[y]:=by unfold web2;rw[zfu,zfu]
theorem More.inK:k∈nm (web2 W k x y):=by rw[More.names];simp[m.hk]
omit m in
theorem More.inX:x∈nm (web2 W k x y):=by rw[More.names];simp
omit m in
theorem More.inY:y∈nm (web2 W k x y):=by rw[More.names];simp
theorem More.kx:k≠x:=λz=>m.hx (z▸m.hk)
theorem More.ky:k≠y:=λz=>m.hy (z▸m.hk)
theorem More.upN(hn:n∈nm W):up (web2 W k x y) n=up W n:=by
 unfold web2
 rw[zkj (by rw[zfu];simp[hn]),zkj hn]
theorem More.memX:z∈up (web2 W k x y) x↔z=x\/z∈up W k:=by
 rw[zys m.ok2 (es:=[k]) (by unfold web2;simp)]
 simp[m.upN m.hk]
theorem More.memY:z∈up (web2 W k x y) y↔z=y\/z=x\/z∈up W k:=by
 rw[zys m.ok2 (es:=[x]) (by unfold web2;simp)]
 simp[m.memX]
theorem zanu:ziu [webD (web2 W k x y),.str y,.str k]=some (.bool true,false):=by
 rw[zanp m.ok2 More.inY m.inK,decide_eq_true (m.memY.mpr (.inr (.inr (zvu m.ok m.hk))))]
theorem zaks:zfp [webD (web2 W k x y),.str x]=some (zae [x,y],true):=by
 rw[zakq m.ok2 More.inX]
 have:bnt (web2 W k x y) x=[x,y]:=by
  unfold bnt
  rw[More.names,List.filter_append,List.filter_append]
  have h1:(nm W).filter (λz=>decide (x∈up (web2 W k x y) z))=[]:=by
   rw[List.filter_eq_nil_iff]
   intro n hn
   rw[m.upN hn]
   simp only[decide_eq_true_eq]
   exact λz=>m.hx (zyt m.ok z)
  have h2:x∈up (web2 W k x y) x:=m.memX.mpr (.inl rfl)
  have h3:x∈up (web2 W k x y) y:=m.memY.mpr (.inr (.inl rfl))
  rw[h1]
  simp[qCN,h2,h3]
 rw[this]
theorem More.elY:upL (web2 W k x y) y=[x]:=by
 unfold upL web2
 rw[zdi,zit (l:=W++[(x,[k])]) m.y1]
 simp
theorem More.elX:upL (web2 W k x y) x=[k]:=by
 unfold upL web2
 rw[zdi,zdi,zit (l:=W) m.hx]
 simp
theorem zawv:zmr [webD (web2 W k x y),.str y,.str k]=some (zae [y,x,k],true):=by
 obtain⟨q,g,w,_⟩:=(zawm m.ok2 More.inY m.inK).2 (m.memY.mpr (.inr (.inr (zvu m.ok m.hk))))
 rw[g]
 cases q with
 | nil=>exact absurd (show y=k from w).symm m.ky
 | cons d q=>
  obtain⟨hd,w⟩:=w
  rw[m.elY]at hd
  cases qAU.mp hd
  cases q with
  | nil=>exact absurd (show x=k from w).symm m.kx
  | cons d q=>
   obtain⟨hd,w⟩:=w
   rw[m.elX]at hd
   cases qAU.mp hd
   cases q with
   | nil=>rfl
   | cons d q=>
    obtain⟨hd,w⟩:=w
    obtain⟨ks,lk,mk⟩:=zfe (l:=web2 W k x y) (n:=k) m.inK
    have hd':d∈ks:=by unfold upL at hd;rw[lk]at hd;exact hd
    have dn:=zmu m.ok2 mk d hd'
    have e:=zasz m.ok2 m.inK dn (zajy m.ok2 dn w) ((zys m.ok2 mk).mpr (.inr ⟨d,hd',zvu m.ok2 dn⟩))
    exact absurd (e▸hd') (zayd m.ok2 mk)
theorem zatd:∃xs,zkn [webD (web2 W k x y),.str k,.str y]=some (zae xs,true):=
 ⟨_,zasw m.ok2 m.inK More.inY (by rw[m.upN m.hk];exact λz=>m.hy (zyt m.ok z))⟩
end
theorem zate{xs:List Str}(h0:0<xs.length)(h12:xs.length<=12):∃ar,zdx [.int c,zae xs]=some (zae ar,true)/\(∀x∈ar,x∈xs)/\ar.length<=12:=by
 have m4:=qAB c (show((xs.length:Nat):Int)≠0 by omega)
 have m4':=qAD c (show(0:Int)<((xs.length:Nat):Int) by omega)
 generalize eN:1+c % ((xs.length:Nat):Int)=N
 have hN:1<=N/\N<=xs.length:=by omega
 obtain⟨es,s2,s3,s5,s6,q,⟨ls,pm⟩,hes⟩:=zsa (A:=.pl (.int c)) (B:=.pl (zae xs)) h12 N.toNat xs [] (c / ((xs.length:Nat):Int)) .no .no (qCJ _) (by omega)
 have hes:es.length=N.toNat:=by simpa using hes
 refine⟨es,zjn (env:=[.pl (.int c),.pl (zae xs),.no,.no,.no,.no,.no]) rfl (zaq (e1:=[.pl (.int c),.pl (zae xs),.ac (zae xs),.no,.no,.no,.no]) rfl (zaq (zcf (r:=vi _) (zra rfl (zaeb (xs:=xs) rfl (.inl rfl)) (by omega) (by omega))) (zaq rfl (zaq (zyr (bs:=[]) ?_ q) rfl)))),λz hz=>pm.subset (qy _ hz),by omega⟩
 have it:=zawr (a:=eOp addD (eC (.int 1)) (eOp modD (eVar 0) (eCB lenD (zaa (eVar 1) aNil)))) (env:=[.pl (.int c),.pl (zae xs),.ac (zae xs),.pl (.int (c / ((xs.length:Nat):Int))),.ac (.list []),.no,.no]) (i:=N) (bs:=[]) (by rw[<- eN];exact zyx rfl (zjo rfl (zaeb (xs:=xs) rfl (.inl rfl)) (by omega))) (by omega) (by omega)
 rw[qDE]at it
 exact it
theorem zaww(ys:List Str)(x y:Str):cutD ((ys++[x,y]).map PyData.str) none (some (-2))=ys.map .str:=by
 unfold cutD
 have e1:HT.sIx ((ys++[x,y]).map PyData.str).length 0 none=0:=rfl
 have e2:HT.sIx ((ys++[x,y]).map PyData.str).length ((ys++[x,y]).map PyData.str).length (some (-2))=ys.length:=by
  unfold HT.sIx
  simp
  omega
 rw[e1,e2]
 simp
theorem zaye(ys:List Str)(x y:Str):atI ((ys++[x,y]).map PyData.str) (-2)=some (.str x):=by
 have e:ixN ((ys++[x,y]).map PyData.str).length (-2)=some ys.length:=by
  unfold ixN
  simp
  omega
 unfold atI
 rw[e]
 simp
theorem zayf(ys:List Str)(x y:Str):atI ((ys++[x,y]).map PyData.str) (-1)=some (.str y):=by
 have e:ixN ((ys++[x,y]).map PyData.str).length (-1)=some (ys.length+1):=by
  unfold ixN
  simp
  omega
 unfold atI
 rw[e]
 simp
theorem zawx{xs:List Str}(h:2<=xs.length):∃ys x y,xs=ys++[x,y]:=by
 refine⟨xs.take (xs.length - 2),xs[xs.length - 2]'(by omega),xs[xs.length - 1]'(by omega),?_⟩
 apply List.ext_getElem
 ·simp;omega
 ·intro i h1 h2
  by_cases a:i<xs.length - 2
  ·rw[List.getElem_append_left (by simp;omega)]
   simp
  ·rw[List.getElem_append_right (by simp;omega)]
   have:i=xs.length - 2\/i=xs.length - 1:=by omega
   rcases this with rfl|rfl
   ·simp
   ·have e:xs.length - 1 - (xs.take (xs.length - 2)).length=1:=by simp;omega
    simp only[e]
    rfl
theorem zayg{i:Nat}{a:AF}{env:DEnv}{ds:List PyData}{k:Nat}{r:Val}(he:env[i]?=some (.ac (.list ds)))(ha:a env=some [vi (k:Int),r])(hk:k<=ds.length)(hl:ds.length<100000)(hb:r.bs=[]):sIns i a env=some (.nx (env.set i (.ac (.list (insL ds k r.d))))):=by
 unfold sIns
 rw[he]
 show(a env).bind _=_
 rw[ha]
 show(if 0<=(k:Int)/\(k:Int).toNat<=ds.length/\ds.length<100000/\i∉r.bs then _ else none)=_
 rw[if_pos ⟨by omega,by omega,hl,by rw[hb];simp⟩,hb,qA3]
 rfl
noncomputable abbrev E04(cs:List Int)(s2 s3 s4 s5 s6 s7 s8 s9 s10 s11:Sl):DEnv:=[.no,.pl (zgv cs),s2,s3,s4,s5,s6,s7,s8,s9,s10,s11]
theorem zanv{x:Str}(h:Low x)(hl:x.length<=30):(reprText x).length<=1000:=by
 have hq:reprQuote x∈[34,39]:=by unfold reprQuote;split<;>simp
 have fold:∀(l:List Nat)(a:Array Nat),(∀c∈l,c<128)->(l.foldl (λout c=>out++(Builtin.Str.reprChar (reprQuote x) c).toArray) a).size<=a.size+4 * l.length:=by
  intro l
  induction l with
  | nil=>intro a _;simp
  | cons c l ih=>
   intro a hc
   rw[qB0]
   have h1:=ih (a++(Builtin.Str.reprChar (reprQuote x) c).toArray) λc' hc'=>hc c' (qN _ hc')
   have h2:=zakp c (hc c (by simp)) _ hq
   rw[Array.size_append]at h1
   simp only[qW,qz]at h1 ⊢
   omega
 show((x.cps.foldl (λout c=>out++(Builtin.Str.reprChar (reprQuote x) c).toArray) #[reprQuote x]).push (reprQuote x)).size<=1000
 rw[Array.size_push,<- Array.foldl_toList]
 have h1:=fold x.cps.toList #[reprQuote x] λc hc=>h c (by first|exact hc|exact qC8.mp hc|exact Array.mem_toList.mp hc)
 have h2:x.cps.toList.length=x.length:=rfl
 have h3:(#[reprQuote x]:Array Nat).size=1:=rfl
 omega
theorem zawy{x:Str}(h:Low x)(hl:x.length<=30):atD (.str x)=true:=decide_eq_true (zanv h hl)
structure T04(W:Web)(st:List Str)(x y:Str):Prop where
 ok:WebOk W
 nm_:nm W=st
 low:∀z∈st,Low z
 len:1<=st.length/\st.length<=8
 x0:x∉st/\Low x/\x.length<=30
 y0:y∉st/\Low y/\y.length<=30
 ne:x≠y
section
variable{cs:List Int}(hl:cs.length=15)
include hl
theorem zawz(a b:Nat)(x:EF)(y:EF)(env:DEnv)(hb:b<=15)(hab:a<=b)(he:env[1]?=some (.pl (zgv cs)))(hx:x env=some (vi (a:Int)))(hy:y env=some (vi (b:Int))):eSl (eVar 1) (zfz x) (zfz y) env=some ⟨zgv ((cs.drop a).take (b - a)),true,[]⟩:=by
 unfold eSl
 have ee:eVar 1 env=some ⟨zgv cs,false,[]⟩:=by unfold eVar;rw[he]
 rw[ee,zyy hx,zyy hy]
 show some (⟨.list (cutD (cs.map .int) (some (a:Int)) (some (b:Int))),true,[]⟩:Val)=_
 rw[zang cs a b (by omega) hab];rfl
theorem zatf(h0:∀c∈cs,0<=c):∃st x y k W s2,T04 W st x y/\k∈st/\zie [zgv ((cs.drop 6).take 8),zae st]=some (webD W,true)/\∀rest:SF,
  (sSeq (sSet 2 (zbj 2 zfd (zaa (eOp addD (eC (.int 3)) (eOp modD (eIxV 1 (eC (.int 0))) (eC (.int 8)))) (zaa (eIxV 1 (eC (.int 1))) aNil))))
  (sSeq (sSet 3 (eSl (eVar 2) zlp (zfz (eNeg (eC (.int 2))))))
  (sSeq (sSet 4 (eIxV 2 (eNeg (eC (.int 1)))))
  (sSeq (sSet 5 (eIxV 2 (eNeg (eC (.int 2)))))
  (sSeq (sIf (zbc (eOp eqD (eOp modD (eIxV 1 (eC (.int 2))) (eC (.int 2))) (eC (.int 1)))) (sSeq (sSet 4 (eIxV 2 (eNeg (eC (.int 2)))))
  (sSet 5 (eIxV 2 (eNeg (eC (.int 1)))))) sNil)
  (sSeq (sSet 6 (eIxV 3 (eOp modD (eOp zeo (eIxV 1 (eC (.int 2))) (eC (.int 2))) (eCB lenD (zaa (eVar 3) aNil))))) rest)))))) (envL 10 cs)=rest (E04 cs s2 (.ac (zae st)) (.pl (.str x)) (.pl (.str y)) (.pl (.str k)) .no .no .no .no .no):=by
 have g1:0<=cs[1]'(by omega):=h0 _ (qBt _)
 have p0:=qAB (cs[0]'(by omega)) (show(8:Int)≠0 by decide)
 have p1:=qAD (cs[0]'(by omega)) (show(0:Int)<8 by decide)
 obtain⟨xs,gx,lx,nx,lox,lex⟩:=zyz (m:=3+cs[0]'(by omega) % 8) (c:=cs[1]'(by omega)) (by omega) (by omega) g1
 obtain⟨st,u,v,rfl⟩:=zawx (xs:=xs) (by omega)
 have hst:1<=st.length/\st.length<=8:=by
  rw[qZ]at lx
  simp only[qz,qA2]at lx
  omega
 have nst:st.Nodup:=(qAY.mp nx).1
 have lo:∀z∈st,Low z:=λz h=>lox z (qy _ h)
 have hu:u∉st/\Low u/\u.length<=30:=⟨λz=>(qAY.mp nx).2.2 u z u (by simp) rfl,lox u (qe _ (by simp)),lex u (qe _ (by simp))⟩
 have hv:v∉st/\Low v/\v.length<=30:=⟨λz=>(qAY.mp nx).2.2 v z v (by simp) rfl,lox v (qe _ (by simp)),lex v (qe _ (by simp))⟩
 have huv:u≠v:=λz=>by have:=(qAY.mp nx).2.1;simp[z]at this
 obtain⟨W,gw,hnm,ok⟩:=zaju (cs:=(cs.drop 6).take 8) (xs:=st) (by rw[qA9,qBs];omega) (by omega) nst
 have e2:sSet 2 (zbj 2 zfd (zaa (eOp addD (eC (.int 3)) (eOp modD (eIxV 1 (eC (.int 0))) (eC (.int 8)))) (zaa (eIxV 1 (eC (.int 1))) aNil))) (envL 10 cs)=some (.nx (E04 cs (.ac (zae (st++[u,v]))) .no .no .no .no .no .no .no .no .no)):=
  zcf (r:=⟨zae (st++[u,v]),true,[]⟩) (zby (n:=2) (rs:=[vi (3+cs[0]'(by omega) % 8),vi (cs[1]'(by omega))]) (zcp (zyx rfl (zjo (zrf (n:=0) rfl rfl (by omega)) rfl (by decide))) (zgs (zrf (n:=1) rfl rfl (by omega)))) rfl gx)
 have e3:sSet 3 (eSl (eVar 2) zlp (zfz (eNeg (eC (.int 2))))) (E04 cs (.ac (zae (st++[u,v]))) .no .no .no .no .no .no .no .no .no)=some (.nx (E04 cs (.pl (zae (st++[u,v]))) (.ac (zae st)) .no .no .no .no .no .no .no .no)):=
  zcf (r:=⟨zae st,true,[2]⟩) (zayb (x:=st++[u,v]) (f:=false) (bs:=[2]) (lo:=none) (hi:=some (-2)) rfl rfl rfl (zaww st u v))
 have i2:∀s4 s5:Sl,eIxV 2 (eNeg (eC (.int 2))) (E04 cs (.pl (zae (st++[u,v]))) (.ac (zae st)) s4 s5 .no .no .no .no .no .no)=some (vs u):=λs4 s5=>by
  show((ixD (.list ((st++[u,v]).map PyData.str)) (.int (-2))).bind λz=>some (⟨z.1,z.2,bsOf z.1 ([]++[])⟩:Val))=_
  unfold ixD
  simp only[zaye,qAd,qD]
  rfl
 have i1:∀s4 s5:Sl,eIxV 2 (eNeg (eC (.int 1))) (E04 cs (.pl (zae (st++[u,v]))) (.ac (zae st)) s4 s5 .no .no .no .no .no .no)=some (vs v):=λs4 s5=>by
  show((ixD (.list ((st++[u,v]).map PyData.str)) (.int (-1))).bind λz=>some (⟨z.1,z.2,bsOf z.1 ([]++[])⟩:Val))=_
  unfold ixD
  simp only[zayf,qAd,qD]
  rfl
 have c2:∀s2 s3 s4 s5:Sl,eIxV 1 (eC (.int 2)) (E04 cs s2 s3 s4 s5 .no .no .no .no .no .no)=some (vi (cs[2]'(by omega))):=λ_ _ _ _=>zrf (n:=2) rfl rfl (by omega)
 have e4:=zcf (i:=4) (i1 .no .no)
 have e5:=zcf (i:=5) (i2 (.pl (.str v)) .no)
 have tc:zbc (eOp eqD (eOp modD (eIxV 1 (eC (.int 2))) (eC (.int 2))) (eC (.int 1))) (E04 cs (.pl (zae (st++[u,v]))) (.ac (zae st)) (.pl (.str v)) (.pl (.str u)) .no .no .no .no .no .no)=some (cs[2]'(by omega) % 2==1):=zde (zabl (zjo (c2 _ _ _ _) rfl (by decide)) rfl)
 have a0:=qAB (cs[2]'(by omega) / 2) (show((st.length:Nat):Int)≠0 by omega)
 have a1:=qAD (cs[2]'(by omega) / 2) (show(0:Int)<((st.length:Nat):Int) by omega)
 obtain⟨j,hj⟩:=qC1 a0
 have jl:j<st.length:=by omega
 have e6:∀s4 s5:Sl,sSet 6 (eIxV 3 (eOp modD (eOp zeo (eIxV 1 (eC (.int 2))) (eC (.int 2))) (eCB lenD (zaa (eVar 3) aNil)))) (E04 cs (.pl (zae (st++[u,v]))) (.ac (zae st)) s4 s5 .no .no .no .no .no .no)=some (.nx (E04 cs (.pl (zae (st++[u,v]))) (.ac (zae st)) s4 s5 (.pl (.str st[j])) .no .no .no .no .no)):=λs4 s5=>by
  refine zcf (r:=vs st[j]) (zawi (ds:=st.map .str) (n:=j) rfl ?_ (by rw[qS,qK jl];rfl))
  rw[zjo (zra (c2 _ _ _ _) rfl (by decide) (by decide)) (zaeb (xs:=st) rfl (.inr rfl)) (by omega),hj]
 cases hb:(cs[2]'(by omega) % 2==1)with
 | false=>
  rw[hb]at tc
  exact⟨st,v,u,st[j],W,_,⟨ok,hnm,lo,hst,hv,hu,qAk huv⟩,qBt _,gw,λrest=>zaq e2 (zaq e3 (zaq e4 (zaq e5 (zaq (if_f tc rfl) (zaq (e6 _ _) rfl)))))⟩
 | true=>
  rw[hb]at tc
  exact⟨st,u,v,st[j],W,_,⟨ok,hnm,lo,hst,hu,hv,huv⟩,qBt _,gw,λrest=>zaq e2 (zaq e3 (zaq e4 (zaq e5 (zaq (if_t tc (zaq (zcf (i2 _ _)) (zcf (i1 _ _)))) (zaq (e6 _ _) rfl)))))⟩
structure R04(st:List Str)(x y:Str)(R:List Str):Prop where
 mem:∀n∈R,n∈st\/n=x\/n=y
 has:x∈R
 len:R.length<=14
theorem zaxa(t:T04 W st x y):∃R z s3 s7,R04 st x y R/\(R.find? λn=>!decide (n∈st))=some z/\(s3=.pl (zae st)\/s3=.ac (zae st))/\∀rest:SF,
  (sSeq (sSet 7 (zbj 2 zdx (zaa (eIxV 1 (eC (.int 3))) (zaa (eVar 3) aNil))))
  (sSeq (sIns 7 (zaa (eOp modD (eOp zeo (eIxV 1 (eC (.int 4))) (eC (.int 2))) (eOp addD (eCB lenD (zaa (eVar 7) aNil)) (eC (.int 1)))) (zaa (eVar 4) aNil)))
  (sSeq (sIf (zbc (eOp eqD (eOp modD (eIxV 1 (eC (.int 4))) (eC (.int 2))) (eC (.int 1)))) (sIns 7 (zaa (eOp modD (eIxV 1 (eC (.int 5))) (eOp addD (eCB lenD (zaa (eVar 7) aNil)) (eC (.int 1)))) (zaa (eVar 5) aNil))) sNil)
  (sSeq (sSet 8 (eTup (zaa (eOp ixD (zgo ["_law_name"] [3] (zbv (eVar 7)) (gN 0) (zbc (eOp (inD true) (eVar 0) (eVar 1))) (eVar 0)) (eC (.int 0))) (zaa (eCB zqe (zaa (eVar 7) aNil)) aNil)))) rest)))) (E04 cs s2 (.ac (zae st)) (.pl (.str x)) (.pl (.str y)) (.pl (.str k)) .no .no .no .no .no) =
   rest (E04 cs s2 s3 (.pl (.str x)) (.pl (.str y)) (.pl (.str k)) s7 (.pl (.tuple [.str z,zhe R])) .no .no .no):=by
 have hst:=t.len
 obtain⟨ar,ga,am,al⟩:=zate (c:=cs[3]'(by omega)) (xs:=st) (by omega) (by omega)
 have e7:sSet 7 (zbj 2 zdx (zaa (eIxV 1 (eC (.int 3))) (zaa (eVar 3) aNil))) (E04 cs s2 (.ac (zae st)) (.pl (.str x)) (.pl (.str y)) (.pl (.str k)) .no .no .no .no .no)=some (.nx (E04 cs s2 (.pl (zae st)) (.pl (.str x)) (.pl (.str y)) (.pl (.str k)) (.ac (zae ar)) .no .no .no .no)):=
  zcf (r:=⟨zae ar,true,[3]⟩) (zby (n:=2) (rs:=[vi (cs[3]'(by omega)),⟨zae st,false,[3]⟩]) (zcp (zrf (n:=3) rfl rfl (by omega)) (zgs rfl)) rfl ga)
 have ins:∀(P:List Str)(o:Str)(i:Nat)(ek:EF)(z:Int),P.length<=13->(E04 cs s2 (.pl (zae st)) (.pl (.str x)) (.pl (.str y)) (.pl (.str k)) (.ac (zae P)) .no .no .no .no)[i]?=some (.pl (.str o))->ek (E04 cs s2 (.pl (zae st)) (.pl (.str x)) (.pl (.str y)) (.pl (.str k)) (.ac (zae P)) .no .no .no .no)=some (vi z)->
   ∃m,sIns 7 (zaa (eOp modD ek (eOp addD (eCB lenD (zaa (eVar 7) aNil)) (eC (.int 1)))) (zaa (eVar i) aNil)) (E04 cs s2 (.pl (zae st)) (.pl (.str x)) (.pl (.str y)) (.pl (.str k)) (.ac (zae P)) .no .no .no .no)=some (.nx (E04 cs s2 (.pl (zae st)) (.pl (.str x)) (.pl (.str y)) (.pl (.str k)) (.ac (zae (insL P m o))) .no .no .no .no)):=λP o i ek z hP hi he=>by
  have b0:=qAB z (show((P.length:Nat):Int)+1≠0 by omega)
  have b1:=qAD z (show(0:Int)<((P.length:Nat):Int)+1 by omega)
  obtain⟨m,hm⟩:=qC1 b0
  refine⟨m,?_⟩
  have em:eOp modD ek (eOp addD (eCB lenD (zaa (eVar 7) aNil)) (eC (.int 1))) (E04 cs s2 (.pl (zae st)) (.pl (.str x)) (.pl (.str y)) (.pl (.str k)) (.ac (zae P)) .no .no .no .no)=some (vi (m:Int)):=by
   rw[zjo he (zyx (zaeb (xs:=P) rfl (.inr rfl)) rfl) (by omega),hm]
  have ev:eVar i (E04 cs s2 (.pl (zae st)) (.pl (.str x)) (.pl (.str y)) (.pl (.str k)) (.ac (zae P)) .no .no .no .no)=some (vs o):=by unfold eVar;rw[hi]
  rw[zayg (k:=m) (r:=vs o) (ds:=P.map .str) rfl (zcp em (zgs ev)) (by rw[qC];omega) (by rw[qC];omega) rfl]
  have:insL (P.map PyData.str) m (.str o)=(insL P m o).map .str:=by unfold insL;rw[qAN,qh,qBp,List.map_drop]
  show some (Out.nx [_,_,_,_,_,_,_,.ac (.list (insL (P.map PyData.str) m (.str o))),_,_,_,_])=_
  rw[this];rfl
 have memI:∀{P:List Str}{m:Nat}{o n:Str},n∈insL P m o↔n=o\/n∈P:=λ{P m o n}=>by
  unfold insL
  rw[qAf,qY]
  conv=>rhs;rw[<- qBy m P,qAf]
  constructor
  ·rintro(h|h|h)
   ·exact .inr (.inl h)
   ·exact .inl h
   ·exact .inr (.inr h)
  ·rintro(h|h|h)
   ·exact .inr (.inl h)
   ·exact .inl h
   ·exact .inr (.inr h)
 obtain⟨m1,q1⟩:=ins ar x 4 (eOp zeo (eIxV 1 (eC (.int 4))) (eC (.int 2))) (cs[4]'(by omega) / 2) (by omega) rfl (zra (zrf (n:=4) rfl rfl (by omega)) rfl (by decide) (by decide))
 have tc:∀s7:Sl,zbc (eOp eqD (eOp modD (eIxV 1 (eC (.int 4))) (eC (.int 2))) (eC (.int 1))) (E04 cs s2 (.pl (zae st)) (.pl (.str x)) (.pl (.str y)) (.pl (.str k)) s7 .no .no .no .no)=some (cs[4]'(by omega) % 2==1):=λs7=>zde (zabl (zjo (zrf (n:=4) rfl rfl (by omega)) rfl (by decide)) rfl)
 have lr1:(insL ar m1 x).length<=13:=by rw[zvr];omega
 obtain⟨R,hR,q2⟩:∃R,R04 st x y R/\sIf (zbc (eOp eqD (eOp modD (eIxV 1 (eC (.int 4))) (eC (.int 2))) (eC (.int 1)))) (sIns 7 (zaa (eOp modD (eIxV 1 (eC (.int 5))) (eOp addD (eCB lenD (zaa (eVar 7) aNil)) (eC (.int 1)))) (zaa (eVar 5) aNil))) sNil (E04 cs s2 (.pl (zae st)) (.pl (.str x)) (.pl (.str y)) (.pl (.str k)) (.ac (zae (insL ar m1 x))) .no .no .no .no)=some (.nx (E04 cs s2 (.pl (zae st)) (.pl (.str x)) (.pl (.str y)) (.pl (.str k)) (.ac (zae R)) .no .no .no .no)):=by
  have tc:=tc (.ac (zae (insL ar m1 x)))
  cases hb:(cs[4]'(by omega) % 2==1)with
  | false=>
   rw[hb]at tc
   exact⟨insL ar m1 x,⟨λn hn=>(memI.mp hn).elim (λh=>.inr (.inl h)) λh=>.inl (am n h),memI.mpr (.inl rfl),by omega⟩,if_f tc rfl⟩
  | true=>
   rw[hb]at tc
   obtain⟨m2,q2⟩:=ins (insL ar m1 x) y 5 (eIxV 1 (eC (.int 5))) (cs[5]'(by omega)) lr1 rfl (zrf (n:=5) rfl rfl (by omega))
   refine⟨insL (insL ar m1 x) m2 y,⟨λn hn=>?_,memI.mpr (.inr (memI.mpr (.inl rfl))),by rw[zvr];omega⟩,if_t tc q2⟩
   rcases memI.mp hn with h|h
   ·exact .inr (.inr h)
   ·exact(memI.mp h).elim (λh=>.inr (.inl h)) λh=>.inl (am n h)
 obtain⟨z,hz⟩:∃z,(R.find? λn=>!decide (n∈st))=some z:=by
  cases e:R.find? λn=>!decide (n∈st)with
  | some z=>exact⟨z,rfl⟩
  | none=>
   have:=List.find?_eq_none.mp e x hR.has
   simp[t.x0.1]at this
 obtain⟨rest',hr⟩:∃r,(R.filter λn=>!decide (n∈st))=z::r:=by
  rw[<- List.head?_filter]at hz
  cases e:R.filter λn=>!decide (n∈st)with
  | nil=>rw[e]at hz;cases hz
  | cons a r=>rw[e]at hz;cases hz;exact⟨r,rfl⟩
 have hlR:=hR.len
 have ec:zgo ["_law_name"] [3] (zbv (eVar 7)) (gN 0) (zbc (eOp (inD true) (eVar 0) (eVar 1))) (eVar 0) (E04 cs s2 (.pl (zae st)) (.pl (.str x)) (.pl (.str y)) (.pl (.str k)) (.ac (zae R)) .no .no .no .no)=some ⟨zae (z::rest'),true,[]⟩:=by
  have key:zew (gN 0) (zbc (eOp (inD true) (eVar 0) (eVar 1))) (eVar 0) [.no,.pl (zae st)] (R.map .str)=some ((R.filter λn=>!decide (n∈st)).map .str):=zek (enc:=PyData.str) (out:=PyData.str) (λn=>!decide (n∈st)) (λn _=>⟨[.pl (.str n),.pl (zae st)],rfl,zde (e_in (neg:=true) (xs:=st) rfl rfl),λ_=>⟨vs n,rfl,rfl⟩⟩)
  rw[hr]at key
  have:=zob (own:=["_law_name"]) (fr:=[3]) (fi:=zbv (eVar 7)) (env:=E04 cs s2 (.pl (zae st)) (.pl (.str x)) (.pl (.str y)) (.pl (.str k)) (.ac (zae R)) .no .no .no .no) (ds:=R.map .str) (bs:=[7]) rfl (by rw[qC];omega) key
  rw[this,if_pos (zoc _)]
  rfl
 have e0:=zanq (a:=zgo ["_law_name"] [3] (zbv (eVar 7)) (gN 0) (zbc (eOp (inD true) (eVar 0) (eVar 1))) (eVar 0)) (d:=.str z) (ds:=rest'.map .str) ec
 have e8:∃s3 s7,(s3=.pl (zae st)\/s3=.ac (zae st))/\sSet 8 (eTup (zaa (eOp ixD (zgo ["_law_name"] [3] (zbv (eVar 7)) (gN 0) (zbc (eOp (inD true) (eVar 0) (eVar 1))) (eVar 0)) (eC (.int 0))) (zaa (eCB zqe (zaa (eVar 7) aNil)) aNil))) (E04 cs s2 (.pl (zae st)) (.pl (.str x)) (.pl (.str y)) (.pl (.str k)) (.ac (zae R)) .no .no .no .no)=some (.nx (E04 cs s2 s3 (.pl (.str x)) (.pl (.str y)) (.pl (.str k)) s7 (.pl (.tuple [.str z,zhe R])) .no .no .no)):=by
  have et:eCB zqe (zaa (eVar 7) aNil) (E04 cs s2 (.pl (zae st)) (.pl (.str x)) (.pl (.str y)) (.pl (.str k)) (.ac (zae R)) .no .no .no .no)=some ⟨zhe R,false,bsOf (zhe R) [7]⟩:=rfl
  have hcase:bsOf (zhe R) [7]=[]\/bsOf (zhe R) [7]=[7]:=by unfold bsOf;split<;>simp
  have key:eTup (zaa (eOp ixD (zgo ["_law_name"] [3] (zbv (eVar 7)) (gN 0) (zbc (eOp (inD true) (eVar 0) (eVar 1))) (eVar 0)) (eC (.int 0))) (zaa (eCB zqe (zaa (eVar 7) aNil)) aNil)) (E04 cs s2 (.pl (zae st)) (.pl (.str x)) (.pl (.str y)) (.pl (.str k)) (.ac (zae R)) .no .no .no .no)=some ⟨.tuple [.str z,zhe R],false,bsOf (zhe R) [7]⟩:=by
   unfold eTup
   rw[zcp e0 (zgs et)]
   show some (⟨.tuple [.str z,zhe R],false,([]:List Nat)++(bsOf (zhe R) [7]++[])⟩:Val)=_
   rw[List.nil_append,q9]
  rw[zcf key]
  rcases hcase with hq|hq
  ·rw[hq];exact⟨_,_,.inl rfl,rfl⟩
  ·rw[hq];exact⟨_,_,.inl rfl,rfl⟩
 obtain⟨s3,s7,h3,e8⟩:=e8
 exact⟨R,z,s3,s7,hR,hz,h3,λrest=>zaq e7 (zaq q1 (zaq q2 (zaq e8 rfl)))⟩
end
noncomputable def zsc:SF:=(sSeq (sSet 2 (zbj 2 zfd (zaa (eOp addD (eC (.int 3)) (eOp modD (eIxV 1 (eC (.int 0))) (eC (.int 8)))) (zaa (eIxV 1 (eC (.int 1))) aNil))))
  (sSeq (sSet 3 (eSl (eVar 2) zlp (zfz (eNeg (eC (.int 2))))))
  (sSeq (sSet 4 (eIxV 2 (eNeg (eC (.int 1)))))
  (sSeq (sSet 5 (eIxV 2 (eNeg (eC (.int 2)))))
  (sSeq (sIf (zbc (eOp eqD (eOp modD (eIxV 1 (eC (.int 2))) (eC (.int 2))) (eC (.int 1)))) (sSeq (sSet 4 (eIxV 2 (eNeg (eC (.int 2)))))
  (sSet 5 (eIxV 2 (eNeg (eC (.int 1)))))) sNil)
  (sSeq (sSet 6 (eIxV 3 (eOp modD (eOp zeo (eIxV 1 (eC (.int 2))) (eC (.int 2))) (eCB lenD (zaa (eVar 3) aNil)))))
  (sSeq (sSet 7 (zbj 2 zdx (zaa (eIxV 1 (eC (.int 3))) (zaa (eVar 3) aNil))))
  (sSeq (sIns 7 (zaa (eOp modD (eOp zeo (eIxV 1 (eC (.int 4))) (eC (.int 2))) (eOp addD (eCB lenD (zaa (eVar 7) aNil)) (eC (.int 1)))) (zaa (eVar 4) aNil)))
  (sSeq (sIf (zbc (eOp eqD (eOp modD (eIxV 1 (eC (.int 4))) (eC (.int 2))) (eC (.int 1)))) (sIns 7 (zaa (eOp modD (eIxV 1 (eC (.int 5))) (eOp addD (eCB lenD (zaa (eVar 7) aNil)) (eC (.int 1)))) (zaa (eVar 5) aNil))) sNil)
  (sSeq (sSet 8 (eTup (zaa (eOp ixD (zgo ["_law_name"] [3] (zbv (eVar 7)) (gN 0) (zbc (eOp (inD true) (eVar 0) (eVar 1))) (eVar 0)) (eC (.int 0))) (zaa (eCB zqe (zaa (eVar 7) aNil)) aNil))))
  (sSeq (sSet 9 (zbj 2 zie (zaa (eSl (eVar 1) (zfz (eC (.int 6))) (zfz (eC (.int 14)))) (zaa (eVar 3) aNil))))
  (sSeq (sSet 10 (zgo ["_law_name","_law_elders"] [] (zbv (eVar 9)) (gT 2 (zej 0 (zej 1 zqh))) zml (eTup (zaa (eVar 0) (zaa (eCB zaaz (zaa (eVar 1) aNil)) aNil)))))
  (sSeq (sIf (tOrF (zjx (tTru (zbj 5 zcb (zaa (eVar 10) (zaa (eVar 6) (zaa (eVar 4) (zaa (eVar 5) (zaa (eVar 8) aNil)))))))) (zbc (eOp neD (eVar 10) (eVar 9)))) (sRet (eC (.bool false))) sNil)
  (sSeq (sIf (zbc (eOp (isCD true) (zbj 4 zkh (zaa (eVar 10) (zaa (eVar 6) (zaa (eVar 6) (zaa (eLst (zaa (eVar 6) (zaa (eVar 5) (zaa (eVar 6) aNil)))) aNil))))) (eC (.bool false)))) (sRet (eC (.bool false))) sNil)
  (sSeq (sIf (zbc (eOp (isCD true) (zbj 4 zgh (zaa (eVar 10) (zaa (eIxV 3 (eC (.int 0))) (zaa (eIxV 3 (eNeg (eC (.int 1)))) (zaa (eLst (zaa (eVar 5) (zaa (eIxV 3 (eC (.int 0))) aNil))) aNil))))) (eC (.bool false)))) (sRet (eC (.bool false))) sNil)
  (sSeq (sSet 11 (eOp addD (eVar 10) (eLst (zaa (eTup (zaa (eVar 4) (zaa (eLst (zaa (eVar 6) aNil)) aNil))) (zaa (eTup (zaa (eVar 5) (zaa (eLst (zaa (eVar 4) aNil)) aNil))) aNil)))))
  (sSeq (sIf (tOrF (zbc (eOp (isCD true) (zbj 3 ziu (zaa (eVar 11) (zaa (eVar 5) (zaa (eVar 6) aNil)))) (eC (.bool true)))) (zbc (eOp neD (zbj 2 zfp (zaa (eVar 11) (zaa (eVar 4) aNil))) (eLst (zaa (eVar 4) (zaa (eVar 5) aNil)))))) (sRet (eC (.bool false))) sNil)
  (sSeq (sIf (tOrF (zbc (eOp neD (zbj 3 zmr (zaa (eVar 11) (zaa (eVar 5) (zaa (eVar 6) aNil)))) (eLst (zaa (eVar 5) (zaa (eVar 4) (zaa (eVar 6) aNil)))))) (zbc (eIsN false (zbj 3 zkn (zaa (eVar 11) (zaa (eVar 6) (zaa (eVar 5) aNil))))))) (sRet (eC (.bool false))) sNil)
  (sRet (zbj 5 zcb (zaa (eVar 10) (zaa (eVar 6) (zaa (eVar 4) (zaa (eVar 5) (zaa (eVar 8) aNil)))))))))))))))))))))))))
theorem zatg(h:a env=some (vb b)):eOp (isCD true) a (eC (.bool c)) env=some (vb (!(b==c))):=by
 unfold eOp
 rw[h]
 cases b<;>cases c<;>rfl
theorem zanw{cs:List Int}(hl:cs.length=15)(h0:∀c∈cs,0<=c):zsc (envL 10 cs)=some (.rt (.bool true) false):=by
 obtain⟨st,x,y,k,W,s2,t,hk,gw,p1⟩:=zatf hl h0
 obtain⟨R,z,s3,s7,hR,hz,h3,p2⟩:=zaxa hl t (k:=k) (s2:=s2)
 have ok:=t.ok
 have hW:W.length<=8:=by
  have:=congrArg List.length t.nm_
  simp only[nm,qC]at this
  have:=t.len
  omega
 have kn:k∈nm W:=by rw[t.nm_];exact hk
 have xn:x∉nm W:=by rw[t.nm_];exact t.x0.1
 have yn:y∉nm W:=by rw[t.nm_];exact t.y0.1
 have low:∀n∈nm W,Low n:=by rw[t.nm_];exact t.low
 have mo:More W k x y:=⟨ok,hW,kn,xn,yn,t.ne⟩
 have ax:=zawy t.x0.2.1 t.x0.2.2
 have ay:=zawy t.y0.2.1 t.y0.2.2
 have hz':zce W R=some z:=by unfold zce;rw[t.nm_];exact hz
 have zR:z∈R:=List.mem_of_find?_eq_some hz
 have znn:z∉st:=by have:=List.find?_some hz;simpa using this
 have sz:qAH z=true:=by
  rcases hR.mem z zR with h|rfl|rfl
  ·exact absurd h znn
  ·exact zds t.x0.2.1
  ·exact zds t.y0.2.1
 have hat:∀n∈R,n∉nm W->atD (.str n)=true:=λn hn hnn=>by
  rcases hR.mem n hn with h|rfl|rfl
  ·exact absurd (by rw[t.nm_];exact h) hnn
  ·exact ax
  ·exact ay
 have gr:=zacl (W:=W) (by omega) kn xn yn ax ay hz' hat (zds t.x0.2.1) (zds t.y0.2.1) sz
 let A:PyData:=.tuple [.str z,zhe R]
 have e9:sSet 9 (zbj 2 zie (zaa (eSl (eVar 1) (zfz (eC (.int 6))) (zfz (eC (.int 14)))) (zaa (eVar 3) aNil))) (E04 cs s2 s3 (.pl (.str x)) (.pl (.str y)) (.pl (.str k)) s7 (.pl A) .no .no .no)=some (.nx (E04 cs s2 (.pl (zae st)) (.pl (.str x)) (.pl (.str y)) (.pl (.str k)) s7 (.pl A) (.ac (webD W)) .no .no)):=by
  rcases h3 with rfl|rfl
  ·exact zcf (r:=⟨webD W,true,[]⟩) (zby (n:=2) (rs:=[⟨zgv ((cs.drop 6).take 8),true,[]⟩,⟨zae st,false,[]⟩]) (zcp (zawz hl 6 14 _ _ _ (by decide) (by decide) rfl rfl rfl) (zgs rfl)) rfl gw)
  ·exact zcf (r:=⟨webD W,true,[3]⟩) (zby (n:=2) (rs:=[⟨zgv ((cs.drop 6).take 8),true,[]⟩,⟨zae st,false,[3]⟩]) (zcp (zawz hl 6 14 _ _ _ (by decide) (by decide) rfl rfl rfl) (zgs rfl)) rfl gw)
 have fl:zex (W.map rowD)=false:=by
  cases W with
  | nil=>have:=congrArg List.length t.nm_;simp[nm]at this;have:=t.len;omega
  | cons p W=>rfl
 have e10:sSet 10 (zgo ["_law_name","_law_elders"] [] (zbv (eVar 9)) (gT 2 (zej 0 (zej 1 zqh))) zml (eTup (zaa (eVar 0) (zaa (eCB zaaz (zaa (eVar 1) aNil)) aNil)))) (E04 cs s2 (.pl (zae st)) (.pl (.str x)) (.pl (.str y)) (.pl (.str k)) s7 (.pl A) (.ac (webD W)) .no .no)=some (.nx (E04 cs s2 (.pl (zae st)) (.pl (.str x)) (.pl (.str y)) (.pl (.str k)) s7 (.pl A) (.pl (webD W)) (.ac (webD W)) .no)):=by
  have:=zcf (i:=10) (zob (own:=["_law_name","_law_elders"]) (fr:=[]) (fi:=zbv (eVar 9)) (env:=E04 cs s2 (.pl (zae st)) (.pl (.str x)) (.pl (.str y)) (.pl (.str k)) s7 (.pl A) (.ac (webD W)) .no .no) (ds:=W.map rowD) (bs:=[9]) rfl (by rw[qC];omega) zanh)
  rw[this,fl]
  rfl
 have er:∀s10 s11:Sl,(s10=.ac (webD W)\/s10=.pl (webD W))->zbj 5 zcb (zaa (eVar 10) (zaa (eVar 6) (zaa (eVar 4) (zaa (eVar 5) (zaa (eVar 8) aNil))))) (E04 cs s2 (.pl (zae st)) (.pl (.str x)) (.pl (.str y)) (.pl (.str k)) s7 (.pl A) (.pl (webD W)) s10 s11)=some (vb true):=λs10 s11 h=>by
  rcases h with rfl|rfl
  ·exact zby (n:=5) (rs:=[⟨webD W,false,[10]⟩,vs k,vs x,vs y,⟨A,false,[]⟩]) rfl rfl gr
  ·exact zby (n:=5) (rs:=[⟨webD W,false,[]⟩,vs k,vs x,vs y,⟨A,false,[]⟩]) rfl rfl gr
 have sw:=zafb (zast ok low)
 have e11:sIf (tOrF (zjx (tTru (zbj 5 zcb (zaa (eVar 10) (zaa (eVar 6) (zaa (eVar 4) (zaa (eVar 5) (zaa (eVar 8) aNil)))))))) (zbc (eOp neD (eVar 10) (eVar 9)))) (sRet (eC (.bool false))) sNil (E04 cs s2 (.pl (zae st)) (.pl (.str x)) (.pl (.str y)) (.pl (.str k)) s7 (.pl A) (.pl (webD W)) (.ac (webD W)) .no)=some (.nx (E04 cs s2 (.pl (zae st)) (.pl (.str x)) (.pl (.str y)) (.pl (.str k)) s7 (.pl A) (.pl (webD W)) (.ac (webD W)) .no)):=by
  refine if_f ?_ rfl
  have a:=zaka (er (.ac (webD W)) .no (.inl rfl))
  have b:eOp neD (eVar 10) (eVar 9) (E04 cs s2 (.pl (zae st)) (.pl (.str x)) (.pl (.str y)) (.pl (.str k)) s7 (.pl A) (.pl (webD W)) (.ac (webD W)) .no)=some (vb false):=by
   show((neD (webD W) (webD W)).bind λz=>some (⟨z.1,z.2,bsOf z.1 ([10]++[])⟩:Val))=_
   rw[zpq sw];rfl
  unfold tOrF
  rw[a,zde b]
  rfl
 have t12:zbc (eOp (isCD true) (zbj 4 zkh (zaa (eVar 10) (zaa (eVar 6) (zaa (eVar 6) (zaa (eLst (zaa (eVar 6) (zaa (eVar 5) (zaa (eVar 6) aNil)))) aNil))))) (eC (.bool false))) (E04 cs s2 (.pl (zae st)) (.pl (.str x)) (.pl (.str y)) (.pl (.str k)) s7 (.pl A) (.pl (webD W)) (.ac (webD W)) .no)=some false:=
  zde (zatg (zby (n:=4) (rs:=[⟨webD W,false,[10]⟩,vs k,vs k,⟨zae [k,y,k],true,[]⟩]) rfl rfl (zant ok kn yn)))
 obtain⟨s0,hs0⟩:∃s0,st[0]?=some s0:=⟨st[0]'(by have:=t.len;omega),qK _⟩
 have hne:st≠[]:=λz=>by have:=t.len;rw[z]at this;simp at this
 have i0:eIxV 3 (eC (.int 0)) (E04 cs s2 (.pl (zae st)) (.pl (.str x)) (.pl (.str y)) (.pl (.str k)) s7 (.pl A) (.pl (webD W)) (.ac (webD W)) .no)=some (vs s0):=zasj (ds:=st.map .str) (n:=0) rfl rfl (by rw[qS,hs0];rfl)
 have iL:eIxV 3 (eNeg (eC (.int 1))) (E04 cs s2 (.pl (zae st)) (.pl (.str x)) (.pl (.str y)) (.pl (.str k)) s7 (.pl A) (.pl (webD W)) (.ac (webD W)) .no)=some (vs (st.getLast hne)):=by
  rw[zasq (ds:=st.map .str) rfl (by simpa using hne),List.getLast_map]
 have t13:zbc (eOp (isCD true) (zbj 4 zgh (zaa (eVar 10) (zaa (eIxV 3 (eC (.int 0))) (zaa (eIxV 3 (eNeg (eC (.int 1)))) (zaa (eLst (zaa (eVar 5) (zaa (eIxV 3 (eC (.int 0))) aNil))) aNil))))) (eC (.bool false))) (E04 cs s2 (.pl (zae st)) (.pl (.str x)) (.pl (.str y)) (.pl (.str k)) s7 (.pl A) (.pl (webD W)) (.ac (webD W)) .no)=some false:=by
  have el:eLst (zaa (eVar 5) (zaa (eIxV 3 (eC (.int 0))) aNil)) (E04 cs s2 (.pl (zae st)) (.pl (.str x)) (.pl (.str y)) (.pl (.str k)) s7 (.pl A) (.pl (webD W)) (.ac (webD W)) .no)=some ⟨zae [y,s0],true,[]⟩:=by
   unfold eLst
   rw[zcp (r:=vs y) rfl (zgs i0)]
   rfl
  exact zde (zatg (zby (n:=4) (rs:=[⟨webD W,false,[10]⟩,vs s0,vs (st.getLast hne),⟨zae [y,s0],true,[]⟩]) (zcp rfl (zcp i0 (zcp iL (zgs el)))) rfl (zakr ok (by rw[t.nm_];exact qu hs0) (by rw[t.nm_];exact List.getLast_mem hne) yn)))
 have e14:sSet 11 (eOp addD (eVar 10) (eLst (zaa (eTup (zaa (eVar 4) (zaa (eLst (zaa (eVar 6) aNil)) aNil))) (zaa (eTup (zaa (eVar 5) (zaa (eLst (zaa (eVar 4) aNil)) aNil))) aNil)))) (E04 cs s2 (.pl (zae st)) (.pl (.str x)) (.pl (.str y)) (.pl (.str k)) s7 (.pl A) (.pl (webD W)) (.ac (webD W)) .no)=some (.nx (E04 cs s2 (.pl (zae st)) (.pl (.str x)) (.pl (.str y)) (.pl (.str k)) s7 (.pl A) (.pl (webD W)) (.pl (webD W)) (.ac (webD (web2 W k x y))))):=by
  have key:eOp addD (eVar 10) (eLst (zaa (eTup (zaa (eVar 4) (zaa (eLst (zaa (eVar 6) aNil)) aNil))) (zaa (eTup (zaa (eVar 5) (zaa (eLst (zaa (eVar 4) aNil)) aNil))) aNil))) (E04 cs s2 (.pl (zae st)) (.pl (.str x)) (.pl (.str y)) (.pl (.str k)) s7 (.pl A) (.pl (webD W)) (.ac (webD W)) .no)=some ⟨webD (web2 W k x y),true,[10]⟩:=by
   show((addD (.list (W.map rowD)) (.list [rowD (x,[k]),rowD (y,[x])])).bind λz=>some (⟨z.1,z.2,bsOf z.1 ([10]++[])⟩:Val))=_
   have:addD (.list (W.map rowD)) (.list [rowD (x,[k]),rowD (y,[x])])=some (webD (web2 W k x y),true):=by
    unfold addD
    simp only
    rw[if_pos (by simp;omega)]
    unfold webD web2
    simp
   rw[this]
   rfl
  exact zcf key
 have t15:tOrF (zbc (eOp (isCD true) (zbj 3 ziu (zaa (eVar 11) (zaa (eVar 5) (zaa (eVar 6) aNil)))) (eC (.bool true)))) (zbc (eOp neD (zbj 2 zfp (zaa (eVar 11) (zaa (eVar 4) aNil))) (eLst (zaa (eVar 4) (zaa (eVar 5) aNil))))) (E04 cs s2 (.pl (zae st)) (.pl (.str x)) (.pl (.str y)) (.pl (.str k)) s7 (.pl A) (.pl (webD W)) (.pl (webD W)) (.ac (webD (web2 W k x y))))=some false:=by
  have a:=zde (zatg (c:=true) (zby (n:=3) (g:=ziu) (f:=zaa (eVar 11) (zaa (eVar 5) (zaa (eVar 6) aNil))) (env:=E04 cs s2 (.pl (zae st)) (.pl (.str x)) (.pl (.str y)) (.pl (.str k)) s7 (.pl A) (.pl (webD W)) (.pl (webD W)) (.ac (webD (web2 W k x y)))) (rs:=[⟨webD (web2 W k x y),false,[11]⟩,vs y,vs k]) rfl rfl (zanu mo)))
  have b:eOp neD (zbj 2 zfp (zaa (eVar 11) (zaa (eVar 4) aNil))) (eLst (zaa (eVar 4) (zaa (eVar 5) aNil))) (E04 cs s2 (.pl (zae st)) (.pl (.str x)) (.pl (.str y)) (.pl (.str k)) s7 (.pl A) (.pl (webD W)) (.pl (webD W)) (.ac (webD (web2 W k x y))))=some (vb false):=by
   have c:=zby (n:=2) (g:=zfp) (f:=zaa (eVar 11) (zaa (eVar 4) aNil)) (env:=E04 cs s2 (.pl (zae st)) (.pl (.str x)) (.pl (.str y)) (.pl (.str k)) s7 (.pl A) (.pl (webD W)) (.pl (webD W)) (.ac (webD (web2 W k x y)))) (rs:=[⟨webD (web2 W k x y),false,[11]⟩,vs x]) rfl rfl (zaks mo)
   unfold eOp
   rw[c]
   show((neD (zae [x,y]) (zae [x,y])).bind _)=_
   rw[zpq (zsb λn hn=>by rcases qY.mp hn with rfl|hn;exact zds t.x0.2.1;rcases qY.mp hn with rfl|hn;exact zds t.y0.2.1;cases hn)]
   rfl
  unfold tOrF
  rw[a,zde b]
  rfl
 have t16:tOrF (zbc (eOp neD (zbj 3 zmr (zaa (eVar 11) (zaa (eVar 5) (zaa (eVar 6) aNil)))) (eLst (zaa (eVar 5) (zaa (eVar 4) (zaa (eVar 6) aNil)))))) (zbc (eIsN false (zbj 3 zkn (zaa (eVar 11) (zaa (eVar 6) (zaa (eVar 5) aNil)))))) (E04 cs s2 (.pl (zae st)) (.pl (.str x)) (.pl (.str y)) (.pl (.str k)) s7 (.pl A) (.pl (webD W)) (.pl (webD W)) (.ac (webD (web2 W k x y))))=some false:=by
  have b:eOp neD (zbj 3 zmr (zaa (eVar 11) (zaa (eVar 5) (zaa (eVar 6) aNil)))) (eLst (zaa (eVar 5) (zaa (eVar 4) (zaa (eVar 6) aNil)))) (E04 cs s2 (.pl (zae st)) (.pl (.str x)) (.pl (.str y)) (.pl (.str k)) s7 (.pl A) (.pl (webD W)) (.pl (webD W)) (.ac (webD (web2 W k x y))))=some (vb false):=by
   have c:=zby (n:=3) (g:=zmr) (f:=zaa (eVar 11) (zaa (eVar 5) (zaa (eVar 6) aNil))) (env:=E04 cs s2 (.pl (zae st)) (.pl (.str x)) (.pl (.str y)) (.pl (.str k)) s7 (.pl A) (.pl (webD W)) (.pl (webD W)) (.ac (webD (web2 W k x y)))) (rs:=[⟨webD (web2 W k x y),false,[11]⟩,vs y,vs k]) rfl rfl (zawv mo)
   unfold eOp
   rw[c]
   show((neD (zae [y,x,k]) (zae [y,x,k])).bind _)=_
   rw[zpq (zsb λn hn=>by rcases qY.mp hn with rfl|hn;exact zds t.y0.2.1;rcases qY.mp hn with rfl|hn;exact zds t.x0.2.1;rcases qY.mp hn with rfl|hn;exact zds (low _ kn);cases hn)]
   rfl
  obtain⟨hs,gh⟩:=zatd mo
  have c:eIsN false (zbj 3 zkn (zaa (eVar 11) (zaa (eVar 6) (zaa (eVar 5) aNil)))) (E04 cs s2 (.pl (zae st)) (.pl (.str x)) (.pl (.str y)) (.pl (.str k)) s7 (.pl A) (.pl (webD W)) (.pl (webD W)) (.ac (webD (web2 W k x y))))=some (vb false):=by
   have c:=zby (n:=3) (g:=zkn) (f:=zaa (eVar 11) (zaa (eVar 6) (zaa (eVar 5) aNil))) (env:=E04 cs s2 (.pl (zae st)) (.pl (.str x)) (.pl (.str y)) (.pl (.str k)) s7 (.pl A) (.pl (webD W)) (.pl (webD W)) (.ac (webD (web2 W k x y)))) (rs:=[⟨webD (web2 W k x y),false,[11]⟩,vs k,vs y]) rfl rfl gh
   unfold eIsN
   rw[c]
   rfl
  unfold tOrF
  rw[zde b,zde c]
  rfl
 unfold zsc
 rw[p1,p2]
 exact zaq e9 (zaq e10 (zaq e11 (zaq (if_f t12 rfl) (zaq (if_f t13 rfl) (zaq e14 (zaq (if_f t15 rfl) (zaq (if_f t16 rfl) (ztu (er _ _ (.inr rfl))))))))))
section
variable{P:Program}{w:World}{K:qB}{mg:Str->Option Value}{base:Heap}
theorem zayh{s k:Int}(h1:0<=s)(h2:s<2147483647)(h3:0<=k)(h4:k<=64):0<=s * (k+2)+7919 * k * k+11/\s * (k+2)+7919 * k * k+11<200000000000:=by
 have a1:0<=s * (k+2):=qCu h1 (by omega)
 have a2:s * (k+2)<=2147483647 * 66:=Int.mul_le_mul (by omega) (by omega) (by omega) (by omega)
 have a3:0<=7919 * k * k:=qCu (by omega) h3
 have a4:7919 * k * k<=7919 * 64 * 64:=Int.mul_le_mul (by omega) h4 h3 (by omega)
 omega
noncomputable def zacm(K:qB):Sp:=λvs H Q _=>∃(a:Addr)(ns:List Int)(m:Int),vs=[.ref a,.int m]/\SqL K H a (ns.map .int)/\0<=m/\m<=64/\
 ∀p H' (cs:List Int),H p=none->Same H H'->H' p=some (.lst (cs.map .int))->cs.length=m.toNat->(∀c∈cs,0<=c/\c<1000000000000)->Q (.ref p) H'
theorem zaac{f:Addr}{fd:qk}(F:Fun K "_law_draws" "_law_draws" zlw f fd)(T:Txt mg):FnOk P w K mg base CX0 1 f fd ["_law_script","_law_many"] (zacm K):=by
 refine F.ok zzl (λvs H Q E h=>?_) (λcdv A outer s H vs Q E hr h=>?_)
 ·obtain⟨a,ns,m,rfl,_⟩:=h
  rfl
 ·obtain⟨a,ns,m,rfl,hS,h0,h64,k⟩:=h
  apply Exists.intro
  apply And.intro
  ·refine'(zkr (zaco (i:=2) (hf:=Or.inl rfl) zem rfl (Or.inl rfl) zgx)
 (zkr (zafy qAL rfl (zall (K:=K) rfl (zacs (zaap (K:=K) rfl) (pv 0) zagh (zagi zgx))) (zaaf (i:=3) (hf:=Or.inl rfl) zem rfl (Or.inl rfl))
  (zlj (zaco (i:=2) (hf:=Or.inl rfl) zem rfl (Or.inl rfl) (zlc zdl (zlc (zct (K:=K) rfl) (zlc zik (pv 2) zgx) (zlc zdl (pv 3) zgx)) zgx))))
 (zkr (zaco (i:=4) (hf:=Or.inl rfl) zem rfl (Or.inl rfl) (zanz zoo))
 (zkr (zafy qAL rfl (zwu rfl T.range (zjp (pv 1) zoo)) (zaaf (i:=5) (hf:=Or.inl rfl) zem rfl (Or.inl rfl))
  (zlj (zats (zaga zaxj (pv 5) (zacr (zcu (K:=K) rfl) (by rfl) T.len zdp (zjp (pv 0) zoo)) (zfv _)) (zlj (zus (zagx (K:=K) rfl qH qJ qI zaw (pv 4) (zjp (zlc zdl (zauc (zea (K:=K) rfl) (pv 0) (pv 5) (λ_ _=>rfl)) (zlc zany zgx zgx)) zoo)))) (zlj (zus (zagx (K:=K) rfl qH qJ qI zaw (pv 4) (zjp (zlc zez (zlc zdl (zlc zany (zlc (zct (K:=K) rfl) (zlc (zct (K:=K) rfl) (zlc zik (pv 2) (zlc (zct (K:=K) rfl) (pv 5) zgx)) (zlc zik (zlc zik zgx (pv 5)) (pv 5))) zgx) zgx) zgx) zgx) zoo)))))))
 (zlj (zanx (pv 4)))))))
  refine⟨_,rfl,_,rfl,a,_,rfl,hS,λp hp=>⟨p,rfl,⟨_,SqL.of zam⟩,L2.for_list (xs:=cutV (ns.map V.int) none (some 63)) (λi σ H1=>∃(sd:Int)(v3:Option V),σ=[some (.ref a),some (.int m),some (.int sd),v3,none,none]/\H1=upd H p (.lst (cutV (ns.map V.int) none (some 63)))/\0<=sd/\sd<2147483647)
   ⟨7,none,rfl,rfl,by decide,by decide⟩ (λi σ H1 _ ⟨_,_,_,e,_⟩=>e▸SqL.of zam) ?_ ?_⟩⟩
  ·rintro i x σ H1 hi ⟨sd,v3,rfl,rfl,b0,b1⟩
   obtain⟨z,rfl⟩:∃z,x=V.int z:=by
    have hm:=qu hi
    unfold cutV at hm
    obtain⟨z,_,e⟩:=qA1.mp (List.mem_of_mem_drop (qB3 hm))
    exact⟨z,e.symm⟩
   refine⟨_,rfl,.inl ⟨by omega,by omega⟩,_,rfl,_,_,rfl,rfl,(by show(0:Int)<2147483629;decide),_,_,rfl,rfl,(by show(0:Int)<2147483647;decide),?_⟩
   exact⟨_,_,rfl,rfl,qAB _ (by decide),qAD _ (by decide)⟩
  ·rintro σ H1 ⟨sd,v3,rfl,rfl,b0,b1⟩
   refine⟨qAK _,λq hq=>?_⟩
   have hqH:H q=none:=(Same.new hp).free hq
   have sH:∀o,Same H (upd (upd H p (.lst (cutV (ns.map V.int) none (some 63)))) q o):=λo=>(Same.new hp).upd hqH
   refine⟨_,rfl,m,rfl,by omega,by omega,L2.for_range (n:=m.toNat) (λi σ H2=>∃(cs:List Int)(v5:Option V),σ=[some (.ref a),some (.int m),some (.int sd),v3,some (.ref q),v5]/\H2=upd (upd H p (.lst (cutV (ns.map V.int) none (some 63)))) q (.lst (cs.map .int))/\cs.length=i/\∀c∈cs,0<=c/\c<1000000000000)
    ⟨[],none,rfl,rfl,rfl,λ_ h=>nomatch h⟩ ?_ ?_⟩
   ·rintro i σ H2 hi ⟨cs,v5,rfl,rfl,hc,hp0⟩
    have hi64:(i:Int)<=64:=by omega
    refine⟨_,rfl,_,rfl,_,_,rfl,.inl ⟨_,(sH _).seq hS,rfl⟩,_,_,rfl,rfl,_,rfl,?_⟩
    have lz:(cs.map V.int).length<qV:=by rw[qC,hc];exact qBi (show i<=64 by omega) (by decide)
    have fin:∀v:Int,0<=v->v<1000000000000->∃(cs':List Int)(v5:Option V),[some (.ref a),some (.int m),some (.int sd),v3,some (.ref q),some (.int (0+(i:Int)))]=[some (.ref a),some (.int m),some (.int sd),v3,some (.ref q),v5]/\
      upd (upd (upd H p (.lst (cutV (ns.map V.int) none (some 63)))) q (.lst (cs.map .int))) q (.lst (cs.map V.int++[.int v]))=upd (upd H p (.lst (cutV (ns.map V.int) none (some 63)))) q (.lst (cs'.map .int))/\cs'.length=i+1/\∀c∈cs',0<=c/\c<1000000000000:=λv hv hv2=>by
     refine⟨cs++[v],_,rfl,?_,by simp[hc],λc h=>?_⟩
     ·rw[zapf,qAN];rfl
     ·rcases qAf.mp h with h|h
      ·exact hp0 c h
      ·rw[qAU.mp h];exact⟨hv,hv2⟩
    refine ite2 (λh=>?_) (λh=>?_)
    ·have h:(0:Int)+i<((ns.map V.int).length:Nat):=of_decide_eq_true h
     rw[qC]at h
     have hin:i<ns.length:=by omega
     have ga:atI (ns.map V.int) (0+(i:Int))=some (.int ns[i]):=by
      rw[Int.zero_add]
      exact zps (by rw[qS,qK hin];rfl)
     refine⟨_,rfl,.inl ⟨rfl,_,SqL.of zam⟩,_,rfl,_,rfl,_,_,.inl ((sH _).seq hS),ga,_,_,rfl,rfl,⟨by decide,by decide,by decide⟩,_,_,rfl,rfl,(by show(0:Int)<10 ^ 12;decide),q,_,_,rfl,rfl,zam,lz,?_⟩
     exact fin _ (qAB _ (by decide)) (qAD _ (by decide))
    ·obtain⟨d1,d2⟩:=zayh (s:=sd) (k:=0+(i:Int)) b0 b1 (by omega) (by omega)
     refine⟨_,rfl,.inl ⟨rfl,_,SqL.of zam⟩,_,rfl,_,rfl,.inl ⟨by omega,by omega⟩,_,rfl,.inl ⟨by decide,by decide⟩,_,rfl,.inr ⟨by omega,by omega⟩,?_⟩
     refine⟨_,_,rfl,rfl,⟨by decide,by decide,?_⟩,_,_,rfl,rfl,(by show(0:Int)<2147483647;decide),_,_,rfl,rfl,⟨by decide,by decide⟩,q,_,_,rfl,rfl,zam,lz,?_⟩
     ·show(sd * (0+(i:Int)+2)+7919 * (0+(i:Int)) * (0+(i:Int))+11).natAbs<2 ^ 64
      omega
     ·refine fin _ (Int.ediv_nonneg (qAB _ (by decide)) (by decide)) ?_
      have h9:∀z:Int,z % 2147483647 / 7<1000000000000:=λz=>by have:=qAD z (show(0:Int)<2147483647 by decide);omega
      exact h9 _
   ·rintro σ H2 ⟨cs,v5,rfl,rfl,hc,hp0⟩
    exact⟨_,rfl,k q _ cs hqH (sH _) zam hc hp0⟩
end
section
variable{P:Program}{w:World}{K:qB}{mg:Str->Option Value}{base:Heap}
noncomputable def zayj(K:qB):Sp:=λvs H Q _=>∃(a:Addr)(ns:List Int),vs=[.ref a]/\SqL K H a (ns.map V.int)/\∀H',Q (.bl true) H'
theorem zaxb{f PT:Addr}{fd:qk}(F:Fun K "law" "law" zafj f fd)(T:Txt mg)(D_law_arm:zzy P w K mg base)(D_law_draws:Dn P w K mg base "_law_draws" ["_law_script","_law_many"] 1 (zacm K))(D_law_names:zry P w K mg base)(D_law_refused:znc P w K mg base PT)(D_law_web:zzx P w K mg base)(D_beneath:zzv P w K mg base)(D_hedge:zakm P w K mg base)(D_is_hedge:zum P w K mg base)(D_is_road:zzw P w K mg base)(D_road:zapc P w K mg base)(D_stands:zaea P w K mg base):FnOk P w K mg base CX0 8 f fd ["_law_script"] (zadm K PT (("_law_asks":Str)++".<locals>."++"<lambda>")):=by
 refine F.ok zawp (λvs H Q E h=>?_) (λcdv A outer s H vs Q E hr h=>?_)
 ·obtain⟨a,ns,rfl,_⟩:=h
  rfl
 ·obtain⟨a,ns,rfl,hS,hTb,k⟩:=h
  have hu:=zfl hr
  apply Exists.intro
  apply And.intro
  ·refine' Bx.out (zah (bpsS (i:=1) zhd rfl (Or.inl rfl) (bpeD D_law_draws hr (bpaC (bv 0) (bpaC zao zad))))
 (zah (bpsS (i:=2) zhd rfl (Or.inl rfl) (bpeD D_law_names hr (bpaC (zba (zct (K:=K) rfl) zao (zba zdl (bpeX (zea (K:=K) rfl) (bv 1) zao) zao)) (bpaC (bpeX (zea (K:=K) rfl) (bv 1) zao) zad))))
 (zah (bpsS (i:=3) zhd rfl (Or.inr rfl) (zic (zaap (K:=K) rfl) (bv 2) zmn (ziq (zmq zmb zao))))
 (zah (bpsS (i:=4) zhd rfl (Or.inl rfl) (bpeX (zea (K:=K) rfl) (bv 2) (zmq zmb zao)))
 (zah (bpsS (i:=5) zhd rfl (Or.inl rfl) (bpeX (zea (K:=K) rfl) (bv 2) (zmq zmb zao)))
 (zah (zef (zcc (zxz (K:=K) rfl hr.units) (zba zdl (bpeX (zea (K:=K) rfl) (bv 1) zao) zao) zao (zfv _)) (zah (bpsS (i:=4) zhd rfl (Or.inl rfl) (bpeX (zea (K:=K) rfl) (bv 2) (zmq zmb zao)))
 (zan (bpsS (i:=5) zhd rfl (Or.inl rfl) (bpeX (zea (K:=K) rfl) (bv 2) (zmq zmb zao))))) zci)
 (zah (bpsS (i:=6) zhd rfl (Or.inl rfl) (bpeX (zea (K:=K) rfl) (bv 3) (zba zdl (zba zez (bpeX (zea (K:=K) rfl) (bv 1) zao) zao) (bpeB (zcu (K:=K) rfl) T.len zdp (bpaC (bv 3) zad)))))
 (zah (bpsS (i:=7) zhd rfl (Or.inl rfl) (bpeD D_law_arm hr (bpaC (bpeX (zea (K:=K) rfl) (bv 1) zao) (bpaC (bv 3) zad))))
 (zah (zas (zbh (K:=K) rfl qH qCV qCT zyk (bv 7) (bpaC (zba zdl (zba zez (bpeX (zea (K:=K) rfl) (bv 1) zao) zao) (zba (zct (K:=K) rfl) (bpeB (zcu (K:=K) rfl) T.len zdp (bpaC (bv 7) zad)) zao)) (bpaC (bv 4) zad)) (by rfl) (by rfl) (by rfl) (zak (by rfl)) (by rfl)) (by rfl))
 (zah (zef (zcc (zxz (K:=K) rfl hr.units) (zba zdl (bpeX (zea (K:=K) rfl) (bv 1) zao) zao) zao (zfv _)) (zan (zas (zbh (K:=K) rfl qH qCV qCT zyk (bv 7) (bpaC (zba zdl (bpeX (zea (K:=K) rfl) (bv 1) zao) (zba (zct (K:=K) rfl) (bpeB (zcu (K:=K) rfl) T.len zdp (bpaC (bv 7) zad)) zao)) (bpaC (bv 5) zad)) (by rfl) (by rfl) (by rfl) (zak (by rfl)) (by rfl)) (by rfl))) zci)
 (zah (bpsS (i:=8) zhd rfl (Or.inl rfl) (zbm (bpaC (bpeX (zea (K:=K) rfl) (zkg (zfm (N':=["_law_name","_law_stand"]) (own:=["_law_name"]) (fr:=[3]) (by kernel_rfl)) rfl (zdh (K:=K) rfl (bv 7)) ?hb1 (by intro _;rfl)) zao) (bpaC (bpeT (zabf (K:=K) rfl) T.tuple zub (bpaC (bv 7) zad)) zad))))
 (zah (bpsS (i:=9) zhd rfl (Or.inl rfl) (bpeD D_law_web hr (bpaC (zic (zaap (K:=K) rfl) (bv 1) (ziq zao) (ziq zao)) (bpaC (bv 3) zad))))
 (zah (zyi (i:=10) (zfm (N':=["_law_name","_law_elders"]) (own:=["_law_name","_law_elders"]) (fr:=[]) (by kernel_rfl)) rfl (zdh (K:=K) rfl (bv 9)) ?hb2 (by rfl) zhd rfl rfl (by intro _;rfl))
 (zah (zef (zqs (znz (zfa (K:=K) rfl (bpeD D_law_refused hr (bpaC (bv 10) (bpaC (bv 6) (bpaC (bv 4) (bpaC (bv 5) (bpaC (bv 8) zad)))))) (λ_=>rfl))) (zlu (zcc (zqn (K:=K) rfl hr.units) (bv 10) (bv 9) (zfv _)))).pt (zan (zbn zee)) zci)
 (zah (zef (zcc zqo (bpeD D_is_road hr (bpaC (bv 10) (bpaC (bv 6) (bpaC (bv 6) (bpaC (zbo (bpaC (bv 6) (bpaC (bv 5) (bpaC (bv 6) zad)))) zad))))) zee (zfv _)) (zan (zbn zee)) zci)
 (zah (zef (zcc zqo (bpeD D_is_hedge hr (bpaC (bv 10) (bpaC (bpeX (zea (K:=K) rfl) (bv 3) zao) (bpaC (bpeX (zea (K:=K) rfl) (bv 3) (zmq zmb zao)) (bpaC (zbo (bpaC (bv 5) (bpaC (bpeX (zea (K:=K) rfl) (bv 3) zao) zad))) zad))))) zee (zfv _)) (zan (zbn zee)) zci)
 (zah (bpsS (i:=11) zhd rfl (Or.inl rfl) (zba (zct (K:=K) rfl) (bv 10) (zbo (bpaC (zbm (bpaC (bv 4) (bpaC (zbo (bpaC (bv 6) zad)) zad))) (bpaC (zbm (bpaC (bv 5) (bpaC (zbo (bpaC (bv 4) zad)) zad))) zad)))))
 (zah (zef (zqs (zcc zqo (bpeD D_stands hr (bpaC (bv 11) (bpaC (bv 5) (bpaC (bv 6) zad)))) zee (zfv _)) (zlu (zcc (zqn (K:=K) rfl hr.units) (bpeD D_beneath hr (bpaC (bv 11) (bpaC (bv 4) zad))) (zbo (bpaC (bv 4) (bpaC (bv 5) zad))) (zfv _)))).pt (zan (zbn zee)) zci)
 (zah (zef (zqs (zcc (zqn (K:=K) rfl hr.units) (bpeD D_road hr (bpaC (bv 11) (bpaC (bv 5) (bpaC (bv 6) zad)))) (zbo (bpaC (bv 5) (bpaC (bv 4) (bpaC (bv 6) zad)))) (zfv _)) (zlu (zqu (zarj (bpeD D_hedge hr (bpaC (bv 11) (bpaC (bv 6) (bpaC (bv 5) zad))))) (by first|exact zakt _ (by decide) (by decide)|rfl)))).pt (zan (zbn zee)) zci)
 (zan (zbn (bpeD D_law_refused hr (bpaC (bv 10) (bpaC (bv 6) (bpaC (bv 4) (bpaC (bv 5) (bpaC (bv 8) zad)))))))))))))))))))))))))))
   case hb1=>(intro cl C s H fp;refine'⟨Bx.out (bpgN (i:=0) zakk rfl (Or.inl rfl)),Bx.out (zvo (zcc (zjs (K:=K) rfl) (bv 0) (bv 1) (by rfl))),Bx.out (bv 0)⟩)
   case hb2=>(intro cl C s H fp;refine'⟨Bx.out (zmp (K:=K) (n:=2) rfl rfl (zeg (bpgN (i:=0) zzt rfl (Or.inl rfl)) (zeg (bpgN (i:=1) zzt rfl (Or.inl rfl)) zmo (by rfl)) (by rfl)) (by rfl) (by rfl)),Bx.out zqt,Bx.out (zbm (bpaC (bv 0) (bpaC (bpeT (znu (K:=K) rfl) T.list zko (bpaC (bv 1) zad)) zad)))⟩)
  refine⟨_,rfl,a,ns,15,rfl,hS,by decide,by decide,λpc H1 cs hpc s1 e1 lc p1=>?_⟩
  exact zamv (hT:=s1 _ _ hTb) (F:=zsc) ((zdo (zes (zbp (zbs (zab (zbb zia (se_c λ_=>zai) (zbb zed (zcr (se_c λ_=>zai)) (se_c λ_=>zai))) (zab (zcr (se_c λ_=>zai)) zal))))) (zdo (zes (zbp (zaen (zac 2) zqf (zlq (zmm (se_c λ_=>zai)))))) (zdo (zes (zbp (zcr (zmm (se_c λ_=>zai))))) (zdo (zes (zbp (zcr (zmm (se_c λ_=>zai))))) (zdo (zes (zjm (st_t (zbb zahg (zbb zed (zcr (se_c λ_=>zai)) (se_c λ_=>zai)) (se_c λ_=>zai))) (zay (zbp (zcr (zmm (se_c λ_=>zai)))) (zbp (zcr (zmm (se_c λ_=>zai))))) zey)) (zdo (zes (zbp (zcr (zbb zed (zbb zft (zcr (se_c λ_=>zai)) (se_c λ_=>zai)) (zgm zib (zab (zac 3) zal)))))) (zdo (zes (zbp (zbs (zab (zcr (se_c λ_=>zai)) (zab (zac 3) zal))))) (zdo (zes (zaoq (zab (zbb zed (zbb zft (zcr (se_c λ_=>zai)) (se_c λ_=>zai)) (zbb zia (zgm zib (zab (zac 7) zal)) (se_c λ_=>zai))) (zab (zac 4) zal)))) (zdo (zes (zjm (st_t (zbb zahg (zbb zed (zcr (se_c λ_=>zai)) (se_c λ_=>zai)) (se_c λ_=>zai))) (zaoq (zab (zbb zed (zcr (se_c λ_=>zai)) (zbb zia (zgm zib (zab (zac 7) zal)) (se_c λ_=>zai))) (zab (zac 5) zal))) zey)) (zdo (zes (zbp (zqd (zab (zbb zaqo (zlt (zhb (zac 7)) zei (zqm (by decide)) (st_t (zbb zvc (zac 0) (zac 1))) (zac 0)) (se_c λ_=>zai)) (zab (zgm zals (zab (zac 7) zal)) zal))))) (zdo (zes (zbp (zbs (zab (zaen (zac 1) (zlq (se_c λ_=>zai)) (zlq (se_c λ_=>zai))) (zab (zac 3) zal))))) (zdo (zes (zbp (zlt (zhb (zac 9)) (zadf (zha (zha zvd))) (zaoo (zpm (by decide) (zpm (by decide) zahy))) zya (zqd (zab (zac 0) (zab (zgm zaba (zab (zac 1) zal)) zal)))))) (zdo (zawb (zawa (zart (zars (zadl (zab (zac 10) (zab (zac 6) (zab (zac 4) (zab (zac 5) (zab (zac 8) zal)))))))) (zavz (st_t (zbb zaav (zac 10) (zac 9))))) (zes (zdz (se_c λ_=>zar))) (zes zey)) (zdo (zes (zjm (st_t (zbb zare (zbs (zab (zac 10) (zab (zac 6) (zab (zac 6) (zab (zcl (zab (zac 6) (zab (zac 5) (zab (zac 6) zal)))) zal))))) (se_c λ_=>zar))) (zdz (se_c λ_=>zar)) zey)) (zdo (zes (zjm (st_t (zbb zare (zbs (zab (zac 10) (zab (zcr (se_c λ_=>zai)) (zab (zcr (zmm (se_c λ_=>zai))) (zab (zcl (zab (zac 5) (zab (zcr (se_c λ_=>zai)) zal))) zal))))) (se_c λ_=>zar))) (zdz (se_c λ_=>zar)) zey)) (zdo (zes (zbp (zbb zia (zac 10) (zcl (zab (zqd (zab (zac 4) (zab (zcl (zab (zac 6) zal)) zal))) (zab (zqd (zab (zac 5) (zab (zcl (zab (zac 4) zal)) zal))) zal)))))) (zdo (zes (zjm (zaem (st_t (zbb zare (zbs (zab (zac 11) (zab (zac 5) (zab (zac 6) zal)))) (se_c λ_=>zar))) (st_t (zbb zaav (zbs (zab (zac 11) (zab (zac 4) zal))) (zcl (zab (zac 4) (zab (zac 5) zal)))))) (zdz (se_c λ_=>zar)) zey)) (zdo (zes (zjm (zaem (st_t (zbb zaav (zbs (zab (zac 11) (zab (zac 5) (zab (zac 6) zal)))) (zcl (zab (zac 5) (zab (zac 4) (zab (zac 6) zal)))))) (st_b (zauz (zbs (zab (zac 11) (zab (zac 6) (zab (zac 5) zal))))))) (zdz (se_c λ_=>zar)) zey)) (zaru (zadl (zab (zac 10) (zab (zac 6) (zab (zac 4) (zab (zac 5) (zab (zac 8) zal)))))))))))))))))))))))))) (zase (n:=10) e1) (zanw lc (λc h=>(p1 c h).1)) (λH2 s2=>k H2 (s1.trans s2))
end
theorem all_mk{l:PySem.W.OpenLaw}{w:World}{K:qB}{h:Heap}{mg:Str->Option Value}{fa f1 f2 f3 f4 f5 f6 f7 f8 f9 f10 f11 f12 f13 f14 f15 f16 f17 f18 f19 f20 f21:Addr}{e1 e2 e3 e4 e5 e6 e7 e8 e9 e10 e11 e12 e13 e14 e15 e16 e17 e18 e19 e20 e21:qk}(X:K.In h)(G:h.Ns qj mg)(hfa:mg "law"=some (.ref fa))
  (d1:DefIn K "are_unlike_of" zgt f1 e1)
  (d2:DefIn K "names_of" zof f2 e2)
  (d3:DefIn K "names_in" zog f3 e3)
  (d4:DefIn K "check_kinds" ziv f4 e4)
  (d5:DefIn K "roofs_of" zoh f5 e5)
  (d6:DefIn K "roof_of" zrm f6 e6)
  (d7:DefIn K "above" zabr f7 e7)
  (d8:DefIn K "beneath" zrn f8 e8)
  (d9:DefIn K "stands" zvz f9 e9)
  (d10:DefIn K "road" zaki f10 e10)
  (d11:DefIn K "hedge" zabs f11 e11)
  (d12:DefIn K "is_road" zrp f12 e12)
  (d13:DefIn K "is_hedge" zok f13 e13)
  (d14:DefIn K "_law_draws" zlw f14 e14)
  (d15:DefIn K "_law_names" zlx f15 e15)
  (d16:DefIn K "_law_web" zrt f16 e16)
  (d17:DefIn K "_law_arm" zru f17 e17)
  (d18:DefIn K "_law_told" zol f18 e18)
  (d19:DefIn K "_law_asks" zag f19 e19)
  (d20:DefIn K "_law_refused" ziw f20 e20)
  (d21:DefIn K "law" zafj f21 e21)
  {y0 y1 y2 y3 y4 y5 y6 fI:Addr}{eI:qk}
  (xa0:ClsIn K "NoKind" y0)
  (xa1:ClsIn K "NoBook" y1)
  (xa2:ClsIn K "NoCall" y2)
  (xa3:ClsIn K "NoFit" y3)
  (xa4:ClsIn K "NoRule" y4)
  (xa5:ClsIn K "NoWeb" y5)
  (xa6:ClsIn K "CallError" y6)
  (xz:qAR K qj "ValueError"=some none)
  (x0:XIn K y0 fI)
  (xF:Fun K "__init__" "CallError.__init__" (zaqa (top 1) 0) fI eI)
  (xs0_B:PySem.W.subIn K (.ref y0) (.ref y6)=some true)
  (xs0_1:PySem.W.subIn K (.ref y0) (.ref y1)=some false)
  (xs0_2:PySem.W.subIn K (.ref y0) (.ref y2)=some false)
  (xs0_3:PySem.W.subIn K (.ref y0) (.ref y3)=some false)
  (xs0_4:PySem.W.subIn K (.ref y0) (.ref y4)=some false)
  (xs0_5:PySem.W.subIn K (.ref y0) (.ref y5)=some false)
  (xBb:PySem.W.subIn K (.ref y6) (.type "BaseException")=some true)
  {cT PT:Addr}(hti:PySem.W.tabIn K "_law_asks"=some (cT,PT))
  (z1:qAR K qj "all"=some none)(z2:qAR K qj "dict"=some none)(z3:qAR K qj "enumerate"=some none)(z4:qAR K qj "isinstance"=some none)(z5:qAR K qj "len"=some none)(z6:qAR K qj "list"=some none)(z7:qAR K qj "min"=some none)(z8:qAR K qj "range"=some none)(z9:qAR K qj "set"=some none)(z10:qAR K qj "tuple"=some none) :
  ∃fd:qk,(∀(s:Shared)(v:Value),BindsTo s fd ⟨[v],[]⟩ [("_law_script",v)])/\∀base:Heap,K.In base->base.Ns qj mg->BM mg base->PySem.W.CodeHd base cT PT->FnOk l.prog w K mg base CX0 8 fa fd ["_law_script"] (zadm K PT (("_law_asks":Str)++".<locals>."++"<lambda>")):=by
 have e:=hfa.symm.trans (qAW X G d21.ns)
 cases e
 have T:Txt mg:=⟨qAJ X G z1,qAJ X G z2,qAJ X G z3,qAJ X G z4,qAJ X G z5,qAJ X G z6,qAJ X G z7,qAJ X G z8,qAJ X G z9,qAJ X G z10⟩
 obtain⟨_,_,q1,q2,q3,q4,q5,q6,_,rfl,_,_⟩:=d21.fn.ex
 refine⟨qAS "law" "law" (zep zafj) (zcy zafj) (zaj zafj) .none q1 q2 q3 q4 q5 q6,λs v=>.of_eq rfl,λbase _ _ hbm HC=>?_⟩
 have xv:=qAJ X G xz
 obtain⟨cl,cl0,cl1,cl2,cl3,cl4,cl5,cl6⟩:∃cl:Str->Addr,cl "NoKind"=y0/\cl "NoBook"=y1/\cl "NoCall"=y2/\cl "NoFit"=y3/\cl "NoRule"=y4/\cl "NoWeb"=y5/\cl "CallError"=y6:=⟨λs=>if s="NoKind"then y0 else if s="NoBook"then y1 else if s="NoCall"then y2 else if s="NoFit"then y3 else if s="NoRule"then y4 else if s="NoWeb"then y5 else if s="CallError"then y6 else 0,rfl,rfl,rfl,rfl,rfl,rfl,rfl⟩
 have X_NoKind:XcOk l.prog w K mg base "NoKind" (cl "NoKind"):=by rw[cl0];exact⟨fI,_,x0.mx,zaqi xF x0.mx xv rfl rfl (by decide) (λ_=>⟨_,rfl⟩),xF.binds (ps:=["self","at"]) (λ_ _ _ _ _ _ us hl=>match us,hl with|[_,_],_=>rfl),qAW X G xa0.ns,x0.cl,zavx x0.be xa0.cl xa0.ty x0.se⟩
 have XK_law_told:XKit l.prog w K mg base cl ["NoKind"] ["NoBook","NoCall","NoFit","NoKind","NoRule","NoWeb"] "CallError":=by
  refine⟨(zec X_NoKind ztr),?_,?_,?_,?_,?_,xv⟩
  ·rw[cl6];exact(zec (by rw[cl0];exact zavy xBb xa6.cl xa6.ty xs0_B) ztr)
  ·exact(zec (zec (by rw[cl0,cl1];exact kd_f (zyj x0.se xa1.cl xa1.ty xs0_1) (by decide)) (zec (by rw[cl0,cl2];exact kd_f (zyj x0.se xa2.cl xa2.ty xs0_2) (by decide)) (zec (by rw[cl0,cl3];exact kd_f (zyj x0.se xa3.cl xa3.ty xs0_3) (by decide)) (zec (by rw[cl0];exact kd_t (zavv xa0.cl xa0.ty x0.se) rfl) (zec (by rw[cl0,cl4];exact kd_f (zyj x0.se xa4.cl xa4.ty xs0_4) (by decide)) (zec (by rw[cl0,cl5];exact kd_f (zyj x0.se xa5.cl xa5.ty xs0_5) (by decide)) ztr)))))) ztr)
  ·exact(zec (by rw[cl0];exact zavw x0.ve) ztr)
  ·exact(zec (by rw[cl1];exact qAW X G xa1.ns) (zec (by rw[cl2];exact qAW X G xa2.ns) (zec (by rw[cl3];exact qAW X G xa3.ns) (zec (by rw[cl0];exact qAW X G xa0.ns) (zec (by rw[cl4];exact qAW X G xa4.ns) (zec (by rw[cl5];exact qAW X G xa5.ns) ztr))))))
  ·rw[cl6];exact qAW X G xa6.ns
 have D_are_unlike_of:zkq l.prog w K mg base:=d1.dn X G (zpi d1.fn T ) (d1.b2 λ_ _ _ _ _ _ _ _=>rfl)
 have D_names_of:zgi l.prog w K mg base:=d2.dn X G (zacb d2.fn T ) (d2.b1 λ_ _ _ _ _ _ _=>rfl)
 have D_names_in:zla l.prog w K mg base:=d3.dn X G (zacc d3.fn T ) (d3.b1 λ_ _ _ _ _ _ _=>rfl)
 have D_check_kinds:zcw l.prog w K mg base:=d4.dn X G (zsm d4.fn T D_names_of) (d4.b2 λ_ _ _ _ _ _ _ _=>rfl)
 have D_roofs_of:zii l.prog w K mg base:=d5.dn X G (zacd d5.fn T ) (d5.b1 λ_ _ _ _ _ _ _=>rfl)
 have D_roof_of:zzu l.prog w K mg base:=d6.dn X G (zafn d6.fn T D_names_in) (d6.b2 λ_ _ _ _ _ _ _ _=>rfl)
 have D_above:zakl l.prog w K mg base:=d7.dn X G (zann d7.fn T D_check_kinds D_names_in D_names_of D_roof_of D_roofs_of) (d7.b2 λ_ _ _ _ _ _ _ _=>rfl)
 have D_beneath:zzv l.prog w K mg base:=d8.dn X G (zafo d8.fn T D_check_kinds D_names_of D_roofs_of) (d8.b2 λ_ _ _ _ _ _ _ _=>rfl)
 have D_stands:zaea l.prog w K mg base:=d9.dn X G (zakn d9.fn T D_check_kinds D_roofs_of) (d9.b3 λ_ _ _ _ _ _ _ _ _=>rfl)
 have D_road:zapc l.prog w K mg base:=d10.dn X G (zasy d10.fn T D_check_kinds D_roofs_of) (d10.b3 λ_ _ _ _ _ _ _ _ _=>rfl)
 have D_hedge:zakm l.prog w K mg base:=d11.dn X G (zano d11.fn T D_above D_check_kinds) (d11.b3 λ_ _ _ _ _ _ _ _ _=>rfl)
 have D_is_road:zzw l.prog w K mg base:=d12.dn X G (zafp d12.fn T D_check_kinds) (d12.b4 λ_ _ _ _ _ _ _ _ _ _=>rfl)
 have D_is_hedge:zum l.prog w K mg base:=d13.dn X G (zace d13.fn T D_are_unlike_of D_check_kinds D_names_of) (d13.b4 λ_ _ _ _ _ _ _ _ _ _=>rfl)
 have D_law_draws:Dn l.prog w K mg base "_law_draws" ["_law_script","_law_many"] 1 (zacm K):=d14.dn X G (zaac d14.fn T ) (d14.b2 λ_ _ _ _ _ _ _ _=>rfl)
 have D_law_names:zry l.prog w K mg base:=d15.dn X G (zzz d15.fn T ) (d15.b2 λ_ _ _ _ _ _ _ _=>rfl)
 have D_law_web:zzx l.prog w K mg base:=d16.dn X G (zafq d16.fn T ) (d16.b2 λ_ _ _ _ _ _ _ _=>rfl)
 have D_law_arm:zzy l.prog w K mg base:=d17.dn X G (zafr d17.fn T ) (d17.b2 λ_ _ _ _ _ _ _ _=>rfl)
 have D_law_told:zun l.prog w K mg base cl:=d18.dt X G (zacf (cl:=cl) d18.fn T XK_law_told) (d18.b1 λ_ _ _ _ _ _ _=>rfl)
 have D_check_kinds__X:zbz l.prog w K mg base cl:=d4.dx X G (zon (cl:=cl) d4.fn T D_names_of X_NoKind) (d4.b2 λ_ _ _ _ _ _ _ _=>rfl)
 have D_above__X:zgj l.prog w K mg base cl:=d7.dx X G (zacg (cl:=cl) d7.fn T D_check_kinds__X D_names_in) (d7.b2 λ_ _ _ _ _ _ _ _=>rfl)
 have D_beneath__X:zfq l.prog w K mg base cl:=d8.dx X G (zwf (cl:=cl) d8.fn T D_check_kinds__X) (d8.b2 λ_ _ _ _ _ _ _ _=>rfl)
 have D_stands__X:zdu l.prog w K mg base cl:=d9.dx X G (zaaa (cl:=cl) d9.fn T D_check_kinds__X) (d9.b3 λ_ _ _ _ _ _ _ _ _=>rfl)
 have D_road__X:zfr l.prog w K mg base cl:=d10.dx X G (zafs (cl:=cl) d10.fn T D_check_kinds__X) (d10.b3 λ_ _ _ _ _ _ _ _ _=>rfl)
 have D_hedge__X:zen l.prog w K mg base cl:=d11.dx X G (zach (cl:=cl) d11.fn T D_check_kinds__X) (d11.b3 λ_ _ _ _ _ _ _ _ _=>rfl)
 have D_is_road__X:zdv l.prog w K mg base cl:=d12.dx X G (zwg (cl:=cl) d12.fn T D_check_kinds__X) (d12.b4 λ_ _ _ _ _ _ _ _ _ _=>rfl)
 have D_is_hedge__X:zcd l.prog w K mg base cl:=d13.dx X G (zsn (cl:=cl) d13.fn T D_check_kinds__X) (d13.b4 λ_ _ _ _ _ _ _ _ _ _=>rfl)
 have D_law_asks:zuo l.prog w K mg base PT cl:=d19.dn X G (zacj (cl:=cl) d19.fn T D_above__X D_beneath__X D_hedge__X D_is_hedge__X D_is_road__X D_road__X D_stands__X (d19.code X G hti) HC hbm) (d19.b5 λ_ _ _ _ _ _ _ _ _ _ _=>rfl)
 have D_law_refused:znc l.prog w K mg base PT:=d20.dn X G (ztc (cl:=cl) d20.fn T D_law_asks D_law_told D_above__X D_beneath__X D_hedge__X D_is_hedge__X D_is_road__X D_road__X D_stands__X) (d20.b5 λ_ _ _ _ _ _ _ _ _ _ _=>rfl)
 exact zaxb d21.fn T D_law_arm D_law_draws D_law_names D_law_refused D_law_web D_beneath D_hedge D_is_hedge D_is_road D_road D_stands
theorem tab_mk{K:qB}{x:Str}{f c P:Addr}{o o2:Value}{d d2:Option Addr}{fd:qk}{sl sl2:Array (Option Value)}{vs:Array Value}(h1:qAR K qj x=some (some (.ref f)))(h2:K.lookup f=some ⟨o,d,.func fd,sl⟩)(h3:fd.code=.ref c)(h4:K.lookup c=some ⟨o2,d2,.fields vs,sl2⟩)(h5:(vs[11]?:Option Value)=some (.ref P)):PySem.W.tabIn K x=some (c,P):=by
 unfold PySem.W.tabIn
 simp only[h1,h2,h3,h4,h5]
theorem walk{l:PySem.W.OpenLaw}{q:Program}{loose:List Str}{XP:(Str->Option Value)->Heap->Prop}{YP:World->Heap->Prop}{d dt:DefRec}{K:Params->qB}{cT PT:Addr}(hn:l.most=some 63)(hdf:d.params.defaults=[])
  (hY:∀(w:World) (h:Heap),YP w h->(K w.params).In h)
  (hrec:L2.recDef q "_law_asks" dt)(hti:∀w:World,PySem.W.tabIn (K w.params) "_law_asks"=some (cT,PT))(hnt:∀w:World,PySem.W.noTabs (K w.params)=true)
  (F:∀(w:World)(mg:Str->Option Value)(fa:Addr)(h:Heap),(K w.params).In h->h.Ns qj mg->mg d.name=some (.ref fa)->
   ∃fd:qk,(∀(s:Shared)(u:Value),BindsTo s fd ⟨[u],[]⟩ [("_law_script",u)])/\∀base:Heap,(K w.params).In base->base.Ns qj mg->BM mg base->PySem.W.CodeHd base cT PT->FnOk l.prog w (K w.params) mg base CX0 8 fa fd ["_law_script"] (zadm (K w.params) PT (("_law_asks":Str)++".<locals>."++"<lambda>"))) :
  PySem.W.WalkO q loose XP YP l.row.toRowW d [] (λf vs=>PySem.call f vs):=
 L2.walk_tab (n:=63) (k:=8) (x:="_law_script") hn (by decide) hdf ⟨rfl,by decide,by decide,rfl⟩ hY hrec hti hnt F
end Bc
theorem PySem.W.Fast.te2782400521085736600:True:=trivial
noncomputable def PySem.W.Fast.tw3079710012112507981:Program:=PySem.Challenge.pw_bestcalls_k04_no_such_kind
theorem PySem.W.Fast.te3079710012112507981:PySem.Challenge.pw_bestcalls_k04_no_such_kind=PySem.W.Fast.tw3079710012112507981:=rfl
open PySem PySem.W PyProof.Rows
set_option maxRecDepth 100000 in
set_option maxHeartbeats 0 in
theorem PySem.Challenge.cw_bestcalls_k04_no_such_kind_holds : PySem.Challenge.rw_bestcalls_k04_no_such_kind.Holds := by
 w_on;o_law;k_head;(case hw=>w_witness2)
 k_fill
 refine' Bc.walk (l:=PySem.Challenge.rw_bestcalls_k04_no_such_kind) rfl rfl (λw h Y=>PySem.W.km_in_of Y) ?hrec ?hti ?hnt ?F
 case hrec=>rfl
 case hti=>intro w;refine' Bc.tab_mk ?h1 ?h2 ?h3 ?h4 ?h5;(case h1=>k_is);(case h2=>k_is);(case h3=>rfl);(case h4=>k_is);(case h5=>rfl)
 case hnt=>intro w;kernel_rfl
 case F=>
  intro w mg fa h KX G hmg
  refine' Bc.all_mk KX G hmg ?_ ?_ ?_ ?_ ?_ ?_ ?_ ?_ ?_ ?_ ?_ ?_ ?_ ?_ ?_ ?_ ?_ ?_ ?_ ?_ ?_ ?_ ?_ ?_ ?_ ?_ ?_ ?_ ?_ ?_ ?_ ?_ ?_ ?_ ?_ ?_ ?_ ?_ ?hti ?_ ?_ ?_ ?_ ?_ ?_ ?_ ?_ ?_ ?_
  (case hti=>refine' Bc.tab_mk ?h1 ?h2 ?h3 ?h4 ?h5;(case h1=>k_is);(case h2=>k_is);(case h3=>rfl);(case h4=>k_is);(case h5=>rfl))
  any_goals (first|refine' L2.def_mk ?_ ?_ ?_ ?_|refine' L2.cls_mk ?_ ?_ ?_|refine' L2.xin_mk ?_ ?_ ?_ ?_ ?_ ?_ ?_ ?_ ?_ ?_ ?_ ?_ ?_|refine' L2.init_mk ?_ ?_ ?_)
  any_goals (first|k_is|rfl)
