import PyProof.Rows.All
import Wide.All
import OpenK.AllK
import Wide.FinOn
import Lean
import PyProof.EqAt
import PyProof.EqKinds
import PyProof.TupleCall
import KE.KRevSl
import PyProof.MeetsStr
import PyProof.Rows.MinMaxN
import KE.KTryOn
import PyProof.ExcInit
import PyProof.ExcClass3
import PyProof.ExcBaseAll.ValueError
import PyProof.InstStoreFacts
import ObjForm.Fk.InstStore
import PyProof.ExcArgsOwn
import PyProof.ExcAttrAll.ValueError
import PyProof.PureStr
import PyProof.FString2
import PyProof.Rows.FactsFmt
import PyProof.FactsAll.NoneType_2
import PyProof.NsDelKeeps
import PyProof.IsiBase
import PyProof.DictWalks
import PyProof.AutoListH
import PyProof.AutoSeq1
import PySem.Challenge.RW_bestcalls_k40_parted_by_the_first_call
set_option genSizeOf false
set_option Elab.async false
set_option linter.all false
set_option maxRecDepth 100000
noncomputable section
open Option renaming bind_eq_some_iff→qA,map_eq_some_iff→qG,bind_some→qI,map_some→qBA,isSome_some→qCy,isSome_map→qC4
open PySem.W renaming Frag→qC,keepIn→qN,nsIn→qQ,codeIn→qT,mg_of→qU,fnOf→qY,mg_none_of→qAH,kia_one→qAV,looks_findIn→qAY,cellsFrom_some→qBs,callWith_K→qB7,codeRec_of→qCs,kitx_list→qCw,kitx_dict→qCx
open PySem renaming wpAny_bind→qD,wpAny_pure→qJ,mainGlobals→qM,Expr→qO,sizeLine→qX,Pos→qd,wpAny_loadPart_at→qj,FuncData→qt,starEach→qAK,mem_of_lookup→qAN,wpAny_field→qAS,wpAny_isSubtype_exc→qAg,wpAny_callSpecial?_slot→qAj,wpAny_pyIter_tuple→qAo,wpAny_newObj_type→qAt,wpAny_truthy_bool→qA2,wpAny_pyIter_list→qA3,sizeLine_eq→qA9,wpAny_call_entry→qBC,wpAny_seqItems→qBD,wpAny_setField_rec→qBE,wpAny_passesOwn→qBG,wpAny_standAt→qBI,wpAny_mono→qBJ,codeAny_call_builtin→qBK,wpAny_setField→qBL,wpAny_loadPart'→qBR,wpAny_holding→qBS,wpAny_getItem_str_slice→qBT,wpAny_execs_nil→qBU,wpAny_Call_Name_kw→qBV,codeAny_mono→qBe,wpAny_onRaise→qB2,wpAny_pyReprObj_gives→qCD,post_val_or_str→qCE,call_meets→qCF,wpAny_updateSeq_pair→qCJ,tupleKind_room_in1→qCO,wpAny_rule→qCV,wpAny_call→qCW,wpAny_typeOf→qCY,wpAny_execs_cons→qCd,noFill_tuple_add→qCe,wpAny_newFunctionEnv_cells→qCr,wpAny_comprehension_free→qC2,typeIs_str→qC3
open List renaming length_map→qE,length_append→qH,size_toArray→qP,getElem?_eq_getElem→qS,getElem?_set_ne→qV,mem_cons_of_mem→qW,getElem?_eq_some_iff→qa,mem_cons→qc,mem_singleton→qe,map_cons→qf,map_append→qg,getD_eq_getElem?_getD→qi,mem_append_right→qk,mem_cons_self→qo,getElem?_map→qr,length_cons→qw,mem_append→qy,getElem?_append_right→qAA,mem_map→qAB,append_nil→qAC,length_range→qAE,mem_append_left→qAG,length_set→qAI,getElem?_set_self→qAJ,lookup_cons→qAM,getElem?_append_left→qAO,all_eq_true→qAP,contains_cons→qAQ,mem_filter→qAW,find?_cons→qAX,drop_eq_getElem_cons→qAa,replicate_succ→qAe,mem_range→qAm,map_map→qAn,take_of_length_le→qAs,nodup_cons→qAw,length_nil→qAx,flatten_cons→qAy,getElem?_cons_zero→qA0,any_cons→qA1,not_mem_nil→qA5,length_take→qA6,drop_length→qA7,any_eq_true→qA8,append_assoc→qBF,of_mem_zip→qBM,length_eq_zero_iff→qBN,getElem?_cons_succ→qBO,foldl_cons→qBP,length_filter_le→qBY,take_append_of_le_length→qBa,length_drop→qBb,mem_of_getElem?→qBc,all_cons→qBd,map_congr_left→qBf,any_map→qBj,nodup_append→qBp,foldl_append→qBq,flatMap_cons→qBr,getElem?_replicate→qBv,mem_flatMap→qBw,getElem_mem→qBx,length_replicate→qB0,getElem?_eq_none→qB1,filterMap_cons→qCC,zip_cons_cons→qCG,mem_filterMap→qCH,map_nil→qCK,cons_append→qCN,length_zip→qCR,forIn_cons→qCS,drop_zero→qCa,filter_cons_of_pos→qCi,filter_cons_of_neg→qCj,zipWith_cons_cons→qCp,drop_of_length_le→qCq,getElem_of_mem→qC6,getElem?_range→qC7,flatMap_append→qC8
open PySem.Heap renaming get?_push_of_some→qF,lt_size→qL,get?_push_size→qb,get?_update_other→qAT,get?_update_self→qAf,size_push→qAp,get?_none_of_le→qB6,get?_update_ne→qC9
open Nat renaming le_refl→qK,lt_of_lt_of_le→qh,ne_of_lt→qu,le_trans→qv,zero_le→qAr,lt_irrefl→qA4,lt_of_le_of_lt→qBB,le_succ_of_le→qBW,le_succ→qBX,ne_of_gt→qBZ,min_le_left→qBh,le_of_succ_le→qBu,min_eq_right→qBy,le_add_right→qBz,min_eq_left→qB3,le_of_lt→qB4,add_sub_cancel_left→qCo,sub_zero→qCz,lt_trans→qC0,pow_le_pow_right→qC5
open Bool renaming false_ne_true→qR,and_eq_true→qm,eq_iff_iff→qAh,or_true→qAu,true_or→qBk,false_eq_true→qBl,false_or→qCm,not_not→qCu,or_eq_true_iff→qDB
open Option.some renaming inj→qZ
open PySem.PyData renaming depthAll→qp,eqv→qz,canLayAll0→qAL,strOk→qAd
open PySem.SeqAt renaming shaped→qx,canLay_of_shaped→qAk
open PySem.Str renaming ofString→q9
open PySem.Builtin.SmallTypes renaming nextOf→qAD
open PySem.PassesOwn renaming never→qAF,leaving→qCn
open PySem.F renaming plainAttrs_list→qAR,type_list_append→qAb,slot_list_append→qAc,slot_tuple_iterator_next→qBH,excBase_ValueError→qBg,args_tuple_add_2→qBi,entry_tuple_add→qBo,slot_tuple_add→qBt,typeOf_object_class→qB8,slot_zip_next→qB9,store_ValueError→qCL,type_dict_update→qCP,slot_dict_update→qCQ,plainAttrs_dict→qCX,args_tuple_iterator_next_1→qCc,entry_tuple_iterator_next→qCh,slot_gs_get→qC1
open PyProof.Rows renaming slot_tuple_getitem→qAU,callWith_type1→qBQ
open PySem.Obj renaming data_mapFields→qAZ,isFreed_of_fields→qAv
open Array renaming getElem?_eq_some_iff→qAi,size_append→qAq,length_toList→qCA,mem_toList_iff→qCv
open Ne renaming symm→qAl
open Int renaming toNat_natCast→qAz,emod_lt_of_pos→qBm,emod_nonneg→qB5
open Sum.inr renaming inj→qBn
open PySem.Paired renaming length→qCB
open PySem.Code renaming quiet_builtin→qCI
open Classical renaming byContradiction→qCM
open PySem.Heap.SameBut renaming update→qCT
open PySem.Calls renaming Name_function_global→qCU,callWith_builtin→qCl,evalArgs_plain→qCt,Constant_str→qDA
open PySem.W.Looks renaming ld→qCZ
open PySem.Heap.IsTuple renaming push→qCb
open PySem.SeqAt.EqAt renaming str_int→qCf,int_str→qCg
open PySem.Heap.IsList renaming push→qCk
namespace L2
open PySem PySem.Spec PyProof.Rows
noncomputable abbrev Key:=Sum Int Str
noncomputable def zagd:Key->Value->Bool
 | .inl k,v=>Value.isInt k v
 | .inr x,v=>Value.isStrOf x v
noncomputable def keyH(w:World):Key->Int
 | .inl k=>hashInt k
 | .inr x=>hashStr w x
theorem zea:∀{k:Key}{v:Value},zagd k v=true->(∃i t,k=Sum.inl i/\v=Value.int i t)\/(∃x t,k=Sum.inr x/\v=Value.str x t)
 | .inl i,v,h=>by
  obtain⟨t,e⟩:=Value.isInt_shape (k:=i) (v:=v) h
  exact .inl ⟨i,t,rfl,e⟩
 | .inr x,v,h=>by
  obtain⟨t,e⟩:=Value.isStrOf_shape (x:=x) (v:=v) h
  exact .inr ⟨x,t,rfl,e⟩
theorem zahj(i:Int)(t:Tok):zagd (.inl i) (.int i t)=true:=by simp[zagd,Value.isInt]
theorem zahk(x:Str)(t:Tok):zagd (.inr x) (.str x t)=true:=by simp[zagd,Value.isStrOf]
theorem zatq(a b:Int):decide ((Sum.inl a:Key)=Sum.inl b)=(a==b):=by
 by_cases e:a=b
 ·subst e;simp
 ·have h:¬(Sum.inl a:Key)=Sum.inl b:=λq=>e (Sum.inl.inj q)
  rw[decide_eq_false h]
  exact(beq_eq_false_iff_ne.mpr e).symm
theorem zatr(a b:Str):decide ((Sum.inr a:Key)=Sum.inr b)=decide (a=b):=by
 by_cases e:a=b
 ·subst e;simp
 ·have h:¬(Sum.inr a:Key)=Sum.inr b:=λq=>e (qBn q)
  rw[decide_eq_false h,decide_eq_false e]
theorem zats(a:Int)(b:Str):decide ((Sum.inl a:Key)=Sum.inr b)=false:=decide_eq_false (λq=>nomatch q)
theorem zatt(a:Str)(b:Int):decide ((Sum.inr a:Key)=Sum.inl b)=false:=decide_eq_false (λq=>nomatch q)
noncomputable def zep(prog:Program)(w:World):PySem.KeyKind prog w Key where
 is:=zagd
 hash:=keyH w
 inj:=λv a b ha hb=>by
  rcases zea ha with⟨i,t,rfl,rfl⟩|⟨x,t,rfl,rfl⟩
  ·rcases zea hb with⟨j,u,rfl,e⟩|⟨y,u,rfl,e⟩
   ·injection e with e1 _;rw[e1]
   ·exact nomatch e
  ·rcases zea hb with⟨j,u,rfl,e⟩|⟨y,u,rfl,e⟩
   ·exact nomatch e
   ·injection e with e1 _;rw[e1]
 byValue:=λk v h=>by
  rcases zea h with⟨i,t,rfl,rfl⟩|⟨x,t,rfl,rfl⟩<;>rfl
 pyHash:=λhv h=>by
  rcases zea hv with⟨i,t,rfl,rfl⟩|⟨x,t,rfl,rfl⟩
  ·exact wpAny_pyHash_int h
  ·exact wpAny_pyHash_str h
 eqBool:=λhu hv h=>by
  rcases zea hu with⟨i,t,rfl,rfl⟩|⟨x,t,rfl,rfl⟩
  ·rcases zea hv with⟨j,u,rfl,rfl⟩|⟨y,u,rfl,rfl⟩
   ·rw[zatq]at h;exact wpAny_eqBool_int h
   ·rw[zats]at h;exact qCg i t y u _ _ _ _ h
  ·rcases zea hv with⟨j,u,rfl,rfl⟩|⟨y,u,rfl,rfl⟩
   ·rw[zatt]at h;exact qCf x t j u _ _ _ _ h
   ·rw[zatr]at h;exact wpAny_eqBool_str h
 «strs»:=λk x t v h=>by
  rcases zea h with⟨i,u,rfl,e⟩|⟨y,u,rfl,e⟩
  ·exact nomatch e
  ·injection e with e1 _
   subst e1
   cases v<;>rfl
theorem zabt(prog:Program)(w:World)(i:Int)(t:Tok):(zep prog w).is (.inl i) (.int i t)=true:=zahj i t
theorem zabu(prog:Program)(w:World)(x:Str)(t:Tok):(zep prog w).is (.inr x) (.str x t)=true:=zahk x t
inductive V where
 | non|bl (b:Bool)|int (i:Int)|str (x:Str)|byt (b:Array UInt8)|flt (b:UInt64)|ref (a:Addr)|ty (n:String)
 deriving DecidableEq
noncomputable def RelV:V->Value->Prop
 | .non,u=>u=Value.none
 | .bl b,u=>u=Value.bool b
 | .int i,u=>∃t,u=Value.int i t
 | .str x,u=>∃t,u=Value.str x t
 | .byt b,u=>∃t,u=Value.bytes b t
 | .flt b,u=>∃t,u=Value.float b t
 | .ref a,u=>u=Value.ref a
 | .ty n,u=>u=Value.type n
noncomputable abbrev Vals:List V->List Value->Prop:=Paired RelV
theorem Vals.length{xs:List V}{us:List Value}(r:Vals xs us):xs.length=us.length:=qCB r
theorem Vals.get:∀{xs:List V}{us:List Value}{i:Nat}{x:V},Vals xs us->xs[i]?=some x->∃u,us[i]?=some u/\RelV x u
 | _,_,_,_,.nil,e=>by simp at e
 | _,_,0,_,.cons r _,e=>by simp at e;subst e;exact⟨_,rfl,r⟩
 | _,_,i+1,x,.cons _ t,e=>by
  obtain⟨u,h1,h2⟩:=Vals.get (i:=i) (x:=x) t (by simpa using e)
  exact⟨u,by simpa using h1,h2⟩
theorem Vals.set{x:V}{u:Value}(r:RelV x u):∀{xs:List V}{us:List Value}(i:Nat),Vals xs us->Vals (xs.set i x) (us.set i u)
 | _,_,_,.nil=>.nil
 | _,_,0,.cons _ t=>.cons r t
 | _,_,i+1,.cons q t=>.cons q (Vals.set r i t)
theorem Vals.append:∀{xs ys:List V}{us ws:List Value},Vals xs us->Vals ys ws->Vals (xs++ys) (us++ws)
 | _,_,_,_,.nil,s=>s
 | _,_,_,_,.cons r t,s=>.cons r (Vals.append t s)
theorem Vals.take:∀{xs:List V}{us:List Value}(n:Nat),Vals xs us->Vals (xs.take n) (us.take n)
 | _,_,0,_=>.nil
 | _,_,_+1,.nil=>.nil
 | _,_,n+1,.cons r t=>.cons r (Vals.take n t)
theorem Vals.drop:∀{xs:List V}{us:List Value}(n:Nat),Vals xs us->Vals (xs.drop n) (us.drop n)
 | _,_,0,r=>r
 | _,_,_+1,.nil=>.nil
 | _,_,n+1,.cons _ t=>Vals.drop n t
noncomputable def RelO:Option V->Option Value->Prop
 | some v,some u=>RelV v u
 | none,none=>True
 | _,_=>False
noncomputable def KV{κ:Type}:List (κ×V)->List (κ×Value)->Prop:=Paired λ(p:κ×V)(q:κ×Value)=>p.1=q.1/\RelV p.2 q.2
noncomputable def kV:Key->V
 | .inl i=>.int i
 | .inr x=>.str x
inductive HO where
  | lst (xs:List V)
  | tup (xs:List V)
  | dK (kvs:List (Key×V))|dT (kvs:List (List Key×V))
  | set (S:Int->Bool) (n:Nat)
  | ins (C dx:Addr) (fs:List (Str×V))
  | own (x:Addr)
  | xd (fs:List (Str×V))
  | met (f x:Addr)
  | rng (lo hi:Int)
  | frz (o:Obj) (u:HO)
  | tbl (ps:Array Value)
  | ext (φ:Heap->Prop)
noncomputable abbrev Hp:=Addr->Option HO
noncomputable def upd(H:Hp)(a:Addr)(o:HO):Hp:=λb=>if b=a then some o else H b
theorem zau{H:Hp}{a:Addr}{o:HO}:upd H a o a=some o:=by unfold upd;rw[if_pos rfl]
theorem zav{H:Hp}{a b:Addr}{o:HO}(h:b≠a):upd H a o b=H b:=by unfold upd;rw[if_neg h]
theorem zaxs{H:Hp}{a b:Addr}{o u:HO}(h:H a=some o)(h':H b=some u)(d:o≠u):a≠b:=by
 intro e;subst e;rw[h]at h';exact d (qZ h')
theorem zbs{H:Hp}{a b:Addr}{o:HO}(h:H a=some o)(h':H b=none):a≠b:=by
 intro e;subst e;rw[h]at h';cases h'
section
variable(P:Program)(w:World)
noncomputable def zfd(H:Hp)(h:Heap)(a:Addr):HO->Prop
 | .lst xs=>xs.length<=qX/\∃(its:List Value)(n:Nat),Vals xs its/\h.get? a=some {cls:=.type "list",data:=.seq its.toArray n}
 | .tup xs=>xs.length<=qX/\∃its:List Value,Vals xs its/\IsTup h a its.toArray
 | .dK kvs=>kvs.length<=qX/\(a==sysModules)=false/\∃vs,KV kvs vs/\h.DictOf (zep P w) a vs
 | .dT kvs=>kvs.length<=qX/\(a==sysModules)=false/\∃xs:List (List Key×Addr×Value),
   Paired (λ(p:List Key×V)(q:List Key×Addr×Value)=>p.1=q.1/\H q.2.1=some (.tup (p.1.map kV))/\RelV p.2 q.2.2) kvs xs/\
   ∃o es ep,h.get? a=some o/\o.ExactDict/\o.data=.dict es ep/\es.toList=xs.map (entryOfKey (tupleKind (zep P w)))/\(xs.map (·.1)).Nodup
 | .set S n=>h.SetOf (intKind P w) a S n
 | .ins C dx fs=>H dx=some (.own a)/\fs.length<=1000/\dx≠a/\h.get? a=some (PySem.W.instObj C dx)/\
   ∃mA,h.Ns1 dx mA/\(∀f,RelO (fs.lookup f) (mA f))/\PySem.Within mA (fs.map (·.1))
 | .own _=>∃o,h.get? a=some o
 | .xd fs=>∃mA,h.Ns1 a mA/\∀f,RelO (fs.lookup f) (mA f)
 | .rng lo hi=>∃t u v,h.get? a=some {cls:=.type "range",data:=.fields #[.int lo t,.int hi u,.int 1 v]}
 | .frz o u=>h.get? a=some o/\zfd H h a u
 | .tbl ps=>h.get? a=some {cls:=.none,data:=.fields ps}
 | .met f x=>h.get? a=some (PySem.W.methodObj (.ref f) (.ref x))
 | .ext φ=>φ h/\(∃o,h.get? a=some o)/\∀h1 h2:Heap,φ h1->(∀o,h1.get? a=some o->h2.get? a=some o)->φ h2
noncomputable def HOk(H:Hp)(h:Heap):Prop:=∀a o,H a=some o->zfd P w H h a o
end
section
variable{P:Program}{w:World}{H H':Hp}{h h':Heap}{a:Addr}{o:HO}
theorem zfd.lt(x:zfd P w H h a o):a<h.objs.size:=by
 cases o with
 | lst xs=>obtain⟨_,_,_,_,e⟩:=x;exact qL e
 | tup xs=>obtain⟨_,_,_,p⟩:=x;exact p.lt
 | dK kvs=>obtain⟨_,_,_,_,o,_,_,e,_⟩:=x;exact qL e
 | dT kvs=>obtain⟨_,_,_,_,o,_,_,e,_⟩:=x;exact qL e
 | set S n=>obtain⟨o,_,_,_,e,_⟩:=x;exact qL e
 | ins C dx fs=>obtain⟨_,_,_,e,_⟩:=x;exact qL e
 | own y=>obtain⟨_,e⟩:=x;exact qL e
 | xd fs=>obtain⟨_,⟨_,_,_,e,_⟩,_⟩:=x;exact qL e
 | rng lo hi=>obtain⟨_,_,_,e⟩:=x;exact qL e
 | frz ob u=>obtain⟨e,_⟩:=x;exact qL e
 | tbl ps=>exact qL (show h.get? a=some _ from x)
 | met f y=>exact qL (show h.get? a=some _ from x)
 | ext φ=>obtain⟨_,⟨_,e⟩,_⟩:=x;exact qL e
theorem Paired.mapP{α β:Type}{F G:α->β->Prop}:∀{l₁:List α}{l₂:List β},Paired F l₁ l₂->(∀a b,F a b->G a b)->Paired G l₁ l₂
 | _,_,.nil,_=>.nil
 | _,_,.cons r t,f=>.cons (f _ _ r) (Paired.mapP t f)
theorem zfd.stay(x:zfd P w H h a o)(k:∀b u,(b=a\/H b=some (.own a))->h.get? b=some u->h'.get? b=some u)
  (ho:∀b,H b=some (.own a)->H' b=some (.own a))(ht:∀b xs,H b=some (.tup xs)->H' b=some (.tup xs)):zfd P w H' h' a o:=by
 induction o with
 | lst xs=>obtain⟨z,its,n,r,e⟩:=x;exact⟨z,its,n,r,k _ _ (.inl rfl) e⟩
 | tup xs=>obtain⟨z,its,r,ob,e,c⟩:=x;exact⟨z,its,r,ob,k _ _ (.inl rfl) e,c⟩
 | dK kvs=>obtain⟨z,y,vs,r,ob,es,ep,e,c⟩:=x;exact⟨z,y,vs,r,ob,es,ep,k _ _ (.inl rfl) e,c⟩
 | dT kvs=>
  obtain⟨z,y,xs,r,ob,es,ep,e,c⟩:=x
  exact⟨z,y,xs,Paired.mapP r λp q z=>⟨z.1,ht _ _ z.2.1,z.2.2⟩,ob,es,ep,k _ _ (.inl rfl) e,c⟩
 | set S n=>obtain⟨ob,es,ep,t,e,c⟩:=x;exact⟨ob,es,ep,t,k _ _ (.inl rfl) e,c⟩
 | ins C dx fs=>
  obtain⟨d,z,ne,e,mA,⟨od,es,ep,e2,c⟩,r⟩:=x
  exact⟨ho _ d,z,ne,k _ _ (.inl rfl) e,mA,⟨od,es,ep,k _ _ (.inr d) e2,c⟩,r⟩
 | own y=>obtain⟨ob,e⟩:=x;exact⟨ob,k _ _ (.inl rfl) e⟩
 | xd fs=>obtain⟨mA,⟨od,es,ep,e,c⟩,r⟩:=x;exact⟨mA,⟨od,es,ep,k _ _ (.inl rfl) e,c⟩,r⟩
 | rng lo hi=>obtain⟨t,u,v,e⟩:=x;exact⟨t,u,v,k _ _ (.inl rfl) e⟩
 | frz ob u ih=>obtain⟨e,q⟩:=x;exact⟨k _ _ (.inl rfl) e,ih q⟩
 | tbl ps=>
  have e:h.get? a=some {cls:=.none,data:=.fields ps}:=x
  show h'.get? a=some {cls:=.none,data:=.fields ps}
  exact k a _ (.inl rfl) e
 | met f y=>
  have e:h.get? a=some (PySem.W.methodObj (.ref f) (.ref y)):=x
  show h'.get? a=some (PySem.W.methodObj (.ref f) (.ref y))
  exact k a _ (.inl rfl) e
 | ext φ=>obtain⟨p,⟨o,e⟩,st⟩:=x;exact⟨st _ _ p λo q=>k _ _ (.inl rfl) q,⟨o,k _ _ (.inl rfl) e⟩,st⟩
theorem HOk.lt(x:HOk P w H h)(e:H a=some o):a<h.objs.size:=(x a o e).lt
theorem HOk.fresh(x:HOk P w H h)(e:h.objs.size<=a):H a=none:=by
 cases q:H a with
 | none=>rfl
 | some u=>exact absurd (qh (x.lt q) e) (qA4 _)
theorem HOk.kept(x:HOk P w H h)(k:∀b u,h.get? b=some u->h'.get? b=some u):HOk P w H h':=λa o e=>
 (x a o e).stay (λb u _ q=>k b u q) (λ_ q=>q) λ_ _ q=>q
theorem HOk.laid(x:HOk P w H h)(k:∀b u,h.get? b=some u->h'.get? b=some u)(hp:h.objs.size<=a)(new:zfd P w (upd H a o) h' a o):HOk P w (upd H a o) h':=λb u e=>by
 have hn:=x.fresh hp
 by_cases hb:b=a
 ·subst hb;rw[zau]at e;cases e;exact new
 ·rw[zav hb]at e
  exact(x b u e).stay (λc v _ q=>k c v q) (λc q=>by rw[zav (zbs q hn)];exact q) λc xs q=>by rw[zav (zbs q hn)];exact q
end
noncomputable def Rd(H:Hp)(a:Addr)(u:HO):Prop:=H a=some u\/∃o,H a=some (.frz o u)
theorem Rd.ok{P:Program}{w:World}{H:Hp}{h:Heap}{a:Addr}{u:HO}(r:Rd H a u)(x:HOk P w H h):zfd P w H h a u:=by
 rcases r with r|⟨o,r⟩
 ·exact x a u r
 ·obtain⟨_,q⟩:=x a _ r
  exact q
noncomputable def Mut:Option HO->Prop
 | some (.lst _)=>True
 | some (.dK _)=>True
 | some (.dT _)=>True
 | some (.set _ _)=>True
 | some (.ins _ _ _)=>True
 | some (.ext _)=>True
 | _=>False
section
variable{P:Program}{w:World}{H:Hp}{h h':Heap}{x e:Addr}{o':HO}
theorem HOk.write(ok:HOk P w H h)(mu:Mut (H x))(he:e=x\/H e=some (.own x))(k:∀b u,b≠e->h.get? b=some u->h'.get? b=some u)(heo:∃u,h'.get? e=some u)
  (new:zfd P w (upd H x o') h' x o'):HOk P w (upd H x o') h':=λb u q=>by
 have nown:∀c y,H c=some (.own y)->c≠x:=λc y r z=>by subst z;rw[r]at mu;exact mu
 have ntup:∀c xs,H c=some (.tup xs)->c≠x:=λc xs r z=>by subst z;rw[r]at mu;exact mu
 by_cases hb:b=x
 ·subst hb;rw[zau]at q;cases q;exact new
 ·rw[zav hb]at q
  by_cases hbe:b=e
  ·have q':H b=some (.own x):=by
    rcases he with z|z
    ·exact absurd (hbe.trans z) hb
    ·rw[hbe];exact z
   rw[q]at q';cases q'
   obtain⟨v,hv⟩:=heo
   exact⟨v,by rw[hbe];exact hv⟩
  ·refine(ok b u q).stay (λc v hc r=>k c v ?_ r) (λc r=>by rw[zav (nown c b r)];exact r) λc xs r=>by rw[zav (ntup c xs r)];exact r
   rcases hc with rfl|hc
   ·exact hbe
   ·rintro rfl
    rcases he with z|z
    ·exact nown c b hc z
    ·rw[hc]at z;cases z;exact hb rfl
end
set_option genInjectivity false in
structure Un(fs ex:List Addr)(H H':Hp)(h h':Heap):Prop where
 keep:∀b o,h.get? b=some o->H b=none->b∉fs->b∉ex->h'.get? b=some o
 slot:∀b o,h.get? b=some o->H b=none->b∈fs->b∉ex->∃sl,h'.get? b=some {o with slots:=sl}
 free:∀b o,h.get? b=some o->H b=none->b∉ex->H' b=none
 there:∀b o,h.get? b=some o->b∉ex->∃o',h'.get? b=some o'
 tups:∀b xs,H b=some (.tup xs)->H' b=some (.tup xs)
 frzs:∀b o u,H b=some (.frz o u)->H' b=some (.frz o u)
 tbls:∀b ps,H b=some (.tbl ps)->∃more,H' b=some (.tbl (ps++more))
section
variable{fs fs' ex ex':List Addr}{H H1 H2:Hp}{h h1 h2 h':Heap}{a x e:Addr}{o:HO}
theorem Un.any(u:Un fs ex H H1 h h1){b:Addr}{ob:Obj}(q:h.get? b=some ob)(n:H b=none)(hx:b∉ex):∃sl,h1.get? b=some {ob with slots:=sl}:=by
 by_cases hb:b∈fs
 ·exact u.slot b ob q n hb hx
 ·exact⟨ob.slots,u.keep b ob q n hb hx⟩
theorem Un.kept(k:∀b u,h.get? b=some u->h'.get? b=some u):Un fs ex H H h h':=
 ⟨λb ob q _ _ _=>k b ob q,λb ob q _ _ _=>⟨ob.slots,k b ob q⟩,λ_ _ _ n _=>n,λb ob q _=>⟨ob,k b ob q⟩,λ_ _ q=>q,λ_ _ _ q=>q,λ_ ps q=>⟨#[],by rw[q];simp⟩⟩
theorem Un.refl:Un fs ex H H h h:=Un.kept λ_ _ q=>q
theorem Un.laid(k:∀b u,h.get? b=some u->h'.get? b=some u)(hp:h.objs.size<=a)(hn:H a=none):Un fs ex H (upd H a o) h h' where
 keep:=λb u q _ _ _=>k b u q
 slot:=λb u q _ _ _=>⟨u.slots,k b u q⟩
 free:=λb u q n _=>by rw[zav (qu (qh (qL q) hp))];exact n
 there:=λb u q _=>⟨u,k b u q⟩
 tups:=λb xs q=>by rw[zav (zbs q hn)];exact q
 frzs:=λb u xs q=>by rw[zav (zbs q hn)];exact q
 tbls:=λb ps q=>⟨#[],by rw[zav (zbs q hn),q];simp⟩
theorem Un.write(mu:Mut (H x))(he:e=x\/H e=some (.own x))(k:∀b u,b≠e->h.get? b=some u->h'.get? b=some u)(heo:∃u,h'.get? e=some u):Un fs ex H (upd H x o) h h':=by
 have hx:∀b,H b=none->b≠x:=λb n z=>by subst z;rw[n]at mu;exact mu
 have hb:∀b,H b=none->b≠e:=λb n z=>by
  subst z
  rcases he with r|r
  ·exact hx b n r
  ·rw[n]at r;cases r
 have hm:∀b u,H b=some u->¬Mut (some u)->b≠x:=λb u q nm z=>by subst z;rw[q]at mu;exact nm mu
 refine⟨λb u q n _ _=>k b u (hb b n) q,λb u q n _ _=>⟨u.slots,k b u (hb b n) q⟩,λb u q n _=>by rw[zav (hx b n)];exact n,λb u q _=>?_,
  λb xs q=>by rw[zav (hm b _ q λz=>z)];exact q,λb u xs q=>by rw[zav (hm b _ q λz=>z)];exact q,λb ps q=>⟨#[],by rw[zav (hm b _ q λz=>z),q];simp⟩⟩
 by_cases hbe:b=e
 ·subst hbe;exact heo
 ·exact⟨u,k b u hbe q⟩
end
noncomputable def trk(h:Heap)(H:Hp):List Addr:=(List.range h.objs.size).filter λa=>(H a).isSome
noncomputable def hidT(h:Heap)(H:Hp):Heap:=PySem.W.hideAll h (trk h H)
theorem zahl(h:Heap)(H:Hp):(hidT h H).objs.size=h.objs.size:=PySem.W.hideAll_size _ _
theorem zals{h:Heap}{H:Hp}{b:Addr}{o:Obj}(e:h.get? b=some o)(n:H b=none):(hidT h H).get? b=some o:=
 PySem.W.hideAll_get _ e λhm=>by
  have q:(H b).isSome=true:=(qAW.mp hm).2
  rw[n]at q;simp at q
theorem zaqh{h:Heap}{H:Hp}{b:Addr}{o:Obj}(e:(hidT h H).get? b=some o):h.get? b=some o/\H b=none:=by
 have e':h.get? b=some o:=PySem.W.of_hideAll (trk h H) e
 refine⟨e',?_⟩
 cases q:H b with
 | none=>rfl
 | some x=>
  have hm:b∈trk h H:=qAW.mpr ⟨qAm.mpr (qL e'),by simp[q]⟩
  have z:(hidT h H).get? b=none:=PySem.W.hideAll_none (trk h H) hm
  rw[z]at e;cases e
set_option genInjectivity false in
structure Mod(K:qC)(mg:Str->Option Value)(base:Heap):Prop where
 kin:K.In base
 glob:base.Ns qM mg
 blt:∃mb,base.Ns builtinsNs mb/\∀x:Str,x≠"__name__"->mb x=bootBuiltins x
 nolimit:base.NoLimit
set_option genInjectivity false in
structure Cx where
 prog:Program
 w:World
 K:qC
 mg:Str->Option Value
 base:Heap
 A:Around
 N:List Str
 s₀:Shared
 H₀:Hp
 env:Env
 outer:List Env
 stack:List Env
 ex:List Addr
 fn:Str->Bool
 calm:Bool
 pn:List (Addr×Obj)
 xe:Value->Shared->Prop
noncomputable def frs(l:List Env):List Addr:=l.filterMap (·.frame)
noncomputable abbrev Cx.fs(X:Cx):List Addr:=frs X.outer
noncomputable def Vis(sc:Scope)(x:Str):Prop:=sc.names.lookup x=some .local\/sc.names.lookup x=some .cell\/sc.names.lookup x=some .free
noncomputable def visB(sc:Scope)(x:Str):Bool:=match sc.names.lookup x with
 | some .local=>true
 | some .cell=>true
 | some .free=>true
 | _=>false
theorem visB.of{sc:Scope}{x:Str}(h:visB sc x=true):Vis sc x:=by
 unfold visB at h
 cases e:sc.names.lookup x with
 | none=>rw[e]at h;cases h
 | some k=>rw[e]at h;cases k<;>first|exact .inl e|exact .inr (.inl e)|exact .inr (.inr e)|cases h
noncomputable def Loc(sc:Scope)(x:Str):Prop:=sc.names.lookup x=some .local\/sc.names.lookup x=some .cell
noncomputable def Look(env:Env)(h:Heap)(m:Str->Option Value)(x:Str)(u:Value):Prop:=
 (env.kindOf x=some .local/\m x=some u)\/((env.kindOf x=some .cell\/env.kindOf x=some .free)/\∃c,env.cells.lookup x=some c/\h.IsCell c (some u))
set_option genInjectivity false in
structure Cx.Ok(X:Cx):Prop where
 mod:Mod X.K X.mg X.base
 kind:X.env.scope.kind=.function
 glob:X.env.globals=qM
 blt:X.env.builtins=builtinsNs
 above:X.s₀.heap.objs.size<=X.env.locals
 inj:∀x y c,X.env.cells.lookup x=some c->X.env.cells.lookup y=some c->x=y
 has:∀x,(X.env.kindOf x=some .cell\/X.env.kindOf x=some .free)->∃c,X.env.cells.lookup x=some c
 cab:∀x c,X.fn x=true->X.env.cells.lookup x=some c->X.s₀.heap.objs.size<=c
 hd:X.calm=true->X.A.handled=none
 frames:X.A.frames=some X.stack
 stk:X.stack=X.outer\/(X.stack=X.env::X.outer/\X.env.frame=some X.env.locals)
 exf:∀b∈X.ex,b≠X.env.locals/\∀x c,X.env.cells.lookup x=some c->c≠b
 bs:∀b o,X.base.get? b=some o->X.s₀.heap.get? b=some o/\X.H₀ b=none
 bsz:X.base.objs.size<=X.s₀.heap.objs.size
 noex:∀b o,X.base.get? b=some o->b∉X.ex
 exfs:∀b∈X.ex,b∉X.fs
 funs:X.s₀.heap.FunFrames X.base X.outer
 frf:∀b∈X.fs,X.H₀ b=none
set_option genInjectivity false in
structure Inv(X:Cx)(pins:List (Addr×Obj))(σ:List (Option V))(H:Hp)(s:Shared):Prop where
 ok:X.Ok
 os:s.os=X.s₀.os
 bare:AllBare s.gens
 base:Un X.fs X.ex X.H₀ H X.s₀.heap s.heap
 loc:∃m,s.heap.Ns X.env.locals m/\∀(i:Nat)(x:Str)(v:V),X.N[i]?=some x->σ[i]?=some (some v)->Vis X.env.scope x->∃u,RelV v u/\Look X.env s.heap m x u
 cell:∀x c,X.env.cells.lookup x=some c->∃v,s.heap.IsCell c v
 free:H X.env.locals=none
 freeC:∀x c,X.env.cells.lookup x=some c->H c=none
 pin:∀p∈X.pn++pins,s.heap.get? p.1=some p.2/\H p.1=none/\p.1≠X.env.locals/\p.1∉X.fs/\∀v,p.2.data≠.cell v
 hok:HOk X.prog X.w H s.heap
 len:σ.length=X.N.length
section
variable{X:Cx}{pins:List (Addr×Obj)}{σ:List (Option V)}{H H':Hp}{s:Shared}{h':Heap}
theorem Cx.Ok.nofr(ok:X.Ok){b:Addr}{o:Obj}(e:X.base.get? b=some o):b∉X.fs:=λhb=>by
 have:=(ok.funs.mem hb).1
 rw[e]at this;cases this
theorem Inv.bs(I:Inv X pins σ H s):∀b o,X.base.get? b=some o->s.heap.get? b=some o/\H b=none:=λb o e=>
 ⟨I.base.keep b o (I.ok.bs b o e).1 (I.ok.bs b o e).2 (I.ok.nofr e) (I.ok.noex b o e),I.base.free b o (I.ok.bs b o e).1 (I.ok.bs b o e).2 (I.ok.noex b o e)⟩
theorem Inv.bk(I:Inv X pins σ H s):∀b o,X.base.get? b=some o->s.heap.get? b=some o:=λb o e=>(I.bs b o e).1
theorem Inv.mod(I:Inv X pins σ H s):Mod X.K X.mg X.base:=I.ok.mod
theorem Inv.kIn(I:Inv X pins σ H s):X.K.In s.heap:=I.ok.mod.kin.keeps I.bk
theorem Inv.fr(I:Inv X pins σ H s):∃m,Fr X.base X.env.locals s.heap m:=
 let⟨m,hn,_⟩:=I.loc
 ⟨m,hn,I.bk,qv I.ok.bsz I.ok.above⟩
theorem Inv.lt(I:Inv X pins σ H s):X.env.locals<s.heap.objs.size:=let⟨_,hn,_⟩:=I.loc;hn.lt
theorem Inv.sz(I:Inv X pins σ H s):X.s₀.heap.objs.size<=s.heap.objs.size:=qv I.ok.above (qB4 I.lt)
theorem Inv.nofs(I:Inv X pins σ H s){a:Addr}(h:s.heap.objs.size<=a):a∉X.fs:=λhb=>by
 obtain⟨_,o,ho,_⟩:=I.ok.funs.mem hb
 exact absurd (qh (qL ho) (qv I.sz h)) (qA4 _)
theorem Inv.cne(I:Inv X pins σ H s):∀x c,X.env.cells.lookup x=some c->c≠X.env.locals:=λx c e z=>by
 obtain⟨v,o,ho,hd⟩:=I.cell x c e
 obtain⟨m,⟨o',es,ep,ho',hd',_⟩,_⟩:=I.loc
 rw[z,ho']at ho;cases ho;rw[hd']at hd;cases hd
theorem Inv.funs(I:Inv X pins σ H s):s.heap.FunFrames X.base X.outer:=by
 have all:∀(l:List Env),(∀b∈frs l,b∈X.fs)->X.s₀.heap.FunFrames X.base l->s.heap.FunFrames X.base l:=by
  intro l
  induction l with
  | nil=>intro _ _;trivial
  | cons env r ih=>
   intro hs hl
   obtain⟨hk,⟨L,o,hf,hn,ho,hd⟩,hr⟩:=hl
   have hL:L∈X.fs:=hs L (by unfold frs;rw[qCC,hf];exact qo)
   obtain⟨sl,e⟩:=I.base.slot L o ho (I.ok.frf L hL) hL λz=>I.ok.exfs L z hL
   exact⟨hk,⟨L,_,hf,hn,e,hd⟩,ih (λb hb=>hs b (by unfold frs;rw[qCC,hf];exact qW _ hb)) hr⟩
 exact all X.outer (λ_ hb=>hb) I.ok.funs
theorem Inv.stack(I:Inv X pins σ H s):s.heap.FunFrames X.base X.stack:=by
 rcases I.ok.stk with e|⟨e,hf⟩
 ·rw[e];exact I.funs
 ·rw[e]
  obtain⟨m,hn,_⟩:=I.loc
  refine .cons (by rw[I.ok.kind];decide) hf hn ?_ I.funs
  exact qB6 (qv I.ok.bsz I.ok.above)
theorem Inv.stkSub(I:Inv X pins σ H s):∀b∈frs X.stack,b∈X.env.locals::X.fs:=λb hb=>by
 rcases I.ok.stk with e|⟨e,hf⟩
 ·rw[e]at hb;exact qW _ hb
 ·rw[e]at hb
  unfold frs at hb
  rw[qCC,hf]at hb
  exact hb
theorem Inv.stkFree(I:Inv X pins σ H s):∀b∈frs X.stack,H b=none:=λb hb=>by
 rcases qc.mp (I.stkSub b hb)with e|hb
 ·rw[e];exact I.free
 ·obtain⟨_,o,ho,_⟩:=I.ok.funs.mem hb
  exact I.base.free b o ho (I.ok.frf b hb) λz=>I.ok.exfs b z hb
theorem Inv.step{g':Array GenState}{t':Nat}{d':Drawn}{ch:List Addr}(I:Inv X pins σ H s)
  (hch:∀b∈ch,(b∈X.ex\/X.s₀.heap.objs.size<=b)/\b≠X.env.locals/\(∀x c,X.env.cells.lookup x=some c->c≠b)/\∀p∈X.pn++pins,p.1≠b)
  (keep:∀b o,b≠X.env.locals->b∉X.fs->b∉ch->s.heap.get? b=some o->H b=none->h'.get? b=some o)
  (slot:∀b o,b≠X.env.locals->b∈X.fs->b∉ch->s.heap.get? b=some o->H b=none->∃sl,h'.get? b=some {o with slots:=sl}) (free:∀b o,b∉ch->s.heap.get? b=some o->H b=none->H' b=none)
  (there:∀b o,b∉ch->s.heap.get? b=some o->∃o',h'.get? b=some o')
  (tups:∀b xs,H b=some (.tup xs)->H' b=some (.tup xs))(frzs:∀b o u,H b=some (.frz o u)->H' b=some (.frz o u))(tbls:∀b ps,H b=some (.tbl ps)->∃more,H' b=some (.tbl (ps++more)))
  (ns:∀m,s.heap.Ns X.env.locals m->h'.Ns X.env.locals m)(hok:HOk X.prog X.w H' h')(hg:AllBare g') :
  Inv X pins σ H' {s with heap:=h',gens:=g',drawn:=d',toks:=t'}:=by
 have neL:∀b o,X.s₀.heap.get? b=some o->b≠X.env.locals:=λb o e=>qu (qh (qL e) I.ok.above)
 have neC:∀b o,X.s₀.heap.get? b=some o->b∉X.ex->b∉ch:=λb o e hx hb=>by
  rcases(hch b hb).1 with z|z
  ·exact hx z
  ·exact absurd (qh (qL e) z) (qA4 _)
 have cellK:∀x c,X.env.cells.lookup x=some c->∀v,s.heap.IsCell c v->h'.IsCell c v:=λx c e v ⟨o,ho,hd⟩=>by
  have nch:c∉ch:=λz=>(hch c z).2.2.1 x c e rfl
  by_cases hc:c∈X.fs
  ·obtain⟨sl,q⟩:=slot c o (I.cne x c e) hc nch ho (I.freeC x c e)
   exact⟨_,q,hd⟩
  ·exact⟨o,keep c o (I.cne x c e) hc nch ho (I.freeC x c e),hd⟩
 refine⟨I.ok,I.os,hg,⟨λb o e n hb hx=>?_,λb o e n hb hx=>?_,λb o e n hx=>?_,λb o e hx=>?_,λb xs e=>tups b xs (I.base.tups b xs e),λb o xs e=>frzs b o xs (I.base.frzs b o xs e),λb ps e=>?_⟩,?_,λx c e=>?_,?_,λx c e=>?_,λp hp=>?_,hok,I.len⟩
 ·exact keep b o (neL b o e) hb (neC b o e hx) (I.base.keep b o e n hb hx) (I.base.free b o e n hx)
 ·obtain⟨sl,e1⟩:=I.base.slot b o e n hb hx
  obtain⟨sl',e2⟩:=slot b _ (neL b o e) hb (neC b o e hx) e1 (I.base.free b o e n hx)
  exact⟨sl',e2⟩
 ·obtain⟨o',e1⟩:=I.base.there b o e hx
  exact free b o' (neC b o e hx) e1 (I.base.free b o e n hx)
 ·obtain⟨o',e1⟩:=I.base.there b o e hx
  exact there b o' (neC b o e hx) e1
 ·obtain⟨m1,e1⟩:=I.base.tbls b ps e
  obtain⟨m2,e2⟩:=tbls b _ e1
  exact⟨m1++m2,by rw[e2,Array.append_assoc]⟩
 ·obtain⟨m,hn,hl⟩:=I.loc
  refine⟨m,ns m hn,λi x v e1 e2 e3=>?_⟩
  obtain⟨u,r,l⟩:=hl i x v e1 e2 e3
  refine⟨u,r,?_⟩
  rcases l with l|⟨k,c,e,z⟩
  ·exact .inl l
  ·exact .inr ⟨k,c,e,cellK x c e _ z⟩
 ·obtain⟨v,z⟩:=I.cell x c e
  exact⟨v,cellK x c e v z⟩
 ·obtain⟨m,⟨o,_,_,ho,_⟩,_⟩:=I.loc
  exact free _ o (λz=>(hch _ z).2.1 rfl) ho I.free
 ·obtain⟨v,o,ho,hd⟩:=I.cell x c e
  exact free c o (λz=>(hch c z).2.2.1 x c e rfl) ho (I.freeC x c e)
 ·obtain⟨e,n,ne,nf,d⟩:=I.pin p hp
  have nch:p.1∉ch:=λz=>(hch p.1 z).2.2.2 p hp rfl
  exact⟨keep p.1 p.2 ne nf nch e n,free p.1 p.2 nch e n,ne,nf,d⟩
theorem Inv.un{t':Nat}(I:Inv X pins σ H s)(u:Un X.fs [] H H' s.heap h')(hok:HOk X.prog X.w H' h'):Inv X pins σ H' {s with heap:=h',toks:=t'}:=by
 obtain⟨m,⟨o,es,ep,ho,r⟩,_⟩:=id I.loc
 obtain⟨sl,hL⟩:=u.any ho I.free (by simp)
 exact I.step (g':=s.gens) (d':=s.drawn) (ch:=[]) (λ_ z=>nomatch z) (λb o _ hb _ e n=>u.keep b o e n hb (by simp)) (λb o _ hb _ e n=>u.slot b o e n hb (by simp)) (λb o _ e n=>u.free b o e n (by simp)) (λb o _ e=>u.there b o e (by simp)) u.tups u.frzs u.tbls (λm' hm=>by
  obtain⟨o',es',ep',ho',r'⟩:=hm
  rw[ho]at ho';cases ho'
  exact⟨_,es',ep',hL,r'⟩) hok I.bare
theorem Inv.call{g':Array GenState}{t':Nat}{d':Drawn}{ch:List Addr}(I:Inv X pins σ H s)(u:Un (frs X.stack) ch H H' s.heap h')(hok:HOk X.prog X.w H' h')(hg:AllBare g')
  (hch:∀b∈ch,(b∈X.ex\/X.s₀.heap.objs.size<=b)/\b≠X.env.locals/\(∀x c,X.env.cells.lookup x=some c->c≠b)/\∀p∈X.pn++pins,p.1≠b) :
  Inv X pins σ H' {s with heap:=h',gens:=g',drawn:=d',toks:=t'}:=by
 obtain⟨m,⟨o,es,ep,ho,r⟩,_⟩:=id I.loc
 obtain⟨sl,hL⟩:=u.any ho I.free λz=>(hch _ z).2.1 rfl
 exact I.step (ch:=ch) hch (λb o hL hb hc e n=>u.keep b o e n (λz=>(qc.mp (I.stkSub b z)).elim hL hb) hc) (λb o _ _ hc e n=>u.any e n hc) (λb o hc e n=>u.free b o e n hc) (λb o hc e=>u.there b o e hc) u.tups u.frzs u.tbls (λm' hm=>by
  obtain⟨o',es',ep',ho',r'⟩:=hm
  rw[ho]at ho';cases ho'
  exact⟨_,es',ep',hL,r'⟩) hok hg
theorem Inv.turned{t':Nat}{it:Addr}(I:Inv X pins σ H s)(k:∀b o,b≠it->s.heap.get? b=some o->h'.get? b=some o)(hn:H it=none)(hL:it≠X.env.locals)
  (h1:it∈X.ex\/X.s₀.heap.objs.size<=it) (h2:∀x c,X.env.cells.lookup x=some c->c≠it) (h3:∀p∈X.pn++pins,p.1≠it):Inv X pins σ H {s with heap:=h',toks:=t'}:=by
 have nit:∀b u,H b=some u->b≠it:=λb u e z=>by rw[z,hn]at e;cases e
 refine I.step (g':=s.gens) (d':=s.drawn) (ch:=[it]) (λb hb=>?_) (λb o _ _ hc e _=>k b o (λz=>hc (by simp[z])) e) (λb o _ _ hc e _=>⟨o.slots,k b o (λz=>hc (by simp[z])) e⟩) (λ_ _ _ _ n=>n)
  (λb o hc e=>⟨o,k b o (λz=>hc (by simp[z])) e⟩) (λ_ _ e=>e) (λ_ _ _ e=>e) (λb ps e=>⟨#[],by rw[e];simp⟩) (λm hm=>?_) (λb u e=>?_) I.bare
 ·have e:b=it:=by simpa using hb
  subst e
  exact⟨h1,hL,h2,h3⟩
 ·obtain⟨o,es,ep,ho,r⟩:=hm
  exact⟨o,es,ep,k _ o (qAl hL) ho,r⟩
 ·refine(I.hok b u e).stay (λc v hc q=>k c v ?_ q) (λ_ q=>q) λ_ _ q=>q
  rcases hc with z|z
  ·rw[z];exact nit b u e
  ·exact nit c _ z
theorem Inv.tok(I:Inv X pins σ H s)(t:Nat):Inv X pins σ H {s with toks:=t}:=I.un (h':=s.heap) (t':=t) Un.refl I.hok
theorem Inv.kept{t':Nat}(I:Inv X pins σ H s)(k:∀b u,s.heap.get? b=some u->h'.get? b=some u):Inv X pins σ H {s with heap:=h',toks:=t'}:=I.un (Un.kept k) (I.hok.kept k)
theorem Inv.laid{a:Addr}{o:HO}{t':Nat}(I:Inv X pins σ H s)(k:∀b u,s.heap.get? b=some u->h'.get? b=some u)(hp:s.heap.objs.size<=a)(new:zfd X.prog X.w (upd H a o) h' a o) :
  Inv X pins σ (upd H a o) {s with heap:=h',toks:=t'}:=I.un (Un.laid k hp (I.hok.fresh hp)) (I.hok.laid k hp new)
theorem Inv.write{x e:Addr}{o:HO}{t':Nat}(I:Inv X pins σ H s)(mu:Mut (H x))(he:e=x\/H e=some (.own x))(k:∀b u,b≠e->s.heap.get? b=some u->h'.get? b=some u)(heo:∃u,h'.get? e=some u)
  (new:zfd X.prog X.w (upd H x o) h' x o):Inv X pins σ (upd H x o) {s with heap:=h',toks:=t'}:=I.un (Un.write mu he k heo) (I.hok.write mu he k heo new)
theorem Inv.pins_of{pins':List (Addr×Obj)}(I:Inv X pins σ H s)(h:∀p∈pins',s.heap.get? p.1=some p.2/\H p.1=none/\p.1≠X.env.locals/\p.1∉X.fs/\∀v,p.2.data≠.cell v):Inv X pins' σ H s:=
 ⟨I.ok,I.os,I.bare,I.base,I.loc,I.cell,I.free,I.freeC,λp hp=>(qy.mp hp).elim (λz=>I.pin p (qAG _ z)) (h p),I.hok,I.len⟩
theorem zws{N:List Str}(hN:N.Nodup){i j:Nat}{x:Str}(a:N[i]?=some x)(b:N[j]?=some x):i=j:=by
 obtain⟨h1,e1⟩:=qa.mp a
 obtain⟨h2,e2⟩:=qa.mp b
 exact(List.getElem_inj hN).mp (e1.trans e2.symm)
theorem zyt{M:Model}{A:Around}{E:Value->Shared->Prop}{i:Nat}{x:Str}{v:V}{u:Value}{Q:Unit->Shared->Prop}(I:Inv X pins σ H s)(hN:X.N.Nodup)(hi:X.N[i]?=some x)(hx:Loc X.env.scope x)(r:RelV v u)
  (h:∀s',Inv X pins (σ.set i (some v)) H s'->(∃a,Heap.SameBut a s.heap s'.heap/\(a=X.env.locals\/X.env.cells.lookup x=some a))->Q () s') (hf:X.fn x=true\/X.env.scope.names.lookup x=some .local:=by assumption):wpAny M A (storeName X.env x u) Q E s:=by
 obtain⟨m,hn,hl⟩:=id I.loc
 have hcls:(X.env.scope.kind==.class||(X.env.scope.kind==.module&&X.env.locals != X.env.globals))=false:=by rw[I.ok.kind];rfl
 have hiσ:i<σ.length:=by rw[I.len];exact(qa.mp hi).1
 have cne:=I.cne
 have tracked:∀{a:Addr}{h':Heap},(∃o,s.heap.get? a=some o/\H a=none)->Heap.SameBut a s.heap h'->HOk X.prog X.w H h':=λ{a h'} ha hs b ob e=>by
  obtain⟨_,_,hfree⟩:=ha
  refine(I.hok b ob e).stay (λc w' hc q=>(hs.2 c ?_).trans q) (λ_ q=>q) λ_ _ q=>q
  rintro rfl
  rcases hc with rfl|hc
  ·rw[hfree]at e;cases e
  ·rw[hfree]at hc;cases hc
 rcases hx with hk|hk
 ·refine wpAny_storeName_local hk hn (λh' hn' hs=>?_) hcls
  obtain⟨oL,_,_,hoL,_⟩:=id hn
  refine h _ ⟨I.ok,I.os,I.bare,⟨λb o e n hb hx=>?_,λb o e n hb hx=>?_,I.base.free,λb o e hx=>?_,I.base.tups,I.base.frzs,I.base.tbls⟩,⟨_,hn',λj y v' e1 e2 e3=>?_⟩,λy c e=>?_,I.free,I.freeC,λp hp=>?_,tracked ⟨oL,hoL,I.free⟩ hs,by simpa using I.len⟩ ⟨_,hs,.inl rfl⟩
  ·exact(hs.2 b (qu (qh (qL e) I.ok.above))).trans (I.base.keep b o e n hb hx)
  ·obtain⟨sl,e1⟩:=I.base.slot b o e n hb hx
   exact⟨sl,(hs.2 b (qu (qh (qL e) I.ok.above))).trans e1⟩
  ·obtain⟨o',e1⟩:=I.base.there b o e hx
   exact⟨o',(hs.2 b (qu (qh (qL e) I.ok.above))).trans e1⟩
  ·by_cases hj:j=i
   ·subst hj
    rw[hi]at e1;cases e1
    rw[qAJ hiσ]at e2
    cases e2
    exact⟨u,r,.inl ⟨hk,by simp⟩⟩
   ·rw[qV (qAl hj)]at e2
    obtain⟨u',r',q⟩:=hl j y v' e1 e2 e3
    refine⟨u',r',?_⟩
    rcases q with⟨k,e⟩|⟨k,c,e,z⟩
    ·refine .inl ⟨k,?_⟩
     have:y≠x:=λe=>hj (zws hN e1 (e▸hi))
     simp[this,e]
    ·exact .inr ⟨k,c,e,z.sameBut hs (cne y c e)⟩
  ·obtain⟨w',z⟩:=I.cell y c e
   exact⟨w',z.sameBut hs (cne y c e)⟩
  ·obtain⟨e,n,ne,nf,d⟩:=I.pin p hp
   exact⟨(hs.2 p.1 ne).trans e,n,ne,nf,d⟩
 ·have hfn:X.fn x=true:=by
   rcases hf with z|z
   ·exact z
   ·rw[z]at hk;cases hk
  obtain⟨c,hc⟩:=I.ok.has x (.inl hk)
  obtain⟨w',z⟩:=I.cell x c hc
  refine wpAny_storeName_cell I.ok.kind hk hc z (λh' hc' hs=>?_)
  obtain⟨oc,hoc,hocd⟩:=id z
  refine h {s with heap:=h'} ⟨I.ok,I.os,I.bare,⟨λb o e n hb hx=>?_,λb o e n hb hx=>?_,I.base.free,λb o e hx=>?_,I.base.tups,I.base.frzs,I.base.tbls⟩,⟨m,hn.sameBut hs (qAl (cne x c hc)),λj y v' e1 e2 e3=>?_⟩,λy c' e=>?_,I.free,I.freeC,λp hp=>?_,tracked ⟨oc,hoc,I.freeC x c hc⟩ hs,by simpa using I.len⟩ ⟨c,hs,.inr hc⟩
  ·exact(hs.2 b (qu (qh (qL e) (I.ok.cab x c hfn hc)))).trans (I.base.keep b o e n hb hx)
  ·obtain⟨sl,e1⟩:=I.base.slot b o e n hb hx
   exact⟨sl,(hs.2 b (qu (qh (qL e) (I.ok.cab x c hfn hc)))).trans e1⟩
  ·obtain⟨o',e1⟩:=I.base.there b o e hx
   exact⟨o',(hs.2 b (qu (qh (qL e) (I.ok.cab x c hfn hc)))).trans e1⟩
  ·by_cases hj:j=i
   ·subst hj
    rw[hi]at e1;cases e1
    rw[qAJ hiσ]at e2
    cases e2
    exact⟨u,r,.inr ⟨.inl hk,c,hc,hc'⟩⟩
   ·rw[qV (qAl hj)]at e2
    obtain⟨u',r',q⟩:=hl j y v' e1 e2 e3
    refine⟨u',r',?_⟩
    rcases q with q|⟨k,c',e,z'⟩
    ·exact .inl q
    ·refine .inr ⟨k,c',e,z'.sameBut hs ?_⟩
     rintro rfl
     exact hj (zws hN e1 (I.ok.inj _ _ _ e hc▸hi))
  ·by_cases hcc:c'=c
   ·subst hcc;exact⟨_,hc'⟩
   ·obtain⟨w2,z2⟩:=I.cell y c' e
    exact⟨w2,z2.sameBut hs hcc⟩
  ·obtain⟨e,n,ne,nf,d⟩:=I.pin p hp
   refine⟨(hs.2 p.1 ?_).trans e,n,ne,nf,d⟩
   intro q
   rw[q,hoc]at e
   have q':oc=p.2:=qZ e
   exact d w' (by rw[<- q'];exact hocd)
theorem zwt{M:Model}{A:Around}{E:Value->Shared->Prop}{i:Nat}{x:Str}{v:V}{u:Value}{Q:Unit->Shared->Prop}(I:Inv X pins σ H s)(hN:X.N.Nodup)(hi:X.N[i]?=some x)(hx:Loc X.env.scope x)(r:RelV v u)
  (h:∀s',Inv X pins (σ.set i (some v)) H s'->Q () s') (hf:X.fn x=true\/X.env.scope.names.lookup x=some .local:=by assumption):wpAny M A (storeName X.env x u) Q E s:=
 zyt I hN hi hx r (λs' I' _=>h s' I') hf
theorem Inv.call'{s':Shared}{ch:List Addr}(I:Inv X pins σ H s)(ho:s'.os=s.os)(u:Un (frs X.stack) ch H H' s.heap s'.heap)(hok:HOk X.prog X.w H' s'.heap)(hg:AllBare s'.gens)
  (hch:∀b∈ch,(b∈X.ex\/X.s₀.heap.objs.size<=b)/\b≠X.env.locals/\(∀x c,X.env.cells.lookup x=some c->c≠b)/\∀p∈X.pn++pins,p.1≠b):Inv X pins σ H' s':=by
 obtain⟨h',g',d',t',o'⟩:=s'
 have e:o'=s.os:=ho
 subst e
 exact I.call (g':=g') (t':=t') (d':=d') u hok hg hch
end
noncomputable abbrev XK:=Value->Option Addr->Hp->Prop
noncomputable abbrev St:=List (Option V)
noncomputable abbrev VK:=V->Hp->Prop
noncomputable abbrev TE:=St->Hp->VK->Prop
noncomputable abbrev TT:=St->Hp->(Bool->Hp->Prop)->Prop
noncomputable abbrev TA:=St->Hp->(List V->Hp->Prop)->Prop
set_option genInjectivity false in
structure Ends where
 nx:St->Hp->Prop
 rt:VK
 bk:St->Hp->Prop:=λ_ _=>False
 ct:St->Hp->Prop:=λ_ _=>False
noncomputable abbrev TS:=Ends->St->Hp->Prop
noncomputable def EP(X:Cx)(pins:List (Addr×Obj))(σ:St)(Q:VK)(u:Value)(s':Shared):Prop:=∃v H',Inv X pins σ H' s'/\RelV v u/\Q v H'
noncomputable def TP(X:Cx)(pins:List (Addr×Obj))(σ:St)(Q:Bool->Hp->Prop)(b:Bool)(s':Shared):Prop:=∃H',Inv X pins σ H' s'/\Q b H'
noncomputable def AP(X:Cx)(pins:List (Addr×Obj))(σ:St)(Q:List V->Hp->Prop)(us:List Value)(s':Shared):Prop:=∃vs H',Inv X pins σ H' s'/\Vals vs us/\Q vs H'
noncomputable def SP(X:Cx)(pins:List (Addr×Obj))(D:Ends)(f:Flow)(s':Shared):Prop:=
 match f with
 | .next=>∃σ' H',Inv X pins σ' H' s'/\D.nx σ' H'
 | .brk=>∃σ' H',Inv X pins σ' H' s'/\D.bk σ' H'
 | .cont=>∃σ' H',Inv X pins σ' H' s'/\D.ct σ' H'
 | .ret u=>∃v σ' H',Inv X pins σ' H' s'/\RelV v u/\D.rt v H'
noncomputable def PE(X:Cx)(e:Expr)(t:TE):Prop:=
 ∀(pins:List (Addr×Obj))(s:Shared)(σ:St)(H:Hp)(Q:VK),Inv X pins σ H s->t σ H Q->wpAny (model X.prog X.w) X.A (eval e X.env) (EP X pins σ Q) X.xe s
noncomputable def PT(X:Cx)(e:Expr)(t:TT):Prop:=
 ∀(pins:List (Addr×Obj))(s:Shared)(σ:St)(H:Hp)(Q:Bool->Hp->Prop),Inv X pins σ H s->t σ H Q->wpAny (model X.prog X.w) X.A (isTrue e X.env (eval e X.env)) (TP X pins σ Q) X.xe s
noncomputable def PW(X:Cx)(e:Expr)(t:TT):Prop:=
 ∀(whole:Sem Value)(pins:List (Addr×Obj))(s:Shared)(σ:St)(H:Hp)(Q:Bool->Hp->Prop),Inv X pins σ H s->t σ H Q->wpAny (model X.prog X.w) X.A (isTrue e X.env whole) (TP X pins σ Q) X.xe s
theorem PW.pt{X:Cx}{e:Expr}{t:TT}(h:PW X e t):PT X e t:=h _
noncomputable def PA(X:Cx)(es:List Expr)(t:TA):Prop:=
 ∀(pos:Pos)(pins:List (Addr×Obj))(s:Shared)(σ:St)(H:Hp)(Q:List V->Hp->Prop),Inv X pins σ H s->t σ H Q->wpAny (model X.prog X.w) X.A (spliced (backTo pos (starEach es X.env))) (AP X pins σ Q) X.xe s
noncomputable def PS(X:Cx)(st:Stmt)(t:TS):Prop:=
 ∀(pins:List (Addr×Obj))(s:Shared)(σ:St)(H:Hp)(D:Ends),Inv X pins σ H s->t D σ H->wpAny (model X.prog X.w) X.A (exec st X.env) (SP X pins D) X.xe s
noncomputable def PSs(X:Cx)(st:List Stmt)(t:TS):Prop:=
 ∀(pins:List (Addr×Obj))(s:Shared)(σ:St)(H:Hp)(D:Ends),Inv X pins σ H s->t D σ H->wpAny (model X.prog X.w) X.A (execs st X.env) (SP X pins D) X.xe s
theorem thn{α:Type}{t:Sem α}{Q Q':α->Shared->Prop}{M:Model}{A:Around}{E:Value->Shared->Prop}{s:Shared}(h:wpAny M A t Q E s)(hQ:∀a s,Q a s->Q' a s):wpAny M A t Q' E s:=qBJ h hQ λ_ _ x=>x
section
variable{X:Cx}
theorem bin{a b:Expr}{ta tb:TE}(ha:PE X a ta)(hb:PE X b tb){pins:List (Addr×Obj)}{s:Shared}{σ:St}{H:Hp}{R:V->V->Hp->Prop}(I:Inv X pins σ H s)(h:ta σ H λx H1=>tb σ H1 λy H2=>R x y H2)
  {α:Type}{Q:α->Shared->Prop}{f:Value->Value->Sem α}
  (hf:∀v u s2 x y H2,Inv X pins σ H2 s2->RelV x v->RelV y u->R x y H2->wpAny (model X.prog X.w) X.A (f v u) Q X.xe s2) :
  wpAny (model X.prog X.w) X.A (eval a X.env) (λv s₁=>wpAny (model X.prog X.w) X.A (eval b X.env) (λu s₂=>wpAny (model X.prog X.w) X.A (f v u) Q X.xe s₂) X.xe s₁) X.xe s:=by
 refine thn (ha pins s σ H _ I h) λv s1 ⟨x,H1,I1,r1,q1⟩=>?_
 refine thn (hb pins s1 σ H1 _ I1 q1) λu s2 ⟨y,H2,I2,r2,q2⟩=>?_
 exact hf v u s2 x y H2 I2 r1 r2 q2
noncomputable def tVar(i:Nat):TE:=λσ H Q=>∃v,σ[i]?=some (some v)/\Q v H
noncomputable def tC(v:V):TE:=λ_ H Q=>Q v H
theorem zaph{i:Nat}{x:Str}{pos:Pos}(hN:X.N[i]?=some x)(hv:Vis X.env.scope x)(hd:(x==("__debug__":Str))=false:=by decide)(hcd:(x==("__classdict__":Str))=false:=by decide):PE X (.Name x pos) (tVar i):=by
 intro pins s σ H Q I h
 obtain⟨v,e,h⟩:=h
 obtain⟨m,hn,hl⟩:=I.loc
 obtain⟨u,r,l⟩:=hl i x v hN e hv
 have fin:EP X pins σ Q u s:=⟨v,H,I,r,h⟩
 rcases l with⟨hk,hm⟩|⟨hk,c,hc,hcell⟩
 ·exact wpAny_Name (wpAny_loadName_local I.ok.kind hk hn hm fin) hd
 ·rcases hk with hk|hk
  ·exact wpAny_Name (wpAny_loadName_cell I.ok.kind hk hc hcell fin) hd
  ·exact wpAny_Name (wpAny_loadName_free I.ok.kind hk hc hcell fin hcd) hd
theorem zatu{i j pos}:PE X (.Constant (.int i) j pos) (tC (.int i)):=λ_ _ _ H _ I h=>wpAny_Constant_int ⟨.int i,H,I.tok _,⟨_,rfl⟩,h⟩
theorem zaxt{b j pos}:PE X (.Constant (.bool b) j pos) (tC (.bl b)):=λ_ _ _ H _ I h=>Constant_bool ⟨.bl b,H,I,rfl,h⟩
theorem zatv{j pos}:PE X (.Constant .none j pos) (tC .non):=λ_ _ _ H _ I h=>Constant_none ⟨.non,H,I,rfl,h⟩
theorem zatw{x j pos}:PE X (.Constant (.str x) j pos) (tC (.str x)):=λ_ _ _ H _ I h=>qDA ⟨.str x,H,I.tok _,⟨_,rfl⟩,h⟩
noncomputable def Gl(X:Cx)(x:Str):Prop:=X.env.kindOf x=some .globalImplicit
theorem zrx{E:Value->Shared->Prop}{pins:List (Addr×Obj)}{s:Shared}{σ:St}{H:Hp}{x:Str}{u:Value}{pos:Pos}{Q:Value->Shared->Prop}(I:Inv X pins σ H s)(hg:Gl X x)(hm:X.mg x=some u)(h:Q u s)
  (hd:(x==("__debug__":Str))=false:=by decide):wpAny (model X.prog X.w) X.A (eval (.Name x pos) X.env) Q E s:=
 qCU I.ok.kind hg (Calls.loadGlobal_global (by rw[I.ok.glob];exact I.mod.glob.keeps I.bk) hm h) hd
theorem zry{E:Value->Shared->Prop}{pins:List (Addr×Obj)}{s:Shared}{σ:St}{H:Hp}{x:Str}{u:Value}{pos:Pos}{Q:Value->Shared->Prop}(I:Inv X pins σ H s)(hg:Gl X x)(hm:X.mg x=none)(hv:bootBuiltins x=some u)(h:Q u s)
  (hn:x≠"__name__":=by decide) (hd:(x==("__debug__":Str))=false:=by decide):wpAny (model X.prog X.w) X.A (eval (.Name x pos) X.env) Q E s:=by
 obtain⟨mb,h1,h2⟩:=I.mod.blt
 exact qCU I.ok.kind hg (Calls.loadGlobal_builtin (by rw[I.ok.glob];exact I.mod.glob.keeps I.bk) hm (by rw[I.ok.blt];exact h1.keeps I.bk) ((h2 x hn).trans hv) h) hd
theorem zaqi{x:Str}{v:V}{u:Value}{pos:Pos}(hg:Gl X x)(hm:X.mg x=none)(hv:bootBuiltins x=some u)(r:RelV v u)(hn:x≠"__name__":=by decide)(hd:(x==("__debug__":Str))=false:=by decide):PE X (.Name x pos) (tC v):=
 λ_ _ _ H _ I h=>zry I hg hm hv ⟨v,H,I,r,h⟩ hn hd
variable{a b:Expr}{ta tb:TE}{pos:Pos}
noncomputable def PC(X:Cx)(op:CmpOp)(a b:Expr)(t:TE):Prop:=
 ∀(pins:List (Addr×Obj))(s:Shared)(σ:St)(H:Hp)(Q:VK),Inv X pins σ H s->t σ H Q->
  wpAny (model X.prog X.w) X.A (eval a X.env) (λv s₁=>wpAny (model X.prog X.w) X.A (eval b X.env) (λu s₂=>wpAny (model X.prog X.w) X.A (compareOp op v u) (EP X pins σ Q) X.xe s₂) X.xe s₁) X.xe s
theorem zaej(b:Expr){op:CmpOp}(h:op≠.In)(h2:op≠.NotIn):behindInMarks op b=false:=by
 have e1:(op==CmpOp.In)=false:=by cases op<;>first|rfl|exact absurd rfl h
 have e2:(op==CmpOp.NotIn)=false:=by cases op<;>first|rfl|exact absurd rfl h2
 cases b<;>simp[behindInMarks,e1,e2]
noncomputable def tIsN(ta:TE):TE:=λσ H Q=>ta σ H λx H1=>Q (.bl (decide (x=.non))) H1
theorem RelV.none_iff{x:V}{v:Value}(r:RelV x v):(v==Value.none)=decide (x=.non):=by
 cases x with
 | non=>cases r;rfl
 | bl _=>cases r;rfl
 | int _=>obtain⟨t,rfl⟩:=r;rfl
 | str _=>obtain⟨t,rfl⟩:=r;rfl
 | byt _=>obtain⟨t,rfl⟩:=r;rfl
 | flt _=>obtain⟨t,rfl⟩:=r;rfl
 | ref _=>cases r;rfl
 | ty _=>cases r;rfl
theorem zatx{j pos'}(ha:PE X a ta):PC X .Is a (.Constant .none j pos') (tIsN ta):=by
 intro pins s σ H Q I h
 refine thn (ha pins s σ H _ I h) λv s1 ⟨x,H1,I1,r1,q1⟩=>?_
 exact Constant_none (is_none_gen ⟨.bl _,H1,I1,by rw[r1.none_iff];rfl,q1⟩)
noncomputable def tB(t:TE):TT:=λσ H Q=>t σ H λx H1=>∃c,x=.bl c/\Q c H1
theorem zaty{op:CmpOp}{t:TE}(h:PC X op a b t)(h1:behindInMarks op b=false:=by rfl):PE X (.Compare a [op] [b] pos) t:=λpins s σ H Q I hw=>wpAny_Compare1 (h pins s σ H Q I hw) h1
theorem zatz{op:CmpOp}{t:TE}(h:PC X op a b t)(h1:behindInMarks op b=false:=by rfl):PT X (.Compare a [op] [b] pos) (tB t):=by
 intro pins s σ H Q I hw
 refine wpAny_isTrue_Compare1 (thn (h pins s σ H _ I hw) λv s1 h1=>thn h1 λu s2 h2=>thn h2 λc s3 ⟨x,H1,I1,r1,q1⟩=>?_) h1
 obtain⟨d,rfl,q⟩:=q1
 cases r1
 exact qA2 ⟨H1,I1,q⟩
variable{tA tB':TT}{rest:List Expr}
noncomputable def tAnd(t u:TT):TT:=λσ H Q=>t σ H λc H1=>if c=true then u σ H1 Q else Q false H1
noncomputable def tOr(t u:TT):TT:=λσ H Q=>t σ H λc H1=>if c=true then Q true H1 else u σ H1 Q
noncomputable def tNot(t:TT):TT:=λσ H Q=>t σ H λc H1=>Q (!c) H1
theorem zaqj(ha:PT X a tA):PW X (.BoolOp .And [a] pos) tA:=by
 intro wh pins s σ H Q I h
 refine isTrue_and (thn (ha pins s σ H Q I h) λc s1 e=>?_)
 cases c with
 | true=>exact isTrue_and_nil e
 | false=>exact e
theorem zaua(ha:PT X a tA):PW X (.BoolOp .Or [a] pos) tA:=by
 intro wh pins s σ H Q I h
 refine isTrue_or (thn (ha pins s σ H Q I h) λc s1 e=>?_)
 cases c with
 | false=>exact isTrue_or_nil e
 | true=>exact e
theorem zaub(ha:PT X a tA)(hb:PW X (.BoolOp .And (b::rest) pos) tB'):PW X (.BoolOp .And (a::b::rest) pos) (tAnd tA tB'):=by
 intro wh pins s σ H Q I h
 refine isTrue_and (thn (ha pins s σ H _ I h) λc s1 ⟨H1,I1,q1⟩=>?_)
 cases c with
 | true=>exact hb wh pins s1 σ H1 Q I1 q1
 | false=>exact⟨H1,I1,q1⟩
theorem zaxu(ha:PT X a tA)(hb:PW X (.BoolOp .Or (b::rest) pos) tB'):PW X (.BoolOp .Or (a::b::rest) pos) (tOr tA tB'):=by
 intro wh pins s σ H Q I h
 refine isTrue_or (thn (ha pins s σ H _ I h) λc s1 ⟨H1,I1,q1⟩=>?_)
 cases c with
 | true=>exact⟨H1,I1,q1⟩
 | false=>exact hb wh pins s1 σ H1 Q I1 q1
theorem zauc(ha:PT X a tA):PT X (.UnaryOp .Not a pos) (tNot tA):=by
 intro pins s σ H Q I h
 exact isTrue_not (ha pins s σ H (λc H1=>Q (!c) H1) I h)
noncomputable def tAndV(ta tb:TE):TE:=λσ H Q=>ta σ H λx H1=>∃c,x=.bl c/\if c=true then tb σ H1 Q else Q (.bl false) H1
noncomputable def tNotV(ta:TE):TE:=λσ H Q=>ta σ H λx H1=>∃c,x=.bl c/\Q (.bl (!c)) H1
theorem zaud{op}{t:TE}(h:PE X a t):PE X (.BoolOp op [a] pos) t:=λpins s σ H Q I hw=>BoolOp_one (h pins s σ H Q I hw)
theorem zaue(ha:PE X a ta)(hb:PE X (.BoolOp .And (b::rest) pos) tb):PE X (.BoolOp .And (a::b::rest) pos) (tAndV ta tb):=by
 intro pins s σ H Q I h
 refine BoolOp_and (thn (ha pins s σ H _ I h) λv s1 ⟨x,H1,I1,r1,q1⟩=>?_)
 obtain⟨c,rfl,q1⟩:=q1
 cases r1
 refine qA2 ?_
 cases c with
 | true=>exact hb pins s1 σ H1 Q I1 q1
 | false=>exact⟨.bl false,H1,I1,rfl,q1⟩
theorem zauf(ha:PE X a ta):PE X (.UnaryOp .Not a pos) (tNotV ta):=by
 intro pins s σ H Q I h
 refine UnaryOp_ (thn (ha pins s σ H _ I h) λv s1 ⟨x,H1,I1,r1,q1⟩=>?_)
 obtain⟨c,rfl,q1⟩:=q1
 cases r1
 exact not_of (qA2 ⟨.bl (!c),H1,I1,rfl,q1⟩)
end
noncomputable def SqL(K:qC)(H:Hp)(a:Addr)(xs:List V):Prop:=
 Rd H a (.lst xs)\/
  ∃(o:Obj)(its:Array Value)(n:Nat),K.lookup a=some o/\o.cls=.type "list"/\o.dict=none/\o.data=.seq its n/\its.size<=qX/\Vals xs its.toList
noncomputable def SqT(K:qC)(H:Hp)(a:Addr)(xs:List V):Prop:=
 Rd H a (.tup xs)\/
  ∃(o:Obj)(its:Array Value)(n:Nat),K.lookup a=some o/\o.cls=.type "tuple"/\o.data=.seq its n/\its.size<=qX/\Vals xs its.toList
noncomputable def absV:Value->Option V
 | .none=>some .non
 | .bool b=>some (.bl b)
 | .int i _=>some (.int i)
 | .str x _=>some (.str x)
 | .bytes b _=>some (.byt b)
 | .float b _=>some (.flt b)
 | .ref a=>some (.ref a)
 | .type n=>some (.ty n)
 | _=>none
theorem RelV.abs{x:V}{u:Value}(r:RelV x u):absV u=some x:=by
 cases x with
 | non=>cases r;rfl
 | bl _=>cases r;rfl
 | int _=>obtain⟨t,rfl⟩:=r;rfl
 | str _=>obtain⟨t,rfl⟩:=r;rfl
 | byt _=>obtain⟨t,rfl⟩:=r;rfl
 | flt _=>obtain⟨t,rfl⟩:=r;rfl
 | ref _=>cases r;rfl
 | ty _=>cases r;rfl
theorem RelV.inj{x y:V}{u:Value}(r:RelV x u)(q:RelV y u):x=y:=qZ (r.abs.symm.trans q.abs)
theorem Vals.inj:∀{xs ys:List V}{us:List Value},Vals xs us->Vals ys us->xs=ys
 | _,_,_,.nil,.nil=>rfl
 | _,_,_,.cons r t,.cons r' t'=>by rw[r.inj r',Vals.inj t t']
section
variable{X:Cx}{pins:List (Addr×Obj)}{σ:St}{H:Hp}{s:Shared}{a:Addr}{xs ys:List V}
theorem SqL.of{K:qC}(h:H a=some (.lst xs)):SqL K H a xs:=.inl (.inl h)
theorem SqT.of{K:qC}(h:H a=some (.tup xs)):SqT K H a xs:=.inl (.inl h)
theorem Inv.list(I:Inv X pins σ H s)(h:SqL X.K H a xs):∃its:List Value,Vals xs its/\PlainL s.heap a its.toArray/\xs.length<=qX:=by
 rcases h with h|⟨o,its,n,hk,hc,hd,hs,hz,r⟩
 ·obtain⟨z,its,n,r,e⟩:=h.ok I.hok
  exact⟨its,r,⟨_,n,e,rfl,rfl,rfl⟩,z⟩
 ·refine⟨its.toList,r,⟨o,n,I.kIn a o hk,hc,hd,by simpa using hs⟩,?_⟩
  have e:=r.length
  simp only[qCA]at e
  omega
theorem Inv.tuple(I:Inv X pins σ H s)(h:SqT X.K H a xs):∃its:List Value,Vals xs its/\IsTup s.heap a its.toArray/\xs.length<=qX:=by
 rcases h with h|⟨o,its,n,hk,hc,hs,hz,r⟩
 ·obtain⟨z,its,r,p⟩:=h.ok I.hok
  exact⟨its,r,p,z⟩
 ·refine⟨its.toList,r,⟨o,I.kIn a o hk,hc,n,by simpa using hs⟩,?_⟩
  have e:=r.length
  simp only[qCA]at e
  omega
theorem Inv.list_inj(I:Inv X pins σ H s)(h:SqL X.K H a xs)(h':SqL X.K H a ys):xs=ys:=by
 obtain⟨its,r,⟨o,n,e,_,_,d⟩,_⟩:=I.list h
 obtain⟨its',r',⟨o',n',e',_,_,d'⟩,_⟩:=I.list h'
 rw[e]at e';cases e'
 rw[d]at d'
 injection d' with d1 _
 have:its=its':=by simpa using congrArg Array.toList d1
 subst this
 exact r.inj r'
theorem Inv.tuple_inj(I:Inv X pins σ H s)(h:SqT X.K H a xs)(h':SqT X.K H a ys):xs=ys:=by
 obtain⟨its,r,⟨o,e,_,n,d⟩,_⟩:=I.tuple h
 obtain⟨its',r',⟨o',e',_,n',d'⟩,_⟩:=I.tuple h'
 rw[e]at e';cases e'
 rw[d]at d'
 injection d' with d1 _
 have:its=its':=by simpa using congrArg Array.toList d1
 subst this
 exact r.inj r'
end
noncomputable abbrev Cx.wish(X:Cx)(E:Value->Shared->Prop):Cx:={X with xe:=E}
noncomputable abbrev Cx.nox(X:Cx):Cx:=X.wish λ_ _=>False
theorem Cx.Ok.wish{X:Cx}(ok:X.Ok)(E:Value->Shared->Prop):(X.wish E).Ok:=
 ⟨ok.mod,ok.kind,ok.glob,ok.blt,ok.above,ok.inj,ok.has,ok.cab,ok.hd,ok.frames,ok.stk,ok.exf,ok.bs,ok.bsz,ok.noex,ok.exfs,ok.funs,ok.frf⟩
theorem Cx.Ok.unwish{X:Cx}{E:Value->Shared->Prop}(ok:(X.wish E).Ok):X.Ok:=
 ⟨ok.mod,ok.kind,ok.glob,ok.blt,ok.above,ok.inj,ok.has,ok.cab,ok.hd,ok.frames,ok.stk,ok.exf,ok.bs,ok.bsz,ok.noex,ok.exfs,ok.funs,ok.frf⟩
section
variable{X:Cx}{pins:List (Addr×Obj)}{σ:St}{H:Hp}{s:Shared}{E:Value->Shared->Prop}
theorem Inv.wish(I:Inv X pins σ H s)(E:Value->Shared->Prop):Inv (X.wish E) pins σ H s:=⟨I.ok.wish E,I.os,I.bare,I.base,I.loc,I.cell,I.free,I.freeC,I.pin,I.hok,I.len⟩
theorem Inv.unwish(I:Inv (X.wish E) pins σ H s):Inv X pins σ H s:=⟨I.ok.unwish,I.os,I.bare,I.base,I.loc,I.cell,I.free,I.freeC,I.pin,I.hok,I.len⟩
theorem SP.unwish{D:Ends}{f:Flow}{s':Shared}(h:SP (X.wish E) pins D f s'):SP X pins D f s':=by
 cases f with
 | next=>obtain⟨σ',H',I,q⟩:=h;exact⟨σ',H',I.unwish,q⟩
 | brk=>obtain⟨σ',H',I,q⟩:=h;exact⟨σ',H',I.unwish,q⟩
 | cont=>obtain⟨σ',H',I,q⟩:=h;exact⟨σ',H',I.unwish,q⟩
 | ret u=>obtain⟨v,σ',H',I,r,q⟩:=h;exact⟨v,σ',H',I.unwish,r,q⟩
theorem PSs.nox{st:List Stmt}{t:TS}(h:PSs X.nox st t):PSs X st t:=λpins s σ H D I hw=>
 qBJ (h pins s σ H D (I.wish _) hw) (λ_ _ q=>q.unwish) λ_ _ z=>False.elim z
end
section
variable{X:Cx}{st:Stmt}{rest:List Stmt}{t u:TS}{e:Expr}{te:TE}{pos:Pos}
noncomputable def tNext:TS:=λD σ H=>D.nx σ H
noncomputable def tSeq(t u:TS):TS:=λD σ H=>t {D with nx:=u D} σ H
theorem zaqk:PSs X [] tNext:=λ_ _ σ H _ I h=>qBU ⟨σ,H,I,h⟩
theorem zaek(h1:PS X st t)(h2:PSs X rest u):PSs X (st::rest) (tSeq t u):=by
 intro pins s σ H D I h
 refine qCd (thn (h1 pins s σ H {D with nx:=u D} I h) λf s1 q=>?_)
 cases f with
 | next=>
  obtain⟨σ',H',I',q⟩:=q
  exact h2 pins s1 σ' H' D I' q
 | ret v=>exact q
 | brk=>exact q
 | cont=>exact q
theorem zahm(h1:PS X st t):PSs X [st] t:=by
 intro pins s σ H D I h
 refine qCd (thn (h1 pins s σ H D I h) λf s1 q=>?_)
 cases f with
 | next=>exact qBU q
 | ret v=>exact q
 | brk=>exact q
 | cont=>exact q
theorem Inv.quiet{pins:List (Addr×Obj)}{σ:St}{H:Hp}{s:Shared}(I:Inv X pins σ H s):interactive X.env=false:=by simp[interactive,I.ok.kind]
noncomputable def tDrop(te:TE):TS:=λD σ H=>te σ H λ_ H1=>D.nx σ H1
theorem zahn(he:PE X e te)(hs:swapsWith e none pos.line X.env=pure false:=by rfl):PS X (.Expr e pos) (tDrop te):=by
 intro pins s σ H D I h
 exact wpAny_Expr_any (thn (he pins s σ H _ I h) λv s1 ⟨x,H1,I1,r1,q1⟩=>⟨σ,H1,I1,q1⟩) I.quiet hs
noncomputable def tRet(te:TE):TS:=λD σ H=>te σ H D.rt
theorem zaug(he:PE X e te):PS X (.Return (some e) pos) (tRet te):=by
 intro pins s σ H D I h
 exact wpAny_Return_some (thn (he pins s σ H _ I h) λv s1 ⟨x,H1,I1,r1,q1⟩=>⟨x,σ,H1,I1,r1,q1⟩)
noncomputable def tIfS(c:TT)(t u:TS):TS:=λD σ H=>c σ H λb H1=>if b=true then t D σ H1 else u D σ H1
theorem zaxv{c:Expr}{a b:List Stmt}{tc:TT}(hc:PT X c tc)(ha:PSs X a t)(hb:PSs X b u):PS X (.If c a b pos) (tIfS tc t u):=by
 intro pins s σ H D I h
 refine wpAny_If (thn (hc pins s σ H _ I h) λd s1 ⟨H1,I1,q1⟩=>?_)
 cases d with
 | true=>exact ha pins s1 σ H1 D I1 q1
 | false=>exact hb pins s1 σ H1 D I1 q1
noncomputable def tNever:TS:=λ_ _ _=>False
theorem zalt:PS X st tNever:=λ_ _ _ _ _ _ h=>h.elim
end
noncomputable abbrev TG:=V->St->Hp->(St->Hp->Prop)->Prop
noncomputable abbrev TGs:=List V->St->Hp->(St->Hp->Prop)->Prop
noncomputable def PG(X:Cx)(target:Expr)(t:TG):Prop:=
 ∀(pins:List (Addr×Obj))(s:Shared)(σ:St)(H:Hp)(v:V)(u:Value)(Q:St->Hp->Prop),Inv X pins σ H s->RelV v u->t v σ H Q->
  wpAny (model X.prog X.w) X.A (assign target X.env u) (λ_ s'=>∃σ' H',Inv X pins σ' H' s'/\Q σ' H') X.xe s
noncomputable def PGs(X:Cx)(ts:List Expr)(t:TGs):Prop:=
 ∀(pins:List (Addr×Obj))(s:Shared)(σ:St)(H:Hp)(vs:List V)(us:List Value)(Q:St->Hp->Prop),Inv X pins σ H s->Vals vs us->t vs σ H Q->
  wpAny (model X.prog X.w) X.A (assignInOrder ((assignEach ts X.env).map (·.2)) us) (λ_ s'=>∃σ' H',Inv X pins σ' H' s'/\Q σ' H') X.xe s
noncomputable abbrev TSet:=V->V->V->Hp->(Hp->Prop)->Prop
noncomputable def PSet(X:Cx)(t:TSet):Prop:=
 ∀(pins:List (Addr×Obj))(s:Shared)(σ:St)(H:Hp)(o i v:V)(ov iv u:Value)(Q:Hp->Prop),Inv X pins σ H s->RelV o ov->RelV i iv->RelV v u->t o i v H Q->
  wpAny (model X.prog X.w) X.A (setItem ov iv u) (λ_ s'=>∃H',Inv X pins σ H' s'/\Q H') X.xe s
section
variable{X:Cx}{pos:Pos}
noncomputable def gName(i:Nat):TG:=λv σ H Q=>Q (σ.set i (some v)) H
theorem zaql{i:Nat}{x:Str}(hN:X.N.Nodup)(hi:X.N[i]?=some x)(hx:Loc X.env.scope x)(hf:X.fn x=true\/X.env.scope.names.lookup x=some .local:=by assumption):PG X (.Name x pos) (gName i):=by
 intro pins s σ H v u Q I r h
 exact wpAny_assign_Name (zwt I hN hi hx r (λs' I'=>⟨_,H,I',h⟩) hf)
noncomputable def gNil:TGs:=λvs σ H Q=>vs=[]/\Q σ H
noncomputable def gCons(t:TG)(u:TGs):TGs:=λvs σ H Q=>∃v r,vs=v::r/\t v σ H λσ' H'=>u r σ' H' Q
theorem zaqm:PGs X [] gNil:=by
 intro pins s σ H vs us Q I r h
 obtain⟨e,h⟩:=h
 subst e
 cases r
 exact assignInOrder_nil ⟨σ,H,I,h⟩
theorem zalu{e:Expr}{es:List Expr}{t:TG}{u:TGs}(h1:PG X e t)(h2:PGs X es u)
  (hs:(assignEach (e::es) X.env).map (·.2)=assign e X.env::(assignEach es X.env).map (·.2):=by rfl):PGs X (e::es) (gCons t u):=by
 intro pins s σ H vs us Q I r h
 obtain⟨v,vr,e1,h⟩:=h
 subst e1
 cases r with
 | cons r rr=>
  rw[hs]
  refine assignInOrder_cons (thn (h1 pins s σ H _ _ _ I r h) λ_ s1 ⟨σ1,H1,I1,q1⟩=>?_)
  exact h2 pins s1 σ1 H1 _ _ Q I1 rr q1
noncomputable def gTup(K:qC)(n:Nat)(t:TGs):TG:=λv σ H Q=>∃a xs,v=.ref a/\SqT K H a xs/\xs.length=n/\t xs σ H Q
theorem zauh{es:List Expr}{k:Nat}{t:TGs}{n:Nat}(hc:X.calm=true)(h:PGs X es t)
  (hn:(assignEach es X.env).length=n:=by rfl) (hst:(assignEach es X.env).findIdx? (·.1)=none:=by rfl):PG X (.Tuple es k pos) (gTup X.K n t):=by
 intro pins s σ H v u Q I r hw
 obtain⟨a,xs,e1,hq,hl,hw⟩:=hw
 subst e1
 cases r
 obtain⟨its,rv,ht,hz⟩:=I.tuple hq
 refine assign_Tuple_tuple (I.ok.hd hc) ht (by simp[hn,<- hl,rv.length]) hst λh' hx=>?_
 have I1:Inv X pins σ H {s with heap:=h'}:=I.kept (t':=s.toks) λb o e=>hx b o (qu (qL e)) e
 exact h pins _ σ H xs _ Q I1 (by simpa using rv) hw
noncomputable def gSub(to ti:TE)(t:TSet):TG:=λv σ H Q=>to σ H λo H1=>ti σ H1 λi H2=>t o i v H2 λH3=>Q σ H3
theorem zaui{o i:Expr}{to ti:TE}{t:TSet}(ho:PE X o to)(hi:PE X i ti)(hs:PSet X t)
  (ha:∀v,assign (.Subscript o i pos) X.env v=(do
   let ov <- holding [v] (eval o X.env)
   let iv <- holding [v,ov] (eval i X.env)
   standAt pos
   holding [v,ov,iv] (setItem ov iv v)
   release [v,ov,iv] []):=by intro _;rfl):PG X (.Subscript o i pos) (gSub to ti t):=by
 intro pins s σ H v u Q I r h
 rw[ha]
 refine qD (qBS (thn (ho pins s σ H _ I h) λov s1 ⟨x,H1,I1,r1,q1⟩=>?_))
 refine qD (qBS (thn (hi pins s1 σ H1 _ I1 q1) λiv s2 ⟨y,H2,I2,r2,q2⟩=>?_))
 refine qD (qBI (qD (qBS (thn (hs pins s2 σ H2 x y v ov iv u _ I2 r1 r2 r q2) λ_ s3 ⟨H3,I3,q3⟩=>?_))))
 exact wpAny_release ⟨σ,H3,I3,q3⟩
noncomputable def tAsg(te:TE)(g:TG):TS:=λD σ H=>te σ H λx H1=>g x σ H1 D.nx
theorem zapi{tg e:Expr}{te:TE}{g:TG}(he:PE X e te)(hg:PG X tg g)(hs:swapsWithSole [tg] e pos.line X.env=pure false:=by rfl)(hw:swappedStores [tg] e X.env=pure none:=by rfl)
  (h1:(assignEach [tg] X.env).map (·.2)=[assign tg X.env]:=by rfl):PS X (.Assign [tg] e pos) (tAsg te g):=by
 intro pins s σ H D I h
 refine wpAny_Assign_stores (thn (he pins s σ H _ I h) λv s1 ⟨x,H1,I1,r1,q1⟩=>?_) hs hw
 rw[h1]
 exact thn (hg pins s1 σ H1 x v _ I1 r1 q1) λ_ s2 q=>q
theorem zauj{i:Nat}{x:Str}{e:Expr}{te:TE}{pos':Pos}(hN:X.N.Nodup)(hi:X.N[i]?=some x)(hx:Loc X.env.scope x)(he:PE X e te)(hs:swapsWith e (some (.Name x pos')) pos.line X.env=pure false:=by rfl)(hf:X.fn x=true\/X.env.scope.names.lookup x=some .local:=by assumption) :
  PS X (.Assign [.Name x pos'] e pos) (tAsg te (gName i)):=by
 intro pins s σ H D I h
 refine wpAny_Assign_Name (thn (he pins s σ H _ I h) λv s1 ⟨y,H1,I1,r1,q1⟩=>?_) hs
 exact zwt I1 hN hi hx r1 (λs2 I2=>⟨_,H1,I2,q1⟩) hf
end
section
variable{X:Cx}{pos:Pos}
noncomputable def tWhile(c:TT)(tb:TS):TS:=λD σ H=>∃W:Nat->St->Hp->Prop,(∃m,W m σ H)/\∀m σ H,W m σ H->
 c σ H λb H1=>if b=true then ∃N:St->Hp->Prop,(∀σ' H',N σ' H'->∃m',m'<m/\W m' σ' H')/\tb {D with nx:=N,ct:=N,bk:=D.nx} σ H1 else D.nx σ H1
theorem zalv{c:Expr}{body:List Stmt}{tc:TT}{tb:TS}(hp:PassesOwn (model X.prog X.w) X.A X.env X.xe)(hc:PT X c tc)(hb:PSs X body tb):PS X (.While c body [] pos) (tWhile tc tb):=by
 intro pins s σ H D I h
 obtain⟨W,⟨m0,w0⟩,turn⟩:=h
 refine wpAny_While (codeAny_whileLoop (λn s'=>∃σ' H',Inv X pins σ' H' s'/\W n σ' H') ?_ m0 ⟨σ,H,I,w0⟩)
 rintro n s1 ⟨σ1,H1,I1,w1⟩
 refine qBG hp (thn (hc pins s1 σ1 H1 _ I1 (turn n σ1 H1 w1)) λb s2 ⟨H2,I2,q2⟩=>?_)
 cases b with
 | true=>
  obtain⟨N,hN,q2⟩:=q2
  rw[if_pos rfl]
  refine qBG hp (thn (hb pins s2 σ1 H2 _ I2 q2) λf s3 q3=>?_)
  cases f with
  | next=>
   obtain⟨σ3,H3,I3,n3⟩:=q3
   obtain⟨m',hm,w3⟩:=hN σ3 H3 n3
   exact⟨m',hm,σ3,H3,I3,w3⟩
  | cont=>
   obtain⟨σ3,H3,I3,n3⟩:=q3
   obtain⟨m',hm,w3⟩:=hN σ3 H3 n3
   exact⟨m',hm,σ3,H3,I3,w3⟩
  | brk=>exact q3
  | ret v=>exact q3
 | false=>
  rw[if_neg qR]
  exact qBU ⟨σ1,H2,I2,q2⟩
end
set_option genInjectivity false in
structure It where
 go:Nat->Hp->Prop
 yld:Nat->Hp->V->Hp->Prop
 stop:Nat->Hp->Prop
noncomputable def FpOk(X:Cx)(pins:List (Addr×Obj))(H:Hp)(b:Addr):Prop:=
 H b=none/\b≠X.env.locals/\b∉X.fs/\(b∈X.ex\/X.s₀.heap.objs.size<=b)/\(∀x c,X.env.cells.lookup x=some c->c≠b)/\∀p∈X.pn++pins,p.1≠b
theorem Inv.fpOk{X:Cx}{pins:List (Addr×Obj)}{σ:St}{H H':Hp}{s:Shared}{b:Addr}(I:Inv X pins σ H s)(hb:s.heap.objs.size<=b)(hn:H' b=none):FpOk X pins H' b:=by
 refine⟨hn,qBZ (qh I.lt hb),I.nofs hb,.inr (qv I.sz hb),λx c e z=>?_,λp hp z=>?_⟩
 ·obtain⟨v,q⟩:=I.cell x c e
  exact absurd (qh q.lt (by rw[z];exact hb)) (qA4 _)
 ·exact absurd (qh (qL (I.pin p hp).1) (by rw[z];exact hb)) (qA4 _)
set_option genInjectivity false in
structure Turn(P:Program)(w:World)(K:qC)(tg:Expr)(J:It)(fp:List Addr)(it:Addr)(tn:Nat->Heap->Prop):Prop where
 mem:it∈fp
 obj:∀i h,tn i h->∀b∈fp,∃o,h.get? b=some o/\∀v,o.data≠.cell v
 keep:∀i h h',tn i h->(∀b∈fp,∀o,h.get? b=some o->h'.get? b=some o)->tn i h'
 item:∀(X:Cx),X.prog=P->X.w=w->X.K=K->X.calm=true->∀(i:Nat)(pins:List (Addr×Obj))(s:Shared)(σ:St)(H:Hp)(E:Value->Shared->Prop),Inv X pins σ H s->(∀b∈fp,FpOk X pins H b)->tn i s.heap->J.go i H->
  wpAny (model P w) X.A (pyNext (.ref it)) (λr s1=>∃u,r=some u/\
   wpAny (model P w) X.A (letOwnedTupleGo tg (.ref it) u) (λ_ s2=>∃x H',Inv X pins σ H' s2/\RelV x u/\J.yld i H x H'/\tn (i+1) s2.heap/\∀b∈fp,H' b=none) E s1) E s
 done:∀(X:Cx),X.prog=P->X.w=w->X.K=K->X.calm=true->∀(i:Nat)(pins:List (Addr×Obj))(s:Shared)(σ:St)(H:Hp)(E:Value->Shared->Prop),Inv X pins σ H s->(∀b∈fp,FpOk X pins H b)->tn i s.heap->J.stop i H->
  wpAny (model P w) X.A (pyNext (.ref it)) (λr s1=>r=none/\Inv X pins σ H s1) E s
 self:∀(A:Around)(i:Nat)(s:Shared)(Q:Value->Shared->Prop)(E:Value->Shared->Prop),tn i s.heap->Q (.ref it) s->wpAny (model P w) A (pyIter (.ref it)) Q E s
noncomputable abbrev TI:=St->Hp->(It->Hp->Prop)->Prop
noncomputable def PIE(X:Cx)(pins:List (Addr×Obj))(σ:St)(tg:Expr)(R:It->Hp->Prop)(itv:Value)(s2:Shared):Prop:=
 ∃(it:Addr)(fp:List Addr)(tn:Nat->Heap->Prop)(J:It)(H':Hp),itv=.ref it/\Inv X pins σ H' s2/\Turn X.prog X.w X.K tg J fp it tn/\tn 0 s2.heap/\(∀b∈fp,FpOk X pins H' b)/\R J H'
noncomputable def PI(X:Cx)(tg iter:Expr)(wi:TI):Prop:=
 ∀(pins:List (Addr×Obj))(s:Shared)(σ:St)(H:Hp)(R:It->Hp->Prop),Inv X pins σ H s->wi σ H R->
  wpAny (model X.prog X.w) X.A (eval iter X.env) (λv s1=>wpAny (model X.prog X.w) X.A (pyIter v) (PIE X pins σ tg R) X.xe s1) X.xe s
theorem zalw{M:Model}{A:Around}{E:Value->Shared->Prop}{s:Shared}{tg:Expr}{it:Addr}{u:Value}{o:Obj}{n:String}{vs:Array Value}{Q:Unit->Shared->Prop}(ho:s.heap.get? it=some o)(hc:o.cls=.type n)(hd:o.data=.fields vs)
  (hn:["enumerate","zip","dict_itemiterator","dict_reverseitemiterator","odict_iterator","itertools.zip_longest","itertools.pairwise"].contains n=false) (hQ:Q () s):wpAny M A (letOwnedTupleGo tg (.ref it) u) Q E s:=by
 unfold letOwnedTupleGo
 cases tg<;>first
  | exact qJ hQ
  | (cases u<;>first
    | exact qJ hQ
    | (refine qD (wpAny_load ho ?_)
       rw[hc,hd]
       show wpAny M A (if(["enumerate","zip","dict_itemiterator","dict_reverseitemiterator","odict_iterator","itertools.zip_longest","itertools.pairwise"].contains n&&vs[0]?==some (rawInt _))=true then _ else _) Q E s
       rw[if_neg (by intro h;rw[hn,Bool.false_and]at h;cases h)]
       exact qJ hQ))
noncomputable def Itl(K:qC)(a:Addr):It:=
 ⟨λi H=>∃xs x,SqL K H a xs/\xs[i]?=some x,λi H x H'=>H'=H/\∀xs,SqL K H a xs->xs[i]?=some x,λi H=>∃xs,SqL K H a xs/\xs.length<=i⟩
noncomputable def Itt(K:qC)(a:Addr):It:=
 ⟨λi H=>∃xs x,SqT K H a xs/\xs[i]?=some x,λi H x H'=>H'=H/\∀xs,SqT K H a xs->xs[i]?=some x,λi H=>∃xs,SqT K H a xs/\xs.length<=i⟩
noncomputable def Itr(lo:Int)(n:Nat):It:=⟨λi _=>i<n,λi H x H'=>H'=H/\x=.int (lo+i),λi _=>n<=i⟩
theorem zaho{P:Program}{w:World}{K:qC}{tg:Expr}(a it:Addr):Turn P w K tg (Itl K a) [it] it (λi h=>h.IsListIter it a i) where
 mem:=by simp
 obj:=λi h st b hb=>by
  have e:b=it:=by simpa using hb
  subst e
  obtain⟨o,e,c,d⟩:=st
  exact⟨o,e,λv z=>by rw[d]at z;cases z⟩
 keep:=λi h h' st k=>st.at λo e=>k it (by simp) o e
 item:=by
  intro X hP hw hK hc i pins s σ H E I hf st hg
  subst hP hw hK
  obtain⟨xs,x,hq,hx⟩:=hg
  obtain⟨its,rv,p,hz⟩:=I.list hq
  obtain⟨u,hu,ru⟩:=rv.get hx
  obtain⟨f0,f1,f2,f3,f4,f5⟩:=hf it (by simp)
  refine wpAny_pyNext_list_item st p.isList (x:=u) (by simpa using hu) λh' st' sb=>?_
  have I1:Inv X pins σ H {s with heap:=h'}:=I.turned (t':=s.toks) (λb o hb e=>(sb.2 b hb).trans e) f0 f1 f3 f4 f5
  obtain⟨o,e,c,d⟩:=id st'
  exact⟨u,rfl,zalw (s:={s with heap:=h'}) e c d (by decide) ⟨x,H,I1,ru,⟨rfl,λys hy=>by rw[I.list_inj hy hq];exact hx⟩,st',λb hb=>(hf b hb).1⟩⟩
 done:=by
  intro X hP hw hK hc i pins s σ H E I hf st hg
  subst hP hw hK
  obtain⟨xs,hq,hx⟩:=hg
  obtain⟨its,rv,p,hz⟩:=I.list hq
  obtain⟨f0,f1,f2,f3,f4,f5⟩:=hf it (by simp)
  have hl:=rv.length
  exact wpAny_pyNext_list_end (I.ok.hd hc) st p.isList (by simp;omega) λh' eb=>⟨rfl,I.turned (t':=s.toks) (λb o hb e=>eb b o hb e) f0 f1 f3 f4 f5⟩
 self:=λ_ _ _ _ _ st h=>wpAny_pyIter_listiter st h
theorem zage{P:Program}{w:World}{K:qC}{tg:Expr}(a it:Addr):Turn P w K tg (Itt K a) [it] it (λi h=>h.IsTupleIter it a i) where
 mem:=by simp
 obj:=λi h st b hb=>by
  have e:b=it:=by simpa using hb
  subst e
  obtain⟨o,e,c,d⟩:=st
  exact⟨o,e,λv z=>by rw[d]at z;cases z⟩
 keep:=λi h h' st k=>st.at λo e=>k it (by simp) o e
 item:=by
  intro X hP hw hK hc i pins s σ H E I hf st hg
  subst hP hw hK
  obtain⟨xs,x,hq,hx⟩:=hg
  obtain⟨its,rv,p,hz⟩:=I.tuple hq
  obtain⟨u,hu,ru⟩:=rv.get hx
  obtain⟨f0,f1,f2,f3,f4,f5⟩:=hf it (by simp)
  refine wpAny_pyNext_tuple_item st (show s.heap.IsTuple a its.toArray from p) (x:=u) (by simpa using hu) λh' st' sb=>?_
  have I1:Inv X pins σ H {s with heap:=h'}:=I.turned (t':=s.toks) (λb o hb e=>(sb.2 b hb).trans e) f0 f1 f3 f4 f5
  obtain⟨o,e,c,d⟩:=id st'
  exact⟨u,rfl,zalw (s:={s with heap:=h'}) e c d (by decide) ⟨x,H,I1,ru,⟨rfl,λys hy=>by rw[I.tuple_inj hy hq];exact hx⟩,st',λb hb=>(hf b hb).1⟩⟩
 done:=by
  intro X hP hw hK hc i pins s σ H E I hf st hg
  subst hP hw hK
  obtain⟨xs,hq,hx⟩:=hg
  obtain⟨its,rv,p,hz⟩:=I.tuple hq
  obtain⟨f0,f1,f2,f3,f4,f5⟩:=hf it (by simp)
  have hl:=rv.length
  exact wpAny_pyNext_tuple_end (I.ok.hd hc) st (show s.heap.IsTuple a its.toArray from p) (by simp;omega) λh' eb=>⟨rfl,I.turned (t':=s.toks) (λb o hb e=>eb b o hb e) f0 f1 f3 f4 f5⟩
 self:=λ_ _ _ _ _ st h=>wpAny_pyIter_tupleiter st h
theorem zagf{P:Program}{w:World}{K:qC}{tg:Expr}(it:Addr)(lo:Int)(n:Nat):Turn P w K tg (Itr lo n) [it] it (λi h=>IsRangeIter h it (lo+(i:Nat) * 1) ((n:Int) - (i:Nat)) 1) where
 mem:=by simp
 obj:=λi h st b hb=>by
  have e:b=it:=by simpa using hb
  subst e
  exact⟨_,st,λv z=>by
   have z':Data.fields _=Data.cell v:=z
   cases z'⟩
 keep:=λi h h' st k=>k it (by simp) _ st
 item:=by
  intro X hP hw hK hc i pins s σ H E I hf st hg
  subst hP hw hK
  obtain⟨f0,f1,f2,f3,f4,f5⟩:=hf it (by simp)
  have W:=Walks.range (prog:=X.prog) (w:=X.w) (I.ok.hd hc) it lo 1 n
  refine W.item i s _ _ hg st λv h' tk hv st' kk=>?_
  obtain⟨t,rfl⟩:=hv
  have I1:Inv X pins σ H {s with heap:=h',toks:=tk}:=I.turned (λb o hb e=>kk b o (by simpa using hb) e) f0 f1 f3 f4 f5
  refine⟨_,rfl,zalw (s:={s with heap:=h',toks:=tk}) (n:="range_iterator") st' rfl rfl (by decide) ⟨.int (lo+i),H,I1,⟨t,?_⟩,⟨rfl,rfl⟩,st',λb hb=>(hf b hb).1⟩⟩
  rw[Int.mul_one]
 done:=by
  intro X hP hw hK hc i pins s σ H E I hf st hg
  subst hP hw hK
  obtain⟨f0,f1,f2,f3,f4,f5⟩:=hf it (by simp)
  exact wpAny_pyNext_range_end (I.ok.hd hc) st (by have:n<=i:=hg;omega) λh' eb=>⟨rfl,I.turned (t':=s.toks) (λb o hb e=>eb b o hb e) f0 f1 f3 f4 f5⟩
 self:=λ_ _ _ _ _ st h=>wpAny_pyIter_rangeiter st h
section
variable{X:Cx}{tg:Expr}
theorem zalx{pins:List (Addr×Obj)}{σ:St}{H:Hp}{s:Shared}{R:It->Hp->Prop}{E:Value->Shared->Prop}{lo hi:Int}{t u v:Tok}{tk:Nat}(I:Inv X pins σ H s)(h1:-(2 ^ 62)<=lo)(h2:lo<2 ^ 62)(h3:-(2 ^ 62)<=hi)(h4:hi<2 ^ 62)
  (q:R (Itr lo (hi - lo).toNat) H):wpAny (model X.prog X.w) X.A (pyIter (.ref s.heap.objs.size)) (PIE X pins σ tg R) E {s with heap:=s.heap.push {cls:=.type "range",data:=.fields #[.int lo t,.int hi u,.int 1 v]},toks:=tk}:=by
 refine wpAny_pyIter_range (IsRange.new ..) (small_one h1 h2 h3 h4) ?_
 have I1:Inv X pins σ H {s with heap:=s.heap.push {cls:=.type "range",data:=.fields #[.int lo t,.int hi u,.int 1 v]},toks:=tk}:=I.kept λb o e=>qF _ e
 refine⟨(s.heap.push {cls:=.type "range",data:=.fields #[.int lo t,.int hi u,.int 1 v]}).objs.size,[(s.heap.push {cls:=.type "range",data:=.fields #[.int lo t,.int hi u,.int 1 v]}).objs.size],_,_,H,rfl,
  I1.kept (t':=tk) λb o e=>qF _ e,zagf _ lo (hi - lo).toNat,?_,λb hb=>?_,q⟩
 ·have e1:lo+((0:Nat):Int) * 1=lo:=by simp
  have e2:(((hi - lo).toNat:Nat):Int) - ((0:Nat):Int)=Builtin.Range.rangeSize lo hi 1:=by rw[rangeSize_one];split<;>omega
  show IsRangeIter _ _ (lo+((0:Nat):Int) * 1) ((((hi - lo).toNat:Nat):Int) - ((0:Nat):Int)) 1
  rw[e1,e2]
  exact qb _ rfl
 ·have e:b=(s.heap.push {cls:=.type "range",data:=.fields #[.int lo t,.int hi u,.int 1 v]}).objs.size:=by simpa using hb
  subst e
  exact I1.fpOk (qK _) (I1.hok.fresh (qK _))
noncomputable def iRng1(ta:TA):TI:=λσ H R=>ta σ H λvs H1=>∃j:Int,vs=[.int j]/\-(2 ^ 62)<=j/\j<2 ^ 62/\R (Itr 0 j.toNat) H1
theorem zahp{a:Expr}{ta:TA}{p pos:Pos}(hg:Gl X "range")(hm:X.mg "range"=none)(ha:PA X [a] ta)(hs:starEach [a] X.env=[(false,eval a X.env)]:=by rfl):PI X tg (.Call (.Name "range" p) [a] [] pos) (iRng1 ta):=by
 intro pins s σ H R I h
 refine Call_ (zry I hg hm boot_range (qBQ (thn (ha pos pins s σ H _ I h) λus s1 ⟨vs,H1,I1,r1,q1⟩=>?_) hs rfl))
 obtain⟨j,e,q1,q2,q⟩:=q1
 subst e
 cases r1 with
 | cons r rr=>
  cases rr
  obtain⟨t,rfl⟩:=r
  exact call_range_1 (zalx I1 (by omega) (by omega) q1 q2 (by simpa using q))
noncomputable def tFor(wi:TI)(g:TG)(tb:TS):TS:=λD σ H=>wi σ H λJ H1=>∃W:Nat->Nat->St->Hp->Prop,(∃m,W 0 m σ H1)/\∀i m σ H,W i m σ H->
 (J.stop i H/\D.nx σ H)\/(J.go i H/\∃N:St->Hp->Prop,(∀σ' H',N σ' H'->∃m',m'<m/\W (i+1) m' σ' H')/\∀x H',J.yld i H x H'->g x σ H' λσ2 H2=>tb {D with nx:=N,ct:=N,bk:=D.nx} σ2 H2)
noncomputable def zyu(fp:List Addr)(h:Heap):List (Addr×Obj):=fp.filterMap λb=>(h.get? b).map λo=>(b,o)
theorem zmi{fp:List Addr}{h:Heap}{b:Addr}{o:Obj}(hb:b∈fp)(e:h.get? b=some o):(b,o)∈zyu fp h:=qCH.mpr ⟨b,hb,by rw[e];rfl⟩
theorem zahq{fp:List Addr}{h:Heap}{p:Addr×Obj}(hp:p∈zyu fp h):p.1∈fp/\h.get? p.1=some p.2:=by
 obtain⟨b,hb,e⟩:=qCH.mp hp
 cases q:h.get? b with
 | none=>rw[q]at e;cases e
 | some o=>
  rw[q]at e
  have e':(b,o)=p:=qZ e
  subst e'
  exact⟨hb,q⟩
theorem Inv.pinned{pins:List (Addr×Obj)}{σ:St}{H:Hp}{s:Shared}{fp:List Addr}(I:Inv X pins σ H s)(hf:∀b∈fp,FpOk X pins H b)(ho:∀b∈fp,∃o,s.heap.get? b=some o/\∀v,o.data≠.cell v):Inv X (pins++zyu fp s.heap) σ H s:=
 I.pins_of λp hp=>(qy.mp hp).elim (λz=>I.pin p (qk _ z)) λz=>by
  obtain⟨hb,e⟩:=zahq z
  obtain⟨f0,f1,f2,_⟩:=hf p.1 hb
  obtain⟨o,e',d⟩:=ho p.1 hb
  rw[e]at e';cases e'
  exact⟨e,f0,f1,f2,d⟩
theorem Inv.unpinned{pins pl:List (Addr×Obj)}{σ:St}{H:Hp}{s:Shared}(I:Inv X (pins++pl) σ H s):Inv X pins σ H s:=I.pins_of λp hp=>I.pin p (qk _ (qAG _ hp))
theorem zauk{iter:Expr}{body:List Stmt}{wi:TI}{g:TG}{tb:TS}{pos:Pos}(hp:PassesOwn (model X.prog X.w) X.A X.env X.xe)(hc:X.calm=true)(hi:PI X tg iter wi)(hg:PG X tg g)(hb:PSs X body tb)
  (hs:∀x,foldedSetIterable iter X.env x=pure x:=by intro _;rfl):PS X (.For tg iter body [] pos) (tFor wi g tb):=by
 intro pins s σ H D I h
 refine wpAny_For (thn (hi pins s σ H _ I h) λv s1 h1=>thn h1 λitv s2 h2=>?_) hs
 obtain⟨it,fp,tn,J,H2,e,I2,T,st2,f2,W,⟨m0,w0⟩,turn⟩:=h2
 subst e
 have stat:∀{H':Hp},(∀b∈fp,H' b=none)->∀b∈fp,FpOk X pins H' b:=λhn b hb=>⟨hn b hb,(f2 b hb).2⟩
 refine codeAny_forLoop_any (λn s'=>∃i σ' H',Inv X pins σ' H' s'/\tn i s'.heap/\(∀b∈fp,H' b=none)/\W i n σ' H') ?_ m0 ⟨0,σ,H2,I2,st2,λb hb=>(f2 b hb).1,w0⟩
 rintro n s3 ⟨i,σ3,H3,I3,st3,fr3,w3⟩
 rcases turn i n σ3 H3 w3 with⟨stop,qn⟩|⟨go,N,hN,step⟩
 ·refine qBG hp (thn (T.done X rfl rfl rfl hc i pins s3 σ3 H3 X.xe I3 (stat fr3) st3 stop) λr s4 ⟨hr,I4⟩=>?_)
  subst hr
  exact qBU ⟨σ3,H3,I4,qn⟩
 ·refine qBG hp (thn (T.item X rfl rfl rfl hc i pins s3 σ3 H3 X.xe I3 (stat fr3) st3 go) λr s4 ⟨u,hr,h4⟩=>?_)
  subst hr
  refine qBG hp (thn h4 λ_ s5 ⟨x,H5,I5,r5,y5,st5,fr5⟩=>?_)
  have I5':=I5.pinned (stat fr5) (T.obj _ _ st5)
  refine qBG hp (thn (hg _ s5 σ3 H5 x u _ I5' r5 (step x H5 y5)) λ_ s6 ⟨σ6,H6,I6,q6⟩=>?_)
  refine qBG hp (thn (hb _ s6 σ6 H6 _ I6 q6) λf s7 q7=>?_)
  have again:∀{σ7:St}{H7:Hp},Inv X (pins++zyu fp s5.heap) σ7 H7 s7->N σ7 H7->∃m,m<n/\∃i σ' H',Inv X pins σ' H' s7/\tn i s7.heap/\(∀b∈fp,H' b=none)/\W i m σ' H':=λ{σ7 H7} I7 n7=>by
   obtain⟨m',hm,w7⟩:=hN σ7 H7 n7
   refine⟨m',hm,i+1,σ7,H7,I7.unpinned,T.keep _ _ _ st5 λb hb o e=>(I7.pin (b,o) (qk _ (qk _ (zmi hb e)))).1,λb hb=>?_,w7⟩
   obtain⟨o,e,d⟩:=T.obj _ _ st5 b hb
   exact(I7.pin (b,o) (qk _ (qk _ (zmi hb e)))).2.1
  cases f with
  | next=>obtain⟨σ7,H7,I7,n7⟩:=q7;exact again I7 n7
  | cont=>obtain⟨σ7,H7,I7,n7⟩:=q7;exact again I7 n7
  | brk=>obtain⟨σ7,H7,I7,q7⟩:=q7;exact⟨σ7,H7,I7.unpinned,q7⟩
  | ret v=>obtain⟨x7,σ7,H7,I7,r7,q7⟩:=q7;exact⟨x7,σ7,H7,I7.unpinned,r7,q7⟩
end
noncomputable abbrev R2:=V->V->Hp->VK->Prop
noncomputable def OpR(X:Cx)(f:Value->Value->Sem Value)(r:R2):Prop:=
 ∀(pins:List (Addr×Obj))(s:Shared)(σ:St)(H:Hp)(x y:V)(v u:Value)(Q:VK),Inv X pins σ H s->RelV x v->RelV y u->r x y H Q->
  wpAny (model X.prog X.w) X.A (f v u) (EP X pins σ Q) X.xe s
noncomputable def CallR(X:Cx)(f:Value)(r:List V->Hp->VK->Prop):Prop:=
 ∀(pins:List (Addr×Obj))(s:Shared)(σ:St)(H:Hp)(xs:List V)(us:List Value)(Q:VK),Inv X pins σ H s->Vals xs us->r xs H Q->
  wpAny (model X.prog X.w) X.A (call f us) (EP X pins σ Q) X.xe s
noncomputable def TruR(X:Cx)(r:V->Hp->(Bool->Hp->Prop)->Prop):Prop:=
 ∀(pins:List (Addr×Obj))(s:Shared)(σ:St)(H:Hp)(x:V)(v:Value)(Q:Bool->Hp->Prop),Inv X pins σ H s->RelV x v->r x H Q->
  wpAny (model X.prog X.w) X.A (truthy v) (TP X pins σ Q) X.xe s
noncomputable def tOp(r:R2)(ta tb:TE):TE:=λσ H Q=>ta σ H λx H1=>tb σ H1 λy H2=>r x y H2 Q
noncomputable def rI(C:Int->Int->Prop)(g:Int->Int->V):R2:=λx y H Q=>∃i j,x=.int i/\y=.int j/\C i j/\Q (g i j) H
noncomputable def rI0(g:Int->Int->V):R2:=λx y H Q=>∃i j,x=.int i/\y=.int j/\Q (g i j) H
section
variable{X:Cx}{a b c:Expr}{ta tb tc:TE}{pos:Pos}
theorem binT(ha:PE X a ta)(hb:PE X b tb){pins:List (Addr×Obj)}{s:Shared}{σ:St}{H:Hp}{R:V->V->Hp->Prop}(I:Inv X pins σ H s)
  (h:ta σ H λx H1=>tb σ H1 λy H2=>R x y H2){Q:Value->Shared->Prop}{f:Value->Value->Sem Value}
  (hf:∀v u s2 x y H2,Inv X pins σ H2 s2->RelV x v->RelV y u->R x y H2->wpAny (model X.prog X.w) X.A (f v u) Q X.xe s2) :
  wpAny (model X.prog X.w) X.A (eval a X.env) (λv s₁=>wpAny (model X.prog X.w) X.A (eval b X.env) (λu s₂=>wpAny (model X.prog X.w) X.A (f v u) Q X.xe s₂) X.xe s₁) X.xe s:=by
 refine thn (ha pins s σ H _ I h) λv s1 ⟨x,H1,I1,r1,q1⟩=>?_
 refine thn (hb pins s1 σ H1 _ I1 q1) λu s2 ⟨y,H2,I2,r2,q2⟩=>?_
 exact hf v u s2 x y H2 I2 r1 r2 q2
theorem zaxw{op:Operator}{r:R2}(ho:OpR X (binaryOp op) r)(ha:PE X a ta)(hb:PE X b tb):PE X (.BinOp a op b pos) (tOp r ta tb):=by
 intro pins s σ H Q I h
 exact wpAny_BinOp (binT ha hb I h λv u s2 x y H2 I2 rx ry q=>ho pins s2 σ H2 x y v u Q I2 rx ry q)
theorem opI{f:Value->Value->Sem Value}{C:Int->Int->Prop}{g:Int->Int->Int}
  (rule:∀(i j:Int)(t u:Tok)(s:Shared)(Q:Value->Shared->Prop)(E:Value->Shared->Prop),C i j->Q (.int (g i j) s.toks) {s with toks:=s.toks+1}->wpAny (model X.prog X.w) X.A (f (.int i t) (.int j u)) Q E s) :
  OpR X f (rI C λi j=>.int (g i j)):=by
 intro pins s σ H x y v u Q I rx ry h
 obtain⟨i,j,rfl,rfl,hc,q⟩:=h
 obtain⟨t,rfl⟩:=rx
 obtain⟨t',rfl⟩:=ry
 exact rule i j t t' s _ _ hc ⟨.int (g i j),H,I.tok _,⟨_,rfl⟩,q⟩
theorem opI0{f:Value->Value->Sem Value}{g:Int->Int->Int}
  (rule:∀(i j:Int)(t u:Tok)(s:Shared)(Q:Value->Shared->Prop)(E:Value->Shared->Prop),Q (.int (g i j) s.toks) {s with toks:=s.toks+1}->wpAny (model X.prog X.w) X.A (f (.int i t) (.int j u)) Q E s) :
  OpR X f (rI0 λi j=>.int (g i j)):=by
 intro pins s σ H x y v u Q I rx ry h
 obtain⟨i,j,rfl,rfl,q⟩:=h
 obtain⟨t,rfl⟩:=rx
 obtain⟨t',rfl⟩:=ry
 exact rule i j t t' s _ _ ⟨.int (g i j),H,I.tok _,⟨_,rfl⟩,q⟩
theorem opB0{f:Value->Value->Sem Value}{g:Int->Int->Bool}
  (rule:∀(i j:Int) (t u:Tok) (s:Shared) (Q:Value->Shared->Prop) (E:Value->Shared->Prop),Q (.bool (g i j)) s->wpAny (model X.prog X.w) X.A (f (.int i t) (.int j u)) Q E s) :
  OpR X f (rI0 λi j=>.bl (g i j)):=by
 intro pins s σ H x y v u Q I rx ry h
 obtain⟨i,j,rfl,rfl,q⟩:=h
 obtain⟨t,rfl⟩:=rx
 obtain⟨t',rfl⟩:=ry
 exact rule i j t t' s _ _ ⟨.bl (g i j),H,I,rfl,q⟩
noncomputable def CDiv(i j:Int):Prop:=0<j/\j<1073741824
noncomputable def CMul(i j:Int):Prop:=(-(2 ^ 64)<i/\i<2 ^ 64)\/(-(2 ^ 64)<j/\j<2 ^ 64)
theorem CMul.ok{i j:Int}(h:CMul i j):IntMulOk i j:=by
 rcases h with⟨h1,h2⟩|⟨h1,h2⟩
 ·exact .of_left (intBits_le_64 h1 h2)
 ·exact .of_right (intBits_le_64 h1 h2)
theorem zaul:OpR X (binaryOp .Add) (rI0 λi j=>.int (i+j)):=opI0 λ_ _ _ _ _ _ _ q=>add_int q
theorem zapj:OpR X (binaryOp .Sub) (rI0 λi j=>.int (i - j)):=opI0 λ_ _ _ _ _ _ _ q=>sub_int q
theorem zaum:OpR X (binaryOp .Mult) (rI CMul λi j=>.int (i * j)):=opI λ_ _ _ _ _ _ _ hc q=>mul_int q hc.ok
theorem zabv:OpR X (binaryOp .FloorDiv) (rI CDiv λi j=>.int (i / j)):=opI λi j _ _ _ _ _ hc q=>by
 have h1:(0:Int)<j:=hc.1
 have h2:j<1073741824:=hc.2
 exact floordiv_int (by omega) (by rw[Int.fdiv_eq_ediv_of_nonneg i (by omega)];exact q) (.inl (PyProof.noPylong_small (by omega)))
theorem zrz:OpR X (binaryOp .Mod) (rI (λ_ j=>0<j) λi j=>.int (i % j)):=opI λi j _ _ _ _ _ hc q=>by
 have h1:(0:Int)<j:=hc
 exact mod_int' (by omega) (by rw[Int.fmod_eq_emod_of_nonneg i (by omega)];exact q)
end
noncomputable def scal:V->V->Bool
 | .non,.non=>true|.non,.int _=>true|.int _,.non=>true|.non,.bl _=>true|.bl _,.non=>true|.non,.str _=>true|.str _,.non=>true
 | .int _,.int _=>true|.bl _,.bl _=>true|.str _,.str _=>true|.byt _,.byt _=>true
 | .int _,.str _=>true|.str _,.int _=>true|.bl _,.str _=>true|.str _,.bl _=>true
 | _,_=>false
noncomputable def rEq:R2:=λx y H Q=>scal x y=true/\Q (.bl (decide (x=y))) H
noncomputable def rNe:R2:=λx y H Q=>scal x y=true/\Q (.bl (!decide (x=y))) H
theorem zabw{i j:Int}:decide (V.int i=V.int j)=(i==j):=by
 rw[qAh]
 simp
theorem zahr{i j:Bool}:decide (V.bl i=V.bl j)=(i==j):=by
 rw[qAh]
 simp
theorem zabx{i j:Str}:decide (V.str i=V.str j)=(i==j):=by
 rw[qAh]
 simp
theorem zahs{i j:Array UInt8}:decide (V.byt i=V.byt j)=(i.toList==j.toList):=by
 rw[qAh]
 cases i
 cases j
 simp
section
variable{X:Cx}{a b c:Expr}{ta tb tc:TE}{pos:Pos}
theorem zcx{pins:List (Addr×Obj)}{σ:St}{H:Hp}{s:Shared}{Q:VK}{k k':Bool}(I:Inv X pins σ H s)(q:Q (.bl k) H)(e:k=k'):EP X pins σ Q (.bool k') s:=by
 subst e
 exact⟨.bl k,H,I,rfl,q⟩
theorem zaxx:OpR X (compareOp .Eq) rEq:=by
 intro pins s σ H x y v u Q I rx ry h
 obtain⟨hs,q⟩:=h
 cases x with
 | non=>
  cases rx
  cases y with
  | non=>cases ry;exact PySem.EqNone.eq_none_none (zcx I q (by simp))
  | bl j=>cases ry;exact PySem.EqNone.eq_none_bool (zcx I q (by simp))
  | int j=>obtain⟨t',rfl⟩:=ry;exact PySem.EqNone.eq_none_int (zcx I q (by simp))
  | str j=>obtain⟨t',rfl⟩:=ry;exact PySem.EqNone.eq_none_str (zcx I q (by simp))
  | _=>exact absurd (show false=true from hs) qR
 | bl i=>
  cases rx
  cases y with
  | non=>cases ry;exact PySem.EqNone.eq_bool_none (zcx I q (by simp))
  | bl j=>cases ry;exact eq_bool (zcx I q zahr)
  | str j=>obtain⟨t',rfl⟩:=ry;exact PySem.EqMixed.eq_bool_str (zcx I q (by simp))
  | _=>exact absurd (show false=true from hs) qR
 | int i=>
  obtain⟨t,rfl⟩:=rx
  cases y with
  | non=>cases ry;exact PySem.EqNone.eq_int_none (zcx I q (by simp))
  | int j=>obtain⟨t',rfl⟩:=ry;exact eq_int (zcx I q zabw)
  | str j=>obtain⟨t',rfl⟩:=ry;exact PySem.EqMixed.eq_int_str (zcx I q (by simp))
  | _=>exact absurd (show false=true from hs) qR
 | str i=>
  obtain⟨t,rfl⟩:=rx
  cases y with
  | non=>cases ry;exact PySem.EqNone.eq_str_none (zcx I q (by simp))
  | bl j=>cases ry;exact PySem.EqMixed.eq_str_bool (zcx I q (by simp))
  | int j=>obtain⟨t',rfl⟩:=ry;exact PySem.EqMixed.eq_str_int (zcx I q (by simp))
  | str j=>obtain⟨t',rfl⟩:=ry;exact eq_str (zcx I q zabx)
  | _=>exact absurd (show false=true from hs) qR
 | byt i=>
  obtain⟨t,rfl⟩:=rx
  cases y with
  | byt j=>obtain⟨t',rfl⟩:=ry;exact PySem.W.eq_bytes (zcx I q zahs)
  | _=>exact absurd (show false=true from hs) qR
 | _=>cases y<;>exact absurd (show false=true from hs) qR
theorem zaxy:OpR X (compareOp .NotEq) rNe:=by
 intro pins s σ H x y v u Q I rx ry h
 obtain⟨hs,q⟩:=h
 cases x with
 | non=>
  cases rx
  cases y with
  | non=>cases ry;exact PySem.EqNone.ne_none_none (zcx I q (by simp))
  | bl j=>cases ry;exact PySem.EqNone.ne_none_bool (zcx I q (by simp))
  | int j=>obtain⟨t',rfl⟩:=ry;exact PySem.EqNone.ne_none_int (zcx I q (by simp))
  | str j=>obtain⟨t',rfl⟩:=ry;exact PySem.EqNone.ne_none_str (zcx I q (by simp))
  | _=>exact absurd (show false=true from hs) qR
 | bl i=>
  cases rx
  cases y with
  | non=>cases ry;exact PySem.EqNone.ne_bool_none (zcx I q (by simp))
  | bl j=>cases ry;exact ne_bool (zcx I q (congrArg not zahr))
  | str j=>obtain⟨t',rfl⟩:=ry;exact PySem.EqMixed.ne_bool_str (zcx I q (by simp))
  | _=>exact absurd (show false=true from hs) qR
 | int i=>
  obtain⟨t,rfl⟩:=rx
  cases y with
  | non=>cases ry;exact PySem.EqNone.ne_int_none (zcx I q (by simp))
  | int j=>obtain⟨t',rfl⟩:=ry;exact ne_int (zcx I q (congrArg not zabw))
  | str j=>obtain⟨t',rfl⟩:=ry;exact PySem.EqMixed.ne_int_str (zcx I q (by simp))
  | _=>exact absurd (show false=true from hs) qR
 | str i=>
  obtain⟨t,rfl⟩:=rx
  cases y with
  | non=>cases ry;exact PySem.EqNone.ne_str_none (zcx I q (by simp))
  | bl j=>cases ry;exact PySem.EqMixed.ne_str_bool (zcx I q (by simp))
  | int j=>obtain⟨t',rfl⟩:=ry;exact PySem.EqMixed.ne_str_int (zcx I q (by simp))
  | str j=>obtain⟨t',rfl⟩:=ry;exact ne_str (zcx I q (congrArg not zabx))
  | _=>exact absurd (show false=true from hs) qR
 | byt i=>
  obtain⟨t,rfl⟩:=rx
  cases y with
  | byt j=>obtain⟨t',rfl⟩:=ry;exact PySem.W.ne_bytes (zcx I q (congrArg not zahs))
  | _=>exact absurd (show false=true from hs) qR
 | _=>cases y<;>exact absurd (show false=true from hs) qR
theorem zaun:OpR X (compareOp .Lt) (rI0 λi j=>.bl (decide (i<j))):=opB0 λ_ _ _ _ _ _ _ q=>lt_int q
theorem zaxz:OpR X (compareOp .GtE) (rI0 λi j=>.bl (decide (j<=i))):=opB0 λ_ _ _ _ _ _ _ q=>ge_int q
theorem OpR.or{f:Value->Value->Sem Value}{r r':R2}(h:OpR X f r)(h':OpR X f r'):OpR X f (λx y H Q=>r x y H Q\/r' x y H Q):=by
 intro pins s σ H x y v u Q I rx ry q
 rcases q with q|q
 ·exact h pins s σ H x y v u Q I rx ry q
 ·exact h' pins s σ H x y v u Q I rx ry q
theorem zeq(b:Expr){op:CmpOp}(h:op≠.In:=by decide)(h2:op≠.NotIn:=by decide):behindInMarks op b=false:=by
 have e1:(op==CmpOp.In)=false:=by cases op<;>first|rfl|exact absurd rfl h
 have e2:(op==CmpOp.NotIn)=false:=by cases op<;>first|rfl|exact absurd rfl h2
 cases b<;>simp[behindInMarks,e1,e2]
theorem zaqn{op:CmpOp}{r:R2}(ho:OpR X (compareOp op) r)(ha:PE X a ta)(hb:PE X b tb)(hm:behindInMarks op b=false):PE X (.Compare a [op] [b] pos) (tOp r ta tb):=by
 intro pins s σ H Q I h
 exact wpAny_Compare1 (binT ha hb I h λv u s2 x y H2 I2 rx ry q=>ho pins s2 σ H2 x y v u Q I2 rx ry q) hm
noncomputable def tTest(t:TE):TT:=λσ H Q=>t σ H λx H'=>∃k,x=.bl k/\Q k H'
theorem zaqo{op:CmpOp}{r:R2}(ho:OpR X (compareOp op) r)(ha:PE X a ta)(hb:PE X b tb)(hm:behindInMarks op b=false):PT X (.Compare a [op] [b] pos) (tTest (tOp r ta tb)):=by
 intro pins s σ H Q I h
 refine wpAny_isTrue_Compare1 (thn (ha pins s σ H _ I h) λv s1 ⟨x,H1,I1,r1,q1⟩=>thn (hb pins s1 σ H1 _ I1 q1) λu s2 ⟨y,H2,I2,r2,q2⟩=>
  thn (ho pins s2 σ H2 x y v u _ I2 r1 r2 q2) λc s3 ⟨z,H3,I3,r3,k,e,q3⟩=>?_) hm
 subst e
 cases r3
 exact qA2 ⟨H3,I3,q3⟩
noncomputable def TruV(K:qC)(x:V)(H:Hp)(k:Bool):Prop:=
 match x with
 | .non=>k=false
 | .bl b=>k=b
 | .int i=>k=(i != 0)
 | .str y=>y.length<=qX/\k=((y.length:Int) != 0)
 | .byt y=>y.size<=qX/\k=((y.size:Int) != 0)
 | .ref p=>(∃xs,SqL K H p xs/\k=!xs.isEmpty)\/(∃xs,SqT K H p xs/\k=!xs.isEmpty)\/∃kvs,H p=some (.dK kvs)/\k=!kvs.isEmpty
 | _=>False
theorem zagg{κ:Type}{kvs:List (κ×V)}{vs:List (κ×Value)}(r:KV kvs vs):(!vs.isEmpty)=!kvs.isEmpty:=by
 cases r<;>rfl
theorem zvc{xs:List V}{its:List Value}(r:Vals xs its):(!its.toArray.isEmpty)=!xs.isEmpty:=by
 cases r<;>simp
theorem zvd:(qX:Nat)<2 ^ 63:=by rw[qA9];decide
theorem zauo:TruR X (λx H Q=>∃k,TruV X.K x H k/\Q k H):=by
 intro pins s σ H x v Q I rx h
 obtain⟨k,e,q⟩:=h
 have hl:=zvd
 have hs:qX=16777216:=qA9
 cases x with
 | non=>
  cases rx
  have e':k=false:=e
  subst e'
  exact truthy_none ⟨H,I,q⟩
 | bl b=>
  cases rx
  have e':k=b:=e
  subst e'
  exact qA2 ⟨H,I,q⟩
 | int i=>
  obtain⟨t,rfl⟩:=rx
  have e':k=(i != 0):=e
  subst e'
  exact PySem.P.truthy_int ⟨H,I,q⟩
 | str y=>
  obtain⟨t,rfl⟩:=rx
  obtain⟨hy,e'⟩:y.length<=qX/\k=((y.length:Int) != 0):=e
  subst e'
  exact PySem.P.truthy_str (by omega) ⟨H,I.tok _,q⟩
 | byt y=>
  obtain⟨t,rfl⟩:=rx
  obtain⟨hy,e'⟩:y.size<=qX/\k=((y.size:Int) != 0):=e
  subst e'
  exact PySem.W.truthy_bytes (by omega) ⟨H,I.tok _,q⟩
 | ref p=>
  cases rx
  have e':(∃xs,SqL X.K H p xs/\k=!xs.isEmpty)\/(∃xs,SqT X.K H p xs/\k=!xs.isEmpty)\/∃kvs,H p=some (.dK kvs)/\k=!kvs.isEmpty:=e
  rcases e' with⟨xs,hx,e'⟩|⟨xs,hx,e'⟩|⟨kvs,hx,e'⟩
  ·subst e'
   obtain⟨its,r,pl,hz⟩:=I.list hx
   have hlen:=r.length
   exact wpAny_truthy_list pl.isList (by simp only[qP];omega) ⟨H,I.tok _,by rw[zvc r];exact q⟩
  ·subst e'
   obtain⟨its,r,pl,hz⟩:=I.tuple hx
   have hlen:=r.length
   exact truthy_tuple pl (by simp only[qP];omega) ⟨H,I.tok _,by rw[zvc r];exact q⟩
  ·subst e'
   obtain⟨hz,hS,vs,r,m⟩:kvs.length<=qX/\(p==sysModules)=false/\∃vs,KV kvs vs/\s.heap.DictOf (zep X.prog X.w) p vs:=I.hok p _ hx
   have hlen:kvs.length=vs.length:=qCB r
   exact wpAny_truthy_dict hS m (by omega) ⟨H,I.tok _,by rw[zagg r];exact q⟩
 | _=>exact(show False from e).elim
theorem zaly(ha:PE X a ta)(he:∀whole,isTrue a X.env whole=(do let v <- whole;standAt a.pos;holding [v] (truthy v))) :
  PT X a (λσ H Q=>ta σ H λx H'=>∃k,TruV X.K x H' k/\Q k H'):=by
 intro pins s σ H Q I h
 exact isTrue_plain (thn (ha pins s σ H _ I h) λv s1 ⟨x,H1,I1,r1,q1⟩=>zauo pins s1 σ H1 x v Q I1 r1 q1) (he _)
theorem zagh:OpR X (binaryOp .Add) (λx y H Q=>∃i j,x=.str i/\y=.str j/\i.length+j.length<=qX/\Q (.str (i++j)) H):=by
 intro pins s σ H x y v u Q I rx ry h
 obtain⟨i,j,rfl,rfl,hz,q⟩:=h
 obtain⟨t,rfl⟩:=rx
 obtain⟨t',rfl⟩:=ry
 exact add_str (λt' tk=>⟨.str (i++j),H,I.tok _,⟨_,rfl⟩,q⟩) hz
theorem zaby{x:V}{us:List Value}(r:Vals [x] us):∃u,us=[u]/\RelV x u:=by
 cases r with
 | cons r1 r2=>cases r2;exact⟨_,rfl,r1⟩
theorem zabz{x y:V}{us:List Value}(r:Vals [x,y] us):∃u w',us=[u,w']/\RelV x u/\RelV y w':=by
 cases r with
 | cons r1 r2=>
  cases r2 with
  | cons r3 r4=>cases r4;exact⟨_,_,rfl,r1,r3⟩
theorem zaht(hc:X.calm=true):CallR X (.builtin "min") (λxs H Q=>∃i j,xs=[.int i,.int j]/\Q (.int (if j<i then j else i)) H):=by
 intro pins s σ H xs us Q I r h
 obtain⟨i,j,rfl,q⟩:=h
 obtain⟨u,w',rfl,⟨t,rfl⟩,⟨t',rfl⟩⟩:=zabz r
 refine min_two_ints (I.ok.hd hc) λh' tk k=>⟨_,H,I.kept k,?_,q⟩
 by_cases hj:j<i
 ·rw[if_pos hj,if_pos hj];exact⟨_,rfl⟩
 ·rw[if_neg hj,if_neg hj];exact⟨_,rfl⟩
noncomputable def LenV(K:qC)(x:V)(H:Hp)(n:Nat):Prop:=
 match x with
 | .str y=>y.length<=qX/\n=y.length
 | .byt y=>y.size<=qX/\n=y.size
 | .ref p=>(∃xs,SqL K H p xs/\n=xs.length)\/∃xs,SqT K H p xs/\n=xs.length
 | _=>False
theorem zalz:CallR X (.builtin "len") (λxs H Q=>∃x n,xs=[x]/\LenV X.K x H n/\Q (.int n) H):=by
 intro pins s σ H xs us Q I r h
 obtain⟨x,n,rfl,e,q⟩:=h
 obtain⟨u,rfl,rx⟩:=zaby r
 have hl:=zvd
 have hs:qX=16777216:=qA9
 cases x with
 | str y=>
  obtain⟨t,rfl⟩:=rx
  obtain⟨hy,e'⟩:y.length<=qX/\n=y.length:=e
  subst e'
  exact len_str (by omega) ⟨.int _,H,I.tok _,⟨_,rfl⟩,q⟩
 | byt y=>
  obtain⟨t,rfl⟩:=rx
  obtain⟨hy,e'⟩:y.size<=qX/\n=y.size:=e
  subst e'
  exact PySem.W.len_bytes (by omega) ⟨.int _,H,I.tok _,⟨_,rfl⟩,q⟩
 | ref p=>
  cases rx
  have e':(∃xs,SqL X.K H p xs/\n=xs.length)\/∃xs,SqT X.K H p xs/\n=xs.length:=e
  rcases e' with⟨xs,hx,e'⟩|⟨xs,hx,e'⟩
  ·subst e'
   obtain⟨its,r',pl,hz⟩:=I.list hx
   have hlen:=r'.length
   exact Calls.call_len_list pl.isList (by simp only[qP];omega) ⟨.int xs.length,H,I.tok _,⟨_,by simp only[qP];rw[hlen]⟩,q⟩
  ·subst e'
   obtain⟨its,r',pl,hz⟩:=I.tuple hx
   have hlen:=r'.length
   exact len_tuple pl (by simp only[qP];omega) ⟨.int xs.length,H,I.tok _,⟨_,by simp only[qP];rw[hlen]⟩,q⟩
 | _=>exact(show False from e).elim
end
set_option genInjectivity false in
structure ObjM(h:Heap)(x dx C:Addr)(mA:Str->Option Value):Prop where
 obj:h.get? x=some (PySem.W.instObj C dx)
 ns:h.Ns1 dx mA
 ne:dx≠x
theorem zahu{h:Heap}{dx:Addr}{mA:Str->Option Value}(n:h.Ns1 dx mA):∃od,h.get? dx=some od/\∀name,PySem.W.lookIn name od=some (mA name):=by
 obtain⟨o,es,ep,ho,hd,hk,_,hm⟩:=n
 refine⟨o,ho,λname=>?_⟩
 have e:=hm name
 unfold nsFind findBy at e
 rw[<- Array.find?_toList]at e
 unfold PySem.W.lookIn
 rw[hd]
 dsimp only
 split
 ·rename_i y q
  rw[q]at e
  exact congrArg some e
 ·rename_i q
  rw[q]at e
  have a:es.toList.any (·.refKey)=false:=by
   rw[List.any_eq_false]
   intro y hy
   obtain⟨z,t,hkey⟩:=hk y (qCv.mp hy)
   simp[DictEntry.refKey,hkey]
  have a':¬es.toList.any (·.refKey)=true:=by rw[a];exact qR
  rw[if_neg a']
  exact congrArg some e
theorem ObjM.look{h:Heap}{x dx C:Addr}{mA:Str->Option Value}(I:ObjM h x dx C mA):∃od,PySem.W.InstAt h x (PySem.W.instObj C dx) C (some od)/\∀name,PySem.W.lookIn name od=some (mA name):=
 let⟨od,ho,hl⟩:=zahu I.ns
 ⟨od,⟨I.obj,rfl,rfl,ho⟩,hl⟩
section
variable{prog:Program}{w:World}{A:Around}{E:Value->Shared->Prop}{s:Shared}{K:qC}{x dx C f:Addr}{mA:Str->Option Value}{name:Str}{v:Value}
end
theorem RelO.some_of{v:V}{o:Option Value}(r:RelO (some v) o):∃u,o=some u/\RelV v u:=by
 cases o with
 | none=>exact(show False from r).elim
 | some u=>exact⟨u,rfl,r⟩
theorem zahv{v:V}{u:Value}(r:RelV v u):PySem.W.handedIn u=true:=by
 cases v with
 | non=>cases(show u=Value.none from r);rfl
 | bl b=>cases(show u=Value.bool b from r);rfl
 | int i=>obtain⟨t,e⟩:=(show ∃t,u=Value.int i t from r);cases e;rfl
 | str x=>obtain⟨t,e⟩:=(show ∃t,u=Value.str x t from r);cases e;rfl
 | byt b=>obtain⟨t,e⟩:=(show ∃t,u=Value.bytes b t from r);cases e;rfl
 | flt b=>obtain⟨t,e⟩:=(show ∃t,u=Value.float b t from r);cases e;rfl
 | ref a=>cases(show u=Value.ref a from r);rfl
 | ty n=>cases(show u=Value.type n from r);rfl
section
variable{P:Program}{w:World}{H H':Hp}{h h':Heap}{a C dx:Addr}{fs fs':List (Str×V)}
theorem zaqp(hok:HOk P w H h)(e:H a=some (.ins C dx fs)):∃mA,ObjM h a dx C mA/\(∀f,RelO (fs.lookup f) (mA f))/\PySem.Within mA (fs.map (·.1))/\fs.length<=1000/\H dx=some (.own a):=by
 obtain⟨d,z,ne,ob,mA,n,r,q⟩:=(show zfd P w H h a (.ins C dx fs)from hok a _ e)
 exact⟨mA,⟨ob,n,ne⟩,r,q,z,d⟩
end
set_option genInjectivity false in
structure Cls(K:qC)(C:Addr):Prop where
 pg:PySem.W.plainGet K C Str.empty=true
 hd:PySem.W.hasDictIn K C=true
 po:PySem.W.plainOver K C=true
 sa:PySem.W.findIn K (.ref C) "__setattr__"=some (some (.builtin "object.__setattr__"))
theorem Cls.get{K:qC}{C:Addr}(c:Cls K C)(f:Str):PySem.W.plainGet K C f=true:=c.pg
set_option genInjectivity false in
set_option genInjectivity false in
section
variable{X:Cx}{pins:List (Addr×Obj)}{σ:St}{H:Hp}{s:Shared}{a C dx:Addr}{fs:List (Str×V)}{f:Str}{v:V}{A:Around}{E:Value->Shared->Prop}
theorem zaqq{prog:Program}{w:World}{env:Env}{e:Expr}{f:Str}{pos:Pos}{s:Shared}{Q:Value->Shared->Prop}(hb:attributeBase e f env (eval e env)=eval e env)
  (h:wpAny (model prog w) A (eval e env) (λo s₁=>wpAny (model prog w) A (getAttr o f true) Q E s₁) E s):wpAny (model prog w) A (eval (.Attribute e f pos) env) Q E s:=
 Attribute_any_ h (by rw[arm_eval_Attribute,hb])
end
section
variable{X:Cx}{o e value:Expr}{f:Str}{pos pos' tpos:Pos}{ta tv:TE}
end
section
variable{X:Cx}{pins:List (Addr×Obj)}{σ:St}{H:Hp}{s:Shared}{A:Around}{E:Value->Shared->Prop}{Q:Value->Shared->Prop}{c:Value}{b:Bool}
inductive TyOf(K:qC)(H:Hp):V->Value->Prop where
 | non:TyOf K H .non (.type "NoneType")
 | bl (x:Bool):TyOf K H (.bl x) (.type "bool")
 | int (i:Int):TyOf K H (.int i) (.type "int")
 | str (x:Str):TyOf K H (.str x) (.type "str")
 | flt (x:UInt64):TyOf K H (.flt x) (.type "float")
 | lst {a:Addr} {xs:List V} (e:H a=some (.lst xs)):TyOf K H (.ref a) (.type "list")
 | frz {a:Addr} {o:Obj} {xs:List V} (e:H a=some (.frz o (.lst xs))):TyOf K H (.ref a) (.type "list")
 | tup {a:Addr} {xs:List V} (e:H a=some (.tup xs)):TyOf K H (.ref a) (.type "tuple")
 | dK {a:Addr} {kvs:List (Key×V)} (e:H a=some (.dK kvs)):TyOf K H (.ref a) (.type "dict")
 | dT {a:Addr} {kvs:List (List Key×V)} (e:H a=some (.dT kvs)):TyOf K H (.ref a) (.type "dict")
 | ins {a C dx:Addr} {fs:List (Str×V)} (e:H a=some (.ins C dx fs)) (cl:Cls K C) (ha:PySem.W.findIn K (.ref C) "__class__"=some (some (.builtin "object.__class__")))
   (hn:PySem.W.specialIn K (.builtin "object.__class__") "__get__"=some (some (.builtin "getset_descriptor.__get__")))(htk:PySem.W.takesIn K (.builtin "object.__class__")=some true)
   (hm:PySem.W.mroIn K C (.type "object")=some true):TyOf K H (.ref a) (.ref C)
theorem zahw {x:V} {u t:Value} (I:Inv X pins σ H s) (rx:RelV x u) (ty:TyOf X.K H x t) (e:PySem.W.kitOne X.K t c=some b) (h:∀tk,Q (.bool b) {s with toks:=tk}) :
  wpAny (model X.prog X.w) A (call (.builtin "isinstance") [u,c]) Q E s:=by
 cases ty with
 | non=>cases(show u=Value.none from rx);exact qAV PySem.W.kitx_none I.kIn True.intro e (λz=>nomatch z) h
 | bl y=>cases(show u=Value.bool y from rx);exact qAV PySem.W.kitx_bool I.kIn True.intro e (λz=>nomatch z) h
 | int i=>obtain⟨t,q⟩:=(show ∃t,u=Value.int i t from rx);cases q;exact qAV PySem.W.kitx_int I.kIn True.intro e (λz=>nomatch z) h
 | str y=>obtain⟨t,q⟩:=(show ∃t,u=Value.str y t from rx);cases q;exact qAV PySem.W.kitx_str I.kIn True.intro e (λz=>nomatch z) h
 | flt y=>obtain⟨t,q⟩:=(show ∃t,u=Value.float y t from rx);cases q;exact qAV PySem.W.kitx_float I.kIn True.intro e (λz=>nomatch z) h
 | @lst a xs ea=>
  cases(show u=Value.ref a from rx)
  obtain⟨_,_,n,_,h1⟩:=(show zfd X.prog X.w H s.heap a (.lst xs)from I.hok a _ ea)
  exact qAV qCw I.kIn ⟨_,h1,rfl⟩ e (λz=>nomatch z) h
 | @frz a ob xs ea=>
  cases(show u=Value.ref a from rx)
  obtain⟨_,_,_,n,_,h1⟩:=(show zfd X.prog X.w H s.heap a (.frz ob (.lst xs))from I.hok a _ ea)
  exact qAV qCw I.kIn ⟨_,h1,rfl⟩ e (λz=>nomatch z) h
 | @tup a xs ea=>
  cases(show u=Value.ref a from rx)
  obtain⟨_,_,_,p⟩:=(show zfd X.prog X.w H s.heap a (.tup xs)from I.hok a _ ea)
  obtain⟨o,h1,h2,_⟩:=p
  exact qAV PySem.W.kitx_tuple I.kIn ⟨o,h1,h2⟩ e (λz=>nomatch z) h
 | @dK a kvs ea=>
  cases(show u=Value.ref a from rx)
  obtain⟨_,_,vs,_,p⟩:=(show zfd X.prog X.w H s.heap a (.dK kvs)from I.hok a _ ea)
  obtain⟨o,es,ep,h1,h2,_⟩:=p
  exact qAV qCx I.kIn ⟨o,h1,h2.1⟩ e (λz=>nomatch z) h
 | @dT a kvs ea=>
  cases(show u=Value.ref a from rx)
  obtain⟨_,_,xs,_,o,es,ep,h1,h2,_⟩:=(show zfd X.prog X.w H s.heap a (.dT kvs)from I.hok a _ ea)
  exact qAV qCx I.kIn ⟨o,h1,h2.1⟩ e (λz=>nomatch z) h
 | @ins a C dx fs ea cl ha hn htk hm=>
  cases(show u=Value.ref a from rx)
  obtain⟨mA,O,_⟩:=zaqp I.hok ea
  obtain⟨od,J,_⟩:=O.look
  exact qAV (PySem.W.kitx_own (cl.get _) cl.hd ha hn htk hm) I.kIn J e (λz=>nomatch z) h
end
set_option genInjectivity false in
structure Room(k:Nat)(A:Around):Prop where
 hd:A.handled=none
 dp:A.depth+3 * k+5<recursionLimit
 un:A.units+16 * k+200<cLine
theorem Room.mono{j k:Nat}{A:Around}(r:Room k A)(h:j<=k):Room j A:=⟨r.hd,by have:=r.dp;omega,by have:=r.un;omega⟩
theorem Room.deeper{k:Nat}{A:Around}(r:Room (k+1) A)(env:Env):Room k (A.deeper env):=
 ⟨r.hd,by have:=r.dp;show A.depth+1+3 * k+5<_;omega,by have:=r.un;show A.units+3+16 * k+200<_;omega⟩
theorem zagi{A:Around}{C:Addr}{us:List Value}{kw:List (Str×Value)}:(A.under (.builtin "type.__call__" ⟨.ref C::us,kw⟩)).depth=A.depth+1:=by
 first|rfl|simp[Around.under,Code.weight,Code.isCreation,Code.isGuard,Code.isCaller,Code.frames,Code.isFrame,guardIds]
theorem zagj{A:Around}{C:Addr}{us:List Value}{kw:List (Str×Value)}:(A.under (.builtin "type.__call__" ⟨.ref C::us,kw⟩)).units=A.units+1:=by
 first|rfl|simp[Around.under,Code.cUnits,Code.frames,Code.isFrame]
theorem Room.make{k:Nat}{A:Around}(r:Room (k+1) A)(C:Addr)(us:List Value)(kw:List (Str×Value)):Room k (A.under (.builtin "type.__call__" ⟨.ref C::us,kw⟩)):=
 ⟨r.hd,by have:=r.dp;rw[zagi];omega,by have:=r.un;rw[zagj];omega⟩
theorem Room.depth{k:Nat}{A:Around}(r:Room k A):A.depth<recursionLimit:=by have:=r.dp;omega
theorem Room.units{k:Nat}{A:Around}(r:Room k A):A.units+64<cLine:=by have:=r.un;omega
noncomputable def tNil:TA:=λ_ H Q=>Q [] H
noncomputable def tCons(ta:TE)(tr:TA):TA:=λσ H Q=>ta σ H λx H1=>tr σ H1 λxs H2=>Q (x::xs) H2
section
variable{X:Cx}{e:Expr}{es:List Expr}{te:TE}{t:TA}{pos:Pos}
theorem zahx:PA X [] tNil:=λ_ _ _ _ H Q I h=>Calls.spliced_nil ⟨[],H,I,.nil,h⟩
theorem zwu(ha:PE X e te)(hr:PA X es t)(hs:starEach (e::es) X.env=(false,eval e X.env)::starEach es X.env:=by rfl):PA X (e::es) (tCons te t):=by
 intro pos pins s σ H Q I h
 rw[hs]
 show wpAny _ _ (spliced ((false,eval e X.env)::backTo pos (starEach es X.env))) _ _ s
 refine Calls.spliced_cons (thn (ha pins s σ H _ I h) λu s1 ⟨x,H1,I1,r1,q1⟩=>?_)
 exact thn (hr pos pins s1 σ H1 _ I1 q1) λus s2 ⟨xs,H2,I2,r2,q2⟩=>⟨x::xs,H2,I2,.cons r1 r2,q2⟩
noncomputable def tTup(t:TA):TE:=λσ H Q=>t σ H λxs H1=>xs.length<=qX/\∀p,H1 p=none->Q (.ref p) (upd H1 p (.tup xs))
noncomputable def tLst(t:TA):TE:=λσ H Q=>t σ H λxs H1=>xs.length<=qX/\∀p,H1 p=none->Q (.ref p) (upd H1 p (.lst xs))
theorem zaup{x1}(h:PA X es t):PE X (.Tuple es x1 pos) (tTup t):=by
 intro pins s σ H Q I hq
 refine wpAny_Tuple_spliced (thn (h pos pins s σ H _ I hq) λus s1 ⟨xs,H1,I1,r,z,q⟩=>⟨by rw[<- r.length];exact z,?_⟩)
 have hf:H1 s1.heap.objs.size=none:=I1.hok.fresh (qK _)
 refine⟨.ref s1.heap.objs.size,upd H1 s1.heap.objs.size (.tup xs),I1.laid (t':=s1.toks) (λb u e=>qF _ e) (qK _) ?_,rfl,q _ hf⟩
 exact⟨z,us,r,⟨_,qb _ rfl,rfl,_,rfl⟩⟩
theorem zauq(h:PA X es t):PE X (.List es pos) (tLst t):=by
 intro pins s σ H Q I hq
 refine wpAny_List_spliced (thn (h pos pins s σ H _ I hq) λus s1 ⟨xs,H1,I1,r,z,q⟩=>⟨by rw[<- r.length];exact z,?_⟩)
 have hf:H1 s1.heap.objs.size=none:=I1.hok.fresh (qK _)
 refine⟨.ref s1.heap.objs.size,upd H1 s1.heap.objs.size (.lst xs),I1.laid (t':=s1.toks) (λb u e=>qF _ e) (qK _) ?_,rfl,q _ hf⟩
 exact⟨z,us,0,r,qb _ rfl⟩
end
noncomputable abbrev Sp:=List V->Hp->VK->XK->Prop
noncomputable abbrev CXT:=List Env->Hp->Shared->XK->Value->Shared->Prop
set_option genInjectivity false in
structure Env0(P:Program)(w:World)(K:qC)(mg:Str->Option Value)(base:Heap)(A:Around)(outer:List Env)(s:Shared)(H:Hp):Prop where
 frames:A.frames=some outer
 mod:Mod K mg base
 bs:∀b o,base.get? b=some o->s.heap.get? b=some o/\H b=none
 bsz:base.objs.size<=s.heap.objs.size
 funs:s.heap.FunFrames base outer
 frf:∀b∈frs outer,H b=none
 hok:HOk P w H s.heap
 bare:AllBare s.gens
noncomputable def CE(outer:List Env)(P:Program)(w:World)(H:Hp)(s:Shared)(Q:VK)(u:Value)(s':Shared):Prop:=
 ∃v H',s'.os=s.os/\AllBare s'.gens/\Un (frs outer) [] H H' s.heap s'.heap/\HOk P w H' s'.heap/\RelV v u/\Q v H'
noncomputable def CR(CX:CXT)(outer:List Env)(P:Program)(w:World)(H:Hp)(s:Shared)(Q:VK)(E:XK)(r:Result)(s':Shared):Prop:=
 match r with
 | .ok (.ret u)=>CE outer P w H s Q u s'
 | .ok _=>False
 | .error e=>CX outer H s E e s'
set_option genInjectivity false in
structure FnOk(P:Program)(w:World)(K:qC)(mg:Str->Option Value)(base:Heap)(CX:CXT)(k:Nat)(f:Addr)(fd:qt)(ps:List Str)(sp:Sp):Prop where
 len:∀vs H Q E,sp vs H Q E->vs.length=ps.length
 run:∀(A:Around)(outer:List Env)(s:Shared)(H:Hp)(args:Args)(us:List Value)(vs:List V)(Q:VK)(E:XK),Room k A->Env0 P w K mg base A outer s H->BindsTo s fd args (ps.zip us)->Vals vs us->sp vs H Q E->
  codeAny (model P w) A (.call (.ref f) args) (CR CX outer P w H s Q E) s
theorem Env0.make{P:Program}{w:World}{K:qC}{mg:Str->Option Value}{base:Heap}{A:Around}{outer:List Env}{s:Shared}{H:Hp}(e:Env0 P w K mg base A outer s H)(C:Addr)(us:List Value)(kw:List (Str×Value)) :
  Env0 P w K mg base (A.under (.builtin "type.__call__" ⟨.ref C::us,kw⟩)) outer s H:=⟨by first|exact e.frames|(simpa [Around.under,Code.envs,Code.isFrame,pushEnvs]using e.frames),e.mod,e.bs,e.bsz,e.funs,e.frf,e.hok,e.bare⟩
section
variable{X:Cx}{pins:List (Addr×Obj)}{σ:St}{H:Hp}{s s':Shared}
theorem Inv.env0(I:Inv X pins σ H s):Env0 X.prog X.w X.K X.mg X.base X.A X.stack s H:=
 ⟨I.ok.frames,I.ok.mod,I.bs,qv I.ok.bsz I.sz,I.stack,I.stkFree,I.hok,I.bare⟩
theorem Inv.after{Q:VK}{u:Value}(I:Inv X pins σ H s)(h:CE X.stack X.prog X.w H s Q u s'):EP X pins σ Q u s':=by
 obtain⟨v,H',os,bare,un,hok,r,q⟩:=h
 obtain⟨hh,g,d,t,os'⟩:=s'
 obtain rfl:os'=s.os:=os
 exact⟨v,H',I.call (h':=hh) (g':=g) (d':=d) (t':=t) (ch:=[]) un hok bare (λb z=>absurd z (by simp)),r,q⟩
end
noncomputable def tCall(sp:Sp)(dvs:List V)(E:XK)(t:TA):TE:=λσ H Q=>t σ H λvs H1=>sp (vs++dvs) H1 Q E
noncomputable def zrg(K:qC)(fd:qt)(ps:List Str)(ds:List Value):Prop:=
 ∀(s:Shared)(us:List Value),K.In s.heap->(us++ds).length=ps.length->BindsTo s fd ⟨us,[]⟩ (ps.zip (us++ds))
theorem zrg.all{K:qC}{fd:qt}{ps:List Str}(h:∀us:List Value,us.length=ps.length->bindArgs fd ⟨us,[]⟩=pure (ps.zip us)):zrg K fd ps []:=λs us _ hl=>by
 rw[qAC]at hl ⊢
 exact .of_eq (h us hl)
noncomputable def zyv(CX:CXT)(X:Cx)(E:XK):Prop:=∀(pins:List (Addr×Obj))(σ:St)(H:Hp)(s:Shared)(e:Value)(s':Shared),Inv X pins σ H s->CX X.stack H s E e s'->X.xe e s'
section
variable{X:Cx}{CX:CXT}{k:Nat}{f C:Addr}{fd:qt}{ps:List Str}{sp:Sp}{dvs:List V}{ds:List Value}{E:XK}{x m:Str}{p pos apos:Pos}{e o:Expr}{es:List Expr}{ta:TE}{t:TA}
theorem zaur{pins:List (Addr×Obj)}{σ:St}{H:Hp}{s:Shared}{Q:VK}{us:List Value}{vs:List V}(F:FnOk X.prog X.w X.K X.mg X.base CX k f fd ps sp)(hr:Room k X.A)(hb:zrg X.K fd ps ds)(hd:Vals dvs ds)(hx:zyv CX X E)
  (I:Inv X pins σ H s) (r:Vals vs us) (h:sp (vs++dvs) H Q E):wpAny (model X.prog X.w) X.A (call (.ref f) us) (EP X pins σ Q) X.xe s:=by
 have r2:Vals (vs++dvs) (us++ds):=r.append hd
 have hl:(us++ds).length=ps.length:=by rw[<- r2.length];exact F.len _ _ _ _ h
 refine qCW (qBe (F.run X.A X.stack s H ⟨us,[]⟩ (us++ds) (vs++dvs) Q E hr I.env0 (hb s us I.kIn hl) r2 h) λr s' hq=>?_)
 cases r with
 | error e=>exact hx pins σ H s e s' I hq
 | ok fl=>
  cases fl with
  | ret u=>exact I.after hq
  | next=>exact False.elim hq
  | brk=>exact False.elim hq
  | cont=>exact False.elim hq
theorem zahy(F:FnOk X.prog X.w X.K X.mg X.base CX k f fd ps sp)(hr:Room k X.A)(hg:Gl X x)(hm:X.mg x=some (.ref f))(hk:qN X.K (.ref f)=true)(hb:zrg X.K fd ps ds)(hd:Vals dvs ds)(hx:zyv CX X E)
  (ha:PA X (e::es) t)(hdb:(x==("__debug__":Str))=false:=by decide)(he:starEach (e::es) X.env=(false,eval e X.env)::starEach es X.env:=by rfl)(hpl:(backTo pos (starEach es X.env)).any (·.1)=false:=by rfl) :
  PE X (.Call (.Name x p) (e::es) [] pos) (tCall sp dvs E t):=by
 intro pins s σ H Q I h
 refine qBV (zrx I hg hm ?_ hdb)
 refine qB7 (h₀:=X.base) I.ok.mod.kin hk (thn (ha pos pins s σ H _ I h) λus s1 ⟨vs,H1,I1,r,q⟩=>⟨I1.kIn,?_⟩) he hpl
 exact zaur F hr hb hd hx I1 r q
set_option genInjectivity false in
end
section
variable{X:Cx}{CX:CXT}{k:Nat}{f C:Addr}{fd:qt}{ps ks:List Str}{sp:Sp}{E:XK}{x m:Str}{p pos apos kpos:Pos}{e o:Expr}{es:List Expr}{kws:List Keyword}{te ta:TE}{t tk:TA}{nm:Option Str}
set_option genInjectivity false in
variable{g:List Value->List Value->List Value}{gV:List V->List V->List V}
end
set_option genInjectivity false in
structure FnScope(N P:List Str)(sc:Scope):Prop where
 kind:sc.kind=.function
 co:sc.isCoroutine=false
 gen:sc.isGenerator=false
 nd:N.Nodup
 pre:N.take P.length=P
 par:∀x∈P,sc.names.lookup x=some .local\/sc.names.lookup x=some .cell
 nofree:∀y∈sc.names,y.2≠.free
theorem zyw{kindOf:Str->Option NameKind}{x:Str}:∀{binds:List (Str×Value)}{m:Str->Option Value},(∀v,(x,v)∉binds)->bindL kindOf binds m x=m x
 | [],_,_=>rfl
 | (n,v)::r,m,h=>by
  unfold bindL
  rw[zyw λw hw=>h w (qW _ hw)]
  split
  ·have:x≠n:=by rintro rfl;exact h v qo
   simp[this]
  ·rfl
theorem zyx{kindOf:Str->Option NameKind}{x:Str}:∀{binds:List (Str×Value)}{m:Str->Option Value},(∀v,(x,v)∉binds)->bindC kindOf binds m x=m x
 | [],_,_=>rfl
 | (n,v)::r,m,h=>by
  unfold bindC
  rw[zyx λw hw=>h w (qW _ hw)]
  split
  ·rfl
  ·have:x≠n:=by rintro rfl;exact h v qo
   simp[this]
theorem zyy{kindOf:Str->Option NameKind}{x:Str}{v:Value}:∀{P:List Str}{vs:List Value}{i:Nat}{m:Str->Option Value},P.Nodup->P[i]?=some x->vs[i]?=some v->kindOf x=some .local->
  bindL kindOf (P.zip vs) m x=some v
 | [],_,_,_,_,h,_,_=>by simp at h
 | _::_,[],_,_,_,_,h,_=>by simp at h
 | p::P,w::vs,0,m,nd,h1,h2,hk=>by
  simp at h1 h2;subst h1;subst h2
  show bindL kindOf ((p,w)::P.zip vs) m p=_
  unfold bindL
  rw[zyw λv hv=>(qAw.mp nd).1 (qBM hv).1,if_pos hk]
  simp
 | p::P,w::vs,i+1,m,nd,h1,h2,hk=>by
  show bindL kindOf ((p,w)::P.zip vs) m x=_
  unfold bindL
  exact zyy (i:=i) (qAw.mp nd).2 (by simpa using h1) (by simpa using h2) hk
theorem zyz{kindOf:Str->Option NameKind}{x:Str}{v:Value}:∀{P:List Str}{vs:List Value}{i:Nat}{m:Str->Option Value},P.Nodup->P[i]?=some x->vs[i]?=some v->kindOf x≠some .local->
  bindC kindOf (P.zip vs) m x=some v
 | [],_,_,_,_,h,_,_=>by simp at h
 | _::_,[],_,_,_,_,h,_=>by simp at h
 | p::P,w::vs,0,m,nd,h1,h2,hk=>by
  simp at h1 h2;subst h1;subst h2
  show bindC kindOf ((p,w)::P.zip vs) m p=_
  unfold bindC
  rw[zyx λv hv=>(qAw.mp nd).1 (qBM hv).1,if_neg hk]
  simp
 | p::P,w::vs,i+1,m,nd,h1,h2,hk=>by
  show bindC kindOf ((p,w)::P.zip vs) m x=_
  unfold bindC
  exact zyz (i:=i) (qAw.mp nd).2 (by simpa using h1) (by simpa using h2) hk
noncomputable def zhg(N:List Str)(vs:List V):St:=vs.map some++List.replicate (N.length - vs.length) none
noncomputable def cxOf(CX:CXT)(P:Program)(w:World)(K:qC)(mg:Str->Option Value)(base:Heap)(N:List Str)(qual:Str)(scope:Scope)(f:Addr)(cd:Value)(A:Around)(outer:List Env)(s:Shared)(H:Hp)(E:XK):Cx where
 prog:=P
 w:=w
 K:=K
 mg:=mg
 base:=base
 A:=A.deeper (envOfC qual scope s.heap.objs.size f cd)
 N:=N
 s₀:=s
 H₀:=H
 env:=envOfC qual scope s.heap.objs.size f cd
 outer:=outer
 stack:=envOfC qual scope s.heap.objs.size f cd::outer
 ex:=[]
 calm:=true
 fn:=λ_=>true
 pn:=[]
 xe:=λe s'=>wpAny (model P w) (A.deeper (envOfC qual scope s.heap.objs.size f cd)) (leaving (envOfC qual scope s.heap.objs.size f cd) e) (λ_ s''=>CX outer H s E e s'') (λe' s''=>CX outer H s E e' s'') s'
theorem zwv{sc:Scope}{n:Nat}{x:Str}(h:sc.names.lookup x=some .cell):∃c,(cellsFrom n sc.names []).lookup x=some c:=by
 have q:=qBs sc.names n [] (.inl h)
 exact Option.isSome_iff_exists.mp q
theorem zza{CX:CXT}{P:Program}{w:World}{K:qC}{mg:Str->Option Value}{base:Heap}{N ps:List Str}{qual:Str}{scope:Scope}{f:Addr}{cd:Value}{A:Around}{outer:List Env}{s s1:Shared}{H:Hp}{E:XK}{us:List Value}{vs:List V}
  (S:FnScope N ps scope)(hd:A.handled=none)(e0:Env0 P w K mg base A outer s H)(hl:vs.length=ps.length)(r:Vals vs us)
  (x:InCallC s s.heap.objs.size (bindL (envOfC qual scope s.heap.objs.size f cd).kindOf (ps.zip us) λ_=>none) (cellsFrom (s.heap.objs.size+1) scope.names []) (bindC (envOfC qual scope s.heap.objs.size f cd).kindOf (ps.zip us) λ_=>none) s1) :
  Inv (cxOf CX P w K mg base N qual scope f cd A outer s H E) [] (zhg N vs) H s1:=by
 have hpl:ps.length<=N.length:=by have:=congrArg List.length S.pre;rw[qA6]at this;omega
 obtain⟨h1,tk,rfl,hk⟩:=x.done
 have noA:∀b:Addr,b∉(cxOf CX P w K mg base N qual scope f cd A outer s H E).ex:=λb z=>absurd (show b∈([]:List Addr)from z) (by simp)
 refine⟨⟨e0.mod,S.kind,rfl,rfl,qK _,λy z c h1 h2=>?_,λy hy=>?_,λy c _ h=>?_,λ_=>hd,Around.frames_deeper e0.frames,.inr ⟨rfl,rfl⟩,λb z=>absurd z (noA b),e0.bs,e0.bsz,λb _ _=>noA b,λb z=>absurd z (noA b),e0.funs,e0.frf⟩,
  rfl,e0.bare,Un.kept hk,⟨_,x.toInCall.ns,λi y v h1 h2 h3=>?_⟩,λy c h=>⟨_,x.cell y c h⟩,e0.hok.fresh (qK _),λy c h=>?_,λp hp=>absurd (show p∈([]:List (Addr×Obj))from hp) (by simp),e0.hok.kept hk,?_⟩
 ·exact name_of_addr x.apart (qAN h1) (qAN h2)
 ·have hy:scope.names.lookup y=some .cell\/scope.names.lookup y=some .free:=hy
  rcases hy with hy|hy
  ·exact zwv hy
  ·exact absurd rfl (S.nofree _ (qAN hy))
 ·exact qB4 (x.above y c (qAN h))
 ·have hi:i<vs.length:=by
   unfold zhg at h2
   by_cases hi:i<vs.length
   ·exact hi
   ·rw[qAA (by simpa using hi)]at h2
    rw[qBv]at h2
    split at h2<;>cases h2
  have ha:vs[i]?=some v:=by
   unfold zhg at h2
   rw[qAO (by simpa using hi),qr]at h2
   cases e:vs[i]? with
   | none=>rw[e]at h2;cases h2
   | some a=>rw[e]at h2;cases h2;rfl
  obtain⟨u,hu,rv⟩:=r.get ha
  have hp:ps[i]?=some y:=by
   rw[<- S.pre,List.getElem?_take_of_lt (by omega)];exact h1
  have ndP:ps.Nodup:=by rw[<- S.pre];exact S.nd.sublist (List.take_sublist _ _)
  refine⟨u,rv,?_⟩
  rcases S.par y (qBc hp)with k|k
  ·exact .inl ⟨k,zyy ndP hp hu k⟩
  ·obtain⟨c,e⟩:=zwv (n:=s.heap.objs.size+1) k
   refine .inr ⟨.inl k,c,e,?_⟩
   have q:=x.cell y c e
   rw[zyz ndP hp hu (by show scope.names.lookup y≠_;rw[k];decide)]at q
   exact q
 ·exact e0.hok.fresh (qB4 (x.above y c (qAN h)))
 ·unfold zhg
  show _=N.length
  rw[qH,qE,qB0]
  omega
theorem zaya{CX:CXT}{P:Program}{w:World}{K:qC}{mg:Str->Option Value}{base:Heap}{k:Nat}{f:Addr}{name qual:Str}{params:Arguments}{body:List Stmt}{scope:Scope}{dV kV doc pm cdv ct oc:Value}{an od:Option Addr}
  {osl:Array (Option Value)}{N ps:List Str}{sp:Sp}(lk:K.lookup f=some ⟨oc,od,.func (qY name qual params body scope dV kV doc pm an cdv ct),osl⟩)(hcd:qT K cdv qual=true)(S:FnScope N ps scope)
  (len:∀vs H Q E,sp vs H Q E->vs.length=ps.length)
  (hbody:∀(A:Around)(outer:List Env)(s:Shared)(H:Hp)(vs:List V)(Q:VK)(E:XK),Room k (A.deeper (envOfC qual scope s.heap.objs.size f cdv))->sp vs H Q E->
   ∃t,PSs (cxOf CX P w K mg base N qual scope f cdv A outer s H E) body t/\t {nx:=λ_ H'=>Q .non H',rt:=Q} (zhg N vs) H) :
  FnOk P w K mg base CX (k+1) f (qY name qual params body scope dV kV doc pm an cdv ct) ps sp:=by
 refine⟨len,λA outer s H args us vs Q E hr e0 hb r hsp=>?_⟩
 have hl:=len _ _ _ _ hsp
 have KX:K.In s.heap:=e0.mod.kin.keeps λb o e=>(e0.bs b o e).1
 have lim:s.heap.NoLimit:=e0.mod.nolimit.keeps λb o e=>(e0.bs b o e).1
 have hkind:∀y∈ps.zip us,scope.names.lookup y.1=some .local\/(scope.names.lookup y.1=some .cell/\((cellsFrom (s.heap.objs.size+1) scope.names []).lookup y.1).isSome=true):=λ⟨n,v⟩ hy=>by
  rcases S.par n (qBM hy).1 with q|q
  ·exact .inl q
  ·exact .inr ⟨q,qBs _ _ _ (.inl q)⟩
 refine codeAny_call_function hr.depth (KX _ _ lk) rfl S.co S.gen rfl (qCs KX hcd) (hb _ _ _ _ ?_)
 refine qCr S.kind hkind λenv he s1 x=>?_
 subst he
 refine⟨lim.keeps x.toInCall.keep,codeAny_func ?_⟩
 obtain⟨t,ht,hq⟩:=hbody A outer s H vs Q E (hr.deeper _) hsp
 have I:Inv (cxOf CX P w K mg base N qual scope f cdv A outer s H E) [] (zhg N vs) H s1:=zza S hr.hd e0 hl r x
 refine qBJ (ht [] s1 (zhg N vs) H _ I hq) (λfl s' hs=>?_) λe s' hs=>hs
 have fin:∀{σ':St}{H':Hp}{v:V}{u:Value},Inv (cxOf CX P w K mg base N qual scope f cdv A outer s H E) [] σ' H' s'->RelV v u->Q v H'->CE outer P w H s Q u s':=
  λ{σ' H' v u} J rv q=>⟨v,H',J.os,J.bare,J.base,J.hok,rv,q⟩
 cases fl with
 | ret u=>
  obtain⟨v,σ',H',J,rv,q⟩:=hs
  exact fin J rv q
 | next=>
  obtain⟨σ',H',J,q⟩:=hs
  exact fin (v:=V.non) (u:=Value.none) J rfl q
 | brk=>
  obtain⟨_,_,_,q⟩:=hs
  exact False.elim q
 | cont=>
  obtain⟨_,_,_,q⟩:=hs
  exact False.elim q
section
variable{X:Cx}{x:Str}{p pos:Pos}{e:Expr}{es:List Expr}{t:TA}{id T:String}{r:List V->Hp->VK->Prop}
noncomputable def tCB(r:List V->Hp->VK->Prop)(t:TA):TE:=λσ H Q=>t σ H λvs H1=>r vs H1 Q
theorem zama(hc:CallR X (.builtin id) r)(hg:Gl X x)(hm:X.mg x=none)(hv:bootBuiltins x=some (.builtin id))(ha:PA X (e::es) t)(hn:x≠"__name__":=by decide)(hdb:(x==("__debug__":Str))=false:=by decide)
  (he:starEach (e::es) X.env=(false,eval e X.env)::starEach es X.env:=by rfl) (hpl:(backTo pos (starEach es X.env)).any (·.1)=false:=by rfl):PE X (.Call (.Name x p) (e::es) [] pos) (tCB r t):=by
 intro pins s σ H Q I h
 refine qBV (zry I hg hm hv ?_ hn hdb)
 exact PyProof.Rows.callWith_builtin1 (thn (ha pos pins s σ H _ I h) λus s1 ⟨vs,H1,I1,r1,q1⟩=>hc pins s1 σ H1 vs us Q I1 r1 q1) he hpl
theorem zahz(hc:CallR X (.type T) r)(hg:Gl X x)(hm:X.mg x=none)(hv:bootBuiltins x=some (.type T))(ha:PA X (e::es) t)(hn:x≠"__name__":=by decide)(hdb:(x==("__debug__":Str))=false:=by decide)
  (he:starEach (e::es) X.env=(false,eval e X.env)::starEach es X.env:=by rfl) (hpl:(backTo pos (starEach es X.env)).any (·.1)=false:=by rfl):PE X (.Call (.Name x p) (e::es) [] pos) (tCB r t):=by
 intro pins s σ H Q I h
 refine qBV (zry I hg hm hv ?_ hn hdb)
 exact qBQ (thn (ha pos pins s σ H _ I h) λus s1 ⟨vs,H1,I1,r1,q1⟩=>hc pins s1 σ H1 vs us Q I1 r1 q1) he hpl
end
end L2
namespace HT
open PySem PyProof.Rows
section
open PySem.SeqAt
open PySem.AutoSeq1 (wpAny_loadPart')
open PySem.MeetsSeq PySem.MeetsSeq2 PySem.MeetsSeq3
end
section
variable{prog:Program}{w:World}{A:Around}{E:Value->Shared->Prop}{s:Shared}
theorem cat_tup{t b:Addr}{vs ws:List Value}{Q:Value->Shared->Prop}(ht:IsTup s.heap t vs.toArray)(hb:IsTup s.heap b ws.toArray)(hv:vs≠[])
  (h1:ws=[]->Q (.ref t) s) (h2:ws≠[]->Q (.ref s.heap.objs.size) {s with heap:=s.heap.push {cls:=.type "tuple",data:=.seq (vs++ws).toArray}})
  (hsz:vs.length+ws.length<=qX):wpAny (model prog w) A (binaryOp .Add (.ref t) (.ref b)) Q E s:=by
 obtain⟨⟨cls,dd,data,sl⟩,ho,hc,n,hd⟩:=id ht
 obtain⟨⟨cls2,dd2,data2,sl2⟩,ho2,hc2,n2,hd2⟩:=id hb
 simp only at hc hd hc2 hd2
 subst hc hd hc2 hd2
 have e:vs.toArray++ws.toArray=(vs++ws).toArray:=by simp
 by_cases hw:ws=[]
 ·exact concat_meets ⟨_,ho,rfl⟩ ⟨_,ho2,rfl⟩ qCe seq_tuple_add qBt qBo (qBi _ _)
   (tuple_addW1 t b vs.toArray ws.toArray n n2 dd dd2 sl sl2 (by simpa using hv) (by simp[hw])) ⟨ho,ho2,h1 hw⟩
 ·refine concat_meets ⟨_,ho,rfl⟩ ⟨_,ho2,rfl⟩ qCe seq_tuple_add qBt qBo (qBi _ _)
   (tuple_addW2 t b vs.toArray ws.toArray n n2 dd dd2 sl sl2 (by simpa using hv) (by simpa using hw) (by rw[qP,qP];exact hsz)) ⟨ho,ho2,?_⟩
  rw[e]
  exact h2 hw
noncomputable def sIx(n d:Nat):Option Int->Nat
 | none=>d
 | some v=>if v<0 then(v+(n:Int)).toNat else min v.toNat n
theorem sIx_nat(n d k:Nat):sIx n d (some (k:Int))=min k n:=by
 show(if(k:Int)<0 then((k:Int)+(n:Int)).toNat else min (k:Int).toNat n)=min k n
 rw[if_neg (by omega),qAz]
theorem zaus(n d:Nat)(hd:d<=n)(o:Option Int):sIx n d o<=n:=by
 cases o with
 | none=>exact hd
 | some v=>
  show(if v<0 then(v+(n:Int)).toNat else min v.toNat n)<=n
  by_cases hv:v<0
  ·rw[if_pos hv];omega
  ·rw[if_neg hv];exact Nat.min_le_right _ _
theorem zaia(v:Int)(n d:Nat):(if v<0 then max (v+(n:Int)) 0 else min v (n:Int))=((sIx n d (some v):Nat):Int):=by
 show(if v<0 then max (v+(n:Int)) 0 else min v (n:Int))=(((if v<0 then(v+(n:Int)).toNat else min v.toNat n):Nat):Int)
 by_cases hv:v<0
 ·simp only[if_pos hv];omega
 ·simp only[if_neg hv];omega
theorem zagk(lo hi:Option Int)(n:Nat):Builtin.Slice.sliceAdjust lo hi 1 (n:Int)=(((sIx n 0 lo:Nat):Int),((sIx n n hi:Nat):Int)):=by
 have h1:¬((1:Int)<0):=by omega
 unfold Builtin.Slice.sliceAdjust
 simp only[h1,if_false]
 refine Prod.ext ?_ ?_
 ·cases lo with
  | none=>rfl
  | some v=>exact zaia v n 0
 ·cases hi with
  | none=>rfl
  | some v=>exact zaia v n n
theorem zagl(i j:Nat):Builtin.Slice.slicePlaces (i:Int) (j:Int) 1=j - i:=by
 unfold Builtin.Slice.slicePlaces
 have h1:(1:Int) > 0:=by omega
 simp only[h1,if_true,Int.ediv_one]
 split<;>omega
theorem zve{v:Value}{o:Option Int}{Q:Option Int->Shared->Prop}(p:IsPart v o)(h:Q o s):wpAny (model prog w) A (Builtin.Slice.slicePartIndex v) Q E s:=by
 cases p with
 | none=>exact slicePart_none h
 | int i t=>exact slicePart_int h
theorem zkl{sl:Addr}{vl vu:Value}{lo hi:Option Int}{n:Nat}{Q:Int×Int×Nat->Shared->Prop}(hs:s.heap.IsSliceOf sl vl vu .none)(pl:IsPart vl lo)(pu:IsPart vu hi)
  (h:Q (((sIx n 0 lo:Nat):Int),1,sIx n n hi - sIx n 0 lo) s):wpAny (model prog w) A (Builtin.Slice.sliceApplied (.ref sl) (pure (n:Int))) Q E s:=by
 obtain⟨os,hos,hcs,hds⟩:=id hs
 unfold Builtin.Slice.sliceApplied Builtin.Slice.sliceFields
 refine qD (qD (qAS hos hds (x:=vl) rfl (qD (qAS hos hds (x:=vu) rfl (qD (qAS hos hds (x:=.none) rfl (qJ ?_)))))))
 refine qD (slicePart_none ?_)
 show wpAny _ _ (if((1:Int)==0)=true then _ else _) _ _ s
 rw[if_neg (by decide)]
 refine qD (zve pl (qD (zve pu (qD (qJ ?_)))))
 show wpAny _ _ (match Builtin.Slice.sliceAdjust lo hi 1 (n:Int)with|(lo,hi)=>pure (lo,(1:Int),Builtin.Slice.slicePlaces lo hi 1)) _ _ s
 rw[zagk lo hi n]
 show wpAny _ _ (pure (((sIx n 0 lo:Nat):Int),(1:Int),Builtin.Slice.slicePlaces ((sIx n 0 lo:Nat):Int) ((sIx n n hi:Nat):Int) 1)) _ _ s
 rw[zagl]
 exact qJ h
theorem zamb(xs:Array Value)(i k:Nat):((List.range k).filterMap λ(m:Nat)=>xs[((i:Int)+(m:Int) * 1).toNat]?).toArray=((xs.toList.drop i).take k).toArray:=by
 have e:(λ(m:Nat)=>xs[((i:Int)+(m:Int) * 1).toNat]?)=λm=>xs[i+m]?:=by
  funext m
  have:((i:Int)+(m:Int) * 1).toNat=i+m:=by omega
  rw[this]
 rw[e]
 have:=pick_run xs i k
 rw[List.filterMap_map]at this
 have e2:((λx=>xs[x]?)∘λx=>i+x)=λm=>xs[i+m]?:=rfl
 rw[e2]at this
 rw[this]
theorem getItem_tuple_cut{t sl:Addr}{items:Array Value}{vl vu:Value}{lo hi:Option Int}{Q:Value->Shared->Prop}(ht:IsTup s.heap t items)(hs:s.heap.IsSliceOf sl vl vu .none)(pl:IsPart vl lo)(pu:IsPart vu hi)
  (hw:¬(sIx items.size 0 lo=0/\sIx items.size items.size hi=items.size))
  (h:Q (.ref s.heap.objs.size) {s with heap:=s.heap.push {cls:=.type "tuple",data:=.seq ((items.toList.drop (sIx items.size 0 lo)).take (sIx items.size items.size hi - sIx items.size 0 lo)).toArray}})
  (hsz:items.size<=qX):wpAny (model prog w) A (getItem (.ref t) (.ref sl)) Q E s:=by
 have htake:sizeOk (.seq ((items.toList.drop (sIx items.size 0 lo)).take (sIx items.size items.size hi - sIx items.size 0 lo)).toArray):=by
  show((items.toList.drop (sIx items.size 0 lo)).take (sIx items.size items.size hi - sIx items.size 0 lo)).toArray.size<=qX
  rw[qP,qA6,qBb,qCA]
  omega
 have hj:sIx items.size items.size hi<=items.size:=zaus _ _ (qK _) hi
 obtain⟨os,hos,hcs,hds⟩:=id hs
 have hTs:s.TypeIs (.ref sl) "slice":=⟨os,hos,hcs⟩
 unfold getItem
 try with_reducible refine qBS ?_
 first|refine qD (qJ ?_)|skip
 refine qD (wpAny_sequenceKey ht.typeIs (by decide) ?_)
 refine qD (qAj (name:=Str.ofString "__getitem__") ht.typeIs qAU
  (qBC qAU ht.typeIs entry_tuple_getitem ?_ (args_tuple_getitem _ _)))
 show wpAny _ _ (Builtin.Tuple.tupleItemsOf (.ref t) >>=_) _ _ s
 refine qD (tupleItemsOf_ ht ?_)
 refine qD (qCY hTs ?_)
 rw[if_pos (by decide)]
 refine qD (zkl hs pl pu ?_)
 have hno:¬((((sIx items.size 0 lo:Nat):Int)==0&&(1:Int)==1&&(sIx items.size items.size hi - sIx items.size 0 lo)==items.size)=true):=by
  intro q
  rw[qm,qm]at q
  have q1:((sIx items.size 0 lo:Nat):Int)=0:=eq_of_beq q.1.1
  have q2:sIx items.size items.size hi - sIx items.size 0 lo=items.size:=eq_of_beq q.2
  exact hw ⟨by omega,by omega⟩
 show wpAny _ _ (if(((sIx items.size 0 lo:Nat):Int)==0&&(1:Int)==1&&(sIx items.size items.size hi - sIx items.size 0 lo)==items.size)=true then _ else _) _ _ s
 rw[if_neg hno,zamb]
 first
  | exact qD (m:=Builtin.Tuple.tupleExact _) (qAt (qJ ⟨_,rfl,qJ h⟩) htake)
  | exact qD (m:=Builtin.Tuple.tupleExact _) (qAt (qD (qJ (qJ ⟨_,rfl,qJ h⟩))) htake)
  | exact qD (qD (m:=Builtin.Tuple.tupleExact _) (qAt (qJ (qJ ⟨_,rfl,qJ h⟩)) htake))
  | exact qD (qD (m:=Builtin.Tuple.tupleExact _) (qAt (qJ ⟨_,rfl,qJ h⟩) htake))
end
end HT
namespace L2
open PySem PySem.Spec PyProof.Rows
noncomputable abbrev TO:=St->Hp->(Option Int->Hp->Prop)->Prop
noncomputable def PO(X:Cx)(e:Option Expr)(t:TO):Prop:=
 ∀(pins:List (Addr×Obj))(s:Shared)(σ:St)(H:Hp)(Q:Option Int->Hp->Prop),Inv X pins σ H s->t σ H Q->
  wpAny (model X.prog X.w) X.A (evalPart e X.env) (λu s'=>∃o H',Inv X pins σ H' s'/\IsPart u o/\Q o H') X.xe s
noncomputable def tNoPart:TO:=λ_ H Q=>Q none H
noncomputable def tPart(t:TE):TO:=λσ H Q=>t σ H λx H1=>∃i,x=.int i/\Q (some i) H1
section
variable{X:Cx}{e:Expr}{te:TE}{lo hi:Option Expr}{tl th:TO}{pos p2:Pos}
theorem zaqr:PO X none tNoPart:=by
 intro pins s σ H Q I h
 rw[evalPart_none]
 exact qJ ⟨none,H,I,.none,h⟩
theorem zaqs(h:PE X e te):PO X (some e) (tPart te):=by
 intro pins s σ H Q I hw
 rw[evalPart_some]
 refine thn (h pins s σ H _ I hw) λu s1 ⟨x,H1,I1,r1,q1⟩=>?_
 obtain⟨i,rfl,q⟩:=q1
 obtain⟨t,rfl⟩:=r1
 exact⟨some i,H1,I1,.int i t,q⟩
noncomputable def SlR(X:Cx)(r:V->Option Int->Option Int->Hp->VK->Prop):Prop:=
 ∀(pins:List (Addr×Obj))(s:Shared)(σ:St)(H:Hp)(x:V)(v vl vu:Value)(lo hi:Option Int)(sl:Addr)(Q:VK),Inv X pins σ H s->RelV x v->s.heap.IsSliceOf sl vl vu .none->IsPart vl lo->IsPart vu hi->r x lo hi H Q->
  ∃T id,typeLookup (.type T) "__getitem__"=pure (some (.builtin id))/\s.TypeIs v T/\wpAny (model X.prog X.w) X.A (getItem v (.ref sl)) (EP X pins σ Q) X.xe s
noncomputable def tSl(r:V->Option Int->Option Int->Hp->VK->Prop)(te:TE)(tl th:TO):TE:=λσ H Q=>te σ H λx H1=>tl σ H1 λl H2=>th σ H2 λu H3=>r x l u H3 Q
theorem zamc{r:V->Option Int->Option Int->Hp->VK->Prop}(hr:SlR X r)(he:PE X e te)(hl:PO X lo tl)(hu:PO X hi th):PE X (.Subscript e (.Slice lo hi none p2) pos) (tSl r te tl th):=by
 intro pins s σ H Q I h
 refine Subscript_ (thn (he pins s σ H _ I h) λv s1 ⟨x,H1,I1,r1,q1⟩=>?_)
 refine wpAny_Slice (thn (hl pins s1 σ H1 _ I1 q1) λvl s2 ⟨l,H2,I2,pl,q2⟩=>thn (hu pins s2 σ H2 _ I2 q2) λvu s3 ⟨u,H3,I3,pu,q3⟩=>?_)
 rw[evalPart_none]
 refine qJ ?_
 have I4:Inv X pins σ H3 {s3 with heap:=s3.heap.push {cls:=.type "slice",data:=.fields #[vl,vu,.none]}}:=I3.kept (t':=s3.toks) λb ob q=>qF _ q
 obtain⟨T,id,hT,ht,hg⟩:=hr pins {s3 with heap:=s3.heap.push {cls:=.type "slice",data:=.fields #[vl,vu,.none]}} σ H3 x v vl vu l u s3.heap.objs.size Q I4 r1 (Heap.IsSliceOf.new ..) pl pu q3
 show wpAny (model X.prog X.w) X.A (subscriptTail e (.Slice lo hi none p2) v (.ref s3.heap.objs.size)) (EP X pins σ Q) X.xe {s3 with heap:=s3.heap.push {cls:=.type "slice",data:=.fields #[vl,vu,.none]}}
 exact tail_any (ops:=[.ref s3.heap.objs.size,v]) ht hT hg (by with_unfolding_all rfl)
noncomputable def cutV(xs:List V)(lo hi:Option Int):List V:=(xs.drop (HT.sIx xs.length 0 lo)).take (HT.sIx xs.length xs.length hi - HT.sIx xs.length 0 lo)
theorem zsa(xs:List V)(lo hi:Option Int):(cutV xs lo hi).length<=xs.length:=by
 unfold cutV
 rw[qA6,qBb]
 omega
noncomputable def rSlT(K:qC):V->Option Int->Option Int->Hp->VK->Prop:=λx lo hi H Q=>∃a xs,x=.ref a/\SqT K H a xs/\
 ¬(HT.sIx xs.length 0 lo=0/\HT.sIx xs.length xs.length hi=xs.length)/\∀p,H p=none->Q (.ref p) (upd H p (.tup (cutV xs lo hi)))
theorem zaut:SlR X (rSlT X.K):=by
 intro pins s σ H x v vl vu lo hi sl Q I rx hs pl pu h
 obtain⟨a,xs,rfl,hx,hw,q⟩:=h
 cases rx
 obtain⟨its,r,ht,hz⟩:=I.tuple hx
 have hlen:its.toArray.size=xs.length:=by rw[qP];exact r.length.symm
 refine⟨"tuple",_,qAU.lookup,ht.typeIs,?_⟩
 refine HT.getItem_tuple_cut ht hs pl pu (by rw[hlen];exact hw) ?_ (by rw[hlen];exact hz)
 rw[hlen]
 refine⟨.ref s.heap.objs.size,_,I.laid (t':=s.toks) (o:=.tup (cutV xs lo hi)) (λb ob q=>qF _ q) (qK _) ?_,rfl,q _ (I.hok.fresh (qK _))⟩
 exact⟨qv (zsa xs lo hi) hz,_,(r.drop (HT.sIx xs.length 0 lo)).take (HT.sIx xs.length xs.length hi - HT.sIx xs.length 0 lo),IsTup.new _ _⟩
noncomputable def zauu(K:qC):R2:=λx y H Q=>∃a b xs ys,x=.ref a/\y=.ref b/\SqT K H a xs/\SqT K H b ys/\xs≠[]/\xs.length+ys.length<=qX/\
 (ys=[]->Q (.ref a) H)/\(ys≠[]->∀p,H p=none->Q (.ref p) (upd H p (.tup (xs++ys))))
theorem Vals.nil_iff{xs:List V}{us:List Value}(r:Vals xs us):us=[]↔xs=[]:=by
 cases r with
 | nil=>simp
 | cons _ _=>simp
theorem zaqt:OpR X (binaryOp .Add) (zauu X.K):=by
 intro pins s σ H x y v u Q I rx ry h
 obtain⟨a,b,xs,ys,rfl,rfl,ha,hb,hx,hz,q1,q2⟩:=h
 cases rx
 cases ry
 obtain⟨its,r1,p1,_⟩:=I.tuple ha
 obtain⟨its2,r2,p2,_⟩:=I.tuple hb
 refine HT.cat_tup p1 p2 (λz=>hx (r1.nil_iff.mp z)) (λz=>⟨.ref a,H,I,rfl,q1 (r2.nil_iff.mp z)⟩) (λz=>?_) (by rw[<- r1.length,<- r2.length];exact hz)
 refine⟨.ref s.heap.objs.size,_,I.laid (t':=s.toks) (o:=.tup (xs++ys)) (λb ob q=>qF _ q) (qK _) ?_,rfl,q2 (λw=>z (r2.nil_iff.mpr w)) _ (I.hok.fresh (qK _))⟩
 exact⟨by rw[qH];exact hz,_,r1.append r2,IsTup.new _ _⟩
end
noncomputable def ixN(n:Nat)(i:Int):Option Nat:=if 0<=i then(if i<n then some i.toNat else none)else if -(n:Int)<=i then some (i+n).toNat else none
noncomputable def atI{α:Type}(xs:List α)(i:Int):Option α:=(ixN xs.length i).bind λj=>xs[j]?
theorem zaib{n:Nat}{i:Int}{j:Nat}(h:ixN n i=some j):seqIndex? i n=some j/\j<n/\-(n:Int)<=i/\i<n:=by
 unfold ixN at h
 by_cases h0:0<=i
 ·rw[if_pos h0]at h
  by_cases h1:i<n
  ·rw[if_pos h1]at h
   have e:i.toNat=j:=qZ h
   exact⟨by rw[seqIndex_of h0 h1,e],by omega,by omega,h1⟩
  ·rw[if_neg h1]at h;cases h
 ·rw[if_neg h0]at h
  by_cases h1:-(n:Int)<=i
  ·rw[if_pos h1]at h
   have e:(i+n).toNat=j:=qZ h
   exact⟨by rw[seqIndex_neg (by omega) h1,e],by omega,h1,by omega⟩
  ·rw[if_neg h1]at h;cases h
theorem zaca{α:Type}{xs:List α}{i:Int}{v:α}(h:atI xs i=some v):∃j,seqIndex? i xs.length=some j/\xs[j]?=some v/\j<xs.length/\-(xs.length:Int)<=i/\i<xs.length:=by
 unfold atI at h
 cases e:ixN xs.length i with
 | none=>rw[e]at h;cases h
 | some j=>
  rw[e]at h
  obtain⟨h1,h2,h3,h4⟩:=zaib e
  exact⟨j,h1,h,h2,h3,h4⟩
theorem zsb{α:Type}{xs:List α}{j:Nat}{v:α}(h:xs[j]?=some v):atI xs (j:Int)=some v:=by
 have hj:j<xs.length:=(qa.mp h).1
 have e:ixN xs.length (j:Int)=some j:=by
  unfold ixN
  rw[if_pos (by omega),if_pos (by omega)];simp
 unfold atI;rw[e];exact h
noncomputable def PlainIx(b:Expr):Prop:=∀o i,subscripted b false o i=operate [o,i] (getItem o i)
noncomputable def IxR(X:Cx)(r:R2):Prop:=
 ∀(value slice:Expr)(pins:List (Addr×Obj))(s:Shared)(σ:St)(H:Hp)(x y:V)(v u:Value)(Q:VK),Inv X pins σ H s->RelV x v->RelV y u->r x y H Q->
  subscripted slice false v u=operate [v,u] (getItem v u)->wpAny (model X.prog X.w) X.A (subscriptTail value slice v u) (EP X pins σ Q) X.xe s
noncomputable def MtR(X:Cx)(id:String)(r:V->List V->Hp->VK->Prop):Prop:=
 ∀(pins:List (Addr×Obj))(s:Shared)(σ:St)(H:Hp)(x:V)(xs:List V)(v:Value)(us:List Value)(Q:VK),Inv X pins σ H s->RelV x v->Vals xs us->r x xs H Q->
  wpAny (model X.prog X.w) X.A (call (.builtin id) (v::us)) (EP X pins σ Q) X.xe s
section
variable{X:Cx}{a b:Expr}{ta tb:TE}{pos:Pos}
theorem zayb{r:R2}(hr:IxR X r)(ha:PE X a ta)(hb:PE X b tb)(hs:PlainIx b):PE X (.Subscript a b pos) (tOp r ta tb):=by
 intro pins s σ H Q I h
 exact Subscript_ (binT ha hb I h λv u s2 x y H2 I2 rx ry q=>hr a b pins s2 σ H2 x y v u Q I2 rx ry q (hs _ _))
noncomputable def rIxL(K:qC):R2:=λx y H Q=>∃p xs i v,x=.ref p/\y=.int i/\SqL K H p xs/\atI xs i=some v/\Q v H
noncomputable def rIxT(K:qC):R2:=λx y H Q=>∃p xs i v,x=.ref p/\y=.int i/\SqT K H p xs/\atI xs i=some v/\Q v H
noncomputable def rIxS:R2:=λx y H Q=>∃z i c,x=.str z/\y=.int i/\z.length<=qX/\atI z.cps.toList i=some c/\Q (.str ⟨#[c]⟩) H
theorem zaqu:IxR X (rIxL X.K):=by
 intro value slice pins s σ H x y v u Q I rx ry h hs
 obtain⟨p,xs,i,z,rfl,rfl,hq,he,q⟩:=h
 cases rx
 obtain⟨t,rfl⟩:=ry
 obtain⟨its,r,pl,hz⟩:=I.list hq
 obtain⟨j,h1,h2,h3,h4,h5⟩:=zaca he
 obtain⟨w,ew,rw'⟩:=r.get h2
 have hl:=r.length
 have hn:=zvd
 have fin:EP X pins σ Q w s:=⟨z,H,I,rw',q⟩
 by_cases h0:0<=i
 ·have hj:i.toNat=j:=by
   rw[seqIndex_of h0 h5]at h1
   exact qZ h1
  exact item_listR pl.isList h0 (by omega) (by rw[hj];simpa using ew) fin hs
 ·have hj:(i+(its.toArray.size:Int)).toNat=j:=by
   rw[seqIndex_neg (by omega) h4]at h1
   rw[qP,<- hl]
   exact qZ h1
  exact subscriptTail_builtinR (x:=w) pl.isList.typeIs slot_list_getitem.lookup
   (wpAny_getItem_list_neg (Q:=λr s'=>r=w/\EP X pins σ Q r s') pl.isList (by omega) (by rw[qP]<;>omega) (by omega) (by rw[hj];simpa using ew) ⟨rfl,fin⟩) hs
theorem zauv:IxR X (rIxT X.K):=by
 intro value slice pins s σ H x y v u Q I rx ry h hs
 obtain⟨p,xs,i,z,rfl,rfl,hq,he,q⟩:=h
 cases rx
 obtain⟨t,rfl⟩:=ry
 obtain⟨its,r,pl,hz⟩:=I.tuple hq
 obtain⟨j,h1,h2,h3,h4,h5⟩:=zaca he
 obtain⟨w,ew,rw'⟩:=r.get h2
 have hl:=r.length
 have hn:=zvd
 have fin:EP X pins σ Q w s:=⟨z,H,I,rw',q⟩
 exact subscriptTail_builtinR (x:=w) pl.typeIs slot_tuple_getitem.lookup
  (getItem_tuple (j:=j) (Q:=λr s'=>r=w/\EP X pins σ Q r s') pl (by omega) (by omega) (by rw[qP,<- hl];exact h1) (by simpa using ew) ⟨rfl,fin⟩) hs
theorem zauw:IxR X rIxS:=by
 intro value slice pins s σ H x y v u Q I rx ry h hs
 obtain⟨z,i,c,rfl,rfl,hz,he,q⟩:=h
 obtain⟨t,rfl⟩:=rx
 obtain⟨t',rfl⟩:=ry
 obtain⟨j,h1,h2,h3,h4,h5⟩:=zaca he
 have hl:z.cps.toList.length=z.length:=by simp[Str.length]
 rw[hl]at h1 h4 h5
 have hn:=zvd
 exact tail_any (qC3 s z t) slot_str_getitem.lookup (getItem_str (c:=c) (by
  have e1:decide (i < -(2 ^ 63:Int))=false:=decide_eq_false (by omega)
  have e2:decide (i>=2 ^ 63)=false:=decide_eq_false (by omega)
  rw[e1,e2,Bool.or_false]) (by rw[h1];simpa using h2) ⟨.str ⟨#[c]⟩,H,I.tok _,⟨_,rfl⟩,q⟩) hs
theorem zagm(its:List Value)(n j:Nat)(u:Value):Obj.mapSeq (·.setIfInBounds j u) {cls:=.type "list",data:=.seq its.toArray n}={cls:=.type "list",data:=.seq (its.set j u).toArray n}:=by
 simp[Obj.mapSeq]
theorem Inv.lst{pins:List (Addr×Obj)}{σ:St}{H:Hp}{s:Shared}{p:Addr}{xs:List V}(I:Inv X pins σ H s)(h:H p=some (.lst xs)) :
  ∃(its:List Value)(n:Nat),Vals xs its/\s.heap.get? p=some {cls:=.type "list",data:=.seq its.toArray n}/\xs.length<=qX:=by
 obtain⟨z,its,n,r,e⟩:=I.hok p _ h
 exact⟨its,n,r,e,z⟩
theorem Inv.lstUpd{pins:List (Addr×Obj)}{σ:St}{H:Hp}{s:Shared}{p:Addr}{xs ys:List V}{its its':List Value}{n n':Nat}{f:Obj->Obj}(I:Inv X pins σ H s)(h:H p=some (.lst xs))
  (ho:s.heap.get? p=some {cls:=.type "list",data:=.seq its.toArray n}) (hf:f {cls:=.type "list",data:=.seq its.toArray n}={cls:=.type "list",data:=.seq its'.toArray n'}) (r:Vals ys its') (hz:ys.length<=qX) (t:Nat) :
  Inv X pins σ (upd H p (.lst ys)) {s with heap:=s.heap.update p f,toks:=t}:=by
 have e:(s.heap.update p f).get? p=some {cls:=.type "list",data:=.seq its'.toArray n'}:=by
  rw[qAf f ho (by rw[hf]<;>rfl),hf]
 refine I.write (x:=p) (e:=p) (by rw[h];trivial) (.inl rfl) (λb u hb q=>(qAT _ _ (qAl hb)).trans q) ⟨_,e⟩ ?_
 exact⟨hz,its',n',r,e⟩
noncomputable def zaqv:V->V->V->Hp->(Hp->Prop)->Prop:=λo i v H Q=>∃p xs k j,o=.ref p/\i=.int k/\H p=some (.lst xs)/\ixN xs.length k=some j/\Q (upd H p (.lst (xs.set j v)))
theorem zamd:PSet X zaqv:=by
 intro pins s σ H o i v ov iv u Q I ro ri rv h
 obtain⟨p,xs,k,j,rfl,rfl,hp,hj,q⟩:=h
 cases ro
 obtain⟨t,rfl⟩:=ri
 obtain⟨its,n,r,ho,hz⟩:=I.lst hp
 obtain⟨h1,h2,h3,h4⟩:=zaib hj
 have hl:=r.length
 have hn:=zvd
 have I':Inv X pins σ (upd H p (.lst (xs.set j v))) {s with heap:=s.heap.update p (Obj.mapSeq (·.setIfInBounds j u))}:=
  I.lstUpd hp ho (zagm its n j u) (r.set rv j) (by rw[qAI];exact hz) s.toks
 by_cases h0:0<=k
 ·have hk:k.toNat=j:=by
   rw[seqIndex_of h0 h4]at h1
   exact qZ h1
  exact PySem.W.ki_setAt ho h0 (by omega) (by rw[qP,<- hl];exact h4) (by rw[hk];exact⟨_,I',q⟩)
 ·have hk:(k+(its.toArray.size:Int)).toNat=j:=by
   rw[seqIndex_neg (by omega) h3]at h1
   rw[qP,<- hl]
   exact qZ h1
  exact PySem.W.ki_setBack ho (by omega) (by rw[qP,<- hl];exact h3) (by omega) (by rw[hk];exact⟨_,I',q⟩)
theorem zzb(lo hi:Option Int)(n:Nat):(sliceBounds lo hi none n).1=((HT.sIx n 0 lo:Nat):Int)/\(sliceBounds lo hi none n).2.1=((HT.sIx n n hi:Nat):Int)/\(sliceBounds lo hi none n).2.2=1:=by
 refine⟨?_,?_,rfl⟩
 ·cases lo with
  | none=>simp[sliceBounds,HT.sIx]
  | some i=>
   simp only[sliceBounds,HT.sIx,Option.getD_none,show(1:Int) > 0 by decide,if_true]
   by_cases h:i<0
   ·simp only[h,if_true]<;>omega
   ·simp only[h,if_false]<;>omega
 ·cases hi with
  | none=>simp[sliceBounds,HT.sIx]
  | some i=>
   simp only[sliceBounds,HT.sIx,Option.getD_none,show(1:Int) > 0 by decide,if_true]
   by_cases h:i<0
   ·simp only[h,if_true]<;>omega
   ·simp only[h,if_false]<;>omega
theorem zww(its:List Value)(lo hi:Option Int):slicePick its.toArray lo hi none=((its.drop (HT.sIx its.length 0 lo)).take (HT.sIx its.length its.length hi - HT.sIx its.length 0 lo)).toArray:=by
 obtain⟨h1,h2,h3⟩:=zzb lo hi its.toArray.size
 unfold slicePick
 rw[h1,h2,h3]
 simp only[sliceRange_one,pick_run,qP]<;>rfl
noncomputable def rSlL(K:qC):V->Option Int->Option Int->Hp->VK->Prop:=λx lo hi H Q=>∃a xs,x=.ref a/\SqL K H a xs/\∀p,H p=none->Q (.ref p) (upd H p (.lst (cutV xs lo hi)))
theorem zaqw:SlR X (rSlL X.K):=by
 intro pins s σ H x v vl vu lo hi sl Q I rx hs pl pu h
 obtain⟨a,xs,rfl,hx,q⟩:=h
 cases rx
 obtain⟨its,r,ht,hz⟩:=I.list hx
 have hlen:=r.length
 refine⟨"list",_,slot_list_getitem.lookup,ht.isList.typeIs,?_⟩
 refine wpAny_getItem_list_slice ht.isList hs pl pu .none (by simp) ?_ (by rw[qP]<;>omega)
 rw[zww,<- hlen]
 refine⟨.ref s.heap.objs.size,_,I.laid (t':=s.toks) (o:=.lst (cutV xs lo hi)) (λb ob q=>qF _ q) (qK _) ?_,rfl,q _ (I.hok.fresh (qK _))⟩
 exact⟨qv (zsa xs lo hi) hz,_,0,(r.drop (HT.sIx xs.length 0 lo)).take (HT.sIx xs.length xs.length hi - HT.sIx xs.length 0 lo),qb _ rfl⟩
noncomputable def zup:V->Bool
 | .non=>true
 | .bl _=>true
 | .int _=>true
 | .str _=>true
 | _=>false
noncomputable def eqV:V->V->Bool
 | .non,.non=>true
 | .bl a,.bl b=>a==b
 | .bl a,.int b=>(if a then 1 else 0)==b
 | .int a,.bl b=>a==(if b then 1 else 0)
 | .int a,.int b=>a==b
 | .str a,.str b=>a==b
 | _,_=>false
theorem zaux{A:Around}{s:Shared}{y x:V}{u v:Value}(ry:RelV y u)(rx:RelV x v)(fy:zup y=true)(fx:zup x=true):SeqAt.EqAt A s u v (eqV y x):=by
 cases y with
 | non=>
  cases ry
  cases x with
  | non=>cases rx;exact SeqAt.EqAt.same _
  | bl b=>cases rx;exact SeqAt.EqAt.none_bool b
  | int b=>obtain⟨t,rfl⟩:=rx;exact SeqAt.EqAt.none_int b t
  | str b=>obtain⟨t,rfl⟩:=rx;exact SeqAt.EqAt.none_str b t
  | _=>exact absurd (show false=true from fx) qR
 | bl a=>
  cases ry
  cases x with
  | non=>cases rx;exact SeqAt.EqAt.bool_none a
  | bl b=>cases rx;exact SeqAt.EqAt.bool_bool a b
  | int b=>obtain⟨t,rfl⟩:=rx;exact SeqAt.EqAt.bool_int a b t
  | str b=>obtain⟨t,rfl⟩:=rx;exact SeqAt.EqAt.bool_str a b t
  | _=>exact absurd (show false=true from fx) qR
 | int a=>
  obtain⟨t',rfl⟩:=ry
  cases x with
  | non=>cases rx;exact SeqAt.EqAt.int_none a t'
  | bl b=>cases rx;exact SeqAt.EqAt.int_bool a t' b
  | int b=>obtain⟨t,rfl⟩:=rx;exact SeqAt.EqAt.int_int a t' b t
  | str b=>obtain⟨t,rfl⟩:=rx;exact qCg a t' b t
  | _=>exact absurd (show false=true from fx) qR
 | str a=>
  obtain⟨t',rfl⟩:=ry
  cases x with
  | non=>cases rx;exact SeqAt.EqAt.str_none a t'
  | bl b=>cases rx;exact SeqAt.EqAt.str_bool a t' b
  | int b=>obtain⟨t,rfl⟩:=rx;exact qCf a t' b t
  | str b=>obtain⟨t,rfl⟩:=rx;exact SeqAt.EqAt.str_str a t' b t
  | _=>exact absurd (show false=true from fx) qR
 | _=>exact absurd (show false=true from fy) qR
noncomputable def eqU(x:V)(u:Value):Bool:=match u with
 | .none=>eqV .non x
 | .bool b=>eqV (.bl b) x
 | .int i _=>eqV (.int i) x
 | .str z _=>eqV (.str z) x
 | _=>false
theorem zapk{x y:V}{u:Value}(r:RelV y u)(f:zup y=true):eqU x u=eqV y x:=by
 cases y with
 | non=>cases r;rfl
 | bl b=>cases r;rfl
 | int i=>obtain⟨t,rfl⟩:=r;rfl
 | str z=>obtain⟨t,rfl⟩:=r;rfl
 | _=>exact absurd (show false=true from f) qR
theorem zsc{x:V}:∀{xs:List V}{us:List Value},Vals xs us->xs.all zup=true->us.any (eqU x)=xs.any λy=>eqV y x
 | _,_,.nil,_=>rfl
 | y::xs,u::us,.cons r t,f=>by
  rw[qBd,qm]at f
  rw[qA1,qA1,zapk r f.1,zsc t f.2]
theorem znw{A:Around}{s:Shared}{x:V}{v:Value}(rx:RelV x v)(fx:zup x=true):∀{xs:List V}{us:List Value},Vals xs us->xs.all zup=true->∀u∈us,SeqAt.EqAt A s u v (eqU x u)
 | _,_,.nil,_=>λu hu=>by cases hu
 | y::xs,u::us,.cons r t,f=>λu' hu=>by
  rw[qBd,qm]at f
  rcases qc.mp hu with rfl|hu
  ·rw[zapk r f.1];exact zaux r rx f.1 fx
  ·exact znw rx fx t f.2 u' hu
noncomputable def inV(x:V)(xs:List V):Bool:=xs.any λy=>eqV y x
noncomputable def rIn(K:qC)(neg:Bool):R2:=λx y H Q=>∃p xs,y=.ref p/\(SqL K H p xs\/SqT K H p xs)/\zup x=true/\xs.all zup=true/\Q (.bl (if neg then !inV x xs else inV x xs)) H
theorem zaic:OpR X (compareOp .In) (rIn X.K false):=by
 intro pins s σ H x y v u Q I rx ry h
 obtain⟨p,xs,rfl,hq,fx,fs,q⟩:=h
 cases ry
 rcases hq with hq|hq
 ·obtain⟨its,r,pl,hz⟩:=I.list hq
  refine SeqAt.in_listAt (eqU x) pl.isList (λw hw=>znw rx fx r fs w (by simpa using hw)) ⟨.bl _,H,I,rfl,?_⟩
  rw[show its.toArray.any (eqU x)=its.any (eqU x) by simp,zsc r fs]
  exact q
 ·obtain⟨its,r,pl,hz⟩:=I.tuple hq
  refine SeqAt.in_tupleAt (eqU x) pl (λw hw=>znw rx fx r fs w (by simpa using hw)) ⟨.bl _,H,I,rfl,?_⟩
  rw[show its.toArray.any (eqU x)=its.any (eqU x) by simp,zsc r fs]
  exact q
theorem zzc:OpR X (compareOp .NotIn) (rIn X.K true):=by
 intro pins s σ H x y v u Q I rx ry h
 obtain⟨p,xs,rfl,hq,fx,fs,q⟩:=h
 cases ry
 rcases hq with hq|hq
 ·obtain⟨its,r,pl,hz⟩:=I.list hq
  refine SeqAt.notIn_listAt (eqU x) pl.isList (λw hw=>znw rx fx r fs w (by simpa using hw)) ⟨.bl _,H,I,rfl,?_⟩
  rw[show its.toArray.any (eqU x)=its.any (eqU x) by simp,zsc r fs]
  exact q
 ·obtain⟨its,r,pl,hz⟩:=I.tuple hq
  refine SeqAt.notIn_tupleAt (eqU x) pl (λw hw=>znw rx fx r fs w (by simpa using hw)) ⟨.bl _,H,I,rfl,?_⟩
  rw[show its.toArray.any (eqU x)=its.any (eqU x) by simp,zsc r fs]
  exact q
theorem zzd:CallR X (.type "list") (λxs H Q=>∃p ys,xs=[.ref p]/\(SqL X.K H p ys\/SqT X.K H p ys)/\∀l,H l=none->Q (.ref l) (upd H l (.lst ys))):=by
 intro pins s σ H xs us Q I r h
 obtain⟨p,ys,rfl,hq,q⟩:=h
 obtain⟨u,rfl,rx⟩:=zaby r
 cases rx
 have fin:∀(its:List Value),Vals ys its->ys.length<=qX->∀(h':Heap)(c':Nat),(∀b o',s.heap.get? b=some o'->h'.get? b=some o')->
   h'.get? s.heap.objs.size=some {cls:=.type "list",dict:=none,data:=.seq its.toArray c',slots:=#[]}->EP X pins σ Q (.ref s.heap.objs.size) {s with heap:=h'}:=λits r' hz h' c' kp e=>
  ⟨.ref s.heap.objs.size,_,I.laid (t':=s.toks) kp (qK _) (show zfd X.prog X.w _ h' _ (.lst ys)from⟨hz,its,c',r',e⟩),rfl,q _ (I.hok.fresh (qK _))⟩
 rcases hq with hq|hq
 ·obtain⟨its,r',pl,hz⟩:=I.list hq
  have hlen:=r'.length
  obtain⟨o,ho,hc,n,hd⟩:=pl.isList
  exact call_list_seq p (.inl rfl) ho hc hd (λh' c' kp e=>fin its r' hz h' c' kp e) (by simp only[qP]<;>omega)
 ·obtain⟨its,r',pl,hz⟩:=I.tuple hq
  have hlen:=r'.length
  obtain⟨o,ho,hc,n,hd⟩:=pl
  exact call_list_seq p (.inr rfl) ho hc hd (λh' c' kp e=>fin its r' hz h' c' kp e) (by simp only[qP]<;>omega)
theorem zwx:CallR X (.type "tuple") (λxs H Q=>∃p ys,xs=[.ref p]/\((SqL X.K H p ys/\∀l,H l=none->Q (.ref l) (upd H l (.tup ys)))\/(SqT X.K H p ys/\Q (.ref p) H))):=by
 intro pins s σ H xs us Q I r h
 obtain⟨p,ys,rfl,h⟩:=h
 obtain⟨u,rfl,rx⟩:=zaby r
 cases rx
 rcases h with⟨hq,q⟩|⟨hq,q⟩
 ·obtain⟨its,r',pl,hz⟩:=I.list hq
  have hlen:=r'.length
  refine call_tuple_list pl.isList (λh' kp=>?_) (by simp only[qP]<;>omega)
  have I1:Inv X pins σ H {s with heap:=h'}:=I.kept (t':=s.toks) kp
  have I2:Inv X pins σ (upd H h'.objs.size (.tup ys)) {s with heap:=h'.push {cls:=.type "tuple",data:=.seq its.toArray}}:=
   I1.laid (t':=s.toks) (λb o e=>qF _ e) (qK _) (show zfd X.prog X.w _ _ _ (.tup ys)from⟨hz,its,r',IsTup.new _ _⟩)
  exact⟨.ref h'.objs.size,_,I2,rfl,q _ (I1.hok.fresh (qK _))⟩
 ·obtain⟨its,r',pl,hz⟩:=I.tuple hq
  exact call_tuple_same pl ⟨.ref p,H,I,rfl,q⟩
noncomputable def tyV(K:qC)(T:String)(x:V)(H:Hp):Prop:=match x with
 | .str _=>T="str"
 | .int _=>T="int"
 | .ref p=>(T="list"/\∃xs,SqL K H p xs)\/(T="tuple"/\∃o,K.lookup p=some o/\o.cls=.type "tuple"/\o.dict=none)\/
   (T="dict"/\((∃kvs,H p=some (.dK kvs))\/∃kvs,H p=some (.dT kvs)))\/(T="set"/\∃S n,H p=some (.set S n))
 | _=>False
theorem zauy{pins:List (Addr×Obj)}{σ:St}{H:Hp}{s:Shared}{T:String}{x:V}{v:Value}(I:Inv X pins σ H s)(r:RelV x v)(ty:tyV X.K T x H) :
  s.TypeIs v T/\∀a,v=.ref a->∃ob,s.heap.get? a=some ob/\ob.dict=none:=by
 cases x with
 | str z=>
  obtain⟨t,rfl⟩:=r
  cases(show T="str"from ty)
  exact⟨qC3 s z t,λ_ e=>nomatch e⟩
 | int i=>
  obtain⟨t,rfl⟩:=r
  cases(show T="int"from ty)
  exact⟨typeIs_int s i t,λ_ e=>nomatch e⟩
 | ref p=>
  cases r
  rcases ty with⟨rfl,xs,hq⟩|⟨rfl,o,hk,hc,hd⟩|⟨rfl,hk⟩|⟨rfl,S,n,hk⟩
  ·obtain⟨its,_,pl,_⟩:=I.list hq
   refine⟨pl.isList.typeIs,λa e=>?_⟩
   cases e
   obtain⟨o,n,e,c,hd,_⟩:=pl
   exact⟨o,e,hd⟩
  ·refine⟨⟨o,I.kIn p o hk,hc⟩,λa e=>?_⟩
   cases e
   exact⟨o,I.kIn _ o hk,hd⟩
  ·have z:∃o,s.heap.get? p=some o/\o.ExactDict:=by
    rcases hk with⟨kvs,hk⟩|⟨kvs,hk⟩
    ·obtain⟨_,_,_,_,o,_,_,e,ex,_⟩:=I.hok p _ hk
     exact⟨o,e,ex⟩
    ·obtain⟨_,_,_,_,o,_,_,e,ex,_⟩:=I.hok p _ hk
     exact⟨o,e,ex⟩
   obtain⟨o,e,ex⟩:=z
   refine⟨⟨o,e,ex.1⟩,λa e2=>?_⟩
   cases e2
   exact⟨o,e,ex.2.1⟩
  ·obtain⟨o,_,_,_,e,ex,_⟩:=I.hok p _ hk
   refine⟨⟨o,e,ex.1⟩,λa e2=>?_⟩
   cases e2
   exact⟨o,e,ex.2.1⟩
 | _=>exact False.elim ty
noncomputable def tBM(K:qC)(T:String)(r:V->List V->Hp->VK->Prop)(to:TE)(t:TA):TE:=λσ H Q=>to σ H λx H1=>tyV K T x H1/\t σ H1 λxs H2=>r x xs H2 Q
variable{o e:Expr}{es:List Expr}{to:TE}{t:TA}{name:Str}{apos cpos:Pos}{T id:String}{r:V->List V->Hp->VK->Prop}
theorem zayc(pa:PlainAttrs T)(slot:Slot T name id)(hty:typeOf (.builtin id)=pure (.type "method_descriptor"))(hm:MtR X id r)(ho:PE X o to)(ha:PA X (e::es) t)
  (hbase:attributeBase o name X.env (eval o X.env)=eval o X.env:=by rfl)
  (hfew:((backTo cpos (starEach (e::es) X.env)).all (λx=>!x.1)&&(backToKw cpos (keywordEach [] X.env)).all (λx=>x.1.isSome)
   && decide ((e::es).length+([]:List Keyword).length+(if([]:List Keyword).isEmpty then 0 else 1)<30))=true:=by rfl)
  (hline:(apos.endLine==cpos.line)=true:=by rfl)(hs:starEach (e::es) X.env=(false,eval e X.env)::starEach es X.env:=by rfl)(hplain:(backTo cpos (starEach es X.env)).any (·.1)=false:=by rfl) :
  PE X (.Call (.Attribute o name apos) (e::es) [] cpos) (tBM X.K T r to t):=by
 intro pins s σ H Q I h
 refine wpAny_Call_method_late hbase hfew hline rfl (thn (ho pins s σ H _ I h) λv s1 ⟨x,H1,I1,r1,ty,q1⟩=>?_)
 obtain⟨h1,h2⟩:=zauy I1 r1 ty
 refine⟨T,id,pa,slot,hty,h1,h2,?_⟩
 have hA:=ha cpos pins s1 σ H1 _ I1 q1
 rw[hs]at hA ⊢
 refine qCl (by show(false||(backTo cpos (starEach es X.env)).any (·.1))=false;rw[hplain]<;>rfl) (qCt ?_)
 exact thn hA λus s2 ⟨vs,H2,I2,r2,q2⟩=>hm pins s2 σ H2 x vs v us Q I2 r1 r2 q2
end
noncomputable def MtM(X:Cx)(id:String)(r:V->List V->Hp->VK->Prop):Prop:=
 ∀(pins:List (Addr×Obj))(s:Shared)(σ:St)(H:Hp)(x:V)(xs:List V)(v:Value)(us:List Value)(Q:VK),Inv X pins σ H s->RelV x v->Vals xs us->r x xs H Q->
  wpAny (model X.prog X.w) X.A (call (.builtin id) (v::us)) (EP X pins σ Q) X.xe s
theorem Vals.one:∀{x:V}{us:List Value},Vals [x] us->∃u,us=[u]/\RelV x u
 | _,_,.cons r .nil=>⟨_,rfl,r⟩
theorem Vals.eraseIdx:∀{xs:List V}{us:List Value}(i:Nat),Vals xs us->Vals (xs.eraseIdx i) (us.eraseIdx i)
 | _,_,_,.nil=>.nil
 | _,_,0,.cons _ t=>t
 | _,_,i+1,.cons r t=>.cons r (Vals.eraseIdx i t)
theorem Vals.rep{xs:List V}{us:List Value}(h:Vals xs us):∀k:Nat,Vals (List.replicate k xs).flatten (List.replicate k us).flatten
 | 0=>.nil
 | k+1=>by
  rw[qAe,qAe,qAy,qAy]
  exact Vals.append h (Vals.rep h k)
theorem zze{α:Type}:∀(l:List α)(i:Nat),(l.eraseIdx i).length<=l.length
 | [],_=>qK _
 | _::_,0=>qBX _
 | _::r,i+1=>Nat.succ_le_succ (zze r i)
theorem zzf(its:List Value):∀(k:Nat)(acc:List Value),
  List.foldl (λx1 x2=>x1++x2) acc.toArray (List.replicate k its.toArray)=(acc++(List.replicate k its).flatten).toArray
 | 0,acc=>by simp
 | k+1,acc=>by
  have e:acc.toArray++its.toArray=(acc++its).toArray:=by simp
  have e2:(acc++its)++(List.replicate k its).flatten=acc++(List.replicate (k+1) its).flatten:=by
   rw[qAe,qAy,qBF]
  rw[<- e2,<- zzf its k (acc++its),<- e,qAe,qBP]
section
variable{X:Cx}{pins:List (Addr×Obj)}{σ:St}{H:Hp}{s:Shared}{l b:Addr}{xs ys zs:List V}
theorem Inv.lset{its its':List Value}{n:Nat}{f:Array Value->Array Value}{t':Nat}(I:Inv X pins σ H s)(hH:H l=some (.lst xs))
  (e:s.heap.get? l=some {cls:=.type "list",data:=.seq its.toArray n}) (hf:f its.toArray=its'.toArray) (hv:Vals ys its') (hz:ys.length<=qX) :
  Inv X pins σ (upd H l (.lst ys)) {s with heap:=s.heap.update l (Obj.mapSeq f),toks:=t'}:=by
 have q:=PySem.IsL.update e f
 rw[hf]at q
 refine I.write (x:=l) (e:=l) (by rw[hH];exact trivial) (.inl rfl) (λb' u hb hu=>(qAT s.heap (Obj.mapSeq f) (qAl hb)).trans hu) ⟨_,q⟩ ?_
 exact⟨hz,its',_,hv,q⟩
theorem Inv.lnew{its:List Value}{t':Nat}(I:Inv X pins σ H s)(hv:Vals ys its)(hz:ys.length<=qX) :
  Inv X pins σ (upd H s.heap.objs.size (.lst ys)) {s with heap:=s.heap.push {cls:=.type "list",data:=.seq its.toArray},toks:=t'}:=
 I.laid (λ_ _ q=>qF _ q) (qK _) ⟨hz,its,0,hv,qb _ rfl⟩
theorem Inv.fresh(I:Inv X pins σ H s):H s.heap.objs.size=none:=I.hok.fresh (qK _)
theorem Inv.lstM(I:Inv X pins σ H s)(hH:H l=some (.lst xs)):xs.length<=qX/\∃(its:List Value)(n:Nat),Vals xs its/\xs.length=its.length/\s.heap.get? l=some {cls:=.type "list",data:=.seq its.toArray n}:=by
 obtain⟨z,its,n,r,e⟩:=I.hok l _ hH
 exact⟨z,its,n,r,r.length,e⟩
theorem zael{n:Nat}(h:n<=qX):Builtin.List.listTooLong n=false:=by
 unfold Builtin.List.listTooLong
 exact decide_eq_false (by omega)
end
section
variable{X:Cx}
noncomputable def zacb:V->List V->Hp->VK->Prop:=λx vs H Q=>∃l xs y,x=.ref l/\vs=[y]/\H l=some (.lst xs)/\xs.length<qX/\Q .non (upd H l (.lst (xs++[y])))
theorem zhh:MtM X "list.append" zacb:=by
 intro pins s σ H x vs v us Q I rx rv h
 obtain⟨l,xs,y,rfl,rfl,hH,hz,q⟩:=h
 cases rx
 obtain⟨u,rfl,ru⟩:=rv.one
 obtain⟨z,its,n,r,hl,e⟩:=I.lstM hH
 refine qCF F.slot_list_append ⟨_,e,rfl⟩ F.entry_list_append (F.args_list_append_2 _ _) (PySem.list_append l its.toArray n u (by rw[qP];omega)) ⟨e,?_⟩
 refine⟨.non,_,I.lset (its':=its++[u]) hH e (by simp) (r.append (.cons ru .nil)) ?_,rfl,q⟩
 rw[qH,List.length_singleton]
 omega
noncomputable def zaid:V->List V->Hp->VK->Prop:=λx vs H Q=>∃l b xs zs,x=.ref l/\vs=[.ref b]/\H l=some (.lst xs)/\H b=some (.lst zs)/\xs.length+zs.length<=qX/\Q .non (upd H l (.lst (xs++zs)))
theorem zaie:MtM X "list.extend" zaid:=by
 intro pins s σ H x vs v us Q I rx rv h
 obtain⟨l,b,xs,zs,rfl,rfl,hH,hB,hz,q⟩:=h
 cases rx
 obtain⟨u,rfl,ru⟩:=rv.one
 cases ru
 obtain⟨z,its,n,r,hl,e⟩:=I.lstM hH
 obtain⟨z2,its2,n2,r2,hl2,e2⟩:=I.lstM hB
 have hsz:its.toArray.size+its2.toArray.size<=qX:=by rw[qP,qP];omega
 have hlong:¬(!its.toArray.isEmpty&&Builtin.List.listTooLong (its.toArray.size+its2.toArray.size))=true:=by
  rw[zael hsz,Bool.and_false]
  exact qR
 refine qCF F.slot_list_extend ⟨_,e,rfl⟩ F.entry_list_extend (F.args_list_extend_2 _ _)
  (AutoSeq1.list_extend_list_list_0 l its.toArray n b its2.toArray n2 hlong (by rw[qP];omega) (by omega)) ⟨e,e2,?_⟩
 refine⟨.non,_,I.lset (its':=its++its2) hH e (by simp) (r.append r2) ?_,rfl,q⟩
 rw[qH]
 omega
noncomputable def zapl:V->List V->Hp->VK->Prop:=λx vs H Q=>∃l xs i k y,x=.ref l/\vs=[.int i]/\H l=some (.lst xs)/\-(2 ^ 63)<=i/\i<2 ^ 63/\seqIndex? i xs.length=some k/\xs[k]?=some y/\Q y (upd H l (.lst (xs.eraseIdx k)))
theorem zame:MtM X "list.pop" zapl:=by
 intro pins s σ H x vs v us Q I rx rv h
 obtain⟨l,xs,i,k,y,rfl,rfl,hH,h1,h2,hk,hy,q⟩:=h
 cases rx
 obtain⟨u,rfl,ru⟩:=rv.one
 obtain⟨t,rfl⟩:=ru
 obtain⟨z,its,n,r,hl,e⟩:=I.lstM hH
 obtain⟨w,hw,rw'⟩:=r.get hy
 refine qCF F.slot_list_pop ⟨_,e,rfl⟩ F.entry_list_pop (F.args_list_pop_2 _ _)
  (MeetsSeq.list_pop_at l its.toArray n i t k w (fitsIndex_both h1 h2) (by rw[qP,<- hl];exact hk) (by rw[<- Array.getElem?_toList];exact hw) (by rw[qP];omega)) ⟨e,?_⟩
 refine⟨y,_,I.lset (its':=its.eraseIdx k) hH e ?_ (r.eraseIdx k) ?_,rw',q⟩
 ·show its.toArray.eraseIdxIfInBounds k=(its.eraseIdx k).toArray
  rw[List.eraseIdxIfInBounds_toArray]
 ·have:=zze xs k
  omega
noncomputable def rCat:R2:=λx y H Q=>∃l b xs zs,x=.ref l/\y=.ref b/\H l=some (.lst xs)/\H b=some (.lst zs)/\xs.length+zs.length<=qX/\∀p,H p=none->Q (.ref p) (upd H p (.lst (xs++zs)))
theorem zauz:OpR X (binaryOp .Add) rCat:=by
 intro pins s σ H x y v u Q I rx ry h
 obtain⟨l,b,xs,zs,rfl,rfl,hH,hB,hz,q⟩:=h
 cases rx
 cases ry
 obtain⟨z,its,n,r,hl,e⟩:=I.lstM hH
 obtain⟨z2,its2,n2,r2,hl2,e2⟩:=I.lstM hB
 refine PySem.P.add_list e e2 ?_ (by rw[qP,qP];omega)
 have ea:its.toArray++its2.toArray=(its++its2).toArray:=by simp
 rw[ea]
 exact⟨.ref _,_,I.lnew (t':=s.toks) (r.append r2) (by rw[qH];omega),rfl,q _ I.fresh⟩
noncomputable def rRep:R2:=λx y H Q=>∃l k xs,x=.ref l/\y=.int k/\H l=some (.lst xs)/\-(2 ^ 63)<=k/\k<2 ^ 63/\xs.length * k.toNat<=qX/\
 ∀p,H p=none->Q (.ref p) (upd H p (.lst (List.replicate k.toNat xs).flatten))
theorem zaqx{α:Type}(xs:List α)(k:Nat):(List.replicate k xs).flatten.length=k * xs.length:=by
 induction k with
 | zero=>simp
 | succ k ih=>rw[qAe,qAy,qH,ih,Nat.succ_mul,Nat.add_comm]
theorem zapm:OpR X (binaryOp .Mult) rRep:=by
 intro pins s σ H x y v u Q I rx ry h
 obtain⟨l,k,xs,rfl,rfl,hH,h1,h2,hz,q⟩:=h
 cases rx
 obtain⟨t,rfl⟩:=ry
 obtain⟨z,its,n,r,hl,e⟩:=I.lstM hH
 have hlen:its.toArray.size * k.toNat<=qX:=by rw[qP,<- hl];exact hz
 have hcap:¬its.toArray.size * k.toNat >(2 ^ 63 - 1) / 8:=by
  have:(qX:Nat)<=(2 ^ 63 - 1) / 8:=by decide
  omega
 have hfit:¬(!Builtin.List.listFitsIndex k)=true:=by
  rw[fitsIndex_both h1 h2]
  exact qR
 have hlong:¬Builtin.List.listTooLong (its.toArray.size * k.toNat)=true:=by
  rw[zael hlen]
  exact qR
 have hnew:List.foldl (λx1 x2=>x1++x2) #[] (List.replicate (if its.toArray.isEmpty=true then 0 else k.toNat) its.toArray)=(List.replicate k.toNat its).flatten.toArray:=by
  have f0:∀m:Nat,List.foldl (λx1 x2=>x1++x2) #[] (List.replicate m its.toArray)=(List.replicate m its).flatten.toArray:=λm=>by
   have:=zzf its m []
   rw[List.nil_append]at this
   exact this
  rw[f0]
  cases its with
  | nil=>simp
  | cons a r'=>rw[if_neg (by simp)]
 refine wpAny_binaryOp_repeat_ref (T:="list") (U:="int") (by decide) ⟨_,e,rfl⟩ (λs'=>typeIs_int s' k t) noFill_list_mul F.fills_int_mul F.slot_int_rmul repeat_list F.slot_int_index.lookup
  (qCF F.slot_int_rmul (typeIs_int s k t) F.entry_int_rmul (F.args_int_rmul_2 _ _) (int___rmul___int_list k t l its.toArray n)
   ⟨e,rfl,⟨_,e,rfl⟩,qCF F.slot_list_mul ⟨_,e,rfl⟩ F.entry_list_mul (F.args_list_mul_2 _ _) (AutoListH.list___mul___list_int_3 l its.toArray n k t hfit hcap hlong) ⟨e,?_⟩⟩)
 rw[hnew]
 exact⟨.ref _,_,I.lnew (t':=s.toks) (r.rep k.toNat) (by rw[zaqx,Nat.mul_comm];exact hz),rfl,q _ I.fresh⟩
end
section
variable{prog:Program}{w:World}{A:Around}{E:Value->Shared->Prop}{s:Shared}
set_option maxRecDepth 100000 in
end
section
variable{X:Cx}
end
section
variable{κ:Type}[DecidableEq κ]
noncomputable def valV(kvs:List (κ×V))(k:κ):Option V:=(kvs.find? λkv=>decide (kv.1=k)).map (·.2)
noncomputable def putK(kvs:List (κ×V))(k:κ)(v:V):List (κ×V):=
 if(kvs.any λkv=>decide (kv.1=k))=true then kvs.map (λkv=>if kv.1=k then(kv.1,v)else kv)else kvs++[(k,v)]
theorem zrq{p:κ×V}{r:List (κ×V)}{k:κ}(e:p.1=k):valV (p::r) k=some p.2:=by simp[valV,qAX,e]
theorem zrr{p:κ×V}{r:List (κ×V)}{k:κ}(e:¬p.1=k):valV (p::r) k=valV r k:=by simp[valV,qAX,e]
theorem zaem(k:κ):∀kvs:List (κ×V),(kvs.any λkv=>decide (kv.1=k))=(valV kvs k).isSome
 | []=>rfl
 | p::r=>by
  rw[qA1]
  by_cases e:p.1=k
  ·simp only[zrq e,decide_eq_true e,qBk,qCy]
  ·rw[zrr e,decide_eq_false e,qCm];exact zaem k r
theorem znj(kvs:List (κ×V))(k:κ)(v:V):(putK kvs k v).length<=kvs.length+1:=by
 unfold putK
 split
 ·rw[qE];omega
 ·rw[qH,qw,qAx];omega
theorem RelO.isSome_eq{o:Option V}{u:Option Value}(r:RelO o u):o.isSome=u.isSome:=by
 cases o with
 | none=>cases u with
  | none=>rfl
  | some _=>exact(show False from r).elim
 | some _=>cases u with
  | none=>exact(show False from r).elim
  | some _=>rfl
theorem KV.val{kvs:List (κ×V)}{vs:List (κ×Value)}(r:KV kvs vs)(k:κ):RelO (valV kvs k) (valueAt vs k):=by
 unfold KV at r
 induction r with
 | nil=>exact True.intro
 | @cons p q ps qs h t ih=>
  obtain⟨h1,h2⟩:=h
  by_cases e:p.1=k
  ·have e':q.1=k:=h1.symm.trans e
   have b:valueAt (q::qs) k=some q.2:=by simp[valueAt,qAX,e']
   rw[zrq e,b];exact h2
  ·have e':¬q.1=k:=λz=>e (h1.trans z)
   have b:valueAt (q::qs) k=valueAt qs k:=by simp[valueAt,qAX,e']
   rw[zrr e,b];exact ih
theorem KV.any{kvs:List (κ×V)}{vs:List (κ×Value)}(r:KV kvs vs)(k:κ):(kvs.any λkv=>decide (kv.1=k))=vs.any λkv=>decide (kv.1=k):=by
 unfold KV at r
 induction r with
 | nil=>rfl
 | cons h t ih=>rw[qA1,qA1,ih,h.1]
theorem KV.repl{kvs:List (κ×V)}{vs:List (κ×Value)}(r:KV kvs vs)(k:κ){y:V}{u:Value}(ry:RelV y u) :
  KV (kvs.map λkv=>if kv.1=k then(kv.1,y)else kv) (vs.map λkv=>if kv.1=k then(kv.1,u)else kv):=by
 unfold KV at r ⊢
 induction r with
 | nil=>exact .nil
 | @cons p q ps qs h t ih=>
  rw[qf,qf]
  refine .cons ?_ ih
  obtain⟨h1,h2⟩:=h
  by_cases e:p.1=k
  ·rw[if_pos e,if_pos (h1.symm.trans e)];exact⟨h1,ry⟩
  ·rw[if_neg e,if_neg (λz=>e (h1.trans z))];exact⟨h1,h2⟩
theorem KV.put{kvs:List (κ×V)}{vs:List (κ×Value)}(r:KV kvs vs)(k:κ){y:V}{u:Value}(ry:RelV y u):KV (putK kvs k y) (stored vs k u):=by
 unfold putK stored
 rw[r.any k]
 by_cases e:(vs.any λkv=>decide (kv.1=k))=true
 ·rw[if_pos e,if_pos e];exact r.repl k ry
 ·rw[if_neg e,if_neg e];exact Paired.snoc r ⟨rfl,ry⟩
theorem KV.length{kvs:List (κ×V)}{vs:List (κ×Value)}(r:KV kvs vs):kvs.length=vs.length:=qCB r
end
theorem zaif{P:Program}{w:World}{k:Key}{u:Value}(r:RelV (kV k) u):(zep P w).is k u=true:=by
 cases k with
 | inl i=>obtain⟨t,e⟩:=(show ∃t,u=Value.int i t from r);subst e;exact zabt P w i t
 | inr x=>obtain⟨t,e⟩:=(show ∃t,u=Value.str x t from r);subst e;exact zabu P w x t
theorem zzg{P:Program}{w:World}:∀{ks:List Key}{us:List Value},Vals (ks.map kV) us->ItemsAre (zep P w) ks us
 | [],_,r=>by rw[qCK]at r;cases r;exact .nil
 | k::ks,_,r=>by
  rw[qf]at r
  cases r with
  | cons h t=>exact .cons (zaif h) (zzg t)
noncomputable abbrev KT(H:Hp):List (List Key×V)->List (List Key×Addr×Value)->Prop:=Paired λp q=>p.1=q.1/\H q.2.1=some (.tup (p.1.map kV))/\RelV p.2 q.2.2
theorem KT.val{H:Hp}{kvs:List (List Key×V)}{xs:List (List Key×Addr×Value)}(r:KT H kvs xs)(k:List Key):RelO (valV kvs k) ((atKey xs k).map (·.2)):=by
 induction r with
 | nil=>exact True.intro
 | @cons p q ps qs h t ih=>
  obtain⟨h1,_,h2⟩:=h
  by_cases e:p.1=k
  ·have e':q.1=k:=h1.symm.trans e
   have b:atKey (q::qs) k=some q.2:=by simp[atKey,qAX,e']
   rw[zrq e,b];exact h2
  ·have e':¬q.1=k:=λz=>e (h1.trans z)
   have b:atKey (q::qs) k=atKey qs k:=by simp[atKey,qAX,e']
   rw[zrr e,b];exact ih
theorem KT.repl{H:Hp}{kvs:List (List Key×V)}{xs:List (List Key×Addr×Value)}(r:KT H kvs xs)(k:List Key){y:V}{u:Value}(ry:RelV y u) :
  KT H (kvs.map λkv=>if kv.1=k then(kv.1,y)else kv) (xs.map (putAt k u)):=by
 induction r with
 | nil=>exact .nil
 | @cons p q ps qs h t ih=>
  rw[qf,qf]
  refine .cons ?_ ih
  obtain⟨h1,h2,h3⟩:=h
  unfold putAt
  by_cases e:p.1=k
  ·rw[if_pos e,if_pos (h1.symm.trans e)];exact⟨h1,h2,ry⟩
  ·rw[if_neg e,if_neg (λz=>e (h1.trans z))];exact⟨h1,h2,h3⟩
theorem KT.put{H:Hp}{kvs:List (List Key×V)}{xs:List (List Key×Addr×Value)}(r:KT H kvs xs)(k:List Key){b:Addr}{y:V}{u:Value}(hb:H b=some (.tup (k.map kV)))(ry:RelV y u) :
  KT H (putK kvs k y) (storedH xs k b u):=by
 have e:(kvs.any λkv=>decide (kv.1=k))=(atKey xs k).isSome:=by
  rw[zaem,(r.val k).isSome_eq,qC4]
 unfold putK storedH
 rw[e]
 by_cases q:(atKey xs k).isSome=true
 ·rw[if_pos q,if_pos q];exact r.repl k ry
 ·rw[if_neg q,if_neg q];exact Paired.snoc r ⟨rfl,hb,ry⟩
theorem KT.keeps{H H':Hp}{kvs:List (List Key×V)}{xs:List (List Key×Addr×Value)}(r:KT H kvs xs)(ht:∀b ys,H b=some (.tup ys)->H' b=some (.tup ys)):KT H' kvs xs:=
 Paired.mapP r λ_ _ z=>⟨z.1,ht _ _ z.2.1,z.2.2⟩
section
variable{P:Program}{w:World}{H:Hp}{h:Heap}{a:Addr}
theorem zava{u:HO}(ok:HOk P w H h)(e:Rd H a u):zfd P w H h a u:=e.ok ok
theorem zamf{kvs:List (Key×V)}(ok:HOk P w H h)(e:Rd H a (.dK kvs)):kvs.length<=qX/\(a==sysModules)=false/\∃vs,KV kvs vs/\h.DictOf (zep P w) a vs:=
 show zfd P w H h a (.dK kvs)from zava ok e
theorem zamg{kvs:List (Key×V)}(ok:HOk P w H h)(e:H a=some (.dK kvs)):kvs.length<=qX/\(a==sysModules)=false/\∃vs,KV kvs vs/\h.DictOf (zep P w) a vs:=zamf ok (.inl e)
theorem zaen{ks:List Key}(ok:HOk P w H h)(e:H a=some (.tup (ks.map kV))):(tupleKind (zep P w)).is h ks a:=by
 obtain⟨_,its,r,o,h1,h2,n,h3⟩:=(show zfd P w H h a (.tup (ks.map kV))from ok a _ e)
 exact⟨o,its.toArray,n,h1,h2,h3,by simpa using zzg r⟩
theorem zamh{kvs:List (List Key×V)}(ok:HOk P w H h)(e:Rd H a (.dT kvs)):kvs.length<=qX/\(a==sysModules)=false/\
  ∃xs,KT H kvs xs/\h.DictOfH (tupleKind (zep P w)) a xs:=by
 obtain⟨z,y,xs,r,o,es,ep,h1,h2,h3,h4,h5⟩:=(show zfd P w H h a (.dT kvs)from zava ok e)
 refine⟨z,y,xs,r,o,es,ep,h1,h2,h3,h4,λx hx=>?_,h5⟩
 have all:∀{l:List (List Key×V)}{m:List (List Key×Addr×Value)},KT H l m->∀x∈m,(tupleKind (zep P w)).is h x.1 x.2.1:=by
  intro l m q
  induction q with
  | nil=>intro x hx;exact nomatch hx
  | @cons p q ps qs hq t ih=>
   intro x hx
   rcases qc.mp hx with e|hx
   ·subst e
    exact zaen ok (by rw[<- hq.1];exact hq.2.1)
   ·exact ih x hx
 exact all r x hx
theorem zayd{kvs:List (List Key×V)}(ok:HOk P w H h)(e:H a=some (.dT kvs)):kvs.length<=qX/\(a==sysModules)=false/\
  ∃xs,KT H kvs xs/\h.DictOfH (tupleKind (zep P w)) a xs:=zamh ok (.inl e)
end
noncomputable def DGet(H:Hp)(a:Addr)(y:V)(r:Option V):Prop:=
 (∃kvs k,Rd H a (.dK kvs)/\y=kV k/\r=valV kvs k)\/∃kvs k b,Rd H a (.dT kvs)/\y=.ref b/\H b=some (.tup (k.map kV))/\r=valV kvs k
noncomputable def DPut(H:Hp)(a:Addr)(y v:V)(H':Hp):Prop:=
 (∃kvs k,H a=some (.dK kvs)/\y=kV k/\kvs.length<qX/\H'=upd H a (.dK (putK kvs k v)))\/
 ∃kvs k b,H a=some (.dT kvs)/\y=.ref b/\H b=some (.tup (k.map kV))/\kvs.length<qX/\H'=upd H a (.dT (putK kvs k v))
theorem DGet.k{H:Hp}{a:Addr}{kvs:List (Key×V)}{k:Key}(e:H a=some (.dK kvs)):DGet H a (kV k) (valV kvs k):=.inl ⟨kvs,k,.inl e,rfl,rfl⟩
theorem DPut.k{H:Hp}{a:Addr}{kvs:List (Key×V)}{k:Key}{v:V}(e:H a=some (.dK kvs))(hl:kvs.length<qX):DPut H a (kV k) v (upd H a (.dK (putK kvs k v))):=.inl ⟨kvs,k,e,rfl,hl,rfl⟩
section
variable{X:Cx}{pins:List (Addr×Obj)}{σ:St}{H:Hp}{s:Shared}{a:Addr}{y v:V}{u r:Value}{o:Option V}{A:Around}{E:Value->Shared->Prop}
theorem Inv.big(I:Inv X pins σ H s):sysModules<s.heap.objs.size:=by
 have h:qM<s.heap.objs.size:=(I.mod.glob.keeps I.bk).lt
 exact qC0 (by decide) h
theorem zaig{Q:Value->Shared->Prop}(hu:A.units+1<cLine)(I:Inv X pins σ H s)(g:DGet H a y (some v))(ry:RelV y u)(h:∀w' s',Inv X pins σ H s'->RelV v w'->Q w' s') :
  wpAny (model X.prog X.w) A (getItem (.ref a) u) Q E s:=by
 rcases g with⟨kvs,k,e,ey,l⟩|⟨kvs,k,b,e,ey,eb,l⟩
 ·subst ey
  obtain⟨z,hd,vs,rel,dd⟩:=zamf I.hok e
  obtain⟨w',hw,rw'⟩:=RelO.some_of (v:=v) (o:=valueAt vs k) (by rw[l];exact rel.val k)
  exact wpAny_getItem_of (zaif ry) dd.mapOf hw (h w' _ (I.tok _) rw')
 ·subst ey
  cases(show u=Value.ref b from ry)
  obtain⟨z,hd,xs,rel,dd⟩:=zamh I.hok e
  obtain⟨w',hw,rw'⟩:=RelO.some_of (v:=v) (o:=(atKey xs k).map (·.2)) (by rw[l];exact rel.val k)
  obtain⟨p,hp,hp2⟩:=qG.mp hw
  refine wpAny_getItem_heap (qCO hu) (zaen I.hok eb) dd hp ?_
  rw[hp2]
  exact h w' _ (I.tok _) rw'
theorem d_in{Q:Value->Shared->Prop}(hu:A.units+1<cLine)(I:Inv X pins σ H s)(g:DGet H a y o)(ry:RelV y u)(h:∀s',Inv X pins σ H s'->Q (.bool o.isSome) s') :
  wpAny (model X.prog X.w) A (compareOp .In u (.ref a)) Q E s:=by
 rcases g with⟨kvs,k,e,ey,l⟩|⟨kvs,k,b,e,ey,eb,l⟩
 ·subst ey
  obtain⟨z,hd,vs,rel,dd⟩:=zamf I.hok e
  refine wpAny_in_of (zaif ry) hd dd.mapOf ?_
  rw[<- (rel.val k).isSome_eq,<- l]
  exact h _ (I.tok _)
 ·subst ey
  cases(show u=Value.ref b from ry)
  obtain⟨z,hd,xs,rel,dd⟩:=zamh I.hok e
  refine wpAny_in_heap (qCO hu) (zaen I.hok eb) hd dd ?_
  have q:=(rel.val k).isSome_eq
  rw[qC4]at q
  rw[<- q,<- l]
  exact h _ (I.tok _)
theorem zwy{h':Heap}{t':Nat}{ob:HO}(I:Inv X pins σ H s)(mu:Mut (H a))(hs:Heap.SameBut a s.heap h')(he:∃q,h'.get? a=some q)(new:zfd X.prog X.w (upd H a ob) h' a ob) :
  Inv X pins σ (upd H a ob) {s with heap:=h',toks:=t'}:=
 I.write (x:=a) (e:=a) mu (.inl rfl) (λb q hb z=>(hs.2 b hb).trans z) he new
theorem zaih{P:Program}{w:World}{H':Hp}{h':Heap}{kvs:List (Key×V)}{vs:List (Key×Value)}(z:kvs.length<=qX)(hd:(a==sysModules)=false)(rel:KV kvs vs)(dd:h'.DictOf (zep P w) a vs) :
  zfd P w H' h' a (.dK kvs):=⟨z,hd,vs,rel,dd⟩
theorem zaii{H':Hp}{Q:Unit->Shared->Prop}(hu:A.units+1<cLine)(I:Inv X pins σ H s)(g:DPut H a y v H')(ry:RelV y u)(rv:RelV v r)(h:∀s',Inv X pins σ H' s'->Q () s') :
  wpAny (model X.prog X.w) A (setItem (.ref a) u r) Q E s:=by
 rcases g with⟨kvs,k,e,ey,l,eH⟩|⟨kvs,k,b,e,ey,eb,l,eH⟩
 ·subst ey eH
  obtain⟨z,hd,vs,rel,dd⟩:=zamg I.hok e
  have hz:vs.length<=qX:=by rw[<- rel.length];exact z
  have hl:(putK kvs k v).length<=qX:=by have:=znj kvs k v;omega
  refine wpAny_setItem_pairs (hsz:=hz) (zaif ry) dd λh' dd' hs=>h _ ?_
  have he:∃q,h'.get? a=some q:=let⟨q,_,_,hq,_⟩:=dd';⟨q,hq⟩
  exact zwy I (by rw[e];exact True.intro) hs he (zaih hl hd (rel.put k rv) dd')
 ·subst ey eH
  cases(show u=Value.ref b from ry)
  obtain⟨z,hd,xs,rel,dd⟩:=zayd I.hok e
  have hz:xs.length<=qX:=by rw[<- qCB rel];exact z
  have hl:(putK kvs k v).length<=qX:=by have:=znj kvs k v;omega
  refine wpAny_setItem_heap (hsz:=hz) (qCO hu) (zaen I.hok eb) dd λh' dd' hs=>h _ ?_
  obtain⟨q,es,ep,hq,h2,h3,h4,_,h5⟩:=dd'
  refine zwy I (by rw[e];exact True.intro) hs ⟨q,hq⟩ ⟨hl,hd,_,(rel.put k eb rv).keeps λc ys ec=>?_,q,es,ep,hq,h2,h3,h4,h5⟩
  rw[zav (zaxs ec e (λz=>nomatch z))]
  exact ec
end
section
variable{X:Cx}{pins:List (Addr×Obj)}{σ:St}{H:Hp}{s:Shared}{a:Addr}{kvs:List (Key×V)}{k:Key}{u:Value}{A:Around}{E:Value->Shared->Prop}
end
noncomputable def NoSl(i:Expr):Prop:=∀ov iv,subscripted i false ov iv=operate [ov,iv] (getItem ov iv)
theorem zaqy{prog:Program}{w:World}{A:Around}{E:Value->Shared->Prop}{s:Shared}{env:Env}{value slice:Expr}{pos:Pos}{T id:String}{Q:Value->Shared->Prop}
  (hl:typeLookup (.type T) "__getitem__"=pure (some (.builtin id)))(hs:NoSl slice)
  (h:wpAny (model prog w) A (eval value env) (λo s₁=>wpAny (model prog w) A (eval slice env) (λi s₂=>s₂.TypeIs o T/\wpAny (model prog w) A (getItem o i) Q E s₂) E s₁) E s) :
  wpAny (model prog w) A (eval (.Subscript value slice pos) env) Q E s:=by
 refine Subscript_ (qBJ h (λo s₁ h₁=>qBJ h₁ (λi s₂ h₂=>?_) λ_ _ x=>x) λ_ _ x=>x)
 obtain⟨hT,h₂⟩:=h₂
 unfold subscriptTail
 refine qD ?_
 rw[getitemInPython_of_ne hT.not_modules]
 refine qD (wpAny_specialOf hT hl ?_)
 have fin:wpAny (model prog w) A (subscripted slice false o i) (λr s₃=>wpAny (model prog w) A (letTemporaryGo value o r >>=λ_=>pure r) Q E s₃) E s₂:=by
  rw[hs o i]
  exact wpAny_operating (qBJ h₂ (λr s₃ h₃=>qD (wpAny_letTemporaryGo (qJ h₃))) λ_ _ x=>x)
 first
  | exact qJ (qD fin)
  | exact qD (qJ (qD fin))
  | exact qD fin
theorem zacc{X:Cx}{pins:List (Addr×Obj)}{σ:St}{H:Hp}{s:Shared}{a:Addr}{y:V}{o:Option V}(I:Inv X pins σ H s)(g:DGet H a y o):s.TypeIs (.ref a) "dict":=by
 rcases g with⟨kvs,k,e,_,_⟩|⟨kvs,k,b,e,_,_,_⟩
 ·obtain⟨_,_,vs,_,dd⟩:=zamf I.hok e
  exact dd.typeIs
 ·obtain⟨_,_,xs,_,dd⟩:=zamh I.hok e
  exact dd.typeIs
noncomputable def tDGet(td ty:TE):TE:=λσ H Q=>td σ H λx H1=>ty σ H1 λy H2=>∃a v,x=.ref a/\DGet H2 a y (some v)/\Q v H2
noncomputable def tDIn(ty td:TE):TE:=λσ H Q=>ty σ H λy H1=>td σ H1 λx H2=>∃a o,x=.ref a/\DGet H2 a y o/\Q (.bl o.isSome) H2
noncomputable def sDPut(td ty tv:TE):TS:=λD σ H=>tv σ H λv H1=>td σ H1 λx H2=>ty σ H2 λy H3=>∃a H4,x=.ref a/\DPut H3 a y v H4/\D.nx σ H4
section
variable{X:Cx}{o i e value:Expr}{pos pos' tpos:Pos}{td ty tv:TE}
theorem zaqz(hu:X.A.units+1<cLine)(ho:PE X o td)(hi:PE X i ty)(hs:NoSl i):PE X (.Subscript o i pos) (tDGet td ty):=by
 intro pins s σ H Q I h
 refine zaqy PySem.F.slot_dict_getitem.lookup hs (thn (ho pins s σ H _ I h) λu s1 ⟨x,H1,I1,rx,q1⟩=>thn (hi pins s1 σ H1 _ I1 q1) λiv s2 ⟨y,H2,I2,ry,a,v,ex,g,q2⟩=>?_)
 subst ex
 obtain rfl:u=Value.ref a:=rx
 exact⟨zacc I2 g,zaig hu I2 g ry λw' s3 I3 rw'=>⟨v,H2,I3,rw',q2⟩⟩
theorem zavb(hu:X.A.units+1<cLine)(hi:PE X i ty)(ho:PE X o td):PC X .In i o (tDIn ty td):=by
 intro pins s σ H Q I h
 refine thn (hi pins s σ H _ I h) λiv s1 ⟨y,H1,I1,ry,q1⟩=>thn (ho pins s1 σ H1 _ I1 q1) λu s2 ⟨x,H2,I2,rx,a,ov,ex,g,q2⟩=>?_
 subst ex
 obtain rfl:u=Value.ref a:=rx
 exact d_in hu I2 g ry λs3 I3=>⟨.bl ov.isSome,H2,I3,rfl,q2⟩
theorem zara(hu:X.A.units+1<cLine)(ho:PE X o td)(hi:PE X i ty)(hv:PE X value tv)(hs:swapsWith value (some (.Subscript o i pos')) pos.line X.env=pure false) :
  PS X (.Assign [.Subscript o i pos'] value pos) (sDPut td ty tv):=by
 intro pins s σ H D I h
 refine wpAny_Assign_Subscript (thn (hv pins s σ H _ I h) λr s1 ⟨v,H1,I1,rv,q1⟩=>thn (ho pins s1 σ H1 _ I1 q1) λu s2 ⟨x,H2,I2,rx,q2⟩=>thn (hi pins s2 σ H2 _ I2 q2) λiv s3 ⟨y,H3,I3,ry,a,H4,ex,g,q3⟩=>?_) hs
 subst ex
 obtain rfl:u=Value.ref a:=rx
 exact zaii hu I3 g ry rv λs4 I4=>⟨σ,H4,I4,q3⟩
end
theorem zaeo{P:Program}{w:World}{H:Hp}(h:Heap)(hb:sysModules<h.objs.size):zfd P w H (h.push {cls:=.type "dict",data:=.dict #[]}) h.objs.size (.dK []):=
 ⟨qAr _,beq_eq_false_iff_ne.mpr (qAl (qu hb)),[],.nil,Heap.DictOf.new h⟩
noncomputable def tDNewK:TE:=λ_ H Q=>∀p,H p=none->Q (.ref p) (upd H p (.dK []))
section
variable{X:Cx}{pos:Pos}
theorem zami:PE X (.Dict [] [] pos) tDNewK:=λpins s σ H Q I h=>
 wpAny_Dict_empty ⟨.ref s.heap.objs.size,_,I.laid (a:=s.heap.objs.size) (o:=.dK []) (t':=s.toks) (λ_ _ q=>qF _ q) (qK _) (zaeo s.heap I.big),rfl,h _ (I.hok.fresh (qK _))⟩
end
noncomputable def zaij:List (TE×TE)->St->Hp->(List (V×V)->Hp->Prop)->Prop
 | [],_,H,Q=>Q [] H
 | (tk,tv)::r,σ,H,Q=>tk σ H λx H1=>tv σ H1 λy H2=>zaij r σ H2 λps H3=>Q ((x,y)::ps) H3
noncomputable abbrev VV:List (V×V)->List (Value×Value)->Prop:=Paired λp q=>RelV p.1 q.1/\RelV p.2 q.2
noncomputable def PPs(X:Cx)(pos:Pos)(keys:List (Option Expr))(values:List Expr)(trs:List (TE×TE)):Prop:=
 ∀(pins:List (Addr×Obj))(s:Shared)(σ:St)(H:Hp)(Q:List (V×V)->Hp->Prop),Inv X pins σ H s->zaij trs σ H Q->
  wpAny (model X.prog X.w) X.A (evalPairs (pairTrees keys values X.env pos)) (λvs s'=>∃ps H',Inv X pins σ H' s'/\VV ps vs/\Q ps H') X.xe s
theorem zarb{X:Cx}{pos:Pos}:PPs X pos [] [] []:=λpins s σ H Q I h=>pairTrees_nil_walk ⟨[],H,I,.nil,h⟩
theorem zamj{X:Cx}{pos:Pos}{k v:Expr}{ks:List (Option Expr)}{vs:List Expr}{tk tv:TE}{trs:List (TE×TE)}(hk:PE X k tk)(hv:PE X v tv)(hr:PPs X pos ks vs trs) :
  PPs X pos (some k::ks) (v::vs) ((tk,tv)::trs):=λpins s σ H Q I h=>
 pairTrees_cons_walk (thn (hk pins s σ H _ I h) λu s1 ⟨x,H1,I1,rx,q1⟩=>thn (hv pins s1 σ H1 _ I1 q1) λw2 s2 ⟨y,H2,I2,ry,q2⟩=>
  thn (hr pins s2 σ H2 _ I2 q2) λws s3 ⟨ps,H3,I3,rel,q3⟩=>⟨(x,y)::ps,H3,I3,.cons ⟨rx,ry⟩ rel,q3⟩)
noncomputable def znx(kvs more:List (Key×V)):List (Key×V):=more.foldl (λacc kv=>putK acc kv.1 kv.2) kvs
theorem KV.merge:∀{more:List (Key×V)}{rs:List (Key×Value)}{kvs:List (Key×V)}{vs:List (Key×Value)},KV more rs->KV kvs vs->KV (znx kvs more) (merged vs rs):=by
 intro more rs kvs vs r
 unfold KV at r
 induction r generalizing kvs vs with
 | nil=>intro q;exact q
 | @cons p q ps qs h t ih=>
  intro r0
  have e:KV (putK kvs p.1 p.2) (stored vs q.1 q.2):=by
   have:=r0.put p.1 h.2
   rw[<- h.1];exact this
  exact ih e
theorem zjx:∀(more kvs:List (Key×V)),(znx kvs more).length<=kvs.length+more.length
 | [],kvs=>by show kvs.length<=kvs.length+0;omega
 | p::r,kvs=>by
  have h1:=zjx r (putK kvs p.1 p.2)
  have h2:=znj kvs p.1 p.2
  show(znx (putK kvs p.1 p.2) r).length<=_
  rw[qw];omega
theorem zvf{P:Program}{w:World}:∀{kvs:List (Key×V)}{ws:List (Value×Value)},VV (kvs.map λkv=>(kV kv.1,kv.2)) ws->∃rs,Carries (zep P w) ws rs/\KV kvs rs
 | [],_,r=>by rw[qCK]at r;cases r;exact⟨[],True.intro,.nil⟩
 | p::kvs,_,r=>by
  rw[qf]at r
  cases r with
  | @cons a b as bs h t=>
   obtain⟨rs,c,q⟩:=zvf (P:=P) (w:=w) t
   obtain⟨b1,b2⟩:=b
   exact⟨(p.1,b2)::rs,⟨zaif h.1,rfl,c⟩,.cons ⟨rfl,h.2⟩ q⟩
noncomputable def tDisp(trs:List (TE×TE)):TE:=λσ H Q=>∀p,H p=none->zaij trs σ (upd H p (.dK [])) λps H2=>H2 p=some (.dK [])/\∃kvs:List (Key×V),ps=kvs.map (λkv=>(kV kv.1,kv.2))/\kvs.length<=15/\Q (.ref p) (upd H2 p (.dK (znx [] kvs)))
theorem zarc{X:Cx}{pos:Pos}{keys:List (Option Expr)}{values:List Expr}{trs:List (TE×TE)}(h:PPs X pos keys values trs)(hall:keys.all (·.isSome)=true)(hl:keys.length=values.length)(h0:keys≠[])
  (h15:keys.length<=15):PE X (.Dict keys values pos) (tDisp trs):=by
 intro pins s σ H Q I q
 have hn:=I.hok.fresh (qK s.heap.objs.size)
 have I1:=I.laid (a:=s.heap.objs.size) (o:=.dK []) (h':=s.heap.push {cls:=.type "dict",data:=.dict #[]}) (t':=s.toks) (λ_ _ q=>qF _ q) (qK _) (zaeo s.heap I.big)
 refine wpAny_Dict_walk (knd:=zep X.prog X.w) hall hl h0 h15 (thn (h pins _ σ _ _ I1 (q _ hn)) λws s2 ⟨ps,H2,I2,rel,e,kvs,ep,lk,q2⟩=>?_)
 subst ep
 obtain⟨rs,c,rk⟩:=zvf (P:=X.prog) (w:=X.w) rel
 obtain⟨z,hd,vs0,r0,dd⟩:=zamg I2.hok e
 cases r0
 refine⟨rs,c,dd,λh' dd' hs=>⟨.ref s.heap.objs.size,_,?_,rfl,q2⟩⟩
 have hz:(znx [] kvs).length<=qX:=by
  have h1:=zjx kvs []
  rw[qAx]at h1
  rw[qA9];omega
 have he:∃q,h'.get? s.heap.objs.size=some q:=let⟨q,_,_,hq,_⟩:=dd';⟨q,hq⟩
 exact zwy I2 (by rw[e];exact True.intro) hs he (zaih hz hd (rk.merge .nil) dd')
set_option genInjectivity false in
set_option genInjectivity false in
section
variable{X:Cx}{pins:List (Addr×Obj)}{σ:St}{H:Hp}{s:Shared}{a:Addr}{y d:V}{u r:Value}{o:Option V}{A:Around}{E:Value->Shared->Prop}
end
section
variable{X:Cx}{o e f:Expr}{apos cpos:Pos}{td ty tx:TE}
end
section
variable{X:Cx}{pins:List (Addr×Obj)}{σ:St}{H:Hp}{s:Shared}{a:Addr}{kvs:List (Key×V)}{A:Around}{E:Value->Shared->Prop}
end
section
variable{X:Cx}{pins:List (Addr×Obj)}{σ:St}{H:Hp}{s:Shared}{a:Addr}{y:V}{u:Value}{A:Around}{E:Value->Shared->Prop}
end
end L2
namespace Att
open PySem PySem.W PySem.Calls PyProof.Rows
theorem zsd{P:Params}{h:Heap}:∀(ns:List Int)(vs:List Value),WellAll P h vs (ns.map WData.int)->IntsAre vs ns:=by
 intro ns
 induction ns with
 | nil=>
  intro vs w
  rw[qCK]at w
  cases w
  exact .nil
 | cons n ns ih=>
  intro vs w
  rw[qf]at w
  cases w with
  | cons a b=>
   cases a
   exact .cons _ _ (ih _ b)
theorem zaik{l:OpenLaw}{n:Nat}(hn:l.most=some n){P:Params}{h:Heap}{args:List WData}{vals:List Value}
  (hpre:l.row.toRowW.claim.pre args=true)(hwl:WellAll P h vals args) :
  ∃a vs ns,vals=[Value.ref a]/\args=[WData.list (ns.map WData.int)]/\h.get? a=some {cls:=.type "list",data:=.seq vs.toArray}/\IntsAre vs ns/\ns.length<=n:=by
 have hsh:WShape.hasAll [] args [.list .int]=true:=(pre_splitW hpre).1
 have hc:l.pre.holds [] {args:=args}=true:=(pre_splitW hpre).2
 obtain⟨d,r,rfl,h1,h2⟩:=hasAllW_cons hsh
 obtain rfl:=hasAllW_nil h2
 obtain⟨xs,rfl,h3⟩:=hasW_list h1
 obtain⟨ns,rfl⟩:=items_int h3
 have hlen:ns.length<=n:=by
  unfold OpenLaw.pre at hc
  have h4:(WTm.not (.lt (.lit (.int (n:Int))) (.len (.arg 0)))).holds [] {args:=[.list (ns.map .int)]}=true:=by
   have h4:=(holds_andW hc).1
   rw[hn]at h4
   exact h4
  have h5:=condW_of h4 (w_not (w_lt w_lit (w_len_list (w_arg rfl))))
  rw[qE]at h5
  refine Nat.le_of_not_lt λq=>?_
  have q':(n:Int)<((ns.length:Nat):Int):=by omega
  first
   | (rw[decide_eq_true q']at h5;exact absurd h5 (by decide))
   | (simp at h5;omega)
 cases hwl with
 | cons w1 w2=>
  cases w2
  cases w1 with
  | list ho hall=>exact⟨_,_,ns,rfl,rfl,ho,zsd ns _ hall,hlen⟩
theorem zail(l:OpenLaw)(args:List WData):l.row.toRowW.claim.post args (.bool true) args=true:=
 postW_of (r:=l.row.toRowW) (X:=(true==true))
  (show WShape.has [] (.bool true) .bool=true by first|rfl|decide|simp[WShape.has,WShape.arms,WShape.armsAll])
  (show(WTm.eq .res (.lit (.bool true))).value [] {args:=args,res:=some (.bool true),after:=args}=some (.bool (true==true))from w_eq_bool (w_res rfl) w_lit) rfl
theorem attach_call{l:OpenLaw}{n:Nat}{q:Program}{loose:List Str}{XP:(Str->Option Value)->Heap->Prop}{YP:World->Heap->Prop}{d:DefRec}
  (hn:l.most=some n)(hdf:d.params.defaults=[])
  (call:∀(w:World)(s₀ s₁:Shared)(mg mb:Str->Option Value)(fa:Addr)(o:Obj)(pm cd doc:Value)(a:Addr)(vs:List Value)(ns:List Int),
   Ground q loose [] XP w s₀ mg mb s₁.heap->YP w s₁.heap->
   s₁.heap.get? fa=some o->o.data=.func (docDef d.name d.params d.body d.scope pm cd doc)->s₁.heap.CodeRec cd d.name->mg d.name=some (.ref fa)->
   s₁.heap.get? a=some {cls:=.type "list",data:=.seq vs.toArray}->IntsAre vs ns->ns.length<=n->s₁.gens=#[]->
   codeAny (model l.prog w) callerA (.call (.ref fa) ⟨[.ref a],[]⟩) (λr s'=>r=.ok (.ret (.bool true))/\OldK s₁.heap s'.heap/\s'.os=s₁.os/\AllBare s'.gens) s₁) :
  WalkO q loose XP YP l.row.toRowW d [] (λf vs=>PySem.call f vs):=by
 intro w s₀ s₁ mg mb G Y fa o pm cd doc dV kV ho hd hcd hD hmg hg args vals as hpre hlay hrd hwl hlo
 obtain rfl:dV=.none:=Dflts.none hD hdf
 obtain rfl:kV=.none:=Dflts.noKw hD
 obtain⟨a,vs,ns,rfl,rfl,hobj,hints,hlen⟩:=zaik hn hpre hwl
 refine enter_call (qBe (call w s₀ s₁ mg mb fa o pm cd doc a vs ns G Y ho (fd_plain hd) hcd hmg hobj hints hlen hg) λr s' hq=>?_)
 obtain⟨rfl,h2,h3,h4⟩:=hq
 exact⟨.inl ⟨.bool true,.bool true,[],rfl,λ_=>rfl,.bool true,zail l _,λ_=>⟨List.Pairwise.nil,λ_ hm=>(nomatch hm)⟩⟩,h2,h3,h4⟩
section
variable{prog:Program}{w:World}{A:Around}{E:Value->Shared->Prop}{s:Shared}{K:Frag}
end
end Att
namespace L2
open PySem PySem.Spec PyProof.Rows
theorem zzh:∀{vs:List Value}{ns:List Int},IntsAre vs ns->Vals (ns.map V.int) vs
 | _,_,.nil=>.nil
 | _,_,.cons n t h=>.cons ⟨t,rfl⟩ (zzh h)
noncomputable def Only(H:Hp):Prop:=∀b,H b=none\/∃o xs,H b=some (.frz o (.lst xs))
theorem zamk{P:Program}{w:World}{K:qC}{mg mb:Str->Option Value}{CX:CXT}{k:Nat}{fa a:Addr}{fd:qt}{x:Str}{sp:Sp}{s₁:Shared}{vs:List Value}{ns:List Int}
  (KX:K.In s₁.heap)(hns:s₁.heap.Ns qM mg)(hb:s₁.heap.Ns builtinsNs mb)(hbb:∀x:Str,x≠"__name__"->mb x=bootBuiltins x)(hlim:s₁.heap.NoLimit)(hg:s₁.gens=#[])
  (ha:s₁.heap.get? a=some {cls:=.type "list",data:=.seq vs.toArray}) (hi:IntsAre vs ns) (hl:ns.length<=qX) (hr:Room k callerA)
  (F:∀base:Heap,K.In base->base.Ns qM mg->FnOk P w K mg base CX k fa fd [x] sp)(hbind:∀(s:Shared) (u:Value),BindsTo s fd ⟨[u],[]⟩ [(x,u)])
  (hsp:∀H:Hp,Only H->SqL K H a (ns.map V.int)->sp [.ref a] H (λv _=>v=.bl true) λ_ _ _=>False)
  (hCX:∀H e s',CX [] H s₁ (λ_ _ _=>False) e s'->False) :
  codeAny (model P w) callerA (.call (.ref fa) ⟨[.ref a],[]⟩) (λr s'=>r=.ok (.ret (.bool true))/\OldK s₁.heap s'.heap/\s'.os=s₁.os/\AllBare s'.gens) s₁:=by
 have rv:=zzh hi
 have lenV:=hi.length
 have core:∀H:Hp,Only H->SqL K H a (ns.map V.int)->HOk P w H s₁.heap->(∀b,H b≠none->b=a)->(H a≠none->K.lookup a=none)->
   codeAny (model P w) callerA (.call (.ref fa) ⟨[.ref a],[]⟩) (λr s'=>r=.ok (.ret (.bool true))/\OldK s₁.heap s'.heap/\s'.os=s₁.os/\AllBare s'.gens) s₁:=by
  intro H hO hS hok hA hK
  have base_of:∀{b:Addr}{o:Obj},s₁.heap.get? b=some o->H b=none->(hidT s₁.heap H).get? b=some o:=λe n=>zals e n
  have noA:∀{b:Addr}{o:Obj}{es:Array DictEntry}{ep:Nat},s₁.heap.get? b=some o->o.data=.dict es ep->H b=none:=λ{b o es ep} e d=>by
   cases q:H b with
   | none=>rfl
   | some u=>
    have e':b=a:=hA b (by rw[q];simp)
    subst e'
    rw[ha]at e;cases e
    have d':Data.seq vs.toArray _=Data.dict es ep:=d
    cases d'
  have nsK:∀{b:Addr}{m:Str->Option Value},s₁.heap.Ns b m->(hidT s₁.heap H).Ns b m:=λ{b m} ⟨o,es,ep,e,d,r⟩=>⟨o,es,ep,base_of e (noA e d),d,r⟩
  have hKb:K.In (hidT s₁.heap H):=λb o e=>base_of (KX b o e) (by
   cases q:H b with
   | none=>rfl
   | some u=>
    have e':b=a:=hA b (by rw[q];simp)
    subst e'
    rw[hK (by rw[q];simp)]at e;cases e)
  have hM:Mod K mg (hidT s₁.heap H):=⟨hKb,nsK hns,⟨mb,nsK hb,hbb⟩,let⟨mc,h1,h2⟩:=hlim;⟨mc,nsK h1,h2⟩⟩
  have e0:Env0 P w K mg (hidT s₁.heap H) callerA [] s₁ H:=⟨rfl,hM,λb o e=>zaqh e,Nat.le_of_eq (zahl _ _),trivial,λb hb=>absurd (show b∈([]:List Addr)from hb) (by simp),hok,.of_eq hg⟩
  refine qBe ((F _ hKb (nsK hns)).run callerA [] s₁ H ⟨[.ref a],[]⟩ [.ref a] [.ref a] _ _ hr e0 (hbind s₁ (.ref a)) (.cons rfl .nil) (hsp H hO hS)) λr s' h=>?_
  cases r with
  | error e=>exact(hCX H e s' h).elim
  | ok fl=>
   cases fl with
   | next=>exact False.elim h
   | brk=>exact False.elim h
   | cont=>exact False.elim h
   | ret u=>
    obtain⟨v,H',os,bare,un,hok',r',q⟩:=h
    have q':v=.bl true:=q
    subst q'
    obtain rfl:u=Value.bool true:=r'
    refine⟨rfl,OldK.of_keep λb o e=>?_,os,bare⟩
    cases q:H b with
    | none=>exact un.keep b o e q (by intro z;exact absurd (show b∈([]:List Addr)from z) (by simp)) (by simp)
    | some u=>
     rcases hO b with z|⟨ob,xs,z⟩
     ·rw[q]at z;cases z
     ·have z2:=un.frzs b ob _ z
      obtain⟨e1,_⟩:=hok b _ z
      obtain⟨e2,_⟩:=hok' b _ z2
      rw[e]at e1;cases e1
      exact e2
 cases hk:K.lookup a with
 | some o=>
  have e:=KX a o hk
  rw[ha]at e
  cases e
  refine core (λ_=>none) (λ_=>.inl rfl) (.inr ⟨_,vs.toArray,_,hk,rfl,rfl,rfl,by rw[qP,lenV];exact hl,by simpa using rv⟩) (λb u z=>by have z':(none:Option HO)=some u:=z;cases z') (λb z=>absurd rfl z) λz=>absurd rfl z
 | none=>
  refine core (λb=>if b=a then some (.frz {cls:=.type "list",data:=.seq vs.toArray} (.lst (ns.map V.int)))else none) (λb=>?_) (.inl (.inr ⟨{cls:=.type "list",data:=.seq vs.toArray},if_pos rfl⟩)) (λb u z=>?_) (λb z=>?_) λ_=>hk
  ·by_cases hb:b=a
   ·exact .inr ⟨_,_,if_pos hb⟩
   ·exact .inl (if_neg hb)
  ·by_cases hb:b=a
   ·have z':=(if_pos hb).symm.trans z
    cases z'
    subst hb
    exact⟨ha,by rw[qE];exact hl,vs,_,rv,ha⟩
   ·have z':=(if_neg hb).symm.trans z
    cases z'
  ·by_cases hb:b=a
   ·exact hb
   ·exact absurd (if_neg hb) z
theorem walk_of{l:PySem.W.OpenLaw}{n k:Nat}{q:Program}{loose:List Str}{XP:(Str->Option Value)->Heap->Prop}{YP:World->Heap->Prop}{d:DefRec}{K:Params->qC}{CX:World->CXT}{sp:World->Sp}{x:Str}
  (hn:l.most=some n)(hn2:n<=qX)(hdf:d.params.defaults=[])(hr:Room k callerA)
  (hY:∀(w:World) (h:Heap),YP w h->(K w.params).In h)
  (F:∀(w:World)(mg:Str->Option Value)(fa:Addr)(h:Heap),(K w.params).In h->h.Ns qM mg->mg d.name=some (.ref fa)->
   ∃fd:qt,(∀(s:Shared)(u:Value),BindsTo s fd ⟨[u],[]⟩ [(x,u)])/\
    ∀base:Heap,(K w.params).In base->base.Ns qM mg->FnOk l.prog w (K w.params) mg base (CX w) k fa fd [x] (sp w))
  (hsp:∀(w:World) (H:Hp) (a:Addr) (ns:List Int),ns.length<=n->Only H->SqL (K w.params) H a (ns.map V.int)->sp w [.ref a] H (λv _=>v=.bl true) λ_ _ _=>False)
  (hCX:∀(w:World) (H:Hp) (s:Shared) (e:Value) (s':Shared),CX w [] H s (λ_ _ _=>False) e s'->False) :
  PySem.W.WalkO q loose XP YP l.row.toRowW d [] (λf vs=>PySem.call f vs):=by
 refine Att.attach_call hn hdf λw s₀ s₁ mg mb fa o pm cd doc a vs ns G Y ho hd hcd hmg hobj hints hlen hg=>?_
 have KX:=hY w _ Y
 obtain⟨fd,hb,hF⟩:=F w mg fa _ KX G.T.g hmg
 exact zamk KX G.T.g G.T.b G.T.builtins G.T.nolimit hg hobj hints (qv hlen hn2) hr hF hb (λH hO hS=>hsp w H a ns hlen hO hS) λH e s'=>hCX w H s₁ e s'
end L2
namespace L2
open PySem PySem.Spec PyProof.Rows
noncomputable def zwz(s:Stmt)(j:Nat):Stmt:=match s with
 | .ClassDef _ _ _ body _ _ _ _ _ _ _=>body.getD j (.Pass ⟨0,0,0,0⟩)
 | _=>.Pass ⟨0,0,0,0⟩
noncomputable def zbd(s:Stmt):Arguments:=match s with
 | .FunctionDef _ a _ _ _ _ _ _ _ _=>a
 | _=>{posonlyargs:=[],args:=[],vararg:=none,kwonlyargs:=[],kw_defaults:=[],kwarg:=none,defaults:=[]}
noncomputable def zba(s:Stmt):List Stmt:=match s with
 | .FunctionDef _ _ b _ _ _ _ _ _ _=>b
 | _=>[]
noncomputable def zah(s:Stmt):Scope:=match s with
 | .FunctionDef _ _ _ _ _ _ sc _ _ _=>sc
 | _=>{kind:=.function,names:=[],isGenerator:=false,isCoroutine:=false}
noncomputable abbrev CX0:CXT:=λ_ _ _ _ _ _=>False
noncomputable abbrev E0:XK:=λ_ _ _=>False
theorem zaye{X:Cx}:zyv CX0 X E0:=λ_ _ _ _ _ _ _ h=>h.elim
set_option genInjectivity false in
structure Fun(K:qC)(x qual:Str)(st:Stmt)(f:Addr)(fd:qt):Prop where
 ex:∃(oc:Value)(od:Option Addr)(kV doc pm:Value)(an:Option Addr)(cdv ct:Value)(osl:Array (Option Value)),
  fd=qY x qual (zbd st) (zba st) (zah st) .none kV doc pm an cdv ct/\K.lookup f=some ⟨oc,od,.func fd,osl⟩/\qT K cdv qual=true
 kp:qN K (.ref f)=true
section
variable{P:Program}{w:World}{K:qC}{mg:Str->Option Value}{base:Heap}
theorem Fun.ok{x qual:Str}{st:Stmt}{f:Addr}{fd:qt}{N ps:List Str}{k:Nat}{sp:Sp}(F:Fun K x qual st f fd)(S:FnScope N ps (zah st))(len:∀vs H Q E,sp vs H Q E->vs.length=ps.length)
  (hbody:∀(cdv:Value)(A:Around)(outer:List Env)(s:Shared)(H:Hp)(vs:List V)(Q:VK)(E:XK),Room k (A.deeper (envOfC qual (zah st) s.heap.objs.size f cdv))->sp vs H Q E->
   ∃t,PSs (cxOf CX0 P w K mg base N qual (zah st) f cdv A outer s H E).nox (zba st) t/\t {nx:=λ_ H'=>Q .non H',rt:=Q} (zhg N vs) H):FnOk P w K mg base CX0 (k+1) f fd ps sp:=by
 obtain⟨oc,od,kV,doc,pm,an,cdv,ct,osl,rfl,lk,hcd⟩:=F.ex
 refine zaya lk hcd S len λA outer s H vs Q E hr hsp=>?_
 obtain⟨t,h,q⟩:=hbody cdv A outer s H vs Q E hr hsp
 exact⟨t,h.nox,q⟩
theorem Fun.binds{x qual:Str}{st:Stmt}{f:Addr}{fd:qt}{ps:List Str}(F:Fun K x qual st f fd)
  (h:∀(kV doc pm:Value) (an:Option Addr) (cdv ct:Value) (us:List Value),us.length=ps.length->bindArgs (qY x qual (zbd st) (zba st) (zah st) .none kV doc pm an cdv ct) ⟨us,[]⟩=pure (ps.zip us)):zrg K fd ps []:=by
 obtain⟨oc,od,kV,doc,pm,an,cdv,ct,osl,rfl,lk,hcd⟩:=F.ex
 exact .all (h kV doc pm an cdv ct)
theorem zck{x qual:Str}{st:Stmt}{f:Addr}{oc:Value}{od an:Option Addr}{osl:Array (Option Value)}{kV doc pm cdv ct:Value}(l:K.lookup f=some ⟨oc,od,.func (qY x qual (zbd st) (zba st) (zah st) .none kV doc pm an cdv ct),osl⟩)
  (c:qT K cdv qual=true) (k:qN K (.ref f)=true):Fun K x qual st f (qY x qual (zbd st) (zba st) (zah st) .none kV doc pm an cdv ct):=⟨⟨oc,od,kV,doc,pm,an,cdv,ct,osl,rfl,l,c⟩,k⟩
end
theorem zei{A:Around}{k:Nat}(hr:Room k A):A.units+1<cLine:=qBB (Nat.add_le_add_left (by decide:1<=64) _) hr.units
section
variable{X:Cx}
theorem pv(i:Nat){x:Str}{pos:Pos}(hN:X.N[i]?=some x:=by rfl)(hv:visB X.env.scope x=true:=by rfl)(hd:(x==("__debug__":Str))=false:=by decide)
  (hcd:(x==("__classdict__":Str))=false:=by decide):PE X (.Name x pos) (tVar i):=zaph hN (visB.of hv) hd hcd
end
theorem iteF{A B:Prop}(h:B):if false=true then A else B:=by
 rw[if_neg qR]
 exact h
theorem iteT{A B:Prop}(h:A):if true=true then A else B:=by
 rw[if_pos rfl]
 exact h
noncomputable def Same(H H':Hp):Prop:=∀b o,H b=some o->H' b=some o
theorem Same.refl(H:Hp):Same H H:=λ_ _ h=>h
theorem Same.trans{H H1 H2:Hp}(a:Same H H1)(b:Same H1 H2):Same H H2:=λc o h=>b c o (a c o h)
theorem Same.free{H H':Hp}(e:Same H H'){l:Addr}(h:H' l=Option.none):H l=Option.none:=by
 cases q:H l with
 | none=>rfl
 | some o=>
  rw[e l o q]at h
  cases h
theorem Same.seq{K:qC}{H H':Hp}{a:Addr}{xs:List V}(e:Same H H')(h:SqL K H a xs):SqL K H' a xs:=by
 rcases h with(h|⟨o,h⟩)|h
 ·exact .inl (.inl (e _ _ h))
 ·exact .inl (.inr ⟨o,e _ _ h⟩)
 ·exact .inr h
section
variable{κ:Type}[DecidableEq κ]
theorem nd_snoc:∀{l:List κ}{k:κ},l.Nodup->¬k∈l->(l++[k]).Nodup
 | [],k,_,_=>by simp
 | a::r,k,h,hk=>by
  obtain⟨h1,h2⟩:=qAw.mp h
  show(a::(r++[k])).Nodup
  refine qAw.mpr ⟨λm=>?_,nd_snoc h2 λm=>hk (qc.mpr (Or.inr m))⟩
  rcases qy.mp m with q|q
  ·exact h1 q
  ·exact hk (qc.mpr (Or.inl (qe.mp q).symm))
end
end L2
set_option maxHeartbeats 4000000
namespace L2
open PySem PySem.Spec PyProof.Rows
noncomputable def clos(cells:List (Str×Addr)):List (Str×NameKind)->List (Str×Addr)->List (Str×Addr)
 | [],acc=>acc
 | (n,k)::r,acc=>if k==.free then clos cells r ((n,(cells.lookup n).getD 0)::acc)else clos cells r acc
theorem zxa{cells:List (Str×Addr)}:∀{names:List (Str×NameKind)}{acc:List (Str×Addr)},(∀y∈names,y.2=.free->∃c,cells.lookup y.1=some c)->∀p∈clos cells names acc,p∈acc\/((p.1,NameKind.free)∈names/\cells.lookup p.1=some p.2)
 | [],acc,_,p,hp=>.inl hp
 | (n,k)::r,acc,h,p,hp=>by
  unfold clos at hp
  have hr:∀y∈r,y.2=.free->∃c,cells.lookup y.1=some c:=λy hy=>h y (qW _ hy)
  split at hp
  ·rename_i hk
   rcases zxa hr p hp with q|q
   ·rcases qc.mp q with q|q
    ·subst q
     have hk':k=.free:=by simpa using hk
     subst hk'
     obtain⟨c,hc⟩:=h (n,.free) qo rfl
     exact .inr ⟨qo,by show cells.lookup n=some ((cells.lookup n).getD 0);rw[hc];rfl⟩
    ·exact .inl q
   ·exact .inr ⟨qW _ q.1,q.2⟩
  ·rcases zxa hr p hp with q|q
   ·exact .inl q
   ·exact .inr ⟨qW _ q.1,q.2⟩
theorem zxb{cells:List (Str×Addr)}:∀{names:List (Str×NameKind)}{acc:List (Str×Addr)},∀p∈acc,p∈clos cells names acc
 | [],acc,p,hp=>hp
 | (n,k)::r,acc,p,hp=>by
  unfold clos
  split
  ·exact zxb p (qW _ hp)
  ·exact zxb p hp
theorem zxc{cells:List (Str×Addr)}{x:Str}:∀{names:List (Str×NameKind)}{acc:List (Str×Addr)},(x,NameKind.free)∈names->∃c,(x,c)∈clos cells names acc
 | [],_,h=>by simp at h
 | (n,k)::r,acc,h=>by
  unfold clos
  rcases qc.mp h with e|h
  ·cases e
   rw[if_pos (show(NameKind.free==NameKind.free)=true by decide)]
   exact⟨_,zxb _ qo⟩
  ·split
   ·exact zxc h
   ·exact zxc h
theorem zny{α:Type}{x:Str}{c:α}:∀{l:List (Str×α)},(x,c)∈l->∃c',l.lookup x=some c'
 | [],h=>by simp at h
 | (k,v)::r,h=>by
  rw[qAM]
  cases hb:x==k with
  | true=>exact⟨v,rfl⟩
  | false=>
   rcases qc.mp h with e|h
   ·cases e;simp at hb
   ·exact zny h
theorem znz{scope:Scope}{env:Env}(h:∀y∈scope.names,y.2=.free->∃c,env.cells.lookup y.1=some c):closureFor scope env=pure (clos env.cells scope.names []):=by
 unfold closureFor
 have key:∀(names:List (Str×NameKind))(acc:List (Str×Addr)),(∀y∈names,y.2=.free->∃c,env.cells.lookup y.1=some c)->
   (forIn names acc (λ(x:Str×NameKind) (r:List (Str×Addr))=>(if(x.2==.free)=true then(do let a <- cellOf env x.1;pure (ForInStep.yield ((x.1,a)::r)))else pure (ForInStep.yield r):Sem (ForInStep (List (Str×Addr))))))=pure (clos env.cells names acc):=by
  intro names
  induction names with
  | nil=>intro acc _;rfl
  | cons y r ih=>
   intro acc hy
   obtain⟨n,k⟩:=y
   have hr:=λy (hm:y∈r)=>hy y (qW _ hm)
   rw[qCS]
   unfold clos
   cases hk:(k==NameKind.free)with
   | true=>
    have hk':k=.free:=by simpa using hk
    subst hk'
    obtain⟨c,hc⟩:=hy (n,.free) qo rfl
    have e1:cellOf env n=pure c:=by unfold cellOf;rw[hc]
    simp only[if_true]
    have hc':env.cells.lookup n=some c:=hc
    rw[e1,hc']
    simp only[pure_bind,Option.getD_some]
    exact ih _ hr
   | false=>
    simp only[qBl,if_false,pure_bind]
    exact ih _ hr
 simpa using key scope.names [] h
theorem zhs:∀(names:List (Str×NameKind))(n:Nat)(acc:List (Str×Addr)),cellsFrom n names acc=cellsFrom n names []++acc
 | [],_,_=>rfl
 | (name,kind)::r,n,acc=>by
  unfold cellsFrom
  split
  ·rw[zhs r (n+1) ((name,n)::acc),zhs r (n+1) [(name,n)],qBF];rfl
  ·exact zhs r n acc
theorem zht{x:Str}{c:Addr}:∀(names:List (Str×NameKind))(n:Nat)(acc:List (Str×Addr)),(x,c)∈cellsFrom n names acc->(x,c)∈acc\/(x,NameKind.cell)∈names
 | [],_,_,h=>.inl h
 | (name,kind)::r,n,acc,h=>by
  unfold cellsFrom at h
  split at h
  ·rename_i hk
   have hk':kind=.cell:=by simpa using hk
   subst hk'
   rcases zht r _ _ h with q|q
   ·rcases qc.mp q with q|q
    ·cases q;exact .inr qo
    ·exact .inl q
   ·exact .inr (qW _ q)
  ·rcases zht r _ _ h with q|q
   ·exact .inl q
   ·exact .inr (qW _ q)
theorem zmj{α:Type}{x:Str}:∀{l r:List (Str×α)},(l++r).lookup x=(l.lookup x).or (r.lookup x)
 | [],_=>by simp
 | (k,v)::l,r=>by
  rw[qCN,qAM,qAM]
  cases x==k with
  | true=>rfl
  | false=>exact zmj
theorem zhd{env:Env}{x:Str}{k':NameKind}:∀{names:List (Str×NameKind)},
  (names.map λ(n,k)=>if(k==NameKind.free&&env.scope.kind==.function&&env.kindOf n==some .cell)then(n,NameKind.cell)else(n,k)).lookup x=some k'->
  ∃k,names.lookup x=some k/\(k'=k\/(k=.free/\k'=.cell))
 | [],h=>by simp at h
 | (n,k)::r,h=>by
  rw[qf]at h
  by_cases hc:(k==NameKind.free&&env.scope.kind==.function&&env.kindOf n==some .cell)=true
  ·simp only[hc,if_true]at h
   rw[qAM]at h ⊢
   cases hx:x==n with
   | true=>
    rw[hx]at h
    have hk:k=.free:=by simp at hc;exact hc.1.1
    exact⟨k,rfl,.inr ⟨hk,(qZ h).symm⟩⟩
   | false=>rw[hx]at h;exact zhd h
  ·simp only[hc,qBl,if_false]at h
   rw[qAM]at h ⊢
   cases hx:x==n with
   | true=>rw[hx]at h;exact⟨k,rfl,.inl (qZ h).symm⟩
   | false=>rw[hx]at h;exact zhd h
theorem zld{env:Env}{x:Str}:∀{names:List (Str×NameKind)},names.lookup x=some .free->
  ((names.map λ(n,k)=>if(k==NameKind.free&&env.scope.kind==.function&&env.kindOf n==some .cell)then(n,NameKind.cell)else(n,k)).lookup x=some .free\/
   (names.map λ(n,k)=>if(k==NameKind.free&&env.scope.kind==.function&&env.kindOf n==some .cell)then(n,NameKind.cell)else(n,k)).lookup x=some .cell)
 | [],h=>by simp at h
 | (n,k)::r,h=>by
  rw[qf]
  rw[qAM]at h
  by_cases hc:(k==NameKind.free&&env.scope.kind==.function&&env.kindOf n==some .cell)=true
  ·simp only[hc,if_true]
   rw[qAM]
   cases hx:x==n with
   | true=>exact .inr rfl
   | false=>rw[hx]at h;exact zld h
  ·simp only[hc,qBl,if_false]
   rw[qAM]
   cases hx:x==n with
   | true=>rw[hx]at h;exact .inl h
   | false=>rw[hx]at h;exact zld h
theorem zagn{M:Model}{A:Around}{E:Value->Shared->Prop}{s:Shared}{scope:Scope}{globals:Addr}{cl:List (Str×Addr)}{qual:Str}{env:Env}{Q:Env->Shared->Prop}
  (hQ:∀h',(∀b o,s.heap.get? b=some o->h'.get? b=some o)->h'.Ns s.heap.objs.size (λ_=>none)->(∀n c,(n,c)∈cellsFrom (s.heap.objs.size+1) scope.names []->h'.IsCell c none/\s.heap.objs.size+1<=c)->
   ((cellsFrom (s.heap.objs.size+1) scope.names []).Pairwise λx y=>x.2≠y.2)->
   Q {scope:=scope,locals:=s.heap.objs.size,globals:=globals,cells:=cellsFrom (s.heap.objs.size+1) scope.names []++cl,qual:=qual,func:=none,code:=env.code,frame:=env.frame,builtins:=env.builtins} {s with heap:=h'}) :
  wpAny M A (newFunctionEnv scope globals cl [] qual none .none (some env)) Q E s:=by
 simp only[newFunctionEnv,qCy,if_true]
 refine qD (wpAny_alloc ?_)
 refine qD (wpAny_layCells _ (λname kind cells=>by cases hkc:kind==NameKind.cell<;>simp[hkc]) _ _ _ _ ?_)
 have ok:=cellsFrom_ok scope.names (s.heap.push {cls:=.type "dict",data:=.dict #[]}) (s.heap.objs.size+1) [] ⟨λ_ _ hm=>(nomatch hm),List.Pairwise.nil⟩ (by rw[qAp];exact qK _)
 rw[qAp]at ok
 rw[show({s with heap:=s.heap.push {cls:=.type "dict",data:=.dict #[]}}:Shared).heap.objs.size=s.heap.objs.size+1 from qAp ..]
 rw[zhs]
 refine qD ?_
 refine qJ (qJ ?_)
 exact hQ _ (λb o e=>pushCells_keeps _ _ b o (qF _ e)) ((Heap.Ns.new s.heap (.type "dict")).keeps (pushCells_keeps _ _)) ok.empty ok.apart
noncomputable def cxComp(X:Cx)(scope:Scope)(N' own:List Str)(cl:List (Str×Addr))(C:Addr)(s:Shared)(H:Hp)(fp:List Addr):Cx:=
 {X with N:=N',s₀:=s,H₀:=H,env:=compEnvC scope cl C X.env,outer:=X.stack,stack:=X.stack,ex:=fp,fn:=λx=>own.contains x,pn:=[],xe:=λ_ _=>False}
structure CompOk(X:Cx)(scope:Scope)(N' own:List Str)(fr:List Nat):Prop where
 kind:scope.kind=.function
 names:∀y∈scope.names,scope.names.lookup y.1=some y.2
 up:∀y∈scope.names,y.2=.free->(X.env.kindOf y.1=some .cell\/X.env.kindOf y.1=some .free)
 nm:N'=own++fr.map (λj=>X.N.getD j Str.empty)
 fr:∀j∈fr,j<X.N.length/\scope.names.lookup (X.N.getD j Str.empty)=some .free
 own:∀x∈own,scope.names.lookup x=some .local\/scope.names.lookup x=some .cell
noncomputable def tau(own:List Str)(fr:List Nat)(σ:St):St:=own.map (λ_=>none)++fr.map (λj=>σ.getD j none)
section
variable{X:Cx}{pins:List (Addr×Obj)}{σ:St}{H:Hp}{s:Shared}{scope:Scope}{N' own:List Str}{fr:List Nat}
theorem zpc(c:CompOk X scope N' own fr)(ok:X.Ok):∀y∈scope.names,y.2=.free->∃a,X.env.cells.lookup y.1=some a:=λy hy e=>ok.has y.1 (c.up y hy e)
theorem zaml{fp:List Addr}{h':Heap}(c:CompOk X scope N' own fr)(I:Inv X pins σ H s)
  (hf:∀b∈fp,FpOk X pins H b)(ho:∀b∈fp,∃o,s.heap.get? b=some o/\∀v,o.data≠.cell v)
  (keep:∀b o,s.heap.get? b=some o->h'.get? b=some o)(ns:h'.Ns s.heap.objs.size (λ_=>none))
  (cells:∀n c,(n,c)∈cellsFrom (s.heap.objs.size+1) scope.names []->h'.IsCell c none/\s.heap.objs.size+1<=c)
  (apart:(cellsFrom (s.heap.objs.size+1) scope.names []).Pairwise λx y=>x.2≠y.2) :
  Inv (cxComp X scope N' own (cellsFrom (s.heap.objs.size+1) scope.names []++clos X.env.cells scope.names []) s.heap.objs.size s H fp) [] (tau own fr σ) H {s with heap:=h'}:=by
 have found:=zpc c I.ok
 have clm:∀x a,(x,a)∈clos X.env.cells scope.names []->(x,NameKind.free)∈scope.names/\X.env.cells.lookup x=some a:=λx a hm=>by
  rcases zxa found (x,a) hm with q|q
  ·simp at q
  ·exact q
 have look:∀x a,(cellsFrom (s.heap.objs.size+1) scope.names []++clos X.env.cells scope.names []).lookup x=some a->
   ((x,a)∈cellsFrom (s.heap.objs.size+1) scope.names []/\(x,NameKind.cell)∈scope.names)\/((x,NameKind.free)∈scope.names/\X.env.cells.lookup x=some a):=λx a e=>by
  rw[zmj]at e
  cases q:(cellsFrom (s.heap.objs.size+1) scope.names []).lookup x with
  | some b=>
   rw[q]at e
   cases e
   have hm:=qAN q
   rcases zht _ _ _ hm with z|z
   ·simp at z
   ·exact .inl ⟨hm,z⟩
  | none=>
   rw[q]at e
   exact .inr (clm x a (qAN e))
 have lookF:∀x a,(x,NameKind.free)∈scope.names->X.env.cells.lookup x=some a->(cellsFrom (s.heap.objs.size+1) scope.names []++clos X.env.cells scope.names []).lookup x=some a:=λx a hx e=>by
  rw[zmj]
  have q:(cellsFrom (s.heap.objs.size+1) scope.names []).lookup x=none:=by
   cases q:(cellsFrom (s.heap.objs.size+1) scope.names []).lookup x with
   | none=>rfl
   | some b=>
    rcases zht _ _ _ (qAN q)with z|z
    ·simp at z
    ·have h1:=c.names _ hx
     have h2:=c.names _ z
     rw[h1]at h2
     cases h2
  rw[q]
  obtain⟨d,hd⟩:=zxc (cells:=X.env.cells) (acc:=[]) hx
  obtain⟨d',hd'⟩:=zny hd
  have:=(clm x d' (qAN hd')).2
  rw[e]at this
  cases this
  exact hd'
 have below:∀b o,s.heap.get? b=some o->b<s.heap.objs.size:=λb o e=>qL e
 have cold:∀x a,X.env.cells.lookup x=some a->a<s.heap.objs.size:=λx a e=>let⟨v,q⟩:=I.cell x a e;q.lt
 refine⟨⟨I.ok.mod,c.kind,I.ok.glob,I.ok.blt,qK _,?inj,?has,?cab,I.ok.hd,I.ok.frames,.inl rfl,?exf,I.bs,qv I.ok.bsz I.sz,?noex,?exfs,I.stack,I.stkFree⟩,
  rfl,I.bare,Un.kept keep,⟨_,ns,?loc⟩,?cell,I.hok.fresh (qK _),?freeC,?pin,I.hok.kept keep,?len⟩
 case inj=>
  intro x y a h1 h2
  rcases look x a h1 with⟨m1,k1⟩|⟨k1,e1⟩<;>rcases look y a h2 with⟨m2,k2⟩|⟨k2,e2⟩
  ·exact name_of_addr apart m1 m2
  ·exact absurd (qh (cold y a e2) (qBu (cells x a m1).2)) (qA4 _)
  ·exact absurd (qh (cold x a e1) (qBu (cells y a m2).2)) (qA4 _)
  ·exact I.ok.inj x y a e1 e2
 case has=>
  intro x hx
  have hx':(∃k,scope.names.lookup x=some k/\(k=.cell\/k=.free)):=by
   rcases hx with hx|hx
   ·obtain⟨k,e,q⟩:=zhd (env:=X.env) (names:=scope.names) hx
    rcases q with q|⟨q,_⟩
    ·exact⟨k,e,.inl q.symm⟩
    ·exact⟨k,e,.inr q⟩
   ·obtain⟨k,e,q⟩:=zhd (env:=X.env) (names:=scope.names) hx
    rcases q with q|⟨q,_⟩
    ·exact⟨k,e,.inr q.symm⟩
    ·exact⟨k,e,.inr q⟩
  obtain⟨k,e,q⟩:=hx'
  show ∃a,(cellsFrom (s.heap.objs.size+1) scope.names []++clos X.env.cells scope.names []).lookup x=some a
  rcases q with rfl|rfl
  ·obtain⟨a,ha⟩:=zwv (n:=s.heap.objs.size+1) e
   exact⟨a,by rw[zmj,ha];rfl⟩
  ·obtain⟨a,ha⟩:=found _ (qAN e) rfl
   exact⟨a,lookF x a (qAN e) ha⟩
 case cab=>
  intro x a hx e
  have hx:own.contains x=true:=hx
  have hx':x∈own:=by simpa using hx
  rcases look x a e with⟨m1,_⟩|⟨k1,_⟩
  ·have:=(cells x a m1).2
   show s.heap.objs.size<=a
   omega
  ·have h1:=c.names _ k1
   rcases c.own x hx' with h2|h2
   ·rw[h1]at h2;cases h2
   ·rw[h1]at h2;cases h2
 case exf=>
  intro b hb
  obtain⟨o,e,d⟩:=ho b hb
  refine⟨qu (below b o e),λx a q z=>?_⟩
  subst z
  rcases look x a q with⟨m1,_⟩|⟨k1,e1⟩
  ·exact absurd (qh (below a o e) (qBu (cells x a m1).2)) (qA4 _)
  ·obtain⟨v,o',e',d'⟩:=I.cell x a e1
   rw[e]at e'
   cases e'
   exact d v d'
 case noex=>
  intro b o e hb
  rcases(hf b hb).2.2.2.1 with z|z
  ·exact I.ok.noex b o e z
  ·exact absurd (qh (qh (qL e) I.ok.bsz) z) (qA4 _)
 case exfs=>
  intro b hb z
  rcases qc.mp (I.stkSub b z)with q|q
  ·exact(hf b hb).2.1 q
  ·exact(hf b hb).2.2.1 q
 case loc=>
  intro i x v h1 h2 h3
  have h1:N'[i]?=some x:=h1
  rw[c.nm]at h1
  unfold tau at h2
  by_cases hi:i<own.length
  ·rw[qAO (by simpa using hi),qr]at h2
   cases q:own[i]? with
   | none=>rw[q]at h2;cases h2
   | some z=>rw[q]at h2;cases h2
  ·rw[qAA (by simpa using hi),qr,qE]at h2
   rw[qAA (by simpa using hi),qr]at h1
   cases q:fr[i - own.length]? with
   | none=>rw[q]at h2;cases h2
   | some j=>
    rw[q]at h1 h2
    have e1:X.N.getD j Str.empty=x:=qZ h1
    have e2:σ.getD j none=some v:=qZ h2
    obtain⟨hj,hfree⟩:=c.fr j (qBc q)
    rw[e1]at hfree
    have hNj:X.N[j]?=some x:=by
     rw[<- e1,qi,qS hj];rfl
    have hσj:σ[j]?=some (some v):=by
     rw[qi]at e2
     cases z:σ[j]? with
     | none=>rw[z]at e2;cases e2
     | some w=>rw[z]at e2;rw[show w=some v from e2]
    have hmem:(x,NameKind.free)∈scope.names:=qAN hfree
    have hup:=c.up _ hmem rfl
    obtain⟨m,hn,hl⟩:=I.loc
    obtain⟨u,ru,lk⟩:=hl j x v hNj hσj (by rcases hup with z|z;exact .inr (.inl z);exact .inr (.inr z))
    refine⟨u,ru,.inr ⟨?_,?_⟩⟩
    ·rcases zld (env:=X.env) (names:=scope.names) hfree with z|z
     ·exact .inr z
     ·exact .inl z
    ·rcases lk with⟨k1,_⟩|⟨_,a,ha,hc⟩
     ·rcases hup with z|z
      ·rw[show X.env.kindOf x=some .cell from z]at k1;cases k1
      ·rw[show X.env.kindOf x=some .free from z]at k1;cases k1
     ·exact⟨a,lookF x a hmem ha,hc.keeps keep⟩
 case cell=>
  intro x a e
  rcases look x a e with⟨m1,_⟩|⟨k1,e1⟩
  ·exact⟨_,(cells x a m1).1⟩
  ·obtain⟨v,q⟩:=I.cell x a e1
   exact⟨v,q.keeps keep⟩
 case freeC=>
  intro x a e
  rcases look x a e with⟨m1,_⟩|⟨k1,e1⟩
  ·exact I.hok.fresh (by have:=(cells x a m1).2;omega)
  ·exact I.freeC x a e1
 case pin=>intro p hp;exact absurd (show p∈([]:List (Addr×Obj))from hp) (by simp)
 case len=>
  show(tau own fr σ).length=N'.length
  rw[c.nm];unfold tau;simp
end
noncomputable abbrev TM:=St->Hp->(St->Hp->Prop)->Prop
noncomputable def PM(X:Cx)(act:Sem Unit)(t:TM):Prop:=
 ∀(pins:List (Addr×Obj))(s:Shared)(σ:St)(H:Hp)(Q:St->Hp->Prop),Inv X pins σ H s->t σ H Q->wpAny (model X.prog X.w) X.A act (λ_ s'=>∃σ' H',Inv X pins σ' H' s'/\Q σ' H') X.xe s
noncomputable def PF(X:Cx)(ifs:List Expr)(t:TT):Prop:=
 ∀(pins:List (Addr×Obj))(s:Shared)(σ:St)(H:Hp)(Q:Bool->Hp->Prop),Inv X pins σ H s->t σ H Q->
  wpAny (model X.prog X.w) X.A (forIn ifs true λc r=>if r=true then do let ok <- isTrue c X.env (eval c X.env);pure (ForInStep.yield ok)else pure (ForInStep.yield r)) (TP X pins σ Q) X.xe s
noncomputable def tAll:TT:=λ_ H Q=>Q true H
section
variable{X:Cx}
theorem zavc:PF X [] tAll:=λ_ s σ H Q I h=>wpAny_tests_nil ⟨H,I,h⟩
theorem zavd{c:Expr}{t:TT}(h:PT X c t):PF X [c] t:=λpins s σ H Q I q=>wpAny_tests_one (h pins s σ H Q I q)
noncomputable def zacd(p:Addr)(te:TE):TM:=λσ H Q=>te σ H λv H1=>∃ys,H1 p=some (.lst ys)/\ys.length<qX/\Q σ (upd H1 p (.lst (ys++[v])))
theorem zace{elt:Expr}{te:TE}{p:Addr}(h:PE X elt te):PM X (do let _ <- call (.builtin "list.append") [.ref p,<- eval elt X.env]) (zacd p te):=by
 intro pins s σ H Q I q
 refine qD (thn (h pins s σ H _ I q) λu s1 ⟨v,H1,I1,r,ys,hp,hz,q1⟩=>?_)
 refine qD (thn (zhh pins s1 σ H1 (.ref p) [v] (.ref p) [u] (λ_ H2=>Q σ H2) I1 rfl (.cons r .nil) ⟨p,ys,v,rfl,rfl,hp,hz,q1⟩) λ_ s2 ⟨_,H2,I2,_,q2⟩=>?_)
 exact qJ ⟨σ,H2,I2,q2⟩
noncomputable def zamm(J:It)(g:TG)(tt:TT)(tm:TM):TM:=λσ H Q=>∃W:Nat->Nat->St->Hp->Prop,(∃m,W 0 m σ H)/\∀i m σ H,W i m σ H->
 (J.stop i H/\Q σ H)\/(J.go i H/\∃N:St->Hp->Prop,(∀σ' H',N σ' H'->∃m',m'<m/\W (i+1) m' σ' H')/\∀x H',J.yld i H x H'->g x σ H' λσ2 H2=>tt σ2 H2 λb H3=>if b=true then tm σ2 H3 N else N σ2 H3)
theorem zse{elt0:Expr}{gens:List Comprehension}{scope:Scope}{cpos:Pos}{depth:Nat}{target:Expr}{ifs:List Expr}{emit:Sem Unit}{acc:Value}{ip:Pos}{it:Addr}{fp:List Addr}{tn:Nat->Heap->Prop}{J:It}{g:TG}{tt:TT}{tm:TM}{pins:List (Addr×Obj)}{σ:St}{H:Hp}{s:Shared}{Q:St->Hp->Prop}
  (hx:X.xe=λ_ _=>False)(hc:X.calm=true)
  (eq:compTurn (.ListComp elt0 gens scope cpos) depth (.ref it) acc X.env=(do
   standAt ip
   match <- pyNext (.ref it)with
   | none=>pure (.done .next)
   | some v=>
    letOwnedTupleGo target (.ref it) v
    assign target X.env v
    let mut ok:=true
    for c in ifs do
     if ok then ok <- isTrue c X.env (eval c X.env)
    if ok then emit
    again (.compLoop (.ListComp elt0 gens scope cpos) depth (.ref it) acc X.env)))
  (T:Turn X.prog X.w X.K target J fp it tn)(hg:PG X target g)(ht:PF X ifs tt)(hm:PM X emit tm)
  (I:Inv X pins σ H s)(st:tn 0 s.heap)(hf:∀b∈fp,FpOk X pins H b)(h:zamm J g tt tm σ H Q) :
  codeAny (model X.prog X.w) X.A (.compLoop (.ListComp elt0 gens scope cpos) depth (.ref it) acc X.env) (λr s'=>r=.ok .next/\∃σ' H',Inv X pins σ' H' s'/\Q σ' H') s:=by
 obtain⟨W,⟨m0,w0⟩,turn⟩:=h
 have stat:∀{H':Hp},(∀b∈fp,H' b=none)->∀b∈fp,FpOk X pins H' b:=λhn b hb=>⟨hn b hb,(hf b hb).2⟩
 have xe:∀{α:Type}{m:Sem α}{Q':α->Shared->Prop}{E:Value->Shared->Prop}{s:Shared},wpAny (model X.prog X.w) X.A m Q' X.xe s->wpAny (model X.prog X.w) X.A m Q' E s:=λq=>qBJ q (λ_ _ z=>z) λ_ _ z=>by rw[hx]at z;exact z.elim
 refine codeAny_loop rfl (λn s'=>∃i σ' H',Inv X pins σ' H' s'/\tn i s'.heap/\(∀b∈fp,H' b=none)/\W i n σ' H') ?_ m0 ⟨0,σ,H,I,st,λb hb=>(hf b hb).1,w0⟩
 rintro n s3 ⟨i,σ3,H3,I3,st3,fr3,w3⟩
 show wpAny _ X.A ((compTurn (.ListComp elt0 gens scope cpos) depth (.ref it) acc X.env).onRaise (λx=>do noteFrame x X.env;theTreesLotGoes x)) _ _ s3
 refine wpAny_noted ?_
 rw[eq]
 refine qD (qBI (qD ?_))
 rcases turn i n σ3 H3 w3 with⟨stop,qn⟩|⟨go,N,hN,step⟩
 ·refine thn (T.done X rfl rfl rfl hc i pins s3 σ3 H3 _ I3 (stat fr3) st3 stop) λr s4 ⟨hr,I4⟩=>?_
  subst hr
  exact qJ ⟨rfl,σ3,H3,I4,qn⟩
 ·refine thn (T.item X rfl rfl rfl hc i pins s3 σ3 H3 _ I3 (stat fr3) st3 go) λr s4 ⟨u,hr,h4⟩=>?_
  subst hr
  refine qD (thn h4 λ_ s5 ⟨x,H5,I5,r5,y5,st5,fr5⟩=>?_)
  have I5':=I5.pinned (stat fr5) (T.obj _ _ st5)
  refine qD (xe (thn (hg _ s5 σ3 H5 x u _ I5' r5 (step x H5 y5)) λ_ s6 ⟨σ6,H6,I6,q6⟩=>?_))
  have again:∀{σ7:St}{H7:Hp}{s7:Shared},Inv X (pins++zyu fp s5.heap) σ7 H7 s7->N σ7 H7->∃m,m<n/\∃i σ' H',Inv X pins σ' H' s7/\tn i s7.heap/\(∀b∈fp,H' b=none)/\W i m σ' H':=λ{σ7 H7 s7} I7 n7=>by
   obtain⟨m',hm,w7⟩:=hN σ7 H7 n7
   refine⟨m',hm,i+1,σ7,H7,I7.unpinned,T.keep _ _ _ st5 λb hb o e=>(I7.pin (b,o) (qk _ (qk _ (zmi hb e)))).1,λb hb=>?_,w7⟩
   obtain⟨o,e,d⟩:=T.obj _ _ st5 b hb
   exact(I7.pin (b,o) (qk _ (qk _ (zmi hb e)))).2.1
  refine qD (xe (thn (ht _ s6 σ6 H6 _ I6 q6) λok s7 ⟨H7,I7,q7⟩=>?_))
  cases ok with
  | false=>
   rw[if_neg (by decide)]at q7
   exact qJ ⟨rfl,again I7 q7⟩
  | true=>
   rw[if_pos rfl]at q7
   refine qD (xe (thn (hm _ s7 σ6 H7 _ I7 q7) λ_ s8 ⟨σ8,H8,I8,q8⟩=>?_))
   exact qJ ⟨rfl,again I8 q8⟩
end
section
variable{X:Cx}{pins:List (Addr×Obj)}{σ:St}{H:Hp}{s:Shared}{scope:Scope}{N' own:List Str}{fr:List Nat}
theorem zvg{elt0 target iter:Expr}{ifs:List Expr}{rest:List Comprehension}{cpos:Pos}{g:TG}{tt:TT}{tm:Addr->TM}{emit:Value->Env->Sem Unit}{it:Addr}{fp:List Addr}{tn:Nat->Heap->Prop}{J:It}{Q:VK}{E:Value->Shared->Prop}{RR:Value->Addr->Result->Shared->Prop}
  (c:CompOk X scope N' own fr)(hc:X.calm=true)
  (eq:∀it acc env,compTurn (.ListComp elt0 (⟨target,iter,ifs,0⟩::rest) scope cpos) 0 it acc env=(do
   standAt iter.pos
   match <- pyNext it with
   | none=>pure (.done .next)
   | some v=>
    letOwnedTupleGo target it v
    assign target env v
    let mut ok:=true
    for c in ifs do
     if ok then ok <- isTrue c env (eval c env)
    if ok then emit acc env
    again (.compLoop (.ListComp elt0 (⟨target,iter,ifs,0⟩::rest) scope cpos) 0 it acc env)))
  (T:Turn X.prog X.w X.K target J fp it tn)
  (hb:∀(cl:List (Str×Addr)) (C:Addr) (s:Shared) (H:Hp) (fp:List Addr) (p:Addr),PG (cxComp X scope N' own cl C s H fp) target g/\PF (cxComp X scope N' own cl C s H fp) ifs tt/\PM (cxComp X scope N' own cl C s H fp) (emit (.ref p) (compEnvC scope cl C X.env)) (tm p))
  (I:Inv X pins σ H s)(st:tn 0 s.heap)(hf:∀b∈fp,FpOk X pins H b)
  (h:∀p,H p=none->zamm J g tt (tm p) (tau own fr σ) (upd H p (.lst [])) (λ_ H'=>Q (.ref p) H'))
  (hRR:∀(p C:Addr) (m:Str->Option Value) (H':Hp) (s':Shared),Inv X pins σ H' s'->s'.heap.Ns C m->FpOk X pins H' C->Q (.ref p) H'->RR (.ref p) C (.ok .next) s') :
  wpAny (model X.prog X.w) X.A (newList []) (λacc s₃=>wpAny (model X.prog X.w) X.A (newFunctionEnv scope X.env.globals (clos X.env.cells scope.names []) [] X.env.qual none .none (some X.env)) (λcenv s₄=>
   codeAny (model X.prog X.w) X.A (.compStart (.ListComp elt0 (⟨target,iter,ifs,0⟩::rest) scope cpos) 0 (.ref it) acc {cenv with scope:=relabel scope X.env}) (RR acc cenv.locals) s₄) E s₃) E s:=by
 refine qAt ?_
 have I3:Inv X pins σ (upd H s.heap.objs.size (.lst [])) {s with heap:=s.heap.push {cls:=.type "list",dict:=none,data:=.seq ([]:List Value).toArray}}:=I.lnew (t':=s.toks) .nil (qAr _)
 have hn0:H s.heap.objs.size=none:=I.hok.fresh (qK _)
 generalize e3:({s with heap:=s.heap.push {cls:=.type "list",dict:=none,data:=.seq ([]:List Value).toArray}}:Shared)=s3 at I3 ⊢
 have k3:∀b o,s.heap.get? b=some o->s3.heap.get? b=some o:=λb o e=>by rw[<- e3];exact qF _ e
 have hne:∀b∈fp,b≠s.heap.objs.size:=λb hb=>by
  obtain⟨o,e,_⟩:=T.obj _ _ st b hb
  exact qu (qL e)
 have hf3:∀b∈fp,FpOk X pins (upd H s.heap.objs.size (.lst [])) b:=λb hb=>⟨by rw[zav (hne b hb)];exact(hf b hb).1,(hf b hb).2⟩
 have st3:tn 0 s3.heap:=T.keep _ _ _ st λb _ o e=>k3 b o e
 refine zagn λh' keep ns cells apart=>?_
 have I4:=zaml c I3 hf3 (T.obj _ _ st3) keep ns cells apart
 have st4:tn 0 h':=T.keep _ _ _ st3 λb _ o e=>keep b o e
 obtain⟨hg,ht,hm⟩:=hb (cellsFrom (s3.heap.objs.size+1) scope.names []++clos X.env.cells scope.names []) s3.heap.objs.size s3 (upd H s.heap.objs.size (.lst [])) fp s.heap.objs.size
 have hf4:∀b∈fp,FpOk (cxComp X scope N' own (cellsFrom (s3.heap.objs.size+1) scope.names []++clos X.env.cells scope.names []) s3.heap.objs.size s3 (upd H s.heap.objs.size (.lst [])) fp) [] (upd H s.heap.objs.size (.lst [])) b:=λb hb=>
  ⟨(hf3 b hb).1,(I4.ok.exf b hb).1,I4.ok.exfs b hb,.inl hb,(I4.ok.exf b hb).2,λp hp=>absurd (show p∈([]:List (Addr×Obj))from hp) (by simp)⟩
 have loop:codeAny (model X.prog X.w) X.A (.compLoop (.ListComp elt0 (⟨target,iter,ifs,0⟩::rest) scope cpos) 0 (.ref it) (.ref s.heap.objs.size) (compEnvC scope (cellsFrom (s3.heap.objs.size+1) scope.names []++clos X.env.cells scope.names []) s3.heap.objs.size X.env)) (RR (.ref s.heap.objs.size) s3.heap.objs.size) {s3 with heap:=h'}:=by
  refine qBe (zse (X:=cxComp X scope N' own (cellsFrom (s3.heap.objs.size+1) scope.names []++clos X.env.cells scope.names []) s3.heap.objs.size s3 (upd H s.heap.objs.size (.lst [])) fp) (pins:=[]) rfl hc (eq _ _ _) T hg ht hm I4 st4 hf4 (h _ hn0)) λr s5 hr=>?_
  obtain⟨rfl,σ5,H5,I5,q5⟩:=hr
  obtain⟨m,hn,_⟩:=id I5.loc
  have u5:Un (frs X.stack) fp (upd H s.heap.objs.size (.lst [])) H5 s3.heap s5.heap:=I5.base
  have hok5:HOk X.prog X.w H5 s5.heap:=I5.hok
  have os5:s5.os=s3.os:=I5.os
  have bare5:=I5.bare
  have free5:H5 s3.heap.objs.size=none:=I5.free
  have hn:s5.heap.Ns s3.heap.objs.size m:=hn
  clear I5
  obtain⟨hh,gg,dd,tk,os'⟩:=s5
  obtain rfl:os'=s3.os:=os5
  have I6:Inv X pins σ H5 {s3 with heap:=hh,gens:=gg,drawn:=dd,toks:=tk}:=I3.call (ch:=fp) u5 hok5 bare5 λb hb=>⟨(hf3 b hb).2.2.2.1,(hf3 b hb).2.1,(hf3 b hb).2.2.2.2.1,(hf3 b hb).2.2.2.2.2⟩
  exact hRR _ _ m H5 _ I6 hn (I3.fpOk (qK _) free5) q5
 exact codeAny_compStart_list loop (T.self _ 0 _ _ _ st4 loop)
noncomputable def zamn(wi:TI)(g:TG)(tt:TT)(tm:Addr->TM)(own:List Str)(fr:List Nat):TE:=λσ H Q=>wi σ H λJ H1=>∀p,H1 p=none->zamm J g tt (tm p) (tau own fr σ) (upd H1 p (.lst [])) (λ_ H'=>Q (.ref p) H')
theorem zaep{elt0 target iter:Expr}{ifs:List Expr}{rest:List Comprehension}{cpos:Pos}{wi:TI}{g:TG}{tt:TT}{tm:Addr->TM}{emit:Value->Env->Sem Unit}(c:CompOk X scope N' own fr)(hc:X.calm=true)
  (eq:∀it acc env,compTurn (.ListComp elt0 (⟨target,iter,ifs,0⟩::rest) scope cpos) 0 it acc env=(do
   standAt iter.pos
   match <- pyNext it with
   | none=>pure (.done .next)
   | some v=>
    letOwnedTupleGo target it v
    assign target env v
    let mut ok:=true
    for c in ifs do
     if ok then ok <- isTrue c env (eval c env)
    if ok then emit acc env
    again (.compLoop (.ListComp elt0 (⟨target,iter,ifs,0⟩::rest) scope cpos) 0 it acc env)))
  (hi:PI X target iter wi)
  (hb:∀(cl:List (Str×Addr)) (C:Addr) (s:Shared) (H:Hp) (fp:List Addr) (p:Addr),PG (cxComp X scope N' own cl C s H fp) target g/\PF (cxComp X scope N' own cl C s H fp) ifs tt/\PM (cxComp X scope N' own cl C s H fp) (emit (.ref p) (compEnvC scope cl C X.env)) (tm p))
  (hs:∀x,foldedSetIterable iter X.env x=pure x:=by intro _;rfl) :
  PE X (.ListComp elt0 (⟨target,iter,ifs,0⟩::rest) scope cpos) (zamn wi g tt tm own fr):=by
 intro pins s σ H Q I h
 rw[eval_ListComp]
 refine qC2 (use:=none) rfl hs (znz (zpc c I.ok)) c.kind (λy hy e=>(c.names y hy).trans (by rw[e])) ?_
 refine thn (hi pins s σ H _ I h) λv s1 h1=>thn h1 λitv s2 h2=>?_
 obtain⟨it,fp,tn,J,H2,e,I2,T,st2,f2,q⟩:=h2
 subst e
 refine zvg (Q:=Q) c hc eq T hb I2 st2 f2 q λp C m H' s' I' hn hC q'=>?_
 exact⟨m,hn,λh' sb=>⟨.ref p,H',I'.turned (t':=s'.toks) (λb o hb e=>(sb.2 b hb).trans e) hC.1 hC.2.1 hC.2.2.2.1 hC.2.2.2.2.1 hC.2.2.2.2.2,rfl,q'⟩⟩
noncomputable def zard(wi:TI)(g:TG)(tt:TT)(tm:Addr->TM)(own:List Str)(fr:List Nat)(i:Nat):TS:=λD σ H=>zamn wi g tt tm own fr σ H λv H'=>D.nx (σ.set i (some v)) H'
theorem zaeq{elt0 target iter:Expr}{ifs:List Expr}{rest:List Comprehension}{cpos spos py:Pos}{wi:TI}{g:TG}{tt:TT}{tm:Addr->TM}{emit:Value->Env->Sem Unit}{i:Nat}{y:Str}(c:CompOk X scope N' own fr)(hc:X.calm=true)
  (eq:∀it acc env,compTurn (.ListComp elt0 (⟨target,iter,ifs,0⟩::rest) scope cpos) 0 it acc env=(do
   standAt iter.pos
   match <- pyNext it with
   | none=>pure (.done .next)
   | some v=>
    letOwnedTupleGo target it v
    assign target env v
    let mut ok:=true
    for c in ifs do
     if ok then ok <- isTrue c env (eval c env)
    if ok then emit acc env
    again (.compLoop (.ListComp elt0 (⟨target,iter,ifs,0⟩::rest) scope cpos) 0 it acc env)))
  (hi:PI X target iter wi)
  (hb:∀(cl:List (Str×Addr)) (C:Addr) (s:Shared) (H:Hp) (fp:List Addr) (p:Addr),PG (cxComp X scope N' own cl C s H fp) target g/\PF (cxComp X scope N' own cl C s H fp) ifs tt/\PM (cxComp X scope N' own cl C s H fp) (emit (.ref p) (compEnvC scope cl C X.env)) (tm p))
  (hsw:swapsWith (.ListComp elt0 (⟨target,iter,ifs,0⟩::rest) scope cpos) (some (.Name y py)) spos.line X.env=pure true)
  (hN:X.N.Nodup)(hy:X.N[i]?=some y)(hl:X.env.scope.names.lookup y=some .local)
  (hs:∀x,foldedSetIterable iter X.env x=pure x:=by intro _;rfl) :
  PS X (.Assign [.Name y py] (.ListComp elt0 (⟨target,iter,ifs,0⟩::rest) scope cpos) spos) (zard wi g tt tm own fr i):=by
 intro pins s σ H D I h
 rw[exec_Assign_Name_used _ _ _ _ hsw]
 refine qD (qBI (qD ?_))
 show wpAny _ X.A (do let _ <- comprehension (.ListComp elt0 (⟨target,iter,ifs,0⟩::rest) scope cpos) scope X.env _ (newList []) false (eval iter X.env) (some (assign (.Name y py) X.env))) _ _ s
 refine qD (thn (qC2 (use:=some (assign (.Name y py) X.env)) (Q:=λ_ s'=>SP X pins D .next s') rfl hs (znz (zpc c I.ok)) c.kind (λy hy e=>(c.names y hy).trans (by rw[e])) ?_) λ_ s' q=>qJ (qJ q))
 refine thn (hi pins s σ H _ I h) λv s1 h1=>thn h1 λitv s2 h2=>?_
 obtain⟨it,fp,tn,J,H2,e,I2,T,st2,f2,q⟩:=h2
 subst e
 refine zvg (Q:=λv H'=>D.nx (σ.set i (some v)) H') c hc eq T hb I2 st2 f2 q λp C m H' s' I' hn hC q'=>?_
 show wpAny _ X.A (assign (.Name y py) X.env (.ref p)) _ _ _
 refine wpAny_assign_Name (zyt I' hN hy (.inl hl) (v:=.ref p) rfl (λs'' I'' ⟨a,sb,ha⟩=>?_) (.inr hl))
 have hCa:C≠a:=by
  rcases ha with rfl|ha
  ·exact hC.2.1
  ·exact qAl (hC.2.2.2.2.1 y a ha)
 refine⟨m,hn.sameBut sb hCa,λh' sb'=>⟨σ.set i (some (.ref p)),H',I''.turned (t':=s''.toks) (λb o hb e=>(sb'.2 b hb).trans e) hC.1 hC.2.1 hC.2.2.2.1 hC.2.2.2.2.1 hC.2.2.2.2.2,q'⟩⟩
end
section
variable{X:Cx}
section
variable{scope:Scope}{N' own:List Str}{fr:List Nat}{elt target iter:Expr}{ifs:List Expr}{cpos:Pos}{wi:TI}{g:TG}{tt:TT}{te:TE}
noncomputable def tComp1(wi:TI)(g:TG)(tt:TT)(te:TE)(own:List Str)(fr:List Nat):TE:=zamn wi g tt (λp=>zacd p te) own fr
theorem zamo(c:CompOk X scope N' own fr)(hc:X.calm=true)(hi:PI X target iter wi)
  (hb:∀(cl:List (Str×Addr)) (C:Addr) (s:Shared) (H:Hp) (fp:List Addr),PG (cxComp X scope N' own cl C s H fp) target g/\PF (cxComp X scope N' own cl C s H fp) ifs tt/\PE (cxComp X scope N' own cl C s H fp) elt te)
  (hs:∀x,foldedSetIterable iter X.env x=pure x:=by intro _;rfl):PE X (.ListComp elt [⟨target,iter,ifs,0⟩] scope cpos) (tComp1 wi g tt te own fr):=
 zaep (emit:=λacc env=>do let _ <- call (.builtin "list.append") [acc,<- eval elt env]) c hc (λ_ _ _=>rfl) hi
  (λcl C s H fp p=>⟨(hb cl C s H fp).1,(hb cl C s H fp).2.1,zace (hb cl C s H fp).2.2⟩) hs
noncomputable def tAsgC1(wi:TI)(g:TG)(tt:TT)(te:TE)(own:List Str)(fr:List Nat)(i:Nat):TS:=zard wi g tt (λp=>zacd p te) own fr i
theorem zamp{spos py:Pos}{i:Nat}{y:Str}(c:CompOk X scope N' own fr)(hc:X.calm=true)(hi:PI X target iter wi)
  (hb:∀(cl:List (Str×Addr)) (C:Addr) (s:Shared) (H:Hp) (fp:List Addr),PG (cxComp X scope N' own cl C s H fp) target g/\PF (cxComp X scope N' own cl C s H fp) ifs tt/\PE (cxComp X scope N' own cl C s H fp) elt te)
  (hsw:swapsWith (.ListComp elt [⟨target,iter,ifs,0⟩] scope cpos) (some (.Name y py)) spos.line X.env=pure true)
  (hN:X.N.Nodup)(hy:X.N[i]?=some y)(hl:X.env.scope.names.lookup y=some .local)
  (hs:∀x,foldedSetIterable iter X.env x=pure x:=by intro _;rfl):PS X (.Assign [.Name y py] (.ListComp elt [⟨target,iter,ifs,0⟩] scope cpos) spos) (tAsgC1 wi g tt te own fr i):=
 zaeq (emit:=λacc env=>do let _ <- call (.builtin "list.append") [acc,<- eval elt env]) c hc (λ_ _ _=>rfl) hi
  (λcl C s H fp p=>⟨(hb cl C s H fp).1,(hb cl C s H fp).2.1,zace (hb cl C s H fp).2.2⟩) hsw hN hy hl hs
end
noncomputable def zayf:R2:=λx y H Q=>∃z n,x=.str z/\y=.int n/\z.length<=1000/\-1000<=n/\n<=1000/\Q (.str (Txt.mul z n)) H
theorem zare:OpR X (binaryOp .Mult) zayf:=by
 intro pins s σ H x y v u Q I rx ry h
 obtain⟨z,n,rfl,rfl,h1,h2,h3,q⟩:=h
 obtain⟨t,rfl⟩:=rx
 obtain⟨t',rfl⟩:=ry
 exact SB.mul (mulOk_of 1000 1000 h1 (by omega) (by omega) (by decide) (by decide)) λt' k=>⟨.str (Txt.mul z n),H,I.tok _,⟨_,rfl⟩,q⟩
noncomputable def rSlS:V->Option Int->Option Int->Hp->VK->Prop:=λx lo hi H Q=>∃z,x=.str z/\z.length<=qX/\Q (.str (Txt.slice z lo hi)) H
theorem zave:SlR X rSlS:=by
 intro pins s σ H x v vl vu lo hi sl Q I rx hs pl pu h
 obtain⟨z,rfl,hz,q⟩:=h
 obtain⟨t,rfl⟩:=rx
 refine⟨"str",_,F.slot_str_getitem.lookup,qC3 _ _ _,?_⟩
 have fin:∀t' k,EP X pins σ Q (.str (Txt.slice z lo hi) t') {s with toks:=k}:=λt' k=>⟨.str (Txt.slice z lo hi),H,I.tok _,⟨_,rfl⟩,q⟩
 have fz:(Txt.slice z lo hi).length<=qX:=qv (Txt.slice_le z _ _) hz
 cases pl with
 | none=>cases pu with
  | none=>exact qBT (l:=none) (u:=none) (st:=none) hs rfl (qCE ⟨fz,fin⟩)
  | int j tj=>exact qBT (l:=none) (u:=some (j,tj)) (st:=none) hs rfl (qCE ⟨fz,fin⟩)
 | int i ti=>cases pu with
  | none=>exact qBT (l:=some (i,ti)) (u:=none) (st:=none) hs rfl (qCE ⟨fz,fin⟩)
  | int j tj=>exact qBT (l:=some (i,ti)) (u:=some (j,tj)) (st:=none) hs rfl (qCE ⟨fz,fin⟩)
noncomputable def zaim:V->List V->Hp->VK->Prop:=λx vs H Q=>∃d o kvs more,x=.ref d/\vs=[.ref o]/\d≠o/\H d=some (.dK kvs)/\H o=some (.dK more)/\kvs.length+more.length<=qX/\Q .non (upd H d (.dK (znx kvs more)))
theorem zzi:MtM X "dict.update" zaim:=by
 intro pins s σ H x vs v us Q I rx rv h
 obtain⟨d,o,kvs,more,rfl,rfl,hne,hd,ho,hz,q⟩:=h
 cases rx
 obtain⟨u,rfl,ru⟩:=rv.one
 cases ru
 obtain⟨z1,s1,vs1,rel1,dd1⟩:=zamg I.hok hd
 obtain⟨z2,s2,vs2,rel2,dd2⟩:=zamg I.hok ho
 refine call_meetsIn F.slot_dict_update dd1.typeIs F.entry_dict_update (F.args_dict_update_2 _ _) (meets_dict_update (zep X.prog X.w) d o hne s2) ⟨vs1,vs2,dd1,dd2,?_,λh' h1 h2 sb=>?_⟩
 ·rw[<- rel1.length,<- rel2.length];exact hz
 ·have he:∃q,h'.get? d=some q:=by obtain⟨ob,_,_,e,_⟩:=h1;exact⟨ob,e⟩
  refine⟨.non,_,zwy (t':=s.toks) I (by rw[hd];trivial) sb he (zaih (qv (zjx more kvs) hz) s1 (rel2.merge rel1) h1),rfl,q⟩
theorem zamq{id:String}(hid:id="isinstance"):CallR X (.builtin id) (λxs H Q=>∃x n t b,xs=[x,.ty n]/\TyOf X.K H x t/\PySem.W.kitOne X.K t (.type n)=some b/\Q (.bl b) H):=by
 subst hid
 intro pins s σ H xs us Q I r h
 obtain⟨x,n,t,b,rfl,ty,e,q⟩:=h
 obtain⟨u,w',rfl,rx,ry⟩:=zabz r
 cases ry
 exact zahw I rx ty e λtk=>⟨.bl b,H,I.tok _,rfl,q⟩
end
section
variable{X:Cx}
end
mutual
def Rep(K:qC)(H:Hp):PyData->V->Prop
 | .none,v=>v=.non
 | .bool b,v=>v=.bl b
 | .int i,v=>v=.int i
 | .str x,v=>v=.str x
 | .list ds,v=>∃a xs,v=.ref a/\SqL K H a xs/\Reps K H ds xs
 | .tuple ds,v=>∃a xs,v=.ref a/\SqT K H a xs/\Reps K H ds xs
 | .dict _,_=>False
def Reps(K:qC)(H:Hp):List PyData->List V->Prop
 | [],xs=>xs=[]
 | d::ds,xs=>∃v vs,xs=v::vs/\Rep K H d v/\Reps K H ds vs
end
mutual
theorem zfy{X:Cx}{pins:List (Addr×Obj)}{σ:St}{H:Hp}{s:Shared}(I:Inv X pins σ H s):∀(d:PyData){v:V}{u:Value},Rep X.K H d v->RelV v u->∃as,Reads s.heap u d as
 | .none,v,u,h,r=>by unfold Rep at h;subst h;cases r;exact⟨_,.none⟩
 | .bool b,v,u,h,r=>by unfold Rep at h;subst h;cases r;exact⟨_,.bool b⟩
 | .int i,v,u,h,r=>by unfold Rep at h;subst h;obtain⟨t,rfl⟩:=r;exact⟨_,.int i t⟩
 | .str x,v,u,h,r=>by unfold Rep at h;subst h;obtain⟨t,rfl⟩:=r;exact⟨_,.str x t⟩
 | .list ds,v,u,h,r=>by
  unfold Rep at h
  obtain⟨a,xs,rfl,hq,hr⟩:=h
  cases r
  obtain⟨its,rv,p,hz⟩:=I.list hq
  obtain⟨as,q⟩:=zpd I ds hr rv
  obtain⟨o,h1,h2,n,h3⟩:=p.isList
  exact⟨_,reads_list_at h1 h2 h3 (by simpa using q)⟩
 | .tuple ds,v,u,h,r=>by
  unfold Rep at h
  obtain⟨a,xs,rfl,hq,hr⟩:=h
  cases r
  obtain⟨its,rv,p,hz⟩:=I.tuple hq
  obtain⟨as,q⟩:=zpd I ds hr rv
  obtain⟨o,h1,h2,n,h3⟩:=p
  exact⟨_,reads_tuple_at h1 h2 h3 (by simpa using q)⟩
 | .dict _,_,_,h,_=>by unfold Rep at h;exact h.elim
theorem zpd{X:Cx}{pins:List (Addr×Obj)}{σ:St}{H:Hp}{s:Shared}(I:Inv X pins σ H s):∀(ds:List PyData){vs:List V}{us:List Value},Reps X.K H ds vs->Vals vs us->∃as,ReadsAll s.heap us ds as
 | [],vs,us,h,r=>by unfold Reps at h;subst h;cases r;exact⟨_,.nil⟩
 | d::ds,vs,us,h,r=>by
  unfold Reps at h
  obtain⟨v,vs',rfl,h1,h2⟩:=h
  cases r with
  | cons r rr=>
   obtain⟨as,q1⟩:=zfy I d h1 r
   obtain⟨bs,q2⟩:=zpd I ds h2 rr
   exact⟨_,.cons q1 q2⟩
end
theorem SqT.same{K:qC}{H H':Hp}{a:Addr}{xs:List V}(h:Same H H')(q:SqT K H a xs):SqT K H' a xs:=by
 rcases q with(q|⟨o,q⟩)|q
 ·exact .inl (.inl (h _ _ q))
 ·exact .inl (.inr ⟨o,h _ _ q⟩)
 ·exact .inr q
section
variable{X:Cx}
noncomputable def rEqD(K:qC)(neg:Bool):R2:=λx y H Q=>∃d e,Rep K H d x/\Rep K H e y/\qx d=true/\qx e=true/\Q (.bl (if neg then !PyData.eqv d e else qz d e)) H
theorem zavf(hu:X.A.units+64<cLine):OpR X (compareOp .Eq) (rEqD X.K false):=by
 intro pins s σ H x y v u Q I rx ry h
 obtain⟨d,e,hd,he,sd,se,q⟩:=h
 obtain⟨as,r1⟩:=zfy I d hd rx
 obtain⟨bs,r2⟩:=zfy I e he ry
 exact eq_dataH r1 r2 sd se hu ⟨.bl (qz d e),H,I,rfl,q⟩
theorem zavg(hu:X.A.units+64<cLine):OpR X (compareOp .NotEq) (rEqD X.K true):=by
 intro pins s σ H x y v u Q I rx ry h
 obtain⟨d,e,hd,he,sd,se,q⟩:=h
 obtain⟨as,r1⟩:=zfy I d hd rx
 obtain⟨bs,r2⟩:=zfy I e he ry
 exact ne_dataH r1 r2 sd se hu ⟨.bl (!PyData.eqv d e),H,I,rfl,q⟩
theorem zain{bs:List Bool}:∀{its:List Value},Vals (bs.map V.bl) its->its=bs.map Value.bool:=by
 induction bs with
 | nil=>intro its r;cases r;rfl
 | cons b bs ih=>
  intro its r
  cases r with
  | cons r rr=>cases r;rw[ih rr];rfl
theorem zaio(bs:List Bool):(List.range bs.length).any (λi=>bs.getD i false)=bs.any id:=by
 rw[qAh,qA8,qA8]
 constructor
 ·rintro⟨i,hi,h⟩
  have hi:=qAm.mp hi
  rw[qi,qS hi]at h
  exact⟨_,qBx hi,h⟩
 ·rintro⟨b,hb,h⟩
  obtain⟨i,hi,e⟩:=qC6 hb
  exact⟨i,qAm.mpr hi,by rw[qi,qS hi,e];exact h⟩
theorem zaip(bs:List Bool):(List.range bs.length).all (λi=>bs.getD i false)=bs.all id:=by
 rw[qAh,qAP,qAP]
 constructor
 ·intro h b hb
  obtain⟨i,hi,e⟩:=qC6 hb
  have q:=h i (qAm.mpr hi)
  rw[qi,qS hi,e]at q
  exact q
 ·intro h i hi
  have hi:=qAm.mp hi
  have q:=h _ (qBx hi)
  rw[qi,qS hi]
  exact q
noncomputable def rAny(K:qC)(f:List Bool->Bool):List V->Hp->VK->Prop:=λxs H Q=>∃p bs,xs=[.ref p]/\SqL K H p (bs.map V.bl)/\Q (.bl (f bs)) H
theorem zamr(hc:X.calm=true):CallR X (.builtin "any") (rAny X.K λbs=>bs.any id):=by
 intro pins s σ H xs us Q I r h
 obtain⟨p,bs,rfl,hq,q⟩:=h
 obtain⟨u,rfl,ru⟩:=zaby r
 cases ru
 obtain⟨its,rv,pl,hz⟩:=I.list hq
 cases zain rv
 have hne:p≠s.heap.objs.size:=by obtain⟨o,e,_⟩:=pl.isList;exact qu (qL e)
 refine call_any_walk (qA3 pl.isList ⟨s.heap.objs.size,_,_,_,_,_,λi=>bs.getD i false,rfl,Walks.list (A:=X.A.in1) (show X.A.in1.handled=none from I.ok.hd hc) _ p hne (bs.map Value.bool).toArray,⟨⟨_,qb _ rfl,rfl,rfl⟩,?_⟩,?_,?_⟩)
 ·obtain⟨o,e,z⟩:=pl.isList
  exact⟨o,qF _ e,z⟩
 ·intro i v s' Q' E' hv hQ
  have hv:(bs.map Value.bool)[i]?=some v:=by simpa using hv
  rw[qr]at hv
  cases e:bs[i]? with
  | none=>rw[e]at hv;cases hv
  | some b=>
   rw[e]at hv
   cases hv
   have z:bs.getD i false=b:=by rw[qi,e];rfl
   have hQ:Q' (bs.getD i false) s':=hQ
   rw[z]at hQ
   exact qA2 hQ
 ·intro h' tk hk
  refine⟨.bl (bs.any id),H,?_,by rw[<- zaio bs];simp;rfl,q⟩
  exact I.kept (t':=tk) λb o e=>hk b o (by have:=qL e;simp;exact qu this) (qF _ e)
theorem zams(hc:X.calm=true):CallR X (.builtin "all") (rAny X.K λbs=>bs.all id):=by
 intro pins s σ H xs us Q I r h
 obtain⟨p,bs,rfl,hq,q⟩:=h
 obtain⟨u,rfl,ru⟩:=zaby r
 cases ru
 obtain⟨its,rv,pl,hz⟩:=I.list hq
 cases zain rv
 have hne:p≠s.heap.objs.size:=by obtain⟨o,e,_⟩:=pl.isList;exact qu (qL e)
 refine call_all_walk (qA3 pl.isList ⟨s.heap.objs.size,_,_,_,_,_,λi=>bs.getD i false,rfl,Walks.list (A:=X.A.in1) (show X.A.in1.handled=none from I.ok.hd hc) _ p hne (bs.map Value.bool).toArray,⟨⟨_,qb _ rfl,rfl,rfl⟩,?_⟩,?_,?_⟩)
 ·obtain⟨o,e,z⟩:=pl.isList
  exact⟨o,qF _ e,z⟩
 ·intro i v s' Q' E' hv hQ
  have hv:(bs.map Value.bool)[i]?=some v:=by simpa using hv
  rw[qr]at hv
  cases e:bs[i]? with
  | none=>rw[e]at hv;cases hv
  | some b=>
   rw[e]at hv
   cases hv
   have z:bs.getD i false=b:=by rw[qi,e];rfl
   have hQ:Q' (bs.getD i false) s':=hQ
   rw[z]at hQ
   exact qA2 hQ
 ·intro h' tk hk
  refine⟨.bl (bs.all id),H,?_,by rw[<- zaip bs];simp;rfl,q⟩
  exact I.kept (t':=tk) λb o e=>hk b o (by have:=qL e;simp;exact qu this) (qF _ e)
end
noncomputable def zaiq(o:Option NameKind):Bool:=o==some .cell||o==some .free
noncomputable def zair(sc:Scope)(N:List Str)(scope:Scope)(N' own:List Str)(fr:List Nat):Bool:=
 (scope.kind==.function)&&(scope.names.all λy=>scope.names.lookup y.1==some y.2)&&(scope.names.all λy=>!(y.2==.free)||zaiq (sc.names.lookup y.1))&&
 (N'==own++fr.map λj=>N.getD j Str.empty)&&(fr.all λj=>decide (j<N.length)&&(scope.names.lookup (N.getD j Str.empty)==some .free))&&
 (own.all λx=>scope.names.lookup x==some .local||scope.names.lookup x==some .cell)
section
variable{X:Cx}
theorem zbp{scope:Scope}{N' own:List Str}{fr:List Nat}(h:zair X.env.scope X.N scope N' own fr=true):CompOk X scope N' own fr:=by
 unfold zair at h
 simp only[qm]at h
 obtain⟨⟨⟨⟨⟨h1,h2⟩,h3⟩,h4⟩,h5⟩,h6⟩:=h
 refine⟨eq_of_beq h1,λy hy=>eq_of_beq (qAP.mp h2 y hy),λy hy e=>?_,eq_of_beq h4,λj hj=>?_,λx hx=>?_⟩
 ·have q:=qAP.mp h3 y hy
  rw[e]at q
  have q:zaiq (X.env.scope.names.lookup y.1)=true:=by simpa using q
  unfold zaiq at q
  rcases qDB.mp q with z|z
  ·exact .inl (eq_of_beq z)
  ·exact .inr (eq_of_beq z)
 ·have q:=qAP.mp h5 j hj
  rw[qm]at q
  exact⟨of_decide_eq_true q.1,eq_of_beq q.2⟩
 ·have q:=qAP.mp h6 x hx
  rcases qDB.mp q with z|z
  ·exact .inl (eq_of_beq z)
  ·exact .inr (eq_of_beq z)
noncomputable def zamt(K:qC):R2:=λx y H Q=>match x,y with
 | .int i,.int j=>Q (.int (i+j)) H
 | .str a,.str b=>a.length+b.length<=qX/\Q (.str (a++b)) H
 | .ref _,.ref _=>rCat x y H Q\/zauu K x y H Q
 | _,_=>False
theorem zais:OpR X (binaryOp .Add) (zamt X.K):=by
 intro pins s σ H x y v u Q I rx ry h
 cases x<;>cases y<;>first
  | exact h.elim
  | exact zaul pins s σ H _ _ v u Q I rx ry ⟨_,_,rfl,rfl,h⟩
  | exact zagh pins s σ H _ _ v u Q I rx ry ⟨_,_,rfl,rfl,h.1,h.2⟩
  | exact(zauz.or zaqt) pins s σ H _ _ v u Q I rx ry h
noncomputable def zavh:R2:=λx y H Q=>match x,y with
 | .int i,.int j=>CMul i j/\Q (.int (i * j)) H
 | .str z,.int n=>z.length<=1000/\-1000<=n/\n<=1000/\Q (.str (Txt.mul z n)) H
 | _,_=>False
theorem zsf:OpR X (binaryOp .Mult) zavh:=by
 intro pins s σ H x y v u Q I rx ry h
 cases x<;>cases y<;>first
  | exact h.elim
  | exact zaum pins s σ H _ _ v u Q I rx ry ⟨_,_,rfl,rfl,h.1,h.2⟩
  | exact zare pins s σ H _ _ v u Q I rx ry ⟨_,_,rfl,rfl,h.1,h.2.1,h.2.2.1,h.2.2.2⟩
noncomputable def rIxU(K:qC):R2:=λx y H Q=>match x,y with
 | .str z,.int i=>z.length<=qX/\∃c,atI z.cps.toList i=some c/\Q (.str ⟨#[c]⟩) H
 | .ref p,.int i=>∃xs v,(SqL K H p xs\/SqT K H p xs)/\atI xs i=some v/\Q v H
 | _,_=>False
theorem ix_U:IxR X (rIxU X.K):=by
 intro value slice pins s σ H x y v u Q I rx ry h hs
 cases x<;>cases y<;>first
  | exact h.elim
  | (obtain⟨h1,c,h2,h3⟩:=h;exact zauw value slice pins s σ H _ _ v u Q I rx ry ⟨_,_,c,rfl,rfl,h1,h2,h3⟩ hs)
  | (obtain⟨xs,w,h1,h2,h3⟩:=h
     rcases h1 with h1|h1
     ·exact zaqu value slice pins s σ H _ _ v u Q I rx ry ⟨_,xs,_,w,rfl,rfl,h1,h2,h3⟩ hs
     ·exact zauv value slice pins s σ H _ _ v u Q I rx ry ⟨_,xs,_,w,rfl,rfl,h1,h2,h3⟩ hs)
noncomputable def rSlU(K:qC):V->Option Int->Option Int->Hp->VK->Prop:=λx lo hi H Q=>match x with
 | .str z=>z.length<=qX/\Q (.str (Txt.slice z lo hi)) H
 | .ref _=>rSlL K x lo hi H Q
 | _=>False
theorem sl_U:SlR X (rSlU X.K):=by
 intro pins s σ H x v vl vu lo hi sl Q I rx hs pl pu h
 cases x<;>first
  | exact h.elim
  | exact zave pins s σ H _ v vl vu lo hi sl Q I rx hs pl pu ⟨_,rfl,h.1,h.2⟩
  | exact zaqw pins s σ H _ v vl vu lo hi sl Q I rx hs pl pu h
noncomputable def Dn(P:Program)(w:World)(K:qC)(mg:Str->Option Value)(base:Heap)(x:Str)(ps:List Str)(k:Nat)(sp:Sp):Prop:=
 ∃f fd,FnOk P w K mg base CX0 k f fd ps sp/\mg x=some (.ref f)/\qN K (.ref f)=true/\zrg K fd ps []
theorem zayg{x:Str}{p pos:Pos}{e:Expr}{es:List Expr}{t:TA}{ps:List Str}{k:Nat}{sp:Sp}(D:Dn X.prog X.w X.K X.mg X.base x ps k sp)(hr:Room k X.A)(hg:Gl X x)(ha:PA X (e::es) t)
  (hdb:(x==("__debug__":Str))=false:=by decide)(he:starEach (e::es) X.env=(false,eval e X.env)::starEach es X.env:=by rfl)(hpl:(backTo pos (starEach es X.env)).any (·.1)=false:=by rfl) :
  PE X (.Call (.Name x p) (e::es) [] pos) (tCall sp [] E0 t):=by
 obtain⟨f,fd,F,hm,hk,hb⟩:=D
 exact zahy F hr hg hm hk hb .nil zaye ha hdb he hpl
end
theorem Same.upd{H H':Hp}{p:Addr}{o:HO}(h:Same H H')(hp:H p=none):Same H (upd H' p o):=λb u e=>by rw[zav (zbs e hp)];exact h b u e
theorem Same.new{H:Hp}{p:Addr}{o:HO}(hp:H p=none):Same H (L2.upd H p o):=(Same.refl H).upd hp
end L2
namespace Bc
open PySem L2
noncomputable abbrev Web:=List (Str×List Str)
noncomputable def nm(W:Web):List Str:=W.map (·.1)
structure WebOk(W:Web):Prop where
 nd:(nm W).Nodup
 el:∀i n es,W[i]?=some (n,es)->∀e∈es,e∈nm (W.take i)
 few:∀p∈W,p.2.length<=4
 len:W.length<=12
theorem zjg{α:Type}[DecidableEq α]:∀(l m:List α),l.Nodup->(∀x∈l,x∈m)->l.length<=m.length
 | [],_,_,_=>qAr _
 | a::l,m,h,s=>by
  obtain⟨h1,h2⟩:=qAw.mp h
  have ha:=s a qo
  have q:=zjg l (m.erase a) h2 λx hx=>(List.mem_erase_of_ne (λ(z:x=a)=>h1 (by rw[<- z];exact hx))).mpr (s x (qW _ hx))
  rw[List.length_erase_of_mem ha]at q
  have:=List.length_pos_of_mem ha
  rw[qw]
  omega
section
variable{κ:Type}[DecidableEq κ]
end
theorem zsg{W:Web}(h:WebOk W):(nm W).length<=12:=by unfold nm;rw[qE];exact h.len
end Bc
namespace L2
open PySem PySem.Spec PyProof.Rows
section
variable{X:Cx}{K:qC}(hK:X.K=K)
include hK
theorem zarf{es:List Expr}{k:Nat}{t:TGs}{n:Nat}{pos:Pos}(hc:X.calm=true)(h:PGs X es t)
  (hn:(assignEach es X.env).length=n:=by rfl) (hst:(assignEach es X.env).findIdx? (·.1)=none:=by rfl):PG X (.Tuple es k pos) (gTup K n t):=by subst hK;exact zauh hc h hn hst
theorem zcm:IxR X (rIxU K):=by subst hK;exact ix_U
theorem zarg:SlR X (rSlU K):=by subst hK;exact sl_U
theorem zcl:OpR X (binaryOp .Add) (zamt K):=by subst hK;exact zais
theorem zapn:OpR X (compareOp .In) (rIn K false):=by subst hK;exact zaic
theorem zle:OpR X (compareOp .NotIn) (rIn K true):=by subst hK;exact zzc
theorem zff:CallR X (.builtin "len") (λxs H Q=>∃x n,xs=[x]/\LenV K x H n/\Q (.int n) H):=by subst hK;exact zalz
theorem zzj(hc:X.calm=true):CallR X (.builtin "any") (rAny K λbs=>bs.any id):=by subst hK;exact zamr hc
theorem zlf(hc:X.calm=true):CallR X (.builtin "all") (rAny K λbs=>bs.all id):=by subst hK;exact zams hc
theorem zfz:CallR X (.builtin "isinstance") (λxs H Q=>∃x n t b,xs=[x,.ty n]/\TyOf K H x t/\PySem.W.kitOne K t (.type n)=some b/\Q (.bl b) H):=by subst hK;exact zamq rfl
theorem zmk:CallR X (.type "list") (λxs H Q=>∃p ys,xs=[.ref p]/\(SqL K H p ys\/SqT K H p ys)/\∀l,H l=none->Q (.ref l) (upd H l (.lst ys))):=by subst hK;exact zzd
theorem zavi{T:String}{name:Str}{id:String}{r:V->List V->Hp->VK->Prop}{o e:Expr}{es:List Expr}{to:TE}{t:TA}{apos cpos:Pos}(pa:PlainAttrs T)(slot:Slot T name id)(hty:typeOf (.builtin id)=pure (.type "method_descriptor"))(hm:MtR X id r)(ho:PE X o to)(ha:PA X (e::es) t)
  (hbase:attributeBase o name X.env (eval o X.env)=eval o X.env:=by rfl)
  (hfew:((backTo cpos (starEach (e::es) X.env)).all (λx=>!x.1)&&(backToKw cpos (keywordEach [] X.env)).all (λx=>x.1.isSome)
   && decide ((e::es).length+([]:List Keyword).length+(if([]:List Keyword).isEmpty then 0 else 1)<30))=true:=by rfl)
  (hline:(apos.endLine==cpos.line)=true:=by rfl)(hs:starEach (e::es) X.env=(false,eval e X.env)::starEach es X.env:=by rfl)(hplain:(backTo cpos (starEach es X.env)).any (·.1)=false:=by rfl) :
  PE X (.Call (.Attribute o name apos) (e::es) [] cpos) (tBM K T r to t):=by subst hK;exact zayc pa slot hty hm ho ha hbase hfew hline hs hplain
end
noncomputable def keyD:PyData->Option Key
 | .int i=>some (Sum.inl i)
 | .str s=>some (Sum.inr s)
 | _=>none
mutual
def Rp(H:Hp):PyData->V->Prop
 | .none,v=>v=.non
 | .bool b,v=>v=.bl b
 | .int i,v=>v=.int i
 | .str x,v=>v=.str x
 | .list ds,v=>∃a xs,v=.ref a/\H a=some (.lst xs)/\Rps H ds xs
 | .tuple ds,v=>∃a xs,v=.ref a/\H a=some (.tup xs)/\Rps H ds xs
 | .dict kvs,v=>∃a ps,v=.ref a/\H a=some (.dK ps)/\Rpd H kvs ps
def Rps(H:Hp):List PyData->List V->Prop
 | [],xs=>xs=[]
 | d::ds,xs=>∃v vs,xs=v::vs/\Rp H d v/\Rps H ds vs
def Rpd(H:Hp):List (PyData×PyData)->List (Key×V)->Prop
 | [],ps=>ps=[]
 | (k,d)::r,ps=>∃k' v vs,ps=(k',v)::vs/\keyD k=some k'/\Rp H d v/\Rpd H r vs
end
mutual
theorem Rp.same{H H':Hp}(h:Same H H'):∀(d:PyData){v:V},Rp H d v->Rp H' d v
 | .none,v,q=>by unfold Rp at q ⊢;exact q
 | .bool b,v,q=>by unfold Rp at q ⊢;exact q
 | .int i,v,q=>by unfold Rp at q ⊢;exact q
 | .str x,v,q=>by unfold Rp at q ⊢;exact q
 | .list ds,v,q=>by
  unfold Rp at q ⊢
  obtain⟨a,xs,e,hq,hr⟩:=q
  exact⟨a,xs,e,h _ _ hq,Rps.same h ds hr⟩
 | .tuple ds,v,q=>by
  unfold Rp at q ⊢
  obtain⟨a,xs,e,hq,hr⟩:=q
  exact⟨a,xs,e,h _ _ hq,Rps.same h ds hr⟩
 | .dict kvs,v,q=>by
  unfold Rp at q ⊢
  obtain⟨a,xs,e,hq,hr⟩:=q
  exact⟨a,xs,e,h _ _ hq,Rpd.same h kvs hr⟩
theorem Rps.same{H H':Hp}(h:Same H H'):∀(ds:List PyData){vs:List V},Rps H ds vs->Rps H' ds vs
 | [],vs,q=>by unfold Rps at q ⊢;exact q
 | d::ds,vs,q=>by
  unfold Rps at q ⊢
  obtain⟨v,vs',e,h1,h2⟩:=q
  exact⟨v,vs',e,Rp.same h d h1,Rps.same h ds h2⟩
theorem Rpd.same{H H':Hp}(h:Same H H'):∀(ds:List (PyData×PyData)){vs:List (Key×V)},Rpd H ds vs->Rpd H' ds vs
 | [],vs,q=>by unfold Rpd at q ⊢;exact q
 | (k,d)::ds,vs,q=>by
  unfold Rpd at q ⊢
  obtain⟨k',v,vs',e,h0,h1,h2⟩:=q
  exact⟨k',v,vs',e,h0,Rp.same h d h1,Rpd.same h ds h2⟩
end
theorem zeh{H:Hp}:∀{ds:List PyData}{xs:List V},Rps H ds xs↔Paired (Rp H) ds xs
 | [],xs=>by
  constructor
  ·intro h;unfold Rps at h;subst h;exact .nil
  ·intro h;cases h;unfold Rps;rfl
 | d::ds,xs=>by
  constructor
  ·intro h
   unfold Rps at h
   obtain⟨v,vs,rfl,h1,h2⟩:=h
   exact .cons h1 (zeh.mp h2)
  ·intro h
   cases h with
   | cons h1 h2=>unfold Rps;exact⟨_,_,rfl,h1,zeh.mpr h2⟩
theorem Rps.length{H:Hp}{ds:List PyData}{xs:List V}(h:Rps H ds xs):ds.length=xs.length:=(zeh.mp h).length
theorem zfe{H:Hp}{ds:List PyData}{v:V}(h:Rp H (.list ds) v):∃a xs,v=.ref a/\H a=some (.lst xs)/\Rps H ds xs:=by unfold Rp at h;exact h
theorem zdc{H:Hp}{ds:List PyData}{v:V}(h:Rp H (.tuple ds) v):∃a xs,v=.ref a/\H a=some (.tup xs)/\Rps H ds xs:=by unfold Rp at h;exact h
theorem zpe{H:Hp}{ds:List (PyData×PyData)}{v:V}(h:Rp H (.dict ds) v):∃a xs,v=.ref a/\H a=some (.dK xs)/\Rpd H ds xs:=by unfold Rp at h;exact h
theorem zef{H:Hp}{i:Int}{v:V}(h:Rp H (.int i) v):v=.int i:=by unfold Rp at h;exact h
theorem zlg{H:Hp}{i:Str}{v:V}(h:Rp H (.str i) v):v=.str i:=by unfold Rp at h;exact h
theorem zlh{H:Hp}{i:Bool}{v:V}(h:Rp H (.bool i) v):v=.bl i:=by unfold Rp at h;exact h
theorem zacf{H:Hp}{v:V}(h:Rp H .none v):v=.non:=by unfold Rp at h;exact h
theorem zaf{H:Hp}{i:Int}:Rp H (.int i) (.int i):=by unfold Rp;rfl
theorem zch{H:Hp}{i:Str}:Rp H (.str i) (.str i):=by unfold Rp;rfl
theorem zbl{H:Hp}{i:Bool}:Rp H (.bool i) (.bl i):=by unfold Rp;rfl
theorem zgk{H:Hp}:Rp H .none .non:=by unfold Rp;rfl
theorem zfo{H:Hp}{ds:List PyData}{a:Addr}{xs:List V}(h:H a=some (.lst xs))(r:Rps H ds xs):Rp H (.list ds) (.ref a):=by unfold Rp;exact⟨a,xs,rfl,h,r⟩
theorem zacg{H:Hp}{ds:List PyData}{a:Addr}{xs:List V}(h:H a=some (.tup xs))(r:Rps H ds xs):Rp H (.tuple ds) (.ref a):=by unfold Rp;exact⟨a,xs,rfl,h,r⟩
theorem zpf{H:Hp}{ds:List (PyData×PyData)}{a:Addr}{xs:List (Key×V)}(h:H a=some (.dK xs))(r:Rpd H ds xs):Rp H (.dict ds) (.ref a):=by unfold Rp;exact⟨a,xs,rfl,h,r⟩
theorem zeb{H:Hp}:Rps H [] []:=by unfold Rps;rfl
theorem zpg{H:Hp}:Rpd H [] []:=by unfold Rpd;rfl
theorem zew{H:Hp}{d:PyData}{ds:List PyData}{v:V}{vs:List V}(h:Rp H d v)(r:Rps H ds vs):Rps H (d::ds) (v::vs):=by
 show Rps H (d::ds) _
 unfold Rps;exact⟨v,vs,rfl,h,r⟩
theorem Rps.append{H:Hp}{ds es:List PyData}{vs ws:List V}(h:Rps H ds vs)(r:Rps H es ws):Rps H (ds++es) (vs++ws):=by
 replace h:=zeh.mp h
 refine zeh.mpr ?_
 induction h with
 | nil=>exact zeh.mp r
 | cons h _ ih=>exact .cons h ih
theorem Rps.get2{H:Hp}{ds:List PyData}{vs:List V}(h:Rps H ds vs){i:Nat}{d:PyData}(e:ds[i]?=some d):∃v,vs[i]?=some v/\Rp H d v:=by
 replace h:=zeh.mp h
 induction h generalizing i with
 | nil=>simp at e
 | cons h _ ih=>
  cases i with
  | zero=>simp at e;subst e;exact⟨_,rfl,h⟩
  | succ i=>simpa using ih (by simpa using e)
open Classical in
noncomputable def Offs(A:Addr->Prop)(H:Hp):Hp:=λb=>if A b then none else H b
theorem Offs.get{A:Addr->Prop}{H:Hp}{b:Addr}(h:¬A b):Offs A H b=H b:=if_neg h
theorem Offs.out{A:Addr->Prop}{H:Hp}{b:Addr}(h:A b):Offs A H b=none:=if_pos h
theorem Offs.of{A:Addr->Prop}{H:Hp}{b:Addr}{o:HO}(h:Offs A H b=some o):¬A b/\H b=some o:=by
 by_cases hb:A b
 ·rw[Offs.out hb]at h;cases h
 ·rw[Offs.get hb]at h;exact⟨hb,h⟩
theorem Offs.mono{A B:Addr->Prop}{H H':Hp}(s:Same H H')(h:∀b o,H b=some o->¬A b->¬B b):Same (Offs A H) (Offs B H'):=λb o e=>by
 obtain⟨h1,h2⟩:=Offs.of e
 rw[Offs.get (h b o h2 h1)]
 exact s b o h2
theorem Offs.same(A:Addr->Prop)(H:Hp):Same (Offs A H) H:=λb o e=>(Offs.of e).2
theorem Offs.sub{A B:Addr->Prop}{H:Hp}(h:∀b,B b->A b):Same (Offs A H) (Offs B H):=Offs.mono (Same.refl _) λb _ _ n z=>n (h b z)
theorem Offs.grow{A:Addr->Prop}{H H':Hp}(s:Same H H'):Same (Offs A H) (Offs A H'):=Offs.mono s λ_ _ _ z=>z
theorem Offs.upd{A:Addr->Prop}{H:Hp}{a:Addr}{o:HO}(h:A a):Offs A (upd H a o)=Offs A H:=by
 funext b
 by_cases hb:A b
 ·rw[Offs.out hb,Offs.out hb]
 ·rw[Offs.get hb,Offs.get hb,zav (λe=>hb (by rw[e];exact h))]
inductive Sl where
 | no
  | pl (d:PyData)
  | ac (d:PyData)
noncomputable abbrev DEnv:=List Sl
noncomputable def own(env:DEnv)(σ:St)(a:Addr):Prop:=∃(i:Nat)(d:PyData),env[i]?=some (.ac d)/\σ[i]?=some (some (.ref a))
noncomputable def zhp(Ho H:Hp)(a:Addr):PyData->Prop
 | .list ds=>∃xs,H a=some (.lst xs)/\Rps Ho ds xs
 | .dict kvs=>∃ps,H a=some (.dK ps)/\Rpd Ho kvs ps
 | _=>False
theorem zhp.rp{Ho H H':Hp}{a:Addr}{d:PyData}(h:zhp Ho H a d)(s:Same Ho H')(e:∀o,H a=some o->H' a=some o):Rp H' d (.ref a):=by
 cases d with
 | list ds=>
  obtain⟨xs,h1,h2⟩:=h
  exact zfo (e _ h1) (Rps.same s _ h2)
 | dict ds=>
  obtain⟨xs,h1,h2⟩:=h
  exact zpf (e _ h1) (Rpd.same s _ h2)
 | _=>exact h.elim
theorem zhp.same{Ho H Ho' H':Hp}{a:Addr}{d:PyData}(h:zhp Ho H a d)(s:Same Ho Ho')(e:∀o,H a=some o->H' a=some o):zhp Ho' H' a d:=by
 cases d with
 | list ds=>
  obtain⟨xs,h1,h2⟩:=h
  exact⟨xs,e _ h1,Rps.same s _ h2⟩
 | dict ds=>
  obtain⟨xs,h1,h2⟩:=h
  exact⟨xs,e _ h1,Rpd.same s _ h2⟩
 | _=>exact h.elim
theorem zhp.ex{Ho H:Hp}{a:Addr}{d:PyData}(h:zhp Ho H a d):∃o,H a=some o:=by
 cases d with
 | list ds=>obtain⟨xs,h1,h2⟩:=h;exact⟨_,h1⟩
 | dict ds=>obtain⟨xs,h1,h2⟩:=h;exact⟨_,h1⟩
 | _=>exact h.elim
structure EnvOk(fx:Addr->Prop)(H0:Hp)(env:DEnv)(σ:St)(H:Hp):Prop where
 len:env.length=σ.length
 pl:∀(i:Nat)(d:PyData),env[i]?=some (.pl d)->∃v,σ[i]?=some (some v)/\Rp (Offs (λa=>fx a\/own env σ a) H) d v
 ac:∀(i:Nat)(d:PyData),env[i]?=some (.ac d)->∃a,σ[i]?=some (some (.ref a))/\H0 a=none/\¬fx a/\zhp (Offs (λa=>fx a\/own env σ a) H) H a d
 inj:∀(i j:Nat)(d e:PyData)(a:Addr),env[i]?=some (.ac d)->env[j]?=some (.ac e)->σ[i]?=some (some (.ref a))->σ[j]?=some (some (.ref a))->i=j
 base:Same H0 H
 fxs:∀b,fx b->∃o,H b=some o
theorem EnvOk.grow{fx fx':Addr->Prop}{H0:Hp}{env:DEnv}{σ:St}{H H':Hp}(h:EnvOk fx H0 env σ H)(s:Same H H')(f:∀b o,H b=some o->¬fx b->¬fx' b)(g:∀b,fx' b->∃o,H' b=some o):EnvOk fx' H0 env σ H':=by
 have so:Same (Offs (λa=>fx a\/own env σ a) H) (Offs (λa=>fx' a\/own env σ a) H'):=Offs.mono s λb o e n=>λz=>z.elim (f b o e λy=>n (.inl y)) λy=>n (.inr y)
 refine⟨h.len,λi d e=>?_,λi d e=>?_,h.inj,h.base.trans s,g⟩
 ·obtain⟨v,h1,h2⟩:=h.pl i d e
  exact⟨v,h1,Rp.same so d h2⟩
 ·obtain⟨a,h1,h2,h3,h4⟩:=h.ac i d e
  obtain⟨o,ho⟩:=h4.ex
  exact⟨a,h1,h2,f a o ho h3,h4.same so λo=>s a o⟩
theorem EnvOk.up{fx:Addr->Prop}{H0:Hp}{env:DEnv}{σ:St}{H H':Hp}(h:EnvOk fx H0 env σ H)(s:Same H H'):EnvOk fx H0 env σ H':=
 h.grow s (λ_ _ _ z=>z) λb z=>let⟨o,e⟩:=h.fxs b z;⟨o,s b o e⟩
structure Val where
 d:PyData
 fr:Bool
 bs:List Nat
noncomputable def lim(fx:Addr->Prop)(env:DEnv)(σ:St)(bs:List Nat)(a:Addr):Prop:=fx a\/∃(i:Nat)(d:PyData),i∉bs/\env[i]?=some (.ac d)/\σ[i]?=some (some (.ref a))
structure ValOk(A:Addr->Prop)(H H':Hp)(r:Val)(v:V):Prop where
 rp:Rp (Offs A H') r.d v
 fr:r.fr=true->∃a,v=.ref a/\H a=none/\zhp (Offs (λb=>A b\/b=a) H') H' a r.d
theorem znk{fx:Addr->Prop}{env:DEnv}{σ:St}{bs cs:List Nat}(h:∀i∈bs,i∈cs):∀a,lim fx env σ cs a->lim fx env σ bs a:=by
 rintro a (z|⟨i,d,h1,h2,h3⟩)
 ·exact .inl z
 ·exact .inr ⟨i,d,λq=>h1 (h i q),h2,h3⟩
theorem zsh{fx:Addr->Prop}{env:DEnv}{σ:St}{bs:List Nat}:∀a,lim fx env σ bs a->fx a\/own env σ a:=by
 rintro a (z|⟨i,d,h1,h2,h3⟩)
 ·exact .inl z
 ·exact .inr ⟨i,d,h2,h3⟩
theorem zarh{fx:Addr->Prop}{env:DEnv}{σ:St}:∀a,fx a\/own env σ a->lim fx env σ [] a:=by
 rintro a (z|⟨i,d,h2,h3⟩)
 ·exact .inl z
 ·exact .inr ⟨i,d,by simp,h2,h3⟩
theorem EnvOk.lims{fx:Addr->Prop}{H0:Hp}{env:DEnv}{σ:St}{H:Hp}(h:EnvOk fx H0 env σ H)(bs:List Nat):∀b,lim fx env σ bs b->∃o,H b=some o:=by
 rintro b (z|⟨i,d,h1,h2,h3⟩)
 ·exact h.fxs b z
 ·obtain⟨a,g1,g2,g3,g4⟩:=h.ac i d h2
  rw[h3]at g1
  cases g1
  exact g4.ex
theorem ValOk.later{A B:Addr->Prop}{H0 H H' H'':Hp}{r:Val}{v:V}(h:ValOk A H H' r v)(s0:Same H0 H)(s:Same H' H'')(hB:∀b,B b->A b):ValOk B H0 H'' r v:=by
 refine⟨Rp.same (Offs.mono s λb _ _ n z=>n (hB b z)) _ h.rp,λe=>?_⟩
 obtain⟨a,h1,h2,h3⟩:=h.fr e
 exact⟨a,h1,s0.free h2,h3.same (Offs.mono s λb _ _ n z=>n (z.elim (λy=>.inl (hB b y)) .inr)) λo=>s a o⟩
noncomputable def zjy:PyData->Bool
 | .list _=>false
 | .tuple _=>false
 | .dict _=>false
 | _=>true
theorem zsi{H H':Hp}{d:PyData}{v:V}(f:zjy d=true)(h:Rp H d v):Rp H' d v:=by
 cases d<;>first
  | (unfold Rp at h ⊢;exact h)
  | cases f
noncomputable def bsOf(d:PyData)(bs:List Nat):List Nat:=if zjy d=true then[]else bs
theorem zph{fx:Addr->Prop}{env:DEnv}{σ:St}{bs:List Nat}{H:Hp}{d:PyData}{v:V}(h:Rp (Offs (lim fx env σ bs) H) d v):Rp (Offs (lim fx env σ (bsOf d bs)) H) d v:=by
 unfold bsOf
 split
 ·rename_i e;exact zsi e h
 ·exact h
noncomputable abbrev EF:=DEnv->Option Val
noncomputable def SE(te:TE)(f:EF):Prop:=∀(fx:Addr->Prop)(H0:Hp)(env:DEnv)(σ:St)(H:Hp),EnvOk fx H0 env σ H->∀r,f env=some r->∀Q:VK,(∀v H',Same H H'->ValOk (lim fx env σ r.bs) H H' r v->Q v H')->te σ H Q
noncomputable abbrev TF:=DEnv->Option Bool
noncomputable def ST(tt:TT)(f:TF):Prop:=∀(fx:Addr->Prop)(H0:Hp)(env:DEnv)(σ:St)(H:Hp),EnvOk fx H0 env σ H->∀b,f env=some b->∀Q:Bool->Hp->Prop,(∀H',Same H H'->Q b H')->tt σ H Q
noncomputable abbrev AF:=DEnv->Option (List Val)
noncomputable def SA(ta:TA)(f:AF):Prop:=∀(fx:Addr->Prop)(H0:Hp)(env:DEnv)(σ:St)(H:Hp),EnvOk fx H0 env σ H->∀rs,f env=some rs->∀Q:List V->Hp->Prop,
 (∀vs H',Same H H'->Paired (λr v=>ValOk (lim fx env σ r.bs) H H' r v) rs vs->Q vs H')->ta σ H Q
section
variable{X:Cx}
noncomputable def eVar(i:Nat):EF:=λenv=>match env[i]? with
 | some (.pl d)=>some ⟨d,false,[]⟩
 | some (.ac d)=>some ⟨d,false,[i]⟩
 | _=>none
theorem zaa(i:Nat):SE (tVar i) (eVar i):=by
 intro fx H0 env σ H h r hr Q q
 unfold eVar at hr
 cases e:env[i]? with
 | none=>rw[e]at hr;cases hr
 | some sl=>
  rw[e]at hr
  cases sl with
  | no=>cases hr
  | pl d=>
   cases hr
   obtain⟨v,h1,h2⟩:=h.pl i d e
   exact⟨v,h1,q v H (Same.refl _) ⟨Rp.same (Offs.sub zsh) _ h2,λz=>by cases z⟩⟩
  | ac d=>
   cases hr
   obtain⟨a,h1,h2,h3,h4⟩:=h.ac i d e
   have hna:¬lim fx env σ [i] a:=by
    rintro(z|⟨j,d',g1,g2,g3⟩)
    ·exact h3 z
    ·exact g1 (qe.mpr (h.inj j i d' d a g2 e g3 h1))
   exact⟨_,h1,q _ H (Same.refl _) ⟨h4.rp (Offs.sub zsh) λo z=>by rw[Offs.get hna];exact z,λz=>by cases z⟩⟩
noncomputable def eC(d:PyData):EF:=λ_=>some ⟨d,false,[]⟩
theorem se_c{d:PyData}{v:V}(h:∀H,Rp H d v):SE (tC v) (eC d):=by
 intro fx H0 env σ H _ r hr Q q
 cases hr
 exact q v H (Same.refl _) ⟨h _,λz=>by cases z⟩
noncomputable abbrev OF:=PyData->PyData->Option (PyData×Bool)
noncomputable def SO(r:R2)(f:OF):Prop:=∀(A:Addr->Prop)(H:Hp)(x y:V)(dx dy:PyData),(∀b,A b->∃o,H b=some o)->Rp (Offs A H) dx x->Rp (Offs A H) dy y->∀d fr,f dx dy=some (d,fr)->∀Q:VK,
 (∀v H',Same H H'->Rp (Offs A H') d v->(fr=true->∃a,v=.ref a/\H a=none/\zhp (Offs (λb=>A b\/b=a) H') H' a d)->Q v H')->r x y H Q
noncomputable def eOp(f:OF)(a b:EF):EF:=λenv=>(a env).bind λx=>(b env).bind λy=>(f x.d y.d).bind λz=>some ⟨z.1,z.2,bsOf z.1 (x.bs++y.bs)⟩
theorem zbw{r:R2}{f:OF}{ta tb:TE}{fa fb:EF}(ho:SO r f)(ha:SE ta fa)(hb:SE tb fb):SE (tOp r ta tb) (eOp f fa fb):=by
 intro fx H0 env σ H h rr hr Q q
 unfold eOp at hr
 obtain⟨x,ex,hr⟩:=qA.mp hr
 obtain⟨y,ey,hr⟩:=qA.mp hr
 obtain⟨⟨d,fr⟩,ez,hr⟩:=qA.mp hr
 cases hr
 refine ha fx H0 env σ H h x ex _ λv H1 s1 v1=>hb fx H0 env σ H1 (h.up s1) y ey _ λu H2 s2 v2=>?_
 have l1:∀b,lim fx env σ (x.bs++y.bs) b->lim fx env σ x.bs b:=znk λi hi=>qAG _ hi
 have l2:∀b,lim fx env σ (x.bs++y.bs) b->lim fx env σ y.bs b:=znk λi hi=>qk _ hi
 refine ho (lim fx env σ (x.bs++y.bs)) H2 v u x.d y.d ((h.up (s1.trans s2)).lims _) (v1.later (Same.refl _) s2 l1).rp (v2.later (Same.refl _) (Same.refl _) l2).rp d fr ez _ λw H3 s3 rp fr3=>q w H3 ((s1.trans s2).trans s3) ⟨zph rp,λe=>?_⟩
 obtain⟨a,g1,g2,g3⟩:=fr3 e
 refine⟨a,g1,(s1.trans s2).free g2,?_⟩
 have nf:zjy d=false:=by cases d<;>first|rfl|exact g3.elim
 show zhp (Offs (λb=>lim fx env σ (bsOf d (x.bs++y.bs)) b\/b=a) H3) H3 a d
 rw[show bsOf d (x.bs++y.bs)=x.bs++y.bs by unfold bsOf;rw[if_neg (by rw[nf];decide)]]
 exact g3
end
theorem zer{n:Nat}(h:n<=100000):n<=qX:=qv h (by decide)
theorem zpi{n:Nat}(h:n<100000):n<qX:=qC0 h (by decide)
theorem zej{A:Addr->Prop}{H:Hp}(hA:∀b,A b->∃o,H b=some o){p:Addr}(hp:H p=none):¬A p:=λz=>by
 obtain⟨o,e⟩:=hA p z
 rw[hp]at e;cases e
theorem zpj{A:Addr->Prop}{H:Hp}{p:Addr}{ds:List PyData}{xs:List V}(hp:H p=none)(r:Rps (Offs A H) ds xs):zhp (Offs (λb=>A b\/b=p) (upd H p (.lst xs))) (upd H p (.lst xs)) p (.list ds):=by
 refine⟨xs,zau,Rps.same (Offs.mono (Same.new hp) λb o e n z=>?_) _ r⟩
 rcases z with z|z
 ·exact n z
 ·rw[z,hp]at e;cases e
theorem zvh{A:Addr->Prop}{H:Hp}{p:Addr}{ds:List PyData}{xs:List V}(hp:H p=none)(hA:¬A p)(r:Rps (Offs A H) ds xs):Rp (Offs A (upd H p (.lst xs))) (.list ds) (.ref p):=
 zfo (by rw[Offs.get hA];exact zau) (Rps.same (Offs.grow (Same.new hp)) _ r)
theorem zli{A:Addr->Prop}{H:Hp}{p:Addr}{ds:List PyData}{xs:List V}(hp:H p=none)(hA:¬A p)(r:Rps (Offs A H) ds xs):Rp (Offs A (upd H p (.tup xs))) (.tuple ds) (.ref p):=
 zacg (by rw[Offs.get hA];exact zau) (Rps.same (Offs.grow (Same.new hp)) _ r)
theorem zdm{A:Addr->Prop}{H:Hp}{a:Addr}{o:HO}(h:Offs A H a=some o):H a=some o:=(Offs.of h).2
noncomputable def addD:OF
 | .int i,.int j=>some (.int (i+j),false)
 | .str a,.str b=>if a.length+b.length<=100000 then some (.str (a++b),false)else none
 | .list a,.list b=>if a.length+b.length<=100000 then some (.list (a++b),true)else none
 | .tuple a,.tuple b=>if a.isEmpty=false/\a.length+b.length<=100000 then some (.tuple (a++b),false)else none
 | _,_=>none
theorem zfc{K:qC}:SO (zamt K) addD:=by
 intro A H x y dx dy hA rx ry d fr e Q q
 unfold addD at e
 split at e
 ·cases e
  cases zef rx;cases zef ry
  exact q _ H (Same.refl _) zaf (λz=>by cases z)
 ·split at e
  ·rename_i hl
   cases e
   cases zlg rx;cases zlg ry
   exact⟨zer hl,q _ H (Same.refl _) zch (λz=>by cases z)⟩
  ·cases e
 ·split at e
  ·rename_i hl
   cases e
   obtain⟨p,xs,rfl,hp,r1⟩:=zfe rx
   obtain⟨p',ys,rfl,hp',r2⟩:=zfe ry
   refine .inl ⟨p,p',xs,ys,rfl,rfl,zdm hp,zdm hp',zer (by rw[<- r1.length,<- r2.length];exact hl),λb hb=>?_⟩
   exact q _ _ (Same.new hb) (zvh hb (zej hA hb) (r1.append r2)) λ_=>⟨b,rfl,hb,zpj hb (r1.append r2)⟩
  ·cases e
 ·split at e
  ·rename_i hl
   cases e
   obtain⟨p,xs,rfl,hp,r1⟩:=zdc rx
   obtain⟨p',ys,rfl,hp',r2⟩:=zdc ry
   refine .inr ⟨p,p',xs,ys,rfl,rfl,SqT.of (zdm hp),SqT.of (zdm hp'),λz=>?_,zer (by rw[<- r1.length,<- r2.length];exact hl.2),λz=>?_,λ_ b hb=>?_⟩
   ·have h1:=r1.length
    have h0:=hl.1
    rw[z]at h1
    rw[List.isEmpty_eq_false_iff]at h0
    exact h0 (qBN.mp h1)
   ·have h2:=r2.length
    rw[z]at h2
    have:=qBN.mp h2
    subst this
    rw[qAC]at q
    exact q _ H (Same.refl _) rx (λz=>by cases z)
   ·exact q _ _ (Same.new hb) (zli hb (zej hA hb) (r1.append r2)) (λz=>by cases z)
  ·cases e
 ·cases e
noncomputable def intD(c:Int->Int->Bool)(f:Int->Int->PyData):OF
 | .int i,.int j=>if c i j=true then some (f i j,false)else none
 | _,_=>none
theorem zait{C:Int->Int->Prop}{g:Int->Int->V}{c:Int->Int->Bool}{f:Int->Int->PyData}(hc:∀i j,c i j=true->C i j)(hf:∀H i j,Rp H (f i j) (g i j)):SO (rI C g) (intD c f):=by
 intro A H x y dx dy hA rx ry d fr e Q q
 unfold intD at e
 split at e
 ·split at e
  ·rename_i h
   cases e
   cases zef rx;cases zef ry
   exact⟨_,_,rfl,rfl,hc _ _ h,q _ H (Same.refl _) (hf _ _ _) (λz=>by cases z)⟩
  ·cases e
 ·cases e
theorem zach{g:Int->Int->V}{f:Int->Int->PyData}(hf:∀H i j,Rp H (f i j) (g i j)):SO (rI0 g) (intD (λ_ _=>true) f):=by
 intro A H x y dx dy hA rx ry d fr e Q q
 unfold intD at e
 split at e
 ·split at e
  ·cases e
   cases zef rx;cases zef ry
   exact⟨_,_,rfl,rfl,q _ H (Same.refl _) (hf _ _ _) (λz=>by cases z)⟩
  ·cases e
 ·cases e
noncomputable def subD:OF:=intD (λ_ _=>true) λi j=>.int (i - j)
theorem zapo:SO (rI0 λi j=>.int (i - j)) subD:=zach λ_ _ _=>zaf
noncomputable def ltD:OF:=intD (λ_ _=>true) λi j=>.bool (decide (i<j))
theorem zavj:SO (rI0 λi j=>.bl (decide (i<j))) ltD:=zach λ_ _ _=>zbl
noncomputable def geD:OF:=intD (λ_ _=>true) λi j=>.bool (decide (j<=i))
theorem zayh:SO (rI0 λi j=>.bl (decide (j<=i))) geD:=zach λ_ _ _=>zbl
noncomputable def modD:OF:=intD (λ_ j=>decide (0<j)) λi j=>.int (i % j)
theorem zsj:SO (rI (λ_ j=>0<j) λi j=>.int (i % j)) modD:=zait (λ_ _ h=>of_decide_eq_true h) λ_ _ _=>zaf
noncomputable def zzk:OF:=intD (λ_ j=>decide (0<j/\j<1073741824)) λi j=>.int (i / j)
theorem zaci:SO (rI CDiv λi j=>.int (i / j)) zzk:=zait (λi j h=>(of_decide_eq_true h:0<j/\j<1073741824)) λ_ _ _=>zaf
noncomputable def mulD:OF
 | .int i,.int j=>if(-(2 ^ 64)<i/\i<2 ^ 64)\/(-(2 ^ 64)<j/\j<2 ^ 64)then some (.int (i * j),false)else none
 | .str z,.int n=>if z.length<=1000/\-1000<=n/\n<=1000 then some (.str (Txt.mul z n),false)else none
 | _,_=>none
theorem zzl:SO zavh mulD:=by
 intro A H x y dx dy hA rx ry d fr e Q q
 unfold mulD at e
 split at e
 ·split at e
  ·rename_i h
   cases e
   cases zef rx;cases zef ry
   exact⟨h,q _ H (Same.refl _) zaf (λz=>by cases z)⟩
  ·cases e
 ·split at e
  ·rename_i h
   cases e
   cases zlg rx;cases zef ry
   exact⟨h.1,h.2.1,h.2.2,q _ H (Same.refl _) zch (λz=>by cases z)⟩
  ·cases e
 ·cases e
mutual
theorem zsk{K:qC}{H:Hp}:∀{d:PyData}{v:V},d.canLay0=true->Rp H d v->Rep K H d v
 | .none,v,_,h=>by unfold Rp at h;unfold Rep;exact h
 | .bool b,v,_,h=>by unfold Rp at h;unfold Rep;exact h
 | .int i,v,_,h=>by unfold Rp at h;unfold Rep;exact h
 | .str x,v,_,h=>by unfold Rp at h;unfold Rep;exact h
 | .list ds,v,c,h=>by
  obtain⟨a,xs,e,h1,h2⟩:=zfe h
  unfold Rep
  exact⟨a,xs,e,SqL.of h1,zxd (by simpa [PyData.canLay0]using c) h2⟩
 | .tuple ds,v,c,h=>by
  obtain⟨a,xs,e,h1,h2⟩:=zdc h
  unfold Rep
  exact⟨a,xs,e,SqT.of h1,zxd (by simpa [PyData.canLay0]using c) h2⟩
 | .dict _,v,c,h=>by simp[PyData.canLay0]at c
theorem zxd{K:qC}{H:Hp}:∀{ds:List PyData}{vs:List V},qAL ds=true->Rps H ds vs->Reps K H ds vs
 | [],vs,_,h=>by unfold Rps at h;unfold Reps;exact h
 | d::ds,vs,c,h=>by
  unfold Rps at h
  obtain⟨v,ws,e,h1,h2⟩:=h
  have c:d.canLay0=true/\qAL ds=true:=by simpa [qAL]using c
  unfold Reps
  exact⟨v,ws,e,zsk c.1 h1,zxd c.2 h2⟩
end
noncomputable def zxe:PyData->PyData->Bool
 | .none,.none=>true|.none,.int _=>true|.int _,.none=>true|.none,.bool _=>true|.bool _,.none=>true|.none,.str _=>true|.str _,.none=>true
 | .int _,.int _=>true|.bool _,.bool _=>true|.str _,.str _=>true
 | .int _,.str _=>true|.str _,.int _=>true|.bool _,.str _=>true|.str _,.bool _=>true
 | _,_=>false
noncomputable def eqOk(dx dy:PyData):Bool:=zxe dx dy||(qx dx&&qx dy)
noncomputable def eqD:OF:=λdx dy=>if eqOk dx dy=true then some (.bool (qz dx dy),false)else none
noncomputable def neD:OF:=λdx dy=>if eqOk dx dy=true then some (.bool (!PyData.eqv dx dy),false)else none
theorem zaiu{H:Hp}{dx dy:PyData}{x y:V}(s:zxe dx dy=true)(rx:Rp H dx x)(ry:Rp H dy y):scal x y=true/\decide (x=y)=qz dx dy:=by
 cases dx<;>cases dy<;>first
  | (exact absurd (show false=true from s) qR)
  | (unfold Rp at rx ry;subst rx;subst ry;refine⟨rfl,?_⟩;first|rfl|exact zabw|exact zahr|exact zabx|simp[qz])
theorem zxf{K:qC}:SO (λx y H Q=>rEq x y H Q\/rEqD K false x y H Q) eqD:=by
 intro A H x y dx dy hA rx ry d fr e Q q
 unfold eqD at e
 split at e
 ·rename_i h
  cases e
  cases hs:zxe dx dy with
  | true=>
   obtain⟨h1,h2⟩:=zaiu hs rx ry
   exact .inl ⟨h1,by rw[h2];exact q _ H (Same.refl _) zbl (λz=>by cases z)⟩
  | false=>
   unfold eqOk at h
   rw[hs,qCm,qm]at h
   have rx:=Rp.same (Offs.same A H) _ rx
   have ry:=Rp.same (Offs.same A H) _ ry
   exact .inr ⟨dx,dy,zsk (qAk h.1) rx,zsk (qAk h.2) ry,h.1,h.2,q _ H (Same.refl _) zbl (λz=>by cases z)⟩
 ·cases e
theorem zsl{K:qC}:SO (λx y H Q=>rNe x y H Q\/rEqD K true x y H Q) neD:=by
 intro A H x y dx dy hA rx ry d fr e Q q
 unfold neD at e
 split at e
 ·rename_i h
  cases e
  cases hs:zxe dx dy with
  | true=>
   obtain⟨h1,h2⟩:=zaiu hs rx ry
   exact .inl ⟨h1,by rw[h2];exact q _ H (Same.refl _) zbl (λz=>by cases z)⟩
  | false=>
   unfold eqOk at h
   rw[hs,qCm,qm]at h
   have rx:=Rp.same (Offs.same A H) _ rx
   have ry:=Rp.same (Offs.same A H) _ ry
   exact .inr ⟨dx,dy,zsk (qAk h.1) rx,zsk (qAk h.2) ry,h.1,h.2,q _ H (Same.refl _) zbl (λz=>by cases z)⟩
 ·cases e
noncomputable def zfp(ds:List PyData):Bool:=ds.all zjy
theorem zapp{H:Hp}{d:PyData}{v:V}(f:zjy d=true)(h:Rp H d v):zup v=true:=by
 cases d<;>first
  | (unfold Rp at h;subst h;rfl)
  | cases f
theorem zari{H:Hp}{ds:List PyData}{vs:List V}(f:zfp ds=true)(h:Rps H ds vs):vs.all zup=true:=by
 replace h:=zeh.mp h
 induction h with
 | nil=>rfl
 | cons h _ ih=>
  unfold zfp at f
  rw[qBd,qm]at f
  rw[qBd,zapp f.1 h,ih f.2];rfl
theorem zarj{H:Hp}{d e:PyData}{v u:V}(f:zjy d=true)(g:zjy e=true)(h:Rp H d v)(k:Rp H e u):eqV v u=qz d e:=by
 cases d<;>cases e<;>first
  | (unfold Rp at h k;subst h;subst k;rfl)
  | exact absurd (show false=true from f) qR
  | exact absurd (show false=true from g) qR
theorem zark{H:Hp}{d:PyData}{v:V}(f:zjy d=true)(h:Rp H d v){ds:List PyData}{vs:List V}(g:zfp ds=true)(r:Rps H ds vs):inV v vs=ds.any λe=>qz e d:=by
 replace r:=zeh.mp r
 unfold inV
 induction r with
 | nil=>rfl
 | cons r _ ih=>
  unfold zfp at g
  rw[qBd,qm]at g
  rw[qA1,qA1,zarj g.1 f r h,ih g.2]
noncomputable def zhi:PyData->Option (List PyData)
 | .list ds=>some ds
 | .tuple ds=>some ds
 | _=>none
noncomputable def inD(neg:Bool):OF:=λd c=>match zhi c with
 | some ds=>if zjy d=true/\zfp ds=true then some (.bool (if neg then !(ds.any λe=>qz e d)else ds.any λe=>qz e d),false)else none
 | none=>none
theorem zaer{K:qC}{H:Hp}{c:PyData}{v:V}{ds:List PyData}(h:Rp H c v)(e:zhi c=some ds):∃p xs,v=.ref p/\(SqL K H p xs\/SqT K H p xs)/\Rps H ds xs:=by
 cases c<;>first
  | cases e
  | skip
 ·obtain⟨a,xs,e,h1,h2⟩:=zfe h;exact⟨a,xs,e,.inl (SqL.of h1),h2⟩
 ·obtain⟨a,xs,e,h1,h2⟩:=zdc h;exact⟨a,xs,e,.inr (SqT.of h1),h2⟩
theorem zacj{K:qC}{neg:Bool}:SO (rIn K neg) (inD neg):=by
 intro A H x y dx dy hA rx ry d fr e Q q
 unfold inD at e
 split at e
 ·rename_i ds hi
  split at e
  ·rename_i h
   cases e
   have rx:=Rp.same (Offs.same A H) _ rx
   obtain⟨p,xs,rfl,hq,r⟩:=zaer (K:=K) (Rp.same (Offs.same A H) _ ry) hi
   refine⟨p,xs,rfl,hq,zapp h.1 rx,zari h.2 r,?_⟩
   rw[zark h.1 rx h.2 r]
   refine q _ H (Same.refl _) ?_ (λz=>by cases z)
   cases neg<;>exact zbl
  ·cases e
 ·cases e
noncomputable def ixD:OF
 | .str z,.int i=>if z.length<=100000 then(atI z.cps.toList i).map λc=>(.str ⟨#[c]⟩,false)else none
 | .list ds,.int i=>(atI ds i).map λd=>(d,false)
 | .tuple ds,.int i=>(atI ds i).map λd=>(d,false)
 | _,_=>none
theorem Rps.atI{H:Hp}{ds:List PyData}{vs:List V}(h:Rps H ds vs){i:Int}{d:PyData}(e:atI ds i=some d):∃v,L2.atI vs i=some v/\Rp H d v:=by
 unfold L2.atI at e ⊢
 rw[<- h.length]
 cases g:ixN ds.length i with
 | none=>rw[g]at e;cases e
 | some j=>
  rw[g]at e
  exact h.get2 e
theorem zoa{K:qC}:SO (rIxU K) ixD:=by
 intro A H x y dx dy hA rx ry d fr e Q q
 unfold ixD at e
 split at e
 ·split at e
  ·rename_i z i hl
   obtain⟨c,hc,e⟩:=qG.mp e
   cases e
   cases zlg rx;cases zef ry
   exact⟨zer hl,c,hc,q _ H (Same.refl _) zch (λz=>by cases z)⟩
  ·cases e
 ·obtain⟨c,hc,e⟩:=qG.mp e
  cases e
  obtain⟨p,xs,rfl,hp,r⟩:=zfe rx
  cases zef ry
  obtain⟨v,hv,rv⟩:=r.atI hc
  exact⟨xs,v,.inl (SqL.of (zdm hp)),hv,q _ H (Same.refl _) rv (λz=>by cases z)⟩
 ·obtain⟨c,hc,e⟩:=qG.mp e
  cases e
  obtain⟨p,xs,rfl,hp,r⟩:=zdc rx
  cases zef ry
  obtain⟨v,hv,rv⟩:=r.atI hc
  exact⟨xs,v,.inr (SqT.of (zdm hp)),hv,q _ H (Same.refl _) rv (λz=>by cases z)⟩
 ·cases e
noncomputable def zmu:List (PyData×PyData)->Key->Option PyData
 | [],_=>none
 | (k,d)::r,j=>if keyD k=some j then some d else zmu r j
noncomputable def zack(kvs:List (PyData×PyData))(j:Key):Bool:=(zmu kvs j).isSome
noncomputable def zpk(kvs:List (PyData×PyData))(k:PyData)(d:PyData):List (PyData×PyData):=
 if(kvs.any λkv=>decide (keyD kv.1=keyD k))=true then kvs.map (λkv=>if keyD kv.1=keyD k then(kv.1,d)else kv)else kvs++[(k,d)]
noncomputable def zpl(kvs more:List (PyData×PyData)):List (PyData×PyData):=more.foldl (λacc kv=>zpk acc kv.1 kv.2) kvs
theorem zml{H:Hp}{k d:PyData}{r:List (PyData×PyData)}{k':Key}{v:V}{vs:List (Key×V)}(hk:keyD k=some k')(h:Rp H d v)(q:Rpd H r vs):Rpd H ((k,d)::r) ((k',v)::vs):=by
 show Rpd H ((k,d)::r) _
 unfold Rpd;exact⟨k',v,vs,rfl,hk,h,q⟩
theorem zib{H:Hp}{k d:PyData}{r:List (PyData×PyData)}{ps:List (Key×V)}(h:Rpd H ((k,d)::r) ps):∃k' v vs,ps=(k',v)::vs/\keyD k=some k'/\Rp H d v/\Rpd H r vs:=by
 unfold Rpd at h;exact h
theorem Rpd.length{H:Hp}:∀{kvs:List (PyData×PyData)}{ps:List (Key×V)},Rpd H kvs ps->kvs.length=ps.length
 | [],ps,h=>by unfold Rpd at h;subst h;rfl
 | (k,d)::r,ps,h=>by
  obtain⟨k',v,vs,rfl,_,_,h3⟩:=zib h
  rw[qw,qw,h3.length]
theorem Rpd.get{H:Hp}{j:Key}:∀{kvs:List (PyData×PyData)}{ps:List (Key×V)},Rpd H kvs ps->match zmu kvs j with
  | some d=>∃v,valV ps j=some v/\Rp H d v
  | none=>valV ps j=none
 | [],ps,h=>by unfold Rpd at h;subst h;rfl
 | (k,d)::r,ps,h=>by
  obtain⟨k',v,vs,rfl,hk,h2,h3⟩:=zib h
  have ih:=Rpd.get (j:=j) h3
  unfold zmu
  by_cases e:k'=j
  ·rw[if_pos (by rw[hk,e])]
   exact⟨v,zrq e,h2⟩
  ·rw[if_neg (λz=>e (by rw[hk]at z;exact qZ z)),zrr e]
   exact ih
theorem Rpd.any{H:Hp}{j:Key}:∀{kvs:List (PyData×PyData)}{ps:List (Key×V)},Rpd H kvs ps->(kvs.any λkv=>decide (keyD kv.1=some j))=ps.any λkv=>decide (kv.1=j)
 | [],ps,h=>by unfold Rpd at h;subst h;rfl
 | (k,d)::r,ps,h=>by
  obtain⟨k',v,vs,rfl,hk,h2,h3⟩:=zib h
  rw[qA1,qA1,h3.any,hk]
  congr 1
  simp
theorem Rpd.map{H:Hp}{j:Key}{d':PyData}{v':V}(h':Rp H d' v'):∀{kvs:List (PyData×PyData)}{ps:List (Key×V)},Rpd H kvs ps->Rpd H (kvs.map λkv=>if keyD kv.1=some j then(kv.1,d')else kv) (ps.map λkv=>if kv.1=j then(kv.1,v')else kv)
 | [],ps,h=>by unfold Rpd at h;subst h;exact zpg
 | (k,d)::r,ps,h=>by
  obtain⟨k',v,vs,rfl,hk,h2,h3⟩:=zib h
  rw[qf,qf]
  by_cases e:k'=j
  ·rw[if_pos (show keyD (k,d).1=some j by rw[hk,e]),if_pos (show((k',v):Key×V).1=j from e)]
   exact zml hk h' (Rpd.map h' h3)
  ·rw[if_neg (show ¬keyD (k,d).1=some j from λz=>e (by rw[hk]at z;exact qZ z)),if_neg (show ¬((k',v):Key×V).1=j from e)]
   exact zml hk h2 (Rpd.map h' h3)
theorem Rpd.snoc{H:Hp}{k d:PyData}{k':Key}{v:V}(hk:keyD k=some k')(h':Rp H d v):∀{kvs:List (PyData×PyData)}{ps:List (Key×V)},Rpd H kvs ps->Rpd H (kvs++[(k,d)]) (ps++[(k',v)])
 | [],ps,h=>by unfold Rpd at h;subst h;exact zml hk h' zpg
 | (k0,d0)::r,ps,h=>by
  obtain⟨k1,v1,vs,rfl,hk1,h2,h3⟩:=zib h
  exact zml hk1 h2 (Rpd.snoc hk h' h3)
theorem Rpd.put{H:Hp}{k d:PyData}{j:Key}{v:V}{kvs:List (PyData×PyData)}{ps:List (Key×V)}(h:Rpd H kvs ps)(hk:keyD k=some j)(h':Rp H d v):Rpd H (zpk kvs k d) (putK ps j v):=by
 unfold zpk putK
 rw[hk,h.any]
 split
 ·exact h.map h'
 ·exact h.snoc hk h'
theorem Rpd.merge{H:Hp}:∀{more:List (PyData×PyData)}{ps:List (Key×V)}{kvs:List (PyData×PyData)}{qs:List (Key×V)},Rpd H kvs qs->Rpd H more ps->Rpd H (zpl kvs more) (znx qs ps)
 | [],ps,kvs,qs,h,g=>by unfold Rpd at g;subst g;exact h
 | (k,d)::r,ps,kvs,qs,h,g=>by
  obtain⟨k',v,vs,rfl,hk,h2,h3⟩:=zib g
  show Rpd H (zpl (zpk kvs k d) r) (znx (putK qs k' v) vs)
  exact Rpd.merge (h.put hk h2) h3
theorem zamu{H:Hp}{d:PyData}{v:V}{k:Key}(h:Rp H d v)(e:keyD d=some k):v=kV k:=by
 cases d<;>first
  | (cases e;unfold Rp at h;exact h)
  | cases e
noncomputable def zazd(a b:EF):EF:=λenv=>(a env).bind λx=>(b env).bind λy=>match x.d with
 | .dict kvs=>(keyD y.d).bind λk=>(zmu kvs k).bind λd=>some ⟨d,false,bsOf d x.bs⟩
 | _=>none
noncomputable def eDIn(neg:Bool)(a b:EF):EF:=λenv=>(a env).bind λx=>(b env).bind λy=>match y.d with
 | .dict kvs=>(keyD x.d).bind λk=>some ⟨.bool (if neg then !zack kvs k else zack kvs k),false,[]⟩
 | _=>none
theorem zarl{H:Hp}{kvs:List (PyData×PyData)}{ps:List (Key×V)}(r:Rpd H kvs ps)(k:Key):(valV ps k).isSome=zack kvs k:=by
 have g:=r.get (j:=k)
 unfold zack
 cases e:zmu kvs k with
 | none=>rw[e]at g;rw[show valV ps k=none from g];rfl
 | some d=>rw[e]at g;obtain⟨w,e1,_⟩:=g;rw[e1];rfl
theorem zapq{td ty:TE}{fa fb:EF}(ha:SE ty fa)(hb:SE td fb):SE (tDIn ty td) (eDIn false fa fb):=by
 intro fx H0 env σ H h rr hr Q q
 unfold eDIn at hr
 obtain⟨⟨dx,frx,bx⟩,ex,hr⟩:=qA.mp hr
 obtain⟨⟨dy,fry,by'⟩,ey,hr⟩:=qA.mp hr
 cases dy with
 | dict kvs=>
  obtain⟨k,ek,hr⟩:=qA.mp hr
  cases hr
  refine ha fx H0 env σ H h _ ex _ λv H1 s1 v1=>hb fx H0 env σ H1 (h.up s1) _ ey _ λu H2 s2 v2=>?_
  obtain⟨a,ps,rfl,hp,r⟩:=zpe v2.rp
  rw[zamu v1.rp ek]
  exact⟨a,_,rfl,DGet.k (zdm hp),by rw[zarl r k];exact q _ H2 (s1.trans s2) ⟨zbl,λz=>by cases z⟩⟩
 | _=>cases hr
noncomputable def zbv(f:EF):TF:=λenv=>(f env).bind λr=>match r.d with|.bool b=>some b|_=>none
theorem st_b{te:TE}{f:EF}(h:SE te f):ST (tB te) (zbv f):=by
 intro fx H0 env σ H hE b hb Q q
 unfold zbv at hb
 obtain⟨⟨d,fr,bs⟩,e,hb⟩:=qA.mp hb
 cases d with
 | bool c=>
  have hb:some c=some b:=hb
  cases hb
  exact h fx H0 env σ H hE _ e _ λv H' s v1=>⟨_,zlh v1.rp,q H' s⟩
 | _=>cases hb
theorem st_t{te:TE}{f:EF}(h:SE te f):ST (tTest te) (zbv f):=st_b h
noncomputable def truD:PyData->Option Bool
 | .none=>some false
 | .bool b=>some b
 | .int i=>some (i != 0)
 | .str x=>if x.length<=100000 then some ((x.length:Int) != 0)else none
 | .list ds=>some (!ds.isEmpty)
 | .tuple ds=>some (!ds.isEmpty)
 | .dict ds=>some (!ds.isEmpty)
noncomputable def tTru(f:EF):TF:=λenv=>(f env).bind λr=>truD r.d
theorem znl{α β:Type}{xs:List α}{ys:List β}(h:xs.length=ys.length):xs.isEmpty=ys.isEmpty:=by
 cases xs<;>cases ys<;>simp at h<;>rfl
theorem zayi{K:qC}{H:Hp}{d:PyData}{v:V}{b:Bool}(h:Rp H d v)(e:truD d=some b):TruV K v H b:=by
 cases d with
 | none=>cases e;cases zacf h;rfl
 | bool c=>cases e;cases zlh h;rfl
 | int i=>cases e;cases zef h;rfl
 | str x=>
  have e:(if x.length<=100000 then some ((x.length:Int) != 0)else none)=some b:=e
  split at e
  ·rename_i hl;cases e;cases zlg h;exact⟨zer hl,rfl⟩
  ·cases e
 | list ds=>cases e;obtain⟨a,xs,rfl,h1,h2⟩:=zfe h;exact .inl ⟨xs,SqL.of h1,by rw[znl h2.length]⟩
 | tuple ds=>cases e;obtain⟨a,xs,rfl,h1,h2⟩:=zdc h;exact .inr (.inl ⟨xs,SqT.of h1,by rw[znl h2.length]⟩)
 | dict ds=>cases e;obtain⟨a,xs,rfl,h1,h2⟩:=zpe h;exact .inr (.inr ⟨xs,h1,by rw[znl h2.length]⟩)
theorem zjh{K:qC}{te:TE}{f:EF}(h:SE te f):ST (λσ H Q=>te σ H λx H1=>∃k,TruV K x H1 k/\Q k H1) (tTru f):=by
 intro fx H0 env σ H hE b hb Q q
 unfold tTru at hb
 obtain⟨r,e,hb⟩:=qA.mp hb
 exact h fx H0 env σ H hE _ e _ λv H' s v1=>⟨b,zayi (Rp.same (Offs.same _ _) _ v1.rp) hb,q H' s⟩
noncomputable def zob(f g:TF):TF:=λenv=>(f env).bind λb=>if b=true then g env else some false
noncomputable def tOrF(f g:TF):TF:=λenv=>(f env).bind λb=>if b=true then some true else g env
noncomputable def zlj(f:TF):TF:=λenv=>(f env).map λb=>!b
theorem zaiv{t u:TT}{f g:TF}(h:ST t f)(k:ST u g):ST (tAnd t u) (zob f g):=by
 intro fx H0 env σ H hE b hb Q q
 unfold zob at hb
 obtain⟨c,e,hb⟩:=qA.mp hb
 refine h fx H0 env σ H hE c e _ λH' s=>?_
 cases c with
 | true=>exact iteT (k fx H0 env σ H' (hE.up s) b hb _ λH'' s'=>q H'' (s.trans s'))
 | false=>cases hb;exact iteF (q H' s)
theorem zarm{t u:TT}{f g:TF}(h:ST t f)(k:ST u g):ST (tOr t u) (tOrF f g):=by
 intro fx H0 env σ H hE b hb Q q
 unfold tOrF at hb
 obtain⟨c,e,hb⟩:=qA.mp hb
 refine h fx H0 env σ H hE c e _ λH' s=>?_
 cases c with
 | false=>exact iteF (k fx H0 env σ H' (hE.up s) b hb _ λH'' s'=>q H'' (s.trans s'))
 | true=>cases hb;exact iteT (q H' s)
theorem zsm{t:TT}{f:TF}(h:ST t f):ST (tNot t) (zlj f):=by
 intro fx H0 env σ H hE b hb Q q
 unfold zlj at hb
 obtain⟨c,e,rfl⟩:=qG.mp hb
 exact h fx H0 env σ H hE c e _ λH' s=>q H' s
noncomputable def asB:PyData->Option Bool|.bool b=>some b|_=>none
noncomputable def eAnd(a b:EF):EF:=λenv=>(a env).bind λx=>(asB x.d).bind λc=>if c=true then b env else some ⟨.bool false,false,[]⟩
noncomputable def eNot(a:EF):EF:=λenv=>(a env).bind λx=>(asB x.d).map λc=>⟨.bool (!c),false,[]⟩
theorem as_b{H:Hp}{d:PyData}{v:V}{c:Bool}(h:Rp H d v)(e:asB d=some c):v=.bl c:=by
 cases d<;>first
  | (cases e;exact zlh h)
  | cases e
theorem zvi{ta tb:TE}{fa fb:EF}(ha:SE ta fa)(hb:SE tb fb):SE (tAndV ta tb) (eAnd fa fb):=by
 intro fx H0 env σ H h rr hr Q q
 unfold eAnd at hr
 obtain⟨x,ex,hr⟩:=qA.mp hr
 obtain⟨c,ec,hr⟩:=qA.mp hr
 refine ha fx H0 env σ H h _ ex _ λv H1 s1 v1=>⟨c,as_b v1.rp ec,?_⟩
 cases c with
 | true=>exact iteT (hb fx H0 env σ H1 (h.up s1) _ hr _ λu H2 s2 v2=>q u H2 (s1.trans s2) (v2.later s1 (Same.refl _) λ_ z=>z))
 | false=>cases hr;exact iteF (q _ H1 s1 ⟨zbl,λz=>by cases z⟩)
theorem zavk{ta:TE}{fa:EF}(ha:SE ta fa):SE (tNotV ta) (eNot fa):=by
 intro fx H0 env σ H h rr hr Q q
 unfold eNot at hr
 obtain⟨x,ex,hr⟩:=qA.mp hr
 obtain⟨c,ec,rfl⟩:=qG.mp hr
 exact ha fx H0 env σ H h _ ex _ λv H1 s1 v1=>⟨c,as_b v1.rp ec,q _ H1 s1 ⟨zbl,λz=>by cases z⟩⟩
noncomputable def zacl:PyData->Bool|.none=>true|_=>false
noncomputable def eIsN(neg:Bool)(a:EF):EF:=λenv=>(a env).map λx=>⟨.bool (if neg then !zacl x.d else zacl x.d),false,[]⟩
theorem zayj{H:Hp}{d:PyData}{v:V}(h:Rp H d v):decide (v=.non)=zacl d:=by
 cases d with
 | list ds=>obtain⟨a,xs,rfl,_⟩:=zfe h;rfl
 | tuple ds=>obtain⟨a,xs,rfl,_⟩:=zdc h;rfl
 | dict ds=>obtain⟨a,xs,rfl,_⟩:=zpe h;rfl
 | _=>unfold Rp at h;subst h;rfl
theorem zapr{ta:TE}{fa:EF}(ha:SE ta fa):SE (tIsN ta) (eIsN false fa):=by
 intro fx H0 env σ H h rr hr Q q
 unfold eIsN at hr
 obtain⟨x,ex,rfl⟩:=qG.mp hr
 refine ha fx H0 env σ H h _ ex _ λv H1 s1 v1=>?_
 rw[zayj v1.rp]
 exact q _ H1 s1 ⟨zbl,λz=>by cases z⟩
noncomputable def aNil:AF:=λ_=>some []
noncomputable def zab(a:EF)(r:AF):AF:=λenv=>(a env).bind λx=>(r env).map λxs=>x::xs
theorem zam:SA tNil aNil:=by
 intro fx H0 env σ H h rs hr Q q
 cases hr
 exact q [] H (Same.refl _) .nil
theorem zac{te:TE}{ta:TA}{f:EF}{g:AF}(h1:SE te f)(h2:SA ta g):SA (tCons te ta) (zab f g):=by
 intro fx H0 env σ H h rs hr Q q
 unfold zab at hr
 obtain⟨x,ex,hr⟩:=qA.mp hr
 obtain⟨xs,exs,rfl⟩:=qG.mp hr
 exact h1 fx H0 env σ H h x ex _ λv H1 s1 v1=>h2 fx H0 env σ H1 (h.up s1) xs exs _ λvs H2 s2 vs2=>q (v::vs) H2 (s1.trans s2)
  (.cons (v1.later (Same.refl _) s2 λ_ z=>z) (Paired.mapP vs2 λ_ _ z=>z.later s1 (Same.refl _) λ_ y=>y))
noncomputable def zhq(rs:List Val):List PyData:=rs.map (·.d)
noncomputable def bss(rs:List Val):List Nat:=rs.flatMap (·.bs)
theorem zfi{fx:Addr->Prop}{env:DEnv}{σ:St}{H H':Hp}:∀{rs:List Val}{vs:List V}{cs:List Nat},(∀i∈bss rs,i∈cs)->Paired (λr v=>ValOk (lim fx env σ r.bs) H H' r v) rs vs->Rps (Offs (lim fx env σ cs) H') (zhq rs) vs
 | _,_,_,_,.nil=>zeb
 | r::rs,v::vs,cs,hc,.cons h t=>zew (Rp.same (Offs.sub (znk λi hi=>hc i (qBw.mpr ⟨r,qo,hi⟩))) _ h.rp)
   (zfi (λi hi=>hc i (by obtain⟨x,h1,h2⟩:=qBw.mp hi;exact qBw.mpr ⟨x,qW _ h1,h2⟩)) t)
noncomputable def eTup(f:AF):EF:=λenv=>(f env).bind λrs=>if rs.length<=100000 then some ⟨.tuple (zhq rs),false,bss rs⟩else none
noncomputable def eLst(f:AF):EF:=λenv=>(f env).bind λrs=>if rs.length<=100000 then some ⟨.list (zhq rs),true,bss rs⟩else none
theorem zga(rs:List Val):(zhq rs).length=rs.length:=by unfold zhq;rw[qE]
theorem zgh{ta:TA}{f:AF}(ha:SA ta f):SE (tTup ta) (eTup f):=by
 intro fx H0 env σ H h rr hr Q q
 unfold eTup at hr
 obtain⟨rs,er,hr⟩:=qA.mp hr
 split at hr
 ·rename_i hl
  cases hr
  refine ha fx H0 env σ H h rs er _ λvs H1 s1 v1=>?_
  have r:=zfi (λi hi=>hi) v1
  have hA:=(h.up s1).lims (bss rs)
  refine⟨zer (by rw[<- r.length,zga];exact hl),λp hp=>q _ _ (s1.trans (Same.new hp)) ⟨zli hp (zej hA hp) r,λz=>by cases z⟩⟩
 ·cases hr
theorem zen{ta:TA}{f:AF}(ha:SA ta f):SE (tLst ta) (eLst f):=by
 intro fx H0 env σ H h rr hr Q q
 unfold eLst at hr
 obtain⟨rs,er,hr⟩:=qA.mp hr
 split at hr
 ·rename_i hl
  cases hr
  refine ha fx H0 env σ H h rs er _ λvs H1 s1 v1=>?_
  have r:=zfi (λi hi=>hi) v1
  have hA:=(h.up s1).lims (bss rs)
  refine⟨zer (by rw[<- r.length,zga];exact hl),λp hp=>q _ _ (s1.trans (Same.new hp)) ⟨zvh hp (zej hA hp) r,λ_=>⟨p,rfl,s1.free hp,zpj hp r⟩⟩⟩
 ·cases hr
noncomputable def zamv:EF:=λ_=>some ⟨.dict [],true,[]⟩
theorem zacm:SE tDNewK zamv:=by
 intro fx H0 env σ H h rr hr Q q
 cases hr
 intro p hp
 have hA:=h.lims []
 exact q _ _ (Same.new hp) ⟨zpf (by rw[Offs.get (zej hA hp)];exact zau) zpg,λ_=>⟨p,rfl,hp,⟨[],zau,zpg⟩⟩⟩
noncomputable def eD1(k v:EF):EF:=λenv=>(k env).bind λx=>(v env).bind λy=>(keyD x.d).bind λ_=>some ⟨.dict [(x.d,y.d)],true,y.bs⟩
theorem zayk{tk tv:TE}{f g:EF}(h1:SE tk f)(h2:SE tv g):SE (tDisp [(tk,tv)]) (eD1 f g):=by
 intro fx H0 env σ H h rr hr Q q
 unfold eD1 at hr
 obtain⟨x,ex,hr⟩:=qA.mp hr
 obtain⟨y,ey,hr⟩:=qA.mp hr
 obtain⟨k,ek,hr⟩:=qA.mp hr
 cases hr
 intro p hp
 have hp0:Same H (upd H p (.dK [])):=Same.new hp
 have npf:¬fx p:=zej h.fxs hp
 have hE:EnvOk (λb=>fx b\/b=p) H0 env σ (upd H p (.dK [])):=h.grow hp0 (λb o e n z=>z.elim n λy=>by rw[y,hp]at e;cases e) λb z=>by
  rcases z with z|z
  ·obtain⟨o,e⟩:=h.fxs b z;exact⟨o,hp0 b o e⟩
  ·rw[z];exact⟨_,zau⟩
 refine h1 _ H0 env σ _ hE x ex _ λv H1 s1 v1=>h2 _ H0 env σ H1 (hE.up s1) y ey _ λu H2 s2 v2=>?_
 have ep:H2 p=some (.dK []):=(s1.trans s2) _ _ zau
 refine⟨ep,[(k,u)],by rw[zamu v1.rp ek];rfl,(by show 1<=15;decide),?_⟩
 have em:znx [] [(k,u)]=[(k,u)]:=rfl
 rw[em]
 have rp2:Rp (Offs (λb=>lim fx env σ y.bs b\/b=p) (upd H2 p (.dK [(k,u)]))) y.d u:=by
  rw[Offs.upd (.inr rfl)]
  exact Rp.same (Offs.sub λb z=>by
   rcases z with(z|z)|z
   ·exact .inl (.inl z)
   ·exact .inr z
   ·exact .inl (.inr z)) _ v2.rp
 have hs:Same H (upd H2 p (.dK [(k,u)])):=λb o e=>by
  rw[zav (zbs e hp)]
  exact s2 _ _ (s1 _ _ (hp0 _ _ e))
 have hnp:¬lim fx env σ y.bs p:=zej (h.lims y.bs) hp
 refine q _ _ hs ⟨zpf (by rw[Offs.get hnp];exact zau) (zml ek (Rp.same (Offs.sub λb z=>.inl z) _ rp2) zpg),λ_=>⟨p,rfl,hp,⟨_,zau,zml ek rp2 zpg⟩⟩⟩
noncomputable abbrev GF:=List PyData->Option (PyData×Bool)
noncomputable def SC(r:List V->Hp->VK->Prop)(g:GF):Prop:=∀(A:Addr->Prop)(H:Hp)(vs:List V)(ds:List PyData),(∀b,A b->∃o,H b=some o)->Rps (Offs A H) ds vs->∀d fr,g ds=some (d,fr)->∀Q:VK,
 (∀v H',Same H H'->Rp (Offs A H') d v->(fr=true->∃a,v=.ref a/\H a=none/\zhp (Offs (λb=>A b\/b=a) H') H' a d)->Q v H')->r vs H Q
noncomputable def eCB(g:GF)(f:AF):EF:=λenv=>(f env).bind λrs=>(g (zhq rs)).bind λz=>some ⟨z.1,z.2,bsOf z.1 (bss rs)⟩
theorem zhu{r:List V->Hp->VK->Prop}{g:GF}{ta:TA}{f:AF}(hc:SC r g)(ha:SA ta f):SE (tCB r ta) (eCB g f):=by
 intro fx H0 env σ H h rr hr Q q
 unfold eCB at hr
 obtain⟨rs,er,hr⟩:=qA.mp hr
 obtain⟨⟨d,fr⟩,ez,hr⟩:=qA.mp hr
 cases hr
 refine ha fx H0 env σ H h rs er _ λvs H1 s1 v1=>hc (lim fx env σ (bss rs)) H1 vs (zhq rs) ((h.up s1).lims _) (zfi (λi hi=>hi) v1) d fr ez _ λw H3 s3 rp fr3=>q w H3 (s1.trans s3) ⟨zph rp,λe=>?_⟩
 obtain⟨a,g1,g2,g3⟩:=fr3 e
 refine⟨a,g1,s1.free g2,?_⟩
 have nf:zjy d=false:=by cases d<;>first|rfl|exact g3.elim
 show zhp (Offs (λb=>lim fx env σ (bsOf d (bss rs)) b\/b=a) H3) H3 a d
 rw[show bsOf d (bss rs)=bss rs by unfold bsOf;rw[if_neg (by rw[nf];decide)]]
 exact g3
theorem rps1{H:Hp}{d:PyData}{vs:List V}(h:Rps H [d] vs):∃v,vs=[v]/\Rp H d v:=by
 unfold Rps at h
 obtain⟨v,ws,rfl,h1,h2⟩:=h
 unfold Rps at h2
 subst h2
 exact⟨v,rfl,h1⟩
theorem rps2{H:Hp}{d e:PyData}{vs:List V}(h:Rps H [d,e] vs):∃v u,vs=[v,u]/\Rp H d v/\Rp H e u:=by
 unfold Rps at h
 obtain⟨v,ws,rfl,h1,h2⟩:=h
 obtain⟨u,rfl,h3⟩:=rps1 h2
 exact⟨v,u,rfl,h1,h3⟩
noncomputable def lenD:GF
 | [.str x]=>if x.length<=100000 then some (.int x.length,false)else none
 | [.list ds]=>some (.int ds.length,false)
 | [.tuple ds]=>some (.int ds.length,false)
 | _=>none
theorem zmy{K:qC}:SC (λxs H Q=>∃x n,xs=[x]/\LenV K x H n/\Q (.int n) H) lenD:=by
 intro A H vs ds hA rv d fr e Q q
 unfold lenD at e
 split at e
 ·split at e
  ·rename_i hl
   cases e
   obtain⟨v,rfl,r⟩:=rps1 rv
   cases zlg r
   exact⟨_,_,rfl,⟨zer hl,rfl⟩,q _ H (Same.refl _) zaf (λz=>by cases z)⟩
  ·cases e
 ·cases e
  obtain⟨v,rfl,r⟩:=rps1 rv
  obtain⟨a,xs,rfl,h1,h2⟩:=zfe r
  exact⟨_,_,rfl,.inl ⟨xs,SqL.of (zdm h1),rfl⟩,by rw[<- h2.length];exact q _ H (Same.refl _) zaf (λz=>by cases z)⟩
 ·cases e
  obtain⟨v,rfl,r⟩:=rps1 rv
  obtain⟨a,xs,rfl,h1,h2⟩:=zdc r
  exact⟨_,_,rfl,.inr ⟨xs,SqT.of (zdm h1),rfl⟩,by rw[<- h2.length];exact q _ H (Same.refl _) zaf (λz=>by cases z)⟩
 ·cases e
noncomputable def minD:GF
 | [.int i,.int j]=>some (.int (if j<i then j else i),false)
 | _=>none
theorem zavl:SC (λxs H Q=>∃i j,xs=[.int i,.int j]/\Q (.int (if j<i then j else i)) H) minD:=by
 intro A H vs ds hA rv d fr e Q q
 unfold minD at e
 split at e
 ·cases e
  obtain⟨v,u,rfl,r1,r2⟩:=rps2 rv
  cases zef r1;cases zef r2
  exact⟨_,_,rfl,q _ H (Same.refl _) zaf (λz=>by cases z)⟩
 ·cases e
noncomputable def zxg:GF
 | [c]=>(zhi c).map λds=>(.list ds,true)
 | _=>none
theorem zxh{K:qC}:SC (λxs H Q=>∃p ys,xs=[.ref p]/\(SqL K H p ys\/SqT K H p ys)/\∀l,H l=none->Q (.ref l) (upd H l (.lst ys))) zxg:=by
 intro A H vs ds hA rv d fr e Q q
 unfold zxg at e
 split at e
 ·obtain⟨es,he,e⟩:=qG.mp e
  cases e
  obtain⟨v,rfl,r1⟩:=rps1 rv
  obtain⟨p,xs,rfl,hq,r⟩:=zaer (K:=K) r1 he
  refine⟨p,xs,rfl,hq.imp (Offs.same A H).seq (SqT.same (Offs.same A H)),λl hl=>?_⟩
  exact q _ _ (Same.new hl) (zvh hl (zej hA hl) r) λ_=>⟨l,rfl,hl,zpj hl r⟩
 ·cases e
noncomputable def zmz:GF
 | [c]=>(zhi c).map λds=>(.tuple ds,false)
 | _=>none
theorem zrs{K:qC}:SC (λxs H Q=>∃p ys,xs=[.ref p]/\((SqL K H p ys/\∀l,H l=none->Q (.ref l) (upd H l (.tup ys)))\/(SqT K H p ys/\Q (.ref p) H))) zmz:=by
 intro A H vs ds hA rv d fr e Q q
 unfold zmz at e
 split at e
 ·obtain⟨es,he,e⟩:=qG.mp e
  cases e
  obtain⟨v,rfl,r1⟩:=rps1 rv
  rename_i c
  cases c with
  | list ds=>
   cases he
   obtain⟨p,xs,rfl,h1,r⟩:=zfe r1
   exact⟨p,xs,rfl,.inl ⟨SqL.of (zdm h1),λl hl=>q _ _ (Same.new hl) (zli hl (zej hA hl) r) (λz=>by cases z)⟩⟩
  | tuple ds=>
   cases he
   obtain⟨p,xs,rfl,h1,r⟩:=zdc r1
   exact⟨p,xs,rfl,.inr ⟨SqT.of (zdm h1),q _ H (Same.refl _) r1 (λz=>by cases z)⟩⟩
  | _=>cases he
 ·cases e
noncomputable def zqk:List PyData->Option (List Bool)
 | []=>some []
 | .bool b::r=>(zqk r).map λbs=>b::bs
 | _=>none
theorem zzm{H:Hp}:∀{ds:List PyData}{vs:List V}{bs:List Bool},Rps H ds vs->zqk ds=some bs->vs=bs.map V.bl
 | [],vs,bs,h,e=>by unfold Rps at h;cases e;exact h
 | d::ds,vs,bs,h,e=>by
  unfold Rps at h
  obtain⟨v,ws,rfl,h1,h2⟩:=h
  cases d with
  | bool b=>
   obtain⟨cs,ec,rfl⟩:=qG.mp e
   rw[zlh h1,zzm h2 ec];rfl
  | _=>cases e
noncomputable def anyD(f:List Bool->Bool):GF
 | [.list ds]=>(zqk ds).map λbs=>(.bool (f bs),false)
 | _=>none
theorem zsn{K:qC}{f:List Bool->Bool}:SC (rAny K f) (anyD f):=by
 intro A H vs ds hA rv d fr e Q q
 unfold anyD at e
 split at e
 ·obtain⟨bs,he,e⟩:=qG.mp e
  cases e
  obtain⟨v,rfl,r1⟩:=rps1 rv
  obtain⟨p,xs,rfl,h1,r⟩:=zfe r1
  cases zzm r he
  exact⟨p,bs,rfl,SqL.of (zdm h1),q _ H (Same.refl _) zbl (λz=>by cases z)⟩
 ·cases e
noncomputable def zoc:PyData->String
 | .none=>"NoneType"|.bool _=>"bool"|.int _=>"int"|.str _=>"str"|.list _=>"list"|.tuple _=>"tuple"|.dict _=>"dict"
theorem zayl{K:qC}{H:Hp}{d:PyData}{v:V}(h:Rp H d v):TyOf K H v (.type (zoc d)):=by
 cases d with
 | list ds=>obtain⟨a,xs,rfl,h1,_⟩:=zfe h;exact .lst h1
 | tuple ds=>obtain⟨a,xs,rfl,h1,_⟩:=zdc h;exact .tup h1
 | dict ds=>obtain⟨a,xs,rfl,h1,_⟩:=zpe h;exact .dK h1
 | none=>cases zacf h;exact .non
 | bool b=>cases zlh h;exact .bl _
 | int b=>cases zef h;exact .int _
 | str b=>cases zlg h;exact .str _
noncomputable def isiB(n:String)(d:PyData):Bool:=zoc d==n||(zoc d=="bool"&&n=="int")
noncomputable def eIsi(n:String)(a:EF):EF:=λenv=>(a env).map λx=>⟨.bool (isiB n x.d),false,[]⟩
theorem zod{K:qC}{n:String}{te:TE}{f:EF}(h1:SE te f)(hk:∀d,PySem.W.kitOne K (.type (zoc d)) (.type n)=some (isiB n d)) :
  SE (tCB (λxs H Q=>∃x n t b,xs=[x,.ty n]/\TyOf K H x t/\PySem.W.kitOne K t (.type n)=some b/\Q (.bl b) H) (tCons te (tCons (tC (.ty n)) tNil))) (eIsi n f):=by
 intro fx H0 env σ H h rr hr Q q
 unfold eIsi at hr
 obtain⟨x,ex,rfl⟩:=qG.mp hr
 refine h1 fx H0 env σ H h _ ex _ λv H1 s1 v1=>?_
 exact⟨v,n,_,_,rfl,zayl (Rp.same (Offs.same _ _) _ v1.rp),hk _,q _ H1 s1 ⟨zbl,λz=>by cases z⟩⟩
theorem zaes{K:qC}:∀d,PySem.W.kitOne K (.type (zoc d)) (.type "list")=some (isiB "list" d):=by intro d;cases d<;>rfl
theorem zso{K:qC}:∀d,PySem.W.kitOne K (.type (zoc d)) (.type "tuple")=some (isiB "tuple" d):=by intro d;cases d<;>rfl
theorem zaiw{K:qC}:∀d,PySem.W.kitOne K (.type (zoc d)) (.type "str")=some (isiB "str" d):=by intro d;cases d<;>rfl
theorem zarn{K:qC}:∀d,PySem.W.kitOne K (.type (zoc d)) (.type "int")=some (isiB "int" d):=by intro d;cases d<;>rfl
theorem zamw{K:qC}:∀d,PySem.W.kitOne K (.type (zoc d)) (.type "bool")=some (isiB "bool" d):=by intro d;cases d<;>rfl
noncomputable abbrev PF':=DEnv->Option (Option Int)
noncomputable def SPt(t:TO)(f:PF'):Prop:=∀(fx:Addr->Prop)(H0:Hp)(env:DEnv)(σ:St)(H:Hp),EnvOk fx H0 env σ H->∀r,f env=some r->∀Q:Option Int->Hp->Prop,(∀H',Same H H'->Q r H')->t σ H Q
noncomputable def znm:PF':=λ_=>some none
noncomputable def zla(a:EF):PF':=λenv=>(a env).bind λx=>match x.d with|.int i=>some (some i)|_=>none
theorem znn:SPt tNoPart znm:=by
 intro fx H0 env σ H h r hr Q q
 cases hr
 exact q H (Same.refl _)
theorem zno{te:TE}{f:EF}(h1:SE te f):SPt (tPart te) (zla f):=by
 intro fx H0 env σ H h r hr Q q
 unfold zla at hr
 obtain⟨⟨d,fr,bs⟩,ex,hr⟩:=qA.mp hr
 cases d with
 | int i=>
  cases hr
  exact h1 fx H0 env σ H h _ ex _ λv H1 s1 v1=>⟨i,zef v1.rp,q H1 s1⟩
 | _=>cases hr
noncomputable def cutD(xs:List PyData)(lo hi:Option Int):List PyData:=(xs.drop (HT.sIx xs.length 0 lo)).take (HT.sIx xs.length xs.length hi - HT.sIx xs.length 0 lo)
theorem Rps.drop{H:Hp}{ds:List PyData}{vs:List V}(h:Rps H ds vs)(n:Nat):Rps H (ds.drop n) (vs.drop n):=by
 induction n generalizing ds vs with
 | zero=>exact h
 | succ n ih=>
  cases ds with
  | nil=>unfold Rps at h;subst h;exact zeb
  | cons d ds=>unfold Rps at h;obtain⟨v,ws,rfl,h1,h2⟩:=h;exact ih h2
theorem Rps.take{H:Hp}{ds:List PyData}{vs:List V}(h:Rps H ds vs)(n:Nat):Rps H (ds.take n) (vs.take n):=by
 induction n generalizing ds vs with
 | zero=>exact zeb
 | succ n ih=>
  cases ds with
  | nil=>unfold Rps at h;subst h;exact zeb
  | cons d ds=>unfold Rps at h;obtain⟨v,ws,rfl,h1,h2⟩:=h;exact zew h1 (ih h2)
theorem Rps.cut{H:Hp}{ds:List PyData}{vs:List V}(h:Rps H ds vs)(lo hi:Option Int):Rps H (cutD ds lo hi) (cutV vs lo hi):=by
 unfold cutD cutV
 rw[<- h.length]
 exact(h.drop _).take _
noncomputable def slD(d:PyData)(lo hi:Option Int):Option (PyData×Bool):=match d with
 | .str z=>if z.length<=100000 then some (.str (Txt.slice z lo hi),false)else none
 | .list ds=>some (.list (cutD ds lo hi),true)
 | _=>none
noncomputable def eSl(a:EF)(l h:PF'):EF:=λenv=>(a env).bind λx=>(l env).bind λlo=>(h env).bind λhi=>(slD x.d lo hi).bind λz=>some ⟨z.1,z.2,bsOf z.1 x.bs⟩
theorem zaym{K:qC}{te:TE}{tl th:TO}{f:EF}{fl fh:PF'}(h1:SE te f)(h2:SPt tl fl)(h3:SPt th fh):SE (tSl (rSlU K) te tl th) (eSl f fl fh):=by
 intro fx H0 env σ H h rr hr Q q
 unfold eSl at hr
 obtain⟨⟨d,frd,bs⟩,ex,hr⟩:=qA.mp hr
 obtain⟨lo,el,hr⟩:=qA.mp hr
 obtain⟨hi,eh,hr⟩:=qA.mp hr
 obtain⟨⟨d',fr'⟩,ez,hr⟩:=qA.mp hr
 cases hr
 refine h1 fx H0 env σ H h _ ex _ λv H1 s1 v1=>h2 fx H0 env σ H1 (h.up s1) _ el _ λH2 s2=>h3 fx H0 env σ H2 (h.up (s1.trans s2)) _ eh _ λH3 s3=>?_
 have v3:=(v1.later (Same.refl _) (s2.trans s3) λ_ z=>z).rp
 have t3:=(s1.trans s2).trans s3
 cases d with
 | str z=>
  have ez:(if z.length<=100000 then some (PyData.str (Txt.slice z lo hi),false)else none)=some (d',fr'):=ez
  split at ez
  ·rename_i hl
   cases ez
   cases zlg v3
   exact⟨zer hl,q _ H3 t3 ⟨zch,λz=>by cases z⟩⟩
  ·cases ez
 | list ds=>
  cases ez
  obtain⟨p,xs,rfl,hp,r⟩:=zfe v3
  refine⟨p,xs,rfl,SqL.of (zdm hp),λl hl=>q _ _ (t3.trans (Same.new hl)) ?_⟩
  have hA:=(h.up t3).lims bs
  exact⟨zvh hl (zej hA hl) (r.cut lo hi),λ_=>⟨l,rfl,t3.free hl,zpj hl (r.cut lo hi)⟩⟩
 | _=>cases ez
noncomputable def zxi(fx:Addr->Prop)(H0:Hp)(d:PyData)(fr:Bool)(v:V)(H:Hp):Prop:=Rp (Offs fx H) d v/\(fr=true->∃a,v=.ref a/\H0 a=none/\zhp (Offs (λb=>fx b\/b=a) H) H a d)
noncomputable def spD(n:Nat)(g:GF):Sp:=λvs H Q _=>∃(fx:Addr->Prop)(ds:List PyData)(d:PyData)(fr:Bool),ds.length=n/\(∀b,fx b->∃o,H b=some o)/\Rps (Offs fx H) ds vs/\g ds=some (d,fr)/\∀v H',Same H H'->zxi fx H d fr v H'->Q v H'
noncomputable def zbb(n:Nat)(g:GF)(f:AF):EF:=λenv=>(f env).bind λrs=>if rs.length=n then(g (zhq rs)).bind λz=>some ⟨z.1,z.2,bsOf z.1 (bss rs)⟩else none
theorem zaz{n:Nat}{g:GF}{ta:TA}{f:AF}(ha:SA ta f):SE (tCall (spD n g) [] E0 ta) (zbb n g f):=by
 intro fx H0 env σ H h rr hr Q q
 unfold zbb at hr
 obtain⟨rs,er,hr⟩:=qA.mp hr
 split at hr
 ·rename_i hn
  obtain⟨⟨d,fr⟩,ez,hr⟩:=qA.mp hr
  cases hr
  refine ha fx H0 env σ H h rs er _ λvs H1 s1 v1=>?_
  rw[qAC]
  refine⟨lim fx env σ (bss rs),zhq rs,d,fr,by rw[zga];exact hn,(h.up s1).lims _,zfi (λi hi=>hi) v1,ez,λw H3 s3 ⟨rp,fr3⟩=>q w H3 (s1.trans s3) ⟨zph rp,λe=>?_⟩⟩
  obtain⟨a,g1,g2,g3⟩:=fr3 e
  refine⟨a,g1,s1.free g2,?_⟩
  have nf:zjy d=false:=by cases d<;>first|rfl|exact g3.elim
  show zhp (Offs (λb=>lim fx env σ (bsOf d (bss rs)) b\/b=a) H3) H3 a d
  rw[show bsOf d (bss rs)=bss rs by unfold bsOf;rw[if_neg (by rw[nf];decide)]]
  exact g3
 ·cases hr
inductive Out where
 | nx (env:DEnv)
 | bk (env:DEnv)
 | ct (env:DEnv)
 | rt (d:PyData) (fr:Bool)
noncomputable def Sat(fx:Addr->Prop)(H0:Hp)(D:Ends):Out->Prop
 | .nx env=>∀σ H,EnvOk fx H0 env σ H->D.nx σ H
 | .bk env=>∀σ H,EnvOk fx H0 env σ H->D.bk σ H
 | .ct env=>∀σ H,EnvOk fx H0 env σ H->D.ct σ H
 | .rt d fr=>∀v H,Same H0 H->zxi fx H0 d fr v H->D.rt v H
noncomputable abbrev SF:=DEnv->Option Out
noncomputable def SS(ts:TS)(F:SF):Prop:=∀(fx:Addr->Prop)(H0:Hp)(env:DEnv)(σ:St)(H:Hp)(D:Ends),EnvOk fx H0 env σ H->∀o,F env=some o->Sat fx H0 D o->ts D σ H
noncomputable def frz1(env:DEnv)(i:Nat):DEnv:=match env[i]? with
 | some (.ac d)=>env.set i (.pl d)
 | _=>env
noncomputable def frzs(env:DEnv)(bs:List Nat):DEnv:=bs.foldl frz1 env
theorem zamx(env:DEnv)(i:Nat):(frz1 env i).length=env.length:=by
 unfold frz1;split
 ·rw[qAI]
 ·rfl
theorem zcy{α:Type}{l:List α}{i j:Nat}{x y:α}(h:(l.set i x)[j]?=some y):(j=i/\y=x)\/(j≠i/\l[j]?=some y):=by
 rw[List.getElem?_set]at h
 by_cases e:i=j
 ·subst e
  rw[if_pos rfl]at h
  split at h
  ·exact .inl ⟨rfl,(qZ h).symm⟩
  ·cases h
 ·rw[if_neg e]at h
  exact .inr ⟨λz=>e z.symm,h⟩
theorem zpm{env:DEnv}{i j:Nat}{d:PyData}(h:(frz1 env i)[j]?=some (.ac d)):env[j]?=some (.ac d)/\j≠i:=by
 unfold frz1 at h
 split at h
 ·rcases zcy h with⟨_,e⟩|⟨e,h⟩
  ·cases e
  ·exact⟨h,e⟩
 ·rename_i hn
  refine⟨h,λe=>?_⟩
  subst e
  exact hn d h
theorem zaro{env:DEnv}{i j:Nat}{d:PyData}(h:(frz1 env i)[j]?=some (.pl d)):env[j]?=some (.pl d)\/(j=i/\env[i]?=some (.ac d)):=by
 unfold frz1 at h
 split at h
 ·rename_i d' hd
  rcases zcy h with⟨e1,e⟩|⟨e,h⟩
  ·cases e;exact .inr ⟨e1,hd⟩
  ·exact .inl h
 ·exact .inl h
theorem zamy{env:DEnv}{σ:St}{i:Nat}:∀a,own (frz1 env i) σ a->own env σ a:=by
 rintro a ⟨j,d,h1,h2⟩
 exact⟨j,d,(zpm h1).1,h2⟩
theorem EnvOk.frz1{fx:Addr->Prop}{H0:Hp}{env:DEnv}{σ:St}{H:Hp}(h:EnvOk fx H0 env σ H)(i:Nat):EnvOk fx H0 (frz1 env i) σ H:=by
 have so:Same (Offs (λa=>fx a\/own env σ a) H) (Offs (λa=>fx a\/own (L2.frz1 env i) σ a) H):=Offs.sub λb z=>z.imp (λy=>y) (zamy b)
 refine⟨by rw[zamx];exact h.len,λj d e=>?_,λj d e=>?_,λj k d d' a h1 h2 h3 h4=>h.inj j k d d' a (zpm h1).1 (zpm h2).1 h3 h4,h.base,h.fxs⟩
 ·rcases zaro e with e|⟨rfl,e⟩
  ·obtain⟨v,h1,h2⟩:=h.pl j d e
   exact⟨v,h1,Rp.same so _ h2⟩
  ·obtain⟨a,h1,h2,h3,h4⟩:=h.ac j d e
   refine⟨_,h1,h4.rp so λo eo=>?_⟩
   rw[Offs.get]
   ·exact eo
   ·rintro(z|⟨k,d',z1,z2⟩)
    ·exact h3 z
    ·obtain⟨z1,z3⟩:=zpm z1
     exact z3 (h.inj k j d' d a z1 e z2 h1)
 ·obtain⟨a,h1,h2,h3,h4⟩:=h.ac j d (zpm e).1
  exact⟨a,h1,h2,h3,h4.same so λo z=>z⟩
theorem EnvOk.frzs{fx:Addr->Prop}{H0:Hp}{σ:St}{H:Hp}:∀(bs:List Nat){env:DEnv},EnvOk fx H0 env σ H->EnvOk fx H0 (frzs env bs) σ H
 | [],_,h=>h
 | i::bs,_,h=>EnvOk.frzs bs (h.frz1 i)
theorem zaix:∀{bs:List Nat}{env:DEnv}{j:Nat}{d:PyData},(frzs env bs)[j]?=some (.ac d)->env[j]?=some (.ac d)/\j∉bs
 | [],_,_,_,h=>⟨h,by simp⟩
 | i::bs,env,j,d,h=>by
  obtain⟨h1,h2⟩:=zaix (bs:=bs) h
  obtain⟨h3,h4⟩:=zpm h1
  exact⟨h3,by simp[h4,h2]⟩
theorem zfj{fx:Addr->Prop}{env:DEnv}{σ:St}{bs:List Nat}:∀a,fx a\/own (frzs env bs) σ a->lim fx env σ bs a:=by
 rintro a (z|⟨i,d,h1,h2⟩)
 ·exact .inl z
 ·obtain⟨h3,h4⟩:=zaix h1
  exact .inr ⟨i,d,h4,h3,h2⟩
theorem zacn{env:DEnv}{σ:St}{i:Nat}{d:PyData}{v:V}:∀a,own (env.set i (.pl d)) (σ.set i (some v)) a->own env σ a:=by
 rintro a ⟨j,e,h1,h2⟩
 rcases zcy h1 with⟨_,z⟩|⟨ne,h1⟩
 ·cases z
 ·rcases zcy h2 with⟨z,_⟩|⟨_,h2⟩
  ·exact absurd z ne
  ·exact⟨j,e,h1,h2⟩
theorem EnvOk.setPl{fx:Addr->Prop}{H0:Hp}{env:DEnv}{σ:St}{H:Hp}(h:EnvOk fx H0 env σ H)(i:Nat){d:PyData}{v:V}(r:Rp (Offs (λa=>fx a\/own env σ a) H) d v):EnvOk fx H0 (env.set i (.pl d)) (σ.set i (some v)) H:=by
 have so:Same (Offs (λa=>fx a\/own env σ a) H) (Offs (λa=>fx a\/own (env.set i (.pl d)) (σ.set i (some v)) a) H):=Offs.sub λb z=>z.imp (λy=>y) (zacn b)
 have kept:∀{j:Nat},j≠i->(σ.set i (some v))[j]?=σ[j]?:=λ{j} n=>qV λz=>n z.symm
 refine⟨by rw[qAI,qAI];exact h.len,λj e hj=>?_,λj e hj=>?_,λj k d1 d2 a h1 h2 h3 h4=>?_,h.base,h.fxs⟩
 ·rcases zcy hj with⟨rfl,z⟩|⟨ne,hj'⟩
  ·cases z
   have hl:j<env.length:=by have:=(qa.mp hj).1;rwa [qAI]at this
   exact⟨v,by rw[qAJ (by rw[<- h.len];exact hl)],Rp.same so _ r⟩
  ·obtain⟨u,h1,h2⟩:=h.pl j e hj'
   exact⟨u,by rw[kept ne];exact h1,Rp.same so _ h2⟩
 ·rcases zcy hj with⟨_,z⟩|⟨ne,hj'⟩
  ·cases z
  ·obtain⟨a,h1,h2,h3,h4⟩:=h.ac j e hj'
   exact⟨a,by rw[kept ne];exact h1,h2,h3,h4.same so λo z=>z⟩
 ·rcases zcy h1 with⟨_,z⟩|⟨n1,h1⟩
  ·cases z
  rcases zcy h2 with⟨_,z⟩|⟨n2,h2⟩
  ·cases z
  rw[kept n1]at h3
  rw[kept n2]at h4
  exact h.inj j k d1 d2 a h1 h2 h3 h4
theorem EnvOk.setAc {fx:Addr->Prop} {H0:Hp} {env:DEnv} {σ:St} {H:Hp} {a:Addr} (h:EnvOk (λb=>fx b\/b=a) H0 env σ H) (i:Nat) {d:PyData} (r:zhp (Offs (λb=>(fx b\/own env σ b)\/b=a) H) H a d) (h0:H0 a=none) (hf:¬fx a) :
  EnvOk fx H0 (env.set i (.ac d)) (σ.set i (some (.ref a))) H:=by
 have kept:∀{j:Nat},j≠i->(σ.set i (some (V.ref a)))[j]?=σ[j]?:=λ{j} n=>qV λz=>n z.symm
 have sub:∀b,fx b\/own (env.set i (.ac d)) (σ.set i (some (.ref a))) b->(fx b\/b=a)\/own env σ b:=by
  rintro b (z|⟨j,e,h1,h2⟩)
  ·exact .inl (.inl z)
  ·rcases zcy h1 with⟨rfl,z⟩|⟨ne,h1⟩
   ·have hl:j<env.length:=by have:=(qa.mp ‹(env.set j (.ac d))[j]?=_›).1;rwa [qAI]at this
    rw[qAJ (by rw[<- h.len];exact hl)]at h2
    cases h2
    exact .inl (.inr rfl)
   ·rw[kept ne]at h2
    exact .inr ⟨j,e,h1,h2⟩
 have so:Same (Offs (λb=>(fx b\/b=a)\/own env σ b) H) (Offs (λb=>fx b\/own (env.set i (.ac d)) (σ.set i (some (.ref a))) b) H):=Offs.sub sub
 have so2:Same (Offs (λb=>(fx b\/own env σ b)\/b=a) H) (Offs (λb=>fx b\/own (env.set i (.ac d)) (σ.set i (some (.ref a))) b) H):=Offs.sub λb z=>by
  rcases sub b z with(y|y)|y
  ·exact .inl (.inl y)
  ·exact .inr y
  ·exact .inl (.inr y)
 refine⟨by rw[qAI,qAI];exact h.len,λj e hj=>?_,λj e hj=>?_,λj k d1 d2 b h1 h2 h3 h4=>?_,h.base,λb z=>h.fxs b (.inl z)⟩
 ·rcases zcy hj with⟨_,z⟩|⟨ne,hj'⟩
  ·cases z
  ·obtain⟨u,h1,h2⟩:=h.pl j e hj'
   exact⟨u,by rw[kept ne];exact h1,Rp.same so _ h2⟩
 ·rcases zcy hj with⟨rfl,z⟩|⟨ne,hj'⟩
  ·cases z
   have hl:j<env.length:=by have:=(qa.mp hj).1;rwa [qAI]at this
   exact⟨a,by rw[qAJ (by rw[<- h.len];exact hl)],h0,hf,r.same so2 λo z=>z⟩
  ·obtain⟨b,h1,h2,h3,h4⟩:=h.ac j e hj'
   exact⟨b,by rw[kept ne];exact h1,h2,λz=>h3 (.inl z),h4.same so λo z=>z⟩
 ·rcases zcy h1 with⟨e1,z1⟩|⟨n1,h1'⟩<;>rcases zcy h2 with⟨e2,z2⟩|⟨n2,h2'⟩
  ·rw[e1,e2]
  ·subst e1
   have hl:j<env.length:=by have:=(qa.mp h1).1;rwa [qAI]at this
   rw[qAJ (by rw[<- h.len];exact hl)]at h3
   rw[kept n2]at h4
   cases h3
   obtain⟨b,g1,g2,g3,g4⟩:=h.ac k d2 h2'
   rw[h4]at g1
   cases g1
   exact absurd (.inr rfl) g3
  ·subst e2
   have hl:k<env.length:=by have:=(qa.mp h2).1;rwa [qAI]at this
   rw[qAJ (by rw[<- h.len];exact hl)]at h4
   rw[kept n1]at h3
   cases h4
   obtain⟨b,g1,g2,g3,g4⟩:=h.ac j d1 h1'
   rw[h3]at g1
   cases g1
   exact absurd (.inr rfl) g3
  ·rw[kept n1]at h3
   rw[kept n2]at h4
   exact h.inj j k d1 d2 b h1' h2' h3 h4
noncomputable def slOf(r:Val):Sl:=if r.fr=true then .ac r.d else .pl r.d
noncomputable def putV(env:DEnv)(i:Nat)(r:Val):DEnv:=(frzs env r.bs).set i (slOf r)
theorem EnvOk.put{fx:Addr->Prop}{H0:Hp}{env:DEnv}{σ:St}{H H':Hp}(h:EnvOk fx H0 env σ H)(s:Same H H'){r:Val}{v:V}(hv:ValOk (lim fx env σ r.bs) H H' r v)(i:Nat):EnvOk fx H0 (putV env i r) (σ.set i (some v)) H':=by
 unfold putV slOf
 cases e:r.fr with
 | false=>
  rw[if_neg qR]
  exact((h.up s).frzs r.bs).setPl i (Rp.same (Offs.sub zfj) _ hv.rp)
 | true=>
  rw[if_pos rfl]
  obtain⟨a,rfl,ha,hacc⟩:=hv.fr e
  have nfx:¬fx a:=zej h.fxs ha
  have g:EnvOk (λb=>fx b\/b=a) H0 env σ H':=h.grow s (λb o eo n z=>z.elim n λy=>by rw[y,ha]at eo;cases eo) λb z=>by
   rcases z with z|z
   ·obtain⟨o,eo⟩:=h.fxs b z;exact⟨o,s b o eo⟩
   ·rw[z];exact hacc.ex
  refine(g.frzs r.bs).setAc i (hacc.same (Offs.sub λb z=>?_) λo z=>z) (h.base.free ha) nfx
  rcases z with z|z
  ·exact .inl (zfj b z)
  ·exact .inr z
noncomputable def sNil:SF:=λenv=>some (.nx env)
noncomputable def sSeq(f g:SF):SF:=λenv=>(f env).bind λo=>match o with
 | .nx env'=>g env'
 | o=>some o
theorem zgb:SS tNext sNil:=by
 intro fx H0 env σ H D h o e q
 cases e
 exact q σ H h
theorem zbq{t u:TS}{f g:SF}(h1:SS t f)(h2:SS u g):SS (tSeq t u) (sSeq f g):=by
 intro fx H0 env σ H D h o e q
 unfold sSeq at e
 obtain⟨o1,e1,e⟩:=qA.mp e
 refine h1 fx H0 env σ H _ h o1 e1 ?_
 cases o1 with
 | nx env'=>exact λσ' H' h'=>h2 fx H0 env' σ' H' D h' o e q
 | bk env'=>cases e;exact q
 | ct env'=>cases e;exact q
 | rt d fr=>cases e;exact q
noncomputable def zaet:SF:=λ_=>none
theorem zaeu:SS tNever zaet:=by
 intro fx H0 env σ H D h o e q
 cases e
noncomputable def zzn(f:EF):SF:=λenv=>(f env).map λ_=>.nx env
theorem zaco{te:TE}{f:EF}(h1:SE te f):SS (tDrop te) (zzn f):=by
 intro fx H0 env σ H D h o e q
 unfold zzn at e
 obtain⟨r,er,rfl⟩:=qG.mp e
 exact h1 fx H0 env σ H h r er _ λv H' s _=>q σ H' (h.up s)
noncomputable def sRet(f:EF):SF:=λenv=>(f env).map λr=>.rt r.d r.fr
theorem zco{te:TE}{f:EF}(h1:SE te f):SS (tRet te) (sRet f):=by
 intro fx H0 env σ H D h o e q
 unfold sRet at e
 obtain⟨r,er,rfl⟩:=qG.mp e
 refine h1 fx H0 env σ H h r er _ λv H' s hv=>q v H' (h.base.trans s) ⟨Rp.same (Offs.sub λb z=>.inl z) _ hv.rp,λz=>?_⟩
 obtain⟨a,g1,g2,g3⟩:=hv.fr z
 exact⟨a,g1,h.base.free g2,g3.same (Offs.sub λb y=>y.imp .inl id) λo z=>z⟩
noncomputable def zlb(i:Nat):SF:=λenv=>match env[i]? with
 | some (.pl d)=>some (.rt d false)
 | some (.ac d)=>some (.rt d true)
 | _=>none
theorem zjz{i:Nat}:SS (tRet (tVar i)) (zlb i):=by
 intro fx H0 env σ H D h o e q
 unfold zlb at e
 cases ei:env[i]? with
 | none=>rw[ei]at e;cases e
 | some sl=>
  rw[ei]at e
  cases sl with
  | no=>cases e
  | pl d=>
   cases e
   obtain⟨v,h1,h2⟩:=h.pl i d ei
   exact⟨v,h1,q v H h.base ⟨Rp.same (Offs.sub λb z=>.inl z) _ h2,λz=>by cases z⟩⟩
  | ac d=>
   cases e
   obtain⟨a,h1,h2,h3,h4⟩:=h.ac i d ei
   refine⟨_,h1,q _ H h.base ⟨h4.rp (Offs.sub λb z=>.inl z) λo eo=>by rw[Offs.get h3];exact eo,λ_=>⟨a,rfl,h2,h4.same (Offs.sub λb z=>?_) λo z=>z⟩⟩⟩
   rcases z with z|z
   ·exact .inl z
   ·rw[z];exact .inr ⟨i,d,ei,h1⟩
noncomputable def sIf(c:TF)(f g:SF):SF:=λenv=>(c env).bind λb=>if b=true then f env else g env
theorem zlc{tc:TT}{t u:TS}{c:TF}{f g:SF}(hc:ST tc c)(h1:SS t f)(h2:SS u g):SS (tIfS tc t u) (sIf c f g):=by
 intro fx H0 env σ H D h o e q
 unfold sIf at e
 obtain⟨b,eb,e⟩:=qA.mp e
 refine hc fx H0 env σ H h b eb _ λH' s=>?_
 cases b with
 | true=>exact iteT (h1 fx H0 env σ H' D (h.up s) o e q)
 | false=>exact iteF (h2 fx H0 env σ H' D (h.up s) o e q)
noncomputable def sSet(i:Nat)(f:EF):SF:=λenv=>(f env).map λr=>.nx (putV env i r)
theorem zfg{te:TE}{f:EF}{i:Nat}(h1:SE te f):SS (tAsg te (gName i)) (sSet i f):=by
 intro fx H0 env σ H D h o e q
 unfold sSet at e
 obtain⟨r,er,rfl⟩:=qG.mp e
 exact h1 fx H0 env σ H h r er _ λv H' s hv=>q _ H' (h.put s hv i)
noncomputable abbrev GT:=PyData->DEnv->Option DEnv
noncomputable def SG(g:TG)(f:GT):Prop:=∀(fx:Addr->Prop)(H0:Hp)(env:DEnv)(σ:St)(H:Hp)(d:PyData)(v:V),EnvOk fx H0 env σ H->Rp (Offs (λa=>fx a\/own env σ a) H) d v->∀env',f d env=some env'->∀Q:St->Hp->Prop,
 (∀σ',EnvOk fx H0 env' σ' H->Q σ' H)->g v σ H Q
noncomputable abbrev GTs:=List PyData->DEnv->Option DEnv
noncomputable def SGs(g:TGs)(f:GTs):Prop:=∀(fx:Addr->Prop)(H0:Hp)(env:DEnv)(σ:St)(H:Hp)(ds:List PyData)(vs:List V),EnvOk fx H0 env σ H->Rps (Offs (λa=>fx a\/own env σ a) H) ds vs->∀env',f ds env=some env'->∀Q:St->Hp->Prop,
 (∀σ',EnvOk fx H0 env' σ' H->Q σ' H)->g vs σ H Q
noncomputable def gN(i:Nat):GT:=λd env=>some (env.set i (.pl d))
theorem zcq{i:Nat}:SG (gName i) (gN i):=by
 intro fx H0 env σ H d v h r env' e Q q
 cases e
 exact q _ (h.setPl i r)
noncomputable def zdn:GTs:=λds env=>match ds with|[]=>some env|_=>none
noncomputable def zas(i:Nat)(g:GTs):GTs:=λds env=>match ds with|d::r=>g r (env.set i (.pl d))|[]=>none
theorem zes:SGs gNil zdn:=by
 intro fx H0 env σ H ds vs h r env' e Q q
 cases ds with
 | nil=>cases e;unfold Rps at r;exact⟨r,q _ h⟩
 | cons _ _=>cases e
theorem zay{i:Nat}{t:TGs}{g:GTs}(h1:SGs t g):SGs (gCons (gName i) t) (zas i g):=by
 intro fx H0 env σ H ds vs h r env' e Q q
 cases ds with
 | nil=>cases e
 | cons d ds=>
  unfold Rps at r
  obtain⟨v,ws,rfl,r1,r2⟩:=r
  refine⟨v,ws,rfl,h1 fx H0 (env.set i (.pl d)) _ H ds ws (h.setPl i r1) (Rps.same (Offs.sub λb z=>z.imp (λy=>y) (zacn b)) _ r2) env' e Q q⟩
noncomputable def gT(n:Nat)(g:GTs):GT:=λd env=>match d with|.tuple ds=>if ds.length=n then g ds env else none|_=>none
theorem zhj{K:qC}{n:Nat}{t:TGs}{g:GTs}(h1:SGs t g):SG (gTup K n t) (gT n g):=by
 intro fx H0 env σ H d v h r env' e Q q
 unfold gT at e
 cases d with
 | tuple ds=>
  have e:(if ds.length=n then g ds env else none)=some env':=e
  split at e
  ·rename_i hn
   obtain⟨a,xs,rfl,ha,rs⟩:=zdc r
   exact⟨a,xs,rfl,SqT.of (zdm ha),by rw[<- rs.length];exact hn,h1 fx H0 env σ H ds xs h rs env' e Q q⟩
  ·cases e
 | _=>cases e
noncomputable def sAsg(f:EF)(g:GT):SF:=λenv=>(f env).bind λr=>(g r.d (frzs env r.bs)).map .nx
theorem zaiy{te:TE}{f:EF}{g:TG}{gf:GT}(h1:SE te f)(h2:SG g gf):SS (tAsg te g) (sAsg f gf):=by
 intro fx H0 env σ H D h o e q
 unfold sAsg at e
 obtain⟨r,er,e⟩:=qA.mp e
 obtain⟨env',e',rfl⟩:=qG.mp e
 exact h1 fx H0 env σ H h r er _ λv H' s hv=>h2 fx H0 _ σ H' r.d v ((h.up s).frzs r.bs) (Rp.same (Offs.sub zfj) _ hv.rp) env' e' _ λσ' h'=>q σ' H' h'
theorem EnvOk.mut{fx:Addr->Prop}{H0:Hp}{env:DEnv}{σ:St}{H:Hp}(h:EnvOk fx H0 env σ H){i:Nat}{d d':PyData}{a:Addr}{o:HO}(e:env[i]?=some (.ac d))(ea:σ[i]?=some (some (.ref a)))
  (r:zhp (Offs (λb=>fx b\/own env σ b) H) (upd H a o) a d'):EnvOk fx H0 (env.set i (.ac d')) σ (upd H a o):=by
 have hl:i<env.length:=(qa.mp e).1
 have oa:own env σ a:=⟨i,d,e,ea⟩
 have ow:∀b,own (env.set i (.ac d')) σ b↔own env σ b:=by
  intro b
  constructor
  ·rintro⟨j,d1,h1,h2⟩
   rcases zcy h1 with⟨rfl,z⟩|⟨ne,h1⟩
   ·exact⟨j,d,e,h2⟩
   ·exact⟨j,d1,h1,h2⟩
  ·rintro⟨j,d1,h1,h2⟩
   by_cases hj:j=i
   ·subst hj;exact⟨j,d',by rw[qAJ hl],h2⟩
   ·exact⟨j,d1,by rw[qV λz=>hj z.symm];exact h1,h2⟩
 have so:Same (Offs (λb=>fx b\/own env σ b) H) (Offs (λb=>fx b\/own (env.set i (.ac d')) σ b) (upd H a o)):=by
  have:Same (Offs (λb=>fx b\/own env σ b) (upd H a o)) (Offs (λb=>fx b\/own (env.set i (.ac d')) σ b) (upd H a o)):=Offs.sub λb z=>z.imp (λy=>y) (ow b).mp
  rw[Offs.upd (.inr oa)]at this
  exact this
 obtain⟨a',g1,g2,g3,g4⟩:=h.ac i d e
 rw[ea]at g1
 cases g1
 refine⟨by rw[qAI];exact h.len,λj d1 hj=>?_,λj d1 hj=>?_,λj k d1 d2 b h1 h2 h3 h4=>?_,λb u eb=>by rw[zav (zbs eb g2)];exact h.base b u eb,λb z=>?_⟩
 ·rcases zcy hj with⟨_,z⟩|⟨ne,hj'⟩
  ·cases z
  ·obtain⟨u,h1,h2⟩:=h.pl j d1 hj'
   exact⟨u,h1,Rp.same so _ h2⟩
 ·rcases zcy hj with⟨rfl,z⟩|⟨ne,hj'⟩
  ·cases z
   exact⟨a,ea,g2,g3,r.same so λo z=>z⟩
  ·obtain⟨b,h1,h2,h3,h4⟩:=h.ac j d1 hj'
   refine⟨b,h1,h2,h3,h4.same so λo' z=>?_⟩
   rw[zav λy=>ne (h.inj j i d1 d a hj' e (by rw[<- y];exact h1) ea)]
   exact z
 ·have f:∀{j:Nat}{d1:PyData},(env.set i (.ac d'))[j]?=some (.ac d1)->∃d2,env[j]?=some (.ac d2):=λ{j d1} hj=>by
   rcases zcy hj with⟨rfl,z⟩|⟨ne,hj'⟩
   ·exact⟨d,e⟩
   ·exact⟨d1,hj'⟩
  obtain⟨e1,h1⟩:=f h1
  obtain⟨e2,h2⟩:=f h2
  exact h.inj j k e1 e2 b h1 h2 h3 h4
 ·obtain⟨u,eu⟩:=h.fxs b z
  exact⟨u,by rw[zav λy=>g3 (by rw[<- y];exact z)];exact eu⟩
noncomputable def sApp(i:Nat)(f:EF):SF:=λenv=>match env[i]? with
 | some (.ac (.list ds))=>(f env).bind λr=>if ds.length<100000/\i∉r.bs then some (.nx ((frzs env r.bs).set i (.ac (.list (ds++[r.d])))))else none
 | _=>none
theorem zix{env:DEnv}{i:Nat}{d:PyData}:∀{bs:List Nat},i∉bs->env[i]?=some (.ac d)->(frzs env bs)[i]?=some (.ac d):=by
 intro bs
 induction bs generalizing env with
 | nil=>intro _ e;exact e
 | cons j bs ih=>
  intro hn e
  have hj:i≠j:=λz=>hn (by simp[z])
  refine ih (λz=>hn (qW _ z)) ?_
  unfold frz1
  split
  ·rw[qV λz=>hj z.symm];exact e
  ·exact e
theorem zavm{K:qC}{i:Nat}{te:TE}{f:EF}(h1:SE te f):SS (tDrop (tBM K "list" zacb (tVar i) (tCons te tNil))) (sApp i f):=by
 intro fx H0 env σ H D h o e q
 unfold sApp at e
 split at e
 ·rename_i ds ei
  obtain⟨r,er,e⟩:=qA.mp e
  split at e
  ·rename_i hl
   cases e
   obtain⟨a,g1,g2,g3,g4⟩:=h.ac i _ ei
   obtain⟨xs,hx,rx⟩:=g4
   refine⟨_,g1,.inl ⟨rfl,_,SqL.of hx⟩,h1 fx H0 env σ H h r er _ λv H' s hv=>?_⟩
   have h':=(h.up s).frzs r.bs
   have ei':=zix hl.2 ei
   have hx':=s _ _ hx
   have rx':Rps (Offs (λb=>fx b\/own (frzs env r.bs) σ b) H') ds xs:=by
    obtain⟨a',z1,_,_,z4⟩:=h'.ac i _ ei'
    rw[g1]at z1
    cases z1
    obtain⟨ys,y1,y2⟩:=z4
    rw[hx']at y1
    cases y1
    exact y2
   refine⟨a,xs,v,rfl,rfl,hx',zpi (by rw[<- rx.length];exact hl.1),?_⟩
   refine q σ _ (h'.mut ei' g1 ⟨_,zau,rx'.append (zew (Rp.same (Offs.sub zfj) _ hv.rp) zeb)⟩)
  ·cases e
 ·cases e
noncomputable def sPut(i:Nat)(fk fv:EF):SF:=λenv=>match env[i]? with
 | some (.ac (.dict kvs))=>(fv env).bind λr=>(fk env).bind λk=>(keyD k.d).bind λ_=>if kvs.length<100000/\i∉r.bs then some (.nx ((frzs env r.bs).set i (.ac (.dict (zpk kvs k.d r.d)))))else none
 | _=>none
theorem zaiz{i:Nat}{tk tv:TE}{fk fv:EF}(h1:SE tk fk)(h2:SE tv fv):SS (sDPut (tVar i) tk tv) (sPut i fk fv):=by
 intro fx H0 env σ H D h o e q
 unfold sPut at e
 split at e
 ·rename_i kvs ei
  obtain⟨r,er,e⟩:=qA.mp e
  obtain⟨k,ek,e⟩:=qA.mp e
  obtain⟨kk,ekk,e⟩:=qA.mp e
  split at e
  ·rename_i hl
   cases e
   obtain⟨a,g1,g2,g3,g4⟩:=h.ac i _ ei
   obtain⟨ps,hx,rx⟩:=g4
   refine h2 fx H0 env σ H h r er _ λv H' s hv=>⟨_,g1,h1 fx H0 env σ H' (h.up s) k ek _ λu H2 s2 hk=>?_⟩
   have t2:=s.trans s2
   have h':=(h.up t2).frzs r.bs
   have ei':=zix hl.2 ei
   have hx':=t2 _ _ hx
   have rx':Rpd (Offs (λb=>fx b\/own (frzs env r.bs) σ b) H2) kvs ps:=by
    obtain⟨a',z1,_,_,z4⟩:=h'.ac i _ ei'
    rw[g1]at z1
    cases z1
    obtain⟨ys,y1,y2⟩:=z4
    rw[hx']at y1
    cases y1
    exact y2
   rw[zamu hk.rp ekk]
   refine⟨a,_,rfl,DPut.k hx' (zpi (by rw[<- rx.length];exact hl.1)),?_⟩
   refine q σ _ (h'.mut ei' g1 ⟨_,zau,rx'.put ekk (Rp.same (Offs.sub zfj) _ (hv.later (Same.refl _) s2 λ_ z=>z).rp)⟩)
  ·cases e
 ·cases e
noncomputable def sUpd(i:Nat)(f:EF):SF:=λenv=>match env[i]? with
 | some (.ac (.dict kvs))=>(f env).bind λr=>match r.d with
  | .dict more=>if kvs.length+more.length<=100000/\i∉r.bs then some (.nx ((frzs env r.bs).set i (.ac (.dict (zpl kvs more)))))else none
  | _=>none
 | _=>none
theorem zaps{K:qC}{i:Nat}{te:TE}{f:EF}(h1:SE te f):SS (tDrop (tBM K "dict" zaim (tVar i) (tCons te tNil))) (sUpd i f):=by
 intro fx H0 env σ H D h o e q
 unfold sUpd at e
 split at e
 ·rename_i kvs ei
  obtain⟨⟨rd,rfr,rbs⟩,er,e⟩:=qA.mp e
  cases rd with
  | dict more=>
   have e:(if kvs.length+more.length<=100000/\i∉rbs then some (Out.nx ((frzs env rbs).set i (.ac (.dict (zpl kvs more)))))else none)=some o:=e
   split at e
   ·rename_i hl
    cases e
    obtain⟨a,g1,g2,g3,g4⟩:=h.ac i _ ei
    obtain⟨ps,hx,rx⟩:=g4
    refine⟨_,g1,.inr (.inr (.inl ⟨rfl,.inl ⟨_,hx⟩⟩)),h1 fx H0 env σ H h _ er _ λv H' s hv=>?_⟩
    have h':=(h.up s).frzs rbs
    have ei':=zix hl.2 ei
    have hx':=s _ _ hx
    have rx':Rpd (Offs (λb=>fx b\/own (frzs env rbs) σ b) H') kvs ps:=by
     obtain⟨a',z1,_,_,z4⟩:=h'.ac i _ ei'
     rw[g1]at z1
     cases z1
     obtain⟨ys,y1,y2⟩:=z4
     rw[hx']at y1
     cases y1
     exact y2
    obtain⟨b,qs,rfl,hb,rb⟩:=zpe (Rp.same (Offs.sub zfj) _ hv.rp)
    have hab:a≠b:=λz=>by
     subst z
     exact(Offs.of hb).1 (.inr ⟨i,_,ei',g1⟩)
    refine⟨a,b,ps,qs,rfl,rfl,hab,hx',zdm hb,zer (by rw[<- rx.length,<- rb.length];exact hl.1),?_⟩
    exact q σ _ (h'.mut ei' g1 ⟨_,zau,rx'.merge rb⟩)
   ·cases e
  | _=>cases e
 ·cases e
theorem EnvOk.rebase{fx:Addr->Prop}{H0:Hp}{env:DEnv}{σ:St}{H:Hp}(h:EnvOk fx H0 env σ H):EnvOk fx (Offs (own env σ) H) env σ H:=by
 refine⟨h.len,h.pl,λi d e=>?_,h.inj,Offs.same _ _,h.fxs⟩
 obtain⟨a,h1,h2,h3,h4⟩:=h.ac i d e
 exact⟨a,h1,Offs.out ⟨i,d,e,h1⟩,h3,h4⟩
theorem EnvOk.floor{fx:Addr->Prop}{H0:Hp}{env:DEnv}{σ:St}{H:Hp}(h:EnvOk fx H0 env σ H):Same H0 (Offs (own env σ) H):=λb o e=>by
 rw[Offs.get]
 ·exact h.base b o e
 ·rintro⟨i,d,h1,h2⟩
  obtain⟨a,g1,g2,_⟩:=h.ac i d h1
  rw[h2]at g1
  cases g1
  rw[g2]at e
  cases e
theorem EnvOk.unbase{fx:Addr->Prop}{H0 F:Hp}{env:DEnv}{σ:St}{H:Hp}(h:EnvOk fx F env σ H)(s:Same H0 F):EnvOk fx H0 env σ H:=by
 refine⟨h.len,h.pl,λi d e=>?_,h.inj,s.trans h.base,h.fxs⟩
 obtain⟨a,h1,h2,h3,h4⟩:=h.ac i d e
 exact⟨a,h1,s.free h2,h3,h4⟩
theorem zxi.unbase{fx:Addr->Prop}{H0 F:Hp}{d:PyData}{fr:Bool}{v:V}{H:Hp}(h:zxi fx F d fr v H)(s:Same H0 F):zxi fx H0 d fr v H:=
 ⟨h.1,λe=>let⟨a,h1,h2,h3⟩:=h.2 e;⟨a,h1,s.free h2,h3⟩⟩
theorem EnvOk.seen{fx:Addr->Prop}{env env':DEnv}{σ σ':St}{H H':Hp}(h:EnvOk fx (Offs (own env σ) H) env' σ' H'):Same (Offs (λb=>fx b\/own env σ b) H) (Offs (λb=>fx b\/own env' σ' b) H'):=λb o e=>by
 obtain⟨h1,h2⟩:=Offs.of e
 have hF:Offs (own env σ) H b=some o:=by rw[Offs.get λz=>h1 (.inr z)];exact h2
 rw[Offs.get]
 ·exact h.base b o hF
 ·rintro(z|⟨i,d,g1,g2⟩)
  ·exact h1 (.inl z)
  ·obtain⟨a,k1,k2,_⟩:=h.ac i d g1
   rw[g2]at k1
   cases k1
   rw[k2]at hF
   cases hF
theorem EnvOk.all{fx:Addr->Prop}{H0:Hp}{env:DEnv}{σ:St}{H:Hp}(h:EnvOk fx H0 env σ H):∀b,fx b\/own env σ b->∃o,H b=some o:=λb z=>h.lims [] b (zarh b z)
noncomputable def Yl(A0:Addr->Prop)(H1:Hp)(J:It)(ds:List PyData):Prop:=∀(A:Addr->Prop)(H':Hp),(∀b,A b->∃o,H' b=some o)->Same (Offs A0 H1) (Offs A H')->
 (∀i d,ds[i]?=some d->J.go i H'/\∀x H'',J.yld i H' x H''->Same H' H''/\Rp (Offs A H'') d x)/\J.stop ds.length H'
noncomputable abbrev IF':=DEnv->Option (List PyData×List Nat)
noncomputable def SI(wi:TI)(f:IF'):Prop:=∀(fx:Addr->Prop)(H0:Hp)(env:DEnv)(σ:St)(H:Hp),EnvOk fx H0 env σ H->∀ds bs,f env=some (ds,bs)->∀R:It->Hp->Prop,
 (∀J H1,Same H H1->Yl (λb=>fx b\/own (frzs env bs) σ b) H1 J ds->R J H1)->wi σ H R
noncomputable def iSeq(K:qC)(te:TE):TI:=λσ H R=>te σ H λx H1=>∃a,x=.ref a/\((∃xs,SqL K H1 a xs)/\R (Itl K a) H1\/(∃xs,SqT K H1 a xs)/\R (Itt K a) H1)
theorem zavn{X:Cx}{tg l:Expr}{tl:TE}(hl:PE X l tl):PI X tg l (iSeq X.K tl):=by
 intro pins s σ H R I h
 refine thn (hl pins s σ H _ I h) λv s1 ⟨x,H1,I1,r1,q1⟩=>?_
 obtain⟨a,e,q⟩:=q1
 subst e
 cases r1
 rcases q with⟨⟨xs,hq⟩,q⟩|⟨⟨xs,hq⟩,q⟩
 ·obtain⟨its,rv,p,hz⟩:=I1.list hq
  refine qA3 p.isList ?_
  refine⟨s1.heap.objs.size,[s1.heap.objs.size],_,_,H1,rfl,I1.kept (t':=s1.toks) λb o e=>qF _ e,zaho a _,⟨_,qb _ rfl,rfl,rfl⟩,λb hb=>?_,q⟩
  have e:b=s1.heap.objs.size:=by simpa using hb
  subst e
  exact I1.fpOk (qK _) (I1.hok.fresh (qK _))
 ·obtain⟨its,rv,p,hz⟩:=I1.tuple hq
  refine qAo (show s1.heap.IsTuple a its.toArray from p) ?_
  refine⟨s1.heap.objs.size,[s1.heap.objs.size],_,_,H1,rfl,I1.kept (t':=s1.toks) λb o e=>qF _ e,zage a _,⟨_,qb _ rfl,rfl,rfl⟩,λb hb=>?_,q⟩
  have e:b=s1.heap.objs.size:=by simpa using hb
  subst e
  exact I1.fpOk (qK _) (I1.hok.fresh (qK _))
theorem zarp{X:Cx}{K:qC}(hK:X.K=K){tg l:Expr}{tl:TE}(hl:PE X l tl):PI X tg l (iSeq K tl):=by subst hK;exact zavn hl
noncomputable def zar(f:EF):IF':=λenv=>(f env).bind λr=>(zhi r.d).map λds=>(ds,r.bs)
theorem zarq{K:qC}{A0:Addr->Prop}{H1:Hp}{a:Addr}{ds:List PyData}{xs:List V}(h:Offs A0 H1 a=some (.lst xs))(r:Rps (Offs A0 H1) ds xs):Yl A0 H1 (Itl K a) ds:=by
 intro A H' hA s
 have ha:=zdm (s _ _ h)
 have r':=Rps.same s _ r
 refine⟨λi d e=>?_,⟨xs,SqL.of ha,by rw[r.length];exact qK _⟩⟩
 obtain⟨v,hv,rv⟩:=r'.get2 e
 refine⟨⟨xs,v,SqL.of ha,hv⟩,λx H'' y=>?_⟩
 obtain⟨rfl,y⟩:=y
 have:=y xs (SqL.of ha)
 rw[hv]at this
 cases this
 exact⟨Same.refl _,rv⟩
theorem zavo{K:qC}{A0:Addr->Prop}{H1:Hp}{a:Addr}{ds:List PyData}{xs:List V}(h:Offs A0 H1 a=some (.tup xs))(r:Rps (Offs A0 H1) ds xs):Yl A0 H1 (Itt K a) ds:=by
 intro A H' hA s
 have ha:=zdm (s _ _ h)
 have r':=Rps.same s _ r
 refine⟨λi d e=>?_,⟨xs,SqT.of ha,by rw[r.length];exact qK _⟩⟩
 obtain⟨v,hv,rv⟩:=r'.get2 e
 refine⟨⟨xs,v,SqT.of ha,hv⟩,λx H'' y=>?_⟩
 obtain⟨rfl,y⟩:=y
 have:=y xs (SqT.of ha)
 rw[hv]at this
 cases this
 exact⟨Same.refl _,rv⟩
theorem zcu{K:qC}{te:TE}{f:EF}(h1:SE te f):SI (iSeq K te) (zar f):=by
 intro fx H0 env σ H h ds bs e R q
 unfold zar at e
 obtain⟨⟨d,fr,bs'⟩,er,e⟩:=qA.mp e
 obtain⟨es,he,e⟩:=qG.mp e
 cases e
 refine h1 fx H0 env σ H h _ er _ λv H1 s hv=>?_
 have rp:=Rp.same (Offs.sub (zfj (bs:=bs'))) _ hv.rp
 cases d with
 | list ds=>
  cases he
  obtain⟨a,xs,rfl,ha,r⟩:=zfe rp
  exact⟨a,rfl,.inl ⟨⟨xs,SqL.of (zdm ha)⟩,q _ H1 s (zarq ha r)⟩⟩
 | tuple ds=>
  cases he
  obtain⟨a,xs,rfl,ha,r⟩:=zdc rp
  exact⟨a,rfl,.inr ⟨⟨xs,SqT.of (zdm ha)⟩,q _ H1 s (zavo ha r)⟩⟩
 | _=>cases he
noncomputable def zzo(ds:List PyData):List PyData:=ds.zipIdx.map λp=>.tuple [.int p.2,p.1]
noncomputable def zazb(f:AF):IF':=λenv=>(f env).bind λrs=>match rs with
 | [r]=>match r.d with
  | .list ds=>some (zzo ds,r.bs)
  | _=>none
 | _=>none
noncomputable def zql(lo:Int)(n:Nat):List PyData:=(List.range n).map λ(k:Nat)=>.int (lo+(k:Int))
theorem zaev{A0:Addr->Prop}{H1:Hp}{lo:Int}{n:Nat}:Yl A0 H1 (Itr lo n) (zql lo n):=by
 intro A H' hA s
 have hl:(zql lo n).length=n:=by unfold zql;simp
 refine⟨λi d e=>?_,by rw[hl];exact qK _⟩
 unfold zql at e
 rw[qr]at e
 by_cases hi:i<n
 ·rw[qC7 hi]at e
  cases e
  exact⟨hi,λx H'' ⟨e1,e2⟩=>by subst e1;subst e2;exact⟨Same.refl _,zaf⟩⟩
 ·rw[qB1 (by simpa using hi)]at e
  cases e
noncomputable def zka(f:AF):IF':=λenv=>(f env).bind λrs=>match rs with
 | [⟨.int j,_,_⟩]=>if -(2 ^ 62)<=j/\j<2 ^ 62 then some (zql 0 j.toNat,[])else none
 | _=>none
theorem zsp{ta:TA}{f:AF}(h1:SA ta f):SI (iRng1 ta) (zka f):=by
 intro fx H0 env σ H h ds bs e R q
 unfold zka at e
 obtain⟨rs,er,e⟩:=qA.mp e
 split at e
 ·split at e
  ·rename_i hj
   cases e
   refine h1 fx H0 env σ H h _ er _ λvs H1 s hv=>?_
   cases hv with
   | cons hv t=>
    cases t
    cases zef hv.rp
    exact⟨_,rfl,hj.1,hj.2,q _ H1 s zaev⟩
  ·cases e
 ·cases e
noncomputable def forL(g:GT)(body:SF):List PyData->DEnv->Option Out
 | [],env=>some (.nx env)
 | d::ds,env=>(g d env).bind λe1=>(body e1).bind λo=>match o with
  | .nx e2=>forL g body ds e2
  | .ct e2=>forL g body ds e2
  | .bk e2=>some (.nx e2)
  | .rt d fr=>some (.rt d fr)
noncomputable def sFor(f:IF')(g:GT)(body:SF):SF:=λenv=>(f env).bind λz=>forL g body z.1 (frzs env z.2)
theorem zji{wi:TI}{g:TG}{tb:TS}{f:IF'}{gf:GT}{body:SF}(h1:SI wi f)(h2:SG g gf)(h3:SS tb body):SS (tFor wi g tb) (sFor f gf body):=by
 intro fx H0 env σ H D h o e q
 unfold sFor at e
 obtain⟨⟨ds,bs⟩,er,e⟩:=qA.mp e
 refine h1 fx H0 env σ H h ds bs er _ λJ H1 s yl=>?_
 have hE:=(h.up s).frzs bs
 have fl:=hE.floor
 refine⟨λi m σ' H'=>m=ds.length - i/\i<=ds.length/\∃env',forL gf body (ds.drop i) env'=some o/\EnvOk fx (Offs (own (frzs env bs) σ) H1) env' σ' H',⟨ds.length,rfl,qAr _,_,e,hE.rebase⟩,?_⟩
 rintro i m σ' H' ⟨rfl,hi,env',e',h'⟩
 obtain⟨yi,ys⟩:=yl _ H' h'.all h'.seen
 by_cases hlt:i<ds.length
 ·obtain⟨yg,yy⟩:=yi i ds[i] (qS hlt)
  refine .inr ⟨yg,λσ'' H''=>i+1<=ds.length/\∃env'',forL gf body (ds.drop (i+1)) env''=some o/\EnvOk fx (Offs (own (frzs env bs) σ) H1) env'' σ'' H'',?_,?_⟩
  ·rintro σ'' H'' ⟨hle,env'',e'',h''⟩
   exact⟨ds.length - (i+1),by omega,rfl,hle,env'',e'',h''⟩
  ·intro x H'' hy
   obtain⟨sy,ry⟩:=yy x H'' hy
   rw[qAa hlt]at e'
   obtain⟨e1,ee1,e'⟩:=qA.mp e'
   obtain⟨o1,eo1,e'⟩:=qA.mp e'
   refine h2 fx _ env' σ' H'' _ x (h'.up sy) ry e1 ee1 _ λσ2 h2'=>h3 fx _ e1 σ2 H'' _ h2' o1 eo1 ?_
   cases o1 with
   | nx e2=>exact λσ3 H3 hh=>⟨hlt,e2,e',hh⟩
   | ct e2=>exact λσ3 H3 hh=>⟨hlt,e2,e',hh⟩
   | bk e2=>cases e';exact λσ3 H3 hh=>q σ3 H3 (hh.unbase fl)
   | rt d fr=>cases e';exact λv H3 sh rt=>q v H3 (fl.trans sh) (rt.unbase fl)
 ·have hi':i=ds.length:=by omega
  subst hi'
  rw[qA7]at e'
  cases e'
  exact .inl ⟨ys,q σ' H' (h'.unbase fl)⟩
noncomputable def ziy(n:Nat)(ds:List PyData):DEnv:=ds.map .pl++List.replicate (n - ds.length) .no
noncomputable def fnD(n:Nat)(f:SF):GF:=λds=>match f (ziy n ds)with
 | some (.rt d fr)=>some (d,fr)
 | some (.nx _)=>some (.none,false)
 | _=>none
theorem zsq{ds:List PyData}{n i:Nat}{sl:Sl}(e:(ziy n ds)[i]?=some sl):(∃d,ds[i]?=some d/\sl=.pl d)\/sl=.no:=by
 unfold ziy at e
 by_cases hi:i<ds.length
 ·rw[qAO (by simpa using hi),qr,qS hi]at e
  cases e
  exact .inl ⟨_,qS hi,rfl⟩
 ·rw[qAA (by simpa using hi),qBv]at e
  split at e
  ·cases e;exact .inr rfl
  ·cases e
theorem zjj{fx:Addr->Prop}{H:Hp}{N:List Str}{ds:List PyData}{vs:List V}(hf:∀b,fx b->∃o,H b=some o)(r:Rps (Offs fx H) ds vs):EnvOk fx H (ziy N.length ds) (zhg N vs) H:=by
 have no:∀(i:Nat)(d:PyData),(ziy N.length ds)[i]?≠some (Sl.ac d):=λi d e=>by
  rcases zsq e with⟨d',_,z⟩|z<;>cases z
 refine⟨?_,λi d e=>?_,λi d e=>absurd e (no i d),λi j d e a h1=>absurd h1 (no i d),Same.refl _,hf⟩
 ·unfold ziy zhg
  rw[qH,qH,qE,qE,qB0,qB0,r.length]
 ·rcases zsq e with⟨d',hd,z⟩|z
  ·cases z
   obtain⟨v,hv,rv⟩:=r.get2 hd
   refine⟨v,?_,Rp.same (Offs.sub λb z=>?_) _ rv⟩
   ·unfold zhg
    have hi:i<vs.length:=(qa.mp hv).1
    rw[qAO (by simpa using hi),qr,hv];rfl
   ·rcases z with z|⟨j,d',z,_⟩
    ·exact z
    ·exact absurd z (no j d')
  ·cases z
theorem fn_d{N:List Str}{n:Nat}{f:SF}{t:TS}(hs:SS t f){vs:List V}{H:Hp}{Q:VK}{E:XK}(h:spD n (fnD N.length f) vs H Q E):t {nx:=λ_ H'=>Q .non H',rt:=Q} (zhg N vs) H:=by
 obtain⟨fx,ds,d,fr,hn,hf,r,g,k⟩:=h
 unfold fnD at g
 split at g
 ·rename_i d' fr' eo
  cases g
  exact hs fx H _ _ H _ (zjj hf r) _ eo λv H' s rt=>k v H' s rt
 ·rename_i e' eo
  cases g
  exact hs fx H _ _ H _ (zjj hf r) _ eo λσ H' hE=>k .non H' hE.base ⟨zgk,λz=>by cases z⟩
 ·cases g
theorem zbz{n:Nat}{g:GF}{vs:List V}{H:Hp}{Q:VK}{E:XK}(h:spD n g vs H Q E):vs.length=n:=by
 obtain⟨fx,ds,d,fr,hn,hf,r,_⟩:=h
 rw[<- r.length];exact hn
noncomputable def zarr:Sl->Sl
 | .ac d=>.pl d
 | s=>s
noncomputable def envB(own:List Str)(fr:List Nat)(env:DEnv):DEnv:=own.map (λ_=>Sl.no)++fr.map (λj=>zarr (env.getD j .no))
noncomputable def isAc:Option Sl->Bool
 | some (.ac _)=>true
 | _=>false
noncomputable def capA(fr:List Nat)(env:DEnv):List Nat:=fr.filter λj=>isAc env[j]?
theorem zrt{own:List Str}{fr:List Nat}{env:DEnv}{i:Nat}{d:PyData}(e:(envB own fr env)[i]?=some (.pl d)):∃j k,i=own.length+k/\fr[k]?=some j/\(env[j]?=some (.pl d)\/env[j]?=some (.ac d)):=by
 unfold envB at e
 by_cases hi:i<own.length
 ·rw[qAO (by simpa using hi),qr,qS hi]at e
  cases e
 ·rw[qAA (by simpa using hi),qE,qr]at e
  cases ej:fr[i - own.length]? with
  | none=>rw[ej]at e;cases e
  | some j=>
   rw[ej]at e
   refine⟨j,i - own.length,by omega,ej,?_⟩
   have e:zarr (env.getD j .no)=.pl d:=qZ e
   rw[qi]at e
   cases ev:env[j]? with
   | none=>rw[ev]at e;cases e
   | some s=>
    rw[ev]at e
    cases s with
    | no=>cases e
    | pl d'=>cases e;exact .inl rfl
    | ac d'=>cases e;exact .inr rfl
theorem zio{own:List Str}{fr:List Nat}{env:DEnv}{i:Nat}{d:PyData}:(envB own fr env)[i]?≠some (.ac d):=by
 intro e
 unfold envB at e
 by_cases hi:i<own.length
 ·rw[qAO (by simpa using hi),qr,qS hi]at e
  cases e
 ·rw[qAA (by simpa using hi),qE,qr]at e
  cases ej:fr[i - own.length]? with
  | none=>rw[ej]at e;cases e
  | some j=>
   rw[ej]at e
   have e:zarr (env.getD j .no)=.ac d:=qZ e
   cases ev:env.getD j .no with
   | no=>rw[ev]at e;cases e
   | pl d'=>rw[ev]at e;cases e
   | ac d'=>rw[ev]at e;cases e
theorem zacp{own:List Str}{fr:List Nat}{σ:St}{k j:Nat}{v:V}(hk:fr[k]?=some j)(hv:σ[j]?=some (some v)):(tau own fr σ)[own.length+k]?=some (some v):=by
 unfold tau
 rw[qAA (by simp),qE,qCo,qr,hk]
 show some (σ.getD j none)=_
 rw[qi,hv];rfl
theorem zsr{fx:Addr->Prop}{H0:Hp}{env:DEnv}{σ:St}{H H1:Hp}{p:Addr}(h:EnvOk fx H0 env σ H)(s:Same H H1)(hp:H1 p=none)(own:List Str)(fr:List Nat)(bs:List Nat) :
  EnvOk (λb=>lim fx env σ (bs++capA fr env) b\/b=p) H1 (envB own fr env) (tau own fr σ) (upd H1 p (.lst [])):=by
 have h1:=h.up s
 have sp:Same H1 (upd H1 p (.lst [])):=Same.new hp
 have so:Same (Offs (λb=>fx b\/L2.own env σ b) H1) (Offs (λb=>(lim fx env σ (bs++capA fr env) b\/b=p)\/L2.own (envB own fr env) (tau own fr σ) b) (upd H1 p (.lst []))):=Offs.mono sp λb o e n z=>by
  rcases z with(z|z)|⟨i,d,z,_⟩
  ·exact n (zsh b z)
  ·rw[z,hp]at e;cases e
  ·exact absurd z zio
 refine⟨?_,λi d e=>?_,λi d e=>absurd e zio,λi j d e a z=>absurd z zio,sp,λb z=>?_⟩
 ·unfold envB tau;simp
 ·obtain⟨j,k,rfl,hk,hj⟩:=zrt e
  rcases hj with hj|hj
  ·obtain⟨v,h2,h3⟩:=h1.pl j d hj
   exact⟨v,zacp hk h2,Rp.same so _ h3⟩
  ·obtain⟨a,h2,h3,h4,h5⟩:=h1.ac j d hj
   refine⟨_,zacp hk h2,h5.rp so λo eo=>?_⟩
   rw[Offs.get]
   ·exact sp _ _ eo
   ·rintro((z|⟨i',d',z1,z2,z3⟩)|⟨i',d',z,_⟩)
    ·rcases z with z|⟨i',d',z1,z2,z3⟩
     ·exact h4 z
     ·have e2:=h1.inj i' j d' d a z2 hj z3 h2
      subst e2
      refine z1 (qk _ (qAW.mpr ⟨qBc hk,?_⟩))
      rw[hj];rfl
    ·rw[hp]at eo;cases eo
    ·exact absurd z zio
 ·rcases z with z|z
  ·obtain⟨o,e⟩:=h1.lims _ b z;exact⟨o,sp b o e⟩
  ·rw[z];exact⟨_,zau⟩
theorem EnvOk.weaken{fx:Addr->Prop}{H0:Hp}{env e1:DEnv}{σ:St}{H:Hp}(h:EnvOk fx H0 e1 σ H)(hl:env.length=e1.length)(hp:∀(i:Nat) (d:PyData),env[i]?=some (.pl d)->e1[i]?=some (.pl d))(ha:∀(i:Nat) (d:PyData),env[i]?≠some (.ac d)):EnvOk fx H0 env σ H:=by
 refine⟨hl.trans h.len,λi d e=>?_,λi d e=>absurd e (ha i d),λi j d e a z=>absurd z (ha i d),h.base,h.fxs⟩
 obtain⟨v,h1,h2⟩:=h.pl i d (hp i d e)
 exact⟨v,h1,Rp.same (Offs.sub λb z=>z.imp (λy=>y) λ⟨j,d',z,_⟩=>absurd z (ha j d')) _ h2⟩
theorem EnvOk.updFx{fx:Addr->Prop}{H0:Hp}{env:DEnv}{σ:St}{H:Hp}{p:Addr}{o:HO}(h:EnvOk fx H0 env σ H)(hp:fx p)(h0:H0 p=none):EnvOk fx H0 env σ (upd H p o):=by
 have so:Offs (λb=>fx b\/own env σ b) (upd H p o)=Offs (λb=>fx b\/own env σ b) H:=Offs.upd (.inl hp)
 refine⟨h.len,λi d e=>?_,λi d e=>?_,h.inj,λb u e=>by rw[zav (zbs e h0)];exact h.base b u e,λb z=>?_⟩
 ·rw[so];exact h.pl i d e
 ·obtain⟨a,h1,h2,h3,h4⟩:=h.ac i d e
  rw[so]
  exact⟨a,h1,h2,h3,h4.same (Same.refl _) λu z=>by rw[zav λy=>h3 (by rw[y];exact hp)];exact z⟩
 ·by_cases e:b=p
  ·rw[e];exact⟨_,zau⟩
  ·obtain⟨u,hu⟩:=h.fxs b z
   exact⟨u,by rw[zav e];exact hu⟩
noncomputable def GX(n:Nat)(g:GT):Prop:=∀d env e1,g d env=some e1->e1.length=env.length/\∀i,n<=i->e1[i]?=env[i]?
noncomputable def GXs(n:Nat)(g:GTs):Prop:=∀ds env e1,g ds env=some e1->e1.length=env.length/\∀i,n<=i->e1[i]?=env[i]?
theorem zjd{n i:Nat}(h:i<n):GX n (gN i):=by
 intro d env e1 e
 cases e
 exact⟨qAI,λj hj=>qV (by omega)⟩
theorem ziq{n:Nat}:GXs n zdn:=by
 intro ds env e1 e
 cases ds with
 | nil=>cases e;exact⟨rfl,λ_ _=>rfl⟩
 | cons _ _=>cases e
theorem zcg{n i:Nat}{g:GTs}(h:i<n)(hg:GXs n g):GXs n (zas i g):=by
 intro ds env e1 e
 cases ds with
 | nil=>cases e
 | cons d ds=>
  obtain⟨h1,h2⟩:=hg ds _ e1 e
  rw[qAI]at h1
  exact⟨h1,λj hj=>(h2 j hj).trans (qV (by omega))⟩
theorem zlk{n m:Nat}{g:GTs}(hg:GXs n g):GX n (gT m g):=by
 intro d env e1 e
 unfold gT at e
 cases d with
 | tuple ds=>
  have e:(if ds.length=m then g ds env else none)=some e1:=e
  split at e
  ·exact hg ds env e1 e
  ·cases e
 | _=>cases e
noncomputable def zdx(g:GT)(t:TF)(e:EF)(env:DEnv):List PyData->Option (List PyData)
 | []=>some []
 | d::ds=>(g d env).bind λe1=>(t e1).bind λb=>if b=true then(e e1).bind λr=>(zdx g t e env ds).map λrs=>r.d::rs else zdx g t e env ds
noncomputable def zdy(own:List Str)(fr:List Nat)(fi:IF')(g:GT)(t:TF)(e:EF):EF:=λenv=>(fi env).bind λz=>if z.1.length<100000 then
 (zdx g t e (envB own fr env) z.1).map λrs=>⟨.list rs,true,if zfp rs=true then[]else z.2++capA fr env⟩else none
theorem zjk{H H':Hp}{ds:List PyData}{vs:List V}(f:zfp ds=true)(h:Rps H ds vs):Rps H' ds vs:=by
 replace h:=zeh.mp h
 induction h with
 | nil=>exact zeb
 | cons h _ ih=>
  unfold zfp at f
  rw[qBd,qm]at f
  exact zew (zsi f.1 h) (ih f.2)
theorem zdo{own:List Str}{fr:List Nat}{wi:TI}{g:TG}{tt:TT}{te:TE}{fi:IF'}{gf:GT}{t:TF}{e:EF}(h1:SI wi fi)(h2:SG g gf)(hx:GX own.length gf)(h3:ST tt t)(h4:SE te e) :
  SE (tComp1 wi g tt te own fr) (zdy own fr fi gf t e):=by
 intro fx H0 env σ H h rr hr Q q
 unfold zdy at hr
 obtain⟨⟨ds,bs⟩,ei,hr⟩:=qA.mp hr
 split at hr
 ·rename_i hlen
  have hlen:ds.length<100000:=hlen
  obtain⟨rs,ers,rfl⟩:=qG.mp hr
  refine h1 fx H0 env σ H h ds bs ei _ λJ H1 s yl=>λp hp=>?_
  have hB:=zsr h s hp own fr bs
  generalize hA:(λb=>lim fx env σ (bs++capA fr env) b)=A
  have hA':∀b,lim fx env σ (bs++capA fr env) b↔A b:=λb=>by rw[<- hA]
  have eA:(λb=>lim fx env σ (bs++capA fr env) b\/b=p)=λb=>A b\/b=p:=by rw[<- hA]
  rw[eA]at hB
  have nA:¬A p:=λz=>by
   obtain⟨o,eo⟩:=(h.up s).lims _ p ((hA' p).mpr z)
   rw[hp]at eo;cases eo
  have seen:∀{σ':St}{H':Hp},EnvOk (λb=>A b\/b=p) H1 (envB own fr env) σ' H'->Same (Offs (λb=>fx b\/L2.own (frzs env bs) σ b) H1) (Offs (λb=>A b\/b=p) H'):=λ{σ' H'} hE=>Offs.mono hE.base λb o eo n z=>by
   rcases z with z|z
   ·rcases(hA' b).mpr z with z|⟨i,d,z1,z2,z3⟩
    ·exact n (.inl z)
    ·exact n (.inr ⟨i,d,zix (λy=>z1 (qAG _ y)) z2,z3⟩)
   ·rw[z,hp]at eo;cases eo
  refine⟨λi m σ' H'=>m=ds.length - i/\i<=ds.length/\∃vs done rest,H' p=some (.lst vs)/\Rps (Offs (λb=>A b\/b=p) H') done vs/\done.length<=i/\zdx gf t e (envB own fr env) (ds.drop i)=some rest/\done++rest=rs/\EnvOk (λb=>A b\/b=p) H1 (envB own fr env) σ' H',
   ⟨ds.length,rfl,qAr _,[],[],rs,zau,zeb,qAr _,ers,rfl,hB⟩,?_⟩
  rintro i m σ' H' ⟨rfl,hi,vs,done,rest,ep,rd,dl,ec,edr,hE⟩
  obtain⟨yi,ys⟩:=yl _ H' hE.fxs (seen hE)
  by_cases hlt:i<ds.length
  ·obtain⟨yg,yy⟩:=yi i ds[i] (qS hlt)
   refine .inr ⟨yg,λσ'' H''=>i+1<=ds.length/\∃vs done rest,H'' p=some (.lst vs)/\Rps (Offs (λb=>A b\/b=p) H'') done vs/\done.length<=i+1/\zdx gf t e (envB own fr env) (ds.drop (i+1))=some rest/\done++rest=rs/\EnvOk (λb=>A b\/b=p) H1 (envB own fr env) σ'' H'',?_,?_⟩
   ·rintro σ'' H'' ⟨hle,hh⟩
    exact⟨ds.length - (i+1),by omega,rfl,hle,hh⟩
   ·intro x H'' hy
    obtain⟨sy,ry⟩:=yy x H'' hy
    rw[qAa hlt]at ec
    obtain⟨e1,ee1,ec⟩:=qA.mp ec
    obtain⟨b,eb,ec⟩:=qA.mp ec
    have ry':Rp (Offs (λa=>(A a\/a=p)\/L2.own (envB own fr env) σ' a) H'') ds[i] x:=Rp.same (Offs.sub λb z=>z.elim (λy=>y) λ⟨j,d',z,_⟩=>absurd z zio) _ ry
    refine h2 _ H1 (envB own fr env) σ' H'' _ x (hE.up sy) ry' e1 ee1 _ λσ2 hE2=>?_
    refine h3 _ H1 e1 σ2 H'' hE2 b eb _ λH3 s3=>?_
    have hE3:=hE2.up s3
    obtain⟨gl,gk⟩:=hx _ _ _ ee1
    have back:∀{H4:Hp},EnvOk (λb=>A b\/b=p) H1 e1 σ2 H4->EnvOk (λb=>A b\/b=p) H1 (envB own fr env) σ2 H4:=λ{H4} hh=>hh.weaken gl.symm (λj d' ej=>by
     by_cases hj:own.length<=j
     ·rw[gk j hj];exact ej
     ·obtain⟨_,k,rfl,_⟩:=zrt ej;omega) λj d'=>zio
    cases b with
    | false=>
     have ec:zdx gf t e (envB own fr env) (ds.drop (i+1))=some rest:=ec
     exact iteF ⟨hlt,vs,done,rest,s3 _ _ (sy _ _ ep),Rps.same (Offs.grow (sy.trans s3)) _ rd,qBW dl,ec,edr,back hE3⟩
    | true=>
     have ec:((e e1).bind λr=>(zdx gf t e (envB own fr env) (ds.drop (i+1))).map λrs=>r.d::rs)=some rest:=ec
     obtain⟨r,er,ec⟩:=qA.mp ec
     obtain⟨rest',er',rfl⟩:=qG.mp ec
     refine iteT (h4 _ H1 e1 σ2 H3 hE3 r er _ λv H4 s4 hv=>?_)
     have t4:=(sy.trans s3).trans s4
     refine⟨vs,t4 _ _ ep,zpi (by rw[<- rd.length];omega),hlt,vs++[v],done++[r.d],rest',zau,?_,by rw[qH];simp;omega,er',by rw[<- edr];simp,(back (hE3.up s4)).updFx (.inr rfl) hp⟩
     rw[Offs.upd (.inr rfl)]
     exact(Rps.same (Offs.grow t4) _ rd).append (zew (Rp.same (Offs.sub λb z=>.inl z) _ hv.rp) zeb)
  ·have hi':i=ds.length:=by omega
   subst hi'
   rw[qA7]at ec
   cases ec
   rw[qAC]at edr
   subst edr
   refine .inl ⟨ys,q _ H' (s.trans hE.base) ⟨?_,λ_=>⟨p,rfl,s.free hp,?_⟩⟩⟩
   ·show Rp (Offs (lim fx env σ (if zfp done=true then[]else bs++capA fr env)) H') (.list done) (.ref p)
    have nl:∀cs,¬lim fx env σ cs p:=λcs z=>by
     obtain⟨o,eo⟩:=(h.up s).lims _ p z
     rw[hp]at eo;cases eo
    refine zfo (by rw[Offs.get (nl _)];exact ep) ?_
    split
    ·rename_i f;exact zjk f rd
    ·exact Rps.same (Offs.sub λb z=>.inl ((hA' b).mp z)) _ rd
   ·show zhp (Offs (λb=>lim fx env σ (if zfp done=true then[]else bs++capA fr env) b\/b=p) H') H' p (.list done)
    refine⟨vs,ep,?_⟩
    split
    ·rename_i f;exact zjk f rd
    ·exact Rps.same (Offs.sub λb z=>z.imp (hA' b).mp id) _ rd
 ·cases hr
section
variable{X:Cx}{K:qC}
theorem zaja(hK:X.K=K){a:Expr}{ta:TE}(ha:PE X a ta)(he:∀whole,isTrue a X.env whole=(do let v <- whole;standAt a.pos;holding [v] (truthy v))) :
  PT X a (λσ H Q=>ta σ H λx H'=>∃k,TruV K x H' k/\Q k H'):=by subst hK;exact zaly ha he
theorem zkb(hK:X.K=K):CallR X (.type "tuple") (λxs H Q=>∃p ys,xs=[.ref p]/\((SqL K H p ys/\∀l,H l=none->Q (.ref l) (upd H l (.tup ys)))\/(SqT K H p ys/\Q (.ref p) H))):=by subst hK;exact zwx
theorem zoe(hK:X.K=K)(hu:X.A.units+64<cLine):OpR X (compareOp .Eq) (λx y H Q=>rEq x y H Q\/rEqD K false x y H Q):=by subst hK;exact zaxx.or (zavf hu)
theorem zll(hK:X.K=K)(hu:X.A.units+64<cLine):OpR X (compareOp .NotEq) (λx y H Q=>rNe x y H Q\/rEqD K true x y H Q):=by subst hK;exact zaxy.or (zavg hu)
noncomputable def zcf:TF:=λ_=>some true
theorem zfq:ST tAll zcf:=by
 intro fx H0 env σ H hE b hb Q q
 cases hb
 exact q H (Same.refl _)
end
end L2
namespace PySem
open Sem (wp)
end PySem
namespace L2
open PySem PySem.Spec PyProof.Rows
noncomputable def zdd(i:Nat)(b:EF):EF:=λenv=>match env[i]? with
 | some (.pl (.dict kvs))=>(b env).bind λy=>(keyD y.d).bind λk=>(zmu kvs k).bind λd=>some ⟨d,false,[]⟩
 | some (.ac (.dict kvs))=>(b env).bind λy=>(keyD y.d).bind λk=>(zmu kvs k).bind λd=>some ⟨d,false,[]⟩
 | _=>none
theorem zkc{i:Nat}{ty:TE}{fb:EF}(hb:SE ty fb):SE (tDGet (tVar i) ty) (zdd i fb):=by
 intro fx H0 env σ H h rr hr Q q
 unfold zdd at hr
 have key:∀(a:Addr)(ps:List (Key×V))(kvs:List (PyData×PyData)),σ[i]?=some (some (.ref a))->H a=some (.dK ps)->Rpd (Offs (λb=>fx b\/own env σ b) H) kvs ps->((fb env).bind λy=>(keyD y.d).bind λk=>(zmu kvs k).bind λd=>some (⟨d,false,[]⟩:Val))=some rr->tDGet (tVar i) ty σ H Q:=by
  intro a ps kvs hs ha r hr
  obtain⟨y,ey,hr⟩:=qA.mp hr
  obtain⟨k,ek,hr⟩:=qA.mp hr
  obtain⟨d,ed,hr⟩:=qA.mp hr
  cases hr
  refine⟨_,hs,hb fx H0 env σ H h _ ey _ λu H2 s2 v2=>?_⟩
  have g:=(Rpd.same (Offs.grow s2) _ r).get (j:=k)
  rw[ed]at g
  obtain⟨w,e1,e2⟩:=g
  rw[zamu v2.rp ek]
  have dg:=DGet.k (k:=k) (s2 _ _ ha)
  rw[e1]at dg
  exact⟨a,w,rfl,dg,q w H2 s2 ⟨Rp.same (Offs.sub zsh) _ e2,λz=>by cases z⟩⟩
 split at hr
 ·rename_i kvs ei
  obtain⟨v,h1,h2⟩:=h.pl i _ ei
  obtain⟨a,ps,rfl,ha,r⟩:=zpe h2
  exact key a ps kvs h1 (zdm ha) r hr
 ·rename_i kvs ei
  obtain⟨a,h1,h2,h3,ps,ha,r⟩:=h.ac i _ ei
  exact key a ps kvs h1 ha r hr
 ·cases hr
noncomputable def eIxV(i:Nat)(b:EF):EF:=λenv=>match env[i]? with
 | some (.ac (.list ds))=>(b env).bind λy=>match y.d with
  | .int k=>(atI ds k).map λd=>⟨d,false,[]⟩
  | _=>none
 | _=>eOp ixD (eVar i) b env
theorem zde{K:qC}{i:Nat}{tb:TE}{fb:EF}(hb:SE tb fb):SE (tOp (rIxU K) (tVar i) tb) (eIxV i fb):=by
 intro fx H0 env σ H h rr hr Q q
 unfold eIxV at hr
 split at hr
 ·rename_i ds ei
  obtain⟨⟨dy,fy,bys⟩,ey,hr⟩:=qA.mp hr
  cases dy with
  | int k=>
   obtain⟨d,ed,rfl⟩:=qG.mp hr
   obtain⟨a,h1,h2,h3,xs,ha,r⟩:=h.ac i _ ei
   refine⟨_,h1,hb fx H0 env σ H h _ ey _ λu H2 s2 v2=>?_⟩
   cases zef v2.rp
   obtain⟨v,hv,rv⟩:=(Rps.same (Offs.grow s2) _ r).atI ed
   exact⟨xs,v,.inl (SqL.of (s2 _ _ ha)),hv,q _ H2 s2 ⟨Rp.same (Offs.sub zsh) _ rv,λz=>by cases z⟩⟩
  | _=>cases hr
 ·exact zbw zoa (zaa i) hb fx H0 env σ H h rr hr Q q
noncomputable def zaew(wi:TI)(g:TG)(tt:TT)(tm:TM):TM:=λσ H Q=>wi σ H λJ H1=>zamm J g tt tm σ H1 Q
section
variable{X:Cx}
theorem zacq{M:Model}{P:Program}{w:World}{A:Around}{R:Result->Shared->Prop}{s:Shared}{elt:Expr}{g0:Comprehension}{target iter:Expr}{ifs:List Expr}{rest:List Comprehension}{scope:Scope}{cpos:Pos}{it acc:Value}{env:Env}
  (l:codeAny (model P w) A (.compLoop (.ListComp elt (g0::⟨target,iter,ifs,0⟩::rest) scope cpos) 1 it acc env) R s)
  (t:∀(A:Around) (E:Value->Shared->Prop),wpAny (model P w) A (pyIter it) (λu s'=>u=it/\s'=s) E s) :
  codeAny (model P w) A (.compStart (.ListComp elt (g0::⟨target,iter,ifs,0⟩::rest) scope cpos) 1 it acc env) R s:=by
 refine codeAny_of_tree ?_
 show wpAny _ _ ((compStart (.ListComp elt (g0::⟨target,iter,ifs,0⟩::rest) scope cpos) 1 it acc env).onRaise (λx=>do noteFrame x env;standAt theWindowsPlace)) _ _ s
 refine wpAny_notedAt ?_
 unfold compStart
 show wpAny _ _ (ask >>=_) _ _ s
 refine qD (wpAny_askSetting (wpAny_ite ?_))
 split
 ·first
   | exact qD (qJ (qJ (And.intro rfl l)))
   | exact qJ (And.intro rfl l)
 ·refine qD (qCV ?_)
  first
   | exact qD (qBI (qD (thn (t _ _) λu s' z=>by obtain⟨e1,e2⟩:=z;subst e1;subst e2;exact qJ (And.intro rfl l))))
   | (show wpAny _ _ (standAt iter.pos >>=_) _ _ s;exact qD (qBI (qD (thn (t _ _) λu s' z=>by obtain⟨e1,e2⟩:=z;subst e1;subst e2;exact qJ (And.intro rfl l)))))
theorem zaex{elt0:Expr}{g0:Comprehension}{scope:Scope}{cpos:Pos}{target iter:Expr}{ifs:List Expr}{wi:TI}{g:TG}{tt:TT}{te:TE}{p:Addr}
  (hx:X.xe=λ_ _=>False)(hc:X.calm=true)(hi:PI X target iter wi)(hg:PG X target g)(ht:PF X ifs tt)(he:PE X elt0 te)
  (hs:∀x,foldedSetIterable iter X.env x=pure x) :
  PM X (do
   let x <- eval iter X.env
   standAt iter.pos
   let x <- foldedSetIterable iter X.env x
   let _ <- runOwn (.compStart (.ListComp elt0 [g0,⟨target,iter,ifs,0⟩] scope cpos) 1 (<- holding [x] (pyIter x)) (.ref p) X.env) X.env) (zaew wi g tt (zacd p te)):=by
 intro pins s σ H Q I h
 refine qD (thn (hi pins s σ H _ I h) λv s1 h1=>?_)
 refine qD (qBI ?_)
 rw[hs]
 refine qD (qJ (qD (qBS (thn h1 λitv s2 h2=>?_))))
 obtain⟨it,fp,tn,J,H2,e,I2,T,st2,f2,q⟩:=h2
 subst e
 refine qD (thn (wpAny_runOwn (h:=none) (Q:=λ_ s'=>∃σ' H',Inv X pins σ' H' s'/\Q σ' H') ?_) λ_ _ z=>qJ z)
 refine zacq (M:=model X.prog X.w) ?_ λA E=>T.self A 0 s2 _ E st2 ⟨rfl,rfl⟩
 refine qBe (zse (X:=X) (pins:=pins) hx hc (elt0:=elt0) (gens:=[g0,⟨target,iter,ifs,0⟩]) (depth:=1) (ip:=iter.pos) (emit:=(do let _ <- call (.builtin "list.append") [.ref p,<- eval elt0 X.env])) rfl T hg ht (zace he) I2 st2 f2 q) λr s5 hr=>?_
 obtain⟨rfl,z⟩:=hr
 exact z
theorem zavp(elt target iter target2 iter2:Expr)(ifs ifs2:List Expr)(scope:Scope)(cpos:Pos)(it acc:Value)(env:Env) :
  compTurn (.ListComp elt [⟨target,iter,ifs,0⟩,⟨target2,iter2,ifs2,0⟩] scope cpos) 0 it acc env=(do
   standAt iter.pos
   match <- pyNext it with
   | none=>pure (.done .next)
   | some v=>
    letOwnedTupleGo target it v
    assign target env v
    let mut ok:=true
    for c in ifs do
     if ok then ok <- isTrue c env (eval c env)
    if ok then do
     let x <- eval iter2 env
     standAt iter2.pos
     let x <- foldedSetIterable iter2 env x
     let i <- holding [x] (pyIter x)
     let _ <- runOwn (.compStart (.ListComp elt [⟨target,iter,ifs,0⟩,⟨target2,iter2,ifs2,0⟩] scope cpos) 1 i acc env) env
     again (.compLoop (.ListComp elt [⟨target,iter,ifs,0⟩,⟨target2,iter2,ifs2,0⟩] scope cpos) 0 it acc env)
    else again (.compLoop (.ListComp elt [⟨target,iter,ifs,0⟩,⟨target2,iter2,ifs2,0⟩] scope cpos) 0 it acc env)):=rfl
noncomputable def tComp2(wi:TI)(g:TG)(tt:TT)(wi2:TI)(g2:TG)(tt2:TT)(te:TE)(own:List Str)(fr:List Nat):TE:=zamn wi g tt (λp=>zaew wi2 g2 tt2 (zacd p te)) own fr
theorem zamz{scope:Scope}{N' own:List Str}{fr:List Nat}{elt target iter target2 iter2:Expr}{ifs ifs2:List Expr}{cpos:Pos}{wi wi2:TI}{g g2:TG}{tt tt2:TT}{te:TE}(c:CompOk X scope N' own fr)(hc:X.calm=true)(hi:PI X target iter wi)
  (hb:∀(cl:List (Str×Addr)) (C:Addr) (s:Shared) (H:Hp) (fp:List Addr),PG (cxComp X scope N' own cl C s H fp) target g/\PF (cxComp X scope N' own cl C s H fp) ifs tt/\PI (cxComp X scope N' own cl C s H fp) target2 iter2 wi2/\PG (cxComp X scope N' own cl C s H fp) target2 g2/\PF (cxComp X scope N' own cl C s H fp) ifs2 tt2/\PE (cxComp X scope N' own cl C s H fp) elt te)
  (hs:∀x,foldedSetIterable iter X.env x=pure x:=by intro _;rfl)(hs2:∀env x,foldedSetIterable iter2 env x=pure x:=by intro _ _;rfl) :
  PE X (.ListComp elt [⟨target,iter,ifs,0⟩,⟨target2,iter2,ifs2,0⟩] scope cpos) (tComp2 wi g tt wi2 g2 tt2 te own fr):=
 zaep (emit:=λacc env=>do
   let x <- eval iter2 env
   standAt iter2.pos
   let x <- foldedSetIterable iter2 env x
   let _ <- runOwn (.compStart (.ListComp elt [⟨target,iter,ifs,0⟩,⟨target2,iter2,ifs2,0⟩] scope cpos) 1 (<- holding [x] (pyIter x)) acc env) env) c hc (λit acc env=>by
   rw[zavp]
   refine bind_congr λ_=>bind_congr λr=>?_
   cases r with
   | none=>rfl
   | some v=>
    refine bind_congr λ_=>bind_congr λ_=>bind_congr λok=>?_
    cases ok with
    | false=>rfl
    | true=>simp only[if_true,bind_assoc,pure_bind]) hi
  (λcl C s H fp p=>let⟨h1,h2,h3,h4,h5,h6⟩:=hb cl C s H fp;⟨h1,h2,zaex (X:=cxComp X scope N' own cl C s H fp) rfl hc h3 h4 h5 h6 (λx=>hs2 _ x)⟩) hs
end
noncomputable def NoAc(env:DEnv):Prop:=∀(i:Nat)(d:PyData),env[i]?≠some (.ac d)
noncomputable def GZ(lo hi:Nat)(g:GT):Prop:=∀d env e1,g d env=some e1->e1.length=env.length/\(∀i,(i<lo\/hi<=i)->e1[i]?=env[i]?)/\(NoAc env->NoAc e1)
theorem zana{env:DEnv}{i:Nat}{d:PyData}(h:NoAc env):NoAc (env.set i (.pl d)):=by
 intro j d' e
 by_cases q:i=j
 ·subst q
  by_cases l:i<env.length
  ·rw[qAJ l]at e;cases e
  ·rw[qB1 (by simp;omega)]at e;cases e
 ·rw[qV q]at e;exact h j d' e
theorem zxj{lo hi i:Nat}(h:lo<=i)(h':i<hi):GZ lo hi (gN i):=by
 intro d env e1 e
 cases e
 exact⟨qAI,λj hj=>qV (by omega),zana⟩
theorem zss{g:GT}{t:TF}{e:EF}{env:DEnv}:∀{ds rs:List PyData},zdx g t e env ds=some rs->rs.length<=ds.length
 | [],rs,h=>by cases h;exact qK _
 | d::ds,rs,h=>by
  unfold zdx at h
  obtain⟨e1,_,h⟩:=qA.mp h
  obtain⟨b,_,h⟩:=qA.mp h
  split at h
  ·obtain⟨r,_,h⟩:=qA.mp h
   obtain⟨rs',h',rfl⟩:=qG.mp h
   have:=zss h'
   simp;omega
  ·have:=zss h
   simp;omega
noncomputable def innL(f2:IF')(g2:GT)(t2:TF)(e:EF)(e1:DEnv):Option (List PyData):=(f2 e1).bind λz=>if z.1.length<300 then zdx g2 t2 e e1 z.1 else none
noncomputable def zkm(g:GT)(t:TF)(f2:IF')(g2:GT)(t2:TF)(e:EF)(env:DEnv):List PyData->Option (List PyData)
 | []=>some []
 | d::ds=>(g d env).bind λe1=>(t e1).bind λb=>if b=true then(innL f2 g2 t2 e e1).bind λr1=>(zkm g t f2 g2 t2 e env ds).map λrs=>r1++rs else zkm g t f2 g2 t2 e env ds
noncomputable def zst(own:List Str)(fr:List Nat)(fi:IF')(g:GT)(t:TF)(f2:IF')(g2:GT)(t2:TF)(e:EF):EF:=λenv=>(fi env).bind λz=>if z.1.length<300 then
 (zkm g t f2 g2 t2 e (envB own fr env) z.1).map λrs=>⟨.list rs,true,if zfp rs=true then[]else z.2++capA fr env⟩else none
theorem zanb{wi2:TI}{g2:TG}{tt2:TT}{te:TE}{f2:IF'}{gf2:GT}{t2:TF}{e:EF}{B:Addr->Prop}{H1:Hp}{e1:DEnv}{σ:St}{H:Hp}{p:Addr}{vs:List V}{done rest ds:List PyData}{bs:List Nat}{Q:St->Hp->Prop}{k n:Nat}
  (h5:SI wi2 f2)(h6:SG g2 gf2)(hy:GZ k n gf2)(h7:ST tt2 t2)(h4:SE te e)(na:NoAc e1)(no:∀(i:Nat) (d:PyData),k<=i->i<n->e1[i]?≠some (.pl d))
  (hB:B p)(hp:H1 p=none)(hE:EnvOk B H1 e1 σ H)(ep:H p=some (.lst vs))(rd:Rps (Offs B H) done vs)(ei:f2 e1=some (ds,bs))(dl:done.length+ds.length<100000)(ec:zdx gf2 t2 e e1 ds=some rest)
  (q:∀σ' H' vs',H' p=some (.lst vs')->Rps (Offs B H') (done++rest) vs'->EnvOk B H1 e1 σ' H'->Q σ' H'):zaew wi2 g2 tt2 (zacd p te) σ H Q:=by
 refine h5 B H1 e1 σ H hE ds bs ei _ λJ H4 s4 yl=>?_
 have hE4:=hE.up s4
 have n4:Offs (λb=>b=p) H4 p=none:=Offs.out rfl
 refine⟨λi m σ' H'=>m=ds.length - i/\i<=ds.length/\∃vs done' rest',H' p=some (.lst vs)/\Rps (Offs B H') done' vs/\done'.length<=done.length+i/\zdx gf2 t2 e e1 (ds.drop i)=some rest'/\done'++rest'=done++rest/\EnvOk B (Offs (λb=>b=p) H4) e1 σ' H',
  ⟨ds.length,rfl,qAr _,vs,done,rest,s4 _ _ ep,Rps.same (Offs.grow s4) _ rd,qK _,ec,rfl,⟨hE4.len,hE4.pl,λi d z=>absurd z (na i d),hE4.inj,Offs.same _ _,hE4.fxs⟩⟩,?_⟩
 rintro i m σ' H' ⟨rfl,hi,vs,done',rest',ep',rd',dl',ec',edr,hE'⟩
 obtain⟨yi,ys⟩:=yl B H' hE'.fxs λb o z=>by
  obtain⟨z1,z2⟩:=Offs.of z
  have hb:¬B b:=λy=>z1 (.inl y)
  rw[Offs.get hb]
  exact hE'.base b o (by rw[Offs.get λy=>hb (by rw[y];exact hB)];exact z2)
 by_cases hlt:i<ds.length
 ·obtain⟨yg,yy⟩:=yi i ds[i] (qS hlt)
  refine .inr ⟨yg,λσ'' H''=>i+1<=ds.length/\∃vs done' rest',H'' p=some (.lst vs)/\Rps (Offs B H'') done' vs/\done'.length<=done.length+(i+1)/\zdx gf2 t2 e e1 (ds.drop (i+1))=some rest'/\done'++rest'=done++rest/\EnvOk B (Offs (λb=>b=p) H4) e1 σ'' H'',?_,?_⟩
  ·rintro σ'' H'' ⟨hle,hh⟩
   exact⟨ds.length - (i+1),by omega,rfl,hle,hh⟩
  ·intro x H'' hyx
   obtain⟨sy,ry⟩:=yy x H'' hyx
   rw[qAa hlt]at ec'
   obtain⟨e2,ee2,ec'⟩:=qA.mp ec'
   obtain⟨b,eb,ec'⟩:=qA.mp ec'
   have ry':Rp (Offs (λa=>B a\/L2.own e1 σ' a) H'') ds[i] x:=Rp.same (Offs.sub λb z=>z.elim (λy=>y) λ⟨j,d',z,_⟩=>absurd z (na _ _)) _ ry
   refine h6 _ _ e1 σ' H'' _ x (hE'.up sy) ry' e2 ee2 _ λσ2 hE2=>?_
   refine h7 _ _ e2 σ2 H'' hE2 b eb _ λH3 s3=>?_
   have hE3:=hE2.up s3
   obtain⟨gl,gk,_⟩:=hy _ _ _ ee2
   have back:∀{H4':Hp},EnvOk B (Offs (λb=>b=p) H4) e2 σ2 H4'->EnvOk B (Offs (λb=>b=p) H4) e1 σ2 H4':=λ{H4'} hh=>hh.weaken gl.symm (λj d' ej=>by
    by_cases hj:j<k\/n<=j
    ·rw[gk j hj];exact ej
    ·exact absurd ej (no j d' (by omega) (by omega))) na
   cases b with
   | false=>
    have ec':zdx gf2 t2 e e1 (ds.drop (i+1))=some rest':=ec'
    exact iteF ⟨hlt,vs,done',rest',s3 _ _ (sy _ _ ep'),Rps.same (Offs.grow (sy.trans s3)) _ rd',qBW dl',ec',edr,back hE3⟩
   | true=>
    have ec':((e e2).bind λr=>(zdx gf2 t2 e e1 (ds.drop (i+1))).map λrs=>r.d::rs)=some rest':=ec'
    obtain⟨r,er,ec'⟩:=qA.mp ec'
    obtain⟨rest2,er',rfl⟩:=qG.mp ec'
    refine iteT (h4 _ _ e2 σ2 H3 hE3 r er _ λv H5 s5 hv=>?_)
    have t5:=(sy.trans s3).trans s5
    refine⟨vs,t5 _ _ ep',zpi (by rw[<- rd'.length];omega),hlt,vs++[v],done'++[r.d],rest2,zau,?_,by rw[qH];simp;omega,er',by rw[<- edr];simp,(back (hE3.up s5)).updFx hB n4⟩
    rw[Offs.upd hB]
    refine(Rps.same (Offs.grow t5) _ rd').append (zew (Rp.same (Offs.sub λb z=>.inl z) _ hv.rp) zeb)
 ·have hi':i=ds.length:=by omega
  subst hi'
  rw[qA7]at ec'
  cases ec'
  rw[qAC]at edr
  subst edr
  exact .inl ⟨ys,q σ' H' vs ep' rd' ⟨hE'.len,hE'.pl,λi d z=>absurd z (na i d),hE'.inj,λb o z=>hE'.base b o (by rw[Offs.get λy=>by rw[y,hp]at z;cases z];exact s4 b o (hE.base b o z)),hE'.fxs⟩⟩
theorem zanc{own:List Str}{fr:List Nat}{env:DEnv}{i:Nat}(h:i<own.length):(envB own fr env)[i]?=some .no:=by
 unfold envB
 rw[qAO (by simpa using h),qr,qS h];rfl
theorem zaey{own:List Str}{fr:List Nat}{wi wi2:TI}{g g2:TG}{tt tt2:TT}{te:TE}{fi f2:IF'}{gf gf2:GT}{t t2:TF}{e:EF}{k:Nat}(h1:SI wi fi)(h2:SG g gf)(hx:GZ 0 k gf)(hk:k<=own.length)(h3:ST tt t)
  (h5:SI wi2 f2)(h6:SG g2 gf2)(hy:GZ k own.length gf2)(h7:ST tt2 t2)(h4:SE te e) :
  SE (tComp2 wi g tt wi2 g2 tt2 te own fr) (zst own fr fi gf t f2 gf2 t2 e):=by
 intro fx H0 env σ H h rr hr Q q
 unfold zst at hr
 obtain⟨⟨ds,bs⟩,ei,hr⟩:=qA.mp hr
 split at hr
 ·rename_i hlen
  have hlen:ds.length<300:=hlen
  obtain⟨rs,ers,rfl⟩:=qG.mp hr
  refine h1 fx H0 env σ H h ds bs ei _ λJ H1 s yl=>λp hp=>?_
  have hB:=zsr h s hp own fr bs
  generalize hA:(λb=>lim fx env σ (bs++capA fr env) b)=A
  have hA':∀b,lim fx env σ (bs++capA fr env) b↔A b:=λb=>by rw[<- hA]
  have eA:(λb=>lim fx env σ (bs++capA fr env) b\/b=p)=λb=>A b\/b=p:=by rw[<- hA]
  rw[eA]at hB
  have seen:∀{σ':St}{H':Hp},EnvOk (λb=>A b\/b=p) H1 (envB own fr env) σ' H'->Same (Offs (λb=>fx b\/L2.own (frzs env bs) σ b) H1) (Offs (λb=>A b\/b=p) H'):=λ{σ' H'} hE=>Offs.mono hE.base λb o eo n z=>by
   rcases z with z|z
   ·rcases(hA' b).mpr z with z|⟨i,d,z1,z2,z3⟩
    ·exact n (.inl z)
    ·exact n (.inr ⟨i,d,zix (λy=>z1 (qAG _ y)) z2,z3⟩)
   ·rw[z,hp]at eo;cases eo
  refine⟨λi m σ' H'=>m=ds.length - i/\i<=ds.length/\∃vs done rest,H' p=some (.lst vs)/\Rps (Offs (λb=>A b\/b=p) H') done vs/\done.length<=i * 300/\zkm gf t f2 gf2 t2 e (envB own fr env) (ds.drop i)=some rest/\done++rest=rs/\EnvOk (λb=>A b\/b=p) H1 (envB own fr env) σ' H',
   ⟨ds.length,rfl,qAr _,[],[],rs,zau,zeb,qAr _,ers,rfl,hB⟩,?_⟩
  rintro i m σ' H' ⟨rfl,hi,vs,done,rest,ep,rd,dl,ec,edr,hE⟩
  obtain⟨yi,ys⟩:=yl _ H' hE.fxs (seen hE)
  by_cases hlt:i<ds.length
  ·obtain⟨yg,yy⟩:=yi i ds[i] (qS hlt)
   refine .inr ⟨yg,λσ'' H''=>i+1<=ds.length/\∃vs done rest,H'' p=some (.lst vs)/\Rps (Offs (λb=>A b\/b=p) H'') done vs/\done.length<=(i+1) * 300/\zkm gf t f2 gf2 t2 e (envB own fr env) (ds.drop (i+1))=some rest/\done++rest=rs/\EnvOk (λb=>A b\/b=p) H1 (envB own fr env) σ'' H'',?_,?_⟩
   ·rintro σ'' H'' ⟨hle,hh⟩
    exact⟨ds.length - (i+1),by omega,rfl,hle,hh⟩
   ·intro x H'' hyx
    obtain⟨sy,ry⟩:=yy x H'' hyx
    rw[qAa hlt]at ec
    obtain⟨e1,ee1,ec⟩:=qA.mp ec
    obtain⟨b,eb,ec⟩:=qA.mp ec
    have ry':Rp (Offs (λa=>(A a\/a=p)\/L2.own (envB own fr env) σ' a) H'') ds[i] x:=Rp.same (Offs.sub λb z=>z.elim (λy=>y) λ⟨j,d',z,_⟩=>absurd z zio) _ ry
    refine h2 _ H1 (envB own fr env) σ' H'' _ x (hE.up sy) ry' e1 ee1 _ λσ2 hE2=>?_
    refine h3 _ H1 e1 σ2 H'' hE2 b eb _ λH3 s3=>?_
    have hE3:=hE2.up s3
    obtain⟨gl,gk,gn⟩:=hx _ _ _ ee1
    have na:NoAc e1:=gn λ_ _=>zio
    have back:∀{σ4:St}{H4:Hp},EnvOk (λb=>A b\/b=p) H1 e1 σ4 H4->EnvOk (λb=>A b\/b=p) H1 (envB own fr env) σ4 H4:=λ{σ4 H4} hh=>hh.weaken gl.symm (λj d' ej=>by
     by_cases hj:own.length<=j
     ·rw[gk j (.inr (by omega))];exact ej
     ·obtain⟨_,k,rfl,_⟩:=zrt ej;omega) λj d'=>zio
    cases b with
    | false=>
     have ec:zkm gf t f2 gf2 t2 e (envB own fr env) (ds.drop (i+1))=some rest:=ec
     exact iteF ⟨hlt,vs,done,rest,s3 _ _ (sy _ _ ep),Rps.same (Offs.grow (sy.trans s3)) _ rd,by omega,ec,edr,back hE3⟩
    | true=>
     have ec:((innL f2 gf2 t2 e e1).bind λr1=>(zkm gf t f2 gf2 t2 e (envB own fr env) (ds.drop (i+1))).map λrs=>r1++rs)=some rest:=ec
     obtain⟨r1,er,ec⟩:=qA.mp ec
     obtain⟨rest',er',rfl⟩:=qG.mp ec
     obtain⟨⟨ds2,bs2⟩,e2,er⟩:=qA.mp er
     split at er
     ·rename_i hl2
      have hl2:ds2.length<300:=hl2
      have l2:=zss er
      refine iteT (zanb (B:=λb=>A b\/b=p) (p:=p) (vs:=vs) (done:=done) h5 h6 hy h7 h4 na (λj d' h8 h9 ej=>?_) (.inr rfl) hp hE3 (s3 _ _ (sy _ _ ep)) (Rps.same (Offs.grow (sy.trans s3)) _ rd) e2 (by omega) er λσ5 H5 vs5 ep5 rd5 hE5=>?_)
      ·rw[gk j (.inr h8),zanc h9]at ej;cases ej
      ·have l2':r1.length<=ds2.length:=l2
       exact⟨hlt,vs5,done++r1,rest',ep5,rd5,by rw[qH];omega,er',by rw[<- edr,qBF],back hE5⟩
     ·cases er
  ·have hi':i=ds.length:=by omega
   subst hi'
   rw[qA7]at ec
   cases ec
   rw[qAC]at edr
   subst edr
   refine .inl ⟨ys,q _ H' (s.trans hE.base) ⟨?_,λ_=>⟨p,rfl,s.free hp,?_⟩⟩⟩
   ·show Rp (Offs (lim fx env σ (if zfp done=true then[]else bs++capA fr env)) H') (.list done) (.ref p)
    have nl:∀cs,¬lim fx env σ cs p:=λcs z=>by
     obtain⟨o,eo⟩:=(h.up s).lims _ p z
     rw[hp]at eo;cases eo
    refine zfo (by rw[Offs.get (nl _)];exact ep) ?_
    split
    ·rename_i f;exact zjk f rd
    ·exact Rps.same (Offs.sub λb z=>.inl ((hA' b).mp z)) _ rd
   ·show zhp (Offs (λb=>lim fx env σ (if zfp done=true then[]else bs++capA fr env) b\/b=p) H') H' p (.list done)
    refine⟨vs,ep,?_⟩
    split
    ·rename_i f;exact zjk f rd
    ·exact Rps.same (Offs.sub λb z=>z.imp (hA' b).mp id) _ rd
 ·cases hr
end L2
namespace PySem
open Sem (wp)
end PySem
namespace L2
open PySem PySem.Spec PyProof.Rows
instance memKey (k:Key) (l:List Key):Decidable (k∈l):=decidable_of_iff (∃x,x∈l/\x=k) ⟨λ⟨x,h,e⟩=>e▸h,λh=>⟨k,h,rfl⟩⟩
end L2
namespace PySem
open Sem (wp)
noncomputable def SqIt(b:Bool)(h:Heap)(it l:Addr)(i:Nat):Prop:=match b with
 | true=>h.IsListIter it l i
 | false=>h.IsTupleIter it l i
noncomputable def zgg(b:Bool)(h:Heap)(l:Addr)(xs:Array Value):Prop:=match b with
 | true=>h.IsList l xs
 | false=>h.IsTuple l xs
theorem SqIt.moved{b:Bool}{h h':Heap}{it l:Addr}{i:Nat}(x:SqIt b h it l i)(e:∀o,h.get? it=some o->h'.get? it=some o):SqIt b h' it l i:=by
 cases b with
 | true=>obtain⟨o,q,r⟩:=x;exact⟨o,e o q,r⟩
 | false=>obtain⟨o,q,r⟩:=x;exact⟨o,e o q,r⟩
theorem zgg.moved{b:Bool}{h h':Heap}{l:Addr}{xs:Array Value}(x:zgg b h l xs)(e:∀o,h.get? l=some o->h'.get? l=some o):zgg b h' l xs:=by
 cases b with
 | true=>obtain⟨o,q,r⟩:=x;exact⟨o,e o q,r⟩
 | false=>obtain⟨o,q,r⟩:=x;exact⟨o,e o q,r⟩
theorem SqIt.at{b:Bool}{h h':Heap}{it l:Addr}{i:Nat}(x:SqIt b h it l i)(e:∀o,h.get? it=some o->h'.get? it=some o):SqIt b h' it l i:=x.moved e
theorem SqIt.extBut{b:Bool}{h h':Heap}{it l c:Addr}{i:Nat}(x:SqIt b h it l i)(s:Heap.ExtBut c h h')(n:it≠c):SqIt b h' it l i:=x.moved λo e=>s _ o n e
theorem zgg.extBut{b:Bool}{h h':Heap}{l c:Addr}{xs:Array Value}(x:zgg b h l xs)(s:Heap.ExtBut c h h')(n:l≠c):zgg b h' l xs:=x.moved λo e=>s _ o n e
theorem SqIt.obj{b:Bool}{h:Heap}{it l:Addr}{i:Nat}(x:SqIt b h it l i):∃o,h.get? it=some o/\∀v,o.data≠.cell v:=by
 cases b with
 | true=>obtain⟨o,q,_,r⟩:=x;exact⟨o,q,λv z=>by rw[r]at z;cases z⟩
 | false=>obtain⟨o,q,_,r⟩:=x;exact⟨o,q,λv z=>by rw[r]at z;cases z⟩
section
variable{prog:Program}{w:World}{A:Around}{E:Value->Shared->Prop}{s:Shared}
theorem zxk{it l:Addr}{i:Nat}{items}{x:Value}{Q:Value->Shared->Prop}(hit:s.heap.IsTupleIter it l i)
  (hl:s.heap.IsTuple l items)(hx:items[i]?=some x)
  (hQ:∀h',h'.IsTupleIter it l (i+1)->Heap.SameBut it s.heap h'->Q x {s with heap:=h'}) :
  wpAny (model prog w) A (qAD (.ref it)) Q E s:=by
 obtain⟨o,ho,hc,hd⟩:=id hit
 obtain⟨ol,hol,_,nl,hdl⟩:=hl
 unfold qAD
 refine qD (qAj (name:=Str.ofString "__next__") hit.typeIs qBH
  (qBC qBH hit.typeIs qCh ?_ (qCc _)))
 show wpAny _ _ (field (.ref it) 0 >>=_) _ _ s
 refine qD (qAS ho hd (x:=.ref l) rfl ?_)
 show wpAny _ _ (if(Value.ref l==Value.none)=true then _ else _) _ _ s
 rw[if_neg (show ¬((Value.ref l==Value.none)=true)from qR)]
 show wpAny _ _ (field (.ref it) 1 >>=_) _ _ s
 refine qD (qAS ho hd (x:=.int i 0) rfl ?_)
 show wpAny _ _ (seqItems? (.ref l) >>=_) _ _ s
 refine qD (qBD hol hdl ?_)
 simp only[qAz,hx]
 refine qD (qBL ho hd (by simp) (qJ ⟨x,rfl,qJ (hQ _ ?_ (qCT ..))⟩))
 exact⟨_,qAf _ ho (qAv (qAZ hd _)),(Obj.cls_mapFields ..).trans hc,by
  rw[qAZ hd];simp[rawInt]⟩
theorem zzp{it l:Addr}{i:Nat}{items}{Q:Value->Shared->Prop}(hh:A.handled=none)
  (hit:s.heap.IsTupleIter it l i)(hl:s.heap.IsTuple l items)(hx:items[i]?=none)
  (hE:∀h' e,Heap.ExtBut it s.heap h'->(∃o,h'.get? e=some o/\o.cls=.type "StopIteration")->E (.ref e) {s with heap:=h'}) :
  wpAny (model prog w) A (qAD (.ref it)) Q E s:=by
 obtain⟨o,ho,hc,hd⟩:=id hit
 obtain⟨ol,hol,_,nl,hdl⟩:=hl
 unfold qAD
 refine qD (qAj (name:=Str.ofString "__next__") hit.typeIs qBH
  (qBC qBH hit.typeIs qCh ?_ (qCc _)))
 show wpAny _ _ (field (.ref it) 0 >>=_) _ _ s
 refine qD (qAS ho hd (x:=.ref l) rfl ?_)
 show wpAny _ _ (if(Value.ref l==Value.none)=true then _ else _) _ _ s
 rw[if_neg (show ¬((Value.ref l==Value.none)=true)from qR)]
 show wpAny _ _ (field (.ref it) 1 >>=_) _ _ s
 refine qD (qAS ho hd (x:=.int i 0) rfl ?_)
 show wpAny _ _ (seqItems? (.ref l) >>=_) _ _ s
 refine qD (qBD hol hdl ?_)
 simp only[qAz,hx]
 refine qD (qCV (qD (qBL ho hd (by simp) ?_)))
 show wpAny _ _ (newExc (.type "StopIteration") [] >>=_) _ _ _
 refine qD ?_
 simp only[newExc,newTuple]
 refine qD (qAt ?_ (by size_fits))
 refine qD (m:=firstArgMember _ _) (wpAny_of_eq (a:=Value.none) (by first|rfl|(simp only[firstArgMember];rfl)) ?_)
 refine qAt ?_ (by size_fits)
 simp only[raiseNew]
 refine qD (wpAny_handled ?_)
 first|rw[show A.in1.handled=none from hh]|rw[hh]
 refine qD (qJ (wpAny_throw ?_))
 exact hE _ _ (((qCT ..).extBut.push _).push _) ⟨_,qb _ rfl,rfl⟩
theorem zxl{b:Bool}{it l:Addr}{i:Nat}{xs:Array Value}{x:Value}{Q:Value->Shared->Prop}(hit:SqIt b s.heap it l i)(hl:zgg b s.heap l xs)(hx:xs[i]?=some x)
  (hQ:∀h',SqIt b h' it l (i+1)->Heap.SameBut it s.heap h'->Q x {s with heap:=h'}):wpAny (model prog w) A (qAD (.ref it)) Q E s:=by
 cases b with
 | true=>exact wpAny_nextOf_list_item hit hl hx hQ
 | false=>exact zxk hit hl hx hQ
theorem zaez{b:Bool}{it l:Addr}{i:Nat}{xs:Array Value}{Q:Value->Shared->Prop}(hh:A.handled=none)(hit:SqIt b s.heap it l i)(hl:zgg b s.heap l xs)(hx:xs[i]?=none)
  (hE:∀h' e,Heap.ExtBut it s.heap h'->(∃o,h'.get? e=some o/\o.cls=.type "StopIteration")->E (.ref e) {s with heap:=h'}):wpAny (model prog w) A (qAD (.ref it)) Q E s:=by
 cases b with
 | true=>exact wpAny_nextOf_list_end hh hit hl hx hE
 | false=>exact zzp hh hit hl hx hE
theorem zago{b1 b2:Bool}{z TI TO i1 i2 l1 l2:Addr}{k1 k2:Nat}{xs ys:Array Value}{x y a b:Value}{Q:Value->Shared->Prop}(D:ZipApart z TI TO i1 i2 l1 l2)
  (hz:IsZip s.heap z TI TO .none)(hTI:IsPair s.heap TI (.ref i1) (.ref i2))(hTO:IsPair s.heap TO a b)
  (h1:SqIt b1 s.heap i1 l1 k1)(h2:SqIt b2 s.heap i2 l2 k2)(hl1:zgg b1 s.heap l1 xs)(hl2:zgg b2 s.heap l2 ys)(hx:xs[k1]?=some x)(hy:ys[k2]?=some y)
  (hQ:∀h',IsZip h' z TI TO (rawInt s.heap.objs.size)->IsPair h' TO x y->SqIt b1 h' i1 l1 (k1+1)->SqIt b2 h' i2 l2 (k2+1)->IsPair h' s.heap.objs.size x y->h'.objs.size=s.heap.objs.size+1->
   (∀c o,c≠z->c≠TO->c≠i1->c≠i2->s.heap.get? c=some o->h'.get? c=some o)->Q (.ref s.heap.objs.size) {s with heap:=h'}) :
  wpAny (model prog w) A (Builtin.«zip.__next__» ⟨[.ref z],[]⟩) (λfin s'=>∃v,fin=.done (.ret v)/\Q v s') E s:=by
 show wpAny _ _ (field (.ref z) 2 >>=_) _ _ _
 refine qD (qAS hz rfl (x:=.bool false) rfl ?_)
 show wpAny _ _ (field (.ref z) 3 >>=_) _ _ _
 refine qD (qAS hz rfl (x:=.ref TI) rfl ?_)
 refine qD (qBD hTI rfl ?_)
 show wpAny _ _ (Builtin.SmallTypes.ownedTupleIsFree (.ref z) >>=_) _ _ _
 refine qD ?_
 unfold Builtin.SmallTypes.ownedTupleIsFree
 refine qD (qAS hz rfl (x:=.none) rfl (qJ ?_))
 simp only[if_true]
 refine qD (qCV ?_)
 refine qD (qAS hz rfl (x:=.ref TO) rfl ?_)
 refine qD (qBE hz (by simp) λh₁ hz₁ hs₁=>?_)
 replace hz₁:IsZip h₁ z TI TO .ellipsis:=hz₁
 refine qD ?_
 simp only[List.zipIdx_cons,List.zipIdx_nil,qCS,List.forIn_nil]
 refine qD (qD (qB2 ?_))
 show wpAny _ _ (qAD (.ref i1) >>=_) _ _ _
 refine qD (zxl (h1.extBut hs₁.extBut D.i1z) (hl1.extBut hs₁.extBut D.l1z) hx λh₂ h1₂ hs₂=>qJ ?_)
 have hTO₂:IsPair h₂ TO a b:=hs₂.extBut _ _ D.TOi1 (hs₁.extBut _ _ D.TOz hTO)
 refine qD (qBD hTO₂ rfl ?_)
 refine qD (qCJ hTO₂ λh₃ hTO₃ hs₃=>?_)
 replace hTO₃:IsPair h₃ TO x b:=hTO₃
 refine qD (wpAny_letGo (qJ ?_))
 refine qD (qD (qB2 ?_))
 show wpAny _ _ (qAD (.ref i2) >>=_) _ _ _
 refine qD (zxl (((h2.extBut hs₁.extBut D.i2z).extBut hs₂.extBut D.i12.symm).extBut hs₃.extBut D.TOi2.symm)
  (((hl2.extBut hs₁.extBut D.l2z).extBut hs₂.extBut D.l2i1).extBut hs₃.extBut D.l2TO) hy λh₄ h2₄ hs₄=>qJ ?_)
 have hTO₄:IsPair h₄ TO x b:=hs₄.extBut _ _ D.TOi2 hTO₃
 refine qD (qBD hTO₄ rfl ?_)
 refine qD (qCJ hTO₄ λh₅ hTO₅ hs₅=>?_)
 replace hTO₅:IsPair h₅ TO x y:=hTO₅
 refine qD (wpAny_letGo (qJ (qJ ?_)))
 refine qD (qBD hTO₅ rfl ?_)
 refine qD (wpAny_newTuple ?_)
 have hsz:h₅.objs.size=s.heap.objs.size:=by rw[hs₅.1,hs₄.1,hs₃.1,hs₂.1,hs₁.1]
 have hz₅:IsZip h₅ z TI TO .ellipsis:=hs₅.extBut _ _ D.TOz.symm (hs₄.extBut _ _ D.i2z.symm (hs₃.extBut _ _ D.TOz.symm (hs₂.extBut _ _ D.i1z.symm hz₁)))
 have hk₅:∀c o,c≠z->c≠TO->c≠i1->c≠i2->s.heap.get? c=some o->h₅.get? c=some o:=λc o c1 c2 c3 c4 e=>
  hs₅.extBut _ _ c2 (hs₄.extBut _ _ c4 (hs₃.extBut _ _ c2 (hs₂.extBut _ _ c3 (hs₁.extBut _ _ c1 e))))
 have h1₅:SqIt b1 h₅ i1 l1 (k1+1):=((h1₂.extBut hs₃.extBut D.TOi1.symm).extBut hs₄.extBut D.i12).extBut hs₅.extBut D.TOi1.symm
 have h2₅:SqIt b2 h₅ i2 l2 (k2+1):=h2₄.extBut hs₅.extBut D.TOi2.symm
 have hzlt:z<h₅.objs.size:=qL hz₅
 have hTOlt:TO<h₅.objs.size:=qL hTO₅
 have hi1lt:i1<h₅.objs.size:=by obtain⟨_,e,_⟩:=h1₅.obj;exact qL e
 have hi2lt:i2<h₅.objs.size:=by obtain⟨_,e,_⟩:=h2₅.obj;exact qL e
 show wpAny _ _ (Builtin.SmallTypes.ownedTupleHandOut (.ref z) (.ref h₅.objs.size) >>=_) _ _ _
 refine qD ?_
 unfold Builtin.SmallTypes.ownedTupleHandOut
 have hz₆:IsZip (h₅.push {cls:=.type "tuple",data:=.seq #[x,y]}) z TI TO .ellipsis:=qF _ hz₅
 refine qD (qBE hz₆ (by simp) λh₇ hz₇ hs₇=>?_)
 replace hz₇:IsZip h₇ z TI TO (rawInt h₅.objs.size):=hz₇
 refine qBE hz₇ (by simp) λh₈ hz₈ hs₈=>?_
 replace hz₈:IsZip h₈ z TI TO (rawInt h₅.objs.size):=hz₈
 have up:∀c o,c≠z->h₅.get? c=some o->h₈.get? c=some o:=λc o c1 e=>hs₈.extBut _ _ c1 (hs₇.extBut _ _ c1 (qF _ e))
 have hT₈:IsPair h₈ h₅.objs.size x y:=hs₈.extBut _ _ (qBZ hzlt) (hs₇.extBut _ _ (qBZ hzlt) (qb _ rfl))
 have hz8:h₈.objs.size=h₅.objs.size+1:=by rw[hs₈.1,hs₇.1,qAp]
 rw[hsz]at hz₈ hT₈ hz8
 refine qJ ⟨_,rfl,?_⟩
 show Q (.ref h₅.objs.size) _
 rw[hsz]
 exact hQ h₈ hz₈ (up _ _ D.TOz hTO₅) (h1₅.at λo e=>up _ o D.i1z e) (h2₅.at λo e=>up _ o D.i2z e) hT₈ hz8 λc o c1 c2 c3 c4 e=>up c o c1 (hk₅ c o c1 c2 c3 c4 e)
theorem zajb{b1 b2:Bool}{z TI TO i1 i2 l1 l2:Addr}{k1 k2:Nat}{xs ys:Array Value}{a b:Value}{Q:Fin->Shared->Prop}(hh:A.handled=none)(D:ZipApart z TI TO i1 i2 l1 l2)
  (hz:IsZip s.heap z TI TO .none)(hTI:IsPair s.heap TI (.ref i1) (.ref i2))(hTO:IsPair s.heap TO a b)
  (h1:SqIt b1 s.heap i1 l1 k1)(h2:SqIt b2 s.heap i2 l2 k2)(hl1:zgg b1 s.heap l1 xs)(hl2:zgg b2 s.heap l2 ys)(hend:xs[k1]?=none\/ys[k2]?=none)
  (hE:∀h' e,(∀c o,c≠z->c≠TO->c≠i1->c≠i2->s.heap.get? c=some o->h'.get? c=some o)->(∃o,h'.get? e=some o/\o.cls=.type "StopIteration")->E (.ref e) {s with heap:=h'}) :
  wpAny (model prog w) A (Builtin.«zip.__next__» ⟨[.ref z],[]⟩) Q E s:=by
 show wpAny _ _ (field (.ref z) 2 >>=_) _ _ _
 refine qD (qAS hz rfl (x:=.bool false) rfl ?_)
 show wpAny _ _ (field (.ref z) 3 >>=_) _ _ _
 refine qD (qAS hz rfl (x:=.ref TI) rfl ?_)
 refine qD (qBD hTI rfl ?_)
 show wpAny _ _ (Builtin.SmallTypes.ownedTupleIsFree (.ref z) >>=_) _ _ _
 refine qD ?_
 unfold Builtin.SmallTypes.ownedTupleIsFree
 refine qD (qAS hz rfl (x:=.none) rfl (qJ ?_))
 simp only[if_true]
 refine qD (qCV ?_)
 refine qD (qAS hz rfl (x:=.ref TO) rfl ?_)
 refine qD (qBE hz (by simp) λh₁ hz₁ hs₁=>?_)
 replace hz₁:IsZip h₁ z TI TO .ellipsis:=hz₁
 refine qD ?_
 simp only[List.zipIdx_cons,List.zipIdx_nil,qCS,List.forIn_nil]
 refine qD (qD (qB2 ?_))
 show wpAny _ _ (qAD (.ref i1) >>=_) _ _ _
 cases hx:xs[k1]? with
 | none=>
  refine qD (zaez hh (h1.extBut hs₁.extBut D.i1z) (hl1.extBut hs₁.extBut D.l1z) hx λh₂ e hs₂ he=>?_)
  obtain⟨oe,hoe,hce⟩:=he
  have hz₂:IsZip h₂ z TI TO .ellipsis:=hs₂ _ _ D.i1z.symm hz₁
  have hez:e≠z:=λx=>by subst x;rw[hz₂]at hoe;cases hoe;simp at hce
  refine qBE hz₂ (by simp) λh₃ _ hs₃=>hE h₃ e (λc o c1 _ c3 _ x=>hs₃.extBut _ _ c1 (hs₂ _ _ c3 (hs₁.extBut _ _ c1 x))) ⟨oe,hs₃.extBut _ _ hez hoe,hce⟩
 | some x=>
  have hy:ys[k2]?=none:=by rcases hend with h|h;rw[hx]at h;cases h;exact h
  refine qD (zxl (h1.extBut hs₁.extBut D.i1z) (hl1.extBut hs₁.extBut D.l1z) hx λh₂ h1₂ hs₂=>qJ ?_)
  have hTO₂:IsPair h₂ TO a b:=hs₂.extBut _ _ D.TOi1 (hs₁.extBut _ _ D.TOz hTO)
  refine qD (qBD hTO₂ rfl ?_)
  refine qD (qCJ hTO₂ λh₃ hTO₃ hs₃=>?_)
  refine qD (wpAny_letGo (qJ ?_))
  refine qD (qD (qB2 ?_))
  show wpAny _ _ (qAD (.ref i2) >>=_) _ _ _
  refine qD (zaez hh (((h2.extBut hs₁.extBut D.i2z).extBut hs₂.extBut D.i12.symm).extBut hs₃.extBut D.TOi2.symm)
   (((hl2.extBut hs₁.extBut D.l2z).extBut hs₂.extBut D.l2i1).extBut hs₃.extBut D.l2TO) hy λh₄ e hs₄ he=>?_)
  obtain⟨oe,hoe,hce⟩:=he
  have hz₄:IsZip h₄ z TI TO .ellipsis:=hs₄ _ _ D.i2z.symm (hs₃.extBut _ _ D.TOz.symm (hs₂.extBut _ _ D.i1z.symm hz₁))
  have hez:e≠z:=λx=>by subst x;rw[hz₄]at hoe;cases hoe;simp at hce
  refine qBE hz₄ (by simp) λh₅ _ hs₅=>hE h₅ e (λc o c1 c2 c3 c4 x=>hs₅.extBut _ _ c1 (hs₄ _ _ c4 (hs₃.extBut _ _ c2 (hs₂.extBut _ _ c3 (hs₁.extBut _ _ c1 x))))) ⟨oe,hs₅.extBut _ _ hez hoe,hce⟩
structure ZipAt(b1 b2:Bool)(h:Heap)(z TI TO i1 i2 l1 l2:Addr)(f0:Value)(k:Nat):Prop where
 z:IsZip h z TI TO f0
 ti:IsPair h TI (.ref i1) (.ref i2)
 to:∃a b,IsPair h TO a b
 i1:SqIt b1 h i1 l1 k
 i2:SqIt b2 h i2 l2 k
theorem zajc{b1 b2:Bool}{z TI TO i1 i2 l1 l2:Addr}{k:Nat}{xs ys:Array Value}{x y:Value}{Q:Value->Shared->Prop}(D:ZipApart z TI TO i1 i2 l1 l2)
  (hz:ZipAt b1 b2 s.heap z TI TO i1 i2 l1 l2 .none k)(hl1:zgg b1 s.heap l1 xs)(hl2:zgg b2 s.heap l2 ys)(hx:xs[k]?=some x)(hy:ys[k]?=some y)
  (hQ:∀h',ZipAt b1 b2 h' z TI TO i1 i2 l1 l2 (rawInt s.heap.objs.size) (k+1)->IsPair h' s.heap.objs.size x y->
   (∀c o,c≠z->c≠TO->c≠i1->c≠i2->s.heap.get? c=some o->h'.get? c=some o)->Q (.ref s.heap.objs.size) {s with heap:=h'}) :
  wpAny (model prog w) A (Builtin.«zip.__next__» ⟨[.ref z],[]⟩) (λfin s'=>∃v,fin=.done (.ret v)/\Q v s') E s:=by
 obtain⟨p1,p2,⟨a,b,p3⟩,p4,p5⟩:=hz
 exact zago D p1 p2 p3 p4 p5 hl1 hl2 hx hy λh' q1 q2 q3 q4 q5 _ q7=>hQ h' ⟨q1,q7 _ _ D.TIz D.TITO D.TIi1 D.TIi2 p2,⟨x,y,q2⟩,q3,q4⟩ q5 q7
theorem zand{b1 b2:Bool}{z TI TO i1 i2 l1 l2:Addr}{k:Nat}{xs ys:Array Value}{Q:Fin->Shared->Prop}(hh:A.handled=none)(D:ZipApart z TI TO i1 i2 l1 l2)
  (hz:ZipAt b1 b2 s.heap z TI TO i1 i2 l1 l2 .none k)(hl1:zgg b1 s.heap l1 xs)(hl2:zgg b2 s.heap l2 ys)(hend:xs[k]?=none\/ys[k]?=none)
  (hE:∀h' e,(∀c o,c≠z->c≠TO->c≠i1->c≠i2->s.heap.get? c=some o->h'.get? c=some o)->(∃o,h'.get? e=some o/\o.cls=.type "StopIteration")->E (.ref e) {s with heap:=h'}) :
  wpAny (model prog w) A (Builtin.«zip.__next__» ⟨[.ref z],[]⟩) Q E s:=by
 obtain⟨p1,p2,⟨a,b,p3⟩,p4,p5⟩:=hz
 exact zajb hh D p1 p2 p3 p4 p5 hl1 hl2 hend hE
end
end PySem
namespace L2
open PySem PySem.Spec PyProof.Rows
noncomputable def SqX(b:Bool)(K:qC)(H:Hp)(a:Addr)(xs:List V):Prop:=match b with
 | true=>SqL K H a xs
 | false=>SqT K H a xs
section
variable{X:Cx}{pins:List (Addr×Obj)}{σ:St}{H:Hp}{s:Shared}
theorem Inv.sq{b:Bool}{a:Addr}{xs:List V}(I:Inv X pins σ H s)(h:SqX b X.K H a xs):∃its:List Value,Vals xs its/\zgg b s.heap a its.toArray/\xs.length<=qX:=by
 cases b with
 | true=>obtain⟨its,r,p,z⟩:=I.list h;exact⟨its,r,p.isList,z⟩
 | false=>obtain⟨its,r,p,z⟩:=I.tuple h;exact⟨its,r,(show s.heap.IsTuple a its.toArray from p),z⟩
theorem Inv.sq_inj{b:Bool}{a:Addr}{xs ys:List V}(I:Inv X pins σ H s)(h:SqX b X.K H a xs)(h':SqX b X.K H a ys):xs=ys:=by
 cases b with
 | true=>exact I.list_inj h h'
 | false=>exact I.tuple_inj h h'
end
noncomputable def Itz(K:qC)(b1:Bool)(a1:Addr)(b2:Bool)(a2:Addr):It:=
 ⟨λi H=>∃xs ys x y,SqX b1 K H a1 xs/\SqX b2 K H a2 ys/\xs[i]?=some x/\ys[i]?=some y,
  λi H v H'=>∃p x y,v=.ref p/\H p=none/\H'=upd H p (.tup [x,y])/\(∀xs,SqX b1 K H a1 xs->xs[i]?=some x)/\∀ys,SqX b2 K H a2 ys->ys[i]?=some y,
  λi H=>∃xs ys,SqX b1 K H a1 xs/\SqX b2 K H a2 ys/\(xs.length<=i\/ys.length<=i)⟩
theorem zane{P:Program}{w:World}{K:qC}{elts:List Expr}{x1}{tpos:Pos}{b1 b2:Bool}{z TI TO i1 i2 l1 l2:Addr}(D:ZipApart z TI TO i1 i2 l1 l2) :
  Turn P w K (.Tuple elts x1 tpos) (Itz K b1 l1 b2 l2) [z,TI,TO,i1,i2] z (λi h=>ZipAt b1 b2 h z TI TO i1 i2 l1 l2 .none i) where
 mem:=by simp
 obj:=λi h st b hb=>by
  obtain⟨a,c,hto⟩:=st.to
  simp only[qc,qA5,or_false]at hb
  rcases hb with rfl|rfl|rfl|rfl|rfl
  ·exact⟨_,st.z,λv q=>by simp at q⟩
  ·exact⟨_,st.ti,λv q=>by simp at q⟩
  ·exact⟨_,hto,λv q=>by simp at q⟩
  ·exact st.i1.obj
  ·exact st.i2.obj
 keep:=λi h h' st k=>by
  obtain⟨a,c,hto⟩:=st.to
  exact⟨k z (by simp) _ st.z,k TI (by simp) _ st.ti,⟨a,c,k TO (by simp) _ hto⟩,st.i1.moved λo q=>k i1 (by simp) o q,st.i2.moved λo q=>k i2 (by simp) o q⟩
 item:=by
  intro X hP hw hK hc i pins s σ H E I hf st hg
  subst hP hw hK
  obtain⟨xs,ys,x,y,q1,q2,hx,hy⟩:=hg
  obtain⟨its1,rv1,p1,_⟩:=I.sq q1
  obtain⟨its2,rv2,p2,_⟩:=I.sq q2
  obtain⟨u1,hu1,ru1⟩:=rv1.get hx
  obtain⟨u2,hu2,ru2⟩:=rv2.get hy
  have hT:s.TypeIs (.ref z) "zip":=⟨_,st.z,rfl⟩
  unfold pyNext
  refine qD (wpAny_attempt (qAj (name:=Str.ofString "__next__") hT qB9 (qBC qB9 hT F.entry_zip_next
   (zajc D st p1 p2 (x:=u1) (y:=u2) (by simpa using hu1) (by simpa using hu2) λh1 zt tp kp=>qJ ?_) (F.args_zip_next_1 _))))
  refine⟨_,rfl,wpAny_letOwnedTupleGo_zip (s:={s with heap:=h1}) zt.z λh2 z2 sb2=>?_⟩
  have hp:H s.heap.objs.size=none:=I.hok.fresh (qK _)
  have fz:=hf z (by simp)
  have fO:=hf TO (by simp)
  have f1:=hf i1 (by simp)
  have f2:=hf i2 (by simp)
  have lt:∀b∈[z,TI,TO,i1,i2],b≠s.heap.objs.size:=λb hb=>by
   obtain⟨a,c,hto⟩:=st.to
   simp only[qc,qA5,or_false]at hb
   rcases hb with rfl|rfl|rfl|rfl|rfl
   ·exact qu (qL st.z)
   ·exact qu (qL st.ti)
   ·exact qu (qL hto)
   ·obtain⟨o,q,_⟩:=st.i1.obj;exact qu (qL q)
   ·obtain⟨o,q,_⟩:=st.i2.obj;exact qu (qL q)
  have k2:∀b o,b≠z->b≠TO->b≠i1->b≠i2->s.heap.get? b=some o->h2.get? b=some o:=λb o e1 e2 e3 e4 q=>(sb2.2 b e1).trans (kp b o e1 e2 e3 e4 q)
  have t2:IsPair h2 s.heap.objs.size u1 u2:=(sb2.2 _ (qAl (lt z (by simp)))).trans tp
  have nch:∀b,b∉[z,TO,i1,i2]->b≠z/\b≠TO/\b≠i1/\b≠i2:=λb hb=>⟨λq=>hb (by simp[q]),λq=>hb (by simp[q]),λq=>hb (by simp[q]),λq=>hb (by simp[q])⟩
  have k3:∀b o,b∉[z,TO,i1,i2]->s.heap.get? b=some o->h2.get? b=some o:=λb o hb q=>let⟨e1,e2,e3,e4⟩:=nch b hb;k2 b o e1 e2 e3 e4 q
  have nH:∀c v,H c=some v->c∉[z,TO,i1,i2]:=λc v q hc=>by
   have:H c=none:=by
    simp only[qc,qA5,or_false]at hc
    rcases hc with rfl|rfl|rfl|rfl
    ·exact fz.1
    ·exact fO.1
    ·exact f1.1
    ·exact f2.1
   rw[this]at q;cases q
  refine⟨.ref s.heap.objs.size,upd H s.heap.objs.size (.tup [x,y]),?_,rfl,⟨_,x,y,rfl,hp,rfl,λzs q=>by rw[I.sq_inj q q1];exact hx,λzs q=>by rw[I.sq_inj q q2];exact hy⟩,?_,λb hb=>by rw[zav (lt b hb)];exact(hf b hb).1⟩
  ·refine Inv.step (s:=s) (h':=h2) (g':=s.gens) (d':=s.drawn) (t':=s.toks) (ch:=[z,TO,i1,i2]) I (λb hb=>?_) (λb o _ _ hc q _=>k3 b o hc q) (λb o _ _ hc q _=>⟨o.slots,k3 b o hc q⟩)
    (λb o _ q n=>by rw[zav (qu (qL q))];exact n) (λb o hc q=>⟨o,k3 b o hc q⟩)
    (λb xs q=>by rw[zav (zbs q hp)];exact q) (λb o v q=>by rw[zav (zbs q hp)];exact q) (λb ps q=>⟨#[],by rw[zav (zbs q hp),q];simp⟩) (λm hm=>?_) (λb v q=>?_) I.bare
   ·have:=hf b (by
     simp only[qc,qA5,or_false]at hb ⊢
     rcases hb with rfl|rfl|rfl|rfl<;>simp)
    exact⟨this.2.2.2.1,this.2.1,this.2.2.2.2.1,this.2.2.2.2.2⟩
   ·obtain⟨o,es,ep,ho,r⟩:=hm
    exact⟨o,es,ep,k2 _ o (qAl fz.2.1) (qAl fO.2.1) (qAl f1.2.1) (qAl f2.2.1) ho,r⟩
   ·by_cases hb:b=s.heap.objs.size
    ·subst hb
     rw[zau]at q
     cases q
     exact⟨by show 2<=qX;decide,[u1,u2],.cons ru1 (.cons ru2 .nil),_,t2,rfl,_,rfl⟩
    ·rw[zav hb]at q
     refine(I.hok b v q).stay (λc w' hc r=>?_) (λc r=>by rw[zav (zbs r hp)];exact r) λc ys r=>by rw[zav (zbs r hp)];exact r
     rcases hc with rfl|hc
     ·exact k3 c w' (nH c v q) r
     ·exact k3 c w' (nH c _ hc) r
  ·obtain⟨a,c,hto⟩:=zt.to
   exact⟨z2,(sb2.2 _ D.TIz).trans zt.ti,⟨a,c,(sb2.2 _ D.TOz).trans hto⟩,zt.i1.moved λo q=>(sb2.2 _ D.i1z).trans q,zt.i2.moved λo q=>(sb2.2 _ D.i2z).trans q⟩
 done:=by
  intro X hP hw hK hc i pins s σ H E I hf st hg
  subst hP hw hK
  obtain⟨xs,ys,q1,q2,hle⟩:=hg
  obtain⟨its1,rv1,p1,_⟩:=I.sq q1
  obtain⟨its2,rv2,p2,_⟩:=I.sq q2
  have l1':=rv1.length
  have l2':=rv2.length
  have hT:s.TypeIs (.ref z) "zip":=⟨_,st.z,rfl⟩
  unfold pyNext
  refine qD (wpAny_attempt (qAj (name:=Str.ofString "__next__") hT qB9 (qBC qB9 hT F.entry_zip_next
   (zand (by exact I.ok.hd hc) D st p1 p2 (by rcases hle with q|q;exact .inl (by simp;omega);exact .inr (by simp;omega)) λh' e kp he=>?_) (F.args_zip_next_1 _))))
  obtain⟨o,ho,hcl⟩:=he
  refine qD (wpAny_isInstance (T:="StopIteration") (b:=true) ⟨o,ho,hcl⟩ isSubtype_stop (qJ ⟨rfl,?_⟩))
  have fz:=hf z (by simp)
  have fO:=hf TO (by simp)
  have f1:=hf i1 (by simp)
  have f2:=hf i2 (by simp)
  have nch:∀b,b∉[z,TO,i1,i2]->b≠z/\b≠TO/\b≠i1/\b≠i2:=λb hb=>⟨λq=>hb (by simp[q]),λq=>hb (by simp[q]),λq=>hb (by simp[q]),λq=>hb (by simp[q])⟩
  have k3:∀b o,b∉[z,TO,i1,i2]->s.heap.get? b=some o->h'.get? b=some o:=λb o hb q=>let⟨e1,e2,e3,e4⟩:=nch b hb;kp b o e1 e2 e3 e4 q
  have nH:∀c v,H c=some v->c∉[z,TO,i1,i2]:=λc v q hc=>by
   have:H c=none:=by
    simp only[qc,qA5,or_false]at hc
    rcases hc with rfl|rfl|rfl|rfl
    ·exact fz.1
    ·exact fO.1
    ·exact f1.1
    ·exact f2.1
   rw[this]at q;cases q
  refine Inv.step (s:=s) (h':=h') (g':=s.gens) (d':=s.drawn) (t':=s.toks) (ch:=[z,TO,i1,i2]) I (λb hb=>?_) (λb o _ _ hc q _=>k3 b o hc q) (λb o _ _ hc q _=>⟨o.slots,k3 b o hc q⟩)
    (λb o _ q n=>n) (λb o hc q=>⟨o,k3 b o hc q⟩) (λb xs q=>q) (λb o v q=>q) (λb ps q=>⟨#[],by rw[q];simp⟩) (λm hm=>?_) (λb v q=>?_) I.bare
  ·have:=hf b (by
     simp only[qc,qA5,or_false]at hb ⊢
     rcases hb with rfl|rfl|rfl|rfl<;>simp)
   exact⟨this.2.2.2.1,this.2.1,this.2.2.2.2.1,this.2.2.2.2.2⟩
  ·obtain⟨o,es,ep,ho,r⟩:=hm
   exact⟨o,es,ep,kp _ o (qAl fz.2.1) (qAl fO.2.1) (qAl f1.2.1) (qAl f2.2.1) ho,r⟩
  ·refine(I.hok b v q).stay (λc w' hc r=>?_) (λc r=>r) λc ys r=>r
   rcases hc with rfl|hc
   ·exact k3 c w' (nH c v q) r
   ·exact k3 c w' (nH c _ hc) r
 self:=λ_ _ _ _ _ st h=>wpAny_pyIter_zip st.z h
end L2
namespace PySem
open Sem (wp)
noncomputable def itO(b:Bool)(l:Addr):Obj:=match b with
 | true=>{cls:=.type "list_iterator",data:=.fields #[.ref l,.int 0 0]}
 | false=>{cls:=.type "tuple_iterator",data:=.fields #[.ref l,.int 0 0]}
noncomputable def zx1(b1:Bool)(h:Heap)(l1:Addr):Heap:=h.push (itO b1 l1)
noncomputable def zx2(b1 b2:Bool)(h:Heap)(l1 l2:Addr):Heap:=(zx1 b1 h l1).push (itO b2 l2)
noncomputable def zx3(b1 b2:Bool)(h:Heap)(l1 l2:Addr):Heap:=(zx2 b1 b2 h l1 l2).push {cls:=.type "tuple",data:=.seq #[.ref h.objs.size,.ref (zx1 b1 h l1).objs.size]}
noncomputable def zx4(b1 b2:Bool)(h:Heap)(l1 l2:Addr):Heap:=(zx3 b1 b2 h l1 l2).push {cls:=.type "tuple",data:=.seq #[.none,.none]}
noncomputable def zx5(b1 b2:Bool)(h:Heap)(l1 l2:Addr):Heap:=(zx4 b1 b2 h l1 l2).push {cls:=.type "zip",data:=.fields #[.none,.bool false,.bool false,.ref (zx2 b1 b2 h l1 l2).objs.size,.ref (zx3 b1 b2 h l1 l2).objs.size]}
theorem zagp(b1 b2:Bool)(l1 l2:Addr)(xs ys:Array Value) :
  Meets (Builtin.«zip.__new__» ⟨[.type "zip",.ref l1,.ref l2],[]⟩) (λ_ R s=>zgg b1 s.heap l1 xs/\zgg b2 s.heap l2 ys/\R (.ok (.ret (.ref (zx4 b1 b2 s.heap l1 l2).objs.size))) {s with heap:=zx5 b1 b2 s.heap l1 l2}):=
 .of_wp λprog w A R s h=>by
  obtain⟨hp,g,d,tk,os⟩:=s;obtain⟨h1,h2,h⟩:=h
  have hsub:=sub_zip
  cases b1 with
  | true=>
   have e1:Heap.IsList (Shared.heap ⟨hp,g,d,tk,os⟩) l1 xs:=h1
   cases b2 with
   | true=>
    have e2:Heap.IsList (Shared.heap ⟨hp.push {cls:=.type "list_iterator",data:=.fields #[.ref l1,.int 0 0]},g,d,tk,os⟩) l2 ys:=qCk h2 _
    wp_walk using qA3 e1,qA3 e2
    exact⟨_,rfl,h⟩
   | false=>
    have e2:Heap.IsTuple (Shared.heap ⟨hp.push {cls:=.type "list_iterator",data:=.fields #[.ref l1,.int 0 0]},g,d,tk,os⟩) l2 ys:=qCb h2 _
    wp_walk using qA3 e1,qAo e2
    exact⟨_,rfl,h⟩
  | false=>
   have e1:Heap.IsTuple (Shared.heap ⟨hp,g,d,tk,os⟩) l1 xs:=h1
   cases b2 with
   | true=>
    have e2:Heap.IsList (Shared.heap ⟨hp.push {cls:=.type "tuple_iterator",data:=.fields #[.ref l1,.int 0 0]},g,d,tk,os⟩) l2 ys:=qCk h2 _
    wp_walk using qAo e1,qA3 e2
    exact⟨_,rfl,h⟩
   | false=>
    have e2:Heap.IsTuple (Shared.heap ⟨hp.push {cls:=.type "tuple_iterator",data:=.fields #[.ref l1,.int 0 0]},g,d,tk,os⟩) l2 ys:=qCb h2 _
    wp_walk using qAo e1,qAo e2
    exact⟨_,rfl,h⟩
theorem zxm{b:Bool}{h:Heap}{a l:Addr}(e:h.get? a=some (itO b l)):SqIt b h a l 0:=by
 cases b with
 | true=>exact⟨_,e,rfl,rfl⟩
 | false=>exact⟨_,e,rfl,rfl⟩
theorem zajd{prog:Program}{w:World}{A:Around}{E:Value->Shared->Prop}{s:Shared}{b1 b2:Bool}{l1 l2:Addr}{xs ys:Array Value}{Q:Value->Shared->Prop}(h1:zgg b1 s.heap l1 xs)(h2:zgg b2 s.heap l2 ys)
  (h:∀h',ZipAt b1 b2 h' (s.heap.objs.size+4) (s.heap.objs.size+2) (s.heap.objs.size+3) s.heap.objs.size (s.heap.objs.size+1) l1 l2 .none 0->(∀c o,s.heap.get? c=some o->h'.get? c=some o)->Q (.ref (s.heap.objs.size+4)) {s with heap:=h'}) :
  wpAny (model prog w) A (call (.type "zip") [.ref l1,.ref l2]) Q E s:=by
 refine callType_new F.called_zip (by decide) (F.typeCall_zip_2 _ _) (F.newCall_zip_2 _ _) (λobj=>F.args_object_init_3 obj _ _) F.entry_zip_new (zagp b1 b2 l1 l2 xs ys) ⟨h1,h2,?_⟩
 have z1:(zx1 b1 s.heap l1).objs.size=s.heap.objs.size+1:=qAp ..
 have z2:(zx2 b1 b2 s.heap l1 l2).objs.size=s.heap.objs.size+2:=by unfold zx2;rw[qAp,z1]
 have z3:(zx3 b1 b2 s.heap l1 l2).objs.size=s.heap.objs.size+3:=by unfold zx3;rw[qAp,z2]
 have z4:(zx4 b1 b2 s.heap l1 l2).objs.size=s.heap.objs.size+4:=by unfold zx4;rw[qAp,z3]
 have fr:∀o:Obj,(zx5 b1 b2 s.heap l1 l2).get? (zx4 b1 b2 s.heap l1 l2).objs.size=some {cls:=.type "zip",dict:=none,data:=.fields #[.none,.bool false,.bool false,.ref (zx2 b1 b2 s.heap l1 l2).objs.size,.ref (zx3 b1 b2 s.heap l1 l2).objs.size],slots:=#[]}:=λ_=>qb _ rfl
 have g5:=fr {cls:=.none,data:=.seq #[]}
 have g4:(zx5 b1 b2 s.heap l1 l2).get? (zx3 b1 b2 s.heap l1 l2).objs.size=some {cls:=.type "tuple",data:=.seq #[.none,.none]}:=qF _ (qb _ rfl)
 have g3:(zx5 b1 b2 s.heap l1 l2).get? (zx2 b1 b2 s.heap l1 l2).objs.size=some {cls:=.type "tuple",data:=.seq #[.ref s.heap.objs.size,.ref (zx1 b1 s.heap l1).objs.size]}:=qF _ (qF _ (qb _ rfl))
 have g2:(zx5 b1 b2 s.heap l1 l2).get? (zx1 b1 s.heap l1).objs.size=some (itO b2 l2):=qF _ (qF _ (qF _ (qb _ (by cases b2<;>rfl))))
 have g1:(zx5 b1 b2 s.heap l1 l2).get? s.heap.objs.size=some (itO b1 l1):=qF _ (qF _ (qF _ (qF _ (qb _ (by cases b1<;>rfl)))))
 show _/\_
 rw[z2,z3,z4]at g5
 rw[z1,z2]at g3
 rw[z3]at g4
 rw[z1]at g2
 rw[z4]
 exact⟨⟨_,g5,rfl⟩,h _ ⟨g5,g3,⟨_,_,g4⟩,zxm g1,zxm g2⟩ λc o q=>qF _ (qF _ (qF _ (qF _ (qF _ q))))⟩
end PySem
namespace L2
open PySem PySem.Spec PyProof.Rows
theorem zavq:bootBuiltins "zip"=some (.type "zip"):=by decide +kernel
noncomputable def iZip(K:qC)(ta:TA):TI:=λσ H R=>ta σ H λvs H1=>∃b1 b2 a1 a2,vs=[.ref a1,.ref a2]/\(∃xs,SqX b1 K H1 a1 xs)/\(∃ys,SqX b2 K H1 a2 ys)/\R (Itz K b1 a1 b2 a2) H1
theorem zgg.there{b:Bool}{h:Heap}{l:Addr}{xs:Array Value}(x:zgg b h l xs):l<h.objs.size:=by
 cases b with
 | true=>obtain⟨o,q,_⟩:=x;exact qL q
 | false=>obtain⟨o,q,_⟩:=x;exact qL q
theorem zaje{n l1 l2:Nat}(h1:l1<n)(h2:l2<n):ZipApart (n+4) (n+2) (n+3) n (n+1) l1 l2:=by
 constructor<;>first|exact qu (by omega)|exact qBZ (by omega)
theorem zavr{X:Cx}{K:qC}(hK:X.K=K){a b:Expr}{ta:TA}{p pos:Pos}{elts:List Expr}{x1}{tpos:Pos}(hg:Gl X "zip")(hm:X.mg "zip"=none)(ha:PA X [a,b] ta)(hs:starEach [a,b] X.env=(false,eval a X.env)::starEach [b] X.env:=by rfl)(hs2:(backTo pos (starEach [b] X.env)).any (·.1)=false:=by rfl) :
  PI X (.Tuple elts x1 tpos) (.Call (.Name "zip" p) [a,b] [] pos) (iZip K ta):=by
 subst hK
 intro pins s σ H R I h
 refine Call_ (zry I hg hm zavq (callWith_type1 (thn (ha pos pins s σ H _ I h) λus s1 ⟨vs,H1,I1,r1,q1⟩=>?_) hs hs2))
 obtain⟨b1,b2,l1,l2,rfl,⟨xs,e1⟩,⟨ys,e2⟩,q⟩:=q1
 obtain⟨u1,u2,rfl,ru1,ru2⟩:=zabz r1
 cases ru1
 cases ru2
 obtain⟨its1,rv1,p1,_⟩:=I1.sq e1
 obtain⟨its2,rv2,p2,_⟩:=I1.sq e2
 have t1:=zgg.there p1
 have t2:=zgg.there p2
 refine zajd p1 p2 λh' zt hk=>wpAny_pyIter_zip zt.z ?_
 have I2:Inv X pins σ H1 {s1 with heap:=h'}:=I1.kept (t':=s1.toks) hk
 have D:=zaje t1 t2
 refine⟨s1.heap.objs.size+4,[s1.heap.objs.size+4,s1.heap.objs.size+2,s1.heap.objs.size+3,s1.heap.objs.size,s1.heap.objs.size+1],_,_,H1,rfl,I2,zane D,zt,λc hc=>?_,q⟩
 have hge:s1.heap.objs.size<=c:=by
  simp only[qc,qA5,or_false]at hc
  rcases hc with rfl|rfl|rfl|rfl|rfl
  ·exact qBz _ _
  ·exact qBz _ _
  ·exact qBz _ _
  ·exact qK _
  ·exact qBz _ _
 exact I1.fpOk hge (I1.hok.fresh hge)
noncomputable def zpn(f:AF):IF':=λenv=>(f env).bind λrs=>match rs with
 | [r,t]=>(zhi r.d).bind λds=>(zhi t.d).map λes=>(List.zipWith (λd e=>.tuple [d,e]) ds es,r.bs++t.bs)
 | _=>none
theorem zajf{K:qC}{A:Addr->Prop}{H:Hp}{d:PyData}{ds:List PyData}{v:V}(h:Rp (Offs A H) d v)(e:zhi d=some ds):∃(b:Bool)(a:Addr)(xs:List V),v=.ref a/\Rps (Offs A H) ds xs/\∀(B:Addr->Prop)(H':Hp),Same (Offs A H) (Offs B H')->SqX b K H' a xs:=by
 cases d with
 | list es=>
  cases e
  obtain⟨a,xs,rfl,ha,r⟩:=zfe h
  exact⟨true,a,xs,rfl,r,λB H' s=>SqL.of (zdm (s _ _ ha))⟩
 | tuple es=>
  cases e
  obtain⟨a,xs,rfl,ha,r⟩:=zdc h
  exact⟨false,a,xs,rfl,r,λB H' s=>SqT.of (zdm (s _ _ ha))⟩
 | _=>cases e
theorem zanf{ds es:List PyData}{i:Nat}{d:PyData}(h:(List.zipWith (λd e=>PyData.tuple [d,e]) ds es)[i]?=some d):∃a b,ds[i]?=some a/\es[i]?=some b/\d=.tuple [a,b]:=by
 rw[List.getElem?_zipWith]at h
 cases e1:ds[i]? with
 | none=>rw[e1]at h;cases h
 | some a=>
  cases e2:es[i]? with
  | none=>rw[e1,e2]at h;cases h
  | some b=>rw[e1,e2]at h;cases h;exact⟨a,b,rfl,rfl,rfl⟩
theorem zzq{K:qC}{ta:TA}{f:AF}(h1:SA ta f):SI (iZip K ta) (zpn f):=by
 intro fx H0 env σ H h ds bs e R q
 unfold zpn at e
 obtain⟨rs,er,e⟩:=qA.mp e
 split at e
 ·rename_i r t
  obtain⟨d1,ed1,e⟩:=qA.mp e
  obtain⟨d2,ed2,e⟩:=qG.mp e
  cases e
  refine h1 fx H0 env σ H h _ er _ λvs H1 s hv=>?_
  cases hv with
  | cons hv1 hv'=>
   cases hv' with
   | cons hv2 hv''=>
    cases hv''
    have sub1:∀b,(fx b\/own (frzs env (r.bs++t.bs)) σ b)->lim fx env σ r.bs b:=λb z=>znk (λi hi=>qAG _ hi) b (zfj b z)
    have sub2:∀b,(fx b\/own (frzs env (r.bs++t.bs)) σ b)->lim fx env σ t.bs b:=λb z=>znk (λi hi=>qk _ hi) b (zfj b z)
    obtain⟨b1,a1,xs,rfl,r1,e1⟩:=zajf (K:=K) (Rp.same (Offs.sub sub1) _ hv1.rp) ed1
    obtain⟨b2,a2,ys,rfl,r2,e2⟩:=zajf (K:=K) (Rp.same (Offs.sub sub2) _ hv2.rp) ed2
    refine⟨b1,b2,a1,a2,rfl,⟨xs,e1 _ H1 (Same.refl _)⟩,⟨ys,e2 _ H1 (Same.refl _)⟩,q _ H1 s ?_⟩
    intro A H' hA ss
    have q1:=e1 A H' ss
    have q2:=e2 A H' ss
    have r1':=Rps.same ss _ r1
    have r2':=Rps.same ss _ r2
    refine⟨λi d e=>?_,⟨xs,ys,q1,q2,?_⟩⟩
    ·obtain⟨c1,c2,ec1,ec2,rfl⟩:=zanf e
     obtain⟨v1,g1,rv1⟩:=r1'.get2 ec1
     obtain⟨v2,g2,rv2⟩:=r2'.get2 ec2
     refine⟨⟨xs,ys,v1,v2,q1,q2,g1,g2⟩,λx H'' y=>?_⟩
     obtain⟨p,x',y',rfl,hp,rfl,y1,y2⟩:=y
     have z1:=y1 xs q1
     rw[g1]at z1
     cases z1
     have z2:=y2 ys q2
     rw[g2]at z2
     cases z2
     exact⟨Same.new hp,zli hp (zej hA hp) (zew rv1 (zew rv2 zeb))⟩
    ·rw[List.length_zipWith,r1.length,r2.length]
     rcases Nat.le_total xs.length ys.length with z|z
     ·exact .inl (by rw[qB3 z];exact qK _)
     ·exact .inr (by rw[qBy z];exact qK _)
 ·cases e
noncomputable def rInS(K:qC)(neg:Bool):R2:=λx y H Q=>∃d c ds,Rep K H d x/\Rep K H c y/\zhi c=some ds/\qx d=true/\qx c=true/\Q (.bl (if neg then !(ds.any λe=>qz e d)else ds.any λe=>qz e d)) H
section
variable{X:Cx}
theorem shp{d:PyData}(h:qx d=true):d.canLay0=true/\d.depth<=64:=by
 unfold qx at h
 rw[qm]at h
 exact⟨h.1,of_decide_eq_true h.2⟩
theorem zazc{K:qC}(hK:X.K=K)(hu:X.A.units+64<cLine):OpR X (compareOp .In) (rInS K false):=by
 subst hK
 intro pins s σ H x y v u Q I rx ry h
 obtain⟨d,c,ds,hd,hc,hi,sd,sc,q⟩:=h
 obtain⟨as,r1⟩:=zfy I d hd rx
 obtain⟨bs,r2⟩:=zfy I c hc ry
 obtain⟨l1,p1⟩:=shp sd
 obtain⟨l2,p2⟩:=shp sc
 have q:EP X pins σ Q (.bool (ds.any λe=>qz e d)) s:=⟨.bl (ds.any λe=>qz e d),H,I,rfl,q⟩
 cases c with
 | list es=>
  cases hi
  have p2:qp ds+1<=64:=p2
  exact SeqAt.in_list_reads r2 r1 l2 l1 (by have:=qBh (qp ds) d.depth;omega) q
 | tuple es=>
  cases hi
  have p2:qp ds+1<=64:=p2
  exact SeqAt.in_tuple_reads r2 r1 l2 l1 (by have:=qBh (qp ds) d.depth;omega) q
 | _=>cases hi
theorem zajg{K:qC}(hK:X.K=K)(hu:X.A.units+64<cLine):OpR X (compareOp .NotIn) (rInS K true):=by
 subst hK
 intro pins s σ H x y v u Q I rx ry h
 obtain⟨d,c,ds,hd,hc,hi,sd,sc,q⟩:=h
 obtain⟨as,r1⟩:=zfy I d hd rx
 obtain⟨bs,r2⟩:=zfy I c hc ry
 obtain⟨l1,p1⟩:=shp sd
 obtain⟨l2,p2⟩:=shp sc
 have q:EP X pins σ Q (.bool (!(ds.any λe=>qz e d))) s:=⟨.bl (!(ds.any λe=>qz e d)),H,I,rfl,q⟩
 cases c with
 | list es=>
  cases hi
  have p2:qp ds+1<=64:=p2
  exact SeqAt.notIn_list_reads r2 r1 l2 l1 (by have:=qBh (qp ds) d.depth;omega) q
 | tuple es=>
  cases hi
  have p2:qp ds+1<=64:=p2
  exact SeqAt.notIn_tuple_reads r2 r1 l2 l1 (by have:=qBh (qp ds) d.depth;omega) q
 | _=>cases hi
end
noncomputable def inS(neg:Bool):OF:=λd c=>match zhi c with
 | some ds=>if qx d=true/\qx c=true then some (.bool (if neg then !(ds.any λe=>qz e d)else ds.any λe=>qz e d),false)else none
 | none=>none
theorem zavs{K:qC}{neg:Bool}:SO (rInS K neg) (inS neg):=by
 intro A H x y dx dy hA rx ry d fr e Q q
 unfold inS at e
 split at e
 ·rename_i ds hi
  split at e
  ·rename_i h
   cases e
   refine⟨dx,dy,ds,zsk (qAk h.1) (Rp.same (Offs.same A H) _ rx),zsk (qAk h.2) (Rp.same (Offs.same A H) _ ry),hi,h.1,h.2,q _ H (Same.refl _) ?_ (λz=>by cases z)⟩
   cases neg<;>exact zbl
  ·cases e
 ·cases e
end L2
namespace PySem
open Sem (wp)
open AutoSeq1 (wpAny_loadPart')
theorem zang{prog:Program}{w:World}{A:Around}(hh:A.handled=none)(b:Bool)(it l:Addr)(hne:l≠it)(items:Array Value) :
  Draws prog w A it [it,l] items.size (λi v=>items[i]?=some v) (λi h=>SqIt b h it l i/\zgg b h l items) where
 live:=λ_ _ st=>let⟨o,ho,_⟩:=st.1.obj;⟨o,ho⟩
 frame:=λ_ _ _ st hk=>⟨st.1.moved λo e=>hk it (by simp) o e,st.2.moved λo e=>hk l (by simp) o e⟩
 item:=λi s Q E hi st hQ=>by
  refine zxl st.1 st.2 (x:=items[i]) (by simp[hi]) λh' hit' hs'=>?_
  exact hQ _ h' s.toks (by simp[hi]) ⟨hit',st.2.moved λo e=>hs'.extBut _ o hne e⟩ hs'
 done:=λs Q E st hE=>zaez hh st.1 st.2 (by simp) hE
theorem zrh(l:Addr)(items:Array Value)(n:Nat)(dct:Option Addr)(sl:Array (Option Value)) :
  Meets (Builtin.«enumerate.__new__» ⟨[.type "enumerate",.ref l],[]⟩) (λ_ R s=>s.heap.get? l=some {cls:=.type "tuple",dict:=dct,data:=.seq items n,slots:=sl}/\
   R (.ok (.ret (.ref (s.heap.push (itO false l)).objs.size))) {s with heap:=(s.heap.push (itO false l)).push {cls:=.type "enumerate",data:=.fields #[.none,.bool false,.ref s.heap.objs.size,rawInt 0,.none,.none]}}):=
 .of_wp λprog w A R s h=>by
  obtain⟨hp,g,d,tk,os⟩:=s;obtain⟨hl,h⟩:=h
  have hsub:=sub_enumerate
  have e1:Heap.IsTuple (Shared.heap ⟨hp,g,d,tk,os⟩) l items:=⟨_,hl,rfl,n,rfl⟩
  wp_walk using qBR hl
  refine wpAny_stack_any λst=>qJ ?_
  split
  ·rename_i c _ _ _ _ _
   cases(c==Value.type "enumerate")
   ·wp_walk using qBR hl,qAo e1
    exact⟨_,rfl,h⟩
   ·wp_walk using qBR hl,qAo e1
    exact⟨_,rfl,h⟩
  ·wp_walk using qBR hl,qAo e1
   exact⟨_,rfl,h⟩
theorem zzr{prog:Program}{w:World}{A:Around}{E:Value->Shared->Prop}{s:Shared}{b:Bool}{l:Addr}{items:Array Value}{Q:Value->Shared->Prop}(hL:zgg b s.heap l items)
  (h:∀h',IsEnum h' (s.heap.objs.size+1) s.heap.objs.size 0 .none->SqIt b h' s.heap.objs.size l 0->(∀c o,s.heap.get? c=some o->h'.get? c=some o)->Q (.ref (s.heap.objs.size+1)) {s with heap:=h'}) :
  wpAny (model prog w) A (call (.type "enumerate") [.ref l]) Q E s:=by
 cases b with
 | true=>exact call_enumerate_list hL λh' e i _ k=>h h' e i k
 | false=>
  obtain⟨⟨c,dct,dt,sl⟩,hl,hc,n,hd⟩:=hL
  replace hc:c=.type "tuple":=hc
  replace hd:dt=.seq items n:=hd
  subst hc hd
  refine callType_new F.called_enumerate (by decide) (F.typeCall_enumerate_1 _) (F.newCall_enumerate_1 _) (λobj=>F.args_object_init_2 obj _) F.entry_enumerate_new (zrh l items n dct sl) ⟨hl,?_⟩
  have hz:(s.heap.push (itO false l)).objs.size=s.heap.objs.size+1:=qAp ..
  have he:=qb (s.heap.push (itO false l)) (o:={cls:=.type "enumerate",data:=.fields #[.none,.bool false,.ref s.heap.objs.size,rawInt 0,.none,.none]}) rfl
  show _/\_
  rw[hz]at he ⊢
  exact⟨⟨_,he,rfl⟩,h _ he (zxm (b:=false) (qF _ (qb _ rfl))) λc o x=>qF _ (qF _ x)⟩
end PySem
namespace L2
open PySem PySem.Spec PyProof.Rows
noncomputable def Itx(K:qC)(b:Bool)(a:Addr):It:=
 ⟨λi H=>∃xs x,SqX b K H a xs/\xs[i]?=some x,λi H x H'=>∃p y,x=.ref p/\H p=none/\H'=upd H p (.tup [.int i,y])/\∀xs,SqX b K H a xs->xs[i]?=some y,λi H=>∃xs,SqX b K H a xs/\xs.length<=i⟩
theorem zagq{P:Program}{w:World}{K:qC}{elts:List Expr}{x1}{tpos:Pos}{b:Bool}(a e it:Addr)(hne:e≠it)(hea:e≠a)(hai:a≠it) :
  Turn P w K (.Tuple elts x1 tpos) (Itx K b a) [e,it] e (λi h=>SqIt b h it a i/\∃old,IsEnum h e it (i:Int) old) where
 mem:=by simp
 obj:=λi h st c hc=>by
  obtain⟨h1,old,h4⟩:=st
  rcases qc.mp hc with rfl|hc
  ·exact⟨_,h4,λv z=>by simp at z⟩
  ·have q:c=it:=by simpa using hc
   subst q
   exact h1.obj
 keep:=λi h h' st k=>⟨st.1.moved λo q=>k it (by simp) o q,let⟨old,q⟩:=st.2;⟨old,k e (by simp) _ q⟩⟩
 item:=by
  intro X hP hw hK hc i pins s σ H E I hf st hg
  subst hP hw hK
  obtain⟨xs,x,hq,hx⟩:=hg
  obtain⟨its,rv,p,hz⟩:=I.sq hq
  obtain⟨u,hu,ru⟩:=rv.get hx
  obtain⟨hit,old,he⟩:=st
  have fe:=hf e (by simp)
  have fi:=hf it (by simp)
  have hlt:i<its.toArray.size:=by
   obtain⟨hh,_⟩:=qa.mp hu
   simpa using hh
  refine wpAny_pyNext_enum_itemD (zang (by exact I.ok.hd hc) b it a hai its.toArray) he ⟨hit,p⟩ hlt hne (by simp[hne,hea]) λu' h1 tk pu e1 i1 t1 z1 k1=>?_
  have hu':u'=u:=by
   have pu:its.toArray[i]?=some u':=pu
   rw[List.getElem?_toArray,hu]at pu
   exact(qZ pu).symm
  subst hu'
  refine⟨_,rfl,wpAny_letOwnedTupleGo_enum (s:={s with heap:=h1,toks:=tk+1}) e1 λh2 e2 sb2=>?_⟩
  have hp:H s.heap.objs.size=none:=I.hok.fresh (qK _)
  have hes:e≠s.heap.objs.size:=qu (qL he)
  have k2:∀c o,c≠e->c≠it->s.heap.get? c=some o->h2.get? c=some o:=λc o q1 q2 q=>(sb2.2 c q1).trans (k1 c o q1 q2 q)
  have t2:h2.get? s.heap.objs.size=some {cls:=.type "tuple",data:=.seq #[.int i tk,u']}:=(sb2.2 _ (qAl hes)).trans t1
  have nch:∀c,c∉[e,it]->c≠e/\c≠it:=λc hb=>⟨λz=>hb (by simp[z]),λz=>hb (by simp[z])⟩
  refine⟨.ref s.heap.objs.size,upd H s.heap.objs.size (.tup [.int i,x]),?_,rfl,⟨_,x,rfl,hp,rfl,λys hy=>by rw[I.sq_inj hy hq];exact hx⟩,⟨?_,u',e2⟩,λc hb=>?_⟩
  ·refine Inv.step (s:=s) (h':=h2) (g':=s.gens) (d':=s.drawn) (t':=tk+1) (ch:=[e,it]) I (λc hb=>?_) (λc o _ _ hc q _=>k2 c o (nch c hc).1 (nch c hc).2 q) (λc o _ _ hc q _=>⟨o.slots,k2 c o (nch c hc).1 (nch c hc).2 q⟩)
    (λc o _ q n=>by rw[zav (qu (qL q))];exact n) (λc o hc q=>⟨o,k2 c o (nch c hc).1 (nch c hc).2 q⟩)
    (λc xs q=>by rw[zav (zbs q hp)];exact q) (λc o v q=>by rw[zav (zbs q hp)];exact q) (λc ps q=>⟨#[],by rw[zav (zbs q hp),q];simp⟩) (λm hm=>?_) (λc v q=>?_) I.bare
   ·rcases qc.mp hb with rfl|hb
    ·exact⟨fe.2.2.2.1,fe.2.1,fe.2.2.2.2.1,fe.2.2.2.2.2⟩
    ·have z:c=it:=by simpa using hb
     subst z
     exact⟨fi.2.2.2.1,fi.2.1,fi.2.2.2.2.1,fi.2.2.2.2.2⟩
   ·obtain⟨o,es,ep,ho,r⟩:=hm
    exact⟨o,es,ep,k2 _ o (qAl fe.2.1) (qAl fi.2.1) ho,r⟩
   ·by_cases hb:c=s.heap.objs.size
    ·subst hb
     rw[zau]at q
     cases q
     exact⟨by show 2<=qX;decide,[.int i tk,u'],.cons ⟨_,rfl⟩ (.cons ru .nil),_,t2,rfl,_,rfl⟩
    ·rw[zav hb]at q
     have nt:∀c w',H c=some w'->c≠e/\c≠it:=λc w' z=>⟨(λy=>by rw[y,fe.1]at z;cases z),(λy=>by rw[y,fi.1]at z;cases z)⟩
     refine(I.hok c v q).stay (λc w' hc r=>?_) (λc r=>by rw[zav (zbs r hp)];exact r) λc ys r=>by rw[zav (zbs r hp)];exact r
     rcases hc with rfl|hc
     ·exact k2 c w' (nt c v q).1 (nt c v q).2 r
     ·exact k2 c w' (nt c _ hc).1 (nt c _ hc).2 r
  ·exact i1.1.moved λo q=>(sb2.2 _ (qAl hne)).trans q
  ·rcases qc.mp hb with rfl|hb
   ·rw[zav hes];exact fe.1
   ·have z:c=it:=by simpa using hb
    subst z
    obtain⟨o,q1,_⟩:=hit.obj
    rw[zav (qu (qL q1))]
    exact fi.1
 done:=by
  intro X hP hw hK hc i pins s σ H E I hf st hg
  subst hP hw hK
  obtain⟨xs,hq,hx⟩:=hg
  obtain⟨its,rv,p,hz⟩:=I.sq hq
  obtain⟨hit,old,he⟩:=st
  obtain⟨f0,f1,f2,f3,f4,f5⟩:=hf it (by simp)
  have hl:=rv.length
  have hT:s.TypeIs (.ref e) "enumerate":=⟨_,he,rfl⟩
  unfold pyNext
  refine qD (wpAny_attempt (qAj (name:=Str.ofString "__next__") hT F.slot_enumerate_next (qBC F.slot_enumerate_next hT F.entry_enumerate_next ?_ (F.args_enumerate_next_1 _))))
  show wpAny _ _ (field (.ref e) 2 >>=_) _ _ _
  refine qD (qAS he rfl (x:=.ref it) rfl ?_)
  refine qD (zaez (by exact I.ok.hd hc) hit p (by simp;omega) λh' x he' hx'=>?_)
  obtain⟨o,ho,hcl⟩:=hx'
  refine qD (wpAny_isInstance (T:="StopIteration") (b:=true) ⟨o,ho,hcl⟩ isSubtype_stop (qJ ⟨rfl,?_⟩))
  exact I.turned (t':=s.toks) (λc o hb q=>he' c o hb q) f0 f1 f3 f4 f5
 self:=λ_ _ _ _ _ st h=>let⟨_,q⟩:=st.2;wpAny_pyIter_enum q h
noncomputable def iEnumX(K:qC)(ta:TA):TI:=λσ H R=>ta σ H λvs H1=>∃b a,vs=[.ref a]/\(∃xs,SqX b K H1 a xs)/\R (Itx K b a) H1
theorem zanh{X:Cx}{K:qC}(hK:X.K=K){a:Expr}{ta:TA}{p pos:Pos}{elts:List Expr}{x1}{tpos:Pos}(hg:Gl X "enumerate")(hm:X.mg "enumerate"=none)(ha:PA X [a] ta)(hs:starEach [a] X.env=[(false,eval a X.env)]:=by rfl) :
  PI X (.Tuple elts x1 tpos) (.Call (.Name "enumerate" p) [a] [] pos) (iEnumX K ta):=by
 subst hK
 intro pins s σ H R I h
 refine Call_ (zry I hg hm boot_enumerate (qBQ (thn (ha pos pins s σ H _ I h) λus s1 ⟨vs,H1,I1,r1,q1⟩=>?_) hs rfl))
 obtain⟨b,l,rfl,⟨xs,hq⟩,q⟩:=q1
 obtain⟨u,rfl,ru⟩:=zaby r1
 cases ru
 obtain⟨its,rv,pl,hz⟩:=I1.sq hq
 have lt:=zgg.there pl
 refine zzr pl λh' he hit hk=>wpAny_pyIter_enum he ?_
 have I2:Inv X pins σ H1 {s1 with heap:=h'}:=I1.kept (t':=s1.toks) hk
 refine⟨s1.heap.objs.size+1,[s1.heap.objs.size+1,s1.heap.objs.size],_,_,H1,rfl,I2,zagq l _ _ (Nat.succ_ne_self _) (qBZ (Nat.lt_succ_of_lt lt)) (qu lt),⟨hit,_,he⟩,λc hb=>?_,q⟩
 rcases qc.mp hb with rfl|hb
 ·exact I1.fpOk (qBX _) (I1.hok.fresh (qBX _))
 ·have e:c=s1.heap.objs.size:=by simpa using hb
  subst e
  exact I1.fpOk (qK _) (I1.hok.fresh (qK _))
noncomputable def Its(z:Str):It:=⟨λi _=>i<z.cps.size,λi H v H'=>H'=H/\∃c,z.cps[i]?=some c/\v=.str ⟨#[c]⟩,λi _=>z.cps.size<=i⟩
theorem zani{P:Program}{w:World}{K:qC}{tg:Expr}(z:Str)(it:Addr){ty:String}{t:Tok}(hty:ty="str_ascii_iterator"\/ty="str_iterator"):Turn P w K tg (Its z) [it] it (λi h=>h.IsStrIter it ty z t i) where
 mem:=by simp
 obj:=λi h st b hb=>by
  have e:b=it:=by simpa using hb
  subst e
  obtain⟨o,e,c,d⟩:=st
  exact⟨o,e,λv z=>by rw[d]at z;cases z⟩
 keep:=λi h h' st k=>let⟨o,e,c,d⟩:=st;⟨o,k it (by simp) o e,c,d⟩
 item:=by
  intro X hP hw hK hc i pins s σ H E I hf st hg
  subst hP hw hK
  obtain⟨f0,f1,f2,f3,f4,f5⟩:=hf it (by simp)
  have W:Walks X.prog X.w X.A it [it] [it] z.cps.size (SignAt z) (λi h=>h.IsStrIter it ty z t i):=by
   rcases hty with rfl|rfl
   ·exact Walks.strAscii (I.ok.hd hc) it z t
   ·exact Walks.strWide (I.ok.hd hc) it z t
  refine W.item i s _ _ hg st λv h' tk hv st' kk=>?_
  obtain⟨c,u,e,rfl⟩:=hv
  have I1:Inv X pins σ H {s with heap:=h',toks:=tk}:=I.turned (λb o hb e=>kk b o (by simpa using hb) e) f0 f1 f3 f4 f5
  obtain⟨o,eo,co,dO⟩:=id st'
  refine⟨_,rfl,zalw (s:={s with heap:=h',toks:=tk}) eo co dO (by rcases hty with rfl|rfl<;>decide) ⟨.str ⟨#[c]⟩,H,I1,⟨u,rfl⟩,⟨rfl,c,e,rfl⟩,st',λb hb=>(hf b hb).1⟩⟩
 done:=by
  intro X hP hw hK hc i pins s σ H E I hf st hg
  subst hP hw hK
  obtain⟨f0,f1,f2,f3,f4,f5⟩:=hf it (by simp)
  have hx:z.cps[i]?=none:=by
   have:z.cps.size<=i:=hg
   simp[this]
  rcases hty with rfl|rfl
  ·exact wpAny_pyNext_ascii_end (I.ok.hd hc) st hx λh' eb=>⟨rfl,I.turned (t':=s.toks) (λb o hb e=>eb b o hb e) f0 f1 f3 f4 f5⟩
  ·exact wpAny_pyNext_wide_end (I.ok.hd hc) st hx λh' eb=>⟨rfl,I.turned (t':=s.toks) (λb o hb e=>eb b o hb e) f0 f1 f3 f4 f5⟩
 self:=λ_ _ _ _ _ st h=>by
  rcases hty with rfl|rfl
  ·exact wpAny_pyIter_striter_ascii st h
  ·exact wpAny_pyIter_striter_wide st h
noncomputable def iStr(te:TE):TI:=λσ H R=>te σ H λx H1=>∃z,x=.str z/\R (Its z) H1
theorem zavt{X:Cx}{tg l:Expr}{tl:TE}(hl:PE X l tl):PI X tg l (iStr tl):=by
 intro pins s σ H R I h
 refine thn (hl pins s σ H _ I h) λv s1 ⟨x,H1,I1,r1,q1⟩=>?_
 obtain⟨z,e,q⟩:=q1
 subst e
 obtain⟨t,rfl⟩:=r1
 have fin:∀(ty:String)(o:Obj),(ty="str_ascii_iterator"\/ty="str_iterator")->(s1.heap.push o).IsStrIter s1.heap.objs.size ty z t 0->PIE X pins σ tg R (.ref s1.heap.objs.size) {s1 with heap:=s1.heap.push o}:=by
  intro ty o hty st
  refine⟨s1.heap.objs.size,[s1.heap.objs.size],_,_,H1,rfl,I1.kept (t':=s1.toks) λb o e=>qF _ e,zani z _ hty,st,λb hb=>?_,q⟩
  have e:b=s1.heap.objs.size:=by simpa using hb
  subst e
  exact I1.fpOk (qK _) (I1.hok.fresh (qK _))
 cases ha:z.cps.all (·<128)
 ·exact wpAny_pyIter_wide ha (fin "str_iterator" _ (.inr rfl) ⟨_,qb _ rfl,rfl,rfl⟩)
 ·exact wpAny_pyIter_ascii ha (fin "str_ascii_iterator" _ (.inl rfl) ⟨_,qb _ rfl,rfl,rfl⟩)
noncomputable def zzs(z:Str):List PyData:=z.cps.toList.map λc=>.str ⟨#[c]⟩
noncomputable def zsu(f:EF):IF':=λenv=>(f env).bind λr=>match r.d with
 | .str z=>some (zzs z,[])
 | _=>none
theorem zavu{A0:Addr->Prop}{H1:Hp}{z:Str}:Yl A0 H1 (Its z) (zzs z):=by
 intro A H' hA s
 have hl:(zzs z).length=z.cps.size:=by unfold zzs;simp
 refine⟨λi d e=>?_,by rw[hl];exact qK _⟩
 unfold zzs at e
 rw[qr]at e
 by_cases hi:i<z.cps.size
 ·refine⟨hi,λx H'' y=>?_⟩
  obtain⟨rfl,c,ec,rfl⟩:=y
  have:z.cps.toList[i]?=some c:=by simpa using ec
  rw[this]at e
  cases e
  exact⟨Same.refl _,zch⟩
 ·rw[qB1 (by simpa using hi)]at e
  cases e
theorem zavv{te:TE}{f:EF}(h1:SE te f):SI (iStr te) (zsu f):=by
 intro fx H0 env σ H h ds bs e R q
 unfold zsu at e
 obtain⟨⟨d,fr,bs'⟩,er,e⟩:=qA.mp e
 split at e
 ·rename_i z hz
  cases e
  refine h1 fx H0 env σ H h _ er _ λv H1 s hv=>?_
  have rp:=hv.rp
  have hz:d=.str z:=hz
  rw[hz]at rp
  exact⟨z,zlg rp,q _ H1 s zavu⟩
 ·cases e
noncomputable def isStar:Expr->Bool
 | .Starred ..=>true
 | _=>false
theorem zao{e:Expr}{es:List Expr}{env:Env}(h:isStar e=false):starEach (e::es) env=(false,eval e env)::starEach es env:=by
 cases e<;>first
  | rfl
  | cases h
theorem zanj{X:Cx}{e:Expr}{es:List Expr}{te:TE}{t:TA}(ha:PE X e te)(hr:PA X es t)(hs:isStar e=false:=by rfl):PA X (e::es) (tCons te t):=zwu ha hr (zao hs)
end L2
namespace PySem.SeqAt
open AutoSeq1 (wpAny_loadPart')
open MeetsSeq PyProof.Rows
section
variable{A:Around}{s:Shared}
end
end PySem.SeqAt
namespace L2
open PySem PySem.Spec PyProof.Rows
section
variable{X:Cx}
end
structure Bx(p:Prop):Prop where
 out:p
theorem Bx.pt{X:Cx}{e:Expr}{t:TT}(h:Bx (PW X e t)):Bx (PT X e t):=⟨h.out.pt⟩
theorem zal:∀{X:L2.Cx}{i:Int}{j:Nat}{pos:qd},L2.Bx (L2.PE X (qO.Constant (PySem.Const.int i) j pos) (L2.tC (L2.V.int i))):=by
 intro X i j pos
 exact⟨@zatu X i j pos⟩
theorem zad:∀{X:L2.Cx},L2.Bx (L2.PA X [] L2.tNil):=by
 intro X
 exact⟨@zahx X⟩
theorem zag:∀{X:L2.Cx}{e:qO}{es:List qO}{te:L2.TE}{t:L2.TA},L2.Bx (L2.PE X e te)->L2.Bx (L2.PA X es t)->L2.isStar e=Bool.false->L2.Bx (L2.PA X (e::es) (L2.tCons te t)):=by
 intro X e es te t ha hr hs
 exact⟨@zanj X e es te t ha.out hr.out hs⟩
theorem zbn:∀{X:L2.Cx}{a b:qO}{ta tb:L2.TE}{pos:qd}{op:PySem.Operator}{r:L2.R2},L2.OpR X (PySem.binaryOp op) r->L2.Bx (L2.PE X a ta)->L2.Bx (L2.PE X b tb)->L2.Bx (L2.PE X (a.BinOp op b pos) (L2.tOp r ta tb)):=by
 intro X a b ta tb pos op r ho ha hb
 exact⟨@zaxw X a b ta tb pos op r ho ha.out hb.out⟩
theorem zak:∀{X:L2.Cx}{st:PySem.Stmt}{t:L2.TS},L2.Bx (L2.PS X st t)->L2.Bx (L2.PSs X [st] t):=by
 intro X st t h1
 exact⟨@zahm X st t h1.out⟩
theorem zae:∀{X:L2.Cx}{st:PySem.Stmt}{rest:List PySem.Stmt}{t u:L2.TS},L2.Bx (L2.PS X st t)->L2.Bx (L2.PSs X rest u)->L2.Bx (L2.PSs X (st::rest) (L2.tSeq t u)):=by
 intro X st rest t u h1 h2
 exact⟨@zaek X st rest t u h1.out h2.out⟩
theorem zhk:∀{X:L2.Cx}{x:PySem.Str}{p pos:qd}{e:qO}{es:List qO}{t:L2.TA}{ps:List PySem.Str}{k:Nat}{sp:L2.Sp},L2.Dn X.prog X.w X.K X.mg X.base x ps k sp->L2.Room k X.A->L2.Gl X x->L2.Bx (L2.PA X (e::es) t)->(x==q9 "__debug__")=Bool.false->qAK (e::es) X.env=(Bool.false,PySem.eval e X.env)::qAK es X.env->((PySem.backTo pos (qAK es X.env)).any λ(x:Bool×PySem.Sem PySem.Value)=>x.fst)=Bool.false->L2.Bx (L2.PE X ((qO.Name x p).Call (e::es) [] pos) (L2.tCall sp [] L2.E0 t)):=by
 intro X x p pos e es t ps k sp D hr hg ha hdb he hpl
 exact⟨@zayg X x p pos e es t ps k sp D hr hg ha.out hdb he hpl⟩
theorem zaw:∀{X:L2.Cx}{e:qO}{te:L2.TE}{pos:qd},L2.Bx (L2.PE X e te)->L2.Bx (L2.PS X (PySem.Stmt.Return (Option.some e) pos) (L2.tRet te)):=by
 intro X e te pos he
 exact⟨@zaug X e te pos he.out⟩
theorem zje:∀{X:L2.Cx}{pos:qd}{i:Nat}{x:PySem.Str}{e:qO}{te:L2.TE}{pos':qd},X.N.Nodup->X.N[i]?=Option.some x->L2.Loc X.env.scope x->L2.Bx (L2.PE X e te)->PySem.swapsWith e (Option.some (qO.Name x pos')) pos.line X.env=Pure.pure Bool.false->X.fn x=Bool.true\/List.lookup x X.env.scope.names=Option.some PySem.NameKind.local->L2.Bx (L2.PS X (PySem.Stmt.Assign [qO.Name x pos'] e pos) (L2.tAsg te (L2.gName i))):=by
 intro X pos i x e te pos' hN hi hx he hs hf
 exact⟨@zauj X pos i x e te pos' hN hi hx he.out hs hf⟩
theorem zcn:∀{X:L2.Cx}{x:PySem.Str}{p pos:qd}{e:qO}{es:List qO}{t:L2.TA}{id:String}{r:List L2.V->L2.Hp->L2.VK->Prop},L2.CallR X (PySem.Value.builtin id) r->L2.Gl X x->X.mg x=Option.none->PySem.bootBuiltins x=Option.some (PySem.Value.builtin id)->L2.Bx (L2.PA X (e::es) t)->x≠q9 "__name__"->(x==q9 "__debug__")=Bool.false->qAK (e::es) X.env=(Bool.false,PySem.eval e X.env)::qAK es X.env->((PySem.backTo pos (qAK es X.env)).any λ(x:Bool×PySem.Sem PySem.Value)=>x.fst)=Bool.false->L2.Bx (L2.PE X ((qO.Name x p).Call (e::es) [] pos) (L2.tCB r t)):=by
 intro X x p pos e es t id r hc hg hm hv ha hn hdb he hpl
 exact⟨@zama X x p pos e es t id r hc hg hm hv ha.out hn hdb he hpl⟩
theorem zvj:∀{X:L2.Cx}{b:Bool}{j:Nat}{pos:qd},L2.Bx (L2.PE X (qO.Constant (PySem.Const.bool b) j pos) (L2.tC (L2.V.bl b))):=by
 intro X b j pos
 exact⟨@zaxt X b j pos⟩
theorem zlm:∀{X:L2.Cx}{a b:qO}{ta tb:L2.TE}{pos:qd}{r:L2.R2},L2.IxR X r->L2.Bx (L2.PE X a ta)->L2.Bx (L2.PE X b tb)->L2.PlainIx b->L2.Bx (L2.PE X (a.Subscript b pos) (L2.tOp r ta tb)):=by
 intro X a b ta tb pos r hr ha hb hs
 exact⟨@zayb X a b ta tb pos r hr ha.out hb.out hs⟩
theorem zdp:∀{X:L2.Cx}{t u:L2.TS}{pos:qd}{c:qO}{a b:List PySem.Stmt}{tc:L2.TT},L2.Bx (L2.PT X c tc)->L2.Bx (L2.PSs X a t)->L2.Bx (L2.PSs X b u)->L2.Bx (L2.PS X (PySem.Stmt.If c a b pos) (L2.tIfS tc t u)):=by
 intro X t u pos c a b tc hc ha hb
 exact⟨@zaxv X t u pos c a b tc hc.out ha.out hb.out⟩
theorem zbt:∀{X:L2.Cx},L2.Bx (L2.PSs X [] L2.tNext):=by
 intro X
 exact⟨@zaqk X⟩
theorem znp:∀{X:L2.Cx}{a:qO}{pos:qd}{tA:L2.TT},L2.Bx (L2.PT X a tA)->L2.Bx (L2.PT X (qO.UnaryOp PySem.UnaryOp.Not a pos) (L2.tNot tA)):=by
 intro X a pos tA ha
 exact⟨@zauc X a pos tA ha.out⟩
theorem zct:∀{X:L2.Cx}{K:qC},
 X.K=K->
  ∀{a:qO}{ta:L2.TE},
   L2.Bx (L2.PE X a ta)->
    (∀(whole:PySem.Sem PySem.Value),
      PySem.isTrue a X.env whole=do
       let v <- whole
       PySem.standAt a.pos
       PySem.holding [v] (PySem.truthy v))->
     L2.Bx (L2.PT X a λ(σ:L2.St)(H:L2.Hp)(Q:Bool->L2.Hp->Prop)=>ta σ H λ(x:L2.V)(H':L2.Hp)=>∃(k:Bool),L2.TruV K x H' k/\Q k H'):=by
 intro X K hK a ta ha he
 exact⟨@zaja X K hK a ta ha.out he⟩
theorem zkd:∀{X:L2.Cx}{pos:qd}{i:Nat}{x:PySem.Str},X.N.Nodup->X.N[i]?=Option.some x->L2.Loc X.env.scope x->X.fn x=Bool.true\/List.lookup x X.env.scope.names=Option.some PySem.NameKind.local->L2.Bx (L2.PG X (qO.Name x pos) (L2.gName i)):=by
 intro X pos i x hN hi hx hf
 exact⟨@zaql X pos i x hN hi hx hf⟩
theorem zci:∀{X:L2.Cx}{es:List qO}{t:L2.TA}{pos:qd},L2.Bx (L2.PA X es t)->L2.Bx (L2.PE X (qO.List es pos) (L2.tLst t)):=by
 intro X es t pos h
 exact⟨@zauq X es t pos h.out⟩
theorem zec:∀{X:L2.Cx}{tg iter:qO}{body:List PySem.Stmt}{wi:L2.TI}{g:L2.TG}{tb:L2.TS}{pos:qd},PySem.PassesOwn (PySem.model X.prog X.w) X.A X.env X.xe->X.calm=Bool.true->L2.Bx (L2.PI X tg iter wi)->L2.Bx (L2.PG X tg g)->L2.Bx (L2.PSs X body tb)->(∀(x:PySem.Value),PySem.foldedSetIterable iter X.env x=Pure.pure x)->L2.Bx (L2.PS X (PySem.Stmt.For tg iter body [] pos) (L2.tFor wi g tb)):=by
 intro X tg iter body wi g tb pos hp hc hi hg hb hs
 exact⟨@zauk X tg iter body wi g tb pos hp hc hi.out hg.out hb.out hs⟩
theorem zbu:∀{X:L2.Cx}{a b:qO}{ta tb:L2.TE}{pos:qd}{op:PySem.CmpOp}{r:L2.R2},L2.OpR X (PySem.compareOp op) r->L2.Bx (L2.PE X a ta)->L2.Bx (L2.PE X b tb)->PySem.behindInMarks op b=Bool.false->L2.Bx (L2.PT X (a.Compare [op] [b] pos) (L2.tTest (L2.tOp r ta tb))):=by
 intro X a b ta tb pos op r ho ha hb hm
 exact⟨@zaqo X a b ta tb pos op r ho ha.out hb.out hm⟩
theorem zgl:∀{X:L2.Cx}{x:PySem.Str}{j:Nat}{pos:qd},L2.Bx (L2.PE X (qO.Constant (PySem.Const.str x) j pos) (L2.tC (L2.V.str x))):=by
 intro X x j pos
 exact⟨@zatw X x j pos⟩
theorem zeo:∀{X:L2.Cx}{e:qO}{te:L2.TE}{pos:qd},L2.Bx (L2.PE X e te)->PySem.swapsWith e Option.none pos.line X.env=Pure.pure Bool.false->L2.Bx (L2.PS X (PySem.Stmt.Expr e pos) (L2.tDrop te)):=by
 intro X e te pos he hs
 exact⟨@zahn X e te pos he.out hs⟩
theorem zdq:∀{X:L2.Cx}{es:List qO}{t:L2.TA}{pos:qd}{x1:Nat},L2.Bx (L2.PA X es t)->L2.Bx (L2.PE X (qO.Tuple es x1 pos) (L2.tTup t)):=by
 intro X es t pos x1 h
 exact⟨@zaup X es t pos x1 h.out⟩
theorem zsv:∀{X:L2.Cx}{a:qO}{pos:qd}{op:PySem.BoolOp}{t:L2.TE},L2.Bx (L2.PE X a t)->L2.Bx (L2.PE X (qO.BoolOp op [a] pos) t):=by
 intro X a pos op t h
 exact⟨@zaud X a pos op t h.out⟩
theorem zof:∀{X:L2.Cx}{a b:qO}{ta tb:L2.TE}{pos:qd}{op:PySem.CmpOp}{r:L2.R2},L2.OpR X (PySem.compareOp op) r->L2.Bx (L2.PE X a ta)->L2.Bx (L2.PE X b tb)->PySem.behindInMarks op b=Bool.false->L2.Bx (L2.PE X (a.Compare [op] [b] pos) (L2.tOp r ta tb)):=by
 intro X a b ta tb pos op r ho ha hb hm
 exact⟨@zaqn X a b ta tb pos op r ho ha.out hb.out hm⟩
theorem zagr:∀{X:L2.Cx}{x:PySem.Str}{p pos:qd}{e:qO}{es:List qO}{t:L2.TA}{T:String}{r:List L2.V->L2.Hp->L2.VK->Prop},L2.CallR X (PySem.Value.type T) r->L2.Gl X x->X.mg x=Option.none->PySem.bootBuiltins x=Option.some (PySem.Value.type T)->L2.Bx (L2.PA X (e::es) t)->x≠q9 "__name__"->(x==q9 "__debug__")=Bool.false->qAK (e::es) X.env=(Bool.false,PySem.eval e X.env)::qAK es X.env->((PySem.backTo pos (qAK es X.env)).any λ(x:Bool×PySem.Sem PySem.Value)=>x.fst)=Bool.false->L2.Bx (L2.PE X ((qO.Name x p).Call (e::es) [] pos) (L2.tCB r t)):=by
 intro X x p pos e es t T r hc hg hm hv ha hn hdb he hpl
 exact⟨@zahz X x p pos e es t T r hc hg hm hv ha.out hn hdb he hpl⟩
theorem zhv:∀{X:L2.Cx}{x:PySem.Str}{v:L2.V}{u:PySem.Value}{pos:qd},L2.Gl X x->X.mg x=Option.none->PySem.bootBuiltins x=Option.some u->L2.RelV v u->x≠q9 "__name__"->(x==q9 "__debug__")=Bool.false->L2.Bx (L2.PE X (qO.Name x pos) (L2.tC v)):=by
 intro X x v u pos hg hm hv r hn hd
 exact⟨@zaqi X x v u pos hg hm hv r hn hd⟩
theorem zacr:∀{X:L2.Cx}{a:qO}{pos:qd}{tA:L2.TT},L2.Bx (L2.PT X a tA)->L2.Bx (L2.PW X (qO.BoolOp PySem.BoolOp.Or [a] pos) tA):=by
 intro X a pos tA ha
 exact⟨@zaua X a pos tA ha.out⟩
theorem zajh:∀{X:L2.Cx}{a b:qO}{pos:qd}{tA tB':L2.TT}{rest:List qO},L2.Bx (L2.PT X a tA)->L2.Bx (L2.PW X (qO.BoolOp PySem.BoolOp.Or (b::rest) pos) tB')->L2.Bx (L2.PW X (qO.BoolOp PySem.BoolOp.Or (a::b::rest) pos) (L2.tOr tA tB')):=by
 intro X a b pos tA tB' rest ha hb
 exact⟨@zaxu X a b pos tA tB' rest ha.out hb.out⟩
theorem zhw:∀{X:L2.Cx}{e:qO}{te:L2.TE},L2.Bx (L2.PE X e te)->L2.Bx (L2.PO X (Option.some e) (L2.tPart te)):=by
 intro X e te h
 exact⟨@zaqs X e te h.out⟩
theorem zhx:∀{X:L2.Cx},L2.Bx (L2.PO X Option.none L2.tNoPart):=by
 intro X
 exact⟨@zaqr X⟩
theorem zgc:∀{X:L2.Cx}{e:qO}{te:L2.TE}{lo hi:Option qO}{tl th:L2.TO}{pos p2:qd}{r:L2.V->Option Int->Option Int->L2.Hp->L2.VK->Prop},L2.SlR X r->L2.Bx (L2.PE X e te)->L2.Bx (L2.PO X lo tl)->L2.Bx (L2.PO X hi th)->L2.Bx (L2.PE X (e.Subscript (qO.Slice lo hi Option.none p2) pos) (L2.tSl r te tl th)):=by
 intro X e te lo hi tl th pos p2 r hr he hl hu
 exact⟨@zamc X e te lo hi tl th pos p2 r hr he.out hl.out hu.out⟩
theorem zcb:∀{X:L2.Cx}{scope:PySem.Scope}{N' own:List PySem.Str}{fr:List Nat}{elt target iter:qO}{ifs:List qO}{cpos:qd}{wi:L2.TI}{g:L2.TG}{tt:L2.TT}{te:L2.TE},L2.CompOk X scope N' own fr->X.calm=Bool.true->L2.Bx (L2.PI X target iter wi)->(∀(cl:List (PySem.Str×PySem.Addr))(C:PySem.Addr)(s:PySem.Shared)(H:L2.Hp)(fp:List PySem.Addr),L2.PG (L2.cxComp X scope N' own cl C s H fp) target g/\L2.PF (L2.cxComp X scope N' own cl C s H fp) ifs tt/\L2.PE (L2.cxComp X scope N' own cl C s H fp) elt te)->(∀(x:PySem.Value),PySem.foldedSetIterable iter X.env x=Pure.pure x)->L2.Bx (L2.PE X (elt.ListComp [{target:=target,iter:=iter,ifs:=ifs,is_async:=0}] scope cpos) (L2.tComp1 wi g tt te own fr)):=by
 intro X scope N' own fr elt target iter ifs cpos wi g tt te c hc hi hb hs
 exact⟨@zamo X scope N' own fr elt target iter ifs cpos wi g tt te c hc hi.out hb hs⟩
theorem zhr:∀{X:L2.Cx}{K:qC},X.K=K->∀{T:String}{name:PySem.Str}{id:String}{r:L2.V->List L2.V->L2.Hp->L2.VK->Prop}{o e:qO}{es:List qO}{to:L2.TE}{t:L2.TA}{apos cpos:qd},PySem.PlainAttrs T->PySem.Slot T name id->PySem.typeOf (PySem.Value.builtin id)=Pure.pure (PySem.Value.type "method_descriptor")->L2.MtR X id r->L2.Bx (L2.PE X o to)->L2.Bx (L2.PA X (e::es) t)->PySem.attributeBase o name X.env (PySem.eval o X.env)=PySem.eval o X.env->((((PySem.backTo cpos (qAK (e::es) X.env)).all λ(x:Bool×PySem.Sem PySem.Value)=>!x.fst)&&(PySem.backToKw cpos (PySem.keywordEach [] X.env)).all λ(x:Option PySem.Str×PySem.Sem PySem.Value)=>x.fst.isSome)&&Decidable.decide (((e::es).length+([]:List Keyword).length+if([]:List Keyword).isEmpty=Bool.true then 0 else 1)<30))=Bool.true->(apos.endLine==cpos.line)=Bool.true->qAK (e::es) X.env=(Bool.false,PySem.eval e X.env)::qAK es X.env->((PySem.backTo cpos (qAK es X.env)).any λ(x:Bool×PySem.Sem PySem.Value)=>x.fst)=Bool.false->L2.Bx (L2.PE X ((o.Attribute name apos).Call (e::es) [] cpos) (L2.tBM K T r to t)):=by
 intro X K hK T name id r o e es to t apos cpos pa slot hty hm ho ha hbase hfew hline hs hplain
 exact⟨@zavi X K hK T name id r o e es to t apos cpos pa slot hty hm ho.out ha.out hbase hfew hline hs hplain⟩
theorem zpo:∀{X:L2.Cx}{a b:qO}{ta tb:L2.TE}{pos:qd}{rest:List qO},L2.Bx (L2.PE X a ta)->L2.Bx (L2.PE X (qO.BoolOp PySem.BoolOp.And (b::rest) pos) tb)->L2.Bx (L2.PE X (qO.BoolOp PySem.BoolOp.And (a::b::rest) pos) (L2.tAndV ta tb)):=by
 intro X a b ta tb pos rest ha hb
 exact⟨@zaue X a b ta tb pos rest ha.out hb.out⟩
theorem zank:∀{X:L2.Cx}{pos:qd},L2.Bx (L2.PPs X pos [] [] []):=by
 intro X pos
 exact⟨@zarb X pos⟩
theorem zaji:∀{X:L2.Cx}{pos:qd}{k v:qO}{ks:List (Option qO)}{vs:List qO}{tk tv:L2.TE}{trs:List (L2.TE×L2.TE)},L2.Bx (L2.PE X k tk)->L2.Bx (L2.PE X v tv)->L2.Bx (L2.PPs X pos ks vs trs)->L2.Bx (L2.PPs X pos (Option.some k::ks) (v::vs) ((tk,tv)::trs)):=by
 intro X pos k v ks vs tk tv trs hk hv hr
 exact⟨@zamj X pos k v ks vs tk tv trs hk.out hv.out hr.out⟩
theorem zars:∀{X:L2.Cx}{tg l:qO}{tl:L2.TE},L2.Bx (L2.PE X l tl)->L2.Bx (L2.PI X tg l (L2.iStr tl)):=by
 intro X tg l tl hl
 exact⟨@zavt X tg l tl hl.out⟩
theorem zbf:∀{X:L2.Cx}{K:qC},X.K=K->∀{tg l:qO}{tl:L2.TE},L2.Bx (L2.PE X l tl)->L2.Bx (L2.PI X tg l (L2.iSeq K tl)):=by
 intro X K hK tg l tl hl
 exact⟨@zarp X K hK tg l tl hl.out⟩
theorem zic:∀{X:L2.Cx}{tg a:qO}{ta:L2.TA}{p pos:qd},L2.Gl X (q9 "range")->X.mg (q9 "range")=Option.none->L2.Bx (L2.PA X [a] ta)->qAK [a] X.env=[(Bool.false,PySem.eval a X.env)]->L2.Bx (L2.PI X tg ((qO.Name (q9 "range") p).Call [a] [] pos) (L2.iRng1 ta)):=by
 intro X tg a ta p pos hg hm ha hs
 exact⟨@zahp X tg a ta p pos hg hm ha.out hs⟩
theorem zdr:∀{X:L2.Cx},L2.Bx (L2.PF X [] L2.tAll):=by
 intro X
 exact⟨@zavc X⟩
theorem zxn:∀{X:L2.Cx}{j:Nat}{pos:qd},L2.Bx (L2.PE X (qO.Constant PySem.Const.none j pos) (L2.tC L2.V.non)):=by
 intro X j pos
 exact⟨@zatv X j pos⟩
theorem zsw:∀{X:L2.Cx}{pos:qd},L2.Bx (L2.PE X (qO.Dict [] [] pos) L2.tDNewK):=by
 intro X pos
 exact⟨@zami X pos⟩
theorem zanl:∀{X:L2.Cx}{pos:qd}{keys:List (Option qO)}{values:List qO}{trs:List (L2.TE×L2.TE)},L2.Bx (L2.PPs X pos keys values trs)->(keys.all λ(x:Option qO)=>x.isSome)=Bool.true->keys.length=values.length->keys≠[]->keys.length<=15->L2.Bx (L2.PE X (qO.Dict keys values pos) (L2.tDisp trs)):=by
 intro X pos keys values trs h hall hl h0 h15
 exact⟨@zarc X pos keys values trs h.out hall hl h0 h15⟩
theorem zsx:∀{X:L2.Cx}{c:qO}{t:L2.TT},L2.Bx (L2.PT X c t)->L2.Bx (L2.PF X [c] t):=by
 intro X c t h
 exact⟨@zavd X c t h.out⟩
theorem zart:∀{X:L2.Cx}{a:qO}{ta:L2.TE}{pos:qd},L2.Bx (L2.PE X a ta)->L2.Bx (L2.PE X (qO.UnaryOp PySem.UnaryOp.Not a pos) (L2.tNotV ta)):=by
 intro X a ta pos ha
 exact⟨@zauf X a ta pos ha.out⟩
theorem zke:∀{X:L2.Cx}{o i:qO}{pos:qd}{td ty:L2.TE},X.A.units+1<PySem.cLine->L2.Bx (L2.PE X o td)->L2.Bx (L2.PE X i ty)->L2.NoSl i->L2.Bx (L2.PE X (o.Subscript i pos) (L2.tDGet td ty)):=by
 intro X o i pos td ty hu ho hi hs
 exact⟨@zaqz X o i pos td ty hu ho.out hi.out hs⟩
theorem zru:∀{X:L2.Cx}{a:qO}{pos:qd}{tA:L2.TT},L2.Bx (L2.PT X a tA)->L2.Bx (L2.PW X (qO.BoolOp PySem.BoolOp.And [a] pos) tA):=by
 intro X a pos tA ha
 exact⟨@zaqj X a pos tA ha.out⟩
theorem zxo:∀{X:L2.Cx}{a b:qO}{pos:qd}{tA tB':L2.TT}{rest:List qO},L2.Bx (L2.PT X a tA)->L2.Bx (L2.PW X (qO.BoolOp PySem.BoolOp.And (b::rest) pos) tB')->L2.Bx (L2.PW X (qO.BoolOp PySem.BoolOp.And (a::b::rest) pos) (L2.tAnd tA tB')):=by
 intro X a b pos tA tB' rest ha hb
 exact⟨@zaub X a b pos tA tB' rest ha.out hb.out⟩
theorem zajj:∀{X:L2.Cx}{pos:qd}{c:qO}{body:List PySem.Stmt}{tc:L2.TT}{tb:L2.TS},PySem.PassesOwn (PySem.model X.prog X.w) X.A X.env X.xe->L2.Bx (L2.PT X c tc)->L2.Bx (L2.PSs X body tb)->L2.Bx (L2.PS X (PySem.Stmt.While c body [] pos) (L2.tWhile tc tb)):=by
 intro X pos c body tc tb hp hc hb
 exact⟨@zalv X pos c body tc tb hp hc.out hb.out⟩
theorem zzt:∀{X:L2.Cx}{st:PySem.Stmt},L2.Bx (L2.PS X st L2.tNever):=by
 intro X st
 exact⟨@zalt X st⟩
theorem zxp:∀{X:L2.Cx}{o i value:qO}{pos pos':qd}{td ty tv:L2.TE},X.A.units+1<PySem.cLine->L2.Bx (L2.PE X o td)->L2.Bx (L2.PE X i ty)->L2.Bx (L2.PE X value tv)->PySem.swapsWith value (Option.some (o.Subscript i pos')) pos.line X.env=Pure.pure Bool.false->L2.Bx (L2.PS X (PySem.Stmt.Assign [o.Subscript i pos'] value pos) (L2.sDPut td ty tv)):=by
 intro X o i value pos pos' td ty tv hu ho hi hv hs
 exact⟨@zara X o i value pos pos' td ty tv hu ho.out hi.out hv.out hs⟩
theorem zzu:∀{X:L2.Cx}{scope:PySem.Scope}{N' own:List PySem.Str}{fr:List Nat}{elt target iter:qO}{ifs:List qO}{cpos:qd}{wi:L2.TI}{g:L2.TG}{tt:L2.TT}{te:L2.TE}{spos py:qd}{i:Nat}{y:PySem.Str},L2.CompOk X scope N' own fr->X.calm=Bool.true->L2.Bx (L2.PI X target iter wi)->(∀(cl:List (PySem.Str×PySem.Addr))(C:PySem.Addr)(s:PySem.Shared)(H:L2.Hp)(fp:List PySem.Addr),L2.PG (L2.cxComp X scope N' own cl C s H fp) target g/\L2.PF (L2.cxComp X scope N' own cl C s H fp) ifs tt/\L2.PE (L2.cxComp X scope N' own cl C s H fp) elt te)->PySem.swapsWith (elt.ListComp [{target:=target,iter:=iter,ifs:=ifs,is_async:=0}] scope cpos) (Option.some (qO.Name y py)) spos.line X.env=Pure.pure Bool.true->X.N.Nodup->X.N[i]?=Option.some y->List.lookup y X.env.scope.names=Option.some PySem.NameKind.local->(∀(x:PySem.Value),PySem.foldedSetIterable iter X.env x=Pure.pure x)->L2.Bx (L2.PS X (PySem.Stmt.Assign [qO.Name y py] (elt.ListComp [{target:=target,iter:=iter,ifs:=ifs,is_async:=0}] scope cpos) spos) (L2.tAsgC1 wi g tt te own fr i)):=by
 intro X scope N' own fr elt target iter ifs cpos wi g tt te spos py i y c hc hi hb hsw hN hy hl hs
 exact⟨@zamp X scope N' own fr elt target iter ifs cpos wi g tt te spos py i y c hc hi.out hb hsw hN hy hl hs⟩
theorem zacs:∀{X:L2.Cx}{pos:qd}{tg e:qO}{te:L2.TE}{g:L2.TG},L2.Bx (L2.PE X e te)->L2.Bx (L2.PG X tg g)->PySem.swapsWithSole [tg] e pos.line X.env=Pure.pure Bool.false->PySem.swappedStores [tg] e X.env=Pure.pure Option.none->List.map (λ(x:Bool×(PySem.Value->PySem.Sem Unit))=>x.snd) (PySem.assignEach [tg] X.env)=[PySem.assign tg X.env]->L2.Bx (L2.PS X (PySem.Stmt.Assign [tg] e pos) (L2.tAsg te g)):=by
 intro X pos tg e te g he hg hs hw h1
 exact⟨@zapi X pos tg e te g he.out hg.out hs hw h1⟩
theorem zsy:∀{X:L2.Cx}{K:qC},X.K=K->∀{a b:qO}{ta:L2.TA}{p pos:qd}{elts:List qO}{x1:Nat}{tpos:qd},L2.Gl X (q9 "zip")->X.mg (q9 "zip")=Option.none->L2.Bx (L2.PA X [a,b] ta)->qAK [a,b] X.env=(Bool.false,PySem.eval a X.env)::qAK [b] X.env->((PySem.backTo pos (qAK [b] X.env)).any λ(x:Bool×PySem.Sem PySem.Value)=>x.fst)=Bool.false->L2.Bx (L2.PI X (qO.Tuple elts x1 tpos) ((qO.Name (q9 "zip") p).Call [a,b] [] pos) (L2.iZip K ta)):=by
 intro X K hK a b ta p pos elts x1 tpos hg hm ha hs hs2
 exact⟨@zavr X K hK a b ta p pos elts x1 tpos hg hm ha.out hs hs2⟩
theorem zajk:∀{X:L2.Cx}{K:qC},X.K=K->∀{a:qO}{ta:L2.TA}{p pos:qd}{elts:List qO}{x1:Nat}{tpos:qd},L2.Gl X (q9 "enumerate")->X.mg (q9 "enumerate")=Option.none->L2.Bx (L2.PA X [a] ta)->qAK [a] X.env=[(Bool.false,PySem.eval a X.env)]->L2.Bx (L2.PI X (qO.Tuple elts x1 tpos) ((qO.Name (q9 "enumerate") p).Call [a] [] pos) (L2.iEnumX K ta)):=by
 intro X K hK a ta p pos elts x1 tpos hg hm ha hs
 exact⟨@zanh X K hK a ta p pos elts x1 tpos hg hm ha.out hs⟩
theorem zcv:∀{X:L2.Cx},L2.Bx (L2.PGs X [] L2.gNil):=by
 intro X
 exact⟨@zaqm X⟩
theorem zat:∀{X:L2.Cx}{e:qO}{es:List qO}{t:L2.TG}{u:L2.TGs},L2.Bx (L2.PG X e t)->L2.Bx (L2.PGs X es u)->List.map (λ(x:Bool×(PySem.Value->PySem.Sem Unit))=>x.snd) (PySem.assignEach (e::es) X.env)=PySem.assign e X.env::List.map (λ(x:Bool×(PySem.Value->PySem.Sem Unit))=>x.snd) (PySem.assignEach es X.env)->L2.Bx (L2.PGs X (e::es) (L2.gCons t u)):=by
 intro X e es t u h1 h2 hs
 exact⟨@zalu X e es t u h1.out h2.out hs⟩
theorem zcw:∀{X:L2.Cx}{K:qC},X.K=K->∀{es:List qO}{k:Nat}{t:L2.TGs}{n:Nat}{pos:qd},X.calm=Bool.true->L2.Bx (L2.PGs X es t)->(PySem.assignEach es X.env).length=n->List.findIdx? (λ(x:Bool×(PySem.Value->PySem.Sem Unit))=>x.fst) (PySem.assignEach es X.env)=Option.none->L2.Bx (L2.PG X (qO.Tuple es k pos) (L2.gTup K n t)):=by
 intro X K hK es k t n pos hc h hn hst
 exact⟨@zarf X K hK es k t n pos hc h.out hn hst⟩
theorem zajl:∀{X:L2.Cx}{scope:PySem.Scope}{N' own:List PySem.Str}{fr:List Nat}{elt target iter target2 iter2:qO}{ifs ifs2:List qO}{cpos:qd}{wi wi2:L2.TI}{g g2:L2.TG}{tt tt2:L2.TT}{te:L2.TE},L2.CompOk X scope N' own fr->X.calm=Bool.true->L2.Bx (L2.PI X target iter wi)->(∀(cl:List (PySem.Str×PySem.Addr))(C:PySem.Addr)(s:PySem.Shared)(H:L2.Hp)(fp:List PySem.Addr),L2.PG (L2.cxComp X scope N' own cl C s H fp) target g/\L2.PF (L2.cxComp X scope N' own cl C s H fp) ifs tt/\L2.PI (L2.cxComp X scope N' own cl C s H fp) target2 iter2 wi2/\L2.PG (L2.cxComp X scope N' own cl C s H fp) target2 g2/\L2.PF (L2.cxComp X scope N' own cl C s H fp) ifs2 tt2/\L2.PE (L2.cxComp X scope N' own cl C s H fp) elt te)->(∀(x:PySem.Value),PySem.foldedSetIterable iter X.env x=Pure.pure x)->(∀(env:PySem.Env)(x:PySem.Value),PySem.foldedSetIterable iter2 env x=Pure.pure x)->L2.Bx (L2.PE X (elt.ListComp [{target:=target,iter:=iter,ifs:=ifs,is_async:=0},{target:=target2,iter:=iter2,ifs:=ifs2,is_async:=0}] scope cpos) (L2.tComp2 wi g tt wi2 g2 tt2 te own fr)):=by
 intro X scope N' own fr elt target iter target2 iter2 ifs ifs2 cpos wi wi2 g g2 tt tt2 te c hc hi hb hs hs2
 exact⟨@zamz X scope N' own fr elt target iter target2 iter2 ifs ifs2 cpos wi wi2 g g2 tt tt2 te c hc hi.out hb hs hs2⟩
theorem zajm:∀{X:L2.Cx}{a:qO}{ta:L2.TE}{j:Nat}{pos':qd},L2.Bx (L2.PE X a ta)->L2.Bx (L2.PC X PySem.CmpOp.Is a (qO.Constant PySem.Const.none j pos') (L2.tIsN ta)):=by
 intro X a ta j pos' ha
 exact⟨@zatx X a ta j pos' ha.out⟩
theorem zajn:∀{X:L2.Cx}{o i:qO}{td ty:L2.TE},X.A.units+1<PySem.cLine->L2.Bx (L2.PE X i ty)->L2.Bx (L2.PE X o td)->L2.Bx (L2.PC X PySem.CmpOp.In i o (L2.tDIn ty td)):=by
 intro X o i td ty hu hi ho
 exact⟨@zavb X o i td ty hu hi.out ho.out⟩
theorem zact:∀{X:L2.Cx}{a b:qO}{pos:qd}{op:PySem.CmpOp}{t:L2.TE},L2.Bx (L2.PC X op a b t)->PySem.behindInMarks op b=Bool.false->L2.Bx (L2.PE X (a.Compare [op] [b] pos) t):=by
 intro X a b pos op t h h1
 exact⟨@zaty X a b pos op t h.out h1⟩
theorem zaru:∀{X:L2.Cx}{a b:qO}{pos:qd}{op:PySem.CmpOp}{t:L2.TE},L2.Bx (L2.PC X op a b t)->PySem.behindInMarks op b=Bool.false->L2.Bx (L2.PT X (a.Compare [op] [b] pos) (L2.tB t)):=by
 intro X a b pos op t h h1
 exact⟨@zatz X a b pos op t h.out h1⟩
theorem bv{X:Cx}(i:Nat){x:Str}{pos:Pos}(hN:X.N[i]?=some x:=by rfl)(hv:visB X.env.scope x=true:=by rfl)(hd:(x==("__debug__":Str))=false:=by decide)
  (hcd:(x==("__classdict__":Str))=false:=by decide):Bx (PE X (.Name x pos) (tVar i)):=⟨zaph hN (visB.of hv) hd hcd⟩
theorem zrv{X:Cx}{i:Nat}{o k e:Expr}{tk tv:TE}{pos pos':Pos}(ho:Bx (PE X o (tVar i)))(hk:Bx (PE X k tk))(hv:Bx (PE X e tv))
  (ha:∀v,assign (.Subscript o k pos') X.env v=(do
   let ov <- holding [v] (eval o X.env)
   let iv <- holding [v,ov] (eval k X.env)
   standAt pos'
   holding [v,ov,iv] (setItem ov iv v)
   release [v,ov,iv] []))
  (hs:swapsWithSole [.Subscript o k pos'] e pos.line X.env=pure false)(hw:swappedStores [.Subscript o k pos'] e X.env=pure none)(h1:(assignEach [.Subscript o k pos'] X.env).map (·.2)=[assign (.Subscript o k pos') X.env]) :
  Bx (PS X (.Assign [.Subscript o k pos'] e pos) (tAsg tv (gSub (tVar i) tk zaqv))):=⟨zapi hv.out (zaui ho.out hk.out zamd ha) hs hw h1⟩
noncomputable def SatK(fx:Addr->Prop)(H0:Hp)(J:Nat->Prop)(σ0:St)(D:Ends):Out->Prop
 | .nx env=>∀σ H,EnvOk fx H0 env σ H->(∀j,J j->σ[j]?=σ0[j]?)->D.nx σ H
 | .bk env=>∀σ H,EnvOk fx H0 env σ H->(∀j,J j->σ[j]?=σ0[j]?)->D.bk σ H
 | .ct env=>∀σ H,EnvOk fx H0 env σ H->(∀j,J j->σ[j]?=σ0[j]?)->D.ct σ H
 | .rt d fr=>∀v H,Same H0 H->zxi fx H0 d fr v H->D.rt v H
noncomputable def SSk(J:Nat->Prop)(ts:TS)(F:SF):Prop:=∀(fx:Addr->Prop)(H0:Hp)(env:DEnv)(σ:St)(H:Hp)(D:Ends),EnvOk fx H0 env σ H->∀o,F env=some o->SatK fx H0 J σ D o->ts D σ H
section
variable{J:Nat->Prop}
theorem zajo{te:TE}{f:EF}{i:Nat}(h1:SE te f)(hJ:¬J i):SSk J (tAsg te (gName i)) (sSet i f):=by
 intro fx H0 env σ H D h o e q
 unfold sSet at e
 obtain⟨r,er,rfl⟩:=qG.mp e
 exact h1 fx H0 env σ H h r er _ λv H' s hv=>q _ H' (h.put s hv i) λj hj=>qV λz=>hJ (by rw[z];exact hj)
noncomputable def SGk(J:Nat->Prop)(g:TG)(f:GT):Prop:=∀(fx:Addr->Prop)(H0:Hp)(env:DEnv)(σ:St)(H:Hp)(d:PyData)(v:V),EnvOk fx H0 env σ H->Rp (Offs (λa=>fx a\/own env σ a) H) d v->∀env',f d env=some env'->∀Q:St->Hp->Prop,
 (∀σ',EnvOk fx H0 env' σ' H->(∀j,J j->σ'[j]?=σ[j]?)->Q σ' H)->g v σ H Q
theorem zog{i:Nat}(hJ:¬J i):SGk J (gName i) (gN i):=by
 intro fx H0 env σ H d v h r env' e Q q
 cases e
 exact q _ (h.setPl i r) λj hj=>qV λz=>hJ (by rw[z];exact hj)
end
section
variable{X:Cx}
end
end L2
namespace HT
open PySem PySem.Spec PyProof.Rows L2
section
variable{prog:Program}{w:World}{A:Around}{E:Value->Shared->Prop}{s:Shared}
theorem getItem_tuple_whole{t sl:Addr}{items:Array Value}{vl vu:Value}{lo hi:Option Int}{Q:Value->Shared->Prop}(ht:IsTup s.heap t items)(hs:s.heap.IsSliceOf sl vl vu .none)(pl:IsPart vl lo)(pu:IsPart vu hi)
  (hw:sIx items.size 0 lo=0/\sIx items.size items.size hi=items.size) (h:Q (.ref t) s):wpAny (model prog w) A (getItem (.ref t) (.ref sl)) Q E s:=by
 obtain⟨os,hos,hcs,hds⟩:=id hs
 have hTs:s.TypeIs (.ref sl) "slice":=⟨os,hos,hcs⟩
 unfold getItem
 try with_reducible refine qBS ?_
 first|refine qD (qJ ?_)|skip
 refine qD (wpAny_sequenceKey ht.typeIs (by decide) ?_)
 refine qD (qAj (name:=Str.ofString "__getitem__") ht.typeIs qAU
  (qBC qAU ht.typeIs entry_tuple_getitem ?_ (args_tuple_getitem _ _)))
 show wpAny _ _ (Builtin.Tuple.tupleItemsOf (.ref t) >>=_) _ _ s
 refine qD (tupleItemsOf_ ht ?_)
 refine qD (qCY hTs ?_)
 rw[if_pos (by decide)]
 refine qD (zkl hs pl pu ?_)
 have hyes:(((sIx items.size 0 lo:Nat):Int)==0&&(1:Int)==1&&(sIx items.size items.size hi - sIx items.size 0 lo)==items.size)=true:=by
  rw[hw.1,hw.2];simp
 show wpAny _ _ (if(((sIx items.size 0 lo:Nat):Int)==0&&(1:Int)==1&&(sIx items.size items.size hi - sIx items.size 0 lo)==items.size)=true then _ else _) _ _ s
 rw[if_pos hyes]
 unfold Builtin.Tuple.tupleIsExact
 refine qD (qD (qCY ht.typeIs (qJ ?_)))
 rw[if_pos (by decide)]
 refine qD (qCV ?_)
 first
  | exact qJ ⟨_,rfl,qJ h⟩
  | exact qD (qJ (qJ ⟨_,rfl,qJ h⟩))
  | exact qD (qJ (qD (qJ (qJ ⟨_,rfl,qJ h⟩))))
end
end HT
namespace L2
open PySem PySem.Spec PyProof.Rows
noncomputable def rSlW(K:qC):V->Option Int->Option Int->Hp->VK->Prop:=λx lo hi H Q=>∃a xs,x=.ref a/\SqT K H a xs/\
 ((HT.sIx xs.length 0 lo=0/\HT.sIx xs.length xs.length hi=xs.length)->Q (.ref a) H)/\(¬(HT.sIx xs.length 0 lo=0/\HT.sIx xs.length xs.length hi=xs.length)->∀p,H p=none->Q (.ref p) (upd H p (.tup (cutV xs lo hi))))
theorem sl_W{X:Cx}{K:qC}(hK:X.K=K):SlR X (rSlW K):=by
 subst hK
 intro pins s σ H x v vl vu lo hi sl Q I rx hs pl pu h
 obtain⟨a,xs,rfl,hx,q1,q2⟩:=h
 by_cases hw:HT.sIx xs.length 0 lo=0/\HT.sIx xs.length xs.length hi=xs.length
 ·cases rx
  obtain⟨its,r,ht,hz⟩:=I.tuple hx
  have hlen:its.toArray.size=xs.length:=by rw[qP];exact r.length.symm
  refine⟨"tuple",_,qAU.lookup,ht.typeIs,?_⟩
  exact HT.getItem_tuple_whole ht hs pl pu (by rw[hlen];exact hw) ⟨.ref a,H,I,rfl,q1 hw⟩
 ·exact zaut pins s σ H _ v vl vu lo hi sl Q I rx hs pl pu ⟨a,xs,rfl,hx,hw,q2 hw⟩
noncomputable def eSlT(a:EF)(l h:PF'):EF:=λenv=>(a env).bind λx=>(l env).bind λlo=>(h env).bind λhi=>match x.d with
 | .tuple ds=>some ⟨.tuple (cutD ds lo hi),false,x.bs⟩
 | _=>none
theorem zvk{K:qC}{te:TE}{tl th:TO}{f:EF}{fl fh:PF'}(h1:SE te f)(h2:SPt tl fl)(h3:SPt th fh):SE (tSl (rSlW K) te tl th) (eSlT f fl fh):=by
 intro fx H0 env σ H h rr hr Q q
 unfold eSlT at hr
 obtain⟨⟨d,frd,bs⟩,ex,hr⟩:=qA.mp hr
 obtain⟨lo,el,hr⟩:=qA.mp hr
 obtain⟨hi,eh,hr⟩:=qA.mp hr
 cases d with
 | tuple ds=>
  cases hr
  refine h1 fx H0 env σ H h _ ex _ λv H1 s1 v1=>h2 fx H0 env σ H1 (h.up s1) _ el _ λH2 s2=>h3 fx H0 env σ H2 (h.up (s1.trans s2)) _ eh _ λH3 s3=>?_
  have v3:=(v1.later (Same.refl _) (s2.trans s3) λ_ z=>z).rp
  have t3:=(s1.trans s2).trans s3
  obtain⟨p,xs,rfl,hp,r⟩:=zdc v3
  refine⟨p,xs,rfl,SqT.of (zdm hp),λhw=>q _ _ t3 ⟨?_,λz=>by cases z⟩,λ_ l hl=>q _ _ (t3.trans (Same.new hl)) ⟨?_,λz=>by cases z⟩⟩
  ·have e:cutD ds lo hi=ds:=by
    unfold cutD
    rw[r.length,hw.1,hw.2,qCa,qCz,qAs (by rw[r.length];exact qK _)]
   show Rp _ (.tuple (cutD ds lo hi)) _
   rw[e]
   exact v3
  ·have hA:=(h.up t3).lims bs
   exact zli hl (zej hA hl) (r.cut lo hi)
 | _=>cases hr
noncomputable def plS:Sl->Sl
 | .ac d=>.pl d
 | s=>s
noncomputable def plE(env:DEnv):DEnv:=env.map plS
noncomputable def noA(as:List Nat)(env:DEnv):DEnv:=as.foldl (λe i=>e.set i .no) env
noncomputable def zaze(h:Nat)(as:List Nat)(f1 f2 f3:EF)(R1:SF)(c:TF)(ix:EF)(R2:SF):SF:=λenv=>
 (f1 (plE env)).bind λr1=>(f2 (plE env)).bind λr2=>(f3 (plE env)).bind λr3=>match r3.d with
 | .list ds=>if r3.fr=true/\h∉as then(R1 ((plE env).set h (.pl (.tuple [r1.d,r2.d,.list ds])))).bind λo=>match o with
  | .nx e=>if e.length=env.length/\h<env.length then(c e).bind λb=>if b=true then(ix e).bind λz=>(match z.d with
    | .int k=>if 0<=k/\k<100000/\k.toNat<ds.length then R2 ((noA as (plE env)).set h (.pl (.tuple [r1.d,r2.d,.list (ds.eraseIdx k.toNat)])))else none
    | _=>none)else R2 ((noA as (plE env)).set h (.pl (.tuple [r1.d,r2.d,.list ds])))else none
  | .rt d fr=>some (.rt d fr)
  | _=>none else none
 | _=>none
noncomputable def repD:OF
 | .list ds,.int n=>if 0<=n/\n<=100/\ds.length<=100 then some (.list (List.replicate n.toNat ds).flatten,true)else none
 | _,_=>none
theorem Rps.rep{H:Hp}{ds:List PyData}{vs:List V}(h:Rps H ds vs):∀(n:Nat),Rps H (List.replicate n ds).flatten (List.replicate n vs).flatten
 | 0=>zeb
 | n+1=>by
  rw[qAe,qAe,qAy,qAy]
  exact h.append (Rps.rep h n)
theorem zapt:SO rRep repD:=by
 intro A H x y dx dy hA rx ry d fr e Q q
 unfold repD at e
 split at e
 ·rename_i ds n
  split at e
  ·rename_i hl
   cases e
   obtain⟨a,xs,rfl,h1,r1⟩:=zfe rx
   cases zef ry
   have hlen:=r1.length
   refine⟨a,n,xs,rfl,rfl,zdm h1,by omega,by omega,?_,λp hp=>?_⟩
   ·refine zer ?_
    rw[<- hlen]
    calc ds.length * n.toNat<=100 * 100:=Nat.mul_le_mul hl.2.2 (by omega)
     _<=100000:=by decide
   ·have r:=r1.rep n.toNat
    exact q _ _ (Same.new hp) (zvh hp (zej hA hp) r) λ_=>⟨p,rfl,hp,zpj hp r⟩
  ·cases e
 ·cases e
end L2
namespace PySem
open Sem (wp)
section
variable{prog:Program}{w:World}{A:Around}{E:Value->Shared->Prop}{s:Shared}
variable{b1 b2 b3:Bool}{z TI TO i1 i2 i3 l1 l2 l3:Addr}{k:Nat}{xs ys zs:Array Value}
end
end PySem
namespace L2
open PySem PySem.Spec PyProof.Rows
end L2
namespace PySem
open Sem (wp)
end PySem
namespace L2
open PySem PySem.Spec PyProof.Rows
structure MvR(R:Addr->Prop)(H H':Hp):Prop where
 keep:∀b o,¬R b->H b=some o->H' b=some o
 live:∀b o,H b=some o->∃o',H' b=some o'
theorem MvR.same{R:Addr->Prop}{H H':Hp}(s:Same H H'):MvR R H H':=⟨λb o _ e=>s b o e,λb o e=>⟨o,s b o e⟩⟩
theorem MvR.trans{R:Addr->Prop}{H H1 H2:Hp}(a:MvR R H H1)(b:MvR R H1 H2):MvR R H H2:=⟨λx o n e=>b.keep x o n (a.keep x o n e),λx o e=>let⟨o',e'⟩:=a.live x o e;b.live x o' e'⟩
theorem MvR.free{R:Addr->Prop}{H H':Hp}(m:MvR R H H'){b:Addr}(h:H' b=none):H b=none:=by
 cases e:H b with
 | none=>rfl
 | some o=>obtain⟨o',e'⟩:=m.live b o e;rw[h]at e';cases e'
theorem MvR.offs{R A:Addr->Prop}{H H':Hp}(m:MvR R H H')(h:∀b,R b->A b):Same (Offs A H) (Offs A H'):=λb o e=>by
 obtain⟨n,e⟩:=Offs.of e
 rw[Offs.get n]
 exact m.keep b o (λz=>n (h b z)) e
structure Kind (T:Type) where
 at_:Hp->V->(Addr->Prop)->T->Prop
 live:∀{H v R st},at_ H v R st->∀b,R b->∃o,H b=some o
 stay:∀{H H' v R st},at_ H v R st->(∀b o,R b->H b=some o->H' b=some o)->at_ H' v R st
structure Has{T:Type}(k:Kind T)(f:Nat)(fx:Addr->Prop)(H0:Hp)(env:DEnv)(σ:St)(H:Hp)(v:V)(R:Addr->Prop)(st:T):Prop where
 ok:EnvOk fx H0 env σ H
 no:env[f]?=some .no
 sl:σ[f]?=some (some v)
 th:k.at_ H v R st
 off:∀b,R b->fx b
 low:∀b,R b->H0 b=none
section
variable{T:Type}{k:Kind T}{f:Nat}{fx:Addr->Prop}{H0:Hp}{env:DEnv}{σ:St}{H H':Hp}{v:V}{R:Addr->Prop}{st st':T}
theorem Has.up(h:Has k f fx H0 env σ H v R st)(s:Same H H'):Has k f fx H0 env σ H' v R st:=⟨h.ok.up s,h.no,h.sl,k.stay h.th λb o _ e=>s b o e,h.off,h.low⟩
theorem Has.mv(h:Has k f fx H0 env σ H v R st)(m:MvR R H H')(t:k.at_ H' v R st'):Has k f fx H0 env σ H' v R st':=by
 have so:Same (Offs (λa=>fx a\/own env σ a) H) (Offs (λa=>fx a\/own env σ a) H'):=m.offs λb z=>.inl (h.off b z)
 refine⟨⟨h.ok.len,λi d e=>?_,λi d e=>?_,h.ok.inj,λb o e=>m.keep b o (λz=>by rw[h.low b z]at e;cases e) (h.ok.base b o e),λb z=>?_⟩,h.no,h.sl,t,h.off,h.low⟩
 ·obtain⟨u,h1,h2⟩:=h.ok.pl i d e
  exact⟨u,h1,Rp.same so d h2⟩
 ·obtain⟨a,h1,h2,h3,h4⟩:=h.ok.ac i d e
  exact⟨a,h1,h2,h3,h4.same so λo z=>m.keep a o (λy=>h3 (h.off a y)) z⟩
 ·obtain⟨o,e⟩:=h.ok.fxs b z
  exact m.live b o e
theorem Has.val(h:Has k f fx H0 env σ H v R st){H1:Hp}(m:MvR R H1 H'){r:Val}{w:V}(l:∀b,R b->∃o,H b=some o)(q:ValOk (lim fx env σ r.bs) H H1 r w):ValOk (lim fx env σ r.bs) H H' r w:=by
 refine⟨Rp.same (m.offs λb z=>.inl (h.off b z)) _ q.rp,λe=>?_⟩
 obtain⟨a,h1,h2,h3⟩:=q.fr e
 refine⟨a,h1,h2,h3.same (m.offs λb z=>.inl (.inl (h.off b z))) λo z=>m.keep a o (λy=>?_) z⟩
 obtain⟨o',e'⟩:=l a y
 rw[h2]at e';cases e'
end
noncomputable abbrev EFr(T:Type):=DEnv->T->Option (Val×T)
noncomputable def SEr{T:Type}(k:Kind T)(f:Nat)(te:TE)(g:EFr T):Prop:=∀(fx:Addr->Prop)(H0:Hp)(env:DEnv)(σ:St)(H:Hp)(v:V)(R:Addr->Prop)(st:T),Has k f fx H0 env σ H v R st->∀r st',g env st=some (r,st')->∀Q:VK,
 (∀w H',MvR R H H'->Has k f fx H0 env σ H' v R st'->ValOk (lim fx env σ r.bs) H H' r w->Q w H')->te σ H Q
noncomputable abbrev AFr(T:Type):=DEnv->T->Option (List Val×T)
noncomputable def SAr{T:Type}(k:Kind T)(f:Nat)(ta:TA)(g:AFr T):Prop:=∀(fx:Addr->Prop)(H0:Hp)(env:DEnv)(σ:St)(H:Hp)(v:V)(R:Addr->Prop)(st:T),Has k f fx H0 env σ H v R st->∀rs st',g env st=some (rs,st')->∀Q:List V->Hp->Prop,
 (∀ws H',MvR R H H'->Has k f fx H0 env σ H' v R st'->Paired (λr w=>ValOk (lim fx env σ r.bs) H H' r w) rs ws->Q ws H')->ta σ H Q
noncomputable abbrev TFr(T:Type):=DEnv->T->Option (Bool×T)
noncomputable def STr{T:Type}(k:Kind T)(f:Nat)(tt:TT)(g:TFr T):Prop:=∀(fx:Addr->Prop)(H0:Hp)(env:DEnv)(σ:St)(H:Hp)(v:V)(R:Addr->Prop)(st:T),Has k f fx H0 env σ H v R st->∀b st',g env st=some (b,st')->∀Q:Bool->Hp->Prop,
 (∀H',MvR R H H'->Has k f fx H0 env σ H' v R st'->Q b H')->tt σ H Q
section
variable{T:Type}{k:Kind T}{f:Nat}
noncomputable def zap(g:EF):EFr T:=λenv st=>(g env).map λr=>(r,st)
theorem zan{te:TE}{g:EF}(h:SE te g):SEr k f te (zap g):=by
 intro fx H0 env σ H v R st hh r st' e Q q
 obtain⟨r',er,e⟩:=qG.mp e
 cases e
 exact h fx H0 env σ H hh.ok r er Q λw H' s hv=>q w H' (MvR.same s) (hh.up s) hv
noncomputable def rNil:AFr T:=λ_ st=>some ([],st)
theorem zby:SAr k f tNil rNil:=by
 intro fx H0 env σ H v R st hh rs st' e Q q
 cases e
 exact q [] H (MvR.same (Same.refl _)) hh .nil
noncomputable def zbo(a:EFr T)(g:AFr T):AFr T:=λenv st=>(a env st).bind λx=>(g env x.2).bind λy=>some (x.1::y.1,y.2)
theorem zbe{te:TE}{ta:TA}{a:EFr T}{g:AFr T}(h1:SEr k f te a)(h2:SAr k f ta g):SAr k f (tCons te ta) (zbo a g):=by
 intro fx H0 env σ H v R st hh rs st' e Q q
 unfold zbo at e
 obtain⟨⟨x,s1⟩,ex,e⟩:=qA.mp e
 obtain⟨⟨ys,s2⟩,ey,e⟩:=qA.mp e
 cases e
 exact h1 fx H0 env σ H v R st hh x s1 ex _ λw H1 m1 k1 v1=>h2 fx H0 env σ H1 v R s1 k1 ys s2 ey _ λws H2 m2 k2 v2=>q (w::ws) H2 (m1.trans m2) k2
  (.cons (hh.val m2 (k.live hh.th) v1) (Paired.mapP v2 λ_ _ z=>⟨z.rp,λe=>let⟨a,g1,g2,g3⟩:=z.fr e;⟨a,g1,m1.free g2,g3⟩⟩))
noncomputable def rOp(w:OF)(a b:EFr T):EFr T:=λenv st=>(a env st).bind λx=>(b env x.2).bind λy=>(w x.1.d y.1.d).bind λz=>some (⟨z.1,z.2,bsOf z.1 (x.1.bs++y.1.bs)⟩,y.2)
theorem zarv{H:Hp}{Ho:Hp}{a:Addr}{d:PyData}(h:zhp Ho H a d):zjy d=false:=by cases d<;>first|rfl|exact h.elim
theorem zdf{r:R2}{w:OF}{ta tb:TE}{fa fb:EFr T}(ho:SO r w)(ha:SEr k f ta fa)(hb:SEr k f tb fb):SEr k f (tOp r ta tb) (rOp w fa fb):=by
 intro fx H0 env σ H v R st hh rr st' hr Q q
 unfold rOp at hr
 obtain⟨⟨x,s1⟩,ex,hr⟩:=qA.mp hr
 obtain⟨⟨y,s2⟩,ey,hr⟩:=qA.mp hr
 obtain⟨⟨d,fr⟩,ez,hr⟩:=qA.mp hr
 cases hr
 refine ha fx H0 env σ H v R st hh x s1 ex _ λu H1 m1 k1 v1=>hb fx H0 env σ H1 v R s1 k1 y s2 ey _ λu2 H2 m2 k2 v2=>?_
 have l1:∀b,lim fx env σ (x.bs++y.bs) b->lim fx env σ x.bs b:=znk λi hi=>qAG _ hi
 have l2:∀b,lim fx env σ (x.bs++y.bs) b->lim fx env σ y.bs b:=znk λi hi=>qk _ hi
 have v1':=hh.val m2 (k.live hh.th) v1
 refine ho (lim fx env σ (x.bs++y.bs)) H2 u u2 x.d y.d (k2.ok.lims _) (v1'.later (Same.refl _) (Same.refl _) l1).rp (v2.later (Same.refl _) (Same.refl _) l2).rp d fr ez _ λz H3 s3 rp fr3=>q z H3 ((m1.trans m2).trans (MvR.same s3)) (k2.up s3) ⟨zph rp,λe=>?_⟩
 obtain⟨a,g1,g2,g3⟩:=fr3 e
 refine⟨a,g1,(m1.trans m2).free g2,?_⟩
 show zhp (Offs (λb=>lim fx env σ (bsOf d (x.bs++y.bs)) b\/b=a) H3) H3 a d
 rw[show bsOf d (x.bs++y.bs)=x.bs++y.bs by unfold bsOf;rw[if_neg (by rw[zarv g3];decide)]]
 exact g3
noncomputable def rCB(g:GF)(a:AFr T):EFr T:=λenv st=>(a env st).bind λx=>(g (zhq x.1)).bind λz=>some (⟨z.1,z.2,bsOf z.1 (bss x.1)⟩,x.2)
theorem zapu{r:List V->Hp->VK->Prop}{g:GF}{ta:TA}{a:AFr T}(hc:SC r g)(ha:SAr k f ta a):SEr k f (tCB r ta) (rCB g a):=by
 intro fx H0 env σ H v R st hh rr st' hr Q q
 unfold rCB at hr
 obtain⟨⟨rs,s1⟩,er,hr⟩:=qA.mp hr
 obtain⟨⟨d,fr⟩,ez,hr⟩:=qA.mp hr
 cases hr
 refine ha fx H0 env σ H v R st hh rs s1 er _ λvs H1 m1 k1 v1=>?_
 refine hc (lim fx env σ (bss rs)) H1 vs (zhq rs) (k1.ok.lims _) (zfi (λi hi=>hi) v1) d fr ez _ λw H3 s3 rp fr3=>q w H3 (m1.trans (MvR.same s3)) (k1.up s3) ⟨zph rp,λe=>?_⟩
 obtain⟨a,g1,g2,g3⟩:=fr3 e
 refine⟨a,g1,m1.free g2,?_⟩
 show zhp (Offs (λb=>lim fx env σ (bsOf d (bss rs)) b\/b=a) H3) H3 a d
 rw[show bsOf d (bss rs)=bss rs by unfold bsOf;rw[if_neg (by rw[zarv g3];decide)]]
 exact g3
noncomputable def rTup(a:AFr T):EFr T:=λenv st=>(a env st).bind λx=>if x.1.length<=100000 then some (⟨.tuple (zhq x.1),false,bss x.1⟩,x.2)else none
theorem zarw{ta:TA}{a:AFr T}(ha:SAr k f ta a):SEr k f (tTup ta) (rTup a):=by
 intro fx H0 env σ H v R st hh rr st' hr Q q
 unfold rTup at hr
 obtain⟨⟨rs,s1⟩,er,hr⟩:=qA.mp hr
 split at hr
 ·rename_i hl
  cases hr
  refine ha fx H0 env σ H v R st hh rs s1 er _ λvs H1 m1 k1 v1=>?_
  have r:=zfi (λi hi=>hi) v1
  have hA:=k1.ok.lims (bss rs)
  exact⟨zer (by rw[<- r.length,zga];exact hl),λp hp=>q _ _ (m1.trans (MvR.same (Same.new hp))) (k1.up (Same.new hp)) ⟨zli hp (zej hA hp) r,λz=>by cases z⟩⟩
 ·cases hr
noncomputable def rLst(a:AFr T):EFr T:=λenv st=>(a env st).bind λx=>if x.1.length<=100000 then some (⟨.list (zhq x.1),true,bss x.1⟩,x.2)else none
theorem zarx{ta:TA}{a:AFr T}(ha:SAr k f ta a):SEr k f (tLst ta) (rLst a):=by
 intro fx H0 env σ H v R st hh rr st' hr Q q
 unfold rLst at hr
 obtain⟨⟨rs,s1⟩,er,hr⟩:=qA.mp hr
 split at hr
 ·rename_i hl
  cases hr
  refine ha fx H0 env σ H v R st hh rs s1 er _ λvs H1 m1 k1 v1=>?_
  have r:=zfi (λi hi=>hi) v1
  have hA:=k1.ok.lims (bss rs)
  refine⟨zer (by rw[<- r.length,zga];exact hl),λp hp=>q _ _ (m1.trans (MvR.same (Same.new hp))) (k1.up (Same.new hp)) ⟨zvh hp (zej hA hp) r,λ_=>⟨p,rfl,m1.free hp,zpj hp r⟩⟩⟩
 ·cases hr
end
section
variable{J:Nat->Prop}{f:Nat}
end
section
variable{J:Nat->Prop}
end
section
variable{T:Type}{k:Kind T}{f:Nat}
noncomputable def zpp(c:TF):TFr T:=λenv st=>(c env).map λb=>(b,st)
theorem zmm{tt:TT}{c:TF}(h:ST tt c):STr k f tt (zpp c):=by
 intro fx H0 env σ H v R st hh b st' e Q q
 obtain⟨b',er,e⟩:=qG.mp e
 cases e
 exact h fx H0 env σ H hh.ok b er Q λH' s=>q H' (MvR.same s) (hh.up s)
noncomputable def qAnd(a b:TFr T):TFr T:=λenv st=>(a env st).bind λx=>if x.1=true then b env x.2 else some (false,x.2)
theorem zary{t u:TT}{a b:TFr T}(h:STr k f t a)(h2:STr k f u b):STr k f (tAnd t u) (qAnd a b):=by
 intro fx H0 env σ H v R st hh b' st' e Q q
 unfold qAnd at e
 obtain⟨⟨c,s1⟩,er,e⟩:=qA.mp e
 refine h fx H0 env σ H v R st hh c s1 er _ λH' m k1=>?_
 cases c with
 | true=>exact iteT (h2 fx H0 env σ H' v R s1 k1 b' st' e _ λH'' m' k2=>q H'' (m.trans m') k2)
 | false=>cases e;exact iteF (q H' m k1)
noncomputable def qB(g:EFr T):TFr T:=λenv st=>(g env st).bind λx=>match x.1.d with
 | .bool b=>some (b,x.2)
 | _=>none
theorem zarz{te:TE}{g:EFr T}(h:SEr k f te g):STr k f (tTest te) (qB g):=by
 intro fx H0 env σ H v R st hh b st' e Q q
 unfold qB at e
 obtain⟨⟨r,s1⟩,er,e⟩:=qA.mp e
 obtain⟨d,fr,bs⟩:=r
 cases d with
 | bool b'=>
  cases e
  exact h fx H0 env σ H v R st hh _ _ er _ λw H' m k1 hv=>⟨_,zlh hv.rp,q H' m k1⟩
 | _=>cases e
end
inductive OutR (T:Type) where
 | nx (env:DEnv) (st:T)
 | bk (env:DEnv) (st:T)
 | ct (env:DEnv) (st:T)
 | rt (d:PyData) (fr:Bool) (st:T)
noncomputable abbrev SFr(T:Type):=DEnv->T->Option (OutR T)
noncomputable def SatR{T:Type}(k:Kind T)(f:Nat)(fx:Addr->Prop)(H0:Hp)(D:Ends)(v:V)(R:Addr->Prop):OutR T->Prop
 | .nx env st=>∀σ H,Has k f fx H0 env σ H v R st->D.nx σ H
 | .bk env st=>∀σ H,Has k f fx H0 env σ H v R st->D.bk σ H
 | .ct env st=>∀σ H,Has k f fx H0 env σ H v R st->D.ct σ H
 | .rt d fr st=>∀w H,Same H0 H->(∀b,fx b->∃o,H b=some o)->k.at_ H v R st->zxi fx H0 d fr w H->(fr=true->∀a,w=.ref a->¬R a)->D.rt w H
noncomputable def SSr{T:Type}(k:Kind T)(f:Nat)(ts:TS)(F:SFr T):Prop:=∀(fx:Addr->Prop)(H0:Hp)(env:DEnv)(σ:St)(H:Hp)(v:V)(R:Addr->Prop)(st:T)(D:Ends),Has k f fx H0 env σ H v R st->∀o,F env st=some o->SatR k f fx H0 D v R o->ts D σ H
section
variable{T:Type}{k:Kind T}{f:Nat}{fx:Addr->Prop}{H0:Hp}{env:DEnv}{σ:St}{H H':Hp}{v:V}{R:Addr->Prop}{st st':T}
theorem Has.notOwn(h:Has k f fx H0 env σ H v R st){b:Addr}(hb:R b):¬own env σ b:=λ⟨i,d,h1,h2⟩=>by
 obtain⟨a,g1,g2,g3,g4⟩:=h.ok.ac i d h1
 rw[h2]at g1
 cases g1
 exact g3 (h.off _ hb)
noncomputable abbrev flr(env:DEnv)(σ:St)(R:Addr->Prop)(H:Hp):Hp:=Offs (λb=>own env σ b\/R b) H
theorem Has.rebase(h:Has k f fx H0 env σ H v R st):Has k f fx (flr env σ R H) env σ H v R st:=by
 refine⟨⟨h.ok.len,h.ok.pl,λi d e=>?_,h.ok.inj,Offs.same _ _,h.ok.fxs⟩,h.no,h.sl,h.th,h.off,λb hb=>Offs.out (.inr hb)⟩
 obtain⟨a,h1,h2,h3,h4⟩:=h.ok.ac i d e
 exact⟨a,h1,Offs.out (.inl ⟨i,d,e,h1⟩),h3,h4⟩
theorem Has.floor(h:Has k f fx H0 env σ H v R st):Same H0 (flr env σ R H):=λb o e=>by
 show Offs (λb=>own env σ b\/R b) H b=some o
 rw[Offs.get]
 ·exact h.ok.base b o e
 ·rintro(⟨i,d,h1,h2⟩|z)
  ·obtain⟨a,g1,g2,g3,g4⟩:=h.ok.ac i d h1
   rw[h2]at g1
   cases g1
   rw[g2]at e;cases e
  ·rw[h.low b z]at e;cases e
theorem Has.unbase{F:Hp}(h:Has k f fx F env σ H v R st)(s:Same H0 F):Has k f fx H0 env σ H v R st:=⟨h.ok.unbase s,h.no,h.sl,h.th,h.off,λb hb=>s.free (h.low b hb)⟩
theorem Has.seen{env':DEnv}{σ':St}(h:Has k f fx H0 env σ H v R st)(h':Has k f fx (flr env σ R H) env' σ' H' v R st'):Same (Offs (λb=>fx b\/own env σ b) H) (Offs (λb=>fx b\/own env' σ' b) H'):=λb o e=>by
 obtain⟨n,e⟩:=Offs.of e
 have hF:flr env σ R H b=some o:=by
  show Offs (λb=>own env σ b\/R b) H b=some o
  rw[Offs.get]
  ·exact e
  ·rintro(z|z)
   ·exact n (.inr z)
   ·exact n (.inl (h.off b z))
 rw[Offs.get]
 ·exact h'.ok.base b o hF
 ·rintro(z|⟨i,d,h1,h2⟩)
  ·exact n (.inl z)
  ·obtain⟨a,g1,g2,g3,g4⟩:=h'.ok.ac i d h1
   rw[h2]at g1
   cases g1
   rw[g2]at hF;cases hF
theorem zasa{env:DEnv}{i j:Nat}(h:env[j]?=some .no):(frz1 env i)[j]?=some .no:=by
 unfold frz1
 split
 ·rename_i d e
  rw[qV λz=>by subst z;rw[h]at e;cases e]
  exact h
 ·exact h
theorem zxq:∀(bs:List Nat){env:DEnv}{j:Nat},env[j]?=some .no->(frzs env bs)[j]?=some .no
 | [],_,_,h=>h
 | i::bs,_,_,h=>zxq bs (zasa h)
theorem zasb{r:Val}{i:Nat}(h:env[f]?=some .no)(hi:i≠f):(putV env i r)[f]?=some .no:=by
 unfold putV
 rw[qV hi]
 exact zxq _ h
theorem Has.put(hh:Has k f fx H0 env σ H v R st)(m:MvR R H H')(k1:Has k f fx H0 env σ H' v R st'){r:Val}{w:V}(hv:ValOk (lim fx env σ r.bs) H H' r w){i:Nat}(hi:i≠f):Has k f fx H0 (putV env i r) (σ.set i (some w)) H' v R st':=by
 classical
 let H1:Hp:=λb=>if R b then H b else H' b
 have hR:∀b,R b->H1 b=H b:=λb z=>if_pos z
 have hN:∀b,¬R b->H1 b=H' b:=λb z=>if_neg z
 have s1:Same H H1:=λb o e=>by
  by_cases z:R b
  ·rw[hR b z];exact e
  ·rw[hN b z];exact m.keep b o z e
 have nl:∀b,¬lim fx env σ r.bs b->¬R b:=λb n z=>n (.inl (hh.off b z))
 have v1:ValOk (lim fx env σ r.bs) H H1 r w:=by
  refine⟨Rp.same (λb o e=>?_) _ hv.rp,λe=>?_⟩
  ·obtain⟨n,e⟩:=Offs.of e
   rw[Offs.get n,hN b (nl b n)];exact e
  ·obtain⟨a,g1,g2,g3⟩:=hv.fr e
   have na:¬R a:=λz=>by obtain⟨o,eo⟩:=k.live hh.th a z;rw[g2]at eo;cases eo
   refine⟨a,g1,g2,g3.same (λb o e=>?_) λo e=>by rw[hN a na];exact e⟩
   obtain⟨n,e⟩:=Offs.of e
   rw[Offs.get n,hN b (nl b λz=>n (.inl z))];exact e
 have ok1:=hh.ok.put s1 v1 i
 have sl:(σ.set i (some w))[f]?=some (some v):=by rw[qV hi];exact hh.sl
 have h1:Has k f fx H0 (putV env i r) (σ.set i (some w)) H1 v R st:=⟨ok1,zasb hh.no hi,sl,k.stay hh.th λb o z e=>by rw[hR b z];exact e,hh.off,hh.low⟩
 refine h1.mv ⟨λb o z e=>by rw[hN b z]at e;exact e,λb o e=>?_⟩ k1.th
 by_cases z:R b
 ·exact k.live k1.th b z
 ·rw[hN b z]at e;exact⟨o,e⟩
end
section
variable{T:Type}{k:Kind T}{f:Nat}
noncomputable def rS(f:Nat)(F:SF):SFr T:=λenv st=>(F env).bind λo=>match o with
 | .nx e=>(match e[f]? with|some .no=>some (.nx e st)|_=>none)
 | .bk e=>(match e[f]? with|some .no=>some (.bk e st)|_=>none)
 | .ct e=>(match e[f]? with|some .no=>some (.ct e st)|_=>none)
 | .rt d fr=>some (.rt d fr st)
theorem zzv{ts:TS}{F:SF}(h:SSk (λj=>j=f) ts F):SSr k f ts (rS f F):=by
 intro fx H0 env σ H v R st D hh o e q
 unfold rS at e
 obtain⟨o1,e1,e⟩:=qA.mp e
 have fl:=hh.ok.floor
 have st':∀{env':DEnv}{σ':St}{H':Hp},EnvOk fx (Offs (own env σ) H) env' σ' H'->(∀j,j=f->σ'[j]?=σ[j]?)->env'[f]?=some .no->Has k f fx H0 env' σ' H' v R st:=λ{env' σ' H'} h' kp hn=>⟨h'.unbase fl,hn,(kp f rfl).trans hh.sl,k.stay hh.th λb o hb eb=>h'.base b o (by rw[Offs.get (hh.notOwn hb)];exact eb),hh.off,hh.low⟩
 refine h fx _ env σ H _ hh.ok.rebase o1 e1 ?_
 cases o1 with
 | nx e2=>
  dsimp only at e
  split at e
  ·rename_i hn;cases e;exact λσ' H' h' kp=>q σ' H' (st' h' kp hn)
  ·cases e
 | bk e2=>
  dsimp only at e
  split at e
  ·rename_i hn;cases e;exact λσ' H' h' kp=>q σ' H' (st' h' kp hn)
  ·cases e
 | ct e2=>
  dsimp only at e
  split at e
  ·rename_i hn;cases e;exact λσ' H' h' kp=>q σ' H' (st' h' kp hn)
  ·cases e
 | rt d fr=>
  cases e
  intro w H' s' rt
  have kp:∀b o,R b->H b=some o->H' b=some o:=λb o hb eb=>s' b o (by rw[Offs.get (hh.notOwn hb)];exact eb)
  have lv:∀b,fx b->∃o,H' b=some o:=λb hb=>by
   obtain⟨o,eo⟩:=hh.ok.fxs b hb
   have no:¬own env σ b:=λ⟨i,d,h1,h2⟩=>by
    obtain⟨a,g1,g2,g3,g4⟩:=hh.ok.ac i d h1
    rw[h2]at g1
    cases g1
    exact g3 hb
   exact⟨o,s' b o (by rw[Offs.get no];exact eo)⟩
  refine q w H' (fl.trans s') lv (k.stay hh.th kp) (rt.unbase fl) λhfr a ew hR=>?_
  obtain⟨a',g1,g2,_⟩:=rt.2 hfr
  rw[ew]at g1
  cases g1
  obtain⟨o,eo⟩:=k.live hh.th a hR
  rw[Offs.get (hh.notOwn hR),eo]at g2;cases g2
noncomputable def rSeq(a b:SFr T):SFr T:=λenv st=>(a env st).bind λo=>match o with
 | .nx e s=>b e s
 | o=>some o
theorem zbc{t u:TS}{a b:SFr T}(h1:SSr k f t a)(h2:SSr k f u b):SSr k f (tSeq t u) (rSeq a b):=by
 intro fx H0 env σ H v R st D hh o e q
 unfold rSeq at e
 obtain⟨o1,e1,e⟩:=qA.mp e
 refine h1 fx H0 env σ H v R st _ hh o1 e1 ?_
 cases o1 with
 | nx e2 s2=>exact λσ' H' h'=>h2 fx H0 e2 σ' H' v R s2 D h' o e q
 | bk e2 s2=>cases e;exact q
 | ct e2 s2=>cases e;exact q
 | rt d fr s2=>cases e;exact q
noncomputable def rSet(i:Nat)(g:EFr T):SFr T:=λenv st=>(g env st).map λx=>.nx (putV env i x.1) x.2
theorem zcc{te:TE}{g:EFr T}{i:Nat}(h1:SEr k f te g)(hi:i≠f):SSr k f (tAsg te (gName i)) (rSet i g):=by
 intro fx H0 env σ H v R st D hh o e q
 obtain⟨⟨r,s1⟩,er,rfl⟩:=qG.mp e
 exact h1 fx H0 env σ H v R st hh r s1 er _ λw H' m k1 hv=>q _ H' (hh.put m k1 hv hi)
noncomputable def rIf(c:TFr T)(a b:SFr T):SFr T:=λenv st=>(c env st).bind λx=>if x.1=true then a env x.2 else b env x.2
theorem zqm{tc:TT}{t u:TS}{c:TFr T}{a b:SFr T}(hc:STr k f tc c)(h1:SSr k f t a)(h2:SSr k f u b):SSr k f (tIfS tc t u) (rIf c a b):=by
 intro fx H0 env σ H v R st D hh o e q
 unfold rIf at e
 obtain⟨⟨b',s1⟩,eb,e⟩:=qA.mp e
 refine hc fx H0 env σ H v R st hh b' s1 eb _ λH' m k1=>?_
 cases b' with
 | true=>exact iteT (h1 fx H0 env σ H' v R s1 D k1 o e q)
 | false=>exact iteF (h2 fx H0 env σ H' v R s1 D k1 o e q)
noncomputable def rNx:SFr T:=λenv st=>some (.nx env st)
theorem zln:SSr k f tNext rNx:=by
 intro fx H0 env σ H v R st D hh o e q
 cases e
 exact q σ H hh
noncomputable def rRet(g:EFr T):SFr T:=λenv st=>(g env st).map λx=>.rt x.1.d x.1.fr x.2
theorem zsz{te:TE}{g:EFr T}(h1:SEr k f te g):SSr k f (tRet te) (rRet g):=by
 intro fx H0 env σ H v R st D hh o e q
 obtain⟨⟨r,s1⟩,er,rfl⟩:=qG.mp e
 refine h1 fx H0 env σ H v R st hh r s1 er _ λw H' m k1 hv=>q w H' k1.ok.base k1.ok.fxs k1.th ⟨Rp.same (Offs.sub λb z=>.inl z) _ hv.rp,λe=>?_⟩ λhfr a ew hR=>?_
 ·obtain⟨a,g1,g2,g3⟩:=hv.fr e
  exact⟨a,g1,hh.ok.base.free g2,g3.same (Offs.sub λb y=>y.imp .inl id) λo z=>z⟩
 ·obtain⟨a',g1,g2,_⟩:=hv.fr hfr
  rw[ew]at g1
  cases g1
  obtain⟨o,eo⟩:=k.live hh.th a hR
  rw[g2]at eo;cases eo
noncomputable def rApp(i:Nat)(g:EFr T):SFr T:=λenv st=>match env[i]? with
 | some (.ac (.list ds))=>(g env st).bind λx=>if ds.length<100000/\i∉x.1.bs then some (.nx ((frzs env x.1.bs).set i (.ac (.list (ds++[x.1.d])))) x.2)else none
 | _=>none
theorem zpq{K:qC}{i:Nat}{te:TE}{g:EFr T}(h1:SEr k f te g):SSr k f (tDrop (tBM K "list" zacb (tVar i) (tCons te tNil))) (rApp i g):=by
 intro fx H0 env σ H v R st D hh o e q
 unfold rApp at e
 split at e
 ·rename_i ds ei
  obtain⟨⟨r,s1⟩,er,e⟩:=qA.mp e
  dsimp only at e
  split at e
  ·rename_i hl
   cases e
   have hif:i≠f:=λz=>by rw[z,hh.no]at ei;cases ei
   obtain⟨a,g1,g2,g3,g4⟩:=hh.ok.ac i _ ei
   obtain⟨xs0,hx0,_⟩:=g4
   refine⟨_,g1,.inl ⟨rfl,_,SqL.of hx0⟩,h1 fx H0 env σ H v R st hh r s1 er _ λw H' m k1 hv=>?_⟩
   have h':=k1.ok.frzs r.bs
   have ei':=zix hl.2 ei
   obtain⟨a',z1,_,z3,z4⟩:=h'.ac i _ ei'
   rw[g1]at z1
   cases z1
   obtain⟨xs,hx',rx'⟩:=z4
   refine⟨a,xs,w,rfl,rfl,hx',zpi (by rw[<- rx'.length];exact hl.1),?_⟩
   refine q σ _ ⟨h'.mut ei' g1 ⟨_,zau,rx'.append (zew (Rp.same (Offs.sub zfj) _ hv.rp) zeb)⟩,?_,hh.sl,k.stay k1.th λb o hb eb=>?_,hh.off,hh.low⟩
   ·rw[qV hif];exact zxq _ hh.no
   ·rw[zav λz=>g3 (by rw[<- z];exact hh.off b hb)];exact eb
  ·cases e
 ·cases e
noncomputable abbrev IFr(T:Type):=DEnv->T->Option (List PyData×List Nat×T)
noncomputable def SIr(k:Kind T)(f:Nat)(wi:TI)(g:IFr T):Prop:=∀(fx:Addr->Prop)(H0:Hp)(env:DEnv)(σ:St)(H:Hp)(v:V)(R:Addr->Prop)(st:T),Has k f fx H0 env σ H v R st->∀ds bs st',g env st=some (ds,bs,st')->∀Rk:It->Hp->Prop,
 (∀J H1,MvR R H H1->Has k f fx H0 env σ H1 v R st'->Yl (λb=>fx b\/own (frzs env bs) σ b) H1 J ds->Rk J H1)->wi σ H Rk
noncomputable def rIP(g:IF'):IFr T:=λenv st=>(g env).map λz=>(z.1,z.2,st)
theorem zafa{wi:TI}{g:IF'}(h:SI wi g):SIr k f wi (rIP g):=by
 intro fx H0 env σ H v R st hh ds bs st' e Rk q
 obtain⟨⟨d1,b1⟩,er,e⟩:=qG.mp e
 cases e
 exact h fx H0 env σ H hh.ok _ _ er Rk λJ H1 s y=>q J H1 (MvR.same s) (hh.up s) y
noncomputable def zxr(g:GT)(body:SFr T):List PyData->DEnv->T->Option (OutR T)
 | [],env,st=>some (.nx env st)
 | d::ds,env,st=>(g d env).bind λe1=>(body e1 st).bind λo=>match o with
  | .nx e2 s2=>zxr g body ds e2 s2
  | .ct e2 s2=>zxr g body ds e2 s2
  | .bk e2 s2=>some (.nx e2 s2)
  | .rt d fr s2=>some (.rt d fr s2)
noncomputable def rFor(it:IFr T)(g:GT)(body:SFr T):SFr T:=λenv st=>(it env st).bind λz=>zxr g body z.1 (frzs env z.2.1) z.2.2
noncomputable def GTno(f:Nat)(g:GT):Prop:=∀d env env',g d env=some env'->env[f]?=some .no->env'[f]?=some .no
theorem zoh{i:Nat}(h:i≠f):GTno f (gN i):=λd env env' e hn=>by
 cases e
 rw[qV h];exact hn
theorem zta{wi:TI}{g:TG}{tb:TS}{it:IFr T}{gf:GT}{body:SFr T}(h1:SIr k f wi it)(h2:SGk (λj=>j=f) g gf)(h2n:GTno f gf)(h3:SSr k f tb body):SSr k f (tFor wi g tb) (rFor it gf body):=by
 intro fx H0 env σ H v R st D hh o e q
 unfold rFor at e
 obtain⟨⟨ds,bs,s0⟩,er,e⟩:=qA.mp e
 refine h1 fx H0 env σ H v R st hh ds bs s0 er _ λJ H1 m0 k0 yl=>?_
 have hE:Has k f fx H0 (frzs env bs) σ H1 v R s0:=⟨k0.ok.frzs bs,zxq _ k0.no,k0.sl,k0.th,k0.off,k0.low⟩
 have fl:=hE.floor
 refine⟨λi n σ' H'=>n=ds.length - i/\i<=ds.length/\∃env' st',zxr gf body (ds.drop i) env' st'=some o/\Has k f fx (flr (frzs env bs) σ R H1) env' σ' H' v R st',⟨ds.length,rfl,qAr _,_,_,e,hE.rebase⟩,?_⟩
 rintro i n σ' H' ⟨rfl,hi,env',st',e',h'⟩
 obtain⟨yi,ys⟩:=yl _ H' h'.ok.all (hE.seen h')
 by_cases hlt:i<ds.length
 ·obtain⟨yg,yy⟩:=yi i ds[i] (qS hlt)
  refine .inr ⟨yg,λσ'' H''=>i+1<=ds.length/\∃env'' st'',zxr gf body (ds.drop (i+1)) env'' st''=some o/\Has k f fx (flr (frzs env bs) σ R H1) env'' σ'' H'' v R st'',?_,?_⟩
  ·rintro σ'' H'' ⟨hle,env'',st'',e'',h''⟩
   exact⟨ds.length - (i+1),by omega,rfl,hle,env'',st'',e'',h''⟩
  ·intro x H'' hy
   obtain⟨sy,ry⟩:=yy x H'' hy
   rw[qAa hlt]at e'
   obtain⟨e1,ee1,e'⟩:=qA.mp e'
   obtain⟨o1,eo1,e'⟩:=qA.mp e'
   have hu:=h'.up sy
   refine h2 fx _ env' σ' H'' _ x hu.ok ry e1 ee1 _ λσ2 h2' k2=>h3 fx _ e1 σ2 H'' v R st' _ ⟨h2',h2n _ _ _ ee1 hu.no,(k2 f rfl).trans hu.sl,hu.th,hu.off,hu.low⟩ o1 eo1 ?_
   cases o1 with
   | nx e2 s2=>exact λσ3 H3 hq=>⟨hlt,e2,s2,e',hq⟩
   | ct e2 s2=>exact λσ3 H3 hq=>⟨hlt,e2,s2,e',hq⟩
   | bk e2 s2=>cases e';exact λσ3 H3 hq=>q σ3 H3 (hq.unbase fl)
   | rt d fr s2=>cases e';exact λw H3 sh l t rt nr=>q w H3 (fl.trans sh) l t (rt.unbase fl) nr
 ·have hi':i=ds.length:=by omega
  subst hi'
  rw[qA7]at e'
  cases e'
  exact .inl ⟨ys,q σ' H' (h'.unbase fl)⟩
end
noncomputable abbrev GR(T:Type):=List PyData->T->Option (PyData×Bool×T)
noncomputable def spR{T:Type}(k:Kind T)(n:Nat)(g:GR T):Sp:=λvs H Q _=>∃(fx:Addr->Prop)(v:V)(vs':List V)(ds:List PyData)(R:Addr->Prop)(st:T)(d:PyData)(fr:Bool)(st':T),vs=v::vs'/\ds.length+1=n/\(∀b,fx b->∃o,H b=some o)/\(∀b,R b->fx b)/\k.at_ H v R st/\Rps (Offs fx H) ds vs'/\g ds st=some (d,fr,st')/\
 ∀w H',MvR R H H'->k.at_ H' v R st'->zxi fx H d fr w H'->Q w H'
theorem zxs{T:Type}{k:Kind T}{n:Nat}{g:GR T}{vs:List V}{H:Hp}{Q:VK}{E:XK}(h:spR k n g vs H Q E):vs.length=n:=by
 obtain⟨fx,v,vs',ds,R,st,d,fr,st',rfl,hn,_,_,_,r,_⟩:=h
 rw[qw,<- r.length];exact hn
section
variable{T:Type}{k:Kind T}{f:Nat}
noncomputable def zbi(n:Nat)(g:GR T)(a:AFr T):EFr T:=λenv st=>(a env st).bind λx=>if x.1.length+1=n then(g (zhq x.1) x.2).bind λz=>some (⟨z.1,z.2.1,bsOf z.1 (bss x.1)⟩,z.2.2)else none
theorem zbr{n:Nat}{g:GR T}{ta:TA}{a:AFr T}(ha:SAr k f ta a):SEr k f (tCall (spR k n g) [] E0 (tCons (tVar f) ta)) (zbi n g a):=by
 intro fx H0 env σ H v R st hh rr st' hr Q q
 unfold zbi at hr
 obtain⟨⟨rs,s1⟩,er,hr⟩:=qA.mp hr
 split at hr
 ·rename_i hn
  obtain⟨⟨d,fr,s2⟩,ez,hr⟩:=qA.mp hr
  cases hr
  refine⟨v,hh.sl,ha fx H0 env σ H v R st hh rs s1 er _ λvs H1 m1 k1 v1=>?_⟩
  show spR k n g ((v::vs)++[]) H1 Q E0
  rw[qAC]
  refine⟨lim fx env σ (bss rs),v,vs,zhq rs,R,s1,d,fr,_,rfl,by rw[zga];exact hn,k1.ok.lims _,λb hb=>.inl (hh.off b hb),k1.th,zfi (λi hi=>hi) v1,ez,λw H3 m3 t3 ⟨rp,fr3⟩=>q w H3 (m1.trans m3) (k1.mv m3 t3) ⟨zph rp,λe=>?_⟩⟩
  obtain⟨a,g1,g2,g3⟩:=fr3 e
  refine⟨a,g1,m1.free g2,?_⟩
  show zhp (Offs (λb=>lim fx env σ (bsOf d (bss rs)) b\/b=a) H3) H3 a d
  rw[show bsOf d (bss rs)=bss rs by unfold bsOf;rw[if_neg (by rw[zarv g3];decide)]]
  exact g3
 ·cases hr
noncomputable def ztb(n:Nat)(ds:List PyData):DEnv:=.no::ziy (n - 1) ds
noncomputable def fnR(n:Nat)(F:SFr T):GR T:=λds st=>match F (ztb n ds) st with
 | some (.rt d fr s)=>some (d,fr,s)
 | some (.nx _ s)=>some (.none,false,s)
 | _=>none
theorem zzw{fx:Addr->Prop}{H:Hp}{N:List Str}{v:V}{ds:List PyData}{vs:List V}{R:Addr->Prop}{st:T}(hN:0<N.length)(hf:∀b,fx b->∃o,H b=some o)(hR:∀b,R b->fx b)(t:k.at_ H v R st)(r:Rps (Offs fx H) ds vs) :
  Has k 0 fx (Offs R H) (ztb N.length ds) (zhg N (v::vs)) H v R st:=by
 obtain⟨x,N',rfl⟩:∃x N',N=x::N':=by
  cases N with
  | nil=>cases hN
  | cons x N'=>exact⟨x,N',rfl⟩
 have e0:=zjj (N:=N') hf r
 have es:zhg (x::N') (v::vs)=some v::zhg N' vs:=by
  unfold zhg
  rw[qf,qCN]
  congr 3
  simp
 have no:∀(i:Nat)(d:PyData),(ztb (x::N').length ds)[i]?≠some (Sl.ac d):=λi d e=>by
  cases i with
  | zero=>cases e
  | succ i=>
   have e:(ziy N'.length ds)[i]?=some (Sl.ac d):=e
   rcases zsq e with⟨d',_,z⟩|z<;>cases z
 have ow:∀b,¬own (ztb (x::N').length ds) (zhg (x::N') (v::vs)) b:=λb ⟨i,d,h1,_⟩=>no i d h1
 rw[es]at ow ⊢
 refine⟨⟨?_,λi d e=>?_,λi d e=>absurd e (no i d),λi j d e a h1=>absurd h1 (no i d),Offs.same _ _,hf⟩,rfl,rfl,t,hR,λb hb=>Offs.out hb⟩
 ·show(ziy N'.length ds).length+1=(zhg N' vs).length+1
  rw[e0.len]
 ·cases i with
  | zero=>cases e
  | succ i=>
   obtain⟨u,h1,h2⟩:=e0.pl i d e
   exact⟨u,h1,Rp.same (Offs.sub λb z=>z.elim .inl λy=>absurd y (ow b)) _ h2⟩
theorem fn_r{N:List Str}{n:Nat}{F:SFr T}{t:TS}(hN:0<N.length)(hs:SSr k 0 t F){vs:List V}{H:Hp}{Q:VK}{E:XK}(h:spR k n (fnR N.length F) vs H Q E):t {nx:=λ_ H'=>Q .non H',rt:=Q} (zhg N vs) H:=by
 obtain⟨fx,v,vs',ds,R,st,d,fr,st',rfl,hn,hf,hR,ht,r,g,q⟩:=h
 have hh:=zzw (N:=N) (k:=k) hN hf hR ht r
 have mv:∀{H':Hp},Same (Offs R H) H'->(∀b,fx b->∃o,H' b=some o)->MvR R H H':=λ{H'} s l=>⟨λb o nb e=>s b o (by rw[Offs.get nb];exact e),λb o e=>by
  by_cases z:R b
  ·exact l b (hR b z)
  ·exact⟨o,s b o (by rw[Offs.get z];exact e)⟩⟩
 unfold fnR at g
 split at g
 ·rename_i d' fr' s' eo
  cases g
  refine hs fx _ _ _ H v R st _ hh _ eo λw H' s l t rt nr=>q w H' (mv s l) t ⟨rt.1,λe=>?_⟩
  obtain⟨a,g1,g2,g3⟩:=rt.2 e
  refine⟨a,g1,?_,g3⟩
  rw[Offs.get (nr e a g1)]at g2
  exact g2
 ·rename_i e' s' eo
  cases g
  exact hs fx _ _ _ H v R st _ hh _ eo λσ H' h'=>q .non H' (mv h'.ok.base h'.ok.fxs) h'.th ⟨zgk,λz=>by cases z⟩
 ·cases g
noncomputable def zgm(a:AFr T):IFr T:=λenv st=>(a env st).bind λx=>match x.1 with
 | [⟨.int j,_,_⟩]=>if -(2 ^ 62)<=j/\j<2 ^ 62 then some (zql 0 j.toNat,[],x.2)else none
 | _=>none
theorem zpr{ta:TA}{a:AFr T}(h1:SAr k f ta a):SIr k f (iRng1 ta) (zgm a):=by
 intro fx H0 env σ H v R st hh ds bs st' e Rk q
 unfold zgm at e
 obtain⟨⟨rs,s1⟩,er,e⟩:=qA.mp e
 dsimp only at e
 split at e
 ·split at e
  ·rename_i hj
   cases e
   refine h1 fx H0 env σ H v R st hh _ _ er _ λvs H1 m k1 hv=>?_
   cases hv with
   | cons hv t=>
    cases t
    cases zef hv.rp
    exact⟨_,rfl,hj.1,hj.2,q _ H1 m k1 zaev⟩
  ·cases e
 ·cases e
end
section
variable{f:Nat}
end
section
variable{J:Nat->Prop}{f:Nat}
noncomputable def SGks(J:Nat->Prop)(g:TGs)(f:GTs):Prop:=∀(fx:Addr->Prop)(H0:Hp)(env:DEnv)(σ:St)(H:Hp)(ds:List PyData)(vs:List V),EnvOk fx H0 env σ H->Rps (Offs (λa=>fx a\/own env σ a) H) ds vs->∀env',f ds env=some env'->∀Q:St->Hp->Prop,
 (∀σ',EnvOk fx H0 env' σ' H->(∀j,J j->σ'[j]?=σ[j]?)->Q σ' H)->g vs σ H Q
theorem zanm:SGks J gNil zdn:=by
 intro fx H0 env σ H ds vs h r env' e Q q
 cases ds with
 | nil=>cases e;unfold Rps at r;exact⟨r,q _ h λ_ _=>rfl⟩
 | cons _ _=>cases e
theorem zzx{i:Nat}{t:TGs}{g:GTs}(hJ:¬J i)(h1:SGks J t g):SGks J (gCons (gName i) t) (zas i g):=by
 intro fx H0 env σ H ds vs h r env' e Q q
 cases ds with
 | nil=>cases e
 | cons d ds=>
  unfold Rps at r
  obtain⟨v,ws,rfl,r1,r2⟩:=r
  refine⟨v,ws,rfl,h1 fx H0 (env.set i (.pl d)) _ H ds ws (h.setPl i r1) (Rps.same (Offs.sub λb z=>z.imp (λy=>y) (zacn b)) _ r2) env' e Q λσ' k1 k2=>q σ' k1 λj hj=>(k2 j hj).trans (qV λz=>hJ (by rw[z];exact hj))⟩
theorem zasc{K:qC}{n:Nat}{t:TGs}{g:GTs}(h1:SGks J t g):SGk J (gTup K n t) (gT n g):=by
 intro fx H0 env σ H d v h r env' e Q q
 unfold gT at e
 cases d with
 | tuple ds=>
  have e:(if ds.length=n then g ds env else none)=some env':=e
  split at e
  ·rename_i hn
   obtain⟨a,xs,rfl,ha,rs⟩:=zdc r
   exact⟨a,xs,rfl,SqT.of (zdm ha),by rw[<- rs.length];exact hn,h1 fx H0 env σ H ds xs h rs env' e Q q⟩
  ·cases e
 | _=>cases e
end
section
variable{own:List Str}{fr:List Nat}{f k:Nat}{env:DEnv}
end
section
variable{T:Type}{k:Kind T}{f:Nat}
noncomputable def zlo(g:GT)(t:TF)(e:EFr T)(env:DEnv):List PyData->T->Option (List PyData×T)
 | [],st=>some ([],st)
 | d::ds,st=>(g d env).bind λe1=>(t e1).bind λb=>if b=true then(e e1 st).bind λx=>(zlo g t e env ds x.2).map λy=>(x.1.d::y.1,y.2)else zlo g t e env ds st
noncomputable def zajp(own:List Str)(fr:List Nat)(it:IFr T)(g:GT)(t:TF)(e:EFr T):EFr T:=λenv st=>(it env st).bind λz=>if z.1.length<100000 then
 (zlo g t e (envB own fr env) z.1 z.2.2).map λy=>(⟨.list y.1,true,if zfp y.1=true then[]else z.2.1++capA fr env⟩,y.2)else none
theorem zasd{own:List Str}{fr:List Nat}{env:DEnv}{kk:Nat}(hk:fr[kk]?=some f)(hn:env[f]?=some .no):(envB own fr env)[own.length+kk]?=some .no:=by
 unfold envB
 rw[qAA (by simp)]
 simp only[qE,qCo,qr,hk,qBA]
 rw[qi,hn];rfl
theorem zann{own:List Str}{fr:List Nat}{kk:Nat}{wi:TI}{g:TG}{tt:TT}{te:TE}{it:IFr T}{gf:GT}{t:TF}{e:EFr T}(hk:fr[kk]?=some f)(h1:SIr k f wi it)(h2:SGk (λj=>own.length<=j) g gf)(hx:GX own.length gf)(h3:ST tt t)(h4:SEr k (own.length+kk) te e) :
  SEr k f (tComp1 wi g tt te own fr) (zajp own fr it gf t e):=by
 intro fx H0 env σ H v R st hh rr st' hr Q q
 unfold zajp at hr
 obtain⟨⟨ds,bs,s0⟩,ei,hr⟩:=qA.mp hr
 split at hr
 ·rename_i hlen
  have hlen:ds.length<100000:=hlen
  obtain⟨⟨rs,sE⟩,ers,hr⟩:=qG.mp hr
  cases hr
  refine h1 fx H0 env σ H v R st hh ds bs s0 ei _ λJ H1 m0 k0 yl=>λp hp=>?_
  have pR:¬R p:=λz=>by obtain⟨o,eo⟩:=k.live k0.th p z;rw[hp]at eo;cases eo
  have hB:=zsr k0.ok (Same.refl H1) hp own fr bs
  generalize hA:(λb=>lim fx env σ (bs++capA fr env) b)=A
  have hA':∀b,lim fx env σ (bs++capA fr env) b↔A b:=λb=>by rw[<- hA]
  have eA:(λb=>lim fx env σ (bs++capA fr env) b\/b=p)=λb=>A b\/b=p:=by rw[<- hA]
  rw[eA]at hB
  have RA:∀b,R b->A b\/b=p:=λb z=>.inl ((hA' b).mp (.inl (hh.off b z)))
  have hB:Has k (own.length+kk) (λb=>A b\/b=p) (Offs R H1) (envB own fr env) (tau own fr σ) (upd H1 p (.lst [])) v R s0:=⟨hB.unbase (Offs.same _ _),zasd hk hh.no,zacp hk hh.sl,k.stay k0.th λb o z eo=>by rw[zav λy=>pR (by rw[<- y];exact z)];exact eo,RA,λb z=>Offs.out z⟩
  have nA:¬A p:=λz=>by
   obtain⟨o,eo⟩:=k0.ok.lims _ p ((hA' p).mpr z)
   rw[hp]at eo;cases eo
  have seen:∀{σ':St}{H':Hp}{s':T},Has k (own.length+kk) (λb=>A b\/b=p) (Offs R H1) (envB own fr env) σ' H' v R s'->Same (Offs (λb=>fx b\/L2.own (frzs env bs) σ b) H1) (Offs (λb=>A b\/b=p) H'):=λ{σ' H' s'} hE b o eb=>by
   obtain⟨n,eb⟩:=Offs.of eb
   have hb:H' b=some o:=hE.ok.base b o (by rw[Offs.get λz=>n (.inl (hh.off b z))];exact eb)
   rw[Offs.get]
   ·exact hb
   ·rintro(z|z)
    ·rcases(hA' b).mpr z with z|⟨i,d,z1,z2,z3⟩
     ·exact n (.inl z)
     ·exact n (.inr ⟨i,d,zix (λy=>z1 (qAG _ y)) z2,z3⟩)
    ·rw[z,hp]at eb;cases eb
  refine⟨λi m σ' H'=>m=ds.length - i/\i<=ds.length/\∃vs done rest s',H' p=some (.lst vs)/\Rps (Offs (λb=>A b\/b=p) H') done vs/\done.length<=i/\zlo gf t e (envB own fr env) (ds.drop i) s'=some (rest,sE)/\done++rest=rs/\Has k (own.length+kk) (λb=>A b\/b=p) (Offs R H1) (envB own fr env) σ' H' v R s',
   ⟨ds.length,rfl,qAr _,[],[],rs,s0,zau,zeb,qAr _,ers,rfl,hB⟩,?_⟩
  rintro i m σ' H' ⟨rfl,hi,vs,done,rest,s',ep,rd,dl,ec,edr,hE⟩
  obtain⟨yi,ys⟩:=yl _ H' hE.ok.fxs (seen hE)
  by_cases hlt:i<ds.length
  ·obtain⟨yg,yy⟩:=yi i ds[i] (qS hlt)
   refine .inr ⟨yg,λσ'' H''=>i+1<=ds.length/\∃vs done rest s'',H'' p=some (.lst vs)/\Rps (Offs (λb=>A b\/b=p) H'') done vs/\done.length<=i+1/\zlo gf t e (envB own fr env) (ds.drop (i+1)) s''=some (rest,sE)/\done++rest=rs/\Has k (own.length+kk) (λb=>A b\/b=p) (Offs R H1) (envB own fr env) σ'' H'' v R s'',?_,?_⟩
   ·rintro σ'' H'' ⟨hle,hq⟩
    exact⟨ds.length - (i+1),by omega,rfl,hle,hq⟩
   ·intro x H'' hy
    obtain⟨sy,ry⟩:=yy x H'' hy
    rw[qAa hlt]at ec
    obtain⟨e1,ee1,ec⟩:=qA.mp ec
    obtain⟨b,eb,ec⟩:=qA.mp ec
    have ry':Rp (Offs (λa=>(A a\/a=p)\/L2.own (envB own fr env) σ' a) H'') ds[i] x:=Rp.same (Offs.sub λb z=>z.elim (λy=>y) λ⟨j,d',z,_⟩=>absurd z zio) _ ry
    have hU:=hE.up sy
    obtain⟨gl,gk⟩:=hx _ _ _ ee1
    refine h2 _ (Offs R H1) (envB own fr env) σ' H'' _ x hU.ok ry' e1 ee1 _ λσ2 hE2 k2=>?_
    refine h3 _ (Offs R H1) e1 σ2 H'' hE2 b eb _ λH3 s3=>?_
    have hE3:Has k (own.length+kk) (λb=>A b\/b=p) (Offs R H1) e1 σ2 H3 v R s':=⟨hE2.up s3,by rw[gk _ (by omega)];exact hU.no,(k2 _ (by omega)).trans hU.sl,(hU.up s3).th,hU.off,hU.low⟩
    have back:∀{H4:Hp}{s4:T},Has k (own.length+kk) (λb=>A b\/b=p) (Offs R H1) e1 σ2 H4 v R s4->Has k (own.length+kk) (λb=>A b\/b=p) (Offs R H1) (envB own fr env) σ2 H4 v R s4:=λ{H4 s4} hq=>⟨hq.ok.weaken gl.symm (λj d' ej=>by
     by_cases hj:own.length<=j
     ·rw[gk j hj];exact ej
     ·obtain⟨_,k,rfl,_⟩:=zrt ej;omega) λj d'=>zio,hU.no,hq.sl,hq.th,hq.off,hq.low⟩
    cases b with
    | false=>
     have ec:zlo gf t e (envB own fr env) (ds.drop (i+1)) s'=some (rest,sE):=ec
     exact iteF ⟨hlt,vs,done,rest,s',s3 _ _ (sy _ _ ep),Rps.same (Offs.grow (sy.trans s3)) _ rd,qBW dl,ec,edr,back hE3⟩
    | true=>
     have ec:((e e1 s').bind λx=>(zlo gf t e (envB own fr env) (ds.drop (i+1)) x.2).map λy=>(x.1.d::y.1,y.2))=some (rest,sE):=ec
     obtain⟨⟨r,s4⟩,er,ec⟩:=qA.mp ec
     obtain⟨⟨rest',sE'⟩,er',ec⟩:=qG.mp ec
     cases ec
     refine iteT (h4 _ (Offs R H1) e1 σ2 H3 v R s' hE3 r s4 er _ λw H4 m4 k4 hv=>?_)
     have t3:=sy.trans s3
     have ep4:H4 p=some (.lst vs):=m4.keep p _ pR (t3 _ _ ep)
     have so:Same (Offs (λb=>A b\/b=p) H') (Offs (λb=>A b\/b=p) H4):=λb o eb=>by
      obtain⟨n,eb⟩:=Offs.of eb
      rw[Offs.get n]
      exact m4.keep b o (λz=>n (RA b z)) (t3 _ _ eb)
     have k5:=back k4
     refine⟨vs,ep4,zpi (by rw[<- rd.length];omega),hlt,vs++[w],done++[r.d],rest',s4,zau,?_,by rw[qH];simp;omega,er',by rw[<- edr];simp,⟨k5.ok.updFx (.inr rfl) (by rw[Offs.get pR];exact hp),k5.no,k5.sl,k.stay k5.th λb o z eo=>by rw[zav λy=>pR (by rw[<- y];exact z)];exact eo,k5.off,k5.low⟩⟩
     rw[Offs.upd (.inr rfl)]
     exact(Rps.same so _ rd).append (zew (Rp.same (Offs.sub λb z=>.inl z) _ hv.rp) zeb)
  ·have hi':i=ds.length:=by omega
   subst hi'
   rw[qA7]at ec
   cases ec
   rw[qAC]at edr
   subst edr
   have m1:MvR R H1 H':=⟨λb o n eb=>hE.ok.base b o (by rw[Offs.get n];exact eb),λb o eb=>by
    by_cases z:R b
    ·exact k.live hE.th b z
    ·exact⟨o,hE.ok.base b o (by rw[Offs.get z];exact eb)⟩⟩
   refine .inl ⟨ys,q _ H' (m0.trans m1) (k0.mv m1 hE.th) ⟨?_,λ_=>⟨p,rfl,m0.free hp,?_⟩⟩⟩
   ·show Rp (Offs (lim fx env σ (if zfp done=true then[]else bs++capA fr env)) H') (.list done) (.ref p)
    have nl:∀cs,¬lim fx env σ cs p:=λcs z=>by
     obtain⟨o,eo⟩:=k0.ok.lims _ p z
     rw[hp]at eo;cases eo
    refine zfo (by rw[Offs.get (nl _)];exact ep) ?_
    split
    ·rename_i f;exact zjk f rd
    ·exact Rps.same (Offs.sub λb z=>.inl ((hA' b).mp z)) _ rd
   ·show zhp (Offs (λb=>lim fx env σ (if zfp done=true then[]else bs++capA fr env) b\/b=p) H') H' p (.list done)
    refine⟨vs,ep,?_⟩
    split
    ·rename_i f;exact zjk f rd
    ·exact Rps.same (Offs.sub λb z=>z.elim (λy=>.inl ((hA' b).mp y)) .inr) _ rd
 ·cases hr
end
structure Pen where
 cells:List Int
 acc:Int
 seed:Int
 cnt:Int
noncomputable def zano(H:Hp)(v:V)(R:Addr->Prop)(st:Pen):Prop:=∃p q,v=.ref p/\p≠q/\H p=some (.lst [.ref q,.int st.acc,.int st.seed,.int st.cnt])/\H q=some (.lst (st.cells.map .int))/\∀b,R b↔b=p\/b=q
noncomputable def penK:Kind Pen where
 at_:=zano
 live:=λ{H v R st} ⟨p,q,_,_,hp,hq,hR⟩ b hb=>by
  rcases(hR b).mp hb with rfl|rfl
  ·exact⟨_,hp⟩
  ·exact⟨_,hq⟩
 stay:=λ{H H' v R st} ⟨p,q,e,ne,hp,hq,hR⟩ k=>⟨p,q,e,ne,k p _ ((hR p).mpr (.inl rfl)) hp,k q _ ((hR q).mpr (.inr rfl)) hq,hR⟩
noncomputable def Pen.get(st:Pen):Nat->Option Int
 | 1=>some st.acc
 | 2=>some st.seed
 | 3=>some st.cnt
 | _=>none
noncomputable def Pen.set(st:Pen):Nat->Int->Option Pen
 | 1,x=>some {st with acc:=x}
 | 2,x=>some {st with seed:=x}
 | 3,x=>some {st with cnt:=x}
 | _,_=>none
section
variable{f:Nat}
noncomputable def rGet(i:Nat):EFr Pen:=λ_ st=>(st.get i).map λx=>(⟨.int x,false,[]⟩,st)
theorem zkf{K:qC}{i:Nat}:SEr penK f (tOp (rIxU K) (tVar f) (tC (.int (i:Int)))) (rGet i):=by
 intro fx H0 env σ H v R st hh r st' e Q q
 obtain⟨x,ex,e⟩:=qG.mp e
 cases e
 obtain⟨p,q',rfl,ne,hp,hq,hR⟩:=hh.th
 refine⟨.ref p,hh.sl,[.ref q',.int st.acc,.int st.seed,.int st.cnt],.int x,.inl (SqL.of hp),?_,q _ H (MvR.same (Same.refl _)) hh ⟨zaf,λz=>by cases z⟩⟩
 unfold Pen.get at ex
 split at ex<;>cases ex<;>rfl
noncomputable def rPut(i:Nat)(g:EFr Pen):SFr Pen:=λenv st=>(g env st).bind λx=>match x.1.d with
 | .int y=>(x.2.set i y).map λs=>.nx env s
 | _=>none
theorem zajq{fx:Addr->Prop}{H0:Hp}{env:DEnv}{σ:St}{H:Hp}{v:V}{R:Addr->Prop}{st:Pen}(hh:Has penK f fx H0 env σ H v R st){p b:Addr}{o:HO}{st':Pen}(hb:R b)(t:zano (upd H b o) v R st'):Has penK f fx H0 env σ (upd H b o) v R st':=
 hh.mv ⟨λc u n e=>by rw[zav λz=>n (by rw[z];exact hb)];exact e,λc u e=>by
  by_cases z:c=b
  ·rw[z];exact⟨_,zau⟩
  ·exact⟨u,by rw[zav z];exact e⟩⟩ t
theorem zxt{i:Nat}{te:TE}{g:EFr Pen}(h1:SEr penK f te g):SSr penK f (tAsg te (gSub (tVar f) (tC (.int (i:Int))) zaqv)) (rPut i g):=by
 intro fx H0 env σ H v R st D hh o e q
 unfold rPut at e
 obtain⟨⟨⟨d,fr,bs⟩,s1⟩,er,e⟩:=qA.mp e
 cases d with
 | int y=>
  obtain⟨s2,es,rfl⟩:=qG.mp e
  refine h1 fx H0 env σ H v R st hh _ s1 er _ λw H1 m1 k1 hv=>?_
  cases zef hv.rp
  obtain⟨p,q',rfl,ne,hp,hq,hR⟩:=k1.th
  have es:s1.set i y=some s2:=es
  have fin:∀j,ixN 4 (i:Int)=some j->zano (upd H1 p (.lst ([.ref q',.int s1.acc,.int s1.seed,.int s1.cnt].set j (.int y)))) (.ref p) R s2:=λj hj=>by
   refine⟨p,q',rfl,ne,?_,?_,hR⟩
   ·rw[zau]
    unfold Pen.set at es
    split at es
    ·cases es;cases hj;rfl
    ·cases es;cases hj;rfl
    ·cases es;cases hj;rfl
    ·cases es
   ·rw[zav ne.symm]
    unfold Pen.set at es
    split at es<;>cases es<;>exact hq
  obtain⟨j,hj⟩:∃j,ixN 4 (i:Int)=some j:=by
   unfold Pen.set at es
   split at es
   ·exact⟨1,rfl⟩
   ·exact⟨2,rfl⟩
   ·exact⟨3,rfl⟩
   ·cases es
  exact⟨_,k1.sl,p,_,_,j,rfl,rfl,hp,hj,q _ _ (zajq (p:=p) k1 ((hR p).mpr (.inl rfl)) (fin j hj))⟩
 | _=>cases e
noncomputable def zajr:EFr Pen:=λ_ st=>match st.cells with
 | []=>none
 | c::cs=>some (⟨.int c,false,[]⟩,{st with cells:=cs})
theorem zanp{K:qC}:SEr penK f (tBM K "list" zapl (tOp (rIxU K) (tVar f) (tC (.int 0))) (tCons (tC (.int 0)) tNil)) zajr:=by
 intro fx H0 env σ H v R st hh r st' e Q q
 unfold zajr at e
 split at e
 ·cases e
 ·rename_i c cs ec
  cases e
  obtain⟨p,q',rfl,ne,hp,hq,hR⟩:=hh.th
  rw[ec]at hq
  have ht:zano (upd H q' (.lst (cs.map .int))) (.ref p) R {st with cells:=cs}:=⟨p,q',rfl,ne,by rw[zav ne];exact hp,zau,hR⟩
  have k1:=zajq (p:=p) hh ((hR q').mpr (.inr rfl)) ht
  refine⟨.ref p,hh.sl,[.ref q',.int st.acc,.int st.seed,.int st.cnt],.ref q',.inl (SqL.of hp),rfl,.inl ⟨rfl,_,SqL.of hq⟩,q',(c::cs).map .int,0,0,.int c,rfl,rfl,hq,by decide,by decide,?_,rfl,q _ _ ⟨λb o n e=>by rw[zav λz=>n (by rw[z];exact(hR q').mpr (.inr rfl))];exact e,λb o e=>?_⟩ k1 ⟨zaf,λz=>by cases z⟩⟩
  ·show seqIndex? 0 ((c::cs).map V.int).length=some 0
   rw[qE,qw]
   unfold seqIndex?
   simp
  ·by_cases z:b=q'
   ·rw[z];exact⟨_,zau⟩
   ·exact⟨o,by rw[zav z];exact e⟩
noncomputable def zvl:TFr Pen:=λ_ st=>if st.cells.length<100000 then some (!st.cells.isEmpty,st)else none
theorem zajs:∀(cs:List Int),qAL (cs.map PyData.int)=true/\qp (cs.map PyData.int)=0
 | []=>⟨by simp[qAL],by simp[qp]⟩
 | c::cs=>by
  obtain⟨h1,h2⟩:=zajs cs
  rw[qf]
  unfold qAL qp
  rw[h1,h2]
  exact⟨by simp[PyData.canLay0],by simp[PyData.depth]⟩
theorem zrw{H:Hp}:∀(cs:List Int),Rps H (cs.map .int) (cs.map .int)
 | []=>zeb
 | c::cs=>zew zaf (zrw cs)
theorem zanq(cs:List Int):neD (.list (cs.map .int)) (.list [])=some (.bool (!cs.isEmpty),false):=by
 obtain⟨h1,h2⟩:=zajs cs
 have s1:qx (.list (cs.map .int))=true:=by
  unfold qx PyData.canLay0 PyData.depth
  rw[h1,h2];rfl
 have s2:qx (.list [])=true:=by decide +kernel
 unfold neD
 rw[if_pos (by unfold eqOk;rw[s1,s2];simp)]
 cases cs with
 | nil=>rfl
 | cons c cs=>simp[qz,PyData.eqvAll]
theorem zajt{K:qC}:STr penK f (tTest (tOp (λx y H Q=>rNe x y H Q\/rEqD K true x y H Q) (tOp (rIxU K) (tVar f) (tC (.int 0))) (tLst tNil))) zvl:=by
 intro fx H0 env σ H v R st hh b st' e Q q
 unfold zvl at e
 split at e
 ·cases e
  obtain⟨p,q',rfl,ne,hp,hq,hR⟩:=id hh.th
  refine⟨.ref p,hh.sl,[.ref q',.int st.acc,.int st.seed,.int st.cnt],.ref q',.inl (SqL.of hp),rfl,by show 0<=_;exact zer (by decide),λn hn=>?_⟩
  have sn:Same H (upd H n (.lst [])):=Same.new hn
  have of:∀b,Offs (λ_=>False) (upd H n (.lst [])) b=upd H n (.lst []) b:=λb=>Offs.get λz=>z
  refine zsl (K:=K) (λ_=>False) (upd H n (.lst [])) (.ref q') (.ref n) (.list (st.cells.map .int)) (.list []) (λb z=>z.elim) (zfo (by rw[of];exact sn _ _ hq) (zrw _)) (zfo (by rw[of];exact zau) zeb) _ _ (zanq _) _ λw H' s' rp _=>⟨_,zlh rp,q H' (MvR.same (sn.trans s')) (hh.up (sn.trans s'))⟩
 ·cases e
end
section
variable{T:Type}{k:Kind T}{f:Nat}
noncomputable def zkn(c:TFr T)(body:SFr T):Nat->SFr T
 | 0,_,_=>none
 | n+1,env,st=>(c env st).bind λx=>if x.1=true then(body env x.2).bind λo=>match o with
  | .nx e2 s2=>zkn c body n e2 s2
  | .ct e2 s2=>zkn c body n e2 s2
  | .bk e2 s2=>some (.nx e2 s2)
  | .rt d fr s2=>some (.rt d fr s2)
  else some (.nx env x.2)
theorem zaju{tc:TT}{tb:TS}{c:TFr T}{body:SFr T}(n:Nat)(h1:STr k f tc c)(h2:SSr k f tb body):SSr k f (tWhile tc tb) (zkn c body n):=by
 intro fx H0 env σ H v R st D hh o e q
 refine⟨λm σ' H'=>∃env' st',zkn c body m env' st'=some o/\Has k f fx H0 env' σ' H' v R st',⟨n,env,st,e,hh⟩,?_⟩
 rintro m σ' H' ⟨env',st',e',h'⟩
 cases m with
 | zero=>cases e'
 | succ m=>
  obtain⟨⟨b,s1⟩,eb,e'⟩:=qA.mp e'
  refine h1 fx H0 env' σ' H' v R st' h' b s1 eb _ λH1 m1 k1=>?_
  cases b with
  | false=>cases e';exact iteF (q σ' H1 k1)
  | true=>
   have e':((body env' s1).bind λo=>match o with
    | .nx e2 s2=>zkn c body m e2 s2
    | .ct e2 s2=>zkn c body m e2 s2
    | .bk e2 s2=>some (.nx e2 s2)
    | .rt d fr s2=>some (.rt d fr s2))=some o:=e'
   obtain⟨o1,eo1,e'⟩:=qA.mp e'
   refine iteT ⟨λσ'' H''=>∃env'' st'',zkn c body m env'' st''=some o/\Has k f fx H0 env'' σ'' H'' v R st'',λσ'' H'' hq=>⟨m,Nat.lt_succ_self _,hq⟩,?_⟩
   refine h2 fx H0 env' σ' H1 v R s1 _ k1 o1 eo1 ?_
   cases o1 with
   | nx e2 s2=>exact λσ3 H3 hq=>⟨e2,s2,e',hq⟩
   | ct e2 s2=>exact λσ3 H3 hq=>⟨e2,s2,e',hq⟩
   | bk e2 s2=>cases e';exact λσ3 H3 hq=>q σ3 H3 hq
   | rt d fr s2=>cases e';exact q
end
theorem zanr(t b:Addr)(items items2:Array Value)(n n2:Nat)(dd dd2:Option Addr)(sl sl2:Array (Option Value))(hc0:items.isEmpty=true) :
  Meets (Builtin.«tuple.__add__» ⟨[.ref t,.ref b],[]⟩) (λ_ R s=>s.heap.get? t=some {cls:=.type "tuple",dict:=dd,data:=.seq items n,slots:=sl}/\s.heap.get? b=some {cls:=.type "tuple",dict:=dd2,data:=.seq items2 n2,slots:=sl2}/\R (.ok (.ret (.ref b))) s):=
 .of_wp λprog w A R s h=>by
  obtain⟨hp,g,d,tk,os⟩:=s;obtain⟨hl,hb,h⟩:=h
  have f2:=sub_tuple_tuple
  wp_walk using qBR hl,qBR hb
  exact⟨_,rfl,h⟩
noncomputable def zavw(K:qC):R2:=λx y H Q=>zamt K x y H Q\/∃a b ys,x=.ref a/\y=.ref b/\SqT K H a []/\SqT K H b ys/\Q y H
theorem ztc{X:Cx}{K:qC}(hK:X.K=K):OpR X (binaryOp .Add) (zavw K):=by
 subst hK
 intro pins s σ H x y v u Q I rx ry h
 rcases h with h|⟨a,b,ys,rfl,rfl,ha,hb,q⟩
 ·exact zais pins s σ H x y v u Q I rx ry h
 ·cases rx
  cases ry
  obtain⟨its,r1,p1,_⟩:=I.tuple ha
  obtain⟨its2,r2,p2,_⟩:=I.tuple hb
  cases r1
  obtain⟨⟨cls,dd,data,sl⟩,ho,hc,n,hd⟩:=id p1
  obtain⟨⟨cls2,dd2,data2,sl2⟩,ho2,hc2,n2,hd2⟩:=id p2
  simp only at hc hd hc2 hd2
  subst hc hd hc2 hd2
  exact concat_meets ⟨_,ho,rfl⟩ ⟨_,ho2,rfl⟩ qCe seq_tuple_add qBt qBo (qBi _ _)
   (zanr a b _ its2.toArray n n2 dd dd2 sl sl2 (by rfl)) ⟨ho,ho2,⟨.ref b,H,I,rfl,q⟩⟩
noncomputable def addE:OF
 | .tuple [],.tuple ys=>some (.tuple ys,false)
 | x,y=>addD x y
theorem ztd{K:qC}:SO (zavw K) addE:=by
 intro A H x y dx dy hA rx ry d fr e Q q
 unfold addE at e
 split at e
 ·cases e
  obtain⟨a,xs,rfl,ha,r⟩:=zdc rx
  obtain⟨b,ys',rfl,hb,r'⟩:=zdc ry
  have:xs=[]:=by unfold Rps at r;exact r
  subst this
  exact .inr ⟨a,b,_,rfl,rfl,SqT.of (zdm ha),SqT.of (zdm hb),q _ H (Same.refl _) ry λz=>by cases z⟩
 ·exact .inl (zfc A H x y dx dy hA rx ry d fr e Q q)
section
variable{K:qC}{ns:List Int}{J:Nat->Prop}{f:Nat}
end
noncomputable def zavx(K:qC)(H:Hp)(v:V)(R:Addr->Prop)(ns:List Int):Prop:=∃a,v=.ref a/\(∀b,R b->b=a/\∃o,H b=some o)/\SqL K H a (ns.map .int)/\(R a\/∀H',SqL K H' a (ns.map .int))
noncomputable def scrK(K:qC):Kind (List Int) where
 at_:=zavx K
 live:=λ{H v R st} ⟨a,_,h,_⟩ b hb=>(h b hb).2
 stay:=λ{H H' v R st} ⟨a,e,h,q,r⟩ k=>⟨a,e,λb hb=>⟨(h b hb).1,let⟨o,eo⟩:=(h b hb).2;⟨o,k b o hb eo⟩⟩,by
  rcases r with r|r
  ·rcases q with(q|⟨o,q⟩)|q
   ·exact .inl (.inl (k a _ r q))
   ·exact .inl (.inr ⟨o,k a _ r q⟩)
   ·exact .inr q
  ·exact r H',r⟩
theorem zavy{K:qC}{H:Hp}{a:Addr}{ns:List Int}(h:SqL K H a (ns.map .int)):∃R:Addr->Prop,(∀b,R b->∃o,H b=some o)/\zavx K H (.ref a) R ns:=by
 rcases h with(h|⟨o,h⟩)|h
 ·have l:∀b,b=a->∃o,H b=some o:=λb hb=>⟨_,hb▸h⟩
  exact⟨λb=>b=a,l,a,rfl,λb hb=>⟨hb,l b hb⟩,.inl (.inl h),.inl rfl⟩
 ·have l:∀b,b=a->∃o,H b=some o:=λb hb=>⟨_,hb▸h⟩
  exact⟨λb=>b=a,l,a,rfl,λb hb=>⟨hb,l b hb⟩,.inl (.inr ⟨o,h⟩),.inl rfl⟩
 ·exact⟨λ_=>False,λb hb=>hb.elim,a,rfl,λb hb=>hb.elim,.inr h,.inr λ_=>.inr h⟩
theorem zase(ns:List Int):cutV (ns.map V.int) none (some 63)=(ns.take 63).map .int:=by
 unfold cutV
 have e1:HT.sIx (ns.map V.int).length 0 none=0:=rfl
 rw[e1,show(63:Int)=((63:Nat):Int)from rfl,HT.sIx_nat]
 rw[qCa,qCz,List.map_take,qE]
 by_cases h:63<=ns.length
 ·rw[qB3 h]
 ·rw[qBy (by omega),qAs (by simp),qAs (by simp;omega)]
section
variable{K:qC}{f:Nat}
noncomputable def rScr:EFr (List Int):=λ_ ns=>some (⟨.list ((ns.take 63).map .int),true,[]⟩,ns)
theorem zajv:SEr (scrK K) f (tSl (rSlU K) (tVar f) tNoPart (tPart (tC (.int 63)))) rScr:=by
 intro fx H0 env σ H v R ns hh r st' e Q q
 cases e
 obtain⟨a,rfl,h1,h2,h3⟩:=id hh.th
 refine⟨.ref a,hh.sl,63,rfl,a,ns.map .int,rfl,h2,λp hp=>?_⟩
 rw[zase]
 have sn:Same H (upd H p (.lst ((ns.take 63).map .int))):=Same.new hp
 have np:¬lim fx env σ [] p:=λz=>by obtain⟨o,eo⟩:=hh.ok.lims [] p z;rw[hp]at eo;cases eo
 refine q _ _ (MvR.same sn) (hh.up sn) ⟨zfo (by rw[Offs.get np];exact zau) (zrw _),λ_=>⟨p,rfl,hp,_,zau,zrw _⟩⟩
end
section
variable{T:Type}{k:Kind T}{f:Nat}
noncomputable def zajw(a:AFr T):IFr T:=λenv st=>(a env st).bind λx=>match x.1 with
 | [r]=>(zhi r.d).map λds=>(zzo ds,r.bs,x.2)
 | _=>none
theorem zans{K:qC}{ta:TA}{a:AFr T}(h1:SAr k f ta a):SIr k f (iEnumX K ta) (zajw a):=by
 intro fx H0 env σ H v R st hh ds bs st' e Rk q
 unfold zajw at e
 obtain⟨⟨rs,s1⟩,er,e⟩:=qA.mp e
 dsimp only at e
 split at e
 ·rename_i r
  obtain⟨d1,ed1,e⟩:=qG.mp e
  cases e
  refine h1 fx H0 env σ H v R st hh _ _ er _ λvs H1 m k1 hv=>?_
  cases hv with
  | cons hv t=>
   cases t
   obtain⟨b,a,xs,rfl,r1,e1⟩:=zajf (K:=K) (Rp.same (Offs.sub (zfj (bs:=r.bs))) _ hv.rp) ed1
   refine⟨b,a,rfl,⟨xs,e1 _ H1 (Same.refl _)⟩,q _ H1 m k1 ?_⟩
   intro A H' hA ss
   have q1:=e1 A H' ss
   have r1':=Rps.same ss _ r1
   have hl:(zzo d1).length=d1.length:=by unfold zzo;simp
   refine⟨λi d e=>?_,⟨xs,q1,by rw[hl,r1.length];exact qK _⟩⟩
   unfold zzo at e
   rw[qr,List.getElem?_zipIdx]at e
   cases e0:d1[i]? with
   | none=>rw[e0]at e;cases e
   | some d0=>
    rw[e0]at e
    obtain⟨v,hv,rv⟩:=r1'.get2 e0
    have e:PyData.tuple [.int ((0+i:Nat):Int),d0]=d:=qZ e
    rw[Nat.zero_add]at e
    subst e
    refine⟨⟨xs,v,q1,hv⟩,λx H'' y=>?_⟩
    obtain⟨p,y',rfl,hp,rfl,y⟩:=y
    have:=y xs q1
    rw[hv]at this
    cases this
    exact⟨Same.new hp,zli hp (zej hA hp) (zew zaf (zew rv zeb))⟩
 ·cases e
end
noncomputable def zags(K:qC)(sd:List Int->Option Int):Sp:=λvs H Q _=>∃(a:Addr)(ns:List Int)(s:Int),vs=[.ref a]/\SqL K H a (ns.map .int)/\sd ns=some s/\∀p q H',p≠q->H' p=some (.lst [.ref q,.int 0,.int s,.int 0])->H' q=some (.lst ((ns.take 63).map .int))->Q (.ref p) H'
theorem zajx{K:qC}{sd:List Int->Option Int}{vs:List V}{H:Hp}{Q:VK}{E:XK}(h:zags K sd vs H Q E):vs.length=1:=by
 obtain⟨a,ns,s,rfl,_⟩:=h
 rfl
noncomputable def zant(F:SFr (List Int))(n:Nat)(g:EF):List Int->Option Int:=λns=>match F (.no::List.replicate n .no) ns with
 | some (.nx env st)=>if st=ns then(g env).bind λr=>match r.d with
  | .int s=>some s
  | _=>none else none
 | _=>none
theorem zte{H:Hp}:∀{cs:List Int}{xs:List V},Rps H (cs.map .int) xs->xs=cs.map .int
 | [],xs,h=>by unfold Rps at h;exact h
 | c::cs,xs,h=>by
  rw[qf]at h
  unfold Rps at h
  obtain⟨v,vs,rfl,h1,h2⟩:=h
  rw[zef h1,zte h2];rfl
theorem zavz{K:qC}{N:List Str}{n:Nat}{F:SFr (List Int)}{g:EF}{t1:TS}{te:TE}{r:List V->Hp->VK->Prop}(hN:N.length=n+1)(hs:SSr (scrK K) 0 t1 F)(hg:SE te g)(hl:SC r zxg){vs:List V}{H:Hp}{Q:VK}{E:XK}(h:zags K (zant F n g) vs H Q E) :
  tSeq t1 (tRet (tLst (tCons (tCB r (tCons (tSl (rSlU K) (tVar 0) tNoPart (tPart (tC (.int 63)))) tNil)) (tCons (tC (.int 0)) (tCons te (tCons (tC (.int 0)) tNil)))))) {nx:=λ_ H'=>Q .non H',rt:=Q} (zhg N vs) H:=by
 obtain⟨a,ns,s,rfl,hS,es,q⟩:=h
 obtain⟨R,hR,hsc⟩:=zavy hS
 have hh:=zzw (N:=N) (k:=scrK K) (ds:=[]) (vs:=[]) (fx:=R) (by omega) hR (λb z=>z) hsc zeb
 have e0:ztb N.length []=.no::List.replicate n .no:=by
  unfold ztb ziy
  rw[hN];rfl
 rw[e0]at hh
 unfold zant at es
 split at es
 ·rename_i env st2 eo
  split at es
  ·rename_i est
   subst est
   obtain⟨⟨d,fr,bs⟩,er,es⟩:=qA.mp es
   cases d with
   | int s'=>
    cases es
    refine hs R _ _ _ H (.ref a) R st2 _ hh _ eo λσ1 H1 h1=>?_
    refine zapu hl (zbe (zajv (K:=K) (f:=0)) zby) R _ env σ1 H1 (.ref a) R st2 h1 ⟨.list ((st2.take 63).map .int),true,[]⟩ st2 rfl _ λw1 H2 m2 h2 v2=>?_
    obtain⟨q1,rfl,_,xs,hx,rx⟩:=v2.fr rfl
    have ex:=zte rx
    subst ex
    refine hg R _ env σ1 H2 h2.ok _ er _ λw3 H3 s3 v3=>?_
    cases zef v3.rp
    refine⟨by show 4<=_;exact zer (by decide),λp hp=>q p q1 _ (λz=>by rw[z,s3 _ _ hx]at hp;cases hp) zau ?_⟩
    rw[zav λz=>by rw[<- z,s3 _ _ hx]at hp;cases hp]
    exact s3 _ _ hx
   | _=>cases es
  ·cases es
 ·cases es
theorem zanu{K:qC}{N:List Str}{n:Nat}{sd:List Int->Option Int}{F:SFr Pen}{t:TS}{ns:List Int}{s:Int}{a:Addr}{H:Hp}{D:Ends}{st':Pen}(hN:N.length=n+2)(hs:SSr penK 1 t F)(hS:SqL K H a (ns.map .int))(es:sd ns=some s)
  (ef:F (List.replicate (n+2) .no) ⟨ns.take 63,0,s,0⟩=some (.rt (.bool true) false st'))(q:∀H',D.rt (.bl true) H') :
  tSeq (tAsg (tCall (zags K sd) [] E0 (tCons (tVar 0) tNil)) (gName 1)) t D (zhg N [.ref a]) H:=by
 have st:zhg N [.ref a]=some (.ref a)::List.replicate (n+1) none:=by
  unfold zhg
  rw[hN];rfl
 rw[st]
 refine⟨.ref a,rfl,?_⟩
 have key:zags K sd [.ref a] H (λx H1=>t D ((some (V.ref a)::List.replicate (n+1) none).set 1 (some x)) H1) E0:=?_
 exact key
 refine⟨a,ns,s,rfl,hS,es,λp q1 H' ne hp hq=>?_⟩
 have e1:(some (V.ref a)::List.replicate (n+1) none).set 1 (some (.ref p))=some (.ref a)::some (.ref p)::List.replicate n none:=by
  rw[qAe];rfl
 dsimp only
 rw[e1]
 have noE:∀(i:Nat)(x:Sl),(List.replicate (n+2) Sl.no)[i]?=some x->x=.no:=λi x e=>by
  obtain⟨h1,h2⟩:=qa.mp e
  rw[List.getElem_replicate]at h2
  exact h2.symm
 refine hs (λb=>b=p\/b=q1) (λ_=>none) _ _ H' (.ref p) (λb=>b=p\/b=q1) _ D ⟨⟨?_,λi d e=>?_,λi d e=>?_,λi j d e a' z=>?_,λb o z=>(nomatch z),λb z=>?_⟩,?_,rfl,⟨p,q1,rfl,ne,hp,hq,λb=>Iff.rfl⟩,λb z=>z,λb z=>rfl⟩ _ ef λw H2 _ _ _ rt _=>?_
 ·simp
 ·cases noE i _ e
 ·cases noE i _ e
 ·cases noE i _ z
 ·rcases z with z|z
  ·exact⟨_,z▸hp⟩
  ·exact⟨_,z▸hq⟩
 ·rw[qBv];simp
 ·rw[zlh rt.1];exact q H2
noncomputable abbrev zoi(xs:List Str):Str:=Builtin.Str.glued "" xs
noncomputable def zawa:V->List V->Hp->VK->Prop:=λx vs H Q=>∃a xs,x=.str ""/\vs=[.ref a]/\H a=some (.lst (xs.map .str))/\xs.foldl (λn z=>n+z.length+0) 0<=100000/\(zoi xs).length<=100000/\Q (.str (zoi xs)) H
theorem zzy:∀{xs:List Str}{us:List Value},Vals (xs.map V.str) us->∃l:List (Str×Tok),us=strValues l/\l.map (·.1)=xs
 | [],us,h=>by cases h;exact⟨[],rfl,rfl⟩
 | x::xs,us,h=>by
  cases h with
  | cons r h=>
   obtain⟨t,rfl⟩:=r
   obtain⟨l,rfl,rfl⟩:=zzy h
   exact⟨(x,t)::l,rfl,rfl⟩
theorem zasf{X:Cx}:MtR X "str.join" zawa:=by
 intro pins s σ H x vs v us Q I rx rv h
 obtain⟨a,xs,rfl,rfl,hH,hn,hg,q⟩:=h
 obtain⟨t,rfl⟩:=rx
 obtain⟨u,rfl,ru⟩:=rv.one
 cases ru
 obtain⟨_,its,n,r,hl,e⟩:=I.lstM hH
 obtain⟨l,rfl,hx⟩:=zzy r
 have big:(100000:Nat)<=qX:=by rw[qA9];omega
 have ht:Builtin.Str.tooLong ((l.map (·.1)).toArray.foldl (·+·.length+("":Str).length) 0)=false:=by
  unfold Builtin.Str.tooLong
  rw[hx,List.foldl_toArray']
  refine decide_eq_false ?_
  have:xs.foldl (λn z=>n+z.length+("":Str).length) 0<=100000:=hn
  omega
  simp
 refine qCF F.slot_str_join (qC3 s _ _) F.entry_str_join (F.args_str_join_2 _ _) (meets_str_join_list "" t a l ht) ⟨⟨_,e,rfl,n,rfl⟩,?_⟩
 have fin:∀(tk tk':Nat),EP X pins σ Q (.str (zoi xs) tk) {s with toks:=tk'}:=λtk tk'=>⟨.str _,H,I.tok _,⟨_,rfl⟩,q⟩
 cases l with
 | nil=>cases hx;exact⟨qv hg big,fin _ _⟩
 | cons p l=>
  cases l with
  | nil=>
   cases hx
   have e1:zoi [p.1]=p.1:=by unfold zoi Builtin.Str.glued;rfl
   show EP X pins σ Q (.str p.1 p.2) s
   have:=fin p.2 s.toks
   rw[show[p].map (·.1)=[p.1]from rfl,e1]at this
   exact this
  | cons p2 l=>subst hx;exact⟨qv hg big,fin _ _⟩
noncomputable def zzz:PyData->Option PyData
 | .list ds=>(unT ds).bind λxs=>if xs.foldl (λn z=>n+z.length+0) 0<=100000/\(zoi xs).length<=100000 then some (.str (zoi xs))else none
 | _=>none
where unT:List PyData->Option (List Str)
 | []=>some []
 | .str x::r=>(unT r).map λxs=>x::xs
 | _::_=>none
theorem zafb:∀{ds:List PyData}{xs:List Str},zzz.unT ds=some xs->ds=xs.map .str
 | [],xs,h=>by cases h;rfl
 | d::r,xs,h=>by
  cases d with
  | str x=>
   obtain⟨ys,hy,rfl⟩:=qG.mp h
   rw[zafb hy];rfl
  | _=>cases h
theorem ztf{H:Hp}:∀{cs:List Str}{xs:List V},Rps H (cs.map .str) xs->xs=cs.map .str
 | [],xs,h=>by unfold Rps at h;exact h
 | c::cs,xs,h=>by
  rw[qf]at h
  unfold Rps at h
  obtain⟨v,vs,rfl,h1,h2⟩:=h
  rw[zlg h1,ztf h2];rfl
section
variable{T:Type}{k:Kind T}{f:Nat}
noncomputable def zaaa(g:EFr T):EFr T:=λenv st=>(g env st).bind λx=>(zzz x.1.d).map λd=>(⟨d,false,[]⟩,x.2)
theorem zanv{K:qC}{te:TE}{g:EFr T}(h1:SEr k f te g):SEr k f (tBM K "str" zawa (tC (.str "")) (tCons te tNil)) (zaaa g):=by
 intro fx H0 env σ H v R st hh r st' e Q q
 unfold zaaa at e
 obtain⟨⟨x,s1⟩,ex,e⟩:=qA.mp e
 obtain⟨d,ed,e⟩:=qG.mp e
 cases e
 refine⟨rfl,h1 fx H0 env σ H v R st hh x s1 ex _ λw H1 m1 k1 hv=>?_⟩
 obtain⟨xd,xf,xb⟩:=x
 cases xd with
 | list ds=>
  have ed:((zzz.unT ds).bind λxs=>if xs.foldl (λn z=>n+z.length+0) 0<=100000/\(zoi xs).length<=100000 then some (PyData.str (zoi xs))else none)=some d:=ed
  obtain⟨xs,eu,ed⟩:=qA.mp ed
  split at ed
  ·rename_i hl
   cases ed
   have:=zafb eu
   subst this
   obtain⟨a,ys,rfl,ha,ry⟩:=zfe hv.rp
   have:=ztf ry
   subst this
   exact⟨a,xs,rfl,rfl,(Offs.of ha).2,hl.1,hl.2,q _ H1 m1 k1 ⟨zch,λz=>by cases z⟩⟩
  ·cases ed
 | _=>cases ed
end
theorem zxu{J:Nat->Prop}{i:Nat}:SSk J (tRet (tVar i)) (zlb i):=λfx H0 env σ H D h o e q=>zjz fx H0 env σ H D h o e (by
 unfold zlb at e
 split at e
 ·cases e;exact q
 ·cases e;exact q
 ·cases e)
theorem zanw{f m:Nat}{g:GTs}(h:∀ds env env',g ds env=some env'->env[f]?=some .no->env'[f]?=some .no):GTno f (gT m g):=λd env env' e hn=>by
 unfold gT at e
 cases d with
 | tuple ds=>
  have e:(if ds.length=m then g ds env else none)=some env':=e
  split at e
  ·exact h ds env env' e hn
  ·cases e
 | _=>cases e
theorem zanx{f:Nat}:∀ds env env',zdn ds env=some env'->env[f]?=some Sl.no->env'[f]?=some .no:=λds env env' e hn=>by
 cases ds with
 | nil=>cases e;exact hn
 | cons _ _=>cases e
theorem zaab{f i:Nat}{g:GTs}(hi:i≠f)(h:∀ds env env',g ds env=some env'->env[f]?=some .no->env'[f]?=some .no):∀ds env env',zas i g ds env=some env'->env[f]?=some Sl.no->env'[f]?=some .no:=λds env env' e hn=>by
 cases ds with
 | nil=>cases e
 | cons d ds=>exact h ds _ env' e (by rw[qV hi];exact hn)
section
variable{T:Type}{k:Kind T}{f:Nat}
end
section
variable{X:Cx}
noncomputable def zapv(wi:TI)(g:TG)(tt:TT)(wi2:TI)(g2:TG)(tt2:TT)(te:TE)(own:List Str)(fr:List Nat)(i:Nat):TS:=zard wi g tt (λp=>zaew wi2 g2 tt2 (zacd p te)) own fr i
theorem zany{scope:Scope}{N' own:List Str}{fr:List Nat}{elt target iter target2 iter2:Expr}{ifs ifs2:List Expr}{cpos spos py:Pos}{i:Nat}{y:Str}{wi wi2:TI}{g g2:TG}{tt tt2:TT}{te:TE}(c:CompOk X scope N' own fr)(hc:X.calm=true)(hi:PI X target iter wi)
  (hb:∀(cl:List (Str×Addr)) (C:Addr) (s:Shared) (H:Hp) (fp:List Addr),PG (cxComp X scope N' own cl C s H fp) target g/\PF (cxComp X scope N' own cl C s H fp) ifs tt/\PI (cxComp X scope N' own cl C s H fp) target2 iter2 wi2/\PG (cxComp X scope N' own cl C s H fp) target2 g2/\PF (cxComp X scope N' own cl C s H fp) ifs2 tt2/\PE (cxComp X scope N' own cl C s H fp) elt te)
  (hsw:swapsWith (.ListComp elt [⟨target,iter,ifs,0⟩,⟨target2,iter2,ifs2,0⟩] scope cpos) (some (.Name y py)) spos.line X.env=pure true)
  (hN:X.N.Nodup)(hy:X.N[i]?=some y)(hl:X.env.scope.names.lookup y=some .local)
  (hs:∀x,foldedSetIterable iter X.env x=pure x:=by intro _;rfl)(hs2:∀env x,foldedSetIterable iter2 env x=pure x:=by intro _ _;rfl) :
  PS X (.Assign [.Name y py] (.ListComp elt [⟨target,iter,ifs,0⟩,⟨target2,iter2,ifs2,0⟩] scope cpos) spos) (zapv wi g tt wi2 g2 tt2 te own fr i):=
 zaeq (emit:=λacc env=>do
   let x <- eval iter2 env
   standAt iter2.pos
   let x <- foldedSetIterable iter2 env x
   let _ <- runOwn (.compStart (.ListComp elt [⟨target,iter,ifs,0⟩,⟨target2,iter2,ifs2,0⟩] scope cpos) 1 (<- holding [x] (pyIter x)) acc env) env) c hc (λit acc env=>by
   rw[zavp]
   refine bind_congr λ_=>bind_congr λr=>?_
   cases r with
   | none=>rfl
   | some v=>
    refine bind_congr λ_=>bind_congr λ_=>bind_congr λok=>?_
    cases ok with
    | false=>rfl
    | true=>simp only[if_true,bind_assoc,pure_bind]) hi
  (λcl C s H fp p=>let⟨h1,h2,h3,h4,h5,h6⟩:=hb cl C s H fp;⟨h1,h2,zaex (X:=cxComp X scope N' own cl C s H fp) rfl hc h3 h4 h5 h6 (λx=>hs2 _ x)⟩) hsw hN hy hl hs
theorem zajy{scope:Scope}{N' own:List Str}{fr:List Nat}{elt target iter target2 iter2:Expr}{ifs ifs2:List Expr}{cpos spos py:Pos}{i:Nat}{y:Str}{wi wi2:TI}{g g2:TG}{tt tt2:TT}{te:TE}(c:CompOk X scope N' own fr)(hc:X.calm=true)(hi:Bx (PI X target iter wi))
  (hb:∀(cl:List (Str×Addr)) (C:Addr) (s:Shared) (H:Hp) (fp:List Addr),PG (cxComp X scope N' own cl C s H fp) target g/\PF (cxComp X scope N' own cl C s H fp) ifs tt/\PI (cxComp X scope N' own cl C s H fp) target2 iter2 wi2/\PG (cxComp X scope N' own cl C s H fp) target2 g2/\PF (cxComp X scope N' own cl C s H fp) ifs2 tt2/\PE (cxComp X scope N' own cl C s H fp) elt te)
  (hsw:swapsWith (.ListComp elt [⟨target,iter,ifs,0⟩,⟨target2,iter2,ifs2,0⟩] scope cpos) (some (.Name y py)) spos.line X.env=pure true)
  (hN:X.N.Nodup)(hy:X.N[i]?=some y)(hl:X.env.scope.names.lookup y=some .local)
  (hs:∀x,foldedSetIterable iter X.env x=pure x)(hs2:∀env x,foldedSetIterable iter2 env x=pure x) :
  Bx (PS X (.Assign [.Name y py] (.ListComp elt [⟨target,iter,ifs,0⟩,⟨target2,iter2,ifs2,0⟩] scope cpos) spos) (zapv wi g tt wi2 g2 tt2 te own fr i)):=
 ⟨zany c hc hi.out hb hsw hN hy hl hs hs2⟩
end
noncomputable def zawb(i j:Int):Prop:=0<=j/\j<=1000/\i.natAbs<2 ^ 1000
theorem ztg{X:Cx}:OpR X (binaryOp .Pow) (rI zawb λi j=>.int (i ^ j.toNat)):=opI λi j _ _ _ _ _ hc q=>pow_int hc.1 (by
 have hb:Builtin.Int.intBits i<=1000:=intBits_le hc.2.2
 have h0:(0:Int)<=j:=hc.1
 have hj:j<=1000:=hc.2.1
 have h1:(Builtin.Int.intBits i:Int) * j<=1000 * j:=Int.mul_le_mul_of_nonneg_right (by omega) h0
 omega) q
noncomputable def powB:OF:=intD (λi j=>decide (0<=j/\j<=1000)&&decide (i.natAbs<2 ^ 1000)) λi j=>.int (i ^ j.toNat)
theorem zth:SO (rI zawb λi j=>.int (i ^ j.toNat)) powB:=zait (λi j h=>by
 rw[qm]at h
 exact⟨(of_decide_eq_true h.1).1,(of_decide_eq_true h.1).2,of_decide_eq_true h.2⟩) λ_ _ _=>zaf
section
variable{T:Type}
theorem zax{a b:SFr T}{env e1:DEnv}{st s1:T}{o:Option (OutR T)}(h:a env st=some (.nx e1 s1))(k:b e1 s1=o):rSeq a b env st=o:=by unfold rSeq;rw[h];exact k
theorem zasg{a b:SFr T}{env:DEnv}{st s1:T}{d:PyData}{fr:Bool}(h:a env st=some (.rt d fr s1)):rSeq a b env st=some (.rt d fr s1):=by unfold rSeq;rw[h];rfl
theorem zcz{i:Nat}{g:EFr T}{env:DEnv}{st s1:T}{r:Val}(h:g env st=some (r,s1)):rSet i g env st=some (.nx (putV env i r) s1):=by unfold rSet;rw[h];rfl
theorem zacu{g:EFr T}{env:DEnv}{st s1:T}{d:PyData}{fr:Bool}{bs:List Nat}(h:g env st=some (⟨d,fr,bs⟩,s1)):rRet g env st=some (.rt d fr s1):=by unfold rRet;rw[h];rfl
theorem zagt{c:TFr T}{a b:SFr T}{env:DEnv}{st s1:T}{o:Option (OutR T)}(h:c env st=some (true,s1))(k:a env s1=o):rIf c a b env st=o:=by unfold rIf;rw[h];exact k
theorem zaac{c:TFr T}{a b:SFr T}{env:DEnv}{st s1:T}{o:Option (OutR T)}(h:c env st=some (false,s1))(k:b env s1=o):rIf c a b env st=o:=by unfold rIf;rw[h];exact k
theorem zcr{g:EF}{env:DEnv}{st:T}{r:Val}(h:g env=some r):zap g env st=some (r,st):=by unfold zap;rw[h];rfl
theorem zhy{c:TF}{env:DEnv}{st:T}{b:Bool}(h:c env=some b):zpp c env st=some (b,st):=by unfold zpp;rw[h];rfl
theorem zds{w:OF}{a b:EFr T}{env:DEnv}{st s1 s2:T}{x y:Val}{d:PyData}{fr:Bool}(h1:a env st=some (x,s1))(h2:b env s1=some (y,s2))(h3:w x.d y.d=some (d,fr)):rOp w a b env st=some (⟨d,fr,bsOf d (x.bs++y.bs)⟩,s2):=by unfold rOp;rw[h1];show((b env s1).bind _)=_;rw[h2];show((w x.d y.d).bind _)=_;rw[h3];rfl
theorem zed{a:EFr T}{g:AFr T}{env:DEnv}{st s1 s2:T}{x:Val}{xs:List Val}(h1:a env st=some (x,s1))(h2:g env s1=some (xs,s2)):zbo a g env st=some (x::xs,s2):=by unfold zbo;rw[h1];show((g env s1).bind _)=_;rw[h2];rfl
theorem zir{n:Nat}{g:GR T}{a:AFr T}{env:DEnv}{st s1 s2:T}{rs:List Val}{d:PyData}{fr:Bool}(h:a env st=some (rs,s1))(hn:rs.length+1=n)(k:g (zhq rs) s1=some (d,fr,s2)):zbi n g a env st=some (⟨d,fr,bsOf d (bss rs)⟩,s2):=by unfold zbi;rw[h];show(if rs.length+1=n then _ else _)=_;rw[if_pos hn,k];rfl
theorem zaad{n:Nat}{F:SFr T}{ds:List PyData}{env:DEnv}{st s1:T}{d:PyData}{fr:Bool}(h:ztb n ds=env)(e:F env st=some (.rt d fr s1)):fnR n F ds st=some (d,fr,s1):=by unfold fnR;rw[h,e]
theorem zti{it:IFr T}{g:GT}{body:SFr T}{env:DEnv}{st s1:T}{ds:List PyData}{bs:List Nat}{o:Option (OutR T)}(h:it env st=some (ds,bs,s1))(k:zxr g body ds (frzs env bs) s1=o):rFor it g body env st=o:=by unfold rFor;rw[h];exact k
theorem zvm{α:Type}{enc:α->PyData}{g:GT}{body:SFr T}(I:List α->DEnv->T->Prop)(all:List α):∀(l pre:List α)(env:DEnv)(st:T),pre++l=all->I pre env st->
  (∀pre x post env st,pre++x::post=all->I pre env st->∃e1 e2 s2,g (enc x) env=some e1/\body e1 st=some (.nx e2 s2)/\I (pre++[x]) e2 s2)->∃e' s',zxr g body (l.map enc) env st=some (.nx e' s')/\I all e' s'
 | [],pre,env,st,hp,h0,_=>⟨env,st,rfl,by rw[<- hp,qAC];exact h0⟩
 | x::l,pre,env,st,hp,h0,hs=>by
  obtain⟨e1,e2,s2,h1,h2,h3⟩:=hs pre x l env st hp h0
  obtain⟨e',s',h4,h5⟩:=zvm I all l (pre++[x]) e2 s2 (by rw[qBF];exact hp) h3 hs
  refine⟨e',s',?_,h5⟩
  rw[qf]
  unfold zxr
  rw[h1]
  show((body e1 st).bind _)=_
  rw[h2]
  exact h4
theorem zlp{α:Type}{enc:α->PyData}{g:GT}{body:SFr T}{l:List α}{env:DEnv}{st:T}(I:List α->DEnv->T->Prop)(h0:I [] env st)
  (hs:∀pre x post env st,pre++x::post=l->I pre env st->∃e1 e2 s2,g (enc x) env=some e1/\body e1 st=some (.nx e2 s2)/\I (pre++[x]) e2 s2):∃e' s',zxr g body (l.map enc) env st=some (.nx e' s')/\I l e' s':=
 zvm I l l [] env st rfl h0 hs
end
noncomputable def sExt(i:Nat)(f:EF):SF:=λenv=>match env[i]? with
 | some (.ac (.list ds))=>(f env).bind λr=>match r.d,r.fr with
  | .list es,true=>if ds.length+es.length<=100000/\i∉r.bs then some (.nx ((frzs env r.bs).set i (.ac (.list (ds++es)))))else none
  | _,_=>none
 | _=>none
theorem zawc{K:qC}{i:Nat}{te:TE}{f:EF}(h1:SE te f):SS (tDrop (tBM K "list" zaid (tVar i) (tCons te tNil))) (sExt i f):=by
 intro fx H0 env σ H D h o e q
 unfold sExt at e
 split at e
 ·rename_i ds ei
  obtain⟨⟨d,fr,bs⟩,er,e⟩:=qA.mp e
  dsimp only at e
  split at e
  ·rename_i es
   split at e
   ·rename_i hl
    cases e
    obtain⟨a,g1,g2,g3,g4⟩:=h.ac i _ ei
    obtain⟨xs,hx,rx⟩:=g4
    refine⟨_,g1,.inl ⟨rfl,_,SqL.of hx⟩,h1 fx H0 env σ H h _ er _ λv H' s hv=>?_⟩
    obtain⟨b,rfl,hb,zs,hz,rz⟩:=hv.fr rfl
    have h':=(h.up s).frzs bs
    have ei':=zix hl.2 ei
    have hx':=s _ _ hx
    have rx':Rps (Offs (λb=>fx b\/own (frzs env bs) σ b) H') ds xs:=by
     obtain⟨a',z1,_,_,z4⟩:=h'.ac i _ ei'
     rw[g1]at z1
     cases z1
     obtain⟨ys,y1,y2⟩:=z4
     rw[hx']at y1
     cases y1
     exact y2
    have rz':Rps (Offs (λb=>fx b\/own (frzs env bs) σ b) H') es zs:=Rps.same (Offs.sub λc z=>.inl (zfj c z)) _ rz
    refine⟨a,b,xs,zs,rfl,rfl,hx',hz,zer (by rw[<- rx.length,<- rz.length];exact hl.1),?_⟩
    exact q σ _ (h'.mut ei' g1 ⟨_,zau,rx'.append rz'⟩)
   ·cases e
  ·cases e
 ·cases e
theorem zawd{i:Nat}{f:EF}{env:DEnv}{ds es:List PyData}{bs:List Nat}(he:env[i]?=some (.ac (.list ds)))(hf:f env=some ⟨.list es,true,bs⟩)(hl:ds.length+es.length<=100000)(hb:i∉bs):sExt i f env=some (.nx ((frzs env bs).set i (.ac (.list (ds++es))))):=by
 unfold sExt
 rw[he]
 show((f env).bind _)=_
 rw[hf]
 show(if _/\_ then _ else _)=_
 rw[if_pos ⟨hl,hb⟩]
section
variable{X:Cx}
theorem bpaC{e:Expr}{es:List Expr}{te:TE}{t:TA}(h1:Bx (PE X e te))(h2:Bx (PA X es t))(h3:isStar e=false:=by rfl):Bx (PA X (e::es) (tCons te t)):=zag h1 h2 h3
theorem bpeD{x:Str}{p pos:Pos}{e:Expr}{es:List Expr}{t:TA}{ps:List Str}{k m:Nat}{sp:Sp}(D:Dn X.prog X.w X.K X.mg X.base x ps k sp)(hr:Room m X.A)(ha:Bx (PA X (e::es) t))(hm:k<=m:=by decide)(hg:Gl X x:=by rfl)(hd:(x==("__debug__":Str))=false:=by decide)
  (hs:isStar e=false:=by rfl) (hp:((backTo pos (starEach es X.env)).any λx=>x.1)=false:=by rfl):Bx (PE X (.Call (.Name x p) (e::es) [] pos) (tCall sp [] E0 t)):=zhk D (hr.mono hm) hg ha hd (zao hs) hp
theorem bpeB{x:Str}{p pos:Pos}{e:Expr}{es:List Expr}{t:TA}{id:String}{r:List V->Hp->VK->Prop}(hc:CallR X (.builtin id) r)(hm:X.mg x=none)(hb:bootBuiltins x=some (.builtin id))(ha:Bx (PA X (e::es) t))(hg:Gl X x:=by rfl)(h1:x≠("__name__":Str):=by decide)(h2:(x==("__debug__":Str))=false:=by decide)
  (hs:isStar e=false:=by rfl) (hp:((backTo pos (starEach es X.env)).any λx=>x.1)=false:=by rfl):Bx (PE X (.Call (.Name x p) (e::es) [] pos) (tCB r t)):=zcn hc hg hm hb ha h1 h2 (zao hs) hp
theorem bpeT{x:Str}{p pos:Pos}{e:Expr}{es:List Expr}{t:TA}{T:String}{r:List V->Hp->VK->Prop}(hc:CallR X (.type T) r)(hm:X.mg x=none)(hb:bootBuiltins x=some (.type T))(ha:Bx (PA X (e::es) t))(hg:Gl X x:=by rfl)(h1:x≠("__name__":Str):=by decide)(h2:(x==("__debug__":Str))=false:=by decide)
  (hs:isStar e=false:=by rfl) (hp:((backTo pos (starEach es X.env)).any λx=>x.1)=false:=by rfl):Bx (PE X (.Call (.Name x p) (e::es) [] pos) (tCB r t)):=zagr hc hg hm hb ha h1 h2 (zao hs) hp
theorem bpsS{pos:Pos}{i:Nat}{x:Str}{e:Expr}{te:TE}{pos':Pos}(hN:X.N.Nodup)(hi:X.N[i]?=some x)(hl:Loc X.env.scope x)(he:Bx (PE X e te))(hs:swapsWith e (some (.Name x pos')) pos.line X.env=pure false:=by rfl)(hf:X.fn x=true\/X.env.scope.names.lookup x=some .local:=by exact .inl rfl):Bx (PS X (.Assign [.Name x pos'] e pos) (tAsg te (gName i))):=zje hN hi hl he hs hf
theorem bpeX{a b:Expr}{ta tb:TE}{pos:Pos}{r:R2}(hr:IxR X r)(h1:Bx (PE X a ta))(h2:Bx (PE X b tb))(hp:PlainIx b:=by exact λ_ _=>rfl):Bx (PE X (.Subscript a b pos) (tOp r ta tb)):=zlm hr h1 h2 hp
theorem bpgN{pos:Pos}{i:Nat}{x:Str}(hN:X.N.Nodup)(hi:X.N[i]?=some x)(hl:Loc X.env.scope x)(hf:X.fn x=true\/X.env.scope.names.lookup x=some .local:=by first|exact .inl rfl|exact .inr rfl|assumption):Bx (PG X (.Name x pos) (gName i)):=zkd hN hi hl hf
end
noncomputable def xcIn(K:qC)(C:Addr):Bool:=match K.lookup C with
 | some ⟨.type "type",_,.cls cd,sl⟩=>(match cd.mro,sl.toList with
  | .ref C'::bm,[_,_,_,_,some (.builtin n),_]=>C'==C&&!cd.hasDel&&cd.hasDict&&n=="ValueError.__new__"&&bm.contains (.type "ValueError")&&bm.contains (.type "BaseException")&&!bm.contains (.type "AttributeError")&&!bm.contains (.type "NameError")
  | _,_=>false)
 | _=>false
theorem zawe{K:qC}{h:Heap}{C:Addr}(X:K.In h)(q:xcIn K C=true):∃nm qn N bs bm sn sub ab col dd k0 k1 k2 k3 k5,
  h.get? C=some (excClassObj nm qn C N bs bm true sn sub ab col dd k0 k1 k2 k3 k5 "ValueError.__new__")/\(Value.ref C::bm).contains (.type "ValueError")=true/\(Value.ref C::bm).contains (.type "BaseException")=true/\(Value.ref C::bm).contains (.type "AttributeError")=false/\(Value.ref C::bm).contains (.type "NameError")=false:=by
 unfold xcIn at q
 split at q
 ·rename_i dd cd sl ho
  split at q
  ·rename_i C' bm k0 k1 k2 k3 n k5 hm hs
   simp only[qm,beq_iff_eq,Bool.not_eq_true']at q
   obtain⟨⟨⟨⟨⟨⟨⟨rfl,hdel⟩,hdc⟩,rfl⟩,hv⟩,hb⟩,ha⟩,hn⟩:=q
   obtain⟨nm,bs,mro,ns,qn,hd,sn,sub,ab,col,del⟩:=cd
   dsimp only at hm hdel hdc
   subst hm hdel hdc
   have hsl:sl=#[k0,k1,k2,k3,some (.builtin "ValueError.__new__"),k5]:=by
    obtain⟨l⟩:=sl
    simp only at hs
    rw[hs]
   subst hsl
   refine⟨nm,qn,ns,bs,bm,sn,sub,ab,col,dd,k0,k1,k2,k3,k5,X _ _ ho,?_,?_,?_,?_⟩
   ·rw[qAQ,hv,qAu]
   ·rw[qAQ,hb,qAu]
   ·rw[qAQ,ha];rfl
   ·rw[qAQ,hn];rfl
  ·cases q
 ·cases q
end L2
namespace PySem
open Sem (wp)
section
variable{prog:Program}{w:World}{A:Around}{E:Value->Shared->Prop}{h:Heap}{g:Array GenState}{d:Drawn}{t:Nat}{os:OsState}
variable{nm q:Str}{C N:Addr}{bs bm:List Value}{sn:List Str}{sub:List Value}{ab:Bool}{col:Option Bool}{dd:Option Addr}{k0 k1 k2 k3 k5:Option Value}
theorem zagu{M:Model}{rest:List Value}{Q:Unit->Shared->Prop}(hC:h.get? C=some (excClassObj nm q C N bs bm true sn sub ab col dd k0 k1 k2 k3 k5 "ValueError.__new__"))(hv:(Value.ref C::bm).contains (.type "ValueError")=true)
  (hq:Q () ⟨h,g,d,t,os⟩):wpAny M A (checkBuiltinCall "ValueError.__new__" ⟨.ref C::rest,[]⟩) Q E ⟨h,g,d,t,os⟩:=by
 have F:=qBg
 have f0:=F.noStar
 simp only[checkBuiltinCall,F.newKind,F.newSplit,F.newRow]
 repeat (first|refine qj hC ?_|(refine qAg hC ?_;rw[hv])|refine wpAny_staticBase_exc hC ?_|refine wpAny_madeBy_exc hC ?_|simp only[bne_self_eq_false,qBl,if_false]|wp_step)
 exact hq
theorem zajz{rest:List Value}{R:Result->Shared->Prop}(hC:h.get? C=some (excClassObj nm q C N bs bm true sn sub ab col dd k0 k1 k2 k3 k5 "ValueError.__new__"))(hv:(Value.ref C::bm).contains (.type "ValueError")=true)(ha:(Value.ref C::bm).contains (.type "AttributeError")=false)(hn:(Value.ref C::bm).contains (.type "NameError")=false)
  (hq:R (.ok (.ret (.ref (h.objs.size+1)))) ⟨(h.push {cls:=.type "tuple",data:=.seq rest.toArray}).push {cls:=.ref C,data:=.fields #[.ref h.objs.size,.none,.none,.none,.bool false,.none]},g,d,t,os⟩) (hr:rest.length<=qX) :
  codeAny (model prog w) A (.builtin "ValueError.__new__" ⟨.ref C::rest,[]⟩) R ⟨h,g,d,t,os⟩:=by
 have F:=qBg
 have f0:=F.ends
 refine codeAny_builtinAt F.entry ?_
 unfold Builtin.«BaseException.__new__»
 refine wpAt_bind ?_
 show wpAt _ _ _ (stack >>=_) _ _ _
 refine wpAt_bind (wpAt_stack λp below=>wpAt_of_wpAny ?_)
 wp_walk
 refine wpAt_of_wpAny ?_
 rw[F.owner]
 repeat (first|with_reducible refine wpAny_madeHere_exc F.canon hC ?_|with_reducible refine qj hC ?_|(with_reducible refine qAg hC ?_;first|rw[hv]|rw[ha]|rw[hn])|wp_step)
 show R _ _
 rw[qAp]
 exact hq
theorem zayn{rest:List Value}{fI:Addr}{oI:Obj}{Q:Value->Shared->Prop}(hC:h.get? C=some (excClassObj nm q C N bs bm true sn sub ab col dd k0 k1 k2 k3 k5 "ValueError.__new__"))(hv:(Value.ref C::bm).contains (.type "ValueError")=true)(ha:(Value.ref C::bm).contains (.type "AttributeError")=false)(hn:(Value.ref C::bm).contains (.type "NameError")=false)
  (LI:W.Looks (model prog w) h (typeLookup (.ref C) "__init__") (some (.ref fI)))(hfI:h.get? fI=some oI)(hfc:oI.cls=.type "function")(hr:rest.length<=qX)
  (hq:∀h' e,Heap.MadeExcOf h h' e (.ref C) rest->wpAny (model prog w) (A.under (.builtin "type.__call__" ⟨.ref C::rest,[]⟩)) (call (.ref fI) (.ref e::rest)) (λr s'=>r=.none/\Q (.ref e) s') E ⟨h',g,d,t,os⟩) :
  wpAny (model prog w) A (call (.ref C) rest) Q E ⟨h,g,d,t,os⟩:=by
 have F:=qBg
 have f1:=tc_lookup
 have f2:=tc_bind (.ref C)
 have hT:(⟨h,g,d,t,os⟩:Shared).TypeIs (.ref C) "type":=⟨_,hC,rfl⟩
 refine qCW (codeAny_of_tree ?_)
 show wpAny _ _ (callAny (.ref C) _) _ _ _
 repeat (any_goals (first|assumption|with_reducible refine qj hC ?_|wp_step))
 refine⟨rfl,?_⟩
 refine codeAny_call_builtin_at (qCI _ (by decide +kernel)) entry_typeCall (wpAny_check_type_call_sub hC ?_)
 repeat (first|with_reducible refine qj hC ?_|with_reducible refine wpAny_madeBy_exc hC ?_|wp_step)
 refine codeAny_call_builtin_code (qCI _ F.quiet) (zagu hC hv ?_)
 refine zajz hC hv ha hn ?_ hr
 show wpAny _ _ _ _ _ _
 have kp:∀b o,h.get? b=some o->((h.push {cls:=.type "tuple",data:=.seq rest.toArray}).push {cls:=.ref C,data:=.fields #[.ref h.objs.size,.none,.none,.none,.bool false,.none]}).get? b=some o:=λb o e=>qF _ (qF _ e)
 have hC1:=kp _ _ hC
 have he:((h.push {cls:=.type "tuple",data:=.seq rest.toArray}).push {cls:=.ref C,data:=.fields #[.ref h.objs.size,.none,.none,.none,.bool false,.none]}).get? (h.objs.size+1)=some {cls:=.ref C,data:=.fields #[.ref h.objs.size,.none,.none,.none,.bool false,.none]}:=by heap_get
 have hcC:(Value.ref C::bm).contains (.ref C)=true:=by simp
 unfold isInstance
 repeat (first|with_reducible refine qj he ?_|(refine qAg hC1 ?_;rw[hcC])|wp_step)
 show wpAny _ _ (typeLookup (.ref C) _) _ _ _
 refine(LI.keeps kp).here ?_
 refine qBS (qD ?_)
 unfold bindSpecial
 refine qD (qCY (T:="function") ⟨_,kp _ _ hfI,hfc⟩ ?_)
 rw[if_pos (by decide)]
 refine qJ (qD (qBJ (hq _ (h.objs.size+1) ⟨kp,qB6 (qBX _),h.objs.size,he,qB6 (qK _),?_⟩) (λr s' hh=>?_) λ_ _ x=>x))
 ·exact qF _ (Heap.get?_push_at rfl rfl)
 ·obtain⟨rfl,hQ⟩:=hh
  wp_walk
  exact hQ
end
open Builtin Builtin.ObjectAttr
noncomputable def vmro:List Value:=[.type "ValueError",.type "Exception",.type "BaseException",.type "object"]
noncomputable def zex:List Value->Bool
 | .ref _::r=>zex r
 | l=>l==vmro
theorem zoj(self:Value)(what:Str):∀{l:List Value},zex l=true->refuseLoop self what l=refuseLoop self what vmro
 | [],h=>by cases h
 | v::r,h=>by
  cases v with
  | ref a=>rw[refuseLoop_ref];exact zoj self what h
  | _=>rw[eq_of_beq (show(_==vmro)=true from h)]
theorem zdz{T:Value}(hT:vmro.contains T=true):∀{l:List Value},zex l=true->l.contains T=true
 | [],h=>by cases h
 | v::r,h=>by
  cases v with
  | ref a=>rw[qAQ,zdz hT (l:=r) h,qAu]
  | _=>rw[eq_of_beq (show(_==vmro)=true from h)];exact hT
section
variable{prog:Program}{w:World}{A:Around}{E:Value->Shared->Prop}{h:Heap}{g:Array GenState}{d:Drawn}{t:Nat}{os:OsState}
variable{nm q:Str}{C N x:Addr}{bs bm:List Value}{sn:List Str}{sub:List Value}{ab:Bool}{col:Option Bool}{dd:Option Addr}{k0 k1 k2 k3 k5:Option Value}{newId:String}{name:Str}{v:Value}
theorem zaae{M:Model}{o:Obj}{nameV:Value}{Q:Unit->Shared->Prop}(hr:zex bm=true)
  (hC:h.get? C=some (excClassObj nm q C N bs bm true sn sub ab col dd k0 k1 k2 k3 k5 newId))(hx:h.get? x=some o)(hc:o.cls=.ref C)(hq:Q () ⟨h,g,d,t,os⟩) :
  wpAny M A (checkBuiltinCall "object.__setattr__" ⟨[.ref x,nameV,v],[]⟩) Q E ⟨h,g,d,t,os⟩:=by
 have SF:=qCL
 have hcB:(Value.ref C::bm).contains (.type "object")=true:=by rw[qAQ,zdz (by decide) hr,qAu]
 have ha:=SF.args (.ref x) nameV v
 simp only[checkBuiltinCall,SF.kind,SF.split]
 refine qD ?_
 ·unfold isInstance
  repeat (first|(with_reducible refine qj hx ?_;rw[hc])|(with_reducible refine qAg hC ?_;rw[hcB])|wp_step)
  exact hq
theorem zaaf{tk:Tok}{Q:Fin->Shared->Prop}{o:Obj}(hr:zex bm=true)
  (hC:h.get? C=some (excClassObj nm q C N bs bm true sn sub ab col dd k0 k1 k2 k3 k5 newId))(hx:h.get? x=some o)(hc:o.cls=.ref C)(hnc:∀c,o.data≠.cls c)(hdn:o.dict=none)
  (LA:W.Looks (model prog w) h (typeLookup (.ref C) name) none)
  (hq:∀h' tk' dx,h.objs.size<=dx->h'.Ns1 dx (λy=>if y=name then some v else none)->h'.get? x=some {o with dict:=some dx}->
   (∀b o,b≠x->h.get? b=some o->h'.get? b=some o)->Q (.done (.ret .none)) ⟨h',g,d,tk',os⟩) :
  wpAny (model prog w) A (Builtin.«object.__setattr__» ⟨[.ref x,.str name tk,v],[]⟩) Q E ⟨h,g,d,t,os⟩:=by
 have SF:=qCL
 have hpass:refuseLoop (.ref x) "__setattr__" bm=pure ():=by rw[zoj _ _ hr];exact SF.passes (.ref x)
 unfold Builtin.«object.__setattr__»
 repeat (first|rw[refuse_eq]|(rw[refuseLoop_ref,hpass])|(with_reducible refine qj hx ?_;rw[hc])|with_reducible refine wpAny_mroOf_exc hC ?_|(with_reducible refine LA.here ?_)|wp_step)
 rw[hdn,if_neg (by simp[typeHasDict])]
 split
 ·rename_i hcd
  cases hcd
 split
 ·rename_i c hcd
  exact absurd hcd (hnc c)
 ·have hx₁:(h.push {cls:=.type "dict",data:=.dict #[]}).get? x=some o:=qF _ hx
  have hxs:x≠h.objs.size:=qu (qL hx)
  refine qD (wpAny_alloc' ?_)
  refine qD (wpAny_update' hx₁ ?_)
  refine qJ ?_
  have hgd:((h.push {cls:=.type "dict",data:=.dict #[]}).update x λo=>{cls:=o.cls,dict:=some h.objs.size,data:=o.data,slots:=o.slots}).get? h.objs.size
    = some {cls:=.type "dict",data:=.dict #[]}:=
   (qC9 _ _ _ _ hxs.symm).trans (Heap.get?_push_at rfl rfl)
  have hnd:((h.push {cls:=.type "dict",data:=.dict #[]}).update x λo=>{cls:=o.cls,dict:=some h.objs.size,data:=o.data,slots:=o.slots}).Ns h.objs.size (λ_=>none):=
   ⟨_,#[],_,hgd,rfl,λe he=>absurd he (by simp),λ_=>rfl⟩
  show wpAny _ _ (storeInDict h.objs.size (.str name tk) name v) _ _ _
  unfold storeInDict newKeyGuard
  refine qD (qJ (qD (wpAny_nsSet1EFk (Heap.Ns1.of_empty hnd) λh' hn' hs hkeepD=>?_)))
  obtain⟨oD,esD,epD,hoD,hdD,hcD⟩:=hn'.count (Within.cons name v Within.nil)
  refine qD (wpAny_lookBehind hoD (by rw[hdD];exact pastItsLine_dict (qv hcD (by rw[qw,qAx,qA9];omega))) ?_)
  wp_walk
  refine hq h' _ h.objs.size (qK _) hn' ?_ (λb ob hbx hb=>?_)
  ·refine(hs.2 x hxs).trans (qAf _ hx₁ ?_)
   have hfr:=(Heap.get?_some_iff.mp hx).2
   obtain⟨oc,od,odt,osl⟩:=o
   cases odt<;>first|rfl|exact hfr
  ·exact(hs.2 b (qu (qL hb))).trans ((qC9 _ _ _ _ hbx).trans (qF _ hb))
theorem zawf{Q:Unit->Shared->Prop}{o:Obj}(hr:zex bm=true)
  (hC:h.get? C=some (excClassObj nm q C N bs bm true sn sub ab col dd k0 k1 k2 k3 k5 newId))(hx:h.get? x=some o)(hc:o.cls=.ref C)(hnc:∀c,o.data≠.cls c)(hdn:o.dict=none)
  (LS:W.Looks (model prog w) h (typeLookup (.ref C) "__setattr__") (some (.builtin "object.__setattr__")))(LA:W.Looks (model prog w) h (typeLookup (.ref C) name) none)
  (hq:∀h' tk' dx,h.objs.size<=dx->h'.Ns1 dx (λy=>if y=name then some v else none)->h'.get? x=some {o with dict:=some dx}->
   (∀b o,b≠x->h.get? b=some o->h'.get? b=some o)->Q () ⟨h',g,d,tk',os⟩) :
  wpAny (model prog w) A (setAttr (.ref x) name v) Q E ⟨h,g,d,t,os⟩:=by
 have SF:=qCL
 have f3:=SF.slot.bind (.ref x)
 unfold setAttr callSpecial? specialOf
 repeat (any_goals (first|assumption|(with_reducible refine qj hx ?_;rw[hc])|(with_reducible refine LS.here ?_)|wp_step))
 refine qBK SF.slot.plain SF.entry (zaae hr hC hx hc (zaaf hr hC hx hc hnc hdn LA λh' tk' dx a1 a2 a3 a4=>?_))
 repeat (any_goals (first|assumption|wp_step))
 exact hq h' tk' dx a1 a2 a3 a4
theorem zayo{Q:Value->Shared->Prop}{o:Obj}{dx:Addr}{vs:Array Value}{mA:Str->Option Value}{expr:Bool}(hr:zex bm=true)
  (hC:h.get? C=some (excClassObj nm q C N bs bm true sn sub ab col dd k0 k1 k2 k3 k5 newId))(hx:h.get? x=some o)(hc:o.cls=.ref C)(hd:o.data=.fields vs)(hdd:o.dict=some dx)
  (hns:h.Ns dx mA)(hv:mA name=some v)
  (LG:W.Looks (model prog w) h (typeLookup (.ref C) "__getattribute__") (some (.builtin "BaseException.__getattribute__")))(LH:W.Looks (model prog w) h (typeLookup (.ref C) "__getattr__") none)(LA:W.Looks (model prog w) h (typeLookup (.ref C) name) none)
  (hh:W.handedIn v=true)(hq:∀tk',Q v ⟨h,g,d,tk',os⟩) :
  wpAny (model prog w) A (getAttr (.ref x) name expr) Q E ⟨h,g,d,t,os⟩:=by
 have hk:builtinKind "BaseException.__getattribute__"=some .slot:=by decide +kernel
 have hsplit:splitId "BaseException.__getattribute__"=some ("BaseException","__getattribute__"):=by decide +kernel
 have hcB:(Value.ref C::bm).contains (.type "BaseException")=true:=by rw[qAQ,zdz (by decide) hr,qAu]
 have hx0:(expr&&onTheHeap (Value.builtin "BaseException.__getattribute__"))=false:=by cases expr<;>rfl
 have hx2:(Value.builtin "BaseException.__getattribute__"==Value.builtin "object.__getattribute__")=false:=by decide +kernel
 have hx1:(onTheHeap (Value.ref C)&&Value.builtin "BaseException.__getattribute__"==Value.builtin "object.__getattribute__")=false:=by rw[hx2];rfl
 have FB:=F.attr_ValueError
 have f3:=FB.ga.bind (.ref x)
 have ha:=F.args_bexc_ga (.ref x)
 unfold getAttr getAttrBy
 repeat (any_goals (first|assumption|(with_reducible refine qj hx ?_;rw[hc])|(with_reducible refine LG.here ?_)|(with_reducible refine LH.here ?_)|wp_step))
 refine qBK FB.ga.plain F.entry_bexc_ga ?_
 simp only[checkBuiltinCall,hk,hsplit]
 refine qD ?_
 unfold isInstance
 repeat (first|(with_reducible refine qj hx ?_;rw[hc])|(with_reducible refine qAg hC ?_;rw[hcB])|wp_step)
 repeat (any_goals (first|assumption|(with_reducible refine qj hx ?_;rw[hc])|(with_reducible refine LA.here ?_)|wp_step))
 rw[hd]
 dsimp only
 unfold instanceDict
 repeat (any_goals (first|assumption|(with_reducible refine qj hx ?_;rw[hc])|(with_reducible refine qj hC ?_)|wp_step))
 rw[hdd]
 dsimp only
 refine qJ ?_
 unfold inDict
 refine wpAny_nsGet hns ?_
 rw[hv]
 dsimp only
 repeat (any_goals (first|assumption|wp_step))
 show wpAny _ _ (handedOut v) _ _ _
 rw[W.handedOut_of hh]
 exact qJ (hq _)
theorem zayp{Q:Value->Shared->Prop}{o:Obj}{vs:Array Value}{rest:List Value}(hr:zex bm=true)(hl:rest.length<=qX)
  (hC:h.get? C=some (excClassObj nm q C N bs bm true sn sub ab col dd k0 k1 k2 k3 k5 newId))(hx:h.get? x=some o)(hc:o.cls=.ref C)(hd:o.data=.fields vs)(hs:0<vs.size)
  (hq:∀h' p,h'.get? x=some {o with data:=.fields (vs.setIfInBounds 0 (.ref p))}->(∀b o,b≠x->h.get? b=some o->h'.get? b=some o)->Q .none ⟨h',g,d,t,os⟩) :
  wpAny (model prog w) A (call (.builtin "ValueError.__init__") (.ref x::rest)) Q E ⟨h,g,d,t,os⟩:=by
 have F:=qBg
 have hcB:(Value.ref C::bm).contains (.type "ValueError")=true:=by rw[qAQ,zdz (by decide) hr,qAu]
 have hshort:=F.noStar
 refine qCW (qBK F.init.plain F.initEntry ?_)
 simp only[checkBuiltinCall,F.initKind,F.initSplit,F.initRow]
 repeat (first|(with_reducible refine qj hx ?_;rw[hc])|with_reducible refine qj hC ?_|(with_reducible refine qAg hC ?_;rw[hcB])|wp_step)
 refine qB2 ?_
 rw[show ∀(a b:String)(n:Nat),Bind.check ⟨.positional,"*","ValueError",.self,[⟨"args",.varPos,false⟩]⟩ a b n (List.map (λx=>x.fst) ({pos:=Value.ref x::rest}:Args).kw)=pure ()from
  λa b n=>check_star_args _ _ _ _ _ _]
 refine qJ ?_
 unfold Builtin.«BaseException.__init__»
 repeat (any_goals (first|assumption|wp_step))
 rw[hd]
 dsimp only
 refine qJ ?_
 rw[Array.getElem?_eq_getElem hs]
 dsimp only
 refine qJ (qD ?_)
 have hx':(h.push {cls:=.type "tuple",data:=.seq rest.toArray}).get? x=some o:=qF _ hx
 refine qBL hx' hd hs ?_
 have fin:Q .none ⟨(h.push {cls:=.type "tuple",data:=.seq rest.toArray}).update x (Obj.mapFields (·.setIfInBounds 0 (Value.ref h.objs.size))),g,d,t,os⟩:=by
  refine hq _ h.objs.size ?_ λb ob hb e=>by rw[qAT _ _ (qAl hb)];exact qF _ e
  have hd₃:=qAZ hd (·.setIfInBounds 0 (Value.ref h.objs.size))
  rw[qAf _ hx' (qAv hd₃)]
  unfold Obj.mapFields
  obtain⟨oc,od,odt,osl⟩:=o
  cases hd
  rfl
 cases vs[0]<;>(repeat (any_goals (first|exact fin|assumption|wp_step)))
end
noncomputable def Heap.Tb(h:Heap)(T:Addr):Prop:=∃oT ts,h.get? T=some oT/\oT.data=.fields ts/\ts[3]?=some .none
section
variable{M:Model}{A:Around}{E:Value->Shared->Prop}{s:Shared}{base:Heap}{env:Env}{outer:List Env}{L e:Addr}{oe:Obj}{vs:Array Value}
theorem mapf{o:Obj}{vs:Array Value}(hd:o.data=.fields vs)(f:Array Value->Array Value):Obj.mapFields f o={o with data:=.fields (f vs)}:=by
 unfold Obj.mapFields
 obtain⟨oc,od,odt,osl⟩:=o
 cases hd
 rfl
theorem ztj{head:Value}{hadNext:Bool}{Q:Unit->Shared->Prop}
  (hfr:A.frames=some (env::outer))(hl:s.heap.FunFrames base (env::outer))(hf:env.frame=some L)(he:s.heap.get? e=some oe)(hd:oe.data=.fields vs)(hsz:1<vs.size)
  (hQ:∀h' T,s.heap.objs.size<=T->T≠e->(∀b o,b≠e->b∉(env::outer).filterMap (·.frame)->s.heap.get? b=some o->h'.get? b=some o)->
   (∀b o,b≠e->s.heap.get? b=some o->∃sl,h'.get? b=some {o with slots:=sl})->h'.get? e=some {oe with data:=.fields (vs.setIfInBounds 1 (.ref T))}->h'.Tb T->Q () {s with heap:=h'}) :
  wpAny M A (do let a <- frameOf env;let pl <- entryPlaceOf L hadNext;let b <- EntryCells.newEntry head a .none (rawInt L) .none pl;setField (.ref e) 1 b) (λ_ s'=>wpAny M A (setFlight (.ref e) none) Q E s') E s:=by
 have hene:e∉(env::outer).filterMap (·.frame):=λhm=>by
  obtain⟨_,o,ho,hnf⟩:=hl.mem hm
  rw[he]at ho;injection ho with ho;subst ho;exact hnf vs hd
 refine qD (wpAny_frameOf_fun hfr hl hf λh₁ hs₁=>?_)
 refine qD (wpAny_entryPlaceOf λpl hpl=>?_)
 unfold EntryCells.newEntry newFields
 refine qD (qAt ?_ (hpl.sizeOk5 _ _ _ _ _))
 have he₁:h₁.get? e=some oe:=(hs₁.2.1 e hene).trans he
 have he₂:=qF (h:=h₁) {cls:=.type "traceback",dict:=none,data:=.fields ([head,.ref L,.none,rawInt L,.none]++(if pl.isEmpty then List.replicate 6 Value.none else pl)).toArray} he₁
 refine qBL he₂ hd hsz ?_
 have hTe:h₁.objs.size≠e:=qBZ (qL he₁)
 have hd₃:=qAZ hd (·.setIfInBounds 1 (Value.ref h₁.objs.size))
 have he₃:=qAf (Obj.mapFields (·.setIfInBounds 1 (Value.ref h₁.objs.size))) he₂ (qAv hd₃)
 have hT₃:=(qAT (h₁.push {cls:=.type "traceback",dict:=none,data:=.fields ([head,.ref L,.none,rawInt L,.none]++(if pl.isEmpty then List.replicate 6 Value.none else pl)).toArray})
  (Obj.mapFields (·.setIfInBounds 1 (Value.ref h₁.objs.size))) (qAl hTe)).trans (qb h₁ rfl)
 unfold setFlight
 refine qD (qAS he₃ hd₃ (x:=.ref h₁.objs.size) (by simp[hsz]) ?_)
 rw[if_pos (show(Value.ref h₁.objs.size != Value.none)=true from by simp)]
 refine qBL hT₃ rfl (by simp only[qP,qH,qw,qAx]<;>omega) ?_
 have keep:∀b o,b≠e->h₁.get? b=some o->
   (((h₁.push {cls:=.type "traceback",dict:=none,data:=.fields ([head,.ref L,.none,rawInt L,.none]++(if pl.isEmpty then List.replicate 6 Value.none else pl)).toArray}).update e (Obj.mapFields (·.setIfInBounds 1 (Value.ref h₁.objs.size)))).update h₁.objs.size
    (Obj.mapFields (·.setIfInBounds 3 ((none:Option Addr).elim Value.none λf=>rawInt f)))).get? b=some o:=λb o hbe hb=>by
  have hbT:h₁.objs.size≠b:=qBZ (qL hb)
  rw[qAT _ _ hbT,qAT _ _ (qAl hbe)]
  exact qF _ hb
 refine hQ _ h₁.objs.size (Nat.le_of_eq hs₁.1.symm) hTe (λb o hb hn ho=>keep b o hb ((hs₁.2.1 b hn).trans ho)) (λb o hb ho=>?_) ?_ ?_
 ·obtain⟨sl,hs⟩:=hs₁.2.2 b o ho
  exact⟨sl,keep b _ hb hs⟩
 ·rw[qAT _ _ hTe,he₃,mapf hd]
 ·exact⟨_,_,qAf _ hT₃ (qAv (qAZ rfl _)),qAZ rfl _,by first|(simp;done)|(rcases hpl with rfl|⟨_,_,_,_,_,_,_,rfl⟩<;>simp)⟩
theorem zacv{Q:Unit->Shared->Prop}
  (hfr:A.frames=some (env::outer))(hl:s.heap.FunFrames base (env::outer))(hf:env.frame=some L)(he:s.heap.get? e=some oe)(hd:oe.data=.fields vs)
  (h1:vs[1]?=some .none\/∃T,vs[1]?=some (.ref T)/\T≠e/\s.heap.Tb T)
  (hQ:∀h' T,s.heap.objs.size<=T->T≠e->(∀b o,b≠e->vs[1]?≠some (.ref b)->b∉(env::outer).filterMap (·.frame)->s.heap.get? b=some o->h'.get? b=some o)->
   (∀b o,b≠e->vs[1]?≠some (.ref b)->s.heap.get? b=some o->∃sl,h'.get? b=some {o with slots:=sl})->(∀b,vs[1]?=some (.ref b)->h'.Tb b)->
   h'.get? e=some {oe with data:=.fields (vs.setIfInBounds 1 (.ref T))}->h'.Tb T->Q () {s with heap:=h'}) :
  wpAny M A (noteFrame (.ref e) env) (λ_ s'=>wpAny M A (setFlight (.ref e) none) Q E s') E s:=by
 unfold noteFrame
 simp only[hf]
 rcases h1 with h1|⟨T,h1,hTe,oT,ts,hT,hdT,h3⟩
 ·refine(qD (qAS he hd h1 ?_))
  rw[if_neg (by decide)]
  exact ztj hfr hl hf he hd (qAi.mp h1).1 λh' T a1 a2 a3 a4 a5 a6=>hQ h' T a1 a2 (λb o q _=>a3 b o q) (λb o q _=>a4 b o q) (λb q=>by rw[h1]at q;cases q) a5 a6
 ·refine(qD (qAS he hd h1 ?_))
  rw[if_pos (show(Value.ref T != Value.none)=true from by simp)]
  refine qD (qAS hT hdT h3 ?_)
  rw[if_neg (show ¬((Value.none==rawInt L)=true)from by simp[rawInt])]
  have hsz3:=(qAi.mp h3).1
  refine qD (qBL hT hdT hsz3 ?_)
  have other:∀b,b≠T->(s.heap.update T (Obj.mapFields (·.setIfInBounds 3 Value.none))).get? b=s.heap.get? b:=λb hb=>qAT _ _ (qAl hb)
  have hT':=qAf (Obj.mapFields (·.setIfInBounds 3 Value.none)) hT (qAv (qAZ hdT _))
  have noRecord:∀b o,s.heap.get? b=some o->(∀vs,o.data≠.fields vs)->b≠T:=λb o hb hnf q=>by
   rw[q,hT]at hb;injection hb with hb;subst hb;exact hnf ts hdT
  have ne:∀{b:Addr},vs[1]?≠some (.ref b)->b≠T:=λq z=>q (by rw[h1,z])
  refine ztj hfr (hl.of_keeps λb o hb hnf=>⟨o,(other b (noRecord b o hb hnf)).trans hb,rfl⟩) hf ((other e (qAl hTe)).trans he) hd (qAi.mp h1).1 λh' T' a1 a2 a3 a4 a5 a6=>?_
  refine hQ h' T' (by rw[Heap.size_update]at a1;exact a1) a2 (λb o q n z ho=>a3 b o q z ((other b (ne n)).trans ho)) (λb o q n ho=>a4 b o q ((other b (ne n)).trans ho)) (λb q=>?_) a5 a6
  rw[h1]at q
  cases q
  obtain⟨sl,hs⟩:=a4 T _ hTe hT'
  exact⟨_,_,hs,qAZ hdT _,by simp[hsz3]⟩
theorem zaka{Q:Unit->Shared->Prop}{T:Addr}(he:s.heap.get? e=some oe)(hd:oe.data=.fields vs)(h1:vs[1]?=some (.ref T))(hT:s.heap.Tb T)
  (hQ:∀h',(∀b o,b≠T->s.heap.get? b=some o->h'.get? b=some o)->h'.Tb T->Q () {s with heap:=h'}):wpAny M A (setFlight (.ref e) none) Q E s:=by
 obtain⟨oT,ts,hT,hdT,h3⟩:=hT
 have hsz3:=(qAi.mp h3).1
 unfold setFlight
 refine qD (qAS he hd h1 ?_)
 rw[if_pos (show(Value.ref T != Value.none)=true from by simp)]
 refine qBL hT hdT hsz3 (hQ _ (λb o hb ho=>by rw[qAT _ _ (qAl hb)];exact ho) ?_)
 exact⟨_,_,qAf _ hT (qAv (qAZ hdT _)),qAZ hdT _,by simp[hsz3]⟩
end
end PySem
namespace L2
open PySem PySem.Spec PyProof.Rows
noncomputable def xeD(e C dx:Addr)(tv:Value)(h:Heap):Prop:=∃vs sl,h.get? e=some {cls:=.ref C,dict:=some dx,data:=.fields vs,slots:=sl}/\vs[1]?=some tv
theorem xeD.stay{e C dx:Addr}{tv:Value}(h1 h2:Heap)(h:xeD e C dx tv h1)(k:∀o,h1.get? e=some o->h2.get? e=some o):xeD e C dx tv h2:=
 let⟨vs,sl,a,b⟩:=h;⟨vs,sl,k _ a,b⟩
theorem zash{T:Addr}(h1 h2:Heap)(h:h1.Tb T)(k:∀o,h1.get? T=some o->h2.get? T=some o):h2.Tb T:=
 let⟨oT,ts,a,b⟩:=h;⟨oT,ts,k _ a,b⟩
theorem zapw{P:Program}{w:World}{H:Hp}{h:Heap}{e C dx:Addr}{tv:Value}(q:xeD e C dx tv h):zfd P w H h e (.ext (xeD e C dx tv)):=
 ⟨q,let⟨_,_,a,_⟩:=q;⟨_,a⟩,λh1 h2=>xeD.stay h1 h2⟩
theorem zakb{P:Program}{w:World}{H:Hp}{h:Heap}{T:Addr}(q:h.Tb T):zfd P w H h T (.ext λh=>h.Tb T):=
 ⟨q,let⟨_,_,a,_⟩:=q;⟨_,a⟩,λh1 h2=>zash h1 h2⟩
theorem zfd.there{P:Program}{w:World}{H:Hp}{h:Heap}{a:Addr}{o:HO}(x:zfd P w H h a o):∃ob,h.get? a=some ob:=by
 cases o with
 | lst xs=>obtain⟨_,_,_,_,e⟩:=x;exact⟨_,e⟩
 | tup xs=>obtain⟨_,_,_,ob,e,_⟩:=x;exact⟨_,e⟩
 | dK kvs=>obtain⟨_,_,_,_,o,_,_,e,_⟩:=x;exact⟨_,e⟩
 | dT kvs=>obtain⟨_,_,_,_,o,_,_,e,_⟩:=x;exact⟨_,e⟩
 | set S n=>obtain⟨o,_,_,_,e,_⟩:=x;exact⟨_,e⟩
 | ins C dx fs=>obtain⟨_,_,_,e,_⟩:=x;exact⟨_,e⟩
 | own y=>exact x
 | xd fs=>obtain⟨_,⟨_,_,_,e,_⟩,_⟩:=x;exact⟨_,e⟩
 | rng lo hi=>obtain⟨_,_,_,e⟩:=x;exact⟨_,e⟩
 | frz ob u=>obtain⟨e,_⟩:=x;exact⟨_,e⟩
 | tbl ps=>exact⟨_,x⟩
 | met f y=>exact⟨_,x⟩
 | ext φ=>exact x.2.1
theorem HOk.no{P:Program}{w:World}{H:Hp}{h:Heap}{a:Addr}(x:HOk P w H h)(n:h.get? a=none):H a=none:=by
 cases q:H a with
 | none=>rfl
 | some u=>obtain⟨ob,z⟩:=(x a u q).there;rw[n]at z;cases z
noncomputable def zanz(H H':Hp):Prop:=∀b o,H b=some o->(∀φ,o≠.ext φ)->H' b=some o
noncomputable def StX(H0:Hp)(E:XK):XK:=λc dx H'=>∀H3,(∀b o,H0 b=some o->H' b=some o->H3 b=some o)->zanz H' H3->E c dx H3
structure Flt(h:Heap)(H':Hp)(e C dx:Addr):Prop where
 new:h.get? e=none
 st:∃tv,H' e=some (.ext (xeD e C dx tv))/\(tv=.none\/∃T,tv=.ref T/\T≠e/\h.get? T=none/\H' T=some (.ext λh=>h.Tb T))
noncomputable def CXE(P:Program)(w:World):CXT:=λouter H s E e s'=>∃ea C dx H',e=.ref ea/\s'.os=s.os/\AllBare s'.gens/\Un (frs outer) [] H H' s.heap s'.heap/\HOk P w H' s'.heap/\Flt s.heap H' ea C dx/\StX H E (.ref C) (some dx) H'
section
variable{X:Cx}{pins:List (Addr×Obj)}{σ:St}{H1:Hp}{s:Shared}{e C dx:Addr}{E:Value->Shared->Prop}
theorem zaag{h0:Heap}{Q:Unit->Shared->Prop}(I:Inv X pins σ H1 s)(hst:X.stack=X.env::X.outer)(hfr:X.env.frame=some X.env.locals)(hz:∀b ob,h0.get? b=some ob->∃o',s.heap.get? b=some o')(F:Flt h0 H1 e C dx)
  (k:∀s' H2,Inv X pins σ H2 s'->(∃T,H2 e=some (.ext (xeD e C dx (.ref T)))/\T≠e/\h0.get? T=none/\H2 T=some (.ext λh=>h.Tb T))->
   (∀b o ob,h0.get? b=some ob->H1 b=some o->H2 b=some o)->zanz H1 H2->(s.heap.objs.size<=s'.heap.objs.size)->Q () s') :
  wpAny (model X.prog X.w) X.A (noteFrame (.ref e) X.env) (λ_ s'=>wpAny (model X.prog X.w) X.A (setFlight (.ref e) none) Q E s') E s:=by
 obtain⟨tv,he,ht⟩:=F.st
 obtain⟨⟨vs,sl,oe,h1⟩,_,_⟩:=I.hok e _ he
 have hfs:∀b,b∈(X.env::X.outer).filterMap (·.frame)->H1 b=none:=λb hb=>I.stkFree b (by unfold frs;rw[hst];exact hb)
 have hT1:tv=.none\/∃T,tv=.ref T/\T≠e/\s.heap.Tb T:=ht.imp id λ⟨T,a,b,c,d⟩=>⟨T,a,b,(I.hok T _ d).1⟩
 refine zacv (base:=X.base) (L:=X.env.locals) (by rw[<- hst];exact I.ok.frames) (by rw[<- hst];exact I.stack) hfr oe rfl (hT1.imp (λz=>by rw[h1,z]) λ⟨T,a,b,c⟩=>⟨T,by rw[h1,a],b,c⟩) λh' T a1 a2 a3 a4 a5 a6 a7=>?_
 have nT:H1 T=none:=I.hok.fresh a1
 have tr:∀b,vs[1]?=some (.ref b)->H1 b=some (.ext λh=>h.Tb b)/\b≠e/\h0.get? b=none:=λb q=>by
  rw[h1]at q
  rcases ht with z|⟨T0,z,b1,c1,d1⟩
  ·rw[z]at q;cases q
  ·rw[z]at q;cases q;exact⟨d1,b1,c1⟩
 let H2:Hp:=upd (upd H1 T (.ext λh=>h.Tb T)) e (.ext (xeD e C dx (.ref T)))
 have h2:∀b,b≠e->b≠T->H2 b=H1 b:=λb q z=>by show upd _ _ _ b=_;rw[zav q,zav z]
 have h2e:H2 e=some (.ext (xeD e C dx (.ref T))):=zau
 have h2T:H2 T=some (.ext λh=>h.Tb T):=by show upd _ _ _ T=_;rw[zav a2,zau]
 have ext2:∀b o,H1 b=some o->(∀φ,o≠.ext φ)->H2 b=some o:=λb o q n=>by
  rw[h2 b (λz=>by rw[z,he]at q;cases q;exact n _ rfl) (λz=>by rw[z,nT]at q;cases q)];exact q
 have kp:∀b o,H1 b=some o->b≠e->vs[1]?≠some (.ref b)->∀u,s.heap.get? b=some u->h'.get? b=some u:=λb o q n n2 u z=>a3 b u n n2 (λm=>by rw[hfs b m]at q;cases q) z
 have hsz1:1<vs.size:=(qAi.mp h1).1
 have ok2:HOk X.prog X.w H2 h':=λb o q=>by
  by_cases hb:b=e
  ·subst hb
   rw[h2e]at q
   cases q
   exact zapw ⟨_,_,a6,by rw[Array.getElem?_setIfInBounds_self_of_lt hsz1]⟩
  ·by_cases hbT:b=T
   ·subst hbT
    rw[h2T]at q
    cases q
    exact zakb a7
   ·rw[h2 b hb hbT]at q
    by_cases hv:vs[1]?=some (.ref b)
    ·rw[(tr b hv).1]at q
     cases q
     exact zakb (a5 b hv)
    ·refine(I.hok b o q).stay (λc u hc z=>?_) (λc z=>ext2 c _ z (λφ y=>by cases y)) (λc xs z=>ext2 c _ z (λφ y=>by cases y))
     rcases hc with rfl|hc
     ·exact kp c o q hb hv u z
     ·exact kp c _ hc (λy=>by rw[y,he]at hc;cases hc) (λy=>by rw[(tr c y).1]at hc;cases hc) u z
 have un:Un (frs X.stack) [] H1 H2 s.heap h':=by
  have nb:∀b,H1 b=none->b≠e/\vs[1]?≠some (.ref b):=λb n=>⟨λy=>(by rw[y,he]at n;cases n),λy=>(by rw[(tr b y).1]at n;cases n)⟩
  have hfs':∀b,b∈frs X.stack↔b∈(X.env::X.outer).filterMap (·.frame):=λb=>by unfold frs;rw[hst]
  refine⟨λb o q n hb _=>a3 b o (nb b n).1 (nb b n).2 (λm=>hb ((hfs' b).mpr m)) q,λb o q n hb _=>a4 b o (nb b n).1 (nb b n).2 q,λb o q n _=>?_,λb o q _=>?_,λb xs q=>ext2 b _ q (λφ y=>by cases y),λb o u q=>ext2 b _ q (λφ y=>by cases y),λb ps q=>⟨#[],by rw[ext2 b _ q (λφ y=>by cases y)];simp⟩⟩
  ·rw[h2 b (nb b n).1 (λy=>by rw[y]at q;exact absurd (qL q) (Nat.not_lt.mpr a1))];exact n
  ·by_cases hb:b=e
   ·exact⟨_,by rw[hb];exact a6⟩
   ·by_cases hv:vs[1]?=some (.ref b)
    ·obtain⟨oT,_,z,_⟩:=a5 b hv;exact⟨oT,z⟩
    ·obtain⟨sl,z⟩:=a4 b o hb hv q;exact⟨_,z⟩
 have n0:h0.get? T=none:=by
  cases y:h0.get? T with
  | none=>rfl
  | some ob=>obtain⟨o',z⟩:=hz T ob y;exact absurd (qL z) (Nat.not_lt.mpr a1)
 have hs:s.heap.objs.size<=h'.objs.size:=qB4 (qBB a1 (let⟨_,_,z,_⟩:=a7;qL z))
 refine k _ H2 (I.call' (s':={s with heap:=h'}) rfl un ok2 I.bare (λb z=>absurd z (by simp))) ⟨T,h2e,a2,n0,h2T⟩ (λb o ob q z=>?_) ext2 hs
 rw[h2 b (λy=>by rw[y,F.new]at q;cases q) (λy=>by rw[y,nT]at z;cases z)]
 exact z
theorem zaoa{h0:Heap}{Q:Unit->Shared->Prop}(I:Inv X pins σ H1 s)(hst:X.stack=X.env::X.outer)(hfr:X.env.frame=some X.env.locals)(hz:∀b ob,h0.get? b=some ob->∃o',s.heap.get? b=some o')(F:Flt h0 H1 e C dx)
  (k:∀s' H2,Inv X pins σ H2 s'->(∃T,H2 e=some (.ext (xeD e C dx (.ref T)))/\T≠e/\h0.get? T=none/\H2 T=some (.ext λh=>h.Tb T))->
   (∀b o ob,h0.get? b=some ob->H1 b=some o->H2 b=some o)->zanz H1 H2->(s.heap.objs.size<=s'.heap.objs.size)->Q () s') :
  wpAny (model X.prog X.w) X.A (leaving X.env (.ref e)) Q E s:=by
 unfold leaving
 exact qD (zaag I hst hfr hz F k)
end
theorem zapx{P:Program}{w:World}{K:qC}{mg:Str->Option Value}{base:Heap}{N:List Str}{qual:Str}{scope:Scope}{f:Addr}{cd:Value}{A:Around}{outer:List Env}{s:Shared}{H:Hp}{E:XK}
  {pins:List (Addr×Obj)}{σ:St}{H1:Hp}{s1:Shared}{e C dx:Addr}(I:Inv (cxOf (CXE P w) P w K mg base N qual scope f cd A outer s H E) pins σ H1 s1)(h0k:HOk P w H s.heap)(F:Flt s.heap H1 e C dx)(q:StX H E (.ref C) (some dx) H1) :
  (cxOf (CXE P w) P w K mg base N qual scope f cd A outer s H E).xe (.ref e) s1:=by
 refine zaoa (X:=cxOf (CXE P w) P w K mg base N qual scope f cd A outer s H E) I rfl rfl (λb ob z=>I.base.there b ob z (λy=>absurd (show b∈([]:List Addr)from y) (by simp))) F λs' H2 I2 ht hk hx _=>?_
 refine⟨e,C,dx,H2,rfl,I2.os,I2.bare,I2.base,I2.hok,⟨F.new,_,ht.choose_spec.1,.inr ⟨_,rfl,ht.choose_spec.2⟩⟩,λH3 r1 r2=>q H3 (λb o z1 z2=>?_) (λb o z n=>r2 b o (hx b o z n) n)⟩
 obtain⟨ob,y⟩:=(h0k b o z1).there
 exact r1 b o z1 (hk b o ob y z2)
theorem zasi{P:Program}{w:World}{K:qC}{mg:Str->Option Value}{base:Heap}{N:List Str}{qual:Str}{scope:Scope}{f:Addr}{cd:Value}{A:Around}{outer:List Env}{s:Shared}{H:Hp}{E:XK}(h0k:HOk P w H s.heap) :
  zyv (CXE P w) (cxOf (CXE P w) P w K mg base N qual scope f cd A outer s H E) (StX H E):=by
 intro pins σ H1 s1 e s2 I h
 obtain⟨ea,C,dx,H2,rfl,os,bare,un,ok,F,q⟩:=h
 have I2:=I.call' (s':=s2) os un ok bare (λb z=>absurd z (by simp))
 have old:∀b ob,s.heap.get? b=some ob->∃o',s1.heap.get? b=some o':=λb ob z=>I.base.there b ob z (λy=>absurd (show b∈([]:List Addr)from y) (by simp))
 have nw:∀b,s1.heap.get? b=none->s.heap.get? b=none:=λb z=>by
  cases y:s.heap.get? b with
  | none=>rfl
  | some ob=>obtain⟨o',y'⟩:=old b ob y;rw[z]at y';cases y'
 refine zapx I2 h0k ⟨nw _ F.new,?_⟩ (q H2 (λ_ _ _ z=>z) (λ_ _ z _=>z))
 obtain⟨tv,a,b⟩:=F.st
 exact⟨tv,a,b.imp id λ⟨T,x1,x2,x3,x4⟩=>⟨T,x1,x2,nw _ x3,x4⟩⟩
theorem zapy{CX:CXT}{P:Program}{w:World}{K:qC}{mg:Str->Option Value}{base:Heap}{x qual:Str}{st:Stmt}{f:Addr}{fd:qt}{N ps:List Str}{k:Nat}{sp:Sp}(Fu:Fun K x qual st f fd)(S:FnScope N ps (zah st))(len:∀vs H Q E,sp vs H Q E->vs.length=ps.length)
  (hbody:∀(cdv:Value)(A:Around)(outer:List Env)(s:Shared)(H:Hp)(vs:List V)(Q:VK)(E:XK),Room k (A.deeper (envOfC qual (zah st) s.heap.objs.size f cdv))->HOk P w H s.heap->sp vs H Q E->
   ∃t,PSs (cxOf CX P w K mg base N qual (zah st) f cdv A outer s H E) (zba st) t/\t {nx:=λ_ H'=>Q .non H',rt:=Q} (zhg N vs) H):FnOk P w K mg base CX (k+1) f fd ps sp:=by
 refine⟨len,λA outer s H args us vs Q E hr e0 hb r hsp=>?_⟩
 obtain⟨oc,od,kV,doc,pm,an,cdv,ct,osl,rfl,lk,hcd⟩:=Fu.ex
 have KX:K.In s.heap:=e0.mod.kin.keeps λb o e=>(e0.bs b o e).1
 refine codeAny_call_function hr.depth (KX _ _ lk) rfl S.co S.gen rfl (qCs KX hcd) (hb _ _ _ _ (qCr S.kind (λ⟨n,v⟩ hy=>?_) λenv he s1 x=>?_))
 ·rcases S.par n (qBM hy).1 with q|q
  ·exact .inl q
  ·exact .inr ⟨q,qBs _ _ _ (.inl q)⟩
 ·subst he
  obtain⟨t,ht,hq⟩:=hbody cdv A outer s H vs Q E (hr.deeper _) e0.hok hsp
  have I:=zza (CX:=CX) (E:=E) S hr.hd e0 (len _ _ _ _ hsp) r x
  refine⟨(e0.mod.nolimit.keeps λb o e=>(e0.bs b o e).1).keeps x.toInCall.keep,codeAny_func (qBJ (ht [] s1 (zhg N vs) H _ I hq) (λfl s' hs=>?_) λe s' hs=>hs)⟩
  cases fl with
  | ret u=>obtain⟨v,σ',H',J,rv,q⟩:=hs;exact⟨v,H',J.os,J.bare,J.base,J.hok,rv,q⟩
  | next=>obtain⟨σ',H',J,q⟩:=hs;exact⟨.non,H',J.os,J.bare,J.base,J.hok,rfl,q⟩
  | brk=>obtain⟨_,_,_,q⟩:=hs;exact q.elim
  | cont=>obtain⟨_,_,_,q⟩:=hs;exact q.elim
noncomputable def xcR(K:qC)(C:Addr):Bool:=match K.lookup C with
 | some ⟨_,_,.cls cd,_⟩=>(match cd.mro with|_::bm=>zex bm|_=>false)
 | _=>false
theorem zlq{K:qC}{h:Heap}{C:Addr}(X:K.In h)(q:xcIn K C=true)(q2:xcR K C=true):∃nm qn N bs bm sn sub ab col dd k0 k1 k2 k3 k5,
  h.get? C=some (excClassObj nm qn C N bs bm true sn sub ab col dd k0 k1 k2 k3 k5 "ValueError.__new__")/\zex bm=true/\(Value.ref C::bm).contains (.type "AttributeError")=false/\(Value.ref C::bm).contains (.type "NameError")=false:=by
 obtain⟨nm,qn,N,bs,bm,sn,sub,ab,col,dd,k0,k1,k2,k3,k5,hC,_,_,ha,hn⟩:=zawe X q
 refine⟨nm,qn,N,bs,bm,sn,sub,ab,col,dd,k0,k1,k2,k3,k5,hC,?_,ha,hn⟩
 unfold xcR at q2
 split at q2
 ·rename_i a b cd sl ho
  have:=X _ _ ho
  rw[hC]at this
  have e:=qZ this
  unfold excClassObj at e
  injection e with _ _ e _
  injection e with e
  subst e
  exact q2
 ·cases q2
structure XMk(K:qC)(C f:Addr):Prop where
 cls:xcIn K C=true
 tail:xcR K C=true
 init:PySem.W.findIn K (.ref C) "__init__"=some (some (.ref f))
 fn:PySem.W.isFn K (.ref f)=true
 kp:qN K (.ref C)=true
 sa:PySem.W.findIn K (.ref C) "__setattr__"=some (some (.builtin "object.__setattr__"))
 at_:PySem.W.findIn K (.ref C) "at"=some none
 ga:PySem.W.findIn K (.ref C) "__getattribute__"=some (some (.builtin "BaseException.__getattribute__"))
 gh:PySem.W.findIn K (.ref C) "__getattr__"=some none
noncomputable def atV:V->Prop
 | .non=>True
 | .str x=>(PySem.reprText x).length<=1000
 | .int n=>0<=n/\n<100
 | _=>False
noncomputable def xe0(e C:Addr)(h:Heap):Prop:=∃vs sl,h.get? e=some {cls:=.ref C,dict:=none,data:=.fields vs,slots:=sl}/\vs[1]?=some .none
theorem zakc{P:Program}{w:World}{H:Hp}{h:Heap}{e C:Addr}(q:xe0 e C h):zfd P w H h e (.ext (xe0 e C)):=
 ⟨q,(let⟨_,_,a,_⟩:=q;⟨_,a⟩),λh1 h2 ⟨vs,sl,a,b⟩ k=>⟨vs,sl,k _ a,b⟩⟩
noncomputable def spI(C:Addr):Sp:=λvs H Q _=>∃e v,vs=[.ref e,v]/\H e=some (.ext (xe0 e C))/\atV v/\∀dx,H dx=none->dx≠e->Q .non (upd (upd H dx (.xd [("at",v)])) e (.ext (xeD e C dx .none)))
section
variable{X:Cx}{pins:List (Addr×Obj)}{σ:St}{H:Hp}{s:Shared}{C f:Addr}{k:Nat}{fd:qt}
theorem Inv.new{h':Heap}{a:Addr}{o:HO}{t':Nat}(I:Inv X pins σ H s)(k:∀b u,s.heap.get? b=some u->h'.get? b=some u)(hn:s.heap.get? a=none)(new:zfd X.prog X.w (upd H a o) h' a o):Inv X pins σ (upd H a o) {s with heap:=h',toks:=t'}:=by
 have hH:=HOk.no I.hok hn
 have ne:∀b u,s.heap.get? b=some u->b≠a:=λb u q z=>by rw[z,hn]at q;cases q
 have neH:∀b u,H b=some u->b≠a:=λb u q z=>by rw[z,hH]at q;cases q
 refine I.un (h':=h') ⟨λb o q _ _ _=>k b o q,λb o q _ _ _=>⟨o.slots,k b o q⟩,λb o q n _=>by rw[zav (ne b o q)];exact n,λb o q _=>⟨o,k b o q⟩,λb xs q=>by rw[zav (neH b _ q)];exact q,λb o u q=>by rw[zav (neH b _ q)];exact q,λb ps q=>⟨#[],by rw[zav (neH b _ q),q];simp⟩⟩ λb u q=>?_
 by_cases hb:b=a
 ·subst hb;rw[zau]at q;cases q;exact new
 ·rw[zav hb]at q
  exact(I.hok b u q).stay (λc v _ q=>k c v q) (λc q=>by rw[zav (neH c _ q)];exact q) λc xs q=>by rw[zav (neH c _ q)];exact q
theorem zakd{v:V}{u:Value}(M:XMk X.K C f)(F:FnOk X.prog X.w X.K X.mg X.base CX0 k f fd ["self","at"] (spI C))(hr:Room (k+1) X.A)(hb:zrg X.K fd ["self","at"] [])(hex:X.ex=[])(I:Inv X pins σ H s)(rv:RelV v u)(av:atV v)
  {Q:Value->Shared->Prop}(q:∀e dx H' s',Inv X pins σ H' s'->Flt X.s₀.heap H' e C dx->H' e=some (.ext (xeD e C dx .none))->H' dx=some (.xd [("at",v)])->Same H H'->Q (.ref e) s') :
  wpAny (model X.prog X.w) X.A (call (.ref C) [u]) Q X.xe s:=by
 obtain⟨nm,qn,N,bs,bm,sn,sub,ab,col,dd,k0,k1,k2,k3,k5,hC,hbm,ha,hn⟩:=zlq I.kIn M.cls M.tail
 obtain⟨hh,g,d,tk,os⟩:=s
 obtain⟨oI,hfI,hfc⟩:∃oI,hh.get? f=some oI/\oI.cls=.type "function":=by
  have z:(X.K.lookup f).map (·.cls)=some (.type "function"):=beq_iff_eq.mp M.fn
  cases y:X.K.lookup f with
  | none=>rw[y]at z;cases z
  | some o=>rw[y]at z;exact⟨o,I.kIn _ _ y,qZ z⟩
 refine zayn (C:=C) hC (by rw[qAQ,zdz (by decide) hbm,qAu]) ha hn (qAY I.kIn M.init) hfI hfc (by show 1<=qX;rw[qA9];omega) λh' e hm=>?_
 obtain⟨t,he,htn,ht⟩:=hm.there
 have I2:=Inv.new (h':=h') (a:=e) (o:=.ext (xe0 e C)) (t':=tk) I hm.keeps hm.new (zakc ⟨_,_,he,rfl⟩)
 have hHe:H e=none:=HOk.no I.hok hm.new
 have sp:spI C [.ref e,v] (upd H e (.ext (xe0 e C))) (λr H2=>r=.non/\∃dx,H dx=none/\dx≠e/\H2=upd (upd (upd H e (.ext (xe0 e C))) dx (.xd [("at",v)])) e (.ext (xeD e C dx .none))) E0:=
  ⟨e,v,rfl,zau,av,λdx hd ne=>⟨rfl,dx,by rw[zav ne]at hd;exact hd,ne,rfl⟩⟩
 refine qCW (qBe (F.run _ X.stack _ _ ⟨[.ref e,u],[]⟩ [.ref e,u] _ _ E0 (hr.make C [u] []) (I2.env0.make C [u] []) (by have:=hb ⟨h',g,d,tk,os⟩ [.ref e,u] I2.kIn rfl;rw[qAC]at this;exact this) (show Vals [V.ref e,v] [Value.ref e,u]from .cons rfl (.cons rv .nil)) sp) λr s' hq=>?_)
 cases r with
 | error x=>exact hq.elim
 | ok fl=>
  cases fl with
  | ret w=>
   obtain⟨v',H2,I3,rv',rfl,dx,hd,ne,rfl⟩:=I2.after hq
   refine⟨rv',q e dx _ s' I3 ⟨?_,.none,zau,.inl rfl⟩ zau (by rw[zav ne,zau]) λb o z=>?_⟩
   ·cases y:X.s₀.heap.get? e with
    | none=>rfl
    | some ob=>
     obtain⟨o',z⟩:=I.base.there e ob y (by rw[hex];simp)
     have:=hm.new
     rw[show hh.get? e=some o' from z]at this
     cases this
   ·have n1:b≠e:=λy=>by rw[y,hHe]at z;cases z
    have n2:b≠dx:=λy=>by rw[y,hd]at z;cases z
    rw[zav n1,zav n2,zav n1]
    exact z
  | next=>exact False.elim hq
  | brk=>exact False.elim hq
  | cont=>exact False.elim hq
noncomputable def Lvs(X:Cx)(E:XK):Prop:=∀(pins:List (Addr×Obj))(σ:St)(H1:Hp)(s1:Shared)(e C dx:Addr),Inv X pins σ H1 s1->Flt X.s₀.heap H1 e C dx->E (.ref C) (some dx) H1->X.xe (.ref e) s1
noncomputable def zake(C:Addr)(E:XK)(te:TE):TS:=λ_ σ H=>te σ H λv H1=>atV v/\∀H' dx,Same H1 H'->H' dx=some (.xd [("at",v)])->E (.ref C) (some dx) H'
theorem zaob{E:XK}{x:Str}{np cpos pos:Pos}{a:Expr}{te:TE}(M:XMk X.K C f)(F:FnOk X.prog X.w X.K X.mg X.base CX0 k f fd ["self","at"] (spI C))(hr:Room (k+1) X.A)(hb:zrg X.K fd ["self","at"] [])(hex:X.ex=[])(hc:X.calm=true)(hx:Lvs X E)
  (hg:Gl X x)(hm:X.mg x=some (.ref C))(ha:PE X a te)(hdb:(x==("__debug__":Str))=false:=by decide)(he:starEach [a] X.env=[(false,eval a X.env)]:=by rfl) :
  PS X (.Raise (some (.Call (.Name x np) [a] [] cpos)) none pos) (zake C E te):=by
 intro pins s σ H D I h
 rw[arm_exec_Raise]
 refine qD (qBI ?_)
 unfold raiseStmt
 simp only[evalOpt,Option.map]
 refine qD ?_
 have hcall:wpAny (model X.prog X.w) X.A (eval (.Call (.Name x np) [a] [] cpos) X.env) (λr s'=>∃e dx H' v H1,r=.ref e/\Inv X pins σ H' s'/\Flt X.s₀.heap H' e C dx/\H' e=some (.ext (xeD e C dx .none))/\H' dx=some (.xd [("at",v)])/\Same H1 H'/\∀H' dx,Same H1 H'->H' dx=some (.xd [("at",v)])->E (.ref C) (some dx) H') X.xe s:=by
  refine qBV (zrx I hg hm ?_ hdb)
  refine qB7 (h₀:=X.base) I.ok.mod.kin M.kp (thn (zwu ha zahx he cpos pins s σ H (λvs H1=>match vs with|[v]=>atV v/\∀H' dx,Same H1 H'->H' dx=some (.xd [("at",v)])->E (.ref C) (some dx) H'|_=>False) I h) λus s1 ⟨vs,H1,I1,r,q⟩=>⟨I1.kIn,?_⟩) he rfl
  match vs,q,r with
  | [v],q,r=>
   obtain⟨u,rfl,rv⟩:=zaby r
   exact zakd M F hr hb hex I1 rv q.1 λe dx H' s' I' fl he0 hd sm=>⟨e,dx,H',v,H1,rfl,I',fl,he0,hd,sm,q.2⟩
  | [],q,_=>exact q.elim
  | _::_::_,q,_=>exact q.elim
 refine qD (thn hcall λr s' hh=>?_)
 obtain⟨e,dx,H',v,H1,rfl,I',fl,he',hd,sm,q⟩:=hh
 refine qD (qBI (qJ ?_))
 obtain⟨nm,qn,N,bs,bm,sn,sub,ab,col,dd,k0,k1,k2,k3,k5,hC,hbm,_,_⟩:=zlq I'.kIn M.cls M.tail
 have hcB:(Value.ref C::bm).contains (.type "BaseException")=true:=by rw[qAQ,zdz (by decide) hbm,qAu]
 obtain⟨⟨vs,sl,oe,h1⟩,_,_⟩:=I'.hok e _ he'
 have hxe:=hx pins σ H' s' e C dx I' fl (q H' dx sm hd)
 have hh:=I'.ok.hd hc
 obtain⟨hp,g,d,tk,os⟩:=s'
 repeat (first|with_reducible refine qj oe ?_|with_reducible refine qj hC ?_|(with_reducible refine qAg hC ?_;rw[hcB])|wp_step)
 rw[h1]
 dsimp only
 refine qJ ?_
 rw[if_neg (by decide)]
 exact qJ (wpAny_raiseNew_none hh hxe)
end
section
variable{X:Cx}{pins:List (Addr×Obj)}{σ:St}{H:Hp}{s:Shared}{C f:Addr}{k:Nat}{fd:qt}
noncomputable def tMsg(te:TE):TE:=λσ H Q=>te σ H λv H1=>atV v/\∀m,Q (.str m) H1
theorem zakf:∀m<100,Nat.log2 m<1920:=by decide +kernel
theorem zvn:∀m<100,(Str.ofString (toString ((m:Nat):Int))).length<=10:=by decide +kernel
theorem zasj {v:V} {u:Value} {A:Around} {E:Value->Shared->Prop} {Q:Value->Shared->Prop} (r:RelV v u) (av:atV v) (q:∀(m:Str) t,m.length<=1000->Q (.str m s.toks) {s with toks:=t}) :
  wpAny (model X.prog X.w) A (pyReprObj u) Q E s:=by
 cases v with
 | non=>
  cases r
  exact qCD (T:="NoneType") rfl F.slot_NoneType_repr F.entry_NoneType_repr (by unfold argsOk;kernel_rfl) gives_none_repr (q "None" _ (by decide)) (hx:=by decide)
 | str x=>
  obtain⟨t,rfl⟩:=r
  exact qCD (T:="str") rfl PyProof.Rows.slot_str_repr PyProof.Rows.entry_str_repr (PyProof.Rows.args_str_repr _) (gives_str_repr x t) (q _ _ av) (hx:=qv av (by rw[qA9];omega))
 | int n=>
  obtain⟨t,rfl⟩:=r
  obtain⟨n0,n1⟩:=av
  obtain⟨m,rfl⟩:∃m:Nat,n=(m:Int):=⟨n.toNat,by omega⟩
  have hm:m<100:=by omega
  have hb:(m:Int).natAbs.log2<1920:=by
   rw[Int.natAbs_natCast]
   exact zakf m hm
  exact qCD (T:="int") rfl F.slot_int_repr F.entry_int_repr (F.args_int_repr_1 _) (gives_int_repr (m:Int) t hb) (q _ _ (qv (zvn m hm) (by decide))) (hx:=qv (zvn m hm) (by rw[qA9];omega))
 | _=>exact av.elim
theorem zawg{c:Str}{j p a p2 pos te}(ha:PE X a te)(hc:c.length<=1000):PE X (.JoinedStr [.Constant (.str c) j p,.FormattedValue a 114 none p2] pos) (tMsg te):=by
 intro pins s σ H Q I h
 have la:∀x y:Str,(x++y).length=x.length+y.length:=λx y=>by show(x.cps++y.cps).size=x.cps.size+y.cps.size;exact qAq
 have l0:(Str.empty).length=0:=rfl
 have big:(3000:Nat)<=qX:=by rw[qA9];omega
 refine wpAny_JoinedStr ?_
 show wpAny _ _ (eval (.Constant (.str c) j p) X.env) (λv s₁=>∃y t,v=.str y t/\(Str.empty++y).length<=qX/\wpAny _ _ (eval (.FormattedValue a 114 none p2) X.env) (λv s₂=>∃z t,v=.str z t/\((Str.empty++y)++z).length<=qX/\(((Str.empty++y)++z).length<=qX/\_)) _ s₁) _ s
 refine qDA ⟨c,_,rfl,by rw[la,l0];omega,?_⟩
 refine wpAny_FormattedValue_repr (thn (ha pins _ σ H _ (I.tok _) h) λu s1 ⟨v,H1,I1,r,av,q⟩=>zasj (X:=X) r av λm t hm=>?_)
 have lz:((Str.empty++c)++m).length<=qX:=by rw[la,la,l0];omega
 have fin:∀tk,EP X pins σ Q (.str ((Str.empty++c)++m) tk) {s1 with toks:=tk+1}:=λtk=>⟨.str _,H1,I1.tok _,⟨_,rfl⟩,q _⟩
 exact wpAny_formatField_str ⟨m,_,rfl,lz,lz,fin _⟩ ⟨m,_,rfl,lz,lz,fin _⟩ (by omega)
noncomputable def zapz(C:Addr)(t:TA):TE:=λσ H Q=>t σ H λvs H1=>∃e m,vs=[.ref e,m]/\H1 e=some (.ext (xe0 e C))/\Q .non H1
theorem zacw{K:qC}:PySem.W.findCls K (.type "ValueError") (.type "type") "__init__"=some (.val (.builtin "ValueError.__init__")):=by
 first|rfl|decide +kernel|kernel_rfl
theorem ztk:bootBuiltins "ValueError"=some (.type "ValueError"):=by decide +kernel
theorem zaoc{p p2 pos:Pos}{e:Expr}{es:List Expr}{t:TA}{pl:Sem Bool}(M:XMk X.K C f)(hg:Gl X "ValueError")(hm:X.mg "ValueError"=none)(ha:PA X (e::es) t)
  (hst:starEach (e::es) X.env=(false,eval e X.env)::starEach es X.env:=by rfl)(hpl:(backTo pos (starEach es X.env)).any (·.1)=false:=by rfl)
  (ht:eval (.Call (.Attribute (.Name "ValueError" p) "__init__" p2) (e::es) [] pos) X.env=(do
   let ov <- eval (.Name "ValueError" p) X.env
   standAt p2.atName
   let(f,first) <- holding [ov] (getMethod ov "__init__" pl)
   callWith pos f first (backTo pos (starEach (e::es) X.env)) (backToKw pos (keywordEach [] X.env))):=by rfl) :
  PE X (.Call (.Attribute (.Name "ValueError" p) "__init__" p2) (e::es) [] pos) (zapz C t):=by
 intro pins s σ H Q I h
 refine PySem.W.methodCall_KW (pl:=pl) (zry I hg hm ztk ?_ (by decide) (by decide)) ht
 obtain⟨m,fr⟩:=I.fr
 refine PySem.W.method_type fr I.ok.mod.kin (by kernel_rfl) (by decide +kernel) zacw (by decide +kernel) ?_
 have hA:=ha pos pins _ σ H _ (I.tok (s.toks+1)) h
 rw[hst]at hA ⊢
 refine qCl (by show(false||(backTo pos (starEach es X.env)).any (·.1))=false;rw[hpl]<;>rfl) (qCt ?_)
 refine thn hA λus s2 ⟨vs,H2,I2,r2,e',mv,ev,he,q⟩=>?_
 subst ev
 obtain⟨u1,u2,rfl,r1,r3⟩:=zabz r2
 cases r1
 obtain⟨nm,qn,N,bs,bm,sn,sub,ab,col,dd,k0,k1,k2,k3,k5,hC,hbm,_,_⟩:=zlq I2.kIn M.cls M.tail
 obtain⟨⟨vs,sl,oe,h1⟩,_,_⟩:=I2.hok e' _ he
 obtain⟨hh,g,d,tk,os⟩:=s2
 refine zayp hbm (by show 1<=qX;rw[qA9];omega) hC oe rfl rfl (Nat.lt_of_succ_lt (qAi.mp h1).1) λh' p' a1 a2=>?_
 refine⟨.non,H2,?_,rfl,q⟩
 have hup:upd H2 e' (.ext (xe0 e' C))=H2:=by
  funext b
  by_cases hb:b=e'
  ·subst hb;rw[zau,he]
  ·rw[zav hb]
 have:=I2.write (x:=e') (e:=e') (o:=.ext (xe0 e' C)) (h':=h') (t':=tk) (by rw[he];exact True.intro) (.inl rfl) (λb u hb z=>a2 b u hb z) ⟨_,a1⟩ (zakc ⟨_,_,a1,by rw[Array.getElem?_setIfInBounds_ne (by decide)];exact h1⟩)
 rw[hup]at this
 exact this
end
section
variable{X:Cx}{pins:List (Addr×Obj)}{σ:St}{H:Hp}{s:Shared}{C f:Addr}{k:Nat}{fd:qt}
noncomputable def tSat(C:Addr)(ta tv:TE):TS:=λD σ H=>tv σ H λv H1=>ta σ H1 λx H2=>∃e,x=.ref e/\H2 e=some (.ext (xe0 e C))/\∀dx,H2 dx=none->dx≠e->D.nx σ (upd (upd H2 dx (.xd [("at",v)])) e (.ext (xeD e C dx .none)))
theorem zawh{o value:Expr}{pos' pos:Pos}{ta tv:TE}(M:XMk X.K C f)(ha:PE X o ta)(hv:PE X value tv)(hs:swapsWith value (some (.Attribute o "at" pos')) pos.line X.env=pure false:=by rfl):PS X (.Assign [.Attribute o "at" pos'] value pos) (tSat C ta tv):=by
 intro pins s σ H D I h
 refine plainObj_wpAny_Assign_Attribute (thn (hv pins s σ H _ I h) λu s1 ⟨y,H1,I1,ry,q⟩=>thn (ha pins s1 σ H1 _ I1 q) λov s2 ⟨x,H2,I2,rx,e,ex,he,q2⟩=>?_) hs
 subst ex
 obtain rfl:ov=Value.ref e:=rx
 obtain⟨nm,qn,N,bs,bm,sn,sub,ab,col,dd,k0,k1,k2,k3,k5,hC,hbm,_,_⟩:=zlq I2.kIn M.cls M.tail
 obtain⟨⟨vs,sl,oe,h1⟩,_,_⟩:=I2.hok e _ he
 obtain⟨hh,g,d,tk,os⟩:=s2
 refine zawf hbm hC oe rfl (λc z=>by cases z) rfl (qAY I2.kIn M.sa) (qAY I2.kIn M.at_) λh' tk' dx a1 a2 a3 a4=>?_
 have hdx:H2 dx=none:=I2.hok.fresh a1
 have ne:dx≠e:=λz=>by rw[z,he]at hdx;cases hdx
 refine⟨σ,upd (upd H2 dx (.xd [("at",y)])) e (.ext (xeD e C dx .none)),?_,q2 dx hdx ne⟩
 have n2:∀b,b≠e->b≠dx->upd (upd H2 dx (.xd [("at",y)])) e (.ext (xeD e C dx .none)) b=H2 b:=λb p q=>by rw[zav p,zav q]
 have nb:∀b o,H2 b=some o->(∀φ,o≠.ext φ)->b≠e/\b≠dx:=λb o z n=>⟨λy=>(by rw[y,he]at z;cases z;exact n _ rfl),λy=>(by rw[y,hdx]at z;cases z)⟩
 have st:∀b o,H2 b=some o->(∀φ,o≠.ext φ)->upd (upd H2 dx (.xd [("at",y)])) e (.ext (xeD e C dx .none)) b=some o:=λb o z n=>by rw[n2 b (nb b o z n).1 (nb b o z n).2];exact z
 have lt:∀b u,hh.get? b=some u->b≠dx:=λb u z y=>by rw[y]at z;exact absurd (qL z) (Nat.not_lt.mpr a1)
 refine Inv.un (s:=⟨hh,g,d,tk,os⟩) I2 (h':=h') ⟨λb o z n _ _=>a4 b o (λy=>by rw[y,he]at n;cases n) z,λb o z n _ _=>⟨o.slots,a4 b o (λy=>by rw[y,he]at n;cases n) z⟩,λb o z n _=>?_,λb o z _=>?_,λb xs z=>st b _ z (λφ y=>by cases y),λb o u z=>st b _ z (λφ y=>by cases y),λb ps z=>⟨#[],by rw[st b _ z (λφ y=>by cases y)];simp⟩⟩ λb o z=>?_
 ·rw[n2 b (λy=>by rw[y,he]at n;cases n) (lt b o z)];exact n
 ·by_cases hb:b=e
  ·exact⟨_,by rw[hb];exact a3⟩
  ·exact⟨o,a4 b o hb z⟩
 ·by_cases hb:b=e
  ·subst hb
   rw[zau]at z
   cases z
   exact zapw ⟨vs,sl,a3,h1⟩
  ·by_cases hd:b=dx
   ·subst hd
    rw[zav hb,zau]at z
    cases z
    refine⟨_,a2,λn=>?_⟩
    by_cases hn:n="at"
    ·subst hn
     exact ry
    ·have:List.lookup n [((("at":Str)),y)]=none:=by
      rw[qAM]
      have:(n==("at":Str))=false:=by rw[beq_eq_false_iff_ne];exact hn
      rw[this]
      rfl
     rw[this]
     show RelO none (if n=("at":Str)then _ else _)
     rw[if_neg hn]
     trivial
   ·rw[n2 b hb hd]at z
    refine(I2.hok b o z).stay (λc u hc y=>a4 c u ?_ y) (λc y=>st c _ y (λφ x=>by cases x)) (λc xs y=>st c _ y (λφ x=>by cases x))
    rcases hc with rfl|hc
    ·exact hb
    ·exact λx=>by rw[x,he]at hc;cases hc
noncomputable def tXat(C:Addr)(te:TE):TE:=λσ H Q=>te σ H λx H1=>∃e dx tv v,x=.ref e/\H1 e=some (.ext (xeD e C dx tv))/\H1 dx=some (.xd [("at",v)])/\Q v H1
theorem zawi{o:Expr}{pos:Pos}{te:TE}(M:XMk X.K C f)(ho:PE X o te)(hb:attributeBase o "at" X.env (eval o X.env)=eval o X.env:=by rfl):PE X (.Attribute o "at" pos) (tXat C te):=by
 intro pins s σ H Q I h
 refine zaqq hb (thn (ho pins s σ H _ I h) λu s1 ⟨x,H1,I1,rx,e,dx,tv,v,ex,he,hd,q⟩=>?_)
 subst ex
 obtain rfl:u=Value.ref e:=rx
 obtain⟨nm,qn,N,bs,bm,sn,sub,ab,col,dd,k0,k1,k2,k3,k5,hC,hbm,_,_⟩:=zlq I1.kIn M.cls M.tail
 obtain⟨⟨vs,sl,oe,h1⟩,_,_⟩:=I1.hok e _ he
 obtain⟨mA,ns,rl⟩:=I1.hok dx _ hd
 have hv:∃w,mA "at"=some w/\RelV v w:=by
  have:=rl "at"
  rw[show List.lookup ("at":Str) [(("at":Str),v)]=some v from rfl]at this
  cases y:mA "at"with
  | none=>rw[y]at this;exact this.elim
  | some w=>rw[y]at this;exact⟨w,rfl,this⟩
 obtain⟨w,hw,rw'⟩:=hv
 obtain⟨hh,g,d,tk,os⟩:=s1
 refine zayo hbm hC oe rfl rfl rfl ns.ns hw (qAY I1.kIn M.ga) (qAY I1.kIn M.gh) (qAY I1.kIn M.at_) (zahv rw') λtk'=>⟨v,H1,I1.tok _,rw',q⟩
end
noncomputable def zaod(c:Str)(p1 p2 p3 p4 p5 p6 p7 p8 p9 p10 p11 p12 p13:Pos):List Stmt:=
 [.Expr (.Call (.Attribute (.Name "ValueError" p1) "__init__" p2) [.Name "self" p3,.JoinedStr [.Constant (.str c) 0 p4,.FormattedValue (.Name "at" p5) 114 none p6] p7] [] p8) p9,
  .Assign [.Attribute (.Name "self" p10) "at" p11] (.Name "at" p12) p13]
noncomputable def zaoe(c:Str)(p1 p2 p3 p4 p5 p6 p7 p8:Pos):Prop:=∀env:Env,∃pl:Sem Bool,eval (.Call (.Attribute (.Name "ValueError" p1) "__init__" p2) [.Name "self" p3,.JoinedStr [.Constant (.str c) 0 p4,.FormattedValue (.Name "at" p5) 114 none p6] p7] [] p8) env=(do
   let ov <- eval (.Name "ValueError" p1) env
   standAt p2.atName
   let(f,first) <- holding [ov] (getMethod ov "__init__" pl)
   callWith p8 f first (backTo p8 (starEach [.Name "self" p3,.JoinedStr [.Constant (.str c) 0 p4,.FormattedValue (.Name "at" p5) 114 none p6] p7] env)) (backToKw p8 (keywordEach [] env)))
theorem zask{P:Program}{w:World}{K:qC}{mg:Str->Option Value}{base:Heap}{C f:Addr}{qual:Str}{st:Stmt}{fd:qt}{c:Str}{p1 p2 p3 p4 p5 p6 p7 p8 p9 p10 p11 p12 p13:Pos}(F:Fun K "__init__" qual st f fd)(M:XMk K C f)(hm:mg "ValueError"=none)
  (hb:zba st=zaod c p1 p2 p3 p4 p5 p6 p7 p8 p9 p10 p11 p12 p13) (hsc:zah st={kind:=.function,names:=[("self",.local),("at",.local),("ValueError",.globalImplicit)],isGenerator:=false,isCoroutine:=false}) (hc:c.length<=1000) (ht:zaoe c p1 p2 p3 p4 p5 p6 p7 p8) :
  FnOk P w K mg base CX0 1 f fd ["self","at"] (spI C):=by
 have nd:(["self","at"]:List Str).Nodup:=by decide +kernel
 have S:FnScope ["self","at"] ["self","at"] (zah st):=by rw[hsc];exact⟨rfl,rfl,rfl,nd,rfl,by decide +kernel,by decide +kernel⟩
 refine F.ok S (λvs H Q E h=>by obtain⟨e,v,rfl,_⟩:=h;rfl) λcdv A outer s H vs Q E hr h=>?_
 obtain⟨e,v,rfl,he,av,q⟩:=h
 have g0:visB (cxOf CX0 P w K mg base ["self","at"] qual (zah st) f cdv A outer s H E).nox.env.scope "self"=true:=by show visB (zah st) _=_;rw[hsc];decide +kernel
 have g1:visB (cxOf CX0 P w K mg base ["self","at"] qual (zah st) f cdv A outer s H E).nox.env.scope "at"=true:=by show visB (zah st) _=_;rw[hsc];decide +kernel
 have g2:Gl (cxOf CX0 P w K mg base ["self","at"] qual (zah st) f cdv A outer s H E).nox "ValueError":=by show(zah st).names.lookup _=_;rw[hsc];decide +kernel
 have e0:∀{p:Pos},PE (cxOf CX0 P w K mg base ["self","at"] qual (zah st) f cdv A outer s H E).nox (.Name "self" p) (tVar 0):=λ{p}=>pv 0 rfl g0
 have e1:∀{p:Pos},PE (cxOf CX0 P w K mg base ["self","at"] qual (zah st) f cdv A outer s H E).nox (.Name "at" p) (tVar 1):=λ{p}=>pv 1 rfl g1
 refine⟨tSeq (tDrop (zapz C (tCons (tVar 0) (tCons (tMsg (tVar 1)) tNil)))) (tSat C (tVar 0) (tVar 1)),?_,?_⟩
 ·rw[hb]
  obtain⟨pl,ht⟩:=ht (cxOf CX0 P w K mg base ["self","at"] qual (zah st) f cdv A outer s H E).nox.env
  exact zaek (zahn (zaoc (f:=f) (pl:=pl) M g2 hm (zwu e0 (zwu (zawg e1 hc) zahx)) rfl rfl ht)) (zahm (zawh M e0 e1))
 ·exact⟨_,rfl,v,rfl,av,λm=>⟨e,_,rfl,he,v,rfl,_,rfl,e,rfl,he,q⟩⟩
noncomputable def atD:PyData->Bool
 | .none=>true
 | .str x=>decide ((PySem.reprText x).length<=1000)
 | .int n=>decide (0<=n/\n<100)
 | _=>false
theorem zafc{d:PyData}(h:atD d=true):zjy d=true:=by cases d<;>first|rfl|cases h
theorem zayq{H:Hp}{d:PyData}{v:V}(h:atD d=true)(r:Rp H d v):atV v:=by
 cases d with
 | none=>rw[zacf r];trivial
 | str x=>rw[zlg r];show(PySem.reprText x).length<=1000;exact of_decide_eq_true h
 | int n=>rw[zef r];show 0<=n/\n<100;exact of_decide_eq_true h
 | _=>cases h
noncomputable def RX(H0:Hp)(C:Addr)(d:PyData):XK:=λc od H'=>c=.ref C/\Same H0 H'/\zjy d=true/\∃dx v,od=some dx/\H' dx=some (.xd [("at",v)])/\Rp H' d v
theorem RX.base{H0 H1:Hp}{C:Addr}{d:PyData}(s:Same H0 H1){c:Value}{od:Option Addr}{H':Hp}(h:RX H1 C d c od H'):RX H0 C d c od H':=
 let⟨a,b,r⟩:=h;⟨a,s.trans b,r⟩
theorem RX.stx{H0:Hp}{C:Addr}{d:PyData}{E:XK}(h:∀c od H',RX H0 C d c od H'->E c od H'){c:Value}{od:Option Addr}{H':Hp}(q:RX H0 C d c od H'):StX H0 E c od H':=by
 intro H3 r1 r2
 obtain⟨a,b,f,dx,v,e1,e2,e3⟩:=q
 exact h _ _ _ ⟨a,λx o z=>r1 x o z (b x o z),f,dx,v,e1,r2 _ _ e2 (λφ z=>by cases z),zsi f e3⟩
inductive OutX where
 | ok (o:Out)
 | rx (c:Str) (d:PyData)
noncomputable def SatX(cl:Str->Addr)(fx:Addr->Prop)(H0:Hp)(D:Ends)(E:XK):OutX->Prop
 | .ok o=>Sat fx H0 D o
 | .rx c d=>∀k od H',RX H0 (cl c) d k od H'->E k od H'
noncomputable abbrev SFX:=DEnv->Option OutX
noncomputable def SSx(cl:Str->Addr)(ts:XK->TS)(F:SFX):Prop:=∀(fx:Addr->Prop)(H0:Hp)(env:DEnv)(σ:St)(H:Hp)(D:Ends)(E:XK),EnvOk fx H0 env σ H->∀o,F env=some o->SatX cl fx H0 D E o->ts E D σ H
section
variable{cl:Str->Addr}
noncomputable def xOf(f:SF):SFX:=λenv=>(f env).map .ok
theorem zafd{t:TS}{f:SF}(h:SS t f):SSx cl (λ_=>t) (xOf f):=by
 intro fx H0 env σ H D E hE o e q
 obtain⟨o',e',rfl⟩:=qG.mp e
 exact h fx H0 env σ H D hE o' e' q
noncomputable def xSeq(f g:SFX):SFX:=λenv=>(f env).bind λo=>match o with
 | .ok (.nx env')=>g env'
 | o=>some o
theorem zacx{t u:XK->TS}{f g:SFX}(h1:SSx cl t f)(h2:SSx cl u g):SSx cl (λE=>tSeq (t E) (u E)) (xSeq f g):=by
 intro fx H0 env σ H D E hE o e q
 obtain⟨o1,e1,e⟩:=qA.mp e
 refine h1 fx H0 env σ H _ E hE o1 e1 ?_
 cases o1 with
 | rx c d=>cases e;exact q
 | ok o1=>
  cases o1 with
  | nx env'=>exact λσ' H' h'=>h2 fx H0 env' σ' H' D E h' o e q
  | bk env'=>cases e;exact q
  | ct env'=>cases e;exact q
  | rt d fr=>cases e;exact q
noncomputable def xIf(c:TF)(f g:SFX):SFX:=λenv=>(c env).bind λb=>if b=true then f env else g env
theorem zawj{tc:TT}{t u:XK->TS}{c:TF}{f g:SFX}(hc:ST tc c)(h1:SSx cl t f)(h2:SSx cl u g):SSx cl (λE=>tIfS tc (t E) (u E)) (xIf c f g):=by
 intro fx H0 env σ H D E h o e q
 obtain⟨b,eb,e⟩:=qA.mp e
 refine hc fx H0 env σ H h b eb _ λH' s=>?_
 cases b with
 | true=>exact iteT (h1 fx H0 env σ H' D E (h.up s) o e q)
 | false=>exact iteF (h2 fx H0 env σ H' D E (h.up s) o e q)
noncomputable def zvo(c:Str)(f:EF):SFX:=λenv=>(f env).bind λr=>if atD r.d=true then some (.rx c r.d)else none
theorem zakg{c:Str}{te:TE}{f:EF}(h1:SE te f):SSx cl (λE=>zake (cl c) E te) (zvo c f):=by
 intro fx H0 env σ H D E h o e q
 obtain⟨r,er,e⟩:=qA.mp e
 split at e
 ·rename_i ha
  cases e
  refine h1 fx H0 env σ H h r er _ λv H' s hv=>⟨zayq ha hv.rp,λH2 dx s2 hd=>q _ _ _ ⟨rfl,(h.base.trans s).trans s2,zafc ha,dx,v,rfl,hd,zsi (zafc ha) hv.rp⟩⟩
 ·cases e
noncomputable def zacy(g:GT)(body:SFX):List PyData->DEnv->Option OutX
 | [],env=>some (.ok (.nx env))
 | d::ds,env=>(g d env).bind λe1=>(body e1).bind λo=>match o with
  | .ok (.nx e2)=>zacy g body ds e2
  | .ok (.ct e2)=>zacy g body ds e2
  | .ok (.bk e2)=>some (.ok (.nx e2))
  | .ok (.rt d fr)=>some (.ok (.rt d fr))
  | .rx c d=>some (.rx c d)
noncomputable def xFor(f:IF')(g:GT)(body:SFX):SFX:=λenv=>(f env).bind λz=>zacy g body z.1 (frzs env z.2)
theorem zasl{wi:TI}{g:TG}{tb:XK->TS}{f:IF'}{gf:GT}{body:SFX}(h1:SI wi f)(h2:SG g gf)(h3:SSx cl tb body):SSx cl (λE=>tFor wi g (tb E)) (xFor f gf body):=by
 intro fx H0 env σ H D E h o e q
 obtain⟨⟨ds,bs⟩,er,e⟩:=qA.mp e
 refine h1 fx H0 env σ H h ds bs er _ λJ H1 s yl=>?_
 have hE:=(h.up s).frzs bs
 have fl:=hE.floor
 refine⟨λi m σ' H'=>m=ds.length - i/\i<=ds.length/\∃env',zacy gf body (ds.drop i) env'=some o/\EnvOk fx (Offs (own (frzs env bs) σ) H1) env' σ' H',⟨ds.length,rfl,qAr _,_,e,hE.rebase⟩,?_⟩
 rintro i m σ' H' ⟨rfl,hi,env',e',h'⟩
 obtain⟨yi,ys⟩:=yl _ H' h'.all h'.seen
 by_cases hlt:i<ds.length
 ·obtain⟨yg,yy⟩:=yi i ds[i] (qS hlt)
  refine .inr ⟨yg,λσ'' H''=>i+1<=ds.length/\∃env'',zacy gf body (ds.drop (i+1)) env''=some o/\EnvOk fx (Offs (own (frzs env bs) σ) H1) env'' σ'' H'',?_,?_⟩
  ·rintro σ'' H'' ⟨hle,env'',e'',h''⟩
   exact⟨ds.length - (i+1),by omega,rfl,hle,env'',e'',h''⟩
  ·intro x H'' hy
   obtain⟨sy,ry⟩:=yy x H'' hy
   rw[qAa hlt]at e'
   obtain⟨e1,ee1,e'⟩:=qA.mp e'
   obtain⟨o1,eo1,e'⟩:=qA.mp e'
   refine h2 fx _ env' σ' H'' _ x (h'.up sy) ry e1 ee1 _ λσ2 h2'=>h3 fx _ e1 σ2 H'' _ E h2' o1 eo1 ?_
   cases o1 with
   | rx c d=>cases e';exact λk od H3 r=>q k od H3 (r.base fl)
   | ok o1=>
    cases o1 with
    | nx e2=>exact λσ3 H3 hh=>⟨hlt,e2,e',hh⟩
    | ct e2=>exact λσ3 H3 hh=>⟨hlt,e2,e',hh⟩
    | bk e2=>cases e';exact λσ3 H3 hh=>q σ3 H3 (hh.unbase fl)
    | rt d fr=>cases e';exact λv H3 sh rt=>q v H3 (fl.trans sh) (rt.unbase fl)
 ·have hi':i=ds.length:=by omega
  subst hi'
  rw[qA7]at e'
  cases e'
  exact .inl ⟨ys,q σ' H' (h'.unbase fl)⟩
inductive ResX where
 | ok (d:PyData) (fr:Bool)
 | rx (c:Str) (d:PyData)
noncomputable abbrev GFX:=List PyData->Option ResX
noncomputable def zayr(cl:Str->Addr)(fx:Addr->Prop)(H:Hp)(Q:VK)(E:XK):ResX->Prop
 | .ok d fr=>∀v H',Same H H'->zxi fx H d fr v H'->Q v H'
 | .rx c d=>∀k od H',RX H (cl c) d k od H'->E k od H'
noncomputable def spX(cl:Str->Addr)(n:Nat)(g:GFX):Sp:=λvs H Q E=>∃(fx:Addr->Prop)(ds:List PyData)(r:ResX),ds.length=n/\(∀b,fx b->∃o,H b=some o)/\Rps (Offs fx H) ds vs/\g ds=some r/\zayr cl fx H Q E r
theorem zakh{n:Nat}{g:GFX}{vs:List V}{H:Hp}{Q:VK}{E:XK}(h:spX cl n g vs H Q E):vs.length=n:=by
 obtain⟨fx,ds,r,hn,hf,rr,_⟩:=h
 rw[<- rr.length];exact hn
noncomputable def fnX(n:Nat)(f:SFX):GFX:=λds=>match f (ziy n ds)with
 | some (.ok (.rt d fr))=>some (.ok d fr)
 | some (.ok (.nx _))=>some (.ok .none false)
 | some (.rx c d)=>some (.rx c d)
 | _=>none
theorem fn_x{N:List Str}{n:Nat}{f:SFX}{t:XK->TS}(hs:SSx cl t f){vs:List V}{H:Hp}{Q:VK}{E:XK}(h:spX cl n (fnX N.length f) vs H Q E):t (StX H E) {nx:=λ_ H'=>Q .non H',rt:=Q} (zhg N vs) H:=by
 obtain⟨fx,ds,r,hn,hf,rr,g,k⟩:=h
 unfold fnX at g
 split at g
 ·rename_i d' fr' eo
  cases g
  exact hs fx H _ _ H _ _ (zjj hf rr) _ eo λv H' s rt=>k v H' s rt
 ·rename_i e' eo
  cases g
  exact hs fx H _ _ H _ _ (zjj hf rr) _ eo λσ H' hE=>k .non H' hE.base ⟨zgk,λz=>by cases z⟩
 ·rename_i c d eo
  cases g
  exact hs fx H _ _ H _ _ (zjj hf rr) _ eo λk' od H' q=>RX.stx k q
 ·cases g
noncomputable def zasm(n:Nat)(g:GFX)(f:AF):SFX:=λenv=>(f env).bind λrs=>if rs.length=n then(g (zhq rs)).map λr=>match r with
 | .ok _ _=>.ok (.nx env)
 | .rx c d=>.rx c d else none
theorem zaof{n:Nat}{g:GFX}{ta:TA}{f:AF}(ha:SA ta f):SSx cl (λE=>tDrop (tCall (spX cl n g) [] E ta)) (zasm n g f):=by
 intro fx H0 env σ H D E h o e q
 obtain⟨rs,er,e⟩:=qA.mp e
 split at e
 ·rename_i hn
  obtain⟨r,ez,rfl⟩:=qG.mp e
  refine ha fx H0 env σ H h rs er _ λvs H1 s1 v1=>?_
  rw[qAC]
  refine⟨lim fx env σ (bss rs),zhq rs,r,by rw[zga];exact hn,(h.up s1).lims _,zfi (λi hi=>hi) v1,ez,?_⟩
  cases r with
  | ok d fr=>exact λw H3 s3 _=>q σ H3 (h.up (s1.trans s3))
  | rx c d=>exact λk od H3 r=>q k od H3 (r.base (h.base.trans s1))
 ·cases e
end
noncomputable abbrev Cx.hold(X:Cx)(e:Addr):Cx:={X with A:=X.A.mark (some (.ref e)),calm:=false,xe:=λ_ _=>False}
section
variable{X:Cx}{pins:List (Addr×Obj)}{σ:St}{H:Hp}{s:Shared}
theorem Inv.hold(I:Inv X pins σ H s)(e:Addr):Inv (X.hold e) pins σ H s:=
 ⟨⟨I.ok.mod,I.ok.kind,I.ok.glob,I.ok.blt,I.ok.above,I.ok.inj,I.ok.has,I.ok.cab,(λz=>by cases z),I.ok.frames,I.ok.stk,I.ok.exf,I.ok.bs,I.ok.bsz,I.ok.noex,I.ok.exfs,I.ok.funs,I.ok.frf⟩,I.os,I.bare,I.base,I.loc,I.cell,I.free,I.freeC,I.pin,I.hok,I.len⟩
theorem Inv.unhold{e:Addr}(ok:X.Ok)(I:Inv (X.hold e) pins σ H s):Inv X pins σ H s:=
 ⟨ok,I.os,I.bare,I.base,I.loc,I.cell,I.free,I.freeC,I.pin,I.hok,I.len⟩
theorem zaki{A:Around}{E:Value->Shared->Prop}{n:Str}{pos:Pos}{j:Nat}{Q:Unit->Shared->Prop}(I:Inv X pins σ H s)(hN:X.N.Nodup)(hj:X.N[j]?=some n)(hl:X.env.scope.names.lookup n=some .local)
  (h:∀s',Inv X pins (σ.set j none) H s'->Q () s'):wpAny (model X.prog X.w) A (do bindName X.env n .none;unbindBehindTheSuite X.env n pos) Q E s:=by
 obtain⟨m,hn,hlk⟩:=id I.loc
 have hcls:(X.env.scope.kind==.class||(X.env.scope.kind==.module&&X.env.locals != X.env.globals))=false:=by rw[I.ok.kind];rfl
 refine wpAny_nameGoes_keeps hl hn hcls λh' v ns sb=>h _ ?_
 have lo:∀b ob,X.s₀.heap.get? b=some ob->h'.get? b=s.heap.get? b:=λb ob e=>sb.2 b (qu (qh (qL e) I.ok.above))
 have cne:=I.cne
 refine⟨I.ok,I.os,I.bare,⟨λb o e n hb hx=>(lo b o e).trans (I.base.keep b o e n hb hx),λb o e n hb hx=>?_,I.base.free,λb o e hx=>?_,I.base.tups,I.base.frzs,I.base.tbls⟩,⟨_,ns,λk y v' e1 e2 e3=>?_⟩,λy c e=>?_,I.free,I.freeC,λp hp=>?_,λb ob e=>?_,by simpa using I.len⟩
 ·obtain⟨sl,e1⟩:=I.base.slot b o e n hb hx
  exact⟨sl,(lo b o e).trans e1⟩
 ·obtain⟨o',e1⟩:=I.base.there b o e hx
  exact⟨o',(lo b o e).trans e1⟩
 ·by_cases hk:k=j
  ·subst hk
   rw[qAJ (by have:=(qa.mp hj).1;rw[I.len];exact this)]at e2
   cases e2
  ·rw[qV (qAl hk)]at e2
   obtain⟨u',r',q⟩:=hlk k y v' e1 e2 e3
   refine⟨u',r',?_⟩
   rcases q with⟨z,e⟩|⟨z,c,e,y'⟩
   ·refine .inl ⟨z,?_⟩
    have:y≠n:=λe=>hk (zws hN e1 (e▸hj))
    simp[this,e]
   ·exact .inr ⟨z,c,e,y'.sameBut sb (cne y c e)⟩
 ·obtain⟨w',z⟩:=I.cell y c e
  exact⟨w',z.sameBut sb (cne y c e)⟩
 ·obtain⟨e,n,ne,nf,d⟩:=I.pin p hp
  exact⟨(sb.2 p.1 ne).trans e,n,ne,nf,d⟩
 ·refine(I.hok b ob e).stay (λc w' hc q=>(sb.2 c ?_).trans q) (λ_ q=>q) λ_ _ q=>q
  rintro rfl
  rcases hc with hc|hc
  ·rw[<- hc,I.free]at e;cases e
  ·rw[I.free]at hc;cases hc
end
section
variable{X:Cx}{pins:List (Addr×Obj)}{σ:St}{H:Hp}{s:Shared}
end
section
variable{X:Cx}{pins:List (Addr×Obj)}{σ:St}{H1:Hp}{s1:Shared}
end
end L2
namespace PySem
open Sem (wp)
open Builtin Builtin.ObjectAttr
section
variable{prog:Program}{w:World}{A:Around}{E:Value->Shared->Prop}{h:Heap}{g:Array GenState}{d:Drawn}{t:Nat}{os:OsState}
variable{nm q:Str}{C N x:Addr}{bs bm:List Value}{sn:List Str}{sub:List Value}{ab:Bool}{col:Option Bool}{dd:Option Addr}{k0 k1 k2 k3 k5:Option Value}{newId:String}{o:Obj}
theorem zagv {R:Result->Shared->Prop} (hr:zex bm=true) (hC:h.get? C=some (excClassObj nm q C N bs bm true sn sub ab col dd k0 k1 k2 k3 k5 newId)) (hx:h.get? x=some o) (hc:o.cls=.ref C) (hq:R (.ok (.ret (.ref C))) ⟨h,g,d,t,os⟩) :
  codeAny (model prog w) A (.call (.builtin "getset_descriptor.__get__") ⟨[.builtin "object.__class__",.ref x,.ref C],[]⟩) R ⟨h,g,d,t,os⟩:=by
 have hT5:(⟨h,g,d,t,os⟩:Shared).TypeIs (.builtin "object.__class__") "getset_descriptor":=qB8
 have hcB:(Value.ref C::bm).contains (.type (".".intercalate ("object.__class__".cutAt '.').dropLast))=true:=by
  rw[F.owner_object_class,qAQ,zdz (by decide) hr];rfl
 refine qBK qC1.plain F.entry_gs_get (qC1.check _ _ _ _ _ _ _ _ hT5 (F.args_gs_get _ _ _) ?_)
 repeat (any_goals (first|assumption|(with_reducible refine qj hx ?_;rw[hc])|(with_reducible refine qAg hC ?_;rw[hcB])|wp_step))
 refine⟨qCI _ (by decide +kernel),codeAny_builtin F.entry_object_class ?_⟩
 repeat (any_goals (first|assumption|(with_reducible refine qj hx ?_;rw[hc])|wp_step))
theorem zawk{Q:Option Value->Shared->Prop}(hr:zex bm=true)(hC:h.get? C=some (excClassObj nm q C N bs bm true sn sub ab col dd k0 k1 k2 k3 k5 newId))(hx:h.get? x=some o)(hc:o.cls=.ref C)
  (LG:W.Looks (model prog w) h (typeLookup (.ref C) "__getattribute__") (some (.builtin "BaseException.__getattribute__")))(LA:W.Looks (model prog w) h (typeLookup (.ref C) "__class__") (some (.builtin "object.__class__")))
  (LH:W.Looks (model prog w) h (typeLookup (.ref C) "__getattr__") none) (hq:Q (some (.ref C)) ⟨h,g,d,t+1,os⟩):wpAny (model prog w) A (getAttr? (.ref x) "__class__") Q E ⟨h,g,d,t,os⟩:=by
 have hk:builtinKind "BaseException.__getattribute__"=some .slot:=by decide +kernel
 have hsplit:splitId "BaseException.__getattribute__"=some ("BaseException","__getattribute__"):=by decide +kernel
 have hcB:(Value.ref C::bm).contains (.type "BaseException")=true:=by rw[qAQ,zdz (by decide) hr,qAu]
 have hx2:(Value.builtin "BaseException.__getattribute__"==Value.builtin "object.__getattribute__")=false:=by decide +kernel
 have hx1:(onTheHeap (Value.ref C)&&Value.builtin "BaseException.__getattribute__"==Value.builtin "object.__getattribute__")=false:=by rw[hx2];rfl
 have FB:=F.attr_ValueError
 have f3:=FB.ga.bind (.ref x)
 have hT5:(⟨h,g,d,t+1,os⟩:Shared).TypeIs (.builtin "object.__class__") "getset_descriptor":=qB8
 have f5:=qB8
 have f6:=qC1.lookup
 have f7:=F.slot_gs_set.lookup
 unfold getAttr? getAttrBy? getAttrBy
 repeat (any_goals (first|assumption|(with_reducible refine qj hx ?_;rw[hc])|(with_reducible refine LG.here ?_)|(with_reducible refine LH.here ?_)|wp_step))
 refine qBK FB.ga.plain F.entry_bexc_ga ?_
 simp only[checkBuiltinCall,hk,hsplit]
 refine qD ?_
 unfold isInstance
 repeat (first|(with_reducible refine qj hx ?_;rw[hc])|(with_reducible refine qAg hC ?_;rw[hcB])|wp_step)
 repeat (any_goals (first|assumption|(with_reducible refine qj hx ?_;rw[hc])|(with_reducible refine LA.here ?_)|wp_step))
 refine zagv hr hC hx hc ?_
 repeat (any_goals (first|assumption|wp_step))
end
end PySem
namespace L2
open PySem PySem.Spec PyProof.Rows
section
variable{X:Cx}{C f:Addr}
theorem zxv{K:qC}{e C dx f:Addr}(M:XMk K C f)(ha:PySem.W.findIn K (.ref C) "__class__"=some (some (.builtin "object.__class__"))):PySem.W.KitX K (.ref e) (.ref C) (λh=>∃tv,xeD e C dx tv h) where
 ty:=λ_ _ _ ⟨_,_,_,a,_⟩=>(qCZ a).andThen .now
 it:=λ_ _ X _=>by
  obtain⟨nm,qn,N,bs,bm,sn,sub,ab,col,dd,k0,k1,k2,k3,k5,hC,_⟩:=zlq X M.cls M.tail
  intro A' Q' E' s' k q
  unfold isType loadHead
  exact qD (wpAny_loadPart (k _ _ hC) (qJ q))
 ne:=λh tp dd its n sl X htp=>by
  obtain⟨nm,qn,N,bs,bm,sn,sub,ab,col,dd,k0,k1,k2,k3,k5,hC,_⟩:=zlq X M.cls M.tail
  refine Bool.eq_false_iff.mpr λq=>?_
  have e:C=tp:=Value.ref.inj (beq_iff_eq.mp q)
  subst e
  have z:=congrArg Obj.cls (qZ (hC.symm.trans htp))
  unfold excClassObj at z
  injection z with z
  exact absurd z (by decide)
 ca:=λ{prog w A E Q s} X ⟨tv,vs,sl,a,_⟩ k=>by
  obtain⟨nm,qn,N,bs,bm,sn,sub,ab,col,dd,k0,k1,k2,k3,k5,hC,hbm,_⟩:=zlq X M.cls M.tail
  obtain⟨h,g,d,t,os⟩:=s
  exact zawk hbm hC a rfl (qAY X M.ga) (qAY X ha) (qAY X M.gh) k
noncomputable def rIsX(K:qC)(C:Addr):List V->Hp->VK->Prop:=λxs H Q=>∃e dx tv b,H e=some (.ext (xeD e C dx tv))/\Q (.bl b) H/\
 ((∃c,xs=[.ref e,.ref c]/\PySem.W.kitOne K (.ref C) (.ref c)=some b)\/(∃n,xs=[.ref e,.ty n]/\PySem.W.kitOne K (.ref C) (.type n)=some b)\/∃p ys us,xs=[.ref e,.ref p]/\H p=some (.tup ys)/\(∀its,Vals ys its->its=us)/\PySem.W.kitAny K (.ref C) us=some b)
theorem zaog(M:XMk X.K C f)(ha:PySem.W.findIn X.K (.ref C) "__class__"=some (some (.builtin "object.__class__"))):CallR X (.builtin "isinstance") (rIsX X.K C):=by
 intro pins s σ H xs us Q I r h
 obtain⟨e,dx,tv,b,he,q,h⟩:=h
 have hx:=(I.hok e _ he).1
 rcases h with⟨c,rfl,kk⟩|⟨n,rfl,kk⟩|⟨p,ys,us',rfl,hp,hv,kk⟩
 ·obtain⟨u1,u2,rfl,r1,r2⟩:=zabz r
  cases r1
  cases r2
  exact qAV (zxv (dx:=dx) M ha) I.kIn ⟨tv,hx⟩ kk (λz=>nomatch z) λtk=>⟨.bl b,H,I.tok _,rfl,q⟩
 ·obtain⟨u1,u2,rfl,r1,r2⟩:=zabz r
  cases r1
  cases r2
  exact qAV (zxv (dx:=dx) M ha) I.kIn ⟨tv,hx⟩ kk (λz=>nomatch z) λtk=>⟨.bl b,H,I.tok _,rfl,q⟩
 ·obtain⟨u1,u2,rfl,r1,r2⟩:=zabz r
  cases r1
  cases r2
  obtain⟨_,its,vi,op,hop,ho1,n,ho2⟩:=I.hok p _ hp
  cases hv its vi
  obtain⟨oc,od,odt,osl⟩:=op
  cases ho1
  cases ho2
  exact PySem.W.kia_tup (zxv (dx:=dx) M ha) I.kIn ⟨tv,hx⟩ hop kk (λz=>nomatch z) λtk=>⟨.bl b,H,I.tok _,rfl,q⟩
end
theorem zasn{X:Cx}{x:Str}{C:Addr}{pos:Pos}(hg:Gl X x)(hm:X.mg x=some (.ref C))(hd:(x==("__debug__":Str))=false:=by decide):PE X (.Name x pos) (tC (.ref C)):=
 λ_ _ _ H _ I h=>zrx I hg hm ⟨.ref C,H,I,rfl,h⟩ hd
section
variable{K:qC}{ns:List Int}{J:Nat->Prop}
end
noncomputable def DnX(P:Program)(w:World)(K:qC)(mg:Str->Option Value)(base:Heap)(x:Str)(ps:List Str)(k:Nat)(sp:Sp):Prop:=
 ∃f fd,FnOk P w K mg base (CXE P w) k f fd ps sp/\mg x=some (.ref f)/\qN K (.ref f)=true/\zrg K fd ps []
section
variable{X:Cx}
theorem zaso{x:Str}{p pos:Pos}{e:Expr}{es:List Expr}{t:TA}{ps:List Str}{k:Nat}{sp:Sp}{E:XK}(D:DnX X.prog X.w X.K X.mg X.base x ps k sp)(hx:zyv (CXE X.prog X.w) X E)(hr:Room k X.A)(hg:Gl X x)(ha:Bx (PA X (e::es) t))
  (hdb:(x==("__debug__":Str))=false)(he:starEach (e::es) X.env=(false,eval e X.env)::starEach es X.env)(hpl:(backTo pos (starEach es X.env)).any (·.1)=false) :
  Bx (PE X (.Call (.Name x p) (e::es) [] pos) (tCall sp [] E t)):=by
 obtain⟨f,fd,F,hm,hk,hb⟩:=D
 exact⟨zahy F hr hg hm hk hb .nil hx ha.out hdb he hpl⟩
noncomputable def XcOk(P:Program)(w:World)(K:qC)(mg:Str->Option Value)(base:Heap)(x:Str)(C:Addr):Prop:=
 ∃f fd,XMk K C f/\FnOk P w K mg base CX0 1 f fd ["self","at"] (spI C)/\zrg K fd ["self","at"] []/\mg x=some (.ref C)/\PySem.W.findIn K (.ref C) "__class__"=some (some (.builtin "object.__class__"))/\PySem.W.exmOne K (.ref C) (.ref C)=some true
theorem zakj{E:XK}{C:Addr}{x:Str}{np cpos pos:Pos}{a:Expr}{te:TE}(M:XcOk X.prog X.w X.K X.mg X.base x C)(hr:Room 2 X.A)(hex:X.ex=[])(hc:X.calm=true)(hx:Lvs X E)(hg:Gl X x)(ha:Bx (PE X a te))
  (hdb:(x==("__debug__":Str))=false) (he:starEach [a] X.env=[(false,eval a X.env)]):Bx (PS X (.Raise (some (.Call (.Name x np) [a] [] cpos)) none pos) (zake C E te)):=by
 obtain⟨f,fd,M,F,hb,hm,_⟩:=M
 exact⟨zaob M F hr hb hex hc hx hg hm ha.out hdb he⟩
end
theorem zawl{P:Program}{w:World}{K:qC}{mg:Str->Option Value}{base:Heap}{N:List Str}{qual:Str}{scope:Scope}{f:Addr}{cd:Value}{A:Around}{outer:List Env}{s:Shared}{H:Hp}{E:XK}(h0k:HOk P w H s.heap) :
  Lvs (cxOf (CXE P w) P w K mg base N qual scope f cd A outer s H E) (StX H E):=λpins σ H1 s1 e C dx I F q=>zapx I h0k F q
structure ErrAt(H:Hp)(e C dx:Addr)(d:PyData):Prop where
 ex:∃tv,H e=some (.ext (xeD e C dx tv))
 at_:∃v,H dx=some (.xd [("at",v)])/\∀H',Rp H' d v
theorem ErrAt.up{H H':Hp}{e C dx:Addr}{d:PyData}(h:ErrAt H e C dx d)(s:Same H H'):ErrAt H' e C dx d:=
 ⟨let⟨tv,z⟩:=h.ex;⟨tv,s _ _ z⟩,let⟨v,z,r⟩:=h.at_;⟨v,s _ _ z,r⟩⟩
noncomputable def SEe(j:Nat)(C:Addr)(d:PyData)(te:TE)(f:EF):Prop:=∀(fx:Addr->Prop)(H0:Hp)(env:DEnv)(σ:St)(H:Hp)(e dx:Addr),EnvOk fx H0 env σ H->σ[j]?=some (some (.ref e))->ErrAt H e C dx d->∀r,f env=some r->∀Q:VK,(∀v H',Same H H'->ValOk (lim fx env σ r.bs) H H' r v->Q v H')->te σ H Q
noncomputable def SAe(j:Nat)(C:Addr)(d:PyData)(ta:TA)(f:AF):Prop:=∀(fx:Addr->Prop)(H0:Hp)(env:DEnv)(σ:St)(H:Hp)(e dx:Addr),EnvOk fx H0 env σ H->σ[j]?=some (some (.ref e))->ErrAt H e C dx d->∀rs,f env=some rs->∀Q:List V->Hp->Prop,
 (∀vs H',Same H H'->Paired (λr v=>ValOk (lim fx env σ r.bs) H H' r v) rs vs->Q vs H')->ta σ H Q
noncomputable def SSe(j:Nat)(C:Addr)(d:PyData)(ts:TS)(F:SF):Prop:=∀(fx:Addr->Prop)(H0:Hp)(env:DEnv)(σ:St)(H:Hp)(D:Ends)(e dx:Addr),EnvOk fx H0 env σ H->σ[j]?=some (some (.ref e))->ErrAt H0 e C dx d->∀o,F env=some o->SatK fx H0 (λk=>k=j) σ D o->ts D σ H
section
variable{j:Nat}{C:Addr}{d:PyData}
theorem zawm{ta:TA}{f:AF}(h:SA ta f):SAe j C d ta f:=λfx H0 env σ H e dx hE _ _=>h fx H0 env σ H hE
theorem zawn:SEe j C d (tXat C (tVar j)) (eC d):=by
 intro fx H0 env σ H e dx h hj he r hr Q q
 cases hr
 obtain⟨tv,he1⟩:=he.ex
 obtain⟨v,hd,rv⟩:=he.at_
 exact⟨_,hj,e,dx,tv,v,rfl,he1,hd,q v H (Same.refl _) ⟨rv _,λz=>by cases z⟩⟩
theorem zasp{K:qC}{c:Addr}{b:Bool}(hk:PySem.W.kitOne K (.ref C) (.ref c)=some b):SEe j C d (tCB (rIsX K C) (tCons (tVar j) (tCons (tC (.ref c)) tNil))) (eC (.bool b)):=by
 intro fx H0 env σ H e dx h hj he r hr Q q
 cases hr
 obtain⟨tv,he1⟩:=he.ex
 exact⟨_,hj,e,dx,tv,b,he1,q _ H (Same.refl _) ⟨zbl,λz=>by cases z⟩,.inl ⟨c,rfl,hk⟩⟩
theorem zasq:SAe j C d tNil aNil:=zawm zam
theorem zafe{te:TE}{ta:TA}{f:EF}{g:AF}(h1:SEe j C d te f)(h2:SAe j C d ta g):SAe j C d (tCons te ta) (zab f g):=by
 intro fx H0 env σ H e dx h hj he rs hr Q q
 unfold zab at hr
 obtain⟨x,ex,hr⟩:=qA.mp hr
 obtain⟨xs,exs,rfl⟩:=qG.mp hr
 exact h1 fx H0 env σ H e dx h hj he x ex _ λv H1 s1 v1=>h2 fx H0 env σ H1 e dx (h.up s1) hj (he.up s1) xs exs _ λvs H2 s2 vs2=>q (v::vs) H2 (s1.trans s2)
  (.cons (v1.later (Same.refl _) s2 λ_ z=>z) (Paired.mapP vs2 λ_ _ z=>z.later s1 (Same.refl _) λ_ y=>y))
theorem zasr{ta:TA}{f:AF}(ha:SAe j C d ta f):SEe j C d (tTup ta) (eTup f):=by
 intro fx H0 env σ H e dx h hj he rr hr Q q
 unfold eTup at hr
 obtain⟨rs,er,hr⟩:=qA.mp hr
 split at hr
 ·rename_i hl
  cases hr
  refine ha fx H0 env σ H e dx h hj he rs er _ λvs H1 s1 v1=>?_
  have r:=zfi (λi hi=>hi) v1
  have hA:=(h.up s1).lims (bss rs)
  refine⟨zer (by rw[<- r.length,zga];exact hl),λp hp=>q _ _ (s1.trans (Same.new hp)) ⟨zli hp (zej hA hp) r,λz=>by cases z⟩⟩
 ·cases hr
end
theorem EnvOk.setNo{fx:Addr->Prop}{H0:Hp}{env:DEnv}{σ:St}{H:Hp}(h:EnvOk fx H0 env σ H)(i:Nat)(v:Option V):EnvOk fx H0 (env.set i .no) (σ.set i v) H:=by
 have oN:∀b,own (env.set i .no) (σ.set i v) b->own env σ b:=λb ⟨k,d,h1,h2⟩=>by
  rcases zcy h1 with⟨_,z⟩|⟨n,z⟩
  ·cases z
  ·exact⟨k,d,z,by rw[qV (λy=>n y.symm)]at h2;exact h2⟩
 refine⟨by rw[qAI,qAI];exact h.len,λk d e=>?_,λk d e=>?_,λk l d d' a e1 e2 z1 z2=>?_,h.base,h.fxs⟩
 ·rcases zcy e with⟨_,z⟩|⟨n,z⟩
  ·cases z
  ·obtain⟨u,g1,g2⟩:=h.pl k d z
   exact⟨u,by rw[qV (λy=>n y.symm)];exact g1,Rp.same (Offs.sub λb y=>y.imp id (oN b)) _ g2⟩
 ·rcases zcy e with⟨_,z⟩|⟨n,z⟩
  ·cases z
  ·obtain⟨a,g1,g2,g3,g4⟩:=h.ac k d z
   exact⟨a,by rw[qV (λy=>n y.symm)];exact g1,g2,g3,g4.same (Offs.sub λb y=>y.imp id (oN b)) λo z=>z⟩
 ·rcases zcy e1 with⟨_,z⟩|⟨n1,y1⟩
  ·cases z
  ·rcases zcy e2 with⟨_,z⟩|⟨n2,y2⟩
   ·cases z
   ·rw[qV (λy=>n1 y.symm)]at z1
    rw[qV (λy=>n2 y.symm)]at z2
    exact h.inj k l d d' a y1 y2 z1 z2
section
variable{X:Cx}
end
noncomputable def xcB(C:Addr)(cd:ClassData)(sl:Array (Option Value)):Bool:=match cd.mro,sl.toList with
 | .ref C'::bm,[_,_,_,_,some (.builtin n),_]=>C'==C&&!cd.hasDel&&cd.hasDict&&n=="ValueError.__new__"&&bm.contains (.type "ValueError")&&bm.contains (.type "BaseException")&&!bm.contains (.type "AttributeError")&&!bm.contains (.type "NameError")&&zex bm
 | _,_=>false
theorem zawo{K:qC}{C:Addr}{dd:Option Addr}{cd:ClassData}{sl:Array (Option Value)}(l:K.lookup C=some ⟨.type "type",dd,.cls cd,sl⟩)(h:xcB C cd sl=true):xcIn K C=true/\xcR K C=true:=by
 unfold xcB at h
 unfold xcIn xcR
 rw[l]
 split at h
 ·rename_i C' bm a0 a1 a2 a3 n a5 hm hs
  obtain⟨nm,bs,mro,ns,qn,hd,sn,sub,ab,col,del⟩:=cd
  obtain⟨sl⟩:=sl
  dsimp only at hm hs
  subst hm
  have hs:sl=[a0,a1,a2,a3,some (.builtin n),a5]:=hs
  subst hs
  rw[qm]at h
  exact h
 ·cases h
section
variable{K:qC}{C c:Addr}
theorem zacz{b:Bool}(h1:PySem.W.isClsIn K c=true)(h2:PySem.W.typeIn K (.ref c)=some (.type "type"))(h3:PySem.W.subIn K (.ref C) (.ref c)=some b):PySem.W.kitCls K (.ref C) (.ref c)=some b:=by
 unfold PySem.W.kitCls
 dsimp only
 have h1:(PySem.W.clsIn K c).isSome=true:=h1
 rw[if_pos (by rw[h1,h2];rfl)]
 exact h3
theorem zawp(h1:PySem.W.isClsIn K c=true)(h2:PySem.W.typeIn K (.ref c)=some (.type "type"))(h3:PySem.W.subIn K (.ref C) (.ref c)=some true):PySem.W.kitOne K (.ref C) (.ref c)=some true:=by
 unfold PySem.W.kitOne
 split
 ·rfl
 ·exact zacz h1 h2 h3
theorem zawq(h3:PySem.W.subIn K (.ref C) (.type "ValueError")=some true):PySem.W.kitOne K (.ref C) (.type "ValueError")=some true:=by
 unfold PySem.W.kitOne
 rw[if_neg (by intro e;cases beq_iff_eq.mp e)]
 unfold PySem.W.kitCls
 dsimp only
 rw[if_pos (show PySem.W.kitMeta "ValueError"=true by decide +kernel)]
 exact h3
theorem zawr(hb:PySem.W.subIn K (.ref C) (.type "BaseException")=some true)(h1:PySem.W.isClsIn K C=true)(h2:PySem.W.typeIn K (.ref C)=some (.type "type"))(h3:PySem.W.subIn K (.ref C) (.ref C)=some true):PySem.W.exmOne K (.ref C) (.ref C)=some true:=by
 unfold PySem.W.exmOne
 rw[hb,if_pos (by rfl)]
 exact zacz h1 h2 h3
end
structure XKit(P:Program)(w:World)(K:qC)(mg:Str->Option Value)(base:Heap)(cl:Str->Addr)(CS KS:List Str)(B:Str):Prop where
 ok:∀c∈CS,XcOk P w K mg base c (cl c)
 ex:∀c∈CS,PySem.W.exmOne K (.ref (cl c)) (.ref (cl B))=some true
 kit:∀c∈CS,∀k∈KS,PySem.W.kitOne K (.ref (cl c)) (.ref (cl k))=some (decide (c=k))
 val:∀c∈CS,PySem.W.kitOne K (.ref (cl c)) (.type "ValueError")=some true
 mgk:∀k∈KS,mg k=some (.ref (cl k))
 mgB:mg B=some (.ref (cl B))
 mgV:mg "ValueError"=none
theorem ztl{p:Str->Prop}:∀c∈([]:List Str),p c:=λc h=>absurd h (by simp)
theorem ztm{p:Str->Prop}{a:Str}{l:List Str}(h:p a)(t:∀c∈l,p c):∀c∈a::l,p c:=λc hc=>(qc.mp hc).elim (λe=>e▸h) (t c)
section
variable{K:qC}{C c B:Addr}{a b:Str}
theorem zaws(hb:PySem.W.subIn K (.ref B) (.type "BaseException")=some true)(h1:PySem.W.isClsIn K B=true)(h2:PySem.W.typeIn K (.ref B)=some (.type "type"))(h3:PySem.W.subIn K (.ref C) (.ref B)=some true):PySem.W.exmOne K (.ref C) (.ref B)=some true:=by
 unfold PySem.W.exmOne
 rw[hb,if_pos (by rfl)]
 exact zacz h1 h2 h3
end
section
variable{X:Cx}
theorem zaoh{x:Str}{C:Addr}{pos:Pos}(hg:Gl X x)(hm:X.mg x=some (.ref C))(hd:(x==("__debug__":Str))=false):Bx (PE X (.Name x pos) (tC (.ref C))):=⟨zasn hg hm hd⟩
theorem zass{C f:Addr}{o:Expr}{pos:Pos}{te:TE}(M:XMk X.K C f)(ho:Bx (PE X o te))(hb:attributeBase o "at" X.env (eval o X.env)=eval o X.env):Bx (PE X (.Attribute o "at" pos) (tXat C te)):=⟨zawi M ho.out hb⟩
theorem zakk{K:qC}{C f:Addr}(hK:X.K=K)(M:XMk K C f)(ha:PySem.W.findIn K (.ref C) "__class__"=some (some (.builtin "object.__class__"))):CallR X (.builtin "isinstance") (rIsX K C):=by
 subst hK;exact zaog M ha
theorem zaoi{K:qC}{C f:Addr}{o:Expr}{pos:Pos}{te:TE}(hK:X.K=K)(M:XMk K C f)(ho:Bx (PE X o te))(hb:attributeBase o "at" X.env (eval o X.env)=eval o X.env):Bx (PE X (.Attribute o "at" pos) (tXat C te)):=by
 subst hK;exact zass M ho hb
end
section
variable{X:Cx}
end
section
variable{j:Nat}{C:Addr}{d:PyData}
end
noncomputable def zast(Ok:Addr->Prop)(ts:Addr->TS)(j:Nat)(D:Ends)(σ:St)(H1:Hp):XK:=λc od H2=>∃C dx,c=.ref C/\Ok C/\od=some dx/\
 ∀e H3,(∀b o,H1 b=some o->H2 b=some o->H3 b=some o)->zanz H2 H3->(∃tv,H3 e=some (.ext (xeD e C dx tv)))->
  ts C {nx:=λσ' H'=>D.nx (σ'.set j none) H',rt:=D.rt} (σ.set j (some (.ref e))) H3
section
variable{X:Cx}{pins:List (Addr×Obj)}{σ:St}{H1:Hp}{s1:Shared}
theorem zaoj{Ok:Addr->Prop}{ts:Addr->TS}{B:Addr}{n cn:Str}{hpos cp:Pos}{st0:Stmt}{suite:List Stmt}{j:Nat}{D:Ends}{ev:Value}{s':Shared}
  (hN:X.N.Nodup)(hj:X.N[j]?=some n)(hn:X.env.scope.names.lookup n=some .local)(hst:X.stack=X.env::X.outer)(hfr:X.env.frame=some X.env.locals)(hgc:Gl X cn)(hmc:X.mg cn=some (.ref B))
  (hex:∀C,Ok C->PySem.W.exmOne X.K (.ref C) (.ref B)=some true)(hs:∀C,Ok C->∀e,PSs (X.hold e) (st0::suite) (ts C))(hdc:(cn==("__debug__":Str))=false)
  (I1:Inv X pins σ H1 s1)(hq:CXE X.prog X.w X.stack H1 s1 (zast Ok ts j D σ H1) ev s') :
  wpAny (model X.prog X.w) X.A (noteFrame ev X.env) (λ_ s2=>wpAny (model X.prog X.w) X.A (setFlight ev none) (λ_ s3=>wpAny (model X.prog X.w) X.A (handleBy ev X.env [.ExceptHandler (some (.Name cn cp)) (some n) (st0::suite) hpos]) (SP X pins D) X.xe s3) X.xe s2) X.xe s':=by
 obtain⟨e,C',dx,H2,rfl,os,bare,un,ok,fl,stx⟩:=hq
 have I2:=I1.call' (s':=s') os un ok bare (λb z=>absurd z (by simp))
 refine zaag I2 hst hfr (λb ob z=>un.there b ob z (by simp)) fl λs3 H3 I3 ⟨T,hT1,hT2,hT3,hT4⟩ ho hkx hz3=>?_
 obtain⟨C,dx',eC,hOk,edx,sq⟩:=stx H3 (λb o z1 z2=>ho b o _ (I1.hok b o z1).there.choose_spec z2) hkx
 cases eC
 cases edx
 obtain⟨⟨vs',sl,oe,h1⟩,_,_⟩:=I3.hok e _ hT1
 have tb:=(I3.hok T _ hT4).1
 have J3:=I3.hold e
 refine wpAny_handleBy_cons (codeAny_handlers_test (zrx J3 hgc hmc ?_ hdc)) (by intro z;cases z)
 have LT:PySem.W.Looks (model X.prog X.w) s3.heap (typeOf (.ref e)) (.ref C'):=(qCZ oe).andThen .now
 refine(PySem.W.exm_one (I3.kIn) LT (hex C' hOk)).here ?_
 show codeAny _ _ _ _ _
 refine codeAny_handlers_suite_as (zaka oe rfl h1 tb λh' kp tb'=>?_)
 have hup:upd H3 T (.ext λh=>h.Tb T)=H3:=by
  funext b
  by_cases hb:b=T
  ·subst hb;rw[zau,hT4]
  ·rw[zav hb]
 have J4:Inv (X.hold e) pins σ H3 {s3 with heap:=h'}:=by
  have:=J3.write (x:=T) (e:=T) (o:=.ext λh=>h.Tb T) (h':=h') (t':=s3.toks) (by rw[hT4];exact True.intro) (.inl rfl) (λb u hb z=>kp b u hb z) (let⟨oT,_,z,_⟩:=tb';⟨oT,z⟩) (zakb tb')
  rw[hup]at this
  exact this
 refine zwt (X:=X) (Inv.unhold I1.ok J4) hN hj (.inl hn) (show RelV (.ref e) (.ref e)from rfl) (λs5 J5=>?_) (.inr hn)
 refine qBJ (hs C' hOk e pins s5 _ H3 _ (J5.hold e) (sq e H3 (λ_ _ _ z=>z) (λ_ _ z _=>z) ⟨_,hT1⟩)) (λfl s6 q6=>?_) λ_ _ z=>z.elim
 cases fl with
 | next=>
  obtain⟨σ',H',J6,q6⟩:=q6
  exact zaki (Inv.unhold I1.ok J6) hN hj hn λs7 I7=>⟨_,_,I7,q6⟩
 | ret u=>
  obtain⟨v,σ',H',J6,rv,q6⟩:=q6
  exact zaki (Inv.unhold I1.ok J6) hN hj hn λs7 I7=>⟨v,_,H',I7,rv,q6⟩
 | brk=>obtain⟨σ',H',J6,q6⟩:=q6;exact q6.elim
 | cont=>obtain⟨σ',H',J6,q6⟩:=q6;exact q6.elim
noncomputable def zasu(Ok:Addr->Prop)(sp:Sp)(t:TA)(ts:Addr->TS)(j:Nat):TS:=λD σ H=>t σ H λvs H1=>sp vs H1 (λ_ H2=>D.nx σ H2) (zast Ok ts j D σ H1)
theorem zasv{Ok:Addr->Prop}{f B:Addr}{k:Nat}{fd:qt}{ps:List Str}{sp:Sp}{fn n cn:Str}{p cpos pos epos hpos cp:Pos}{a:Expr}{as:List Expr}{st0:Stmt}{suite:List Stmt}{t:TA}{ts:Addr->TS}{j:Nat}
  (F:FnOk X.prog X.w X.K X.mg X.base (CXE X.prog X.w) k f fd ps sp)(hr:Room k X.A)(hg:Gl X fn)(hm:X.mg fn=some (.ref f))(hk:qN X.K (.ref f)=true)(hb:zrg X.K fd ps [])(ha:PA X.nox (a::as) t)
  (hN:X.N.Nodup)(hj:X.N[j]?=some n)(hn:X.env.scope.names.lookup n=some .local)
  (hst:X.stack=X.env::X.outer)(hfr:X.env.frame=some X.env.locals)(hgc:Gl X cn)(hmc:X.mg cn=some (.ref B))(hex:∀C,Ok C->PySem.W.exmOne X.K (.ref C) (.ref B)=some true)(hs:∀C,Ok C->∀e,PSs (X.hold e) (st0::suite) (ts C))
  (hdb:(fn==("__debug__":Str))=false)(hdc:(cn==("__debug__":Str))=false)(he:starEach (a::as) X.env=(false,eval a X.env)::starEach as X.env)(hpl:(backTo cpos (starEach as X.env)).any (·.1)=false)
  (hsw:swapsWith (.Call (.Name fn p) (a::as) [] cpos) none epos.line X.env=pure false) :
  PS X (.Try [.Expr (.Call (.Name fn p) (a::as) [] cpos) epos] [.ExceptHandler (some (.Name cn cp)) (some n) (st0::suite) hpos] [] [] pos) (zasu Ok sp t ts j):=by
 intro pins s σ H D I h
 refine wpAny_Try_except ?_
 refine qCd (wpAny_Expr_any (qBV (zrx I hg hm ?_ hdb)) I.quiet hsw)
 refine qB7 (h₀:=X.base) I.ok.mod.kin hk (qBJ (ha cpos pins s σ H _ (I.wish _) h) (λus s1 ⟨vs,H1,I1,r,q⟩=>⟨I1.kIn,?_⟩) λ_ _ z=>z.elim) he hpl
 have I1:Inv X pins σ H1 s1:=I1.unwish
 have hl:us.length=ps.length:=by rw[<- r.length];exact F.len _ _ _ _ q
 refine qCW (qBe (F.run X.A X.stack s1 H1 ⟨us,[]⟩ us vs _ _ hr I1.env0 (by have:=hb s1 us I1.kIn (by rw[qAC];exact hl);rw[qAC]at this;exact this) r q) λres s' hq=>?_)
 cases res with
 | ok fl=>
  cases fl with
  | ret u=>
   obtain⟨v,H2,I2,rv,q2⟩:=I1.after hq
   exact qBU (qBU ⟨_,H2,I2,q2⟩)
  | next=>exact False.elim hq
  | brk=>exact False.elim hq
  | cont=>exact False.elim hq
 | error ev=>exact zaoj hN hj hn hst hfr hgc hmc hex hs hdc I1 hq
end
section
variable{X:Cx}
theorem zaok{cl:Str->Addr}{CS KS:List Str}{k:Nat}{ps:List Str}{sp:Sp}{fn n cn:Str}{p cpos pos epos hpos cp:Pos}{a:Expr}{as:List Expr}{st0:Stmt}{suite:List Stmt}{t:TA}{ts:Addr->TS}{j:Nat}
  (D:DnX X.prog X.w X.K X.mg X.base fn ps k sp)(XK:XKit X.prog X.w X.K X.mg X.base cl CS KS cn)(hr:Room k X.A)(hg:Gl X fn)(ha:Bx (PA X.nox (a::as) t))
  (hN:X.N.Nodup)(hj:X.N[j]?=some n)(hn:X.env.scope.names.lookup n=some .local)
  (hst:X.stack=X.env::X.outer)(hfr:X.env.frame=some X.env.locals)(hgc:Gl X cn)
  (hs:∀C e f,XMk X.K C f->PySem.W.findIn X.K (.ref C) "__class__"=some (some (.builtin "object.__class__"))->Bx (PSs (X.hold e) (st0::suite) (ts C)))
  (hdb:(fn==("__debug__":Str))=false)(hdc:(cn==("__debug__":Str))=false)(he:starEach (a::as) X.env=(false,eval a X.env)::starEach as X.env)(hpl:(backTo cpos (starEach as X.env)).any (·.1)=false)
  (hsw:swapsWith (.Call (.Name fn p) (a::as) [] cpos) none epos.line X.env=pure false) :
  Bx (PS X (.Try [.Expr (.Call (.Name fn p) (a::as) [] cpos) epos] [.ExceptHandler (some (.Name cn cp)) (some n) (st0::suite) hpos] [] [] pos) (zasu (λC=>∃c∈CS,C=cl c) sp t ts j)):=by
 obtain⟨f,fd,F,hm,hk,hb⟩:=D
 refine⟨zasv F hr hg hm hk hb ha.out hN hj hn hst hfr hgc XK.mgB (λC ⟨c,hc,e⟩=>by subst e;exact XK.ex c hc) (λC ⟨c,hc,e⟩ ea=>?_) hdb hdc he hpl hsw⟩
 subst e
 obtain⟨f2,_,M,_,_,_,hcl,_⟩:=XK.ok c hc
 exact(hs _ ea f2 M hcl).out
end
theorem zasw{cl:Str->Addr}{CS:List Str}{fx:Addr->Prop}{H0:Hp}{env:DEnv}{σ:St}{H1:Hp}{D:Ends}{j:Nat}{hd:Str->PyData->SF}{ts:Addr->TS}{c:Str}{d:PyData}{o:Out}
  (h1:EnvOk fx H0 env σ H1) (hj:j<env.length) (hc:c∈CS) (hs:∀c∈CS,∀d,SSe j (cl c) d (ts (cl c)) (hd c d)) (e:((hd c d (env.set j .no)).bind λo=>match o with|.nx e=>some (Out.nx (e.set j .no))|.rt d2 false=>some (.rt d2 false)|_=>none)=some o) (q:Sat fx H0 D o) :
  ∀k od H',RX H1 (cl c) d k od H'->zast (λC=>∃c∈CS,C=cl c) ts j D σ H1 k od H':=by
 rintro k od H2 ⟨rfl,s2,fl,dx,v,rfl,hdx,rp⟩
 obtain⟨o1,e1,e⟩:=qA.mp e
 refine⟨cl c,dx,rfl,⟨c,hc,rfl⟩,rfl,λea H3 q1 q2 ⟨tv,hea⟩=>?_⟩
 have s3:Same H1 H3:=λb o z=>q1 b o z (s2 b o z)
 have hd3:H3 dx=some (.xd [("at",v)]):=q2 _ _ hdx (λφ z=>by cases z)
 have h3:EnvOk fx H0 (env.set j .no) (σ.set j (some (.ref ea))) H3:=(h1.up s3).setNo j _
 have noown:∀b u,H3 b=some u->(∀xs,u≠.lst xs)->(∀xs,u≠.dK xs)->¬own (env.set j .no) (σ.set j (some (.ref ea))) b:=λb u hb n1 n2 ⟨k,d',y1,y2⟩=>by
  obtain⟨a,g1,g2,g3,g4⟩:=h3.ac k d' y1
  rw[y2]at g1
  cases g1
  cases d' with
  | list ds=>obtain⟨ys,z1,_⟩:=g4;rw[hb]at z1;cases z1;exact n1 _ rfl
  | dict ds=>obtain⟨ys,z1,_⟩:=g4;rw[hb]at z1;cases z1;exact n2 _ rfl
  | _=>exact g4.elim
 refine hs c hc d fx _ _ _ H3 _ ea dx h3.rebase (qAJ (by rw[<- h1.len];exact hj)) ⟨⟨tv,by rw[Offs.get (noown _ _ hea (λ_ z=>by cases z) (λ_ z=>by cases z))];exact hea⟩,v,by rw[Offs.get (noown _ _ hd3 (λ_ z=>by cases z) (λ_ z=>by cases z))];exact hd3,λH'=>zsi fl rp⟩ o1 e1 ?_
 cases o1 with
 | nx e2=>
  cases e
  exact λσ' H' h' k=>q _ _ ((h'.unbase h3.floor).setNo j none)
 | bk e2=>cases e
 | ct e2=>cases e
 | rt d2 fr=>
  cases fr with
  | true=>cases e
  | false=>
   cases e
   exact λv2 H4 s4 r4=>q v2 H4 (h3.floor.trans s4) ⟨r4.1,λz=>by cases z⟩
noncomputable def zakl(CS:List Str)(j:Nat)(n:Nat)(g:GFX)(f:AF)(hd:Str->PyData->SF):SF:=λenv=>(f env).bind λrs=>if rs.length=n then(g (zhq rs)).bind λr=>match r with
 | .ok d fr=>some (.nx env)
 | .rx c d=>if c∈CS then(hd c d (env.set j .no)).bind λo=>match o with
  | .nx e=>some (.nx (e.set j .no))
  | .rt d2 false=>some (.rt d2 false)
  | _=>none else none else none
theorem zasx{cl:Str->Addr}{CS:List Str}{j n:Nat}{g:GFX}{f:AF}{hd:Str->PyData->SF}{ta:TA}{ts:Addr->TS}(N:Nat)(hj:j<N)(ha:SA ta f)(hs:∀c∈CS,∀d,SSe j (cl c) d (ts (cl c)) (hd c d)) :
  SS (zasu (λC=>∃c∈CS,C=cl c) (spX cl n g) ta ts j) (λenv=>if env.length=N then zakl CS j n g f hd env else none):=by
 intro fx H0 env σ H D h o e q
 dsimp only at e
 split at e
 ·rename_i hN
  unfold zakl at e
  obtain⟨rs,er,e⟩:=qA.mp e
  split at e
  ·rename_i hn
   obtain⟨r,ez,e⟩:=qA.mp e
   refine ha fx H0 env σ H h rs er _ λvs H1 s1 v1=>?_
   refine⟨lim fx env σ (bss rs),zhq rs,r,by rw[zga];exact hn,(h.up s1).lims _,zfi (λi hi=>hi) v1,ez,?_⟩
   cases r with
   | ok d fr=>
    cases e
    intro v H2 s2 rt
    exact q _ _ (h.up (s1.trans s2))
   | rx c d=>
    dsimp only at e
    split at e
    ·rename_i hc
     exact zasw (h.up s1) (by rw[hN];exact hj) hc hs e q
    ·cases e
  ·cases e
 ·cases e
theorem zasy{j:Nat}{C:Addr}{d:PyData}{te:TE}{f:EF}(h1:SEe j C d te f):SSe j C d (tRet te) (sRet f):=by
 intro fx H0 env σ H D e dx h hj he o er q
 unfold sRet at er
 obtain⟨r,er',rfl⟩:=qG.mp er
 refine h1 fx H0 env σ H e dx h hj (he.up h.base) r er' _ λv H' s hv=>q v H' (h.base.trans s) ⟨Rp.same (Offs.sub λb z=>.inl z) _ hv.rp,λz=>?_⟩
 obtain⟨a,g1,g2,g3⟩:=hv.fr z
 exact⟨a,g1,h.base.free g2,g3.same (Offs.sub λb y=>y.imp .inl id) λo z=>z⟩
structure XUp(K:qC)(mg:Str->Option Value)(cl:Str->Addr)(CS:List Str)(U:Str):Prop where
 kit:∀c∈CS,PySem.W.kitOne K (.ref (cl c)) (.ref (cl U))=some true
 mg:mg U=some (.ref (cl U))
end L2
namespace Bc
open PySem L2
noncomputable def zjl:SF:=(sRet (zdy ["name","elders"] [] (zar (eVar 0)) (gT 2 (zas 0 (zas 1 zdn))) zcf (eVar 0)))
noncomputable def zgn:GF:=fnD 1 zjl
noncomputable def zgd:SF:=(sSeq (sSet 2 (zbb 1 zgn (zab (eVar 0) aNil)))
  (sFor (zar (eVar 1)) (gN 3)
  (sIf (zbv (eOp (inD true) (eVar 3) (eVar 2))) zaet sNil)))
noncomputable def zdg:GF:=fnD 4 zgd
noncomputable def zvp:SF:=(sSeq (sSet 1 zamv)
  (sSeq (sFor (zar (eVar 0)) (gT 2 (zas 2 (zas 3 zdn)))
  (sSeq (sSet 4 (eD1 (eVar 2) (eC (.bool true))))
  (sSeq (sFor (zar (eVar 3)) (gN 5)
  (sUpd 4 (zdd 1 (eVar 5))))
  (sPut 1 (eVar 2) (eVar 4)))))
  (zlb 1)))
noncomputable def zfr:GF:=fnD 6 zvp
theorem zet{α:Type}{enc out:α->PyData}{g:GT}{t:TF}{e:EF}{env:DEnv}(p:α->Bool):∀{l:List α},(∀x∈l,∃e1,g (enc x) env=some e1/\t e1=some (p x)/\(p x=true->∃r,e e1=some r/\r.d=out x))->
  zdx g t e env (l.map enc)=some ((l.filter p).map out)
 | [],_=>rfl
 | x::l,h=>by
  obtain⟨e1,h1,h2,h3⟩:=h x qo
  have ih:=zet (l:=l) p λy hy=>h y (qW _ hy)
  rw[qf]
  unfold zdx
  rw[h1,qI,h2,qI]
  cases hp:p x with
  | false=>
   rw[if_neg qR,ih,List.filter_cons,hp];rfl
  | true=>
   obtain⟨r,h4,h5⟩:=h3 hp
   rw[if_pos rfl,h4,qI,ih,List.filter_cons,hp]
   simp[h5]
theorem zcp{α:Type}{enc out:α->PyData}{g:GT}{t:TF}{e:EF}{env:DEnv}{l:List α}(h:∀x∈l,∃e1,g (enc x) env=some e1/\t e1=some true/\∃r,e e1=some r/\r.d=out x):zdx g t e env (l.map enc)=some (l.map out):=by
 have q:=zet (enc:=enc) (out:=out) (g:=g) (t:=t) (e:=e) (env:=env) (λ_=>true) (l:=l) λx hx=>let⟨e1,h1,h2,h3⟩:=h x hx;⟨e1,h1,h2,λ_=>h3⟩
 rw[q]
 congr 2
 exact List.filter_eq_self.mpr λ_ _=>rfl
theorem zaff{α:Type}{enc:α->PyData}{g:GT}{body:SF}(I:List α->DEnv->Prop)(all:List α):∀(l pre:List α)(env:DEnv),pre++l=all->I pre env->
  (∀pre x post env,pre++x::post=all->I pre env->∃e1 e2,g (enc x) env=some e1/\(body e1=some (.nx e2)\/body e1=some (.ct e2))/\I (pre++[x]) e2)->∃env',forL g body (l.map enc) env=some (.nx env')/\I all env'
 | [],pre,env,hall,h0,hs=>by
  rw[qAC]at hall
  subst hall
  exact⟨env,rfl,h0⟩
 | x::l,pre,env,hall,h0,hs=>by
  obtain⟨e1,e2,h1,h2,h3⟩:=hs pre x l env hall h0
  obtain⟨env',h4,h5⟩:=zaff I all l (pre++[x]) e2 (by rw[<- hall];simp) h3 hs
  refine⟨env',?_,h5⟩
  rw[qf]
  unfold forL
  rw[h1,qI]
  rcases h2 with h2|h2<;>rw[h2,qI]<;>exact h4
theorem zge{α:Type}{enc:α->PyData}{g:GT}{body:SF}{l:List α}{env:DEnv}(I:List α->DEnv->Prop)(h0:I [] env)(hs:∀pre x post env,pre++x::post=l->I pre env->∃e1 e2,g (enc x) env=some e1/\(body e1=some (.nx e2)\/body e1=some (.ct e2))/\I (pre++[x]) e2) :
  ∃env',forL g body (l.map enc) env=some (.nx env')/\I l env':=zaff I l l [] env rfl h0 hs
theorem zbj{f g:SF}{env e1:DEnv}{o:Option Out}(h:f env=some (.nx e1))(k:g e1=o):sSeq f g env=o:=by unfold sSeq;rw[h];exact k
theorem zok{f g:SF}{env:DEnv}{d:PyData}{fr:Bool}(h:f env=some (.rt d fr)):sSeq f g env=some (.rt d fr):=by unfold sSeq;rw[h];rfl
theorem zhz{f:EF}{g:GT}{b:SF}{env:DEnv}{ds:List PyData}{fr:Bool}{bs:List Nat}{o:Option Out}(h:f env=some ⟨.list ds,fr,bs⟩)(k:forL g b ds (frzs env bs)=o):sFor (zar f) g b env=o:=by
 unfold sFor zar;rw[h];exact k
theorem zafg{f:IF'}{g:GT}{b:SF}{env:DEnv}{ds:List PyData}{bs:List Nat}{o:Option Out}(h:f env=some (ds,bs))(k:forL g b ds (frzs env bs)=o):sFor f g b env=o:=by
 unfold sFor;rw[h];exact k
theorem if_t{c:TF}{f g:SF}{env:DEnv}{o:Option Out}(h:c env=some true)(k:f env=o):sIf c f g env=o:=by unfold sIf;rw[h];exact k
theorem if_f{c:TF}{f g:SF}{env:DEnv}{o:Option Out}(h:c env=some false)(k:g env=o):sIf c f g env=o:=by unfold sIf;rw[h];exact k
theorem zlr{i:Nat}{f:EF}{env:DEnv}{r:Val}(h:f env=some r):sSet i f env=some (.nx (putV env i r)):=by unfold sSet;rw[h];rfl
theorem zada{f:EF}{env:DEnv}{r:Val}(h:f env=some r):zzn f env=some (.nx env):=by unfold zzn;rw[h];rfl
theorem zgi{f:EF}{env:DEnv}{d:PyData}{fr:Bool}{bs:List Nat}(h:f env=some ⟨d,fr,bs⟩):sRet f env=some (.rt d fr):=by unfold sRet;rw[h];rfl
theorem zbg{n:Nat}{g:GF}{f:AF}{env:DEnv}{rs:List Val}{d:PyData}{fr:Bool}(h:f env=some rs)(hn:rs.length=n)(k:g (zhq rs)=some (d,fr)):zbb n g f env=some ⟨d,fr,bsOf d (bss rs)⟩:=by
 unfold zbb;rw[h,qI,if_pos hn,k];rfl
theorem zek{own:List Str}{fr:List Nat}{fi:IF'}{g:GT}{t:TF}{e:EF}{env:DEnv}{ds:List PyData}{bs:List Nat}{rs:List PyData}(h:fi env=some (ds,bs))(hl:ds.length<100000)(k:zdx g t e (envB own fr env) ds=some rs) :
  zdy own fr fi g t e env=some ⟨.list rs,true,if zfp rs=true then[]else bs++capA fr env⟩:=by
 unfold zdy;rw[h,qI,if_pos hl,k];rfl
theorem zhl{n:Nat}{f:SF}{ds:List PyData}{env:DEnv}{d:PyData}{fr:Bool}(h:ziy n ds=env)(e:f env=some (.rt d fr)):fnD n f ds=some (d,fr):=by
 unfold fnD;rw[h,e]
theorem zays{n:Nat}{f:SF}{ds:List PyData}{env env':DEnv}(h:ziy n ds=env)(e:f env=some (.nx env')):fnD n f ds=some (.none,false):=by
 unfold fnD;rw[h,e]
theorem ztn(n:Int):neD (.int n) (.int n)=some (.bool false,false):=by
 have e:qz (.int n) (.int n)=true:=by unfold qz;exact beq_self_eq_true n
 show some (PyData.bool (!PyData.eqv (.int n) (.int n)),false)=_
 rw[e];rfl
noncomputable def zaj(xs:List Str):PyData:=.list (xs.map .str)
noncomputable def rowD(p:Str×List Str):PyData:=.tuple [.str p.1,zaj p.2]
noncomputable def webD(W:Web):PyData:=.list (W.map rowD)
theorem zmn(xs:List Str):zfp (xs.map .str)=true:=by
 unfold zfp
 rw[List.all_map]
 exact qAP.mpr λ_ _=>rfl
theorem zaol(xs:List Str)(x:Str):((xs.map PyData.str).any λe=>qz e (.str x))=decide (x∈xs):=by
 rw[qBj,qAh,qA8,decide_eq_true_iff]
 constructor
 ·rintro⟨y,hy,h⟩
  have:y=x:=by simpa [qz]using h
  rw[<- this];exact hy
 ·exact λh=>⟨x,h,by simp[qz]⟩
theorem zadb(b:Bool)(xs:List Str)(x:Str):inD b (.str x) (zaj xs)=some (.bool (if b then !decide (x∈xs)else decide (x∈xs)),false):=by
 unfold inD zaj
 simp only[zhi]
 rw[if_pos ⟨rfl,zmn xs⟩,zaol]
theorem zps{W:Web}(hl:W.length<100000):zgn [webD W]=some (zaj (nm W),true):=by
 have c:zdx (gT 2 (zas 0 (zas 1 zdn))) zcf (eVar 0) [.no,.no] (W.map rowD)=some (W.map λp=>PyData.str p.1):=zcp λp _=>⟨[.pl (.str p.1),.pl (zaj p.2)],rfl,rfl,⟨.str p.1,false,[]⟩,rfl,rfl⟩
 have e:zjl [.pl (webD W)]=some (.rt (zaj (nm W)) true):=by
  unfold zjl sRet zdy zar
  simp only[eVar,qA0,qI,webD,zhi,qBA,qE]
  rw[if_pos hl]
  show Option.map _ (Option.map _ (zdx _ _ _ [.no,.no] _))=_
  rw[c]
  unfold zaj nm
  simp
 show(match zjl [.pl (webD W)]with|some (.rt d fr)=>some (d,fr)|some (.nx _)=>some (.none,false)|_=>none)=_
 rw[e]
theorem zol{W:Web}(hl:W.length<100000){ns:List Str}(h:∀n∈ns,n∈nm W):zdg [webD W,zaj ns]=some (.none,false):=by
 have l:∃env',forL (gN 3) (sIf (zbv (eOp (inD true) (eVar 3) (eVar 2))) zaet sNil) (ns.map .str) [.pl (webD W),.pl (zaj ns),.ac (zaj (nm W)),.no]=some (.nx env')/\True:=by
  refine zge (λ_ env=>∃s,env=[.pl (webD W),.pl (zaj ns),.ac (zaj (nm W)),s]) ⟨_,rfl⟩ ?_ |>.imp λ_ q=>⟨q.1,trivial⟩
  rintro pre x post env hx ⟨s,rfl⟩
  have hm:=h x (by rw[<- hx];simp)
  refine⟨_,[.pl (webD W),.pl (zaj ns),.ac (zaj (nm W)),.pl (.str x)],rfl,.inl ?_,_,rfl⟩
  simp[sIf,zbv,eOp,eVar,sNil,zadb,hm,bsOf,zjy]
 obtain⟨env',l,_⟩:=l
 have e:zgd [.pl (webD W),.pl (zaj ns),.no,.no]=some (.nx env'):=by
  unfold zgd sSeq sSet zbb sFor zar
  simp only[zab,aNil,eVar,qA0,qBO,qI,qBA,zhq,qf,qCK,qw,qAx,zps hl,if_true]
  simp[putV,frzs,bsOf,zaj,zjy,bss,slOf,zhi]
  exact l
 show(match zgd [.pl (webD W),.pl (zaj ns),.no,.no]with|some (.rt d fr)=>some (d,fr)|some (.nx _)=>some (.none,false)|_=>none)=_
 rw[e]
noncomputable def insS(ks:List Str)(k:Str):List Str:=if k∈ks then ks else ks++[k]
noncomputable def upL(acc:List (Str×List Str))(e:Str):List Str:=(acc.lookup e).getD []
noncomputable def zls(acc:List (Str×List Str))(p:Str×List Str):List (Str×List Str):=acc++[(p.1,p.2.foldl (λks e=>(upL acc e).foldl insS ks) [p.1])]
noncomputable def ups(W:Web):List (Str×List Str):=W.foldl zls []
noncomputable def up(W:Web)(n:Str):List Str:=upL (ups W) n
theorem zkg(W:Web)(p:Str×List Str):ups (W++[p])=zls (ups W) p:=by unfold ups;rw[qBq];rfl
theorem zaom{ks:List Str}{k x:Str}:x∈insS ks k↔x∈ks\/x=k:=by
 unfold insS
 split
 ·rename_i h
  exact⟨.inl,λz=>z.elim id λe=>e▸h⟩
 ·simp
theorem zom{x:Str}:∀{ms ks:List Str},x∈ms.foldl insS ks↔x∈ks\/x∈ms
 | [],ks=>by simp
 | m::ms,ks=>by
  rw[qBP,zom,zaom]
  simp[or_assoc]
theorem zasz{ks:List Str}{k:Str}(h:ks.Nodup):(insS ks k).Nodup:=by
 unfold insS
 split
 ·exact h
 ·rename_i hk;exact nd_snoc h hk
theorem zxw:∀{ms ks:List Str},ks.Nodup->(ms.foldl insS ks).Nodup
 | [],_,h=>h
 | _::ms,_,h=>zxw (ms:=ms) (zasz h)
theorem zxx{acc:List (Str×List Str)}{x:Str}:∀{es ks:List Str},x∈es.foldl (λks e=>(upL acc e).foldl insS ks) ks↔x∈ks\/∃e∈es,x∈upL acc e
 | [],ks=>by simp
 | e::es,ks=>by
  rw[qBP,zxx,zom]
  simp[or_assoc]
theorem zafh{acc:List (Str×List Str)}:∀{es ks:List Str},ks.Nodup->(es.foldl (λks e=>(upL acc e).foldl insS ks) ks).Nodup
 | [],_,h=>h
 | _::es,_,h=>zafh (es:=es) (zxw h)
theorem zey{l:List (Str×List Str)}{n:Str}{p:Str×List Str}:(l++[p]).lookup n=(l.lookup n).or (if n==p.1 then some p.2 else none):=by
 induction l with
 | nil=>
  obtain⟨a,b⟩:=p
  show List.lookup n [(a,b)]=_
  rw[qAM]
  cases n==a<;>rfl
 | cons q l ih=>
  obtain⟨a,b⟩:=q
  rw[qCN,qAM,qAM]
  cases n==a with
  | true=>rfl
  | false=>exact ih
theorem zxy{α:Type}{P:List α->Prop}(h0:P [])(hs:∀l x,P l->P (l++[x])):∀l,P l:=by
 intro l
 have:∀n (l:List α),l.length=n->P l:=by
  intro n
  induction n with
  | zero=>intro l e;rw[qBN.mp e];exact h0
  | succ n ih=>
   intro l e
   have hne:l≠[]:=λz=>by rw[z]at e;cases e
   rw[<- List.dropLast_concat_getLast hne]
   exact hs _ _ (ih _ (by rw[List.length_dropLast,e];rfl))
 exact this _ l rfl
theorem zfk:∀(W:Web),(ups W).map (·.1)=nm W:=by
 refine zxy rfl λW p ih=>?_
 rw[zkg]
 unfold zls nm
 rw[qg,qg,ih]
 rfl
theorem zpt(W:Web)(p:Str×List Str):nm (W++[p])=nm W++[p.1]:=by unfold nm;rw[qg];rfl
theorem zjm{W:Web}{p:Str×List Str}(h:WebOk (W++[p])):WebOk W/\p.1∉nm W/\(∀e∈p.2,e∈nm W)/\p.2.length<=4:=by
 have hp:(W++[p])[W.length]?=some p:=by simp
 refine⟨⟨?_,λi n es e=>?_,λq hq=>h.few q (qAG _ hq),?_⟩,?_,λe he=>?_,h.few p (by simp)⟩
 ·have:=h.nd;rw[zpt]at this;exact(qBp.mp this).1
 ·have hi:i<W.length:=(qa.mp e).1
  have q:=h.el i n es (by rw[qAO hi];exact e)
  rw[qBa (by omega)]at q
  exact q
 ·have:=h.len;simp at this;omega
 ·have:=h.nd
  rw[zpt]at this
  intro hm
  exact(qBp.mp this).2.2 p.1 hm p.1 (by simp) rfl
 ·have q:=h.el W.length p.1 p.2 hp e he
  rw[qBa (qK _),List.take_length]at q
  exact q
theorem zis{l:List (Str×List Str)}{n:Str}(h:n∈l.map (·.1)):∃ks,l.lookup n=some ks/\(n,ks)∈l:=by
 induction l with
 | nil=>simp at h
 | cons q l ih=>
  obtain⟨a,b⟩:=q
  rw[qAM]
  cases e:n==a with
  | true=>rw[eq_of_beq e];exact⟨b,rfl,qo⟩
  | false=>
   have hn:n≠a:=beq_eq_false_iff_ne.mp e
   rcases qc.mp h with z|z
   ·exact absurd z hn
   ·obtain⟨ks,h1,h2⟩:=ih z
    exact⟨ks,h1,qW _ h2⟩
theorem zata{W:Web}{p:Str×List Str}{m:Str}(h:m∈nm W):up (W++[p]) m=up W m:=by
 unfold up upL
 rw[zkg]
 unfold zls
 obtain⟨ks,e,_⟩:=zis (l:=ups W) (n:=m) (by rw[zfk];exact h)
 rw[zey,e]
 rfl
theorem znq{l:List (Str×List Str)}{n:Str}(h:n∉l.map (·.1)):l.lookup n=none:=by
 induction l with
 | nil=>rfl
 | cons q l ih=>
  obtain⟨a,b⟩:=q
  rw[qAM]
  have h1:n≠a:=λz=>h (by simp[z])
  rw[beq_eq_false_iff_ne.mpr h1]
  exact ih λz=>h (qW _ z)
theorem zawt{W:Web}{p:Str×List Str}(h:p.1∉nm W):up (W++[p]) p.1=p.2.foldl (λks e=>(upL (ups W) e).foldl insS ks) [p.1]:=by
 unfold up upL
 rw[zkg]
 unfold zls
 rw[zey,znq (by rw[zfk];exact h)]
 simp[upL]
theorem zafi:∀{W:Web},WebOk W->∀{n x:Str},x∈up W n->x∈nm W:=by
 intro W
 refine zxy (P:=λW=>WebOk W->∀{n x:Str},x∈up W n->x∈nm W) (λ_ n x h=>by simp[up,ups,upL]at h) (λW p ih h n x hx=>?_) W
 obtain⟨hW,hp,hel,_⟩:=zjm h
 rw[zpt]
 by_cases hn:n∈nm W
 ·rw[zata hn]at hx
  exact qAG _ (ih hW hx)
 ·by_cases e:n=p.1
  ·rw[e,zawt hp,zxx]at hx
   rcases hx with hx|⟨e',_,hx⟩
   ·exact qk _ (by simpa using hx)
   ·exact qAG _ (ih hW hx)
  ·unfold up upL at hx
   rw[zkg]at hx
   unfold zls at hx
   rw[zey,znq (by rw[zfk];exact hn),beq_eq_false_iff_ne.mpr e]at hx
   simp at hx
theorem zawu:∀{W:Web}{n:Str},(up W n).Nodup:=by
 intro W
 refine zxy (P:=λW=>∀{n:Str},(up W n).Nodup) (λ{n}=>by simp[up,ups,upL]) (λW p ih n=>?_) W
 unfold up upL
 rw[zkg]
 unfold zls
 rw[zey]
 cases e:(ups W).lookup n with
 | some ks=>
  have q:=ih (n:=n)
  unfold up upL at q
  rw[e]at q
  exact q
 | none=>
  show((if n==p.1 then some _ else none).getD []).Nodup
  split
  ·exact zafh (by simp)
  ·exact List.nodup_nil
theorem zakm{W:Web}(h:WebOk W)(n:Str):(up W n).length<=12:=by
 have:=zjg _ (nm W) (zawu (W:=W) (n:=n)) λx hx=>zafi h hx
 have:=zsg h
 omega
noncomputable def dS(f:List Str->PyData)(l:List (Str×List Str)):List (PyData×PyData):=l.map λp=>(.str p.1,f p.2)
theorem zpu(f:List Str->PyData)(n:Str):∀l:List (Str×List Str),zmu (dS f l) (Sum.inr n)=(l.lookup n).map f
 | []=>rfl
 | (a,b)::l=>by
  have ih:=zpu f n l
  show(if keyD (.str a)=some (Sum.inr n)then some (f b)else zmu (dS f l) (Sum.inr n))=_
  rw[qAM]
  by_cases e:a=n
  ·subst e;rw[if_pos (show keyD (.str a)=some (Sum.inr a)from rfl),beq_self_eq_true];rfl
  ·rw[if_neg (show ¬keyD (.str a)=some (Sum.inr n)from λz=>e (qBn (qZ z))),beq_eq_false_iff_ne.mpr (qAl e)]
   exact ih
theorem zakn(f:List Str->PyData){l:List (Str×List Str)}{n:Str}{ks:List Str}(h:n∉l.map (·.1)):zpk (dS f l) (.str n) (f ks)=dS f (l++[(n,ks)]):=by
 unfold zpk dS
 rw[if_neg,qg]
 ·rfl
 ·intro z
  rw[qBj,qA8]at z
  obtain⟨p,hp,e⟩:=z
  have e:=of_decide_eq_true e
  exact h (qAB.mpr ⟨p,hp,qBn (qZ e)⟩)
noncomputable def ziw(ks:List Str):List (PyData×PyData):=ks.map λk=>(.str k,.bool true)
noncomputable def zbm(ks:List Str):PyData:=.dict (ziw ks)
theorem zaah(x:Str):∀ks:List Str,zack (ziw ks) (Sum.inr x)=decide (x∈ks)
 | []=>by simp[ziw,zack,zmu]
 | k::ks=>by
  have ih:=zaah x ks
  unfold zack at ih ⊢
  show(if keyD (.str k)=some (Sum.inr x)then some (PyData.bool true)else zmu (ziw ks) (Sum.inr x)).isSome=_
  by_cases e:k=x
  ·subst e;rw[if_pos (show keyD (.str k)=some (Sum.inr k)from rfl)];simp
  ·rw[if_neg (show ¬keyD (.str k)=some (Sum.inr x)from λz=>e (qBn (qZ z))),ih]
   have:¬x=k:=λz=>e z.symm
   simp[this]
theorem zako(ks:List Str)(k:Str):zpk (ziw ks) (.str k) (.bool true)=ziw (insS ks k):=by
 have ha:((ziw ks).any λkv=>decide (keyD kv.1=keyD (.str k)))=decide (k∈ks):=by
  unfold ziw
  rw[qBj,qAh,qA8,decide_eq_true_iff]
  constructor
  ·rintro⟨y,hy,h⟩
   have h:=of_decide_eq_true h
   have:y=k:=qBn (qZ h)
   rw[<- this];exact hy
  ·exact λh=>⟨k,h,decide_eq_true rfl⟩
 unfold zpk insS
 rw[ha]
 by_cases hk:k∈ks
 ·rw[if_pos (decide_eq_true hk),if_pos hk]
  unfold ziw
  rw[qAn]
  refine qBf λy _=>?_
  show(if keyD (PyData.str y)=keyD (.str k)then(PyData.str y,PyData.bool true)else(PyData.str y,PyData.bool true))=_
  split<;>rfl
 ·rw[if_neg (by simpa using hk),if_neg hk]
  unfold ziw
  rw[qg];rfl
theorem znr:∀(ms ks:List Str),zpl (ziw ks) (ziw ms)=ziw (ms.foldl insS ks)
 | [],_=>rfl
 | m::ms,ks=>by
  show zpl (zpk (ziw ks) (.str m) (.bool true)) (ziw ms)=_
  rw[zako,znr ms];rfl
theorem zafj{α:Type}{pre post:List α}{x:α}{l:List α}(h:pre++x::post=l):l=(pre++[x])++post:=by rw[<- h];simp
theorem zaai:∀{post W:Web},WebOk (W++post)->WebOk W:=by
 intro post
 refine zxy (P:=λpost=>∀{W:Web},WebOk (W++post)->WebOk W) (λ{W} h=>by rwa [qAC]at h) (λpost p ih W h=>?_) post
 rw[<- qBF]at h
 exact ih (zjm h).1
theorem zvq{W:Web}(h:WebOk W):zfr [webD W]=some (.dict (dS zbm (ups W)),true):=by
 have inner:∀(V:Web)(p:Str×List Str)(es pre:List Str)(s5:Sl),WebOk (V++[p])->pre++es=p.2->
   ∃s5',forL (gN 5) (sUpd 4 (zdd 1 (eVar 5))) (es.map .str) [.pl (webD W),.ac (.dict (dS zbm (ups V))),.pl (.str p.1),.pl (zaj p.2),.ac (zbm (pre.foldl (λks e=>(upL (ups V) e).foldl insS ks) [p.1])),s5] =
    some (.nx [.pl (webD W),.ac (.dict (dS zbm (ups V))),.pl (.str p.1),.pl (zaj p.2),.ac (zbm (p.2.foldl (λks e=>(upL (ups V) e).foldl insS ks) [p.1])),s5']):=by
  intro V p es
  induction es with
  | nil=>intro pre s5 _ e;rw[qAC]at e;subst e;exact⟨s5,rfl⟩
  | cons e es ih=>
   intro pre s5 hV hp
   obtain⟨hV',hn,hel,hfew⟩:=zjm hV
   have he:e∈nm V:=hel e (by rw[<- hp];simp)
   obtain⟨ks,lk,_⟩:=zis (l:=ups V) (n:=e) (by rw[zfk];exact he)
   have eup:upL (ups V) e=ks:=by unfold upL;rw[lk];rfl
   have l1:ks.length<=12:=by rw[<- eup];exact zakm hV' e
   have sub:∀x∈pre.foldl (λks e=>(upL (ups V) e).foldl insS ks) [p.1],x∈nm (V++[p]):=λx hx=>by
    rw[zpt]
    rcases zxx.mp hx with z|⟨e',_,z⟩
    ·exact qk _ (by simpa using z)
    ·exact qAG _ (zafi hV' z)
   have l2:(pre.foldl (λks e=>(upL (ups V) e).foldl insS ks) [p.1]).length<=12:=by
    have:=zjg _ _ (zafh (acc:=ups V) (es:=pre) (ks:=[p.1]) (by simp)) sub
    have:=zsg hV
    omega
   obtain⟨s5',q⟩:=ih (pre++[e]) (.pl (.str e)) hV (by rw[<- hp];simp)
   refine⟨s5',?_⟩
   rw[qf]
   unfold forL
   simp only[gN,qI,List.set_cons_succ,List.set_cons_zero]
   have b:sUpd 4 (zdd 1 (eVar 5)) [.pl (webD W),.ac (.dict (dS zbm (ups V))),.pl (.str p.1),.pl (zaj p.2),.ac (zbm (pre.foldl (λks e=>(upL (ups V) e).foldl insS ks) [p.1])),.pl (.str e)] =
     some (.nx [.pl (webD W),.ac (.dict (dS zbm (ups V))),.pl (.str p.1),.pl (zaj p.2),.ac (zbm ((pre++[e]).foldl (λks e=>(upL (ups V) e).foldl insS ks) [p.1])),.pl (.str e)]):=by
    have lz:(ziw (pre.foldl (λks e=>(upL (ups V) e).foldl insS ks) [p.1])).length+(ziw ks).length<=100000:=by unfold ziw;rw[qE,qE];omega
    simp only[sUpd,zbm,zdd,eVar,qBO,qA0,qI,keyD,zpu,lk,qBA]
    rw[if_pos ⟨lz,by simp⟩,znr]
    simp[frzs,qBq,eup]
   rw[b,qI]
   exact q
 have outer:∃env',forL (gT 2 (zas 2 (zas 3 zdn))) (sSeq (sSet 4 (eD1 (eVar 2) (eC (.bool true)))) (sSeq (sFor (zar (eVar 3)) (gN 5) (sUpd 4 (zdd 1 (eVar 5)))) (sPut 1 (eVar 2) (eVar 4)))) (W.map rowD) [.pl (webD W),.ac (.dict []),.no,.no,.no,.no]=some (.nx env')/\
   ∃s2 s3 s4 s5,env'=[.pl (webD W),.ac (.dict (dS zbm (ups W))),s2,s3,s4,s5]:=by
  refine zge (λpre env=>∃s2 s3 s4 s5,env=[.pl (webD W),.ac (.dict (dS zbm (ups pre))),s2,s3,s4,s5]) ⟨_,_,_,_,rfl⟩ ?_
  rintro pre p post env hp ⟨s2,s3,s4,s5,rfl⟩
  have hV:WebOk (pre++[p]):=zaai (post:=post) (by rw[<- zafj hp];exact h)
  obtain⟨hV',hn,hel,hfew⟩:=zjm hV
  obtain⟨s5',q⟩:=inner pre p p.2 [] s5 hV rfl
  refine⟨[.pl (webD W),.ac (.dict (dS zbm (ups pre))),.pl (.str p.1),.pl (zaj p.2),s4,s5],[.pl (webD W),.ac (.dict (dS zbm (ups (pre++[p])))),.pl (.str p.1),.pl (zaj p.2),.pl (zbm (p.2.foldl (λks e=>(upL (ups pre) e).foldl insS ks) [p.1])),s5'],rfl,.inl ?_,_,_,_,_,rfl⟩
  have lz:(dS zbm (ups pre)).length<100000:=by
   unfold dS
   rw[qE,<- qE (f:=(·.1)),zfk]
   have:=zsg hV'
   omega
  have st:sSet 4 (eD1 (eVar 2) (eC (.bool true))) [.pl (webD W),.ac (.dict (dS zbm (ups pre))),.pl (.str p.1),.pl (zaj p.2),s4,s5]=some (.nx [.pl (webD W),.ac (.dict (dS zbm (ups pre))),.pl (.str p.1),.pl (zaj p.2),.ac (zbm [p.1]),s5]):=by
   simp[sSet,eD1,eVar,eC,keyD,putV,frzs,slOf,zbm,ziw]
  have pt:sPut 1 (eVar 2) (eVar 4) [.pl (webD W),.ac (.dict (dS zbm (ups pre))),.pl (.str p.1),.pl (zaj p.2),.ac (zbm (p.2.foldl (λks e=>(upL (ups pre) e).foldl insS ks) [p.1])),s5'] =
    some (.nx [.pl (webD W),.ac (.dict (dS zbm (ups (pre++[p])))),.pl (.str p.1),.pl (zaj p.2),.pl (zbm (p.2.foldl (λks e=>(upL (ups pre) e).foldl insS ks) [p.1])),s5']):=by
   simp only[sPut,eVar,qBO,qA0,qI,keyD]
   rw[if_pos ⟨lz,by simp⟩,zakn zbm (by rw[zfk];exact hn),zkg]
   simp[frzs,frz1,zls]
  exact zbj st (zbj (zhz rfl q) pt)
 obtain⟨env',hl,s2,s3,s4,s5,rfl⟩:=outer
 exact zhl (env:=[.pl (webD W),.no,.no,.no,.no,.no]) rfl (zbj rfl (zbj (zhz rfl hl) rfl))
noncomputable def ltr(i:Int):Str:=⟨#[97+i.toNat]⟩
noncomputable def Low(x:Str):Prop:=∀c∈x.cps.toList,c<128
theorem zon{x:Str}(h:Low x):qAd x=true:=by
 unfold qAd
 rw[<- Array.all_toList,qAP]
 intro c hc
 have:=h c hc
 exact decide_eq_true (by omega)
theorem zafk(a b:Str):(a++b).cps.toList=a.cps.toList++b.cps.toList:=by
 show(a.cps++b.cps).toList=_
 simp
theorem Low.app{a b:Str}(h1:Low a)(h2:Low b):Low (a++b):=λc hc=>by
 rw[zafk]at hc
 exact(qy.mp hc).elim (h1 c) (h2 c)
theorem Low.slice{x:Str}(h:Low x)(l u:Option Int):Low (Txt.slice x l u):=λc hc=>by
 unfold Txt.slice at hc
 split at hc
 ·exact h c hc
 ·have hc:c∈(List.filterMap (x.cps[·]?) (Builtin.Str.strSliceIndices l u 1 x.length)):=by simpa using hc
  obtain⟨i,_,e⟩:=qCH.mp hc
  exact h c (by
   have:=Array.mem_of_getElem? e
   simpa using this)
theorem Low.ltr{i:Int}(h0:0<=i)(h1:i<26):Low (ltr i):=λc hc=>by
 have:c=97+i.toNat:=by simpa [Bc.ltr]using hc
 omega
theorem zto{α:Type}{f:Nat->α}{n:Nat}(h:∀a b,a<n->b<n->f a=f b->a=b):((List.range n).map f).Nodup:=by
 rw[List.nodup_iff_pairwise_ne,List.pairwise_map]
 refine List.Pairwise.imp_of_mem ?_ (List.pairwise_lt_range (n:=n))
 intro a b ha hb hab e
 have:=h a b (qAm.mp ha) (qAm.mp hb) e
 omega
noncomputable abbrev vi(i:Int):Val:=⟨.int i,false,[]⟩
noncomputable abbrev vs(x:Str):Val:=⟨.str x,false,[]⟩
noncomputable abbrev vb(b:Bool):Val:=⟨.bool b,false,[]⟩
section
variable{a b:EF}{env:DEnv}{i j:Int}
theorem zayt(ha:a env=some (vi i))(hb:b env=some (vi j)):eOp eqD a b env=some (vb (i==j)):=by
 unfold eOp;rw[ha,hb];rfl
theorem zayu{x:Str}{l h:PF'}{lo hi:Option Int}(ha:a env=some (vs x))(hl:l env=some lo)(hh:h env=some hi)(hz:x.length<=100000):eSl a l h env=some (vs (Txt.slice x lo hi)):=by
 unfold eSl;rw[ha,hl,hh]
 simp only[qI,slD]
 rw[if_pos hz];simp[bsOf,zjy]
theorem zgj{c:Bool}(ha:a env=some (vb c)):zbv a env=some c:=by unfold zbv;rw[ha];rfl
theorem zit{r:Val}(ha:a env=some r):zab a aNil env=some [r]:=by unfold zab aNil;rw[ha];rfl
theorem zafl{ds:List PyData}{fr:Bool}{bs:List Nat}(ha:a env=some ⟨.list ds,fr,bs⟩):eCB lenD (zab a aNil) env=some (vi ds.length):=by
 unfold eCB
 rw[zit ha]
 simp[zhq,lenD,bsOf,zjy]
theorem zawv{α β:Type}(f:α->β){l:List α}{n:Nat}{x:α}(h:l[n]?=some x):atI (l.map f) (n:Int)=some (f x):=zsb (by rw[qr,h];rfl)
theorem zayv{k n:Nat}{b:EF}{ds:List PyData}{d:PyData}(he:env[k]?=some (.ac (.list ds)))(hb:b env=some (vi (n:Int)))(hd:ds[n]?=some d):eIxV k b env=some ⟨d,false,[]⟩:=by
 unfold eIxV
 rw[he]
 simp only
 rw[hb]
 simp only[qI]
 rw[zsb hd];rfl
end
noncomputable def abc:Str:="abcdefghijklmnopqrstuvwxyz"
theorem zakp:(List.range 26).all (λi=>abc.cps.toList[i]?==some (97+i))=true:=by decide +kernel
theorem zadc:abc.length=26:=by decide +kernel
theorem zaqa{i:Int}(h0:0<=i)(h1:i<26):atI abc.cps.toList i=some (97+i.toNat):=by
 have q:=qAP.mp zakp i.toNat (qAm.mpr (by omega))
 have e:((i.toNat:Nat):Int)=i:=by omega
 rw[<- e]
 have z:=zsb (eq_of_beq q)
 rw[e]at z ⊢
 exact z
theorem zaww{i:Nat}{f:EF}{env:DEnv}{ds:List PyData}{d:PyData}{fr:Bool}(he:env[i]?=some (.ac (.list ds)))(hf:f env=some ⟨d,fr,[]⟩)(hl:ds.length<100000):sApp i f env=some (.nx (env.set i (.ac (.list (ds++[d]))))):=by
 unfold sApp
 rw[he]
 simp only
 rw[hf]
 simp only[qI]
 rw[if_pos ⟨hl,by simp⟩];rfl
theorem zoo(n:Nat):zql 0 n=(List.range n).map (λ(k:Nat)=>PyData.int (k:Int)):=by
 unfold zql
 refine qBf λk _=>?_
 show PyData.int (0+(k:Int))=_
 rw[Int.zero_add]
theorem zakq(a b:Str):(a++b).length=a.length+b.length:=by
 have:=congrArg List.length (zafk a b)
 rw[qH]at this
 simpa [Str.length]using this
section
variable{a b:EF}{env:DEnv}{x y:Str}
theorem e_in{neg:Bool}{xs:List Str}{fr:Bool}{bs:List Nat}(ha:a env=some (vs x))(hb:b env=some ⟨zaj xs,fr,bs⟩):eOp (inD neg) a b env=some (vb (if neg then !decide (x∈xs)else decide (x∈xs))):=by
 unfold eOp;rw[ha,hb];simp[zadb,bsOf,zjy]
theorem zawx{k:Nat}{kvs:List (PyData×PyData)}{d:PyData}(he:env[k]?=some (.pl (.dict kvs))\/env[k]?=some (.ac (.dict kvs)))(hb:b env=some (vs y))(hd:zmu kvs (Sum.inr y)=some d):zdd k b env=some ⟨d,false,[]⟩:=by
 unfold zdd
 rcases he with he|he<;>rw[he]<;>simp only<;>rw[hb]<;>simp[keyD,hd]
theorem zaqb{neg:Bool}{ks:List Str}{fr:Bool}{bs:List Nat}(ha:a env=some (vs x))(hb:b env=some ⟨zbm ks,fr,bs⟩):eDIn neg a b env=some (vb (if neg then !decide (x∈ks)else decide (x∈ks))):=by
 unfold eDIn;rw[ha,hb];simp[zbm,keyD,zaah]
end
theorem zvr{W:Web}{n:Str}(h:n∈nm W):(ups W).lookup n=some (up W n):=by
 obtain⟨ks,e,_⟩:=zis (l:=ups W) (n:=n) (by rw[zfk];exact h)
 unfold up upL
 rw[e];rfl
theorem zeu{a:EF}{f:AF}{env:DEnv}{r:Val}{rs:List Val}(ha:a env=some r)(hf:f env=some rs):zab a f env=some (r::rs):=by unfold zab;rw[ha,hf];rfl
theorem zafm{f:EF}{env:DEnv}{c:Bool}(h:f env=some (vb c)):zlj (tTru f) env=some (!c):=by unfold zlj tTru;rw[h];rfl
theorem zop:∀(xs:List Str),(∀x∈xs,qAd x=true)->qAL (xs.map .str)=true/\qp (xs.map .str)=0
 | [],_=>⟨rfl,rfl⟩
 | x::xs,h=>by
  obtain⟨h1,h2⟩:=zop xs λy hy=>h y (qW _ hy)
  rw[qf]
  refine⟨?_,?_⟩
  ·show(qAd x&&qAL (xs.map .str))=true
   rw[h x qo,h1];rfl
  ·show max 0 (qp (xs.map .str))=0
   rw[h2];rfl
noncomputable def zvs:SF:=(sSeq (sIf (tTru (eIsi "tuple" (eVar 0))) (sRet (eCB zxg (zab (eVar 0) aNil))) sNil)
  (sRet (eLst (zab (eVar 0) aNil))))
noncomputable def zgo:GF:=fnD 1 zvs
noncomputable def zaaj:SF:=(sSeq (sSet 2 zamv)
  (sSeq (sFor (zar (zbb 1 zgo (zab (eVar 1) aNil))) (gN 3)
  (sUpd 2 (zdd 0 (eVar 3))))
  (zlb 2)))
noncomputable def zlt:GF:=fnD 4 zaaj
theorem zoq{α:Type}(f:α->Bool):∀(l:List α),zqk (l.map λx=>.bool (f x))=some (l.map f)
 | []=>rfl
 | x::l=>by
  show(zqk (l.map λx=>.bool (f x))).map _=_
  rw[zoq f l];rfl
theorem zatb{α:Type}{f:α->Bool}{l:List α}{a:EF}{env:DEnv}{fr:Bool}{bs:List Nat}(ha:a env=some ⟨.list (l.map λx=>.bool (f x)),fr,bs⟩):eCB (anyD λbs=>bs.all id) (zab a aNil) env=some (vb (l.all f)):=by
 unfold eCB
 rw[zit ha,qI]
 show((zqk (l.map λx=>.bool (f x))).map _).bind _=_
 rw[zoq]
 simp only[qBA,qI,List.all_map]
 rfl
theorem zns{α:Type}{enc:α->PyData}{out:α->List PyData}{g:GT}{t:TF}{f2:IF'}{g2:GT}{t2:TF}{e:EF}{env:DEnv}:∀{l:List α},(∀x∈l,∃e1,g (enc x) env=some e1/\t e1=some true/\innL f2 g2 t2 e e1=some (out x))->
  zkm g t f2 g2 t2 e env (l.map enc)=some (l.flatMap out)
 | [],_=>rfl
 | x::l,h=>by
  obtain⟨e1,h1,h2,h3⟩:=h x qo
  have ih:=zns (l:=l) λy hy=>h y (qW _ hy)
  rw[qf]
  unfold zkm
  rw[h1,qI,h2,qI,if_pos rfl,h3,qI,ih,qBr]
  rfl
theorem zafn{own:List Str}{fr:List Nat}{fi:IF'}{g:GT}{t:TF}{f2:IF'}{g2:GT}{t2:TF}{e:EF}{env:DEnv}{ds:List PyData}{bs:List Nat}{rs:List PyData}(h:fi env=some (ds,bs))(hl:ds.length<300)(k:zkm g t f2 g2 t2 e (envB own fr env) ds=some rs) :
  zst own fr fi g t f2 g2 t2 e env=some ⟨.list rs,true,if zfp rs=true then[]else bs++capA fr env⟩:=by
 unfold zst;rw[h,qI,if_pos hl,k];rfl
noncomputable def zlu:SF:=(sRet (zst ["arm","name"] [] (zar (eVar 0)) (gN 0) zcf (zar (zbb 1 zgo (zab (eVar 0) aNil))) (gN 1) zcf (eVar 1)))
noncomputable def zgf:GF:=fnD 1 zlu
noncomputable def zqn:SF:=(sSeq (sIf (zbv (eOp neD (eCB lenD (zab (eVar 2) aNil)) (eVar 1))) zaet sNil)
  (zzn (zbb 2 zdg (zab (eVar 0) (zab (zbb 1 zgf (zab (eVar 2) aNil)) aNil)))))
noncomputable def ziz:GF:=fnD 3 zqn
noncomputable def zlv:SF:=(sRet (zdy ["arm"] [0] (zar (eVar 1)) (gN 0) zcf (zbb 2 zlt (zab (eVar 1) (zab (eVar 0) aNil)))))
noncomputable def zev:GF:=fnD 2 zlv
noncomputable def zqo:SF:=(sRet (eCB (anyD λbs=>bs.all id) (zab (zdy ["kind","roof"] [] (zpn (zab (eVar 0) (zab (eVar 1) aNil))) (gT 2 (zas 0 (zas 1 zdn))) zcf (eDIn false (eVar 0) (eVar 1))) aNil)))
noncomputable def zhm:GF:=fnD 2 zqo
noncomputable def ztp:SF:=(sRet (eAnd (eOp neD (eVar 1) (eVar 2)) (eCB (anyD λbs=>bs.all id) (zab (zdy ["low","high"] [0] (zpn (zab (eVar 1) (zab (eVar 2) aNil))) (gT 2 (zas 0 (zas 1 zdn))) zcf (eDIn false (eVar 1) (zdd 2 (eVar 0)))) aNil))))
noncomputable def zgp:GF:=fnD 3 ztp
noncomputable def zko:SF:=(sSeq (sAsg (eVar 0) (gT 3 (zas 2 (zas 3 (zas 4 zdn)))))
  (sSeq (zzn (zbb 3 ziz (zab (eVar 2) (zab (eVar 3) (zab (eVar 1) aNil)))))
  (sSeq (sSet 5 (zbb 2 zev (zab (zbb 1 zfr (zab (eVar 2) aNil)) (zab (eVar 1) aNil))))
  (sRet (zdy ["rule"] [5] (zar (eVar 4)) (gN 0) (tTru (zbb 2 zhm (zab (eIxV 0 (eC (.int 1))) (zab (eVar 1) aNil)))) (eVar 0))))))
noncomputable def zeg:GF:=fnD 6 zko
noncomputable def zqp:SF:=(sRet (zdy ["rule"] [0,1] (zar (eVar 1)) (gN 0) (zlj (tTru (eCB (anyD λbs=>bs.any id) (zab (zdy ["name","kinds"] [0,1] (zar (eVar 2)) (gT 2 (zas 0 (zas 1 zdn))) zcf (zbb 3 zgp (zab (eVar 3) (zab (eVar 1) (zab (eIxV 2 (eC (.int 1))) aNil))))) aNil)))) (eVar 0)))
noncomputable def zhn:GF:=fnD 2 zqp
noncomputable def zqq:SF:=(sRet (zdy ["name","kinds"] [] (zar (eVar 0)) (gT 2 (zas 0 (zas 1 zdn))) zcf (eVar 0)))
noncomputable def zja:GF:=fnD 1 zqq
noncomputable def ztq:SF:=(sSeq (sIf (zlj (tTru (eVar 0))) (sRet (eTup (zab (eC (.str "none")) aNil))) sNil)
  (sSeq (sIf (zbv (eOp eqD (eCB lenD (zab (eVar 0) aNil)) (eC (.int 1)))) (sRet (eTup (zab (eC (.str "rule")) (zab (eIxV 0 (eC (.int 0))) aNil)))) sNil)
  (sRet (eTup (zab (eC (.str "quarrel")) (zab (eCB zmz (zab (eVar 0) aNil)) aNil))))))
noncomputable def zkh:GF:=fnD 1 ztq
noncomputable def zaak:SF:=(sSeq (sSet 2 (zbb 2 zeg (zab (eVar 0) (zab (eVar 1) aNil))))
  (sRet (zbb 1 zja (zab (zbb 2 zhn (zab (zbb 1 zfr (zab (eIxV 0 (eC (.int 0))) aNil)) (zab (eVar 2) aNil))) aNil))))
noncomputable def zor:GF:=fnD 3 zaak
noncomputable def ztr:SF:=(sRet (zbb 1 zkh (zab (zbb 2 zor (zab (eVar 0) (zab (eVar 1) aNil))) aNil)))
noncomputable def zcd:GF:=fnD 2 ztr
inductive Arm where
 | one (n:Str)
 | many (ns:List Str)
noncomputable def Arm.parts:Arm->List Str
 | .one n=>[n]
 | .many ns=>ns
noncomputable def armD:Arm->PyData
 | .one n=>.str n
 | .many ns=>.tuple (ns.map .str)
noncomputable def zgq(c:List Arm):PyData:=.tuple (c.map armD)
noncomputable def zai(ks:List Str):PyData:=.tuple (ks.map .str)
noncomputable def zdi(r:Str×List Str):PyData:=.tuple [.str r.1,zai r.2]
noncomputable def zbk(rs:List (Str×List Str)):PyData:=.list (rs.map zdi)
noncomputable def zbh(W:Web)(p:Nat)(rs:List (Str×List Str)):PyData:=.tuple [webD W,.int p,zbk rs]
theorem zna(a:Arm):zgo [armD a]=some (zaj a.parts,true):=by
 cases a with
 | one n=>rfl
 | many ns=>rfl
theorem zts{c:List Arm}(hc:c.length<300)(ha:∀a∈c,a.parts.length<300):zgf [zgq c]=some (zaj (c.flatMap Arm.parts),true):=by
 have k:zkm (gN 0) zcf (zar (zbb 1 zgo (zab (eVar 0) aNil))) (gN 1) zcf (eVar 1) [.no,.no] (c.map armD)=some (c.flatMap λa=>a.parts.map .str):=by
  refine zns λa hm=>⟨[.pl (armD a),.no],rfl,rfl,?_⟩
  have e:zar (zbb 1 zgo (zab (eVar 0) aNil)) [.pl (armD a),.no]=some (a.parts.map .str,[]):=by
   unfold zar
   rw[zbg (n:=1) (rs:=[⟨armD a,false,[]⟩]) rfl rfl (zna a)]
   rfl
  unfold innL
  rw[e]
  show(if(a.parts.map PyData.str).length<300 then zdx (gN 1) zcf (eVar 1) [.pl (armD a),.no] (a.parts.map .str)else none)=_
  rw[if_pos (by rw[qE];exact ha a hm)]
  exact zcp λx _=>⟨[.pl (armD a),.pl (.str x)],rfl,rfl,vs x,rfl,rfl⟩
 have fl:(c.flatMap λa=>a.parts.map PyData.str)=(c.flatMap Arm.parts).map .str:=by
  rw[List.map_flatMap]
 rw[fl]at k
 exact zhl (env:=[.pl (zgq c)]) rfl (zgi (zafn (own:=["arm","name"]) (fr:=[]) (fi:=zar (eVar 0)) (ds:=c.map armD) (bs:=[]) rfl (by rw[qE];exact hc) k))
theorem zaal{W:Web}(h:WebOk W){c:List Arm}(hc:c.length<300)(ha:∀a∈c,a.parts.length<300)(hk:∀a∈c,∀n∈a.parts,n∈nm W):ziz [webD W,.int c.length,zgq c]=some (.none,false):=by
 have hW:W.length<=12:=h.len
 have e2:eCB lenD (zab (eVar 2) aNil) [.pl (webD W),.pl (.int c.length),.pl (zgq c)]=some (vi (c.map armD).length):=rfl
 have t:zbv (eOp neD (eCB lenD (zab (eVar 2) aNil)) (eVar 1)) [.pl (webD W),.pl (.int c.length),.pl (zgq c)]=some false:=by
  refine zgj ?_
  unfold eOp
  rw[e2]
  show((neD (.int ((c.map armD).length:Nat)) (.int (c.length:Nat))).bind λz=>some (⟨z.1,z.2,bsOf z.1 ([]++[])⟩:Val))=_
  rw[qE]
  rw[ztn];rfl
 have cn:zdg [webD W,zaj (c.flatMap Arm.parts)]=some (.none,false):=zol (by omega) λn hn=>by
  obtain⟨a,ha',hn'⟩:=qBw.mp hn
  exact hk a ha' n hn'
 exact zays (env:=[.pl (webD W),.pl (.int c.length),.pl (zgq c)]) rfl (zbj (if_f t rfl) (zada (zbg (n:=2) (rs:=[⟨webD W,false,[]⟩,⟨zaj (c.flatMap Arm.parts),true,[]⟩]) (zeu rfl (zit (zbg (n:=1) (rs:=[⟨zgq c,false,[]⟩]) rfl rfl (zts hc ha)))) rfl cn)))
noncomputable def upA(W:Web)(a:Arm):List Str:=a.parts.foldl (λks n=>(up W n).foldl insS ks) []
theorem zakr{W:Web}{a:Arm}{x:Str}:x∈upA W a↔∃n∈a.parts,x∈up W n:=by
 unfold upA
 have:∀(l ks:List Str),x∈l.foldl (λks n=>(up W n).foldl insS ks) ks↔x∈ks\/∃n∈l,x∈up W n:=by
  intro l
  induction l with
  | nil=>intro ks;simp
  | cons n l ih=>intro ks;rw[qBP,ih,zom];simp[or_assoc]
 rw[this];simp
theorem zagw{W:Web}(h:WebOk W){a:Arm}(hk:∀n∈a.parts,n∈nm W):zlt [.dict (dS zbm (ups W)),armD a]=some (zbm (upA W a),true):=by
 have nd:∀(l ks:List Str),ks.Nodup->(∀x∈ks,x∈nm W)->(l.foldl (λks n=>(up W n).foldl insS ks) ks).Nodup/\∀x∈l.foldl (λks n=>(up W n).foldl insS ks) ks,x∈nm W:=by
  intro l
  induction l with
  | nil=>intro ks h1 h2;exact⟨h1,h2⟩
  | cons n l ih=>
   intro ks h1 h2
   refine ih _ (zxw h1) λx hx=>?_
   rcases zom.mp hx with z|z
   ·exact h2 x z
   ·exact zafi h z
 obtain⟨env',lp,s3,rfl⟩:=zge (enc:=PyData.str) (g:=gN 3) (body:=sUpd 2 (zdd 0 (eVar 3))) (l:=a.parts) (env:=[.pl (.dict (dS zbm (ups W))),.pl (armD a),.ac (zbm []),.no])
  (λpre env=>∃s3,env=[.pl (.dict (dS zbm (ups W))),.pl (armD a),.ac (zbm (pre.foldl (λks n=>(up W n).foldl insS ks) [])),s3]) ⟨_,rfl⟩ (by
   rintro pre n post env hp ⟨s3,rfl⟩
   have hn:n∈nm W:=hk n (by rw[<- hp];simp)
   refine⟨[.pl (.dict (dS zbm (ups W))),.pl (armD a),.ac (zbm (pre.foldl (λks n=>(up W n).foldl insS ks) [])),.pl (.str n)],[.pl (.dict (dS zbm (ups W))),.pl (armD a),.ac (zbm ((pre++[n]).foldl (λks n=>(up W n).foldl insS ks) [])),.pl (.str n)],rfl,.inl ?_,_,rfl⟩
   ·have l1:=zakm h n
    obtain⟨n1,n2⟩:=nd pre [] List.nodup_nil (by simp)
    have l2:=zjg _ _ n1 n2
    have l3:=zsg h
    have lz:(ziw (pre.foldl (λks n=>(up W n).foldl insS ks) [])).length+(ziw (up W n)).length<=100000:=by unfold ziw;rw[qE,qE];omega
    simp only[sUpd,zbm,zdd,eVar,qBO,qA0,qI,keyD,zpu,zvr hn,qBA]
    rw[if_pos ⟨lz,by simp⟩,znr,qBq]
    simp[frzs])
 exact zhl (env:=[.pl (.dict (dS zbm (ups W))),.pl (armD a),.no,.no]) rfl (zbj rfl (zbj (zhz (zbg (n:=1) (rs:=[⟨armD a,false,[]⟩]) rfl rfl (zna a)) lp) rfl))
theorem ztt{W:Web}(h:WebOk W){c:List Arm}(hc:c.length<300)(hk:∀a∈c,∀n∈a.parts,n∈nm W):zev [.dict (dS zbm (ups W)),zgq c]=some (.list (c.map λa=>zbm (upA W a)),true):=by
 have k:zdx (gN 0) zcf (zbb 2 zlt (zab (eVar 1) (zab (eVar 0) aNil))) [.no,.pl (.dict (dS zbm (ups W)))] (c.map armD)=some (c.map λa=>zbm (upA W a)):=
  zcp λa hm=>⟨[.pl (armD a),.pl (.dict (dS zbm (ups W)))],rfl,rfl,_,zbg (n:=2) (rs:=[⟨.dict (dS zbm (ups W)),false,[]⟩,⟨armD a,false,[]⟩]) rfl rfl (zagw h (hk a hm)),rfl⟩
 exact zhl (env:=[.pl (.dict (dS zbm (ups W))),.pl (zgq c)]) rfl (zgi (zek (own:=["arm"]) (fr:=[0]) (fi:=zar (eVar 1)) (ds:=c.map armD) (bs:=[]) rfl (by rw[qE];omega) k))
theorem zxz{α β:Type}(f:α->PyData)(g:β->PyData)(l:List α)(r:List β):List.zipWith (λd e=>PyData.tuple [d,e]) (l.map f) (r.map g)=(l.zip r).map λz=>PyData.tuple [f z.1,g z.2]:=by
 induction l generalizing r with
 | nil=>rfl
 | cons a l ih=>cases r with
  | nil=>rfl
  | cons b r=>rw[qf,qf,qCp,ih,qCG,qf]
noncomputable def fitB(W:Web)(ks:List Str)(c:List Arm):Bool:=(ks.zip c).all λz=>decide (z.1∈upA W z.2)
theorem zaam{W:Web}{ks:List Str}{c:List Arm}(hc:c.length<300):zhm [zai ks,.list (c.map λa=>zbm (upA W a))]=some (.bool (fitB W ks c),false):=by
 have it:zpn (zab (eVar 0) (zab (eVar 1) aNil)) [.pl (zai ks),.pl (.list (c.map λa=>zbm (upA W a)))]=some ((ks.zip c).map λz=>PyData.tuple [.str z.1,zbm (upA W z.2)],[]):=by
  show some (List.zipWith (λd e=>PyData.tuple [d,e]) (ks.map .str) (c.map λa=>zbm (upA W a)),[]++[])=_
  rw[zxz];rfl
 have k:zdx (gT 2 (zas 0 (zas 1 zdn))) zcf (eDIn false (eVar 0) (eVar 1)) [.no,.no] ((ks.zip c).map λz=>PyData.tuple [.str z.1,zbm (upA W z.2)])=some ((ks.zip c).map λz=>.bool (decide (z.1∈upA W z.2))):=
  zcp λz _=>⟨[.pl (.str z.1),.pl (zbm (upA W z.2))],rfl,rfl,vb (decide (z.1∈upA W z.2)),zaqb (neg:=false) (fr:=false) (bs:=[]) rfl rfl,rfl⟩
 have lz:(ks.zip c).length<=c.length:=by rw[qCR];exact Nat.min_le_right _ _
 exact zhl (env:=[.pl (zai ks),.pl (.list (c.map λa=>zbm (upA W a)))]) rfl (zgi (bs:=[]) (zatb (zek (own:=["kind","roof"]) (fr:=[]) it (by rw[qE];omega) k)))
noncomputable def zmv(W:Web)(ks ls:List Str):Bool:=!(ks==ls)&&(ks.zip ls).all λz=>decide (z.2∈up W z.1)
theorem zya:∀(a b:List Str),PyData.eqvAll (a.map .str) (b.map .str)=(a==b)
 | [],[]=>rfl
 | [],_::_=>rfl
 | _::_,[]=>rfl
 | x::a,y::b=>by
  show(qz (.str x) (.str y)&&PyData.eqvAll (a.map .str) (b.map .str))=_
  rw[zya a b]
  show((x==y)&&(a==b))=_
  rfl
noncomputable def LowS(ks:List Str):Prop:=∀k∈ks,qAd k=true
theorem zlw{ks:List Str}(h:LowS ks):qx (zai ks)=true:=by
 obtain⟨h1,h2⟩:=zop ks h
 unfold qx zai
 rw[qm]
 refine⟨h1,decide_eq_true ?_⟩
 show qp (ks.map .str)+1<=64
 omega
theorem zafo{ks ls:List Str}(h1:LowS ks)(h2:LowS ls):neD (zai ks) (zai ls)=some (.bool (!(ks==ls)),false):=by
 unfold neD eqOk
 rw[zlw h1,zlw h2,Bool.and_self,qAu,if_pos rfl]
 show some (PyData.bool (!PyData.eqvAll (ks.map .str) (ls.map .str)),false)=_
 rw[zya]
theorem zadd{W:Web}(h:WebOk W){ks ls:List Str}(h1:LowS ks)(h2:LowS ls)(hk:∀k∈ks,k∈nm W)(hl:ks.length<300):zgp [.dict (dS zbm (ups W)),zai ks,zai ls]=some (.bool (zmv W ks ls),false):=by
 have it:zpn (zab (eVar 1) (zab (eVar 2) aNil)) [.pl (.dict (dS zbm (ups W))),.pl (zai ks),.pl (zai ls)]=some ((ks.zip ls).map λz=>PyData.tuple [.str z.1,.str z.2],[]):=by
  show some (List.zipWith (λd e=>PyData.tuple [d,e]) (ks.map .str) (ls.map .str),[]++[])=_
  rw[zxz];rfl
 have k:zdx (gT 2 (zas 0 (zas 1 zdn))) zcf (eDIn false (eVar 1) (zdd 2 (eVar 0))) [.no,.no,.pl (.dict (dS zbm (ups W)))] ((ks.zip ls).map λz=>PyData.tuple [.str z.1,.str z.2])=some ((ks.zip ls).map λz=>.bool (decide (z.2∈up W z.1))):=
  zcp λz hz=>⟨[.pl (.str z.1),.pl (.str z.2),.pl (.dict (dS zbm (ups W)))],rfl,rfl,vb (decide (z.2∈up W z.1)),zaqb (neg:=false) (fr:=false) (bs:=[]) rfl (zawx (d:=zbm (up W z.1)) (.inl rfl) rfl (by rw[zpu,zvr (hk z.1 (qBM hz).1)];rfl)),rfl⟩
 have lz:(ks.zip ls).length<=ks.length:=by rw[qCR];exact qBh _ _
 have e1:eOp neD (eVar 1) (eVar 2) [.pl (.dict (dS zbm (ups W))),.pl (zai ks),.pl (zai ls)]=some (vb (!(ks==ls))):=by
  show((neD (zai ks) (zai ls)).bind λz=>some (⟨z.1,z.2,bsOf z.1 ([]++[])⟩:Val))=_
  rw[zafo h1 h2];rfl
 have e2:=zatb (f:=λz:Str×Str=>decide (z.2∈up W z.1)) (zek (own:=["low","high"]) (fr:=[0]) it (by rw[qE];omega) k)
 refine zhl (env:=[.pl (.dict (dS zbm (ups W))),.pl (zai ks),.pl (zai ls)]) rfl (zgi (bs:=[]) ?_)
 unfold eAnd
 rw[e1,qI]
 unfold zmv
 cases ks==ls with
 | true=>rfl
 | false=>exact e2
structure RulesOk(W:Web)(rs:List (Str×List Str)):Prop where
 low:∀r∈rs,LowS r.2
 kinds:∀r∈rs,∀k∈r.2,k∈nm W
 few:∀r∈rs,r.2.length<300
 len:rs.length<300
theorem RulesOk.filter{W:Web}{rs:List (Str×List Str)}(h:RulesOk W rs)(p:Str×List Str->Bool):RulesOk W (rs.filter p):=
 ⟨λr hr=>h.low r (qAW.mp hr).1,λr hr=>h.kinds r (qAW.mp hr).1,λr hr=>h.few r (qAW.mp hr).1,qBB (qBY _ _) h.len⟩
structure CallOk(W:Web)(c:List Arm):Prop where
 len:c.length<300
 few:∀a∈c,a.parts.length<300
 kinds:∀a∈c,∀n∈a.parts,n∈nm W
noncomputable def fitL(W:Web)(rs:List (Str×List Str))(c:List Arm):List (Str×List Str):=rs.filter λr=>fitB W r.2 c
noncomputable def zuq(W:Web)(rs:List (Str×List Str)):List (Str×List Str):=rs.filter λr=>!(rs.any λq=>zmv W q.2 r.2)
theorem zafp{n:Nat}{g:GF}{f:AF}{env:DEnv}{rs:List Val}{b:Bool}(h:f env=some rs)(hn:rs.length=n)(k:g (zhq rs)=some (.bool b,false)):tTru (zbb n g f) env=some b:=by
 unfold tTru;rw[zbg h hn k];rfl
theorem zawy{α:Type}{f:α->Bool}{l:List α}{a:EF}{env:DEnv}{fr:Bool}{bs:List Nat}(ha:a env=some ⟨.list (l.map λx=>.bool (f x)),fr,bs⟩):eCB (anyD λbs=>bs.any id) (zab a aNil) env=some (vb (l.any f)):=by
 unfold eCB
 rw[zit ha,qI]
 show((zqk (l.map λx=>.bool (f x))).map _).bind _=_
 rw[zoq]
 simp only[qBA,qI,qBj]
 rfl
theorem zaan{W:Web}(h:WebOk W){rs:List (Str×List Str)}(hr:RulesOk W rs):zhn [.dict (dS zbm (ups W)),zbk rs]=some (zbk (zuq W rs),true):=by
 have hlen:=hr.len
 have k:zdx (gN 0) (zlj (tTru (eCB (anyD λbs=>bs.any id) (zab (zdy ["name","kinds"] [0,1] (zar (eVar 2)) (gT 2 (zas 0 (zas 1 zdn))) zcf (zbb 3 zgp (zab (eVar 3) (zab (eVar 1) (zab (eIxV 2 (eC (.int 1))) aNil))))) aNil)))) (eVar 0) [.no,.pl (.dict (dS zbm (ups W))),.pl (zbk rs)] (rs.map zdi)=some ((zuq W rs).map zdi):=by
  refine zet (enc:=zdi) (out:=zdi) (e:=eVar 0) (λr=>!(rs.any λq=>zmv W q.2 r.2)) λr hm=>⟨[.pl (zdi r),.pl (.dict (dS zbm (ups W))),.pl (zbk rs)],rfl,?_,λ_=>⟨⟨zdi r,false,[]⟩,rfl,rfl⟩⟩
  have k2:zdx (gT 2 (zas 0 (zas 1 zdn))) zcf (zbb 3 zgp (zab (eVar 3) (zab (eVar 1) (zab (eIxV 2 (eC (.int 1))) aNil)))) [.no,.no,.pl (zdi r),.pl (.dict (dS zbm (ups W)))] (rs.map zdi)=some (rs.map λq=>.bool (zmv W q.2 r.2)):=
   zcp λq hq=>⟨[.pl (.str q.1),.pl (zai q.2),.pl (zdi r),.pl (.dict (dS zbm (ups W)))],rfl,rfl,_,zbg (n:=3) (rs:=[⟨.dict (dS zbm (ups W)),false,[]⟩,⟨zai q.2,false,[]⟩,⟨zai r.2,false,[]⟩]) rfl rfl (zadd h (hr.low q hq) (hr.low r hm) (hr.kinds q hq) (hr.few q hq)),rfl⟩
  exact zafm (zawy (f:=λq:Str×List Str=>zmv W q.2 r.2) (zek (own:=["name","kinds"]) (fr:=[0,1]) (fi:=zar (eVar 2)) (env:=[.pl (zdi r),.pl (.dict (dS zbm (ups W))),.pl (zbk rs)]) (ds:=rs.map zdi) (bs:=[]) rfl (by rw[qE];omega) k2))
 exact zhl (env:=[.pl (.dict (dS zbm (ups W))),.pl (zbk rs)]) rfl (zgi (zek (own:=["rule"]) (fr:=[0,1]) (fi:=zar (eVar 1)) (ds:=rs.map zdi) (bs:=[]) rfl (by rw[qE];omega) k))
theorem zaao{rs:List (Str×List Str)}(hl:rs.length<300):zja [zbk rs]=some (zaj (rs.map (·.1)),true):=by
 have k:zdx (gT 2 (zas 0 (zas 1 zdn))) zcf (eVar 0) [.no,.no] (rs.map zdi)=some (rs.map λr=>.str r.1):=zcp λr _=>⟨[.pl (.str r.1),.pl (zai r.2)],rfl,rfl,vs r.1,rfl,rfl⟩
 have e:(rs.map λr=>PyData.str r.1)=(rs.map (·.1)).map .str:=by rw[qAn];rfl
 rw[e]at k
 exact zhl (env:=[.pl (zbk rs)]) rfl (zgi (zek (own:=["name","kinds"]) (fr:=[]) (fi:=zar (eVar 0)) (ds:=rs.map zdi) (bs:=[]) rfl (by rw[qE];omega) k))
noncomputable def zel:List Str->PyData
 | []=>.tuple [.str "none"]
 | [x]=>.tuple [.str "rule",.str x]
 | xs=>.tuple [.str "quarrel",zai xs]
theorem zade:∀(xs:List Str),zkh [zaj xs]=some (zel xs,false)
 | []=>rfl
 | [x]=>rfl
 | x::y::xs=>by
  have t:zbv (eOp eqD (eCB lenD (zab (eVar 0) aNil)) (eC (.int 1))) [.pl (zaj (x::y::xs))]=some false:=by
   rw[zgj (zayt (i:=((x::y::xs).map PyData.str).length) (j:=1) (zafl rfl) rfl)]
   congr 1
  exact zhl (env:=[.pl (zaj (x::y::xs))]) rfl (zbj (if_f rfl rfl) (zbj (if_f t rfl) rfl))
theorem zri{W:Web}(h:WebOk W){rs:List (Str×List Str)}{c:List Arm}(hr:RulesOk W rs)(hc:CallOk W c):zeg [zbh W c.length rs,zgq c]=some (zbk (fitL W rs c),true):=by
 have hl:=hr.len
 have e5:sSet 5 (zbb 2 zev (zab (zbb 1 zfr (zab (eVar 2) aNil)) (zab (eVar 1) aNil))) [.pl (zbh W c.length rs),.pl (zgq c),.pl (webD W),.pl (.int c.length),.pl (zbk rs),.no]=some (.nx [.pl (zbh W c.length rs),.pl (zgq c),.pl (webD W),.pl (.int c.length),.pl (zbk rs),.ac (.list (c.map λa=>zbm (upA W a)))]):=
  zlr (r:=⟨.list (c.map λa=>zbm (upA W a)),true,[]⟩) (zbg (n:=2) (rs:=[⟨.dict (dS zbm (ups W)),true,[]⟩,⟨zgq c,false,[]⟩]) (zeu (zbg (n:=1) (rs:=[⟨webD W,false,[]⟩]) rfl rfl (zvq h)) (zit rfl)) rfl (ztt h hc.len hc.kinds))
 have k:zdx (gN 0) (tTru (zbb 2 zhm (zab (eIxV 0 (eC (.int 1))) (zab (eVar 1) aNil)))) (eVar 0) [.no,.pl (.list (c.map λa=>zbm (upA W a)))] (rs.map zdi)=some ((fitL W rs c).map zdi):=
  zet (enc:=zdi) (out:=zdi) (e:=eVar 0) (λr=>fitB W r.2 c) λr hm=>⟨[.pl (zdi r),.pl (.list (c.map λa=>zbm (upA W a)))],rfl,zafp (n:=2) (rs:=[⟨zai r.2,false,[]⟩,⟨.list (c.map λa=>zbm (upA W a)),false,[]⟩]) rfl rfl (zaam hc.len),λ_=>⟨⟨zdi r,false,[]⟩,rfl,rfl⟩⟩
 exact zhl (env:=[.pl (zbh W c.length rs),.pl (zgq c),.no,.no,.no,.no]) rfl (zbj rfl (zbj (zada (zbg (n:=3) (rs:=[⟨webD W,false,[]⟩,vi c.length,⟨zgq c,false,[]⟩]) rfl rfl (zaal h hc.len hc.few hc.kinds))) (zbj e5 (zgi (zek (own:=["rule"]) (fr:=[5]) (fi:=zar (eVar 4)) (ds:=rs.map zdi) (bs:=[]) rfl (by rw[qE];omega) k)))))
theorem zaks{W:Web}(h:WebOk W){rs:List (Str×List Str)}{c:List Arm}(hr:RulesOk W rs)(hc:CallOk W c):zor [zbh W c.length rs,zgq c]=some (zaj ((zuq W (fitL W rs c)).map (·.1)),true):=by
 have e2:sSet 2 (zbb 2 zeg (zab (eVar 0) (zab (eVar 1) aNil))) [.pl (zbh W c.length rs),.pl (zgq c),.no]=some (.nx [.pl (zbh W c.length rs),.pl (zgq c),.ac (zbk (fitL W rs c))]):=
  zlr (r:=⟨zbk (fitL W rs c),true,[]⟩) (zbg (n:=2) (rs:=[⟨zbh W c.length rs,false,[]⟩,⟨zgq c,false,[]⟩]) rfl rfl (zri h hr hc))
 have e3:zbb 1 zfr (zab (eIxV 0 (eC (.int 0))) aNil) [.pl (zbh W c.length rs),.pl (zgq c),.ac (zbk (fitL W rs c))]=some ⟨.dict (dS zbm (ups W)),true,[]⟩:=zbg (n:=1) (rs:=[⟨webD W,false,[]⟩]) rfl rfl (zvq h)
 have e4:zbb 2 zhn (zab (zbb 1 zfr (zab (eIxV 0 (eC (.int 0))) aNil)) (zab (eVar 2) aNil)) [.pl (zbh W c.length rs),.pl (zgq c),.ac (zbk (fitL W rs c))]=some ⟨zbk (zuq W (fitL W rs c)),true,[2]⟩:=zbg (n:=2) (rs:=[⟨.dict (dS zbm (ups W)),true,[]⟩,⟨zbk (fitL W rs c),false,[2]⟩]) (zeu e3 (zit rfl)) rfl (zaan h (hr.filter _))
 exact zhl (env:=[.pl (zbh W c.length rs),.pl (zgq c),.no]) rfl (zbj e2 (zgi (zbg (n:=1) (rs:=[⟨zbk (zuq W (fitL W rs c)),true,[2]⟩]) (zit e4) rfl (zaao ((hr.filter _).filter _).len))))
theorem zadf{W:Web}(h:WebOk W){rs:List (Str×List Str)}{c:List Arm}(hr:RulesOk W rs)(hc:CallOk W c):zcd [zbh W c.length rs,zgq c]=some (zel ((zuq W (fitL W rs c)).map (·.1)),false):=
 zhl (env:=[.pl (zbh W c.length rs),.pl (zgq c)]) rfl (zgi (zbg (n:=1) (rs:=[⟨zaj ((zuq W (fitL W rs c)).map λr:Str×List Str=>r.1),true,[]⟩]) (zit (zbg (n:=2) (rs:=[⟨zbh W c.length rs,false,[]⟩,⟨zgq c,false,[]⟩]) rfl rfl (zaks h hr hc))) rfl (zade _)))
noncomputable def zvt:SF:=(sSeq (sSet 1 (eLst (zab (eTup aNil) aNil)))
  (sSeq (sFor (zar (eVar 0)) (gN 2)
  (sSet 1 (zst ["ahead","thing"] [2] (zar (eVar 1)) (gN 0) zcf (zar (eVar 2)) (gN 1) zcf (eOp addE (eVar 0) (eTup (zab (eVar 1) aNil))))))
  (zlb 1)))
noncomputable def zmo:GF:=fnD 3 zvt
noncomputable def zkp:SF:=(sRet (zbb 1 zmo (zab (eOp repD (eLst (zab (zbb 1 zgn (zab (eVar 0) aNil)) aNil)) (eVar 1)) aNil)))
noncomputable def zfl:GF:=fnD 2 zkp
noncomputable def ztu:SF:=(sSeq (sAsg (eVar 0) (gT 3 (zas 1 (zas 2 (zas 3 zdn)))))
  (sRet (zbb 2 zfl (zab (eVar 1) (zab (eVar 2) aNil)))))
noncomputable def zfm:GF:=fnD 4 ztu
noncomputable def zos:SFr (List Int):=(rSeq (rS 0 (sSet 1 (eC (.int 7)))) (rFor (zajw (zbo rScr rNil)) (gT 2 (zas 2 (zas 3 zdn))) (rS 0 (sSet 1 (eOp modD (eOp addD (eOp addD (eOp mulD (eVar 1) (eC (.int 48271))) (eOp mulD (eOp modD (eVar 3) (eC (.int 2147483629))) (eOp addD (eOp mulD (eVar 2) (eVar 2)) (eC (.int 3))))) (eC (.int 5))) (eC (.int 2147483647)))))))
noncomputable def zjn:List Int->Option Int:=zant zos 3 (eVar 1)
noncomputable def zvu:SFr Pen:=(rSeq (zkn (qAnd (qB (rOp ltD (rGet 1) (zap (eOp powB (eC (.int 10)) (eC (.int 18)))))) zvl) (rPut 1 (rOp modD zajr (zap (eOp powB (eOp powB (eC (.int 10)) (eC (.int 50))) (eC (.int 8)))))) 1000)
  (rSeq (rIf (qB (rOp geD (rGet 1) (zap (eOp powB (eC (.int 10)) (eC (.int 18)))))) (rSeq (rSet 2 (rOp modD (rGet 1) (zap (eVar 1))))
  (rSeq (rPut 1 (rOp zzk (rGet 1) (zap (eVar 1))))
  (rS 0 (zlb 2)))) rNx)
  (rSeq (rPut 3 (rOp addD (rGet 3) (zap (eC (.int 1)))))
  (rSeq (rPut 2 (rOp modD (rOp addD (rOp addD (rOp mulD (rGet 2) (zap (eC (.int 48271)))) (rOp mulD (rGet 3) (rGet 3))) (zap (eC (.int 11)))) (zap (eC (.int 2147483647)))))
  (rRet (rOp modD (rOp zzk (rOp modD (rOp powB (rGet 2) (zap (eC (.int 3)))) (zap (eC (.int 2305843009213693951)))) (zap (eC (.int 64)))) (zap (eVar 1))))))))
noncomputable def zaq:GR Pen:=fnR 3 zvu
noncomputable def zvv:SFr Pen:=(rSeq (rSet 2 (zap (eC (.str "abcdefghijklmnopqrstuvwxyz"))))
  (rSeq (rSet 3 (zaaa (zajp ["_law_k"] [0,2] (zgm (zbo (rOp addD (zap (eC (.int 1))) (zbi 2 zaq (zbo (zap (eC (.int 3))) rNil))) rNil)) (gN 0) zcf (rOp ixD (zap (eVar 2)) (zbi 2 zaq (zbo (zap (eC (.int 26))) rNil))))))
  (rSeq (rSet 4 (zbi 2 zaq (zbo (zap (eC (.int 4))) rNil)))
  (rSeq (rIf (zpp (zob (zbv (eOp neD (eVar 1) (eLst aNil))) (zbv (eOp ltD (eVar 4) (eC (.int 2)))))) (rSeq (rSet 5 (rOp ixD (zap (eVar 1)) (zbi 2 zaq (zbo (zap (eCB lenD (zab (eVar 1) aNil))) rNil))))
  (rSet 3 (zap (eSl (eOp ixD (eLst (zab (eOp addD (eVar 5) (eVar 3)) (zab (eOp addD (eVar 3) (eVar 5)) aNil))) (eVar 4)) znm (zla (eC (.int 8))))))) rNx)
  (rSeq (rSet 6 (zap (eOp addD (eOp repD (eLst (zab (eVar 3) aNil)) (eC (.int 5))) (eLst (zab (eC (.str "none")) (zab (eC (.str "rule")) (zab (eC (.str "quarrel")) (zab (eC (.str "kind")) (zab (eC (.str "own")) aNil)))))))))
  (rSeq (rSet 3 (rOp ixD (zap (eVar 6)) (zbi 2 zaq (zbo (zap (eC (.int 10))) rNil))))
  (rSeq (rIf (zpp (zbv (eOp (inD false) (eVar 3) (eVar 1)))) (rSet 3 (zap (eOp ixD (zdy ["_law_sign"] [1] (zsu (eVar 2)) (gN 0) (zbv (eOp (inD true) (eVar 0) (eVar 1))) (eVar 0)) (eC (.int 0))))) rNx)
  (rS 0 (zlb 3)))))))))
noncomputable def zcj:GR Pen:=fnR 7 zvv
noncomputable def zot:SFr Pen:=(rSeq (rSet 2 (zap (eLst aNil)))
  (rSeq (rSet 3 (zap (eLst aNil)))
  (rSeq (rFor (rIP (zka (zab (eVar 1) aNil))) (gN 4)
  (rSeq (rSet 5 (zap (eLst aNil)))
  (rSeq (rFor (zgm (zbo (rCB minD (zbo (zap (eVar 4)) (zbo (zbi 2 zaq (zbo (zap (eC (.int 5))) rNil)) rNil))) rNil)) (gN 6)
  (rSeq (rSet 7 (rOp ixD (zap (eVar 3)) (zbi 2 zaq (zbo (zap (eVar 4)) rNil))))
  (rIf (zpp (zbv (eOp (inD true) (eVar 7) (eVar 5)))) (rApp 5 (zap (eVar 7))) rNx)))
  (rSeq (rApp 3 (zbi 2 zcj (zbo (zap (eVar 3)) rNil)))
  (rApp 2 (zap (eTup (zab (eIxV 3 (eVar 4)) (zab (eVar 5) aNil)))))))))
  (rS 0 (zlb 2)))))
noncomputable def zez:GR Pen:=fnR 8 zot
noncomputable def zpv:GF->SF:=λ(G:GF)=>(sSeq (sIf (tTru (eIsi "str" (eVar 0))) (sRet (eAnd (eIsi "str" (eVar 1)) (eOp eqD (eVar 1) (eVar 0)))) sNil)
  (sSeq (sIf (tTru (eIsi "list" (eVar 0))) (sSeq (sIf (tOrF (zlj (tTru (eIsi "list" (eVar 1)))) (zbv (eOp neD (eCB lenD (zab (eVar 1) aNil)) (eCB lenD (zab (eVar 0) aNil))))) (sRet (eC (.bool false))) sNil)
  (sRet (eCB (anyD λbs=>bs.all id) (zab (zdy ["_law_one","_law_two"] [] (zpn (zab (eVar 0) (zab (eVar 1) aNil))) (gT 2 (zas 0 (zas 1 zdn))) zcf (zbb 2 G (zab (eVar 0) (zab (eVar 1) aNil)))) aNil)))) sNil)
  (sSeq (sIf (tTru (eIsi "tuple" (eVar 0))) (sSeq (sIf (tOrF (zlj (tTru (eIsi "tuple" (eVar 1)))) (zbv (eOp neD (eCB lenD (zab (eVar 1) aNil)) (eCB lenD (zab (eVar 0) aNil))))) (sRet (eC (.bool false))) sNil)
  (sRet (eCB (anyD λbs=>bs.all id) (zab (zdy ["_law_one","_law_two"] [] (zpn (zab (eVar 0) (zab (eVar 1) aNil))) (gT 2 (zas 0 (zas 1 zdn))) zcf (zbb 2 G (zab (eVar 0) (zab (eVar 1) aNil)))) aNil)))) sNil)
  (sRet (eAnd (eIsi "int" (eVar 1)) (eAnd (eNot (eIsi "bool" (eVar 1))) (eOp eqD (eVar 1) (eVar 0))))))))
noncomputable def zfn:Nat->GF
 | 0=>λ_=>none
 | n+1=>fnD 2 (zpv (zfn n))
noncomputable def zid:GF:=zfn 7
noncomputable def zvw:SF:=(sRet (eTup (zab (zdy ["_law_name_here","_law_elders"] [] (zar (eIxV 0 (eC (.int 0)))) (gT 2 (zas 0 (zas 1 zdn))) zcf (eTup (zab (eVar 0) (zab (eCB zxg (zab (eVar 1) aNil)) aNil)))) (zab (eIxV 0 (eC (.int 1))) (zab (eCB zxg (zab (eIxV 0 (eC (.int 2))) aNil)) aNil)))))
noncomputable def zjo:GF:=fnD 1 zvw
noncomputable def zqr:SF:=(sSeq (sSet 1 zamv)
  (sSeq (sFor (zar (eVar 0)) (gT 2 (zas 2 (zas 3 zdn)))
  (sSeq (sPut 1 (eVar 2) (eLst (zab (eVar 2) aNil)))
  (sFor (zar (eVar 3)) (gN 4)
  (sPut 1 (eVar 2) (eOp addD (zdd 1 (eVar 2)) (zdy ["_law_one"] [1,2] (zar (zdd 1 (eVar 4))) (gN 0) (zbv (eOp (inD true) (eVar 0) (zdd 1 (eVar 2)))) (eVar 0)))))))
  (zlb 1)))
noncomputable def zjb:GF:=fnD 5 zqr
noncomputable def zqs:SF:=(sRet (eCB (anyD λbs=>bs.all id) (zab (zdy ["_law_arm","_law_kind"] [0] (zpn (zab (eVar 1) (zab (eVar 2) aNil))) (gT 2 (zas 0 (zas 1 zdn))) zcf (eOp (inD false) (eVar 1) (zdd 2 (eVar 0)))) aNil)))
noncomputable def zcs:GF:=fnD 3 zqs
noncomputable def znb:SF:=(sSeq (sSet 3 (zdy ["_law_rule"] [0,2] (zar (eVar 1)) (gN 0) (tTru (zbb 3 zcs (zab (eVar 1) (zab (eVar 2) (zab (eIxV 0 (eC (.int 1))) aNil))))) (eVar 0)))
  (sSeq (sSet 4 (eLst aNil))
  (sSeq (sFor (zar (eVar 3)) (gT 2 (zas 5 (zas 6 zdn)))
  (sIf (zlj (tTru (eCB (anyD λbs=>bs.any id) (zab (zdy ["_law_one"] [0,6] (zar (eVar 3)) (gN 0) zcf (eAnd (eOp neD (eIxV 0 (eC (.int 1))) (eVar 2)) (zbb 3 zcs (zab (eVar 1) (zab (eIxV 0 (eC (.int 1))) (zab (eVar 2) aNil)))))) aNil)))) (sApp 4 (eVar 5)) sNil))
  (sSeq (sIf (zbv (eOp eqD (eVar 4) (eLst aNil))) (sRet (eTup (zab (eC (.str "none")) aNil))) sNil)
  (sSeq (sIf (zbv (eOp eqD (eCB lenD (zab (eVar 4) aNil)) (eC (.int 1)))) (sRet (eTup (zab (eC (.str "rule")) (zab (eIxV 4 (eC (.int 0))) aNil)))) sNil)
  (sRet (eTup (zab (eC (.str "quarrel")) (zab (eCB zmz (zab (eVar 4) aNil)) aNil)))))))))
noncomputable def zca:GF:=fnD 7 znb
noncomputable def ztv:SF:=(sSeq (sAsg (eVar 0) (gT 3 (zas 1 (zas 2 (zas 3 zdn)))))
  (sSeq (sSet 4 (eLst (zab (eTup aNil) aNil)))
  (sSeq (sFor (zka (zab (eVar 2) aNil)) (gN 5)
  (sSeq (sSet 6 (eLst aNil))
  (sSeq (sFor (zar (eVar 4)) (gN 7)
  (sExt 6 (zdy ["_law_kind","_law_elders"] [7] (zar (eVar 1)) (gT 2 (zas 0 (zas 1 zdn))) zcf (eOp addE (eVar 2) (eTup (zab (eVar 0) aNil))))))
  (sSet 4 (eVar 6)))))
  (zlb 4))))
noncomputable def zgr:GF:=fnD 8 ztv
noncomputable def zfh:SFX:=(xSeq (xOf (sSet 2 (zbb 1 zgn (zab (eVar 0) aNil))))
  (xFor (zar (eVar 1)) (gN 3)
  (xIf (zbv (eOp (inD true) (eVar 3) (eVar 2))) (zvo "NoKind" (eVar 3)) (xOf sNil))))
noncomputable def zdj:GFX:=fnX 4 zfh
noncomputable def zafq:SF:=(sSeq (zzn (zbb 2 zdg (zab (eIxV 0 (eC (.int 0))) (zab (eLst (zab (eVar 2) (zab (eVar 3) aNil))) aNil))))
  (sSeq (sFor (zar (zbb 1 zfm (zab (eVar 0) aNil))) (gN 4)
  (sSeq (sSet 5 (eOp addD (eOp addE (eSlT (eVar 4) znm (zla (eVar 1))) (eTup (zab (eVar 3) aNil))) (eSlT (eVar 4) (zla (eOp addD (eVar 1) (eC (.int 1)))) znm)))
  (sIf (zob (zbv (eOp eqD (eIxV 4 (eVar 1)) (eVar 2))) (zbv (eOp neD (zbb 2 zcd (zab (eVar 0) (zab (eVar 4) aNil))) (zbb 2 zcd (zab (eVar 0) (zab (eVar 5) aNil)))))) (zlb 4) sNil)))
  (sRet (eC .none))))
noncomputable def zou:GF:=fnD 6 zafq
noncomputable def znc:SFr Pen:=(rSeq (rSet 1 (rOp addD (zap (eC (.int 1))) (zbi 2 zaq (zbo (zap (eC (.int 3))) rNil))))
  (rSeq (rSet 2 (rOp addD (zap (eC (.int 1))) (zbi 2 zaq (zbo (zap (eOp ixD (eLst (zab (eC (.int 6)) (zab (eC (.int 5)) (zab (eC (.int 3)) aNil)))) (eOp subD (eVar 1) (eC (.int 1))))) rNil))))
  (rSeq (rIf (qB (rOp eqD (zbi 2 zaq (zbo (zap (eC (.int 8))) rNil)) (zap (eC (.int 7))))) (rSet 2 (zap (eOp ixD (eLst (zab (eC (.int 10)) (zab (eC (.int 10)) (zab (eC (.int 6)) aNil)))) (eOp subD (eVar 1) (eC (.int 1)))))) rNx)
  (rSeq (rSet 3 (zbi 2 zez (zbo (zap (eVar 2)) rNil)))
  (rSeq (rSet 4 (zap (eLst aNil)))
  (rSeq (rFor (zgm (zbo (zbi 2 zaq (zbo (zap (eC (.int 13))) rNil)) rNil)) (gN 5)
  (rSeq (rSet 6 (zap (eLst aNil)))
  (rSeq (rFor (rIP (zka (zab (eVar 1) aNil))) (gN 7)
  (rSeq (rSet 8 (zbi 2 zaq (zbo (zap (eVar 2)) rNil)))
  (rApp 6 (rOp ixD (rOp ixD (zap (eVar 3)) (rOp zzk (zap (eVar 8)) (rOp addD (zap (eC (.int 1))) (zbi 2 zaq (zbo (zap (eC (.int 2))) rNil))))) (zap (eC (.int 0)))))))
  (rIf (zpp (zbv (eOp (inS true) (eCB zmz (zab (eVar 6) aNil)) (zdy ["_law_rule"] [] (zar (eVar 4)) (gN 0) zcf (eIxV 0 (eC (.int 1))))))) (rApp 4 (rTup (zbo (zbi 2 zcj (zbo (zap (zdy ["_law_rule"] [] (zar (eVar 4)) (gN 0) zcf (eIxV 0 (eC (.int 0))))) rNil)) (zbo (zap (eCB zmz (zab (eVar 6) aNil))) rNil)))) rNx))))
  (rRet (zap (eTup (zab (eVar 3) (zab (eVar 1) (zab (eVar 4) aNil))))))))))))
noncomputable def zhe:GR Pen:=fnR 9 znc
noncomputable def zqt:SFX:=(xSeq (zasm 2 zdj (zab (eIxV 0 (eC (.int 0))) (zab (eLst (zab (eVar 2) (zab (eVar 3) aNil))) aNil)))
  (xSeq (xOf (sFor (zar (zbb 1 zfm (zab (eVar 0) aNil))) (gN 4)
  (sSeq (sSet 5 (eOp addD (eOp addE (eSlT (eVar 4) znm (zla (eVar 1))) (eTup (zab (eVar 3) aNil))) (eSlT (eVar 4) (zla (eOp addD (eVar 1) (eC (.int 1)))) znm)))
  (sIf (zob (zbv (eOp eqD (eIxV 4 (eVar 1)) (eVar 2))) (zbv (eOp neD (zbb 2 zcd (zab (eVar 0) (zab (eVar 4) aNil))) (zbb 2 zcd (zab (eVar 0) (zab (eVar 5) aNil)))))) (zlb 4) sNil))))
  (xOf (sRet (eC .none)))))
noncomputable def zfs:GFX:=fnX 6 zqt
noncomputable def zqu:SF:=(sSeq (sSet 4 (zbb 1 zjb (zab (eIxV 0 (eC (.int 0))) aNil)))
  (sSeq (sFor (zar (zbb 1 zgr (zab (eVar 0) aNil))) (gN 5)
  (sIf (zbv (eOp eqD (eIxV 5 (eVar 1)) (eVar 2))) (sSeq (sSet 6 (eOp addD (eOp addE (eSlT (eVar 5) znm (zla (eVar 1))) (eTup (zab (eVar 3) aNil))) (eSlT (eVar 5) (zla (eOp addD (eVar 1) (eC (.int 1)))) znm)))
  (sIf (zbv (eOp neD (zbb 3 zca (zab (eVar 4) (zab (eIxV 0 (eC (.int 2))) (zab (eVar 5) aNil)))) (zbb 3 zca (zab (eVar 4) (zab (eIxV 0 (eC (.int 2))) (zab (eVar 6) aNil)))))) (zlb 5) sNil)) sNil))
  (sRet (eC .none))))
noncomputable def zho:GF:=fnD 7 zqu
noncomputable def zlx:SF:=(sSeq (sSet 5 (zbb 4 zho (zab (eVar 0) (zab (eVar 2) (zab (eVar 3) (zab (eVar 4) aNil))))))
  (sSeq (sSet 6 (zbb 4 zou (zab (eVar 1) (zab (eVar 2) (zab (eVar 3) (zab (eVar 4) aNil))))))
  (sSeq (sIf (zbv (eIsN false (eVar 5))) (sRet (eIsN false (eVar 6))) sNil)
  (sRet (zbb 2 zid (zab (eVar 5) (zab (eVar 6) aNil)))))))
noncomputable def zce:GF:=fnD 7 zlx
noncomputable def zjp:SF:=(sSeq (λenv=>if env.length=5 then zakl ["NoKind"] 4 4 zfs (zab (eVar 0) (zab (eVar 1) (zab (eVar 2) (zab (eVar 3) aNil)))) (λxc xd=>(sRet (eTup (zab (eC (.bool true)) (zab (eC xd) aNil))))) env else none)
  (sRet (eC .none)))
noncomputable def zdt:GF:=fnD 5 zjp
theorem zov:bootBuiltins "all"=some (.builtin "all"):=by decide +kernel
theorem zafr:bootBuiltins "any"=some (.builtin "any"):=by decide +kernel
theorem zakt:bootBuiltins "bool"=some (.type "bool"):=by decide +kernel
theorem zaon:bootBuiltins "int"=some (.type "int"):=by decide +kernel
theorem zbx:bootBuiltins "isinstance"=some (.builtin "isinstance"):=by decide +kernel
theorem zhf:bootBuiltins "len"=some (.builtin "len"):=by decide +kernel
theorem zjq:bootBuiltins "list"=some (.type "list"):=by decide +kernel
theorem zaoo:bootBuiltins "min"=some (.builtin "min"):=by decide +kernel
theorem zafs:bootBuiltins "str"=some (.type "str"):=by decide +kernel
theorem zgs:bootBuiltins "tuple"=some (.type "tuple"):=by decide +kernel
theorem zaxr:bootBuiltins "zip"=some (.type "zip"):=by decide +kernel
noncomputable def top(i:Nat):Stmt:=PySem.Challenge.pw_bestcalls_k40_parted_by_the_first_call.main.body.getD i (.Pass ⟨0,0,0,0⟩)
structure Txt(mg:Str->Option Value):Prop where
 all:mg "all"=none
 any:mg "any"=none
 bool:mg "bool"=none
 enumerate:mg "enumerate"=none
 int:mg "int"=none
 isinstance:mg "isinstance"=none
 len:mg "len"=none
 list:mg "list"=none
 min:mg "min"=none
 range:mg "range"=none
 str:mg "str"=none
 tuple:mg "tuple"=none
 zip:mg "zip"=none
noncomputable abbrev zie:Stmt:=top 5
noncomputable abbrev zvx:List Str:=["rows","told","row"]
theorem zki:zvx.Nodup:=by decide +kernel
theorem zadg:FnScope zvx ["rows"] (zah zie):=⟨rfl,rfl,rfl,zki,rfl,by decide +kernel,by decide +kernel⟩
noncomputable abbrev zif:Stmt:=top 7
noncomputable abbrev zvy:List Str:=["web"]
theorem zadh:zvy.Nodup:=by decide +kernel
theorem zadi:FnScope zvy ["web"] (zah zif):=⟨rfl,rfl,rfl,zadh,rfl,by decide +kernel,by decide +kernel⟩
noncomputable abbrev zig:Stmt:=top 8
noncomputable abbrev zvz:List Str:=["arm"]
theorem zadj:zvz.Nodup:=by decide +kernel
theorem zadk:FnScope zvz ["arm"] (zah zig):=⟨rfl,rfl,rfl,zadj,rfl,by decide +kernel,by decide +kernel⟩
noncomputable abbrev zfa:Stmt:=top 9
noncomputable abbrev zow:List Str:=["web","names","known","name"]
theorem zjf:zow.Nodup:=by decide +kernel
theorem zur:FnScope zow ["web","names"] (zah zfa):=⟨rfl,rfl,rfl,zjf,rfl,by decide +kernel,by decide +kernel⟩
noncomputable abbrev zih:Stmt:=top 10
noncomputable abbrev zwa:List Str:=["web","roofs","name","elders","roof","elder"]
theorem zgt:zwa.Nodup:=by decide +kernel
theorem zadl:FnScope zwa ["web"] (zah zih):=⟨rfl,rfl,rfl,zgt,rfl,by decide +kernel,by decide +kernel⟩
noncomputable abbrev zjr:Stmt:=top 11
noncomputable abbrev zaap:List Str:=["roofs","arm","roof","name"]
theorem zpw:zaap.Nodup:=by decide +kernel
theorem zagx:FnScope zaap ["roofs","arm"] (zah zjr):=⟨rfl,rfl,rfl,zpw,rfl,by decide +kernel,by decide +kernel⟩
noncomputable abbrev zda:Stmt:=top 13
noncomputable abbrev zkq:List Str:=["web","places"]
theorem zpx:zkq.Nodup:=by decide +kernel
theorem zpy:FnScope zkq ["web","places"] (zah zda):=⟨rfl,rfl,rfl,zpx,rfl,by decide +kernel,by decide +kernel⟩
noncomputable abbrev zdu:Stmt:=top 14
noncomputable abbrev zly:List Str:=["call"]
theorem zrj:zly.Nodup:=by decide +kernel
theorem zrk:FnScope zly ["call"] (zah zdu):=⟨rfl,rfl,rfl,zrj,rfl,by decide +kernel,by decide +kernel⟩
noncomputable abbrev zft:Stmt:=top 15
noncomputable abbrev zqv:List Str:=["web","places","call"]
theorem zyb:zqv.Nodup:=by decide +kernel
theorem zyc:FnScope zqv ["web","places","call"] (zah zft):=⟨rfl,rfl,rfl,zyb,rfl,by decide +kernel,by decide +kernel⟩
noncomputable abbrev zdv:Stmt:=top 16
noncomputable abbrev zlz:List Str:=["roofs","call"]
theorem zrl:zlz.Nodup:=by decide +kernel
theorem zrm:FnScope zlz ["roofs","call"] (zah zdv):=⟨rfl,rfl,rfl,zrl,rfl,by decide +kernel,by decide +kernel⟩
noncomputable abbrev zfu:Stmt:=top 17
noncomputable abbrev zqw:List Str:=["kinds","call_roofs"]
theorem zyd:zqw.Nodup:=by decide +kernel
theorem zye:FnScope zqw ["kinds","call_roofs"] (zah zfu):=⟨rfl,rfl,rfl,zyd,rfl,by decide +kernel,by decide +kernel⟩
noncomputable abbrev zgu:Stmt:=top 18
noncomputable abbrev ztw:List Str:=["roofs","one","other"]
theorem zaaq:ztw.Nodup:=by decide +kernel
theorem zaar:FnScope ztw ["roofs","one","other"] (zah zgu):=⟨rfl,rfl,rfl,zaaq,rfl,by decide +kernel,by decide +kernel⟩
noncomputable abbrev zdb:Stmt:=top 20
noncomputable abbrev zkr:List Str:=["book","call","web","places","rules","call_roofs"]
theorem zdw:zkr.Nodup:=by decide +kernel
theorem zpz:FnScope zkr ["book","call"] (zah zdb):=⟨rfl,rfl,rfl,zdw,rfl,by decide +kernel,by decide +kernel⟩
noncomputable abbrev zfv:Stmt:=top 21
noncomputable abbrev zqx:List Str:=["roofs","rules"]
theorem zyf:zqx.Nodup:=by decide +kernel
theorem zyg:FnScope zqx ["roofs","rules"] (zah zfv):=⟨rfl,rfl,rfl,zyf,rfl,by decide +kernel,by decide +kernel⟩
noncomputable abbrev zfw:Stmt:=top 22
noncomputable abbrev zqy:List Str:=["rules"]
theorem zyh:zqy.Nodup:=by decide +kernel
theorem zyi:FnScope zqy ["rules"] (zah zfw):=⟨rfl,rfl,rfl,zyh,rfl,by decide +kernel,by decide +kernel⟩
noncomputable abbrev zgv:Stmt:=top 23
noncomputable abbrev ztx:List Str:=["names"]
theorem zaas:ztx.Nodup:=by decide +kernel
theorem zaat:FnScope ztx ["names"] (zah zgv):=⟨rfl,rfl,rfl,zaas,rfl,by decide +kernel,by decide +kernel⟩
noncomputable abbrev zjs:Stmt:=top 24
noncomputable abbrev zaau:List Str:=["book","call","rules"]
theorem zwb:zaau.Nodup:=by decide +kernel
theorem zagy:FnScope zaau ["book","call"] (zah zjs):=⟨rfl,rfl,rfl,zwb,rfl,by decide +kernel,by decide +kernel⟩
noncomputable abbrev zgw:Stmt:=top 25
noncomputable abbrev zty:List Str:=["book","call"]
theorem zaav:zty.Nodup:=by decide +kernel
theorem zaaw:FnScope zty ["book","call"] (zah zgw):=⟨rfl,rfl,rfl,zaav,rfl,by decide +kernel,by decide +kernel⟩
noncomputable abbrev zgx:Stmt:=top 27
noncomputable abbrev ztz:List Str:=["book","web","places","rules"]
theorem zjc:ztz.Nodup:=by decide +kernel
theorem zaax:FnScope ztz ["book"] (zah zgx):=⟨rfl,rfl,rfl,zjc,rfl,by decide +kernel,by decide +kernel⟩
noncomputable abbrev zmp:Stmt:=top 28
noncomputable abbrev zaft:List Str:=["book","place","kind","other","call","exchanged"]
theorem zua:zaft.Nodup:=by decide +kernel
theorem zaku:FnScope zaft ["book","place","kind","other"] (zah zmp):=⟨rfl,rfl,rfl,zua,rfl,by decide +kernel,by decide +kernel⟩
noncomputable abbrev zjt:Stmt:=top 30
noncomputable abbrev zub:List Str:=["_law_script","_law_seed","_law_k","_law_cell"]
theorem zju:zub.Nodup:=by decide +kernel
theorem zagz:FnScope zub ["_law_script"] (zah zjt):=⟨rfl,rfl,rfl,zju,rfl,by decide +kernel,by decide +kernel⟩
noncomputable abbrev zii:Stmt:=top 31
noncomputable abbrev zwc:List Str:=["_law_pen_here","_law_many","_law_digit"]
theorem zuc:zwc.Nodup:=by decide +kernel
theorem zadm:FnScope zwc ["_law_pen_here","_law_many"] (zah zii):=⟨rfl,rfl,rfl,zuc,rfl,by decide +kernel,by decide +kernel⟩
noncomputable abbrev zij:Stmt:=top 32
noncomputable abbrev zwd:List Str:=["_law_pen_here","_law_names","_law_signs","_law_word","_law_way","_law_beside","_law_pool"]
theorem zee:zwd.Nodup:=by decide +kernel
theorem zadn:FnScope zwd ["_law_pen_here","_law_names"] (zah zij):=⟨rfl,rfl,rfl,zee,rfl,by decide +kernel,by decide +kernel⟩
noncomputable abbrev zjv:Stmt:=top 33
noncomputable abbrev zaay:List Str:=["_law_pen_here","_law_size","_law_web_here","_law_names","_law_k","_law_elders","_law_turn","_law_elder"]
theorem zgy:zaay.Nodup:=by decide +kernel
theorem zaha:FnScope zaay ["_law_pen_here","_law_size"] (zah zjv):=⟨rfl,rfl,rfl,zgy,rfl,by decide +kernel,by decide +kernel⟩
noncomputable abbrev zik:Stmt:=top 34
noncomputable abbrev zwe:List Str:=["_law_pen_here","_law_places","_law_size","_law_web_here","_law_rules","_law_turn","_law_kinds","_law_place","_law_at"]
theorem zdk:zwe.Nodup:=by decide +kernel
theorem zado:FnScope zwe ["_law_pen_here"] (zah zik):=⟨rfl,rfl,rfl,zdk,rfl,by decide +kernel,by decide +kernel⟩
noncomputable abbrev zmq:Stmt:=top 35
noncomputable abbrev zafu:List Str:=["_law_web_here","_law_up_here","_law_name_here","_law_elders","_law_elder"]
theorem zma:zafu.Nodup:=by decide +kernel
theorem zakv:FnScope zafu ["_law_web_here"] (zah zmq):=⟨rfl,rfl,rfl,zma,rfl,by decide +kernel,by decide +kernel⟩
noncomputable abbrev zmr:Stmt:=top 36
noncomputable abbrev zafv:List Str:=["_law_up_here","_law_call","_law_kinds"]
theorem zakw:zafv.Nodup:=by decide +kernel
theorem zakx:FnScope zafv ["_law_up_here","_law_call","_law_kinds"] (zah zmr):=⟨rfl,rfl,rfl,zakw,rfl,by decide +kernel,by decide +kernel⟩
noncomputable abbrev zil:Stmt:=top 37
noncomputable abbrev zwf:List Str:=["_law_up_here","_law_rules","_law_call","_law_some","_law_near","_law_name_here","_law_kinds"]
theorem ziu:zwf.Nodup:=by decide +kernel
theorem zadp:FnScope zwf ["_law_up_here","_law_rules","_law_call"] (zah zil):=⟨rfl,rfl,rfl,ziu,rfl,by decide +kernel,by decide +kernel⟩
noncomputable abbrev zgz:Stmt:=top 38
noncomputable abbrev zud:List Str:=["_law_book_here","_law_web_here","_law_places","_law_rules","_law_calls_here","_law_place","_law_longer","_law_call"]
theorem zdh:zud.Nodup:=by decide +kernel
theorem zaaz:FnScope zud ["_law_book_here"] (zah zgz):=⟨rfl,rfl,rfl,zdh,rfl,by decide +kernel,by decide +kernel⟩
noncomputable abbrev zim:Stmt:=top 39
noncomputable abbrev zwg:List Str:=["_law_due","_law_thing"]
theorem zadq:zwg.Nodup:=by decide +kernel
theorem zue:FnScope zwg ["_law_due","_law_thing"] (zah zim):=⟨rfl,rfl,rfl,zadq,rfl,by decide +kernel,by decide +kernel⟩
noncomputable abbrev zin:Stmt:=top 40
noncomputable abbrev zwh:List Str:=["_law_book_here"]
theorem zadr:zwh.Nodup:=by decide +kernel
theorem zads:FnScope zwh ["_law_book_here"] (zah zin):=⟨rfl,rfl,rfl,zadr,rfl,by decide +kernel,by decide +kernel⟩
noncomputable abbrev zfx:Stmt:=top 41
noncomputable abbrev zqz:List Str:=["_law_book_here","_law_place","_law_kind","_law_other","_law_up_here","_law_call","_law_beside"]
theorem zia:zqz.Nodup:=by decide +kernel
theorem zyj:FnScope zqz ["_law_book_here","_law_place","_law_kind","_law_other"] (zah zfx):=⟨rfl,rfl,rfl,zia,rfl,by decide +kernel,by decide +kernel⟩
noncomputable abbrev zha:Stmt:=top 42
noncomputable abbrev zuf:List Str:=["_law_book_here","_law_handed","_law_place","_law_kind","_law_other","_law_due","_law_told_here"]
theorem zmb:zuf.Nodup:=by decide +kernel
theorem zaba:FnScope zuf ["_law_book_here","_law_handed","_law_place","_law_kind","_law_other"] (zah zha):=⟨rfl,rfl,rfl,zmb,rfl,by decide +kernel,by decide +kernel⟩
noncomputable abbrev zfb:Stmt:=top 43
noncomputable abbrev zox:List Str:=["_law_book_here","_law_place","_law_kind","_law_other","e"]
theorem znd:zox.Nodup:=by decide +kernel
theorem zus:FnScope zox ["_law_book_here","_law_place","_law_kind","_law_other"] (zah zfb):=⟨rfl,rfl,rfl,znd,rfl,by decide +kernel,by decide +kernel⟩
noncomputable abbrev zyk:Stmt:=top 44
noncomputable abbrev zatc:List Str:=["_law_script","_law_pen_here","_law_odd","_law_book_here","_law_handed","_law_names","_law_place","_law_one","_law_two","_law_strange","_law_wrong"]
theorem zmc:zatc.Nodup:=by decide +kernel
theorem zawz:FnScope zatc ["_law_script"] (zah zyk):=⟨rfl,rfl,rfl,zmc,rfl,by decide +kernel,by decide +kernel⟩
noncomputable abbrev zks:Stmt:=top 9
noncomputable abbrev zkt:List Str:=["web","names","known","name"]
theorem zhb:zkt.Nodup:=by decide +kernel
theorem zqa:FnScope zkt ["web","names"] (zah zks):=⟨rfl,rfl,rfl,zhb,rfl,by decide +kernel,by decide +kernel⟩
noncomputable abbrev zug:Stmt:=top 28
noncomputable abbrev zuh:List Str:=["book","place","kind","other","call","exchanged"]
theorem zmd:zuh.Nodup:=by decide +kernel
theorem zabb:FnScope zuh ["book","place","kind","other"] (zah zug):=⟨rfl,rfl,rfl,zmd,rfl,by decide +kernel,by decide +kernel⟩
theorem zne:(["ahead","thing","row"]:List Str).Nodup:=by decide +kernel
theorem znf:(["name","elders"]:List Str).Nodup:=by decide +kernel
theorem ziv:(["arm","name"]:List Str).Nodup:=by decide +kernel
theorem znt:(["arm","roofs"]:List Str).Nodup:=by decide +kernel
theorem zku:(["kind","roof"]:List Str).Nodup:=by decide +kernel
theorem zme:(["low","high","roofs"]:List Str).Nodup:=by decide +kernel
theorem zmw:(["rule","call_roofs"]:List Str).Nodup:=by decide +kernel
theorem zrn:(["rule","roofs","rules"]:List Str).Nodup:=by decide +kernel
theorem zkv:(["name","kinds","rule","roofs"]:List Str).Nodup:=by decide +kernel
theorem zkw:(["name","kinds"]:List Str).Nodup:=by decide +kernel
theorem zut:(["_law_k","_law_pen_here","_law_signs"]:List Str).Nodup:=by decide +kernel
theorem zuu:(["_law_sign","_law_names"]:List Str).Nodup:=by decide +kernel
theorem zuv:(["_law_rule"]:List Str).Nodup:=by decide +kernel
theorem zuw:(["_law_rule"]:List Str).Nodup:=by decide +kernel
theorem zabc:(["_law_one","_law_up_here","_law_name_here"]:List Str).Nodup:=by decide +kernel
theorem zra:(["_law_arm","_law_kind","_law_up_here"]:List Str).Nodup:=by decide +kernel
theorem zux:(["_law_rule","_law_up_here","_law_call"]:List Str).Nodup:=by decide +kernel
theorem zuy:(["_law_one","_law_up_here","_law_kinds"]:List Str).Nodup:=by decide +kernel
theorem zmf:(["_law_kind","_law_elders","_law_call"]:List Str).Nodup:=by decide +kernel
theorem zng:(["_law_one","_law_two"]:List Str).Nodup:=by decide +kernel
theorem znh:(["_law_one","_law_two"]:List Str).Nodup:=by decide +kernel
theorem zni:(["_law_name_here","_law_elders"]:List Str).Nodup:=by decide +kernel
theorem zabd:(["_law_name_here","_law_elders"]:List Str).Nodup:=by decide +kernel
section
variable(P:Program)(w:World)(K:qC)(mg:Str->Option Value)(base:Heap)
noncomputable abbrev zwi:Prop:=Dn P w K mg base "products" ["rows"] 1 (spD 1 zmo)
noncomputable abbrev zms:Prop:=Dn P w K mg base "names_of" ["web"] 1 (spD 1 zgn)
noncomputable abbrev zqb:Prop:=Dn P w K mg base "names_in" ["arm"] 1 (spD 1 zgo)
noncomputable abbrev zkj:Prop:=Dn P w K mg base "check_kinds" ["web","names"] 2 (spD 2 zdg)
noncomputable abbrev zqc:Prop:=Dn P w K mg base "roofs_of" ["web"] 1 (spD 1 zfr)
noncomputable abbrev zabe:Prop:=Dn P w K mg base "roof_of" ["roofs","arm"] 2 (spD 2 zlt)
noncomputable abbrev zkx:Prop:=Dn P w K mg base "calls_of_names" ["web","places"] 2 (spD 2 zfl)
noncomputable abbrev zmg:Prop:=Dn P w K mg base "names_in_call" ["call"] 2 (spD 1 zgf)
noncomputable abbrev zrb:Prop:=Dn P w K mg base "check_call" ["web","places","call"] 3 (spD 3 ziz)
noncomputable abbrev zmh:Prop:=Dn P w K mg base "roofs_in_call" ["roofs","call"] 3 (spD 2 zev)
noncomputable abbrev zrc:Prop:=Dn P w K mg base "fits_under" ["kinds","call_roofs"] 1 (spD 2 zhm)
noncomputable abbrev zui:Prop:=Dn P w K mg base "is_nearer" ["roofs","one","other"] 1 (spD 3 zgp)
noncomputable abbrev zky:Prop:=Dn P w K mg base "rules_that_fit" ["book","call"] 4 (spD 2 zeg)
noncomputable abbrev zrd:Prop:=Dn P w K mg base "nearest_of" ["roofs","rules"] 2 (spD 2 zhn)
noncomputable abbrev zre:Prop:=Dn P w K mg base "rule_names" ["rules"] 1 (spD 1 zja)
noncomputable abbrev zuj:Prop:=Dn P w K mg base "answer_by" ["names"] 1 (spD 1 zkh)
noncomputable abbrev zabf:Prop:=Dn P w K mg base "nearest" ["book","call"] 5 (spD 2 zor)
noncomputable abbrev znu:Prop:=Dn P w K mg base "answer_of" ["book","call"] 6 (spD 2 zcd)
noncomputable abbrev znv:Prop:=Dn P w K mg base "all_calls" ["book"] 3 (spD 1 zfm)
noncomputable abbrev zafw:Prop:=Dn P w K mg base "parted" ["book","place","kind","other"] 7 (spD 4 zou)
noncomputable abbrev zabg:Prop:=Dn P w K mg base "_law_pen" ["_law_script"] 1 (zags K zjn)
noncomputable abbrev zjw:Prop:=Dn P w K mg base "_law_draw" ["_law_pen_here","_law_many"] 1 (spR penK 2 zaq)
noncomputable abbrev zmt:Prop:=Dn P w K mg base "_law_name" ["_law_pen_here","_law_names"] 2 (spR penK 2 zcj)
noncomputable abbrev zabh:Prop:=Dn P w K mg base "_law_web" ["_law_pen_here","_law_size"] 3 (spR penK 2 zez)
noncomputable abbrev zwj:Prop:=Dn P w K mg base "_law_book" ["_law_pen_here"] 4 (spR penK 1 zhe)
noncomputable abbrev zafx:Prop:=Dn P w K mg base "_law_up" ["_law_web_here"] 1 (spD 1 zjb)
noncomputable abbrev zafy:Prop:=Dn P w K mg base "_law_on" ["_law_up_here","_law_call","_law_kinds"] 1 (spD 3 zcs)
noncomputable abbrev zwk:Prop:=Dn P w K mg base "_law_told" ["_law_up_here","_law_rules","_law_call"] 2 (spD 3 zca)
noncomputable abbrev zuk:Prop:=Dn P w K mg base "_law_calls" ["_law_book_here"] 1 (spD 1 zgr)
noncomputable abbrev zqd:Prop:=Dn P w K mg base "_law_same" ["_law_due","_law_thing"] 8 (spD 2 zid)
noncomputable abbrev zwl:Prop:=Dn P w K mg base "_law_copy" ["_law_book_here"] 1 (spD 1 zjo)
noncomputable abbrev zrf:Prop:=Dn P w K mg base "_law_parted" ["_law_book_here","_law_place","_law_kind","_law_other"] 3 (spD 4 zho)
noncomputable abbrev zul:Prop:=Dn P w K mg base "_law_right" ["_law_book_here","_law_handed","_law_place","_law_kind","_law_other"] 9 (spD 5 zce)
noncomputable abbrev zkz(cl:Str->Addr):Prop:=DnX P w K mg base "check_kinds" ["web","names"] 3 (spX cl 2 zdj)
noncomputable abbrev zum(cl:Str->Addr):Prop:=DnX P w K mg base "parted" ["book","place","kind","other"] 7 (spX cl 4 zfs)
noncomputable abbrev zoy:Prop:=Dn P w K mg base "_law_refused" ["_law_book_here","_law_place","_law_kind","_law_other"] 8 (spD 4 zdt)
end
section
variable{P:Program}{w:World}{K:qC}{mg:Str->Option Value}{base:Heap}
theorem zadt {f:Addr} {fd:qt} (F:Fun K "products" "products" zie f fd) (T:Txt mg)  : FnOk P w K mg base CX0 1 f fd ["rows"] (spD 1 zmo):=by
 refine F.ok zadg (λvs H Q E h=>zbz h) (λcdv A outer s H vs Q E hr h=>?_)
 have hu:=zei hr
 apply Exists.intro
 apply And.intro
 ·refine' Bx.out (zae (bpsS (i:=1) zki rfl (Or.inl rfl) (zci (bpaC (zdq zad) zad)))
 (zae (zec qAF rfl (zbf (K:=K) rfl (bv 0)) (bpgN (i:=2) zki rfl (Or.inr rfl))
  (zak (zajy (i:=1) (zbp (N':=["ahead","thing","row"]) (own:=["ahead","thing"]) (fr:=[2]) (by kernel_rfl)) rfl (zbf (K:=K) rfl (bv 1)) ?hb1 (by rfl) zki rfl rfl (by intro _;rfl) (by intro _ _;rfl))) (by intro _;rfl))
 (zak (zaw (bv 1)))))
  case hb1=>(intro cl C s H fp;refine'⟨Bx.out (bpgN (i:=0) zne rfl (Or.inl rfl)),Bx.out zdr,Bx.out (zbf (K:=K) rfl (bv 2)),Bx.out (bpgN (i:=1) zne rfl (Or.inl rfl)),Bx.out zdr,Bx.out (zbn (ztc (K:=K) rfl) (bv 0) (zdq (bpaC (bv 1) zad)))⟩)
 exact fn_d (f:=zvt) ((zbq (zfg (zen (zac (zgh zam) zam))) (zbq (zji (zcu (zaa 0)) zcq (zfg (zaey (k:=1) (zcu (zaa 1)) zcq (zxj (by decide) (by decide)) (by decide) zfq (zcu (zaa 2)) zcq (zxj (by decide) (by decide)) zfq (zbw ztd (zaa 0) (zgh (zac (zaa 1) zam)))))) zjz))) h
theorem zadu {f:Addr} {fd:qt} (F:Fun K "names_of" "names_of" zif f fd) (T:Txt mg)  : FnOk P w K mg base CX0 1 f fd ["web"] (spD 1 zgn):=by
 refine F.ok zadi (λvs H Q E h=>zbz h) (λcdv A outer s H vs Q E hr h=>?_)
 have hu:=zei hr
 apply Exists.intro
 apply And.intro
 ·refine' Bx.out (zak (zaw (zcb (zbp (N':=["name","elders"]) (own:=["name","elders"]) (fr:=[]) (by kernel_rfl)) rfl (zbf (K:=K) rfl (bv 0)) ?hb1 (by intro _;rfl))))
  case hb1=>(intro cl C s H fp;refine'⟨Bx.out (zcw (K:=K) (n:=2) rfl rfl (zat (bpgN (i:=0) znf rfl (Or.inl rfl)) (zat (bpgN (i:=1) znf rfl (Or.inl rfl)) zcv (by rfl)) (by rfl)) (by rfl) (by rfl)),Bx.out zdr,Bx.out (bv 0)⟩)
 exact fn_d (f:=zjl) ((zco (zdo (zcu (zaa 0)) (zhj (zay (zay zes))) (zlk (zcg (by decide) (zcg (by decide) ziq))) zfq (zaa 0)))) h
theorem zadv {f:Addr} {fd:qt} (F:Fun K "names_in" "names_in" zig f fd) (T:Txt mg)  : FnOk P w K mg base CX0 1 f fd ["arm"] (spD 1 zgo):=by
 refine F.ok zadk (λvs H Q E h=>zbz h) (λcdv A outer s H vs Q E hr h=>?_)
 have hu:=zei hr
 apply Exists.intro
 apply And.intro
 ·refine' Bx.out (zae (zdp (zct (K:=K) rfl (bpeB (zfz (K:=K) rfl) T.isinstance zbx (bpaC (bv 0) (bpaC (zhv (v:=.ty "tuple") (by rfl) T.tuple zgs rfl (by decide) (by decide)) zad))) (λ_=>rfl)) (zak (zaw (bpeT (zmk (K:=K) rfl) T.list zjq (bpaC (bv 0) zad)))) zbt)
 (zak (zaw (zci (bpaC (bv 0) zad)))))
 exact fn_d (f:=zvs) ((zbq (zlc (zjh (zod (zaa 0) zso)) (zco (zhu zxh (zac (zaa 0) zam))) zgb) (zco (zen (zac (zaa 0) zam))))) h
theorem zuz{f:Addr}{fd:qt}(F:Fun K "check_kinds" "check_kinds" zfa f fd)(T:Txt mg)(D_names_of:zms P w K mg base):FnOk P w K mg base CX0 2 f fd ["web","names"] (spD 2 zdg):=by
 refine F.ok zur (λvs H Q E h=>zbz h) (λcdv A outer s H vs Q E hr h=>?_)
 have hu:=zei hr
 apply Exists.intro
 apply And.intro
 ·refine' Bx.out (zae (bpsS (i:=2) zjf rfl (Or.inl rfl) (bpeD D_names_of hr (bpaC (bv 0) zad)))
 (zak (zec qAF rfl (zbf (K:=K) rfl (bv 1)) (bpgN (i:=3) zjf rfl (Or.inl rfl))
  (zak (zdp (zbu (zle (K:=K) rfl) (bv 3) (bv 2) (by rfl)) (zak zzt) zbt)) (by intro _;rfl))))
 exact fn_d (f:=zgd) ((zbq (zfg (zaz (zac (zaa 0) zam))) (zji (zcu (zaa 1)) zcq (zlc (st_t (zbw zacj (zaa 3) (zaa 2))) zaeu zgb)))) h
theorem zadw {f:Addr} {fd:qt} (F:Fun K "roofs_of" "roofs_of" zih f fd) (T:Txt mg)  : FnOk P w K mg base CX0 1 f fd ["web"] (spD 1 zfr):=by
 refine F.ok zadl (λvs H Q E h=>zbz h) (λcdv A outer s H vs Q E hr h=>?_)
 have hu:=zei hr
 apply Exists.intro
 apply And.intro
 ·refine' Bx.out (zae (bpsS (i:=1) zgt rfl (Or.inl rfl) zsw)
 (zae (zec qAF rfl (zbf (K:=K) rfl (bv 0)) (zcw (K:=K) (n:=2) rfl rfl (zat (bpgN (i:=2) zgt rfl (Or.inl rfl)) (zat (bpgN (i:=3) zgt rfl (Or.inl rfl)) zcv (by rfl)) (by rfl)) (by rfl) (by rfl))
  (zae (bpsS (i:=4) zgt rfl (Or.inl rfl) (zanl (zaji (bv 2) zvj zank) rfl rfl (by simp) (by decide)))
 (zae (zec qAF rfl (zbf (K:=K) rfl (bv 3)) (bpgN (i:=5) zgt rfl (Or.inl rfl))
  (zak (zeo (zhr (K:=K) rfl qCX qCQ qCP zzi (bv 4) (bpaC (zke hu (bv 1) (bv 5) (λ_ _=>rfl)) zad) (by rfl) (by rfl) (by rfl) (zao (by rfl)) (by rfl)) (by rfl))) (by intro _;rfl))
 (zak (zxp hu (bv 1) (bv 2) (bv 4) rfl)))) (by intro _;rfl))
 (zak (zaw (bv 1)))))
 exact fn_d (f:=zvp) ((zbq (zfg zacm) (zbq (zji (zcu (zaa 0)) (zhj (zay (zay zes))) (zbq (zfg (zayk (zaa 2) (se_c λ_=>zbl))) (zbq (zji (zcu (zaa 3)) zcq (zaps (zkc (zaa 5)))) (zaiz (zaa 2) (zaa 4))))) zjz))) h
theorem zahb{f:Addr}{fd:qt}(F:Fun K "roof_of" "roof_of" zjr f fd)(T:Txt mg)(D_names_in:zqb P w K mg base):FnOk P w K mg base CX0 2 f fd ["roofs","arm"] (spD 2 zlt):=by
 refine F.ok zagx (λvs H Q E h=>zbz h) (λcdv A outer s H vs Q E hr h=>?_)
 have hu:=zei hr
 apply Exists.intro
 apply And.intro
 ·refine' Bx.out (zae (bpsS (i:=2) zpw rfl (Or.inl rfl) zsw)
 (zae (zec qAF rfl (zbf (K:=K) rfl (bpeD D_names_in hr (bpaC (bv 1) zad))) (bpgN (i:=3) zpw rfl (Or.inl rfl))
  (zak (zeo (zhr (K:=K) rfl qCX qCQ qCP zzi (bv 2) (bpaC (zke hu (bv 0) (bv 3) (λ_ _=>rfl)) zad) (by rfl) (by rfl) (by rfl) (zao (by rfl)) (by rfl)) (by rfl))) (by intro _;rfl))
 (zak (zaw (bv 2)))))
 exact fn_d (f:=zaaj) ((zbq (zfg zacm) (zbq (zji (zcu (zaz (zac (zaa 1) zam))) zcq (zaps (zkc (zaa 3)))) zjz))) h
theorem zqe{f:Addr}{fd:qt}(F:Fun K "calls_of_names" "calls_of_names" zda f fd)(T:Txt mg)(D_names_of:zms P w K mg base)(D_products:zwi P w K mg base):FnOk P w K mg base CX0 2 f fd ["web","places"] (spD 2 zfl):=by
 refine F.ok zpy (λvs H Q E h=>zbz h) (λcdv A outer s H vs Q E hr h=>?_)
 have hu:=zei hr
 apply Exists.intro
 apply And.intro
 ·refine' Bx.out (zak (zaw (bpeD D_products hr (bpaC (zbn zapm (zci (bpaC (bpeD D_names_of hr (bpaC (bv 0) zad)) zad)) (bv 1)) zad))))
 exact fn_d (f:=zkp) ((zco (zaz (zac (zbw zapt (zen (zac (zaz (zac (zaa 0) zam)) zam)) (zaa 1)) zam)))) h
theorem zro{f:Addr}{fd:qt}(F:Fun K "names_in_call" "names_in_call" zdu f fd)(T:Txt mg)(D_names_in:zqb P w K mg base):FnOk P w K mg base CX0 2 f fd ["call"] (spD 1 zgf):=by
 refine F.ok zrk (λvs H Q E h=>zbz h) (λcdv A outer s H vs Q E hr h=>?_)
 have hu:=zei hr
 apply Exists.intro
 apply And.intro
 ·refine' Bx.out (zak (zaw (zajl (zbp (N':=["arm","name"]) (own:=["arm","name"]) (fr:=[]) (by kernel_rfl)) rfl (zbf (K:=K) rfl (bv 0)) ?hb1 (by intro _;rfl) (by intro _ _;rfl))))
  case hb1=>(intro cl C s H fp;refine'⟨Bx.out (bpgN (i:=0) ziv rfl (Or.inl rfl)),Bx.out zdr,Bx.out (zbf (K:=K) rfl (bpeD D_names_in hr (bpaC (bv 0) zad))),Bx.out (bpgN (i:=1) ziv rfl (Or.inl rfl)),Bx.out zdr,Bx.out (bv 1)⟩)
 exact fn_d (f:=zlu) ((zco (zaey (k:=1) (zcu (zaa 0)) zcq (zxj (by decide) (by decide)) (by decide) zfq (zcu (zaz (zac (zaa 0) zam))) zcq (zxj (by decide) (by decide)) zfq (zaa 1)))) h
theorem zyl{f:Addr}{fd:qt}(F:Fun K "check_call" "check_call" zft f fd)(T:Txt mg)(D_check_kinds:zkj P w K mg base)(D_names_in_call:zmg P w K mg base):FnOk P w K mg base CX0 3 f fd ["web","places","call"] (spD 3 ziz):=by
 refine F.ok zyc (λvs H Q E h=>zbz h) (λcdv A outer s H vs Q E hr h=>?_)
 have hu:=zei hr
 apply Exists.intro
 apply And.intro
 ·refine' Bx.out (zae (zdp (zbu (zll (K:=K) rfl hr.units) (bpeB (zff (K:=K) rfl) T.len zhf (bpaC (bv 2) zad)) (bv 1) (zeq _)) (zak zzt) zbt)
 (zak (zeo (bpeD D_check_kinds hr (bpaC (bv 0) (bpaC (bpeD D_names_in_call hr (bpaC (bv 2) zad)) zad))) (by rfl))))
 exact fn_d (f:=zqn) ((zbq (zlc (st_t (zbw zsl (zhu zmy (zac (zaa 2) zam)) (zaa 1))) zaeu zgb) (zaco (zaz (zac (zaa 0) (zac (zaz (zac (zaa 2) zam)) zam)))))) h
theorem zrp{f:Addr}{fd:qt}(F:Fun K "roofs_in_call" "roofs_in_call" zdv f fd)(T:Txt mg)(D_roof_of:zabe P w K mg base):FnOk P w K mg base CX0 3 f fd ["roofs","call"] (spD 2 zev):=by
 refine F.ok zrm (λvs H Q E h=>zbz h) (λcdv A outer s H vs Q E hr h=>?_)
 have hu:=zei hr
 apply Exists.intro
 apply And.intro
 ·refine' Bx.out (zak (zaw (zcb (zbp (N':=["arm","roofs"]) (own:=["arm"]) (fr:=[0]) (by kernel_rfl)) rfl (zbf (K:=K) rfl (bv 1)) ?hb1 (by intro _;rfl))))
  case hb1=>(intro cl C s H fp;refine'⟨Bx.out (bpgN (i:=0) znt rfl (Or.inl rfl)),Bx.out zdr,Bx.out (bpeD D_roof_of hr (bpaC (bv 1) (bpaC (bv 0) zad)))⟩)
 exact fn_d (f:=zlv) ((zco (zdo (zcu (zaa 1)) zcq (zjd (by decide)) zfq (zaz (zac (zaa 1) (zac (zaa 0) zam)))))) h
theorem zym {f:Addr} {fd:qt} (F:Fun K "fits_under" "fits_under" zfu f fd) (T:Txt mg)  : FnOk P w K mg base CX0 1 f fd ["kinds","call_roofs"] (spD 2 zhm):=by
 refine F.ok zye (λvs H Q E h=>zbz h) (λcdv A outer s H vs Q E hr h=>?_)
 have hu:=zei hr
 apply Exists.intro
 apply And.intro
 ·refine' Bx.out (zak (zaw (bpeB (zlf (K:=K) rfl rfl) T.all zov (bpaC (zcb (zbp (N':=["kind","roof"]) (own:=["kind","roof"]) (fr:=[]) (by kernel_rfl)) rfl (zsy (K:=K) rfl rfl T.zip (bpaC (bv 0) (bpaC (bv 1) zad)) (by rfl) (by rfl)) ?hb1 (by intro _;rfl)) zad))))
  case hb1=>(intro cl C s H fp;refine'⟨Bx.out (zcw (K:=K) (n:=2) rfl rfl (zat (bpgN (i:=0) zku rfl (Or.inl rfl)) (zat (bpgN (i:=1) zku rfl (Or.inl rfl)) zcv (by rfl)) (by rfl)) (by rfl) (by rfl)),Bx.out zdr,Bx.out (zact (zajn hu (bv 0) (bv 1)) (by rfl))⟩)
 exact fn_d (f:=zqo) ((zco (zhu zsn (zac (zdo (zzq (zac (zaa 0) (zac (zaa 1) zam))) (zhj (zay (zay zes))) (zlk (zcg (by decide) (zcg (by decide) ziq))) zfq (zapq (zaa 0) (zaa 1))) zam)))) h
theorem zabi {f:Addr} {fd:qt} (F:Fun K "is_nearer" "is_nearer" zgu f fd) (T:Txt mg)  : FnOk P w K mg base CX0 1 f fd ["roofs","one","other"] (spD 3 zgp):=by
 refine F.ok zaar (λvs H Q E h=>zbz h) (λcdv A outer s H vs Q E hr h=>?_)
 have hu:=zei hr
 apply Exists.intro
 apply And.intro
 ·refine' Bx.out (zak (zaw (zpo (zof (zll (K:=K) rfl hr.units) (bv 1) (bv 2) (zeq _)) (zsv (bpeB (zlf (K:=K) rfl rfl) T.all zov (bpaC (zcb (zbp (N':=["low","high","roofs"]) (own:=["low","high"]) (fr:=[0]) (by kernel_rfl)) rfl (zsy (K:=K) rfl rfl T.zip (bpaC (bv 1) (bpaC (bv 2) zad)) (by rfl) (by rfl)) ?hb1 (by intro _;rfl)) zad))))))
  case hb1=>(intro cl C s H fp;refine'⟨Bx.out (zcw (K:=K) (n:=2) rfl rfl (zat (bpgN (i:=0) zme rfl (Or.inl rfl)) (zat (bpgN (i:=1) zme rfl (Or.inl rfl)) zcv (by rfl)) (by rfl)) (by rfl) (by rfl)),Bx.out zdr,Bx.out (zact (zajn hu (bv 1) (zke hu (bv 2) (bv 0) (λ_ _=>rfl))) (by rfl))⟩)
 exact fn_d (f:=ztp) ((zco (zvi (zbw zsl (zaa 1) (zaa 2)) (zhu zsn (zac (zdo (zzq (zac (zaa 1) (zac (zaa 2) zam))) (zhj (zay (zay zes))) (zlk (zcg (by decide) (zcg (by decide) ziq))) zfq (zapq (zaa 1) (zkc (zaa 0)))) zam))))) h
theorem zqf{f:Addr}{fd:qt}(F:Fun K "rules_that_fit" "rules_that_fit" zdb f fd)(T:Txt mg)(D_check_call:zrb P w K mg base)(D_fits_under:zrc P w K mg base)(D_roofs_in_call:zmh P w K mg base)(D_roofs_of:zqc P w K mg base):FnOk P w K mg base CX0 4 f fd ["book","call"] (spD 2 zeg):=by
 refine F.ok zpz (λvs H Q E h=>zbz h) (λcdv A outer s H vs Q E hr h=>?_)
 have hu:=zei hr
 apply Exists.intro
 apply And.intro
 ·refine' Bx.out (zae (zacs (bv 0) (zcw (K:=K) (n:=3) rfl rfl (zat (bpgN (i:=2) zdw rfl (Or.inl rfl)) (zat (bpgN (i:=3) zdw rfl (Or.inl rfl)) (zat (bpgN (i:=4) zdw rfl (Or.inl rfl)) zcv (by rfl)) (by rfl)) (by rfl)) (by rfl) (by rfl)) (by rfl) (by rfl) (by rfl))
 (zae (zeo (bpeD D_check_call hr (bpaC (bv 2) (bpaC (bv 3) (bpaC (bv 1) zad)))) (by rfl))
 (zae (bpsS (i:=5) zdw rfl (Or.inr rfl) (bpeD D_roofs_in_call hr (bpaC (bpeD D_roofs_of hr (bpaC (bv 2) zad)) (bpaC (bv 1) zad))))
 (zak (zaw (zcb (zbp (N':=["rule","call_roofs"]) (own:=["rule"]) (fr:=[5]) (by kernel_rfl)) rfl (zbf (K:=K) rfl (bv 4)) ?hb1 (by intro _;rfl)))))))
  case hb1=>(intro cl C s H fp;refine'⟨Bx.out (bpgN (i:=0) zmw rfl (Or.inl rfl)),Bx.out (zsx (zct (K:=K) rfl (bpeD D_fits_under hr (bpaC (bpeX (zcm (K:=K) rfl) (bv 0) zal) (bpaC (bv 1) zad))) (λ_=>rfl))),Bx.out (bv 0)⟩)
 exact fn_d (f:=zko) ((zbq (zaiy (zaa 0) (zhj (zay (zay (zay zes))))) (zbq (zaco (zaz (zac (zaa 2) (zac (zaa 3) (zac (zaa 1) zam))))) (zbq (zfg (zaz (zac (zaz (zac (zaa 2) zam)) (zac (zaa 1) zam)))) (zco (zdo (zcu (zaa 4)) zcq (zjd (by decide)) (zjh (zaz (zac (zde (se_c λ_=>zaf)) (zac (zaa 1) zam)))) (zaa 0))))))) h
theorem zyn{f:Addr}{fd:qt}(F:Fun K "nearest_of" "nearest_of" zfv f fd)(T:Txt mg)(D_is_nearer:zui P w K mg base):FnOk P w K mg base CX0 2 f fd ["roofs","rules"] (spD 2 zhn):=by
 refine F.ok zyg (λvs H Q E h=>zbz h) (λcdv A outer s H vs Q E hr h=>?_)
 have hu:=zei hr
 apply Exists.intro
 apply And.intro
 ·refine' Bx.out (zak (zaw (zcb (zbp (N':=["rule","roofs","rules"]) (own:=["rule"]) (fr:=[0,1]) (by kernel_rfl)) rfl (zbf (K:=K) rfl (bv 1)) ?hb1 (by intro _;rfl))))
  case hb1=>(intro cl C s H fp;refine'⟨Bx.out (bpgN (i:=0) zrn rfl (Or.inr rfl)),Bx.out (zsx (znp (zct (K:=K) rfl (bpeB (zzj (K:=K) rfl rfl) T.any zafr (bpaC (zcb (zbp (N':=["name","kinds","rule","roofs"]) (own:=["name","kinds"]) (fr:=[0,1]) (by kernel_rfl)) rfl (zbf (K:=K) rfl (bv 2)) ?hb2 (by intro _;rfl)) zad)) (λ_=>rfl)))),Bx.out (bv 0)⟩;case hb2=>(intro cl C s H fp;refine'⟨Bx.out (zcw (K:=K) (n:=2) rfl rfl (zat (bpgN (i:=0) zkv rfl (Or.inl rfl)) (zat (bpgN (i:=1) zkv rfl (Or.inl rfl)) zcv (by rfl)) (by rfl)) (by rfl) (by rfl)),Bx.out zdr,Bx.out (bpeD D_is_nearer hr (bpaC (bv 3) (bpaC (bv 1) (bpaC (bpeX (zcm (K:=K) rfl) (bv 2) zal) zad))))⟩))
 exact fn_d (f:=zqp) ((zco (zdo (zcu (zaa 1)) zcq (zjd (by decide)) (zsm (zjh (zhu zsn (zac (zdo (zcu (zaa 2)) (zhj (zay (zay zes))) (zlk (zcg (by decide) (zcg (by decide) ziq))) zfq (zaz (zac (zaa 3) (zac (zaa 1) (zac (zde (se_c λ_=>zaf)) zam))))) zam)))) (zaa 0)))) h
theorem zyo {f:Addr} {fd:qt} (F:Fun K "rule_names" "rule_names" zfw f fd) (T:Txt mg)  : FnOk P w K mg base CX0 1 f fd ["rules"] (spD 1 zja):=by
 refine F.ok zyi (λvs H Q E h=>zbz h) (λcdv A outer s H vs Q E hr h=>?_)
 have hu:=zei hr
 apply Exists.intro
 apply And.intro
 ·refine' Bx.out (zak (zaw (zcb (zbp (N':=["name","kinds"]) (own:=["name","kinds"]) (fr:=[]) (by kernel_rfl)) rfl (zbf (K:=K) rfl (bv 0)) ?hb1 (by intro _;rfl))))
  case hb1=>(intro cl C s H fp;refine'⟨Bx.out (zcw (K:=K) (n:=2) rfl rfl (zat (bpgN (i:=0) zkw rfl (Or.inl rfl)) (zat (bpgN (i:=1) zkw rfl (Or.inl rfl)) zcv (by rfl)) (by rfl)) (by rfl) (by rfl)),Bx.out zdr,Bx.out (bv 0)⟩)
 exact fn_d (f:=zqq) ((zco (zdo (zcu (zaa 0)) (zhj (zay (zay zes))) (zlk (zcg (by decide) (zcg (by decide) ziq))) zfq (zaa 0)))) h
theorem zabj {f:Addr} {fd:qt} (F:Fun K "answer_by" "answer_by" zgv f fd) (T:Txt mg)  : FnOk P w K mg base CX0 1 f fd ["names"] (spD 1 zkh):=by
 refine F.ok zaat (λvs H Q E h=>zbz h) (λcdv A outer s H vs Q E hr h=>?_)
 have hu:=zei hr
 apply Exists.intro
 apply And.intro
 ·refine' Bx.out (zae (zdp (znp (zct (K:=K) rfl (bv 0) (λ_=>rfl))) (zak (zaw (zdq (bpaC zgl zad)))) zbt)
 (zae (zdp (zbu (zoe (K:=K) rfl hr.units) (bpeB (zff (K:=K) rfl) T.len zhf (bpaC (bv 0) zad)) zal (zeq _)) (zak (zaw (zdq (bpaC zgl (bpaC (bpeX (zcm (K:=K) rfl) (bv 0) zal) zad))))) zbt)
 (zak (zaw (zdq (bpaC zgl (bpaC (bpeT (zkb (K:=K) rfl) T.tuple zgs (bpaC (bv 0) zad)) zad)))))))
 exact fn_d (f:=ztq) ((zbq (zlc (zsm (zjh (zaa 0))) (zco (zgh (zac (se_c λ_=>zch) zam))) zgb) (zbq (zlc (st_t (zbw zxf (zhu zmy (zac (zaa 0) zam)) (se_c λ_=>zaf))) (zco (zgh (zac (se_c λ_=>zch) (zac (zde (se_c λ_=>zaf)) zam)))) zgb) (zco (zgh (zac (se_c λ_=>zch) (zac (zhu zrs (zac (zaa 0) zam)) zam))))))) h
theorem zahc{f:Addr}{fd:qt}(F:Fun K "nearest" "nearest" zjs f fd)(T:Txt mg)(D_nearest_of:zrd P w K mg base)(D_roofs_of:zqc P w K mg base)(D_rule_names:zre P w K mg base)(D_rules_that_fit:zky P w K mg base):FnOk P w K mg base CX0 5 f fd ["book","call"] (spD 2 zor):=by
 refine F.ok zagy (λvs H Q E h=>zbz h) (λcdv A outer s H vs Q E hr h=>?_)
 have hu:=zei hr
 apply Exists.intro
 apply And.intro
 ·refine' Bx.out (zae (bpsS (i:=2) zwb rfl (Or.inl rfl) (bpeD D_rules_that_fit hr (bpaC (bv 0) (bpaC (bv 1) zad))))
 (zak (zaw (bpeD D_rule_names hr (bpaC (bpeD D_nearest_of hr (bpaC (bpeD D_roofs_of hr (bpaC (bpeX (zcm (K:=K) rfl) (bv 0) zal) zad)) (bpaC (bv 2) zad))) zad)))))
 exact fn_d (f:=zaak) ((zbq (zfg (zaz (zac (zaa 0) (zac (zaa 1) zam)))) (zco (zaz (zac (zaz (zac (zaz (zac (zde (se_c λ_=>zaf)) zam)) (zac (zaa 2) zam))) zam))))) h
theorem zabk{f:Addr}{fd:qt}(F:Fun K "answer_of" "answer_of" zgw f fd)(T:Txt mg)(D_answer_by:zuj P w K mg base)(D_nearest:zabf P w K mg base):FnOk P w K mg base CX0 6 f fd ["book","call"] (spD 2 zcd):=by
 refine F.ok zaaw (λvs H Q E h=>zbz h) (λcdv A outer s H vs Q E hr h=>?_)
 have hu:=zei hr
 apply Exists.intro
 apply And.intro
 ·refine' Bx.out (zak (zaw (bpeD D_answer_by hr (bpaC (bpeD D_nearest hr (bpaC (bv 0) (bpaC (bv 1) zad))) zad))))
 exact fn_d (f:=ztr) ((zco (zaz (zac (zaz (zac (zaa 0) (zac (zaa 1) zam))) zam)))) h
theorem zabl{f:Addr}{fd:qt}(F:Fun K "all_calls" "all_calls" zgx f fd)(T:Txt mg)(D_calls_of_names:zkx P w K mg base):FnOk P w K mg base CX0 3 f fd ["book"] (spD 1 zfm):=by
 refine F.ok zaax (λvs H Q E h=>zbz h) (λcdv A outer s H vs Q E hr h=>?_)
 have hu:=zei hr
 apply Exists.intro
 apply And.intro
 ·refine' Bx.out (zae (zacs (bv 0) (zcw (K:=K) (n:=3) rfl rfl (zat (bpgN (i:=1) zjc rfl (Or.inl rfl)) (zat (bpgN (i:=2) zjc rfl (Or.inl rfl)) (zat (bpgN (i:=3) zjc rfl (Or.inl rfl)) zcv (by rfl)) (by rfl)) (by rfl)) (by rfl) (by rfl)) (by rfl) (by rfl) (by rfl))
 (zak (zaw (bpeD D_calls_of_names hr (bpaC (bv 1) (bpaC (bv 2) zad))))))
 exact fn_d (f:=ztu) ((zbq (zaiy (zaa 0) (zhj (zay (zay (zay zes))))) (zco (zaz (zac (zaa 1) (zac (zaa 2) zam)))))) h
theorem zaky{f:Addr}{fd:qt}(F:Fun K "parted" "parted" zmp f fd)(T:Txt mg)(D_all_calls:znv P w K mg base)(D_answer_of:znu P w K mg base)(D_check_kinds:zkj P w K mg base):FnOk P w K mg base CX0 7 f fd ["book","place","kind","other"] (spD 4 zou):=by
 refine F.ok zaku (λvs H Q E h=>zbz h) (λcdv A outer s H vs Q E hr h=>?_)
 have hu:=zei hr
 apply Exists.intro
 apply And.intro
 ·refine' Bx.out (zae (zeo (bpeD D_check_kinds hr (bpaC (bpeX (zcm (K:=K) rfl) (bv 0) zal) (bpaC (zci (bpaC (bv 2) (bpaC (bv 3) zad))) zad))) (by rfl))
 (zae (zec qAF rfl (zbf (K:=K) rfl (bpeD D_all_calls hr (bpaC (bv 0) zad))) (bpgN (i:=4) zua rfl (Or.inl rfl))
  (zae (bpsS (i:=5) zua rfl (Or.inl rfl) (zbn (zcl (K:=K) rfl) (zbn (ztc (K:=K) rfl) (zgc (sl_W (K:=K) rfl) (bv 4) zhx (zhw (bv 1))) (zdq (bpaC (bv 3) zad))) (zgc (sl_W (K:=K) rfl) (bv 4) (zhw (zbn (zcl (K:=K) rfl) (bv 1) zal)) zhx)))
 (zak (zdp (zxo (zbu (zoe (K:=K) rfl hr.units) (bpeX (zcm (K:=K) rfl) (bv 4) (bv 1)) (bv 2) (zeq _)) (zru (zbu (zll (K:=K) rfl hr.units) (bpeD D_answer_of hr (bpaC (bv 0) (bpaC (bv 4) zad))) (bpeD D_answer_of hr (bpaC (bv 0) (bpaC (bv 5) zad))) (zeq _)))).pt (zak (zaw (bv 4))) zbt))) (by intro _;rfl))
 (zak (zaw zxn))))
 exact fn_d (f:=zafq) ((zbq (zaco (zaz (zac (zde (se_c λ_=>zaf)) (zac (zen (zac (zaa 2) (zac (zaa 3) zam))) zam)))) (zbq (zji (zcu (zaz (zac (zaa 0) zam))) zcq (zbq (zfg (zbw zfc (zbw ztd (zvk (zaa 4) znn (zno (zaa 1))) (zgh (zac (zaa 3) zam))) (zvk (zaa 4) (zno (zbw zfc (zaa 1) (se_c λ_=>zaf))) znn))) (zlc (zaiv (st_t (zbw zxf (zde (zaa 1)) (zaa 2))) (st_t (zbw zsl (zaz (zac (zaa 0) (zac (zaa 4) zam))) (zaz (zac (zaa 0) (zac (zaa 5) zam)))))) zjz zgb))) (zco (se_c λ_=>zgk))))) h
theorem zahd{f:Addr}{fd:qt}(F:Fun K "_law_pen" "_law_pen" zjt f fd)(T:Txt mg):FnOk P w K mg base CX0 1 f fd ["_law_script"] (zags K zjn):=by
 refine F.ok zagz (λvs H Q E h=>zajx h) (λcdv A outer s H vs Q E hr h=>?_)
 have hu:=zei hr
 apply Exists.intro
 apply And.intro
 ·refine' Bx.out (zae (bpsS (i:=1) zju rfl (Or.inl rfl) zal)
 (zae (zec qAF rfl (zajk (K:=K) rfl rfl T.enumerate (bpaC (zgc (zarg (K:=K) rfl) (bv 0) zhx (zhw zal)) zad) (by rfl)) (zcw (K:=K) (n:=2) rfl rfl (zat (bpgN (i:=2) zju rfl (Or.inl rfl)) (zat (bpgN (i:=3) zju rfl (Or.inl rfl)) zcv (by rfl)) (by rfl)) (by rfl) (by rfl))
  (zak (bpsS (i:=1) zju rfl (Or.inl rfl) (zbn zrz (zbn (zcl (K:=K) rfl) (zbn (zcl (K:=K) rfl) (zbn zsf (bv 1) zal) (zbn zsf (zbn zrz (bv 3) zal) (zbn (zcl (K:=K) rfl) (zbn zsf (bv 2) (bv 2)) zal))) zal) zal))) (by intro _;rfl))
 (zak (zaw (zci (bpaC (bpeT (zmk (K:=K) rfl) T.list zjq (bpaC (zgc (zarg (K:=K) rfl) (bv 0) zhx (zhw zal)) zad)) (bpaC zal (bpaC (bv 1) (bpaC zal zad)))))))))
 exact zavz (N:=zub) (n:=3) (F:=zos) (g:=eVar 1) rfl ((zbc (zzv (zajo (se_c λ_=>zaf) (by decide))) (zta (zans (zbe zajv zby)) (zasc (zzx (by decide) (zzx (by decide) zanm))) (zanw (zaab (by decide) (zaab (by decide) zanx))) (zzv (zajo (zbw zsj (zbw zfc (zbw zfc (zbw zzl (zaa 1) (se_c λ_=>zaf)) (zbw zzl (zbw zsj (zaa 3) (se_c λ_=>zaf)) (zbw zfc (zbw zzl (zaa 2) (zaa 2)) (se_c λ_=>zaf)))) (se_c λ_=>zaf)) (se_c λ_=>zaf)) (by decide)))))) (zaa 1) zxh h
theorem zadx {f:Addr} {fd:qt} (F:Fun K "_law_draw" "_law_draw" zii f fd) (T:Txt mg)  : FnOk P w K mg base CX0 1 f fd ["_law_pen_here","_law_many"] (spR penK 2 zaq):=by
 refine F.ok zadm (λvs H Q E h=>zxs h) (λcdv A outer s H vs Q E hr h=>?_)
 have hu:=zei hr
 apply Exists.intro
 apply And.intro
 ·refine' Bx.out (zae (zajj qAF (zxo (zbu zaun (bpeX (zcm (K:=K) rfl) (bv 0) zal) (zbn ztg zal zal) (zeq _)) (zru (zbu (zll (K:=K) rfl hr.units) (bpeX (zcm (K:=K) rfl) (bv 0) zal) (zci zad) (zeq _)))).pt (zak (zrv (bv 0) zal (zbn zrz (zhr (K:=K) rfl qAR PySem.F.slot_list_pop PySem.F.type_list_pop zame (bpeX (zcm (K:=K) rfl) (bv 0) zal) (bpaC zal zad) (by rfl) (by rfl) (by rfl) (zao (by rfl)) (by rfl)) (zbn ztg (zbn ztg zal zal) zal)) (by intro _;rfl) (by rfl) (by rfl) (by rfl))))
 (zae (zdp (zbu zaxz (bpeX (zcm (K:=K) rfl) (bv 0) zal) (zbn ztg zal zal) (zeq _)) (zae (bpsS (i:=2) zuc rfl (Or.inl rfl) (zbn zrz (bpeX (zcm (K:=K) rfl) (bv 0) zal) (bv 1)))
 (zae (zrv (bv 0) zal (zbn zabv (bpeX (zcm (K:=K) rfl) (bv 0) zal) (bv 1)) (by intro _;rfl) (by rfl) (by rfl) (by rfl))
 (zak (zaw (bv 2))))) zbt)
 (zae (zrv (bv 0) zal (zbn (zcl (K:=K) rfl) (bpeX (zcm (K:=K) rfl) (bv 0) zal) zal) (by intro _;rfl) (by rfl) (by rfl) (by rfl))
 (zae (zrv (bv 0) zal (zbn zrz (zbn (zcl (K:=K) rfl) (zbn (zcl (K:=K) rfl) (zbn zsf (bpeX (zcm (K:=K) rfl) (bv 0) zal) zal) (zbn zsf (bpeX (zcm (K:=K) rfl) (bv 0) zal) (bpeX (zcm (K:=K) rfl) (bv 0) zal))) zal) zal) (by intro _;rfl) (by rfl) (by rfl) (by rfl))
 (zak (zaw (zbn zrz (zbn zabv (zbn zrz (zbn ztg (bpeX (zcm (K:=K) rfl) (bv 0) zal) zal) zal) zal) (bv 1))))))))
 exact fn_r (by decide) (F:=zvu) ((zbc (zaju 1000 (zary (zarz (zdf zavj (zkf (i:=1)) (zan (zbw zth (se_c λ_=>zaf) (se_c λ_=>zaf))))) zajt) (zxt (i:=1) (zdf zsj zanp (zan (zbw zth (zbw zth (se_c λ_=>zaf) (se_c λ_=>zaf)) (se_c λ_=>zaf)))))) (zbc (zqm (zarz (zdf zayh (zkf (i:=1)) (zan (zbw zth (se_c λ_=>zaf) (se_c λ_=>zaf))))) (zbc (zcc (zdf zsj (zkf (i:=1)) (zan (zaa 1))) (by decide)) (zbc (zxt (i:=1) (zdf zaci (zkf (i:=1)) (zan (zaa 1)))) (zzv zxu))) zln) (zbc (zxt (i:=3) (zdf zfc (zkf (i:=3)) (zan (se_c λ_=>zaf)))) (zbc (zxt (i:=2) (zdf zsj (zdf zfc (zdf zfc (zdf zzl (zkf (i:=2)) (zan (se_c λ_=>zaf))) (zdf zzl (zkf (i:=3)) (zkf (i:=3)))) (zan (se_c λ_=>zaf))) (zan (se_c λ_=>zaf)))) (zsz (zdf zsj (zdf zaci (zdf zsj (zdf zth (zkf (i:=2)) (zan (se_c λ_=>zaf))) (zan (se_c λ_=>zaf))) (zan (se_c λ_=>zaf))) (zan (zaa 1))))))))) h
theorem zady{f:Addr}{fd:qt}(F:Fun K "_law_name" "_law_name" zij f fd)(T:Txt mg)(D_law_draw:zjw P w K mg base):FnOk P w K mg base CX0 2 f fd ["_law_pen_here","_law_names"] (spR penK 2 zcj):=by
 refine F.ok zadn (λvs H Q E h=>zxs h) (λcdv A outer s H vs Q E hr h=>?_)
 have hu:=zei hr
 apply Exists.intro
 apply And.intro
 ·refine' Bx.out (zae (bpsS (i:=2) zee rfl (Or.inr rfl) zgl)
 (zae (bpsS (i:=3) zee rfl (Or.inl rfl) (zhr (K:=K) rfl PySem.F.plainAttrs_str PySem.F.slot_str_join PySem.F.type_str_join zasf zgl (bpaC (zcb (zbp (N':=["_law_k","_law_pen_here","_law_signs"]) (own:=["_law_k"]) (fr:=[0,2]) (by kernel_rfl)) rfl (zic rfl T.range (bpaC (zbn (zcl (K:=K) rfl) zal (bpeD D_law_draw hr (bpaC (bv 0) (bpaC zal zad)))) zad) (by rfl)) ?hb1 (by intro _;rfl)) zad) (by rfl) (by rfl) (by rfl) (zao (by rfl)) (by rfl)))
 (zae (bpsS (i:=4) zee rfl (Or.inl rfl) (bpeD D_law_draw hr (bpaC (bv 0) (bpaC zal zad))))
 (zae (zdp (zxo (zbu (zll (K:=K) rfl hr.units) (bv 1) (zci zad) (zeq _)) (zru (zbu zaun (bv 4) zal (zeq _)))).pt (zae (bpsS (i:=5) zee rfl (Or.inl rfl) (bpeX (zcm (K:=K) rfl) (bv 1) (bpeD D_law_draw hr (bpaC (bv 0) (bpaC (bpeB (zff (K:=K) rfl) T.len zhf (bpaC (bv 1) zad)) zad)))))
 (zak (bpsS (i:=3) zee rfl (Or.inl rfl) (zgc (zarg (K:=K) rfl) (bpeX (zcm (K:=K) rfl) (zci (bpaC (zbn (zcl (K:=K) rfl) (bv 5) (bv 3)) (bpaC (zbn (zcl (K:=K) rfl) (bv 3) (bv 5)) zad))) (bv 4)) zhx (zhw zal))))) zbt)
 (zae (bpsS (i:=6) zee rfl (Or.inl rfl) (zbn (zcl (K:=K) rfl) (zbn zapm (zci (bpaC (bv 3) zad)) zal) (zci (bpaC zgl (bpaC zgl (bpaC zgl (bpaC zgl (bpaC zgl zad))))))))
 (zae (bpsS (i:=3) zee rfl (Or.inl rfl) (bpeX (zcm (K:=K) rfl) (bv 6) (bpeD D_law_draw hr (bpaC (bv 0) (bpaC zal zad)))))
 (zae (zdp (zbu (zapn (K:=K) rfl) (bv 3) (bv 1) (by rfl)) (zak (bpsS (i:=3) zee rfl (Or.inl rfl) (bpeX (zcm (K:=K) rfl) (zcb (zbp (N':=["_law_sign","_law_names"]) (own:=["_law_sign"]) (fr:=[1]) (by kernel_rfl)) rfl (zars (bv 2)) ?hb2 (by intro _;rfl)) zal))) zbt)
 (zak (zaw (bv 3))))))))))
  case hb1=>(intro cl C s H fp;refine'⟨Bx.out (bpgN (i:=0) zut rfl (Or.inl rfl)),Bx.out zdr,Bx.out (bpeX (zcm (K:=K) rfl) (bv 2) (bpeD D_law_draw hr (bpaC (bv 1) (bpaC zal zad))))⟩)
  case hb2=>(intro cl C s H fp;refine'⟨Bx.out (bpgN (i:=0) zuu rfl (Or.inl rfl)),Bx.out (zsx (zbu (zle (K:=K) rfl) (bv 0) (bv 1) (by rfl))),Bx.out (bv 0)⟩)
 exact fn_r (by decide) (F:=zvv) ((zbc (zcc (zan (se_c λ_=>zch)) (by decide)) (zbc (zcc (zanv (zann (kk:=0) (by rfl) (zpr (zbe (zdf zfc (zan (se_c λ_=>zaf)) (zbr (zbe (zan (se_c λ_=>zaf)) zby))) zby)) (zog (by decide)) (zjd (by decide)) zfq (zdf zoa (zan (zaa 2)) (zbr (zbe (zan (se_c λ_=>zaf)) zby))))) (by decide)) (zbc (zcc (zbr (zbe (zan (se_c λ_=>zaf)) zby)) (by decide)) (zbc (zqm (zmm (zaiv (st_t (zbw zsl (zaa 1) (zen zam))) (st_t (zbw zavj (zaa 4) (se_c λ_=>zaf))))) (zbc (zcc (zdf zoa (zan (zaa 1)) (zbr (zbe (zan (zhu zmy (zac (zaa 1) zam))) zby))) (by decide)) (zcc (zan (zaym (zbw zoa (zen (zac (zbw zfc (zaa 5) (zaa 3)) (zac (zbw zfc (zaa 3) (zaa 5)) zam))) (zaa 4)) znn (zno (se_c λ_=>zaf)))) (by decide))) zln) (zbc (zcc (zan (zbw zfc (zbw zapt (zen (zac (zaa 3) zam)) (se_c λ_=>zaf)) (zen (zac (se_c λ_=>zch) (zac (se_c λ_=>zch) (zac (se_c λ_=>zch) (zac (se_c λ_=>zch) (zac (se_c λ_=>zch) zam)))))))) (by decide)) (zbc (zcc (zdf zoa (zan (zaa 6)) (zbr (zbe (zan (se_c λ_=>zaf)) zby))) (by decide)) (zbc (zqm (zmm (st_t (zbw zacj (zaa 3) (zaa 1)))) (zcc (zan (zbw zoa (zdo (zavv (zaa 2)) zcq (zjd (by decide)) (st_t (zbw zacj (zaa 0) (zaa 1))) (zaa 0)) (se_c λ_=>zaf))) (by decide)) zln) (zzv zxu))))))))) h
theorem zahe{f:Addr}{fd:qt}(F:Fun K "_law_web" "_law_web" zjv f fd)(T:Txt mg)(D_law_draw:zjw P w K mg base)(D_law_name:zmt P w K mg base):FnOk P w K mg base CX0 3 f fd ["_law_pen_here","_law_size"] (spR penK 2 zez):=by
 refine F.ok zaha (λvs H Q E h=>zxs h) (λcdv A outer s H vs Q E hr h=>?_)
 have hu:=zei hr
 apply Exists.intro
 apply And.intro
 ·refine' Bx.out (zae (bpsS (i:=2) zgy rfl (Or.inl rfl) (zci zad))
 (zae (bpsS (i:=3) zgy rfl (Or.inl rfl) (zci zad))
 (zae (zec qAF rfl (zic rfl T.range (bpaC (bv 1) zad) (by rfl)) (bpgN (i:=4) zgy rfl (Or.inl rfl))
  (zae (bpsS (i:=5) zgy rfl (Or.inl rfl) (zci zad))
 (zae (zec qAF rfl (zic rfl T.range (bpaC (bpeB (zaht rfl) T.min zaoo (bpaC (bv 4) (bpaC (bpeD D_law_draw hr (bpaC (bv 0) (bpaC zal zad))) zad))) zad) (by rfl)) (bpgN (i:=6) zgy rfl (Or.inl rfl))
  (zae (bpsS (i:=7) zgy rfl (Or.inl rfl) (bpeX (zcm (K:=K) rfl) (bv 3) (bpeD D_law_draw hr (bpaC (bv 0) (bpaC (bv 4) zad)))))
 (zak (zdp (zbu (zle (K:=K) rfl) (bv 7) (bv 5) (by rfl)) (zak (zeo (zhr (K:=K) rfl qAR qAc qAb zhh (bv 5) (bpaC (bv 7) zad) (by rfl) (by rfl) (by rfl) (zao (by rfl)) (by rfl)) (by rfl))) zbt))) (by intro _;rfl))
 (zae (zeo (zhr (K:=K) rfl qAR qAc qAb zhh (bv 3) (bpaC (bpeD D_law_name hr (bpaC (bv 0) (bpaC (bv 3) zad))) zad) (by rfl) (by rfl) (by rfl) (zao (by rfl)) (by rfl)) (by rfl))
 (zak (zeo (zhr (K:=K) rfl qAR qAc qAb zhh (bv 2) (bpaC (zdq (bpaC (bpeX (zcm (K:=K) rfl) (bv 3) (bv 4)) (bpaC (bv 5) zad))) zad) (by rfl) (by rfl) (by rfl) (zao (by rfl)) (by rfl)) (by rfl)))))) (by intro _;rfl))
 (zak (zaw (bv 2))))))
 exact fn_r (by decide) (F:=zot) ((zbc (zcc (zan (zen zam)) (by decide)) (zbc (zcc (zan (zen zam)) (by decide)) (zbc (zta (zafa (zsp (zac (zaa 1) zam))) (zog (by decide)) (zoh (by decide)) (zbc (zcc (zan (zen zam)) (by decide)) (zbc (zta (zpr (zbe (zapu zavl (zbe (zan (zaa 4)) (zbe (zbr (zbe (zan (se_c λ_=>zaf)) zby)) zby))) zby)) (zog (by decide)) (zoh (by decide)) (zbc (zcc (zdf zoa (zan (zaa 3)) (zbr (zbe (zan (zaa 4)) zby))) (by decide)) (zqm (zmm (st_t (zbw zacj (zaa 7) (zaa 5)))) (zpq (zan (zaa 7))) zln))) (zbc (zpq (zbr (zbe (zan (zaa 3)) zby))) (zpq (zan (zgh (zac (zde (zaa 4)) (zac (zaa 5) zam))))))))) (zzv zxu))))) h
theorem zadz{f:Addr}{fd:qt}(F:Fun K "_law_book" "_law_book" zik f fd)(T:Txt mg)(D_law_draw:zjw P w K mg base)(D_law_name:zmt P w K mg base)(D_law_web:zabh P w K mg base):FnOk P w K mg base CX0 4 f fd ["_law_pen_here"] (spR penK 1 zhe):=by
 refine F.ok zado (λvs H Q E h=>zxs h) (λcdv A outer s H vs Q E hr h=>?_)
 have hu:=zei hr
 apply Exists.intro
 apply And.intro
 ·refine' Bx.out (zae (bpsS (i:=1) zdk rfl (Or.inl rfl) (zbn (zcl (K:=K) rfl) zal (bpeD D_law_draw hr (bpaC (bv 0) (bpaC zal zad)))))
 (zae (bpsS (i:=2) zdk rfl (Or.inl rfl) (zbn (zcl (K:=K) rfl) zal (bpeD D_law_draw hr (bpaC (bv 0) (bpaC (bpeX (zcm (K:=K) rfl) (zci (bpaC zal (bpaC zal (bpaC zal zad)))) (zbn zapj (bv 1) zal)) zad)))))
 (zae (zdp (zbu (zoe (K:=K) rfl hr.units) (bpeD D_law_draw hr (bpaC (bv 0) (bpaC zal zad))) zal (zeq _)) (zak (bpsS (i:=2) zdk rfl (Or.inl rfl) (bpeX (zcm (K:=K) rfl) (zci (bpaC zal (bpaC zal (bpaC zal zad)))) (zbn zapj (bv 1) zal)))) zbt)
 (zae (bpsS (i:=3) zdk rfl (Or.inl rfl) (bpeD D_law_web hr (bpaC (bv 0) (bpaC (bv 2) zad))))
 (zae (bpsS (i:=4) zdk rfl (Or.inl rfl) (zci zad))
 (zae (zec qAF rfl (zic rfl T.range (bpaC (bpeD D_law_draw hr (bpaC (bv 0) (bpaC zal zad))) zad) (by rfl)) (bpgN (i:=5) zdk rfl (Or.inl rfl))
  (zae (bpsS (i:=6) zdk rfl (Or.inl rfl) (zci zad))
 (zae (zec qAF rfl (zic rfl T.range (bpaC (bv 1) zad) (by rfl)) (bpgN (i:=7) zdk rfl (Or.inl rfl))
  (zae (bpsS (i:=8) zdk rfl (Or.inl rfl) (bpeD D_law_draw hr (bpaC (bv 0) (bpaC (bv 2) zad))))
 (zak (zeo (zhr (K:=K) rfl qAR qAc qAb zhh (bv 6) (bpaC (bpeX (zcm (K:=K) rfl) (bpeX (zcm (K:=K) rfl) (bv 3) (zbn zabv (bv 8) (zbn (zcl (K:=K) rfl) zal (bpeD D_law_draw hr (bpaC (bv 0) (bpaC zal zad)))))) zal) zad) (by rfl) (by rfl) (by rfl) (zao (by rfl)) (by rfl)) (by rfl)))) (by intro _;rfl))
 (zak (zdp (zbu (zajg (K:=K) rfl hr.units) (bpeT (zkb (K:=K) rfl) T.tuple zgs (bpaC (bv 6) zad)) (zcb (zbp (N':=["_law_rule"]) (own:=["_law_rule"]) (fr:=[]) (by kernel_rfl)) rfl (zbf (K:=K) rfl (bv 4)) ?hb1 (by intro _;rfl)) (by rfl)) (zak (zeo (zhr (K:=K) rfl qAR qAc qAb zhh (bv 4) (bpaC (zdq (bpaC (bpeD D_law_name hr (bpaC (bv 0) (bpaC (zcb (zbp (N':=["_law_rule"]) (own:=["_law_rule"]) (fr:=[]) (by kernel_rfl)) rfl (zbf (K:=K) rfl (bv 4)) ?hb2 (by intro _;rfl)) zad))) (bpaC (bpeT (zkb (K:=K) rfl) T.tuple zgs (bpaC (bv 6) zad)) zad))) zad) (by rfl) (by rfl) (by rfl) (zao (by rfl)) (by rfl)) (by rfl))) zbt)))) (by intro _;rfl))
 (zak (zaw (zdq (bpaC (bv 3) (bpaC (bv 1) (bpaC (bv 4) zad))))))))))))
  case hb1=>(intro cl C s H fp;refine'⟨Bx.out (bpgN (i:=0) zuv rfl (Or.inl rfl)),Bx.out zdr,Bx.out (bpeX (zcm (K:=K) rfl) (bv 0) zal)⟩)
  case hb2=>(intro cl C s H fp;refine'⟨Bx.out (bpgN (i:=0) zuw rfl (Or.inl rfl)),Bx.out zdr,Bx.out (bpeX (zcm (K:=K) rfl) (bv 0) zal)⟩)
 exact fn_r (by decide) (F:=znc) ((zbc (zcc (zdf zfc (zan (se_c λ_=>zaf)) (zbr (zbe (zan (se_c λ_=>zaf)) zby))) (by decide)) (zbc (zcc (zdf zfc (zan (se_c λ_=>zaf)) (zbr (zbe (zan (zbw zoa (zen (zac (se_c λ_=>zaf) (zac (se_c λ_=>zaf) (zac (se_c λ_=>zaf) zam)))) (zbw zapo (zaa 1) (se_c λ_=>zaf)))) zby))) (by decide)) (zbc (zqm (zarz (zdf zxf (zbr (zbe (zan (se_c λ_=>zaf)) zby)) (zan (se_c λ_=>zaf)))) (zcc (zan (zbw zoa (zen (zac (se_c λ_=>zaf) (zac (se_c λ_=>zaf) (zac (se_c λ_=>zaf) zam)))) (zbw zapo (zaa 1) (se_c λ_=>zaf)))) (by decide)) zln) (zbc (zcc (zbr (zbe (zan (zaa 2)) zby)) (by decide)) (zbc (zcc (zan (zen zam)) (by decide)) (zbc (zta (zpr (zbe (zbr (zbe (zan (se_c λ_=>zaf)) zby)) zby)) (zog (by decide)) (zoh (by decide)) (zbc (zcc (zan (zen zam)) (by decide)) (zbc (zta (zafa (zsp (zac (zaa 1) zam))) (zog (by decide)) (zoh (by decide)) (zbc (zcc (zbr (zbe (zan (zaa 2)) zby)) (by decide)) (zpq (zdf zoa (zdf zoa (zan (zaa 3)) (zdf zaci (zan (zaa 8)) (zdf zfc (zan (se_c λ_=>zaf)) (zbr (zbe (zan (se_c λ_=>zaf)) zby))))) (zan (se_c λ_=>zaf)))))) (zqm (zmm (st_t (zbw zavs (zhu zrs (zac (zaa 6) zam)) (zdo (zcu (zaa 4)) zcq (zjd (by decide)) zfq (zde (se_c λ_=>zaf)))))) (zpq (zarw (zbe (zbr (zbe (zan (zdo (zcu (zaa 4)) zcq (zjd (by decide)) zfq (zde (se_c λ_=>zaf)))) zby)) (zbe (zan (zhu zrs (zac (zaa 6) zam))) zby)))) zln)))) (zsz (zan (zgh (zac (zaa 3) (zac (zaa 1) (zac (zaa 4) zam))))))))))))) h
theorem zakz {f:Addr} {fd:qt} (F:Fun K "_law_up" "_law_up" zmq f fd) (T:Txt mg)  : FnOk P w K mg base CX0 1 f fd ["_law_web_here"] (spD 1 zjb):=by
 refine F.ok zakv (λvs H Q E h=>zbz h) (λcdv A outer s H vs Q E hr h=>?_)
 have hu:=zei hr
 apply Exists.intro
 apply And.intro
 ·refine' Bx.out (zae (bpsS (i:=1) zma rfl (Or.inr rfl) zsw)
 (zae (zec qAF rfl (zbf (K:=K) rfl (bv 0)) (zcw (K:=K) (n:=2) rfl rfl (zat (bpgN (i:=2) zma rfl (Or.inr rfl)) (zat (bpgN (i:=3) zma rfl (Or.inl rfl)) zcv (by rfl)) (by rfl)) (by rfl) (by rfl))
  (zae (zxp hu (bv 1) (bv 2) (zci (bpaC (bv 2) zad)) rfl)
 (zak (zec qAF rfl (zbf (K:=K) rfl (bv 3)) (bpgN (i:=4) zma rfl (Or.inl rfl))
  (zak (zxp hu (bv 1) (bv 2) (zbn (zcl (K:=K) rfl) (zke hu (bv 1) (bv 2) (λ_ _=>rfl)) (zcb (zbp (N':=["_law_one","_law_up_here","_law_name_here"]) (own:=["_law_one"]) (fr:=[1,2]) (by kernel_rfl)) rfl (zbf (K:=K) rfl (zke hu (bv 1) (bv 4) (λ_ _=>rfl))) ?hb1 (by intro _;rfl))) rfl)) (by intro _;rfl)))) (by intro _;rfl))
 (zak (zaw (bv 1)))))
  case hb1=>(intro cl C s H fp;refine'⟨Bx.out (bpgN (i:=0) zabc rfl (Or.inl rfl)),Bx.out (zsx (zbu (zle (K:=K) rfl) (bv 0) (zke hu (bv 1) (bv 2) (λ_ _=>rfl)) (by rfl))),Bx.out (bv 0)⟩)
 exact fn_d (f:=zqr) ((zbq (zfg zacm) (zbq (zji (zcu (zaa 0)) (zhj (zay (zay zes))) (zbq (zaiz (zaa 2) (zen (zac (zaa 2) zam))) (zji (zcu (zaa 3)) zcq (zaiz (zaa 2) (zbw zfc (zkc (zaa 2)) (zdo (zcu (zkc (zaa 4))) zcq (zjd (by decide)) (st_t (zbw zacj (zaa 0) (zkc (zaa 2)))) (zaa 0))))))) zjz))) h
theorem zala {f:Addr} {fd:qt} (F:Fun K "_law_on" "_law_on" zmr f fd) (T:Txt mg)  : FnOk P w K mg base CX0 1 f fd ["_law_up_here","_law_call","_law_kinds"] (spD 3 zcs):=by
 refine F.ok zakx (λvs H Q E h=>zbz h) (λcdv A outer s H vs Q E hr h=>?_)
 have hu:=zei hr
 apply Exists.intro
 apply And.intro
 ·refine' Bx.out (zak (zaw (bpeB (zlf (K:=K) rfl rfl) T.all zov (bpaC (zcb (zbp (N':=["_law_arm","_law_kind","_law_up_here"]) (own:=["_law_arm","_law_kind"]) (fr:=[0]) (by kernel_rfl)) rfl (zsy (K:=K) rfl rfl T.zip (bpaC (bv 1) (bpaC (bv 2) zad)) (by rfl) (by rfl)) ?hb1 (by intro _;rfl)) zad))))
  case hb1=>(intro cl C s H fp;refine'⟨Bx.out (zcw (K:=K) (n:=2) rfl rfl (zat (bpgN (i:=0) zra rfl (Or.inl rfl)) (zat (bpgN (i:=1) zra rfl (Or.inl rfl)) zcv (by rfl)) (by rfl)) (by rfl) (by rfl)),Bx.out zdr,Bx.out (zof (zapn (K:=K) rfl) (bv 1) (zke hu (bv 2) (bv 0) (λ_ _=>rfl)) (by rfl))⟩)
 exact fn_d (f:=zqs) ((zco (zhu zsn (zac (zdo (zzq (zac (zaa 1) (zac (zaa 2) zam))) (zhj (zay (zay zes))) (zlk (zcg (by decide) (zcg (by decide) ziq))) zfq (zbw zacj (zaa 1) (zkc (zaa 0)))) zam)))) h
theorem zaea{f:Addr}{fd:qt}(F:Fun K "_law_told" "_law_told" zil f fd)(T:Txt mg)(D_law_on:zafy P w K mg base):FnOk P w K mg base CX0 2 f fd ["_law_up_here","_law_rules","_law_call"] (spD 3 zca):=by
 refine F.ok zadp (λvs H Q E h=>zbz h) (λcdv A outer s H vs Q E hr h=>?_)
 have hu:=zei hr
 apply Exists.intro
 apply And.intro
 ·refine' Bx.out (zae (zzu (i:=3) (zbp (N':=["_law_rule","_law_up_here","_law_call"]) (own:=["_law_rule"]) (fr:=[0,2]) (by kernel_rfl)) rfl (zbf (K:=K) rfl (bv 1)) ?hb1 (by rfl) ziu rfl rfl (by intro _;rfl))
 (zae (bpsS (i:=4) ziu rfl (Or.inl rfl) (zci zad))
 (zae (zec qAF rfl (zbf (K:=K) rfl (bv 3)) (zcw (K:=K) (n:=2) rfl rfl (zat (bpgN (i:=5) ziu rfl (Or.inl rfl)) (zat (bpgN (i:=6) ziu rfl (Or.inr rfl)) zcv (by rfl)) (by rfl)) (by rfl) (by rfl))
  (zak (zdp (znp (zct (K:=K) rfl (bpeB (zzj (K:=K) rfl rfl) T.any zafr (bpaC (zcb (zbp (N':=["_law_one","_law_up_here","_law_kinds"]) (own:=["_law_one"]) (fr:=[0,6]) (by kernel_rfl)) rfl (zbf (K:=K) rfl (bv 3)) ?hb2 (by intro _;rfl)) zad)) (λ_=>rfl))) (zak (zeo (zhr (K:=K) rfl qAR qAc qAb zhh (bv 4) (bpaC (bv 5) zad) (by rfl) (by rfl) (by rfl) (zao (by rfl)) (by rfl)) (by rfl))) zbt)) (by intro _;rfl))
 (zae (zdp (zbu (zoe (K:=K) rfl hr.units) (bv 4) (zci zad) (zeq _)) (zak (zaw (zdq (bpaC zgl zad)))) zbt)
 (zae (zdp (zbu (zoe (K:=K) rfl hr.units) (bpeB (zff (K:=K) rfl) T.len zhf (bpaC (bv 4) zad)) zal (zeq _)) (zak (zaw (zdq (bpaC zgl (bpaC (bpeX (zcm (K:=K) rfl) (bv 4) zal) zad))))) zbt)
 (zak (zaw (zdq (bpaC zgl (bpaC (bpeT (zkb (K:=K) rfl) T.tuple zgs (bpaC (bv 4) zad)) zad))))))))))
  case hb1=>(intro cl C s H fp;refine'⟨Bx.out (bpgN (i:=0) zux rfl (Or.inl rfl)),Bx.out (zsx (zct (K:=K) rfl (bpeD D_law_on hr (bpaC (bv 1) (bpaC (bv 2) (bpaC (bpeX (zcm (K:=K) rfl) (bv 0) zal) zad)))) (λ_=>rfl))),Bx.out (bv 0)⟩)
  case hb2=>(intro cl C s H fp;refine'⟨Bx.out (bpgN (i:=0) zuy rfl (Or.inl rfl)),Bx.out zdr,Bx.out (zpo (zof (zll (K:=K) rfl hr.units) (bpeX (zcm (K:=K) rfl) (bv 0) zal) (bv 2) (zeq _)) (zsv (bpeD D_law_on hr (bpaC (bv 1) (bpaC (bpeX (zcm (K:=K) rfl) (bv 0) zal) (bpaC (bv 2) zad))))))⟩)
 exact fn_d (f:=znb) ((zbq (zfg (zdo (zcu (zaa 1)) zcq (zjd (by decide)) (zjh (zaz (zac (zaa 1) (zac (zaa 2) (zac (zde (se_c λ_=>zaf)) zam))))) (zaa 0))) (zbq (zfg (zen zam)) (zbq (zji (zcu (zaa 3)) (zhj (zay (zay zes))) (zlc (zsm (zjh (zhu zsn (zac (zdo (zcu (zaa 3)) zcq (zjd (by decide)) zfq (zvi (zbw zsl (zde (se_c λ_=>zaf)) (zaa 2)) (zaz (zac (zaa 1) (zac (zde (se_c λ_=>zaf)) (zac (zaa 2) zam)))))) zam)))) (zavm (zaa 5)) zgb)) (zbq (zlc (st_t (zbw zxf (zaa 4) (zen zam))) (zco (zgh (zac (se_c λ_=>zch) zam))) zgb) (zbq (zlc (st_t (zbw zxf (zhu zmy (zac (zaa 4) zam)) (se_c λ_=>zaf))) (zco (zgh (zac (se_c λ_=>zch) (zac (zde (se_c λ_=>zaf)) zam)))) zgb) (zco (zgh (zac (se_c λ_=>zch) (zac (zhu zrs (zac (zaa 4) zam)) zam)))))))))) h
theorem zabm {f:Addr} {fd:qt} (F:Fun K "_law_calls" "_law_calls" zgz f fd) (T:Txt mg)  : FnOk P w K mg base CX0 1 f fd ["_law_book_here"] (spD 1 zgr):=by
 refine F.ok zaaz (λvs H Q E h=>zbz h) (λcdv A outer s H vs Q E hr h=>?_)
 have hu:=zei hr
 apply Exists.intro
 apply And.intro
 ·refine' Bx.out (zae (zacs (bv 0) (zcw (K:=K) (n:=3) rfl rfl (zat (bpgN (i:=1) zdh rfl (Or.inl rfl)) (zat (bpgN (i:=2) zdh rfl (Or.inl rfl)) (zat (bpgN (i:=3) zdh rfl (Or.inl rfl)) zcv (by rfl)) (by rfl)) (by rfl)) (by rfl) (by rfl)) (by rfl) (by rfl) (by rfl))
 (zae (bpsS (i:=4) zdh rfl (Or.inl rfl) (zci (bpaC (zdq zad) zad)))
 (zae (zec qAF rfl (zic rfl T.range (bpaC (bv 2) zad) (by rfl)) (bpgN (i:=5) zdh rfl (Or.inl rfl))
  (zae (bpsS (i:=6) zdh rfl (Or.inl rfl) (zci zad))
 (zae (zec qAF rfl (zbf (K:=K) rfl (bv 4)) (bpgN (i:=7) zdh rfl (Or.inr rfl))
  (zak (zeo (zhr (K:=K) rfl qAR PySem.F.slot_list_extend PySem.F.type_list_extend zaie (bv 6) (bpaC (zcb (zbp (N':=["_law_kind","_law_elders","_law_call"]) (own:=["_law_kind","_law_elders"]) (fr:=[7]) (by kernel_rfl)) rfl (zbf (K:=K) rfl (bv 1)) ?hb1 (by intro _;rfl)) zad) (by rfl) (by rfl) (by rfl) (zao (by rfl)) (by rfl)) (by rfl))) (by intro _;rfl))
 (zak (bpsS (i:=4) zdh rfl (Or.inl rfl) (bv 6))))) (by intro _;rfl))
 (zak (zaw (bv 4))))))
  case hb1=>(intro cl C s H fp;refine'⟨Bx.out (zcw (K:=K) (n:=2) rfl rfl (zat (bpgN (i:=0) zmf rfl (Or.inl rfl)) (zat (bpgN (i:=1) zmf rfl (Or.inl rfl)) zcv (by rfl)) (by rfl)) (by rfl) (by rfl)),Bx.out zdr,Bx.out (zbn (ztc (K:=K) rfl) (bv 2) (zdq (bpaC (bv 0) zad)))⟩)
 exact fn_d (f:=ztv) ((zbq (zaiy (zaa 0) (zhj (zay (zay (zay zes))))) (zbq (zfg (zen (zac (zgh zam) zam))) (zbq (zji (zsp (zac (zaa 2) zam)) zcq (zbq (zfg (zen zam)) (zbq (zji (zcu (zaa 4)) zcq (zawc (zdo (zcu (zaa 1)) (zhj (zay (zay zes))) (zlk (zcg (by decide) (zcg (by decide) ziq))) zfq (zbw ztd (zaa 2) (zgh (zac (zaa 0) zam)))))) (zfg (zaa 6))))) zjz)))) h
theorem zaeb {f:Addr} {fd:qt} (F:Fun K "_law_same" "_law_same" zim f fd) (T:Txt mg)  (hm:mg "_law_same"=some (.ref f)) (hk:qN K (.ref f)=true) (hbd:zrg K fd ["_law_due","_law_thing"] []):∀n:Nat,FnOk P w K mg base CX0 (n+0+1) f fd ["_law_due","_law_thing"] (spD 2 (zfn n)):=by
 intro n
 induction n with
 | zero=>exact F.ok zue (λvs H Q E h=>zbz h) (λcdv A outer s H vs Q E hr h=>by obtain⟨_,_,_,_,_,_,_,e,_⟩:=h;cases e)
 | succ n ih=>
 have D_law_same:Dn P w K mg base "_law_same" ["_law_due","_law_thing"] (n+0+1) (spD 2 (zfn n)):=⟨f,fd,ih,hm,hk,hbd⟩
 rw[show n+1+0+1=(n+0+1)+1 by omega]
 refine F.ok zue (λvs H Q E h=>zbz h) (λcdv A outer s H vs Q E hr h=>?_)
 have hu:=zei hr
 apply Exists.intro
 apply And.intro
 ·refine' Bx.out (zae (zdp (zct (K:=K) rfl (zcn (zfz (K:=K) rfl) (by rfl) T.isinstance zbx (zag (bv 0) (zag (zhv (v:=.ty "str") (by rfl) T.str zafs rfl (by decide) (by decide)) zad (by rfl)) (by rfl)) (by decide) (by decide) (zao (by rfl)) (by rfl)) (λ_=>rfl)) (zak (zaw (zpo (zcn (zfz (K:=K) rfl) (by rfl) T.isinstance zbx (zag (bv 1) (zag (zhv (v:=.ty "str") (by rfl) T.str zafs rfl (by decide) (by decide)) zad (by rfl)) (by rfl)) (by decide) (by decide) (zao (by rfl)) (by rfl)) (zsv (zof (zoe (K:=K) rfl hr.units) (bv 1) (bv 0) (zeq _)))))) zbt)
 (zae (zdp (zct (K:=K) rfl (zcn (zfz (K:=K) rfl) (by rfl) T.isinstance zbx (zag (bv 0) (zag (zhv (v:=.ty "list") (by rfl) T.list zjq rfl (by decide) (by decide)) zad (by rfl)) (by rfl)) (by decide) (by decide) (zao (by rfl)) (by rfl)) (λ_=>rfl)) (zae (zdp (zajh (znp (zct (K:=K) rfl (zcn (zfz (K:=K) rfl) (by rfl) T.isinstance zbx (zag (bv 1) (zag (zhv (v:=.ty "list") (by rfl) T.list zjq rfl (by decide) (by decide)) zad (by rfl)) (by rfl)) (by decide) (by decide) (zao (by rfl)) (by rfl)) (λ_=>rfl))) (zacr (zbu (zll (K:=K) rfl hr.units) (zcn (zff (K:=K) rfl) (by rfl) T.len zhf (zag (bv 1) zad (by rfl)) (by decide) (by decide) (zao (by rfl)) (by rfl)) (zcn (zff (K:=K) rfl) (by rfl) T.len zhf (zag (bv 0) zad (by rfl)) (by decide) (by decide) (zao (by rfl)) (by rfl)) (zeq _)))).pt (zak (zaw zvj)) zbt)
 (zak (zaw (zcn (zlf (K:=K) rfl rfl) (by rfl) T.all zov (zag (zcb (zbp (N':=["_law_one","_law_two"]) (own:=["_law_one","_law_two"]) (fr:=[]) (by kernel_rfl)) rfl (zsy (K:=K) rfl rfl T.zip (zag (bv 0) (zag (bv 1) zad (by rfl)) (by rfl)) (by rfl) (by rfl)) ?hb1 (by intro _;rfl)) zad (by rfl)) (by decide) (by decide) (zao (by rfl)) (by rfl))))) zbt)
 (zae (zdp (zct (K:=K) rfl (zcn (zfz (K:=K) rfl) (by rfl) T.isinstance zbx (zag (bv 0) (zag (zhv (v:=.ty "tuple") (by rfl) T.tuple zgs rfl (by decide) (by decide)) zad (by rfl)) (by rfl)) (by decide) (by decide) (zao (by rfl)) (by rfl)) (λ_=>rfl)) (zae (zdp (zajh (znp (zct (K:=K) rfl (zcn (zfz (K:=K) rfl) (by rfl) T.isinstance zbx (zag (bv 1) (zag (zhv (v:=.ty "tuple") (by rfl) T.tuple zgs rfl (by decide) (by decide)) zad (by rfl)) (by rfl)) (by decide) (by decide) (zao (by rfl)) (by rfl)) (λ_=>rfl))) (zacr (zbu (zll (K:=K) rfl hr.units) (zcn (zff (K:=K) rfl) (by rfl) T.len zhf (zag (bv 1) zad (by rfl)) (by decide) (by decide) (zao (by rfl)) (by rfl)) (zcn (zff (K:=K) rfl) (by rfl) T.len zhf (zag (bv 0) zad (by rfl)) (by decide) (by decide) (zao (by rfl)) (by rfl)) (zeq _)))).pt (zak (zaw zvj)) zbt)
 (zak (zaw (zcn (zlf (K:=K) rfl rfl) (by rfl) T.all zov (zag (zcb (zbp (N':=["_law_one","_law_two"]) (own:=["_law_one","_law_two"]) (fr:=[]) (by kernel_rfl)) rfl (zsy (K:=K) rfl rfl T.zip (zag (bv 0) (zag (bv 1) zad (by rfl)) (by rfl)) (by rfl) (by rfl)) ?hb2 (by intro _;rfl)) zad (by rfl)) (by decide) (by decide) (zao (by rfl)) (by rfl))))) zbt)
 (zak (zaw (zpo (zcn (zfz (K:=K) rfl) (by rfl) T.isinstance zbx (zag (bv 1) (zag (zhv (v:=.ty "int") (by rfl) T.int zaon rfl (by decide) (by decide)) zad (by rfl)) (by rfl)) (by decide) (by decide) (zao (by rfl)) (by rfl)) (zpo (zart (zcn (zfz (K:=K) rfl) (by rfl) T.isinstance zbx (zag (bv 1) (zag (zhv (v:=.ty "bool") (by rfl) T.bool zakt rfl (by decide) (by decide)) zad (by rfl)) (by rfl)) (by decide) (by decide) (zao (by rfl)) (by rfl))) (zsv (zof (zoe (K:=K) rfl hr.units) (bv 1) (bv 0) (zeq _))))))))))
  case hb1=>(intro cl C s H fp;refine'⟨Bx.out (zcw (K:=K) (n:=2) rfl rfl (zat (zkd (i:=0) zng rfl (Or.inl rfl) (by first|exact .inl rfl|exact .inr rfl|assumption)) (zat (zkd (i:=1) zng rfl (Or.inl rfl) (by first|exact .inl rfl|exact .inr rfl|assumption)) zcv (by rfl)) (by rfl)) (by rfl) (by rfl)),Bx.out zdr,Bx.out (zhk D_law_same (hr.mono (qK _)) (by rfl) (zag (bv 0) (zag (bv 1) zad (by rfl)) (by rfl)) (by decide) (zao (by rfl)) (by rfl))⟩)
  case hb2=>(intro cl C s H fp;refine'⟨Bx.out (zcw (K:=K) (n:=2) rfl rfl (zat (zkd (i:=0) znh rfl (Or.inl rfl) (by first|exact .inl rfl|exact .inr rfl|assumption)) (zat (zkd (i:=1) znh rfl (Or.inl rfl) (by first|exact .inl rfl|exact .inr rfl|assumption)) zcv (by rfl)) (by rfl)) (by rfl) (by rfl)),Bx.out zdr,Bx.out (zhk D_law_same (hr.mono (qK _)) (by rfl) (zag (bv 0) (zag (bv 1) zad (by rfl)) (by rfl)) (by decide) (zao (by rfl)) (by rfl))⟩)
 exact fn_d (f:=zpv (zfn n)) ((zbq (zlc (zjh (zod (zaa 0) zaiw)) (zco (zvi (zod (zaa 1) zaiw) (zbw zxf (zaa 1) (zaa 0)))) zgb) (zbq (zlc (zjh (zod (zaa 0) zaes)) (zbq (zlc (zarm (zsm (zjh (zod (zaa 1) zaes))) (st_t (zbw zsl (zhu zmy (zac (zaa 1) zam)) (zhu zmy (zac (zaa 0) zam))))) (zco (se_c λ_=>zbl)) zgb) (zco (zhu zsn (zac (zdo (zzq (zac (zaa 0) (zac (zaa 1) zam))) (zhj (zay (zay zes))) (zlk (zcg (by decide) (zcg (by decide) ziq))) zfq (zaz (zac (zaa 0) (zac (zaa 1) zam)))) zam)))) zgb) (zbq (zlc (zjh (zod (zaa 0) zso)) (zbq (zlc (zarm (zsm (zjh (zod (zaa 1) zso))) (st_t (zbw zsl (zhu zmy (zac (zaa 1) zam)) (zhu zmy (zac (zaa 0) zam))))) (zco (se_c λ_=>zbl)) zgb) (zco (zhu zsn (zac (zdo (zzq (zac (zaa 0) (zac (zaa 1) zam))) (zhj (zay (zay zes))) (zlk (zcg (by decide) (zcg (by decide) ziq))) zfq (zaz (zac (zaa 0) (zac (zaa 1) zam)))) zam)))) zgb) (zco (zvi (zod (zaa 1) zarn) (zvi (zavk (zod (zaa 1) zamw)) (zbw zxf (zaa 1) (zaa 0))))))))) h
theorem zaec {f:Addr} {fd:qt} (F:Fun K "_law_copy" "_law_copy" zin f fd) (T:Txt mg)  : FnOk P w K mg base CX0 1 f fd ["_law_book_here"] (spD 1 zjo):=by
 refine F.ok zads (λvs H Q E h=>zbz h) (λcdv A outer s H vs Q E hr h=>?_)
 have hu:=zei hr
 apply Exists.intro
 apply And.intro
 ·refine' Bx.out (zak (zaw (zdq (bpaC (zcb (zbp (N':=["_law_name_here","_law_elders"]) (own:=["_law_name_here","_law_elders"]) (fr:=[]) (by kernel_rfl)) rfl (zbf (K:=K) rfl (bpeX (zcm (K:=K) rfl) (bv 0) zal)) ?hb1 (by intro _;rfl)) (bpaC (bpeX (zcm (K:=K) rfl) (bv 0) zal) (bpaC (bpeT (zmk (K:=K) rfl) T.list zjq (bpaC (bpeX (zcm (K:=K) rfl) (bv 0) zal) zad)) zad))))))
  case hb1=>(intro cl C s H fp;refine'⟨Bx.out (zcw (K:=K) (n:=2) rfl rfl (zat (bpgN (i:=0) zni rfl (Or.inl rfl)) (zat (bpgN (i:=1) zni rfl (Or.inl rfl)) zcv (by rfl)) (by rfl)) (by rfl) (by rfl)),Bx.out zdr,Bx.out (zdq (bpaC (bv 0) (bpaC (bpeT (zmk (K:=K) rfl) T.list zjq (bpaC (bv 1) zad)) zad)))⟩)
 exact fn_d (f:=zvw) ((zco (zgh (zac (zdo (zcu (zde (se_c λ_=>zaf))) (zhj (zay (zay zes))) (zlk (zcg (by decide) (zcg (by decide) ziq))) zfq (zgh (zac (zaa 0) (zac (zhu zxh (zac (zaa 1) zam)) zam)))) (zac (zde (se_c λ_=>zaf)) (zac (zhu zxh (zac (zde (se_c λ_=>zaf)) zam)) zam)))))) h
theorem zyp{f:Addr}{fd:qt}(F:Fun K "_law_parted" "_law_parted" zfx f fd)(T:Txt mg)(D_law_calls:zuk P w K mg base)(D_law_told:zwk P w K mg base)(D_law_up:zafx P w K mg base):FnOk P w K mg base CX0 3 f fd ["_law_book_here","_law_place","_law_kind","_law_other"] (spD 4 zho):=by
 refine F.ok zyj (λvs H Q E h=>zbz h) (λcdv A outer s H vs Q E hr h=>?_)
 have hu:=zei hr
 apply Exists.intro
 apply And.intro
 ·refine' Bx.out (zae (bpsS (i:=4) zia rfl (Or.inl rfl) (bpeD D_law_up hr (bpaC (bpeX (zcm (K:=K) rfl) (bv 0) zal) zad)))
 (zae (zec qAF rfl (zbf (K:=K) rfl (bpeD D_law_calls hr (bpaC (bv 0) zad))) (bpgN (i:=5) zia rfl (Or.inl rfl))
  (zak (zdp (zbu (zoe (K:=K) rfl hr.units) (bpeX (zcm (K:=K) rfl) (bv 5) (bv 1)) (bv 2) (zeq _)) (zae (bpsS (i:=6) zia rfl (Or.inl rfl) (zbn (zcl (K:=K) rfl) (zbn (ztc (K:=K) rfl) (zgc (sl_W (K:=K) rfl) (bv 5) zhx (zhw (bv 1))) (zdq (bpaC (bv 3) zad))) (zgc (sl_W (K:=K) rfl) (bv 5) (zhw (zbn (zcl (K:=K) rfl) (bv 1) zal)) zhx)))
 (zak (zdp (zbu (zll (K:=K) rfl hr.units) (bpeD D_law_told hr (bpaC (bv 4) (bpaC (bpeX (zcm (K:=K) rfl) (bv 0) zal) (bpaC (bv 5) zad)))) (bpeD D_law_told hr (bpaC (bv 4) (bpaC (bpeX (zcm (K:=K) rfl) (bv 0) zal) (bpaC (bv 6) zad)))) (zeq _)) (zak (zaw (bv 5))) zbt))) zbt)) (by intro _;rfl))
 (zak (zaw zxn))))
 exact fn_d (f:=zqu) ((zbq (zfg (zaz (zac (zde (se_c λ_=>zaf)) zam))) (zbq (zji (zcu (zaz (zac (zaa 0) zam))) zcq (zlc (st_t (zbw zxf (zde (zaa 1)) (zaa 2))) (zbq (zfg (zbw zfc (zbw ztd (zvk (zaa 5) znn (zno (zaa 1))) (zgh (zac (zaa 3) zam))) (zvk (zaa 5) (zno (zbw zfc (zaa 1) (se_c λ_=>zaf))) znn))) (zlc (st_t (zbw zsl (zaz (zac (zaa 4) (zac (zde (se_c λ_=>zaf)) (zac (zaa 5) zam)))) (zaz (zac (zaa 4) (zac (zde (se_c λ_=>zaf)) (zac (zaa 6) zam)))))) zjz zgb)) zgb)) (zco (se_c λ_=>zgk))))) h
theorem zabn{f:Addr}{fd:qt}(F:Fun K "_law_right" "_law_right" zha f fd)(T:Txt mg)(D_law_parted:zrf P w K mg base)(D_law_same:zqd P w K mg base)(D_parted:zafw P w K mg base):FnOk P w K mg base CX0 9 f fd ["_law_book_here","_law_handed","_law_place","_law_kind","_law_other"] (spD 5 zce):=by
 refine F.ok zaba (λvs H Q E h=>zbz h) (λcdv A outer s H vs Q E hr h=>?_)
 have hu:=zei hr
 apply Exists.intro
 apply And.intro
 ·refine' Bx.out (zae (bpsS (i:=5) zmb rfl (Or.inl rfl) (bpeD D_law_parted hr (bpaC (bv 0) (bpaC (bv 2) (bpaC (bv 3) (bpaC (bv 4) zad))))))
 (zae (bpsS (i:=6) zmb rfl (Or.inl rfl) (bpeD D_parted hr (bpaC (bv 1) (bpaC (bv 2) (bpaC (bv 3) (bpaC (bv 4) zad))))))
 (zae (zdp (zaru (zajm (bv 5)) (by first|exact zaej _ (by decide) (by decide)|rfl)) (zak (zaw (zact (zajm (bv 6)) (by first|exact zaej _ (by decide) (by decide)|rfl)))) zbt)
 (zak (zaw (bpeD D_law_same hr (bpaC (bv 5) (bpaC (bv 6) zad))))))))
 exact fn_d (f:=zlx) ((zbq (zfg (zaz (zac (zaa 0) (zac (zaa 2) (zac (zaa 3) (zac (zaa 4) zam)))))) (zbq (zfg (zaz (zac (zaa 1) (zac (zaa 2) (zac (zaa 3) (zac (zaa 4) zam)))))) (zbq (zlc (st_b (zapr (zaa 5))) (zco (zapr (zaa 6))) zgb) (zco (zaz (zac (zaa 5) (zac (zaa 6) zam)))))))) h
theorem zqg{f:Addr}{fd:qt}{cl:Str->Addr}(F:Fun K "check_kinds" "check_kinds" zks f fd)(T:Txt mg)(D_names_of:zms P w K mg base)(X_NoKind:XcOk P w K mg base "NoKind" (cl "NoKind")):FnOk P w K mg base (CXE P w) 3 f fd ["web","names"] (spX cl 2 zdj):=by
 refine zapy F zqa (λvs H Q E h=>zakh h) (λcdv A outer s H vs Q E hr h0k h=>?_)
 have hu:=zei hr
 apply Exists.intro
 apply And.intro
 ·refine' Bx.out (zae (bpsS (i:=2) zhb rfl (Or.inl rfl) (bpeD D_names_of hr (bpaC (bv 0) zad)))
 (zak (zec qCn rfl (zbf (K:=K) rfl (bv 1)) (bpgN (i:=3) zhb rfl (Or.inl rfl))
  (zak (zdp (zbu (zle (K:=K) rfl) (bv 3) (bv 2) (by rfl)) (zak (zakj (C:=cl "NoKind") X_NoKind (hr.mono (by decide)) rfl rfl (zawl h0k) (by rfl) (bv 3) (by decide) (by rfl))) zbt)) (by intro _;rfl))))
 exact fn_x (f:=zfh) ((zacx (zafd (zfg (zaz (zac (zaa 0) zam)))) (zasl (zcu (zaa 1)) zcq (zawj (st_t (zbw zacj (zaa 3) (zaa 2))) (zakg (zaa 3)) (zafd zgb))))) h
theorem zabo{f:Addr}{fd:qt}{cl:Str->Addr}(F:Fun K "parted" "parted" zug f fd)(T:Txt mg)(D_all_calls:znv P w K mg base)(D_answer_of:znu P w K mg base)(D_check_kinds__X:zkz P w K mg base cl):FnOk P w K mg base (CXE P w) 7 f fd ["book","place","kind","other"] (spX cl 4 zfs):=by
 refine zapy F zabb (λvs H Q E h=>zakh h) (λcdv A outer s H vs Q E hr h0k h=>?_)
 have hu:=zei hr
 apply Exists.intro
 apply And.intro
 ·refine' Bx.out (zae (zeo (zaso D_check_kinds__X (zasi h0k) (hr.mono (by decide)) (by rfl) (bpaC (bpeX (zcm (K:=K) rfl) (bv 0) zal) (bpaC (zci (bpaC (bv 2) (bpaC (bv 3) zad))) zad)) (by decide) (zao (by rfl)) (by rfl)) (by rfl))
 (zae (zec qCn rfl (zbf (K:=K) rfl (bpeD D_all_calls hr (bpaC (bv 0) zad))) (bpgN (i:=4) zmd rfl (Or.inl rfl))
  (zae (bpsS (i:=5) zmd rfl (Or.inl rfl) (zbn (zcl (K:=K) rfl) (zbn (ztc (K:=K) rfl) (zgc (sl_W (K:=K) rfl) (bv 4) zhx (zhw (bv 1))) (zdq (bpaC (bv 3) zad))) (zgc (sl_W (K:=K) rfl) (bv 4) (zhw (zbn (zcl (K:=K) rfl) (bv 1) zal)) zhx)))
 (zak (zdp (zxo (zbu (zoe (K:=K) rfl hr.units) (bpeX (zcm (K:=K) rfl) (bv 4) (bv 1)) (bv 2) (zeq _)) (zru (zbu (zll (K:=K) rfl hr.units) (bpeD D_answer_of hr (bpaC (bv 0) (bpaC (bv 4) zad))) (bpeD D_answer_of hr (bpaC (bv 0) (bpaC (bv 5) zad))) (zeq _)))).pt (zak (zaw (bv 4))) zbt))) (by intro _;rfl))
 (zak (zaw zxn))))
 exact fn_x (f:=zqt) ((zacx (zaof (zac (zde (se_c λ_=>zaf)) (zac (zen (zac (zaa 2) (zac (zaa 3) zam))) zam))) (zacx (zafd (zji (zcu (zaz (zac (zaa 0) zam))) zcq (zbq (zfg (zbw zfc (zbw ztd (zvk (zaa 4) znn (zno (zaa 1))) (zgh (zac (zaa 3) zam))) (zvk (zaa 4) (zno (zbw zfc (zaa 1) (se_c λ_=>zaf))) znn))) (zlc (zaiv (st_t (zbw zxf (zde (zaa 1)) (zaa 2))) (st_t (zbw zsl (zaz (zac (zaa 0) (zac (zaa 4) zam))) (zaz (zac (zaa 0) (zac (zaa 5) zam)))))) zjz zgb)))) (zafd (zco (se_c λ_=>zgk)))))) h
theorem zva{f:Addr}{fd:qt}{cl:Str->Addr}(F:Fun K "_law_refused" "_law_refused" zfb f fd)(T:Txt mg)(D_parted__X:zum P w K mg base cl)(XK:XKit P w K mg base cl ["NoKind"] [] "NoKind")(XU:XUp K mg cl ["NoKind"] "CallError"):FnOk P w K mg base CX0 8 f fd ["_law_book_here","_law_place","_law_kind","_law_other"] (spD 4 zdt):=by
 refine F.ok zus (λvs H Q E h=>zbz h) (λcdv A outer s H vs Q E hr h=>?_)
 have hu:=zei hr
 apply Exists.intro
 apply And.intro
 ·refine' Bx.out (zae (zaok (j:=4) D_parted__X XK (hr.mono (by decide)) (by rfl) (bpaC (bv 0) (bpaC (bv 1) (bpaC (bv 2) (bpaC (bv 3) zad)))) znd rfl rfl rfl rfl (by rfl) (λ_ _ _ hxm hxcl=>(zak (zaw (zdq (bpaC (bpeB (zakk (K:=K) rfl hxm hxcl) T.isinstance zbx (bpaC (bv 4) (bpaC (zaoh (by rfl) XU.mg (by decide)) zad))) (bpaC (zaoi (K:=K) rfl hxm (bv 4) (by rfl)) zad)))))) (by decide) (by decide) (zao (by rfl)) (by rfl) (by rfl))
 (zak (zaw zxn)))
 exact fn_d (f:=zjp) ((zbq (zasx (cl:=cl) 5 (by decide) (zac (zaa 0) (zac (zaa 1) (zac (zaa 2) (zac (zaa 3) zam)))) (by intro xc hxc xd;exact(zasy (zasr (zafe (zasp (XU.kit xc hxc)) (zafe zawn zasq)))))) (zco (se_c λ_=>zgk)))) h
end
theorem zem{w:OF}{a b:EF}{env:DEnv}{x y:Val}{d:PyData}{fr:Bool}(h1:a env=some x)(h2:b env=some y)(h3:w x.d y.d=some (d,fr)):eOp w a b env=some ⟨d,fr,bsOf d (x.bs++y.bs)⟩:=by unfold eOp;rw[h1,h2];show((w x.d y.d).bind _)=_;rw[h3];rfl
structure PenB(n:Nat)(st:Pen):Prop where
 few:st.cells.length<=63
 lo:0<=st.cnt
 hi:st.cnt+n<=1000000
theorem PenB.mono{n m:Nat}{st:Pen}(h:PenB m st)(l:n<=m):PenB n st:=⟨h.few,h.lo,by have:=h.hi;omega⟩
noncomputable abbrev drE(k:Int)(s:Sl):DEnv:=[.no,.pl (.int k),s]
noncomputable abbrev drC:TFr Pen:=qAnd (qB (rOp ltD (rGet 1) (zap (eOp powB (eC (.int 10)) (eC (.int 18)))))) zvl
noncomputable abbrev drB:SFr Pen:=rPut 1 (rOp modD zajr (zap (eOp powB (eOp powB (eC (.int 10)) (eC (.int 50))) (eC (.int 8)))))
theorem zaxa(env:DEnv):eOp powB (eC (.int 10)) (eC (.int 18)) env=some ⟨.int 1000000000000000000,false,[]⟩:=by
 have e:powB (.int 10) (.int 18)=some (.int 1000000000000000000,false):=by
  unfold powB intD
  dsimp only
  rw[if_pos (by decide +kernel)]
  rfl
 exact zem rfl rfl e
theorem zaxb(env:DEnv):∃N:Int,0<N/\eOp powB (eOp powB (eC (.int 10)) (eC (.int 50))) (eC (.int 8)) env=some ⟨.int N,false,[]⟩:=by
 have e1:powB (.int 10) (.int 50)=some (.int (10 ^ 50),false):=by
  unfold powB intD
  dsimp only
  rw[if_pos (by decide +kernel)]
  rfl
 have e2:powB (.int (10 ^ 50)) (.int 8)=some (.int ((10 ^ 50) ^ 8),false):=by
  unfold powB intD
  dsimp only
  rw[if_pos (by decide +kernel)]
  rfl
 exact⟨(10 ^ 50) ^ 8,by decide +kernel,zem (zem rfl rfl e1) rfl e2⟩
theorem zwm{k:Int}{s:Sl}:∀(n:Nat)(st:Pen),st.cells.length<n->st.cells.length<=63->∃st',zkn drC drB n (drE k s) st=some (.nx (drE k s) st')/\st'.cells.length<=63/\st'.cnt=st.cnt
 | 0,st,h,_=>absurd h (Nat.not_lt_zero _)
 | n+1,st,h,hl=>by
  have c1:qB (rOp ltD (rGet 1) (zap (eOp powB (eC (.int 10)) (eC (.int 18))))) (drE k s) st=some (decide (st.acc<1000000000000000000),st):=by
   unfold qB
   rw[zds (T:=Pen) (x:=⟨.int st.acc,false,[]⟩) (s1:=st) rfl (zcr (zaxa _)) rfl]
   rfl
  have c2:zvl (drE k s) st=some (!st.cells.isEmpty,st):=by unfold zvl;rw[if_pos (by omega)]
  by_cases h1:st.acc<1000000000000000000
  ·have c3:drC (drE k s) st=some (!st.cells.isEmpty,st):=by
    show qAnd _ _ _ _=_
    unfold qAnd
    rw[c1,decide_eq_true h1]
    exact c2
   cases hc:st.cells with
   | nil=>
    refine⟨st,?_,hl,rfl⟩
    unfold zkn
    rw[c3,hc];rfl
   | cons c cs=>
    obtain⟨N,hN,eN⟩:=zaxb (drE k s)
    have b1:drB (drE k s) st=some (.nx (drE k s) ⟨cs,c % N,st.seed,st.cnt⟩):=by
     show rPut _ _ _ _=_
     unfold rPut
     rw[zds (T:=Pen) (x:=⟨.int c,false,[]⟩) (s1:={st with cells:=cs}) (by unfold zajr;rw[hc]) (zcr eN) (show modD (.int c) (.int N)=some (.int (c % N),false) by unfold modD intD;dsimp only;rw[if_pos (decide_eq_true hN)])]
     rfl
    have hl':cs.length<n:=by rw[hc]at h;exact Nat.lt_of_succ_lt_succ h
    have hl2:cs.length<=63:=by rw[hc]at hl;exact qBu hl
    obtain⟨st',w1,w2,w3⟩:=zwm n (⟨cs,c % N,st.seed,st.cnt⟩:Pen) hl' hl2
    refine⟨st',?_,w2,w3⟩
    unfold zkn
    rw[c3,hc]
    show((drB (drE k s) st).bind _)=_
    rw[b1]
    exact w1
  ·refine⟨st,?_,hl,rfl⟩
   have c3:drC (drE k s) st=some (false,st):=by
    show qAnd _ _ _ _=_
    unfold qAnd
    rw[c1,decide_eq_false h1]
    rfl
   unfold zkn
   rw[c3];rfl
theorem zwn{i j:Int}(h:0<j):modD (.int i) (.int j)=some (.int (i % j),false):=by unfold modD intD;dsimp only;rw[if_pos (decide_eq_true h)]
theorem zaed{i j:Int}(h:0<j)(h2:j<1073741824):zzk (.int i) (.int j)=some (.int (i / j),false):=by unfold zzk intD;dsimp only;rw[if_pos (decide_eq_true ⟨h,h2⟩)]
theorem zyq{i j:Int}(h1:-(2 ^ 64)<j)(h2:j<2 ^ 64):mulD (.int i) (.int j)=some (.int (i * j),false):=by unfold mulD;dsimp only;rw[if_pos (.inr ⟨h1,h2⟩)]
theorem zatd{i:Int}(h1:0<=i)(h2:i<2147483647):powB (.int i) (.int 3)=some (.int (i ^ 3),false):=by
 unfold powB intD
 dsimp only
 rw[if_pos ?_]
 ·rfl
 ·rw[qm]
  refine⟨by decide,decide_eq_true ?_⟩
  have:i.natAbs<2147483647:=by omega
  exact qh this (by decide +kernel)
theorem zaxc{n:Nat}{st:Pen}(h:PenB (n+1) st){k:Int}(k1:1<=k)(k2:k<=1000):∃r st',zaq [.int k] st=some (.int r,false,st')/\0<=r/\r<k/\PenB n st':=by
 obtain⟨s1,w1,l1,c1⟩:=zwm (k:=k) (s:=.no) 1000 st (by have:=h.few;omega) h.few
 have lo:0<=s1.cnt:=by rw[c1];exact h.lo
 have hi:s1.cnt+(n+1:Nat)<=1000000:=by rw[c1];exact h.hi
 have t1:qB (rOp geD (rGet 1) (zap (eOp powB (eC (.int 10)) (eC (.int 18))))) (drE k .no) s1=some (decide (1000000000000000000<=s1.acc),s1):=by
  unfold qB
  rw[zds (T:=Pen) (x:=⟨.int s1.acc,false,[]⟩) (s1:=s1) rfl (zcr (zaxa _)) rfl]
  rfl
 by_cases hA:1000000000000000000<=s1.acc
 ·rw[decide_eq_true hA]at t1
  refine⟨s1.acc % k,{s1 with acc:=s1.acc / k},?_,qB5 _ (by omega),qBm _ (by omega),⟨l1,lo,by show s1.cnt+(n:Int)<=_;omega⟩⟩
  refine zaad (env:=drE k .no) rfl (zax w1 (zasg (zagt t1 ?_)))
  refine zax (e1:=drE k (.pl (.int (s1.acc % k)))) (s1:=s1) (zcz (zds (T:=Pen) (x:=⟨.int s1.acc,false,[]⟩) (y:=⟨.int k,false,[]⟩) (s1:=s1) rfl rfl (zwn (by omega)))) ?_
  refine zax (e1:=drE k (.pl (.int (s1.acc % k)))) (s1:={s1 with acc:=s1.acc / k}) ?_ rfl
  unfold rPut
  rw[zds (T:=Pen) (x:=⟨.int s1.acc,false,[]⟩) (y:=⟨.int k,false,[]⟩) (s1:=s1) rfl rfl (zaed (by omega) (by omega))]
  rfl
 ·rw[decide_eq_false hA]at t1
  have m1:0<=(s1.seed * 48271+(s1.cnt+1) * (s1.cnt+1)+11) % 2147483647:=qB5 _ (by decide)
  have m2:(s1.seed * 48271+(s1.cnt+1) * (s1.cnt+1)+11) % 2147483647<2147483647:=qBm _ (by decide)
  generalize hsd:(s1.seed * 48271+(s1.cnt+1) * (s1.cnt+1)+11) % 2147483647=sd at m1 m2
  refine⟨sd ^ 3 % 2305843009213693951 / 64 % k,⟨s1.cells,s1.acc,sd,s1.cnt+1⟩,?_,qB5 _ (by omega),qBm _ (by omega),⟨l1,by show 0<=s1.cnt+1;omega,by show s1.cnt+1+(n:Int)<=_;omega⟩⟩
  refine zaad (env:=drE k .no) rfl (zax w1 (zax (zaac t1 rfl) ?_))
  refine zax (e1:=drE k .no) (s1:={s1 with cnt:=s1.cnt+1}) rfl ?_
  refine zax (e1:=drE k .no) (s1:=⟨s1.cells,s1.acc,sd,s1.cnt+1⟩) ?_ ?_
  ·unfold rPut
   rw[zds (T:=Pen) (x:=⟨.int (s1.seed * 48271+(s1.cnt+1) * (s1.cnt+1)+11),false,[]⟩) (y:=⟨.int 2147483647,false,[]⟩) (s1:={s1 with cnt:=s1.cnt+1})
    (zds (T:=Pen) (x:=⟨.int (s1.seed * 48271+(s1.cnt+1) * (s1.cnt+1)),false,[]⟩) (y:=⟨.int 11,false,[]⟩) (s1:={s1 with cnt:=s1.cnt+1})
     (zds (T:=Pen) (x:=⟨.int (s1.seed * 48271),false,[]⟩) (y:=⟨.int ((s1.cnt+1) * (s1.cnt+1)),false,[]⟩) (s1:={s1 with cnt:=s1.cnt+1})
      (zds (T:=Pen) (x:=⟨.int s1.seed,false,[]⟩) (y:=⟨.int 48271,false,[]⟩) (s1:={s1 with cnt:=s1.cnt+1}) rfl rfl (zyq (by decide) (by decide)))
      (zds (T:=Pen) (x:=⟨.int (s1.cnt+1),false,[]⟩) (y:=⟨.int (s1.cnt+1),false,[]⟩) (s1:={s1 with cnt:=s1.cnt+1}) rfl rfl (zyq (by omega) (by omega))) rfl) rfl rfl) rfl (zwn (by decide))]
   rw[hsd];rfl
  ·refine zacu (zds (T:=Pen) (x:=⟨.int (sd ^ 3 % 2305843009213693951 / 64),false,[]⟩) (y:=⟨.int k,false,[]⟩) (s1:=⟨s1.cells,s1.acc,sd,s1.cnt+1⟩) ?_ rfl (zwn (by omega)))
   refine zds (T:=Pen) (x:=⟨.int (sd ^ 3 % 2305843009213693951),false,[]⟩) (y:=⟨.int 64,false,[]⟩) (s1:=⟨s1.cells,s1.acc,sd,s1.cnt+1⟩) ?_ rfl (zaed (by decide) (by decide))
   refine zds (T:=Pen) (x:=⟨.int (sd ^ 3),false,[]⟩) (y:=⟨.int 2305843009213693951,false,[]⟩) (s1:=⟨s1.cells,s1.acc,sd,s1.cnt+1⟩) ?_ rfl (zwn (by decide))
   exact zds (T:=Pen) (x:=⟨.int sd,false,[]⟩) (y:=⟨.int 3,false,[]⟩) (s1:=⟨s1.cells,s1.acc,sd,s1.cnt+1⟩) rfl rfl (zatd m1 m2)
theorem zaxd{a b:EF}{env:DEnv}{x y:List Str}{f1 f2:Bool}{b1 b2:List Nat}(ha:a env=some ⟨zaj x,f1,b1⟩)(hb:b env=some ⟨zaj y,f2,b2⟩)(h:x.length+y.length<=100000):eOp addD a b env=some ⟨zaj (x++y),true,b1++b2⟩:=by
 unfold eOp
 rw[ha,hb]
 show((if(x.map PyData.str).length+(y.map PyData.str).length<=100000 then some (PyData.list (x.map .str++y.map .str),true)else none).bind λz=>some (⟨z.1,z.2,bsOf z.1 (b1++b2)⟩:Val))=_
 rw[if_pos (by rw[qE,qE];exact h),<- qg]
 rfl
section
variable{A0 A2 A6 s8 s9:Sl}{ds:List PyData}{xs:List Str}{r:Int}{n at_:Nat}
end
noncomputable def Hd(d:PyData)(s:Sl):Prop:=s=.pl d\/s=.ac d
theorem e_hd{env:DEnv}{i:Nat}{d:PyData}{s:Sl}(h:env[i]?=some s)(hs:Hd d s):∃bs,eVar i env=some ⟨d,false,bs⟩:=by
 unfold eVar
 rw[h]
 rcases hs with rfl|rfl
 ·exact⟨_,rfl⟩
 ·exact⟨_,rfl⟩
section
variable{A0 A2 A6 s8 s9:Sl}{ds:List PyData}{xs:List Str}{r:Int}{n at_:Nat}
end
theorem zabp:∀(l:List (List Str)),(∀ks∈l,LowS ks)->qAL (l.map zai)=true/\qp (l.map zai)<=1
 | [],_=>⟨rfl,by simp[qp]⟩
 | ks::l,h=>by
  obtain⟨h1,h2⟩:=zabp l λx hx=>h x (qW _ hx)
  obtain⟨g1,g2⟩:=zop ks (h ks qo)
  constructor
  ·rw[qf]
   simp only[qAL,zai,PyData.canLay0,qm]
   exact⟨g1,h1⟩
  ·rw[qf]
   simp only[qp,zai,PyData.depth]
   rw[g2]
   have:qp (l.map λks=>PyData.tuple (ks.map .str))<=1:=h2
   omega
theorem zaee{l:List (List Str)}(h:∀ks∈l,LowS ks):qx (.list (l.map zai))=true:=by
 obtain⟨h1,h2⟩:=zabp l h
 unfold qx
 rw[qm]
 refine⟨by simpa [PyData.canLay0]using h1,decide_eq_true ?_⟩
 simp only[PyData.depth]
 omega
theorem zalb(l:List (List Str))(ks:List Str):((l.map zai).any λe=>qz e (zai ks))=decide (ks∈l):=by
 rw[qBj,qAh,qA8,decide_eq_true_iff]
 have e:∀a b:List Str,qz (zai a) (zai b)=(a==b):=λa b=>by
  unfold zai
  simp only[qz]
  exact zya a b
 constructor
 ·rintro⟨y,hy,h⟩
  have h:qz (zai y) (zai ks)=true:=h
  rw[e,beq_iff_eq]at h
  rw[<- h];exact hy
 ·intro h
  refine⟨ks,h,?_⟩
  show qz (zai ks) (zai ks)=true
  rw[e];exact beq_self_eq_true _
theorem zate{neg:Bool}{l:List (List Str)}{ks:List Str}(h:∀x∈l,LowS x)(hk:LowS ks):inS neg (zai ks) (.list (l.map zai))=some (.bool (if neg then !decide (ks∈l)else decide (ks∈l)),false):=by
 unfold inS
 simp only[zhi]
 rw[if_pos ⟨zlw hk,zaee h⟩,zalb]
noncomputable abbrev Rule:=Str×List Str
theorem zkk{xs:List Str}(h:∀x∈xs,qAd x=true):qx (zaj xs)=true:=by
 obtain⟨h1,h2⟩:=zop xs h
 unfold qx zaj
 rw[qm]
 refine⟨h1,decide_eq_true ?_⟩
 show qp (xs.map .str)+1<=64
 omega
theorem zun{α:Type}{l:List α}{i:Int}(h0:0<=i)(h1:i<l.length):∃x,atI l i=some x/\x∈l:=by
 have hn:i.toNat<l.length:=by omega
 refine⟨l[i.toNat],?_,qBx _⟩
 have:=zsb (xs:=l) (j:=i.toNat) (qS hn)
 rw[show((i.toNat:Nat):Int)=i by omega]at this
 exact this
theorem zmx{n:Nat}{a:EFr Pen}{env:DEnv}{st s1:Pen}{k:Int}{bs:List Nat}(ha:a env st=some (⟨.int k,false,bs⟩,s1))(h:PenB (n+1) s1)(k1:1<=k)(k2:k<=1000) :
  ∃r s2,zbi 2 zaq (zbo a rNil) env st=some (vi r,s2)/\0<=r/\r<k/\PenB n s2:=by
 obtain⟨r,s2,e,r0,r1,hb⟩:=zaxc h k1 k2
 exact⟨r,s2,zir (zed ha rfl) rfl e,r0,r1,hb⟩
noncomputable abbrev letE:EFr Pen:=rOp ixD (zap (eVar 2)) (zbi 2 zaq (zbo (zap (eC (.int 26))) rNil))
theorem ix_abc{i:Int}(h0:0<=i)(h1:i<26):ixD (.str abc) (.int i)=some (.str (ltr i),false):=by
 unfold ixD
 dsimp only
 rw[if_pos (by rw[zadc];decide),zaqa h0 h1]
 simp[ltr]
theorem zalc:∀(l:List Nat)(n:Nat)(st:Pen),PenB (n+l.length) st->∃(cs:List Int)(st':Pen),zlo (gN 0) zcf letE [.no,.no,.pl (.str abc)] (l.map λ(k:Nat)=>PyData.int (k:Int)) st=some (cs.map (λc=>.str (ltr c)),st')/\cs.length=l.length/\(∀c∈cs,0<=c/\c<26)/\PenB n st'
 | [],n,st,h=>⟨[],st,rfl,rfl,(λc hc=>nomatch hc),h⟩
 | k::l,n,st,h=>by
  obtain⟨r,s2,e,r0,r1,hb⟩:=zmx (n:=n+l.length) (a:=zap (eC (.int 26))) (env:=[.pl (.int (k:Int)),.no,.pl (.str abc)]) (st:=st) (s1:=st) (bs:=[]) rfl (h.mono (by simp;omega)) (by decide) (by decide)
  obtain⟨cs,st',e2,l2,c2,h2⟩:=zalc l n s2 hb
  refine⟨r::cs,st',?_,by simp[l2],λc hc=>?_,h2⟩
  ·have e1:letE [.pl (.int (k:Int)),.no,.pl (.str abc)] st=some (vs (ltr r),s2):=zds (T:=Pen) (x:=vs abc) (y:=vi r) (s1:=st) rfl e (ix_abc r0 r1)
   rw[qf]
   unfold zlo
   show((letE [.pl (.int (k:Int)),.no,.pl (.str abc)] st).bind _)=_
   rw[e1]
   show((zlo (gN 0) zcf letE [.no,.no,.pl (.str abc)] (l.map λ(k:Nat)=>PyData.int (k:Int)) s2).map _)=_
   rw[e2];rfl
  ·rcases qc.mp hc with rfl|hc
   ·exact⟨r0,r1⟩
   ·exact c2 c hc
theorem zafz:∀(xs:List Str),zzz.unT (xs.map .str)=some xs
 | []=>rfl
 | x::xs=>by
  show((zzz.unT (xs.map .str)).map _)=_
  rw[zafz xs];rfl
theorem zaop{cs:List Int}(h:cs.length<=3)(hc:∀c∈cs,0<=c/\c<26):∃w:Str,zzz (.list (cs.map λc=>.str (ltr c)))=some (.str w)/\Low w/\w.length<=3:=by
 have e:cs.map (λc=>PyData.str (ltr c))=(cs.map ltr).map .str:=by rw[qAn];rfl
 have hlow:∀{i:Int},0<=i->i<26->97+i.toNat<128:=λ{i} h0 h1=>by omega
 have e0:(Str.ofString "").cps=#[]:=rfl
 have key:Low (zoi (cs.map ltr))/\(zoi (cs.map ltr)).length<=3/\(cs.map ltr).foldl (λn z=>n+z.length+0) 0<=3:=by
  match cs,h,hc with
  | [],_,_=>exact⟨λc hc=>(nomatch hc),by decide,by decide⟩
  | [a],_,hc=>
   have ha:=hc a (by simp)
   exact⟨λc hc'=>Low.ltr ha.1 ha.2 c hc',by show(ltr a).length<=3;exact qBW (qBX 1),by show 0+(ltr a).length+0<=3;exact qBW (qBX 1)⟩
  | [a,b],_,hc=>
   have ha:=hc a (by simp);have hb:=hc b (by simp)
   refine⟨λc hc'=>?_,?_,?_⟩
   ·have:c∈(ltr a).cps.toList++(ltr b).cps.toList:=by simpa [zoi,Builtin.Str.glued,e0]using hc'
    rcases qy.mp this with z|z
    ·exact Low.ltr ha.1 ha.2 c z
    ·exact Low.ltr hb.1 hb.2 c z
   ·show((ltr a).cps++("":Str).cps++(ltr b).cps).size<=3
    rw[qAq,qAq]
    exact qBX 2
   ·show 0+(ltr a).length+0+(ltr b).length+0<=3
    exact qBX 2
  | [a,b,c],_,hc=>
   have ha:=hc a (by simp);have hb:=hc b (by simp);have hcc:=hc c (by simp)
   refine⟨λd hd'=>?_,?_,?_⟩
   ·have:d∈(ltr a).cps.toList++((ltr b).cps.toList++(ltr c).cps.toList):=by simpa [zoi,Builtin.Str.glued,e0]using hd'
    rcases qy.mp this with z|z
    ·exact Low.ltr ha.1 ha.2 d z
    ·rcases qy.mp z with z|z
     ·exact Low.ltr hb.1 hb.2 d z
     ·exact Low.ltr hcc.1 hcc.2 d z
   ·show((ltr a).cps++("":Str).cps++(ltr b).cps++("":Str).cps++(ltr c).cps).size<=3
    rw[qAq,qAq,qAq,qAq]
    exact qK 3
   ·show 0+(ltr a).length+0+(ltr b).length+0+(ltr c).length+0<=3
    exact qK 3
  | a::b::c::d::r,h,_=>exact absurd h (by simp)
 refine⟨zoi (cs.map ltr),?_,key.1,key.2.1⟩
 rw[e]
 show((zzz.unT ((cs.map ltr).map .str)).bind _)=_
 rw[zafz]
 show(if _/\_ then _ else _)=_
 rw[if_pos ⟨qv key.2.2 (by decide),qv key.2.1 (by decide)⟩]
theorem zatf{A:List Str}(h:∀x∈A,Low x):neD (zaj A) (.list [])=some (.bool (!A.isEmpty),false):=by
 unfold neD eqOk
 have s1:=zkk (xs:=A) λx hx=>zon (h x hx)
 have s2:qx (.list [])=true:=zkk (xs:=[]) λx hx=>by cases hx
 rw[s1,s2,if_pos (by simp)]
 cases A with
 | nil=>rfl
 | cons a A=>rfl
theorem zaef{A:List Str}(h:A.length<=25):∃i:Nat,i<26/\ltr (i:Int)∉A:=by
 refine qCM λhn=>?_
 have all:∀i:Nat,i<26->ltr (i:Int)∈A:=λi hi=>qCM λz=>hn ⟨i,hi,z⟩
 have nd:((List.range 26).map λ(i:Nat)=>ltr (i:Int)).Nodup:=zto λa b ha hb e=>by
  have:=congrArg (λx:Str=>x.cps.toList) e
  have:[97+a]=[97+b]:=by simpa [ltr]using this
  have:97+a=97+b:=by simpa using this
  omega
 have:=zjg _ A nd λx hx=>by
  obtain⟨i,hi,rfl⟩:=qAB.mp hx
  exact all i (qAm.mp hi)
 rw[qE,qAE]at this
 omega
theorem zald{A:List Str}(h:A.length<=25){env:DEnv}(h1:env[1]?=some (.pl (zaj A)))(h2:env[2]?=some (.pl (.str abc))) :
  ∃x:Str,eOp ixD (zdy ["_law_sign"] [1] (zsu (eVar 2)) (gN 0) (zbv (eOp (inD true) (eVar 0) (eVar 1))) (eVar 0)) (eC (.int 0)) env=some (vs x)/\Low x/\x.length<=8/\x∉A:=by
 have it:zsu (eVar 2) env=some (abc.cps.toList.map λc=>PyData.str ⟨#[c]⟩,[]):=by
  unfold zsu eVar
  rw[h2];rfl
 have eb:envB ["_law_sign"] [1] env=[.no,.pl (zaj A)]:=by
  unfold envB
  simp[qi,h1]
  rfl
 have cm:zdx (gN 0) (zbv (eOp (inD true) (eVar 0) (eVar 1))) (eVar 0) (envB ["_law_sign"] [1] env) (abc.cps.toList.map λc=>PyData.str ⟨#[c]⟩)=some ((abc.cps.toList.filter λc=>!decide ((⟨#[c]⟩:Str)∈A)).map λc=>PyData.str ⟨#[c]⟩):=by
  rw[eb]
  refine zet (λc=>!decide ((⟨#[c]⟩:Str)∈A)) λc hc=>⟨[.pl (.str ⟨#[c]⟩),.pl (zaj A)],rfl,zgj (e_in (neg:=true) rfl rfl),λ_=>⟨_,rfl,rfl⟩⟩
 obtain⟨i,hi,hn⟩:=zaef h
 have lc:ltr (i:Int)=⟨#[97+i]⟩:=rfl
 have ei:=qAP.mp zakp i (qAm.mpr hi)
 have mem:97+i∈abc.cps.toList.filter λc=>!decide ((⟨#[c]⟩:Str)∈A):=by
  refine qAW.mpr ⟨qBc (eq_of_beq ei),?_⟩
  rw[<- lc,decide_eq_false hn];rfl
 cases hf:abc.cps.toList.filter λc=>!decide ((⟨#[c]⟩:Str)∈A)with
 | nil=>rw[hf]at mem;cases mem
 | cons c cs=>
  rw[hf]at cm
  refine⟨⟨#[c]⟩,zem (zek it (by rw[qE];show abc.length<_;rw[zadc];decide) cm) rfl ?_,λd hd=>?_,by show 1<=8;decide,λhin=>?_⟩
  ·show((atI (List.map (λc=>PyData.str ⟨#[c]⟩) (c::cs)) ((0:Nat):Int)).map _)=_
   rw[zawv (λc:Nat=>PyData.str ⟨#[c]⟩) (l:=c::cs) (n:=0) rfl];rfl
  ·have hd:d=c:=by simpa using hd
   have hm:c∈abc.cps.toList:=(qAW.mp (by rw[hf];exact qo ..):_/\_).1
   have al:∀z∈abc.cps.toList,z<128:=by decide +kernel
   rw[hd]
   exact al c hm
  ·have h3:=(qAW.mp (by rw[hf];exact qo ..):c∈abc.cps.toList/\(!decide ((⟨#[c]⟩:Str)∈A))=true).2
   rw[decide_eq_true hin]at h3
   cases h3
noncomputable abbrev naE(A:List Str)(s3 s4 s5 s6:Sl):DEnv:=[.no,.pl (zaj A),.pl (.str abc),s3,s4,s5,s6]
theorem zayw{A:List Str}(env:DEnv)(h:env[1]?=some (.pl (zaj A)))(st:Pen):zap (eCB lenD (zab (eVar 1) aNil)) env st=some (vi (A.length:Int),st):=by
 have:eVar 1 env=some ⟨.list (A.map .str),false,[]⟩:=by unfold eVar;rw[h];rfl
 have:=zafl this
 rw[qE]at this
 exact zcr this
noncomputable abbrev poE:EF:=eOp addD (eOp repD (eLst (zab (eVar 3) aNil)) (eC (.int 5))) (eLst (zab (eC (.str "none")) (zab (eC (.str "rule")) (zab (eC (.str "quarrel")) (zab (eC (.str "kind")) (zab (eC (.str "own")) aNil))))))
noncomputable abbrev zqh(w:Str):List Str:=[w,w,w,w,w,"none","rule","quarrel","kind","own"]
theorem zaoq:∀x∈(["none","rule","quarrel","kind","own"]:List Str),x.cps.toList.all (λc=>decide (c<128))=true/\x.length<=8:=by decide +kernel
theorem zaor{w:Str}(h:Low w){m:Nat}(hl:w.length<=m)(hm:8<=m):∀x∈zqh w,Low x/\x.length<=m:=λx hx=>by
 have five:∀x∈(["none","rule","quarrel","kind","own"]:List Str),Low x/\x.length<=m:=λx hx=>by
  obtain⟨h1,h2⟩:=zaoq x hx
  exact⟨λc hc=>of_decide_eq_true (qAP.mp h1 c hc),qv h2 hm⟩
 rcases qy.mp (show x∈[w,w,w,w,w]++(["none","rule","quarrel","kind","own"]:List Str)from hx)with hx|hx
 ·have:x=w:=by simpa using hx
  exact⟨this▸h,this▸hl⟩
 ·exact five x hx
noncomputable abbrev naB:SFr Pen:=rIf (zpp (zob (zbv (eOp neD (eVar 1) (eLst aNil))) (zbv (eOp ltD (eVar 4) (eC (.int 2)))))) (rSeq (rSet 5 (rOp ixD (zap (eVar 1)) (zbi 2 zaq (zbo (zap (eCB lenD (zab (eVar 1) aNil))) rNil))))
  (rSet 3 (zap (eSl (eOp ixD (eLst (zab (eOp addD (eVar 5) (eVar 3)) (zab (eOp addD (eVar 3) (eVar 5)) aNil))) (eVar 4)) znm (zla (eC (.int 8))))))) rNx
noncomputable abbrev naF(A:List Str)(w:Str)(r3:Int):DEnv:=naE A (.pl (.str w)) (.pl (.int r3)) .no .no
theorem zaga{n:Nat}{st:Pen}(h:PenB (n+7) st){A:List Str}{L:Nat}(hl:A.length<=25)(hA:∀x∈A,Low x/\x.length<=L)(hL:L<=1000) :
  ∃x st',zcj [zaj A] st=some (.str x,false,st')/\Low x/\x.length<=L+8/\PenB n st'/\x∉A:=by
 obtain⟨r1,s1,e1,a1,b1,p1⟩:=zmx (n:=n+6) (a:=zap (eC (.int 3))) (env:=naE A .no .no .no .no) (st:=st) (s1:=st) (bs:=[]) rfl h (by decide) (by decide)
 obtain⟨cs,s2,e2,l2,c2,p2⟩:=zalc (List.range (1+r1).toNat) (n+3) s1 (p1.mono (by rw[qAE];omega))
 obtain⟨w,ew,lw,nw⟩:=zaop (cs:=cs) (by rw[l2,qAE];omega) c2
 have x1:zgm (zbo (rOp addD (zap (eC (.int 1))) (zbi 2 zaq (zbo (zap (eC (.int 3))) rNil))) rNil) (naE A .no .no .no .no) st=some ((List.range (1+r1).toNat).map (λ(k:Nat)=>PyData.int (k:Int)),[],s1):=by
  unfold zgm
  rw[zed (T:=Pen) (x:=vi (1+r1)) (xs:=[]) (s2:=s1) (zds (T:=Pen) (x:=vi 1) (y:=vi r1) (s1:=st) rfl e1 rfl) rfl]
  show(if _/\_ then _ else _)=_
  rw[if_pos ⟨by omega,by omega⟩,zoo]
 have x2:zaaa (zajp ["_law_k"] [0,2] (zgm (zbo (rOp addD (zap (eC (.int 1))) (zbi 2 zaq (zbo (zap (eC (.int 3))) rNil))) rNil)) (gN 0) zcf letE) (naE A .no .no .no .no) st=some (vs w,s2):=by
  unfold zaaa zajp
  rw[x1]
  show(((if _<100000 then _ else _):Option (Val×Pen)).bind _)=_
  rw[if_pos (by rw[qE,qAE];omega)]
  show(((zlo (gN 0) zcf letE [.no,.no,.pl (.str abc)] ((List.range (1+r1).toNat).map (λ(k:Nat)=>PyData.int (k:Int))) s1).map _).bind _)=_
  rw[e2]
  show((zzz (.list (cs.map λc=>.str (ltr c)))).map _)=_
  rw[ew];rfl
 obtain⟨r3,s3,e3,a3,b3,p3⟩:=zmx (n:=n+2) (a:=zap (eC (.int 4))) (env:=naE A (.pl (.str w)) .no .no .no) (st:=s2) (s1:=s2) (bs:=[]) rfl p2 (by decide) (by decide)
 have step4:∃(w2:Str)(s4:Pen)(sb:Sl),naB (naF A w r3) s3=some (.nx (naE A (.pl (.str w2)) (.pl (.int r3)) sb .no) s4)/\Low w2/\w2.length<=L+8/\PenB (n+1) s4:=by
  have t1:zbv (eOp neD (eVar 1) (eLst aNil)) (naF A w r3)=some (!A.isEmpty):=zgj (zem (x:=⟨zaj A,false,[]⟩) (y:=⟨.list [],true,[]⟩) rfl rfl (zatf λx hx=>(hA x hx).1))
  have t2:zbv (eOp ltD (eVar 4) (eC (.int 2))) (naF A w r3)=some (decide (r3<2)):=rfl
  have no:∀b,zob (zbv (eOp neD (eVar 1) (eLst aNil))) (zbv (eOp ltD (eVar 4) (eC (.int 2)))) (naF A w r3)=some b->b=false->∃(w2:Str)(s4:Pen)(sb:Sl),naB (naF A w r3) s3=some (.nx (naE A (.pl (.str w2)) (.pl (.int r3)) sb .no) s4)/\Low w2/\w2.length<=L+8/\PenB (n+1) s4:=λb eb hb=>by
   subst hb
   exact⟨w,s3,.no,zaac (zhy eb) rfl,lw,by omega,p3.mono (by omega)⟩
  cases hE:A.isEmpty with
  | true=>exact no false (by unfold zob;rw[t1,hE];rfl) rfl
  | false=>
   by_cases hr:r3<2
   ·have tt:zob (zbv (eOp neD (eVar 1) (eLst aNil))) (zbv (eOp ltD (eVar 4) (eC (.int 2)))) (naF A w r3)=some true:=by
     unfold zob;rw[t1,hE,t2,decide_eq_true hr];rfl
    have hpos:0<A.length:=by
     cases A with
     | nil=>cases hE
     | cons a A=>simp
    obtain⟨r4,s4,e4,a4,b4,p4⟩:=zmx (n:=n+1) (a:=zap (eCB lenD (zab (eVar 1) aNil))) (env:=naF A w r3) (st:=s3) (bs:=[]) (zayw _ rfl s3) p3 (by omega) (by omega)
    obtain⟨d,ed,md⟩:=zun (l:=A.map PyData.str) a4 (by rw[qE];exact b4)
    obtain⟨b,hb,rfl⟩:=qAB.mp md
    have ix:ixD (zaj A) (.int r4)=some (.str b,false):=by
     show((atI (A.map PyData.str) r4).map _)=_
     rw[ed];rfl
    have q1:rSet 5 (rOp ixD (zap (eVar 1)) (zbi 2 zaq (zbo (zap (eCB lenD (zab (eVar 1) aNil))) rNil))) (naF A w r3) s3=some (.nx (naE A (.pl (.str w)) (.pl (.int r3)) (.pl (.str b)) .no) s4):=zcz (zds (T:=Pen) (x:=⟨zaj A,false,[]⟩) (s1:=s3) rfl e4 ix)
    have lb:=hA b hb
    have ad:∀{x y:Str},x.length<=1000->y.length<=1000->addD (.str x) (.str y)=some (.str (x++y),false):=λ{x y} h1 h2=>by
     unfold addD
     dsimp only
     rw[if_pos (by omega)]
    have f1:eOp addD (eVar 5) (eVar 3) (naE A (.pl (.str w)) (.pl (.int r3)) (.pl (.str b)) .no)=some (vs (b++w)):=zem (x:=vs b) (y:=vs w) rfl rfl (ad (by omega) (by omega))
    have f2:eOp addD (eVar 3) (eVar 5) (naE A (.pl (.str w)) (.pl (.int r3)) (.pl (.str b)) .no)=some (vs (w++b)):=zem (x:=vs w) (y:=vs b) rfl rfl (ad (by omega) (by omega))
    have f3:eLst (zab (eOp addD (eVar 5) (eVar 3)) (zab (eOp addD (eVar 3) (eVar 5)) aNil)) (naE A (.pl (.str w)) (.pl (.int r3)) (.pl (.str b)) .no)=some ⟨.list [.str (b++w),.str (w++b)],true,[]⟩:=by
     unfold eLst
     rw[zeu f1 (zit f2)];rfl
    have f4:∃y:Str,eOp ixD (eLst (zab (eOp addD (eVar 5) (eVar 3)) (zab (eOp addD (eVar 3) (eVar 5)) aNil))) (eVar 4) (naE A (.pl (.str w)) (.pl (.int r3)) (.pl (.str b)) .no)=some (vs y)/\Low y/\y.length<=L+3:=by
     rcases(show r3=0\/r3=1 by omega)with rfl|rfl
     ·exact⟨b++w,zem f3 (y:=vi 0) rfl rfl,lb.1.app lw,by rw[zakq];omega⟩
     ·exact⟨w++b,zem f3 (y:=vi 1) rfl rfl,lw.app lb.1,by rw[zakq];omega⟩
    obtain⟨y,ey,ly,ny⟩:=f4
    refine⟨Txt.slice y none (some 8),s4,.pl (.str b),zagt (zhy tt) (zax q1 (zcz (zcr (zayu ey rfl rfl (by omega))))),ly.slice _ _,qv (Txt.slice_le y none (some 8)) (by omega),p4⟩
   ·exact no false (by unfold zob;rw[t1,hE,t2,decide_eq_false hr];rfl) rfl
 obtain⟨w2,s4,sb,e4,lw2,nw2,p4⟩:=step4
 have e5:poE (naE A (.pl (.str w2)) (.pl (.int r3)) sb .no)=some ⟨zaj (zqh w2),true,[]⟩:=rfl
 obtain⟨r6,s6,e6,a6,b6,p6⟩:=zmx (n:=n) (a:=zap (eC (.int 10))) (env:=naE A (.pl (.str w2)) (.pl (.int r3)) sb (.ac (zaj (zqh w2)))) (st:=s4) (s1:=s4) (bs:=[]) rfl p4 (by decide) (by decide)
 obtain⟨d,ed,md⟩:=zun (l:=(zqh w2).map PyData.str) a6 (by rw[qE];exact b6)
 obtain⟨w3,hw3,rfl⟩:=qAB.mp md
 obtain⟨lw3,nw3⟩:=zaor lw2 nw2 (by omega) w3 hw3
 have ix:ixD (zaj (zqh w2)) (.int r6)=some (.str w3,false):=by
  show((atI ((zqh w2).map PyData.str) r6).map _)=_
  rw[ed];rfl
 have last:∃x:Str,rIf (zpp (zbv (eOp (inD false) (eVar 3) (eVar 1)))) (rSet 3 (zap (eOp ixD (zdy ["_law_sign"] [1] (zsu (eVar 2)) (gN 0) (zbv (eOp (inD true) (eVar 0) (eVar 1))) (eVar 0)) (eC (.int 0))))) rNx (naE A (.pl (.str w3)) (.pl (.int r3)) sb (.ac (zaj (zqh w2)))) s6=some (.nx (naE A (.pl (.str x)) (.pl (.int r3)) sb (.ac (zaj (zqh w2)))) s6)/\Low x/\x.length<=L+8/\x∉A:=by
  have t:zbv (eOp (inD false) (eVar 3) (eVar 1)) (naE A (.pl (.str w3)) (.pl (.int r3)) sb (.ac (zaj (zqh w2))))=some (decide (w3∈A)):=zgj (e_in (neg:=false) rfl rfl)
  by_cases hm:w3∈A
  ·rw[decide_eq_true hm]at t
   obtain⟨x,ex,lx,nx,mx⟩:=zald hl (env:=naE A (.pl (.str w3)) (.pl (.int r3)) sb (.ac (zaj (zqh w2)))) rfl rfl
   exact⟨x,zagt (zhy t) (zcz (zcr ex)),lx,by omega,mx⟩
  ·rw[decide_eq_false hm]at t
   exact⟨w3,zaac (zhy t) rfl,lw3,nw3,hm⟩
 obtain⟨x,ex,lx,nx,mx⟩:=last
 refine⟨x,s6,zaad (env:=[.no,.pl (zaj A),.no,.no,.no,.no,.no]) rfl ?_,lx,nx,p6,mx⟩
 refine zax (e1:=naE A .no .no .no .no) (s1:=st) rfl ?_
 refine zax (zcz x2) ?_
 refine zax (e1:=naE A (.pl (.str w)) (.pl (.int r3)) .no .no) (zcz e3) ?_
 refine zax e4 ?_
 refine zax (e1:=naE A (.pl (.str w2)) (.pl (.int r3)) sb (.ac (zaj (zqh w2)))) (zcz (zcr e5)) ?_
 refine zax (e1:=naE A (.pl (.str w3)) (.pl (.int r3)) sb (.ac (zaj (zqh w2)))) (zcz (zds (T:=Pen) (x:=⟨zaj (zqh w2),false,[6]⟩) (s1:=s4) rfl e6 ix)) ?_
 exact zax ex rfl
theorem zatg{a:EF}{env:DEnv}{i:Int}{bs:List Nat}(ha:a env=some ⟨.int i,false,bs⟩)(h1:-4611686018427387904<=i)(h2:i<4611686018427387904):zka (zab a aNil) env=some ((List.range i.toNat).map (λ(k:Nat)=>PyData.int (k:Int)),[]):=by
 unfold zka
 rw[zit ha]
 simp only[qI]
 rw[if_pos ⟨h1,h2⟩,zoo]
structure WbOk(W:Web)(m:Nat):Prop where
 low:∀p∈W,Low p.1/\p.1.length<=m
 few:∀p∈W,p.2.length<=100
theorem zqi{i:Nat}{g:EFr Pen}{env:DEnv}{st s1:Pen}{ds:List PyData}{d:PyData}{fr:Bool}{bs:List Nat}(he:env[i]?=some (.ac (.list ds)))(hg:g env st=some (⟨d,fr,bs⟩,s1))(hl:ds.length<100000)(hb:i∉bs):rApp i g env st=some (.nx ((frzs env bs).set i (.ac (.list (ds++[d])))) s1):=by
 unfold rApp
 rw[he]
 show((g env st).bind _)=_
 rw[hg]
 show(if _/\_ then _ else _)=_
 rw[if_pos ⟨hl,hb⟩]
noncomputable abbrev wbE(s:Int)(W:Web)(s4 s5 s6 s7:Sl):DEnv:=[.no,.pl (.int s),.ac (webD W),.ac (zaj (nm W)),s4,s5,s6,s7]
noncomputable abbrev wbI:SFr Pen:=(rSeq (rSet 7 (rOp ixD (zap (eVar 3)) (zbi 2 zaq (zbo (zap (eVar 4)) rNil))))
  (rIf (zpp (zbv (eOp (inD true) (eVar 7) (eVar 5)))) (rApp 5 (zap (eVar 7))) rNx))
noncomputable abbrev wbT:IFr Pen:=zgm (zbo (rCB minD (zbo (zap (eVar 4)) (zbo (zbi 2 zaq (zbo (zap (eC (.int 5))) rNil)) rNil))) rNil)
noncomputable abbrev wbF(s:Int)(W:Web)(s5 s6 s7:Sl):DEnv:=wbE s W (.pl (.int (W.length:Int))) s5 s6 s7
theorem zale{n:Nat}{st:Pen}{s:Int}{W:Web}{s6 s7:Sl}(hW:W.length<=100)(h:PenB (n+5) st) :
  ∃(es:List Str)(t6 t7:Sl)(st':Pen),rFor wbT (gN 6) wbI (wbF s W (.ac (zaj [])) s6 s7) st=some (.nx (wbF s W (.ac (zaj es)) t6 t7) st')/\es.length<=4/\PenB n st'/\∀e∈es,e∈nm W:=by
 obtain⟨r,s1,e1,a1,b1,p1⟩:=zmx (n:=n+4) (a:=zap (eC (.int 5))) (env:=wbF s W (.ac (zaj [])) s6 s7) (st:=st) (s1:=st) (bs:=[]) rfl h (by decide) (by decide)
 generalize hj:(if r<(W.length:Int)then r else(W.length:Int))=j
 have j0:0<=j/\j<=4/\j<=(W.length:Int):=by
  rw[<- hj];split<;>omega
 have it:wbT (wbF s W (.ac (zaj [])) s6 s7) st=some ((List.range j.toNat).map (λ(k:Nat)=>PyData.int (k:Int)),[],s1):=by
  show zgm _ _ _=_
  unfold zgm
  have ea:rCB minD (zbo (zap (eVar 4)) (zbo (zbi 2 zaq (zbo (zap (eC (.int 5))) rNil)) rNil)) (wbF s W (.ac (zaj [])) s6 s7) st=some (vi j,s1):=by
   unfold rCB
   rw[zed (T:=Pen) (x:=vi (W.length:Int)) (xs:=[vi r]) (s1:=st) (s2:=s1) rfl (zed e1 rfl),<- hj]
   rfl
  rw[zed (T:=Pen) (x:=vi j) (xs:=[]) (s2:=s1) ea rfl]
  show(if _/\_ then _ else _)=_
  rw[if_pos ⟨by omega,by omega⟩,zoo]
 obtain⟨e',s',lp,es,t6,t7,rfl,hes,hp,hin⟩:=zlp (T:=Pen) (enc:=λ(k:Nat)=>PyData.int (k:Int)) (g:=gN 6) (body:=wbI) (l:=List.range j.toNat) (env:=wbF s W (.ac (zaj [])) s6 s7) (st:=s1)
  (λpre env st=>∃(es:List Str) (t6 t7:Sl),env=wbF s W (.ac (zaj es)) t6 t7/\es.length<=pre.length/\PenB (n+(4 - pre.length)) st/\∀e∈es,e∈nm W)
  ⟨[],s6,s7,rfl,qK _,p1,λe he=>(nomatch he)⟩ (by
   rintro pre x post env st hpre ⟨es,t6,t7,rfl,hes,hp,hin⟩
   have hlen:pre.length+1<=j.toNat:=by
    have:=congrArg List.length hpre
    rw[qH,qw,qAE]at this
    omega
   obtain⟨r2,s2,e2,a2,b2,p2⟩:=zmx (n:=n+(4 - (pre.length+1))) (a:=zap (eVar 4)) (env:=wbF s W (.ac (zaj es)) (.pl (.int (x:Int))) t7) (st:=st) (s1:=st) (bs:=[]) rfl (hp.mono (by omega)) (by omega) (by omega)
   obtain⟨d,ed,md⟩:=zun (l:=(nm W).map PyData.str) a2 (by rw[qE];show r2<((W.map _).length:Int);rw[qE];exact b2)
   obtain⟨w,hw,rfl⟩:=qAB.mp md
   have ix:ixD (zaj (nm W)) (.int r2)=some (.str w,false):=by
    show((atI ((nm W).map PyData.str) r2).map _)=_
    rw[ed];rfl
   have q1:rSet 7 (rOp ixD (zap (eVar 3)) (zbi 2 zaq (zbo (zap (eVar 4)) rNil))) (wbF s W (.ac (zaj es)) (.pl (.int (x:Int))) t7) st=some (.nx (wbF s W (.ac (zaj es)) (.pl (.int (x:Int))) (.pl (.str w))) s2):=
    zcz (zds (T:=Pen) (x:=⟨zaj (nm W),false,[3]⟩) (s1:=st) rfl e2 ix)
   have t:zbv (eOp (inD true) (eVar 7) (eVar 5)) (wbF s W (.ac (zaj es)) (.pl (.int (x:Int))) (.pl (.str w)))=some (!decide (w∈es)):=zgj (e_in (neg:=true) rfl rfl)
   by_cases hm:w∈es
   ·rw[decide_eq_true hm]at t
    exact⟨_,_,_,rfl,zax q1 (zaac (zhy t) rfl),es,_,_,rfl,by rw[qH];omega,by rw[qH];exact p2,hin⟩
   ·rw[decide_eq_false hm]at t
    refine⟨_,_,_,rfl,zax q1 (zagt (zhy t) (zqi (ds:=es.map .str) (d:=.str w) (fr:=false) (bs:=[]) rfl rfl (by rw[qE];omega) (by simp))),es++[w],.pl (.int (x:Int)),.pl (.str w),?_,by rw[qH,qH];simp;exact hes,by rw[qH];exact p2,λe he=>(qy.mp he).elim (hin e) λz=>by rw[qe.mp z];exact hw⟩
    rw[show zaj (es++[w])=.list (es.map .str++[.str w]) by unfold zaj;rw[qg];rfl]
    rfl)
 refine⟨es,t6,t7,s',zti it lp,?_,hp.mono (by omega),hin⟩
 rw[qAE]at hes
 omega
noncomputable abbrev wbO:SFr Pen:=(rSeq (rSet 5 (zap (eLst aNil)))
  (rSeq (rFor wbT (gN 6) wbI)
  (rSeq (rApp 3 (zbi 2 zcj (zbo (zap (eVar 3)) rNil)))
  (rApp 2 (zap (eTup (zab (eIxV 3 (eVar 4)) (zab (eVar 5) aNil))))))))
theorem zahf{W:Web}{w:Str}{es:List Str}(h:WebOk W)(hw:w∉nm W)(he:∀e∈es,e∈nm W)(hl:es.length<=4)(hn:W.length<12):WebOk (W++[(w,es)]):=by
 refine⟨?_,λi n fs e x hx=>?_,λp hp=>?_,by rw[qH];simp;omega⟩
 ·rw[zpt,qBp]
  refine⟨h.nd,by simp,λa ha b hb=>?_⟩
  intro z
  rw[z,qe.mp hb]at ha
  exact hw ha
 ·by_cases hi:i<W.length
  ·rw[qAO hi]at e
   rw[qBa (qB4 hi)]
   exact h.el i n fs e x hx
  ·rw[qAA (by omega)]at e
   have hi2:i - W.length=0:=by
    have:=qa.mp e
    obtain⟨q,_⟩:=this
    simp at q
    omega
   rw[hi2]at e
   cases e
   have:i=W.length:=by omega
   rw[this,List.take_left]
   exact he x hx
 ·rcases qy.mp hp with hp|hp
  ·exact h.few p hp
  ·rw[qe.mp hp];exact hl
theorem zayx{n:Nat}{st:Pen}{s:Nat}(hs:s<=12)(h:PenB (n+12 * s) st):∃(W:Web)(st':Pen),zez [.int (s:Int)] st=some (webD W,true,st')/\W.length=s/\WbOk W (8 * s)/\PenB n st'/\WebOk W:=by
 obtain⟨e',s',lp,W,s4,s5,s6,s7,rfl,hl,ok,hp,wok⟩:=zlp (T:=Pen) (enc:=λ(k:Nat)=>PyData.int (k:Int)) (g:=gN 4) (body:=wbO) (l:=List.range s) (env:=wbE (s:Int) [] .no .no .no .no) (st:=st)
  (λpre env st=>∃(W:Web) (s4 s5 s6 s7:Sl),env=wbE (s:Int) W s4 s5 s6 s7/\W.length=pre.length/\WbOk W (8 * pre.length)/\PenB (n+12 * (s - pre.length)) st/\WebOk W)
  ⟨[],.no,.no,.no,.no,rfl,rfl,⟨λp hp=>(nomatch hp),λp hp=>(nomatch hp)⟩,h,⟨by simp[nm],λi n es e=>(nomatch e),λp hp=>(nomatch hp),by simp⟩⟩ (by
   rintro pre x post env st hpre ⟨W,s4,s5,s6,s7,rfl,hl,ok,hp,wok⟩
   have hlen:pre.length+1<=s:=by
    have:=congrArg List.length hpre
    rw[qH,qw,qAE]at this
    omega
   have hx:x=W.length:=by
    have h1:(List.range s)[pre.length]?=some x:=by rw[<- hpre,qAA (qK _),Nat.sub_self];rfl
    rw[qC7 (by omega)]at h1
    cases h1
    exact hl.symm
   subst hx
   obtain⟨es,t6,t7,s1,e1,l1,p1,hin⟩:=zale (n:=n+12 * (s - (pre.length+1))+7) (st:=st) (s:=(s:Int)) (W:=W) (s6:=s6) (s7:=s7) (by omega) (hp.mono (by omega))
   have nml:(nm W).length=W.length:=qE ..
   obtain⟨w,s2,e2,lw,nw,p2,mw⟩:=zaga (A:=nm W) (L:=8 * pre.length) p1 (by rw[nml];omega) (λy hy=>by
    obtain⟨p,hp1,rfl⟩:=qAB.mp hy
    exact ok.low p hp1) (by omega)
   refine⟨_,wbE (s:Int) (W++[(w,es)]) (.pl (.int (W.length:Int))) (.pl (zaj es)) t6 t7,s2,rfl,zax rfl (zax e1 (zax (zqi (ds:=(nm W).map .str) (d:=.str w) (fr:=false) (bs:=[]) rfl (zir (zed (x:=⟨zaj (nm W),false,[3]⟩) rfl rfl) rfl e2) (by rw[qE,nml];omega) (by simp)) ?_)),W++[(w,es)],_,_,_,_,rfl,by rw[qH,qH,hl];rfl,?_,by rw[qH];exact p2,zahf wok mw hin l1 (by omega)⟩
   ·have ix:eIxV 3 (eVar 4) ([.no,.pl (.int (s:Int)),.ac (webD W),.ac (.list ((nm W).map PyData.str++[.str w])),.pl (.int (W.length:Int)),.ac (zaj es),t6,t7]:DEnv)=some ⟨.str w,false,[]⟩:=by
     refine zayv (k:=3) (n:=W.length) (ds:=(nm W).map PyData.str++[.str w]) rfl rfl ?_
     rw[qAA (by rw[qE,nml];exact qK _),qE,nml,Nat.sub_self];rfl
    have tp:eTup (zab (eIxV 3 (eVar 4)) (zab (eVar 5) aNil)) ([.no,.pl (.int (s:Int)),.ac (webD W),.ac (.list ((nm W).map PyData.str++[.str w])),.pl (.int (W.length:Int)),.ac (zaj es),t6,t7]:DEnv)=some ⟨.tuple [.str w,zaj es],false,[5]⟩:=by
     unfold eTup
     rw[zeu ix (zit (r:=⟨zaj es,false,[5]⟩) rfl)];rfl
    have:=zqi (i:=2) (ds:=W.map rowD) (st:=s2) (d:=.tuple [.str w,zaj es]) (fr:=false) (bs:=[5]) (env:=([.no,.pl (.int (s:Int)),.ac (webD W),.ac (.list ((nm W).map PyData.str++[.str w])),.pl (.int (W.length:Int)),.ac (zaj es),t6,t7]:DEnv)) rfl (zcr tp) (by rw[qE];omega) (by decide)
    refine this.trans ?_
    show _=some (OutR.nx [.no,.pl (.int (s:Int)),.ac (webD (W++[(w,es)])),.ac (zaj (nm (W++[(w,es)]))),.pl (.int (W.length:Int)),.pl (zaj es),t6,t7] s2)
    rw[show webD (W++[(w,es)])=.list (W.map rowD++[rowD (w,es)]) by unfold webD;rw[qg];rfl,show zaj (nm (W++[(w,es)]))=.list ((nm W).map .str++[.str w]) by unfold zaj nm;rw[qg,qg];rfl]
    rfl
   ·refine⟨λp hp1=>?_,λp hp1=>?_⟩
    ·rcases qy.mp hp1 with hp1|hp1
     ·have:=ok.low p hp1
      exact⟨this.1,by rw[qH];have:=this.2;simp;omega⟩
     ·cases qe.mp hp1
      exact⟨lw,by rw[qH];simp;omega⟩
    ·rcases qy.mp hp1 with hp1|hp1
     ·exact ok.few p hp1
     ·cases qe.mp hp1
      show es.length<=100
      omega)
 rw[qAE]at hl ok hp
 refine⟨W,s',zaad (env:=[.no,.pl (.int (s:Int)),.no,.no,.no,.no,.no,.no]) rfl ?_,hl,ok,hp.mono (by omega),wok⟩
 refine zax (e1:=[.no,.pl (.int (s:Int)),.ac (.list []),.no,.no,.no,.no,.no]) (s1:=st) rfl ?_
 refine zax (e1:=wbE (s:Int) [] .no .no .no .no) (s1:=st) rfl ?_
 refine zax (zti (ds:=(List.range s).map (λ(k:Nat)=>PyData.int (k:Int))) (bs:=[]) (s1:=st) ?_ lp) rfl
 unfold rIP
 rw[zatg (i:=(s:Int)) rfl (by omega) (by omega)]
 show some _=some _
 rw[qAz]
noncomputable def szB(p s:Nat):Prop:=1<=s/\1<=p/\((p<=2/\s<=10)\/(p=3/\s<=6))
theorem szB.pow{p s:Nat}(h:szB p s):s ^ p<=216:=by
 obtain⟨h1,h2,h3⟩:=h
 have a:∀s,s<11->s ^ 1<=216/\s ^ 2<=216:=by decide
 have b:∀s,s<7->s ^ 3<=216:=by decide
 rcases h3 with⟨h3,h4⟩|⟨rfl,h4⟩
 ·rcases(show p=1\/p=2 by omega)with rfl|rfl
  ·exact(a s (by omega)).1
  ·exact(a s (by omega)).2
 ·exact b s (by omega)
noncomputable abbrev bkE(s1 s2 s3 s4 s5 s6 s7 s8:Sl):DEnv:=[.no,s1,s2,s3,s4,s5,s6,s7,s8]
theorem zazf{p:Nat}(h1:1<=p)(h2:p<=3)(s2 s3 s4 s5 s6 s7 s8:Sl):∃m:Nat,eOp ixD (eLst (zab (eC (.int 6)) (zab (eC (.int 5)) (zab (eC (.int 4)) aNil)))) (eOp subD (eVar 1) (eC (.int 1))) (bkE (.pl (.int (p:Int))) s2 s3 s4 s5 s6 s7 s8)=some (vi (m:Int))/\1<=m/\szB p m:=by
 rcases(show p=1\/p=2\/p=3 by omega)with rfl|rfl|rfl
 ·exact⟨6,rfl,by decide,by unfold szB;omega⟩
 ·exact⟨5,rfl,by decide,by unfold szB;omega⟩
 ·exact⟨4,rfl,by decide,by unfold szB;omega⟩
theorem zaxe{p:Nat}(h1:1<=p)(h2:p<=3)(s2 s3 s4 s5 s6 s7 s8:Sl):∃m:Nat,eOp ixD (eLst (zab (eC (.int 10)) (zab (eC (.int 10)) (zab (eC (.int 6)) aNil)))) (eOp subD (eVar 1) (eC (.int 1))) (bkE (.pl (.int (p:Int))) s2 s3 s4 s5 s6 s7 s8)=some (vi (m:Int))/\szB p m:=by
 rcases(show p=1\/p=2\/p=3 by omega)with rfl|rfl|rfl
 ·exact⟨10,rfl,by unfold szB;omega⟩
 ·exact⟨10,rfl,by unfold szB;omega⟩
 ·exact⟨6,rfl,by unfold szB;omega⟩
theorem zuo{r:Int}(h:0<=r):∃k:Nat,r=(k:Int):=⟨r.toNat,by omega⟩
noncomputable abbrev bkI:SFr Pen:=(rSeq (rSet 8 (zbi 2 zaq (zbo (zap (eVar 2)) rNil)))
  (rApp 6 (rOp ixD (rOp ixD (zap (eVar 3)) (rOp zzk (zap (eVar 8)) (rOp addD (zap (eC (.int 1))) (zbi 2 zaq (zbo (zap (eC (.int 2))) rNil))))) (zap (eC (.int 0))))))
noncomputable abbrev bkW(p:Nat)(W:Web)(s4 s5 s6 s7 s8:Sl):DEnv:=bkE (.pl (.int (p:Int))) (.pl (.int (W.length:Int))) (.ac (webD W)) s4 s5 s6 s7 s8
theorem zahg{n:Nat}{st:Pen}{p:Nat}{W:Web}{m:Nat}(hp:p<=3)(hW:1<=W.length)(hW2:W.length<=100)(ok:WbOk W m)(h:PenB (n+6) st){s4 s5 s7 s8:Sl} :
  ∃(ks:List Str)(t7 t8:Sl)(st':Pen),rFor (rIP (zka (zab (eVar 1) aNil))) (gN 7) bkI (bkW p W s4 s5 (.ac (zaj [])) s7 s8) st=some (.nx (bkW p W s4 s5 (.ac (zaj ks)) t7 t8) st')/\ks.length=p/\LowS ks/\PenB n st'/\∀k∈ks,k∈nm W:=by
 obtain⟨e',s',lp,ks,t7,t8,rfl,hk,lo,hb,hin⟩:=zlp (T:=Pen) (enc:=λ(k:Nat)=>PyData.int (k:Int)) (g:=gN 7) (body:=bkI) (l:=List.range p) (env:=bkW p W s4 s5 (.ac (zaj [])) s7 s8) (st:=st)
  (λpre env st=>∃(ks:List Str) (t7 t8:Sl),env=bkW p W s4 s5 (.ac (zaj ks)) t7 t8/\ks.length=pre.length/\LowS ks/\PenB (n+2 * (3 - pre.length)) st/\∀k∈ks,k∈nm W)
  ⟨[],s7,s8,rfl,rfl,λk hk=>(nomatch hk),h,λk hk=>(nomatch hk)⟩ (by
   rintro pre x post env st hpre ⟨ks,t7,t8,rfl,hk,lo,hb,hin⟩
   have hlen:pre.length+1<=p:=by
    have:=congrArg List.length hpre
    rw[qH,qw,qAE]at this
    omega
   obtain⟨r1,s1,e1,a1,b1,p1⟩:=zmx (n:=n+2 * (3 - (pre.length+1))+1) (a:=zap (eVar 2)) (env:=bkW p W s4 s5 (.ac (zaj ks)) (.pl (.int (x:Int))) t8) (st:=st) (s1:=st) (bs:=[]) rfl (hb.mono (by omega)) (by omega) (by omega)
   obtain⟨r2,s2,e2,a2,b2,p2⟩:=zmx (n:=n+2 * (3 - (pre.length+1))) (a:=zap (eC (.int 2))) (env:=bkW p W s4 s5 (.ac (zaj ks)) (.pl (.int (x:Int))) (.pl (.int r1))) (st:=s1) (s1:=s1) (bs:=[]) rfl p1 (by decide) (by decide)
   have q0:0<=r1 / (1+r2):=Int.ediv_nonneg a1 (by omega)
   have q1:r1 / (1+r2)<=r1:=Int.ediv_le_self _ a1
   obtain⟨d,ed,md⟩:=zun (l:=W.map rowD) q0 (by rw[qE];omega)
   obtain⟨row,hrow,rfl⟩:=qAB.mp md
   have i1:ixD (webD W) (.int (r1 / (1+r2)))=some (rowD row,false):=by
    show((atI (W.map rowD) (r1 / (1+r2))).map _)=_
    rw[ed];rfl
   have ev:rOp ixD (rOp ixD (zap (eVar 3)) (rOp zzk (zap (eVar 8)) (rOp addD (zap (eC (.int 1))) (zbi 2 zaq (zbo (zap (eC (.int 2))) rNil))))) (zap (eC (.int 0))) (bkW p W s4 s5 (.ac (zaj ks)) (.pl (.int (x:Int))) (.pl (.int r1))) s1=some (vs row.1,s2):=
    zds (T:=Pen) (y:=vi 0) (s1:=s2) (zds (T:=Pen) (x:=⟨webD W,false,[3]⟩) (s1:=s1) rfl (zds (T:=Pen) (x:=vi r1) (s1:=s1) rfl (zds (T:=Pen) (x:=vi 1) (y:=vi r2) (s1:=s1) rfl e2 rfl) (zaed (by omega) (by omega))) i1) rfl rfl
   refine⟨_,_,s2,rfl,zax (zcz e1) (zqi (i:=6) (ds:=ks.map .str) (d:=.str row.1) (fr:=false) (bs:=[]) rfl ev (by rw[qE];omega) (by simp)),ks++[row.1],.pl (.int (x:Int)),.pl (.int r1),?_,by rw[qH,qH,hk];rfl,λk hk'=>?_,by rw[qH];exact p2,λk hk'=>(qy.mp hk').elim (hin k) λz=>by rw[qe.mp z];exact qAB.mpr ⟨row,hrow,rfl⟩⟩
   ·rw[show zaj (ks++[row.1])=.list (ks.map .str++[.str row.1]) by unfold zaj;rw[qg];rfl]
    rfl
   ·rcases qy.mp hk' with hk'|hk'
    ·exact lo k hk'
    ·rw[qe.mp hk']
     exact zon (ok.low row hrow).1)
 rw[qAE]at hk hb
 refine⟨ks,t7,t8,s',zti (ds:=(List.range p).map (λ(k:Nat)=>PyData.int (k:Int))) (bs:=[]) (s1:=st) ?_ lp,hk,lo,hb.mono (by omega),hin⟩
 unfold rIP
 rw[zatg (i:=(p:Int)) rfl (by omega) (by omega),qAz];rfl
noncomputable abbrev bkA:TFr Pen:=zpp (zbv (eOp (inS true) (eCB zmz (zab (eVar 6) aNil)) (zdy ["_law_rule"] [] (zar (eVar 4)) (gN 0) zcf (eIxV 0 (eC (.int 1))))))
noncomputable abbrev bkB:SFr Pen:=rApp 4 (rTup (zbo (zbi 2 zcj (zbo (zap (zdy ["_law_rule"] [] (zar (eVar 4)) (gN 0) zcf (eIxV 0 (eC (.int 0))))) rNil)) (zbo (zap (eCB zmz (zab (eVar 6) aNil))) rNil)))
noncomputable abbrev bkO:SFr Pen:=(rSeq (rSet 6 (zap (eLst aNil)))
  (rSeq (rFor (rIP (zka (zab (eVar 1) aNil))) (gN 7) bkI)
  (rIf bkA bkB rNx)))
structure RlOk(R:List Rule)(m:Nat):Prop where
 low:∀r∈R,Low r.1/\r.1.length<=m
 kin:∀r∈R,LowS r.2/\r.2.length<=3
structure RlIn(W:Web)(p:Nat)(R:List Rule):Prop where
 kinds:∀r∈R,(∀k∈r.2,k∈nm W)/\r.2.length=p
 nd1:(R.map (·.1)).Nodup
 nd2:(R.map (·.2)).Nodup
theorem nd_snoc{α:Type}{l:List α}{x:α}(h:l.Nodup)(hx:x∉l):(l++[x]).Nodup:=by
 rw[qBp]
 refine⟨h,by simp,λa ha b hb=>?_⟩
 intro z
 rw[z,qe.mp hb]at ha
 exact hx ha
theorem zaos{R:List Rule}{env:DEnv}(h4:env[4]?=some (.ac (zbk R)))(hl:R.length<=100):∃bs,zdy ["_law_rule"] [] (zar (eVar 4)) (gN 0) zcf (eIxV 0 (eC (.int 1))) env=some ⟨.list ((R.map (·.2)).map zai),true,bs⟩:=by
 have it:zar (eVar 4) env=some (R.map zdi,[4]):=by
  unfold zar eVar
  rw[h4];rfl
 have cm:zdx (gN 0) zcf (eIxV 0 (eC (.int 1))) (envB ["_law_rule"] [] env) (R.map zdi)=some (R.map λr=>zai r.2):=zcp λr hr=>⟨[.pl (zdi r)],rfl,rfl,_,rfl,rfl⟩
 rw[qAn]
 exact⟨_,zek it (by rw[qE];omega) cm⟩
theorem zahh{R:List Rule}{env:DEnv}(h4:env[4]?=some (.ac (zbk R)))(hl:R.length<=100):zdy ["_law_rule"] [] (zar (eVar 4)) (gN 0) zcf (eIxV 0 (eC (.int 0))) env=some ⟨zaj (R.map (·.1)),true,[]⟩:=by
 have it:zar (eVar 4) env=some (R.map zdi,[4]):=by
  unfold zar eVar
  rw[h4];rfl
 have cm:zdx (gN 0) zcf (eIxV 0 (eC (.int 0))) (envB ["_law_rule"] [] env) (R.map zdi)=some (R.map λr=>.str r.1):=zcp λr hr=>⟨[.pl (zdi r)],rfl,rfl,_,rfl,rfl⟩
 rw[zek it (by rw[qE];omega) cm]
 have e:(R.map λr=>PyData.str r.1)=(R.map (·.1)).map .str:=by rw[qAn];rfl
 rw[e,if_pos (zmn _)];rfl
noncomputable def SmOk:Nat->PyData->Prop
 | 0,_=>False
 | _+1,.str _=>True
 | _+1,.int _=>True
 | n+1,.list ds=>ds.length<100000/\∀d∈ds,SmOk n d
 | n+1,.tuple ds=>ds.length<100000/\∀d∈ds,SmOk n d
 | _+1,_=>False
theorem zaot(ds:List PyData):List.zipWith (λd e=>PyData.tuple [d,e]) ds ds=ds.map λd=>.tuple [d,d]:=by
 induction ds with
 | nil=>rfl
 | cons d ds ih=>rw[qCp,ih];rfl
noncomputable abbrev smC(G:GF):EF:=eCB (anyD λbs=>bs.all id) (zab (zdy ["_law_one","_law_two"] [] (zpn (zab (eVar 0) (zab (eVar 1) aNil))) (gT 2 (zas 0 (zas 1 zdn))) zcf (zbb 2 G (zab (eVar 0) (zab (eVar 1) aNil)))) aNil)
theorem zwo{G:GF}{d:PyData}{ds:List PyData}(hi:zhi d=some ds)(hl:ds.length<100000)(h:∀x∈ds,G [x,x]=some (.bool true,false)):smC G [.pl d,.pl d]=some (vb true):=by
 have it:zpn (zab (eVar 0) (zab (eVar 1) aNil)) [.pl d,.pl d]=some (ds.map λd=>.tuple [d,d],[]):=by
  unfold zpn
  rw[zeu (r:=⟨d,false,[]⟩) rfl (zit (r:=⟨d,false,[]⟩) rfl)]
  show((zhi d).bind _)=_
  rw[hi]
  show some (List.zipWith (λd e=>PyData.tuple [d,e]) ds ds,_)=_
  rw[zaot];rfl
 have cm:zdx (gT 2 (zas 0 (zas 1 zdn))) zcf (zbb 2 G (zab (eVar 0) (zab (eVar 1) aNil))) (envB ["_law_one","_law_two"] [] [.pl d,.pl d]) (ds.map λd=>.tuple [d,d])=some (ds.map λ_=>.bool true):=
  zcp λx hx=>⟨[.pl x,.pl x],rfl,rfl,_,zbg (n:=2) (rs:=[⟨x,false,[]⟩,⟨x,false,[]⟩]) (zeu rfl (zit rfl)) rfl (h x hx),rfl⟩
 show eCB _ _ _=_
 unfold eCB
 rw[zit (zek it (by rw[qE];exact hl) cm)]
 show((anyD (λbs=>bs.all id) [.list (ds.map λ_=>.bool true)]).bind _)=_
 have:anyD (λbs=>bs.all id) [.list (ds.map λ_=>.bool true)]=some (.bool true,false):=by
  unfold anyD
  show((zqk (ds.map λx=>PyData.bool ((λ_=>true) x))).map _)=_
  rw[zoq]
  show some (PyData.bool ((ds.map λ_=>true).all id),false)=_
  rw[show((ds.map λ_=>true).all id)=true by rw[qAP];intro b hb;obtain⟨_,_,rfl⟩:=qAB.mp hb;rfl]
 rw[this];rfl
theorem zayy(x:Str):eqD (.str x) (.str x)=some (.bool true,false):=by
 unfold eqD eqOk
 rw[show zxe (.str x) (.str x)=true from rfl,qBk,if_pos rfl]
 simp[qz]
theorem zayz(x:Int):eqD (.int x) (.int x)=some (.bool true,false):=by
 unfold eqD eqOk
 rw[show zxe (.int x) (.int x)=true from rfl,qBk,if_pos rfl]
 simp[qz]
theorem zoz:∀(n:Nat)(d:PyData),SmOk n d->zfn n [d,d]=some (.bool true,false)
 | 0,_,h=>h.elim
 | n+1,d,h=>by
  show fnD 2 (zpv (zfn n)) [d,d]=_
  refine zhl (env:=[.pl d,.pl d]) rfl ?_
  cases d with
  | str x=>
   refine zok (if_t rfl (zgi (bs:=[]) ?_))
   unfold eAnd
   rw[show eIsi "str" (eVar 1) [.pl (.str x),.pl (.str x)]=some (vb true)from rfl,zem (x:=vs x) (y:=vs x) rfl rfl (zayy x)]
   rfl
  | int x=>
   refine zbj (if_f rfl rfl) (zbj (if_f rfl rfl) (zbj (if_f rfl rfl) (zgi (bs:=[]) ?_)))
   unfold eAnd
   rw[show eIsi "int" (eVar 1) [.pl (.int x),.pl (.int x)]=some (vb true)from rfl,show eNot (eIsi "bool" (eVar 1)) [.pl (.int x),.pl (.int x)]=some (vb true)from rfl,zem (x:=vi x) (y:=vi x) rfl rfl (zayz x)]
   rfl
  | list ds=>
   obtain⟨h1,h2⟩:=h
   refine zbj (if_f rfl rfl) (zok (if_t rfl (zbj (if_f ?_ rfl) (zgi (bs:=[]) (zwo (d:=.list ds) rfl h1 λx hx=>zoz n x (h2 x hx))))))
   unfold tOrF
   rw[show zlj (tTru (eIsi "list" (eVar 1))) [.pl (.list ds),.pl (.list ds)]=some false from rfl,zgj (zem (x:=vi (ds.length:Int)) (y:=vi (ds.length:Int)) rfl rfl (ztn _))]
   rfl
  | tuple ds=>
   obtain⟨h1,h2⟩:=h
   refine zbj (if_f rfl rfl) (zbj (if_f rfl rfl) (zok (if_t rfl (zbj (if_f ?_ rfl) (zgi (bs:=[]) (zwo (d:=.tuple ds) rfl h1 λx hx=>zoz n x (h2 x hx)))))))
   unfold tOrF
   rw[show zlj (tTru (eIsi "tuple" (eVar 1))) [.pl (.tuple ds),.pl (.tuple ds)]=some false from rfl,zgj (zem (x:=vi (ds.length:Int)) (y:=vi (ds.length:Int)) rfl rfl (ztn _))]
   rfl
  | _=>exact h.elim
theorem zaeg{n:Nat}{xs:List Str}:∀d∈xs.map PyData.str,SmOk (n+1) d:=λd hd=>by
 obtain⟨x,_,rfl⟩:=qAB.mp hd
 trivial
theorem zath{W:Web}{p:Nat}{R:List Rule}(hW:W.length<=100)(few:∀q∈W,q.2.length<=100)(hR:R.length<=100)(hk:∀r∈R,r.2.length<=3):SmOk 7 (zbh W p R):=by
 refine⟨by show 3<100000;decide,λd hd=>?_⟩
 rcases qc.mp hd with rfl|hd
 ·refine⟨by rw[qE];omega,λd hd=>?_⟩
  obtain⟨q,hq,rfl⟩:=qAB.mp hd
  refine⟨by show 2<100000;decide,λd hd=>?_⟩
  rcases qc.mp hd with rfl|hd
  ·trivial
  ·rw[qe.mp hd]
   exact⟨by rw[qE];have:=few q hq;omega,zaeg⟩
 ·rcases qc.mp hd with rfl|hd
  ·trivial
  ·rw[qe.mp hd]
   refine⟨by rw[qE];omega,λd hd=>?_⟩
   obtain⟨r,hr,rfl⟩:=qAB.mp hd
   refine⟨by show 2<100000;decide,λd hd=>?_⟩
   rcases qc.mp hd with rfl|hd
   ·trivial
   ·rw[qe.mp hd]
    exact⟨by rw[qE];have:=hk r hr;omega,zaeg⟩
theorem zaqc{a:AF}{env:DEnv}{rs:List Val}(h:a env=some rs)(hl:rs.length<=100000):eTup a env=some ⟨.tuple (zhq rs),false,bss rs⟩:=by
 unfold eTup;rw[h,qI,if_pos hl]
theorem zaxf{W:Web}{p:Nat}{R:List Rule}(hW:W.length<=100):zjo [zbh W p R]=some (zbh W p R,false):=by
 have i0:eIxV 0 (eC (.int 0)) [.pl (zbh W p R)]=some ⟨webD W,false,[]⟩:=rfl
 have i1:eIxV 0 (eC (.int 1)) [.pl (zbh W p R)]=some (vi (p:Int)):=rfl
 have i2:eCB zxg (zab (eIxV 0 (eC (.int 2))) aNil) [.pl (zbh W p R)]=some ⟨zbk R,true,[]⟩:=rfl
 have it:zar (eIxV 0 (eC (.int 0))) [.pl (zbh W p R)]=some (W.map rowD,[]):=by
  unfold zar
  rw[i0];rfl
 have cm:zdx (gT 2 (zas 0 (zas 1 zdn))) zcf (eTup (zab (eVar 0) (zab (eCB zxg (zab (eVar 1) aNil)) aNil))) (envB ["_law_name_here","_law_elders"] [] [.pl (zbh W p R)]) (W.map rowD)=some (W.map rowD):=
  zcp λq hq=>⟨[.pl (.str q.1),.pl (zaj q.2)],rfl,rfl,⟨rowD q,false,[]⟩,rfl,rfl⟩
 refine zhl (env:=[.pl (zbh W p R)]) rfl ?_
 have ec:∃bs,zdy ["_law_name_here","_law_elders"] [] (zar (eIxV 0 (eC (.int 0)))) (gT 2 (zas 0 (zas 1 zdn))) zcf (eTup (zab (eVar 0) (zab (eCB zxg (zab (eVar 1) aNil)) aNil))) [.pl (zbh W p R)]=some ⟨webD W,true,bs⟩:=⟨_,zek it (by rw[qE];omega) cm⟩
 obtain⟨bs,ec⟩:=ec
 exact zgi (zaqc (zeu ec (zeu i1 (zit i2))) (by show 3<=100000;decide))
noncomputable def zdl(A:List Str):Nat->List (List Str)
 | 0=>[[]]
 | j+1=>(zdl A j).flatMap λa=>A.map λx=>a++[x]
noncomputable def dig(A:List Str):Nat->Nat->List Str
 | 0,_=>[]
 | j+1,k=>dig A j (k / A.length)++[A.getD (k % A.length) ""]
theorem zyr(A:List Str):∀(j k:Nat),(dig A j k).length=j
 | 0,_=>rfl
 | j+1,k=>by show(dig A j (k / A.length)++[A.getD (k % A.length) ""]).length=_;rw[qH,zyr A j];rfl
theorem zaou(A:List Str){β:Type}(g:Str->β):A.map g=(List.range A.length).map λi=>g (A.getD i ""):=by
 refine List.ext_getElem (by simp) λi h1 h2=>?_
 rw[qE]at h1
 simp[qi,h1]
theorem zwp(A:List Str)(h:0<A.length){β:Type}(f:Nat->Str->β):∀M:Nat,((List.range M).flatMap λi=>A.map λx=>f i x)=(List.range (M * A.length)).map λk=>f (k / A.length) (A.getD (k % A.length) "")
 | 0=>by simp
 | M+1=>by
  rw[List.range_succ,qC8,zwp A h f M,Nat.add_mul,Nat.one_mul,List.range_add,qg,qAn]
  congr 1
  rw[qBr,List.flatMap_nil,qAC,zaou]
  refine qBf λi hi=>?_
  have hi:i<A.length:=qAm.mp hi
  show f M _=f ((M * A.length+i) / A.length) (A.getD ((M * A.length+i) % A.length) "")
  rw[Nat.mul_comm M,Nat.mul_add_div h,Nat.mul_add_mod,Nat.div_eq_of_lt hi,Nat.mod_eq_of_lt hi,Nat.add_zero]
theorem zpa(A:List Str)(h:0<A.length):∀j:Nat,zdl A j=(List.range (A.length ^ j)).map (dig A j)
 | 0=>rfl
 | j+1=>by
  show((zdl A j).flatMap λa=>A.map λx=>a++[x])=_
  rw[zpa A h j,List.flatMap_map,zwp A h (λi x=>dig A j i++[x]),Nat.pow_succ]
  rfl
theorem zagb(A:List Str)(h:0<A.length)(j:Nat):(zdl A j).length=A.length ^ j:=by rw[zpa A h];simp
theorem zaov{a:List Str}{x:Str}{env:DEnv}(h0:env[0]?=some (.pl (zai a)))(h1:env[1]?=some (.pl (.str x)))(hl:a.length<=100):eOp addE (eVar 0) (eTup (zab (eVar 1) aNil)) env=some ⟨zai (a++[x]),false,[]⟩:=by
 have e0:eVar 0 env=some ⟨zai a,false,[]⟩:=by unfold eVar;rw[h0]
 have e1:eTup (zab (eVar 1) aNil) env=some ⟨zai [x],false,[]⟩:=by
  unfold eTup
  rw[zit (r:=vs x) (by unfold eVar;rw[h1])];rfl
 refine zem e0 e1 ?_
 cases a with
 | nil=>rfl
 | cons b a=>
  show addD (.tuple ((b::a).map .str)) (.tuple [.str x])=_
  unfold addD
  dsimp only
  rw[if_pos ⟨rfl,by rw[qE];simp at hl ⊢;omega⟩]
  unfold zai
  rw[qg];rfl
theorem zahi{A:List Str}(h:0<A.length)(hl:A.length<=100){p:Nat}(hp:p<=3)(hs:∀j,j<=p->A.length ^ j<300):zmo [.list (List.replicate p (zaj A))]=some (.list ((zdl A p).map zai),true):=by
 have hm:(List.replicate p (zaj A))=(List.range p).map λ_=>zaj A:=by
  refine List.ext_getElem (by simp) λi h1 h2=>by simp
 rw[hm]
 obtain⟨e',lp,s2,rfl⟩:=zge (enc:=λ(_:Nat)=>zaj A) (g:=gN 2) (l:=List.range p) (env:=[.pl (.list ((List.range p).map λ_=>zaj A)),.ac (.list ((zdl A 0).map zai)),.no])
  (body:=(sSet 1 (zst ["ahead","thing"] [2] (zar (eVar 1)) (gN 0) zcf (zar (eVar 2)) (gN 1) zcf (eOp addE (eVar 0) (eTup (zab (eVar 1) aNil))))))
  (λpre env=>∃s2,env=[.pl (.list ((List.range p).map λ_=>zaj A)),.ac (.list ((zdl A pre.length).map zai)),s2]) ⟨.no,rfl⟩ (by
   rintro pre x post env hpre ⟨s2,rfl⟩
   have hlen:pre.length+1<=p:=by
    have:=congrArg List.length hpre
    rw[qH,qw,qAE]at this
    omega
   have cm:zkm (gN 0) zcf (zar (eVar 2)) (gN 1) zcf (eOp addE (eVar 0) (eTup (zab (eVar 1) aNil))) [.no,.no,.pl (zaj A)] ((zdl A pre.length).map zai)=some ((zdl A pre.length).flatMap λa=>A.map λx=>zai (a++[x])):=
    zns λa ha=>⟨[.pl (zai a),.no,.pl (zaj A)],rfl,rfl,by
     have al:a.length<=100:=by
      rw[zpa A h]at ha
      obtain⟨k,_,rfl⟩:=qAB.mp ha
      rw[zyr];omega
     unfold innL
     rw[show zar (eVar 2) [.pl (zai a),.no,.pl (zaj A)]=some (A.map .str,[])from rfl,qI,if_pos (by rw[qE];omega)]
     exact zcp λx hx=>⟨[.pl (zai a),.pl (.str x),.pl (zaj A)],rfl,rfl,_,zaov rfl rfl al,rfl⟩⟩
   have ex:=zafn (own:=["ahead","thing"]) (fr:=[2]) (env:=[.pl (.list ((List.range p).map λ_=>zaj A)),.ac (.list ((zdl A pre.length).map zai)),.pl (zaj A)]) (fi:=zar (eVar 1)) (ds:=(zdl A pre.length).map zai) (bs:=[1]) rfl (by rw[qE,zagb A h];exact hs _ (by omega)) cm
   have et:((zdl A pre.length).flatMap λa=>A.map λx=>zai (a++[x]))=(zdl A (pre++[x]).length).map zai:=by
    rw[qH]
    show _=((zdl A pre.length).flatMap λa=>A.map λx=>a++[x]).map zai
    rw[List.map_flatMap]
    congr 1
    funext a
    rw[qAn];rfl
   rw[et]at ex
   refine⟨_,[.pl (.list ((List.range p).map λ_=>zaj A)),.ac (.list ((zdl A (pre++[x]).length).map zai)),.pl (zaj A)],rfl,.inl ((zlr ex).trans ?_),_,rfl⟩
   unfold putV
   dsimp only
   split<;>rfl)
 rw[qAE]at lp
 exact zhl (env:=[.pl (.list ((List.range p).map λ_=>zaj A)),.no,.no]) rfl (zbj (e1:=[.pl (.list ((List.range p).map λ_=>zaj A)),.ac (.list ((zdl A 0).map zai)),.no]) rfl (zbj (zhz (fr:=false) (bs:=[]) rfl lp) rfl))
theorem rep1(d:PyData)(p:Nat):(List.replicate p [d]).flatten=List.replicate p d:=by
 induction p with
 | zero=>rfl
 | succ p ih=>rw[qAe,qAy,ih];rfl
theorem zaeh{W:Web}{p:Nat}{R:List Rule}(sz:szB p W.length):zfm [zbh W p R]=some (.list ((zdl (nm W) p).map zai),true):=by
 have hn:(nm W).length=W.length:=qE ..
 have hW:1<=W.length/\W.length<=10/\p<=3:=by unfold szB at sz;omega
 have pw:∀j,j<=p->(nm W).length ^ j<300:=λj hj=>by
  rw[hn]
  exact qBB (qv (qC5 hW.1 hj) sz.pow) (by decide)
 have c1:zfl [webD W,.int (p:Int)]=some (.list ((zdl (nm W) p).map zai),true):=by
  ·have l1:eLst (zab (zbb 1 zgn (zab (eVar 0) aNil)) aNil) [.pl (webD W),.pl (.int (p:Int))]=some ⟨.list [zaj (nm W)],true,[]⟩:=by
    unfold eLst
    rw[zit (zbg (n:=1) (rs:=[⟨webD W,false,[]⟩]) rfl rfl (zps (by omega)))]
    rfl
   have r1:repD (.list [zaj (nm W)]) (.int (p:Int))=some (.list (List.replicate p (zaj (nm W))),true):=by
    unfold repD
    dsimp only
    rw[if_pos ⟨by omega,by omega,by simp⟩,qAz,rep1]
   have o1:=zem (b:=eVar 1) l1 (y:=vi (p:Int)) rfl r1
   exact zhl (env:=[.pl (webD W),.pl (.int (p:Int))]) rfl (zgi (zbg (n:=1) (zit o1) rfl (zahi (by rw[hn];exact hW.1) (by rw[hn];omega) hW.2.2 pw)))
 refine zhl (env:=[.pl (zbh W p R),.no,.no,.no]) rfl (zbj (e1:=[.pl (zbh W p R),.pl (webD W),.pl (.int (p:Int)),.pl (zbk R)]) rfl (zgi (zbg (n:=2) (rs:=[⟨webD W,false,[]⟩,vi (p:Int)]) (zeu rfl (zit rfl)) rfl c1)))
theorem zwq:∀{ms ks:List Str},ms.Nodup->ms.foldl insS ks=ks++ms.filter λx=>!decide (x∈ks)
 | [],ks,_=>by simp
 | m::ms,ks,h=>by
  obtain⟨hm,hn⟩:=qAw.mp h
  rw[qBP,zwq hn]
  unfold insS
  by_cases hk:m∈ks
  ·rw[if_pos hk,qCj (by simpa using hk)]
  ·rw[if_neg hk,qCi (by simpa using hk),qBF]
   congr 1
   show m::_=m::_
   congr 1
   refine List.filter_congr λx hx=>?_
   have:x≠m:=λz=>hm (z▸hx)
   simp[this]
theorem zalf(f:List Str->PyData){l:List (Str×List Str)}{n:Str}{ks ks':List Str}(h:n∉l.map (·.1)):zpk (dS f (l++[(n,ks)])) (.str n) (f ks')=dS f (l++[(n,ks')]):=by
 unfold zpk dS
 rw[if_pos,qg,qg,qg]
 ·congr 1
  ·rw[qAn]
   refine qBf λp hp=>?_
   show(if keyD (PyData.str p.1)=keyD (.str n)then _ else _)=_
   rw[if_neg (show ¬keyD (PyData.str p.1)=keyD (.str n)from λz=>h (qAB.mpr ⟨p,hp,qBn (qZ z)⟩))]
  ·show[if keyD (PyData.str n)=keyD (.str n)then _ else _]=_
   rw[if_pos rfl];rfl
 ·rw[qBj,qA8]
  exact⟨(n,ks),by simp,decide_eq_true rfl⟩
theorem zati{V:Web}{e:Str}{p:Str×List Str}(he:e∈nm V):(ups V++[p]).lookup e=some (upL (ups V) e):=by
 obtain⟨ks,lk,_⟩:=zis (l:=ups V) (n:=e) (by rw[zfk];exact he)
 rw[zey,lk]
 unfold upL
 rw[lk];rfl
noncomputable abbrev u8E(W:Web)(l:List (Str×List Str))(s2 s3 s4:Sl):DEnv:=[.pl (webD W),.ac (.dict (dS zaj l)),s2,s3,s4]
noncomputable abbrev u8B:SF:=sPut 1 (eVar 2) (eOp addD (zdd 1 (eVar 2)) (zdy ["_law_one"] [1,2] (zar (zdd 1 (eVar 4))) (gN 0) (zbv (eOp (inD true) (eVar 0) (zdd 1 (eVar 2)))) (eVar 0)))
noncomputable abbrev u8F(W pre:Web)(p:Str×List Str)(ks:List Str)(e:Str):DEnv:=u8E W (ups pre++[(p.1,ks)]) (.pl (.str p.1)) (.pl (zaj p.2)) (.pl (.str e))
theorem zagc{i:Nat}{fk fv:EF}{env:DEnv}{kvs:List (PyData×PyData)}{k:Str}{fr1 fr2:Bool}{b1:List Nat}{d:PyData}(he:env[i]?=some (.ac (.dict kvs)))(hv:fv env=some ⟨d,fr2,[]⟩)(hk:fk env=some ⟨.str k,fr1,b1⟩)(hl:kvs.length<100000):sPut i fk fv env=some (.nx (env.set i (.ac (.dict (zpk kvs (.str k) d))))):=by
 unfold sPut
 rw[he]
 show((fv env).bind _)=_
 rw[hv]
 show((fk env).bind _)=_
 rw[hk]
 show(if _/\_ then _ else _)=_
 rw[if_pos ⟨hl,by simp⟩];rfl
theorem zaow {i:Nat} {b:EF} {env:DEnv} {l:List (Str×List Str)} {n:Str} {ks:List Str} {fr:Bool} {bs:List Nat} (he:env[i]?=some (.ac (.dict (dS zaj l)))\/env[i]?=some (.pl (.dict (dS zaj l)))) (hb:b env=some ⟨.str n,fr,bs⟩) (hl:l.lookup n=some ks):zdd i b env=some ⟨zaj ks,false,[]⟩:=by
 unfold zdd
 rcases he with he|he
 ·rw[he]
  show((b env).bind _)=_
  rw[hb]
  show((zmu (dS zaj l) (Sum.inr n)).bind _)=_
  rw[zpu,hl];rfl
 ·rw[he]
  show((b env).bind _)=_
  rw[hb]
  show((zmu (dS zaj l) (Sum.inr n)).bind _)=_
  rw[zpu,hl];rfl
theorem zaxg{W:Web}(h:WebOk W):zjb [webD W]=some (.dict (dS zaj (ups W)),true):=by
 obtain⟨e',lp,s2,s3,s4,rfl⟩:=zge (enc:=rowD) (g:=gT 2 (zas 2 (zas 3 zdn))) (l:=W) (env:=u8E W (ups []) .no .no .no)
  (body:=(sSeq (sPut 1 (eVar 2) (eLst (zab (eVar 2) aNil))) (sFor (zar (eVar 3)) (gN 4) u8B)))
  (λpre env=>∃s2 s3 s4,env=u8E W (ups pre) s2 s3 s4) ⟨_,_,_,rfl⟩ (by
   rintro pre p post env hp ⟨s2,s3,s4,rfl⟩
   have hV:WebOk (pre++[p]):=zaai (post:=post) (by rw[<- zafj hp];exact h)
   obtain⟨hV',hn,hel,hfew⟩:=zjm hV
   have hnk:p.1∉(ups pre).map (·.1):=by rw[zfk];exact hn
   have lz:∀z,(dS zaj (ups pre++[z])).length<100000:=λz=>by
    unfold dS
    rw[qE,qH,<- qE (f:=(·.1)),zfk]
    have:=zsg hV'
    simp
    omega
   have lz0:(dS zaj (ups pre)).length<100000:=by
    unfold dS
    rw[qE,<- qE (f:=(·.1)),zfk]
    have:=zsg hV'
    omega
   have st:sPut 1 (eVar 2) (eLst (zab (eVar 2) aNil)) (u8E W (ups pre) (.pl (.str p.1)) (.pl (zaj p.2)) s4)=some (.nx (u8E W (ups pre++[(p.1,[p.1])]) (.pl (.str p.1)) (.pl (zaj p.2)) s4)):=by
    rw[zagc (kvs:=dS zaj (ups pre)) (k:=p.1) (d:=zaj [p.1]) (fr1:=false) (fr2:=true) (b1:=[]) rfl rfl rfl lz0,zakn zaj hnk];rfl
   obtain⟨e1,l1,t4,rfl⟩:=zge (enc:=λx:Str=>PyData.str x) (g:=gN 4) (l:=p.2) (body:=u8B) (env:=u8E W (ups pre++[(p.1,[p.1])]) (.pl (.str p.1)) (.pl (zaj p.2)) s4)
    (λq env=>∃t4,env=u8E W (ups pre++[(p.1,q.foldl (λks e=>(upL (ups pre) e).foldl insS ks) [p.1])]) (.pl (.str p.1)) (.pl (zaj p.2)) t4) ⟨s4,rfl⟩ (by
     rintro q e post2 env hq ⟨t4,rfl⟩
     have he:e∈nm pre:=hel e (by rw[<- hq];simp)
     generalize hks:q.foldl (λks e=>(upL (ups pre) e).foldl insS ks) [p.1]=ks
     have lku:(ups pre++[(p.1,ks)]).lookup e=some (up pre e):=zati he
     have lkn:(ups pre++[(p.1,ks)]).lookup p.1=some ks:=by
      rw[zey,znq hnk];simp
     have d1:zdd 1 (eVar 2) (u8F W pre p ks e)=some ⟨zaj ks,false,[]⟩:=zaow (.inl rfl) (fr:=false) (bs:=[]) rfl lkn
     have d2:zdd 1 (eVar 4) (u8F W pre p ks e)=some ⟨zaj (up pre e),false,[]⟩:=zaow (.inl rfl) (fr:=false) (bs:=[]) rfl lku
     have it:zar (zdd 1 (eVar 4)) (u8F W pre p ks e)=some ((up pre e).map .str,[]):=by
      unfold zar
      rw[d2];rfl
     have cm:zdx (gN 0) (zbv (eOp (inD true) (eVar 0) (zdd 1 (eVar 2)))) (eVar 0) (envB ["_law_one"] [1,2] (u8F W pre p ks e)) ((up pre e).map .str)=some (((up pre e).filter λx=>!decide (x∈ks)).map .str):=
      zet (λx=>!decide (x∈ks)) λx hx=>⟨[.pl (.str x),.pl (.dict (dS zaj (ups pre++[(p.1,ks)]))),.pl (.str p.1)],rfl,zgj (e_in (neg:=true) rfl (zaow (.inr rfl) (fr:=false) (bs:=[]) rfl lkn)),λ_=>⟨_,rfl,rfl⟩⟩
     have ul:=zakm hV' e
     have cp:=zek (own:=["_law_one"]) (fr:=[1,2]) it (by rw[qE];omega) cm
     rw[if_pos (zmn _)]at cp
     have kl:ks.length<=100:=by
      have sub:∀x∈ks,x∈nm (pre++[p]):=λx hx=>by
       rw[<- hks]at hx
       rw[zpt]
       rcases zxx.mp hx with z|⟨e',_,z⟩
       ·exact qk _ (by simpa using z)
       ·exact qAG _ (zafi hV' z)
      have:=zjg _ _ (by rw[<- hks];exact zafh (acc:=ups pre) (es:=q) (ks:=[p.1]) (by simp)) sub
      have:=zsg hV
      omega
     have fl:((up pre e).filter λx=>!decide (x∈ks)).length<=12:=qv (qBY _ _) ul
     have ad:=zaxd (a:=zdd 1 (eVar 2)) d1 (y:=(up pre e).filter λx=>!decide (x∈ks)) cp (by omega)
     refine⟨_,u8E W (ups pre++[(p.1,(q++[e]).foldl (λks e=>(upL (ups pre) e).foldl insS ks) [p.1])]) (.pl (.str p.1)) (.pl (zaj p.2)) (.pl (.str e)),rfl,.inl ?_,_,rfl⟩
     refine(zagc (kvs:=dS zaj (ups pre++[(p.1,ks)])) (k:=p.1) (fr1:=false) (b1:=[]) rfl ad rfl (lz _)).trans ?_
     rw[zalf zaj hnk,qBq,hks]
     show _=some (Out.nx (u8E W (ups pre++[(p.1,(up pre e).foldl insS ks)]) _ _ _))
     rw[zwq (zawu (W:=pre) (n:=e))]
     rfl)
   refine⟨_,u8E W (ups (pre++[p])) (.pl (.str p.1)) (.pl (zaj p.2)) t4,rfl,.inl (zbj st (zhz (fr:=false) (bs:=[]) rfl (l1.trans ?_))),_,_,_,rfl⟩
   rw[zkg];rfl)
 exact zhl (env:=[.pl (webD W),.no,.no,.no,.no]) rfl (zbj (e1:=u8E W (ups []) .no .no .no) rfl (zbj (zhz (fr:=false) (bs:=[]) rfl lp) rfl))
noncomputable def onB(W:Web)(cs ks:List Str):Bool:=(cs.zip ks).all λz=>decide (z.2∈up W z.1)
theorem zaqd{W:Web}(h:WebOk W){cs ks:List Str}(hc:∀c∈cs,c∈nm W)(hl:cs.length<=100):zcs [.dict (dS zaj (ups W)),zai cs,zai ks]=some (.bool (onB W cs ks),false):=by
 have it:zpn (zab (eVar 1) (zab (eVar 2) aNil)) [.pl (.dict (dS zaj (ups W))),.pl (zai cs),.pl (zai ks)]=some ((cs.zip ks).map λz=>PyData.tuple [.str z.1,.str z.2],[]):=by
  show some (List.zipWith (λd e=>PyData.tuple [d,e]) (cs.map .str) (ks.map .str),[]++[])=_
  rw[zxz];rfl
 have cm:zdx (gT 2 (zas 0 (zas 1 zdn))) zcf (eOp (inD false) (eVar 1) (zdd 2 (eVar 0))) (envB ["_law_arm","_law_kind"] [0] [.pl (.dict (dS zaj (ups W))),.pl (zai cs),.pl (zai ks)]) ((cs.zip ks).map λz=>PyData.tuple [.str z.1,.str z.2])=some ((cs.zip ks).map λz=>.bool (decide (z.2∈up W z.1))):=
  zcp λz hz=>by
   have hz1:z.1∈nm W:=hc _ (qBM hz).1
   obtain⟨us,lk,_⟩:=zis (l:=ups W) (n:=z.1) (by rw[zfk];exact hz1)
   have eu:up W z.1=us:=by unfold up upL;rw[lk];rfl
   refine⟨[.pl (.str z.1),.pl (.str z.2),.pl (.dict (dS zaj (ups W)))],rfl,rfl,_,e_in (neg:=false) rfl (zaow (.inr rfl) (fr:=false) (bs:=[]) rfl lk),?_⟩
   rw[eu];rfl
 refine zhl (env:=[.pl (.dict (dS zaj (ups W))),.pl (zai cs),.pl (zai ks)]) rfl (zgi (bs:=[]) (zatb (zek it ?_ cm)))
 rw[qE,qCR]
 omega
noncomputable abbrev sdB:SFr (List Int):=rS 0 (sSet 1 (eOp modD (eOp addD (eOp addD (eOp mulD (eVar 1) (eC (.int 48271))) (eOp mulD (eOp modD (eVar 3) (eC (.int 2147483629))) (eOp addD (eOp mulD (eVar 2) (eVar 2)) (eC (.int 3))))) (eC (.int 5))) (eC (.int 2147483647))))
theorem zatj(ns:List Int):∃s,zjn ns=some s:=by
 obtain⟨e',s',lp,s,s2,s3,rfl,hs'⟩:=zlp (T:=List Int) (enc:=λ(z:Int×Nat)=>PyData.tuple [.int (z.2:Int),.int z.1]) (g:=gT 2 (zas 2 (zas 3 zdn))) (body:=sdB) (l:=(ns.take 63).zipIdx) (env:=[.no,.pl (.int 7),.no,.no]) (st:=ns)
  (λpre env st=>∃(s:Int) (s2 s3:Sl),env=[.no,.pl (.int s),s2,s3]/\st=ns) ⟨7,.no,.no,rfl,rfl⟩ (by
   rintro pre ⟨c,i⟩ post env st hpre ⟨s,s2,s3,rfl,rfl⟩
   have hi:i<63:=by
    have hm:(c,i)∈(st.take 63).zipIdx:=by rw[<- hpre];simp
    have:=List.snd_lt_of_mem_zipIdx hm
    have:i<(st.take 63).length:=by simpa using this
    have h3:(st.take 63).length<=63:=by rw[qA6];omega
    omega
   have m0:=qB5 c (show(2147483629:Int)≠0 by decide)
   have m1:=qBm c (show(0:Int)<2147483629 by decide)
   refine⟨[.no,.pl (.int s),.pl (.int (i:Int)),.pl (.int c)],[.no,.pl (.int ((s * 48271+c % 2147483629 * ((i:Int) * (i:Int)+3)+5) % 2147483647)),.pl (.int (i:Int)),.pl (.int c)],st,rfl,?_,_,_,_,rfl,rfl⟩
   have ev:eOp modD (eOp addD (eOp addD (eOp mulD (eVar 1) (eC (.int 48271))) (eOp mulD (eOp modD (eVar 3) (eC (.int 2147483629))) (eOp addD (eOp mulD (eVar 2) (eVar 2)) (eC (.int 3))))) (eC (.int 5))) (eC (.int 2147483647)) [.no,.pl (.int s),.pl (.int (i:Int)),.pl (.int c)]=some (vi ((s * 48271+c % 2147483629 * ((i:Int) * (i:Int)+3)+5) % 2147483647)):=by
    have a1:eOp mulD (eVar 1) (eC (.int 48271)) [.no,.pl (.int s),.pl (.int (i:Int)),.pl (.int c)]=some (vi (s * 48271)):=zem (x:=vi s) (y:=vi 48271) rfl rfl (zyq (by decide) (by decide))
    have a2:eOp modD (eVar 3) (eC (.int 2147483629)) [.no,.pl (.int s),.pl (.int (i:Int)),.pl (.int c)]=some (vi (c % 2147483629)):=zem (x:=vi c) (y:=vi 2147483629) rfl rfl (zwn (by decide))
    have a3:eOp mulD (eVar 2) (eVar 2) [.no,.pl (.int s),.pl (.int (i:Int)),.pl (.int c)]=some (vi ((i:Int) * (i:Int))):=zem (x:=vi (i:Int)) (y:=vi (i:Int)) rfl rfl (zyq (by omega) (by omega))
    have a4:eOp addD (eOp mulD (eVar 2) (eVar 2)) (eC (.int 3)) [.no,.pl (.int s),.pl (.int (i:Int)),.pl (.int c)]=some (vi ((i:Int) * (i:Int)+3)):=zem a3 (y:=vi 3) rfl rfl
    have mul5:mulD (.int (c % 2147483629)) (.int ((i:Int) * (i:Int)+3))=some (.int (c % 2147483629 * ((i:Int) * (i:Int)+3)),false):=by
     unfold mulD
     dsimp only
     rw[if_pos (.inl ⟨by omega,by omega⟩)]
    have a5:=zem a2 a4 mul5
    have a6:=zem (w:=addD) a1 a5 rfl
    have a7:=zem (w:=addD) a6 (b:=eC (.int 5)) (y:=vi 5) rfl rfl
    exact zem a7 (b:=eC (.int 2147483647)) (y:=vi 2147483647) rfl (zwn (by decide))
   show rS 0 _ _ _=_
   unfold rS
   rw[zlr ev];rfl)
 rw[hs']at lp
 refine⟨s,?_⟩
 have it:zajw (zbo rScr rNil) [.no,.pl (.int 7),.no,.no] ns=some (((ns.take 63).zipIdx).map (λ(z:Int×Nat)=>PyData.tuple [.int (z.2:Int),.int z.1]),[],ns):=by
  unfold zajw
  rw[zed (T:=List Int) (g:=rNil) (x:=⟨.list ((ns.take 63).map .int),true,[]⟩) (xs:=[]) (s1:=ns) (s2:=ns) rfl rfl]
  show some (zzo ((ns.take 63).map .int),_,_)=_
  have:zzo ((ns.take 63).map .int)=((ns.take 63).zipIdx).map (λ(z:Int×Nat)=>PyData.tuple [.int (z.2:Int),.int z.1]):=by
   unfold zzo
   rw[List.zipIdx_map,qAn];rfl
  rw[this]
 have run:zos [.no,.no,.no,.no] ns=some (.nx [.no,.pl (.int s),s2,s3] ns):=zax (e1:=[.no,.pl (.int 7),.no,.no]) (s1:=ns) rfl (zti it lp)
 unfold zjn zant
 show(match zos [.no,.no,.no,.no] ns with|some (.nx env st)=>_|_=>_)=_
 rw[run]
 simp only[if_true]
 rfl
theorem zatk{A:List Str}(h:LowS A):eqD (zaj A) (.list [])=some (.bool A.isEmpty,false):=by
 unfold eqD eqOk
 have s1:=zkk (xs:=A) h
 have s2:qx (.list [])=true:=zkk (xs:=[]) λx hx=>by cases hx
 rw[s1,s2,if_pos (by simp)]
 cases A with
 | nil=>rfl
 | cons a A=>rfl
noncomputable abbrev toE(W:Web)(R:List Rule)(cs:List Str)(s3 s4 s5 s6:Sl):DEnv:=[.pl (.dict (dS zaj (ups W))),.pl (zbk R),.pl (zai cs),s3,s4,s5,s6]
noncomputable abbrev toL(W:Web)(R:List Rule)(cs:List Str):List Rule:=R.filter λr=>onB W cs r.2
theorem zaox{W:Web}(h:WebOk W){R:List Rule}(hr:RulesOk W R)(lo:∀r∈R,qAd r.1=true)(h3:∀r∈R,r.2.length<=100){cs:List Str}(hc:∀c∈cs,c∈nm W)(hl:cs.length<=100) :
  zca [.dict (dS zaj (ups W)),zbk R,zai cs]=some (zel ((zuq W (toL W R cs)).map (·.1)),false):=by
 have hS:∀r∈toL W R cs,r∈R:=λr hr=>(qAW.mp hr).1
 have hlen:=hr.len
 have hSl:(toL W R cs).length<300:=qBB (qBY _ _) hlen
 have c1:zdx (gN 0) (tTru (zbb 3 zcs (zab (eVar 1) (zab (eVar 2) (zab (eIxV 0 (eC (.int 1))) aNil))))) (eVar 0) (envB ["_law_rule"] [0,2] (toE W R cs .no .no .no .no)) (R.map zdi)=some ((toL W R cs).map zdi):=
  zet (λr=>onB W cs r.2) λr hm=>⟨[.pl (zdi r),.pl (.dict (dS zaj (ups W))),.pl (zai cs)],rfl,zafp (n:=3) (rs:=[⟨.dict (dS zaj (ups W)),false,[]⟩,⟨zai cs,false,[]⟩,⟨zai r.2,false,[]⟩]) rfl rfl (zaqd h hc hl),λ_=>⟨⟨zdi r,false,[]⟩,rfl,rfl⟩⟩
 have e1:=zek (own:=["_law_rule"]) (fr:=[0,2]) (fi:=zar (eVar 1)) (env:=toE W R cs .no .no .no .no) (ds:=R.map zdi) (bs:=[]) rfl (by rw[qE];omega) c1
 have f1:sSet 3 (zdy ["_law_rule"] [0,2] (zar (eVar 1)) (gN 0) (tTru (zbb 3 zcs (zab (eVar 1) (zab (eVar 2) (zab (eIxV 0 (eC (.int 1))) aNil))))) (eVar 0)) (toE W R cs .no .no .no .no)=some (.nx (toE W R cs (.ac (zbk (toL W R cs))) .no .no .no)):=by
  refine(zlr e1).trans ?_
  unfold putV
  dsimp only
  split<;>rfl
 obtain⟨e',lp,s5,s6,rfl⟩:=zge (enc:=zdi) (g:=gT 2 (zas 5 (zas 6 zdn))) (l:=toL W R cs) (env:=toE W R cs (.pl (zbk (toL W R cs))) (.ac (zaj [])) .no .no)
  (body:=sIf (zlj (tTru (eCB (anyD λbs=>bs.any id) (zab (zdy ["_law_one"] [0,6] (zar (eVar 3)) (gN 0) zcf (eAnd (eOp neD (eIxV 0 (eC (.int 1))) (eVar 2)) (zbb 3 zcs (zab (eVar 1) (zab (eIxV 0 (eC (.int 1))) (zab (eVar 2) aNil)))))) aNil)))) (sApp 4 (eVar 5)) sNil)
  (λpre env=>∃s5 s6,env=toE W R cs (.pl (zbk (toL W R cs))) (.ac (zaj ((pre.filter λr=>!((toL W R cs).any λq=>zmv W q.2 r.2)).map (·.1)))) s5 s6) ⟨.no,.no,rfl⟩ (by
   rintro pre r post env hp ⟨s5,s6,rfl⟩
   have hm:r∈toL W R cs:=by rw[<- hp];simp
   have hpl:pre.length<=(toL W R cs).length:=by rw[<- hp];simp
   have c2:zdx (gN 0) zcf (eAnd (eOp neD (eIxV 0 (eC (.int 1))) (eVar 2)) (zbb 3 zcs (zab (eVar 1) (zab (eIxV 0 (eC (.int 1))) (zab (eVar 2) aNil))))) (envB ["_law_one"] [0,6] (toE W R cs (.pl (zbk (toL W R cs))) (.ac (zaj ((pre.filter λr=>!((toL W R cs).any λq=>zmv W q.2 r.2)).map (·.1)))) (.pl (.str r.1)) (.pl (zai r.2)))) ((toL W R cs).map zdi)=some ((toL W R cs).map λq=>.bool (zmv W q.2 r.2)):=
    zcp λq hq=>by
     refine⟨[.pl (zdi q),.pl (.dict (dS zaj (ups W))),.pl (zai r.2)],rfl,rfl,vb (zmv W q.2 r.2),?_,rfl⟩
     have e1:eOp neD (eIxV 0 (eC (.int 1))) (eVar 2) [.pl (zdi q),.pl (.dict (dS zaj (ups W))),.pl (zai r.2)]=some (vb (!(q.2==r.2))):=zem (x:=⟨zai q.2,false,[]⟩) (y:=⟨zai r.2,false,[]⟩) rfl rfl (zafo (hr.low q (hS q hq)) (hr.low r (hS r hm)))
     have e2:zbb 3 zcs (zab (eVar 1) (zab (eIxV 0 (eC (.int 1))) (zab (eVar 2) aNil))) [.pl (zdi q),.pl (.dict (dS zaj (ups W))),.pl (zai r.2)]=some (vb (onB W q.2 r.2)):=zbg (n:=3) (rs:=[⟨.dict (dS zaj (ups W)),false,[]⟩,⟨zai q.2,false,[]⟩,⟨zai r.2,false,[]⟩]) rfl rfl (zaqd h (hr.kinds q (hS q hq)) (h3 q (hS q hq)))
     unfold eAnd
     rw[e1,qI]
     unfold zmv
     cases q.2==r.2 with
     | true=>rfl
     | false=>exact e2
   have t:=zafm (zawy (f:=λq:Rule=>zmv W q.2 r.2) (zek (own:=["_law_one"]) (fr:=[0,6]) (fi:=zar (eVar 3)) (env:=toE W R cs (.pl (zbk (toL W R cs))) (.ac (zaj ((pre.filter λr=>!((toL W R cs).any λq=>zmv W q.2 r.2)).map (·.1)))) (.pl (.str r.1)) (.pl (zai r.2))) (ds:=(toL W R cs).map zdi) (bs:=[]) rfl (by rw[qE];omega) c2))
   cases ha:(toL W R cs).any λq=>zmv W q.2 r.2 with
   | true=>
    rw[ha]at t
    refine⟨_,_,rfl,.inl (if_f t rfl),.pl (.str r.1),.pl (zai r.2),?_⟩
    rw[List.filter_append,qCj (by rw[ha];decide),List.filter_nil,qAC]
    rfl
   | false=>
    rw[ha]at t
    refine⟨_,_,rfl,.inl (if_t t (zaww (i:=4) (ds:=((pre.filter λr=>!((toL W R cs).any λq=>zmv W q.2 r.2)).map (·.1)).map .str) (d:=.str r.1) (fr:=false) rfl rfl (by rw[qE,qE];exact qBB (qv (qBY _ _) hpl) (qC0 hSl (by decide))))),.pl (.str r.1),.pl (zai r.2),?_⟩
    rw[List.filter_append,qCi (by rw[ha];decide),List.filter_nil,qg]
    unfold zaj
    rw[qg]
    rfl)
 generalize hN:((toL W R cs).filter λr=>!((toL W R cs).any λq=>zmv W q.2 r.2)).map (·.1)=N at lp
 have hN2:(zuq W (toL W R cs)).map (·.1)=N:=hN
 rw[hN2]
 have lN:LowS N:=λx hx=>by
  rw[<- hN]at hx
  obtain⟨r,hr1,rfl⟩:=qAB.mp hx
  exact lo r (hS r (qAW.mp hr1).1)
 have t1:∀s5 s6,zbv (eOp eqD (eVar 4) (eLst aNil)) (toE W R cs (.pl (zbk (toL W R cs))) (.ac (zaj N)) s5 s6)=some N.isEmpty:=λ_ _=>zgj (zem (x:=⟨zaj N,false,[4]⟩) (y:=⟨.list [],true,[]⟩) rfl rfl (zatk lN))
 refine zhl (env:=toE W R cs .no .no .no .no) rfl (zbj f1 (zbj (e1:=toE W R cs (.ac (zbk (toL W R cs))) (.ac (zaj [])) .no .no) rfl (zbj (zhz (fr:=false) (bs:=[3]) rfl lp) ?_)))
 match N,t1 with
 | [],t1=>exact zok (if_t (t1 s5 s6) rfl)
 | [x],t1=>exact zbj (if_f (t1 s5 s6) rfl) (zok (if_t rfl rfl))
 | x::y::zs,t1=>
  refine zbj (if_f (t1 s5 s6) rfl) (zbj (if_f ?_ rfl) rfl)
  have el:eCB lenD (zab (eVar 4) aNil) (toE W R cs (.pl (zbk (toL W R cs))) (.ac (zaj (x::y::zs))) s5 s6)=some (vi (((x::y::zs).map PyData.str).length:Int)):=zafl (fr:=false) (bs:=[4]) rfl
  refine zgj (zem el (y:=vi 1) rfl ?_)
  unfold eqD eqOk
  rw[show zxe (vi (((x::y::zs).map PyData.str).length:Int)).d (vi 1).d=true from rfl,qBk,if_pos rfl]
  have:¬((((x::y::zs).map PyData.str).length:Int)=1):=by simp;omega
  simp[qz]
  omega
noncomputable abbrev caE(W:Web)(p:Nat)(R:List Rule)(s4 s5 s6 s7:Sl):DEnv:=[.pl (zbh W p R),.pl (webD W),.pl (.int (p:Int)),.pl (zbk R),s4,s5,s6,s7]
noncomputable abbrev caX:EF:=zdy ["_law_kind","_law_elders"] [7] (zar (eVar 1)) (gT 2 (zas 0 (zas 1 zdn))) zcf (eOp addE (eVar 2) (eTup (zab (eVar 0) aNil)))
theorem zalg{a:List Str}{x:Str}{env:DEnv}(h0:env[2]?=some (.pl (zai a)))(h1:env[0]?=some (.pl (.str x)))(hl:a.length<=100):eOp addE (eVar 2) (eTup (zab (eVar 0) aNil)) env=some ⟨zai (a++[x]),false,[]⟩:=by
 have e0:eVar 2 env=some ⟨zai a,false,[]⟩:=by unfold eVar;rw[h0]
 have e1:eTup (zab (eVar 0) aNil) env=some ⟨zai [x],false,[]⟩:=by
  unfold eTup
  rw[zit (r:=vs x) (by unfold eVar;rw[h1])];rfl
 refine zem e0 e1 ?_
 cases a with
 | nil=>rfl
 | cons b a=>
  show addD (.tuple ((b::a).map .str)) (.tuple [.str x])=_
  unfold addD
  dsimp only
  rw[if_pos ⟨rfl,by rw[qE];simp at hl ⊢;omega⟩]
  unfold zai
  rw[qg];rfl
noncomputable abbrev caF(W:Web)(p:Nat)(R:List Rule)(j x:Nat)(s6 s7:Sl):DEnv:=caE W p R (.pl (.list ((zdl (nm W) j).map zai))) (.pl (.int (x:Int))) s6 s7
theorem zalh{W:Web}{p:Nat}{R:List Rule}(sz:szB p W.length):∃fr,zgr [zbh W p R]=some (.list ((zdl (nm W) p).map zai),fr):=by
 have hn:(nm W).length=W.length:=qE ..
 have hW:1<=W.length/\W.length<=10/\p<=3:=by unfold szB at sz;omega
 have h0:0<(nm W).length:=by rw[hn];exact hW.1
 have pw:∀j,j<=p->(zdl (nm W) j).length<=216:=λj hj=>by
  rw[zagb _ h0,hn]
  exact qv (qC5 hW.1 hj) sz.pow
 have al:∀j,j<=p->∀a∈zdl (nm W) j,a.length<=100:=λj hj a ha=>by
  rw[zpa _ h0]at ha
  obtain⟨k,_,rfl⟩:=qAB.mp ha
  rw[zyr];omega
 obtain⟨e',lp,s4,s5,s6,s7,rfl,h4⟩:=zge (enc:=λ(k:Nat)=>PyData.int (k:Int)) (g:=gN 5) (l:=List.range p) (env:=caE W p R (.ac (.list ((zdl (nm W) 0).map zai))) .no .no .no)
  (body:=(sSeq (sSet 6 (eLst aNil)) (sSeq (sFor (zar (eVar 4)) (gN 7) (sExt 6 caX)) (sSet 4 (eVar 6)))))
  (λpre env=>∃s4 s5 s6 s7,env=caE W p R s4 s5 s6 s7/\(s4=.ac (.list ((zdl (nm W) pre.length).map zai))\/s4=.pl (.list ((zdl (nm W) pre.length).map zai)))) ⟨_,_,_,_,rfl,.inl rfl⟩ (by
   rintro pre x post env hpre ⟨s4,s5,s6,s7,rfl,h4⟩
   have hlen:pre.length+1<=p:=by
    have:=congrArg List.length hpre
    rw[qH,qw,qAE]at this
    omega
   have hj:=pw pre.length (by omega)
   have run:∃t7,forL (gN 7) (sExt 6 caX) ((zdl (nm W) pre.length).map zai) (caF W p R pre.length x (.ac (.list [])) s7)=some (.nx (caF W p R pre.length x (.ac (.list ((zdl (nm W) (pre.length+1)).map zai))) t7)):=by
    obtain⟨e1,l1,t7,rfl⟩:=zge (enc:=zai) (g:=gN 7) (l:=zdl (nm W) pre.length) (body:=sExt 6 caX) (env:=caF W p R pre.length x (.ac (.list [])) s7)
     (λq env=>∃t7,env=caF W p R pre.length x (.ac (.list ((q.flatMap λa=>(nm W).map λy=>a++[y]).map zai))) t7) ⟨s7,rfl⟩ (by
      rintro q a post2 env hq ⟨t7,rfl⟩
      have ha:a∈zdl (nm W) pre.length:=by rw[<- hq];simp
      have cm:zdx (gT 2 (zas 0 (zas 1 zdn))) zcf (eOp addE (eVar 2) (eTup (zab (eVar 0) aNil))) (envB ["_law_kind","_law_elders"] [7] (caF W p R pre.length x (.ac (.list ((q.flatMap λa=>(nm W).map λy=>a++[y]).map zai))) (.pl (zai a)))) (W.map rowD)=some (W.map λr=>zai (a++[r.1])):=
       zcp λr hr=>⟨[.pl (.str r.1),.pl (zaj r.2),.pl (zai a)],rfl,rfl,_,zalg rfl rfl (al _ (by omega) a ha),rfl⟩
      have cp:=zek (own:=["_law_kind","_law_elders"]) (fr:=[7]) (fi:=zar (eVar 1)) (env:=caF W p R pre.length x (.ac (.list ((q.flatMap λa=>(nm W).map λy=>a++[y]).map zai))) (.pl (zai a))) (ds:=W.map rowD) (bs:=[]) rfl (by rw[qE];omega) cm
      have cb:caX (caF W p R pre.length x (.ac (.list ((q.flatMap λa=>(nm W).map λy=>a++[y]).map zai))) (.pl (zai a)))=some ⟨.list (W.map λr=>zai (a++[r.1])),true,[]⟩:=by
       refine cp.trans ?_
       split<;>rfl
      have ql:(q.flatMap λa=>(nm W).map λy=>a++[y]).length<=q.length * 10:=by
       clear hq cm cp cb
       induction q with
       | nil=>simp
       | cons b q ih=>
        rw[qBr,qH,qE,hn,qw]
        omega
      have qq:q.length<=(zdl (nm W) pre.length).length:=by rw[<- hq];simp
      refine⟨_,_,rfl,.inl (zawd (i:=6) rfl cb (by rw[qE,qE];omega) (by simp)),.pl (zai a),?_⟩
      rw[qC8,qg]
      have e3:(([a]:List (List Str)).flatMap λa=>(nm W).map λy=>a++[y]).map zai=W.map λr=>zai (a++[r.1]):=by
       rw[qBr,List.flatMap_nil,qAC]
       unfold nm
       rw[qAn,qAn];rfl
      rw[e3]
      rfl)
    exact⟨t7,l1⟩
   obtain⟨t7,run⟩:=run
   have hpre1:(pre++[x]).length=pre.length+1:=by simp
   refine⟨_,caE W p R (.pl (.list ((zdl (nm W) (pre.length+1)).map zai))) (.pl (.int (x:Int))) (.pl (.list ((zdl (nm W) (pre.length+1)).map zai))) t7,rfl,.inl ?_,_,_,_,_,rfl,by rw[hpre1];exact .inr rfl⟩
   rcases h4 with rfl|rfl
   ·exact zbj (e1:=caE W p R (.ac (.list ((zdl (nm W) pre.length).map zai))) (.pl (.int (x:Int))) (.ac (.list [])) s7) rfl (zbj (zhz (fr:=false) (bs:=[4]) rfl run) rfl)
   ·exact zbj (e1:=caF W p R pre.length x (.ac (.list [])) s7) rfl (zbj (zhz (fr:=false) (bs:=[]) rfl run) rfl))
 rw[qAE]at h4
 have st:∀fr,zlb 4 (caE W p R s4 s5 s6 s7)=some (.rt (.list ((zdl (nm W) p).map zai)) fr)->zgr [zbh W p R]=some (.list ((zdl (nm W) p).map zai),fr):=λfr e=>
  zhl (env:=[.pl (zbh W p R),.no,.no,.no,.no,.no,.no,.no]) rfl (zbj (e1:=caE W p R .no .no .no .no) rfl (zbj (e1:=caE W p R (.ac (.list ((zdl (nm W) 0).map zai))) .no .no .no) rfl (zbj (zafg (bs:=[]) (by rw[zatg (i:=(p:Int)) (bs:=[]) rfl (by omega) (by omega),qAz]) lp) e)))
 rcases h4 with rfl|rfl
 ·exact⟨true,st true rfl⟩
 ·exact⟨false,st false rfl⟩
noncomputable abbrev ansL(W:Web)(R:List Rule)(c:List Str):List Str:=(zuq W (fitL W R (c.map .one))).map (·.1)
theorem zaoy(c:List Str):zai c=zgq (c.map .one):=by
 unfold zai zgq
 rw[qAn];rfl
theorem zaxh{W:Web}{R:List Rule}{c:List Str}:fitL W R (c.map .one)=toL W R c:=by
 unfold fitL
 refine List.filter_congr λr hr=>?_
 unfold fitB onB
 rw[qAh,qAP,qAP]
 have e:∀(ks c:List Str),ks.zip (c.map Arm.one)=(c.zip ks).map λz=>(z.2,Arm.one z.1):=by
  intro ks
  induction ks with
  | nil=>intro c;cases c<;>rfl
  | cons k ks ih=>
   intro c
   cases c with
   | nil=>rfl
   | cons x c=>rw[qf,qCG,qCG,qf,ih]
 rw[e]
 constructor
 ·intro hh z hz
  have:=of_decide_eq_true (hh (z.2,Arm.one z.1) (qAB.mpr ⟨z,hz,rfl⟩))
  obtain⟨n,hn,hx⟩:=zakr.mp this
  have:n=z.1:=by simpa [Arm.parts]using hn
  rw[this]at hx
  exact decide_eq_true hx
 ·intro hh y hy
  obtain⟨z,hz,rfl⟩:=qAB.mp hy
  exact decide_eq_true (zakr.mpr ⟨z.1,by simp[Arm.parts],of_decide_eq_true (hh z hz)⟩)
structure Bo(W:Web)(p:Nat)(R:List Rule):Prop where
 web:WebOk W
 sz:szB p W.length
 rul:RulesOk W R
 low:∀r∈R,qAd r.1=true
 few:∀r∈R,r.2.length<=100
theorem zys{W:Web}{p:Nat}(sz:szB p W.length){c:List Str}(hc:c∈zdl (nm W) p):c.length=p/\∀x∈c,x∈nm W:=by
 have hn:(nm W).length=W.length:=qE ..
 have h0:0<(nm W).length:=by rw[hn];unfold szB at sz;omega
 rw[zpa _ h0]at hc
 obtain⟨k,_,rfl⟩:=qAB.mp hc
 refine⟨zyr _ _ _,?_⟩
 have:∀(j k:Nat),∀x∈dig (nm W) j k,x∈nm W:=by
  intro j
  induction j with
  | zero=>intro k x hx;cases hx
  | succ j ih=>
   intro k x hx
   rcases qy.mp hx with hx|hx
   ·exact ih _ x hx
   ·rw[qe.mp hx,qi,qS (Nat.mod_lt _ h0)]
    exact qBx _
 exact this p k
theorem zpb{xs:List Str}(h:LowS xs):qx (zel xs)=true:=by
 have w1:qAd "none"=true:=by decide +kernel
 have w2:qAd "rule"=true:=by decide +kernel
 have w3:qAd "quarrel"=true:=by decide +kernel
 match xs,h with
 | [],_=>decide +kernel
 | [x],h=>
  unfold qx zel
  rw[qm]
  refine⟨?_,decide_eq_true (by show max 0 (max 0 0)+1<=64;decide)⟩
  show(qAd "rule"&&(qAd x&&true))=true
  rw[w2,h x qo];rfl
 | x::y::xs,h=>
  obtain⟨h1,h2⟩:=zop (x::y::xs) h
  unfold qx zel zai
  rw[qm]
  refine⟨?_,decide_eq_true ?_⟩
  ·show(qAd "quarrel"&&(qAL ((x::y::xs).map .str)&&true))=true
   rw[w3,h1];rfl
  ·show max 0 (max (qp ((x::y::xs).map .str)+1) 0)+1<=64
   rw[h2];decide
theorem zaoz{d:PyData}(s:qx d=true):neD d d=some (.bool false,false):=by
 unfold neD eqOk
 rw[s,Bool.and_self,qAu,if_pos rfl,PySem.SeqAt.eqv_refl _ (qAk s)]
 rfl
theorem zaza{a b:EF}{env:DEnv}{d:PyData}{f1 f2:Bool}{b1 b2:List Nat}(ha:a env=some ⟨d,f1,b1⟩)(hb:b env=some ⟨d,f2,b2⟩)(s:qx d=true):zbv (eOp neD a b) env=some false:=by
 refine zgj ?_
 unfold eOp;rw[ha,hb]
 simp only[qI]
 rw[zaoz s];rfl
theorem zaxi{p:Nat}(h1:1<=p)(h2:p<=3)(s2 s3 s4 s5 s6 s7 s8:Sl):∃m:Nat,eOp ixD (eLst (zab (eC (.int 6)) (zab (eC (.int 5)) (zab (eC (.int 3)) aNil)))) (eOp subD (eVar 1) (eC (.int 1))) (bkE (.pl (.int (p:Int))) s2 s3 s4 s5 s6 s7 s8)=some (vi (m:Int))/\1<=m/\szB p m:=by
 rcases(show p=1\/p=2\/p=3 by omega)with rfl|rfl|rfl
 ·exact⟨6,rfl,by decide,by unfold szB;omega⟩
 ·exact⟨5,rfl,by decide,by unfold szB;omega⟩
 ·exact⟨3,rfl,by decide,by unfold szB;omega⟩
theorem zapa{n:Nat}{st:Pen}(h:PenB (n+300) st):∃(W:Web)(p:Nat)(R:List Rule)(st':Pen),zhe [] st=some (zbh W p R,false,st')/\szB p W.length/\WbOk W 100/\RlOk R 200/\R.length<=100/\PenB n st'/\WebOk W/\RlIn W p R:=by
 obtain⟨r1,s1,e1,a1,b1,p1⟩:=zmx (n:=n+299) (a:=zap (eC (.int 3))) (env:=bkE .no .no .no .no .no .no .no .no) (st:=st) (s1:=st) (bs:=[]) rfl h (by decide) (by decide)
 obtain⟨p,hp⟩:=zuo (r:=1+r1) (by omega)
 have hp1:1<=p:=by omega
 have hp3:p<=3:=by omega
 have f1:rSet 1 (rOp addD (zap (eC (.int 1))) (zbi 2 zaq (zbo (zap (eC (.int 3))) rNil))) (bkE .no .no .no .no .no .no .no .no) st=some (.nx (bkE (.pl (.int (p:Int))) .no .no .no .no .no .no .no) s1):=by
  rw[<- hp]
  exact zcz (zds (T:=Pen) (x:=vi 1) (y:=vi r1) (s1:=st) rfl e1 (show addD (.int 1) (.int r1)=some (.int (1+r1),false)from rfl))
 obtain⟨m,em,m1,szm⟩:=zaxi hp1 hp3 .no .no .no .no .no .no .no
 obtain⟨r2,s2,e2,a2,b2,p2⟩:=zmx (n:=n+298) (env:=bkE (.pl (.int (p:Int))) .no .no .no .no .no .no .no) (st:=s1) (zcr em) p1 (by omega) (by unfold szB at szm;omega)
 obtain⟨s0,hs0⟩:=zuo (r:=1+r2) (by omega)
 have f2:rSet 2 (rOp addD (zap (eC (.int 1))) (zbi 2 zaq (zbo (zap (eOp ixD (eLst (zab (eC (.int 6)) (zab (eC (.int 5)) (zab (eC (.int 3)) aNil)))) (eOp subD (eVar 1) (eC (.int 1))))) rNil))) (bkE (.pl (.int (p:Int))) .no .no .no .no .no .no .no) s1=some (.nx (bkE (.pl (.int (p:Int))) (.pl (.int (s0:Int))) .no .no .no .no .no .no) s2):=by
  rw[<- hs0]
  exact zcz (zds (T:=Pen) (x:=vi 1) (y:=vi r2) (s1:=s1) rfl e2 (show addD (.int 1) (.int r2)=some (.int (1+r2),false)from rfl))
 have sz0:szB p s0:=by unfold szB at szm ⊢;omega
 obtain⟨r3,s3,e3,a3,b3,p3⟩:=zmx (n:=n+297) (a:=zap (eC (.int 8))) (env:=bkE (.pl (.int (p:Int))) (.pl (.int (s0:Int))) .no .no .no .no .no .no) (st:=s2) (s1:=s2) (bs:=[]) rfl p2 (by decide) (by decide)
 have t3:qB (rOp eqD (zbi 2 zaq (zbo (zap (eC (.int 8))) rNil)) (zap (eC (.int 7)))) (bkE (.pl (.int (p:Int))) (.pl (.int (s0:Int))) .no .no .no .no .no .no) s2=some (decide (r3=7),s3):=by
  have ee:eqD (.int r3) (.int 7)=some (.bool (decide (r3=7)),false):=by
   unfold eqD eqOk
   rw[show zxe (.int r3) (.int 7)=true from rfl,qBk,if_pos rfl]
   simp[qz]
   try rfl
  unfold qB
  rw[zds (T:=Pen) (x:=vi r3) (y:=vi 7) (s1:=s3) e3 rfl ee]
  rfl
 have f3:∃s:Nat,rIf (qB (rOp eqD (zbi 2 zaq (zbo (zap (eC (.int 8))) rNil)) (zap (eC (.int 7))))) (rSet 2 (zap (eOp ixD (eLst (zab (eC (.int 10)) (zab (eC (.int 10)) (zab (eC (.int 6)) aNil)))) (eOp subD (eVar 1) (eC (.int 1)))))) rNx (bkE (.pl (.int (p:Int))) (.pl (.int (s0:Int))) .no .no .no .no .no .no) s2=some (.nx (bkE (.pl (.int (p:Int))) (.pl (.int (s:Int))) .no .no .no .no .no .no) s3)/\szB p s:=by
  by_cases h7:r3=7
  ·rw[decide_eq_true h7]at t3
   obtain⟨m2,em2,sz2⟩:=zaxe hp1 hp3 (.pl (.int (s0:Int))) .no .no .no .no .no .no
   exact⟨m2,zagt t3 (zcz (zcr em2)),sz2⟩
  ·rw[decide_eq_false h7]at t3
   exact⟨s0,zaac t3 rfl,sz0⟩
 obtain⟨s,f3,sz⟩:=f3
 have hs10:s<=10:=by unfold szB at sz;omega
 obtain⟨W,s4,e4,hWl,ok,p4,wok⟩:=zayx (n:=n+177) (s:=s) (by omega) (p3.mono (by omega))
 subst hWl
 have f4:rSet 3 (zbi 2 zez (zbo (zap (eVar 2)) rNil)) (bkE (.pl (.int (p:Int))) (.pl (.int (W.length:Int))) .no .no .no .no .no .no) s3=some (.nx (bkW p W .no .no .no .no .no) s4):=by
  have a0:zbo (zap (eVar 2)) rNil (bkE (.pl (.int (p:Int))) (.pl (.int (W.length:Int))) .no .no .no .no .no .no) s3=some ([vi (W.length:Int)],s3):=zed (T:=Pen) (x:=vi (W.length:Int)) (xs:=[]) (s1:=s3) rfl rfl
  have a1:=zir (n:=2) (g:=zez) a0 rfl e4
  exact zcz a1
 have ok:WbOk W 100:=⟨λq hq=>⟨(ok.low q hq).1,qv (ok.low q hq).2 (by omega)⟩,ok.few⟩
 obtain⟨r5,s5,e5,a5,b5,p5⟩:=zmx (n:=n+176) (a:=zap (eC (.int 13))) (env:=bkW p W (.ac (zbk [])) .no .no .no .no) (st:=s4) (s1:=s4) (bs:=[]) rfl p4 (by decide) (by decide)
 have it:zgm (zbo (zbi 2 zaq (zbo (zap (eC (.int 13))) rNil)) rNil) (bkW p W (.ac (zbk [])) .no .no .no .no) s4=some ((List.range r5.toNat).map (λ(k:Nat)=>PyData.int (k:Int)),[],s5):=by
  unfold zgm
  rw[zed (T:=Pen) (x:=vi r5) (xs:=[]) (s2:=s5) e5 rfl]
  show(if _/\_ then _ else _)=_
  rw[if_pos ⟨by omega,by omega⟩,zoo]
 obtain⟨e',s',lp,R,t5,t6,t7,t8,rfl,hR,rok,hb,rin⟩:=zlp (T:=Pen) (enc:=λ(k:Nat)=>PyData.int (k:Int)) (g:=gN 5) (body:=bkO) (l:=List.range r5.toNat) (env:=bkW p W (.ac (zbk [])) .no .no .no .no) (st:=s5)
  (λpre env st=>∃(R:List Rule) (t5 t6 t7 t8:Sl),env=bkW p W (.ac (zbk R)) t5 t6 t7 t8/\R.length<=pre.length/\RlOk R (8 * pre.length)/\PenB (n+13 * (12 - pre.length)) st/\RlIn W p R)
  ⟨[],.no,.no,.no,.no,rfl,qK _,⟨λq hq=>(nomatch hq),λq hq=>(nomatch hq)⟩,p5.mono (by show n+13 * (12 - 0)<=n+176;omega),⟨λr hr=>(nomatch hr),by simp,by simp⟩⟩ (by
   rintro pre x post env st hpre ⟨R,t5,t6,t7,t8,rfl,hR,rok,hb,rin⟩
   have hlen:pre.length+1<=r5.toNat:=by
    have:=congrArg List.length hpre
    rw[qH,qw,qAE]at this
    omega
   obtain⟨ks,u7,u8,sa,ea,kl,lo,pa,kin⟩:=zahg (n:=n+13 * (12 - (pre.length+1))+7) (st:=st) (p:=p) (W:=W) (s4:=.ac (zbk R)) (s5:=.pl (.int (x:Int))) (s7:=t7) (s8:=t8) hp3 (by unfold szB at sz;omega) (by omega) ok (hb.mono (by omega))
   obtain⟨bs1,k1⟩:=zaos (R:=R) (env:=bkW p W (.ac (zbk R)) (.pl (.int (x:Int))) (.ac (zaj ks)) u7 u8) rfl (by omega)
   have tup:eCB zmz (zab (eVar 6) aNil) (bkW p W (.ac (zbk R)) (.pl (.int (x:Int))) (.ac (zaj ks)) u7 u8)=some ⟨zai ks,false,[6]⟩:=rfl
   have tA:bkA (bkW p W (.ac (zbk R)) (.pl (.int (x:Int))) (.ac (zaj ks)) u7 u8) sa=some (!decide (ks∈R.map (·.2)),sa):=
    zhy (zgj (zem tup k1 (zate (neg:=true) (λy hy=>by
     obtain⟨q,hq,rfl⟩:=qAB.mp hy
     exact(rok.kin q hq).1) lo)))
   have hpre1:(pre++[x]).length=pre.length+1:=by simp
   by_cases hm:ks∈R.map (·.2)
   ·rw[decide_eq_true hm]at tA
    refine⟨_,_,sa,rfl,zax rfl (zax ea (zaac tA rfl)),R,_,_,_,_,rfl,by omega,⟨λq hq=>⟨(rok.low q hq).1,by rw[hpre1];have:=(rok.low q hq).2;omega⟩,rok.kin⟩,by rw[hpre1];exact pa.mono (by omega),rin⟩
   ·rw[decide_eq_false hm]at tA
    obtain⟨w,sb,eb,lw,nw,pb,mw⟩:=zaga (A:=R.map (·.1)) (L:=8 * pre.length) pa (by rw[qE];omega) (λy hy=>by
     obtain⟨q,hq,rfl⟩:=qAB.mp hy
     exact rok.low q hq) (by omega)
    have vB:rTup (zbo (zbi 2 zcj (zbo (zap (zdy ["_law_rule"] [] (zar (eVar 4)) (gN 0) zcf (eIxV 0 (eC (.int 0))))) rNil)) (zbo (zap (eCB zmz (zab (eVar 6) aNil))) rNil)) (bkW p W (.ac (zbk R)) (.pl (.int (x:Int))) (.ac (zaj ks)) u7 u8) sa=some (⟨zdi (w,ks),false,[6]⟩,sb):=by
     unfold rTup
     have n0:=zahh (R:=R) (env:=bkW p W (.ac (zbk R)) (.pl (.int (x:Int))) (.ac (zaj ks)) u7 u8) rfl (by omega)
     have n1:=zed (T:=Pen) (g:=rNil) (xs:=[]) (s2:=sa) (zcr (st:=sa) n0) rfl
     have n2:=zir (n:=2) (g:=zcj) n1 rfl eb
     have n3:=zed (T:=Pen) n2 (zed (T:=Pen) (g:=rNil) (xs:=[]) (s2:=sb) (zcr (st:=sb) tup) rfl)
     rw[n3]
     rfl
    refine⟨_,bkW p W (.ac (zbk (R++[(w,ks)]))) (.pl (.int (x:Int))) (.pl (zaj ks)) u7 u8,sb,rfl,zax rfl (zax ea (zagt tA ((zqi (i:=4) (ds:=R.map zdi) rfl vB (by rw[qE];omega) (by decide)).trans ?_))),R++[(w,ks)],_,_,_,_,rfl,by rw[hpre1,qH];simp;exact hR,⟨λq hq=>?_,λq hq=>?_⟩,by rw[hpre1];exact pb,⟨λq hq=>(qy.mp hq).elim (rin.kinds q) λz=>by rw[qe.mp z];exact⟨kin,kl⟩,by rw[qg];exact nd_snoc rin.nd1 mw,by rw[qg];exact nd_snoc rin.nd2 hm⟩⟩
    ·show _=some (OutR.nx [.no,.pl (.int (p:Int)),.pl (.int (W.length:Int)),.ac (webD W),.ac (zbk (R++[(w,ks)])),.pl (.int (x:Int)),.pl (zaj ks),u7,u8] sb)
     rw[show zbk (R++[(w,ks)])=.list (R.map zdi++[zdi (w,ks)]) by unfold zbk;rw[qg];rfl]
     rfl
    ·rw[hpre1]
     rcases qy.mp hq with hq|hq
     ·exact⟨(rok.low q hq).1,by have:=(rok.low q hq).2;omega⟩
     ·cases qe.mp hq
      exact⟨lw,by show w.length<=_;omega⟩
    ·rcases qy.mp hq with hq|hq
     ·exact rok.kin q hq
     ·cases qe.mp hq
      exact⟨lo,by show ks.length<=3;omega⟩)
 rw[qAE]at hR rok hb
 refine⟨W,p,R,s',zaad (env:=bkE .no .no .no .no .no .no .no .no) rfl ?_,sz,ok,⟨λq hq=>⟨(rok.low q hq).1,by have:=(rok.low q hq).2;omega⟩,rok.kin⟩,by omega,hb.mono (by omega),wok,rin⟩
 refine zax f1 (zax f2 (zax f3 (zax f4 (zax (e1:=bkW p W (.ac (zbk [])) .no .no .no .no) (s1:=s4) rfl (zax (zti it lp) (zacu (bs:=[3,4]) (zcr (r:=⟨zbh W p R,false,[3,4]⟩) ?_)))))))
 rfl
noncomputable def exC(c:List Str)(k:Nat)(o:Str):List Str:=c.take k++[o]++c.drop (k+1)
theorem zali{c:List Str}{k:Nat}{o:Str}(h:k<c.length):(exC c k o).length=c.length:=by
 unfold exC
 rw[qH,qH,qA6,qBb]
 simp only[qw,qAx]
 omega
theorem zalj{c:List Str}{k:Nat}{o x:Str}(h:x∈exC c k o):x=o\/x∈c:=by
 unfold exC at h
 rcases qy.mp h with h|h
 ·rcases qy.mp h with h|h
  ·exact .inr (List.mem_of_mem_take h)
  ·exact .inl (qe.mp h)
 ·exact .inr (List.mem_of_mem_drop h)
theorem zapb(xs:List PyData)(k:Nat):cutD xs none (some (k:Int))=xs.take k:=by
 unfold cutD
 rw[show HT.sIx xs.length 0 none=0 from rfl,HT.sIx_nat,qCa,qCz]
 by_cases h:k<=xs.length
 ·rw[qB3 h]
 ·rw[qBy (by omega),qAs (qK _),qAs (by omega)]
theorem zapc(xs:List PyData)(k:Nat):cutD xs (some (k:Int)) none=xs.drop k:=by
 unfold cutD
 rw[show HT.sIx xs.length xs.length none=xs.length from rfl,HT.sIx_nat]
 by_cases h:k<=xs.length
 ·rw[qB3 h,qAs (by rw[qBb];exact qK _)]
 ·rw[qBy (by omega),qCq (qK _),qCq (by omega),List.take_nil]
theorem zatl{xs ys:List PyData}(h:xs.length+ys.length<=100000):addE (.tuple xs) (.tuple ys)=some (.tuple (xs++ys),false):=by
 cases xs with
 | nil=>rfl
 | cons x xs=>
  show addD (.tuple (x::xs)) (.tuple ys)=_
  unfold addD
  dsimp only
  rw[if_pos ⟨rfl,h⟩]
noncomputable abbrev exE'(i j o:Nat):EF:=eOp addD (eOp addE (eSlT (eVar i) znm (zla (eVar j))) (eTup (zab (eVar o) aNil))) (eSlT (eVar i) (zla (eOp addD (eVar j) (eC (.int 1)))) znm)
theorem zaqe {i j o:Nat} {env:DEnv} {c:List Str} {k:Nat} {b:Str} (hi:env[i]?=some (.pl (zai c))) (hj:env[j]?=some (.pl (.int (k:Int)))) (ho:env[o]?=some (.pl (.str b))) (hc:c.length<=100):exE' i j o env=some ⟨zai (exC c k b),false,[]⟩:=by
 have e1:eVar i env=some ⟨.tuple (c.map .str),false,[]⟩:=by unfold eVar;rw[hi];rfl
 have e2:eVar j env=some (vi (k:Int)):=by unfold eVar;rw[hj]
 have e3:eVar o env=some (vs b):=by unfold eVar;rw[ho]
 have s1:eSlT (eVar i) znm (zla (eVar j)) env=some ⟨.tuple ((c.take k).map .str),false,[]⟩:=by
  unfold eSlT
  rw[e1,qI,show znm env=some none from rfl,qI,show zla (eVar j) env=some (some (k:Int)) by unfold zla;rw[e2];rfl,qI]
  show some (⟨.tuple (cutD (c.map .str) none (some (k:Int))),false,[]⟩:Val)=_
  rw[zapb,List.map_take]
 have a1:eOp addD (eVar j) (eC (.int 1)) env=some (vi ((k+1:Nat):Int)):=zem e2 (y:=vi 1) rfl rfl
 have s2:eSlT (eVar i) (zla (eOp addD (eVar j) (eC (.int 1)))) znm env=some ⟨.tuple ((c.drop (k+1)).map .str),false,[]⟩:=by
  unfold eSlT
  rw[e1,qI,show zla (eOp addD (eVar j) (eC (.int 1))) env=some (some ((k+1:Nat):Int)) by unfold zla;rw[a1];rfl,qI,show znm env=some none from rfl,qI]
  show some (⟨.tuple (cutD (c.map .str) (some ((k+1:Nat):Int)) none),false,[]⟩:Val)=_
  rw[zapc,List.map_drop]
 have t1:eTup (zab (eVar o) aNil) env=some ⟨.tuple [.str b],false,[]⟩:=zaqc (zit e3) (by show 1<=100000;decide)
 have l1:(c.take k).length<=100:=by rw[qA6];omega
 have l2:(c.drop (k+1)).length<=100:=by rw[qBb];omega
 have o1:=zem s1 t1 (zatl (by simp only[qE,qw,qAx];omega))
 have o2:addD (.tuple ((c.take k).map .str++[.str b])) (.tuple ((c.drop (k+1)).map .str))=some (zai (exC c k b),false):=by
  unfold addD
  dsimp only
  rw[if_pos ⟨by simp,by simp only[qH,qE,qw,qAx];omega⟩]
  unfold zai exC
  rw[qg,qg];rfl
 exact zem o1 s2 o2
theorem eqS(x a:Str):eqD (.str x) (.str a)=some (.bool (decide (x=a)),false):=by
 unfold eqD eqOk
 rw[show zxe (.str x) (.str a)=true from rfl,qBk,if_pos rfl]
 have:(x==a)=decide (x=a):=by rw[qAh];simp
 simp only[qz,this]
theorem zalk{W:Web}{p:Nat}{R:List Rule}(b:Bo W p R)(c:List Str):LowS (ansL W R c):=λx hx=>by
 obtain⟨r,hr,rfl⟩:=qAB.mp hx
 exact b.low r (qAW.mp (qAW.mp hr).1).1
theorem zaqf{W:Web}{p:Nat}{R:List Rule}(b:Bo W p R)(c d:List Str):neD (zel (ansL W R c)) (zel (ansL W R d))=some (.bool (!(zel (ansL W R c)).eqv (zel (ansL W R d))),false):=by
 unfold neD eqOk
 rw[zpb (zalk b c),zpb (zalk b d),if_pos (by simp)]
theorem zaxj{W:Web}{p:Nat}{R:List Rule}(b:Bo W p R){c:List Str}(hc:c.length=p)(hm:∀x∈c,x∈nm W):zcd [zbh W p R,zai c]=some (zel (ansL W R c),false):=by
 have hp3:p<=3:=by have:=b.sz;unfold szB at this;omega
 have ck:CallOk W (c.map .one):=⟨by rw[qE];omega,λa ha=>by
  obtain⟨x,_,rfl⟩:=qAB.mp ha
  show 1<300;decide,λa ha n hn=>by
  obtain⟨x,hx,rfl⟩:=qAB.mp ha
  have:n=x:=by simpa [Arm.parts]using hn
  rw[this];exact hm x hx⟩
 have g:=zadf b.web b.rul ck
 rw[qE,hc,<- zaoy]at g
 exact g
theorem zall{W:Web}{p:Nat}{R:List Rule}(b:Bo W p R){c:List Str}(hc:c.length=p)(hm:∀x∈c,x∈nm W):zca [.dict (dS zaj (ups W)),zbk R,zai c]=some (zel (ansL W R c),false):=by
 have hp3:p<=3:=by have:=b.sz;unfold szB at this;omega
 have g:=zaox b.web b.rul b.low b.few hm (by omega)
 rw[<- zaxh]at g
 exact g
noncomputable abbrev paE(W:Web)(p:Nat)(R:List Rule)(k:Nat)(a o:Str)(s4 s5:Sl):DEnv:=[.pl (zbh W p R),.pl (.int (k:Int)),.pl (.str a),.pl (.str o),s4,s5]
noncomputable abbrev paB:SF:=(sSeq (sSet 5 (exE' 4 1 3)) (sIf (zob (zbv (eOp eqD (eIxV 4 (eVar 1)) (eVar 2))) (zbv (eOp neD (zbb 2 zcd (zab (eVar 0) (zab (eVar 4) aNil))) (zbb 2 zcd (zab (eVar 0) (zab (eVar 5) aNil)))))) (zlb 4) sNil))
noncomputable abbrev alP(W:Web)(R:List Rule)(k:Nat)(a o:Str)(c:List Str):Bool:=!(decide (c[k]?=some a)&&!(zel (ansL W R c)).eqv (zel (ansL W R (exC c k o))))
theorem zatm{k n:Nat}{b:EF}{env:DEnv}{ds:List PyData}{d:PyData}(he:env[k]?=some (.pl (.tuple ds)))(hb:b env=some (vi (n:Int)))(hd:ds[n]?=some d):eIxV k b env=some ⟨d,false,bsOf d ([]++[])⟩:=by
 unfold eIxV
 rw[he]
 show eOp ixD (eVar k) b env=_
 refine zem (x:=⟨.tuple ds,false,[]⟩) (by unfold eVar;rw[he]) hb ?_
 show((atI ds (n:Int)).map _)=_
 rw[zsb hd];rfl
theorem zalm {c:List Str} {k:Nat} (h:k<c.length) {i j:Nat} {env:DEnv} (hi:env[i]?=some (.pl (zai c))) (hj:env[j]?=some (.pl (.int (k:Int)))):eIxV i (eVar j) env=some (vs c[k]):=
 zatm hi (by unfold eVar;rw[hj]) (by rw[qr,qS h];rfl)
noncomputable abbrev paF(W:Web)(p:Nat)(R:List Rule)(k:Nat)(a o:Str)(c:List Str):DEnv:=paE W p R k a o (.pl (zai c)) (.pl (zai (exC c k o)))
theorem zaxk{W:Web}{p:Nat}{R:List Rule}{k:Nat}{a o:Str}{s4 s5:Sl}:zab (eIxV 0 (eC (.int 0))) (zab (eLst (zab (eVar 2) (zab (eVar 3) aNil))) aNil) (paE W p R k a o s4 s5)=some [⟨webD W,false,[]⟩,⟨zaj [a,o],true,[]⟩]:=rfl
theorem zapd{W:Web}{p:Nat}{R:List Rule}(b:Bo W p R){env:DEnv}(h0:env[0]?=some (.pl (zbh W p R))):zar (zbb 1 zfm (zab (eVar 0) aNil)) env=some ((zdl (nm W) p).map zai,[]):=by
 unfold zar
 rw[zbg (n:=1) (rs:=[⟨zbh W p R,false,[]⟩]) (zit (by unfold eVar;rw[h0])) rfl (zaeh b.sz)];rfl
theorem zaxl{w:OF}{a b:EF}{env:DEnv}{x y:Val}{z:PyData}{fr:Bool}(ha:a env=some x)(hb:b env=some y)(hw:w x.d y.d=some (z,fr)):eOp w a b env=some ⟨z,fr,bsOf z (x.bs++y.bs)⟩:=by
 unfold eOp;rw[ha,qI,hb,qI,hw];rfl
section
variable{d:PyData}{n:Nat}
end
theorem zatn{neg:Bool}{i j:Nat}{env:DEnv}{x:Str}{xs:List Str}{s:Sl}(hi:env[i]?=some (.pl (.str x)))(hj:env[j]?=some s)(hs:Hd (zaj xs) s):zbv (eOp (inD neg) (eVar i) (eVar j)) env=some (if neg then !decide (x∈xs)else decide (x∈xs)):=by
 obtain⟨bs,e⟩:=e_hd hj hs
 have ei:eVar i env=some (vs x):=by unfold eVar;rw[hi]
 exact zgj (zaxl ei e (zadb neg xs x))
section
variable{d:PyData}{n:Nat}
end
theorem zaln:∀c<128,∀q∈[34,39],(Builtin.Str.reprChar q c).length<=4:=by decide +kernel
noncomputable def zhc(W:Web)(ns:List Str):Option Str:=ns.find? λn=>!decide (n∈nm W)
theorem zwr{W:Web}:∀(ns:List Str)(all:List Str)(s:Sl),(∀x∈ns,x∉nm W->atD (.str x)=true)->∃s',zacy (gN 3) (xIf (zbv (eOp (inD true) (eVar 3) (eVar 2))) (zvo "NoKind" (eVar 3)) (xOf sNil)) (ns.map .str) [.pl (webD W),.pl (zaj all),.ac (zaj (nm W)),s] =
  (match zhc W ns with|none=>some (.ok (.nx [.pl (webD W),.pl (zaj all),.ac (zaj (nm W)),s']))|some x=>some (.rx "NoKind" (.str x)))
 | [],all,s,_=>⟨s,rfl⟩
 | n::ns,all,s,h=>by
  have t:=zatn (neg:=true) (i:=3) (j:=2) (env:=[.pl (webD W),.pl (zaj all),.ac (zaj (nm W)),.pl (.str n)]) (x:=n) (xs:=nm W) rfl rfl (.inr rfl)
  by_cases hm:n∈nm W
  ·obtain⟨s',e⟩:=zwr ns all (.pl (.str n)) λx hx=>h x (qW _ hx)
   refine⟨s',?_⟩
   have b:xIf (zbv (eOp (inD true) (eVar 3) (eVar 2))) (zvo "NoKind" (eVar 3)) (xOf sNil) [.pl (webD W),.pl (zaj all),.ac (zaj (nm W)),.pl (.str n)]=some (.ok (.nx [.pl (webD W),.pl (zaj all),.ac (zaj (nm W)),.pl (.str n)])):=by
    unfold xIf
    rw[t,qI,if_neg (by simp[hm])]
    rfl
   have f:zhc W (n::ns)=zhc W ns:=by unfold zhc;rw[qAX];simp[hm]
   rw[f,<- e]
   show((xIf _ _ _ [.pl (webD W),.pl (zaj all),.ac (zaj (nm W)),.pl (.str n)]).bind _)=_
   rw[b];rfl
  ·refine⟨s,?_⟩
   have b:xIf (zbv (eOp (inD true) (eVar 3) (eVar 2))) (zvo "NoKind" (eVar 3)) (xOf sNil) [.pl (webD W),.pl (zaj all),.ac (zaj (nm W)),.pl (.str n)]=some (.rx "NoKind" (.str n)):=by
    unfold xIf
    rw[t,qI,if_pos (by simp[hm])]
    show(if atD (.str n)=true then some (OutX.rx "NoKind" (.str n))else none)=_
    rw[if_pos (h n (by simp) hm)]
   have f:zhc W (n::ns)=some n:=by unfold zhc;rw[qAX];simp[hm]
   rw[f]
   show((xIf _ _ _ [.pl (webD W),.pl (zaj all),.ac (zaj (nm W)),.pl (.str n)]).bind _)=_
   rw[b];rfl
theorem zvb{W:Web}(hl:W.length<100000){ns:List Str}(h:∀x∈ns,x∉nm W->atD (.str x)=true):zdj [webD W,zaj ns]=some (match zhc W ns with|none=>.ok .none false|some x=>.rx "NoKind" (.str x)):=by
 obtain⟨s',e⟩:=zwr (W:=W) ns ns .no h
 have f:zfh [.pl (webD W),.pl (zaj ns),.no,.no]=zacy (gN 3) (xIf (zbv (eOp (inD true) (eVar 3) (eVar 2))) (zvo "NoKind" (eVar 3)) (xOf sNil)) (ns.map .str) [.pl (webD W),.pl (zaj ns),.ac (zaj (nm W)),.no]:=by
  unfold zfh xSeq xOf
  rw[zlr (zbg (n:=1) (rs:=[⟨webD W,false,[]⟩]) rfl rfl (zps hl))]
  rfl
 unfold zdj fnX
 show(match zfh [.pl (webD W),.pl (zaj ns),.no,.no]with|some (.ok (.rt d fr))=>some (ResX.ok d fr)|some (.ok (.nx _))=>some (.ok .none false)|some (.rx c d)=>some (.rx c d)|_=>none)=_
 rw[f,e]
 cases zhc W ns<;>rfl
noncomputable abbrev luE(W:Web)(p:Nat)(R:List Rule)(k:Nat)(a o:Str)(s4 s5 s6:Sl):DEnv:=[.pl (zbh W p R),.pl (.int (k:Int)),.pl (.str a),.pl (.str o),s4,s5,s6]
noncomputable abbrev luD(W:Web)(p:Nat)(R:List Rule)(k:Nat)(a o:Str)(s5 s6:Sl):DEnv:=luE W p R k a o (.ac (.dict (dS zaj (ups W)))) s5 s6
theorem zato{f g:SFX}{env:DEnv}{c:Str}{d:PyData}(h:f env=some (.rx c d)):xSeq f g env=some (.rx c d):=by unfold xSeq;rw[h];rfl
theorem zaxm{n:Nat}{f:SFX}{ds:List PyData}{env:DEnv}{c:Str}{d:PyData}(h:ziy n ds=env)(e:f env=some (.rx c d)):fnX n f ds=some (.rx c d):=by unfold fnX;rw[h,e]
noncomputable def shN(k:Nat)(d:PyData):Prop:=PyData.canLay0 d=true/\PyData.depth d<=k
theorem zaqg{k:Nat}:∀{ds:List PyData},(∀d∈ds,shN k d)->qAL ds=true/\qp ds<=k
 | [],_=>⟨by unfold qAL;rfl,by unfold qp;omega⟩
 | d::ds,h=>by
  obtain⟨h1,h2⟩:=h d (by simp)
  obtain⟨h3,h4⟩:=zaqg λx hx=>h x (qW _ hx)
  unfold qAL qp
  exact⟨by rw[h1,h3];rfl,by omega⟩
theorem zaxn{k:Nat}{ds:List PyData}(h:∀d∈ds,shN k d):shN (k+1) (.tuple ds):=by
 obtain⟨h1,h2⟩:=zaqg h
 unfold shN PyData.canLay0 PyData.depth
 exact⟨h1,by omega⟩
theorem zatp{k:Nat}{b:Bool}:shN k (.bool b):=by unfold shN PyData.canLay0 PyData.depth;exact⟨rfl,by omega⟩
theorem zaxo{k:Nat}{x:Str}(h:qAd x=true):shN k (.str x):=by unfold shN PyData.canLay0 PyData.depth;exact⟨h,by omega⟩
theorem zaxp{k:Nat}:∀d∈([]:List PyData),shN k d:=λd h=>by cases h
theorem zalo{k:Nat}{d:PyData}{ds:List PyData}(h:shN k d)(t:∀x∈ds,shN k x):∀x∈d::ds,shN k x:=λx hx=>(qc.mp hx).elim (λe=>e▸h) (t x)
theorem zalp{k:Nat}{d:PyData}(h:shN k d)(hk:k<=64):qx d=true:=by
 unfold qx
 rw[h.1,decide_eq_true (qv h.2 hk)];rfl
theorem zalq{x:Str}(h:Low x)(hl:x.length<=200):(reprText x).length<=1000:=by
 have hq:reprQuote x∈[34,39]:=by unfold reprQuote;split<;>simp
 have fold:∀(l:List Nat)(a:Array Nat),(∀c∈l,c<128)->(l.foldl (λout c=>out++(Builtin.Str.reprChar (reprQuote x) c).toArray) a).size<=a.size+4 * l.length:=by
  intro l
  induction l with
  | nil=>intro a _;simp
  | cons c l ih=>
   intro a hc
   rw[qBP]
   have h1:=ih (a++(Builtin.Str.reprChar (reprQuote x) c).toArray) λc' hc'=>hc c' (qW _ hc')
   have h2:=zaln c (hc c (by simp)) _ hq
   rw[qAq]at h1
   simp only[qP,qw]at h1 ⊢
   omega
 show((x.cps.foldl (λout c=>out++(Builtin.Str.reprChar (reprQuote x) c).toArray) #[reprQuote x]).push (reprQuote x)).size<=1000
 rw[Array.size_push,<- Array.foldl_toList]
 have h1:=fold x.cps.toList #[reprQuote x] λc hc=>h c (by first|exact hc|exact qCv.mp hc|exact Array.mem_toList.mp hc)
 have h2:x.cps.toList.length=x.length:=rfl
 have h3:(#[reprQuote x]:Array Nat).size=1:=rfl
 omega
theorem zabq {W:Web} {env:DEnv} {st:Pen} {n:Nat} (h5:env[5]?=some (.ac (zaj (nm W)))) (hW:1<=W.length) (hW2:W.length<=100) (hp:PenB (n+1) st):∃a s',rOp ixD (zap (eVar 5)) (zbi 2 zaq (zbo (zap (eCB lenD (zab (eVar 5) aNil))) rNil)) env st=some (vs a,s')/\a∈nm W/\PenB n s':=by
 have hn:(nm W).length=W.length:=qE ..
 have e5:eVar 5 env=some ⟨.list ((nm W).map .str),false,[5]⟩:=by unfold eVar;rw[h5];rfl
 have el:=zafl e5
 rw[qE,hn]at el
 obtain⟨r,s2,e2,a2,b2,p2⟩:=zmx (n:=n) (a:=zap (eCB lenD (zab (eVar 5) aNil))) (env:=env) (st:=st) (bs:=[]) (zcr el) hp (by omega) (by omega)
 obtain⟨d,ed,md⟩:=zun (l:=(nm W).map PyData.str) a2 (by rw[qE,hn];exact b2)
 obtain⟨w,hw,rfl⟩:=qAB.mp md
 have ix:ixD (.list ((nm W).map .str)) (.int r)=some (.str w,false):=by
  show((atI ((nm W).map PyData.str) r).map _)=_
  rw[ed];rfl
 exact⟨w,s2,zds (T:=Pen) (zcr e5) e2 ix,hw,p2⟩
theorem zqj{α:Type}{enc:α->PyData}{g:GT}{body:SF}(p:α->Bool)(out:α->Out)(I:DEnv->Prop):∀(l:List α)(env:DEnv),I env->
  (∀x∈l,∀env,I env->∃e1,g (enc x) env=some e1/\(p x=true->∃e2,body e1=some (.nx e2)/\I e2)/\(p x=false->body e1=some (out x)/\∃d fr,out x=.rt d fr))->
  (l.find? (λx=>!p x)=none->∃env',forL g body (l.map enc) env=some (.nx env')/\I env')/\(∀x,l.find? (λx=>!p x)=some x->forL g body (l.map enc) env=some (out x))
 | [],env,h0,_=>⟨λ_=>⟨env,rfl,h0⟩,λx h=>(by cases h)⟩
 | x::l,env,h0,hs=>by
  obtain⟨e1,g1,t1,f1⟩:=hs x (qo ..) env h0
  rw[qAX,qf]
  unfold forL
  rw[g1,qI]
  cases hp:p x with
  | true=>
   obtain⟨e2,b2,i2⟩:=t1 hp
   obtain⟨y1,y2⟩:=zqj p out I l e2 i2 λy hy=>hs y (qW _ hy)
   rw[b2,qI]
   exact⟨λh=>y1 h,λy h=>y2 y h⟩
  | false=>
   obtain⟨b1,d,fr,e⟩:=f1 hp
   refine⟨λh=>(by cases h),λy h=>?_⟩
   cases h
   rw[b1,e];rfl
noncomputable def paC(W:Web)(p:Nat)(R:List Rule)(k:Nat)(a o:Str):Option (List Str):=(zdl (nm W) p).find? λc=>!alP W R k a o c
noncomputable def optD:Option (List Str)->PyData
 | none=>.none
 | some c=>zai c
theorem zape{W:Web}{p:Nat}{R:List Rule}(b:Bo W p R){k:Nat}(hk:k<p){a o:Str}(ha:a∈nm W)(ho:o∈nm W):zou [zbh W p R,.int (k:Int),.str a,.str o]=some (optD (paC W p R k a o),false):=by
 have hp3:p<=3:=by have:=b.sz;unfold szB at this;omega
 have hW:W.length<=10:=by have:=b.sz;unfold szB at this;omega
 have hck:zdg [webD W,zaj [a,o]]=some (.none,false):=zol (by omega) λn hn=>by
  rcases qc.mp hn with rfl|hn
  ·exact ha
  ·rw[qe.mp hn];exact ho
 have z:=zqj (enc:=zai) (g:=gN 4) (body:=paB) (alP W R k a o) (λc=>Out.rt (zai c) false) (λenv=>∃s4 s5,env=paE W p R k a o s4 s5) (zdl (nm W) p) (paE W p R k a o .no .no) ⟨_,_,rfl⟩ (by
  rintro c hc env ⟨s4,s5,rfl⟩
  obtain⟨cl,ci⟩:=zys b.sz hc
  have hkc:k<c.length:=by omega
  have xl:=zali (o:=o) hkc
  have xi:∀x∈exC c k o,x∈nm W:=λx hx=>(zalj hx).elim (λe=>e▸ho) (ci x)
  have f5:sSet 5 (exE' 4 1 3) (paE W p R k a o (.pl (zai c)) s5)=some (.nx (paF W p R k a o c)):=zlr (zaqe (c:=c) (k:=k) (b:=o) rfl rfl rfl (by omega))
  have t1:zbv (eOp eqD (eIxV 4 (eVar 1)) (eVar 2)) (paF W p R k a o c)=some (decide (c[k]?=some a)):=by
   refine zgj (zem (zalm hkc rfl rfl) (y:=vs a) rfl ?_)
   rw[eqS,qS hkc]
   have:decide (c[k]=a)=decide (some c[k]=some a):=by simp
   rw[this]
  have g1:=zbg (n:=2) (g:=zcd) (rs:=[⟨zbh W p R,false,[]⟩,⟨zai c,false,[]⟩]) (f:=zab (eVar 0) (zab (eVar 4) aNil)) (env:=paF W p R k a o c) rfl rfl (zaxj b cl ci)
  have g2:=zbg (n:=2) (g:=zcd) (rs:=[⟨zbh W p R,false,[]⟩,⟨zai (exC c k o),false,[]⟩]) (f:=zab (eVar 0) (zab (eVar 5) aNil)) (env:=paF W p R k a o c) rfl rfl (zaxj b (by omega) xi)
  have t2:=zgj (zem g1 g2 (zaqf b c (exC c k o)))
  have tt:zob (zbv (eOp eqD (eIxV 4 (eVar 1)) (eVar 2))) (zbv (eOp neD (zbb 2 zcd (zab (eVar 0) (zab (eVar 4) aNil))) (zbb 2 zcd (zab (eVar 0) (zab (eVar 5) aNil))))) (paF W p R k a o c)=some (!alP W R k a o c):=by
   unfold zob
   rw[t1,t2,qCu]
   cases decide (c[k]?=some a)<;>rfl
  refine⟨_,rfl,λht=>?_,λhf=>⟨?_,_,_,rfl⟩⟩
  ·rw[ht]at tt
   exact⟨_,zbj f5 (if_f tt rfl),_,_,rfl⟩
  ·rw[hf]at tt
   exact zbj f5 (if_t tt rfl))
 have st:∀o',forL (gN 4) paB ((zdl (nm W) p).map zai) (paE W p R k a o .no .no)=some o'->sFor (zar (zbb 1 zfm (zab (eVar 0) aNil))) (gN 4) paB (paE W p R k a o .no .no)=some o':=λo' e=>zafg (bs:=[]) (zapd b rfl) e
 have f0:zzn (zbb 2 zdg (zab (eIxV 0 (eC (.int 0))) (zab (eLst (zab (eVar 2) (zab (eVar 3) aNil))) aNil))) (paE W p R k a o .no .no)=some (.nx (paE W p R k a o .no .no)):=zada (zbg (n:=2) zaxk rfl hck)
 cases hb:paC W p R k a o with
 | none=>
  obtain⟨e',l,s4,s5,rfl⟩:=z.1 hb
  exact zhl (env:=paE W p R k a o .no .no) rfl (zbj f0 (zbj (st _ l) rfl))
 | some c=>exact zhl (env:=paE W p R k a o .no .no) rfl (zbj f0 (zok (st _ (z.2 c hb))))
theorem zalr{W:Web}{p:Nat}{R:List Rule}(b:Bo W p R){k:Nat}(hk:k<p){a o:Str}(ho:o∈nm W):zho [zbh W p R,.int (k:Int),.str a,.str o]=some (optD (paC W p R k a o),false):=by
 have hp3:p<=3:=by have:=b.sz;unfold szB at this;omega
 obtain⟨frc,gc⟩:=zalh (R:=R) b.sz
 have z:=zqj (enc:=zai) (g:=gN 5) (body:=sIf (zbv (eOp eqD (eIxV 5 (eVar 1)) (eVar 2))) (sSeq (sSet 6 (exE' 5 1 3)) (sIf (zbv (eOp neD (zbb 3 zca (zab (eVar 4) (zab (eIxV 0 (eC (.int 2))) (zab (eVar 5) aNil)))) (zbb 3 zca (zab (eVar 4) (zab (eIxV 0 (eC (.int 2))) (zab (eVar 6) aNil)))))) (zlb 5) sNil)) sNil) (alP W R k a o) (λc=>Out.rt (zai c) false) (λenv=>∃s5 s6,env=luD W p R k a o s5 s6) (zdl (nm W) p) (luD W p R k a o .no .no) ⟨_,_,rfl⟩ (by
  rintro c hc env ⟨s5,s6,rfl⟩
  obtain⟨cl,ci⟩:=zys b.sz hc
  have hkc:k<c.length:=by omega
  have xl:=zali (o:=o) hkc
  have xi:∀x∈exC c k o,x∈nm W:=λx hx=>(zalj hx).elim (λe=>e▸ho) (ci x)
  have t1:zbv (eOp eqD (eIxV 5 (eVar 1)) (eVar 2)) (luD W p R k a o (.pl (zai c)) s6)=some (decide (c[k]?=some a)):=by
   refine zgj (zem (zalm hkc rfl rfl) (y:=vs a) rfl ?_)
   rw[eqS,qS hkc]
   have:decide (c[k]=a)=decide (some c[k]=some a):=by simp
   rw[this]
  have f6:sSet 6 (exE' 5 1 3) (luD W p R k a o (.pl (zai c)) s6)=some (.nx (luD W p R k a o (.pl (zai c)) (.pl (zai (exC c k o))))):=zlr (zaqe (c:=c) (k:=k) (b:=o) rfl rfl rfl (by omega))
  have g1:=zbg (n:=3) (g:=zca) (rs:=[⟨.dict (dS zaj (ups W)),false,[4]⟩,⟨zbk R,false,[]⟩,⟨zai c,false,[]⟩]) (f:=zab (eVar 4) (zab (eIxV 0 (eC (.int 2))) (zab (eVar 5) aNil))) (env:=luD W p R k a o (.pl (zai c)) (.pl (zai (exC c k o)))) rfl rfl (zall b cl ci)
  have g2:=zbg (n:=3) (g:=zca) (rs:=[⟨.dict (dS zaj (ups W)),false,[4]⟩,⟨zbk R,false,[]⟩,⟨zai (exC c k o),false,[]⟩]) (f:=zab (eVar 4) (zab (eIxV 0 (eC (.int 2))) (zab (eVar 6) aNil))) (env:=luD W p R k a o (.pl (zai c)) (.pl (zai (exC c k o)))) rfl rfl (zall b (by omega) xi)
  have t2:=zgj (zem g1 g2 (zaqf b c (exC c k o)))
  refine⟨_,rfl,λht=>?_,λhf=>⟨?_,_,_,rfl⟩⟩
  ·have ht:(!(decide (c[k]?=some a)&&!(zel (ansL W R c)).eqv (zel (ansL W R (exC c k o)))))=true:=ht
   cases hd:decide (c[k]?=some a)with
   | false=>rw[hd]at t1;exact⟨_,if_f t1 rfl,_,_,rfl⟩
   | true=>
    rw[hd]at t1 ht
    rw[Bool.true_and,qCu]at ht
    rw[ht]at t2
    exact⟨_,if_t t1 (zbj f6 (if_f t2 rfl)),_,_,rfl⟩
  ·have hf:(!(decide (c[k]?=some a)&&!(zel (ansL W R c)).eqv (zel (ansL W R (exC c k o)))))=false:=hf
   cases hd:decide (c[k]?=some a)with
   | false=>rw[hd]at hf;cases hf
   | true=>
    rw[hd]at hf t1
    rw[Bool.true_and,qCu]at hf
    rw[hf]at t2
    exact if_t t1 (zbj f6 (if_t t2 rfl)))
 have it:zar (zbb 1 zgr (zab (eVar 0) aNil)) (luD W p R k a o .no .no)=some ((zdl (nm W) p).map zai,[]):=by
  unfold zar
  rw[zbg (n:=1) (rs:=[⟨zbh W p R,false,[]⟩]) rfl rfl gc];rfl
 refine zhl (env:=luE W p R k a o .no .no .no) rfl (zbj (e1:=luD W p R k a o .no .no) (zlr (zbg (n:=1) (rs:=[⟨webD W,false,[]⟩]) rfl rfl (zaxg b.web))) ?_)
 cases hb:paC W p R k a o with
 | none=>
  obtain⟨e',l,s5,s6,rfl⟩:=z.1 hb
  exact zbj (zafg (bs:=[]) it l) rfl
 | some c=>exact zok (zafg (bs:=[]) it (z.2 c hb))
theorem zabr{W:Web}{p:Nat}{R:List Rule}(b:Bo W p R){k:Nat}(hk:k<p){a o:Str}(ha:a∈nm W)(ho:o∈nm W):zce [zbh W p R,zbh W p R,.int (k:Int),.str a,.str o]=some (.bool true,false):=by
 have hp3:p<=3:=by have:=b.sz;unfold szB at this;omega
 have g1:=zalr b hk (a:=a) ho
 have g2:=zape b hk ha ho
 have f1:sSet 5 (zbb 4 zho (zab (eVar 0) (zab (eVar 2) (zab (eVar 3) (zab (eVar 4) aNil))))) [.pl (zbh W p R),.pl (zbh W p R),.pl (.int (k:Int)),.pl (.str a),.pl (.str o),.no,.no]=some (.nx [.pl (zbh W p R),.pl (zbh W p R),.pl (.int (k:Int)),.pl (.str a),.pl (.str o),.pl (optD (paC W p R k a o)),.no]):=
  by cases hx:paC W p R k a o<;>rw[hx]at g1<;>exact zlr (zbg (n:=4) (rs:=[⟨zbh W p R,false,[]⟩,vi (k:Int),vs a,vs o]) rfl rfl g1)
 have f2:sSet 6 (zbb 4 zou (zab (eVar 1) (zab (eVar 2) (zab (eVar 3) (zab (eVar 4) aNil))))) [.pl (zbh W p R),.pl (zbh W p R),.pl (.int (k:Int)),.pl (.str a),.pl (.str o),.pl (optD (paC W p R k a o)),.no]=some (.nx [.pl (zbh W p R),.pl (zbh W p R),.pl (.int (k:Int)),.pl (.str a),.pl (.str o),.pl (optD (paC W p R k a o)),.pl (optD (paC W p R k a o))]):=
  by cases hx:paC W p R k a o<;>rw[hx]at g2<;>exact zlr (zbg (n:=4) (rs:=[⟨zbh W p R,false,[]⟩,vi (k:Int),vs a,vs o]) rfl rfl g2)
 refine zhl (env:=[.pl (zbh W p R),.pl (zbh W p R),.pl (.int (k:Int)),.pl (.str a),.pl (.str o),.no,.no]) rfl (zbj f1 (zbj f2 ?_))
 cases hb:paC W p R k a o with
 | none=>exact zok (if_t rfl rfl)
 | some c=>
  have hc:=List.mem_of_find?_eq_some hb
  obtain⟨cl,ci⟩:=zys b.sz hc
  have sm:zid [zai c,zai c]=some (.bool true,false):=zoz 7 _ ⟨by rw[qE];omega,zaeg⟩
  exact zbj (if_f rfl rfl) (zgi (zbg (n:=2) (rs:=[⟨zai c,false,[]⟩,⟨zai c,false,[]⟩]) rfl rfl sm))
theorem zaei{W:Web}{p:Nat}{R:List Rule}(b:Bo W p R){k:Nat}{a o x:Str}(hf:zhc W [a,o]=some x)(hat:∀z∈[a,o],z∉nm W->atD (.str z)=true) :
  zdt [zbh W p R,.int (k:Int),.str a,.str o]=some (.tuple [.bool true,.str x],false):=by
 have hW:W.length<=10:=by have:=b.sz;unfold szB at this;omega
 have c1:zdj [webD W,zaj [a,o]]=some (.rx "NoKind" (.str x)):=by
  rw[zvb (by omega) hat,hf]
 have p1:zfs [zbh W p R,.int (k:Int),.str a,.str o]=some (.rx "NoKind" (.str x)):=by
  refine zaxm (env:=paE W p R k a o .no .no) rfl (zato ?_)
  unfold zasm
  rw[zaxk,qI]
  show((zdj [webD W,zaj [a,o]]).map _)=_
  rw[c1];rfl
 refine zhl (env:=[.pl (zbh W p R),.pl (.int (k:Int)),.pl (.str a),.pl (.str o),.no]) rfl (zok ?_)
 show zakl ["NoKind"] 4 4 zfs (zab (eVar 0) (zab (eVar 1) (zab (eVar 2) (zab (eVar 3) aNil)))) _ [.pl (zbh W p R),.pl (.int (k:Int)),.pl (.str a),.pl (.str o),.no]=_
 unfold zakl
 show((zfs [zbh W p R,.int (k:Int),.str a,.str o]).bind _)=_
 rw[p1,qI]
 dsimp only
 rw[if_pos (by simp)]
 rfl
noncomputable def zabs:SFr Pen:=(rSeq (rSet 2 (zbi 2 zaq (zbo (zap (eC (.int 3))) rNil)))
  (rSeq (rSet 3 (zbi 1 zhe rNil))
  (rSeq (rSet 4 (zap (zbb 1 zjo (zab (eVar 3) aNil))))
  (rSeq (rSet 5 (zap (zdy ["_law_name_here","_law_elders"] [] (zar (eIxV 3 (eC (.int 0)))) (gT 2 (zas 0 (zas 1 zdn))) zcf (eVar 0))))
  (rSeq (rSet 6 (zbi 2 zaq (zbo (zap (eIxV 3 (eC (.int 1)))) rNil)))
  (rSeq (rSet 7 (rOp ixD (zap (eVar 5)) (zbi 2 zaq (zbo (zap (eCB lenD (zab (eVar 5) aNil))) rNil))))
  (rSeq (rSet 8 (rOp ixD (zap (eVar 5)) (zbi 2 zaq (zbo (zap (eCB lenD (zab (eVar 5) aNil))) rNil))))
  (rSeq (rIf (zpp (tOrF (zlj (tTru (zbb 5 zce (zab (eVar 3) (zab (eVar 4) (zab (eVar 6) (zab (eVar 7) (zab (eVar 8) aNil)))))))) (zlj (tTru (zbb 5 zce (zab (eVar 3) (zab (eVar 4) (zab (eVar 6) (zab (eVar 8) (zab (eVar 7) aNil)))))))))) (rRet (zap (eC (.bool false)))) rNx)
  (rSeq (rSet 9 (rLst (zbo (zbi 2 zcj (zbo (zap (eVar 5)) rNil)) rNil)))
  (rSeq (rApp 9 (zbi 2 zcj (zbo (zap (eOp addD (eVar 5) (eVar 9))) rNil)))
  (rSeq (rSet 10 (zap (eOp ixD (eLst (zab (eLst (zab (eIxV 9 (eC (.int 0))) (zab (eVar 8) aNil))) (zab (eLst (zab (eVar 7) (zab (eIxV 9 (eC (.int 0))) aNil))) (zab (eVar 9) aNil)))) (eVar 2))))
  (rSeq (rIf (zpp (zbv (eOp neD (zbb 4 zdt (zab (eVar 4) (zab (eVar 6) (zab (eIxV 10 (eC (.int 0))) (zab (eIxV 10 (eC (.int 1))) aNil))))) (eTup (zab (eC (.bool true)) (zab (eIxV 9 (eC (.int 0))) aNil)))))) (rRet (zap (eC (.bool false)))) rNx)
  (rRet (zap (eAnd (zbb 5 zce (zab (eVar 3) (zab (eVar 4) (zab (eVar 6) (zab (eVar 7) (zab (eVar 8) aNil)))))) (zbb 2 zid (zab (eVar 3) (zab (eVar 4) aNil))))))))))))))))))
noncomputable abbrev m0E(s2 s3 s4 s5 s6 s7 s8 s9 s10:Sl):DEnv:=[.no,.no,s2,s3,s4,s5,s6,s7,s8,s9,s10]
noncomputable abbrev m0a(r:Int)(W:Web)(p:Nat)(R:List Rule)(s5 s6 s7 s8 s9 s10:Sl):DEnv:=m0E (.pl (.int r)) (.pl (zbh W p R)) (.pl (zbh W p R)) s5 s6 s7 s8 s9 s10
noncomputable abbrev m0b(r:Int)(W:Web)(p:Nat)(R:List Rule)(k:Nat)(a o:Str)(s9 s10:Sl):DEnv:=m0a r W p R (.ac (zaj (nm W))) (.pl (.int (k:Int))) (.pl (.str a)) (.pl (.str o)) s9 s10
theorem zapf(ns:List Int):∃s st',zjn ns=some s/\zabs (List.replicate 11 .no) ⟨ns.take 63,0,s,0⟩=some (.rt (.bool true) false st'):=by
 obtain⟨sd,es⟩:=zatj ns
 have b0:PenB (899+1) (⟨ns.take 63,0,sd,0⟩:Pen):=⟨by show(ns.take 63).length<=63;rw[qA6];omega,Int.le_refl 0,by show(0:Int)+_<=_;omega⟩
 obtain⟨r0,z0,e0,a0,c0,p0⟩:=zmx (n:=899) (a:=zap (eC (.int 3))) (env:=m0E .no .no .no .no .no .no .no .no .no) (st:=⟨ns.take 63,0,sd,0⟩) (s1:=⟨ns.take 63,0,sd,0⟩) (bs:=[]) rfl b0 (by decide) (by decide)
 obtain⟨W,p,R,s1,e1,sz,ok,rok,hR,p1,wok,rin⟩:=zapa (n:=599) (p0.mono (by omega))
 have hW1:1<=W.length/\W.length<=10/\1<=p/\p<=3:=by unfold szB at sz;omega
 have bo:Bo W p R:=⟨wok,sz,⟨λr hr=>(rok.kin r hr).1,λr hr=>(rin.kinds r hr).1,λr hr=>by have:=(rok.kin r hr).2;omega,by omega⟩,λr hr=>zon (rok.low r hr).1,λr hr=>by have:=(rok.kin r hr).2;omega⟩
 have hn:(nm W).length=W.length:=qE ..
 have c1:zjo [zbh W p R]=some (zbh W p R,false):=zaxf (by omega)
 have nmE:zdy ["_law_name_here","_law_elders"] [] (zar (eIxV 3 (eC (.int 0)))) (gT 2 (zas 0 (zas 1 zdn))) zcf (eVar 0) (m0a r0 W p R .no .no .no .no .no .no)=some ⟨zaj (nm W),true,[]⟩:=by
  have it:zar (eIxV 3 (eC (.int 0))) (m0a r0 W p R .no .no .no .no .no .no)=some (W.map rowD,[]):=rfl
  have cm:zdx (gT 2 (zas 0 (zas 1 zdn))) zcf (eVar 0) (envB ["_law_name_here","_law_elders"] [] (m0a r0 W p R .no .no .no .no .no .no)) (W.map rowD)=some (W.map λq=>.str q.1):=zcp λq hq=>⟨[.pl (.str q.1),.pl (zaj q.2)],rfl,rfl,vs q.1,rfl,rfl⟩
  rw[zek it (by rw[qE];omega) cm]
  have e:(W.map λq=>PyData.str q.1)=(nm W).map .str:=by unfold nm;rw[qAn];rfl
  rw[e,if_pos (zmn _)];rfl
 obtain⟨r6,s6,e6,a6,b6,p6⟩:=zmx (n:=598) (a:=zap (eIxV 3 (eC (.int 1)))) (env:=m0a r0 W p R (.ac (zaj (nm W))) .no .no .no .no .no) (st:=s1) (s1:=s1) (k:=(p:Int)) (bs:=[]) rfl p1 (by omega) (by omega)
 obtain⟨k,rfl⟩:=zuo a6
 have hk:k<p:=by omega
 obtain⟨a,s7,e7,ha,p7⟩:=zabq (W:=W) (n:=597) (env:=m0a r0 W p R (.ac (zaj (nm W))) (.pl (.int (k:Int))) .no .no .no .no) (st:=s6) rfl hW1.1 (by omega) p6
 obtain⟨o,s8,e8,ho,p8⟩:=zabq (W:=W) (n:=596) (env:=m0a r0 W p R (.ac (zaj (nm W))) (.pl (.int (k:Int))) (.pl (.str a)) .no .no .no) (st:=s7) rfl hW1.1 (by omega) p7
 have g1:=zabr bo hk ha ho
 have g2:=zabr bo hk ho ha
 have t10:tOrF (zlj (tTru (zbb 5 zce (zab (eVar 3) (zab (eVar 4) (zab (eVar 6) (zab (eVar 7) (zab (eVar 8) aNil)))))))) (zlj (tTru (zbb 5 zce (zab (eVar 3) (zab (eVar 4) (zab (eVar 6) (zab (eVar 8) (zab (eVar 7) aNil)))))))) (m0b r0 W p R k a o .no .no)=some false:=by
  unfold tOrF
  rw[zafm (zbg (n:=5) (rs:=[⟨zbh W p R,false,[]⟩,⟨zbh W p R,false,[]⟩,vi (k:Int),vs a,vs o]) rfl rfl g1),zafm (zbg (n:=5) (rs:=[⟨zbh W p R,false,[]⟩,⟨zbh W p R,false,[]⟩,vi (k:Int),vs o,vs a]) rfl rfl g2)];rfl
 have q3:zid [zbh W p R,zbh W p R]=some (.bool true,false):=zoz 7 _ (zath (by omega) ok.few hR λr hr=>(rok.kin r hr).2)
 have lowA:∀x∈nm W,Low x/\x.length<=100:=λy hy=>by
  obtain⟨q,hq,rfl⟩:=qAB.mp hy
  exact ok.low q hq
 obtain⟨x,s9,ex,lx,nx,px,mx⟩:=zaga (n:=580) (A:=nm W) (L:=100) (p8.mono (by omega)) (by omega) lowA (by omega)
 obtain⟨y,s10,ey,ly,ny,py,my⟩:=zaga (n:=570) (A:=nm W++[x]) (L:=108) (px.mono (by omega)) (by rw[qH,hn];simp;omega) (λz hz=>by
  rcases qy.mp hz with hz|hz
  ·exact⟨(lowA z hz).1,qv (lowA z hz).2 (by decide)⟩
  ·rw[qe.mp hz];exact⟨lx,nx⟩) (by omega)
 have atx:∀z,Low z->z.length<=200->atD (.str z)=true:=λz h1 h2=>decide_eq_true (zalq h1 h2)
 have aty:∀u v:Str,(u∈nm W\/u=x\/u=y)->(v∈nm W\/v=x\/v=y)->∀z∈[u,v],z∉nm W->atD (.str z)=true:=λu v hu hv z hz hnz=>by
  have one:∀w,(w∈nm W\/w=x\/w=y)->w∉nm W->atD (.str w)=true:=λw hw hnw=>by
   rcases hw with hw|rfl|rfl
   ·exact absurd hw hnw
   ·exact atx _ lx (by omega)
   ·exact atx _ ly (by omega)
  rcases qc.mp hz with rfl|hz
  ·exact one _ hu hnz
  ·rw[qe.mp hz]at hnz ⊢
   exact one _ hv hnz
 have w1:rSet 9 (rLst (zbo (zbi 2 zcj (zbo (zap (eVar 5)) rNil)) rNil)) (m0b r0 W p R k a o .no .no) s8=some (.nx (m0b r0 W p R k a o (.ac (zaj [x])) .no) s9):=by
  refine zcz (r:=⟨zaj [x],true,[]⟩) ?_
  have n2:=zir (T:=Pen) (n:=2) (g:=zcj) (zed (T:=Pen) (g:=rNil) (a:=zap (eVar 5)) (env:=m0b r0 W p R k a o .no .no) (x:=⟨zaj (nm W),false,[5]⟩) (xs:=[]) (s1:=s8) (s2:=s8) rfl rfl) rfl ex
  unfold rLst
  rw[zed (T:=Pen) (g:=rNil) (xs:=[]) (s2:=s9) n2 rfl];rfl
 have ad:addD (zaj (nm W)) (zaj [x])=some (zaj (nm W++[x]),true):=by
  show addD (.list ((nm W).map .str)) (.list [.str x])=_
  unfold addD
  dsimp only
  rw[if_pos (by rw[qE,hn];simp;omega)]
  unfold zaj
  rw[qg];rfl
 have w2:rApp 9 (zbi 2 zcj (zbo (zap (eOp addD (eVar 5) (eVar 9))) rNil)) (m0b r0 W p R k a o (.ac (zaj [x])) .no) s9=some (.nx (m0b r0 W p R k a o (.ac (zaj [x,y])) .no) s10):=by
  have o1:=zem (w:=addD) (a:=eVar 5) (b:=eVar 9) (env:=m0b r0 W p R k a o (.ac (zaj [x])) .no) (x:=⟨zaj (nm W),false,[5]⟩) (y:=⟨zaj [x],false,[9]⟩) rfl rfl ad
  have n2:=zir (T:=Pen) (n:=2) (g:=zcj) (zed (T:=Pen) (g:=rNil) (xs:=[]) (s2:=s9) (zcr (st:=s9) o1) rfl) rfl ey
  exact zqi (i:=9) (ds:=[.str x]) (d:=.str y) (fr:=false) (bs:=[]) rfl n2 (by show 1<100000;decide) (by simp)
 have w3:∃u v:Str,rSet 10 (zap (eOp ixD (eLst (zab (eLst (zab (eIxV 9 (eC (.int 0))) (zab (eVar 8) aNil))) (zab (eLst (zab (eVar 7) (zab (eIxV 9 (eC (.int 0))) aNil))) (zab (eVar 9) aNil)))) (eVar 2))) (m0b r0 W p R k a o (.ac (zaj [x,y])) .no) s10=some (.nx (m0b r0 W p R k a o (.pl (zaj [x,y])) (.pl (zaj [u,v]))) s10)/\zhc W [u,v]=some x/\(u∈nm W\/u=x\/u=y)/\(v∈nm W\/v=x\/v=y):=by
  have nx1:(!decide (x∈nm W))=true:=by rw[decide_eq_false mx];rfl
  have na1:(!decide (a∈nm W))=false:=by rw[decide_eq_true ha];rfl
  rcases(show r0=0\/r0=1\/r0=2 by omega)with rfl|rfl|rfl
  ·exact⟨x,o,rfl,by unfold zhc;rw[qAX,nx1],.inr (.inl rfl),.inl ho⟩
  ·exact⟨a,x,rfl,by unfold zhc;rw[qAX,na1,qAX,nx1],.inl ha,.inr (.inl rfl)⟩
  ·exact⟨x,y,rfl,by unfold zhc;rw[qAX,nx1],.inr (.inl rfl),.inr (.inr rfl)⟩
 obtain⟨u,v,w3,hfn,hu,hv⟩:=w3
 have gr:=zaei bo (k:=k) hfn (aty u v hu hv)
 have t12:zbv (eOp neD (zbb 4 zdt (zab (eVar 4) (zab (eVar 6) (zab (eIxV 10 (eC (.int 0))) (zab (eIxV 10 (eC (.int 1))) aNil))))) (eTup (zab (eC (.bool true)) (zab (eIxV 9 (eC (.int 0))) aNil)))) (m0b r0 W p R k a o (.pl (zaj [x,y])) (.pl (zaj [u,v])))=some false:=by
  have sh:qx (.tuple [.bool true,.str x])=true:=zalp (k:=2) (zaxn (zalo zatp (zalo (zaxo (zon lx)) zaxp))) (by decide)
  exact zaza (zbg (n:=4) (rs:=[⟨zbh W p R,false,[]⟩,vi (k:Int),vs u,vs v]) rfl rfl gr) (b:=eTup (zab (eC (.bool true)) (zab (eIxV 9 (eC (.int 0))) aNil))) (f2:=false) (b2:=[]) rfl sh
 have fin:eAnd (zbb 5 zce (zab (eVar 3) (zab (eVar 4) (zab (eVar 6) (zab (eVar 7) (zab (eVar 8) aNil)))))) (zbb 2 zid (zab (eVar 3) (zab (eVar 4) aNil))) (m0b r0 W p R k a o (.pl (zaj [x,y])) (.pl (zaj [u,v])))=some (vb true):=by
  unfold eAnd
  rw[zbg (n:=5) (rs:=[⟨zbh W p R,false,[]⟩,⟨zbh W p R,false,[]⟩,vi (k:Int),vs a,vs o]) rfl rfl g1,zbg (n:=2) (rs:=[⟨zbh W p R,false,[]⟩,⟨zbh W p R,false,[]⟩]) (zeu rfl (zit rfl)) rfl q3];rfl
 refine⟨sd,s10,es,?_⟩
 refine zax (e1:=m0E (.pl (.int r0)) .no .no .no .no .no .no .no .no) (s1:=z0) (zcz e0) ?_
 refine zax (e1:=m0E (.pl (.int r0)) (.pl (zbh W p R)) .no .no .no .no .no .no .no) (s1:=s1) (zcz (zir (T:=Pen) (n:=1) (rs:=[]) (s1:=z0) rfl rfl e1)) ?_
 refine zax (e1:=m0a r0 W p R .no .no .no .no .no .no) (s1:=s1) (zcz (zcr (zbg (n:=1) (rs:=[⟨zbh W p R,false,[]⟩]) rfl rfl c1))) ?_
 refine zax (e1:=m0a r0 W p R (.ac (zaj (nm W))) .no .no .no .no .no) (s1:=s1) (zcz (zcr nmE)) ?_
 refine zax (e1:=m0a r0 W p R (.ac (zaj (nm W))) (.pl (.int (k:Int))) .no .no .no .no) (s1:=s6) (zcz e6) ?_
 refine zax (e1:=m0a r0 W p R (.ac (zaj (nm W))) (.pl (.int (k:Int))) (.pl (.str a)) .no .no .no) (s1:=s7) (zcz e7) ?_
 refine zax (e1:=m0b r0 W p R k a o .no .no) (s1:=s8) (zcz e8) ?_
 refine zax (zaac (zhy t10) rfl) (zax w1 (zax w2 (zax w3 (zax (zaac (zhy t12) rfl) (zacu (bs:=[]) (zcr fin))))))
section
variable{P:Program}{w:World}{K:qC}{mg:Str->Option Value}{base:Heap}
noncomputable def zapg(K:qC):Sp:=λvs H Q _=>∃(a:Addr)(ns:List Int),vs=[.ref a]/\SqL K H a (ns.map V.int)/\∀H',Q (.bl true) H'
theorem zaxq{f:Addr}{fd:qt}(F:Fun K "law" "law" zyk f fd)(T:Txt mg)(D_law_book:zwj P w K mg base)(D_law_copy:zwl P w K mg base)(D_law_draw:zjw P w K mg base)(D_law_name:zmt P w K mg base)(D_law_pen:zabg P w K mg base)(D_law_refused:zoy P w K mg base)(D_law_right:zul P w K mg base)(D_law_same:zqd P w K mg base):FnOk P w K mg base CX0 10 f fd ["_law_script"] (zapg K):=by
 refine F.ok zawz (λvs H Q E h=>?_) (λcdv A outer s H vs Q E hr h=>?_)
 ·obtain⟨a,ns,rfl,_⟩:=h
  rfl
 ·obtain⟨a,ns,rfl,hS,k⟩:=h
  have hu:=zei hr
  obtain⟨sd,st1,es,ef⟩:=zapf ns
  apply Exists.intro
  apply And.intro
  ·refine' Bx.out (zae (zje (i:=1) zmc rfl (Or.inl rfl) (zhk D_law_pen (hr.mono (by decide)) (by rfl) (zag (bv 0) zad (by rfl)) (by decide) (zao (by rfl)) (by rfl)) (by rfl) (.inl rfl))
 (zae (zje (i:=2) zmc rfl (Or.inl rfl) (zhk D_law_draw (hr.mono (by decide)) (by rfl) (zag (bv 1) (zag zal zad (by rfl)) (by rfl)) (by decide) (zao (by rfl)) (by rfl)) (by rfl) (.inl rfl))
 (zae (zje (i:=3) zmc rfl (Or.inl rfl) (zhk D_law_book (hr.mono (by decide)) (by rfl) (zag (bv 1) zad (by rfl)) (by decide) (zao (by rfl)) (by rfl)) (by rfl) (.inl rfl))
 (zae (zje (i:=4) zmc rfl (Or.inl rfl) (zhk D_law_copy (hr.mono (by decide)) (by rfl) (zag (bv 3) zad (by rfl)) (by decide) (zao (by rfl)) (by rfl)) (by rfl) (.inl rfl))
 (zae (zzu (i:=5) (zbp (N':=["_law_name_here","_law_elders"]) (own:=["_law_name_here","_law_elders"]) (fr:=[]) (by kernel_rfl)) rfl (zbf (K:=K) rfl (zlm (zcm (K:=K) rfl) (bv 3) zal (λ_ _=>rfl))) ?hb1 (by rfl) zmc rfl rfl (by intro _;rfl))
 (zae (zje (i:=6) zmc rfl (Or.inl rfl) (zhk D_law_draw (hr.mono (by decide)) (by rfl) (zag (bv 1) (zag (zlm (zcm (K:=K) rfl) (bv 3) zal (λ_ _=>rfl)) zad (by rfl)) (by rfl)) (by decide) (zao (by rfl)) (by rfl)) (by rfl) (.inl rfl))
 (zae (zje (i:=7) zmc rfl (Or.inl rfl) (zlm (zcm (K:=K) rfl) (bv 5) (zhk D_law_draw (hr.mono (by decide)) (by rfl) (zag (bv 1) (zag (zcn (zff (K:=K) rfl) (by rfl) T.len zhf (zag (bv 5) zad (by rfl)) (by decide) (by decide) (zao (by rfl)) (by rfl)) zad (by rfl)) (by rfl)) (by decide) (zao (by rfl)) (by rfl)) (λ_ _=>rfl)) (by rfl) (.inl rfl))
 (zae (zje (i:=8) zmc rfl (Or.inl rfl) (zlm (zcm (K:=K) rfl) (bv 5) (zhk D_law_draw (hr.mono (by decide)) (by rfl) (zag (bv 1) (zag (zcn (zff (K:=K) rfl) (by rfl) T.len zhf (zag (bv 5) zad (by rfl)) (by decide) (by decide) (zao (by rfl)) (by rfl)) zad (by rfl)) (by rfl)) (by decide) (zao (by rfl)) (by rfl)) (λ_ _=>rfl)) (by rfl) (.inl rfl))
 (zae (zdp (zajh (znp (zct (K:=K) rfl (zhk D_law_right (hr.mono (by decide)) (by rfl) (zag (bv 3) (zag (bv 4) (zag (bv 6) (zag (bv 7) (zag (bv 8) zad (by rfl)) (by rfl)) (by rfl)) (by rfl)) (by rfl)) (by decide) (zao (by rfl)) (by rfl)) (λ_=>rfl))) (zacr (znp (zct (K:=K) rfl (zhk D_law_right (hr.mono (by decide)) (by rfl) (zag (bv 3) (zag (bv 4) (zag (bv 6) (zag (bv 8) (zag (bv 7) zad (by rfl)) (by rfl)) (by rfl)) (by rfl)) (by rfl)) (by decide) (zao (by rfl)) (by rfl)) (λ_=>rfl))))).pt (zak (zaw zvj)) zbt)
 (zae (zje (i:=9) zmc rfl (Or.inl rfl) (zci (zag (zhk D_law_name (hr.mono (by decide)) (by rfl) (zag (bv 1) (zag (bv 5) zad (by rfl)) (by rfl)) (by decide) (zao (by rfl)) (by rfl)) zad (by rfl))) (by rfl) (.inl rfl))
 (zae (zeo (zhr (K:=K) rfl qAR qAc qAb zhh (bv 9) (zag (zhk D_law_name (hr.mono (by decide)) (by rfl) (zag (bv 1) (zag (zbn (zcl (K:=K) rfl) (bv 5) (bv 9)) zad (by rfl)) (by rfl)) (by decide) (zao (by rfl)) (by rfl)) zad (by rfl)) (by rfl) (by rfl) (by rfl) (zao (by rfl)) (by rfl)) (by rfl))
 (zae (zje (i:=10) zmc rfl (Or.inl rfl) (zlm (zcm (K:=K) rfl) (zci (zag (zci (zag (zlm (zcm (K:=K) rfl) (bv 9) zal (λ_ _=>rfl)) (zag (bv 8) zad (by rfl)) (by rfl))) (zag (zci (zag (bv 7) (zag (zlm (zcm (K:=K) rfl) (bv 9) zal (λ_ _=>rfl)) zad (by rfl)) (by rfl))) (zag (bv 9) zad (by rfl)) (by rfl)) (by rfl))) (bv 2) (λ_ _=>rfl)) (by rfl) (.inl rfl))
 (zae (zdp (zbu (zll (K:=K) rfl hr.units) (zhk D_law_refused (hr.mono (by decide)) (by rfl) (zag (bv 4) (zag (bv 6) (zag (zlm (zcm (K:=K) rfl) (bv 10) zal (λ_ _=>rfl)) (zag (zlm (zcm (K:=K) rfl) (bv 10) zal (λ_ _=>rfl)) zad (by rfl)) (by rfl)) (by rfl)) (by rfl)) (by decide) (zao (by rfl)) (by rfl)) (zdq (zag zvj (zag (zlm (zcm (K:=K) rfl) (bv 9) zal (λ_ _=>rfl)) zad (by rfl)) (by rfl))) (zeq _)) (zak (zaw zvj)) zbt)
 (zak (zaw (zpo (zhk D_law_right (hr.mono (by decide)) (by rfl) (zag (bv 3) (zag (bv 4) (zag (bv 6) (zag (bv 7) (zag (bv 8) zad (by rfl)) (by rfl)) (by rfl)) (by rfl)) (by rfl)) (by decide) (zao (by rfl)) (by rfl)) (zsv (zhk D_law_same (hr.mono (by decide)) (by rfl) (zag (bv 3) (zag (bv 4) zad (by rfl)) (by rfl)) (by decide) (zao (by rfl)) (by rfl)))))))))))))))))))
   case hb1=>(intro cl C s H fp;refine'⟨Bx.out (zcw (K:=K) (n:=2) rfl rfl (zat (zkd (i:=0) zabd rfl (Or.inl rfl) (by first|exact .inl rfl|exact .inr rfl|assumption)) (zat (zkd (i:=1) zabd rfl (Or.inl rfl) (by first|exact .inl rfl|exact .inr rfl|assumption)) zcv (by rfl)) (by rfl)) (by rfl) (by rfl)),Bx.out zdr,Bx.out (bv 0)⟩)
  exact zanu (N:=zatc) (F:=zabs) (n:=9) rfl ((zbc (zcc (zbr (zbe (zan (se_c λ_=>zaf)) zby)) (by decide)) (zbc (zcc (zbr zby) (by decide)) (zbc (zcc (zan (zaz (zac (zaa 3) zam))) (by decide)) (zbc (zcc (zan (zdo (zcu (zde (se_c λ_=>zaf))) (zhj (zay (zay zes))) (zlk (zcg (by decide) (zcg (by decide) ziq))) zfq (zaa 0))) (by decide)) (zbc (zcc (zbr (zbe (zan (zde (se_c λ_=>zaf))) zby)) (by decide)) (zbc (zcc (zdf zoa (zan (zaa 5)) (zbr (zbe (zan (zhu zmy (zac (zaa 5) zam))) zby))) (by decide)) (zbc (zcc (zdf zoa (zan (zaa 5)) (zbr (zbe (zan (zhu zmy (zac (zaa 5) zam))) zby))) (by decide)) (zbc (zqm (zmm (zarm (zsm (zjh (zaz (zac (zaa 3) (zac (zaa 4) (zac (zaa 6) (zac (zaa 7) (zac (zaa 8) zam)))))))) (zsm (zjh (zaz (zac (zaa 3) (zac (zaa 4) (zac (zaa 6) (zac (zaa 8) (zac (zaa 7) zam)))))))))) (zsz (zan (se_c λ_=>zbl))) zln) (zbc (zcc (zarx (zbe (zbr (zbe (zan (zaa 5)) zby)) zby)) (by decide)) (zbc (zpq (zbr (zbe (zan (zbw zfc (zaa 5) (zaa 9))) zby))) (zbc (zcc (zan (zbw zoa (zen (zac (zen (zac (zde (se_c λ_=>zaf)) (zac (zaa 8) zam))) (zac (zen (zac (zaa 7) (zac (zde (se_c λ_=>zaf)) zam))) (zac (zaa 9) zam)))) (zaa 2))) (by decide)) (zbc (zqm (zmm (st_t (zbw zsl (zaz (zac (zaa 4) (zac (zaa 6) (zac (zde (se_c λ_=>zaf)) (zac (zde (se_c λ_=>zaf)) zam))))) (zgh (zac (se_c λ_=>zbl) (zac (zde (se_c λ_=>zaf)) zam)))))) (zsz (zan (se_c λ_=>zbl))) zln) (zsz (zan (zvi (zaz (zac (zaa 3) (zac (zaa 4) (zac (zaa 6) (zac (zaa 7) (zac (zaa 8) zam)))))) (zaz (zac (zaa 3) (zac (zaa 4) zam))))))))))))))))))) hS es ef k
end
theorem us_s{us:List Value}{n:Nat}(h:us.length=n+1):∃a t,us=a::t/\t.length=n:=by
 cases us with
 | nil=>cases h
 | cons a t=>exact⟨a,t,rfl,Nat.succ.inj h⟩
theorem us_1{us:List Value}(h:us.length=1):∃a0,us=[a0]:=by
 obtain⟨a,t,rfl,h2⟩:=us_s h
 cases qBN.mp h2
 exact⟨a,rfl⟩
theorem us_2{us:List Value}(h:us.length=2):∃a0 a1,us=[a0,a1]:=by
 obtain⟨a0,t,rfl,h2⟩:=us_s h
 obtain⟨a1,rfl⟩:=us_1 h2
 exact⟨a0,a1,rfl⟩
theorem us_3{us:List Value}(h:us.length=3):∃a0 a1 a2,us=[a0,a1,a2]:=by
 obtain⟨a0,t,rfl,h2⟩:=us_s h
 obtain⟨a1,a2,rfl⟩:=us_2 h2
 exact⟨a0,a1,a2,rfl⟩
theorem us_4{us:List Value}(h:us.length=4):∃a0 a1 a2 a3,us=[a0,a1,a2,a3]:=by
 obtain⟨a0,t,rfl,h2⟩:=us_s h
 obtain⟨a1,a2,a3,rfl⟩:=us_3 h2
 exact⟨a0,a1,a2,a3,rfl⟩
theorem us_5{us:List Value}(h:us.length=5):∃a0 a1 a2 a3 a4,us=[a0,a1,a2,a3,a4]:=by
 obtain⟨a0,t,rfl,h2⟩:=us_s h
 obtain⟨a1,a2,a3,a4,rfl⟩:=us_4 h2
 exact⟨a0,a1,a2,a3,a4,rfl⟩
theorem all_mk{l:PySem.W.OpenLaw}{w:World}{K:qC}{h:Heap}{mg:Str->Option Value}{fa f1 f2 f3 f4 f5 f6 f7 f8 f9 f10 f11 f12 f13 f14 f15 f16 f17 f18 f19 f20 f21 f22 f23 f24 f25 f26 f27 f28 f29 f30 f31 f32 f33 f34 f35:Addr}(X:K.In h)(G:h.Ns qM mg)(hfa:mg "law"=some (.ref fa))
  {od1 an1 od2 an2 od3 an3 od4 an4 od5 an5 od6 an6 od7 an7 od8 an8 od9 an9 od10 an10 od11 an11 od12 an12 od13 an13 od14 an14 od15 an15 od16 an16 od17 an17 od18 an18 od19 an19 od20 an20 od21 an21 od22 an22 od23 an23 od24 an24 od25 an25 od26 an26 od27 an27 od28 an28 od29 an29 od30 an30 od31 an31 od32 an32 od33 an33 od34 an34 od35 an35:Option Addr}{sl1 sl2 sl3 sl4 sl5 sl6 sl7 sl8 sl9 sl10 sl11 sl12 sl13 sl14 sl15 sl16 sl17 sl18 sl19 sl20 sl21 sl22 sl23 sl24 sl25 sl26 sl27 sl28 sl29 sl30 sl31 sl32 sl33 sl34 sl35:Array (Option Value)}{oc1 kV1 dc1 pm1 cd1 ct1 oc2 kV2 dc2 pm2 cd2 ct2 oc3 kV3 dc3 pm3 cd3 ct3 oc4 kV4 dc4 pm4 cd4 ct4 oc5 kV5 dc5 pm5 cd5 ct5 oc6 kV6 dc6 pm6 cd6 ct6 oc7 kV7 dc7 pm7 cd7 ct7 oc8 kV8 dc8 pm8 cd8 ct8 oc9 kV9 dc9 pm9 cd9 ct9 oc10 kV10 dc10 pm10 cd10 ct10 oc11 kV11 dc11 pm11 cd11 ct11 oc12 kV12 dc12 pm12 cd12 ct12 oc13 kV13 dc13 pm13 cd13 ct13 oc14 kV14 dc14 pm14 cd14 ct14 oc15 kV15 dc15 pm15 cd15 ct15 oc16 kV16 dc16 pm16 cd16 ct16 oc17 kV17 dc17 pm17 cd17 ct17 oc18 kV18 dc18 pm18 cd18 ct18 oc19 kV19 dc19 pm19 cd19 ct19 oc20 kV20 dc20 pm20 cd20 ct20 oc21 kV21 dc21 pm21 cd21 ct21 oc22 kV22 dc22 pm22 cd22 ct22 oc23 kV23 dc23 pm23 cd23 ct23 oc24 kV24 dc24 pm24 cd24 ct24 oc25 kV25 dc25 pm25 cd25 ct25 oc26 kV26 dc26 pm26 cd26 ct26 oc27 kV27 dc27 pm27 cd27 ct27 oc28 kV28 dc28 pm28 cd28 ct28 oc29 kV29 dc29 pm29 cd29 ct29 oc30 kV30 dc30 pm30 cd30 ct30 oc31 kV31 dc31 pm31 cd31 ct31 oc32 kV32 dc32 pm32 cd32 ct32 oc33 kV33 dc33 pm33 cd33 ct33 oc34 kV34 dc34 pm34 cd34 ct34 oc35 kV35 dc35 pm35 cd35 ct35:Value}
  (a1:qQ K qM "products"=some (some (.ref f1)))(l1:K.lookup f1=some ⟨oc1,od1,.func (qY "products" "products" (zbd zie) (zba zie) (zah zie) .none kV1 dc1 pm1 an1 cd1 ct1),sl1⟩)(c1:qT K cd1 "products"=true)(k1:qN K (.ref f1)=true)
  (a2:qQ K qM "names_of"=some (some (.ref f2)))(l2:K.lookup f2=some ⟨oc2,od2,.func (qY "names_of" "names_of" (zbd zif) (zba zif) (zah zif) .none kV2 dc2 pm2 an2 cd2 ct2),sl2⟩)(c2:qT K cd2 "names_of"=true)(k2:qN K (.ref f2)=true)
  (a3:qQ K qM "names_in"=some (some (.ref f3)))(l3:K.lookup f3=some ⟨oc3,od3,.func (qY "names_in" "names_in" (zbd zig) (zba zig) (zah zig) .none kV3 dc3 pm3 an3 cd3 ct3),sl3⟩)(c3:qT K cd3 "names_in"=true)(k3:qN K (.ref f3)=true)
  (a4:qQ K qM "check_kinds"=some (some (.ref f4)))(l4:K.lookup f4=some ⟨oc4,od4,.func (qY "check_kinds" "check_kinds" (zbd zfa) (zba zfa) (zah zfa) .none kV4 dc4 pm4 an4 cd4 ct4),sl4⟩)(c4:qT K cd4 "check_kinds"=true)(k4:qN K (.ref f4)=true)
  (a5:qQ K qM "roofs_of"=some (some (.ref f5)))(l5:K.lookup f5=some ⟨oc5,od5,.func (qY "roofs_of" "roofs_of" (zbd zih) (zba zih) (zah zih) .none kV5 dc5 pm5 an5 cd5 ct5),sl5⟩)(c5:qT K cd5 "roofs_of"=true)(k5:qN K (.ref f5)=true)
  (a6:qQ K qM "roof_of"=some (some (.ref f6)))(l6:K.lookup f6=some ⟨oc6,od6,.func (qY "roof_of" "roof_of" (zbd zjr) (zba zjr) (zah zjr) .none kV6 dc6 pm6 an6 cd6 ct6),sl6⟩)(c6:qT K cd6 "roof_of"=true)(k6:qN K (.ref f6)=true)
  (a7:qQ K qM "calls_of_names"=some (some (.ref f7)))(l7:K.lookup f7=some ⟨oc7,od7,.func (qY "calls_of_names" "calls_of_names" (zbd zda) (zba zda) (zah zda) .none kV7 dc7 pm7 an7 cd7 ct7),sl7⟩)(c7:qT K cd7 "calls_of_names"=true)(k7:qN K (.ref f7)=true)
  (a8:qQ K qM "names_in_call"=some (some (.ref f8)))(l8:K.lookup f8=some ⟨oc8,od8,.func (qY "names_in_call" "names_in_call" (zbd zdu) (zba zdu) (zah zdu) .none kV8 dc8 pm8 an8 cd8 ct8),sl8⟩)(c8:qT K cd8 "names_in_call"=true)(k8:qN K (.ref f8)=true)
  (a9:qQ K qM "check_call"=some (some (.ref f9)))(l9:K.lookup f9=some ⟨oc9,od9,.func (qY "check_call" "check_call" (zbd zft) (zba zft) (zah zft) .none kV9 dc9 pm9 an9 cd9 ct9),sl9⟩)(c9:qT K cd9 "check_call"=true)(k9:qN K (.ref f9)=true)
  (a10:qQ K qM "roofs_in_call"=some (some (.ref f10)))(l10:K.lookup f10=some ⟨oc10,od10,.func (qY "roofs_in_call" "roofs_in_call" (zbd zdv) (zba zdv) (zah zdv) .none kV10 dc10 pm10 an10 cd10 ct10),sl10⟩)(c10:qT K cd10 "roofs_in_call"=true)(k10:qN K (.ref f10)=true)
  (a11:qQ K qM "fits_under"=some (some (.ref f11)))(l11:K.lookup f11=some ⟨oc11,od11,.func (qY "fits_under" "fits_under" (zbd zfu) (zba zfu) (zah zfu) .none kV11 dc11 pm11 an11 cd11 ct11),sl11⟩)(c11:qT K cd11 "fits_under"=true)(k11:qN K (.ref f11)=true)
  (a12:qQ K qM "is_nearer"=some (some (.ref f12)))(l12:K.lookup f12=some ⟨oc12,od12,.func (qY "is_nearer" "is_nearer" (zbd zgu) (zba zgu) (zah zgu) .none kV12 dc12 pm12 an12 cd12 ct12),sl12⟩)(c12:qT K cd12 "is_nearer"=true)(k12:qN K (.ref f12)=true)
  (a13:qQ K qM "rules_that_fit"=some (some (.ref f13)))(l13:K.lookup f13=some ⟨oc13,od13,.func (qY "rules_that_fit" "rules_that_fit" (zbd zdb) (zba zdb) (zah zdb) .none kV13 dc13 pm13 an13 cd13 ct13),sl13⟩)(c13:qT K cd13 "rules_that_fit"=true)(k13:qN K (.ref f13)=true)
  (a14:qQ K qM "nearest_of"=some (some (.ref f14)))(l14:K.lookup f14=some ⟨oc14,od14,.func (qY "nearest_of" "nearest_of" (zbd zfv) (zba zfv) (zah zfv) .none kV14 dc14 pm14 an14 cd14 ct14),sl14⟩)(c14:qT K cd14 "nearest_of"=true)(k14:qN K (.ref f14)=true)
  (a15:qQ K qM "rule_names"=some (some (.ref f15)))(l15:K.lookup f15=some ⟨oc15,od15,.func (qY "rule_names" "rule_names" (zbd zfw) (zba zfw) (zah zfw) .none kV15 dc15 pm15 an15 cd15 ct15),sl15⟩)(c15:qT K cd15 "rule_names"=true)(k15:qN K (.ref f15)=true)
  (a16:qQ K qM "answer_by"=some (some (.ref f16)))(l16:K.lookup f16=some ⟨oc16,od16,.func (qY "answer_by" "answer_by" (zbd zgv) (zba zgv) (zah zgv) .none kV16 dc16 pm16 an16 cd16 ct16),sl16⟩)(c16:qT K cd16 "answer_by"=true)(k16:qN K (.ref f16)=true)
  (a17:qQ K qM "nearest"=some (some (.ref f17)))(l17:K.lookup f17=some ⟨oc17,od17,.func (qY "nearest" "nearest" (zbd zjs) (zba zjs) (zah zjs) .none kV17 dc17 pm17 an17 cd17 ct17),sl17⟩)(c17:qT K cd17 "nearest"=true)(k17:qN K (.ref f17)=true)
  (a18:qQ K qM "answer_of"=some (some (.ref f18)))(l18:K.lookup f18=some ⟨oc18,od18,.func (qY "answer_of" "answer_of" (zbd zgw) (zba zgw) (zah zgw) .none kV18 dc18 pm18 an18 cd18 ct18),sl18⟩)(c18:qT K cd18 "answer_of"=true)(k18:qN K (.ref f18)=true)
  (a19:qQ K qM "all_calls"=some (some (.ref f19)))(l19:K.lookup f19=some ⟨oc19,od19,.func (qY "all_calls" "all_calls" (zbd zgx) (zba zgx) (zah zgx) .none kV19 dc19 pm19 an19 cd19 ct19),sl19⟩)(c19:qT K cd19 "all_calls"=true)(k19:qN K (.ref f19)=true)
  (a20:qQ K qM "parted"=some (some (.ref f20)))(l20:K.lookup f20=some ⟨oc20,od20,.func (qY "parted" "parted" (zbd zmp) (zba zmp) (zah zmp) .none kV20 dc20 pm20 an20 cd20 ct20),sl20⟩)(c20:qT K cd20 "parted"=true)(k20:qN K (.ref f20)=true)
  (a21:qQ K qM "_law_pen"=some (some (.ref f21)))(l21:K.lookup f21=some ⟨oc21,od21,.func (qY "_law_pen" "_law_pen" (zbd zjt) (zba zjt) (zah zjt) .none kV21 dc21 pm21 an21 cd21 ct21),sl21⟩)(c21:qT K cd21 "_law_pen"=true)(k21:qN K (.ref f21)=true)
  (a22:qQ K qM "_law_draw"=some (some (.ref f22)))(l22:K.lookup f22=some ⟨oc22,od22,.func (qY "_law_draw" "_law_draw" (zbd zii) (zba zii) (zah zii) .none kV22 dc22 pm22 an22 cd22 ct22),sl22⟩)(c22:qT K cd22 "_law_draw"=true)(k22:qN K (.ref f22)=true)
  (a23:qQ K qM "_law_name"=some (some (.ref f23)))(l23:K.lookup f23=some ⟨oc23,od23,.func (qY "_law_name" "_law_name" (zbd zij) (zba zij) (zah zij) .none kV23 dc23 pm23 an23 cd23 ct23),sl23⟩)(c23:qT K cd23 "_law_name"=true)(k23:qN K (.ref f23)=true)
  (a24:qQ K qM "_law_web"=some (some (.ref f24)))(l24:K.lookup f24=some ⟨oc24,od24,.func (qY "_law_web" "_law_web" (zbd zjv) (zba zjv) (zah zjv) .none kV24 dc24 pm24 an24 cd24 ct24),sl24⟩)(c24:qT K cd24 "_law_web"=true)(k24:qN K (.ref f24)=true)
  (a25:qQ K qM "_law_book"=some (some (.ref f25)))(l25:K.lookup f25=some ⟨oc25,od25,.func (qY "_law_book" "_law_book" (zbd zik) (zba zik) (zah zik) .none kV25 dc25 pm25 an25 cd25 ct25),sl25⟩)(c25:qT K cd25 "_law_book"=true)(k25:qN K (.ref f25)=true)
  (a26:qQ K qM "_law_up"=some (some (.ref f26)))(l26:K.lookup f26=some ⟨oc26,od26,.func (qY "_law_up" "_law_up" (zbd zmq) (zba zmq) (zah zmq) .none kV26 dc26 pm26 an26 cd26 ct26),sl26⟩)(c26:qT K cd26 "_law_up"=true)(k26:qN K (.ref f26)=true)
  (a27:qQ K qM "_law_on"=some (some (.ref f27)))(l27:K.lookup f27=some ⟨oc27,od27,.func (qY "_law_on" "_law_on" (zbd zmr) (zba zmr) (zah zmr) .none kV27 dc27 pm27 an27 cd27 ct27),sl27⟩)(c27:qT K cd27 "_law_on"=true)(k27:qN K (.ref f27)=true)
  (a28:qQ K qM "_law_told"=some (some (.ref f28)))(l28:K.lookup f28=some ⟨oc28,od28,.func (qY "_law_told" "_law_told" (zbd zil) (zba zil) (zah zil) .none kV28 dc28 pm28 an28 cd28 ct28),sl28⟩)(c28:qT K cd28 "_law_told"=true)(k28:qN K (.ref f28)=true)
  (a29:qQ K qM "_law_calls"=some (some (.ref f29)))(l29:K.lookup f29=some ⟨oc29,od29,.func (qY "_law_calls" "_law_calls" (zbd zgz) (zba zgz) (zah zgz) .none kV29 dc29 pm29 an29 cd29 ct29),sl29⟩)(c29:qT K cd29 "_law_calls"=true)(k29:qN K (.ref f29)=true)
  (a30:qQ K qM "_law_same"=some (some (.ref f30)))(l30:K.lookup f30=some ⟨oc30,od30,.func (qY "_law_same" "_law_same" (zbd zim) (zba zim) (zah zim) .none kV30 dc30 pm30 an30 cd30 ct30),sl30⟩)(c30:qT K cd30 "_law_same"=true)(k30:qN K (.ref f30)=true)
  (a31:qQ K qM "_law_copy"=some (some (.ref f31)))(l31:K.lookup f31=some ⟨oc31,od31,.func (qY "_law_copy" "_law_copy" (zbd zin) (zba zin) (zah zin) .none kV31 dc31 pm31 an31 cd31 ct31),sl31⟩)(c31:qT K cd31 "_law_copy"=true)(k31:qN K (.ref f31)=true)
  (a32:qQ K qM "_law_parted"=some (some (.ref f32)))(l32:K.lookup f32=some ⟨oc32,od32,.func (qY "_law_parted" "_law_parted" (zbd zfx) (zba zfx) (zah zfx) .none kV32 dc32 pm32 an32 cd32 ct32),sl32⟩)(c32:qT K cd32 "_law_parted"=true)(k32:qN K (.ref f32)=true)
  (a33:qQ K qM "_law_right"=some (some (.ref f33)))(l33:K.lookup f33=some ⟨oc33,od33,.func (qY "_law_right" "_law_right" (zbd zha) (zba zha) (zah zha) .none kV33 dc33 pm33 an33 cd33 ct33),sl33⟩)(c33:qT K cd33 "_law_right"=true)(k33:qN K (.ref f33)=true)
  (a34:qQ K qM "_law_refused"=some (some (.ref f34)))(l34:K.lookup f34=some ⟨oc34,od34,.func (qY "_law_refused" "_law_refused" (zbd zfb) (zba zfb) (zah zfb) .none kV34 dc34 pm34 an34 cd34 ct34),sl34⟩)(c34:qT K cd34 "_law_refused"=true)(k34:qN K (.ref f34)=true)
  (a35:qQ K qM "law"=some (some (.ref f35)))(l35:K.lookup f35=some ⟨oc35,od35,.func (qY "law" "law" (zbd zyk) (zba zyk) (zah zyk) .none kV35 dc35 pm35 an35 cd35 ct35),sl35⟩)(c35:qT K cd35 "law"=true)(k35:qN K (.ref f35)=true)
  {y0 y1 fI:Addr}{xoc xkV xdc xpm xcd xct:Value}{xod xan:Option Addr}{xsl:Array (Option Value)}
  {xdd0:Option Addr}{xsl0:Array (Option Value)}{xcdt0:ClassData}
  (xa0:qQ K qM "NoKind"=some (some (.ref y0)))
  (xp0:PySem.W.isClsIn K y0=true)
  (xq0:PySem.W.typeIn K (.ref y0)=some (.type "type"))
  (xa1:qQ K qM "CallError"=some (some (.ref y1)))
  (xp1:PySem.W.isClsIn K y1=true)
  (xq1:PySem.W.typeIn K (.ref y1)=some (.type "type"))
  (xz:qQ K qM "ValueError"=some none)
  (xi0:PySem.W.findIn K (.ref y0) "__init__"=some (some (.ref fI)))
  (xl:K.lookup fI=some ⟨xoc,xod,.func (qY "__init__" "CallError.__init__" (zbd (zwz (top 1) 0)) (zba (zwz (top 1) 0)) (zah (zwz (top 1) 0)) .none xkV xdc xpm xan xcd xct),xsl⟩)
  (xc:qT K xcd "CallError.__init__"=true)
  (xk:qN K (.ref fI)=true)
  (xf:PySem.W.isFn K (.ref fI)=true)
  (xlc0:K.lookup y0=some ⟨.type "type",xdd0,.cls xcdt0,xsl0⟩)
  (xb0:xcB y0 xcdt0 xsl0=true)
  (xkp0:qN K (.ref y0)=true)
  (xsa0:PySem.W.findIn K (.ref y0) "__setattr__"=some (some (.builtin "object.__setattr__")))
  (xat0:PySem.W.findIn K (.ref y0) "at"=some (none))
  (xga0:PySem.W.findIn K (.ref y0) "__getattribute__"=some (some (.builtin "BaseException.__getattribute__")))
  (xgh0:PySem.W.findIn K (.ref y0) "__getattr__"=some (none))
  (xcl0:PySem.W.findIn K (.ref y0) "__class__"=some (some (.builtin "object.__class__")))
  (xs0_b:PySem.W.subIn K (.ref y0) (.type "BaseException")=some true)
  (xs0_v:PySem.W.subIn K (.ref y0) (.type "ValueError")=some true)
  (xs0_s:PySem.W.subIn K (.ref y0) (.ref y0)=some true)
  (xs0_B:PySem.W.subIn K (.ref y0) (.ref y0)=some true)
  (xs0_u1:PySem.W.subIn K (.ref y0) (.ref y1)=some true)
  (xBb:PySem.W.subIn K (.ref y0) (.type "BaseException")=some true)
  (z1:qQ K qM "all"=some none)(z2:qQ K qM "any"=some none)(z3:qQ K qM "bool"=some none)(z4:qQ K qM "enumerate"=some none)(z5:qQ K qM "int"=some none)(z6:qQ K qM "isinstance"=some none)(z7:qQ K qM "len"=some none)(z8:qQ K qM "list"=some none)(z9:qQ K qM "min"=some none)(z10:qQ K qM "range"=some none)(z11:qQ K qM "str"=some none)(z12:qQ K qM "tuple"=some none)(z13:qQ K qM "zip"=some none) :
  ∃fd:qt,(∀(s:Shared)(v:Value),BindsTo s fd ⟨[v],[]⟩ [("_law_script",v)])/\∀base:Heap,K.In base->base.Ns qM mg->FnOk l.prog w K mg base CX0 10 fa fd ["_law_script"] (zapg K):=by
 have e:=hfa.symm.trans (qU X G a35)
 cases e
 have T:Txt mg:=⟨qAH X G z1,qAH X G z2,qAH X G z3,qAH X G z4,qAH X G z5,qAH X G z6,qAH X G z7,qAH X G z8,qAH X G z9,qAH X G z10,qAH X G z11,qAH X G z12,qAH X G z13⟩
 have F1:=zck (st:=zie) l1 c1 k1
 have b1:=F1.binds (ps:=["rows"]) λ_ _ _ _ _ _ us hl=>by obtain⟨_,rfl⟩:=us_1 hl;rfl
 have F2:=zck (st:=zif) l2 c2 k2
 have b2:=F2.binds (ps:=["web"]) λ_ _ _ _ _ _ us hl=>by obtain⟨_,rfl⟩:=us_1 hl;rfl
 have F3:=zck (st:=zig) l3 c3 k3
 have b3:=F3.binds (ps:=["arm"]) λ_ _ _ _ _ _ us hl=>by obtain⟨_,rfl⟩:=us_1 hl;rfl
 have F4:=zck (st:=zfa) l4 c4 k4
 have b4:=F4.binds (ps:=["web","names"]) λ_ _ _ _ _ _ us hl=>by obtain⟨_,_,rfl⟩:=us_2 hl;rfl
 have F5:=zck (st:=zih) l5 c5 k5
 have b5:=F5.binds (ps:=["web"]) λ_ _ _ _ _ _ us hl=>by obtain⟨_,rfl⟩:=us_1 hl;rfl
 have F6:=zck (st:=zjr) l6 c6 k6
 have b6:=F6.binds (ps:=["roofs","arm"]) λ_ _ _ _ _ _ us hl=>by obtain⟨_,_,rfl⟩:=us_2 hl;rfl
 have F7:=zck (st:=zda) l7 c7 k7
 have b7:=F7.binds (ps:=["web","places"]) λ_ _ _ _ _ _ us hl=>by obtain⟨_,_,rfl⟩:=us_2 hl;rfl
 have F8:=zck (st:=zdu) l8 c8 k8
 have b8:=F8.binds (ps:=["call"]) λ_ _ _ _ _ _ us hl=>by obtain⟨_,rfl⟩:=us_1 hl;rfl
 have F9:=zck (st:=zft) l9 c9 k9
 have b9:=F9.binds (ps:=["web","places","call"]) λ_ _ _ _ _ _ us hl=>by obtain⟨_,_,_,rfl⟩:=us_3 hl;rfl
 have F10:=zck (st:=zdv) l10 c10 k10
 have b10:=F10.binds (ps:=["roofs","call"]) λ_ _ _ _ _ _ us hl=>by obtain⟨_,_,rfl⟩:=us_2 hl;rfl
 have F11:=zck (st:=zfu) l11 c11 k11
 have b11:=F11.binds (ps:=["kinds","call_roofs"]) λ_ _ _ _ _ _ us hl=>by obtain⟨_,_,rfl⟩:=us_2 hl;rfl
 have F12:=zck (st:=zgu) l12 c12 k12
 have b12:=F12.binds (ps:=["roofs","one","other"]) λ_ _ _ _ _ _ us hl=>by obtain⟨_,_,_,rfl⟩:=us_3 hl;rfl
 have F13:=zck (st:=zdb) l13 c13 k13
 have b13:=F13.binds (ps:=["book","call"]) λ_ _ _ _ _ _ us hl=>by obtain⟨_,_,rfl⟩:=us_2 hl;rfl
 have F14:=zck (st:=zfv) l14 c14 k14
 have b14:=F14.binds (ps:=["roofs","rules"]) λ_ _ _ _ _ _ us hl=>by obtain⟨_,_,rfl⟩:=us_2 hl;rfl
 have F15:=zck (st:=zfw) l15 c15 k15
 have b15:=F15.binds (ps:=["rules"]) λ_ _ _ _ _ _ us hl=>by obtain⟨_,rfl⟩:=us_1 hl;rfl
 have F16:=zck (st:=zgv) l16 c16 k16
 have b16:=F16.binds (ps:=["names"]) λ_ _ _ _ _ _ us hl=>by obtain⟨_,rfl⟩:=us_1 hl;rfl
 have F17:=zck (st:=zjs) l17 c17 k17
 have b17:=F17.binds (ps:=["book","call"]) λ_ _ _ _ _ _ us hl=>by obtain⟨_,_,rfl⟩:=us_2 hl;rfl
 have F18:=zck (st:=zgw) l18 c18 k18
 have b18:=F18.binds (ps:=["book","call"]) λ_ _ _ _ _ _ us hl=>by obtain⟨_,_,rfl⟩:=us_2 hl;rfl
 have F19:=zck (st:=zgx) l19 c19 k19
 have b19:=F19.binds (ps:=["book"]) λ_ _ _ _ _ _ us hl=>by obtain⟨_,rfl⟩:=us_1 hl;rfl
 have F20:=zck (st:=zmp) l20 c20 k20
 have b20:=F20.binds (ps:=["book","place","kind","other"]) λ_ _ _ _ _ _ us hl=>by obtain⟨_,_,_,_,rfl⟩:=us_4 hl;rfl
 have F21:=zck (st:=zjt) l21 c21 k21
 have b21:=F21.binds (ps:=["_law_script"]) λ_ _ _ _ _ _ us hl=>by obtain⟨_,rfl⟩:=us_1 hl;rfl
 have F22:=zck (st:=zii) l22 c22 k22
 have b22:=F22.binds (ps:=["_law_pen_here","_law_many"]) λ_ _ _ _ _ _ us hl=>by obtain⟨_,_,rfl⟩:=us_2 hl;rfl
 have F23:=zck (st:=zij) l23 c23 k23
 have b23:=F23.binds (ps:=["_law_pen_here","_law_names"]) λ_ _ _ _ _ _ us hl=>by obtain⟨_,_,rfl⟩:=us_2 hl;rfl
 have F24:=zck (st:=zjv) l24 c24 k24
 have b24:=F24.binds (ps:=["_law_pen_here","_law_size"]) λ_ _ _ _ _ _ us hl=>by obtain⟨_,_,rfl⟩:=us_2 hl;rfl
 have F25:=zck (st:=zik) l25 c25 k25
 have b25:=F25.binds (ps:=["_law_pen_here"]) λ_ _ _ _ _ _ us hl=>by obtain⟨_,rfl⟩:=us_1 hl;rfl
 have F26:=zck (st:=zmq) l26 c26 k26
 have b26:=F26.binds (ps:=["_law_web_here"]) λ_ _ _ _ _ _ us hl=>by obtain⟨_,rfl⟩:=us_1 hl;rfl
 have F27:=zck (st:=zmr) l27 c27 k27
 have b27:=F27.binds (ps:=["_law_up_here","_law_call","_law_kinds"]) λ_ _ _ _ _ _ us hl=>by obtain⟨_,_,_,rfl⟩:=us_3 hl;rfl
 have F28:=zck (st:=zil) l28 c28 k28
 have b28:=F28.binds (ps:=["_law_up_here","_law_rules","_law_call"]) λ_ _ _ _ _ _ us hl=>by obtain⟨_,_,_,rfl⟩:=us_3 hl;rfl
 have F29:=zck (st:=zgz) l29 c29 k29
 have b29:=F29.binds (ps:=["_law_book_here"]) λ_ _ _ _ _ _ us hl=>by obtain⟨_,rfl⟩:=us_1 hl;rfl
 have F30:=zck (st:=zim) l30 c30 k30
 have b30:=F30.binds (ps:=["_law_due","_law_thing"]) λ_ _ _ _ _ _ us hl=>by obtain⟨_,_,rfl⟩:=us_2 hl;rfl
 have F31:=zck (st:=zin) l31 c31 k31
 have b31:=F31.binds (ps:=["_law_book_here"]) λ_ _ _ _ _ _ us hl=>by obtain⟨_,rfl⟩:=us_1 hl;rfl
 have F32:=zck (st:=zfx) l32 c32 k32
 have b32:=F32.binds (ps:=["_law_book_here","_law_place","_law_kind","_law_other"]) λ_ _ _ _ _ _ us hl=>by obtain⟨_,_,_,_,rfl⟩:=us_4 hl;rfl
 have F33:=zck (st:=zha) l33 c33 k33
 have b33:=F33.binds (ps:=["_law_book_here","_law_handed","_law_place","_law_kind","_law_other"]) λ_ _ _ _ _ _ us hl=>by obtain⟨_,_,_,_,_,rfl⟩:=us_5 hl;rfl
 have F34:=zck (st:=zfb) l34 c34 k34
 have b34:=F34.binds (ps:=["_law_book_here","_law_place","_law_kind","_law_other"]) λ_ _ _ _ _ _ us hl=>by obtain⟨_,_,_,_,rfl⟩:=us_4 hl;rfl
 have F35:=zck (st:=zyk) l35 c35 k35
 refine⟨qY "law" "law" (zbd zyk) (zba zyk) (zah zyk) .none kV35 dc35 pm35 an35 cd35 ct35,λs v=>.of_eq rfl,λbase _ _=>?_⟩
 have XF:=zck (st:=zwz (top 1) 0) xl xc xk
 have xv:=qAH X G xz
 obtain⟨cl,cl0,cl1⟩:∃cl:Str->Addr,cl "NoKind"=y0/\cl "CallError"=y1:=⟨λs=>if s="NoKind"then y0 else if s="CallError"then y1 else 0,rfl,rfl⟩
 have XM0:XMk K y0 fI:=⟨(zawo xlc0 xb0).1,(zawo xlc0 xb0).2,xi0,xf,xkp0,xsa0,xat0,xga0,xgh0⟩
 have X_NoKind:XcOk l.prog w K mg base "NoKind" (cl "NoKind"):=by rw[cl0];exact⟨fI,_,XM0,zask XF XM0 xv rfl rfl (by decide) (λ_=>⟨_,rfl⟩),XF.binds (ps:=["self","at"]) (λ_ _ _ _ _ _ us hl=>by obtain⟨_,_,rfl⟩:=us_2 hl;rfl),qU X G xa0,xcl0,zawr xs0_b xp0 xq0 xs0_s⟩
 have XK_law_refused:XKit l.prog w K mg base cl ["NoKind"] [] "NoKind":=by
  refine⟨(ztm X_NoKind ztl),?_,?_,?_,?_,?_,xv⟩
  ·rw[cl0];exact(ztm (by rw[cl0];exact zaws xBb xp0 xq0 xs0_B) ztl)
  ·exact(ztm ztl ztl)
  ·exact(ztm (by rw[cl0];exact zawq xs0_v) ztl)
  ·exact ztl
  ·rw[cl0];exact qU X G xa0
 have XU_law_refused:XUp K mg cl ["NoKind"] "CallError":=⟨(ztm (by rw[cl0,cl1];exact zawp xp1 xq1 xs0_u1) ztl),by rw[cl1];exact qU X G xa1⟩
 have D_products:zwi l.prog w K mg base:=⟨f1,_,zadt F1 T , qU X G a1,k1,b1⟩
 have D_names_of:zms l.prog w K mg base:=⟨f2,_,zadu F2 T , qU X G a2,k2,b2⟩
 have D_names_in:zqb l.prog w K mg base:=⟨f3,_,zadv F3 T , qU X G a3,k3,b3⟩
 have D_check_kinds:zkj l.prog w K mg base:=⟨f4,_,zuz F4 T D_names_of,qU X G a4,k4,b4⟩
 have D_roofs_of:zqc l.prog w K mg base:=⟨f5,_,zadw F5 T , qU X G a5,k5,b5⟩
 have D_roof_of:zabe l.prog w K mg base:=⟨f6,_,zahb F6 T D_names_in,qU X G a6,k6,b6⟩
 have D_calls_of_names:zkx l.prog w K mg base:=⟨f7,_,zqe F7 T D_names_of D_products,qU X G a7,k7,b7⟩
 have D_names_in_call:zmg l.prog w K mg base:=⟨f8,_,zro F8 T D_names_in,qU X G a8,k8,b8⟩
 have D_check_call:zrb l.prog w K mg base:=⟨f9,_,zyl F9 T D_check_kinds D_names_in_call,qU X G a9,k9,b9⟩
 have D_roofs_in_call:zmh l.prog w K mg base:=⟨f10,_,zrp F10 T D_roof_of,qU X G a10,k10,b10⟩
 have D_fits_under:zrc l.prog w K mg base:=⟨f11,_,zym F11 T , qU X G a11,k11,b11⟩
 have D_is_nearer:zui l.prog w K mg base:=⟨f12,_,zabi F12 T , qU X G a12,k12,b12⟩
 have D_rules_that_fit:zky l.prog w K mg base:=⟨f13,_,zqf F13 T D_check_call D_fits_under D_roofs_in_call D_roofs_of,qU X G a13,k13,b13⟩
 have D_nearest_of:zrd l.prog w K mg base:=⟨f14,_,zyn F14 T D_is_nearer,qU X G a14,k14,b14⟩
 have D_rule_names:zre l.prog w K mg base:=⟨f15,_,zyo F15 T , qU X G a15,k15,b15⟩
 have D_answer_by:zuj l.prog w K mg base:=⟨f16,_,zabj F16 T , qU X G a16,k16,b16⟩
 have D_nearest:zabf l.prog w K mg base:=⟨f17,_,zahc F17 T D_nearest_of D_roofs_of D_rule_names D_rules_that_fit,qU X G a17,k17,b17⟩
 have D_answer_of:znu l.prog w K mg base:=⟨f18,_,zabk F18 T D_answer_by D_nearest,qU X G a18,k18,b18⟩
 have D_all_calls:znv l.prog w K mg base:=⟨f19,_,zabl F19 T D_calls_of_names,qU X G a19,k19,b19⟩
 have D_parted:zafw l.prog w K mg base:=⟨f20,_,zaky F20 T D_all_calls D_answer_of D_check_kinds,qU X G a20,k20,b20⟩
 have D_law_pen:zabg l.prog w K mg base:=⟨f21,_,zahd F21 T , qU X G a21,k21,b21⟩
 have D_law_draw:zjw l.prog w K mg base:=⟨f22,_,zadx F22 T , qU X G a22,k22,b22⟩
 have D_law_name:zmt l.prog w K mg base:=⟨f23,_,zady F23 T D_law_draw,qU X G a23,k23,b23⟩
 have D_law_web:zabh l.prog w K mg base:=⟨f24,_,zahe F24 T D_law_draw D_law_name,qU X G a24,k24,b24⟩
 have D_law_book:zwj l.prog w K mg base:=⟨f25,_,zadz F25 T D_law_draw D_law_name D_law_web,qU X G a25,k25,b25⟩
 have D_law_up:zafx l.prog w K mg base:=⟨f26,_,zakz F26 T , qU X G a26,k26,b26⟩
 have D_law_on:zafy l.prog w K mg base:=⟨f27,_,zala F27 T , qU X G a27,k27,b27⟩
 have D_law_told:zwk l.prog w K mg base:=⟨f28,_,zaea F28 T D_law_on,qU X G a28,k28,b28⟩
 have D_law_calls:zuk l.prog w K mg base:=⟨f29,_,zabm F29 T , qU X G a29,k29,b29⟩
 have D_law_same:zqd l.prog w K mg base:=⟨f30,_,zaeb F30 T  (qU X G a30) k30 b30 7,qU X G a30,k30,b30⟩
 have D_law_copy:zwl l.prog w K mg base:=⟨f31,_,zaec F31 T , qU X G a31,k31,b31⟩
 have D_law_parted:zrf l.prog w K mg base:=⟨f32,_,zyp F32 T D_law_calls D_law_told D_law_up,qU X G a32,k32,b32⟩
 have D_law_right:zul l.prog w K mg base:=⟨f33,_,zabn F33 T D_law_parted D_law_same D_parted,qU X G a33,k33,b33⟩
 have D_check_kinds__X:zkz l.prog w K mg base cl:=⟨f4,_,zqg (cl:=cl) F4 T D_names_of X_NoKind,qU X G a4,k4,b4⟩
 have D_parted__X:zum l.prog w K mg base cl:=⟨f20,_,zabo (cl:=cl) F20 T D_all_calls D_answer_of D_check_kinds__X,qU X G a20,k20,b20⟩
 have D_law_refused:zoy l.prog w K mg base:=⟨f34,_,zva (cl:=cl) F34 T D_parted__X XK_law_refused XU_law_refused,qU X G a34,k34,b34⟩
 exact zaxq F35 T D_law_book D_law_copy D_law_draw D_law_name D_law_pen D_law_refused D_law_right D_law_same
theorem walk{l:PySem.W.OpenLaw}{q:Program}{loose:List Str}{XP:(Str->Option Value)->Heap->Prop}{YP:World->Heap->Prop}{d:DefRec}{K:Params->qC}(hn:l.most=some 63)(hdf:d.params.defaults=[])
  (hY:∀(w:World) (h:Heap),YP w h->(K w.params).In h)
  (F:∀(w:World)(mg:Str->Option Value)(fa:Addr)(h:Heap),(K w.params).In h->h.Ns qM mg->mg d.name=some (.ref fa)->
   ∃fd:qt,(∀(s:Shared)(u:Value),BindsTo s fd ⟨[u],[]⟩ [("_law_script",u)])/\∀base:Heap,(K w.params).In base->base.Ns qM mg->FnOk l.prog w (K w.params) mg base CX0 10 fa fd ["_law_script"] (zapg (K w.params))) :
  PySem.W.WalkO q loose XP YP l.row.toRowW d [] (λf vs=>PySem.call f vs):=
 L2.walk_of (n:=63) (k:=10) (x:="_law_script") (CX:=λ_=>CX0) (sp:=λw=>zapg (K w.params)) hn (by decide) hdf ⟨rfl,by decide,by decide⟩ hY F (λ_ _ a ns hl _ hS=>⟨a,ns,rfl,hS,λ_=>rfl⟩) λ_ _ _ _ _ z=>z
end Bc
theorem PySem.W.Fast.te7755595675115116332:True:=trivial
noncomputable def PySem.W.Fast.tw308332899434768055:PySem.Program:=PySem.Challenge.pw_bestcalls_k40_parted_by_the_first_call
theorem PySem.W.Fast.te308332899434768055:PySem.Challenge.pw_bestcalls_k40_parted_by_the_first_call=PySem.W.Fast.tw308332899434768055:=rfl
open PySem PySem.W PyProof.Rows
set_option maxRecDepth 100000 in
set_option maxHeartbeats 0 in
theorem PySem.Challenge.cw_bestcalls_k40_parted_by_the_first_call_holds : PySem.Challenge.rw_bestcalls_k40_parted_by_the_first_call.Holds := by
 w_on;o_law;k_head;(case hw=>w_witness2)
 k_fill
 refine Bc.walk (l:=PySem.Challenge.rw_bestcalls_k40_parted_by_the_first_call) rfl rfl (λw h Y=>PySem.W.kIn_of Y) ?F
 case F=>
  intro w mg fa h KX G hmg
  refine' Bc.all_mk KX G hmg ?a1 ?l1 ?c1 ?k1 ?a2 ?l2 ?c2 ?k2 ?a3 ?l3 ?c3 ?k3 ?a4 ?l4 ?c4 ?k4 ?a5 ?l5 ?c5 ?k5 ?a6 ?l6 ?c6 ?k6 ?a7 ?l7 ?c7 ?k7 ?a8 ?l8 ?c8 ?k8 ?a9 ?l9 ?c9 ?k9 ?a10 ?l10 ?c10 ?k10 ?a11 ?l11 ?c11 ?k11 ?a12 ?l12 ?c12 ?k12 ?a13 ?l13 ?c13 ?k13 ?a14 ?l14 ?c14 ?k14 ?a15 ?l15 ?c15 ?k15 ?a16 ?l16 ?c16 ?k16 ?a17 ?l17 ?c17 ?k17 ?a18 ?l18 ?c18 ?k18 ?a19 ?l19 ?c19 ?k19 ?a20 ?l20 ?c20 ?k20 ?a21 ?l21 ?c21 ?k21 ?a22 ?l22 ?c22 ?k22 ?a23 ?l23 ?c23 ?k23 ?a24 ?l24 ?c24 ?k24 ?a25 ?l25 ?c25 ?k25 ?a26 ?l26 ?c26 ?k26 ?a27 ?l27 ?c27 ?k27 ?a28 ?l28 ?c28 ?k28 ?a29 ?l29 ?c29 ?k29 ?a30 ?l30 ?c30 ?k30 ?a31 ?l31 ?c31 ?k31 ?a32 ?l32 ?c32 ?k32 ?a33 ?l33 ?c33 ?k33 ?a34 ?l34 ?c34 ?k34 ?a35 ?l35 ?c35 ?k35 ?xa0 ?xp0 ?xq0 ?xa1 ?xp1 ?xq1 ?xz ?xi0 ?xl ?xc ?xk ?xf ?xlc0 ?xb0 ?xkp0 ?xsa0 ?xat0 ?xga0 ?xgh0 ?xcl0 ?xs0_b ?xs0_v ?xs0_s ?xs0_B ?xs0_u1 ?xBb ?z1 ?z2 ?z3 ?z4 ?z5 ?z6 ?z7 ?z8 ?z9 ?z10 ?z11 ?z12 ?z13
  (case a1=>k_is)
  (case l1=>k_is)
  (case c1=>k_is)
  (case k1=>k_is)
  (case a2=>k_is)
  (case l2=>k_is)
  (case c2=>k_is)
  (case k2=>k_is)
  (case a3=>k_is)
  (case l3=>k_is)
  (case c3=>k_is)
  (case k3=>k_is)
  (case a4=>k_is)
  (case l4=>k_is)
  (case c4=>k_is)
  (case k4=>k_is)
  (case a5=>k_is)
  (case l5=>k_is)
  (case c5=>k_is)
  (case k5=>k_is)
  (case a6=>k_is)
  (case l6=>k_is)
  (case c6=>k_is)
  (case k6=>k_is)
  (case a7=>k_is)
  (case l7=>k_is)
  (case c7=>k_is)
  (case k7=>k_is)
  (case a8=>k_is)
  (case l8=>k_is)
  (case c8=>k_is)
  (case k8=>k_is)
  (case a9=>k_is)
  (case l9=>k_is)
  (case c9=>k_is)
  (case k9=>k_is)
  (case a10=>k_is)
  (case l10=>k_is)
  (case c10=>k_is)
  (case k10=>k_is)
  (case a11=>k_is)
  (case l11=>k_is)
  (case c11=>k_is)
  (case k11=>k_is)
  (case a12=>k_is)
  (case l12=>k_is)
  (case c12=>k_is)
  (case k12=>k_is)
  (case a13=>k_is)
  (case l13=>k_is)
  (case c13=>k_is)
  (case k13=>k_is)
  (case a14=>k_is)
  (case l14=>k_is)
  (case c14=>k_is)
  (case k14=>k_is)
  (case a15=>k_is)
  (case l15=>k_is)
  (case c15=>k_is)
  (case k15=>k_is)
  (case a16=>k_is)
  (case l16=>k_is)
  (case c16=>k_is)
  (case k16=>k_is)
  (case a17=>k_is)
  (case l17=>k_is)
  (case c17=>k_is)
  (case k17=>k_is)
  (case a18=>k_is)
  (case l18=>k_is)
  (case c18=>k_is)
  (case k18=>k_is)
  (case a19=>k_is)
  (case l19=>k_is)
  (case c19=>k_is)
  (case k19=>k_is)
  (case a20=>k_is)
  (case l20=>k_is)
  (case c20=>k_is)
  (case k20=>k_is)
  (case a21=>k_is)
  (case l21=>k_is)
  (case c21=>k_is)
  (case k21=>k_is)
  (case a22=>k_is)
  (case l22=>k_is)
  (case c22=>k_is)
  (case k22=>k_is)
  (case a23=>k_is)
  (case l23=>k_is)
  (case c23=>k_is)
  (case k23=>k_is)
  (case a24=>k_is)
  (case l24=>k_is)
  (case c24=>k_is)
  (case k24=>k_is)
  (case a25=>k_is)
  (case l25=>k_is)
  (case c25=>k_is)
  (case k25=>k_is)
  (case a26=>k_is)
  (case l26=>k_is)
  (case c26=>k_is)
  (case k26=>k_is)
  (case a27=>k_is)
  (case l27=>k_is)
  (case c27=>k_is)
  (case k27=>k_is)
  (case a28=>k_is)
  (case l28=>k_is)
  (case c28=>k_is)
  (case k28=>k_is)
  (case a29=>k_is)
  (case l29=>k_is)
  (case c29=>k_is)
  (case k29=>k_is)
  (case a30=>k_is)
  (case l30=>k_is)
  (case c30=>k_is)
  (case k30=>k_is)
  (case a31=>k_is)
  (case l31=>k_is)
  (case c31=>k_is)
  (case k31=>k_is)
  (case a32=>k_is)
  (case l32=>k_is)
  (case c32=>k_is)
  (case k32=>k_is)
  (case a33=>k_is)
  (case l33=>k_is)
  (case c33=>k_is)
  (case k33=>k_is)
  (case a34=>k_is)
  (case l34=>k_is)
  (case c34=>k_is)
  (case k34=>k_is)
  (case a35=>k_is)
  (case l35=>k_is)
  (case c35=>k_is)
  (case k35=>k_is)
  (case xa0=>k_is)
  (case xp0=>k_is)
  (case xq0=>k_is)
  (case xa1=>k_is)
  (case xp1=>k_is)
  (case xq1=>k_is)
  (case xz=>k_is)
  (case xi0=>k_is)
  (case xl=>k_is)
  (case xc=>k_is)
  (case xk=>k_is)
  (case xf=>k_is)
  (case xlc0=>k_is)
  (case xb0=>rfl)
  (case xkp0=>k_is)
  (case xsa0=>k_is)
  (case xat0=>k_is)
  (case xga0=>k_is)
  (case xgh0=>k_is)
  (case xcl0=>k_is)
  (case xs0_b=>k_is)
  (case xs0_v=>k_is)
  (case xs0_s=>k_is)
  (case xs0_B=>k_is)
  (case xs0_u1=>k_is)
  (case xBb=>k_is)
  (case z1=>k_is)
  (case z2=>k_is)
  (case z3=>k_is)
  (case z4=>k_is)
  (case z5=>k_is)
  (case z6=>k_is)
  (case z7=>k_is)
  (case z8=>k_is)
  (case z9=>k_is)
  (case z10=>k_is)
  (case z11=>k_is)
  (case z12=>k_is)
  (case z13=>k_is)
