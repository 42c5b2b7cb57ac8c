import PyProof.Rows.All
import KE.KLam
import Wide.All
import OpenK.AllK
import Wide.FinOn
import Lean
import PyProof.EqAt
import PyProof.EqKinds
import PyProof.TupleCall
import PyProof.DictRoadsH
import PyProof.DictWalks
import KE.KDictOf
import KE.KTryOn
import PyProof.ExcInit
import PyProof.ExcClass3
import PyProof.ExcBaseAll.ValueError
import PyProof.InstStoreFacts
import ObjForm.Fk.InstStore
import PyProof.ExcArgsOwn
import PyProof.ExcAttrAll.ValueError
import PyProof.PureStr
import PyProof.FString2
import PyProof.Rows.FactsFmt
import PyProof.FactsAll.NoneType_2
import PyProof.NsDelKeeps
import PyProof.IsiBase
import KE.KRevSl
import PyProof.MeetsStr
import PyProof.Rows.MinMaxN
import PyProof.AutoListH
import PyProof.AutoSeq1
import KE.KEqDict
import KE.KTab
import PyProof.NeKinds
import PySem.Challenge.RW_bestcalls_k24_meets_in_one_bundle
set_option genSizeOf false
set_option Elab.async false
set_option linter.all false
set_option maxRecDepth 100000
noncomputable section
open Option renaming bind_eq_some_iff→qA,bind_some→qF,map_eq_some_iff→qH,map_some→qAw,isSome_iff_exists→qCN,isSome_some→qCp,isSome_map→qCw
open PySem renaming wpAny_bind→qB,wpAny_pure→qE,Expr→qP,sizeLine→qS,wpAny_typeNameOfWhole_keyiter→qa,Pos→qb,mainGlobals→qq,FuncData→qr,wpAny_isOneOf_keyiter→qt,mem_of_lookup→qx,wpAny_dictEpoch→qAA,wpAny_dictEntries→qAB,wpAny_callSpecial?_slot→qAE,starEach→qAF,wpAny_newObj_type→qAP,wpAny_fieldsOf→qAT,wpAny_holding→qAU,wpAny_call_entry→qAV,wpAny_truthy_bool→qAp,wpAny_getItem_str_slice→qBF,wpAny_field→qBK,wpAny_standAt→qBS,wpAny_rule→qBX,wpAny_passesOwn→qBa,wpAny_pyIter_tuple→qBe,wpAny_Call_Name_kw→qBf,wpAny_sequenceKey→qBm,wpAny_mono→qBn,wpAny_loadPart'→qBw,post_val_or_str→qBx,codeAny_mono→qBy,wpAny_setField→qB0,tupleKind_room_in1→qB9,wpAny_pyIter_list→qCJ,wpAny_forIn_list→qCW,wpAny_execs_nil→qCe,sizeLine_eq→qCf,wpAny_comprehension_free→qCv
open PySem.W renaming Frag→qC,mg_none_of→qAG,kia_one→qAO,nsIn→qAW,fnOf→qAX,keepIn→qBA,codeIn→qBo,mg_of→qCK,cellsFrom_some→qCQ,callWith_K→qCj,kitx_list→qCn,kitx_dict→qCo
open List renaming length_map→qD,getElem?_eq_getElem→qG,mem_cons_of_mem→qJ,getElem?_eq_some_iff→qM,getElem?_set_ne→qN,size_toArray→qO,length_append→qQ,map_cons→qU,getElem?_map→qV,mem_cons_self→qW,mem_cons→qX,mem_append_right→qY,getD_eq_getElem?_getD→qZ,mem_singleton→qc,getElem?_set_self→qe,length_set→qf,mem_append→qh,mem_append_left→qi,length_cons→qj,getElem?_append_left→qk,lookup_cons→ql,mem_map→qm,getElem?_append_right→qo,map_append→qp,append_nil→qu,drop_eq_getElem_cons→qy,getElem?_cons_zero→qAD,mem_of_getElem?→qAH,getElem?_cons_succ→qAJ,nodup_cons→qAK,map_map→qAQ,drop_length→qAR,all_eq_true→qAS,any_cons→qAY,length_take→qAd,idxOf_lt_length_of_mem→qAh,find?_cons_of_neg→qAi,mem_filter→qAl,map_congr_left→qAo,take_append_of_le_length→qAq,length_drop→qAr,take_of_length_le→qAt,find?_cons_of_pos→qAu,mem_iff_getElem?→qAz,length_replicate→qA0,find?_cons→qA1,mem_of_mem_take→qA3,mem_range→qA6,any_eq_true→qA8,map_nil→qA9,length_range→qBD,append_assoc→qBE,getElem_mem→qBI,all_cons→qBN,getElem_of_mem→qBP,foldl_cons→qBQ,filterMap_cons→qBR,mem_filterMap→qBV,getElem_idxOf→qBW,pairwise_iff_getElem→qBZ,pairwise_map→qBb,nodup_append→qBc,flatMap_cons→qBd,map_take→qBg,length_eq_zero_iff→qBh,getElem?_replicate→qBi,take_length→qBj,mem_flatMap→qBk,filter_cons→qBl,take_append_drop→qBp,length_filter_le→qBq,getElem?_eq_none→qBr,any_map→qBs,length_zipIdx→qBz,foldl_append→qB1,filter_congr→qB2,any_eq_false→qB3,mem_zipIdx_iff_getElem?→qCB,of_mem_zip→qCF,length_nil→qCG,nodup_nil→qCS,mem_take_iff_getElem→qCT,getElem?_eq_none_iff→qCU,map_drop→qCa,filter_cons_of_pos→qCb,filter_cons_of_neg→qCc,filter_eq_nil_iff→qCh,length_singleton→qCl,all_map→qCm,mem_of_mem_drop→qCt,getElem?_range→qCy
open Bool renaming false_ne_true→qI,and_eq_true→q9,eq_iff_iff→qAc,false_eq_true→qAj,and_eq_true_iff→qA4,not_eq_true'→qB4,false_or→qCd,or_eq_true_iff→qCz
open Nat renaming le_refl→qK,lt_of_lt_of_le→qd,ne_of_lt→qw,zero_le→qAL,le_trans→qAM,lt_irrefl→qAZ,lt_succ_self→qBM,not_lt_zero→qBt,lt_or_ge→qBu,le_succ_of_le→qB5,le_of_succ_le→qB6,le_of_lt→qB8,min_eq_left→qCO,sub_zero→qCr,ne_of_gt→qCs
open PySem.Heap renaming get?_push_of_some→qL,lt_size→qT,get?_push_size→qg,get?_update_self→qBH,size_push→qBv,get?_update_other→qCi
open Option.some renaming inj→qR
open PySem.Str renaming ofString→qv
open PySem.PassesOwn renaming never→qz
open PySem.F renaming plainAttrs_list→qAC,type_list_append→qAa,slot_list_append→qAb,slot_dict_keyiterator_next→qAg,slot_tuple_iterator_next→qA7,type_list_insert→qBT,slot_list_insert→qBU,slot_dict_getitem→qCA,type_dict_update→qCC,slot_dict_update→qCD,args_tuple_add_2→qCE,args_dict_keyiterator_next_1→qCH,plainAttrs_dict→qCL,entry_tuple_add→qCM,entry_dict_keyiterator_next→qCP,slot_tuple_add→qCR,args_tuple_iterator_next_1→qCV,entry_tuple_iterator_next→qCZ
open PyProof.Rows renaming slot_tuple_getitem→qAI,callWith_type1→qBC
open PySem.Builtin.SmallTypes renaming nextOf→qAN
open PySem.Heap.SameBut renaming update→qAe
open PySem.PyData renaming eqv→qAf,strOk→qAv,canLayAll0→qAx,depthAll→qB7
open Int renaming emod_lt_of_pos→qAk,toNat_natCast→qAm,emod_nonneg→qA2,ediv_one→qCu
open PySem.SeqAt renaming shaped→qAn,canLay_of_shaped→qAs
open PySem.Paired renaming length→qAy,snoc→qCk
open Array renaming getElem?_eq_getElem→qA5,mem_of_getElem?→qBG,mem_toList_iff→qBJ,length_toList→qBO
open Ne renaming symm→qBB
open Sum.inr renaming inj→qBL
open PySem.Obj renaming data_mapFields→qBY,isFreed_of_fields→qCq,data_mapDictKeys→qCx
open PySem.Calls renaming Name_function_global→qCI
open PySem.SeqAt.EqAt renaming str_int→qCX,int_str→qCY
open Sum.inl renaming inj→qCg
namespace L2
open PySem PySem.Spec PyProof.Rows
noncomputable abbrev Key:=Sum Int Str
noncomputable def zrq:Key->Value->Bool
 | .inl k,v=>Value.isInt k v
 | .inr x,v=>Value.isStrOf x v
noncomputable def keyH(w:World):Key->Int
 | .inl k=>hashInt k
 | .inr x=>hashStr w x
theorem zbf:∀{k:Key}{v:Value},zrq k v=true->(∃i t,k=Sum.inl i/\v=Value.int i t)\/(∃x t,k=Sum.inr x/\v=Value.str x t)
 | .inl i,v,h=>by
  obtain⟨t,e⟩:=Value.isInt_shape (k:=i) (v:=v) h
  exact .inl ⟨i,t,rfl,e⟩
 | .inr x,v,h=>by
  obtain⟨t,e⟩:=Value.isStrOf_shape (x:=x) (v:=v) h
  exact .inr ⟨x,t,rfl,e⟩
theorem zzt(i:Int)(t:Tok):zrq (.inl i) (.int i t)=true:=by simp[zrq,Value.isInt]
theorem zzu(x:Str)(t:Tok):zrq (.inr x) (.str x t)=true:=by simp[zrq,Value.isStrOf]
theorem zana(a b:Int):decide ((Sum.inl a:Key)=Sum.inl b)=(a==b):=by
 by_cases e:a=b
 ·subst e;simp
 ·have h:¬(Sum.inl a:Key)=Sum.inl b:=λq=>e (qCg q)
  rw[decide_eq_false h]
  exact(beq_eq_false_iff_ne.mpr e).symm
theorem zanb(a b:Str):decide ((Sum.inr a:Key)=Sum.inr b)=decide (a=b):=by
 by_cases e:a=b
 ·subst e;simp
 ·have h:¬(Sum.inr a:Key)=Sum.inr b:=λq=>e (qBL q)
  rw[decide_eq_false h,decide_eq_false e]
theorem zanc(a:Int)(b:Str):decide ((Sum.inl a:Key)=Sum.inr b)=false:=decide_eq_false (λq=>nomatch q)
theorem zand(a:Str)(b:Int):decide ((Sum.inr a:Key)=Sum.inl b)=false:=decide_eq_false (λq=>nomatch q)
noncomputable def zar(prog:Program)(w:World):PySem.KeyKind prog w Key where
 is:=zrq
 hash:=keyH w
 inj:=λv a b ha hb=>by
  rcases zbf ha with⟨i,t,rfl,rfl⟩|⟨x,t,rfl,rfl⟩
  ·rcases zbf hb with⟨j,u,rfl,e⟩|⟨y,u,rfl,e⟩
   ·injection e with e1 _;rw[e1]
   ·exact nomatch e
  ·rcases zbf hb with⟨j,u,rfl,e⟩|⟨y,u,rfl,e⟩
   ·exact nomatch e
   ·injection e with e1 _;rw[e1]
 byValue:=λk v h=>by
  rcases zbf h with⟨i,t,rfl,rfl⟩|⟨x,t,rfl,rfl⟩<;>rfl
 pyHash:=λhv h=>by
  rcases zbf hv with⟨i,t,rfl,rfl⟩|⟨x,t,rfl,rfl⟩
  ·exact wpAny_pyHash_int h
  ·exact wpAny_pyHash_str h
 eqBool:=λhu hv h=>by
  rcases zbf hu with⟨i,t,rfl,rfl⟩|⟨x,t,rfl,rfl⟩
  ·rcases zbf hv with⟨j,u,rfl,rfl⟩|⟨y,u,rfl,rfl⟩
   ·rw[zana]at h;exact wpAny_eqBool_int h
   ·rw[zanc]at h;exact qCY i t y u _ _ _ _ h
  ·rcases zbf hv with⟨j,u,rfl,rfl⟩|⟨y,u,rfl,rfl⟩
   ·rw[zand]at h;exact qCX x t j u _ _ _ _ h
   ·rw[zanb]at h;exact wpAny_eqBool_str h
 «strs»:=λk x t v h=>by
  rcases zbf h with⟨i,u,rfl,e⟩|⟨y,u,rfl,e⟩
  ·exact nomatch e
  ·injection e with e1 _
   subst e1
   cases v<;>rfl
theorem zug(prog:Program)(w:World)(i:Int)(t:Tok):(zar prog w).is (.inl i) (.int i t)=true:=zzt i t
theorem zuh(prog:Program)(w:World)(x:Str)(t:Tok):(zar prog w).is (.inr x) (.str x t)=true:=zzu x t
inductive V where
 | non|bl (b:Bool)|int (i:Int)|str (x:Str)|byt (b:Array UInt8)|flt (b:UInt64)|ref (a:Addr)|ty (n:String)
 deriving DecidableEq
noncomputable def RelV:V->Value->Prop
 | .non,u=>u=Value.none
 | .bl b,u=>u=Value.bool b
 | .int i,u=>∃t,u=Value.int i t
 | .str x,u=>∃t,u=Value.str x t
 | .byt b,u=>∃t,u=Value.bytes b t
 | .flt b,u=>∃t,u=Value.float b t
 | .ref a,u=>u=Value.ref a
 | .ty n,u=>u=Value.type n
noncomputable abbrev Vals:List V->List Value->Prop:=Paired RelV
theorem Vals.length{xs:List V}{us:List Value}(r:Vals xs us):xs.length=us.length:=qAy r
theorem Vals.get:∀{xs:List V}{us:List Value}{i:Nat}{x:V},Vals xs us->xs[i]?=some x->∃u,us[i]?=some u/\RelV x u
 | _,_,_,_,.nil,e=>by simp at e
 | _,_,0,_,.cons r _,e=>by simp at e;subst e;exact⟨_,rfl,r⟩
 | _,_,i+1,x,.cons _ t,e=>by
  obtain⟨u,h1,h2⟩:=Vals.get (i:=i) (x:=x) t (by simpa using e)
  exact⟨u,by simpa using h1,h2⟩
theorem Vals.set{x:V}{u:Value}(r:RelV x u):∀{xs:List V}{us:List Value}(i:Nat),Vals xs us->Vals (xs.set i x) (us.set i u)
 | _,_,_,.nil=>.nil
 | _,_,0,.cons _ t=>.cons r t
 | _,_,i+1,.cons q t=>.cons q (Vals.set r i t)
theorem Vals.append:∀{xs ys:List V}{us ws:List Value},Vals xs us->Vals ys ws->Vals (xs++ys) (us++ws)
 | _,_,_,_,.nil,s=>s
 | _,_,_,_,.cons r t,s=>.cons r (Vals.append t s)
theorem Vals.take:∀{xs:List V}{us:List Value}(n:Nat),Vals xs us->Vals (xs.take n) (us.take n)
 | _,_,0,_=>.nil
 | _,_,_+1,.nil=>.nil
 | _,_,n+1,.cons r t=>.cons r (Vals.take n t)
theorem Vals.drop:∀{xs:List V}{us:List Value}(n:Nat),Vals xs us->Vals (xs.drop n) (us.drop n)
 | _,_,0,r=>r
 | _,_,_+1,.nil=>.nil
 | _,_,n+1,.cons _ t=>Vals.drop n t
noncomputable def RelO:Option V->Option Value->Prop
 | some v,some u=>RelV v u
 | none,none=>True
 | _,_=>False
noncomputable def KV{κ:Type}:List (κ×V)->List (κ×Value)->Prop:=Paired λ(p:κ×V)(q:κ×Value)=>p.1=q.1/\RelV p.2 q.2
noncomputable def kV:Key->V
 | .inl i=>.int i
 | .inr x=>.str x
inductive HO where
  | lst (xs:List V)
  | tup (xs:List V)
  | dK (kvs:List (Key×V))|dT (kvs:List (List Key×V))
  | set (S:Int->Bool) (n:Nat)
  | ins (C dx:Addr) (fs:List (Str×V))
  | own (x:Addr)
  | xd (fs:List (Str×V))
  | met (f x:Addr)
  | rng (lo hi:Int)
  | frz (o:Obj) (u:HO)
  | tbl (ps:Array Value)
 | tabO (q:Str)
  | ext (φ:Heap->Prop)
noncomputable abbrev Hp:=Addr->Option HO
noncomputable def upd(H:Hp)(a:Addr)(o:HO):Hp:=λb=>if b=a then some o else H b
theorem zao{H:Hp}{a:Addr}{o:HO}:upd H a o a=some o:=by unfold upd;rw[if_pos rfl]
theorem zas{H:Hp}{a b:Addr}{o:HO}(h:b≠a):upd H a o b=H b:=by unfold upd;rw[if_neg h]
theorem zajl{H:Hp}{a:Addr}{o u:HO}:upd (upd H a o) a u=upd H a u:=by
 funext b;unfold upd;split<;>rfl
theorem zaqz{H:Hp}{a b:Addr}{o u:HO}(h:H a=some o)(h':H b=some u)(d:o≠u):a≠b:=by
 intro e;subst e;rw[h]at h';exact d (qR h')
theorem zbh{H:Hp}{a b:Addr}{o:HO}(h:H a=some o)(h':H b=none):a≠b:=by
 intro e;subst e;rw[h]at h';cases h'
section
variable(P:Program)(w:World)
noncomputable def zdf(H:Hp)(h:Heap)(a:Addr):HO->Prop
 | .lst xs=>xs.length<=qS/\∃(its:List Value)(n:Nat),Vals xs its/\h.get? a=some {cls:=.type "list",data:=.seq its.toArray n}
 | .tup xs=>xs.length<=qS/\∃its:List Value,Vals xs its/\IsTup h a its.toArray
 | .dK kvs=>kvs.length<=qS/\(a==sysModules)=false/\∃vs,KV kvs vs/\h.DictOf (zar P w) a vs
 | .dT kvs=>kvs.length<=qS/\(a==sysModules)=false/\∃xs:List (List Key×Addr×Value),
   Paired (λ(p:List Key×V)(q:List Key×Addr×Value)=>p.1=q.1/\H q.2.1=some (.tup (p.1.map kV))/\RelV p.2 q.2.2) kvs xs/\
   ∃o es ep,h.get? a=some o/\o.ExactDict/\o.data=.dict es ep/\es.toList=xs.map (entryOfKey (tupleKind (zar P w)))/\(xs.map (·.1)).Nodup
 | .set S n=>h.SetOf (intKind P w) a S n
 | .ins C dx fs=>H dx=some (.own a)/\fs.length<=1000/\dx≠a/\h.get? a=some (PySem.W.instObj C dx)/\
   ∃mA,h.Ns1 dx mA/\(∀f,RelO (fs.lookup f) (mA f))/\PySem.Within mA (fs.map (·.1))
 | .own _=>∃o,h.get? a=some o
 | .xd fs=>∃mA,h.Ns1 a mA/\∀f,RelO (fs.lookup f) (mA f)
 | .rng lo hi=>∃t u v,h.get? a=some {cls:=.type "range",data:=.fields #[.int lo t,.int hi u,.int 1 v]}
 | .frz o u=>h.get? a=some o/\zdf H h a u
 | .tbl ps=>h.get? a=some {cls:=.none,data:=.fields ps}
 | .tabO q=>∃ps:Array Value,h.get? a=some (PySem.W.tabObj ps)/\TriplesOk ps.toList/\∀pos cv,codeAmong pos ps.toList=some cv->∃c o vs t,cv=.ref c/\c≠a/\H c=some (.frz o (.own a))/\o.data=.fields vs/\vs[1]?=some (.str q t)
 | .met f x=>h.get? a=some (PySem.W.methodObj (.ref f) (.ref x))
 | .ext φ=>φ h/\(∃o,h.get? a=some o)/\∀h1 h2:Heap,φ h1->(∀o,h1.get? a=some o->h2.get? a=some o)->φ h2
noncomputable def HOk(H:Hp)(h:Heap):Prop:=∀a o,H a=some o->zdf P w H h a o
end
section
variable{P:Program}{w:World}{H H':Hp}{h h':Heap}{a:Addr}{o:HO}
theorem zdf.lt(x:zdf P w H h a o):a<h.objs.size:=by
 cases o with
 | lst xs=>obtain⟨_,_,_,_,e⟩:=x;exact qT e
 | tup xs=>obtain⟨_,_,_,p⟩:=x;exact p.lt
 | dK kvs=>obtain⟨_,_,_,_,o,_,_,e,_⟩:=x;exact qT e
 | dT kvs=>obtain⟨_,_,_,_,o,_,_,e,_⟩:=x;exact qT e
 | set S n=>obtain⟨o,_,_,_,e,_⟩:=x;exact qT e
 | ins C dx fs=>obtain⟨_,_,_,e,_⟩:=x;exact qT e
 | own y=>obtain⟨_,e⟩:=x;exact qT e
 | xd fs=>obtain⟨_,⟨_,_,_,e,_⟩,_⟩:=x;exact qT e
 | rng lo hi=>obtain⟨_,_,_,e⟩:=x;exact qT e
 | frz ob u=>obtain⟨e,_⟩:=x;exact qT e
 | tbl ps=>exact qT (show h.get? a=some _ from x)
 | tabO q=>obtain⟨_,e,_⟩:=x;exact qT e
 | met f y=>exact qT (show h.get? a=some _ from x)
 | ext φ=>obtain⟨_,⟨_,e⟩,_⟩:=x;exact qT e
theorem Paired.mapP{α β:Type}{F G:α->β->Prop}:∀{l₁:List α}{l₂:List β},Paired F l₁ l₂->(∀a b,F a b->G a b)->Paired G l₁ l₂
 | _,_,.nil,_=>.nil
 | _,_,.cons r t,f=>.cons (f _ _ r) (Paired.mapP t f)
theorem zdf.stay(x:zdf P w H h a o)(k:∀b u,(b=a\/H b=some (.own a))->h.get? b=some u->h'.get? b=some u)
  (ho:∀b,H b=some (.own a)->H' b=some (.own a)) (ht:∀b xs,H b=some (.tup xs)->H' b=some (.tup xs)) (hf:∀(b:Addr)(o':Obj),H b=some (.frz o' (.own a))->H' b=some (.frz o' (.own a)):=by first|exact λ_ _ q=>q|(intro b o' q;rw[zas (zbh q (by assumption))];exact q)|(intro b o' q;rw[zas (λz=>by subst z;simp_all)];exact q)):zdf P w H' h' a o:=by
 induction o with
 | lst xs=>obtain⟨z,its,n,r,e⟩:=x;exact⟨z,its,n,r,k _ _ (.inl rfl) e⟩
 | tup xs=>obtain⟨z,its,r,ob,e,c⟩:=x;exact⟨z,its,r,ob,k _ _ (.inl rfl) e,c⟩
 | dK kvs=>obtain⟨z,y,vs,r,ob,es,ep,e,c⟩:=x;exact⟨z,y,vs,r,ob,es,ep,k _ _ (.inl rfl) e,c⟩
 | dT kvs=>
  obtain⟨z,y,xs,r,ob,es,ep,e,c⟩:=x
  exact⟨z,y,xs,Paired.mapP r λp q z=>⟨z.1,ht _ _ z.2.1,z.2.2⟩,ob,es,ep,k _ _ (.inl rfl) e,c⟩
 | set S n=>obtain⟨ob,es,ep,t,e,c⟩:=x;exact⟨ob,es,ep,t,k _ _ (.inl rfl) e,c⟩
 | ins C dx fs=>
  obtain⟨d,z,ne,e,mA,⟨od,es,ep,e2,c⟩,r⟩:=x
  exact⟨ho _ d,z,ne,k _ _ (.inl rfl) e,mA,⟨od,es,ep,k _ _ (.inr d) e2,c⟩,r⟩
 | own y=>obtain⟨ob,e⟩:=x;exact⟨ob,k _ _ (.inl rfl) e⟩
 | xd fs=>obtain⟨mA,⟨od,es,ep,e,c⟩,r⟩:=x;exact⟨mA,⟨od,es,ep,k _ _ (.inl rfl) e,c⟩,r⟩
 | rng lo hi=>obtain⟨t,u,v,e⟩:=x;exact⟨t,u,v,k _ _ (.inl rfl) e⟩
 | frz ob u ih=>obtain⟨e,q⟩:=x;exact⟨k _ _ (.inl rfl) e,ih q⟩
 | tabO q=>
  obtain⟨ps,e,t,c⟩:=x
  exact⟨ps,k _ _ (.inl rfl) e,t,λpos cv hc=>by
   obtain⟨c',o,vs,tt,e1,e2,e3,e5⟩:=c pos cv hc
   exact⟨c',o,vs,tt,e1,e2,hf _ _ e3,e5⟩⟩
 | tbl ps=>
  have e:h.get? a=some {cls:=.none,data:=.fields ps}:=x
  show h'.get? a=some {cls:=.none,data:=.fields ps}
  exact k a _ (.inl rfl) e
 | met f y=>
  have e:h.get? a=some (PySem.W.methodObj (.ref f) (.ref y)):=x
  show h'.get? a=some (PySem.W.methodObj (.ref f) (.ref y))
  exact k a _ (.inl rfl) e
 | ext φ=>obtain⟨p,⟨o,e⟩,st⟩:=x;exact⟨st _ _ p λo q=>k _ _ (.inl rfl) q,⟨o,k _ _ (.inl rfl) e⟩,st⟩
theorem HOk.lt(x:HOk P w H h)(e:H a=some o):a<h.objs.size:=(x a o e).lt
theorem HOk.fresh(x:HOk P w H h)(e:h.objs.size<=a):H a=none:=by
 cases q:H a with
 | none=>rfl
 | some u=>exact absurd (qd (x.lt q) e) (qAZ _)
theorem HOk.kept(x:HOk P w H h)(k:∀b u,h.get? b=some u->h'.get? b=some u):HOk P w H h':=λa o e=>
 (x a o e).stay (λb u _ q=>k b u q) (λ_ q=>q) λ_ _ q=>q
theorem HOk.laid(x:HOk P w H h)(k:∀b u,h.get? b=some u->h'.get? b=some u)(hp:h.objs.size<=a)(new:zdf P w (upd H a o) h' a o):HOk P w (upd H a o) h':=λb u e=>by
 have hn:=x.fresh hp
 by_cases hb:b=a
 ·subst hb;rw[zao]at e;cases e;exact new
 ·rw[zas hb]at e
  exact(x b u e).stay (λc v _ q=>k c v q) (λc q=>by rw[zas (zbh q hn)];exact q) λc xs q=>by rw[zas (zbh q hn)];exact q
end
noncomputable def Rd(H:Hp)(a:Addr)(u:HO):Prop:=H a=some u\/∃o,H a=some (.frz o u)
theorem Rd.ok{P:Program}{w:World}{H:Hp}{h:Heap}{a:Addr}{u:HO}(r:Rd H a u)(x:HOk P w H h):zdf P w H h a u:=by
 rcases r with r|⟨o,r⟩
 ·exact x a u r
 ·obtain⟨_,q⟩:=x a _ r
  exact q
noncomputable def Mut:Option HO->Prop
 | some (.lst _)=>True
 | some (.dK _)=>True
 | some (.dT _)=>True
 | some (.set _ _)=>True
 | some (.ins _ _ _)=>True
 | some (.ext _)=>True
 | _=>False
section
variable{P:Program}{w:World}{H:Hp}{h h':Heap}{x e:Addr}{o':HO}
theorem HOk.write(ok:HOk P w H h)(mu:Mut (H x))(he:e=x\/H e=some (.own x))(k:∀b u,b≠e->h.get? b=some u->h'.get? b=some u)(heo:∃u,h'.get? e=some u)
  (new:zdf P w (upd H x o') h' x o'):HOk P w (upd H x o') h':=λb u q=>by
 have nown:∀c y,H c=some (.own y)->c≠x:=λc y r z=>by subst z;rw[r]at mu;exact mu
 have ntup:∀c xs,H c=some (.tup xs)->c≠x:=λc xs r z=>by subst z;rw[r]at mu;exact mu
 have nfrz:∀c o2 u2,H c=some (.frz o2 u2)->c≠x:=λc o2 u2 r z=>by subst z;rw[r]at mu;exact mu
 by_cases hb:b=x
 ·subst hb;rw[zao]at q;cases q;exact new
 ·rw[zas hb]at q
  by_cases hbe:b=e
  ·have q':H b=some (.own x):=by
    rcases he with z|z
    ·exact absurd (hbe.trans z) hb
    ·rw[hbe];exact z
   rw[q]at q';cases q'
   obtain⟨v,hv⟩:=heo
   exact⟨v,by rw[hbe];exact hv⟩
  ·refine(ok b u q).stay (λc v hc r=>k c v ?_ r) (λc r=>by rw[zas (nown c b r)];exact r) (λc xs r=>by rw[zas (ntup c xs r)];exact r) (λc o2 r=>by rw[zas (nfrz c o2 _ r)];exact r)
   rcases hc with rfl|hc
   ·exact hbe
   ·rintro rfl
    rcases he with z|z
    ·exact nown c b hc z
    ·rw[hc]at z;cases z;exact hb rfl
end
set_option genInjectivity false in
structure Un(fs ex:List Addr)(H H':Hp)(h h':Heap):Prop where
 keep:∀b o,h.get? b=some o->H b=none->b∉fs->b∉ex->h'.get? b=some o
 slot:∀b o,h.get? b=some o->H b=none->b∈fs->b∉ex->∃sl,h'.get? b=some {o with slots:=sl}
 free:∀b o,h.get? b=some o->H b=none->b∉ex->H' b=none
 there:∀b o,h.get? b=some o->b∉ex->∃o',h'.get? b=some o'
 tups:∀b xs,H b=some (.tup xs)->H' b=some (.tup xs)
 frzs:∀b o u,H b=some (.frz o u)->H' b=some (.frz o u)
 tbls:∀b ps,H b=some (.tbl ps)->∃more,H' b=some (.tbl (ps++more))
section
variable{fs fs' ex ex':List Addr}{H H1 H2:Hp}{h h1 h2 h':Heap}{a x e:Addr}{o:HO}
theorem Un.any(u:Un fs ex H H1 h h1){b:Addr}{ob:Obj}(q:h.get? b=some ob)(n:H b=none)(hx:b∉ex):∃sl,h1.get? b=some {ob with slots:=sl}:=by
 by_cases hb:b∈fs
 ·exact u.slot b ob q n hb hx
 ·exact⟨ob.slots,u.keep b ob q n hb hx⟩
theorem Un.kept(k:∀b u,h.get? b=some u->h'.get? b=some u):Un fs ex H H h h':=
 ⟨λb ob q _ _ _=>k b ob q,λb ob q _ _ _=>⟨ob.slots,k b ob q⟩,λ_ _ _ n _=>n,λb ob q _=>⟨ob,k b ob q⟩,λ_ _ q=>q,λ_ _ _ q=>q,λ_ ps q=>⟨#[],by rw[q];simp⟩⟩
theorem Un.refl:Un fs ex H H h h:=Un.kept λ_ _ q=>q
theorem Un.laid(k:∀b u,h.get? b=some u->h'.get? b=some u)(hp:h.objs.size<=a)(hn:H a=none):Un fs ex H (upd H a o) h h' where
 keep:=λb u q _ _ _=>k b u q
 slot:=λb u q _ _ _=>⟨u.slots,k b u q⟩
 free:=λb u q n _=>by rw[zas (qw (qd (qT q) hp))];exact n
 there:=λb u q _=>⟨u,k b u q⟩
 tups:=λb xs q=>by rw[zas (zbh q hn)];exact q
 frzs:=λb u xs q=>by rw[zas (zbh q hn)];exact q
 tbls:=λb ps q=>⟨#[],by rw[zas (zbh q hn),q];simp⟩
theorem Un.write(mu:Mut (H x))(he:e=x\/H e=some (.own x))(k:∀b u,b≠e->h.get? b=some u->h'.get? b=some u)(heo:∃u,h'.get? e=some u):Un fs ex H (upd H x o) h h':=by
 have hx:∀b,H b=none->b≠x:=λb n z=>by subst z;rw[n]at mu;exact mu
 have hb:∀b,H b=none->b≠e:=λb n z=>by
  subst z
  rcases he with r|r
  ·exact hx b n r
  ·rw[n]at r;cases r
 have hm:∀b u,H b=some u->¬Mut (some u)->b≠x:=λb u q nm z=>by subst z;rw[q]at mu;exact nm mu
 refine⟨λb u q n _ _=>k b u (hb b n) q,λb u q n _ _=>⟨u.slots,k b u (hb b n) q⟩,λb u q n _=>by rw[zas (hx b n)];exact n,λb u q _=>?_,
  λb xs q=>by rw[zas (hm b _ q λz=>z)];exact q,λb u xs q=>by rw[zas (hm b _ q λz=>z)];exact q,λb ps q=>⟨#[],by rw[zas (hm b _ q λz=>z),q];simp⟩⟩
 by_cases hbe:b=e
 ·subst hbe;exact heo
 ·exact⟨u,k b u hbe q⟩
end
noncomputable def trk(h:Heap)(H:Hp):List Addr:=(List.range h.objs.size).filter λa=>(H a).isSome
noncomputable def hidT(h:Heap)(H:Hp):Heap:=PySem.W.hideAll h (trk h H)
theorem zzv(h:Heap)(H:Hp):(hidT h H).objs.size=h.objs.size:=PySem.W.hideAll_size _ _
theorem zaeq{h:Heap}{H:Hp}{b:Addr}{o:Obj}(e:h.get? b=some o)(n:H b=none):(hidT h H).get? b=some o:=
 PySem.W.hideAll_get _ e λhm=>by
  have q:(H b).isSome=true:=(qAl.mp hm).2
  rw[n]at q;simp at q
theorem zajm{h:Heap}{H:Hp}{b:Addr}{o:Obj}(e:(hidT h H).get? b=some o):h.get? b=some o/\H b=none:=by
 have e':h.get? b=some o:=PySem.W.of_hideAll (trk h H) e
 refine⟨e',?_⟩
 cases q:H b with
 | none=>rfl
 | some x=>
  have hm:b∈trk h H:=qAl.mpr ⟨qA6.mpr (qT e'),by simp[q]⟩
  have z:(hidT h H).get? b=none:=PySem.W.hideAll_none (trk h H) hm
  rw[z]at e;cases e
set_option genInjectivity false in
structure Mod(K:qC)(mg:Str->Option Value)(base:Heap):Prop where
 kin:K.In base
 glob:base.Ns qq mg
 blt:∃mb,base.Ns builtinsNs mb/\∀x:Str,x≠"__name__"->mb x=bootBuiltins x
 nolimit:base.NoLimit
set_option genInjectivity false in
structure Cx where
 prog:Program
 w:World
 K:qC
 mg:Str->Option Value
 base:Heap
 A:Around
 N:List Str
 s₀:Shared
 H₀:Hp
 env:Env
 outer:List Env
 stack:List Env
 ex:List Addr
 fn:Str->Bool
 calm:Bool
 pn:List (Addr×Obj)
 xe:Value->Shared->Prop
noncomputable def frs(l:List Env):List Addr:=l.filterMap (·.frame)
noncomputable abbrev Cx.fs(X:Cx):List Addr:=frs X.outer
noncomputable def Vis(sc:Scope)(x:Str):Prop:=sc.names.lookup x=some .local\/sc.names.lookup x=some .cell\/sc.names.lookup x=some .free
noncomputable def visB(sc:Scope)(x:Str):Bool:=match sc.names.lookup x with
 | some .local=>true
 | some .cell=>true
 | some .free=>true
 | _=>false
theorem visB.of{sc:Scope}{x:Str}(h:visB sc x=true):Vis sc x:=by
 unfold visB at h
 cases e:sc.names.lookup x with
 | none=>rw[e]at h;cases h
 | some k=>rw[e]at h;cases k<;>first|exact .inl e|exact .inr (.inl e)|exact .inr (.inr e)|cases h
noncomputable def Loc(sc:Scope)(x:Str):Prop:=sc.names.lookup x=some .local\/sc.names.lookup x=some .cell
noncomputable def Look(env:Env)(h:Heap)(m:Str->Option Value)(x:Str)(u:Value):Prop:=
 (env.kindOf x=some .local/\m x=some u)\/((env.kindOf x=some .cell\/env.kindOf x=some .free)/\∃c,env.cells.lookup x=some c/\h.IsCell c (some u))
set_option genInjectivity false in
structure Cx.Ok(X:Cx):Prop where
 mod:Mod X.K X.mg X.base
 kind:X.env.scope.kind=.function
 glob:X.env.globals=qq
 blt:X.env.builtins=builtinsNs
 above:X.s₀.heap.objs.size<=X.env.locals
 inj:∀x y c,X.env.cells.lookup x=some c->X.env.cells.lookup y=some c->x=y
 has:∀x,(X.env.kindOf x=some .cell\/X.env.kindOf x=some .free)->∃c,X.env.cells.lookup x=some c
 cab:∀x c,X.fn x=true->X.env.cells.lookup x=some c->X.s₀.heap.objs.size<=c
 hd:X.calm=true->X.A.handled=none
 frames:X.A.frames=some X.stack
 stk:X.stack=X.outer\/(X.stack=X.env::X.outer/\X.env.frame=some X.env.locals)
 exf:∀b∈X.ex,b≠X.env.locals/\∀x c,X.env.cells.lookup x=some c->c≠b
 bs:∀b o,X.base.get? b=some o->X.s₀.heap.get? b=some o/\X.H₀ b=none
 bsz:X.base.objs.size<=X.s₀.heap.objs.size
 noex:∀b o,X.base.get? b=some o->b∉X.ex
 exfs:∀b∈X.ex,b∉X.fs
 funs:X.s₀.heap.FunFrames X.base X.outer
 frf:∀b∈X.fs,X.H₀ b=none
set_option genInjectivity false in
structure Inv(X:Cx)(pins:List (Addr×Obj))(σ:List (Option V))(H:Hp)(s:Shared):Prop where
 ok:X.Ok
 os:s.os=X.s₀.os
 bare:AllBare s.gens
 base:Un X.fs X.ex X.H₀ H X.s₀.heap s.heap
 loc:∃m,s.heap.Ns X.env.locals m/\∀(i:Nat)(x:Str)(v:V),X.N[i]?=some x->σ[i]?=some (some v)->Vis X.env.scope x->∃u,RelV v u/\Look X.env s.heap m x u
 cell:∀x c,X.env.cells.lookup x=some c->∃v,s.heap.IsCell c v
 free:H X.env.locals=none
 freeC:∀x c,X.env.cells.lookup x=some c->H c=none
 pin:∀p∈X.pn++pins,s.heap.get? p.1=some p.2/\H p.1=none/\p.1≠X.env.locals/\p.1∉X.fs/\∀v,p.2.data≠.cell v
 hok:HOk X.prog X.w H s.heap
 len:σ.length=X.N.length
section
variable{X:Cx}{pins:List (Addr×Obj)}{σ:List (Option V)}{H H':Hp}{s:Shared}{h':Heap}
theorem Cx.Ok.nofr(ok:X.Ok){b:Addr}{o:Obj}(e:X.base.get? b=some o):b∉X.fs:=λhb=>by
 have:=(ok.funs.mem hb).1
 rw[e]at this;cases this
theorem Inv.bs(I:Inv X pins σ H s):∀b o,X.base.get? b=some o->s.heap.get? b=some o/\H b=none:=λb o e=>
 ⟨I.base.keep b o (I.ok.bs b o e).1 (I.ok.bs b o e).2 (I.ok.nofr e) (I.ok.noex b o e),I.base.free b o (I.ok.bs b o e).1 (I.ok.bs b o e).2 (I.ok.noex b o e)⟩
theorem Inv.bk(I:Inv X pins σ H s):∀b o,X.base.get? b=some o->s.heap.get? b=some o:=λb o e=>(I.bs b o e).1
theorem Inv.mod(I:Inv X pins σ H s):Mod X.K X.mg X.base:=I.ok.mod
theorem Inv.kIn(I:Inv X pins σ H s):X.K.In s.heap:=I.ok.mod.kin.keeps I.bk
theorem Inv.lt(I:Inv X pins σ H s):X.env.locals<s.heap.objs.size:=let⟨_,hn,_⟩:=I.loc;hn.lt
theorem Inv.sz(I:Inv X pins σ H s):X.s₀.heap.objs.size<=s.heap.objs.size:=qAM I.ok.above (qB8 I.lt)
theorem Inv.nofs(I:Inv X pins σ H s){a:Addr}(h:s.heap.objs.size<=a):a∉X.fs:=λhb=>by
 obtain⟨_,o,ho,_⟩:=I.ok.funs.mem hb
 exact absurd (qd (qT ho) (qAM I.sz h)) (qAZ _)
theorem Inv.cne(I:Inv X pins σ H s):∀x c,X.env.cells.lookup x=some c->c≠X.env.locals:=λx c e z=>by
 obtain⟨v,o,ho,hd⟩:=I.cell x c e
 obtain⟨m,⟨o',es,ep,ho',hd',_⟩,_⟩:=I.loc
 rw[z,ho']at ho;cases ho;rw[hd']at hd;cases hd
theorem Inv.funs(I:Inv X pins σ H s):s.heap.FunFrames X.base X.outer:=by
 have all:∀(l:List Env),(∀b∈frs l,b∈X.fs)->X.s₀.heap.FunFrames X.base l->s.heap.FunFrames X.base l:=by
  intro l
  induction l with
  | nil=>intro _ _;trivial
  | cons env r ih=>
   intro hs hl
   obtain⟨hk,⟨L,o,hf,hn,ho,hd⟩,hr⟩:=hl
   have hL:L∈X.fs:=hs L (by unfold frs;rw[qBR,hf];exact qW)
   obtain⟨sl,e⟩:=I.base.slot L o ho (I.ok.frf L hL) hL λz=>I.ok.exfs L z hL
   exact⟨hk,⟨L,_,hf,hn,e,hd⟩,ih (λb hb=>hs b (by unfold frs;rw[qBR,hf];exact qJ _ hb)) hr⟩
 exact all X.outer (λ_ hb=>hb) I.ok.funs
theorem Inv.stack(I:Inv X pins σ H s):s.heap.FunFrames X.base X.stack:=by
 rcases I.ok.stk with e|⟨e,hf⟩
 ·rw[e];exact I.funs
 ·rw[e]
  obtain⟨m,hn,_⟩:=I.loc
  refine .cons (by rw[I.ok.kind];decide) hf hn ?_ I.funs
  exact Heap.get?_none_of_le (qAM I.ok.bsz I.ok.above)
theorem Inv.stkSub(I:Inv X pins σ H s):∀b∈frs X.stack,b∈X.env.locals::X.fs:=λb hb=>by
 rcases I.ok.stk with e|⟨e,hf⟩
 ·rw[e]at hb;exact qJ _ hb
 ·rw[e]at hb
  unfold frs at hb
  rw[qBR,hf]at hb
  exact hb
theorem Inv.stkFree(I:Inv X pins σ H s):∀b∈frs X.stack,H b=none:=λb hb=>by
 rcases qX.mp (I.stkSub b hb)with e|hb
 ·rw[e];exact I.free
 ·obtain⟨_,o,ho,_⟩:=I.ok.funs.mem hb
  exact I.base.free b o ho (I.ok.frf b hb) λz=>I.ok.exfs b z hb
theorem Inv.step{g':Array GenState}{t':Nat}{d':Drawn}{ch:List Addr}(I:Inv X pins σ H s)
  (hch:∀b∈ch,(b∈X.ex\/X.s₀.heap.objs.size<=b)/\b≠X.env.locals/\(∀x c,X.env.cells.lookup x=some c->c≠b)/\∀p∈X.pn++pins,p.1≠b)
  (keep:∀b o,b≠X.env.locals->b∉X.fs->b∉ch->s.heap.get? b=some o->H b=none->h'.get? b=some o)
  (slot:∀b o,b≠X.env.locals->b∈X.fs->b∉ch->s.heap.get? b=some o->H b=none->∃sl,h'.get? b=some {o with slots:=sl}) (free:∀b o,b∉ch->s.heap.get? b=some o->H b=none->H' b=none)
  (there:∀b o,b∉ch->s.heap.get? b=some o->∃o',h'.get? b=some o')
  (tups:∀b xs,H b=some (.tup xs)->H' b=some (.tup xs))(frzs:∀b o u,H b=some (.frz o u)->H' b=some (.frz o u))(tbls:∀b ps,H b=some (.tbl ps)->∃more,H' b=some (.tbl (ps++more)))
  (ns:∀m,s.heap.Ns X.env.locals m->h'.Ns X.env.locals m)(hok:HOk X.prog X.w H' h')(hg:AllBare g') :
  Inv X pins σ H' {s with heap:=h',gens:=g',drawn:=d',toks:=t'}:=by
 have neL:∀b o,X.s₀.heap.get? b=some o->b≠X.env.locals:=λb o e=>qw (qd (qT e) I.ok.above)
 have neC:∀b o,X.s₀.heap.get? b=some o->b∉X.ex->b∉ch:=λb o e hx hb=>by
  rcases(hch b hb).1 with z|z
  ·exact hx z
  ·exact absurd (qd (qT e) z) (qAZ _)
 have cellK:∀x c,X.env.cells.lookup x=some c->∀v,s.heap.IsCell c v->h'.IsCell c v:=λx c e v ⟨o,ho,hd⟩=>by
  have nch:c∉ch:=λz=>(hch c z).2.2.1 x c e rfl
  by_cases hc:c∈X.fs
  ·obtain⟨sl,q⟩:=slot c o (I.cne x c e) hc nch ho (I.freeC x c e)
   exact⟨_,q,hd⟩
  ·exact⟨o,keep c o (I.cne x c e) hc nch ho (I.freeC x c e),hd⟩
 refine⟨I.ok,I.os,hg,⟨λb o e n hb hx=>?_,λb o e n hb hx=>?_,λb o e n hx=>?_,λb o e hx=>?_,λb xs e=>tups b xs (I.base.tups b xs e),λb o xs e=>frzs b o xs (I.base.frzs b o xs e),λb ps e=>?_⟩,?_,λx c e=>?_,?_,λx c e=>?_,λp hp=>?_,hok,I.len⟩
 ·exact keep b o (neL b o e) hb (neC b o e hx) (I.base.keep b o e n hb hx) (I.base.free b o e n hx)
 ·obtain⟨sl,e1⟩:=I.base.slot b o e n hb hx
  obtain⟨sl',e2⟩:=slot b _ (neL b o e) hb (neC b o e hx) e1 (I.base.free b o e n hx)
  exact⟨sl',e2⟩
 ·obtain⟨o',e1⟩:=I.base.there b o e hx
  exact free b o' (neC b o e hx) e1 (I.base.free b o e n hx)
 ·obtain⟨o',e1⟩:=I.base.there b o e hx
  exact there b o' (neC b o e hx) e1
 ·obtain⟨m1,e1⟩:=I.base.tbls b ps e
  obtain⟨m2,e2⟩:=tbls b _ e1
  exact⟨m1++m2,by rw[e2,Array.append_assoc]⟩
 ·obtain⟨m,hn,hl⟩:=I.loc
  refine⟨m,ns m hn,λi x v e1 e2 e3=>?_⟩
  obtain⟨u,r,l⟩:=hl i x v e1 e2 e3
  refine⟨u,r,?_⟩
  rcases l with l|⟨k,c,e,z⟩
  ·exact .inl l
  ·exact .inr ⟨k,c,e,cellK x c e _ z⟩
 ·obtain⟨v,z⟩:=I.cell x c e
  exact⟨v,cellK x c e v z⟩
 ·obtain⟨m,⟨o,_,_,ho,_⟩,_⟩:=I.loc
  exact free _ o (λz=>(hch _ z).2.1 rfl) ho I.free
 ·obtain⟨v,o,ho,hd⟩:=I.cell x c e
  exact free c o (λz=>(hch c z).2.2.1 x c e rfl) ho (I.freeC x c e)
 ·obtain⟨e,n,ne,nf,d⟩:=I.pin p hp
  have nch:p.1∉ch:=λz=>(hch p.1 z).2.2.2 p hp rfl
  exact⟨keep p.1 p.2 ne nf nch e n,free p.1 p.2 nch e n,ne,nf,d⟩
theorem Inv.un{t':Nat}(I:Inv X pins σ H s)(u:Un X.fs [] H H' s.heap h')(hok:HOk X.prog X.w H' h'):Inv X pins σ H' {s with heap:=h',toks:=t'}:=by
 obtain⟨m,⟨o,es,ep,ho,r⟩,_⟩:=id I.loc
 obtain⟨sl,hL⟩:=u.any ho I.free (by simp)
 exact I.step (g':=s.gens) (d':=s.drawn) (ch:=[]) (λ_ z=>nomatch z) (λb o _ hb _ e n=>u.keep b o e n hb (by simp)) (λb o _ hb _ e n=>u.slot b o e n hb (by simp)) (λb o _ e n=>u.free b o e n (by simp)) (λb o _ e=>u.there b o e (by simp)) u.tups u.frzs u.tbls (λm' hm=>by
  obtain⟨o',es',ep',ho',r'⟩:=hm
  rw[ho]at ho';cases ho'
  exact⟨_,es',ep',hL,r'⟩) hok I.bare
theorem Inv.call{g':Array GenState}{t':Nat}{d':Drawn}{ch:List Addr}(I:Inv X pins σ H s)(u:Un (frs X.stack) ch H H' s.heap h')(hok:HOk X.prog X.w H' h')(hg:AllBare g')
  (hch:∀b∈ch,(b∈X.ex\/X.s₀.heap.objs.size<=b)/\b≠X.env.locals/\(∀x c,X.env.cells.lookup x=some c->c≠b)/\∀p∈X.pn++pins,p.1≠b) :
  Inv X pins σ H' {s with heap:=h',gens:=g',drawn:=d',toks:=t'}:=by
 obtain⟨m,⟨o,es,ep,ho,r⟩,_⟩:=id I.loc
 obtain⟨sl,hL⟩:=u.any ho I.free λz=>(hch _ z).2.1 rfl
 exact I.step (ch:=ch) hch (λb o hL hb hc e n=>u.keep b o e n (λz=>(qX.mp (I.stkSub b z)).elim hL hb) hc) (λb o _ _ hc e n=>u.any e n hc) (λb o hc e n=>u.free b o e n hc) (λb o hc e=>u.there b o e hc) u.tups u.frzs u.tbls (λm' hm=>by
  obtain⟨o',es',ep',ho',r'⟩:=hm
  rw[ho]at ho';cases ho'
  exact⟨_,es',ep',hL,r'⟩) hok hg
theorem Inv.turned{t':Nat}{it:Addr}(I:Inv X pins σ H s)(k:∀b o,b≠it->s.heap.get? b=some o->h'.get? b=some o)(hn:H it=none)(hL:it≠X.env.locals)
  (h1:it∈X.ex\/X.s₀.heap.objs.size<=it) (h2:∀x c,X.env.cells.lookup x=some c->c≠it) (h3:∀p∈X.pn++pins,p.1≠it):Inv X pins σ H {s with heap:=h',toks:=t'}:=by
 have nit:∀b u,H b=some u->b≠it:=λb u e z=>by rw[z,hn]at e;cases e
 refine I.step (g':=s.gens) (d':=s.drawn) (ch:=[it]) (λb hb=>?_) (λb o _ _ hc e _=>k b o (λz=>hc (by simp[z])) e) (λb o _ _ hc e _=>⟨o.slots,k b o (λz=>hc (by simp[z])) e⟩) (λ_ _ _ _ n=>n)
  (λb o hc e=>⟨o,k b o (λz=>hc (by simp[z])) e⟩) (λ_ _ e=>e) (λ_ _ _ e=>e) (λb ps e=>⟨#[],by rw[e];simp⟩) (λm hm=>?_) (λb u e=>?_) I.bare
 ·have e:b=it:=by simpa using hb
  subst e
  exact⟨h1,hL,h2,h3⟩
 ·obtain⟨o,es,ep,ho,r⟩:=hm
  exact⟨o,es,ep,k _ o (qBB hL) ho,r⟩
 ·refine(I.hok b u e).stay (λc v hc q=>k c v ?_ q) (λ_ q=>q) λ_ _ q=>q
  rcases hc with z|z
  ·rw[z];exact nit b u e
  ·exact nit c _ z
theorem Inv.tok(I:Inv X pins σ H s)(t:Nat):Inv X pins σ H {s with toks:=t}:=I.un (h':=s.heap) (t':=t) Un.refl I.hok
theorem Inv.kept{t':Nat}(I:Inv X pins σ H s)(k:∀b u,s.heap.get? b=some u->h'.get? b=some u):Inv X pins σ H {s with heap:=h',toks:=t'}:=I.un (Un.kept k) (I.hok.kept k)
theorem Inv.laid{a:Addr}{o:HO}{t':Nat}(I:Inv X pins σ H s)(k:∀b u,s.heap.get? b=some u->h'.get? b=some u)(hp:s.heap.objs.size<=a)(new:zdf X.prog X.w (upd H a o) h' a o) :
  Inv X pins σ (upd H a o) {s with heap:=h',toks:=t'}:=I.un (Un.laid k hp (I.hok.fresh hp)) (I.hok.laid k hp new)
theorem Inv.write{x e:Addr}{o:HO}{t':Nat}(I:Inv X pins σ H s)(mu:Mut (H x))(he:e=x\/H e=some (.own x))(k:∀b u,b≠e->s.heap.get? b=some u->h'.get? b=some u)(heo:∃u,h'.get? e=some u)
  (new:zdf X.prog X.w (upd H x o) h' x o):Inv X pins σ (upd H x o) {s with heap:=h',toks:=t'}:=I.un (Un.write mu he k heo) (I.hok.write mu he k heo new)
theorem Inv.pins_of{pins':List (Addr×Obj)}(I:Inv X pins σ H s)(h:∀p∈pins',s.heap.get? p.1=some p.2/\H p.1=none/\p.1≠X.env.locals/\p.1∉X.fs/\∀v,p.2.data≠.cell v):Inv X pins' σ H s:=
 ⟨I.ok,I.os,I.bare,I.base,I.loc,I.cell,I.free,I.freeC,λp hp=>(qh.mp hp).elim (λz=>I.pin p (qi _ z)) (h p),I.hok,I.len⟩
theorem zwk{N:List Str}(hN:N.Nodup){i j:Nat}{x:Str}(a:N[i]?=some x)(b:N[j]?=some x):i=j:=by
 obtain⟨h1,e1⟩:=qM.mp a
 obtain⟨h2,e2⟩:=qM.mp b
 exact(List.getElem_inj hN).mp (e1.trans e2.symm)
theorem zrr{M:Model}{A:Around}{E:Value->Shared->Prop}{i:Nat}{x:Str}{v:V}{u:Value}{Q:Unit->Shared->Prop}(I:Inv X pins σ H s)(hN:X.N.Nodup)(hi:X.N[i]?=some x)(hx:Loc X.env.scope x)(r:RelV v u)
  (h:∀s',Inv X pins (σ.set i (some v)) H s'->(∃a,Heap.SameBut a s.heap s'.heap/\(a=X.env.locals\/X.env.cells.lookup x=some a))->Q () s') (hf:X.fn x=true\/X.env.scope.names.lookup x=some .local:=by assumption):wpAny M A (storeName X.env x u) Q E s:=by
 obtain⟨m,hn,hl⟩:=id I.loc
 have hcls:(X.env.scope.kind==.class||(X.env.scope.kind==.module&&X.env.locals != X.env.globals))=false:=by rw[I.ok.kind];rfl
 have hiσ:i<σ.length:=by rw[I.len];exact(qM.mp hi).1
 have cne:=I.cne
 have tracked:∀{a:Addr}{h':Heap},(∃o,s.heap.get? a=some o/\H a=none)->Heap.SameBut a s.heap h'->HOk X.prog X.w H h':=λ{a h'} ha hs b ob e=>by
  obtain⟨_,_,hfree⟩:=ha
  refine(I.hok b ob e).stay (λc w' hc q=>(hs.2 c ?_).trans q) (λ_ q=>q) λ_ _ q=>q
  rintro rfl
  rcases hc with rfl|hc
  ·rw[hfree]at e;cases e
  ·rw[hfree]at hc;cases hc
 rcases hx with hk|hk
 ·refine wpAny_storeName_local hk hn (λh' hn' hs=>?_) hcls
  obtain⟨oL,_,_,hoL,_⟩:=id hn
  refine h _ ⟨I.ok,I.os,I.bare,⟨λb o e n hb hx=>?_,λb o e n hb hx=>?_,I.base.free,λb o e hx=>?_,I.base.tups,I.base.frzs,I.base.tbls⟩,⟨_,hn',λj y v' e1 e2 e3=>?_⟩,λy c e=>?_,I.free,I.freeC,λp hp=>?_,tracked ⟨oL,hoL,I.free⟩ hs,by simpa using I.len⟩ ⟨_,hs,.inl rfl⟩
  ·exact(hs.2 b (qw (qd (qT e) I.ok.above))).trans (I.base.keep b o e n hb hx)
  ·obtain⟨sl,e1⟩:=I.base.slot b o e n hb hx
   exact⟨sl,(hs.2 b (qw (qd (qT e) I.ok.above))).trans e1⟩
  ·obtain⟨o',e1⟩:=I.base.there b o e hx
   exact⟨o',(hs.2 b (qw (qd (qT e) I.ok.above))).trans e1⟩
  ·by_cases hj:j=i
   ·subst hj
    rw[hi]at e1;cases e1
    rw[qe hiσ]at e2
    cases e2
    exact⟨u,r,.inl ⟨hk,by simp⟩⟩
   ·rw[qN (qBB hj)]at e2
    obtain⟨u',r',q⟩:=hl j y v' e1 e2 e3
    refine⟨u',r',?_⟩
    rcases q with⟨k,e⟩|⟨k,c,e,z⟩
    ·refine .inl ⟨k,?_⟩
     have:y≠x:=λe=>hj (zwk hN e1 (e▸hi))
     simp[this,e]
    ·exact .inr ⟨k,c,e,z.sameBut hs (cne y c e)⟩
  ·obtain⟨w',z⟩:=I.cell y c e
   exact⟨w',z.sameBut hs (cne y c e)⟩
  ·obtain⟨e,n,ne,nf,d⟩:=I.pin p hp
   exact⟨(hs.2 p.1 ne).trans e,n,ne,nf,d⟩
 ·have hfn:X.fn x=true:=by
   rcases hf with z|z
   ·exact z
   ·rw[z]at hk;cases hk
  obtain⟨c,hc⟩:=I.ok.has x (.inl hk)
  obtain⟨w',z⟩:=I.cell x c hc
  refine wpAny_storeName_cell I.ok.kind hk hc z (λh' hc' hs=>?_)
  obtain⟨oc,hoc,hocd⟩:=id z
  refine h {s with heap:=h'} ⟨I.ok,I.os,I.bare,⟨λb o e n hb hx=>?_,λb o e n hb hx=>?_,I.base.free,λb o e hx=>?_,I.base.tups,I.base.frzs,I.base.tbls⟩,⟨m,hn.sameBut hs (qBB (cne x c hc)),λj y v' e1 e2 e3=>?_⟩,λy c' e=>?_,I.free,I.freeC,λp hp=>?_,tracked ⟨oc,hoc,I.freeC x c hc⟩ hs,by simpa using I.len⟩ ⟨c,hs,.inr hc⟩
  ·exact(hs.2 b (qw (qd (qT e) (I.ok.cab x c hfn hc)))).trans (I.base.keep b o e n hb hx)
  ·obtain⟨sl,e1⟩:=I.base.slot b o e n hb hx
   exact⟨sl,(hs.2 b (qw (qd (qT e) (I.ok.cab x c hfn hc)))).trans e1⟩
  ·obtain⟨o',e1⟩:=I.base.there b o e hx
   exact⟨o',(hs.2 b (qw (qd (qT e) (I.ok.cab x c hfn hc)))).trans e1⟩
  ·by_cases hj:j=i
   ·subst hj
    rw[hi]at e1;cases e1
    rw[qe hiσ]at e2
    cases e2
    exact⟨u,r,.inr ⟨.inl hk,c,hc,hc'⟩⟩
   ·rw[qN (qBB hj)]at e2
    obtain⟨u',r',q⟩:=hl j y v' e1 e2 e3
    refine⟨u',r',?_⟩
    rcases q with q|⟨k,c',e,z'⟩
    ·exact .inl q
    ·refine .inr ⟨k,c',e,z'.sameBut hs ?_⟩
     rintro rfl
     exact hj (zwk hN e1 (I.ok.inj _ _ _ e hc▸hi))
  ·by_cases hcc:c'=c
   ·subst hcc;exact⟨_,hc'⟩
   ·obtain⟨w2,z2⟩:=I.cell y c' e
    exact⟨w2,z2.sameBut hs hcc⟩
  ·obtain⟨e,n,ne,nf,d⟩:=I.pin p hp
   refine⟨(hs.2 p.1 ?_).trans e,n,ne,nf,d⟩
   intro q
   rw[q,hoc]at e
   have q':oc=p.2:=qR e
   exact d w' (by rw[<- q'];exact hocd)
theorem zwl{M:Model}{A:Around}{E:Value->Shared->Prop}{i:Nat}{x:Str}{v:V}{u:Value}{Q:Unit->Shared->Prop}(I:Inv X pins σ H s)(hN:X.N.Nodup)(hi:X.N[i]?=some x)(hx:Loc X.env.scope x)(r:RelV v u)
  (h:∀s',Inv X pins (σ.set i (some v)) H s'->Q () s') (hf:X.fn x=true\/X.env.scope.names.lookup x=some .local:=by assumption):wpAny M A (storeName X.env x u) Q E s:=
 zrr I hN hi hx r (λs' I' _=>h s' I') hf
end
noncomputable abbrev XK:=Value->Option Addr->Hp->Prop
noncomputable abbrev St:=List (Option V)
noncomputable abbrev VK:=V->Hp->Prop
noncomputable abbrev TE:=St->Hp->VK->Prop
noncomputable abbrev TT:=St->Hp->(Bool->Hp->Prop)->Prop
noncomputable abbrev TA:=St->Hp->(List V->Hp->Prop)->Prop
set_option genInjectivity false in
structure Ends where
 nx:St->Hp->Prop
 rt:VK
 bk:St->Hp->Prop:=λ_ _=>False
 ct:St->Hp->Prop:=λ_ _=>False
noncomputable abbrev TS:=Ends->St->Hp->Prop
noncomputable def EP(X:Cx)(pins:List (Addr×Obj))(σ:St)(Q:VK)(u:Value)(s':Shared):Prop:=∃v H',Inv X pins σ H' s'/\RelV v u/\Q v H'
noncomputable def TP(X:Cx)(pins:List (Addr×Obj))(σ:St)(Q:Bool->Hp->Prop)(b:Bool)(s':Shared):Prop:=∃H',Inv X pins σ H' s'/\Q b H'
noncomputable def AP(X:Cx)(pins:List (Addr×Obj))(σ:St)(Q:List V->Hp->Prop)(us:List Value)(s':Shared):Prop:=∃vs H',Inv X pins σ H' s'/\Vals vs us/\Q vs H'
noncomputable def SP(X:Cx)(pins:List (Addr×Obj))(D:Ends)(f:Flow)(s':Shared):Prop:=
 match f with
 | .next=>∃σ' H',Inv X pins σ' H' s'/\D.nx σ' H'
 | .brk=>∃σ' H',Inv X pins σ' H' s'/\D.bk σ' H'
 | .cont=>∃σ' H',Inv X pins σ' H' s'/\D.ct σ' H'
 | .ret u=>∃v σ' H',Inv X pins σ' H' s'/\RelV v u/\D.rt v H'
noncomputable def PE(X:Cx)(e:Expr)(t:TE):Prop:=
 ∀(pins:List (Addr×Obj))(s:Shared)(σ:St)(H:Hp)(Q:VK),Inv X pins σ H s->t σ H Q->wpAny (model X.prog X.w) X.A (eval e X.env) (EP X pins σ Q) X.xe s
noncomputable def PT(X:Cx)(e:Expr)(t:TT):Prop:=
 ∀(pins:List (Addr×Obj))(s:Shared)(σ:St)(H:Hp)(Q:Bool->Hp->Prop),Inv X pins σ H s->t σ H Q->wpAny (model X.prog X.w) X.A (isTrue e X.env (eval e X.env)) (TP X pins σ Q) X.xe s
noncomputable def PW(X:Cx)(e:Expr)(t:TT):Prop:=
 ∀(whole:Sem Value)(pins:List (Addr×Obj))(s:Shared)(σ:St)(H:Hp)(Q:Bool->Hp->Prop),Inv X pins σ H s->t σ H Q->wpAny (model X.prog X.w) X.A (isTrue e X.env whole) (TP X pins σ Q) X.xe s
theorem PW.pt{X:Cx}{e:Expr}{t:TT}(h:PW X e t):PT X e t:=h _
noncomputable def PA(X:Cx)(es:List Expr)(t:TA):Prop:=
 ∀(pos:Pos)(pins:List (Addr×Obj))(s:Shared)(σ:St)(H:Hp)(Q:List V->Hp->Prop),Inv X pins σ H s->t σ H Q->wpAny (model X.prog X.w) X.A (spliced (backTo pos (starEach es X.env))) (AP X pins σ Q) X.xe s
noncomputable def PS(X:Cx)(st:Stmt)(t:TS):Prop:=
 ∀(pins:List (Addr×Obj))(s:Shared)(σ:St)(H:Hp)(D:Ends),Inv X pins σ H s->t D σ H->wpAny (model X.prog X.w) X.A (exec st X.env) (SP X pins D) X.xe s
noncomputable def PSs(X:Cx)(st:List Stmt)(t:TS):Prop:=
 ∀(pins:List (Addr×Obj))(s:Shared)(σ:St)(H:Hp)(D:Ends),Inv X pins σ H s->t D σ H->wpAny (model X.prog X.w) X.A (execs st X.env) (SP X pins D) X.xe s
theorem thn{α:Type}{t:Sem α}{Q Q':α->Shared->Prop}{M:Model}{A:Around}{E:Value->Shared->Prop}{s:Shared}(h:wpAny M A t Q E s)(hQ:∀a s,Q a s->Q' a s):wpAny M A t Q' E s:=qBn h hQ λ_ _ x=>x
section
variable{X:Cx}
theorem bin{a b:Expr}{ta tb:TE}(ha:PE X a ta)(hb:PE X b tb){pins:List (Addr×Obj)}{s:Shared}{σ:St}{H:Hp}{R:V->V->Hp->Prop}(I:Inv X pins σ H s)(h:ta σ H λx H1=>tb σ H1 λy H2=>R x y H2)
  {α:Type}{Q:α->Shared->Prop}{f:Value->Value->Sem α}
  (hf:∀v u s2 x y H2,Inv X pins σ H2 s2->RelV x v->RelV y u->R x y H2->wpAny (model X.prog X.w) X.A (f v u) Q X.xe s2) :
  wpAny (model X.prog X.w) X.A (eval a X.env) (λv s₁=>wpAny (model X.prog X.w) X.A (eval b X.env) (λu s₂=>wpAny (model X.prog X.w) X.A (f v u) Q X.xe s₂) X.xe s₁) X.xe s:=by
 refine thn (ha pins s σ H _ I h) λv s1 ⟨x,H1,I1,r1,q1⟩=>?_
 refine thn (hb pins s1 σ H1 _ I1 q1) λu s2 ⟨y,H2,I2,r2,q2⟩=>?_
 exact hf v u s2 x y H2 I2 r1 r2 q2
noncomputable def tVar(i:Nat):TE:=λσ H Q=>∃v,σ[i]?=some (some v)/\Q v H
noncomputable def tC(v:V):TE:=λ_ H Q=>Q v H
theorem zane{i:Nat}{x:Str}{pos:Pos}(hN:X.N[i]?=some x)(hv:Vis X.env.scope x)(hd:(x==("__debug__":Str))=false:=by decide)(hcd:(x==("__classdict__":Str))=false:=by decide):PE X (.Name x pos) (tVar i):=by
 intro pins s σ H Q I h
 obtain⟨v,e,h⟩:=h
 obtain⟨m,hn,hl⟩:=I.loc
 obtain⟨u,r,l⟩:=hl i x v hN e hv
 have fin:EP X pins σ Q u s:=⟨v,H,I,r,h⟩
 rcases l with⟨hk,hm⟩|⟨hk,c,hc,hcell⟩
 ·exact wpAny_Name (wpAny_loadName_local I.ok.kind hk hn hm fin) hd
 ·rcases hk with hk|hk
  ·exact wpAny_Name (wpAny_loadName_cell I.ok.kind hk hc hcell fin) hd
  ·exact wpAny_Name (wpAny_loadName_free I.ok.kind hk hc hcell fin hcd) hd
theorem zanf{i j pos}:PE X (.Constant (.int i) j pos) (tC (.int i)):=λ_ _ _ H _ I h=>wpAny_Constant_int ⟨.int i,H,I.tok _,⟨_,rfl⟩,h⟩
theorem zara{b j pos}:PE X (.Constant (.bool b) j pos) (tC (.bl b)):=λ_ _ _ H _ I h=>Constant_bool ⟨.bl b,H,I,rfl,h⟩
theorem zang{x j pos}:PE X (.Constant (.str x) j pos) (tC (.str x)):=λ_ _ _ H _ I h=>Calls.Constant_str ⟨.str x,H,I.tok _,⟨_,rfl⟩,h⟩
noncomputable def Gl(X:Cx)(x:Str):Prop:=X.env.kindOf x=some .globalImplicit
theorem zzw{E:Value->Shared->Prop}{pins:List (Addr×Obj)}{s:Shared}{σ:St}{H:Hp}{x:Str}{u:Value}{pos:Pos}{Q:Value->Shared->Prop}(I:Inv X pins σ H s)(hg:Gl X x)(hm:X.mg x=some u)(h:Q u s)
  (hd:(x==("__debug__":Str))=false:=by decide):wpAny (model X.prog X.w) X.A (eval (.Name x pos) X.env) Q E s:=
 qCI I.ok.kind hg (Calls.loadGlobal_global (by rw[I.ok.glob];exact I.mod.glob.keeps I.bk) hm h) hd
theorem zrs{E:Value->Shared->Prop}{pins:List (Addr×Obj)}{s:Shared}{σ:St}{H:Hp}{x:Str}{u:Value}{pos:Pos}{Q:Value->Shared->Prop}(I:Inv X pins σ H s)(hg:Gl X x)(hm:X.mg x=none)(hv:bootBuiltins x=some u)(h:Q u s)
  (hn:x≠"__name__":=by decide) (hd:(x==("__debug__":Str))=false:=by decide):wpAny (model X.prog X.w) X.A (eval (.Name x pos) X.env) Q E s:=by
 obtain⟨mb,h1,h2⟩:=I.mod.blt
 exact qCI I.ok.kind hg (Calls.loadGlobal_builtin (by rw[I.ok.glob];exact I.mod.glob.keeps I.bk) hm (by rw[I.ok.blt];exact h1.keeps I.bk) ((h2 x hn).trans hv) h) hd
theorem zajn{x:Str}{v:V}{u:Value}{pos:Pos}(hg:Gl X x)(hm:X.mg x=none)(hv:bootBuiltins x=some u)(r:RelV v u)(hn:x≠"__name__":=by decide)(hd:(x==("__debug__":Str))=false:=by decide):PE X (.Name x pos) (tC v):=
 λ_ _ _ H _ I h=>zrs I hg hm hv ⟨v,H,I,r,h⟩ hn hd
variable{a b:Expr}{ta tb:TE}{pos:Pos}
noncomputable def PC(X:Cx)(op:CmpOp)(a b:Expr)(t:TE):Prop:=
 ∀(pins:List (Addr×Obj))(s:Shared)(σ:St)(H:Hp)(Q:VK),Inv X pins σ H s->t σ H Q->
  wpAny (model X.prog X.w) X.A (eval a X.env) (λv s₁=>wpAny (model X.prog X.w) X.A (eval b X.env) (λu s₂=>wpAny (model X.prog X.w) X.A (compareOp op v u) (EP X pins σ Q) X.xe s₂) X.xe s₁) X.xe s
noncomputable def tB(t:TE):TT:=λσ H Q=>t σ H λx H1=>∃c,x=.bl c/\Q c H1
theorem zanh{op:CmpOp}{t:TE}(h:PC X op a b t)(h1:behindInMarks op b=false:=by rfl):PE X (.Compare a [op] [b] pos) t:=λpins s σ H Q I hw=>wpAny_Compare1 (h pins s σ H Q I hw) h1
theorem zani{op:CmpOp}{t:TE}(h:PC X op a b t)(h1:behindInMarks op b=false:=by rfl):PT X (.Compare a [op] [b] pos) (tB t):=by
 intro pins s σ H Q I hw
 refine wpAny_isTrue_Compare1 (thn (h pins s σ H _ I hw) λv s1 h1=>thn h1 λu s2 h2=>thn h2 λc s3 ⟨x,H1,I1,r1,q1⟩=>?_) h1
 obtain⟨d,rfl,q⟩:=q1
 cases r1
 exact qAp ⟨H1,I1,q⟩
variable{tA tB':TT}{rest:List Expr}
noncomputable def tAnd(t u:TT):TT:=λσ H Q=>t σ H λc H1=>if c=true then u σ H1 Q else Q false H1
noncomputable def tOr(t u:TT):TT:=λσ H Q=>t σ H λc H1=>if c=true then Q true H1 else u σ H1 Q
noncomputable def tNot(t:TT):TT:=λσ H Q=>t σ H λc H1=>Q (!c) H1
theorem zajo(ha:PT X a tA):PW X (.BoolOp .And [a] pos) tA:=by
 intro wh pins s σ H Q I h
 refine isTrue_and (thn (ha pins s σ H Q I h) λc s1 e=>?_)
 cases c with
 | true=>exact isTrue_and_nil e
 | false=>exact e
theorem zanj(ha:PT X a tA):PW X (.BoolOp .Or [a] pos) tA:=by
 intro wh pins s σ H Q I h
 refine isTrue_or (thn (ha pins s σ H Q I h) λc s1 e=>?_)
 cases c with
 | false=>exact isTrue_or_nil e
 | true=>exact e
theorem zank(ha:PT X a tA)(hb:PW X (.BoolOp .And (b::rest) pos) tB'):PW X (.BoolOp .And (a::b::rest) pos) (tAnd tA tB'):=by
 intro wh pins s σ H Q I h
 refine isTrue_and (thn (ha pins s σ H _ I h) λc s1 ⟨H1,I1,q1⟩=>?_)
 cases c with
 | true=>exact hb wh pins s1 σ H1 Q I1 q1
 | false=>exact⟨H1,I1,q1⟩
theorem zarb(ha:PT X a tA)(hb:PW X (.BoolOp .Or (b::rest) pos) tB'):PW X (.BoolOp .Or (a::b::rest) pos) (tOr tA tB'):=by
 intro wh pins s σ H Q I h
 refine isTrue_or (thn (ha pins s σ H _ I h) λc s1 ⟨H1,I1,q1⟩=>?_)
 cases c with
 | true=>exact⟨H1,I1,q1⟩
 | false=>exact hb wh pins s1 σ H1 Q I1 q1
theorem zanl(ha:PT X a tA):PT X (.UnaryOp .Not a pos) (tNot tA):=by
 intro pins s σ H Q I h
 exact isTrue_not (ha pins s σ H (λc H1=>Q (!c) H1) I h)
noncomputable def tAndV(ta tb:TE):TE:=λσ H Q=>ta σ H λx H1=>∃c,x=.bl c/\if c=true then tb σ H1 Q else Q (.bl false) H1
noncomputable def tNotV(ta:TE):TE:=λσ H Q=>ta σ H λx H1=>∃c,x=.bl c/\Q (.bl (!c)) H1
theorem zanm{op}{t:TE}(h:PE X a t):PE X (.BoolOp op [a] pos) t:=λpins s σ H Q I hw=>BoolOp_one (h pins s σ H Q I hw)
theorem zann(ha:PE X a ta)(hb:PE X (.BoolOp .And (b::rest) pos) tb):PE X (.BoolOp .And (a::b::rest) pos) (tAndV ta tb):=by
 intro pins s σ H Q I h
 refine BoolOp_and (thn (ha pins s σ H _ I h) λv s1 ⟨x,H1,I1,r1,q1⟩=>?_)
 obtain⟨c,rfl,q1⟩:=q1
 cases r1
 refine qAp ?_
 cases c with
 | true=>exact hb pins s1 σ H1 Q I1 q1
 | false=>exact⟨.bl false,H1,I1,rfl,q1⟩
theorem zano(ha:PE X a ta):PE X (.UnaryOp .Not a pos) (tNotV ta):=by
 intro pins s σ H Q I h
 refine UnaryOp_ (thn (ha pins s σ H _ I h) λv s1 ⟨x,H1,I1,r1,q1⟩=>?_)
 obtain⟨c,rfl,q1⟩:=q1
 cases r1
 exact not_of (qAp ⟨.bl (!c),H1,I1,rfl,q1⟩)
end
noncomputable def SqL(K:qC)(H:Hp)(a:Addr)(xs:List V):Prop:=
 Rd H a (.lst xs)\/
  ∃(o:Obj)(its:Array Value)(n:Nat),K.lookup a=some o/\o.cls=.type "list"/\o.dict=none/\o.data=.seq its n/\its.size<=qS/\Vals xs its.toList
noncomputable def SqT(K:qC)(H:Hp)(a:Addr)(xs:List V):Prop:=
 Rd H a (.tup xs)\/
  ∃(o:Obj)(its:Array Value)(n:Nat),K.lookup a=some o/\o.cls=.type "tuple"/\o.data=.seq its n/\its.size<=qS/\Vals xs its.toList
noncomputable def absV:Value->Option V
 | .none=>some .non
 | .bool b=>some (.bl b)
 | .int i _=>some (.int i)
 | .str x _=>some (.str x)
 | .bytes b _=>some (.byt b)
 | .float b _=>some (.flt b)
 | .ref a=>some (.ref a)
 | .type n=>some (.ty n)
 | _=>none
theorem RelV.abs{x:V}{u:Value}(r:RelV x u):absV u=some x:=by
 cases x with
 | non=>cases r;rfl
 | bl _=>cases r;rfl
 | int _=>obtain⟨t,rfl⟩:=r;rfl
 | str _=>obtain⟨t,rfl⟩:=r;rfl
 | byt _=>obtain⟨t,rfl⟩:=r;rfl
 | flt _=>obtain⟨t,rfl⟩:=r;rfl
 | ref _=>cases r;rfl
 | ty _=>cases r;rfl
theorem RelV.inj{x y:V}{u:Value}(r:RelV x u)(q:RelV y u):x=y:=qR (r.abs.symm.trans q.abs)
theorem Vals.inj:∀{xs ys:List V}{us:List Value},Vals xs us->Vals ys us->xs=ys
 | _,_,_,.nil,.nil=>rfl
 | _,_,_,.cons r t,.cons r' t'=>by rw[r.inj r',Vals.inj t t']
section
variable{X:Cx}{pins:List (Addr×Obj)}{σ:St}{H:Hp}{s:Shared}{a:Addr}{xs ys:List V}
theorem SqL.of{K:qC}(h:H a=some (.lst xs)):SqL K H a xs:=.inl (.inl h)
theorem SqT.of{K:qC}(h:H a=some (.tup xs)):SqT K H a xs:=.inl (.inl h)
theorem Inv.list(I:Inv X pins σ H s)(h:SqL X.K H a xs):∃its:List Value,Vals xs its/\PlainL s.heap a its.toArray/\xs.length<=qS:=by
 rcases h with h|⟨o,its,n,hk,hc,hd,hs,hz,r⟩
 ·obtain⟨z,its,n,r,e⟩:=h.ok I.hok
  exact⟨its,r,⟨_,n,e,rfl,rfl,rfl⟩,z⟩
 ·refine⟨its.toList,r,⟨o,n,I.kIn a o hk,hc,hd,by simpa using hs⟩,?_⟩
  have e:=r.length
  simp only[qBO]at e
  omega
theorem Inv.tuple(I:Inv X pins σ H s)(h:SqT X.K H a xs):∃its:List Value,Vals xs its/\IsTup s.heap a its.toArray/\xs.length<=qS:=by
 rcases h with h|⟨o,its,n,hk,hc,hs,hz,r⟩
 ·obtain⟨z,its,r,p⟩:=h.ok I.hok
  exact⟨its,r,p,z⟩
 ·refine⟨its.toList,r,⟨o,I.kIn a o hk,hc,n,by simpa using hs⟩,?_⟩
  have e:=r.length
  simp only[qBO]at e
  omega
theorem Inv.list_inj(I:Inv X pins σ H s)(h:SqL X.K H a xs)(h':SqL X.K H a ys):xs=ys:=by
 obtain⟨its,r,⟨o,n,e,_,_,d⟩,_⟩:=I.list h
 obtain⟨its',r',⟨o',n',e',_,_,d'⟩,_⟩:=I.list h'
 rw[e]at e';cases e'
 rw[d]at d'
 injection d' with d1 _
 have:its=its':=by simpa using congrArg Array.toList d1
 subst this
 exact r.inj r'
theorem Inv.tuple_inj(I:Inv X pins σ H s)(h:SqT X.K H a xs)(h':SqT X.K H a ys):xs=ys:=by
 obtain⟨its,r,⟨o,e,_,n,d⟩,_⟩:=I.tuple h
 obtain⟨its',r',⟨o',e',_,n',d'⟩,_⟩:=I.tuple h'
 rw[e]at e';cases e'
 rw[d]at d'
 injection d' with d1 _
 have:its=its':=by simpa using congrArg Array.toList d1
 subst this
 exact r.inj r'
end
noncomputable abbrev Cx.wish(X:Cx)(E:Value->Shared->Prop):Cx:={X with xe:=E}
noncomputable abbrev Cx.nox(X:Cx):Cx:=X.wish λ_ _=>False
theorem Cx.Ok.wish{X:Cx}(ok:X.Ok)(E:Value->Shared->Prop):(X.wish E).Ok:=
 ⟨ok.mod,ok.kind,ok.glob,ok.blt,ok.above,ok.inj,ok.has,ok.cab,ok.hd,ok.frames,ok.stk,ok.exf,ok.bs,ok.bsz,ok.noex,ok.exfs,ok.funs,ok.frf⟩
theorem Cx.Ok.unwish{X:Cx}{E:Value->Shared->Prop}(ok:(X.wish E).Ok):X.Ok:=
 ⟨ok.mod,ok.kind,ok.glob,ok.blt,ok.above,ok.inj,ok.has,ok.cab,ok.hd,ok.frames,ok.stk,ok.exf,ok.bs,ok.bsz,ok.noex,ok.exfs,ok.funs,ok.frf⟩
section
variable{X:Cx}{pins:List (Addr×Obj)}{σ:St}{H:Hp}{s:Shared}{E:Value->Shared->Prop}
theorem Inv.wish(I:Inv X pins σ H s)(E:Value->Shared->Prop):Inv (X.wish E) pins σ H s:=⟨I.ok.wish E,I.os,I.bare,I.base,I.loc,I.cell,I.free,I.freeC,I.pin,I.hok,I.len⟩
theorem Inv.unwish(I:Inv (X.wish E) pins σ H s):Inv X pins σ H s:=⟨I.ok.unwish,I.os,I.bare,I.base,I.loc,I.cell,I.free,I.freeC,I.pin,I.hok,I.len⟩
theorem SP.unwish{D:Ends}{f:Flow}{s':Shared}(h:SP (X.wish E) pins D f s'):SP X pins D f s':=by
 cases f with
 | next=>obtain⟨σ',H',I,q⟩:=h;exact⟨σ',H',I.unwish,q⟩
 | brk=>obtain⟨σ',H',I,q⟩:=h;exact⟨σ',H',I.unwish,q⟩
 | cont=>obtain⟨σ',H',I,q⟩:=h;exact⟨σ',H',I.unwish,q⟩
 | ret u=>obtain⟨v,σ',H',I,r,q⟩:=h;exact⟨v,σ',H',I.unwish,r,q⟩
theorem PSs.nox{st:List Stmt}{t:TS}(h:PSs X.nox st t):PSs X st t:=λpins s σ H D I hw=>
 qBn (h pins s σ H D (I.wish _) hw) (λ_ _ q=>q.unwish) λ_ _ z=>False.elim z
end
section
variable{X:Cx}{st:Stmt}{rest:List Stmt}{t u:TS}{e:Expr}{te:TE}{pos:Pos}
noncomputable def tNext:TS:=λD σ H=>D.nx σ H
noncomputable def tSeq(t u:TS):TS:=λD σ H=>t {D with nx:=u D} σ H
theorem zajp:PSs X [] tNext:=λ_ _ σ H _ I h=>qCe ⟨σ,H,I,h⟩
theorem zaer(h1:PS X st t)(h2:PSs X rest u):PSs X (st::rest) (tSeq t u):=by
 intro pins s σ H D I h
 refine wpAny_execs_cons (thn (h1 pins s σ H {D with nx:=u D} I h) λf s1 q=>?_)
 cases f with
 | next=>
  obtain⟨σ',H',I',q⟩:=q
  exact h2 pins s1 σ' H' D I' q
 | ret v=>exact q
 | brk=>exact q
 | cont=>exact q
theorem zajq(h1:PS X st t):PSs X [st] t:=by
 intro pins s σ H D I h
 refine wpAny_execs_cons (thn (h1 pins s σ H D I h) λf s1 q=>?_)
 cases f with
 | next=>exact qCe q
 | ret v=>exact q
 | brk=>exact q
 | cont=>exact q
theorem Inv.quiet{pins:List (Addr×Obj)}{σ:St}{H:Hp}{s:Shared}(I:Inv X pins σ H s):interactive X.env=false:=by simp[interactive,I.ok.kind]
noncomputable def tDrop(te:TE):TS:=λD σ H=>te σ H λ_ H1=>D.nx σ H1
theorem zajr(he:PE X e te)(hs:swapsWith e none pos.line X.env=pure false:=by rfl):PS X (.Expr e pos) (tDrop te):=by
 intro pins s σ H D I h
 exact wpAny_Expr_any (thn (he pins s σ H _ I h) λv s1 ⟨x,H1,I1,r1,q1⟩=>⟨σ,H1,I1,q1⟩) I.quiet hs
noncomputable def tRet(te:TE):TS:=λD σ H=>te σ H D.rt
theorem zanp(he:PE X e te):PS X (.Return (some e) pos) (tRet te):=by
 intro pins s σ H D I h
 exact wpAny_Return_some (thn (he pins s σ H _ I h) λv s1 ⟨x,H1,I1,r1,q1⟩=>⟨x,σ,H1,I1,r1,q1⟩)
noncomputable def tIfS(c:TT)(t u:TS):TS:=λD σ H=>c σ H λb H1=>if b=true then t D σ H1 else u D σ H1
theorem zarc{c:Expr}{a b:List Stmt}{tc:TT}(hc:PT X c tc)(ha:PSs X a t)(hb:PSs X b u):PS X (.If c a b pos) (tIfS tc t u):=by
 intro pins s σ H D I h
 refine wpAny_If (thn (hc pins s σ H _ I h) λd s1 ⟨H1,I1,q1⟩=>?_)
 cases d with
 | true=>exact ha pins s1 σ H1 D I1 q1
 | false=>exact hb pins s1 σ H1 D I1 q1
noncomputable def tNever:TS:=λ_ _ _=>False
theorem zaes:PS X st tNever:=λ_ _ _ _ _ _ h=>h.elim
end
noncomputable abbrev TG:=V->St->Hp->(St->Hp->Prop)->Prop
noncomputable abbrev TGs:=List V->St->Hp->(St->Hp->Prop)->Prop
noncomputable def PG(X:Cx)(target:Expr)(t:TG):Prop:=
 ∀(pins:List (Addr×Obj))(s:Shared)(σ:St)(H:Hp)(v:V)(u:Value)(Q:St->Hp->Prop),Inv X pins σ H s->RelV v u->t v σ H Q->
  wpAny (model X.prog X.w) X.A (assign target X.env u) (λ_ s'=>∃σ' H',Inv X pins σ' H' s'/\Q σ' H') X.xe s
noncomputable def PGs(X:Cx)(ts:List Expr)(t:TGs):Prop:=
 ∀(pins:List (Addr×Obj))(s:Shared)(σ:St)(H:Hp)(vs:List V)(us:List Value)(Q:St->Hp->Prop),Inv X pins σ H s->Vals vs us->t vs σ H Q->
  wpAny (model X.prog X.w) X.A (assignInOrder ((assignEach ts X.env).map (·.2)) us) (λ_ s'=>∃σ' H',Inv X pins σ' H' s'/\Q σ' H') X.xe s
noncomputable abbrev TSet:=V->V->V->Hp->(Hp->Prop)->Prop
noncomputable def PSet(X:Cx)(t:TSet):Prop:=
 ∀(pins:List (Addr×Obj))(s:Shared)(σ:St)(H:Hp)(o i v:V)(ov iv u:Value)(Q:Hp->Prop),Inv X pins σ H s->RelV o ov->RelV i iv->RelV v u->t o i v H Q->
  wpAny (model X.prog X.w) X.A (setItem ov iv u) (λ_ s'=>∃H',Inv X pins σ H' s'/\Q H') X.xe s
section
variable{X:Cx}{pos:Pos}
noncomputable def gName(i:Nat):TG:=λv σ H Q=>Q (σ.set i (some v)) H
theorem zajs{i:Nat}{x:Str}(hN:X.N.Nodup)(hi:X.N[i]?=some x)(hx:Loc X.env.scope x)(hf:X.fn x=true\/X.env.scope.names.lookup x=some .local:=by assumption):PG X (.Name x pos) (gName i):=by
 intro pins s σ H v u Q I r h
 exact wpAny_assign_Name (zwl I hN hi hx r (λs' I'=>⟨_,H,I',h⟩) hf)
noncomputable def gNil:TGs:=λvs σ H Q=>vs=[]/\Q σ H
noncomputable def gCons(t:TG)(u:TGs):TGs:=λvs σ H Q=>∃v r,vs=v::r/\t v σ H λσ' H'=>u r σ' H' Q
theorem zajt:PGs X [] gNil:=by
 intro pins s σ H vs us Q I r h
 obtain⟨e,h⟩:=h
 subst e
 cases r
 exact assignInOrder_nil ⟨σ,H,I,h⟩
theorem zaet{e:Expr}{es:List Expr}{t:TG}{u:TGs}(h1:PG X e t)(h2:PGs X es u)
  (hs:(assignEach (e::es) X.env).map (·.2)=assign e X.env::(assignEach es X.env).map (·.2):=by rfl):PGs X (e::es) (gCons t u):=by
 intro pins s σ H vs us Q I r h
 obtain⟨v,vr,e1,h⟩:=h
 subst e1
 cases r with
 | cons r rr=>
  rw[hs]
  refine assignInOrder_cons (thn (h1 pins s σ H _ _ _ I r h) λ_ s1 ⟨σ1,H1,I1,q1⟩=>?_)
  exact h2 pins s1 σ1 H1 _ _ Q I1 rr q1
noncomputable def gTup(K:qC)(n:Nat)(t:TGs):TG:=λv σ H Q=>∃a xs,v=.ref a/\SqT K H a xs/\xs.length=n/\t xs σ H Q
theorem zanq{es:List Expr}{k:Nat}{t:TGs}{n:Nat}(hc:X.calm=true)(h:PGs X es t)
  (hn:(assignEach es X.env).length=n:=by rfl) (hst:(assignEach es X.env).findIdx? (·.1)=none:=by rfl):PG X (.Tuple es k pos) (gTup X.K n t):=by
 intro pins s σ H v u Q I r hw
 obtain⟨a,xs,e1,hq,hl,hw⟩:=hw
 subst e1
 cases r
 obtain⟨its,rv,ht,hz⟩:=I.tuple hq
 refine assign_Tuple_tuple (I.ok.hd hc) ht (by simp[hn,<- hl,rv.length]) hst λh' hx=>?_
 have I1:Inv X pins σ H {s with heap:=h'}:=I.kept (t':=s.toks) λb o e=>hx b o (qw (qT e)) e
 exact h pins _ σ H xs _ Q I1 (by simpa using rv) hw
noncomputable def gSub(to ti:TE)(t:TSet):TG:=λv σ H Q=>to σ H λo H1=>ti σ H1 λi H2=>t o i v H2 λH3=>Q σ H3
theorem zanr{o i:Expr}{to ti:TE}{t:TSet}(ho:PE X o to)(hi:PE X i ti)(hs:PSet X t)
  (ha:∀v,assign (.Subscript o i pos) X.env v=(do
   let ov <- holding [v] (eval o X.env)
   let iv <- holding [v,ov] (eval i X.env)
   standAt pos
   holding [v,ov,iv] (setItem ov iv v)
   release [v,ov,iv] []):=by intro _;rfl):PG X (.Subscript o i pos) (gSub to ti t):=by
 intro pins s σ H v u Q I r h
 rw[ha]
 refine qB (qAU (thn (ho pins s σ H _ I h) λov s1 ⟨x,H1,I1,r1,q1⟩=>?_))
 refine qB (qAU (thn (hi pins s1 σ H1 _ I1 q1) λiv s2 ⟨y,H2,I2,r2,q2⟩=>?_))
 refine qB (qBS (qB (qAU (thn (hs pins s2 σ H2 x y v ov iv u _ I2 r1 r2 r q2) λ_ s3 ⟨H3,I3,q3⟩=>?_))))
 exact wpAny_release ⟨σ,H3,I3,q3⟩
noncomputable def tAsg(te:TE)(g:TG):TS:=λD σ H=>te σ H λx H1=>g x σ H1 D.nx
theorem zans{tg e:Expr}{te:TE}{g:TG}(he:PE X e te)(hg:PG X tg g)(hs:swapsWithSole [tg] e pos.line X.env=pure false:=by rfl)(hw:swappedStores [tg] e X.env=pure none:=by rfl)
  (h1:(assignEach [tg] X.env).map (·.2)=[assign tg X.env]:=by rfl):PS X (.Assign [tg] e pos) (tAsg te g):=by
 intro pins s σ H D I h
 refine wpAny_Assign_stores (thn (he pins s σ H _ I h) λv s1 ⟨x,H1,I1,r1,q1⟩=>?_) hs hw
 rw[h1]
 exact thn (hg pins s1 σ H1 x v _ I1 r1 q1) λ_ s2 q=>q
theorem zant{i:Nat}{x:Str}{e:Expr}{te:TE}{pos':Pos}(hN:X.N.Nodup)(hi:X.N[i]?=some x)(hx:Loc X.env.scope x)(he:PE X e te)(hs:swapsWith e (some (.Name x pos')) pos.line X.env=pure false:=by rfl)(hf:X.fn x=true\/X.env.scope.names.lookup x=some .local:=by assumption) :
  PS X (.Assign [.Name x pos'] e pos) (tAsg te (gName i)):=by
 intro pins s σ H D I h
 refine wpAny_Assign_Name (thn (he pins s σ H _ I h) λv s1 ⟨y,H1,I1,r1,q1⟩=>?_) hs
 exact zwl I1 hN hi hx r1 (λs2 I2=>⟨_,H1,I2,q1⟩) hf
end
set_option genInjectivity false in
structure It where
 go:Nat->Hp->Prop
 yld:Nat->Hp->V->Hp->Prop
 stop:Nat->Hp->Prop
noncomputable def FpOk(X:Cx)(pins:List (Addr×Obj))(H:Hp)(b:Addr):Prop:=
 H b=none/\b≠X.env.locals/\b∉X.fs/\(b∈X.ex\/X.s₀.heap.objs.size<=b)/\(∀x c,X.env.cells.lookup x=some c->c≠b)/\∀p∈X.pn++pins,p.1≠b
theorem Inv.fpOk{X:Cx}{pins:List (Addr×Obj)}{σ:St}{H H':Hp}{s:Shared}{b:Addr}(I:Inv X pins σ H s)(hb:s.heap.objs.size<=b)(hn:H' b=none):FpOk X pins H' b:=by
 refine⟨hn,qCs (qd I.lt hb),I.nofs hb,.inr (qAM I.sz hb),λx c e z=>?_,λp hp z=>?_⟩
 ·obtain⟨v,q⟩:=I.cell x c e
  exact absurd (qd q.lt (by rw[z];exact hb)) (qAZ _)
 ·exact absurd (qd (qT (I.pin p hp).1) (by rw[z];exact hb)) (qAZ _)
set_option genInjectivity false in
structure Turn(P:Program)(w:World)(K:qC)(tg:Expr)(J:It)(fp:List Addr)(it:Addr)(tn:Nat->Heap->Prop):Prop where
 mem:it∈fp
 obj:∀i h,tn i h->∀b∈fp,∃o,h.get? b=some o/\∀v,o.data≠.cell v
 keep:∀i h h',tn i h->(∀b∈fp,∀o,h.get? b=some o->h'.get? b=some o)->tn i h'
 item:∀(X:Cx),X.prog=P->X.w=w->X.K=K->X.calm=true->∀(i:Nat)(pins:List (Addr×Obj))(s:Shared)(σ:St)(H:Hp)(E:Value->Shared->Prop),Inv X pins σ H s->(∀b∈fp,FpOk X pins H b)->tn i s.heap->J.go i H->
  wpAny (model P w) X.A (pyNext (.ref it)) (λr s1=>∃u,r=some u/\
   wpAny (model P w) X.A (letOwnedTupleGo tg (.ref it) u) (λ_ s2=>∃x H',Inv X pins σ H' s2/\RelV x u/\J.yld i H x H'/\tn (i+1) s2.heap/\∀b∈fp,H' b=none) E s1) E s
 done:∀(X:Cx),X.prog=P->X.w=w->X.K=K->X.calm=true->∀(i:Nat)(pins:List (Addr×Obj))(s:Shared)(σ:St)(H:Hp)(E:Value->Shared->Prop),Inv X pins σ H s->(∀b∈fp,FpOk X pins H b)->tn i s.heap->J.stop i H->
  wpAny (model P w) X.A (pyNext (.ref it)) (λr s1=>r=none/\Inv X pins σ H s1) E s
 self:∀(A:Around)(i:Nat)(s:Shared)(Q:Value->Shared->Prop)(E:Value->Shared->Prop),tn i s.heap->Q (.ref it) s->wpAny (model P w) A (pyIter (.ref it)) Q E s
noncomputable abbrev TI:=St->Hp->(It->Hp->Prop)->Prop
noncomputable def PIE(X:Cx)(pins:List (Addr×Obj))(σ:St)(tg:Expr)(R:It->Hp->Prop)(itv:Value)(s2:Shared):Prop:=
 ∃(it:Addr)(fp:List Addr)(tn:Nat->Heap->Prop)(J:It)(H':Hp),itv=.ref it/\Inv X pins σ H' s2/\Turn X.prog X.w X.K tg J fp it tn/\tn 0 s2.heap/\(∀b∈fp,FpOk X pins H' b)/\R J H'
noncomputable def PI(X:Cx)(tg iter:Expr)(wi:TI):Prop:=
 ∀(pins:List (Addr×Obj))(s:Shared)(σ:St)(H:Hp)(R:It->Hp->Prop),Inv X pins σ H s->wi σ H R->
  wpAny (model X.prog X.w) X.A (eval iter X.env) (λv s1=>wpAny (model X.prog X.w) X.A (pyIter v) (PIE X pins σ tg R) X.xe s1) X.xe s
theorem zzx{M:Model}{A:Around}{E:Value->Shared->Prop}{s:Shared}{tg:Expr}{it:Addr}{u:Value}{o:Obj}{n:String}{vs:Array Value}{Q:Unit->Shared->Prop}(ho:s.heap.get? it=some o)(hc:o.cls=.type n)(hd:o.data=.fields vs)
  (hn:["enumerate","zip","dict_itemiterator","dict_reverseitemiterator","odict_iterator","itertools.zip_longest","itertools.pairwise"].contains n=false) (hQ:Q () s):wpAny M A (letOwnedTupleGo tg (.ref it) u) Q E s:=by
 unfold letOwnedTupleGo
 cases tg<;>first
  | exact qE hQ
  | (cases u<;>first
    | exact qE hQ
    | (refine qB (wpAny_load ho ?_)
       rw[hc,hd]
       show wpAny M A (if(["enumerate","zip","dict_itemiterator","dict_reverseitemiterator","odict_iterator","itertools.zip_longest","itertools.pairwise"].contains n&&vs[0]?==some (rawInt _))=true then _ else _) Q E s
       rw[if_neg (by intro h;rw[hn,Bool.false_and]at h;cases h)]
       exact qE hQ))
noncomputable def Itl(K:qC)(a:Addr):It:=
 ⟨λi H=>∃xs x,SqL K H a xs/\xs[i]?=some x,λi H x H'=>H'=H/\∀xs,SqL K H a xs->xs[i]?=some x,λi H=>∃xs,SqL K H a xs/\xs.length<=i⟩
noncomputable def Itt(K:qC)(a:Addr):It:=
 ⟨λi H=>∃xs x,SqT K H a xs/\xs[i]?=some x,λi H x H'=>H'=H/\∀xs,SqT K H a xs->xs[i]?=some x,λi H=>∃xs,SqT K H a xs/\xs.length<=i⟩
noncomputable def Itr(lo:Int)(n:Nat):It:=⟨λi _=>i<n,λi H x H'=>H'=H/\x=.int (lo+i),λi _=>n<=i⟩
theorem zzy{P:Program}{w:World}{K:qC}{tg:Expr}(a it:Addr):Turn P w K tg (Itl K a) [it] it (λi h=>h.IsListIter it a i) where
 mem:=by simp
 obj:=λi h st b hb=>by
  have e:b=it:=by simpa using hb
  subst e
  obtain⟨o,e,c,d⟩:=st
  exact⟨o,e,λv z=>by rw[d]at z;cases z⟩
 keep:=λi h h' st k=>st.at λo e=>k it (by simp) o e
 item:=by
  intro X hP hw hK hc i pins s σ H E I hf st hg
  subst hP hw hK
  obtain⟨xs,x,hq,hx⟩:=hg
  obtain⟨its,rv,p,hz⟩:=I.list hq
  obtain⟨u,hu,ru⟩:=rv.get hx
  obtain⟨f0,f1,f2,f3,f4,f5⟩:=hf it (by simp)
  refine wpAny_pyNext_list_item st p.isList (x:=u) (by simpa using hu) λh' st' sb=>?_
  have I1:Inv X pins σ H {s with heap:=h'}:=I.turned (t':=s.toks) (λb o hb e=>(sb.2 b hb).trans e) f0 f1 f3 f4 f5
  obtain⟨o,e,c,d⟩:=id st'
  exact⟨u,rfl,zzx (s:={s with heap:=h'}) e c d (by decide) ⟨x,H,I1,ru,⟨rfl,λys hy=>by rw[I.list_inj hy hq];exact hx⟩,st',λb hb=>(hf b hb).1⟩⟩
 done:=by
  intro X hP hw hK hc i pins s σ H E I hf st hg
  subst hP hw hK
  obtain⟨xs,hq,hx⟩:=hg
  obtain⟨its,rv,p,hz⟩:=I.list hq
  obtain⟨f0,f1,f2,f3,f4,f5⟩:=hf it (by simp)
  have hl:=rv.length
  exact wpAny_pyNext_list_end (I.ok.hd hc) st p.isList (by simp;omega) λh' eb=>⟨rfl,I.turned (t':=s.toks) (λb o hb e=>eb b o hb e) f0 f1 f3 f4 f5⟩
 self:=λ_ _ _ _ _ st h=>wpAny_pyIter_listiter st h
theorem zym{P:Program}{w:World}{K:qC}{tg:Expr}(a it:Addr):Turn P w K tg (Itt K a) [it] it (λi h=>h.IsTupleIter it a i) where
 mem:=by simp
 obj:=λi h st b hb=>by
  have e:b=it:=by simpa using hb
  subst e
  obtain⟨o,e,c,d⟩:=st
  exact⟨o,e,λv z=>by rw[d]at z;cases z⟩
 keep:=λi h h' st k=>st.at λo e=>k it (by simp) o e
 item:=by
  intro X hP hw hK hc i pins s σ H E I hf st hg
  subst hP hw hK
  obtain⟨xs,x,hq,hx⟩:=hg
  obtain⟨its,rv,p,hz⟩:=I.tuple hq
  obtain⟨u,hu,ru⟩:=rv.get hx
  obtain⟨f0,f1,f2,f3,f4,f5⟩:=hf it (by simp)
  refine wpAny_pyNext_tuple_item st (show s.heap.IsTuple a its.toArray from p) (x:=u) (by simpa using hu) λh' st' sb=>?_
  have I1:Inv X pins σ H {s with heap:=h'}:=I.turned (t':=s.toks) (λb o hb e=>(sb.2 b hb).trans e) f0 f1 f3 f4 f5
  obtain⟨o,e,c,d⟩:=id st'
  exact⟨u,rfl,zzx (s:={s with heap:=h'}) e c d (by decide) ⟨x,H,I1,ru,⟨rfl,λys hy=>by rw[I.tuple_inj hy hq];exact hx⟩,st',λb hb=>(hf b hb).1⟩⟩
 done:=by
  intro X hP hw hK hc i pins s σ H E I hf st hg
  subst hP hw hK
  obtain⟨xs,hq,hx⟩:=hg
  obtain⟨its,rv,p,hz⟩:=I.tuple hq
  obtain⟨f0,f1,f2,f3,f4,f5⟩:=hf it (by simp)
  have hl:=rv.length
  exact wpAny_pyNext_tuple_end (I.ok.hd hc) st (show s.heap.IsTuple a its.toArray from p) (by simp;omega) λh' eb=>⟨rfl,I.turned (t':=s.toks) (λb o hb e=>eb b o hb e) f0 f1 f3 f4 f5⟩
 self:=λ_ _ _ _ _ st h=>wpAny_pyIter_tupleiter st h
theorem zyn{P:Program}{w:World}{K:qC}{tg:Expr}(it:Addr)(lo:Int)(n:Nat):Turn P w K tg (Itr lo n) [it] it (λi h=>IsRangeIter h it (lo+(i:Nat) * 1) ((n:Int) - (i:Nat)) 1) where
 mem:=by simp
 obj:=λi h st b hb=>by
  have e:b=it:=by simpa using hb
  subst e
  exact⟨_,st,λv z=>by
   have z':Data.fields _=Data.cell v:=z
   cases z'⟩
 keep:=λi h h' st k=>k it (by simp) _ st
 item:=by
  intro X hP hw hK hc i pins s σ H E I hf st hg
  subst hP hw hK
  obtain⟨f0,f1,f2,f3,f4,f5⟩:=hf it (by simp)
  have W:=Walks.range (prog:=X.prog) (w:=X.w) (I.ok.hd hc) it lo 1 n
  refine W.item i s _ _ hg st λv h' tk hv st' kk=>?_
  obtain⟨t,rfl⟩:=hv
  have I1:Inv X pins σ H {s with heap:=h',toks:=tk}:=I.turned (λb o hb e=>kk b o (by simpa using hb) e) f0 f1 f3 f4 f5
  refine⟨_,rfl,zzx (s:={s with heap:=h',toks:=tk}) (n:="range_iterator") st' rfl rfl (by decide) ⟨.int (lo+i),H,I1,⟨t,?_⟩,⟨rfl,rfl⟩,st',λb hb=>(hf b hb).1⟩⟩
  rw[Int.mul_one]
 done:=by
  intro X hP hw hK hc i pins s σ H E I hf st hg
  subst hP hw hK
  obtain⟨f0,f1,f2,f3,f4,f5⟩:=hf it (by simp)
  exact wpAny_pyNext_range_end (I.ok.hd hc) st (by have:n<=i:=hg;omega) λh' eb=>⟨rfl,I.turned (t':=s.toks) (λb o hb e=>eb b o hb e) f0 f1 f3 f4 f5⟩
 self:=λ_ _ _ _ _ st h=>wpAny_pyIter_rangeiter st h
section
variable{X:Cx}{tg:Expr}
theorem zaeu{pins:List (Addr×Obj)}{σ:St}{H:Hp}{s:Shared}{R:It->Hp->Prop}{E:Value->Shared->Prop}{lo hi:Int}{t u v:Tok}{tk:Nat}(I:Inv X pins σ H s)(h1:-(2 ^ 62)<=lo)(h2:lo<2 ^ 62)(h3:-(2 ^ 62)<=hi)(h4:hi<2 ^ 62)
  (q:R (Itr lo (hi - lo).toNat) H):wpAny (model X.prog X.w) X.A (pyIter (.ref s.heap.objs.size)) (PIE X pins σ tg R) E {s with heap:=s.heap.push {cls:=.type "range",data:=.fields #[.int lo t,.int hi u,.int 1 v]},toks:=tk}:=by
 refine wpAny_pyIter_range (IsRange.new ..) (small_one h1 h2 h3 h4) ?_
 have I1:Inv X pins σ H {s with heap:=s.heap.push {cls:=.type "range",data:=.fields #[.int lo t,.int hi u,.int 1 v]},toks:=tk}:=I.kept λb o e=>qL _ e
 refine⟨(s.heap.push {cls:=.type "range",data:=.fields #[.int lo t,.int hi u,.int 1 v]}).objs.size,[(s.heap.push {cls:=.type "range",data:=.fields #[.int lo t,.int hi u,.int 1 v]}).objs.size],_,_,H,rfl,
  I1.kept (t':=tk) λb o e=>qL _ e,zyn _ lo (hi - lo).toNat,?_,λb hb=>?_,q⟩
 ·have e1:lo+((0:Nat):Int) * 1=lo:=by simp
  have e2:(((hi - lo).toNat:Nat):Int) - ((0:Nat):Int)=Builtin.Range.rangeSize lo hi 1:=by rw[rangeSize_one];split<;>omega
  show IsRangeIter _ _ (lo+((0:Nat):Int) * 1) ((((hi - lo).toNat:Nat):Int) - ((0:Nat):Int)) 1
  rw[e1,e2]
  exact qg _ rfl
 ·have e:b=(s.heap.push {cls:=.type "range",data:=.fields #[.int lo t,.int hi u,.int 1 v]}).objs.size:=by simpa using hb
  subst e
  exact I1.fpOk (qK _) (I1.hok.fresh (qK _))
noncomputable def iRng1(ta:TA):TI:=λσ H R=>ta σ H λvs H1=>∃j:Int,vs=[.int j]/\-(2 ^ 62)<=j/\j<2 ^ 62/\R (Itr 0 j.toNat) H1
theorem zzz{a:Expr}{ta:TA}{p pos:Pos}(hg:Gl X "range")(hm:X.mg "range"=none)(ha:PA X [a] ta)(hs:starEach [a] X.env=[(false,eval a X.env)]:=by rfl):PI X tg (.Call (.Name "range" p) [a] [] pos) (iRng1 ta):=by
 intro pins s σ H R I h
 refine Call_ (zrs I hg hm boot_range (qBC (thn (ha pos pins s σ H _ I h) λus s1 ⟨vs,H1,I1,r1,q1⟩=>?_) hs rfl))
 obtain⟨j,e,q1,q2,q⟩:=q1
 subst e
 cases r1 with
 | cons r rr=>
  cases rr
  obtain⟨t,rfl⟩:=r
  exact call_range_1 (zaeu I1 (by omega) (by omega) q1 q2 (by simpa using q))
noncomputable def tFor(wi:TI)(g:TG)(tb:TS):TS:=λD σ H=>wi σ H λJ H1=>∃W:Nat->Nat->St->Hp->Prop,(∃m,W 0 m σ H1)/\∀i m σ H,W i m σ H->
 (J.stop i H/\D.nx σ H)\/(J.go i H/\∃N:St->Hp->Prop,(∀σ' H',N σ' H'->∃m',m'<m/\W (i+1) m' σ' H')/\∀x H',J.yld i H x H'->g x σ H' λσ2 H2=>tb {D with nx:=N,ct:=N,bk:=D.nx} σ2 H2)
noncomputable def zrt(fp:List Addr)(h:Heap):List (Addr×Obj):=fp.filterMap λb=>(h.get? b).map λo=>(b,o)
theorem zib{fp:List Addr}{h:Heap}{b:Addr}{o:Obj}(hb:b∈fp)(e:h.get? b=some o):(b,o)∈zrt fp h:=qBV.mpr ⟨b,hb,by rw[e];rfl⟩
theorem zaaa{fp:List Addr}{h:Heap}{p:Addr×Obj}(hp:p∈zrt fp h):p.1∈fp/\h.get? p.1=some p.2:=by
 obtain⟨b,hb,e⟩:=qBV.mp hp
 cases q:h.get? b with
 | none=>rw[q]at e;cases e
 | some o=>
  rw[q]at e
  have e':(b,o)=p:=qR e
  subst e'
  exact⟨hb,q⟩
theorem Inv.pinned{pins:List (Addr×Obj)}{σ:St}{H:Hp}{s:Shared}{fp:List Addr}(I:Inv X pins σ H s)(hf:∀b∈fp,FpOk X pins H b)(ho:∀b∈fp,∃o,s.heap.get? b=some o/\∀v,o.data≠.cell v):Inv X (pins++zrt fp s.heap) σ H s:=
 I.pins_of λp hp=>(qh.mp hp).elim (λz=>I.pin p (qY _ z)) λz=>by
  obtain⟨hb,e⟩:=zaaa z
  obtain⟨f0,f1,f2,_⟩:=hf p.1 hb
  obtain⟨o,e',d⟩:=ho p.1 hb
  rw[e]at e';cases e'
  exact⟨e,f0,f1,f2,d⟩
theorem Inv.unpinned{pins pl:List (Addr×Obj)}{σ:St}{H:Hp}{s:Shared}(I:Inv X (pins++pl) σ H s):Inv X pins σ H s:=I.pins_of λp hp=>I.pin p (qY _ (qi _ hp))
theorem zanu{iter:Expr}{body:List Stmt}{wi:TI}{g:TG}{tb:TS}{pos:Pos}(hp:PassesOwn (model X.prog X.w) X.A X.env X.xe)(hc:X.calm=true)(hi:PI X tg iter wi)(hg:PG X tg g)(hb:PSs X body tb)
  (hs:∀x,foldedSetIterable iter X.env x=pure x:=by intro _;rfl):PS X (.For tg iter body [] pos) (tFor wi g tb):=by
 intro pins s σ H D I h
 refine wpAny_For (thn (hi pins s σ H _ I h) λv s1 h1=>thn h1 λitv s2 h2=>?_) hs
 obtain⟨it,fp,tn,J,H2,e,I2,T,st2,f2,W,⟨m0,w0⟩,turn⟩:=h2
 subst e
 have stat:∀{H':Hp},(∀b∈fp,H' b=none)->∀b∈fp,FpOk X pins H' b:=λhn b hb=>⟨hn b hb,(f2 b hb).2⟩
 refine codeAny_forLoop_any (λn s'=>∃i σ' H',Inv X pins σ' H' s'/\tn i s'.heap/\(∀b∈fp,H' b=none)/\W i n σ' H') ?_ m0 ⟨0,σ,H2,I2,st2,λb hb=>(f2 b hb).1,w0⟩
 rintro n s3 ⟨i,σ3,H3,I3,st3,fr3,w3⟩
 rcases turn i n σ3 H3 w3 with⟨stop,qn⟩|⟨go,N,hN,step⟩
 ·refine qBa hp (thn (T.done X rfl rfl rfl hc i pins s3 σ3 H3 X.xe I3 (stat fr3) st3 stop) λr s4 ⟨hr,I4⟩=>?_)
  subst hr
  exact qCe ⟨σ3,H3,I4,qn⟩
 ·refine qBa hp (thn (T.item X rfl rfl rfl hc i pins s3 σ3 H3 X.xe I3 (stat fr3) st3 go) λr s4 ⟨u,hr,h4⟩=>?_)
  subst hr
  refine qBa hp (thn h4 λ_ s5 ⟨x,H5,I5,r5,y5,st5,fr5⟩=>?_)
  have I5':=I5.pinned (stat fr5) (T.obj _ _ st5)
  refine qBa hp (thn (hg _ s5 σ3 H5 x u _ I5' r5 (step x H5 y5)) λ_ s6 ⟨σ6,H6,I6,q6⟩=>?_)
  refine qBa hp (thn (hb _ s6 σ6 H6 _ I6 q6) λf s7 q7=>?_)
  have again:∀{σ7:St}{H7:Hp},Inv X (pins++zrt fp s5.heap) σ7 H7 s7->N σ7 H7->∃m,m<n/\∃i σ' H',Inv X pins σ' H' s7/\tn i s7.heap/\(∀b∈fp,H' b=none)/\W i m σ' H':=λ{σ7 H7} I7 n7=>by
   obtain⟨m',hm,w7⟩:=hN σ7 H7 n7
   refine⟨m',hm,i+1,σ7,H7,I7.unpinned,T.keep _ _ _ st5 λb hb o e=>(I7.pin (b,o) (qY _ (qY _ (zib hb e)))).1,λb hb=>?_,w7⟩
   obtain⟨o,e,d⟩:=T.obj _ _ st5 b hb
   exact(I7.pin (b,o) (qY _ (qY _ (zib hb e)))).2.1
  cases f with
  | next=>obtain⟨σ7,H7,I7,n7⟩:=q7;exact again I7 n7
  | cont=>obtain⟨σ7,H7,I7,n7⟩:=q7;exact again I7 n7
  | brk=>obtain⟨σ7,H7,I7,q7⟩:=q7;exact⟨σ7,H7,I7.unpinned,q7⟩
  | ret v=>obtain⟨x7,σ7,H7,I7,r7,q7⟩:=q7;exact⟨x7,σ7,H7,I7.unpinned,r7,q7⟩
end
noncomputable abbrev R2:=V->V->Hp->VK->Prop
noncomputable def OpR(X:Cx)(f:Value->Value->Sem Value)(r:R2):Prop:=
 ∀(pins:List (Addr×Obj))(s:Shared)(σ:St)(H:Hp)(x y:V)(v u:Value)(Q:VK),Inv X pins σ H s->RelV x v->RelV y u->r x y H Q->
  wpAny (model X.prog X.w) X.A (f v u) (EP X pins σ Q) X.xe s
noncomputable def CallR(X:Cx)(f:Value)(r:List V->Hp->VK->Prop):Prop:=
 ∀(pins:List (Addr×Obj))(s:Shared)(σ:St)(H:Hp)(xs:List V)(us:List Value)(Q:VK),Inv X pins σ H s->Vals xs us->r xs H Q->
  wpAny (model X.prog X.w) X.A (call f us) (EP X pins σ Q) X.xe s
noncomputable def TruR(X:Cx)(r:V->Hp->(Bool->Hp->Prop)->Prop):Prop:=
 ∀(pins:List (Addr×Obj))(s:Shared)(σ:St)(H:Hp)(x:V)(v:Value)(Q:Bool->Hp->Prop),Inv X pins σ H s->RelV x v->r x H Q->
  wpAny (model X.prog X.w) X.A (truthy v) (TP X pins σ Q) X.xe s
noncomputable def tOp(r:R2)(ta tb:TE):TE:=λσ H Q=>ta σ H λx H1=>tb σ H1 λy H2=>r x y H2 Q
noncomputable def rI(C:Int->Int->Prop)(g:Int->Int->V):R2:=λx y H Q=>∃i j,x=.int i/\y=.int j/\C i j/\Q (g i j) H
noncomputable def rI0(g:Int->Int->V):R2:=λx y H Q=>∃i j,x=.int i/\y=.int j/\Q (g i j) H
section
variable{X:Cx}{a b c:Expr}{ta tb tc:TE}{pos:Pos}
theorem binT(ha:PE X a ta)(hb:PE X b tb){pins:List (Addr×Obj)}{s:Shared}{σ:St}{H:Hp}{R:V->V->Hp->Prop}(I:Inv X pins σ H s)
  (h:ta σ H λx H1=>tb σ H1 λy H2=>R x y H2){Q:Value->Shared->Prop}{f:Value->Value->Sem Value}
  (hf:∀v u s2 x y H2,Inv X pins σ H2 s2->RelV x v->RelV y u->R x y H2->wpAny (model X.prog X.w) X.A (f v u) Q X.xe s2) :
  wpAny (model X.prog X.w) X.A (eval a X.env) (λv s₁=>wpAny (model X.prog X.w) X.A (eval b X.env) (λu s₂=>wpAny (model X.prog X.w) X.A (f v u) Q X.xe s₂) X.xe s₁) X.xe s:=by
 refine thn (ha pins s σ H _ I h) λv s1 ⟨x,H1,I1,r1,q1⟩=>?_
 refine thn (hb pins s1 σ H1 _ I1 q1) λu s2 ⟨y,H2,I2,r2,q2⟩=>?_
 exact hf v u s2 x y H2 I2 r1 r2 q2
theorem zard{op:Operator}{r:R2}(ho:OpR X (binaryOp op) r)(ha:PE X a ta)(hb:PE X b tb):PE X (.BinOp a op b pos) (tOp r ta tb):=by
 intro pins s σ H Q I h
 exact wpAny_BinOp (binT ha hb I h λv u s2 x y H2 I2 rx ry q=>ho pins s2 σ H2 x y v u Q I2 rx ry q)
theorem opI{f:Value->Value->Sem Value}{C:Int->Int->Prop}{g:Int->Int->Int}
  (rule:∀(i j:Int)(t u:Tok)(s:Shared)(Q:Value->Shared->Prop)(E:Value->Shared->Prop),C i j->Q (.int (g i j) s.toks) {s with toks:=s.toks+1}->wpAny (model X.prog X.w) X.A (f (.int i t) (.int j u)) Q E s) :
  OpR X f (rI C λi j=>.int (g i j)):=by
 intro pins s σ H x y v u Q I rx ry h
 obtain⟨i,j,rfl,rfl,hc,q⟩:=h
 obtain⟨t,rfl⟩:=rx
 obtain⟨t',rfl⟩:=ry
 exact rule i j t t' s _ _ hc ⟨.int (g i j),H,I.tok _,⟨_,rfl⟩,q⟩
theorem opI0{f:Value->Value->Sem Value}{g:Int->Int->Int}
  (rule:∀(i j:Int)(t u:Tok)(s:Shared)(Q:Value->Shared->Prop)(E:Value->Shared->Prop),Q (.int (g i j) s.toks) {s with toks:=s.toks+1}->wpAny (model X.prog X.w) X.A (f (.int i t) (.int j u)) Q E s) :
  OpR X f (rI0 λi j=>.int (g i j)):=by
 intro pins s σ H x y v u Q I rx ry h
 obtain⟨i,j,rfl,rfl,q⟩:=h
 obtain⟨t,rfl⟩:=rx
 obtain⟨t',rfl⟩:=ry
 exact rule i j t t' s _ _ ⟨.int (g i j),H,I.tok _,⟨_,rfl⟩,q⟩
theorem opB0{f:Value->Value->Sem Value}{g:Int->Int->Bool}
  (rule:∀(i j:Int) (t u:Tok) (s:Shared) (Q:Value->Shared->Prop) (E:Value->Shared->Prop),Q (.bool (g i j)) s->wpAny (model X.prog X.w) X.A (f (.int i t) (.int j u)) Q E s) :
  OpR X f (rI0 λi j=>.bl (g i j)):=by
 intro pins s σ H x y v u Q I rx ry h
 obtain⟨i,j,rfl,rfl,q⟩:=h
 obtain⟨t,rfl⟩:=rx
 obtain⟨t',rfl⟩:=ry
 exact rule i j t t' s _ _ ⟨.bl (g i j),H,I,rfl,q⟩
noncomputable def CDiv(i j:Int):Prop:=0<j/\j<1073741824
noncomputable def CPow(i j:Int):Prop:=0<=j/\j<=1000000/\i.natAbs<2 ^ 64
noncomputable def CMul(i j:Int):Prop:=(-(2 ^ 64)<i/\i<2 ^ 64)\/(-(2 ^ 64)<j/\j<2 ^ 64)
theorem CMul.ok{i j:Int}(h:CMul i j):IntMulOk i j:=by
 rcases h with⟨h1,h2⟩|⟨h1,h2⟩
 ·exact .of_left (intBits_le_64 h1 h2)
 ·exact .of_right (intBits_le_64 h1 h2)
theorem zanv:OpR X (binaryOp .Add) (rI0 λi j=>.int (i+j)):=opI0 λ_ _ _ _ _ _ _ q=>add_int q
theorem zanw:OpR X (binaryOp .Mult) (rI CMul λi j=>.int (i * j)):=opI λ_ _ _ _ _ _ _ hc q=>mul_int q hc.ok
theorem zaab:OpR X (binaryOp .FloorDiv) (rI CDiv λi j=>.int (i / j)):=opI λi j _ _ _ _ _ hc q=>by
 have h1:(0:Int)<j:=hc.1
 have h2:j<1073741824:=hc.2
 exact floordiv_int (by omega) (by rw[Int.fdiv_eq_ediv_of_nonneg i (by omega)];exact q) (.inl (PyProof.noPylong_small (by omega)))
theorem zmc:OpR X (binaryOp .Mod) (rI (λ_ j=>0<j) λi j=>.int (i % j)):=opI λi j _ _ _ _ _ hc q=>by
 have h1:(0:Int)<j:=hc
 exact mod_int' (by omega) (by rw[Int.fmod_eq_emod_of_nonneg i (by omega)];exact q)
theorem zanx:OpR X (binaryOp .Pow) (rI CPow λi j=>.int (i ^ j.toNat)):=opI λ_ _ _ _ _ _ _ hc q=>pow_int_small hc.1 hc.2.1 hc.2.2 q
end
noncomputable def scal:V->V->Bool
 | .non,.non=>true|.non,.int _=>true|.int _,.non=>true|.non,.bl _=>true|.bl _,.non=>true|.non,.str _=>true|.str _,.non=>true
 | .int _,.int _=>true|.bl _,.bl _=>true|.str _,.str _=>true|.byt _,.byt _=>true
 | .int _,.str _=>true|.str _,.int _=>true|.bl _,.str _=>true|.str _,.bl _=>true
 | _,_=>false
noncomputable def rEq:R2:=λx y H Q=>scal x y=true/\Q (.bl (decide (x=y))) H
noncomputable def rNe:R2:=λx y H Q=>scal x y=true/\Q (.bl (!decide (x=y))) H
theorem zui{i j:Int}:decide (V.int i=V.int j)=(i==j):=by
 rw[qAc]
 simp
theorem zaac{i j:Bool}:decide (V.bl i=V.bl j)=(i==j):=by
 rw[qAc]
 simp
theorem zuj{i j:Str}:decide (V.str i=V.str j)=(i==j):=by
 rw[qAc]
 simp
theorem zaad{i j:Array UInt8}:decide (V.byt i=V.byt j)=(i.toList==j.toList):=by
 rw[qAc]
 cases i
 cases j
 simp
section
variable{X:Cx}{a b c:Expr}{ta tb tc:TE}{pos:Pos}
theorem zbq{pins:List (Addr×Obj)}{σ:St}{H:Hp}{s:Shared}{Q:VK}{k k':Bool}(I:Inv X pins σ H s)(q:Q (.bl k) H)(e:k=k'):EP X pins σ Q (.bool k') s:=by
 subst e
 exact⟨.bl k,H,I,rfl,q⟩
theorem zare:OpR X (compareOp .Eq) rEq:=by
 intro pins s σ H x y v u Q I rx ry h
 obtain⟨hs,q⟩:=h
 cases x with
 | non=>
  cases rx
  cases y with
  | non=>cases ry;exact PySem.EqNone.eq_none_none (zbq I q (by simp))
  | bl j=>cases ry;exact PySem.EqNone.eq_none_bool (zbq I q (by simp))
  | int j=>obtain⟨t',rfl⟩:=ry;exact PySem.EqNone.eq_none_int (zbq I q (by simp))
  | str j=>obtain⟨t',rfl⟩:=ry;exact PySem.EqNone.eq_none_str (zbq I q (by simp))
  | _=>exact absurd (show false=true from hs) qI
 | bl i=>
  cases rx
  cases y with
  | non=>cases ry;exact PySem.EqNone.eq_bool_none (zbq I q (by simp))
  | bl j=>cases ry;exact eq_bool (zbq I q zaac)
  | str j=>obtain⟨t',rfl⟩:=ry;exact PySem.EqMixed.eq_bool_str (zbq I q (by simp))
  | _=>exact absurd (show false=true from hs) qI
 | int i=>
  obtain⟨t,rfl⟩:=rx
  cases y with
  | non=>cases ry;exact PySem.EqNone.eq_int_none (zbq I q (by simp))
  | int j=>obtain⟨t',rfl⟩:=ry;exact eq_int (zbq I q zui)
  | str j=>obtain⟨t',rfl⟩:=ry;exact PySem.EqMixed.eq_int_str (zbq I q (by simp))
  | _=>exact absurd (show false=true from hs) qI
 | str i=>
  obtain⟨t,rfl⟩:=rx
  cases y with
  | non=>cases ry;exact PySem.EqNone.eq_str_none (zbq I q (by simp))
  | bl j=>cases ry;exact PySem.EqMixed.eq_str_bool (zbq I q (by simp))
  | int j=>obtain⟨t',rfl⟩:=ry;exact PySem.EqMixed.eq_str_int (zbq I q (by simp))
  | str j=>obtain⟨t',rfl⟩:=ry;exact eq_str (zbq I q zuj)
  | _=>exact absurd (show false=true from hs) qI
 | byt i=>
  obtain⟨t,rfl⟩:=rx
  cases y with
  | byt j=>obtain⟨t',rfl⟩:=ry;exact PySem.W.eq_bytes (zbq I q zaad)
  | _=>exact absurd (show false=true from hs) qI
 | _=>cases y<;>exact absurd (show false=true from hs) qI
theorem zarf:OpR X (compareOp .NotEq) rNe:=by
 intro pins s σ H x y v u Q I rx ry h
 obtain⟨hs,q⟩:=h
 cases x with
 | non=>
  cases rx
  cases y with
  | non=>cases ry;exact PySem.EqNone.ne_none_none (zbq I q (by simp))
  | bl j=>cases ry;exact PySem.EqNone.ne_none_bool (zbq I q (by simp))
  | int j=>obtain⟨t',rfl⟩:=ry;exact PySem.EqNone.ne_none_int (zbq I q (by simp))
  | str j=>obtain⟨t',rfl⟩:=ry;exact PySem.EqNone.ne_none_str (zbq I q (by simp))
  | _=>exact absurd (show false=true from hs) qI
 | bl i=>
  cases rx
  cases y with
  | non=>cases ry;exact PySem.EqNone.ne_bool_none (zbq I q (by simp))
  | bl j=>cases ry;exact ne_bool (zbq I q (congrArg not zaac))
  | str j=>obtain⟨t',rfl⟩:=ry;exact PySem.EqMixed.ne_bool_str (zbq I q (by simp))
  | _=>exact absurd (show false=true from hs) qI
 | int i=>
  obtain⟨t,rfl⟩:=rx
  cases y with
  | non=>cases ry;exact PySem.EqNone.ne_int_none (zbq I q (by simp))
  | int j=>obtain⟨t',rfl⟩:=ry;exact ne_int (zbq I q (congrArg not zui))
  | str j=>obtain⟨t',rfl⟩:=ry;exact PySem.EqMixed.ne_int_str (zbq I q (by simp))
  | _=>exact absurd (show false=true from hs) qI
 | str i=>
  obtain⟨t,rfl⟩:=rx
  cases y with
  | non=>cases ry;exact PySem.EqNone.ne_str_none (zbq I q (by simp))
  | bl j=>cases ry;exact PySem.EqMixed.ne_str_bool (zbq I q (by simp))
  | int j=>obtain⟨t',rfl⟩:=ry;exact PySem.EqMixed.ne_str_int (zbq I q (by simp))
  | str j=>obtain⟨t',rfl⟩:=ry;exact ne_str (zbq I q (congrArg not zuj))
  | _=>exact absurd (show false=true from hs) qI
 | byt i=>
  obtain⟨t,rfl⟩:=rx
  cases y with
  | byt j=>obtain⟨t',rfl⟩:=ry;exact PySem.W.ne_bytes (zbq I q (congrArg not zaad))
  | _=>exact absurd (show false=true from hs) qI
 | _=>cases y<;>exact absurd (show false=true from hs) qI
theorem zany:OpR X (compareOp .Lt) (rI0 λi j=>.bl (decide (i<j))):=opB0 λ_ _ _ _ _ _ _ q=>lt_int q
theorem zarg:OpR X (compareOp .Gt) (rI0 λi j=>.bl (decide (j<i))):=opB0 λ_ _ _ _ _ _ _ q=>gt_int q
theorem OpR.or{f:Value->Value->Sem Value}{r r':R2}(h:OpR X f r)(h':OpR X f r'):OpR X f (λx y H Q=>r x y H Q\/r' x y H Q):=by
 intro pins s σ H x y v u Q I rx ry q
 rcases q with q|q
 ·exact h pins s σ H x y v u Q I rx ry q
 ·exact h' pins s σ H x y v u Q I rx ry q
theorem ziq(b:Expr){op:CmpOp}(h:op≠.In:=by decide)(h2:op≠.NotIn:=by decide):behindInMarks op b=false:=by
 have e1:(op==CmpOp.In)=false:=by cases op<;>first|rfl|exact absurd rfl h
 have e2:(op==CmpOp.NotIn)=false:=by cases op<;>first|rfl|exact absurd rfl h2
 cases b<;>simp[behindInMarks,e1,e2]
theorem zaju{op:CmpOp}{r:R2}(ho:OpR X (compareOp op) r)(ha:PE X a ta)(hb:PE X b tb)(hm:behindInMarks op b=false):PE X (.Compare a [op] [b] pos) (tOp r ta tb):=by
 intro pins s σ H Q I h
 exact wpAny_Compare1 (binT ha hb I h λv u s2 x y H2 I2 rx ry q=>ho pins s2 σ H2 x y v u Q I2 rx ry q) hm
noncomputable def tTest(t:TE):TT:=λσ H Q=>t σ H λx H'=>∃k,x=.bl k/\Q k H'
theorem zajv{op:CmpOp}{r:R2}(ho:OpR X (compareOp op) r)(ha:PE X a ta)(hb:PE X b tb)(hm:behindInMarks op b=false):PT X (.Compare a [op] [b] pos) (tTest (tOp r ta tb)):=by
 intro pins s σ H Q I h
 refine wpAny_isTrue_Compare1 (thn (ha pins s σ H _ I h) λv s1 ⟨x,H1,I1,r1,q1⟩=>thn (hb pins s1 σ H1 _ I1 q1) λu s2 ⟨y,H2,I2,r2,q2⟩=>
  thn (ho pins s2 σ H2 x y v u _ I2 r1 r2 q2) λc s3 ⟨z,H3,I3,r3,k,e,q3⟩=>?_) hm
 subst e
 cases r3
 exact qAp ⟨H3,I3,q3⟩
noncomputable def TruV(K:qC)(x:V)(H:Hp)(k:Bool):Prop:=
 match x with
 | .non=>k=false
 | .bl b=>k=b
 | .int i=>k=(i != 0)
 | .str y=>y.length<=qS/\k=((y.length:Int) != 0)
 | .byt y=>y.size<=qS/\k=((y.size:Int) != 0)
 | .ref p=>(∃xs,SqL K H p xs/\k=!xs.isEmpty)\/(∃xs,SqT K H p xs/\k=!xs.isEmpty)\/∃kvs,H p=some (.dK kvs)/\k=!kvs.isEmpty
 | _=>False
theorem zyo{κ:Type}{kvs:List (κ×V)}{vs:List (κ×Value)}(r:KV kvs vs):(!vs.isEmpty)=!kvs.isEmpty:=by
 cases r<;>rfl
theorem zpi{xs:List V}{its:List Value}(r:Vals xs its):(!its.toArray.isEmpty)=!xs.isEmpty:=by
 cases r<;>simp
theorem zpj:(qS:Nat)<2 ^ 63:=by rw[qCf];decide
theorem zanz:TruR X (λx H Q=>∃k,TruV X.K x H k/\Q k H):=by
 intro pins s σ H x v Q I rx h
 obtain⟨k,e,q⟩:=h
 have hl:=zpj
 have hs:qS=16777216:=qCf
 cases x with
 | non=>
  cases rx
  have e':k=false:=e
  subst e'
  exact truthy_none ⟨H,I,q⟩
 | bl b=>
  cases rx
  have e':k=b:=e
  subst e'
  exact qAp ⟨H,I,q⟩
 | int i=>
  obtain⟨t,rfl⟩:=rx
  have e':k=(i != 0):=e
  subst e'
  exact PySem.P.truthy_int ⟨H,I,q⟩
 | str y=>
  obtain⟨t,rfl⟩:=rx
  obtain⟨hy,e'⟩:y.length<=qS/\k=((y.length:Int) != 0):=e
  subst e'
  exact PySem.P.truthy_str (by omega) ⟨H,I.tok _,q⟩
 | byt y=>
  obtain⟨t,rfl⟩:=rx
  obtain⟨hy,e'⟩:y.size<=qS/\k=((y.size:Int) != 0):=e
  subst e'
  exact PySem.W.truthy_bytes (by omega) ⟨H,I.tok _,q⟩
 | ref p=>
  cases rx
  have e':(∃xs,SqL X.K H p xs/\k=!xs.isEmpty)\/(∃xs,SqT X.K H p xs/\k=!xs.isEmpty)\/∃kvs,H p=some (.dK kvs)/\k=!kvs.isEmpty:=e
  rcases e' with⟨xs,hx,e'⟩|⟨xs,hx,e'⟩|⟨kvs,hx,e'⟩
  ·subst e'
   obtain⟨its,r,pl,hz⟩:=I.list hx
   have hlen:=r.length
   exact wpAny_truthy_list pl.isList (by simp only[qO];omega) ⟨H,I.tok _,by rw[zpi r];exact q⟩
  ·subst e'
   obtain⟨its,r,pl,hz⟩:=I.tuple hx
   have hlen:=r.length
   exact truthy_tuple pl (by simp only[qO];omega) ⟨H,I.tok _,by rw[zpi r];exact q⟩
  ·subst e'
   obtain⟨hz,hS,vs,r,m⟩:kvs.length<=qS/\(p==sysModules)=false/\∃vs,KV kvs vs/\s.heap.DictOf (zar X.prog X.w) p vs:=I.hok p _ hx
   have hlen:kvs.length=vs.length:=qAy r
   exact wpAny_truthy_dict hS m (by omega) ⟨H,I.tok _,by rw[zyo r];exact q⟩
 | _=>exact(show False from e).elim
theorem zaev(ha:PE X a ta)(he:∀whole,isTrue a X.env whole=(do let v <- whole;standAt a.pos;holding [v] (truthy v))) :
  PT X a (λσ H Q=>ta σ H λx H'=>∃k,TruV X.K x H' k/\Q k H'):=by
 intro pins s σ H Q I h
 exact isTrue_plain (thn (ha pins s σ H _ I h) λv s1 ⟨x,H1,I1,r1,q1⟩=>zanz pins s1 σ H1 x v Q I1 r1 q1) (he _)
theorem zyp:OpR X (binaryOp .Add) (λx y H Q=>∃i j,x=.str i/\y=.str j/\i.length+j.length<=qS/\Q (.str (i++j)) H):=by
 intro pins s σ H x y v u Q I rx ry h
 obtain⟨i,j,rfl,rfl,hz,q⟩:=h
 obtain⟨t,rfl⟩:=rx
 obtain⟨t',rfl⟩:=ry
 exact add_str (λt' tk=>⟨.str (i++j),H,I.tok _,⟨_,rfl⟩,q⟩) hz
theorem zru{x:V}{us:List Value}(r:Vals [x] us):∃u,us=[u]/\RelV x u:=by
 cases r with
 | cons r1 r2=>cases r2;exact⟨_,rfl,r1⟩
theorem zajw{x y:V}{us:List Value}(r:Vals [x,y] us):∃u w',us=[u,w']/\RelV x u/\RelV y w':=by
 cases r with
 | cons r1 r2=>
  cases r2 with
  | cons r3 r4=>cases r4;exact⟨_,_,rfl,r1,r3⟩
theorem zaew:CallR X (.builtin "abs") (λxs H Q=>∃i,xs=[.int i]/\Q (.int (if i<0 then -i else i)) H):=by
 intro pins s σ H xs us Q I r h
 obtain⟨i,rfl,q⟩:=h
 obtain⟨u,rfl,t,rfl⟩:=zru r
 exact call_abs_int λu tk=>⟨.int (if i<0 then -i else i),H,I.tok _,⟨_,rfl⟩,q⟩
theorem zrv(hc:X.calm=true):CallR X (.builtin "min") (λxs H Q=>∃i j,xs=[.int i,.int j]/\Q (.int (if j<i then j else i)) H):=by
 intro pins s σ H xs us Q I r h
 obtain⟨i,j,rfl,q⟩:=h
 obtain⟨u,w',rfl,⟨t,rfl⟩,⟨t',rfl⟩⟩:=zajw r
 refine min_two_ints (I.ok.hd hc) λh' tk k=>⟨_,H,I.kept k,?_,q⟩
 by_cases hj:j<i
 ·rw[if_pos hj,if_pos hj];exact⟨_,rfl⟩
 ·rw[if_neg hj,if_neg hj];exact⟨_,rfl⟩
noncomputable def LenV(K:qC)(x:V)(H:Hp)(n:Nat):Prop:=
 match x with
 | .str y=>y.length<=qS/\n=y.length
 | .byt y=>y.size<=qS/\n=y.size
 | .ref p=>(∃xs,SqL K H p xs/\n=xs.length)\/∃xs,SqT K H p xs/\n=xs.length
 | _=>False
theorem zaex:CallR X (.builtin "len") (λxs H Q=>∃x n,xs=[x]/\LenV X.K x H n/\Q (.int n) H):=by
 intro pins s σ H xs us Q I r h
 obtain⟨x,n,rfl,e,q⟩:=h
 obtain⟨u,rfl,rx⟩:=zru r
 have hl:=zpj
 have hs:qS=16777216:=qCf
 cases x with
 | str y=>
  obtain⟨t,rfl⟩:=rx
  obtain⟨hy,e'⟩:y.length<=qS/\n=y.length:=e
  subst e'
  exact len_str (by omega) ⟨.int _,H,I.tok _,⟨_,rfl⟩,q⟩
 | byt y=>
  obtain⟨t,rfl⟩:=rx
  obtain⟨hy,e'⟩:y.size<=qS/\n=y.size:=e
  subst e'
  exact PySem.W.len_bytes (by omega) ⟨.int _,H,I.tok _,⟨_,rfl⟩,q⟩
 | ref p=>
  cases rx
  have e':(∃xs,SqL X.K H p xs/\n=xs.length)\/∃xs,SqT X.K H p xs/\n=xs.length:=e
  rcases e' with⟨xs,hx,e'⟩|⟨xs,hx,e'⟩
  ·subst e'
   obtain⟨its,r',pl,hz⟩:=I.list hx
   have hlen:=r'.length
   exact Calls.call_len_list pl.isList (by simp only[qO];omega) ⟨.int xs.length,H,I.tok _,⟨_,by simp only[qO];rw[hlen]⟩,q⟩
  ·subst e'
   obtain⟨its,r',pl,hz⟩:=I.tuple hx
   have hlen:=r'.length
   exact len_tuple pl (by simp only[qO];omega) ⟨.int xs.length,H,I.tok _,⟨_,by simp only[qO];rw[hlen]⟩,q⟩
 | _=>exact(show False from e).elim
end
set_option genInjectivity false in
structure ObjM(h:Heap)(x dx C:Addr)(mA:Str->Option Value):Prop where
 obj:h.get? x=some (PySem.W.instObj C dx)
 ns:h.Ns1 dx mA
 ne:dx≠x
theorem zaae{h:Heap}{dx:Addr}{mA:Str->Option Value}(n:h.Ns1 dx mA):∃od,h.get? dx=some od/\∀name,PySem.W.lookIn name od=some (mA name):=by
 obtain⟨o,es,ep,ho,hd,hk,_,hm⟩:=n
 refine⟨o,ho,λname=>?_⟩
 have e:=hm name
 unfold nsFind findBy at e
 rw[<- Array.find?_toList]at e
 unfold PySem.W.lookIn
 rw[hd]
 dsimp only
 split
 ·rename_i y q
  rw[q]at e
  exact congrArg some e
 ·rename_i q
  rw[q]at e
  have a:es.toList.any (·.refKey)=false:=by
   rw[qB3]
   intro y hy
   obtain⟨z,t,hkey⟩:=hk y (qBJ.mp hy)
   simp[DictEntry.refKey,hkey]
  have a':¬es.toList.any (·.refKey)=true:=by rw[a];exact qI
  rw[if_neg a']
  exact congrArg some e
theorem ObjM.look{h:Heap}{x dx C:Addr}{mA:Str->Option Value}(I:ObjM h x dx C mA):∃od,PySem.W.InstAt h x (PySem.W.instObj C dx) C (some od)/\∀name,PySem.W.lookIn name od=some (mA name):=
 let⟨od,ho,hl⟩:=zaae I.ns
 ⟨od,⟨I.obj,rfl,rfl,ho⟩,hl⟩
theorem RelO.some_of{v:V}{o:Option Value}(r:RelO (some v) o):∃u,o=some u/\RelV v u:=by
 cases o with
 | none=>exact(show False from r).elim
 | some u=>exact⟨u,rfl,r⟩
section
variable{P:Program}{w:World}{H H':Hp}{h h':Heap}{a C dx:Addr}{fs fs':List (Str×V)}
theorem zajx(hok:HOk P w H h)(e:H a=some (.ins C dx fs)):∃mA,ObjM h a dx C mA/\(∀f,RelO (fs.lookup f) (mA f))/\PySem.Within mA (fs.map (·.1))/\fs.length<=1000/\H dx=some (.own a):=by
 obtain⟨d,z,ne,ob,mA,n,r,q⟩:=(show zdf P w H h a (.ins C dx fs)from hok a _ e)
 exact⟨mA,⟨ob,n,ne⟩,r,q,z,d⟩
end
set_option genInjectivity false in
structure Cls(K:qC)(C:Addr):Prop where
 pg:PySem.W.plainGet K C Str.empty=true
 hd:PySem.W.hasDictIn K C=true
 po:PySem.W.plainOver K C=true
 sa:PySem.W.findIn K (.ref C) "__setattr__"=some (some (.builtin "object.__setattr__"))
theorem Cls.get{K:qC}{C:Addr}(c:Cls K C)(f:Str):PySem.W.plainGet K C f=true:=c.pg
set_option genInjectivity false in
set_option genInjectivity false in
section
variable{X:Cx}{pins:List (Addr×Obj)}{σ:St}{H:Hp}{s:Shared}{a C dx:Addr}{fs:List (Str×V)}{f:Str}{v:V}{A:Around}{E:Value->Shared->Prop}
end
section
variable{X:Cx}{pins:List (Addr×Obj)}{σ:St}{H:Hp}{s:Shared}{A:Around}{E:Value->Shared->Prop}{Q:Value->Shared->Prop}{c:Value}{b:Bool}
inductive TyOf(K:qC)(H:Hp):V->Value->Prop where
 | non:TyOf K H .non (.type "NoneType")
 | bl (x:Bool):TyOf K H (.bl x) (.type "bool")
 | int (i:Int):TyOf K H (.int i) (.type "int")
 | str (x:Str):TyOf K H (.str x) (.type "str")
 | flt (x:UInt64):TyOf K H (.flt x) (.type "float")
 | lst {a:Addr} {xs:List V} (e:H a=some (.lst xs)):TyOf K H (.ref a) (.type "list")
 | frz {a:Addr} {o:Obj} {xs:List V} (e:H a=some (.frz o (.lst xs))):TyOf K H (.ref a) (.type "list")
 | tup {a:Addr} {xs:List V} (e:H a=some (.tup xs)):TyOf K H (.ref a) (.type "tuple")
 | dK {a:Addr} {kvs:List (Key×V)} (e:H a=some (.dK kvs)):TyOf K H (.ref a) (.type "dict")
 | dT {a:Addr} {kvs:List (List Key×V)} (e:H a=some (.dT kvs)):TyOf K H (.ref a) (.type "dict")
 | ins {a C dx:Addr} {fs:List (Str×V)} (e:H a=some (.ins C dx fs)) (cl:Cls K C) (ha:PySem.W.findIn K (.ref C) "__class__"=some (some (.builtin "object.__class__")))
   (hn:PySem.W.specialIn K (.builtin "object.__class__") "__get__"=some (some (.builtin "getset_descriptor.__get__")))(htk:PySem.W.takesIn K (.builtin "object.__class__")=some true)
   (hm:PySem.W.mroIn K C (.type "object")=some true):TyOf K H (.ref a) (.ref C)
theorem zaaf {x:V} {u t:Value} (I:Inv X pins σ H s) (rx:RelV x u) (ty:TyOf X.K H x t) (e:PySem.W.kitOne X.K t c=some b) (h:∀tk,Q (.bool b) {s with toks:=tk}) :
  wpAny (model X.prog X.w) A (call (.builtin "isinstance") [u,c]) Q E s:=by
 cases ty with
 | non=>cases(show u=Value.none from rx);exact qAO PySem.W.kitx_none I.kIn True.intro e (λz=>nomatch z) h
 | bl y=>cases(show u=Value.bool y from rx);exact qAO PySem.W.kitx_bool I.kIn True.intro e (λz=>nomatch z) h
 | int i=>obtain⟨t,q⟩:=(show ∃t,u=Value.int i t from rx);cases q;exact qAO PySem.W.kitx_int I.kIn True.intro e (λz=>nomatch z) h
 | str y=>obtain⟨t,q⟩:=(show ∃t,u=Value.str y t from rx);cases q;exact qAO PySem.W.kitx_str I.kIn True.intro e (λz=>nomatch z) h
 | flt y=>obtain⟨t,q⟩:=(show ∃t,u=Value.float y t from rx);cases q;exact qAO PySem.W.kitx_float I.kIn True.intro e (λz=>nomatch z) h
 | @lst a xs ea=>
  cases(show u=Value.ref a from rx)
  obtain⟨_,_,n,_,h1⟩:=(show zdf X.prog X.w H s.heap a (.lst xs)from I.hok a _ ea)
  exact qAO qCn I.kIn ⟨_,h1,rfl⟩ e (λz=>nomatch z) h
 | @frz a ob xs ea=>
  cases(show u=Value.ref a from rx)
  obtain⟨_,_,_,n,_,h1⟩:=(show zdf X.prog X.w H s.heap a (.frz ob (.lst xs))from I.hok a _ ea)
  exact qAO qCn I.kIn ⟨_,h1,rfl⟩ e (λz=>nomatch z) h
 | @tup a xs ea=>
  cases(show u=Value.ref a from rx)
  obtain⟨_,_,_,p⟩:=(show zdf X.prog X.w H s.heap a (.tup xs)from I.hok a _ ea)
  obtain⟨o,h1,h2,_⟩:=p
  exact qAO PySem.W.kitx_tuple I.kIn ⟨o,h1,h2⟩ e (λz=>nomatch z) h
 | @dK a kvs ea=>
  cases(show u=Value.ref a from rx)
  obtain⟨_,_,vs,_,p⟩:=(show zdf X.prog X.w H s.heap a (.dK kvs)from I.hok a _ ea)
  obtain⟨o,es,ep,h1,h2,_⟩:=p
  exact qAO qCo I.kIn ⟨o,h1,h2.1⟩ e (λz=>nomatch z) h
 | @dT a kvs ea=>
  cases(show u=Value.ref a from rx)
  obtain⟨_,_,xs,_,o,es,ep,h1,h2,_⟩:=(show zdf X.prog X.w H s.heap a (.dT kvs)from I.hok a _ ea)
  exact qAO qCo I.kIn ⟨o,h1,h2.1⟩ e (λz=>nomatch z) h
 | @ins a C dx fs ea cl ha hn htk hm=>
  cases(show u=Value.ref a from rx)
  obtain⟨mA,O,_⟩:=zajx I.hok ea
  obtain⟨od,J,_⟩:=O.look
  exact qAO (PySem.W.kitx_own (cl.get _) cl.hd ha hn htk hm) I.kIn J e (λz=>nomatch z) h
end
set_option genInjectivity false in
structure Room(k:Nat)(A:Around):Prop where
 hd:A.handled=none
 dp:A.depth+3 * k+5<recursionLimit
 un:A.units+16 * k+200<cLine
 gd:A.guards=some []
theorem Room.mono{j k:Nat}{A:Around}(r:Room k A)(h:j<=k):Room j A:=⟨r.hd,by have:=r.dp;omega,by have:=r.un;omega,r.gd⟩
theorem Room.deeper{k:Nat}{A:Around}(r:Room (k+1) A)(env:Env):Room k (A.deeper env):=
 ⟨r.hd,by have:=r.dp;show A.depth+1+3 * k+5<_;omega,by have:=r.un;show A.units+3+16 * k+200<_;omega,r.gd⟩
theorem Room.depth{k:Nat}{A:Around}(r:Room k A):A.depth<recursionLimit:=by have:=r.dp;omega
theorem Room.units{k:Nat}{A:Around}(r:Room k A):A.units+64<cLine:=by have:=r.un;omega
noncomputable def tNil:TA:=λ_ H Q=>Q [] H
noncomputable def tCons(ta:TE)(tr:TA):TA:=λσ H Q=>ta σ H λx H1=>tr σ H1 λxs H2=>Q (x::xs) H2
section
variable{X:Cx}{e:Expr}{es:List Expr}{te:TE}{t:TA}{pos:Pos}
theorem zaoa:PA X [] tNil:=λ_ _ _ _ H Q I h=>Calls.spliced_nil ⟨[],H,I,.nil,h⟩
theorem zajy(ha:PE X e te)(hr:PA X es t)(hs:starEach (e::es) X.env=(false,eval e X.env)::starEach es X.env:=by rfl):PA X (e::es) (tCons te t):=by
 intro pos pins s σ H Q I h
 rw[hs]
 show wpAny _ _ (spliced ((false,eval e X.env)::backTo pos (starEach es X.env))) _ _ s
 refine Calls.spliced_cons (thn (ha pins s σ H _ I h) λu s1 ⟨x,H1,I1,r1,q1⟩=>?_)
 exact thn (hr pos pins s1 σ H1 _ I1 q1) λus s2 ⟨xs,H2,I2,r2,q2⟩=>⟨x::xs,H2,I2,.cons r1 r2,q2⟩
noncomputable def tTup(t:TA):TE:=λσ H Q=>t σ H λxs H1=>xs.length<=qS/\∀p,H1 p=none->Q (.ref p) (upd H1 p (.tup xs))
noncomputable def tLst(t:TA):TE:=λσ H Q=>t σ H λxs H1=>xs.length<=qS/\∀p,H1 p=none->Q (.ref p) (upd H1 p (.lst xs))
theorem zaob{x1}(h:PA X es t):PE X (.Tuple es x1 pos) (tTup t):=by
 intro pins s σ H Q I hq
 refine wpAny_Tuple_spliced (thn (h pos pins s σ H _ I hq) λus s1 ⟨xs,H1,I1,r,z,q⟩=>⟨by rw[<- r.length];exact z,?_⟩)
 have hf:H1 s1.heap.objs.size=none:=I1.hok.fresh (qK _)
 refine⟨.ref s1.heap.objs.size,upd H1 s1.heap.objs.size (.tup xs),I1.laid (t':=s1.toks) (λb u e=>qL _ e) (qK _) ?_,rfl,q _ hf⟩
 exact⟨z,us,r,⟨_,qg _ rfl,rfl,_,rfl⟩⟩
theorem zaoc(h:PA X es t):PE X (.List es pos) (tLst t):=by
 intro pins s σ H Q I hq
 refine wpAny_List_spliced (thn (h pos pins s σ H _ I hq) λus s1 ⟨xs,H1,I1,r,z,q⟩=>⟨by rw[<- r.length];exact z,?_⟩)
 have hf:H1 s1.heap.objs.size=none:=I1.hok.fresh (qK _)
 refine⟨.ref s1.heap.objs.size,upd H1 s1.heap.objs.size (.lst xs),I1.laid (t':=s1.toks) (λb u e=>qL _ e) (qK _) ?_,rfl,q _ hf⟩
 exact⟨z,us,0,r,qg _ rfl⟩
end
noncomputable abbrev Sp:=List V->Hp->VK->XK->Prop
noncomputable abbrev CXT:=List Env->Hp->Shared->XK->Value->Shared->Prop
set_option genInjectivity false in
structure Env0(P:Program)(w:World)(K:qC)(mg:Str->Option Value)(base:Heap)(A:Around)(outer:List Env)(s:Shared)(H:Hp):Prop where
 frames:A.frames=some outer
 mod:Mod K mg base
 bs:∀b o,base.get? b=some o->s.heap.get? b=some o/\H b=none
 bsz:base.objs.size<=s.heap.objs.size
 funs:s.heap.FunFrames base outer
 frf:∀b∈frs outer,H b=none
 hok:HOk P w H s.heap
 bare:AllBare s.gens
noncomputable def CE(outer:List Env)(P:Program)(w:World)(H:Hp)(s:Shared)(Q:VK)(u:Value)(s':Shared):Prop:=
 ∃v H',s'.os=s.os/\AllBare s'.gens/\Un (frs outer) [] H H' s.heap s'.heap/\HOk P w H' s'.heap/\RelV v u/\Q v H'
noncomputable def CR(CX:CXT)(outer:List Env)(P:Program)(w:World)(H:Hp)(s:Shared)(Q:VK)(E:XK)(r:Result)(s':Shared):Prop:=
 match r with
 | .ok (.ret u)=>CE outer P w H s Q u s'
 | .ok _=>False
 | .error e=>CX outer H s E e s'
set_option genInjectivity false in
structure FnOk(P:Program)(w:World)(K:qC)(mg:Str->Option Value)(base:Heap)(CX:CXT)(k:Nat)(f:Addr)(fd:qr)(ps:List Str)(sp:Sp):Prop where
 len:∀vs H Q E,sp vs H Q E->vs.length=ps.length
 run:∀(A:Around)(outer:List Env)(s:Shared)(H:Hp)(args:Args)(us:List Value)(vs:List V)(Q:VK)(E:XK),Room k A->Env0 P w K mg base A outer s H->BindsTo s fd args (ps.zip us)->Vals vs us->sp vs H Q E->
  codeAny (model P w) A (.call (.ref f) args) (CR CX outer P w H s Q E) s
section
variable{X:Cx}{pins:List (Addr×Obj)}{σ:St}{H:Hp}{s s':Shared}
theorem Inv.env0(I:Inv X pins σ H s):Env0 X.prog X.w X.K X.mg X.base X.A X.stack s H:=
 ⟨I.ok.frames,I.ok.mod,I.bs,qAM I.ok.bsz I.sz,I.stack,I.stkFree,I.hok,I.bare⟩
theorem Inv.after{Q:VK}{u:Value}(I:Inv X pins σ H s)(h:CE X.stack X.prog X.w H s Q u s'):EP X pins σ Q u s':=by
 obtain⟨v,H',os,bare,un,hok,r,q⟩:=h
 obtain⟨hh,g,d,t,os'⟩:=s'
 obtain rfl:os'=s.os:=os
 exact⟨v,H',I.call (h':=hh) (g':=g) (d':=d) (t':=t) (ch:=[]) un hok bare (λb z=>absurd z (by simp)),r,q⟩
end
noncomputable def tCall(sp:Sp)(dvs:List V)(E:XK)(t:TA):TE:=λσ H Q=>t σ H λvs H1=>sp (vs++dvs) H1 Q E
noncomputable def zmj(K:qC)(fd:qr)(ps:List Str)(ds:List Value):Prop:=
 ∀(s:Shared)(us:List Value),K.In s.heap->(us++ds).length=ps.length->BindsTo s fd ⟨us,[]⟩ (ps.zip (us++ds))
theorem zmj.all{K:qC}{fd:qr}{ps:List Str}(h:∀us:List Value,us.length=ps.length->bindArgs fd ⟨us,[]⟩=pure (ps.zip us)):zmj K fd ps []:=λs us _ hl=>by
 rw[qu]at hl ⊢
 exact .of_eq (h us hl)
noncomputable def zaag(CX:CXT)(X:Cx)(E:XK):Prop:=∀(pins:List (Addr×Obj))(σ:St)(H:Hp)(s:Shared)(e:Value)(s':Shared),Inv X pins σ H s->CX X.stack H s E e s'->X.xe e s'
section
variable{X:Cx}{CX:CXT}{k:Nat}{f C:Addr}{fd:qr}{ps:List Str}{sp:Sp}{dvs:List V}{ds:List Value}{E:XK}{x m:Str}{p pos apos:Pos}{e o:Expr}{es:List Expr}{ta:TE}{t:TA}
theorem zaia{pins:List (Addr×Obj)}{σ:St}{H:Hp}{s:Shared}{Q:VK}{us:List Value}{vs:List V}(F:FnOk X.prog X.w X.K X.mg X.base CX k f fd ps sp)(hr:Room k X.A)(hb:zmj X.K fd ps ds)(hd:Vals dvs ds)(hx:zaag CX X E)
  (I:Inv X pins σ H s) (r:Vals vs us) (h:sp (vs++dvs) H Q E):wpAny (model X.prog X.w) X.A (call (.ref f) us) (EP X pins σ Q) X.xe s:=by
 have r2:Vals (vs++dvs) (us++ds):=r.append hd
 have hl:(us++ds).length=ps.length:=by rw[<- r2.length];exact F.len _ _ _ _ h
 refine wpAny_call (qBy (F.run X.A X.stack s H ⟨us,[]⟩ (us++ds) (vs++dvs) Q E hr I.env0 (hb s us I.kIn hl) r2 h) λr s' hq=>?_)
 cases r with
 | error e=>exact hx pins σ H s e s' I hq
 | ok fl=>
  cases fl with
  | ret u=>exact I.after hq
  | next=>exact False.elim hq
  | brk=>exact False.elim hq
  | cont=>exact False.elim hq
theorem zajz(F:FnOk X.prog X.w X.K X.mg X.base CX k f fd ps sp)(hr:Room k X.A)(hg:Gl X x)(hm:X.mg x=some (.ref f))(hk:qBA X.K (.ref f)=true)(hb:zmj X.K fd ps ds)(hd:Vals dvs ds)(hx:zaag CX X E)
  (ha:PA X (e::es) t)(hdb:(x==("__debug__":Str))=false:=by decide)(he:starEach (e::es) X.env=(false,eval e X.env)::starEach es X.env:=by rfl)(hpl:(backTo pos (starEach es X.env)).any (·.1)=false:=by rfl) :
  PE X (.Call (.Name x p) (e::es) [] pos) (tCall sp dvs E t):=by
 intro pins s σ H Q I h
 refine qBf (zzw I hg hm ?_ hdb)
 refine qCj (h₀:=X.base) I.ok.mod.kin hk (thn (ha pos pins s σ H _ I h) λus s1 ⟨vs,H1,I1,r,q⟩=>⟨I1.kIn,?_⟩) he hpl
 exact zaia F hr hb hd hx I1 r q
set_option genInjectivity false in
end
section
variable{X:Cx}{CX:CXT}{k:Nat}{f C:Addr}{fd:qr}{ps ks:List Str}{sp:Sp}{E:XK}{x m:Str}{p pos apos kpos:Pos}{e o:Expr}{es:List Expr}{kws:List Keyword}{te ta:TE}{t tk:TA}{nm:Option Str}
set_option genInjectivity false in
variable{g:List Value->List Value->List Value}{gV:List V->List V->List V}
end
set_option genInjectivity false in
structure FnScope(N P:List Str)(sc:Scope):Prop where
 kind:sc.kind=.function
 co:sc.isCoroutine=false
 gen:sc.isGenerator=false
 nd:N.Nodup
 pre:N.take P.length=P
 par:∀x∈P,sc.names.lookup x=some .local\/sc.names.lookup x=some .cell
 nofree:∀y∈sc.names,y.2≠.free
theorem zrw{kindOf:Str->Option NameKind}{x:Str}:∀{binds:List (Str×Value)}{m:Str->Option Value},(∀v,(x,v)∉binds)->bindL kindOf binds m x=m x
 | [],_,_=>rfl
 | (n,v)::r,m,h=>by
  unfold bindL
  rw[zrw λw hw=>h w (qJ _ hw)]
  split
  ·have:x≠n:=by rintro rfl;exact h v qW
   simp[this]
  ·rfl
theorem zrx{kindOf:Str->Option NameKind}{x:Str}:∀{binds:List (Str×Value)}{m:Str->Option Value},(∀v,(x,v)∉binds)->bindC kindOf binds m x=m x
 | [],_,_=>rfl
 | (n,v)::r,m,h=>by
  unfold bindC
  rw[zrx λw hw=>h w (qJ _ hw)]
  split
  ·rfl
  ·have:x≠n:=by rintro rfl;exact h v qW
   simp[this]
theorem zry{kindOf:Str->Option NameKind}{x:Str}{v:Value}:∀{P:List Str}{vs:List Value}{i:Nat}{m:Str->Option Value},P.Nodup->P[i]?=some x->vs[i]?=some v->kindOf x=some .local->
  bindL kindOf (P.zip vs) m x=some v
 | [],_,_,_,_,h,_,_=>by simp at h
 | _::_,[],_,_,_,_,h,_=>by simp at h
 | p::P,w::vs,0,m,nd,h1,h2,hk=>by
  simp at h1 h2;subst h1;subst h2
  show bindL kindOf ((p,w)::P.zip vs) m p=_
  unfold bindL
  rw[zrw λv hv=>(qAK.mp nd).1 (qCF hv).1,if_pos hk]
  simp
 | p::P,w::vs,i+1,m,nd,h1,h2,hk=>by
  show bindL kindOf ((p,w)::P.zip vs) m x=_
  unfold bindL
  exact zry (i:=i) (qAK.mp nd).2 (by simpa using h1) (by simpa using h2) hk
theorem zrz{kindOf:Str->Option NameKind}{x:Str}{v:Value}:∀{P:List Str}{vs:List Value}{i:Nat}{m:Str->Option Value},P.Nodup->P[i]?=some x->vs[i]?=some v->kindOf x≠some .local->
  bindC kindOf (P.zip vs) m x=some v
 | [],_,_,_,_,h,_,_=>by simp at h
 | _::_,[],_,_,_,_,h,_=>by simp at h
 | p::P,w::vs,0,m,nd,h1,h2,hk=>by
  simp at h1 h2;subst h1;subst h2
  show bindC kindOf ((p,w)::P.zip vs) m p=_
  unfold bindC
  rw[zrx λv hv=>(qAK.mp nd).1 (qCF hv).1,if_neg hk]
  simp
 | p::P,w::vs,i+1,m,nd,h1,h2,hk=>by
  show bindC kindOf ((p,w)::P.zip vs) m x=_
  unfold bindC
  exact zrz (i:=i) (qAK.mp nd).2 (by simpa using h1) (by simpa using h2) hk
noncomputable def zdw(N:List Str)(vs:List V):St:=vs.map some++List.replicate (N.length - vs.length) none
noncomputable def cxOf(CX:CXT)(P:Program)(w:World)(K:qC)(mg:Str->Option Value)(base:Heap)(N:List Str)(qual:Str)(scope:Scope)(f:Addr)(cd:Value)(A:Around)(outer:List Env)(s:Shared)(H:Hp)(E:XK):Cx where
 prog:=P
 w:=w
 K:=K
 mg:=mg
 base:=base
 A:=A.deeper (envOfC qual scope s.heap.objs.size f cd)
 N:=N
 s₀:=s
 H₀:=H
 env:=envOfC qual scope s.heap.objs.size f cd
 outer:=outer
 stack:=envOfC qual scope s.heap.objs.size f cd::outer
 ex:=[]
 calm:=true
 fn:=λ_=>true
 pn:=[]
 xe:=λe s'=>wpAny (model P w) (A.deeper (envOfC qual scope s.heap.objs.size f cd)) (leaving (envOfC qual scope s.heap.objs.size f cd) e) (λ_ s''=>CX outer H s E e s'') (λe' s''=>CX outer H s E e' s'') s'
theorem zqo{sc:Scope}{n:Nat}{x:Str}(h:sc.names.lookup x=some .cell):∃c,(cellsFrom n sc.names []).lookup x=some c:=by
 have q:=qCQ sc.names n [] (.inl h)
 exact qCN.mp q
theorem zaah{CX:CXT}{P:Program}{w:World}{K:qC}{mg:Str->Option Value}{base:Heap}{N ps:List Str}{qual:Str}{scope:Scope}{f:Addr}{cd:Value}{A:Around}{outer:List Env}{s s1:Shared}{H:Hp}{E:XK}{us:List Value}{vs:List V}
  (S:FnScope N ps scope)(hd:A.handled=none)(e0:Env0 P w K mg base A outer s H)(hl:vs.length=ps.length)(r:Vals vs us)
  (x:InCallC s s.heap.objs.size (bindL (envOfC qual scope s.heap.objs.size f cd).kindOf (ps.zip us) λ_=>none) (cellsFrom (s.heap.objs.size+1) scope.names []) (bindC (envOfC qual scope s.heap.objs.size f cd).kindOf (ps.zip us) λ_=>none) s1) :
  Inv (cxOf CX P w K mg base N qual scope f cd A outer s H E) [] (zdw N vs) H s1:=by
 have hpl:ps.length<=N.length:=by have:=congrArg List.length S.pre;rw[qAd]at this;omega
 obtain⟨h1,tk,rfl,hk⟩:=x.done
 have noA:∀b:Addr,b∉(cxOf CX P w K mg base N qual scope f cd A outer s H E).ex:=λb z=>absurd (show b∈([]:List Addr)from z) (by simp)
 refine⟨⟨e0.mod,S.kind,rfl,rfl,qK _,λy z c h1 h2=>?_,λy hy=>?_,λy c _ h=>?_,λ_=>hd,Around.frames_deeper e0.frames,.inr ⟨rfl,rfl⟩,λb z=>absurd z (noA b),e0.bs,e0.bsz,λb _ _=>noA b,λb z=>absurd z (noA b),e0.funs,e0.frf⟩,
  rfl,e0.bare,Un.kept hk,⟨_,x.toInCall.ns,λi y v h1 h2 h3=>?_⟩,λy c h=>⟨_,x.cell y c h⟩,e0.hok.fresh (qK _),λy c h=>?_,λp hp=>absurd (show p∈([]:List (Addr×Obj))from hp) (by simp),e0.hok.kept hk,?_⟩
 ·exact name_of_addr x.apart (qx h1) (qx h2)
 ·have hy:scope.names.lookup y=some .cell\/scope.names.lookup y=some .free:=hy
  rcases hy with hy|hy
  ·exact zqo hy
  ·exact absurd rfl (S.nofree _ (qx hy))
 ·exact qB8 (x.above y c (qx h))
 ·have hi:i<vs.length:=by
   unfold zdw at h2
   by_cases hi:i<vs.length
   ·exact hi
   ·rw[qo (by simpa using hi)]at h2
    rw[qBi]at h2
    split at h2<;>cases h2
  have ha:vs[i]?=some v:=by
   unfold zdw at h2
   rw[qk (by simpa using hi),qV]at h2
   cases e:vs[i]? with
   | none=>rw[e]at h2;cases h2
   | some a=>rw[e]at h2;cases h2;rfl
  obtain⟨u,hu,rv⟩:=r.get ha
  have hp:ps[i]?=some y:=by
   rw[<- S.pre,List.getElem?_take_of_lt (by omega)];exact h1
  have ndP:ps.Nodup:=by rw[<- S.pre];exact S.nd.sublist (List.take_sublist _ _)
  refine⟨u,rv,?_⟩
  rcases S.par y (qAH hp)with k|k
  ·exact .inl ⟨k,zry ndP hp hu k⟩
  ·obtain⟨c,e⟩:=zqo (n:=s.heap.objs.size+1) k
   refine .inr ⟨.inl k,c,e,?_⟩
   have q:=x.cell y c e
   rw[zrz ndP hp hu (by show scope.names.lookup y≠_;rw[k];decide)]at q
   exact q
 ·exact e0.hok.fresh (qB8 (x.above y c (qx h)))
 ·unfold zdw
  show _=N.length
  rw[qQ,qD,qA0]
  omega
theorem zarh{CX:CXT}{P:Program}{w:World}{K:qC}{mg:Str->Option Value}{base:Heap}{k:Nat}{f:Addr}{name qual:Str}{params:Arguments}{body:List Stmt}{scope:Scope}{dV kV doc pm cdv ct oc:Value}{an od:Option Addr}
  {osl:Array (Option Value)}{N ps:List Str}{sp:Sp}(lk:K.lookup f=some ⟨oc,od,.func (qAX name qual params body scope dV kV doc pm an cdv ct),osl⟩)(hcd:qBo K cdv qual=true)(S:FnScope N ps scope)
  (len:∀vs H Q E,sp vs H Q E->vs.length=ps.length)
  (hbody:∀(A:Around)(outer:List Env)(s:Shared)(H:Hp)(vs:List V)(Q:VK)(E:XK),Room k (A.deeper (envOfC qual scope s.heap.objs.size f cdv))->sp vs H Q E->
   ∃t,PSs (cxOf CX P w K mg base N qual scope f cdv A outer s H E) body t/\t {nx:=λ_ H'=>Q .non H',rt:=Q} (zdw N vs) H) :
  FnOk P w K mg base CX (k+1) f (qAX name qual params body scope dV kV doc pm an cdv ct) ps sp:=by
 refine⟨len,λA outer s H args us vs Q E hr e0 hb r hsp=>?_⟩
 have hl:=len _ _ _ _ hsp
 have KX:K.In s.heap:=e0.mod.kin.keeps λb o e=>(e0.bs b o e).1
 have lim:s.heap.NoLimit:=e0.mod.nolimit.keeps λb o e=>(e0.bs b o e).1
 have hkind:∀y∈ps.zip us,scope.names.lookup y.1=some .local\/(scope.names.lookup y.1=some .cell/\((cellsFrom (s.heap.objs.size+1) scope.names []).lookup y.1).isSome=true):=λ⟨n,v⟩ hy=>by
  rcases S.par n (qCF hy).1 with q|q
  ·exact .inl q
  ·exact .inr ⟨q,qCQ _ _ _ (.inl q)⟩
 refine codeAny_call_function hr.depth (KX _ _ lk) rfl S.co S.gen rfl (PySem.W.codeRec_of KX hcd) (hb _ _ _ _ ?_)
 refine wpAny_newFunctionEnv_cells S.kind hkind λenv he s1 x=>?_
 subst he
 refine⟨lim.keeps x.toInCall.keep,codeAny_func ?_⟩
 obtain⟨t,ht,hq⟩:=hbody A outer s H vs Q E (hr.deeper _) hsp
 have I:Inv (cxOf CX P w K mg base N qual scope f cdv A outer s H E) [] (zdw N vs) H s1:=zaah S hr.hd e0 hl r x
 refine qBn (ht [] s1 (zdw N vs) H _ I hq) (λfl s' hs=>?_) λe s' hs=>hs
 have fin:∀{σ':St}{H':Hp}{v:V}{u:Value},Inv (cxOf CX P w K mg base N qual scope f cdv A outer s H E) [] σ' H' s'->RelV v u->Q v H'->CE outer P w H s Q u s':=
  λ{σ' H' v u} J rv q=>⟨v,H',J.os,J.bare,J.base,J.hok,rv,q⟩
 cases fl with
 | ret u=>
  obtain⟨v,σ',H',J,rv,q⟩:=hs
  exact fin J rv q
 | next=>
  obtain⟨σ',H',J,q⟩:=hs
  exact fin (v:=V.non) (u:=Value.none) J rfl q
 | brk=>
  obtain⟨_,_,_,q⟩:=hs
  exact False.elim q
 | cont=>
  obtain⟨_,_,_,q⟩:=hs
  exact False.elim q
section
variable{X:Cx}{x:Str}{p pos:Pos}{e:Expr}{es:List Expr}{t:TA}{id T:String}{r:List V->Hp->VK->Prop}
noncomputable def tCB(r:List V->Hp->VK->Prop)(t:TA):TE:=λσ H Q=>t σ H λvs H1=>r vs H1 Q
theorem zaey(hc:CallR X (.builtin id) r)(hg:Gl X x)(hm:X.mg x=none)(hv:bootBuiltins x=some (.builtin id))(ha:PA X (e::es) t)(hn:x≠"__name__":=by decide)(hdb:(x==("__debug__":Str))=false:=by decide)
  (he:starEach (e::es) X.env=(false,eval e X.env)::starEach es X.env:=by rfl) (hpl:(backTo pos (starEach es X.env)).any (·.1)=false:=by rfl):PE X (.Call (.Name x p) (e::es) [] pos) (tCB r t):=by
 intro pins s σ H Q I h
 refine qBf (zrs I hg hm hv ?_ hn hdb)
 exact PyProof.Rows.callWith_builtin1 (thn (ha pos pins s σ H _ I h) λus s1 ⟨vs,H1,I1,r1,q1⟩=>hc pins s1 σ H1 vs us Q I1 r1 q1) he hpl
theorem zaai(hc:CallR X (.type T) r)(hg:Gl X x)(hm:X.mg x=none)(hv:bootBuiltins x=some (.type T))(ha:PA X (e::es) t)(hn:x≠"__name__":=by decide)(hdb:(x==("__debug__":Str))=false:=by decide)
  (he:starEach (e::es) X.env=(false,eval e X.env)::starEach es X.env:=by rfl) (hpl:(backTo pos (starEach es X.env)).any (·.1)=false:=by rfl):PE X (.Call (.Name x p) (e::es) [] pos) (tCB r t):=by
 intro pins s σ H Q I h
 refine qBf (zrs I hg hm hv ?_ hn hdb)
 exact qBC (thn (ha pos pins s σ H _ I h) λus s1 ⟨vs,H1,I1,r1,q1⟩=>hc pins s1 σ H1 vs us Q I1 r1 q1) he hpl
end
end L2
namespace HT
open PySem PyProof.Rows
section
open PySem.SeqAt
open PySem.AutoSeq1 (wpAny_loadPart')
open PySem.MeetsSeq PySem.MeetsSeq2 PySem.MeetsSeq3
end
section
variable{prog:Program}{w:World}{A:Around}{E:Value->Shared->Prop}{s:Shared}
theorem cat_tup{t b:Addr}{vs ws:List Value}{Q:Value->Shared->Prop}(ht:IsTup s.heap t vs.toArray)(hb:IsTup s.heap b ws.toArray)(hv:vs≠[])
  (h1:ws=[]->Q (.ref t) s) (h2:ws≠[]->Q (.ref s.heap.objs.size) {s with heap:=s.heap.push {cls:=.type "tuple",data:=.seq (vs++ws).toArray}})
  (hsz:vs.length+ws.length<=qS):wpAny (model prog w) A (binaryOp .Add (.ref t) (.ref b)) Q E s:=by
 obtain⟨⟨cls,dd,data,sl⟩,ho,hc,n,hd⟩:=id ht
 obtain⟨⟨cls2,dd2,data2,sl2⟩,ho2,hc2,n2,hd2⟩:=id hb
 simp only at hc hd hc2 hd2
 subst hc hd hc2 hd2
 have e:vs.toArray++ws.toArray=(vs++ws).toArray:=by simp
 by_cases hw:ws=[]
 ·exact concat_meets ⟨_,ho,rfl⟩ ⟨_,ho2,rfl⟩ noFill_tuple_add seq_tuple_add qCR qCM (qCE _ _)
   (tuple_addW1 t b vs.toArray ws.toArray n n2 dd dd2 sl sl2 (by simpa using hv) (by simp[hw])) ⟨ho,ho2,h1 hw⟩
 ·refine concat_meets ⟨_,ho,rfl⟩ ⟨_,ho2,rfl⟩ noFill_tuple_add seq_tuple_add qCR qCM (qCE _ _)
   (tuple_addW2 t b vs.toArray ws.toArray n n2 dd dd2 sl sl2 (by simpa using hv) (by simpa using hw) (by rw[qO,qO];exact hsz)) ⟨ho,ho2,?_⟩
  rw[e]
  exact h2 hw
noncomputable def sIx(n d:Nat):Option Int->Nat
 | none=>d
 | some v=>if v<0 then(v+(n:Int)).toNat else min v.toNat n
theorem sIx_nat(n d k:Nat):sIx n d (some (k:Int))=min k n:=by
 show(if(k:Int)<0 then((k:Int)+(n:Int)).toNat else min (k:Int).toNat n)=min k n
 rw[if_neg (by omega),qAm]
theorem zaod(n d:Nat)(hd:d<=n)(o:Option Int):sIx n d o<=n:=by
 cases o with
 | none=>exact hd
 | some v=>
  show(if v<0 then(v+(n:Int)).toNat else min v.toNat n)<=n
  by_cases hv:v<0
  ·rw[if_pos hv];omega
  ·rw[if_neg hv];exact Nat.min_le_right _ _
theorem zaaj(v:Int)(n d:Nat):(if v<0 then max (v+(n:Int)) 0 else min v (n:Int))=((sIx n d (some v):Nat):Int):=by
 show(if v<0 then max (v+(n:Int)) 0 else min v (n:Int))=(((if v<0 then(v+(n:Int)).toNat else min v.toNat n):Nat):Int)
 by_cases hv:v<0
 ·simp only[if_pos hv];omega
 ·simp only[if_neg hv];omega
theorem zyq(lo hi:Option Int)(n:Nat):Builtin.Slice.sliceAdjust lo hi 1 (n:Int)=(((sIx n 0 lo:Nat):Int),((sIx n n hi:Nat):Int)):=by
 have h1:¬((1:Int)<0):=by omega
 unfold Builtin.Slice.sliceAdjust
 simp only[h1,if_false]
 refine Prod.ext ?_ ?_
 ·cases lo with
  | none=>rfl
  | some v=>exact zaaj v n 0
 ·cases hi with
  | none=>rfl
  | some v=>exact zaaj v n n
theorem zyr(i j:Nat):Builtin.Slice.slicePlaces (i:Int) (j:Int) 1=j - i:=by
 unfold Builtin.Slice.slicePlaces
 have h1:(1:Int) > 0:=by omega
 simp only[h1,if_true,qCu]
 split<;>omega
theorem zpk{v:Value}{o:Option Int}{Q:Option Int->Shared->Prop}(p:IsPart v o)(h:Q o s):wpAny (model prog w) A (Builtin.Slice.slicePartIndex v) Q E s:=by
 cases p with
 | none=>exact slicePart_none h
 | int i t=>exact slicePart_int h
theorem zhe{sl:Addr}{vl vu:Value}{lo hi:Option Int}{n:Nat}{Q:Int×Int×Nat->Shared->Prop}(hs:s.heap.IsSliceOf sl vl vu .none)(pl:IsPart vl lo)(pu:IsPart vu hi)
  (h:Q (((sIx n 0 lo:Nat):Int),1,sIx n n hi - sIx n 0 lo) s):wpAny (model prog w) A (Builtin.Slice.sliceApplied (.ref sl) (pure (n:Int))) Q E s:=by
 obtain⟨os,hos,hcs,hds⟩:=id hs
 unfold Builtin.Slice.sliceApplied Builtin.Slice.sliceFields
 refine qB (qB (qBK hos hds (x:=vl) rfl (qB (qBK hos hds (x:=vu) rfl (qB (qBK hos hds (x:=.none) rfl (qE ?_)))))))
 refine qB (slicePart_none ?_)
 show wpAny _ _ (if((1:Int)==0)=true then _ else _) _ _ s
 rw[if_neg (by decide)]
 refine qB (zpk pl (qB (zpk pu (qB (qE ?_)))))
 show wpAny _ _ (match Builtin.Slice.sliceAdjust lo hi 1 (n:Int)with|(lo,hi)=>pure (lo,(1:Int),Builtin.Slice.slicePlaces lo hi 1)) _ _ s
 rw[zyq lo hi n]
 show wpAny _ _ (pure (((sIx n 0 lo:Nat):Int),(1:Int),Builtin.Slice.slicePlaces ((sIx n 0 lo:Nat):Int) ((sIx n n hi:Nat):Int) 1)) _ _ s
 rw[zyr]
 exact qE h
theorem zaez(xs:Array Value)(i k:Nat):((List.range k).filterMap λ(m:Nat)=>xs[((i:Int)+(m:Int) * 1).toNat]?).toArray=((xs.toList.drop i).take k).toArray:=by
 have e:(λ(m:Nat)=>xs[((i:Int)+(m:Int) * 1).toNat]?)=λm=>xs[i+m]?:=by
  funext m
  have:((i:Int)+(m:Int) * 1).toNat=i+m:=by omega
  rw[this]
 rw[e]
 have:=pick_run xs i k
 rw[List.filterMap_map]at this
 have e2:((λx=>xs[x]?)∘λx=>i+x)=λm=>xs[i+m]?:=rfl
 rw[e2]at this
 rw[this]
theorem getItem_tuple_cut{t sl:Addr}{items:Array Value}{vl vu:Value}{lo hi:Option Int}{Q:Value->Shared->Prop}(ht:IsTup s.heap t items)(hs:s.heap.IsSliceOf sl vl vu .none)(pl:IsPart vl lo)(pu:IsPart vu hi)
  (hw:¬(sIx items.size 0 lo=0/\sIx items.size items.size hi=items.size))
  (h:Q (.ref s.heap.objs.size) {s with heap:=s.heap.push {cls:=.type "tuple",data:=.seq ((items.toList.drop (sIx items.size 0 lo)).take (sIx items.size items.size hi - sIx items.size 0 lo)).toArray}})
  (hsz:items.size<=qS):wpAny (model prog w) A (getItem (.ref t) (.ref sl)) Q E s:=by
 have htake:sizeOk (.seq ((items.toList.drop (sIx items.size 0 lo)).take (sIx items.size items.size hi - sIx items.size 0 lo)).toArray):=by
  show((items.toList.drop (sIx items.size 0 lo)).take (sIx items.size items.size hi - sIx items.size 0 lo)).toArray.size<=qS
  rw[qO,qAd,qAr,qBO]
  omega
 have hj:sIx items.size items.size hi<=items.size:=zaod _ _ (qK _) hi
 obtain⟨os,hos,hcs,hds⟩:=id hs
 have hTs:s.TypeIs (.ref sl) "slice":=⟨os,hos,hcs⟩
 unfold getItem
 try with_reducible refine qAU ?_
 first|refine qB (qE ?_)|skip
 refine qB (qBm ht.typeIs (by decide) ?_)
 refine qB (qAE (name:=Str.ofString "__getitem__") ht.typeIs qAI
  (qAV qAI ht.typeIs entry_tuple_getitem ?_ (args_tuple_getitem _ _)))
 show wpAny _ _ (Builtin.Tuple.tupleItemsOf (.ref t) >>=_) _ _ s
 refine qB (tupleItemsOf_ ht ?_)
 refine qB (wpAny_typeOf hTs ?_)
 rw[if_pos (by decide)]
 refine qB (zhe hs pl pu ?_)
 have hno:¬((((sIx items.size 0 lo:Nat):Int)==0&&(1:Int)==1&&(sIx items.size items.size hi - sIx items.size 0 lo)==items.size)=true):=by
  intro q
  rw[q9,q9]at q
  have q1:((sIx items.size 0 lo:Nat):Int)=0:=eq_of_beq q.1.1
  have q2:sIx items.size items.size hi - sIx items.size 0 lo=items.size:=eq_of_beq q.2
  exact hw ⟨by omega,by omega⟩
 show wpAny _ _ (if(((sIx items.size 0 lo:Nat):Int)==0&&(1:Int)==1&&(sIx items.size items.size hi - sIx items.size 0 lo)==items.size)=true then _ else _) _ _ s
 rw[if_neg hno,zaez]
 first
  | exact qB (m:=Builtin.Tuple.tupleExact _) (qAP (qE ⟨_,rfl,qE h⟩) htake)
  | exact qB (m:=Builtin.Tuple.tupleExact _) (qAP (qB (qE (qE ⟨_,rfl,qE h⟩))) htake)
  | exact qB (qB (m:=Builtin.Tuple.tupleExact _) (qAP (qE (qE ⟨_,rfl,qE h⟩)) htake))
  | exact qB (qB (m:=Builtin.Tuple.tupleExact _) (qAP (qE ⟨_,rfl,qE h⟩) htake))
end
end HT
namespace L2
open PySem PySem.Spec PyProof.Rows
noncomputable abbrev TO:=St->Hp->(Option Int->Hp->Prop)->Prop
noncomputable def PO(X:Cx)(e:Option Expr)(t:TO):Prop:=
 ∀(pins:List (Addr×Obj))(s:Shared)(σ:St)(H:Hp)(Q:Option Int->Hp->Prop),Inv X pins σ H s->t σ H Q->
  wpAny (model X.prog X.w) X.A (evalPart e X.env) (λu s'=>∃o H',Inv X pins σ H' s'/\IsPart u o/\Q o H') X.xe s
noncomputable def tNoPart:TO:=λ_ H Q=>Q none H
noncomputable def tPart(t:TE):TO:=λσ H Q=>t σ H λx H1=>∃i,x=.int i/\Q (some i) H1
section
variable{X:Cx}{e:Expr}{te:TE}{lo hi:Option Expr}{tl th:TO}{pos p2:Pos}
theorem zaka:PO X none tNoPart:=by
 intro pins s σ H Q I h
 rw[evalPart_none]
 exact qE ⟨none,H,I,.none,h⟩
theorem zakb(h:PE X e te):PO X (some e) (tPart te):=by
 intro pins s σ H Q I hw
 rw[evalPart_some]
 refine thn (h pins s σ H _ I hw) λu s1 ⟨x,H1,I1,r1,q1⟩=>?_
 obtain⟨i,rfl,q⟩:=q1
 obtain⟨t,rfl⟩:=r1
 exact⟨some i,H1,I1,.int i t,q⟩
noncomputable def SlR(X:Cx)(r:V->Option Int->Option Int->Hp->VK->Prop):Prop:=
 ∀(pins:List (Addr×Obj))(s:Shared)(σ:St)(H:Hp)(x:V)(v vl vu:Value)(lo hi:Option Int)(sl:Addr)(Q:VK),Inv X pins σ H s->RelV x v->s.heap.IsSliceOf sl vl vu .none->IsPart vl lo->IsPart vu hi->r x lo hi H Q->
  ∃T id,typeLookup (.type T) "__getitem__"=pure (some (.builtin id))/\s.TypeIs v T/\wpAny (model X.prog X.w) X.A (getItem v (.ref sl)) (EP X pins σ Q) X.xe s
noncomputable def tSl(r:V->Option Int->Option Int->Hp->VK->Prop)(te:TE)(tl th:TO):TE:=λσ H Q=>te σ H λx H1=>tl σ H1 λl H2=>th σ H2 λu H3=>r x l u H3 Q
theorem zafa{r:V->Option Int->Option Int->Hp->VK->Prop}(hr:SlR X r)(he:PE X e te)(hl:PO X lo tl)(hu:PO X hi th):PE X (.Subscript e (.Slice lo hi none p2) pos) (tSl r te tl th):=by
 intro pins s σ H Q I h
 refine Subscript_ (thn (he pins s σ H _ I h) λv s1 ⟨x,H1,I1,r1,q1⟩=>?_)
 refine wpAny_Slice (thn (hl pins s1 σ H1 _ I1 q1) λvl s2 ⟨l,H2,I2,pl,q2⟩=>thn (hu pins s2 σ H2 _ I2 q2) λvu s3 ⟨u,H3,I3,pu,q3⟩=>?_)
 rw[evalPart_none]
 refine qE ?_
 have I4:Inv X pins σ H3 {s3 with heap:=s3.heap.push {cls:=.type "slice",data:=.fields #[vl,vu,.none]}}:=I3.kept (t':=s3.toks) λb ob q=>qL _ q
 obtain⟨T,id,hT,ht,hg⟩:=hr pins {s3 with heap:=s3.heap.push {cls:=.type "slice",data:=.fields #[vl,vu,.none]}} σ H3 x v vl vu l u s3.heap.objs.size Q I4 r1 (Heap.IsSliceOf.new ..) pl pu q3
 show wpAny (model X.prog X.w) X.A (subscriptTail e (.Slice lo hi none p2) v (.ref s3.heap.objs.size)) (EP X pins σ Q) X.xe {s3 with heap:=s3.heap.push {cls:=.type "slice",data:=.fields #[vl,vu,.none]}}
 exact tail_any (ops:=[.ref s3.heap.objs.size,v]) ht hT hg (by with_unfolding_all rfl)
noncomputable def cutV(xs:List V)(lo hi:Option Int):List V:=(xs.drop (HT.sIx xs.length 0 lo)).take (HT.sIx xs.length xs.length hi - HT.sIx xs.length 0 lo)
theorem zmz(xs:List V)(lo hi:Option Int):(cutV xs lo hi).length<=xs.length:=by
 unfold cutV
 rw[qAd,qAr]
 omega
noncomputable def rSlT(K:qC):V->Option Int->Option Int->Hp->VK->Prop:=λx lo hi H Q=>∃a xs,x=.ref a/\SqT K H a xs/\
 ¬(HT.sIx xs.length 0 lo=0/\HT.sIx xs.length xs.length hi=xs.length)/\∀p,H p=none->Q (.ref p) (upd H p (.tup (cutV xs lo hi)))
theorem zaoe:SlR X (rSlT X.K):=by
 intro pins s σ H x v vl vu lo hi sl Q I rx hs pl pu h
 obtain⟨a,xs,rfl,hx,hw,q⟩:=h
 cases rx
 obtain⟨its,r,ht,hz⟩:=I.tuple hx
 have hlen:its.toArray.size=xs.length:=by rw[qO];exact r.length.symm
 refine⟨"tuple",_,qAI.lookup,ht.typeIs,?_⟩
 refine HT.getItem_tuple_cut ht hs pl pu (by rw[hlen];exact hw) ?_ (by rw[hlen];exact hz)
 rw[hlen]
 refine⟨.ref s.heap.objs.size,_,I.laid (t':=s.toks) (o:=.tup (cutV xs lo hi)) (λb ob q=>qL _ q) (qK _) ?_,rfl,q _ (I.hok.fresh (qK _))⟩
 exact⟨qAM (zmz xs lo hi) hz,_,(r.drop (HT.sIx xs.length 0 lo)).take (HT.sIx xs.length xs.length hi - HT.sIx xs.length 0 lo),IsTup.new _ _⟩
noncomputable def zaof(K:qC):R2:=λx y H Q=>∃a b xs ys,x=.ref a/\y=.ref b/\SqT K H a xs/\SqT K H b ys/\xs≠[]/\xs.length+ys.length<=qS/\
 (ys=[]->Q (.ref a) H)/\(ys≠[]->∀p,H p=none->Q (.ref p) (upd H p (.tup (xs++ys))))
theorem Vals.nil_iff{xs:List V}{us:List Value}(r:Vals xs us):us=[]↔xs=[]:=by
 cases r with
 | nil=>simp
 | cons _ _=>simp
theorem zakc:OpR X (binaryOp .Add) (zaof X.K):=by
 intro pins s σ H x y v u Q I rx ry h
 obtain⟨a,b,xs,ys,rfl,rfl,ha,hb,hx,hz,q1,q2⟩:=h
 cases rx
 cases ry
 obtain⟨its,r1,p1,_⟩:=I.tuple ha
 obtain⟨its2,r2,p2,_⟩:=I.tuple hb
 refine HT.cat_tup p1 p2 (λz=>hx (r1.nil_iff.mp z)) (λz=>⟨.ref a,H,I,rfl,q1 (r2.nil_iff.mp z)⟩) (λz=>?_) (by rw[<- r1.length,<- r2.length];exact hz)
 refine⟨.ref s.heap.objs.size,_,I.laid (t':=s.toks) (o:=.tup (xs++ys)) (λb ob q=>qL _ q) (qK _) ?_,rfl,q2 (λw=>z (r2.nil_iff.mpr w)) _ (I.hok.fresh (qK _))⟩
 exact⟨by rw[qQ];exact hz,_,r1.append r2,IsTup.new _ _⟩
end
noncomputable def ixN(n:Nat)(i:Int):Option Nat:=if 0<=i then(if i<n then some i.toNat else none)else if -(n:Int)<=i then some (i+n).toNat else none
noncomputable def atI{α:Type}(xs:List α)(i:Int):Option α:=(ixN xs.length i).bind λj=>xs[j]?
theorem zaak{n:Nat}{i:Int}{j:Nat}(h:ixN n i=some j):seqIndex? i n=some j/\j<n/\-(n:Int)<=i/\i<n:=by
 unfold ixN at h
 by_cases h0:0<=i
 ·rw[if_pos h0]at h
  by_cases h1:i<n
  ·rw[if_pos h1]at h
   have e:i.toNat=j:=qR h
   exact⟨by rw[seqIndex_of h0 h1,e],by omega,by omega,h1⟩
  ·rw[if_neg h1]at h;cases h
 ·rw[if_neg h0]at h
  by_cases h1:-(n:Int)<=i
  ·rw[if_pos h1]at h
   have e:(i+n).toNat=j:=qR h
   exact⟨by rw[seqIndex_neg (by omega) h1,e],by omega,h1,by omega⟩
  ·rw[if_neg h1]at h;cases h
theorem zuk{α:Type}{xs:List α}{i:Int}{v:α}(h:atI xs i=some v):∃j,seqIndex? i xs.length=some j/\xs[j]?=some v/\j<xs.length/\-(xs.length:Int)<=i/\i<xs.length:=by
 unfold atI at h
 cases e:ixN xs.length i with
 | none=>rw[e]at h;cases h
 | some j=>
  rw[e]at h
  obtain⟨h1,h2,h3,h4⟩:=zaak e
  exact⟨j,h1,h,h2,h3,h4⟩
theorem zkt{α:Type}{xs:List α}{j:Nat}{v:α}(h:xs[j]?=some v):atI xs (j:Int)=some v:=by
 have hj:j<xs.length:=(qM.mp h).1
 have e:ixN xs.length (j:Int)=some j:=by
  unfold ixN
  rw[if_pos (by omega),if_pos (by omega)];simp
 unfold atI;rw[e];exact h
noncomputable def PlainIx(b:Expr):Prop:=∀o i,subscripted b false o i=operate [o,i] (getItem o i)
noncomputable def IxR(X:Cx)(r:R2):Prop:=
 ∀(value slice:Expr)(pins:List (Addr×Obj))(s:Shared)(σ:St)(H:Hp)(x y:V)(v u:Value)(Q:VK),Inv X pins σ H s->RelV x v->RelV y u->r x y H Q->
  subscripted slice false v u=operate [v,u] (getItem v u)->wpAny (model X.prog X.w) X.A (subscriptTail value slice v u) (EP X pins σ Q) X.xe s
noncomputable def MtR(X:Cx)(id:String)(r:V->List V->Hp->VK->Prop):Prop:=
 ∀(pins:List (Addr×Obj))(s:Shared)(σ:St)(H:Hp)(x:V)(xs:List V)(v:Value)(us:List Value)(Q:VK),Inv X pins σ H s->RelV x v->Vals xs us->r x xs H Q->
  wpAny (model X.prog X.w) X.A (call (.builtin id) (v::us)) (EP X pins σ Q) X.xe s
section
variable{X:Cx}{a b:Expr}{ta tb:TE}{pos:Pos}
theorem zari{r:R2}(hr:IxR X r)(ha:PE X a ta)(hb:PE X b tb)(hs:PlainIx b):PE X (.Subscript a b pos) (tOp r ta tb):=by
 intro pins s σ H Q I h
 exact Subscript_ (binT ha hb I h λv u s2 x y H2 I2 rx ry q=>hr a b pins s2 σ H2 x y v u Q I2 rx ry q (hs _ _))
noncomputable def rIxL(K:qC):R2:=λx y H Q=>∃p xs i v,x=.ref p/\y=.int i/\SqL K H p xs/\atI xs i=some v/\Q v H
noncomputable def rIxT(K:qC):R2:=λx y H Q=>∃p xs i v,x=.ref p/\y=.int i/\SqT K H p xs/\atI xs i=some v/\Q v H
noncomputable def rIxS:R2:=λx y H Q=>∃z i c,x=.str z/\y=.int i/\z.length<=qS/\atI z.cps.toList i=some c/\Q (.str ⟨#[c]⟩) H
theorem zakd:IxR X (rIxL X.K):=by
 intro value slice pins s σ H x y v u Q I rx ry h hs
 obtain⟨p,xs,i,z,rfl,rfl,hq,he,q⟩:=h
 cases rx
 obtain⟨t,rfl⟩:=ry
 obtain⟨its,r,pl,hz⟩:=I.list hq
 obtain⟨j,h1,h2,h3,h4,h5⟩:=zuk he
 obtain⟨w,ew,rw'⟩:=r.get h2
 have hl:=r.length
 have hn:=zpj
 have fin:EP X pins σ Q w s:=⟨z,H,I,rw',q⟩
 by_cases h0:0<=i
 ·have hj:i.toNat=j:=by
   rw[seqIndex_of h0 h5]at h1
   exact qR h1
  exact item_listR pl.isList h0 (by omega) (by rw[hj];simpa using ew) fin hs
 ·have hj:(i+(its.toArray.size:Int)).toNat=j:=by
   rw[seqIndex_neg (by omega) h4]at h1
   rw[qO,<- hl]
   exact qR h1
  exact subscriptTail_builtinR (x:=w) pl.isList.typeIs slot_list_getitem.lookup
   (wpAny_getItem_list_neg (Q:=λr s'=>r=w/\EP X pins σ Q r s') pl.isList (by omega) (by rw[qO]<;>omega) (by omega) (by rw[hj];simpa using ew) ⟨rfl,fin⟩) hs
theorem zaog:IxR X (rIxT X.K):=by
 intro value slice pins s σ H x y v u Q I rx ry h hs
 obtain⟨p,xs,i,z,rfl,rfl,hq,he,q⟩:=h
 cases rx
 obtain⟨t,rfl⟩:=ry
 obtain⟨its,r,pl,hz⟩:=I.tuple hq
 obtain⟨j,h1,h2,h3,h4,h5⟩:=zuk he
 obtain⟨w,ew,rw'⟩:=r.get h2
 have hl:=r.length
 have hn:=zpj
 have fin:EP X pins σ Q w s:=⟨z,H,I,rw',q⟩
 exact subscriptTail_builtinR (x:=w) pl.typeIs slot_tuple_getitem.lookup
  (getItem_tuple (j:=j) (Q:=λr s'=>r=w/\EP X pins σ Q r s') pl (by omega) (by omega) (by rw[qO,<- hl];exact h1) (by simpa using ew) ⟨rfl,fin⟩) hs
theorem zaoh:IxR X rIxS:=by
 intro value slice pins s σ H x y v u Q I rx ry h hs
 obtain⟨z,i,c,rfl,rfl,hz,he,q⟩:=h
 obtain⟨t,rfl⟩:=rx
 obtain⟨t',rfl⟩:=ry
 obtain⟨j,h1,h2,h3,h4,h5⟩:=zuk he
 have hl:z.cps.toList.length=z.length:=by simp[Str.length]
 rw[hl]at h1 h4 h5
 have hn:=zpj
 exact tail_any (typeIs_str s z t) slot_str_getitem.lookup (getItem_str (c:=c) (by
  have e1:decide (i < -(2 ^ 63:Int))=false:=decide_eq_false (by omega)
  have e2:decide (i>=2 ^ 63)=false:=decide_eq_false (by omega)
  rw[e1,e2,Bool.or_false]) (by rw[h1];simpa using h2) ⟨.str ⟨#[c]⟩,H,I.tok _,⟨_,rfl⟩,q⟩) hs
theorem zys(its:List Value)(n j:Nat)(u:Value):Obj.mapSeq (·.setIfInBounds j u) {cls:=.type "list",data:=.seq its.toArray n}={cls:=.type "list",data:=.seq (its.set j u).toArray n}:=by
 simp[Obj.mapSeq]
theorem Inv.lst{pins:List (Addr×Obj)}{σ:St}{H:Hp}{s:Shared}{p:Addr}{xs:List V}(I:Inv X pins σ H s)(h:H p=some (.lst xs)) :
  ∃(its:List Value)(n:Nat),Vals xs its/\s.heap.get? p=some {cls:=.type "list",data:=.seq its.toArray n}/\xs.length<=qS:=by
 obtain⟨z,its,n,r,e⟩:=I.hok p _ h
 exact⟨its,n,r,e,z⟩
theorem Inv.lstUpd{pins:List (Addr×Obj)}{σ:St}{H:Hp}{s:Shared}{p:Addr}{xs ys:List V}{its its':List Value}{n n':Nat}{f:Obj->Obj}(I:Inv X pins σ H s)(h:H p=some (.lst xs))
  (ho:s.heap.get? p=some {cls:=.type "list",data:=.seq its.toArray n}) (hf:f {cls:=.type "list",data:=.seq its.toArray n}={cls:=.type "list",data:=.seq its'.toArray n'}) (r:Vals ys its') (hz:ys.length<=qS) (t:Nat) :
  Inv X pins σ (upd H p (.lst ys)) {s with heap:=s.heap.update p f,toks:=t}:=by
 have e:(s.heap.update p f).get? p=some {cls:=.type "list",data:=.seq its'.toArray n'}:=by
  rw[qBH f ho (by rw[hf]<;>rfl),hf]
 refine I.write (x:=p) (e:=p) (by rw[h];trivial) (.inl rfl) (λb u hb q=>(qCi _ _ (qBB hb)).trans q) ⟨_,e⟩ ?_
 exact⟨hz,its',n',r,e⟩
noncomputable def zake:V->V->V->Hp->(Hp->Prop)->Prop:=λo i v H Q=>∃p xs k j,o=.ref p/\i=.int k/\H p=some (.lst xs)/\ixN xs.length k=some j/\Q (upd H p (.lst (xs.set j v)))
theorem zafb:PSet X zake:=by
 intro pins s σ H o i v ov iv u Q I ro ri rv h
 obtain⟨p,xs,k,j,rfl,rfl,hp,hj,q⟩:=h
 cases ro
 obtain⟨t,rfl⟩:=ri
 obtain⟨its,n,r,ho,hz⟩:=I.lst hp
 obtain⟨h1,h2,h3,h4⟩:=zaak hj
 have hl:=r.length
 have hn:=zpj
 have I':Inv X pins σ (upd H p (.lst (xs.set j v))) {s with heap:=s.heap.update p (Obj.mapSeq (·.setIfInBounds j u))}:=
  I.lstUpd hp ho (zys its n j u) (r.set rv j) (by rw[qf];exact hz) s.toks
 by_cases h0:0<=k
 ·have hk:k.toNat=j:=by
   rw[seqIndex_of h0 h4]at h1
   exact qR h1
  exact PySem.W.ki_setAt ho h0 (by omega) (by rw[qO,<- hl];exact h4) (by rw[hk];exact⟨_,I',q⟩)
 ·have hk:(k+(its.toArray.size:Int)).toNat=j:=by
   rw[seqIndex_neg (by omega) h3]at h1
   rw[qO,<- hl]
   exact qR h1
  exact PySem.W.ki_setBack ho (by omega) (by rw[qO,<- hl];exact h3) (by omega) (by rw[hk];exact⟨_,I',q⟩)
theorem zsa(lo hi:Option Int)(n:Nat):(sliceBounds lo hi none n).1=((HT.sIx n 0 lo:Nat):Int)/\(sliceBounds lo hi none n).2.1=((HT.sIx n n hi:Nat):Int)/\(sliceBounds lo hi none n).2.2=1:=by
 refine⟨?_,?_,rfl⟩
 ·cases lo with
  | none=>simp[sliceBounds,HT.sIx]
  | some i=>
   simp only[sliceBounds,HT.sIx,Option.getD_none,show(1:Int) > 0 by decide,if_true]
   by_cases h:i<0
   ·simp only[h,if_true]<;>omega
   ·simp only[h,if_false]<;>omega
 ·cases hi with
  | none=>simp[sliceBounds,HT.sIx]
  | some i=>
   simp only[sliceBounds,HT.sIx,Option.getD_none,show(1:Int) > 0 by decide,if_true]
   by_cases h:i<0
   ·simp only[h,if_true]<;>omega
   ·simp only[h,if_false]<;>omega
theorem zqp(its:List Value)(lo hi:Option Int):slicePick its.toArray lo hi none=((its.drop (HT.sIx its.length 0 lo)).take (HT.sIx its.length its.length hi - HT.sIx its.length 0 lo)).toArray:=by
 obtain⟨h1,h2,h3⟩:=zsa lo hi its.toArray.size
 unfold slicePick
 rw[h1,h2,h3]
 simp only[sliceRange_one,pick_run,qO]<;>rfl
noncomputable def rSlL(K:qC):V->Option Int->Option Int->Hp->VK->Prop:=λx lo hi H Q=>∃a xs,x=.ref a/\SqL K H a xs/\∀p,H p=none->Q (.ref p) (upd H p (.lst (cutV xs lo hi)))
theorem zakf:SlR X (rSlL X.K):=by
 intro pins s σ H x v vl vu lo hi sl Q I rx hs pl pu h
 obtain⟨a,xs,rfl,hx,q⟩:=h
 cases rx
 obtain⟨its,r,ht,hz⟩:=I.list hx
 have hlen:=r.length
 refine⟨"list",_,slot_list_getitem.lookup,ht.isList.typeIs,?_⟩
 refine wpAny_getItem_list_slice ht.isList hs pl pu .none (by simp) ?_ (by rw[qO]<;>omega)
 rw[zqp,<- hlen]
 refine⟨.ref s.heap.objs.size,_,I.laid (t':=s.toks) (o:=.lst (cutV xs lo hi)) (λb ob q=>qL _ q) (qK _) ?_,rfl,q _ (I.hok.fresh (qK _))⟩
 exact⟨qAM (zmz xs lo hi) hz,_,0,(r.drop (HT.sIx xs.length 0 lo)).take (HT.sIx xs.length xs.length hi - HT.sIx xs.length 0 lo),qg _ rfl⟩
noncomputable def zot:V->Bool
 | .non=>true
 | .bl _=>true
 | .int _=>true
 | .str _=>true
 | _=>false
noncomputable def eqV:V->V->Bool
 | .non,.non=>true
 | .bl a,.bl b=>a==b
 | .bl a,.int b=>(if a then 1 else 0)==b
 | .int a,.bl b=>a==(if b then 1 else 0)
 | .int a,.int b=>a==b
 | .str a,.str b=>a==b
 | _,_=>false
theorem zaoi{A:Around}{s:Shared}{y x:V}{u v:Value}(ry:RelV y u)(rx:RelV x v)(fy:zot y=true)(fx:zot x=true):SeqAt.EqAt A s u v (eqV y x):=by
 cases y with
 | non=>
  cases ry
  cases x with
  | non=>cases rx;exact SeqAt.EqAt.same _
  | bl b=>cases rx;exact SeqAt.EqAt.none_bool b
  | int b=>obtain⟨t,rfl⟩:=rx;exact SeqAt.EqAt.none_int b t
  | str b=>obtain⟨t,rfl⟩:=rx;exact SeqAt.EqAt.none_str b t
  | _=>exact absurd (show false=true from fx) qI
 | bl a=>
  cases ry
  cases x with
  | non=>cases rx;exact SeqAt.EqAt.bool_none a
  | bl b=>cases rx;exact SeqAt.EqAt.bool_bool a b
  | int b=>obtain⟨t,rfl⟩:=rx;exact SeqAt.EqAt.bool_int a b t
  | str b=>obtain⟨t,rfl⟩:=rx;exact SeqAt.EqAt.bool_str a b t
  | _=>exact absurd (show false=true from fx) qI
 | int a=>
  obtain⟨t',rfl⟩:=ry
  cases x with
  | non=>cases rx;exact SeqAt.EqAt.int_none a t'
  | bl b=>cases rx;exact SeqAt.EqAt.int_bool a t' b
  | int b=>obtain⟨t,rfl⟩:=rx;exact SeqAt.EqAt.int_int a t' b t
  | str b=>obtain⟨t,rfl⟩:=rx;exact qCY a t' b t
  | _=>exact absurd (show false=true from fx) qI
 | str a=>
  obtain⟨t',rfl⟩:=ry
  cases x with
  | non=>cases rx;exact SeqAt.EqAt.str_none a t'
  | bl b=>cases rx;exact SeqAt.EqAt.str_bool a t' b
  | int b=>obtain⟨t,rfl⟩:=rx;exact qCX a t' b t
  | str b=>obtain⟨t,rfl⟩:=rx;exact SeqAt.EqAt.str_str a t' b t
  | _=>exact absurd (show false=true from fx) qI
 | _=>exact absurd (show false=true from fy) qI
noncomputable def eqU(x:V)(u:Value):Bool:=match u with
 | .none=>eqV .non x
 | .bool b=>eqV (.bl b) x
 | .int i _=>eqV (.int i) x
 | .str z _=>eqV (.str z) x
 | _=>false
theorem zaib{x y:V}{u:Value}(r:RelV y u)(f:zot y=true):eqU x u=eqV y x:=by
 cases y with
 | non=>cases r;rfl
 | bl b=>cases r;rfl
 | int i=>obtain⟨t,rfl⟩:=r;rfl
 | str z=>obtain⟨t,rfl⟩:=r;rfl
 | _=>exact absurd (show false=true from f) qI
theorem zna{x:V}:∀{xs:List V}{us:List Value},Vals xs us->xs.all zot=true->us.any (eqU x)=xs.any λy=>eqV y x
 | _,_,.nil,_=>rfl
 | y::xs,u::us,.cons r t,f=>by
  rw[qBN,q9]at f
  rw[qAY,qAY,zaib r f.1,zna t f.2]
theorem zjl{A:Around}{s:Shared}{x:V}{v:Value}(rx:RelV x v)(fx:zot x=true):∀{xs:List V}{us:List Value},Vals xs us->xs.all zot=true->∀u∈us,SeqAt.EqAt A s u v (eqU x u)
 | _,_,.nil,_=>λu hu=>by cases hu
 | y::xs,u::us,.cons r t,f=>λu' hu=>by
  rw[qBN,q9]at f
  rcases qX.mp hu with rfl|hu
  ·rw[zaib r f.1];exact zaoi r rx f.1 fx
  ·exact zjl rx fx t f.2 u' hu
noncomputable def inV(x:V)(xs:List V):Bool:=xs.any λy=>eqV y x
noncomputable def rIn(K:qC)(neg:Bool):R2:=λx y H Q=>∃p xs,y=.ref p/\(SqL K H p xs\/SqT K H p xs)/\zot x=true/\xs.all zot=true/\Q (.bl (if neg then !inV x xs else inV x xs)) H
theorem zaal:OpR X (compareOp .In) (rIn X.K false):=by
 intro pins s σ H x y v u Q I rx ry h
 obtain⟨p,xs,rfl,hq,fx,fs,q⟩:=h
 cases ry
 rcases hq with hq|hq
 ·obtain⟨its,r,pl,hz⟩:=I.list hq
  refine SeqAt.in_listAt (eqU x) pl.isList (λw hw=>zjl rx fx r fs w (by simpa using hw)) ⟨.bl _,H,I,rfl,?_⟩
  rw[show its.toArray.any (eqU x)=its.any (eqU x) by simp,zna r fs]
  exact q
 ·obtain⟨its,r,pl,hz⟩:=I.tuple hq
  refine SeqAt.in_tupleAt (eqU x) pl (λw hw=>zjl rx fx r fs w (by simpa using hw)) ⟨.bl _,H,I,rfl,?_⟩
  rw[show its.toArray.any (eqU x)=its.any (eqU x) by simp,zna r fs]
  exact q
theorem zsb:OpR X (compareOp .NotIn) (rIn X.K true):=by
 intro pins s σ H x y v u Q I rx ry h
 obtain⟨p,xs,rfl,hq,fx,fs,q⟩:=h
 cases ry
 rcases hq with hq|hq
 ·obtain⟨its,r,pl,hz⟩:=I.list hq
  refine SeqAt.notIn_listAt (eqU x) pl.isList (λw hw=>zjl rx fx r fs w (by simpa using hw)) ⟨.bl _,H,I,rfl,?_⟩
  rw[show its.toArray.any (eqU x)=its.any (eqU x) by simp,zna r fs]
  exact q
 ·obtain⟨its,r,pl,hz⟩:=I.tuple hq
  refine SeqAt.notIn_tupleAt (eqU x) pl (λw hw=>zjl rx fx r fs w (by simpa using hw)) ⟨.bl _,H,I,rfl,?_⟩
  rw[show its.toArray.any (eqU x)=its.any (eqU x) by simp,zna r fs]
  exact q
theorem zsc:CallR X (.type "list") (λxs H Q=>∃p ys,xs=[.ref p]/\(SqL X.K H p ys\/SqT X.K H p ys)/\∀l,H l=none->Q (.ref l) (upd H l (.lst ys))):=by
 intro pins s σ H xs us Q I r h
 obtain⟨p,ys,rfl,hq,q⟩:=h
 obtain⟨u,rfl,rx⟩:=zru r
 cases rx
 have fin:∀(its:List Value),Vals ys its->ys.length<=qS->∀(h':Heap)(c':Nat),(∀b o',s.heap.get? b=some o'->h'.get? b=some o')->
   h'.get? s.heap.objs.size=some {cls:=.type "list",dict:=none,data:=.seq its.toArray c',slots:=#[]}->EP X pins σ Q (.ref s.heap.objs.size) {s with heap:=h'}:=λits r' hz h' c' kp e=>
  ⟨.ref s.heap.objs.size,_,I.laid (t':=s.toks) kp (qK _) (show zdf X.prog X.w _ h' _ (.lst ys)from⟨hz,its,c',r',e⟩),rfl,q _ (I.hok.fresh (qK _))⟩
 rcases hq with hq|hq
 ·obtain⟨its,r',pl,hz⟩:=I.list hq
  have hlen:=r'.length
  obtain⟨o,ho,hc,n,hd⟩:=pl.isList
  exact call_list_seq p (.inl rfl) ho hc hd (λh' c' kp e=>fin its r' hz h' c' kp e) (by simp only[qO]<;>omega)
 ·obtain⟨its,r',pl,hz⟩:=I.tuple hq
  have hlen:=r'.length
  obtain⟨o,ho,hc,n,hd⟩:=pl
  exact call_list_seq p (.inr rfl) ho hc hd (λh' c' kp e=>fin its r' hz h' c' kp e) (by simp only[qO]<;>omega)
theorem zqq:CallR X (.type "tuple") (λxs H Q=>∃p ys,xs=[.ref p]/\((SqL X.K H p ys/\∀l,H l=none->Q (.ref l) (upd H l (.tup ys)))\/(SqT X.K H p ys/\Q (.ref p) H))):=by
 intro pins s σ H xs us Q I r h
 obtain⟨p,ys,rfl,h⟩:=h
 obtain⟨u,rfl,rx⟩:=zru r
 cases rx
 rcases h with⟨hq,q⟩|⟨hq,q⟩
 ·obtain⟨its,r',pl,hz⟩:=I.list hq
  have hlen:=r'.length
  refine call_tuple_list pl.isList (λh' kp=>?_) (by simp only[qO]<;>omega)
  have I1:Inv X pins σ H {s with heap:=h'}:=I.kept (t':=s.toks) kp
  have I2:Inv X pins σ (upd H h'.objs.size (.tup ys)) {s with heap:=h'.push {cls:=.type "tuple",data:=.seq its.toArray}}:=
   I1.laid (t':=s.toks) (λb o e=>qL _ e) (qK _) (show zdf X.prog X.w _ _ _ (.tup ys)from⟨hz,its,r',IsTup.new _ _⟩)
  exact⟨.ref h'.objs.size,_,I2,rfl,q _ (I1.hok.fresh (qK _))⟩
 ·obtain⟨its,r',pl,hz⟩:=I.tuple hq
  exact call_tuple_same pl ⟨.ref p,H,I,rfl,q⟩
noncomputable def tyV(K:qC)(T:String)(x:V)(H:Hp):Prop:=match x with
 | .str _=>T="str"
 | .int _=>T="int"
 | .ref p=>(T="list"/\∃xs,SqL K H p xs)\/(T="tuple"/\∃o,K.lookup p=some o/\o.cls=.type "tuple"/\o.dict=none)\/
   (T="dict"/\((∃kvs,H p=some (.dK kvs))\/∃kvs,H p=some (.dT kvs)))\/(T="set"/\∃S n,H p=some (.set S n))
 | _=>False
theorem zaoj{pins:List (Addr×Obj)}{σ:St}{H:Hp}{s:Shared}{T:String}{x:V}{v:Value}(I:Inv X pins σ H s)(r:RelV x v)(ty:tyV X.K T x H) :
  s.TypeIs v T/\∀a,v=.ref a->∃ob,s.heap.get? a=some ob/\ob.dict=none:=by
 cases x with
 | str z=>
  obtain⟨t,rfl⟩:=r
  cases(show T="str"from ty)
  exact⟨typeIs_str s z t,λ_ e=>nomatch e⟩
 | int i=>
  obtain⟨t,rfl⟩:=r
  cases(show T="int"from ty)
  exact⟨typeIs_int s i t,λ_ e=>nomatch e⟩
 | ref p=>
  cases r
  rcases ty with⟨rfl,xs,hq⟩|⟨rfl,o,hk,hc,hd⟩|⟨rfl,hk⟩|⟨rfl,S,n,hk⟩
  ·obtain⟨its,_,pl,_⟩:=I.list hq
   refine⟨pl.isList.typeIs,λa e=>?_⟩
   cases e
   obtain⟨o,n,e,c,hd,_⟩:=pl
   exact⟨o,e,hd⟩
  ·refine⟨⟨o,I.kIn p o hk,hc⟩,λa e=>?_⟩
   cases e
   exact⟨o,I.kIn _ o hk,hd⟩
  ·have z:∃o,s.heap.get? p=some o/\o.ExactDict:=by
    rcases hk with⟨kvs,hk⟩|⟨kvs,hk⟩
    ·obtain⟨_,_,_,_,o,_,_,e,ex,_⟩:=I.hok p _ hk
     exact⟨o,e,ex⟩
    ·obtain⟨_,_,_,_,o,_,_,e,ex,_⟩:=I.hok p _ hk
     exact⟨o,e,ex⟩
   obtain⟨o,e,ex⟩:=z
   refine⟨⟨o,e,ex.1⟩,λa e2=>?_⟩
   cases e2
   exact⟨o,e,ex.2.1⟩
  ·obtain⟨o,_,_,_,e,ex,_⟩:=I.hok p _ hk
   refine⟨⟨o,e,ex.1⟩,λa e2=>?_⟩
   cases e2
   exact⟨o,e,ex.2.1⟩
 | _=>exact False.elim ty
noncomputable def tBM(K:qC)(T:String)(r:V->List V->Hp->VK->Prop)(to:TE)(t:TA):TE:=λσ H Q=>to σ H λx H1=>tyV K T x H1/\t σ H1 λxs H2=>r x xs H2 Q
variable{o e:Expr}{es:List Expr}{to:TE}{t:TA}{name:Str}{apos cpos:Pos}{T id:String}{r:V->List V->Hp->VK->Prop}
theorem zarj(pa:PlainAttrs T)(slot:Slot T name id)(hty:typeOf (.builtin id)=pure (.type "method_descriptor"))(hm:MtR X id r)(ho:PE X o to)(ha:PA X (e::es) t)
  (hbase:attributeBase o name X.env (eval o X.env)=eval o X.env:=by rfl)
  (hfew:((backTo cpos (starEach (e::es) X.env)).all (λx=>!x.1)&&(backToKw cpos (keywordEach [] X.env)).all (λx=>x.1.isSome)
   && decide ((e::es).length+([]:List Keyword).length+(if([]:List Keyword).isEmpty then 0 else 1)<30))=true:=by rfl)
  (hline:(apos.endLine==cpos.line)=true:=by rfl)(hs:starEach (e::es) X.env=(false,eval e X.env)::starEach es X.env:=by rfl)(hplain:(backTo cpos (starEach es X.env)).any (·.1)=false:=by rfl) :
  PE X (.Call (.Attribute o name apos) (e::es) [] cpos) (tBM X.K T r to t):=by
 intro pins s σ H Q I h
 refine wpAny_Call_method_late hbase hfew hline rfl (thn (ho pins s σ H _ I h) λv s1 ⟨x,H1,I1,r1,ty,q1⟩=>?_)
 obtain⟨h1,h2⟩:=zaoj I1 r1 ty
 refine⟨T,id,pa,slot,hty,h1,h2,?_⟩
 have hA:=ha cpos pins s1 σ H1 _ I1 q1
 rw[hs]at hA ⊢
 refine Calls.callWith_builtin (by show(false||(backTo cpos (starEach es X.env)).any (·.1))=false;rw[hplain]<;>rfl) (Calls.evalArgs_plain ?_)
 exact thn hA λus s2 ⟨vs,H2,I2,r2,q2⟩=>hm pins s2 σ H2 x vs v us Q I2 r1 r2 q2
end
noncomputable def MtM(X:Cx)(id:String)(r:V->List V->Hp->VK->Prop):Prop:=
 ∀(pins:List (Addr×Obj))(s:Shared)(σ:St)(H:Hp)(x:V)(xs:List V)(v:Value)(us:List Value)(Q:VK),Inv X pins σ H s->RelV x v->Vals xs us->r x xs H Q->
  wpAny (model X.prog X.w) X.A (call (.builtin id) (v::us)) (EP X pins σ Q) X.xe s
theorem Vals.one:∀{x:V}{us:List Value},Vals [x] us->∃u,us=[u]/\RelV x u
 | _,_,.cons r .nil=>⟨_,rfl,r⟩
section
variable{X:Cx}{pins:List (Addr×Obj)}{σ:St}{H:Hp}{s:Shared}{l b:Addr}{xs ys zs:List V}
theorem Inv.lset{its its':List Value}{n:Nat}{f:Array Value->Array Value}{t':Nat}(I:Inv X pins σ H s)(hH:H l=some (.lst xs))
  (e:s.heap.get? l=some {cls:=.type "list",data:=.seq its.toArray n}) (hf:f its.toArray=its'.toArray) (hv:Vals ys its') (hz:ys.length<=qS) :
  Inv X pins σ (upd H l (.lst ys)) {s with heap:=s.heap.update l (Obj.mapSeq f),toks:=t'}:=by
 have q:=PySem.IsL.update e f
 rw[hf]at q
 refine I.write (x:=l) (e:=l) (by rw[hH];exact trivial) (.inl rfl) (λb' u hb hu=>(qCi s.heap (Obj.mapSeq f) (qBB hb)).trans hu) ⟨_,q⟩ ?_
 exact⟨hz,its',_,hv,q⟩
theorem Inv.lnew{its:List Value}{t':Nat}(I:Inv X pins σ H s)(hv:Vals ys its)(hz:ys.length<=qS) :
  Inv X pins σ (upd H s.heap.objs.size (.lst ys)) {s with heap:=s.heap.push {cls:=.type "list",data:=.seq its.toArray},toks:=t'}:=
 I.laid (λ_ _ q=>qL _ q) (qK _) ⟨hz,its,0,hv,qg _ rfl⟩
theorem Inv.fresh(I:Inv X pins σ H s):H s.heap.objs.size=none:=I.hok.fresh (qK _)
theorem Inv.lstM(I:Inv X pins σ H s)(hH:H l=some (.lst xs)):xs.length<=qS/\∃(its:List Value)(n:Nat),Vals xs its/\xs.length=its.length/\s.heap.get? l=some {cls:=.type "list",data:=.seq its.toArray n}:=by
 obtain⟨z,its,n,r,e⟩:=I.hok l _ hH
 exact⟨z,its,n,r,r.length,e⟩
theorem zafc{n:Nat}(h:n<=qS):Builtin.List.listTooLong n=false:=by
 unfold Builtin.List.listTooLong
 exact decide_eq_false (by omega)
end
section
variable{X:Cx}
noncomputable def zaam:V->List V->Hp->VK->Prop:=λx vs H Q=>∃l xs y,x=.ref l/\vs=[y]/\H l=some (.lst xs)/\xs.length<qS/\Q .non (upd H l (.lst (xs++[y])))
theorem zfb:MtM X "list.append" zaam:=by
 intro pins s σ H x vs v us Q I rx rv h
 obtain⟨l,xs,y,rfl,rfl,hH,hz,q⟩:=h
 cases rx
 obtain⟨u,rfl,ru⟩:=rv.one
 obtain⟨z,its,n,r,hl,e⟩:=I.lstM hH
 refine call_meets F.slot_list_append ⟨_,e,rfl⟩ F.entry_list_append (F.args_list_append_2 _ _) (PySem.list_append l its.toArray n u (by rw[qO];omega)) ⟨e,?_⟩
 refine⟨.non,_,I.lset (its':=its++[u]) hH e (by simp) (r.append (.cons ru .nil)) ?_,rfl,q⟩
 rw[qQ,qCl]
 omega
noncomputable def zakg:V->List V->Hp->VK->Prop:=λx vs H Q=>∃l b xs zs,x=.ref l/\vs=[.ref b]/\H l=some (.lst xs)/\H b=some (.lst zs)/\xs.length+zs.length<=qS/\Q .non (upd H l (.lst (xs++zs)))
theorem zaok:MtM X "list.extend" zakg:=by
 intro pins s σ H x vs v us Q I rx rv h
 obtain⟨l,b,xs,zs,rfl,rfl,hH,hB,hz,q⟩:=h
 cases rx
 obtain⟨u,rfl,ru⟩:=rv.one
 cases ru
 obtain⟨z,its,n,r,hl,e⟩:=I.lstM hH
 obtain⟨z2,its2,n2,r2,hl2,e2⟩:=I.lstM hB
 have hsz:its.toArray.size+its2.toArray.size<=qS:=by rw[qO,qO];omega
 have hlong:¬(!its.toArray.isEmpty&&Builtin.List.listTooLong (its.toArray.size+its2.toArray.size))=true:=by
  rw[zafc hsz,Bool.and_false]
  exact qI
 refine call_meets F.slot_list_extend ⟨_,e,rfl⟩ F.entry_list_extend (F.args_list_extend_2 _ _)
  (AutoSeq1.list_extend_list_list_0 l its.toArray n b its2.toArray n2 hlong (by rw[qO];omega) (by omega)) ⟨e,e2,?_⟩
 refine⟨.non,_,I.lset (its':=its++its2) hH e (by simp) (r.append r2) ?_,rfl,q⟩
 rw[qQ]
 omega
noncomputable def rCat:R2:=λx y H Q=>∃l b xs zs,x=.ref l/\y=.ref b/\H l=some (.lst xs)/\H b=some (.lst zs)/\xs.length+zs.length<=qS/\∀p,H p=none->Q (.ref p) (upd H p (.lst (xs++zs)))
theorem zaol:OpR X (binaryOp .Add) rCat:=by
 intro pins s σ H x y v u Q I rx ry h
 obtain⟨l,b,xs,zs,rfl,rfl,hH,hB,hz,q⟩:=h
 cases rx
 cases ry
 obtain⟨z,its,n,r,hl,e⟩:=I.lstM hH
 obtain⟨z2,its2,n2,r2,hl2,e2⟩:=I.lstM hB
 refine PySem.P.add_list e e2 ?_ (by rw[qO,qO];omega)
 have ea:its.toArray++its2.toArray=(its++its2).toArray:=by simp
 rw[ea]
 exact⟨.ref _,_,I.lnew (t':=s.toks) (r.append r2) (by rw[qQ];omega),rfl,q _ I.fresh⟩
end
section
variable{prog:Program}{w:World}{A:Around}{E:Value->Shared->Prop}{s:Shared}
set_option maxRecDepth 100000 in
end
section
variable{κ:Type}[DecidableEq κ]
noncomputable def valV(kvs:List (κ×V))(k:κ):Option V:=(kvs.find? λkv=>decide (kv.1=k)).map (·.2)
noncomputable def putK(kvs:List (κ×V))(k:κ)(v:V):List (κ×V):=
 if(kvs.any λkv=>decide (kv.1=k))=true then kvs.map (λkv=>if kv.1=k then(kv.1,v)else kv)else kvs++[(k,v)]
theorem zmn{p:κ×V}{r:List (κ×V)}{k:κ}(e:p.1=k):valV (p::r) k=some p.2:=by simp[valV,qA1,e]
theorem zmo{p:κ×V}{r:List (κ×V)}{k:κ}(e:¬p.1=k):valV (p::r) k=valV r k:=by simp[valV,qA1,e]
theorem zwm(k:κ):∀kvs:List (κ×V),(kvs.any λkv=>decide (kv.1=k))=(valV kvs k).isSome
 | []=>rfl
 | p::r=>by
  rw[qAY]
  by_cases e:p.1=k
  ·simp only[zmn e,decide_eq_true e,Bool.true_or,qCp]
  ·rw[zmo e,decide_eq_false e,qCd];exact zwm k r
theorem zja(kvs:List (κ×V))(k:κ)(v:V):(putK kvs k v).length<=kvs.length+1:=by
 unfold putK
 split
 ·rw[qD];omega
 ·rw[qQ,qj,qCG];omega
theorem RelO.isSome_eq{o:Option V}{u:Option Value}(r:RelO o u):o.isSome=u.isSome:=by
 cases o with
 | none=>cases u with
  | none=>rfl
  | some _=>exact(show False from r).elim
 | some _=>cases u with
  | none=>exact(show False from r).elim
  | some _=>rfl
theorem KV.val{kvs:List (κ×V)}{vs:List (κ×Value)}(r:KV kvs vs)(k:κ):RelO (valV kvs k) (valueAt vs k):=by
 unfold KV at r
 induction r with
 | nil=>exact True.intro
 | @cons p q ps qs h t ih=>
  obtain⟨h1,h2⟩:=h
  by_cases e:p.1=k
  ·have e':q.1=k:=h1.symm.trans e
   have b:valueAt (q::qs) k=some q.2:=by simp[valueAt,qA1,e']
   rw[zmn e,b];exact h2
  ·have e':¬q.1=k:=λz=>e (h1.trans z)
   have b:valueAt (q::qs) k=valueAt qs k:=by simp[valueAt,qA1,e']
   rw[zmo e,b];exact ih
theorem KV.any{kvs:List (κ×V)}{vs:List (κ×Value)}(r:KV kvs vs)(k:κ):(kvs.any λkv=>decide (kv.1=k))=vs.any λkv=>decide (kv.1=k):=by
 unfold KV at r
 induction r with
 | nil=>rfl
 | cons h t ih=>rw[qAY,qAY,ih,h.1]
theorem KV.repl{kvs:List (κ×V)}{vs:List (κ×Value)}(r:KV kvs vs)(k:κ){y:V}{u:Value}(ry:RelV y u) :
  KV (kvs.map λkv=>if kv.1=k then(kv.1,y)else kv) (vs.map λkv=>if kv.1=k then(kv.1,u)else kv):=by
 unfold KV at r ⊢
 induction r with
 | nil=>exact .nil
 | @cons p q ps qs h t ih=>
  rw[qU,qU]
  refine .cons ?_ ih
  obtain⟨h1,h2⟩:=h
  by_cases e:p.1=k
  ·rw[if_pos e,if_pos (h1.symm.trans e)];exact⟨h1,ry⟩
  ·rw[if_neg e,if_neg (λz=>e (h1.trans z))];exact⟨h1,h2⟩
theorem KV.put{kvs:List (κ×V)}{vs:List (κ×Value)}(r:KV kvs vs)(k:κ){y:V}{u:Value}(ry:RelV y u):KV (putK kvs k y) (stored vs k u):=by
 unfold putK stored
 rw[r.any k]
 by_cases e:(vs.any λkv=>decide (kv.1=k))=true
 ·rw[if_pos e,if_pos e];exact r.repl k ry
 ·rw[if_neg e,if_neg e];exact qCk r ⟨rfl,ry⟩
theorem KV.length{kvs:List (κ×V)}{vs:List (κ×Value)}(r:KV kvs vs):kvs.length=vs.length:=qAy r
end
theorem zyt{P:Program}{w:World}{k:Key}{u:Value}(r:RelV (kV k) u):(zar P w).is k u=true:=by
 cases k with
 | inl i=>obtain⟨t,e⟩:=(show ∃t,u=Value.int i t from r);subst e;exact zug P w i t
 | inr x=>obtain⟨t,e⟩:=(show ∃t,u=Value.str x t from r);subst e;exact zuh P w x t
theorem zsd{P:Program}{w:World}:∀{ks:List Key}{us:List Value},Vals (ks.map kV) us->ItemsAre (zar P w) ks us
 | [],_,r=>by rw[qA9]at r;cases r;exact .nil
 | k::ks,_,r=>by
  rw[qU]at r
  cases r with
  | cons h t=>exact .cons (zyt h) (zsd t)
noncomputable abbrev KT(H:Hp):List (List Key×V)->List (List Key×Addr×Value)->Prop:=Paired λp q=>p.1=q.1/\H q.2.1=some (.tup (p.1.map kV))/\RelV p.2 q.2.2
theorem KT.val{H:Hp}{kvs:List (List Key×V)}{xs:List (List Key×Addr×Value)}(r:KT H kvs xs)(k:List Key):RelO (valV kvs k) ((atKey xs k).map (·.2)):=by
 induction r with
 | nil=>exact True.intro
 | @cons p q ps qs h t ih=>
  obtain⟨h1,_,h2⟩:=h
  by_cases e:p.1=k
  ·have e':q.1=k:=h1.symm.trans e
   have b:atKey (q::qs) k=some q.2:=by simp[atKey,qA1,e']
   rw[zmn e,b];exact h2
  ·have e':¬q.1=k:=λz=>e (h1.trans z)
   have b:atKey (q::qs) k=atKey qs k:=by simp[atKey,qA1,e']
   rw[zmo e,b];exact ih
theorem KT.repl{H:Hp}{kvs:List (List Key×V)}{xs:List (List Key×Addr×Value)}(r:KT H kvs xs)(k:List Key){y:V}{u:Value}(ry:RelV y u) :
  KT H (kvs.map λkv=>if kv.1=k then(kv.1,y)else kv) (xs.map (putAt k u)):=by
 induction r with
 | nil=>exact .nil
 | @cons p q ps qs h t ih=>
  rw[qU,qU]
  refine .cons ?_ ih
  obtain⟨h1,h2,h3⟩:=h
  unfold putAt
  by_cases e:p.1=k
  ·rw[if_pos e,if_pos (h1.symm.trans e)];exact⟨h1,h2,ry⟩
  ·rw[if_neg e,if_neg (λz=>e (h1.trans z))];exact⟨h1,h2,h3⟩
theorem KT.put{H:Hp}{kvs:List (List Key×V)}{xs:List (List Key×Addr×Value)}(r:KT H kvs xs)(k:List Key){b:Addr}{y:V}{u:Value}(hb:H b=some (.tup (k.map kV)))(ry:RelV y u) :
  KT H (putK kvs k y) (storedH xs k b u):=by
 have e:(kvs.any λkv=>decide (kv.1=k))=(atKey xs k).isSome:=by
  rw[zwm,(r.val k).isSome_eq,qCw]
 unfold putK storedH
 rw[e]
 by_cases q:(atKey xs k).isSome=true
 ·rw[if_pos q,if_pos q];exact r.repl k ry
 ·rw[if_neg q,if_neg q];exact qCk r ⟨rfl,hb,ry⟩
theorem KT.keeps{H H':Hp}{kvs:List (List Key×V)}{xs:List (List Key×Addr×Value)}(r:KT H kvs xs)(ht:∀b ys,H b=some (.tup ys)->H' b=some (.tup ys)):KT H' kvs xs:=
 Paired.mapP r λ_ _ z=>⟨z.1,ht _ _ z.2.1,z.2.2⟩
section
variable{P:Program}{w:World}{H:Hp}{h:Heap}{a:Addr}
theorem zaom{u:HO}(ok:HOk P w H h)(e:Rd H a u):zdf P w H h a u:=e.ok ok
theorem zafd{kvs:List (Key×V)}(ok:HOk P w H h)(e:Rd H a (.dK kvs)):kvs.length<=qS/\(a==sysModules)=false/\∃vs,KV kvs vs/\h.DictOf (zar P w) a vs:=
 show zdf P w H h a (.dK kvs)from zaom ok e
theorem zaan{kvs:List (Key×V)}(ok:HOk P w H h)(e:H a=some (.dK kvs)):kvs.length<=qS/\(a==sysModules)=false/\∃vs,KV kvs vs/\h.DictOf (zar P w) a vs:=zafd ok (.inl e)
theorem zse{ks:List Key}(ok:HOk P w H h)(e:H a=some (.tup (ks.map kV))):(tupleKind (zar P w)).is h ks a:=by
 obtain⟨_,its,r,o,h1,h2,n,h3⟩:=(show zdf P w H h a (.tup (ks.map kV))from ok a _ e)
 exact⟨o,its.toArray,n,h1,h2,h3,by simpa using zsd r⟩
theorem zafe{kvs:List (List Key×V)}(ok:HOk P w H h)(e:Rd H a (.dT kvs)):kvs.length<=qS/\(a==sysModules)=false/\
  ∃xs,KT H kvs xs/\h.DictOfH (tupleKind (zar P w)) a xs:=by
 obtain⟨z,y,xs,r,o,es,ep,h1,h2,h3,h4,h5⟩:=(show zdf P w H h a (.dT kvs)from zaom ok e)
 refine⟨z,y,xs,r,o,es,ep,h1,h2,h3,h4,λx hx=>?_,h5⟩
 have all:∀{l:List (List Key×V)}{m:List (List Key×Addr×Value)},KT H l m->∀x∈m,(tupleKind (zar P w)).is h x.1 x.2.1:=by
  intro l m q
  induction q with
  | nil=>intro x hx;exact nomatch hx
  | @cons p q ps qs hq t ih=>
   intro x hx
   rcases qX.mp hx with e|hx
   ·subst e
    exact zse ok (by rw[<- hq.1];exact hq.2.1)
   ·exact ih x hx
 exact all r x hx
theorem zark{kvs:List (List Key×V)}(ok:HOk P w H h)(e:H a=some (.dT kvs)):kvs.length<=qS/\(a==sysModules)=false/\
  ∃xs,KT H kvs xs/\h.DictOfH (tupleKind (zar P w)) a xs:=zafe ok (.inl e)
end
noncomputable def DGet(H:Hp)(a:Addr)(y:V)(r:Option V):Prop:=
 (∃kvs k,Rd H a (.dK kvs)/\y=kV k/\r=valV kvs k)\/∃kvs k b,Rd H a (.dT kvs)/\y=.ref b/\H b=some (.tup (k.map kV))/\r=valV kvs k
noncomputable def DPut(H:Hp)(a:Addr)(y v:V)(H':Hp):Prop:=
 (∃kvs k,H a=some (.dK kvs)/\y=kV k/\kvs.length<qS/\H'=upd H a (.dK (putK kvs k v)))\/
 ∃kvs k b,H a=some (.dT kvs)/\y=.ref b/\H b=some (.tup (k.map kV))/\kvs.length<qS/\H'=upd H a (.dT (putK kvs k v))
theorem DGet.k{H:Hp}{a:Addr}{kvs:List (Key×V)}{k:Key}(e:H a=some (.dK kvs)):DGet H a (kV k) (valV kvs k):=.inl ⟨kvs,k,.inl e,rfl,rfl⟩
theorem DPut.k{H:Hp}{a:Addr}{kvs:List (Key×V)}{k:Key}{v:V}(e:H a=some (.dK kvs))(hl:kvs.length<qS):DPut H a (kV k) v (upd H a (.dK (putK kvs k v))):=.inl ⟨kvs,k,e,rfl,hl,rfl⟩
section
variable{X:Cx}{pins:List (Addr×Obj)}{σ:St}{H:Hp}{s:Shared}{a:Addr}{y v:V}{u r:Value}{o:Option V}{A:Around}{E:Value->Shared->Prop}
theorem Inv.big(I:Inv X pins σ H s):sysModules<s.heap.objs.size:=by
 have h:qq<s.heap.objs.size:=(I.mod.glob.keeps I.bk).lt
 exact Nat.lt_trans (by decide) h
theorem zaao{Q:Value->Shared->Prop}(hu:A.units+1<cLine)(I:Inv X pins σ H s)(g:DGet H a y (some v))(ry:RelV y u)(h:∀w' s',Inv X pins σ H s'->RelV v w'->Q w' s') :
  wpAny (model X.prog X.w) A (getItem (.ref a) u) Q E s:=by
 rcases g with⟨kvs,k,e,ey,l⟩|⟨kvs,k,b,e,ey,eb,l⟩
 ·subst ey
  obtain⟨z,hd,vs,rel,dd⟩:=zafd I.hok e
  obtain⟨w',hw,rw'⟩:=RelO.some_of (v:=v) (o:=valueAt vs k) (by rw[l];exact rel.val k)
  exact wpAny_getItem_of (zyt ry) dd.mapOf hw (h w' _ (I.tok _) rw')
 ·subst ey
  cases(show u=Value.ref b from ry)
  obtain⟨z,hd,xs,rel,dd⟩:=zafe I.hok e
  obtain⟨w',hw,rw'⟩:=RelO.some_of (v:=v) (o:=(atKey xs k).map (·.2)) (by rw[l];exact rel.val k)
  obtain⟨p,hp,hp2⟩:=qH.mp hw
  refine wpAny_getItem_heap (qB9 hu) (zse I.hok eb) dd hp ?_
  rw[hp2]
  exact h w' _ (I.tok _) rw'
theorem d_in{Q:Value->Shared->Prop}(hu:A.units+1<cLine)(I:Inv X pins σ H s)(g:DGet H a y o)(ry:RelV y u)(h:∀s',Inv X pins σ H s'->Q (.bool o.isSome) s') :
  wpAny (model X.prog X.w) A (compareOp .In u (.ref a)) Q E s:=by
 rcases g with⟨kvs,k,e,ey,l⟩|⟨kvs,k,b,e,ey,eb,l⟩
 ·subst ey
  obtain⟨z,hd,vs,rel,dd⟩:=zafd I.hok e
  refine wpAny_in_of (zyt ry) hd dd.mapOf ?_
  rw[<- (rel.val k).isSome_eq,<- l]
  exact h _ (I.tok _)
 ·subst ey
  cases(show u=Value.ref b from ry)
  obtain⟨z,hd,xs,rel,dd⟩:=zafe I.hok e
  refine wpAny_in_heap (qB9 hu) (zse I.hok eb) hd dd ?_
  have q:=(rel.val k).isSome_eq
  rw[qCw]at q
  rw[<- q,<- l]
  exact h _ (I.tok _)
theorem znb{h':Heap}{t':Nat}{ob:HO}(I:Inv X pins σ H s)(mu:Mut (H a))(hs:Heap.SameBut a s.heap h')(he:∃q,h'.get? a=some q)(new:zdf X.prog X.w (upd H a ob) h' a ob) :
  Inv X pins σ (upd H a ob) {s with heap:=h',toks:=t'}:=
 I.write (x:=a) (e:=a) mu (.inl rfl) (λb q hb z=>(hs.2 b hb).trans z) he new
theorem zaap{P:Program}{w:World}{H':Hp}{h':Heap}{kvs:List (Key×V)}{vs:List (Key×Value)}(z:kvs.length<=qS)(hd:(a==sysModules)=false)(rel:KV kvs vs)(dd:h'.DictOf (zar P w) a vs) :
  zdf P w H' h' a (.dK kvs):=⟨z,hd,vs,rel,dd⟩
theorem zaaq{H':Hp}{Q:Unit->Shared->Prop}(hu:A.units+1<cLine)(I:Inv X pins σ H s)(g:DPut H a y v H')(ry:RelV y u)(rv:RelV v r)(h:∀s',Inv X pins σ H' s'->Q () s') :
  wpAny (model X.prog X.w) A (setItem (.ref a) u r) Q E s:=by
 rcases g with⟨kvs,k,e,ey,l,eH⟩|⟨kvs,k,b,e,ey,eb,l,eH⟩
 ·subst ey eH
  obtain⟨z,hd,vs,rel,dd⟩:=zaan I.hok e
  have hz:vs.length<=qS:=by rw[<- rel.length];exact z
  have hl:(putK kvs k v).length<=qS:=by have:=zja kvs k v;omega
  refine wpAny_setItem_pairs (hsz:=hz) (zyt ry) dd λh' dd' hs=>h _ ?_
  have he:∃q,h'.get? a=some q:=let⟨q,_,_,hq,_⟩:=dd';⟨q,hq⟩
  exact znb I (by rw[e];exact True.intro) hs he (zaap hl hd (rel.put k rv) dd')
 ·subst ey eH
  cases(show u=Value.ref b from ry)
  obtain⟨z,hd,xs,rel,dd⟩:=zark I.hok e
  have hz:xs.length<=qS:=by rw[<- qAy rel];exact z
  have hl:(putK kvs k v).length<=qS:=by have:=zja kvs k v;omega
  refine wpAny_setItem_heap (hsz:=hz) (qB9 hu) (zse I.hok eb) dd λh' dd' hs=>h _ ?_
  obtain⟨q,es,ep,hq,h2,h3,h4,_,h5⟩:=dd'
  refine znb I (by rw[e];exact True.intro) hs ⟨q,hq⟩ ⟨hl,hd,_,(rel.put k eb rv).keeps λc ys ec=>?_,q,es,ep,hq,h2,h3,h4,h5⟩
  rw[zas (zaqz ec e (λz=>nomatch z))]
  exact ec
end
noncomputable def NoSl(i:Expr):Prop:=∀ov iv,subscripted i false ov iv=operate [ov,iv] (getItem ov iv)
theorem zaar{prog:Program}{w:World}{A:Around}{E:Value->Shared->Prop}{s:Shared}{env:Env}{value slice:Expr}{pos:Pos}{T id:String}{Q:Value->Shared->Prop}
  (hl:typeLookup (.type T) "__getitem__"=pure (some (.builtin id)))(hs:NoSl slice)
  (h:wpAny (model prog w) A (eval value env) (λo s₁=>wpAny (model prog w) A (eval slice env) (λi s₂=>s₂.TypeIs o T/\wpAny (model prog w) A (getItem o i) Q E s₂) E s₁) E s) :
  wpAny (model prog w) A (eval (.Subscript value slice pos) env) Q E s:=by
 refine Subscript_ (qBn h (λo s₁ h₁=>qBn h₁ (λi s₂ h₂=>?_) λ_ _ x=>x) λ_ _ x=>x)
 obtain⟨hT,h₂⟩:=h₂
 unfold subscriptTail
 refine qB ?_
 rw[getitemInPython_of_ne hT.not_modules]
 refine qB (wpAny_specialOf hT hl ?_)
 have fin:wpAny (model prog w) A (subscripted slice false o i) (λr s₃=>wpAny (model prog w) A (letTemporaryGo value o r >>=λ_=>pure r) Q E s₃) E s₂:=by
  rw[hs o i]
  exact wpAny_operating (qBn h₂ (λr s₃ h₃=>qB (wpAny_letTemporaryGo (qE h₃))) λ_ _ x=>x)
 first
  | exact qE (qB fin)
  | exact qB (qE (qB fin))
  | exact qB fin
theorem zul{X:Cx}{pins:List (Addr×Obj)}{σ:St}{H:Hp}{s:Shared}{a:Addr}{y:V}{o:Option V}(I:Inv X pins σ H s)(g:DGet H a y o):s.TypeIs (.ref a) "dict":=by
 rcases g with⟨kvs,k,e,_,_⟩|⟨kvs,k,b,e,_,_,_⟩
 ·obtain⟨_,_,vs,_,dd⟩:=zafd I.hok e
  exact dd.typeIs
 ·obtain⟨_,_,xs,_,dd⟩:=zafe I.hok e
  exact dd.typeIs
noncomputable def tDGet(td ty:TE):TE:=λσ H Q=>td σ H λx H1=>ty σ H1 λy H2=>∃a v,x=.ref a/\DGet H2 a y (some v)/\Q v H2
noncomputable def tDIn(ty td:TE):TE:=λσ H Q=>ty σ H λy H1=>td σ H1 λx H2=>∃a o,x=.ref a/\DGet H2 a y o/\Q (.bl o.isSome) H2
noncomputable def sDPut(td ty tv:TE):TS:=λD σ H=>tv σ H λv H1=>td σ H1 λx H2=>ty σ H2 λy H3=>∃a H4,x=.ref a/\DPut H3 a y v H4/\D.nx σ H4
section
variable{X:Cx}{o i e value:Expr}{pos pos' tpos:Pos}{td ty tv:TE}
theorem zakh(hu:X.A.units+1<cLine)(ho:PE X o td)(hi:PE X i ty)(hs:NoSl i):PE X (.Subscript o i pos) (tDGet td ty):=by
 intro pins s σ H Q I h
 refine zaar qCA.lookup hs (thn (ho pins s σ H _ I h) λu s1 ⟨x,H1,I1,rx,q1⟩=>thn (hi pins s1 σ H1 _ I1 q1) λiv s2 ⟨y,H2,I2,ry,a,v,ex,g,q2⟩=>?_)
 subst ex
 obtain rfl:u=Value.ref a:=rx
 exact⟨zul I2 g,zaao hu I2 g ry λw' s3 I3 rw'=>⟨v,H2,I3,rw',q2⟩⟩
theorem zaon(hu:X.A.units+1<cLine)(hi:PE X i ty)(ho:PE X o td):PC X .In i o (tDIn ty td):=by
 intro pins s σ H Q I h
 refine thn (hi pins s σ H _ I h) λiv s1 ⟨y,H1,I1,ry,q1⟩=>thn (ho pins s1 σ H1 _ I1 q1) λu s2 ⟨x,H2,I2,rx,a,ov,ex,g,q2⟩=>?_
 subst ex
 obtain rfl:u=Value.ref a:=rx
 exact d_in hu I2 g ry λs3 I3=>⟨.bl ov.isSome,H2,I3,rfl,q2⟩
theorem zaki(hu:X.A.units+1<cLine)(ho:PE X o td)(hi:PE X i ty)(hv:PE X value tv)(hs:swapsWith value (some (.Subscript o i pos')) pos.line X.env=pure false) :
  PS X (.Assign [.Subscript o i pos'] value pos) (sDPut td ty tv):=by
 intro pins s σ H D I h
 refine wpAny_Assign_Subscript (thn (hv pins s σ H _ I h) λr s1 ⟨v,H1,I1,rv,q1⟩=>thn (ho pins s1 σ H1 _ I1 q1) λu s2 ⟨x,H2,I2,rx,q2⟩=>thn (hi pins s2 σ H2 _ I2 q2) λiv s3 ⟨y,H3,I3,ry,a,H4,ex,g,q3⟩=>?_) hs
 subst ex
 obtain rfl:u=Value.ref a:=rx
 exact zaaq hu I3 g ry rv λs4 I4=>⟨σ,H4,I4,q3⟩
end
theorem zwn{P:Program}{w:World}{H:Hp}(h:Heap)(hb:sysModules<h.objs.size):zdf P w H (h.push {cls:=.type "dict",data:=.dict #[]}) h.objs.size (.dK []):=
 ⟨qAL _,beq_eq_false_iff_ne.mpr (qBB (qw hb)),[],.nil,Heap.DictOf.new h⟩
noncomputable def tDNewK:TE:=λ_ H Q=>∀p,H p=none->Q (.ref p) (upd H p (.dK []))
section
variable{X:Cx}{pos:Pos}
theorem zaff:PE X (.Dict [] [] pos) tDNewK:=λpins s σ H Q I h=>
 wpAny_Dict_empty ⟨.ref s.heap.objs.size,_,I.laid (a:=s.heap.objs.size) (o:=.dK []) (t':=s.toks) (λ_ _ q=>qL _ q) (qK _) (zwn s.heap I.big),rfl,h _ (I.hok.fresh (qK _))⟩
end
noncomputable def zaas:List (TE×TE)->St->Hp->(List (V×V)->Hp->Prop)->Prop
 | [],_,H,Q=>Q [] H
 | (tk,tv)::r,σ,H,Q=>tk σ H λx H1=>tv σ H1 λy H2=>zaas r σ H2 λps H3=>Q ((x,y)::ps) H3
noncomputable abbrev VV:List (V×V)->List (Value×Value)->Prop:=Paired λp q=>RelV p.1 q.1/\RelV p.2 q.2
noncomputable def PPs(X:Cx)(pos:Pos)(keys:List (Option Expr))(values:List Expr)(trs:List (TE×TE)):Prop:=
 ∀(pins:List (Addr×Obj))(s:Shared)(σ:St)(H:Hp)(Q:List (V×V)->Hp->Prop),Inv X pins σ H s->zaas trs σ H Q->
  wpAny (model X.prog X.w) X.A (evalPairs (pairTrees keys values X.env pos)) (λvs s'=>∃ps H',Inv X pins σ H' s'/\VV ps vs/\Q ps H') X.xe s
theorem zakj{X:Cx}{pos:Pos}:PPs X pos [] [] []:=λpins s σ H Q I h=>pairTrees_nil_walk ⟨[],H,I,.nil,h⟩
theorem zafg{X:Cx}{pos:Pos}{k v:Expr}{ks:List (Option Expr)}{vs:List Expr}{tk tv:TE}{trs:List (TE×TE)}(hk:PE X k tk)(hv:PE X v tv)(hr:PPs X pos ks vs trs) :
  PPs X pos (some k::ks) (v::vs) ((tk,tv)::trs):=λpins s σ H Q I h=>
 pairTrees_cons_walk (thn (hk pins s σ H _ I h) λu s1 ⟨x,H1,I1,rx,q1⟩=>thn (hv pins s1 σ H1 _ I1 q1) λw2 s2 ⟨y,H2,I2,ry,q2⟩=>
  thn (hr pins s2 σ H2 _ I2 q2) λws s3 ⟨ps,H3,I3,rel,q3⟩=>⟨(x,y)::ps,H3,I3,.cons ⟨rx,ry⟩ rel,q3⟩)
noncomputable def zjm(kvs more:List (Key×V)):List (Key×V):=more.foldl (λacc kv=>putK acc kv.1 kv.2) kvs
theorem KV.merge:∀{more:List (Key×V)}{rs:List (Key×Value)}{kvs:List (Key×V)}{vs:List (Key×Value)},KV more rs->KV kvs vs->KV (zjm kvs more) (merged vs rs):=by
 intro more rs kvs vs r
 unfold KV at r
 induction r generalizing kvs vs with
 | nil=>intro q;exact q
 | @cons p q ps qs h t ih=>
  intro r0
  have e:KV (putK kvs p.1 p.2) (stored vs q.1 q.2):=by
   have:=r0.put p.1 h.2
   rw[<- h.1];exact this
  exact ih e
theorem zgs:∀(more kvs:List (Key×V)),(zjm kvs more).length<=kvs.length+more.length
 | [],kvs=>by show kvs.length<=kvs.length+0;omega
 | p::r,kvs=>by
  have h1:=zgs r (putK kvs p.1 p.2)
  have h2:=zja kvs p.1 p.2
  show(zjm (putK kvs p.1 p.2) r).length<=_
  rw[qj];omega
theorem zpl{P:Program}{w:World}:∀{kvs:List (Key×V)}{ws:List (Value×Value)},VV (kvs.map λkv=>(kV kv.1,kv.2)) ws->∃rs,Carries (zar P w) ws rs/\KV kvs rs
 | [],_,r=>by rw[qA9]at r;cases r;exact⟨[],True.intro,.nil⟩
 | p::kvs,_,r=>by
  rw[qU]at r
  cases r with
  | @cons a b as bs h t=>
   obtain⟨rs,c,q⟩:=zpl (P:=P) (w:=w) t
   obtain⟨b1,b2⟩:=b
   exact⟨(p.1,b2)::rs,⟨zyt h.1,rfl,c⟩,.cons ⟨rfl,h.2⟩ q⟩
noncomputable def tDisp(trs:List (TE×TE)):TE:=λσ H Q=>∀p,H p=none->zaas trs σ (upd H p (.dK [])) λps H2=>H2 p=some (.dK [])/\∃kvs:List (Key×V),ps=kvs.map (λkv=>(kV kv.1,kv.2))/\kvs.length<=15/\Q (.ref p) (upd H2 p (.dK (zjm [] kvs)))
theorem zakk{X:Cx}{pos:Pos}{keys:List (Option Expr)}{values:List Expr}{trs:List (TE×TE)}(h:PPs X pos keys values trs)(hall:keys.all (·.isSome)=true)(hl:keys.length=values.length)(h0:keys≠[])
  (h15:keys.length<=15):PE X (.Dict keys values pos) (tDisp trs):=by
 intro pins s σ H Q I q
 have hn:=I.hok.fresh (qK s.heap.objs.size)
 have I1:=I.laid (a:=s.heap.objs.size) (o:=.dK []) (h':=s.heap.push {cls:=.type "dict",data:=.dict #[]}) (t':=s.toks) (λ_ _ q=>qL _ q) (qK _) (zwn s.heap I.big)
 refine wpAny_Dict_walk (knd:=zar X.prog X.w) hall hl h0 h15 (thn (h pins _ σ _ _ I1 (q _ hn)) λws s2 ⟨ps,H2,I2,rel,e,kvs,ep,lk,q2⟩=>?_)
 subst ep
 obtain⟨rs,c,rk⟩:=zpl (P:=X.prog) (w:=X.w) rel
 obtain⟨z,hd,vs0,r0,dd⟩:=zaan I2.hok e
 cases r0
 refine⟨rs,c,dd,λh' dd' hs=>⟨.ref s.heap.objs.size,_,?_,rfl,q2⟩⟩
 have hz:(zjm [] kvs).length<=qS:=by
  have h1:=zgs kvs []
  rw[qCG]at h1
  rw[qCf];omega
 have he:∃q,h'.get? s.heap.objs.size=some q:=let⟨q,_,_,hq,_⟩:=dd';⟨q,hq⟩
 exact znb I2 (by rw[e];exact True.intro) hs he (zaap hz hd (rk.merge .nil) dd')
set_option genInjectivity false in
set_option genInjectivity false in
section
variable{X:Cx}{pins:List (Addr×Obj)}{σ:St}{H:Hp}{s:Shared}{a:Addr}{y d:V}{u r:Value}{o:Option V}{A:Around}{E:Value->Shared->Prop}
end
end L2
namespace Att
open PySem PySem.W PySem.Calls PyProof.Rows
theorem znc{P:Params}{h:Heap}:∀(ns:List Int)(vs:List Value),WellAll P h vs (ns.map WData.int)->IntsAre vs ns:=by
 intro ns
 induction ns with
 | nil=>
  intro vs w
  rw[qA9]at w
  cases w
  exact .nil
 | cons n ns ih=>
  intro vs w
  rw[qU]at w
  cases w with
  | cons a b=>
   cases a
   exact .cons _ _ (ih _ b)
theorem zaat{l:OpenLaw}{n:Nat}(hn:l.most=some n){P:Params}{h:Heap}{args:List WData}{vals:List Value}
  (hpre:l.row.toRowW.claim.pre args=true)(hwl:WellAll P h vals args) :
  ∃a vs ns,vals=[Value.ref a]/\args=[WData.list (ns.map WData.int)]/\h.get? a=some {cls:=.type "list",data:=.seq vs.toArray}/\IntsAre vs ns/\ns.length<=n:=by
 have hsh:WShape.hasAll [] args [.list .int]=true:=(pre_splitW hpre).1
 have hc:l.pre.holds [] {args:=args}=true:=(pre_splitW hpre).2
 obtain⟨d,r,rfl,h1,h2⟩:=hasAllW_cons hsh
 obtain rfl:=hasAllW_nil h2
 obtain⟨xs,rfl,h3⟩:=hasW_list h1
 obtain⟨ns,rfl⟩:=items_int h3
 have hlen:ns.length<=n:=by
  unfold OpenLaw.pre at hc
  have h4:(WTm.not (.lt (.lit (.int (n:Int))) (.len (.arg 0)))).holds [] {args:=[.list (ns.map .int)]}=true:=by
   have h4:=(holds_andW hc).1
   rw[hn]at h4
   exact h4
  have h5:=condW_of h4 (w_not (w_lt w_lit (w_len_list (w_arg rfl))))
  rw[qD]at h5
  refine Nat.le_of_not_lt λq=>?_
  have q':(n:Int)<((ns.length:Nat):Int):=by omega
  first
   | (rw[decide_eq_true q']at h5;exact absurd h5 (by decide))
   | (simp at h5;omega)
 cases hwl with
 | cons w1 w2=>
  cases w2
  cases w1 with
  | list ho hall=>exact⟨_,_,ns,rfl,rfl,ho,znc ns _ hall,hlen⟩
theorem zaau(l:OpenLaw)(args:List WData):l.row.toRowW.claim.post args (.bool true) args=true:=
 postW_of (r:=l.row.toRowW) (X:=(true==true))
  (show WShape.has [] (.bool true) .bool=true by first|rfl|decide|simp[WShape.has,WShape.arms,WShape.armsAll])
  (show(WTm.eq .res (.lit (.bool true))).value [] {args:=args,res:=some (.bool true),after:=args}=some (.bool (true==true))from w_eq_bool (w_res rfl) w_lit) rfl
theorem attach_call{l:OpenLaw}{n:Nat}{q:Program}{loose:List Str}{XP:(Str->Option Value)->Heap->Prop}{YP:World->Heap->Prop}{d:DefRec}
  (hn:l.most=some n)(hdf:d.params.defaults=[])
  (call:∀(w:World)(s₀ s₁:Shared)(mg mb:Str->Option Value)(fa:Addr)(o:Obj)(pm cd doc:Value)(a:Addr)(vs:List Value)(ns:List Int),
   Ground q loose [] XP w s₀ mg mb s₁.heap->YP w s₁.heap->
   s₁.heap.get? fa=some o->o.data=.func (docDef d.name d.params d.body d.scope pm cd doc)->s₁.heap.CodeRec cd d.name->mg d.name=some (.ref fa)->
   s₁.heap.get? a=some {cls:=.type "list",data:=.seq vs.toArray}->IntsAre vs ns->ns.length<=n->s₁.gens=#[]->
   codeAny (model l.prog w) callerA (.call (.ref fa) ⟨[.ref a],[]⟩) (λr s'=>r=.ok (.ret (.bool true))/\OldK s₁.heap s'.heap/\s'.os=s₁.os/\AllBare s'.gens) s₁) :
  WalkO q loose XP YP l.row.toRowW d [] (λf vs=>PySem.call f vs):=by
 intro w s₀ s₁ mg mb G Y fa o pm cd doc dV kV ho hd hcd hD hmg hg args vals as hpre hlay hrd hwl hlo
 obtain rfl:dV=.none:=Dflts.none hD hdf
 obtain rfl:kV=.none:=Dflts.noKw hD
 obtain⟨a,vs,ns,rfl,rfl,hobj,hints,hlen⟩:=zaat hn hpre hwl
 refine enter_call (qBy (call w s₀ s₁ mg mb fa o pm cd doc a vs ns G Y ho (fd_plain hd) hcd hmg hobj hints hlen hg) λr s' hq=>?_)
 obtain⟨rfl,h2,h3,h4⟩:=hq
 exact⟨.inl ⟨.bool true,.bool true,[],rfl,λ_=>rfl,.bool true,zaau l _,λ_=>⟨List.Pairwise.nil,λ_ hm=>(nomatch hm)⟩⟩,h2,h3,h4⟩
end Att
namespace L2
open PySem PySem.Spec PyProof.Rows
theorem zsf:∀{vs:List Value}{ns:List Int},IntsAre vs ns->Vals (ns.map V.int) vs
 | _,_,.nil=>.nil
 | _,_,.cons n t h=>.cons ⟨t,rfl⟩ (zsf h)
noncomputable def Only(H:Hp):Prop:=∀b,H b=none\/∃o xs,H b=some (.frz o (.lst xs))
theorem zafh{P:Program}{w:World}{K:qC}{mg mb:Str->Option Value}{CX:CXT}{k:Nat}{fa a:Addr}{fd:qr}{x:Str}{sp:Sp}{s₁:Shared}{vs:List Value}{ns:List Int}
  (KX:K.In s₁.heap)(hns:s₁.heap.Ns qq mg)(hb:s₁.heap.Ns builtinsNs mb)(hbb:∀x:Str,x≠"__name__"->mb x=bootBuiltins x)(hlim:s₁.heap.NoLimit)(hg:s₁.gens=#[])
  (ha:s₁.heap.get? a=some {cls:=.type "list",data:=.seq vs.toArray}) (hi:IntsAre vs ns) (hl:ns.length<=qS) (hr:Room k callerA)
  (F:∀base:Heap,K.In base->base.Ns qq mg->FnOk P w K mg base CX k fa fd [x] sp)(hbind:∀(s:Shared) (u:Value),BindsTo s fd ⟨[u],[]⟩ [(x,u)])
  (hsp:∀H:Hp,Only H->SqL K H a (ns.map V.int)->sp [.ref a] H (λv _=>v=.bl true) λ_ _ _=>False)
  (hCX:∀H e s',CX [] H s₁ (λ_ _ _=>False) e s'->False) :
  codeAny (model P w) callerA (.call (.ref fa) ⟨[.ref a],[]⟩) (λr s'=>r=.ok (.ret (.bool true))/\OldK s₁.heap s'.heap/\s'.os=s₁.os/\AllBare s'.gens) s₁:=by
 have rv:=zsf hi
 have lenV:=hi.length
 have core:∀H:Hp,Only H->SqL K H a (ns.map V.int)->HOk P w H s₁.heap->(∀b,H b≠none->b=a)->(H a≠none->K.lookup a=none)->
   codeAny (model P w) callerA (.call (.ref fa) ⟨[.ref a],[]⟩) (λr s'=>r=.ok (.ret (.bool true))/\OldK s₁.heap s'.heap/\s'.os=s₁.os/\AllBare s'.gens) s₁:=by
  intro H hO hS hok hA hK
  have base_of:∀{b:Addr}{o:Obj},s₁.heap.get? b=some o->H b=none->(hidT s₁.heap H).get? b=some o:=λe n=>zaeq e n
  have noA:∀{b:Addr}{o:Obj}{es:Array DictEntry}{ep:Nat},s₁.heap.get? b=some o->o.data=.dict es ep->H b=none:=λ{b o es ep} e d=>by
   cases q:H b with
   | none=>rfl
   | some u=>
    have e':b=a:=hA b (by rw[q];simp)
    subst e'
    rw[ha]at e;cases e
    have d':Data.seq vs.toArray _=Data.dict es ep:=d
    cases d'
  have nsK:∀{b:Addr}{m:Str->Option Value},s₁.heap.Ns b m->(hidT s₁.heap H).Ns b m:=λ{b m} ⟨o,es,ep,e,d,r⟩=>⟨o,es,ep,base_of e (noA e d),d,r⟩
  have hKb:K.In (hidT s₁.heap H):=λb o e=>base_of (KX b o e) (by
   cases q:H b with
   | none=>rfl
   | some u=>
    have e':b=a:=hA b (by rw[q];simp)
    subst e'
    rw[hK (by rw[q];simp)]at e;cases e)
  have hM:Mod K mg (hidT s₁.heap H):=⟨hKb,nsK hns,⟨mb,nsK hb,hbb⟩,let⟨mc,h1,h2⟩:=hlim;⟨mc,nsK h1,h2⟩⟩
  have e0:Env0 P w K mg (hidT s₁.heap H) callerA [] s₁ H:=⟨rfl,hM,λb o e=>zajm e,Nat.le_of_eq (zzv _ _),trivial,λb hb=>absurd (show b∈([]:List Addr)from hb) (by simp),hok,.of_eq hg⟩
  refine qBy ((F _ hKb (nsK hns)).run callerA [] s₁ H ⟨[.ref a],[]⟩ [.ref a] [.ref a] _ _ hr e0 (hbind s₁ (.ref a)) (.cons rfl .nil) (hsp H hO hS)) λr s' h=>?_
  cases r with
  | error e=>exact(hCX H e s' h).elim
  | ok fl=>
   cases fl with
   | next=>exact False.elim h
   | brk=>exact False.elim h
   | cont=>exact False.elim h
   | ret u=>
    obtain⟨v,H',os,bare,un,hok',r',q⟩:=h
    have q':v=.bl true:=q
    subst q'
    obtain rfl:u=Value.bool true:=r'
    refine⟨rfl,OldK.of_keep λb o e=>?_,os,bare⟩
    cases q:H b with
    | none=>exact un.keep b o e q (by intro z;exact absurd (show b∈([]:List Addr)from z) (by simp)) (by simp)
    | some u=>
     rcases hO b with z|⟨ob,xs,z⟩
     ·rw[q]at z;cases z
     ·have z2:=un.frzs b ob _ z
      obtain⟨e1,_⟩:=hok b _ z
      obtain⟨e2,_⟩:=hok' b _ z2
      rw[e]at e1;cases e1
      exact e2
 cases hk:K.lookup a with
 | some o=>
  have e:=KX a o hk
  rw[ha]at e
  cases e
  refine core (λ_=>none) (λ_=>.inl rfl) (.inr ⟨_,vs.toArray,_,hk,rfl,rfl,rfl,by rw[qO,lenV];exact hl,by simpa using rv⟩) (λb u z=>by have z':(none:Option HO)=some u:=z;cases z') (λb z=>absurd rfl z) λz=>absurd rfl z
 | none=>
  refine core (λb=>if b=a then some (.frz {cls:=.type "list",data:=.seq vs.toArray} (.lst (ns.map V.int)))else none) (λb=>?_) (.inl (.inr ⟨{cls:=.type "list",data:=.seq vs.toArray},if_pos rfl⟩)) (λb u z=>?_) (λb z=>?_) λ_=>hk
  ·by_cases hb:b=a
   ·exact .inr ⟨_,_,if_pos hb⟩
   ·exact .inl (if_neg hb)
  ·by_cases hb:b=a
   ·have z':=(if_pos hb).symm.trans z
    cases z'
    subst hb
    exact⟨ha,by rw[qD];exact hl,vs,_,rv,ha⟩
   ·have z':=(if_neg hb).symm.trans z
    cases z'
  ·by_cases hb:b=a
   ·exact hb
   ·exact absurd (if_neg hb) z
theorem walk_of{l:PySem.W.OpenLaw}{n k:Nat}{q:Program}{loose:List Str}{XP:(Str->Option Value)->Heap->Prop}{YP:World->Heap->Prop}{d:DefRec}{K:Params->qC}{CX:World->CXT}{sp:World->Sp}{x:Str}
  (hn:l.most=some n)(hn2:n<=qS)(hdf:d.params.defaults=[])(hr:Room k callerA)
  (hY:∀(w:World) (h:Heap),YP w h->(K w.params).In h)
  (F:∀(w:World)(mg:Str->Option Value)(fa:Addr)(h:Heap),(K w.params).In h->h.Ns qq mg->mg d.name=some (.ref fa)->
   ∃fd:qr,(∀(s:Shared)(u:Value),BindsTo s fd ⟨[u],[]⟩ [(x,u)])/\
    ∀base:Heap,(K w.params).In base->base.Ns qq mg->FnOk l.prog w (K w.params) mg base (CX w) k fa fd [x] (sp w))
  (hsp:∀(w:World) (H:Hp) (a:Addr) (ns:List Int),ns.length<=n->Only H->SqL (K w.params) H a (ns.map V.int)->sp w [.ref a] H (λv _=>v=.bl true) λ_ _ _=>False)
  (hCX:∀(w:World) (H:Hp) (s:Shared) (e:Value) (s':Shared),CX w [] H s (λ_ _ _=>False) e s'->False) :
  PySem.W.WalkO q loose XP YP l.row.toRowW d [] (λf vs=>PySem.call f vs):=by
 refine Att.attach_call hn hdf λw s₀ s₁ mg mb fa o pm cd doc a vs ns G Y ho hd hcd hmg hobj hints hlen hg=>?_
 have KX:=hY w _ Y
 obtain⟨fd,hb,hF⟩:=F w mg fa _ KX G.T.g hmg
 exact zafh KX G.T.g G.T.b G.T.builtins G.T.nolimit hg hobj hints (qAM hlen hn2) hr hF hb (λH hO hS=>hsp w H a ns hlen hO hS) λH e s'=>hCX w H s₁ e s'
end L2
namespace L2
open PySem PySem.Spec PyProof.Rows
noncomputable def zfc(s:Stmt):Arguments:=match s with
 | .FunctionDef _ a _ _ _ _ _ _ _ _=>a
 | _=>{posonlyargs:=[],args:=[],vararg:=none,kwonlyargs:=[],kw_defaults:=[],kwarg:=none,defaults:=[]}
noncomputable def zel(s:Stmt):List Stmt:=match s with
 | .FunctionDef _ _ b _ _ _ _ _ _ _=>b
 | _=>[]
noncomputable def zat(s:Stmt):Scope:=match s with
 | .FunctionDef _ _ _ _ _ _ sc _ _ _=>sc
 | _=>{kind:=.function,names:=[],isGenerator:=false,isCoroutine:=false}
noncomputable abbrev CX0:CXT:=λ_ _ _ _ _ _=>False
noncomputable abbrev E0:XK:=λ_ _ _=>False
theorem zaoo{X:Cx}:zaag CX0 X E0:=λ_ _ _ _ _ _ _ h=>h.elim
set_option genInjectivity false in
structure Fun(K:qC)(x qual:Str)(st:Stmt)(f:Addr)(fd:qr):Prop where
 ex:∃(oc:Value)(od:Option Addr)(kV doc pm:Value)(an:Option Addr)(cdv ct:Value)(osl:Array (Option Value)),
  fd=qAX x qual (zfc st) (zel st) (zat st) .none kV doc pm an cdv ct/\K.lookup f=some ⟨oc,od,.func fd,osl⟩/\qBo K cdv qual=true
 kp:qBA K (.ref f)=true
section
variable{P:Program}{w:World}{K:qC}{mg:Str->Option Value}{base:Heap}
theorem Fun.ok{x qual:Str}{st:Stmt}{f:Addr}{fd:qr}{N ps:List Str}{k:Nat}{sp:Sp}(F:Fun K x qual st f fd)(S:FnScope N ps (zat st))(len:∀vs H Q E,sp vs H Q E->vs.length=ps.length)
  (hbody:∀(cdv:Value)(A:Around)(outer:List Env)(s:Shared)(H:Hp)(vs:List V)(Q:VK)(E:XK),Room k (A.deeper (envOfC qual (zat st) s.heap.objs.size f cdv))->sp vs H Q E->
   ∃t,PSs (cxOf CX0 P w K mg base N qual (zat st) f cdv A outer s H E).nox (zel st) t/\t {nx:=λ_ H'=>Q .non H',rt:=Q} (zdw N vs) H):FnOk P w K mg base CX0 (k+1) f fd ps sp:=by
 obtain⟨oc,od,kV,doc,pm,an,cdv,ct,osl,rfl,lk,hcd⟩:=F.ex
 refine zarh lk hcd S len λA outer s H vs Q E hr hsp=>?_
 obtain⟨t,h,q⟩:=hbody cdv A outer s H vs Q E hr hsp
 exact⟨t,h.nox,q⟩
theorem Fun.binds{x qual:Str}{st:Stmt}{f:Addr}{fd:qr}{ps:List Str}(F:Fun K x qual st f fd)
  (h:∀(kV doc pm:Value) (an:Option Addr) (cdv ct:Value) (us:List Value),us.length=ps.length->bindArgs (qAX x qual (zfc st) (zel st) (zat st) .none kV doc pm an cdv ct) ⟨us,[]⟩=pure (ps.zip us)):zmj K fd ps []:=by
 obtain⟨oc,od,kV,doc,pm,an,cdv,ct,osl,rfl,lk,hcd⟩:=F.ex
 exact .all (h kV doc pm an cdv ct)
theorem zaop{x qual:Str}{st:Stmt}{f:Addr}{oc:Value}{od an:Option Addr}{osl:Array (Option Value)}{kV doc pm cdv ct:Value}(l:K.lookup f=some ⟨oc,od,.func (qAX x qual (zfc st) (zel st) (zat st) .none kV doc pm an cdv ct),osl⟩)
  (c:qBo K cdv qual=true) (k:qBA K (.ref f)=true):Fun K x qual st f (qAX x qual (zfc st) (zel st) (zat st) .none kV doc pm an cdv ct):=⟨⟨oc,od,kV,doc,pm,an,cdv,ct,osl,rfl,l,c⟩,k⟩
end
theorem zga{A:Around}{k:Nat}(hr:Room k A):A.units+1<cLine:=Nat.lt_of_le_of_lt (Nat.add_le_add_left (by decide:1<=64) _) hr.units
theorem iteF{A B:Prop}(h:B):if false=true then A else B:=by
 rw[if_neg qI]
 exact h
theorem iteT{A B:Prop}(h:A):if true=true then A else B:=by
 rw[if_pos rfl]
 exact h
noncomputable def Same(H H':Hp):Prop:=∀b o,H b=some o->H' b=some o
theorem Same.refl(H:Hp):Same H H:=λ_ _ h=>h
theorem Same.trans{H H1 H2:Hp}(a:Same H H1)(b:Same H1 H2):Same H H2:=λc o h=>b c o (a c o h)
theorem Same.free{H H':Hp}(e:Same H H'){l:Addr}(h:H' l=Option.none):H l=Option.none:=by
 cases q:H l with
 | none=>rfl
 | some o=>
  rw[e l o q]at h
  cases h
theorem Same.seq{K:qC}{H H':Hp}{a:Addr}{xs:List V}(e:Same H H')(h:SqL K H a xs):SqL K H' a xs:=by
 rcases h with(h|⟨o,h⟩)|h
 ·exact .inl (.inl (e _ _ h))
 ·exact .inl (.inr ⟨o,e _ _ h⟩)
 ·exact .inr h
section
variable{κ:Type}[DecidableEq κ]
theorem zum:∀{l:List κ}{k:κ},l.Nodup->¬k∈l->(l++[k]).Nodup
 | [],k,_,_=>by simp
 | a::r,k,h,hk=>by
  obtain⟨h1,h2⟩:=qAK.mp h
  show(a::(r++[k])).Nodup
  refine qAK.mpr ⟨λm=>?_,zum h2 λm=>hk (qX.mpr (Or.inr m))⟩
  rcases qh.mp m with q|q
  ·exact h1 q
  ·exact hk (qX.mpr (Or.inl (qc.mp q).symm))
end
end L2
set_option maxHeartbeats 4000000
namespace L2
open PySem PySem.Spec PyProof.Rows
noncomputable abbrev MK:=Sum Key (List Key)
noncomputable def zei(P:Program)(w:World):MK->Int
 | .inl k=>(zar P w).hash k
 | .inr ks=>(PySem.tupleKind (zar P w)).hash ks
noncomputable def entM(P:Program)(w:World)(x:MK×Value×Value):DictEntry:=⟨zei P w x.1,x.2.1,x.2.2⟩
noncomputable def keyV(H:Hp):MK->V->Prop
 | .inl k,v=>v=kV k
 | .inr ks,v=>∃b,v=.ref b/\H b=some (.tup (ks.map kV))
noncomputable def rowR(p:MK×V×V)(x:MK×Value×Value):Prop:=p.1=x.1/\RelV p.2.1 x.2.1/\RelV p.2.2 x.2.2
noncomputable def zaav(H:Hp)(ps:List (MK×V×V)):Prop:=∀p∈ps,keyV H p.1 p.2.1
noncomputable def dmP(P:Program)(w:World)(a:Addr)(ps:List (MK×V×V))(h:Heap):Prop:=ps.length<=qS/\(a==sysModules)=false/\∃xs:List (MK×Value×Value),Paired rowR ps xs/\
   ∃o es ep,h.get? a=some o/\o.ExactDict/\o.data=.dict es ep/\es.toList=xs.map (entM P w)/\(xs.map (·.1)).Nodup
noncomputable def dmO(P:Program)(w:World)(a:Addr)(ps:List (MK×V×V)):HO:=.ext (dmP P w a ps)
theorem zaoq{P:Program}{w:World}{H:Hp}{h:Heap}{a:Addr}{ps:List (MK×V×V)}(x:dmP P w a ps h):zdf P w H h a (dmO P w a ps):=
 ⟨x,let⟨_,_,_,_,o,_,_,e,_⟩:=x;⟨o,e⟩,λh1 h2 ⟨z,hs,xs,r,o,es,ep,ho,c⟩ k=>⟨z,hs,xs,r,o,es,ep,k _ ho,c⟩⟩
section
variable{P:Program}{w:World}{A:Around}{E:Value->Shared->Prop}{s:Shared}
noncomputable def isM(P:Program)(w:World)(h:Heap):MK->Value->Prop
 | .inl k,v=>(zar P w).is k v=true
 | .inr ks,v=>∃a,v=.ref a/\IsTupleKey (zar P w) h ks a
noncomputable def zjn:MK->Nat
 | .inl _=>1
 | .inr ks=>ks.length+1
theorem zakl{h:Heap}{x y:MK}{v:Value}(hx:isM P w h x v)(hy:isM P w h y v):x=y:=by
 cases x with
 | inl k=>
  cases y with
  | inl j=>rw[(zar P w).inj v k j hx hy]
  | inr js=>
   obtain⟨a,rfl,_⟩:=hy
   exact absurd ((zar P w).byValue k _ hx) qI
 | inr ks=>
  obtain⟨a,rfl,hx⟩:=hx
  cases y with
  | inl j=>exact absurd ((zar P w).byValue j _ hy) qI
  | inr js=>
   obtain⟨b,e,hy⟩:=hy
   cases e
   rw[hx.inj hy]
theorem zsg{h h':Heap}{k:MK}{v:Value}{d:Addr}{o:Obj}{es ep}(x:isM P w h k v)(ho:h.get? d=some o)(hd:o.data=.dict es ep)(hs:Heap.SameBut d h h'):isM P w h' k v:=by
 cases k with
 | inl k=>exact x
 | inr ks=>
  obtain⟨a,rfl,x⟩:=x
  exact⟨a,rfl,x.keeps ho hd hs⟩
theorem zwo {k:MK} {v:Value} {Q:Int->Shared->Prop} (hu:A.units<cLine) (x:isM P w s.heap k v) (h:Q (zei P w k) {s with toks:=s.toks+zjn k}):wpAny (model P w) A (pyHash v) Q E s:=by
 cases k with
 | inl k=>exact(zar P w).pyHash x h
 | inr ks=>
  obtain⟨a,rfl,x⟩:=x
  exact(tupleKind (zar P w)).pyHash hu x h
theorem zwp{ks:List Key}{a:Addr}(x:IsTupleKey (zar P w) s.heap ks a):∃items,s.heap.IsTuple a items:=by
 obtain⟨o,items,n,h1,h2,h3,_⟩:=x
 exact⟨items,o,h1,h2,n,h3⟩
theorem zaic{x y:MK}{u v:Value}{Q:Bool->Shared->Prop}(hu:A.units<cLine)(hx:isM P w s.heap x u)(hy:isM P w s.heap y v)(h:Q (decide (x=y)) s):wpAny (model P w) A (eqBool u v) Q E s:=by
 cases x with
 | inl k=>
  cases y with
  | inl j=>
   refine(zar P w).eqBool hx hy ?_
   rwa [show decide (k=j)=decide ((Sum.inl k:MK)=.inl j)from decide_eq_decide.mpr ⟨λe=>by rw[e],λe=>qCg e⟩]
  | inr js=>
   obtain⟨a,rfl,hy⟩:=hy
   obtain⟨items,it⟩:=zwp hy
   rw[decide_eq_false (show ¬(Sum.inl k:MK)=.inr js from λe=>nomatch e)]at h
   rcases zbf hx with⟨i,t,rfl,rfl⟩|⟨z,t,rfl,rfl⟩
   ·exact SeqAt.EqAt.int_tuple i t it hu _ _ _ _ h
   ·exact SeqAt.EqAt.str_tuple z t it hu _ _ _ _ h
 | inr ks=>
  obtain⟨a,rfl,hx⟩:=hx
  cases y with
  | inl j=>
   obtain⟨items,it⟩:=zwp hx
   rw[decide_eq_false (show ¬(Sum.inr ks:MK)=.inl j from λe=>nomatch e)]at h
   rcases zbf hy with⟨i,t,rfl,rfl⟩|⟨z,t,rfl,rfl⟩
   ·exact SeqAt.EqAt.tuple_int i t it hu _ _ _ _ h
   ·exact SeqAt.EqAt.tuple_str z t it hu _ _ _ _ h
  | inr js=>
   obtain⟨b,rfl,hy⟩:=hy
   refine(tupleKind (zar P w)).eqBool hu hx hy ?_
   rwa [show decide (ks=js)=decide ((Sum.inr ks:MK)=.inr js)from decide_eq_decide.mpr ⟨λe=>by rw[e],λe=>qBL e⟩]
theorem zaid{k:MK}{v:Value}{Q:Bool->Shared->Prop}(x:isM P w s.heap k v)(h:Q true s):wpAny (model P w) A (eqIsQuiet 8 v) Q E s:=by
 cases k with
 | inl k=>rw[eqIsQuiet_byValue _ ((zar P w).byValue k v x)];exact qE h
 | inr ks=>
  obtain⟨a,rfl,x⟩:=x
  exact(tupleKind (zar P w)).quiet x h
theorem zakm{k:MK}{v:Value}{stored:List Value}{Q:Bool->Shared->Prop}(x:isM P w s.heap k v)(hs:∀u∈stored,∃j,isM P w s.heap j u)(h:Q false s):wpAny (model P w) A (tableMayTell v stored) Q E s:=by
 unfold tableMayTell
 split
 ·exact qE h
 ·refine qB (zaid x ?_)
  rw[if_neg (by decide)]
  refine qB (qCW _ (λrest r s'=>s'=s/\r=(none,())/\∀u∈rest,∃j,isM P w s.heap j u) _ ?_ ?_ _ _ ⟨rfl,rfl,hs⟩)
  ·rintro u rest r s' ⟨rfl,rfl,hr⟩
   obtain⟨j,hj⟩:=hr u qW
   refine qB (zaid hj ?_)
   rw[if_neg (by decide)]
   exact qE ⟨rfl,rfl,λy hy=>hr y (qJ _ hy)⟩
  ·rintro r s' ⟨rfl,rfl,_⟩
   exact qE h
theorem zhi{es:Array DictEntry}{xs:List (MK×Value×Value)}(he:es.toList=xs.map (entM P w))(j:Nat):es[j]?=(xs[j]?).map (entM P w):=by
 rw[<- Array.getElem?_toList,he,qV]
theorem zmp{es:Array DictEntry}{xs:List (MK×Value×Value)}(he:es.toList=xs.map (entM P w)):es.size=xs.length:=by
 rw[<- qBO,he,qD]
theorem zaaw{es:Array DictEntry}{xs:List (MK×Value×Value)}(he:es.toList=xs.map (entM P w)){e:DictEntry}(h:e∈es):∃x∈xs,e=entM P w x:=by
 have:e∈xs.map (entM P w):=he▸qBJ.mpr h
 obtain⟨x,hx,rfl⟩:=qm.mp this
 exact⟨x,hx,rfl⟩
theorem zafi{xs:List (MK×Value×Value)}(hn:(xs.map (·.1)).Nodup){i j:Nat}{k:MK}{p q:Value×Value}(hi:xs[i]?=some (k,p))(hj:xs[j]?=some (k,q)):i=j:=by
 have hi':(xs.map (·.1))[i]?=some k:=by rw[qV,hi];rfl
 have hj':(xs.map (·.1))[j]?=some k:=by rw[qV,hj];rfl
 exact(List.getElem?_inj (qM.mp hi').1 hn).mp (hi'.trans hj'.symm)
noncomputable def AtM(P:Program)(w:World)(es:Array DictEntry)(k:MK)(rest:List Nat)(i:Nat):Prop:=rest=(List.range' i (es.size - i)).filter (λi=>(es[i]?.map (·.hash))==some (zei P w k))/\i<=es.size
theorem zwq{es:Array DictEntry}{k:MK}:AtM P w es k (placesWithHash es.size (λi=>es[i]?.map (·.hash)) (zei P w k)) 0:=⟨by rw[placesWithHash,List.range_eq_range',qCr],qAL _⟩
theorem zakn{es:Array DictEntry}{xs:List (MK×Value×Value)}(he:es.toList=xs.map (entM P w)){k:MK}{x i:Nat}{rest:List Nat}(h:AtM P w es k (x::rest) i)(no:∀j p,j<i->xs[j]?≠some (k,p)) :
  ∃(k':MK)(u v:Value),xs[x]?=some (k',u,v)/\es[x]?=some ⟨zei P w k',u,v⟩/\zei P w k'=zei P w k/\AtM P w es k rest (x+1)/\(∀j p,j<x->xs[j]?≠some (k,p))/\(k'≠k->∀j p,j<x+1->xs[j]?≠some (k,p)):=by
 obtain⟨hr,hi⟩:=h
 obtain⟨hix,hxn,hpx,hskip,hrest⟩:=filter_range'_cons _ _ _ _ _ hr.symm
 have hsz:=zmp he
 have hlt:x<es.size:=by omega
 obtain⟨⟨k',u,v⟩,hkv⟩:∃y,xs[x]?=some y:=⟨xs[x]'(by rw[<- hsz];exact hlt),qG _⟩
 have hex:es[x]?=some ⟨zei P w k',u,v⟩:=by rw[zhi he x,hkv];rfl
 have hk:∀j p,j<x->xs[j]?≠some (k,p):=λj p hjx hj=>by
  rcases qBu j i with z|z
  ·exact no j p z hj
  ·have:=hskip j z hjx
   rw[zhi he j,hj]at this
   simp[entM]at this
 refine⟨k',u,v,hkv,hex,?_,⟨by rw[hrest];congr 2;omega,hlt⟩,hk,λne j p hjx hj=>?_⟩
 ·rw[hex]at hpx
  simpa using hpx
 ·rcases qBu j x with z|z
  ·exact hk j p z hj
  ·have:j=x:=by omega
   subst this
   rw[hkv]at hj
   cases hj
   exact ne rfl
theorem zaie{es:Array DictEntry}{xs:List (MK×Value×Value)}(he:es.toList=xs.map (entM P w)){k:MK}{i:Nat}(h:AtM P w es k [] i)(no:∀j p,j<i->xs[j]?≠some (k,p)):∀(j:Nat)(p:Value×Value),xs[j]?≠some (k,p):=λj p hj=>by
 obtain⟨hr,hi⟩:=h
 have hsz:=zmp he
 rcases qBu j i with z|z
 ·exact no j p z hj
 ·have hjl:j<es.size:=by
   rw[hsz]
   exact(qM.mp hj).1
  have:=qCh.mp hr.symm j (List.mem_range'_1.mpr ⟨z,by omega⟩)
  rw[zhi he j,hj]at this
  simp[entM]at this
section
variable{d:Addr}{o:Obj}{es:Array DictEntry}{ep:Nat}{xs:List (MK×Value×Value)}{k:MK}{key:Value}{Q:Option Nat->Shared->Prop}
theorem zaor(hu:A.units<cLine)(hkey:isM P w s.heap k key)(ho:s.heap.get? d=some o)(hd:o.data=.dict es ep)(he:es.toList=xs.map (entM P w))(his:∀x∈xs,isM P w s.heap x.1 x.2.1)
  (hnone:(∀(j:Nat) (p:Value×Value),xs[j]?≠some (k,p))->Q none s)(hsome:∀(j:Nat) (p:Value×Value),xs[j]?=some (k,p)->Q (some j) s) :
  wpAny (model P w) A (dictWalkPlain d key (zei P w k) es (placesWithHash es.size (λi=>es[i]?.map (·.hash)) (zei P w k))) Q E s:=by
 unfold dictWalkPlain
 refine qB (qCW _ (λrest b s'=>s'=s/\b=(none,())/\∃i,AtM P w es k rest i/\∀j p,j<i->xs[j]?≠some (k,p)) _ ?_ ?_ _ _ ⟨rfl,rfl,0,zwq,λ_ _ z=>absurd z (qBt _)⟩)
 ·rintro x rest b s' ⟨rfl,rfl,i,at_,no⟩
  obtain⟨k',u,v,hx,hex,hh,at',n1,n2⟩:=zakn he at_ no
  have hi:=his _ (qAH hx)
  rw[hex]
  dsimp only
  rw[if_pos (by rw[hh];exact beq_self_eq_true _)]
  refine qB (qAA ho hd (qB (zaic hu hi hkey (qB (qAA ho hd ?_)))))
  show wpAny _ _ (if(ep != ep)=true then _ else _) _ E _
  rw[if_neg (by simp)]
  by_cases e:k'=k
  ·subst e
   rw[decide_eq_true rfl]
   exact qB (qBX (qE (qE (hsome x _ hx))))
  ·rw[decide_eq_false e]
   exact qB (qBX (qE ⟨rfl,rfl,x+1,at',n2 e⟩))
 ·rintro b s' ⟨rfl,rfl,i,at_,no⟩
  exact qE (hnone (zaie he at_ no))
end
end
section
variable{P:Program}{w:World}{A:Around}{E:Value->Shared->Prop}{s:Shared}
section
variable{d:Addr}{o:Obj}{es:Array DictEntry}{ep:Nat}{xs:List (MK×Value×Value)}{k:MK}{key:Value}{Q:Option Nat->Shared->Prop}
theorem zaax(he:es.toList=xs.map (entM P w))(his:∀x∈xs,isM P w s.heap x.1 x.2.1):∀v∈(placesWithHash es.size (λi=>es[i]?.map (·.hash)) (zei P w k)).filterMap (λi=>es[i]?.map (·.key)),∃j,isM P w s.heap j v:=by
 intro v hv
 obtain⟨i,_,hi⟩:=qBV.mp hv
 cases hei:es[i]? with
 | none=>rw[hei]at hi;cases hi
 | some e=>
  rw[hei]at hi
  obtain rfl:e.key=v:=by simpa using hi
  obtain⟨x,hx,rfl⟩:=zaaw he (qBG hei)
  exact⟨x.1,his x hx⟩
theorem zaay(he:es.toList=xs.map (entM P w))(his:∀x∈xs,isM P w s.heap x.1 x.2.1)(hkey:isM P w s.heap k key):¬(es.any λe=>e.key==key&&e.hash != zei P w k)=true:=by
 rw[<- Array.any_toList,qA8]
 rintro⟨e,hin,hc⟩
 obtain⟨x,hx,rfl⟩:=zaaw he (qBJ.mp hin)
 rw[q9]at hc
 have e1:x.2.1=key:=eq_of_beq hc.1
 have i1:=his x hx
 rw[e1]at i1
 have:=zakl i1 hkey
 have h2:=hc.2
 simp[entM,this]at h2
theorem zafj{k0:Key}(hkey:(zar P w).is k0 key=true)(ho:s.heap.get? d=some o)(hd:o.data=.dict es ep)(he:es.toList=xs.map (entM P w))(his:∀x∈xs,isM P w s.heap x.1 x.2.1)(hn:(xs.map (·.1)).Nodup)(hv:∀x∈xs,∃j,x.1=Sum.inl j)
  (hnone:(∀(j:Nat) (p:Value×Value),xs[j]?≠some (.inl k0,p))->Q none s)(hsome:∀(j:Nat) (p:Value×Value),xs[j]?=some (.inl k0,p)->Q (some j) s) :
  wpAny (model P w) A (dictFind d key (zei P w (.inl k0))) Q E s:=by
 have key_at:∀{j:Nat}{e:DictEntry},es[j]?=some e->∃k' u v,xs[j]?=some (.inl k',u,v)/\e=⟨(zar P w).hash k',u,v⟩/\(zar P w).is k' u=true:=λ{j e} h=>by
  rw[zhi he j]at h
  obtain⟨⟨m,u,v⟩,h1,h2⟩:=qH.mp h
  obtain⟨k',e'⟩:=hv _ (qAH h1)
  have e':m=Sum.inl k':=e'
  subst e'
  exact⟨k',u,v,h1,h2.symm,his _ (qAH h1)⟩
 refine PySem.wpAny_dictFind_of (knd:=zar P w) hkey ho hd (λe hin=>?_) ?_
 ·obtain⟨j,hj,rfl⟩:=Array.mem_iff_getElem.mp hin
  obtain⟨k',u,v,_,e1,i1⟩:=key_at (qA5 hj)
  exact⟨k',by rw[e1];exact i1,by rw[e1]⟩
 ·cases hf:es.findIdx? (λe=>(zar P w).is k0 e.key)with
  | none=>
   refine hnone λj p hj=>?_
   have hm:es[j]?=some (entM P w (.inl k0,p)):=by rw[zhi he j,hj];rfl
   have:=Array.findIdx?_eq_none_iff.mp hf _ (qBG hm)
   have i1:(zar P w).is k0 p.1=true:=his _ (qAH hj)
   rw[show(entM P w (.inl k0,p)).key=p.1 from rfl,i1]at this
   cases this
  | some i=>
   obtain⟨hlt,hi,_⟩:=Array.findIdx?_eq_some_iff_getElem.mp hf
   obtain⟨k',u,v,h1,e1,i1⟩:=key_at (qA5 hlt)
   rw[e1]at hi
   have:k0=k':=(zar P w).inj u k0 k' hi i1
   subst this
   exact hsome i _ h1
theorem zafk(he:es.toList=xs.map (entM P w)){x i:Nat}{rest:List Nat}(h:AtM P w es k (x::rest) i) :
  ∃(k':MK)(u v:Value),xs[x]?=some (k',u,v)/\es[x]?=some ⟨zei P w k',u,v⟩/\zei P w k'=zei P w k/\AtM P w es k rest (x+1)/\i<=x/\∀(j:Nat)(p:Value×Value),i<=j->j<x->xs[j]?≠some (k,p):=by
 obtain⟨hr,hi⟩:=h
 obtain⟨hix,hxn,hpx,hskip,hrest⟩:=filter_range'_cons _ _ _ _ _ hr.symm
 have hsz:=zmp he
 have hlt:x<es.size:=by omega
 obtain⟨⟨k',u,v⟩,hkv⟩:∃y,xs[x]?=some y:=⟨xs[x]'(by rw[<- hsz];exact hlt),qG _⟩
 have hex:es[x]?=some ⟨zei P w k',u,v⟩:=by rw[zhi he x,hkv];rfl
 refine⟨k',u,v,hkv,hex,?_,⟨by rw[hrest];congr 2;omega,hlt⟩,hix,λj p z hjx hj=>?_⟩
 ·rw[hex]at hpx
  simpa using hpx
 ·have:=hskip j z hjx
  rw[zhi he j,hj]at this
  simp[entM]at this
theorem zaos(hu:A.units<cLine)(hkey:isM P w s.heap k key)(ho:s.heap.get? d=some o)(hd:o.data=.dict es ep)(he:es.toList=xs.map (entM P w))(his:∀x∈xs,isM P w s.heap x.1 x.2.1)(hn:(xs.map (·.1)).Nodup)
  (hnone:(∀(j:Nat) (p:Value×Value),xs[j]?≠some (k,p))->Q none s)(hsome:∀(j:Nat) (p:Value×Value),xs[j]?=some (k,p)->Q (some j) s) :
  wpAny (model P w) A (dictFind d key (zei P w k)) Q E s:=by
 by_cases hv:(∃k0,k=Sum.inl k0)/\∀x∈xs,∃j,x.1=Sum.inl j
 ·obtain⟨⟨k0,rfl⟩,hv⟩:=hv
  exact zafj hkey ho hd he his hn hv hnone hsome
 have hst:=zaax (k:=k) he his
 have hany:=zaay he his hkey
 have plain:=zaor (E:=E) hu hkey ho hd he his hnone hsome
 have loop:∀{n:Nat},wpAny (model P w) A (do
   let mut hit:Option Nat:=none
   for i in placesWithHash es.size (λi=>es[i]?.map (·.hash)) (zei P w k) do
    if let some e:=es[i]? then
     if e.hash==zei P w k then
      let before <- dictEpoch d (keyPart key)
      let same <- eqBool e.key key
      if(<- dictEpoch d (keyPart key)) != before then unsupported "dict.changed-during-lookup"
      if same then
       if hit.isSome then unsupported "dict.find:order-among-keys-of-one-hash"
       rule "dict.find.hit"
       if n<2 then return some i
       hit:=some i
      else
       rule "dict.find.same-hash-other-key"
       if false&&!(0<=zei P w k&&zei P w k<32)then unsupported "dict.find:asked-again-or-not-hangs-on-the-table"
   return hit) Q E s:=by
  intro n
  refine qB (qCW _ (λrest b s'=>s'=s/\∃i hit,b=(none,hit)/\AtM P w es k rest i/\((hit=none/\∀(j:Nat)(p:Value×Value),j<i->xs[j]?≠some (k,p))\/∃j p,hit=some j/\j<i/\xs[j]?=some (k,p))) _ ?_ ?_ _ _ ⟨rfl,0,none,rfl,zwq,.inl ⟨rfl,λ_ _ z=>absurd z (qBt _)⟩⟩)
  ·rintro x rest b s' ⟨rfl,i,hit,rfl,at_,hH⟩
   obtain⟨k',u,v,hx,hex,hh,at',hix,hsk⟩:=zafk he at_
   have hi:=his _ (qAH hx)
   have go:k'≠k->((hit=none/\∀(j:Nat)(p:Value×Value),j<x+1->xs[j]?≠some (k,p))\/∃j p,hit=some j/\j<x+1/\xs[j]?=some (k,p)):=λne=>by
    rcases hH with⟨h0,no⟩|⟨j,p,h1,hji,hj⟩
    ·refine .inl ⟨h0,λj p hjx hj=>?_⟩
     rcases qBu j i with z|z
     ·exact no j p z hj
     ·rcases qBu j x with y|y
      ·exact hsk j p z y hj
      ·have:j=x:=by omega
       subst this
       rw[hx]at hj
       cases hj
       exact ne rfl
    ·exact .inr ⟨j,p,h1,by omega,hj⟩
   rw[hex]
   dsimp only
   rw[if_pos (by rw[hh];exact beq_self_eq_true _)]
   refine qB (qAA ho hd (qB (zaic hu hi hkey (qB (qAA ho hd ?_)))))
   show wpAny _ _ (if(ep != ep)=true then _ else _) _ E _
   rw[if_neg (by simp)]
   by_cases e:k'=k
   ·subst e
    rw[decide_eq_true rfl]
    rcases hH with⟨rfl,no⟩|⟨j,p,rfl,hji,hj⟩
    ·first|rw[if_pos rfl]|skip
     simp only[Option.isSome_none,qAj,if_false]
     first|refine qB (qE ?_)|skip
     refine qB (qBX ?_)
     split
     ·exact qE (qE (hsome x _ hx))
     ·exact qE ⟨rfl,x+1,some x,rfl,at',.inr ⟨x,_,rfl,qBM x,hx⟩⟩
    ·exact absurd (zafi hn hj hx) (by omega)
   ·rw[decide_eq_false e]
    simp only[qAj,if_false]
    refine qB (qBX ?_)
    first|rw[if_neg (by simp)]|skip
    first
     | exact qE ⟨rfl,x+1,hit,rfl,at',go e⟩
     | exact qB (qE (qE ⟨rfl,x+1,hit,rfl,at',go e⟩))
  ·rintro b s' ⟨rfl,i,hit,rfl,at_,hH⟩
   rcases hH with⟨rfl,no⟩|⟨j,p,rfl,_,hj⟩
   ·exact qE (hnone (zaie he at_ no))
   ·exact qE (hsome j p hj)
 unfold dictFind
 try with_reducible refine qAU ?_
 refine qB (qAB ho hd ?_)
 dsimp only
 have nostr:∀z t,key=.str z t->¬(es.all λe=>isExactStrKey e.key)=true:=λz t e h=>by
  subst e
  refine hv ⟨?_,λx hx=>?_⟩
  ·cases k with
   | inl k0=>exact⟨k0,rfl⟩
   | inr ks=>obtain⟨a,e,_⟩:=hkey;cases e
  ·obtain⟨j,hj,e⟩:=qBP hx
   have hm:es[j]?=some (entM P w x):=by rw[zhi he j,qG hj,e];rfl
   have:=Array.all_eq_true_iff_forall_mem.mp h _ (qBG hm)
   have i1:=his x hx
   obtain⟨m,u,v⟩:=x
   cases m with
   | inl k1=>exact⟨k1,rfl⟩
   | inr ks=>
    obtain⟨a,e1,_⟩:=i1
    have e1:u=.ref a:=e1
    subst e1
    cases this
 by_cases hall:((key::(placesWithHash es.size (λi=>es[i]?.map (·.hash)) (zei P w k)).filterMap (λi=>es[i]?.map (·.key))).all carriedByValue)=true
 ·split
  next z t=>
   rw[if_neg (nostr z t rfl),if_pos hall]
   exact plain
  next=>
   rw[if_pos hall]
   exact plain
 ·cases k with
  | inr ks=>
   obtain⟨a,rfl,hk⟩:=id hkey
   dsimp only
   rw[if_neg hall,if_neg hany]
   by_cases hone:(((placesWithHash es.size (λi=>es[i]?.map (·.hash)) (zei P w (.inr ks))).filterMap (λi=>es[i]?.map (·.key)))==[Value.ref a])=true
   ·rw[if_pos hone]
    refine qB (qE ?_)
    rw[if_neg (by simp)]
    exact loop
   ·rw[if_neg hone]
    refine qB (zakm hkey hst ?_)
    rw[if_neg (by simp)]
    exact loop
  | inl k0=>
   rcases zbf hkey with⟨i,t,rfl,rfl⟩|⟨z,t,rfl,rfl⟩
   ·dsimp only
    rw[if_neg hall]
    by_cases hone:(((placesWithHash es.size (λi=>es[i]?.map (·.hash)) (zei P w (.inl (.inl i)))).filterMap (λi=>es[i]?.map (·.key)))==[Value.int i t])=true
    ·rw[if_pos hone]
     refine qB (qE ?_)
     rw[if_neg (by simp)]
     exact loop
    ·rw[if_neg hone]
     refine qB (zakm hkey hst ?_)
     rw[if_neg (by simp)]
     exact loop
   ·dsimp only
    rw[if_neg (nostr z t rfl),if_neg hall]
    by_cases hone:(((placesWithHash es.size (λi=>es[i]?.map (·.hash)) (zei P w (.inl (.inr z)))).filterMap (λi=>es[i]?.map (·.key)))==[Value.str z t])=true
    ·rw[if_pos hone]
     refine qB (qE ?_)
     rw[if_neg (by simp)]
     exact loop
    ·rw[if_neg hone]
     refine qB (zakm hkey hst ?_)
     rw[if_neg (by simp)]
     exact loop
end
end
section
variable{P:Program}{w:World}{A:Around}{E:Value->Shared->Prop}{s:Shared}
noncomputable def zqr(P:Program)(w:World)(h:Heap)(d:Addr)(xs:List (MK×Value×Value)):Prop:=
 ∃o es ep,h.get? d=some o/\o.ExactDict/\o.data=.dict es ep/\es.toList=xs.map (entM P w)/\(∀x∈xs,isM P w h x.1 x.2.1)/\(xs.map (·.1)).Nodup
theorem zqr.typeIs{d:Addr}{xs:List (MK×Value×Value)}(h:zqr P w s.heap d xs):s.TypeIs (.ref d) "dict":=
 let⟨o,_,_,ho,hc,_⟩:=h;⟨o,ho,hc.1⟩
noncomputable def zqs(xs:List (MK×Value×Value))(k:MK):Option Value:=(xs.find? λx=>decide (x.1=k)).map (·.2.2)
theorem zako{xs:List (MK×Value×Value)}(hn:(xs.map (·.1)).Nodup):∀{j:Nat}{k:MK}{p:Value×Value},xs[j]?=some (k,p)->zqs xs k=some p.2:=by
 induction xs with
 | nil=>intro j k p h;simp at h
 | cons x xs ih=>
  intro j k p h
  rw[qU,qAK]at hn
  cases j with
  | zero=>
   rw[qAD]at h
   cases h
   simp[zqs]
  | succ j=>
   rw[qAJ]at h
   have hm:k∈xs.map (·.1):=qm.mpr ⟨(k,p),qAH h,rfl⟩
   have ne:¬x.1=k:=λe=>hn.1 (e▸hm)
   have:=ih hn.2 h
   unfold zqs at this ⊢
   rw[qAi (by simpa using ne)]
   exact this
theorem zaaz{xs:List (MK×Value×Value)}{k:MK}(h:∀(j:Nat) (p:Value×Value),xs[j]?≠some (k,p)):zqs xs k=none:=by
 have:(xs.find? λx=>decide (x.1=k))=none:=by
  rw[List.find?_eq_none]
  intro x hx hk
  obtain⟨j,hj⟩:=qAz.mp hx
  have hk':x.1=k:=of_decide_eq_true hk
  exact h j x.2 (by rw[hj,<- hk'])
 simp[zqs,this]
theorem getM{d:Addr}{xs:List (MK×Value×Value)}{k:MK}{key:Value}{Q:Option Value->Shared->Prop}(hu:A.units<cLine)(hkey:isM P w s.heap k key)(hm:zqr P w s.heap d xs)
  (h:Q (zqs xs k) {s with toks:=s.toks+zjn k}):wpAny (model P w) A (dictGet d key) Q E s:=by
 obtain⟨o,es,ep,ho,_,hd,he,his,hn⟩:=hm
 unfold dictGet
 try with_reducible refine qAU ?_
 refine qB (zwo hu hkey (qB (zaos (s:={s with toks:=s.toks+zjn k}) hu hkey ho hd he his hn ?_ ?_)))
 ·intro hno
  rw[zaaz hno]at h
  exact qE h
 ·intro j p hj
  rw[zako hn hj]at h
  refine qB (qAB (s:={s with toks:=s.toks+zjn k}) ho hd ?_)
  rw[zhi he j,hj]
  exact qE h
theorem setM{d:Addr}{xs:List (MK×Value×Value)}{k:MK}{key v:Value}{Q:Unit->Shared->Prop}(hu:A.units<cLine)(hkey:isM P w s.heap k key)(hm:zqr P w s.heap d xs)(hno:k∉xs.map (·.1))(hsz:xs.length<=qS)
  (hQ:∀h',zqr P w h' d (xs++[(k,key,v)])->Heap.SameBut d s.heap h'->Q () {s with heap:=h',toks:=s.toks+zjn k}) :
  wpAny (model P w) A (dictSet d key v) Q E s:=by
 obtain⟨o,es,ep,ho,hc,hd,he,his,hn⟩:=hm
 unfold dictSet
 try with_reducible refine qAU ?_
 refine qB (zwo hu hkey ?_)
 unfold dictSetHashed
 try with_reducible refine qAU ?_
 refine qB (zaos (s:={s with toks:=s.toks+zjn k}) hu hkey ho hd he his hn ?_ ?_)
 ·intro _
  refine qB (qBX (wpAny_updateDictKeys (hz:=by have e:=zmp he;omega) (s:={s with toks:=s.toks+zjn k}) ho hd (hQ _ ⟨_,_,ep+1,qBH _ ho (Obj.isFreed_of_dict (qCx hd _)),
   hc.mapDictKeys _,qCx hd _,?_,?_,?_⟩ (qAe ..))))
  ·simp[he,entM]
  ·intro x hx
   rcases qh.mp hx with hx|hx
   ·exact zsg (his x hx) ho hd (qAe ..)
   ·rw[qc.mp hx]
    exact zsg hkey ho hd (qAe ..)
  ·rw[qp,qBc]
   refine⟨hn,by simp,λx hx y hy e=>?_⟩
   rw[qU,qA9,qc]at hy
   rw[e,hy]at hx
   exact hno hx
 ·intro j p hj
  exact absurd (qm.mpr ⟨_,qAH hj,rfl⟩) hno
theorem zafl{d:Addr}{xs:List (MK×Value×Value)}{k:MK}{key v:Value}{Q:Value->Shared->Prop}(hu:A.units+1<cLine)(hkey:isM P w s.heap k key)(hm:zqr P w s.heap d xs)(hp:zqs xs k=some v)
  (h:Q v {s with toks:=s.toks+zjn k}):wpAny (model P w) A (getItem (.ref d) key) Q E s:=by
 unfold getItem
 try with_reducible refine qAU ?_
 refine qB (qBm hm.typeIs (by decide) ?_)
 refine qB (qAE (name:=Str.ofString "__getitem__") hm.typeIs slot_dict_getitem
  (qAV slot_dict_getitem hm.typeIs entry_dict_getitem ?_ (args_dict_getitem _ _)))
 show wpAny _ _ (dictGet d key >>=_) _ _ s
 refine qB (getM hu hkey hm ?_)
 rw[hp]
 exact qE ⟨v,rfl,qE h⟩
theorem zafm{d:Addr}{xs:List (MK×Value×Value)}{k:MK}{key v:Value}{Q:Unit->Shared->Prop}(hu:A.units+1<cLine)(hkey:isM P w s.heap k key)(hm:zqr P w s.heap d xs)(hno:k∉xs.map (·.1))(hsz:xs.length<=qS)
  (hQ:∀h',zqr P w h' d (xs++[(k,key,v)])->Heap.SameBut d s.heap h'->Q () {s with heap:=h',toks:=s.toks+zjn k}) :
  wpAny (model P w) A (setItem (.ref d) key v) Q E s:=by
 unfold setItem
 try with_reducible refine qAU ?_
 refine qB (qBm hm.typeIs (by decide) ?_)
 refine qB (qAE (name:=Str.ofString "__setitem__") hm.typeIs slot_dict_setitem
  (qAV slot_dict_setitem hm.typeIs entry_dict_setitem ?_ (args_dict_setitem _ _ _)))
 show wpAny _ _ (Builtin.Dict.notOrdered "__setitem__" ⟨[.ref d,key,v],[]⟩ >>=_) _ _ s
 refine qB (wpAny_notOrdered_dict hm.typeIs ?_)
 show wpAny _ _ (dictSet d key v >>=_) _ _ s
 exact qB (setM hu hkey hm hno hsz λh' hm' hs'=>qE ⟨.none,rfl,qE (hQ h' hm' hs')⟩)
end
section
variable{P:Program}{w:World}{H H':Hp}{h:Heap}{a:Addr}{ps:List (MK×V×V)}
theorem keyV.is{m:MK}{v:V}{u:Value}(ok:HOk P w H h)(k:keyV H m v)(r:RelV v u):isM P w h m u:=by
 cases m with
 | inl k0=>
  have k:v=kV k0:=k
  subst k
  exact zyt r
 | inr ks=>
  obtain⟨b,rfl,k⟩:=k
  exact⟨b,r,zse ok k⟩
theorem zaot(ok:HOk P w H h)(e:Rd H a (dmO P w a ps))(hk:zaav H ps):ps.length<=qS/\(a==sysModules)=false/\∃xs,zqr P w h a xs/\Paired rowR ps xs:=by
 obtain⟨⟨z,hs,xs,r,o,es,ep,ho,h3,h4,h5,h6⟩,_,_⟩:=(show zdf P w H h a (dmO P w a ps)from e.ok ok)
 refine⟨z,hs,xs,⟨o,es,ep,ho,h3,h4,h5,?_,h6⟩,r⟩
 have all:∀{l:List (MK×V×V)}{n:List (MK×Value×Value)},zaav H l->Paired rowR l n->∀x∈n,isM P w h x.1 x.2.1:=by
  intro l n kk q
  induction q with
  | nil=>intro x hx;exact nomatch hx
  | @cons p q ps qs hq t ih=>
   intro x hx
   rcases qX.mp hx with e|hx
   ·subst e
    have:=(kk p qW).is ok hq.2.1
    rw[hq.1]at this
    exact this
   ·exact ih (λy hy=>kk y (qJ _ hy)) x hx
 exact all hk r
noncomputable def valM(ps:List (MK×V×V))(m:MK):Option V:=(ps.find? λx=>decide (x.1=m)).map (·.2.2)
theorem zafn{xs:List (MK×Value×Value)}{m:MK}{v:V}(r:Paired rowR ps xs)(e:valM ps m=some v):∃u,zqs xs m=some u/\RelV v u:=by
 induction r with
 | nil=>cases e
 | @cons p q ps qs hq t ih=>
  unfold valM zqs at *
  by_cases z:p.1=m
  ·rw[qAu (by simpa using z)]at e
   rw[qAu (by rw[<- hq.1];simpa using z)]
   cases e
   exact⟨_,rfl,hq.2.2⟩
  ·rw[qAi (by simpa using z)]at e
   obtain⟨u,g1,g2⟩:=ih e
   rw[qAi (by rw[<- hq.1];simpa using z)]
   exact⟨u,g1,g2⟩
theorem zaba{xs:List (MK×Value×Value)}(r:Paired rowR ps xs):ps.map (·.1)=xs.map (·.1):=by
 induction r with
 | nil=>rfl
 | cons hq _ ih=>rw[qU,qU,ih,hq.1]
end
section
variable{X:Cx}{o i value:Expr}{pos pos':Pos}{td ty tv:TE}
noncomputable def zafo(P:Program)(w:World)(td ty:TE):TE:=λσ H Q=>td σ H λx H1=>ty σ H1 λy H2=>∃a ps m v,x=.ref a/\Rd H2 a (dmO P w a ps)/\zaav H2 ps/\keyV H2 m y/\valM ps m=some v/\Q v H2
theorem zakp(hu:X.A.units+1<cLine)(ho:PE X o td)(hi:PE X i ty)(hs:NoSl i):PE X (.Subscript o i pos) (zafo X.prog X.w td ty):=by
 intro pins s σ H Q I h
 refine zaar qCA.lookup hs (thn (ho pins s σ H _ I h) λu s1 ⟨x,H1,I1,rx,q1⟩=>thn (hi pins s1 σ H1 _ I1 q1) λiv s2 ⟨y,H2,I2,ry,a,ps,m,v,ex,mx,ks,kv,hv,q2⟩=>?_)
 subst ex
 obtain rfl:u=Value.ref a:=rx
 obtain⟨_,_,xs,dm,r⟩:=zaot I2.hok mx ks
 obtain⟨u,lu,ru⟩:=zafn r hv
 exact⟨dm.typeIs,zafl hu (kv.is I2.hok ry) dm lu ⟨v,H2,I2.tok _,ru,q2⟩⟩
noncomputable def zakq(P:Program)(w:World)(td ty tv:TE):TS:=λD σ H=>tv σ H λv H1=>td σ H1 λx H2=>ty σ H2 λy H3=>∃a ps m,x=.ref a/\H3 a=some (dmO P w a ps)/\zaav H3 ps/\keyV H3 m y/\m∉ps.map (·.1)/\ps.length<qS/\D.nx σ (upd H3 a (dmO P w a (ps++[(m,y,v)])))
theorem zakr(hu:X.A.units+1<cLine)(ho:PE X o td)(hi:PE X i ty)(hv:PE X value tv)(hs:swapsWith value (some (.Subscript o i pos')) pos.line X.env=pure false) :
  PS X (.Assign [.Subscript o i pos'] value pos) (zakq X.prog X.w td ty tv):=by
 intro pins s σ H D I h
 refine wpAny_Assign_Subscript (thn (hv pins s σ H _ I h) λr s1 ⟨v,H1,I1,rv,q1⟩=>thn (ho pins s1 σ H1 _ I1 q1) λu s2 ⟨x,H2,I2,rx,q2⟩=>thn (hi pins s2 σ H2 _ I2 q2) λiv s3 ⟨y,H3,I3,ry,a,ps,m,ex,mx,ks,kv,hno,hl,q3⟩=>?_) hs
 subst ex
 obtain rfl:u=Value.ref a:=rx
 obtain⟨h7,h2,xs,dm,r'⟩:=zaot I3.hok (.inl mx) ks
 have hx:xs.length<=qS:=by rw[<- qAy r'];exact h7
 refine zafm hu (kv.is I3.hok ry) dm (by rw[<- zaba r'];exact hno) hx λh' dm' sb=>?_
 obtain⟨o',es',ep',g1,g2,g3,g4,_,g6⟩:=dm'
 refine⟨σ,_,znb I3 (by rw[mx];exact True.intro) sb ⟨o',g1⟩ ?_,q3⟩
 exact zaoq ⟨by rw[qQ];simp;omega,h2,_,qCk r' ⟨rfl,ry,rv⟩,o',es',ep',g1,g2,g3,g4,g6⟩
end
section
variable{P:Program}{w:World}{A:Around}{E:Value->Shared->Prop}{s:Shared}{it d:Addr}{i n ep:Nat}{od:Obj}{es:Array DictEntry}
theorem zarl{e:DictEntry}{Q:Option Value->Shared->Prop}(hit:s.heap.IsKeyIter it d i n ep)(hod:s.heap.get? d=some od)(hdd:od.data=.dict es ep)(hsz:es.size=n)(he:es[i]?=some e)
  (hQ:∀h',h'.IsKeyIter it d (i+1) n ep->Heap.SameBut it s.heap h'->Q (some e.key) {s with heap:=h'}):wpAny (model P w) A (pyNext (.ref it)) Q E s:=by
 obtain⟨o,ho,hc,hd⟩:=id hit
 have hT:s.TypeIs (.ref it) "dict_keyiterator":=hit.typeIs
 unfold pyNext
 refine qB (wpAny_attempt (qAE (name:=Str.ofString "__next__") hT qAg (qAV qAg hT qCP ?_ (qCH _))))
 have hown:Builtin.Dict_items.ownsTuple "dict_keyiterator"=false:=by decide
 iterate 12 (try (first|(refine qB (qE ?_))|(refine qB (qa (by assumption) ?_))|(refine qB (qt (by assumption) ?_))|(refine qB (qAT (by assumption) (by assumption) ?_))|(refine qB (qAB (by assumption) (by assumption) ?_))|(refine qB (qAA (by assumption) (by assumption) ?_))|(rw[if_neg (by simp[*])])|(refine qE ?_)|(refine qB ?_)))
 simp only[hown,qAj,if_false]
 first|refine qE ?_|skip
 refine qB (qAT ho hd ?_)
 dsimp only[List.drop,List.take,Array.toList]
 rw[if_neg (show ¬(Value.ref d==Value.none)=true from qI)]
 (first|(refine qB (qE ?_))|(refine qB (qa (by assumption) ?_))|(refine qB (qt (by assumption) ?_))|(refine qB (qAT (by assumption) (by assumption) ?_))|(refine qB (qAB (by assumption) (by assumption) ?_))|(refine qB (qAA (by assumption) (by assumption) ?_))|(rw[if_neg (by simp[*])])|(refine qE ?_)|(refine qB ?_))
 (first|(refine qB (qE ?_))|(refine qB (qa (by assumption) ?_))|(refine qB (qt (by assumption) ?_))|(refine qB (qAT (by assumption) (by assumption) ?_))|(refine qB (qAB (by assumption) (by assumption) ?_))|(refine qB (qAA (by assumption) (by assumption) ?_))|(rw[if_neg (by simp[*])])|(refine qE ?_)|(refine qB ?_))
 rw[if_neg (by rw[hsz];simp)]
 (first|(refine qB (qE ?_))|(refine qB (qa (by assumption) ?_))|(refine qB (qt (by assumption) ?_))|(refine qB (qAT (by assumption) (by assumption) ?_))|(refine qB (qAB (by assumption) (by assumption) ?_))|(refine qB (qAA (by assumption) (by assumption) ?_))|(rw[if_neg (by simp[*])])|(refine qE ?_)|(refine qB ?_))
 (first|(refine qB (qE ?_))|(refine qB (qa (by assumption) ?_))|(refine qB (qt (by assumption) ?_))|(refine qB (qAT (by assumption) (by assumption) ?_))|(refine qB (qAB (by assumption) (by assumption) ?_))|(refine qB (qAA (by assumption) (by assumption) ?_))|(rw[if_neg (by simp[*])])|(refine qE ?_)|(refine qB ?_))
 rw[if_neg (by simp)]
 refine qE ?_
 simp only[show ¬((i:Int)<0)from by omega,if_false,qAm,he]
 refine qB ?_
 refine qB (qa hT (qE ?_))
 refine qB (qt hT ?_)
 have hit':(s.heap.update it (Obj.mapFields (·.setIfInBounds 1 (rawInt ((i:Int)+1))))).IsKeyIter it d (i+1) n ep:=
  ⟨_,qBH _ ho (qCq (qBY hd _)),(Obj.cls_mapFields ..).trans hc,by rw[qBY hd];simp[rawInt]⟩
 show wpAny _ _ (setField (.ref it) 1 (rawInt ((i:Int)+1)) >>=_) _ _ s
 refine qB (qB0 ho hd (by simp) (qB (qAU (qB (qt (s:={s with heap:=s.heap.update it (Obj.mapFields (·.setIfInBounds 1 (rawInt ((i:Int)+1))))}) hit'.typeIs ?_)))))
 exact qE (qE ⟨_,rfl,qE (hQ _ hit' (qAe ..))⟩)
theorem endM{Q:Option Value->Shared->Prop}(hh:A.handled=none)(hit:s.heap.IsKeyIter it d i n ep)(hod:s.heap.get? d=some od)(hdd:od.data=.dict es ep)(hsz:es.size=n)(he:es[i]?=none)
  (hQ:∀h',Heap.ExtBut it s.heap h'->Q none {s with heap:=h'}):wpAny (model P w) A (pyNext (.ref it)) Q E s:=by
 obtain⟨o,ho,hc,hd⟩:=id hit
 have hT:s.TypeIs (.ref it) "dict_keyiterator":=hit.typeIs
 unfold pyNext
 refine qB (wpAny_attempt (qAE (name:=Str.ofString "__next__") hT qAg (qAV qAg hT qCP ?_ (qCH _))))
 have hown:Builtin.Dict_items.ownsTuple "dict_keyiterator"=false:=by decide
 iterate 12 (try (first|(refine qB (qE ?_))|(refine qB (qa (by assumption) ?_))|(refine qB (qt (by assumption) ?_))|(refine qB (qAT (by assumption) (by assumption) ?_))|(refine qB (qAB (by assumption) (by assumption) ?_))|(refine qB (qAA (by assumption) (by assumption) ?_))|(rw[if_neg (by simp[*])])|(refine qE ?_)|(refine qB ?_)))
 simp only[hown,qAj,if_false]
 first|refine qE ?_|skip
 refine qB (qAT ho hd ?_)
 dsimp only[List.drop,List.take,Array.toList]
 rw[if_neg (show ¬(Value.ref d==Value.none)=true from qI)]
 (first|(refine qB (qE ?_))|(refine qB (qa (by assumption) ?_))|(refine qB (qt (by assumption) ?_))|(refine qB (qAT (by assumption) (by assumption) ?_))|(refine qB (qAB (by assumption) (by assumption) ?_))|(refine qB (qAA (by assumption) (by assumption) ?_))|(rw[if_neg (by simp[*])])|(refine qE ?_)|(refine qB ?_))
 (first|(refine qB (qE ?_))|(refine qB (qa (by assumption) ?_))|(refine qB (qt (by assumption) ?_))|(refine qB (qAT (by assumption) (by assumption) ?_))|(refine qB (qAB (by assumption) (by assumption) ?_))|(refine qB (qAA (by assumption) (by assumption) ?_))|(rw[if_neg (by simp[*])])|(refine qE ?_)|(refine qB ?_))
 rw[if_neg (by rw[hsz];simp)]
 (first|(refine qB (qE ?_))|(refine qB (qa (by assumption) ?_))|(refine qB (qt (by assumption) ?_))|(refine qB (qAT (by assumption) (by assumption) ?_))|(refine qB (qAB (by assumption) (by assumption) ?_))|(refine qB (qAA (by assumption) (by assumption) ?_))|(rw[if_neg (by simp[*])])|(refine qE ?_)|(refine qB ?_))
 (first|(refine qB (qE ?_))|(refine qB (qa (by assumption) ?_))|(refine qB (qt (by assumption) ?_))|(refine qB (qAT (by assumption) (by assumption) ?_))|(refine qB (qAB (by assumption) (by assumption) ?_))|(refine qB (qAA (by assumption) (by assumption) ?_))|(rw[if_neg (by simp[*])])|(refine qE ?_)|(refine qB ?_))
 rw[if_neg (by simp)]
 refine qE ?_
 simp only[show ¬((i:Int)<0)from by omega,if_false,qAm,he]
 refine qB ?_
 refine qB (qa hT (qE ?_))
 show wpAny _ _ (setField (.ref it) 0 .none >>=_) _ _ s
 refine qB (qB0 ho hd (by simp) ?_)
 refine qB ?_
 unfold newExc newTuple raiseNew
 refine qB (qAP (qB (wpAny_of_eq (a:=Value.none) rfl (qAP (qB (wpAny_handled ?_)) (by size_fits)))) (by size_fits))
 rw[show A.in1.handled=none from hh]
 refine qB (qE (wpAny_throw ?_))
 refine qB (wpAny_isInstance (T:="StopIteration") (b:=true) ⟨_,qg _ rfl,rfl⟩ isSubtype_stop ?_)
 exact qE (hQ _ (((qAe ..).extBut.push _).push _))
theorem zarm{Q:Value->Shared->Prop}(hs:(d==sysModules)=false)(hod:s.heap.get? d=some od)(hx:od.ExactDict)(hdd:od.data=.dict es ep)
  (hQ:Q (.ref s.heap.objs.size) {s with heap:=s.heap.push {cls:=.type "dict_keyiterator",data:=.fields #[.ref d,.int 0 0,.int es.size 0,.int ep 0]}}):wpAny (model P w) A (pyIter (.ref d)) Q E s:=by
 have hT:s.TypeIs (.ref d) "dict":=⟨od,hod,hx.1⟩
 refine wpAny_pyIter_slot hT F.slot_dict_iter (qAV F.slot_dict_iter hT F.entry_dict_iter ?_ (F.args_dict_iter_1 _))
 unfold Builtin.«dict.__iter__» Builtin.Dict.dictSlotNone Builtin.Dict.showsAll
 refine qB (qB (wpAny_notOrdered_dict hT (qE ?_)))
 refine qB (qE ?_)
 rw[if_neg (by rw[hs];exact qI)]
 refine qB (qE (qB (qAB hod hdd (qB (qAA hod hdd (qB (qAP (qE ⟨_,rfl,"dict_keyiterator",_,⟨_,qg _ rfl,rfl⟩,qAg.lookup,?_⟩))))))))
 exact hQ
end
theorem Paired.at_{α β:Type}{F:α->β->Prop}{l:List α}{m:List β}(r:Paired F l m):∀{i:Nat}{x:α},l[i]?=some x->∃y,m[i]?=some y/\F x y:=by
 induction r with
 | nil=>intro i x e;simp at e
 | @cons a b l m h t ih=>
  intro i x e
  cases i with
  | zero=>
   rw[qAD]at e
   cases e
   exact⟨b,qAD,h⟩
  | succ i=>
   rw[qAJ]at e
   obtain⟨y,e1,e2⟩:=ih e
   exact⟨y,by rw[qAJ];exact e1,e2⟩
noncomputable def Itm(P:Program)(w:World)(a:Addr)(o:Obj)(ps:List (MK×V×V)):It:=
 ⟨λi H=>i<ps.length/\H a=some (.frz o (dmO P w a ps)),λi H x H'=>H'=H/\∃m v,ps[i]?=some (m,x,v),λi H=>ps.length<=i/\H a=some (.frz o (dmO P w a ps))⟩
theorem zabb{X:Cx}{pins:List (Addr×Obj)}{σ:St}{H:Hp}{s:Shared}{a:Addr}{o:Obj}{ps:List (MK×V×V)}(I:Inv X pins σ H s)(h:H a=some (.frz o (dmO X.prog X.w a ps))) :
  (a==sysModules)=false/\s.heap.get? a=some o/\o.ExactDict/\∃es ep xs,o.data=.dict es ep/\es.toList=xs.map (entM X.prog X.w)/\Paired rowR ps xs:=by
 obtain⟨ho,⟨_,hs,xs,r,o',es,ep,ho',h3,h4,h5,_⟩,_,_⟩:=I.hok a _ h
 rw[ho]at ho'
 cases ho'
 exact⟨hs,ho,h3,es,ep,xs,h4,h5,r⟩
theorem zafp{P:Program}{w:World}{K:qC}{tg:Expr}(a it:Addr){o:Obj}{es:Array DictEntry}{ep:Nat}{ps:List (MK×V×V)}(hd:o.data=.dict es ep):Turn P w K tg (Itm P w a o ps) [it] it (λi h=>h.IsKeyIter it a i es.size ep) where
 mem:=by simp
 obj:=λi h st b hb=>by
  have e:b=it:=by simpa using hb
  subst e
  obtain⟨o,e,c,d⟩:=st
  exact⟨o,e,λv z=>by rw[d]at z;cases z⟩
 keep:=λi h h' st k=>by
  obtain⟨o,e,r⟩:=st
  exact⟨o,k it (by simp) o e,r⟩
 item:=by
  intro X hP hw hK hc i pins s σ H E I hf st hg
  subst hP hw hK
  obtain⟨hi,hx⟩:=hg
  obtain⟨_,ho,_,es',ep',xs,hd',he,r⟩:=zabb I hx
  rw[hd]at hd'
  cases hd'
  obtain⟨f0,f1,f2,f3,f4,f5⟩:=hf it (by simp)
  obtain⟨⟨m,x,v⟩,hp⟩:∃p,ps[i]?=some p:=⟨ps[i],qG hi⟩
  obtain⟨⟨m',u,v'⟩,hq,ru⟩:=Paired.at_ r hp
  have hei:es[i]?=some (entM X.prog X.w (m',u,v')):=by rw[zhi he i,hq];rfl
  refine zarl st ho hd rfl hei λh' st' sb=>?_
  have I1:Inv X pins σ H {s with heap:=h'}:=I.turned (t':=s.toks) (λb o hb e=>(sb.2 b hb).trans e) f0 f1 f3 f4 f5
  obtain⟨o',e,c,d⟩:=id st'
  exact⟨u,rfl,zzx (s:={s with heap:=h'}) e c d (by decide) ⟨x,H,I1,ru.2.1,⟨rfl,m,v,hp⟩,st',λb hb=>(hf b hb).1⟩⟩
 done:=by
  intro X hP hw hK hc i pins s σ H E I hf st hg
  subst hP hw hK
  obtain⟨hi,hx⟩:=hg
  obtain⟨_,ho,_,es',ep',xs,hd',he,r⟩:=zabb I hx
  rw[hd]at hd'
  cases hd'
  obtain⟨f0,f1,f2,f3,f4,f5⟩:=hf it (by simp)
  have hei:es[i]?=none:=by
   rw[zhi he i,qCU.mpr (by rw[<- qAy r];exact hi)];rfl
  exact endM (I.ok.hd hc) st ho hd rfl hei λh' eb=>⟨rfl,I.turned (t':=s.toks) (λb o hb e=>eb b o hb e) f0 f1 f3 f4 f5⟩
 self:=λ_ _ _ _ _ st h=>wpAny_pyIter_keyiter st h
section
variable{X:Cx}
noncomputable def iMix(P:Program)(w:World)(tl:TE):TI:=λσ H R=>tl σ H λx H1=>∃a o ps,x=.ref a/\H1 a=some (.frz o (dmO P w a ps))/\R (Itm P w a o ps) H1
theorem zaou{tg l:Expr}{tl:TE}(hl:PE X l tl):PI X tg l (iMix X.prog X.w tl):=by
 intro pins s σ H R I h
 refine thn (hl pins s σ H _ I h) λv s1 ⟨x,H1,I1,r1,q1⟩=>?_
 obtain⟨a,o,ps,e,mx,q⟩:=q1
 subst e
 cases r1
 obtain⟨h2,ho,h3,es,ep,xs,h4,h5,r⟩:=zabb I1 mx
 refine zarm h2 ho h3 h4 ?_
 refine⟨s1.heap.objs.size,[s1.heap.objs.size],_,_,H1,rfl,I1.kept (t':=s1.toks) λb o e=>qL _ e,zafp a _ h4,⟨_,qg _ rfl,rfl,rfl⟩,λb hb=>?_,q⟩
 have e:b=s1.heap.objs.size:=by simpa using hb
 subst e
 exact I1.fpOk (qK _) (I1.hok.fresh (qK _))
end
theorem zabc{P:Program}{w:World}{es:List DictEntry}{vs:List (Key×Value)}(p:PySem.Pairs (zar P w) es vs):(∀e∈es,∃k,(zar P w).is k e.key=true/\e.hash=(zar P w).hash k)->
  ∃xs:List (MK×Value×Value),es=xs.map (entM P w)/\Paired (λ(kv:Key×Value)(x:MK×Value×Value)=>x.1=.inl kv.1/\(zar P w).is kv.1 x.2.1=true/\x.2.2=kv.2) vs xs:=by
 induction p with
 | nil=>exact λ_=>⟨[],rfl,.nil⟩
 | @cons e kv es vs h1 h2 t ih=>
  obtain⟨k,v⟩:=kv
  intro hk
  obtain⟨xs,e1,e2⟩:=ih λe he=>hk e (qJ _ he)
  obtain⟨k',g1,g2⟩:=hk e (qW ..)
  have:k'=k:=(zar P w).inj _ _ _ g1 h1
  subst this
  refine⟨(.inl k',e.key,e.val)::xs,?_,.cons ⟨rfl,h1,h2⟩ e2⟩
  rw[qU,<- e1]
  obtain⟨hh,kk,vv⟩:=e
  show _=DictEntry.mk ((zar P w).hash k') kk vv::es
  rw[<- g2]
noncomputable def zjb(kvs:List (Key×V)):List (MK×V×V):=kvs.map λkv=>(.inl kv.1,kV kv.1,kv.2)
noncomputable def zaif(P:Program)(w:World):List V->Hp->VK->Prop:=λxs H Q=>∃p kvs,xs=[.ref p]/\H p=some (.dK kvs)/\∀l,H l=none->Q (.ref l) (upd H l (dmO P w l (zjb kvs)))
theorem zaov{P:Program}{w:World}{k:Key}{u:Value}(h:(zar P w).is k u=true):RelV (kV k) u:=by
 rcases zbf (show zrq k u=true from h)with⟨j,t,rfl,rfl⟩|⟨y,t,rfl,rfl⟩
 ·exact⟨t,rfl⟩
 ·exact⟨t,rfl⟩
theorem zafq{P:Program}{w:World}{kvs:List (Key×V)}{vs:List (Key×Value)}(kv:KV kvs vs):∀{xs:List (MK×Value×Value)},Paired (λ(kv:Key×Value)(x:MK×Value×Value)=>x.1=.inl kv.1/\(zar P w).is kv.1 x.2.1=true/\x.2.2=kv.2) vs xs->Paired rowR (zjb kvs) xs:=by
 unfold zjb
 induction kv with
 | nil=>intro xs e2;cases e2;exact .nil
 | @cons a b l m h t ih=>
  intro xs e2
  cases e2 with
  | cons h2 t2=>
   rw[qU]
   refine .cons ⟨?_,?_,?_⟩ (ih t2)
   ·show(Sum.inl a.1:MK)=_
    rw[h2.1,h.1]
   ·show RelV (kV a.1) _
    rw[h.1]
    exact zaov h2.2.1
   ·show RelV a.2 _
    rw[h2.2.2]
    exact h.2
theorem zyu{X:Cx}:CallR X (.type "dict") (zaif X.prog X.w):=by
 intro pins s σ H xs us Q I r h
 obtain⟨p,kvs,rfl,hp,q⟩:=h
 obtain⟨u,rfl,ru⟩:=zru r
 cases ru
 obtain⟨z,hs,vs,kv,dd⟩:=zaan I.hok hp
 refine kt_call_dict hs dd (by rw[<- kv.length];exact z) λh' dd' sb=>?_
 obtain⟨o,es,ep,g1,g2,g3,g4,g5,g6⟩:=dd'
 have kp:∀b u,s.heap.get? b=some u->h'.get? b=some u:=λb u e=>(sb.2 b (qw (qT e))).trans (qL _ e)
 obtain⟨xs,e1,e2⟩:=zabc g5 λe he=>g4 e (qBJ.mp he)
 have big:(s.heap.objs.size==sysModules)=false:=beq_eq_false_iff_ne.mpr (qCs I.big)
 have ks:xs.map (·.1)=vs.map λkv=>(Sum.inl kv.1:MK):=by
  clear e1 g5 g6 kv dd
  induction e2 with
  | nil=>rfl
  | cons h _ ih=>rw[qU,qU,ih,h.1]
 refine⟨.ref s.heap.objs.size,_,I.laid (o:=dmO X.prog X.w s.heap.objs.size (zjb kvs)) (t':=s.toks) kp (qK _) (zaoq ⟨by unfold zjb;rw[qD];exact z,big,xs,zafq kv e2,o,es,ep,g1,g2,g3,e1,?_⟩),rfl,q _ (I.hok.fresh (qK _))⟩
 rw[ks,show(vs.map λkv=>(Sum.inl kv.1:MK))=(vs.map (·.1)).map Sum.inl by rw[qAQ];rfl]
 exact g6.map _ λa b ne e=>ne (qCg e)
noncomputable def clos(cells:List (Str×Addr)):List (Str×NameKind)->List (Str×Addr)->List (Str×Addr)
 | [],acc=>acc
 | (n,k)::r,acc=>if k==.free then clos cells r ((n,(cells.lookup n).getD 0)::acc)else clos cells r acc
theorem zqt{cells:List (Str×Addr)}:∀{names:List (Str×NameKind)}{acc:List (Str×Addr)},(∀y∈names,y.2=.free->∃c,cells.lookup y.1=some c)->∀p∈clos cells names acc,p∈acc\/((p.1,NameKind.free)∈names/\cells.lookup p.1=some p.2)
 | [],acc,_,p,hp=>.inl hp
 | (n,k)::r,acc,h,p,hp=>by
  unfold clos at hp
  have hr:∀y∈r,y.2=.free->∃c,cells.lookup y.1=some c:=λy hy=>h y (qJ _ hy)
  split at hp
  ·rename_i hk
   rcases zqt hr p hp with q|q
   ·rcases qX.mp q with q|q
    ·subst q
     have hk':k=.free:=by simpa using hk
     subst hk'
     obtain⟨c,hc⟩:=h (n,.free) qW rfl
     exact .inr ⟨qW,by show cells.lookup n=some ((cells.lookup n).getD 0);rw[hc];rfl⟩
    ·exact .inl q
   ·exact .inr ⟨qJ _ q.1,q.2⟩
  ·rcases zqt hr p hp with q|q
   ·exact .inl q
   ·exact .inr ⟨qJ _ q.1,q.2⟩
theorem zqu{cells:List (Str×Addr)}:∀{names:List (Str×NameKind)}{acc:List (Str×Addr)},∀p∈acc,p∈clos cells names acc
 | [],acc,p,hp=>hp
 | (n,k)::r,acc,p,hp=>by
  unfold clos
  split
  ·exact zqu p (qJ _ hp)
  ·exact zqu p hp
theorem zqv{cells:List (Str×Addr)}{x:Str}:∀{names:List (Str×NameKind)}{acc:List (Str×Addr)},(x,NameKind.free)∈names->∃c,(x,c)∈clos cells names acc
 | [],_,h=>by simp at h
 | (n,k)::r,acc,h=>by
  unfold clos
  rcases qX.mp h with e|h
  ·cases e
   rw[if_pos (show(NameKind.free==NameKind.free)=true by decide)]
   exact⟨_,zqu _ qW⟩
  ·split
   ·exact zqv h
   ·exact zqv h
theorem zjo{α:Type}{x:Str}{c:α}:∀{l:List (Str×α)},(x,c)∈l->∃c',l.lookup x=some c'
 | [],h=>by simp at h
 | (k,v)::r,h=>by
  rw[ql]
  cases hb:x==k with
  | true=>exact⟨v,rfl⟩
  | false=>
   rcases qX.mp h with e|h
   ·cases e;simp at hb
   ·exact zjo h
theorem zjp{scope:Scope}{env:Env}(h:∀y∈scope.names,y.2=.free->∃c,env.cells.lookup y.1=some c):closureFor scope env=pure (clos env.cells scope.names []):=by
 unfold closureFor
 have key:∀(names:List (Str×NameKind))(acc:List (Str×Addr)),(∀y∈names,y.2=.free->∃c,env.cells.lookup y.1=some c)->
   (forIn names acc (λ(x:Str×NameKind) (r:List (Str×Addr))=>(if(x.2==.free)=true then(do let a <- cellOf env x.1;pure (ForInStep.yield ((x.1,a)::r)))else pure (ForInStep.yield r):Sem (ForInStep (List (Str×Addr))))))=pure (clos env.cells names acc):=by
  intro names
  induction names with
  | nil=>intro acc _;rfl
  | cons y r ih=>
   intro acc hy
   obtain⟨n,k⟩:=y
   have hr:=λy (hm:y∈r)=>hy y (qJ _ hm)
   rw[List.forIn_cons]
   unfold clos
   cases hk:(k==NameKind.free)with
   | true=>
    have hk':k=.free:=by simpa using hk
    subst hk'
    obtain⟨c,hc⟩:=hy (n,.free) qW rfl
    have e1:cellOf env n=pure c:=by unfold cellOf;rw[hc]
    simp only[if_true]
    have hc':env.cells.lookup n=some c:=hc
    rw[e1,hc']
    simp only[pure_bind,Option.getD_some]
    exact ih _ hr
   | false=>
    simp only[qAj,if_false,pure_bind]
    exact ih _ hr
 simpa using key scope.names [] h
theorem zer:∀(names:List (Str×NameKind))(n:Nat)(acc:List (Str×Addr)),cellsFrom n names acc=cellsFrom n names []++acc
 | [],_,_=>rfl
 | (name,kind)::r,n,acc=>by
  unfold cellsFrom
  split
  ·rw[zer r (n+1) ((name,n)::acc),zer r (n+1) [(name,n)],qBE];rfl
  ·exact zer r n acc
theorem zes{x:Str}{c:Addr}:∀(names:List (Str×NameKind))(n:Nat)(acc:List (Str×Addr)),(x,c)∈cellsFrom n names acc->(x,c)∈acc\/(x,NameKind.cell)∈names
 | [],_,_,h=>.inl h
 | (name,kind)::r,n,acc,h=>by
  unfold cellsFrom at h
  split at h
  ·rename_i hk
   have hk':kind=.cell:=by simpa using hk
   subst hk'
   rcases zes r _ _ h with q|q
   ·rcases qX.mp q with q|q
    ·cases q;exact .inr qW
    ·exact .inl q
   ·exact .inr (qJ _ q)
  ·rcases zes r _ _ h with q|q
   ·exact .inl q
   ·exact .inr (qJ _ q)
theorem zic{α:Type}{x:Str}:∀{l r:List (Str×α)},(l++r).lookup x=(l.lookup x).or (r.lookup x)
 | [],_=>by simp
 | (k,v)::l,r=>by
  rw[List.cons_append,ql,ql]
  cases x==k with
  | true=>rfl
  | false=>exact zic
theorem zee{env:Env}{x:Str}{k':NameKind}:∀{names:List (Str×NameKind)},
  (names.map λ(n,k)=>if(k==NameKind.free&&env.scope.kind==.function&&env.kindOf n==some .cell)then(n,NameKind.cell)else(n,k)).lookup x=some k'->
  ∃k,names.lookup x=some k/\(k'=k\/(k=.free/\k'=.cell))
 | [],h=>by simp at h
 | (n,k)::r,h=>by
  rw[qU]at h
  by_cases hc:(k==NameKind.free&&env.scope.kind==.function&&env.kindOf n==some .cell)=true
  ·simp only[hc,if_true]at h
   rw[ql]at h ⊢
   cases hx:x==n with
   | true=>
    rw[hx]at h
    have hk:k=.free:=by simp at hc;exact hc.1.1
    exact⟨k,rfl,.inr ⟨hk,(qR h).symm⟩⟩
   | false=>rw[hx]at h;exact zee h
  ·simp only[hc,qAj,if_false]at h
   rw[ql]at h ⊢
   cases hx:x==n with
   | true=>rw[hx]at h;exact⟨k,rfl,.inl (qR h).symm⟩
   | false=>rw[hx]at h;exact zee h
theorem zhj{env:Env}{x:Str}:∀{names:List (Str×NameKind)},names.lookup x=some .free->
  ((names.map λ(n,k)=>if(k==NameKind.free&&env.scope.kind==.function&&env.kindOf n==some .cell)then(n,NameKind.cell)else(n,k)).lookup x=some .free\/
   (names.map λ(n,k)=>if(k==NameKind.free&&env.scope.kind==.function&&env.kindOf n==some .cell)then(n,NameKind.cell)else(n,k)).lookup x=some .cell)
 | [],h=>by simp at h
 | (n,k)::r,h=>by
  rw[qU]
  rw[ql]at h
  by_cases hc:(k==NameKind.free&&env.scope.kind==.function&&env.kindOf n==some .cell)=true
  ·simp only[hc,if_true]
   rw[ql]
   cases hx:x==n with
   | true=>exact .inr rfl
   | false=>rw[hx]at h;exact zhj h
  ·simp only[hc,qAj,if_false]
   rw[ql]
   cases hx:x==n with
   | true=>rw[hx]at h;exact .inl h
   | false=>rw[hx]at h;exact zhj h
theorem zyv{M:Model}{A:Around}{E:Value->Shared->Prop}{s:Shared}{scope:Scope}{globals:Addr}{cl:List (Str×Addr)}{qual:Str}{env:Env}{Q:Env->Shared->Prop}
  (hQ:∀h',(∀b o,s.heap.get? b=some o->h'.get? b=some o)->h'.Ns s.heap.objs.size (λ_=>none)->(∀n c,(n,c)∈cellsFrom (s.heap.objs.size+1) scope.names []->h'.IsCell c none/\s.heap.objs.size+1<=c)->
   ((cellsFrom (s.heap.objs.size+1) scope.names []).Pairwise λx y=>x.2≠y.2)->
   Q {scope:=scope,locals:=s.heap.objs.size,globals:=globals,cells:=cellsFrom (s.heap.objs.size+1) scope.names []++cl,qual:=qual,func:=none,code:=env.code,frame:=env.frame,builtins:=env.builtins} {s with heap:=h'}) :
  wpAny M A (newFunctionEnv scope globals cl [] qual none .none (some env)) Q E s:=by
 simp only[newFunctionEnv,qCp,if_true]
 refine qB (wpAny_alloc ?_)
 refine qB (wpAny_layCells _ (λname kind cells=>by cases hkc:kind==NameKind.cell<;>simp[hkc]) _ _ _ _ ?_)
 have ok:=cellsFrom_ok scope.names (s.heap.push {cls:=.type "dict",data:=.dict #[]}) (s.heap.objs.size+1) [] ⟨λ_ _ hm=>(nomatch hm),List.Pairwise.nil⟩ (by rw[qBv];exact qK _)
 rw[qBv]at ok
 rw[show({s with heap:=s.heap.push {cls:=.type "dict",data:=.dict #[]}}:Shared).heap.objs.size=s.heap.objs.size+1 from qBv ..]
 rw[zer]
 refine qB ?_
 refine qE (qE ?_)
 exact hQ _ (λb o e=>pushCells_keeps _ _ b o (qL _ e)) ((Heap.Ns.new s.heap (.type "dict")).keeps (pushCells_keeps _ _)) ok.empty ok.apart
noncomputable def cxComp(X:Cx)(scope:Scope)(N' own:List Str)(cl:List (Str×Addr))(C:Addr)(s:Shared)(H:Hp)(fp:List Addr):Cx:=
 {X with N:=N',s₀:=s,H₀:=H,env:=compEnvC scope cl C X.env,outer:=X.stack,stack:=X.stack,ex:=fp,fn:=λx=>own.contains x,pn:=[],xe:=λ_ _=>False}
structure CompOk(X:Cx)(scope:Scope)(N' own:List Str)(fr:List Nat):Prop where
 kind:scope.kind=.function
 names:∀y∈scope.names,scope.names.lookup y.1=some y.2
 up:∀y∈scope.names,y.2=.free->(X.env.kindOf y.1=some .cell\/X.env.kindOf y.1=some .free)
 nm:N'=own++fr.map (λj=>X.N.getD j Str.empty)
 fr:∀j∈fr,j<X.N.length/\scope.names.lookup (X.N.getD j Str.empty)=some .free
 own:∀x∈own,scope.names.lookup x=some .local\/scope.names.lookup x=some .cell
noncomputable def tau(own:List Str)(fr:List Nat)(σ:St):St:=own.map (λ_=>none)++fr.map (λj=>σ.getD j none)
section
variable{X:Cx}{pins:List (Addr×Obj)}{σ:St}{H:Hp}{s:Shared}{scope:Scope}{N' own:List Str}{fr:List Nat}
theorem zku(c:CompOk X scope N' own fr)(ok:X.Ok):∀y∈scope.names,y.2=.free->∃a,X.env.cells.lookup y.1=some a:=λy hy e=>ok.has y.1 (c.up y hy e)
theorem zafr{fp:List Addr}{h':Heap}(c:CompOk X scope N' own fr)(I:Inv X pins σ H s)
  (hf:∀b∈fp,FpOk X pins H b)(ho:∀b∈fp,∃o,s.heap.get? b=some o/\∀v,o.data≠.cell v)
  (keep:∀b o,s.heap.get? b=some o->h'.get? b=some o)(ns:h'.Ns s.heap.objs.size (λ_=>none))
  (cells:∀n c,(n,c)∈cellsFrom (s.heap.objs.size+1) scope.names []->h'.IsCell c none/\s.heap.objs.size+1<=c)
  (apart:(cellsFrom (s.heap.objs.size+1) scope.names []).Pairwise λx y=>x.2≠y.2) :
  Inv (cxComp X scope N' own (cellsFrom (s.heap.objs.size+1) scope.names []++clos X.env.cells scope.names []) s.heap.objs.size s H fp) [] (tau own fr σ) H {s with heap:=h'}:=by
 have found:=zku c I.ok
 have clm:∀x a,(x,a)∈clos X.env.cells scope.names []->(x,NameKind.free)∈scope.names/\X.env.cells.lookup x=some a:=λx a hm=>by
  rcases zqt found (x,a) hm with q|q
  ·simp at q
  ·exact q
 have look:∀x a,(cellsFrom (s.heap.objs.size+1) scope.names []++clos X.env.cells scope.names []).lookup x=some a->
   ((x,a)∈cellsFrom (s.heap.objs.size+1) scope.names []/\(x,NameKind.cell)∈scope.names)\/((x,NameKind.free)∈scope.names/\X.env.cells.lookup x=some a):=λx a e=>by
  rw[zic]at e
  cases q:(cellsFrom (s.heap.objs.size+1) scope.names []).lookup x with
  | some b=>
   rw[q]at e
   cases e
   have hm:=qx q
   rcases zes _ _ _ hm with z|z
   ·simp at z
   ·exact .inl ⟨hm,z⟩
  | none=>
   rw[q]at e
   exact .inr (clm x a (qx e))
 have lookF:∀x a,(x,NameKind.free)∈scope.names->X.env.cells.lookup x=some a->(cellsFrom (s.heap.objs.size+1) scope.names []++clos X.env.cells scope.names []).lookup x=some a:=λx a hx e=>by
  rw[zic]
  have q:(cellsFrom (s.heap.objs.size+1) scope.names []).lookup x=none:=by
   cases q:(cellsFrom (s.heap.objs.size+1) scope.names []).lookup x with
   | none=>rfl
   | some b=>
    rcases zes _ _ _ (qx q)with z|z
    ·simp at z
    ·have h1:=c.names _ hx
     have h2:=c.names _ z
     rw[h1]at h2
     cases h2
  rw[q]
  obtain⟨d,hd⟩:=zqv (cells:=X.env.cells) (acc:=[]) hx
  obtain⟨d',hd'⟩:=zjo hd
  have:=(clm x d' (qx hd')).2
  rw[e]at this
  cases this
  exact hd'
 have below:∀b o,s.heap.get? b=some o->b<s.heap.objs.size:=λb o e=>qT e
 have cold:∀x a,X.env.cells.lookup x=some a->a<s.heap.objs.size:=λx a e=>let⟨v,q⟩:=I.cell x a e;q.lt
 refine⟨⟨I.ok.mod,c.kind,I.ok.glob,I.ok.blt,qK _,?inj,?has,?cab,I.ok.hd,I.ok.frames,.inl rfl,?exf,I.bs,qAM I.ok.bsz I.sz,?noex,?exfs,I.stack,I.stkFree⟩,
  rfl,I.bare,Un.kept keep,⟨_,ns,?loc⟩,?cell,I.hok.fresh (qK _),?freeC,?pin,I.hok.kept keep,?len⟩
 case inj=>
  intro x y a h1 h2
  rcases look x a h1 with⟨m1,k1⟩|⟨k1,e1⟩<;>rcases look y a h2 with⟨m2,k2⟩|⟨k2,e2⟩
  ·exact name_of_addr apart m1 m2
  ·exact absurd (qd (cold y a e2) (qB6 (cells x a m1).2)) (qAZ _)
  ·exact absurd (qd (cold x a e1) (qB6 (cells y a m2).2)) (qAZ _)
  ·exact I.ok.inj x y a e1 e2
 case has=>
  intro x hx
  have hx':(∃k,scope.names.lookup x=some k/\(k=.cell\/k=.free)):=by
   rcases hx with hx|hx
   ·obtain⟨k,e,q⟩:=zee (env:=X.env) (names:=scope.names) hx
    rcases q with q|⟨q,_⟩
    ·exact⟨k,e,.inl q.symm⟩
    ·exact⟨k,e,.inr q⟩
   ·obtain⟨k,e,q⟩:=zee (env:=X.env) (names:=scope.names) hx
    rcases q with q|⟨q,_⟩
    ·exact⟨k,e,.inr q.symm⟩
    ·exact⟨k,e,.inr q⟩
  obtain⟨k,e,q⟩:=hx'
  show ∃a,(cellsFrom (s.heap.objs.size+1) scope.names []++clos X.env.cells scope.names []).lookup x=some a
  rcases q with rfl|rfl
  ·obtain⟨a,ha⟩:=zqo (n:=s.heap.objs.size+1) e
   exact⟨a,by rw[zic,ha];rfl⟩
  ·obtain⟨a,ha⟩:=found _ (qx e) rfl
   exact⟨a,lookF x a (qx e) ha⟩
 case cab=>
  intro x a hx e
  have hx:own.contains x=true:=hx
  have hx':x∈own:=by simpa using hx
  rcases look x a e with⟨m1,_⟩|⟨k1,_⟩
  ·have:=(cells x a m1).2
   show s.heap.objs.size<=a
   omega
  ·have h1:=c.names _ k1
   rcases c.own x hx' with h2|h2
   ·rw[h1]at h2;cases h2
   ·rw[h1]at h2;cases h2
 case exf=>
  intro b hb
  obtain⟨o,e,d⟩:=ho b hb
  refine⟨qw (below b o e),λx a q z=>?_⟩
  subst z
  rcases look x a q with⟨m1,_⟩|⟨k1,e1⟩
  ·exact absurd (qd (below a o e) (qB6 (cells x a m1).2)) (qAZ _)
  ·obtain⟨v,o',e',d'⟩:=I.cell x a e1
   rw[e]at e'
   cases e'
   exact d v d'
 case noex=>
  intro b o e hb
  rcases(hf b hb).2.2.2.1 with z|z
  ·exact I.ok.noex b o e z
  ·exact absurd (qd (qd (qT e) I.ok.bsz) z) (qAZ _)
 case exfs=>
  intro b hb z
  rcases qX.mp (I.stkSub b z)with q|q
  ·exact(hf b hb).2.1 q
  ·exact(hf b hb).2.2.1 q
 case loc=>
  intro i x v h1 h2 h3
  have h1:N'[i]?=some x:=h1
  rw[c.nm]at h1
  unfold tau at h2
  by_cases hi:i<own.length
  ·rw[qk (by simpa using hi),qV]at h2
   cases q:own[i]? with
   | none=>rw[q]at h2;cases h2
   | some z=>rw[q]at h2;cases h2
  ·rw[qo (by simpa using hi),qV,qD]at h2
   rw[qo (by simpa using hi),qV]at h1
   cases q:fr[i - own.length]? with
   | none=>rw[q]at h2;cases h2
   | some j=>
    rw[q]at h1 h2
    have e1:X.N.getD j Str.empty=x:=qR h1
    have e2:σ.getD j none=some v:=qR h2
    obtain⟨hj,hfree⟩:=c.fr j (qAH q)
    rw[e1]at hfree
    have hNj:X.N[j]?=some x:=by
     rw[<- e1,qZ,qG hj];rfl
    have hσj:σ[j]?=some (some v):=by
     rw[qZ]at e2
     cases z:σ[j]? with
     | none=>rw[z]at e2;cases e2
     | some w=>rw[z]at e2;rw[show w=some v from e2]
    have hmem:(x,NameKind.free)∈scope.names:=qx hfree
    have hup:=c.up _ hmem rfl
    obtain⟨m,hn,hl⟩:=I.loc
    obtain⟨u,ru,lk⟩:=hl j x v hNj hσj (by rcases hup with z|z;exact .inr (.inl z);exact .inr (.inr z))
    refine⟨u,ru,.inr ⟨?_,?_⟩⟩
    ·rcases zhj (env:=X.env) (names:=scope.names) hfree with z|z
     ·exact .inr z
     ·exact .inl z
    ·rcases lk with⟨k1,_⟩|⟨_,a,ha,hc⟩
     ·rcases hup with z|z
      ·rw[show X.env.kindOf x=some .cell from z]at k1;cases k1
      ·rw[show X.env.kindOf x=some .free from z]at k1;cases k1
     ·exact⟨a,lookF x a hmem ha,hc.keeps keep⟩
 case cell=>
  intro x a e
  rcases look x a e with⟨m1,_⟩|⟨k1,e1⟩
  ·exact⟨_,(cells x a m1).1⟩
  ·obtain⟨v,q⟩:=I.cell x a e1
   exact⟨v,q.keeps keep⟩
 case freeC=>
  intro x a e
  rcases look x a e with⟨m1,_⟩|⟨k1,e1⟩
  ·exact I.hok.fresh (by have:=(cells x a m1).2;omega)
  ·exact I.freeC x a e1
 case pin=>intro p hp;exact absurd (show p∈([]:List (Addr×Obj))from hp) (by simp)
 case len=>
  show(tau own fr σ).length=N'.length
  rw[c.nm];unfold tau;simp
end
noncomputable abbrev TM:=St->Hp->(St->Hp->Prop)->Prop
noncomputable def PM(X:Cx)(act:Sem Unit)(t:TM):Prop:=
 ∀(pins:List (Addr×Obj))(s:Shared)(σ:St)(H:Hp)(Q:St->Hp->Prop),Inv X pins σ H s->t σ H Q->wpAny (model X.prog X.w) X.A act (λ_ s'=>∃σ' H',Inv X pins σ' H' s'/\Q σ' H') X.xe s
noncomputable def PF(X:Cx)(ifs:List Expr)(t:TT):Prop:=
 ∀(pins:List (Addr×Obj))(s:Shared)(σ:St)(H:Hp)(Q:Bool->Hp->Prop),Inv X pins σ H s->t σ H Q->
  wpAny (model X.prog X.w) X.A (forIn ifs true λc r=>if r=true then do let ok <- isTrue c X.env (eval c X.env);pure (ForInStep.yield ok)else pure (ForInStep.yield r)) (TP X pins σ Q) X.xe s
noncomputable def tAll:TT:=λ_ H Q=>Q true H
section
variable{X:Cx}
theorem zaow:PF X [] tAll:=λ_ s σ H Q I h=>wpAny_tests_nil ⟨H,I,h⟩
theorem zaox{c:Expr}{t:TT}(h:PT X c t):PF X [c] t:=λpins s σ H Q I q=>wpAny_tests_one (h pins s σ H Q I q)
noncomputable def zun(p:Addr)(te:TE):TM:=λσ H Q=>te σ H λv H1=>∃ys,H1 p=some (.lst ys)/\ys.length<qS/\Q σ (upd H1 p (.lst (ys++[v])))
theorem zuo{elt:Expr}{te:TE}{p:Addr}(h:PE X elt te):PM X (do let _ <- call (.builtin "list.append") [.ref p,<- eval elt X.env]) (zun p te):=by
 intro pins s σ H Q I q
 refine qB (thn (h pins s σ H _ I q) λu s1 ⟨v,H1,I1,r,ys,hp,hz,q1⟩=>?_)
 refine qB (thn (zfb pins s1 σ H1 (.ref p) [v] (.ref p) [u] (λ_ H2=>Q σ H2) I1 rfl (.cons r .nil) ⟨p,ys,v,rfl,rfl,hp,hz,q1⟩) λ_ s2 ⟨_,H2,I2,_,q2⟩=>?_)
 exact qE ⟨σ,H2,I2,q2⟩
noncomputable def zabd(J:It)(g:TG)(tt:TT)(tm:TM):TM:=λσ H Q=>∃W:Nat->Nat->St->Hp->Prop,(∃m,W 0 m σ H)/\∀i m σ H,W i m σ H->
 (J.stop i H/\Q σ H)\/(J.go i H/\∃N:St->Hp->Prop,(∀σ' H',N σ' H'->∃m',m'<m/\W (i+1) m' σ' H')/\∀x H',J.yld i H x H'->g x σ H' λσ2 H2=>tt σ2 H2 λb H3=>if b=true then tm σ2 H3 N else N σ2 H3)
theorem znd{elt0:Expr}{gens:List Comprehension}{scope:Scope}{cpos:Pos}{depth:Nat}{target:Expr}{ifs:List Expr}{emit:Sem Unit}{acc:Value}{ip:Pos}{it:Addr}{fp:List Addr}{tn:Nat->Heap->Prop}{J:It}{g:TG}{tt:TT}{tm:TM}{pins:List (Addr×Obj)}{σ:St}{H:Hp}{s:Shared}{Q:St->Hp->Prop}
  (hx:X.xe=λ_ _=>False)(hc:X.calm=true)
  (eq:compTurn (.ListComp elt0 gens scope cpos) depth (.ref it) acc X.env=(do
   standAt ip
   match <- pyNext (.ref it)with
   | none=>pure (.done .next)
   | some v=>
    letOwnedTupleGo target (.ref it) v
    assign target X.env v
    let mut ok:=true
    for c in ifs do
     if ok then ok <- isTrue c X.env (eval c X.env)
    if ok then emit
    again (.compLoop (.ListComp elt0 gens scope cpos) depth (.ref it) acc X.env)))
  (T:Turn X.prog X.w X.K target J fp it tn)(hg:PG X target g)(ht:PF X ifs tt)(hm:PM X emit tm)
  (I:Inv X pins σ H s)(st:tn 0 s.heap)(hf:∀b∈fp,FpOk X pins H b)(h:zabd J g tt tm σ H Q) :
  codeAny (model X.prog X.w) X.A (.compLoop (.ListComp elt0 gens scope cpos) depth (.ref it) acc X.env) (λr s'=>r=.ok .next/\∃σ' H',Inv X pins σ' H' s'/\Q σ' H') s:=by
 obtain⟨W,⟨m0,w0⟩,turn⟩:=h
 have stat:∀{H':Hp},(∀b∈fp,H' b=none)->∀b∈fp,FpOk X pins H' b:=λhn b hb=>⟨hn b hb,(hf b hb).2⟩
 have xe:∀{α:Type}{m:Sem α}{Q':α->Shared->Prop}{E:Value->Shared->Prop}{s:Shared},wpAny (model X.prog X.w) X.A m Q' X.xe s->wpAny (model X.prog X.w) X.A m Q' E s:=λq=>qBn q (λ_ _ z=>z) λ_ _ z=>by rw[hx]at z;exact z.elim
 refine codeAny_loop rfl (λn s'=>∃i σ' H',Inv X pins σ' H' s'/\tn i s'.heap/\(∀b∈fp,H' b=none)/\W i n σ' H') ?_ m0 ⟨0,σ,H,I,st,λb hb=>(hf b hb).1,w0⟩
 rintro n s3 ⟨i,σ3,H3,I3,st3,fr3,w3⟩
 show wpAny _ X.A ((compTurn (.ListComp elt0 gens scope cpos) depth (.ref it) acc X.env).onRaise (λx=>do noteFrame x X.env;theTreesLotGoes x)) _ _ s3
 refine wpAny_noted ?_
 rw[eq]
 refine qB (qBS (qB ?_))
 rcases turn i n σ3 H3 w3 with⟨stop,qn⟩|⟨go,N,hN,step⟩
 ·refine thn (T.done X rfl rfl rfl hc i pins s3 σ3 H3 _ I3 (stat fr3) st3 stop) λr s4 ⟨hr,I4⟩=>?_
  subst hr
  exact qE ⟨rfl,σ3,H3,I4,qn⟩
 ·refine thn (T.item X rfl rfl rfl hc i pins s3 σ3 H3 _ I3 (stat fr3) st3 go) λr s4 ⟨u,hr,h4⟩=>?_
  subst hr
  refine qB (thn h4 λ_ s5 ⟨x,H5,I5,r5,y5,st5,fr5⟩=>?_)
  have I5':=I5.pinned (stat fr5) (T.obj _ _ st5)
  refine qB (xe (thn (hg _ s5 σ3 H5 x u _ I5' r5 (step x H5 y5)) λ_ s6 ⟨σ6,H6,I6,q6⟩=>?_))
  have again:∀{σ7:St}{H7:Hp}{s7:Shared},Inv X (pins++zrt fp s5.heap) σ7 H7 s7->N σ7 H7->∃m,m<n/\∃i σ' H',Inv X pins σ' H' s7/\tn i s7.heap/\(∀b∈fp,H' b=none)/\W i m σ' H':=λ{σ7 H7 s7} I7 n7=>by
   obtain⟨m',hm,w7⟩:=hN σ7 H7 n7
   refine⟨m',hm,i+1,σ7,H7,I7.unpinned,T.keep _ _ _ st5 λb hb o e=>(I7.pin (b,o) (qY _ (qY _ (zib hb e)))).1,λb hb=>?_,w7⟩
   obtain⟨o,e,d⟩:=T.obj _ _ st5 b hb
   exact(I7.pin (b,o) (qY _ (qY _ (zib hb e)))).2.1
  refine qB (xe (thn (ht _ s6 σ6 H6 _ I6 q6) λok s7 ⟨H7,I7,q7⟩=>?_))
  cases ok with
  | false=>
   rw[if_neg (by decide)]at q7
   exact qE ⟨rfl,again I7 q7⟩
  | true=>
   rw[if_pos rfl]at q7
   refine qB (xe (thn (hm _ s7 σ6 H7 _ I7 q7) λ_ s8 ⟨σ8,H8,I8,q8⟩=>?_))
   exact qE ⟨rfl,again I8 q8⟩
end
section
variable{X:Cx}{pins:List (Addr×Obj)}{σ:St}{H:Hp}{s:Shared}{scope:Scope}{N' own:List Str}{fr:List Nat}
theorem zup{elt0 target iter:Expr}{ifs:List Expr}{rest:List Comprehension}{cpos:Pos}{g:TG}{tt:TT}{tm:Addr->TM}{emit:Value->Env->Sem Unit}{it:Addr}{fp:List Addr}{tn:Nat->Heap->Prop}{J:It}{Q:VK}{E:Value->Shared->Prop}{RR:Value->Addr->Result->Shared->Prop}
  (c:CompOk X scope N' own fr)(hc:X.calm=true)
  (eq:∀it acc env,compTurn (.ListComp elt0 (⟨target,iter,ifs,0⟩::rest) scope cpos) 0 it acc env=(do
   standAt iter.pos
   match <- pyNext it with
   | none=>pure (.done .next)
   | some v=>
    letOwnedTupleGo target it v
    assign target env v
    let mut ok:=true
    for c in ifs do
     if ok then ok <- isTrue c env (eval c env)
    if ok then emit acc env
    again (.compLoop (.ListComp elt0 (⟨target,iter,ifs,0⟩::rest) scope cpos) 0 it acc env)))
  (T:Turn X.prog X.w X.K target J fp it tn)
  (hb:∀(cl:List (Str×Addr)) (C:Addr) (s:Shared) (H:Hp) (fp:List Addr) (p:Addr),Inv X pins σ H s->(∀b∈fp,FpOk X pins H b)->PG (cxComp X scope N' own cl C s H fp) target g/\PF (cxComp X scope N' own cl C s H fp) ifs tt/\PM (cxComp X scope N' own cl C s H fp) (emit (.ref p) (compEnvC scope cl C X.env)) (tm p))
  (I:Inv X pins σ H s)(st:tn 0 s.heap)(hf:∀b∈fp,FpOk X pins H b)
  (h:∀p,H p=none->zabd J g tt (tm p) (tau own fr σ) (upd H p (.lst [])) (λ_ H'=>Q (.ref p) H'))
  (hRR:∀(p C:Addr) (m:Str->Option Value) (H':Hp) (s':Shared),Inv X pins σ H' s'->s'.heap.Ns C m->FpOk X pins H' C->Q (.ref p) H'->RR (.ref p) C (.ok .next) s') :
  wpAny (model X.prog X.w) X.A (newList []) (λacc s₃=>wpAny (model X.prog X.w) X.A (newFunctionEnv scope X.env.globals (clos X.env.cells scope.names []) [] X.env.qual none .none (some X.env)) (λcenv s₄=>
   codeAny (model X.prog X.w) X.A (.compStart (.ListComp elt0 (⟨target,iter,ifs,0⟩::rest) scope cpos) 0 (.ref it) acc {cenv with scope:=relabel scope X.env}) (RR acc cenv.locals) s₄) E s₃) E s:=by
 refine qAP ?_
 have I3:Inv X pins σ (upd H s.heap.objs.size (.lst [])) {s with heap:=s.heap.push {cls:=.type "list",dict:=none,data:=.seq ([]:List Value).toArray}}:=I.lnew (t':=s.toks) .nil (qAL _)
 have hn0:H s.heap.objs.size=none:=I.hok.fresh (qK _)
 generalize e3:({s with heap:=s.heap.push {cls:=.type "list",dict:=none,data:=.seq ([]:List Value).toArray}}:Shared)=s3 at I3 ⊢
 have k3:∀b o,s.heap.get? b=some o->s3.heap.get? b=some o:=λb o e=>by rw[<- e3];exact qL _ e
 have hne:∀b∈fp,b≠s.heap.objs.size:=λb hb=>by
  obtain⟨o,e,_⟩:=T.obj _ _ st b hb
  exact qw (qT e)
 have hf3:∀b∈fp,FpOk X pins (upd H s.heap.objs.size (.lst [])) b:=λb hb=>⟨by rw[zas (hne b hb)];exact(hf b hb).1,(hf b hb).2⟩
 have st3:tn 0 s3.heap:=T.keep _ _ _ st λb _ o e=>k3 b o e
 refine zyv λh' keep ns cells apart=>?_
 have I4:=zafr c I3 hf3 (T.obj _ _ st3) keep ns cells apart
 have st4:tn 0 h':=T.keep _ _ _ st3 λb _ o e=>keep b o e
 obtain⟨hg,ht,hm⟩:=hb (cellsFrom (s3.heap.objs.size+1) scope.names []++clos X.env.cells scope.names []) s3.heap.objs.size s3 (upd H s.heap.objs.size (.lst [])) fp s.heap.objs.size I3 hf3
 have hf4:∀b∈fp,FpOk (cxComp X scope N' own (cellsFrom (s3.heap.objs.size+1) scope.names []++clos X.env.cells scope.names []) s3.heap.objs.size s3 (upd H s.heap.objs.size (.lst [])) fp) [] (upd H s.heap.objs.size (.lst [])) b:=λb hb=>
  ⟨(hf3 b hb).1,(I4.ok.exf b hb).1,I4.ok.exfs b hb,.inl hb,(I4.ok.exf b hb).2,λp hp=>absurd (show p∈([]:List (Addr×Obj))from hp) (by simp)⟩
 have loop:codeAny (model X.prog X.w) X.A (.compLoop (.ListComp elt0 (⟨target,iter,ifs,0⟩::rest) scope cpos) 0 (.ref it) (.ref s.heap.objs.size) (compEnvC scope (cellsFrom (s3.heap.objs.size+1) scope.names []++clos X.env.cells scope.names []) s3.heap.objs.size X.env)) (RR (.ref s.heap.objs.size) s3.heap.objs.size) {s3 with heap:=h'}:=by
  refine qBy (znd (X:=cxComp X scope N' own (cellsFrom (s3.heap.objs.size+1) scope.names []++clos X.env.cells scope.names []) s3.heap.objs.size s3 (upd H s.heap.objs.size (.lst [])) fp) (pins:=[]) rfl hc (eq _ _ _) T hg ht hm I4 st4 hf4 (h _ hn0)) λr s5 hr=>?_
  obtain⟨rfl,σ5,H5,I5,q5⟩:=hr
  obtain⟨m,hn,_⟩:=id I5.loc
  have u5:Un (frs X.stack) fp (upd H s.heap.objs.size (.lst [])) H5 s3.heap s5.heap:=I5.base
  have hok5:HOk X.prog X.w H5 s5.heap:=I5.hok
  have os5:s5.os=s3.os:=I5.os
  have bare5:=I5.bare
  have free5:H5 s3.heap.objs.size=none:=I5.free
  have hn:s5.heap.Ns s3.heap.objs.size m:=hn
  clear I5
  obtain⟨hh,gg,dd,tk,os'⟩:=s5
  obtain rfl:os'=s3.os:=os5
  have I6:Inv X pins σ H5 {s3 with heap:=hh,gens:=gg,drawn:=dd,toks:=tk}:=I3.call (ch:=fp) u5 hok5 bare5 λb hb=>⟨(hf3 b hb).2.2.2.1,(hf3 b hb).2.1,(hf3 b hb).2.2.2.2.1,(hf3 b hb).2.2.2.2.2⟩
  exact hRR _ _ m H5 _ I6 hn (I3.fpOk (qK _) free5) q5
 exact codeAny_compStart_list loop (T.self _ 0 _ _ _ st4 loop)
theorem zpm{elt0 target iter:Expr}{ifs:List Expr}{rest:List Comprehension}{cpos:Pos}{g:TG}{tt:TT}{tm:Addr->TM}{emit:Value->Env->Sem Unit}{it:Addr}{fp:List Addr}{tn:Nat->Heap->Prop}{J:It}{Q:VK}{E:Value->Shared->Prop}{RR:Value->Addr->Result->Shared->Prop}
  (c:CompOk X scope N' own fr)(hc:X.calm=true)
  (eq:∀it acc env,compTurn (.ListComp elt0 (⟨target,iter,ifs,0⟩::rest) scope cpos) 0 it acc env=(do
   standAt iter.pos
   match <- pyNext it with
   | none=>pure (.done .next)
   | some v=>
    letOwnedTupleGo target it v
    assign target env v
    let mut ok:=true
    for c in ifs do
     if ok then ok <- isTrue c env (eval c env)
    if ok then emit acc env
    again (.compLoop (.ListComp elt0 (⟨target,iter,ifs,0⟩::rest) scope cpos) 0 it acc env)))
  (T:Turn X.prog X.w X.K target J fp it tn)
  (hb:∀(cl:List (Str×Addr)) (C:Addr) (s:Shared) (H:Hp) (fp:List Addr) (p:Addr),PG (cxComp X scope N' own cl C s H fp) target g/\PF (cxComp X scope N' own cl C s H fp) ifs tt/\PM (cxComp X scope N' own cl C s H fp) (emit (.ref p) (compEnvC scope cl C X.env)) (tm p))
  (I:Inv X pins σ H s)(st:tn 0 s.heap)(hf:∀b∈fp,FpOk X pins H b)
  (h:∀p,H p=none->zabd J g tt (tm p) (tau own fr σ) (upd H p (.lst [])) (λ_ H'=>Q (.ref p) H'))
  (hRR:∀(p C:Addr) (m:Str->Option Value) (H':Hp) (s':Shared),Inv X pins σ H' s'->s'.heap.Ns C m->FpOk X pins H' C->Q (.ref p) H'->RR (.ref p) C (.ok .next) s') :
  wpAny (model X.prog X.w) X.A (newList []) (λacc s₃=>wpAny (model X.prog X.w) X.A (newFunctionEnv scope X.env.globals (clos X.env.cells scope.names []) [] X.env.qual none .none (some X.env)) (λcenv s₄=>
   codeAny (model X.prog X.w) X.A (.compStart (.ListComp elt0 (⟨target,iter,ifs,0⟩::rest) scope cpos) 0 (.ref it) acc {cenv with scope:=relabel scope X.env}) (RR acc cenv.locals) s₄) E s₃) E s:=zup c hc eq T (λcl C s H fp p _ _=>hb cl C s H fp p) I st hf h hRR
noncomputable def zafs(wi:TI)(g:TG)(tt:TT)(tm:Addr->TM)(own:List Str)(fr:List Nat):TE:=λσ H Q=>wi σ H λJ H1=>∀p,H1 p=none->zabd J g tt (tm p) (tau own fr σ) (upd H1 p (.lst [])) (λ_ H'=>Q (.ref p) H')
theorem zwr{elt0 target iter:Expr}{ifs:List Expr}{rest:List Comprehension}{cpos:Pos}{wi:TI}{g:TG}{tt:TT}{tm:Addr->TM}{emit:Value->Env->Sem Unit}(c:CompOk X scope N' own fr)(hc:X.calm=true)
  (eq:∀it acc env,compTurn (.ListComp elt0 (⟨target,iter,ifs,0⟩::rest) scope cpos) 0 it acc env=(do
   standAt iter.pos
   match <- pyNext it with
   | none=>pure (.done .next)
   | some v=>
    letOwnedTupleGo target it v
    assign target env v
    let mut ok:=true
    for c in ifs do
     if ok then ok <- isTrue c env (eval c env)
    if ok then emit acc env
    again (.compLoop (.ListComp elt0 (⟨target,iter,ifs,0⟩::rest) scope cpos) 0 it acc env)))
  (hi:PI X target iter wi)
  (hb:∀(cl:List (Str×Addr)) (C:Addr) (s:Shared) (H:Hp) (fp:List Addr) (p:Addr),PG (cxComp X scope N' own cl C s H fp) target g/\PF (cxComp X scope N' own cl C s H fp) ifs tt/\PM (cxComp X scope N' own cl C s H fp) (emit (.ref p) (compEnvC scope cl C X.env)) (tm p))
  (hs:∀x,foldedSetIterable iter X.env x=pure x:=by intro _;rfl) :
  PE X (.ListComp elt0 (⟨target,iter,ifs,0⟩::rest) scope cpos) (zafs wi g tt tm own fr):=by
 intro pins s σ H Q I h
 rw[eval_ListComp]
 refine qCv (use:=none) rfl hs (zjp (zku c I.ok)) c.kind (λy hy e=>(c.names y hy).trans (by rw[e])) ?_
 refine thn (hi pins s σ H _ I h) λv s1 h1=>thn h1 λitv s2 h2=>?_
 obtain⟨it,fp,tn,J,H2,e,I2,T,st2,f2,q⟩:=h2
 subst e
 refine zpm (Q:=Q) c hc eq T hb I2 st2 f2 q λp C m H' s' I' hn hC q'=>?_
 exact⟨m,hn,λh' sb=>⟨.ref p,H',I'.turned (t':=s'.toks) (λb o hb e=>(sb.2 b hb).trans e) hC.1 hC.2.1 hC.2.2.2.1 hC.2.2.2.2.1 hC.2.2.2.2.2,rfl,q'⟩⟩
noncomputable def zaks(wi:TI)(g:TG)(tt:TT)(tm:Addr->TM)(own:List Str)(fr:List Nat)(i:Nat):TS:=λD σ H=>zafs wi g tt tm own fr σ H λv H'=>D.nx (σ.set i (some v)) H'
theorem zws{elt0 target iter:Expr}{ifs:List Expr}{rest:List Comprehension}{cpos spos py:Pos}{wi:TI}{g:TG}{tt:TT}{tm:Addr->TM}{emit:Value->Env->Sem Unit}{i:Nat}{y:Str}(c:CompOk X scope N' own fr)(hc:X.calm=true)
  (eq:∀it acc env,compTurn (.ListComp elt0 (⟨target,iter,ifs,0⟩::rest) scope cpos) 0 it acc env=(do
   standAt iter.pos
   match <- pyNext it with
   | none=>pure (.done .next)
   | some v=>
    letOwnedTupleGo target it v
    assign target env v
    let mut ok:=true
    for c in ifs do
     if ok then ok <- isTrue c env (eval c env)
    if ok then emit acc env
    again (.compLoop (.ListComp elt0 (⟨target,iter,ifs,0⟩::rest) scope cpos) 0 it acc env)))
  (hi:PI X target iter wi)
  (hb:∀(cl:List (Str×Addr)) (C:Addr) (s:Shared) (H:Hp) (fp:List Addr) (p:Addr),PG (cxComp X scope N' own cl C s H fp) target g/\PF (cxComp X scope N' own cl C s H fp) ifs tt/\PM (cxComp X scope N' own cl C s H fp) (emit (.ref p) (compEnvC scope cl C X.env)) (tm p))
  (hsw:swapsWith (.ListComp elt0 (⟨target,iter,ifs,0⟩::rest) scope cpos) (some (.Name y py)) spos.line X.env=pure true)
  (hN:X.N.Nodup)(hy:X.N[i]?=some y)(hl:X.env.scope.names.lookup y=some .local)
  (hs:∀x,foldedSetIterable iter X.env x=pure x:=by intro _;rfl) :
  PS X (.Assign [.Name y py] (.ListComp elt0 (⟨target,iter,ifs,0⟩::rest) scope cpos) spos) (zaks wi g tt tm own fr i):=by
 intro pins s σ H D I h
 rw[exec_Assign_Name_used _ _ _ _ hsw]
 refine qB (qBS (qB ?_))
 show wpAny _ X.A (do let _ <- comprehension (.ListComp elt0 (⟨target,iter,ifs,0⟩::rest) scope cpos) scope X.env _ (newList []) false (eval iter X.env) (some (assign (.Name y py) X.env))) _ _ s
 refine qB (thn (qCv (use:=some (assign (.Name y py) X.env)) (Q:=λ_ s'=>SP X pins D .next s') rfl hs (zjp (zku c I.ok)) c.kind (λy hy e=>(c.names y hy).trans (by rw[e])) ?_) λ_ s' q=>qE (qE q))
 refine thn (hi pins s σ H _ I h) λv s1 h1=>thn h1 λitv s2 h2=>?_
 obtain⟨it,fp,tn,J,H2,e,I2,T,st2,f2,q⟩:=h2
 subst e
 refine zpm (Q:=λv H'=>D.nx (σ.set i (some v)) H') c hc eq T hb I2 st2 f2 q λp C m H' s' I' hn hC q'=>?_
 show wpAny _ X.A (assign (.Name y py) X.env (.ref p)) _ _ _
 refine wpAny_assign_Name (zrr I' hN hy (.inl hl) (v:=.ref p) rfl (λs'' I'' ⟨a,sb,ha⟩=>?_) (.inr hl))
 have hCa:C≠a:=by
  rcases ha with rfl|ha
  ·exact hC.2.1
  ·exact qBB (hC.2.2.2.2.1 y a ha)
 refine⟨m,hn.sameBut sb hCa,λh' sb'=>⟨σ.set i (some (.ref p)),H',I''.turned (t':=s''.toks) (λb o hb e=>(sb'.2 b hb).trans e) hC.1 hC.2.1 hC.2.2.2.1 hC.2.2.2.2.1 hC.2.2.2.2.2,q'⟩⟩
end
section
variable{X:Cx}
section
variable{scope:Scope}{N' own:List Str}{fr:List Nat}{elt target iter:Expr}{ifs:List Expr}{cpos:Pos}{wi:TI}{g:TG}{tt:TT}{te:TE}
noncomputable def tComp1(wi:TI)(g:TG)(tt:TT)(te:TE)(own:List Str)(fr:List Nat):TE:=zafs wi g tt (λp=>zun p te) own fr
theorem zaft(c:CompOk X scope N' own fr)(hc:X.calm=true)(hi:PI X target iter wi)
  (hb:∀(cl:List (Str×Addr)) (C:Addr) (s:Shared) (H:Hp) (fp:List Addr),PG (cxComp X scope N' own cl C s H fp) target g/\PF (cxComp X scope N' own cl C s H fp) ifs tt/\PE (cxComp X scope N' own cl C s H fp) elt te)
  (hs:∀x,foldedSetIterable iter X.env x=pure x:=by intro _;rfl):PE X (.ListComp elt [⟨target,iter,ifs,0⟩] scope cpos) (tComp1 wi g tt te own fr):=
 zwr (emit:=λacc env=>do let _ <- call (.builtin "list.append") [acc,<- eval elt env]) c hc (λ_ _ _=>rfl) hi
  (λcl C s H fp p=>⟨(hb cl C s H fp).1,(hb cl C s H fp).2.1,zuo (hb cl C s H fp).2.2⟩) hs
noncomputable def tAsgC1(wi:TI)(g:TG)(tt:TT)(te:TE)(own:List Str)(fr:List Nat)(i:Nat):TS:=zaks wi g tt (λp=>zun p te) own fr i
theorem zafu{spos py:Pos}{i:Nat}{y:Str}(c:CompOk X scope N' own fr)(hc:X.calm=true)(hi:PI X target iter wi)
  (hb:∀(cl:List (Str×Addr)) (C:Addr) (s:Shared) (H:Hp) (fp:List Addr),PG (cxComp X scope N' own cl C s H fp) target g/\PF (cxComp X scope N' own cl C s H fp) ifs tt/\PE (cxComp X scope N' own cl C s H fp) elt te)
  (hsw:swapsWith (.ListComp elt [⟨target,iter,ifs,0⟩] scope cpos) (some (.Name y py)) spos.line X.env=pure true)
  (hN:X.N.Nodup)(hy:X.N[i]?=some y)(hl:X.env.scope.names.lookup y=some .local)
  (hs:∀x,foldedSetIterable iter X.env x=pure x:=by intro _;rfl):PS X (.Assign [.Name y py] (.ListComp elt [⟨target,iter,ifs,0⟩] scope cpos) spos) (tAsgC1 wi g tt te own fr i):=
 zws (emit:=λacc env=>do let _ <- call (.builtin "list.append") [acc,<- eval elt env]) c hc (λ_ _ _=>rfl) hi
  (λcl C s H fp p=>⟨(hb cl C s H fp).1,(hb cl C s H fp).2.1,zuo (hb cl C s H fp).2.2⟩) hsw hN hy hl hs
end
noncomputable def zarn:R2:=λx y H Q=>∃z n,x=.str z/\y=.int n/\z.length<=1000/\-1000<=n/\n<=1000/\Q (.str (Txt.mul z n)) H
theorem zakt:OpR X (binaryOp .Mult) zarn:=by
 intro pins s σ H x y v u Q I rx ry h
 obtain⟨z,n,rfl,rfl,h1,h2,h3,q⟩:=h
 obtain⟨t,rfl⟩:=rx
 obtain⟨t',rfl⟩:=ry
 exact SB.mul (mulOk_of 1000 1000 h1 (by omega) (by omega) (by decide) (by decide)) λt' k=>⟨.str (Txt.mul z n),H,I.tok _,⟨_,rfl⟩,q⟩
noncomputable def rSlS:V->Option Int->Option Int->Hp->VK->Prop:=λx lo hi H Q=>∃z,x=.str z/\z.length<=qS/\Q (.str (Txt.slice z lo hi)) H
theorem zaoy:SlR X rSlS:=by
 intro pins s σ H x v vl vu lo hi sl Q I rx hs pl pu h
 obtain⟨z,rfl,hz,q⟩:=h
 obtain⟨t,rfl⟩:=rx
 refine⟨"str",_,F.slot_str_getitem.lookup,typeIs_str _ _ _,?_⟩
 have fin:∀t' k,EP X pins σ Q (.str (Txt.slice z lo hi) t') {s with toks:=k}:=λt' k=>⟨.str (Txt.slice z lo hi),H,I.tok _,⟨_,rfl⟩,q⟩
 have fz:(Txt.slice z lo hi).length<=qS:=qAM (Txt.slice_le z _ _) hz
 cases pl with
 | none=>cases pu with
  | none=>exact qBF (l:=none) (u:=none) (st:=none) hs rfl (qBx ⟨fz,fin⟩)
  | int j tj=>exact qBF (l:=none) (u:=some (j,tj)) (st:=none) hs rfl (qBx ⟨fz,fin⟩)
 | int i ti=>cases pu with
  | none=>exact qBF (l:=some (i,ti)) (u:=none) (st:=none) hs rfl (qBx ⟨fz,fin⟩)
  | int j tj=>exact qBF (l:=some (i,ti)) (u:=some (j,tj)) (st:=none) hs rfl (qBx ⟨fz,fin⟩)
noncomputable def zabe:V->List V->Hp->VK->Prop:=λx vs H Q=>∃d o kvs more,x=.ref d/\vs=[.ref o]/\d≠o/\H d=some (.dK kvs)/\H o=some (.dK more)/\kvs.length+more.length<=qS/\Q .non (upd H d (.dK (zjm kvs more)))
theorem zsh:MtM X "dict.update" zabe:=by
 intro pins s σ H x vs v us Q I rx rv h
 obtain⟨d,o,kvs,more,rfl,rfl,hne,hd,ho,hz,q⟩:=h
 cases rx
 obtain⟨u,rfl,ru⟩:=rv.one
 cases ru
 obtain⟨z1,s1,vs1,rel1,dd1⟩:=zaan I.hok hd
 obtain⟨z2,s2,vs2,rel2,dd2⟩:=zaan I.hok ho
 refine call_meetsIn F.slot_dict_update dd1.typeIs F.entry_dict_update (F.args_dict_update_2 _ _) (meets_dict_update (zar X.prog X.w) d o hne s2) ⟨vs1,vs2,dd1,dd2,?_,λh' h1 h2 sb=>?_⟩
 ·rw[<- rel1.length,<- rel2.length];exact hz
 ·have he:∃q,h'.get? d=some q:=by obtain⟨ob,_,_,e,_⟩:=h1;exact⟨ob,e⟩
  refine⟨.non,_,znb (t':=s.toks) I (by rw[hd];trivial) sb he (zaap (qAM (zgs more kvs) hz) s1 (rel2.merge rel1) h1),rfl,q⟩
theorem zafv{id:String}(hid:id="isinstance"):CallR X (.builtin id) (λxs H Q=>∃x n t b,xs=[x,.ty n]/\TyOf X.K H x t/\PySem.W.kitOne X.K t (.type n)=some b/\Q (.bl b) H):=by
 subst hid
 intro pins s σ H xs us Q I r h
 obtain⟨x,n,t,b,rfl,ty,e,q⟩:=h
 obtain⟨u,w',rfl,rx,ry⟩:=zajw r
 cases ry
 exact zaaf I rx ty e λtk=>⟨.bl b,H,I.tok _,rfl,q⟩
end
mutual
def Rep(K:qC)(H:Hp):PyData->V->Prop
 | .none,v=>v=.non
 | .bool b,v=>v=.bl b
 | .int i,v=>v=.int i
 | .str x,v=>v=.str x
 | .list ds,v=>∃a xs,v=.ref a/\SqL K H a xs/\Reps K H ds xs
 | .tuple ds,v=>∃a xs,v=.ref a/\SqT K H a xs/\Reps K H ds xs
 | .dict _,_=>False
def Reps(K:qC)(H:Hp):List PyData->List V->Prop
 | [],xs=>xs=[]
 | d::ds,xs=>∃v vs,xs=v::vs/\Rep K H d v/\Reps K H ds vs
end
mutual
theorem zhk{X:Cx}{pins:List (Addr×Obj)}{σ:St}{H:Hp}{s:Shared}(I:Inv X pins σ H s):∀(d:PyData){v:V}{u:Value},Rep X.K H d v->RelV v u->∃as,Reads s.heap u d as
 | .none,v,u,h,r=>by unfold Rep at h;subst h;cases r;exact⟨_,.none⟩
 | .bool b,v,u,h,r=>by unfold Rep at h;subst h;cases r;exact⟨_,.bool b⟩
 | .int i,v,u,h,r=>by unfold Rep at h;subst h;obtain⟨t,rfl⟩:=r;exact⟨_,.int i t⟩
 | .str x,v,u,h,r=>by unfold Rep at h;subst h;obtain⟨t,rfl⟩:=r;exact⟨_,.str x t⟩
 | .list ds,v,u,h,r=>by
  unfold Rep at h
  obtain⟨a,xs,rfl,hq,hr⟩:=h
  cases r
  obtain⟨its,rv,p,hz⟩:=I.list hq
  obtain⟨as,q⟩:=reps_reads I ds hr rv
  obtain⟨o,h1,h2,n,h3⟩:=p.isList
  exact⟨_,reads_list_at h1 h2 h3 (by simpa using q)⟩
 | .tuple ds,v,u,h,r=>by
  unfold Rep at h
  obtain⟨a,xs,rfl,hq,hr⟩:=h
  cases r
  obtain⟨its,rv,p,hz⟩:=I.tuple hq
  obtain⟨as,q⟩:=reps_reads I ds hr rv
  obtain⟨o,h1,h2,n,h3⟩:=p
  exact⟨_,reads_tuple_at h1 h2 h3 (by simpa using q)⟩
 | .dict _,_,_,h,_=>by unfold Rep at h;exact h.elim
theorem reps_reads{X:Cx}{pins:List (Addr×Obj)}{σ:St}{H:Hp}{s:Shared}(I:Inv X pins σ H s):∀(ds:List PyData){vs:List V}{us:List Value},Reps X.K H ds vs->Vals vs us->∃as,ReadsAll s.heap us ds as
 | [],vs,us,h,r=>by unfold Reps at h;subst h;cases r;exact⟨_,.nil⟩
 | d::ds,vs,us,h,r=>by
  unfold Reps at h
  obtain⟨v,vs',rfl,h1,h2⟩:=h
  cases r with
  | cons r rr=>
   obtain⟨as,q1⟩:=zhk I d h1 r
   obtain⟨bs,q2⟩:=reps_reads I ds h2 rr
   exact⟨_,.cons q1 q2⟩
end
theorem SqT.same{K:qC}{H H':Hp}{a:Addr}{xs:List V}(h:Same H H')(q:SqT K H a xs):SqT K H' a xs:=by
 rcases q with(q|⟨o,q⟩)|q
 ·exact .inl (.inl (h _ _ q))
 ·exact .inl (.inr ⟨o,h _ _ q⟩)
 ·exact .inr q
section
variable{X:Cx}
noncomputable def rEqD(K:qC)(neg:Bool):R2:=λx y H Q=>∃d e,Rep K H d x/\Rep K H e y/\qAn d=true/\qAn e=true/\Q (.bl (if neg then !PyData.eqv d e else qAf d e)) H
theorem zaoz(hu:X.A.units+64<cLine):OpR X (compareOp .Eq) (rEqD X.K false):=by
 intro pins s σ H x y v u Q I rx ry h
 obtain⟨d,e,hd,he,sd,se,q⟩:=h
 obtain⟨as,r1⟩:=zhk I d hd rx
 obtain⟨bs,r2⟩:=zhk I e he ry
 exact eq_dataH r1 r2 sd se hu ⟨.bl (qAf d e),H,I,rfl,q⟩
theorem zapa(hu:X.A.units+64<cLine):OpR X (compareOp .NotEq) (rEqD X.K true):=by
 intro pins s σ H x y v u Q I rx ry h
 obtain⟨d,e,hd,he,sd,se,q⟩:=h
 obtain⟨as,r1⟩:=zhk I d hd rx
 obtain⟨bs,r2⟩:=zhk I e he ry
 exact ne_dataH r1 r2 sd se hu ⟨.bl (!PyData.eqv d e),H,I,rfl,q⟩
theorem zabf{bs:List Bool}:∀{its:List Value},Vals (bs.map V.bl) its->its=bs.map Value.bool:=by
 induction bs with
 | nil=>intro its r;cases r;rfl
 | cons b bs ih=>
  intro its r
  cases r with
  | cons r rr=>cases r;rw[ih rr];rfl
theorem zabg(bs:List Bool):(List.range bs.length).any (λi=>bs.getD i false)=bs.any id:=by
 rw[qAc,qA8,qA8]
 constructor
 ·rintro⟨i,hi,h⟩
  have hi:=qA6.mp hi
  rw[qZ,qG hi]at h
  exact⟨_,qBI hi,h⟩
 ·rintro⟨b,hb,h⟩
  obtain⟨i,hi,e⟩:=qBP hb
  exact⟨i,qA6.mpr hi,by rw[qZ,qG hi,e];exact h⟩
theorem zabh(bs:List Bool):(List.range bs.length).all (λi=>bs.getD i false)=bs.all id:=by
 rw[qAc,qAS,qAS]
 constructor
 ·intro h b hb
  obtain⟨i,hi,e⟩:=qBP hb
  have q:=h i (qA6.mpr hi)
  rw[qZ,qG hi,e]at q
  exact q
 ·intro h i hi
  have hi:=qA6.mp hi
  have q:=h _ (qBI hi)
  rw[qZ,qG hi]
  exact q
noncomputable def rAny(K:qC)(f:List Bool->Bool):List V->Hp->VK->Prop:=λxs H Q=>∃p bs,xs=[.ref p]/\SqL K H p (bs.map V.bl)/\Q (.bl (f bs)) H
theorem zafw(hc:X.calm=true):CallR X (.builtin "any") (rAny X.K λbs=>bs.any id):=by
 intro pins s σ H xs us Q I r h
 obtain⟨p,bs,rfl,hq,q⟩:=h
 obtain⟨u,rfl,ru⟩:=zru r
 cases ru
 obtain⟨its,rv,pl,hz⟩:=I.list hq
 cases zabf rv
 have hne:p≠s.heap.objs.size:=by obtain⟨o,e,_⟩:=pl.isList;exact qw (qT e)
 refine call_any_walk (qCJ pl.isList ⟨s.heap.objs.size,_,_,_,_,_,λi=>bs.getD i false,rfl,Walks.list (A:=X.A.in1) (show X.A.in1.handled=none from I.ok.hd hc) _ p hne (bs.map Value.bool).toArray,⟨⟨_,qg _ rfl,rfl,rfl⟩,?_⟩,?_,?_⟩)
 ·obtain⟨o,e,z⟩:=pl.isList
  exact⟨o,qL _ e,z⟩
 ·intro i v s' Q' E' hv hQ
  have hv:(bs.map Value.bool)[i]?=some v:=by simpa using hv
  rw[qV]at hv
  cases e:bs[i]? with
  | none=>rw[e]at hv;cases hv
  | some b=>
   rw[e]at hv
   cases hv
   have z:bs.getD i false=b:=by rw[qZ,e];rfl
   have hQ:Q' (bs.getD i false) s':=hQ
   rw[z]at hQ
   exact qAp hQ
 ·intro h' tk hk
  refine⟨.bl (bs.any id),H,?_,by rw[<- zabg bs];simp;rfl,q⟩
  exact I.kept (t':=tk) λb o e=>hk b o (by have:=qT e;simp;exact qw this) (qL _ e)
theorem zafx(hc:X.calm=true):CallR X (.builtin "all") (rAny X.K λbs=>bs.all id):=by
 intro pins s σ H xs us Q I r h
 obtain⟨p,bs,rfl,hq,q⟩:=h
 obtain⟨u,rfl,ru⟩:=zru r
 cases ru
 obtain⟨its,rv,pl,hz⟩:=I.list hq
 cases zabf rv
 have hne:p≠s.heap.objs.size:=by obtain⟨o,e,_⟩:=pl.isList;exact qw (qT e)
 refine call_all_walk (qCJ pl.isList ⟨s.heap.objs.size,_,_,_,_,_,λi=>bs.getD i false,rfl,Walks.list (A:=X.A.in1) (show X.A.in1.handled=none from I.ok.hd hc) _ p hne (bs.map Value.bool).toArray,⟨⟨_,qg _ rfl,rfl,rfl⟩,?_⟩,?_,?_⟩)
 ·obtain⟨o,e,z⟩:=pl.isList
  exact⟨o,qL _ e,z⟩
 ·intro i v s' Q' E' hv hQ
  have hv:(bs.map Value.bool)[i]?=some v:=by simpa using hv
  rw[qV]at hv
  cases e:bs[i]? with
  | none=>rw[e]at hv;cases hv
  | some b=>
   rw[e]at hv
   cases hv
   have z:bs.getD i false=b:=by rw[qZ,e];rfl
   have hQ:Q' (bs.getD i false) s':=hQ
   rw[z]at hQ
   exact qAp hQ
 ·intro h' tk hk
  refine⟨.bl (bs.all id),H,?_,by rw[<- zabh bs];simp;rfl,q⟩
  exact I.kept (t':=tk) λb o e=>hk b o (by have:=qT e;simp;exact qw this) (qL _ e)
end
noncomputable def zabi(o:Option NameKind):Bool:=o==some .cell||o==some .free
noncomputable def zabj(sc:Scope)(N:List Str)(scope:Scope)(N' own:List Str)(fr:List Nat):Bool:=
 (scope.kind==.function)&&(scope.names.all λy=>scope.names.lookup y.1==some y.2)&&(scope.names.all λy=>!(y.2==.free)||zabi (sc.names.lookup y.1))&&
 (N'==own++fr.map λj=>N.getD j Str.empty)&&(fr.all λj=>decide (j<N.length)&&(scope.names.lookup (N.getD j Str.empty)==some .free))&&
 (own.all λx=>scope.names.lookup x==some .local||scope.names.lookup x==some .cell)
section
variable{X:Cx}
theorem zcc{scope:Scope}{N' own:List Str}{fr:List Nat}(h:zabj X.env.scope X.N scope N' own fr=true):CompOk X scope N' own fr:=by
 unfold zabj at h
 simp only[q9]at h
 obtain⟨⟨⟨⟨⟨h1,h2⟩,h3⟩,h4⟩,h5⟩,h6⟩:=h
 refine⟨eq_of_beq h1,λy hy=>eq_of_beq (qAS.mp h2 y hy),λy hy e=>?_,eq_of_beq h4,λj hj=>?_,λx hx=>?_⟩
 ·have q:=qAS.mp h3 y hy
  rw[e]at q
  have q:zabi (X.env.scope.names.lookup y.1)=true:=by simpa using q
  unfold zabi at q
  rcases qCz.mp q with z|z
  ·exact .inl (eq_of_beq z)
  ·exact .inr (eq_of_beq z)
 ·have q:=qAS.mp h5 j hj
  rw[q9]at q
  exact⟨of_decide_eq_true q.1,eq_of_beq q.2⟩
 ·have q:=qAS.mp h6 x hx
  rcases qCz.mp q with z|z
  ·exact .inl (eq_of_beq z)
  ·exact .inr (eq_of_beq z)
noncomputable def zaku(K:qC):R2:=λx y H Q=>match x,y with
 | .int i,.int j=>Q (.int (i+j)) H
 | .str a,.str b=>a.length+b.length<=qS/\Q (.str (a++b)) H
 | .ref _,.ref _=>rCat x y H Q\/zaof K x y H Q
 | _,_=>False
theorem zakv:OpR X (binaryOp .Add) (zaku X.K):=by
 intro pins s σ H x y v u Q I rx ry h
 cases x<;>cases y<;>first
  | exact h.elim
  | exact zanv pins s σ H _ _ v u Q I rx ry ⟨_,_,rfl,rfl,h⟩
  | exact zyp pins s σ H _ _ v u Q I rx ry ⟨_,_,rfl,rfl,h.1,h.2⟩
  | exact(zaol.or zakc) pins s σ H _ _ v u Q I rx ry h
noncomputable def zapb:R2:=λx y H Q=>match x,y with
 | .int i,.int j=>CMul i j/\Q (.int (i * j)) H
 | .str z,.int n=>z.length<=1000/\-1000<=n/\n<=1000/\Q (.str (Txt.mul z n)) H
 | _,_=>False
theorem zgb:OpR X (binaryOp .Mult) zapb:=by
 intro pins s σ H x y v u Q I rx ry h
 cases x<;>cases y<;>first
  | exact h.elim
  | exact zanw pins s σ H _ _ v u Q I rx ry ⟨_,_,rfl,rfl,h.1,h.2⟩
  | exact zakt pins s σ H _ _ v u Q I rx ry ⟨_,_,rfl,rfl,h.1,h.2.1,h.2.2.1,h.2.2.2⟩
noncomputable def rIxU(K:qC):R2:=λx y H Q=>match x,y with
 | .str z,.int i=>z.length<=qS/\∃c,atI z.cps.toList i=some c/\Q (.str ⟨#[c]⟩) H
 | .ref p,.int i=>∃xs v,(SqL K H p xs\/SqT K H p xs)/\atI xs i=some v/\Q v H
 | _,_=>False
theorem ix_U:IxR X (rIxU X.K):=by
 intro value slice pins s σ H x y v u Q I rx ry h hs
 cases x<;>cases y<;>first
  | exact h.elim
  | (obtain⟨h1,c,h2,h3⟩:=h;exact zaoh value slice pins s σ H _ _ v u Q I rx ry ⟨_,_,c,rfl,rfl,h1,h2,h3⟩ hs)
  | (obtain⟨xs,w,h1,h2,h3⟩:=h
     rcases h1 with h1|h1
     ·exact zakd value slice pins s σ H _ _ v u Q I rx ry ⟨_,xs,_,w,rfl,rfl,h1,h2,h3⟩ hs
     ·exact zaog value slice pins s σ H _ _ v u Q I rx ry ⟨_,xs,_,w,rfl,rfl,h1,h2,h3⟩ hs)
noncomputable def rSlU(K:qC):V->Option Int->Option Int->Hp->VK->Prop:=λx lo hi H Q=>match x with
 | .str z=>z.length<=qS/\Q (.str (Txt.slice z lo hi)) H
 | .ref _=>rSlL K x lo hi H Q
 | _=>False
theorem sl_U:SlR X (rSlU X.K):=by
 intro pins s σ H x v vl vu lo hi sl Q I rx hs pl pu h
 cases x<;>first
  | exact h.elim
  | exact zaoy pins s σ H _ v vl vu lo hi sl Q I rx hs pl pu ⟨_,rfl,h.1,h.2⟩
  | exact zakf pins s σ H _ v vl vu lo hi sl Q I rx hs pl pu h
noncomputable def Dn(P:Program)(w:World)(K:qC)(mg:Str->Option Value)(base:Heap)(x:Str)(ps:List Str)(k:Nat)(sp:Sp):Prop:=
 ∃f fd,FnOk P w K mg base CX0 k f fd ps sp/\mg x=some (.ref f)/\qBA K (.ref f)=true/\zmj K fd ps []
theorem zaro{x:Str}{p pos:Pos}{e:Expr}{es:List Expr}{t:TA}{ps:List Str}{k:Nat}{sp:Sp}(D:Dn X.prog X.w X.K X.mg X.base x ps k sp)(hr:Room k X.A)(hg:Gl X x)(ha:PA X (e::es) t)
  (hdb:(x==("__debug__":Str))=false:=by decide)(he:starEach (e::es) X.env=(false,eval e X.env)::starEach es X.env:=by rfl)(hpl:(backTo pos (starEach es X.env)).any (·.1)=false:=by rfl) :
  PE X (.Call (.Name x p) (e::es) [] pos) (tCall sp [] E0 t):=by
 obtain⟨f,fd,F,hm,hk,hb⟩:=D
 exact zajz F hr hg hm hk hb .nil zaoo ha hdb he hpl
end
theorem Same.upd{H H':Hp}{p:Addr}{o:HO}(h:Same H H')(hp:H p=none):Same H (upd H' p o):=λb u e=>by rw[zas (zbh e hp)];exact h b u e
theorem Same.new{H:Hp}{p:Addr}{o:HO}(hp:H p=none):Same H (L2.upd H p o):=(Same.refl H).upd hp
end L2
namespace Bc
open PySem L2
noncomputable abbrev Web:=List (Str×List Str)
noncomputable def nm(W:Web):List Str:=W.map (·.1)
structure WebOk(W:Web):Prop where
 nd:(nm W).Nodup
 el:∀i n es,W[i]?=some (n,es)->∀e∈es,e∈nm (W.take i)
 few:∀p∈W,p.2.length<=4
 len:W.length<=12
theorem zjq{α:Type}[DecidableEq α]:∀(l m:List α),l.Nodup->(∀x∈l,x∈m)->l.length<=m.length
 | [],_,_,_=>qAL _
 | a::l,m,h,s=>by
  obtain⟨h1,h2⟩:=qAK.mp h
  have ha:=s a qW
  have q:=zjq l (m.erase a) h2 λx hx=>(List.mem_erase_of_ne (λ(z:x=a)=>h1 (by rw[<- z];exact hx))).mpr (s x (qJ _ hx))
  rw[List.length_erase_of_mem ha]at q
  have:=List.length_pos_of_mem ha
  rw[qj]
  omega
theorem zmd{W:Web}(h:WebOk W):(nm W).length<=12:=by unfold nm;rw[qD];exact h.len
end Bc
namespace L2
open PySem PySem.Spec PyProof.Rows
section
variable{X:Cx}{K:qC}(hK:X.K=K)
include hK
theorem zakw{es:List Expr}{k:Nat}{t:TGs}{n:Nat}{pos:Pos}(hc:X.calm=true)(h:PGs X es t)
  (hn:(assignEach es X.env).length=n:=by rfl) (hst:(assignEach es X.env).findIdx? (·.1)=none:=by rfl):PG X (.Tuple es k pos) (gTup K n t):=by subst hK;exact zanq hc h hn hst
theorem zhl:IxR X (rIxU K):=by subst hK;exact ix_U
theorem zafy:SlR X (rSlU K):=by subst hK;exact sl_U
theorem zbi:OpR X (binaryOp .Add) (zaku K):=by subst hK;exact zakv
theorem zsi:OpR X (compareOp .In) (rIn K false):=by subst hK;exact zaal
theorem zhm:OpR X (compareOp .NotIn) (rIn K true):=by subst hK;exact zsb
theorem zcz:CallR X (.builtin "len") (λxs H Q=>∃x n,xs=[x]/\LenV K x H n/\Q (.int n) H):=by subst hK;exact zaex
theorem zne(hc:X.calm=true):CallR X (.builtin "any") (rAny K λbs=>bs.any id):=by subst hK;exact zafw hc
theorem zsj(hc:X.calm=true):CallR X (.builtin "all") (rAny K λbs=>bs.all id):=by subst hK;exact zafx hc
theorem zsk:CallR X (.builtin "isinstance") (λxs H Q=>∃x n t b,xs=[x,.ty n]/\TyOf K H x t/\PySem.W.kitOne K t (.type n)=some b/\Q (.bl b) H):=by subst hK;exact zafv rfl
theorem zpn:CallR X (.type "list") (λxs H Q=>∃p ys,xs=[.ref p]/\(SqL K H p ys\/SqT K H p ys)/\∀l,H l=none->Q (.ref l) (upd H l (.lst ys))):=by subst hK;exact zsc
theorem zapc{T:String}{name:Str}{id:String}{r:V->List V->Hp->VK->Prop}{o e:Expr}{es:List Expr}{to:TE}{t:TA}{apos cpos:Pos}(pa:PlainAttrs T)(slot:Slot T name id)(hty:typeOf (.builtin id)=pure (.type "method_descriptor"))(hm:MtR X id r)(ho:PE X o to)(ha:PA X (e::es) t)
  (hbase:attributeBase o name X.env (eval o X.env)=eval o X.env:=by rfl)
  (hfew:((backTo cpos (starEach (e::es) X.env)).all (λx=>!x.1)&&(backToKw cpos (keywordEach [] X.env)).all (λx=>x.1.isSome)
   && decide ((e::es).length+([]:List Keyword).length+(if([]:List Keyword).isEmpty then 0 else 1)<30))=true:=by rfl)
  (hline:(apos.endLine==cpos.line)=true:=by rfl)(hs:starEach (e::es) X.env=(false,eval e X.env)::starEach es X.env:=by rfl)(hplain:(backTo cpos (starEach es X.env)).any (·.1)=false:=by rfl) :
  PE X (.Call (.Attribute o name apos) (e::es) [] cpos) (tBM K T r to t):=by subst hK;exact zarj pa slot hty hm ho ha hbase hfew hline hs hplain
end
end L2
namespace PySem
open Sem (wp)
open Builtin Builtin.ObjectAttr
end PySem
namespace L2
open PySem PySem.Spec PyProof.Rows
noncomputable def keyD:PyData->Option Key
 | .int i=>some (Sum.inl i)
 | .str s=>some (Sum.inr s)
 | _=>none
mutual
def Rp(H:Hp):PyData->V->Prop
 | .none,v=>v=.non
 | .bool b,v=>v=.bl b
 | .int i,v=>v=.int i
 | .str x,v=>v=.str x
 | .list ds,v=>∃a xs,v=.ref a/\H a=some (.lst xs)/\Rps H ds xs
 | .tuple ds,v=>∃a xs,v=.ref a/\H a=some (.tup xs)/\Rps H ds xs
 | .dict kvs,v=>∃a ps,v=.ref a/\H a=some (.dK ps)/\Rpd H kvs ps
def Rps(H:Hp):List PyData->List V->Prop
 | [],xs=>xs=[]
 | d::ds,xs=>∃v vs,xs=v::vs/\Rp H d v/\Rps H ds vs
def Rpd(H:Hp):List (PyData×PyData)->List (Key×V)->Prop
 | [],ps=>ps=[]
 | (k,d)::r,ps=>∃k' v vs,ps=(k',v)::vs/\keyD k=some k'/\Rp H d v/\Rpd H r vs
end
mutual
theorem Rp.same{H H':Hp}(h:Same H H'):∀(d:PyData){v:V},Rp H d v->Rp H' d v
 | .none,v,q=>by unfold Rp at q ⊢;exact q
 | .bool b,v,q=>by unfold Rp at q ⊢;exact q
 | .int i,v,q=>by unfold Rp at q ⊢;exact q
 | .str x,v,q=>by unfold Rp at q ⊢;exact q
 | .list ds,v,q=>by
  unfold Rp at q ⊢
  obtain⟨a,xs,e,hq,hr⟩:=q
  exact⟨a,xs,e,h _ _ hq,Rps.same h ds hr⟩
 | .tuple ds,v,q=>by
  unfold Rp at q ⊢
  obtain⟨a,xs,e,hq,hr⟩:=q
  exact⟨a,xs,e,h _ _ hq,Rps.same h ds hr⟩
 | .dict kvs,v,q=>by
  unfold Rp at q ⊢
  obtain⟨a,xs,e,hq,hr⟩:=q
  exact⟨a,xs,e,h _ _ hq,Rpd.same h kvs hr⟩
theorem Rps.same{H H':Hp}(h:Same H H'):∀(ds:List PyData){vs:List V},Rps H ds vs->Rps H' ds vs
 | [],vs,q=>by unfold Rps at q ⊢;exact q
 | d::ds,vs,q=>by
  unfold Rps at q ⊢
  obtain⟨v,vs',e,h1,h2⟩:=q
  exact⟨v,vs',e,Rp.same h d h1,Rps.same h ds h2⟩
theorem Rpd.same{H H':Hp}(h:Same H H'):∀(ds:List (PyData×PyData)){vs:List (Key×V)},Rpd H ds vs->Rpd H' ds vs
 | [],vs,q=>by unfold Rpd at q ⊢;exact q
 | (k,d)::ds,vs,q=>by
  unfold Rpd at q ⊢
  obtain⟨k',v,vs',e,h0,h1,h2⟩:=q
  exact⟨k',v,vs',e,h0,Rp.same h d h1,Rpd.same h ds h2⟩
end
theorem zbr{H:Hp}:∀{ds:List PyData}{xs:List V},Rps H ds xs↔Paired (Rp H) ds xs
 | [],xs=>by
  constructor
  ·intro h;unfold Rps at h;subst h;exact .nil
  ·intro h;cases h;unfold Rps;rfl
 | d::ds,xs=>by
  constructor
  ·intro h
   unfold Rps at h
   obtain⟨v,vs,rfl,h1,h2⟩:=h
   exact .cons h1 (zbr.mp h2)
  ·intro h
   cases h with
   | cons h1 h2=>unfold Rps;exact⟨_,_,rfl,h1,zbr.mpr h2⟩
theorem Rps.length{H:Hp}{ds:List PyData}{xs:List V}(h:Rps H ds xs):ds.length=xs.length:=(zbr.mp h).length
theorem zdm{H:Hp}{ds:List PyData}{v:V}(h:Rp H (.list ds) v):∃a xs,v=.ref a/\H a=some (.lst xs)/\Rps H ds xs:=by unfold Rp at h;exact h
theorem zcg{H:Hp}{ds:List PyData}{v:V}(h:Rp H (.tuple ds) v):∃a xs,v=.ref a/\H a=some (.tup xs)/\Rps H ds xs:=by unfold Rp at h;exact h
theorem zhn{H:Hp}{ds:List (PyData×PyData)}{v:V}(h:Rp H (.dict ds) v):∃a xs,v=.ref a/\H a=some (.dK xs)/\Rpd H ds xs:=by unfold Rp at h;exact h
theorem zbz{H:Hp}{i:Int}{v:V}(h:Rp H (.int i) v):v=.int i:=by unfold Rp at h;exact h
theorem zir{H:Hp}{i:Str}{v:V}(h:Rp H (.str i) v):v=.str i:=by unfold Rp at h;exact h
theorem zjc{H:Hp}{i:Bool}{v:V}(h:Rp H (.bool i) v):v=.bl i:=by unfold Rp at h;exact h
theorem zabk{H:Hp}{v:V}(h:Rp H .none v):v=.non:=by unfold Rp at h;exact h
theorem zac{H:Hp}{i:Int}:Rp H (.int i) (.int i):=by unfold Rp;rfl
theorem zdn{H:Hp}{i:Str}:Rp H (.str i) (.str i):=by unfold Rp;rfl
theorem zbb{H:Hp}{i:Bool}:Rp H (.bool i) (.bl i):=by unfold Rp;rfl
theorem zyw{H:Hp}:Rp H .none .non:=by unfold Rp;rfl
theorem zgj{H:Hp}{ds:List PyData}{a:Addr}{xs:List V}(h:H a=some (.lst xs))(r:Rps H ds xs):Rp H (.list ds) (.ref a):=by unfold Rp;exact⟨a,xs,rfl,h,r⟩
theorem zuq{H:Hp}{ds:List PyData}{a:Addr}{xs:List V}(h:H a=some (.tup xs))(r:Rps H ds xs):Rp H (.tuple ds) (.ref a):=by unfold Rp;exact⟨a,xs,rfl,h,r⟩
theorem zkv{H:Hp}{ds:List (PyData×PyData)}{a:Addr}{xs:List (Key×V)}(h:H a=some (.dK xs))(r:Rpd H ds xs):Rp H (.dict ds) (.ref a):=by unfold Rp;exact⟨a,xs,rfl,h,r⟩
theorem zct{H:Hp}:Rps H [] []:=by unfold Rps;rfl
theorem zkw{H:Hp}:Rpd H [] []:=by unfold Rpd;rfl
theorem zcp{H:Hp}{d:PyData}{ds:List PyData}{v:V}{vs:List V}(h:Rp H d v)(r:Rps H ds vs):Rps H (d::ds) (v::vs):=by
 show Rps H (d::ds) _
 unfold Rps;exact⟨v,vs,rfl,h,r⟩
theorem Rps.append{H:Hp}{ds es:List PyData}{vs ws:List V}(h:Rps H ds vs)(r:Rps H es ws):Rps H (ds++es) (vs++ws):=by
 replace h:=zbr.mp h
 refine zbr.mpr ?_
 induction h with
 | nil=>exact zbr.mp r
 | cons h _ ih=>exact .cons h ih
theorem Rps.get2{H:Hp}{ds:List PyData}{vs:List V}(h:Rps H ds vs){i:Nat}{d:PyData}(e:ds[i]?=some d):∃v,vs[i]?=some v/\Rp H d v:=by
 replace h:=zbr.mp h
 induction h generalizing i with
 | nil=>simp at e
 | cons h _ ih=>
  cases i with
  | zero=>simp at e;subst e;exact⟨_,rfl,h⟩
  | succ i=>simpa using ih (by simpa using e)
open Classical in
noncomputable def Offs(A:Addr->Prop)(H:Hp):Hp:=λb=>if A b then none else H b
theorem Offs.get{A:Addr->Prop}{H:Hp}{b:Addr}(h:¬A b):Offs A H b=H b:=if_neg h
theorem Offs.out{A:Addr->Prop}{H:Hp}{b:Addr}(h:A b):Offs A H b=none:=if_pos h
theorem Offs.of{A:Addr->Prop}{H:Hp}{b:Addr}{o:HO}(h:Offs A H b=some o):¬A b/\H b=some o:=by
 by_cases hb:A b
 ·rw[Offs.out hb]at h;cases h
 ·rw[Offs.get hb]at h;exact⟨hb,h⟩
theorem Offs.mono{A B:Addr->Prop}{H H':Hp}(s:Same H H')(h:∀b o,H b=some o->¬A b->¬B b):Same (Offs A H) (Offs B H'):=λb o e=>by
 obtain⟨h1,h2⟩:=Offs.of e
 rw[Offs.get (h b o h2 h1)]
 exact s b o h2
theorem Offs.same(A:Addr->Prop)(H:Hp):Same (Offs A H) H:=λb o e=>(Offs.of e).2
theorem Offs.sub{A B:Addr->Prop}{H:Hp}(h:∀b,B b->A b):Same (Offs A H) (Offs B H):=Offs.mono (Same.refl _) λb _ _ n z=>n (h b z)
theorem Offs.grow{A:Addr->Prop}{H H':Hp}(s:Same H H'):Same (Offs A H) (Offs A H'):=Offs.mono s λ_ _ _ z=>z
theorem Offs.upd{A:Addr->Prop}{H:Hp}{a:Addr}{o:HO}(h:A a):Offs A (upd H a o)=Offs A H:=by
 funext b
 by_cases hb:A b
 ·rw[Offs.out hb,Offs.out hb]
 ·rw[Offs.get hb,Offs.get hb,zas (λe=>hb (by rw[e];exact h))]
inductive Sl where
 | no
  | pl (d:PyData)
  | ac (d:PyData)
noncomputable abbrev DEnv:=List Sl
noncomputable def own(env:DEnv)(σ:St)(a:Addr):Prop:=∃(i:Nat)(d:PyData),env[i]?=some (.ac d)/\σ[i]?=some (some (.ref a))
noncomputable def zci(Ho H:Hp)(a:Addr):PyData->Prop
 | .list ds=>∃xs,H a=some (.lst xs)/\Rps Ho ds xs
 | .dict kvs=>∃ps,H a=some (.dK ps)/\Rpd Ho kvs ps
 | _=>False
theorem zci.rp{Ho H H':Hp}{a:Addr}{d:PyData}(h:zci Ho H a d)(s:Same Ho H')(e:∀o,H a=some o->H' a=some o):Rp H' d (.ref a):=by
 cases d with
 | list ds=>
  obtain⟨xs,h1,h2⟩:=h
  exact zgj (e _ h1) (Rps.same s _ h2)
 | dict ds=>
  obtain⟨xs,h1,h2⟩:=h
  exact zkv (e _ h1) (Rpd.same s _ h2)
 | _=>exact h.elim
theorem zci.same{Ho H Ho' H':Hp}{a:Addr}{d:PyData}(h:zci Ho H a d)(s:Same Ho Ho')(e:∀o,H a=some o->H' a=some o):zci Ho' H' a d:=by
 cases d with
 | list ds=>
  obtain⟨xs,h1,h2⟩:=h
  exact⟨xs,e _ h1,Rps.same s _ h2⟩
 | dict ds=>
  obtain⟨xs,h1,h2⟩:=h
  exact⟨xs,e _ h1,Rpd.same s _ h2⟩
 | _=>exact h.elim
theorem zci.ex{Ho H:Hp}{a:Addr}{d:PyData}(h:zci Ho H a d):∃o,H a=some o:=by
 cases d with
 | list ds=>obtain⟨xs,h1,h2⟩:=h;exact⟨_,h1⟩
 | dict ds=>obtain⟨xs,h1,h2⟩:=h;exact⟨_,h1⟩
 | _=>exact h.elim
structure EnvOk(fx:Addr->Prop)(H0:Hp)(env:DEnv)(σ:St)(H:Hp):Prop where
 len:env.length=σ.length
 pl:∀(i:Nat)(d:PyData),env[i]?=some (.pl d)->∃v,σ[i]?=some (some v)/\Rp (Offs (λa=>fx a\/own env σ a) H) d v
 ac:∀(i:Nat)(d:PyData),env[i]?=some (.ac d)->∃a,σ[i]?=some (some (.ref a))/\H0 a=none/\¬fx a/\zci (Offs (λa=>fx a\/own env σ a) H) H a d
 inj:∀(i j:Nat)(d e:PyData)(a:Addr),env[i]?=some (.ac d)->env[j]?=some (.ac e)->σ[i]?=some (some (.ref a))->σ[j]?=some (some (.ref a))->i=j
 base:Same H0 H
 fxs:∀b,fx b->∃o,H b=some o
theorem EnvOk.grow{fx fx':Addr->Prop}{H0:Hp}{env:DEnv}{σ:St}{H H':Hp}(h:EnvOk fx H0 env σ H)(s:Same H H')(f:∀b o,H b=some o->¬fx b->¬fx' b)(g:∀b,fx' b->∃o,H' b=some o):EnvOk fx' H0 env σ H':=by
 have so:Same (Offs (λa=>fx a\/own env σ a) H) (Offs (λa=>fx' a\/own env σ a) H'):=Offs.mono s λb o e n=>λz=>z.elim (f b o e λy=>n (.inl y)) λy=>n (.inr y)
 refine⟨h.len,λi d e=>?_,λi d e=>?_,h.inj,h.base.trans s,g⟩
 ·obtain⟨v,h1,h2⟩:=h.pl i d e
  exact⟨v,h1,Rp.same so d h2⟩
 ·obtain⟨a,h1,h2,h3,h4⟩:=h.ac i d e
  obtain⟨o,ho⟩:=h4.ex
  exact⟨a,h1,h2,f a o ho h3,h4.same so λo=>s a o⟩
theorem EnvOk.up{fx:Addr->Prop}{H0:Hp}{env:DEnv}{σ:St}{H H':Hp}(h:EnvOk fx H0 env σ H)(s:Same H H'):EnvOk fx H0 env σ H':=
 h.grow s (λ_ _ _ z=>z) λb z=>let⟨o,e⟩:=h.fxs b z;⟨o,s b o e⟩
structure Val where
 d:PyData
 fr:Bool
 bs:List Nat
noncomputable def lim(fx:Addr->Prop)(env:DEnv)(σ:St)(bs:List Nat)(a:Addr):Prop:=fx a\/∃(i:Nat)(d:PyData),i∉bs/\env[i]?=some (.ac d)/\σ[i]?=some (some (.ref a))
structure ValOk(A:Addr->Prop)(H H':Hp)(r:Val)(v:V):Prop where
 rp:Rp (Offs A H') r.d v
 fr:r.fr=true->∃a,v=.ref a/\H a=none/\zci (Offs (λb=>A b\/b=a) H') H' a r.d
theorem zho{fx:Addr->Prop}{env:DEnv}{σ:St}{bs cs:List Nat}(h:∀i∈bs,i∈cs):∀a,lim fx env σ cs a->lim fx env σ bs a:=by
 rintro a (z|⟨i,d,h1,h2,h3⟩)
 ·exact .inl z
 ·exact .inr ⟨i,d,λq=>h1 (h i q),h2,h3⟩
theorem zhp{fx:Addr->Prop}{env:DEnv}{σ:St}{bs:List Nat}:∀a,lim fx env σ bs a->fx a\/own env σ a:=by
 rintro a (z|⟨i,d,h1,h2,h3⟩)
 ·exact .inl z
 ·exact .inr ⟨i,d,h2,h3⟩
theorem zakx{fx:Addr->Prop}{env:DEnv}{σ:St}:∀a,fx a\/own env σ a->lim fx env σ [] a:=by
 rintro a (z|⟨i,d,h2,h3⟩)
 ·exact .inl z
 ·exact .inr ⟨i,d,by simp,h2,h3⟩
theorem EnvOk.lims{fx:Addr->Prop}{H0:Hp}{env:DEnv}{σ:St}{H:Hp}(h:EnvOk fx H0 env σ H)(bs:List Nat):∀b,lim fx env σ bs b->∃o,H b=some o:=by
 rintro b (z|⟨i,d,h1,h2,h3⟩)
 ·exact h.fxs b z
 ·obtain⟨a,g1,g2,g3,g4⟩:=h.ac i d h2
  rw[h3]at g1
  cases g1
  exact g4.ex
theorem ValOk.later{A B:Addr->Prop}{H0 H H' H'':Hp}{r:Val}{v:V}(h:ValOk A H H' r v)(s0:Same H0 H)(s:Same H' H'')(hB:∀b,B b->A b):ValOk B H0 H'' r v:=by
 refine⟨Rp.same (Offs.mono s λb _ _ n z=>n (hB b z)) _ h.rp,λe=>?_⟩
 obtain⟨a,h1,h2,h3⟩:=h.fr e
 exact⟨a,h1,s0.free h2,h3.same (Offs.mono s λb _ _ n z=>n (z.elim (λy=>.inl (hB b y)) .inr)) λo=>s a o⟩
noncomputable def zdx:PyData->Bool
 | .list _=>false
 | .tuple _=>false
 | .dict _=>false
 | _=>true
theorem zabl{H H':Hp}{d:PyData}{v:V}(f:zdx d=true)(h:Rp H d v):Rp H' d v:=by
 cases d<;>first
  | (unfold Rp at h ⊢;exact h)
  | cases f
noncomputable def bsOf(d:PyData)(bs:List Nat):List Nat:=if zdx d=true then[]else bs
theorem zgt{fx:Addr->Prop}{env:DEnv}{σ:St}{bs:List Nat}{H:Hp}{d:PyData}{v:V}(h:Rp (Offs (lim fx env σ bs) H) d v):Rp (Offs (lim fx env σ (bsOf d bs)) H) d v:=by
 unfold bsOf
 split
 ·rename_i e;exact zabl e h
 ·exact h
noncomputable abbrev EF:=DEnv->Option Val
noncomputable def SE(te:TE)(f:EF):Prop:=∀(fx:Addr->Prop)(H0:Hp)(env:DEnv)(σ:St)(H:Hp),EnvOk fx H0 env σ H->∀r,f env=some r->∀Q:VK,(∀v H',Same H H'->ValOk (lim fx env σ r.bs) H H' r v->Q v H')->te σ H Q
noncomputable abbrev TF:=DEnv->Option Bool
noncomputable def ST(tt:TT)(f:TF):Prop:=∀(fx:Addr->Prop)(H0:Hp)(env:DEnv)(σ:St)(H:Hp),EnvOk fx H0 env σ H->∀b,f env=some b->∀Q:Bool->Hp->Prop,(∀H',Same H H'->Q b H')->tt σ H Q
noncomputable abbrev AF:=DEnv->Option (List Val)
noncomputable def SA(ta:TA)(f:AF):Prop:=∀(fx:Addr->Prop)(H0:Hp)(env:DEnv)(σ:St)(H:Hp),EnvOk fx H0 env σ H->∀rs,f env=some rs->∀Q:List V->Hp->Prop,
 (∀vs H',Same H H'->Paired (λr v=>ValOk (lim fx env σ r.bs) H H' r v) rs vs->Q vs H')->ta σ H Q
section
variable{X:Cx}
noncomputable def eVar(i:Nat):EF:=λenv=>match env[i]? with
 | some (.pl d)=>some ⟨d,false,[]⟩
 | some (.ac d)=>some ⟨d,false,[i]⟩
 | _=>none
theorem zab(i:Nat):SE (tVar i) (eVar i):=by
 intro fx H0 env σ H h r hr Q q
 unfold eVar at hr
 cases e:env[i]? with
 | none=>rw[e]at hr;cases hr
 | some sl=>
  rw[e]at hr
  cases sl with
  | no=>cases hr
  | pl d=>
   cases hr
   obtain⟨v,h1,h2⟩:=h.pl i d e
   exact⟨v,h1,q v H (Same.refl _) ⟨Rp.same (Offs.sub zhp) _ h2,λz=>by cases z⟩⟩
  | ac d=>
   cases hr
   obtain⟨a,h1,h2,h3,h4⟩:=h.ac i d e
   have hna:¬lim fx env σ [i] a:=by
    rintro(z|⟨j,d',g1,g2,g3⟩)
    ·exact h3 z
    ·exact g1 (qc.mpr (h.inj j i d' d a g2 e g3 h1))
   exact⟨_,h1,q _ H (Same.refl _) ⟨h4.rp (Offs.sub zhp) λo z=>by rw[Offs.get hna];exact z,λz=>by cases z⟩⟩
noncomputable def eC(d:PyData):EF:=λ_=>some ⟨d,false,[]⟩
theorem se_c{d:PyData}{v:V}(h:∀H,Rp H d v):SE (tC v) (eC d):=by
 intro fx H0 env σ H _ r hr Q q
 cases hr
 exact q v H (Same.refl _) ⟨h _,λz=>by cases z⟩
noncomputable abbrev OF:=PyData->PyData->Option (PyData×Bool)
noncomputable def SO(r:R2)(f:OF):Prop:=∀(A:Addr->Prop)(H:Hp)(x y:V)(dx dy:PyData),(∀b,A b->∃o,H b=some o)->Rp (Offs A H) dx x->Rp (Offs A H) dy y->∀d fr,f dx dy=some (d,fr)->∀Q:VK,
 (∀v H',Same H H'->Rp (Offs A H') d v->(fr=true->∃a,v=.ref a/\H a=none/\zci (Offs (λb=>A b\/b=a) H') H' a d)->Q v H')->r x y H Q
noncomputable def eOp(f:OF)(a b:EF):EF:=λenv=>(a env).bind λx=>(b env).bind λy=>(f x.d y.d).bind λz=>some ⟨z.1,z.2,bsOf z.1 (x.bs++y.bs)⟩
theorem zbd{r:R2}{f:OF}{ta tb:TE}{fa fb:EF}(ho:SO r f)(ha:SE ta fa)(hb:SE tb fb):SE (tOp r ta tb) (eOp f fa fb):=by
 intro fx H0 env σ H h rr hr Q q
 unfold eOp at hr
 obtain⟨x,ex,hr⟩:=qA.mp hr
 obtain⟨y,ey,hr⟩:=qA.mp hr
 obtain⟨⟨d,fr⟩,ez,hr⟩:=qA.mp hr
 cases hr
 refine ha fx H0 env σ H h x ex _ λv H1 s1 v1=>hb fx H0 env σ H1 (h.up s1) y ey _ λu H2 s2 v2=>?_
 have l1:∀b,lim fx env σ (x.bs++y.bs) b->lim fx env σ x.bs b:=zho λi hi=>qi _ hi
 have l2:∀b,lim fx env σ (x.bs++y.bs) b->lim fx env σ y.bs b:=zho λi hi=>qY _ hi
 refine ho (lim fx env σ (x.bs++y.bs)) H2 v u x.d y.d ((h.up (s1.trans s2)).lims _) (v1.later (Same.refl _) s2 l1).rp (v2.later (Same.refl _) (Same.refl _) l2).rp d fr ez _ λw H3 s3 rp fr3=>q w H3 ((s1.trans s2).trans s3) ⟨zgt rp,λe=>?_⟩
 obtain⟨a,g1,g2,g3⟩:=fr3 e
 refine⟨a,g1,(s1.trans s2).free g2,?_⟩
 have nf:zdx d=false:=by cases d<;>first|rfl|exact g3.elim
 show zci (Offs (λb=>lim fx env σ (bsOf d (x.bs++y.bs)) b\/b=a) H3) H3 a d
 rw[show bsOf d (x.bs++y.bs)=x.bs++y.bs by unfold bsOf;rw[if_neg (by rw[nf];decide)]]
 exact g3
end
theorem zfd{n:Nat}(h:n<=100000):n<=qS:=qAM h (by decide)
theorem zhq{n:Nat}(h:n<100000):n<qS:=Nat.lt_trans h (by decide)
theorem zcu{A:Addr->Prop}{H:Hp}(hA:∀b,A b->∃o,H b=some o){p:Addr}(hp:H p=none):¬A p:=λz=>by
 obtain⟨o,e⟩:=hA p z
 rw[hp]at e;cases e
theorem zkx{A:Addr->Prop}{H:Hp}{p:Addr}{ds:List PyData}{xs:List V}(hp:H p=none)(r:Rps (Offs A H) ds xs):zci (Offs (λb=>A b\/b=p) (upd H p (.lst xs))) (upd H p (.lst xs)) p (.list ds):=by
 refine⟨xs,zao,Rps.same (Offs.mono (Same.new hp) λb o e n z=>?_) _ r⟩
 rcases z with z|z
 ·exact n z
 ·rw[z,hp]at e;cases e
theorem zpo{A:Addr->Prop}{H:Hp}{p:Addr}{ds:List PyData}{xs:List V}(hp:H p=none)(hA:¬A p)(r:Rps (Offs A H) ds xs):Rp (Offs A (upd H p (.lst xs))) (.list ds) (.ref p):=
 zgj (by rw[Offs.get hA];exact zao) (Rps.same (Offs.grow (Same.new hp)) _ r)
theorem znf{A:Addr->Prop}{H:Hp}{p:Addr}{ds:List PyData}{xs:List V}(hp:H p=none)(hA:¬A p)(r:Rps (Offs A H) ds xs):Rp (Offs A (upd H p (.tup xs))) (.tuple ds) (.ref p):=
 zuq (by rw[Offs.get hA];exact zao) (Rps.same (Offs.grow (Same.new hp)) _ r)
theorem zbw{A:Addr->Prop}{H:Hp}{a:Addr}{o:HO}(h:Offs A H a=some o):H a=some o:=(Offs.of h).2
noncomputable def addD:OF
 | .int i,.int j=>some (.int (i+j),false)
 | .str a,.str b=>if a.length+b.length<=100000 then some (.str (a++b),false)else none
 | .list a,.list b=>if a.length+b.length<=100000 then some (.list (a++b),true)else none
 | .tuple a,.tuple b=>if a.isEmpty=false/\a.length+b.length<=100000 then some (.tuple (a++b),false)else none
 | _,_=>none
theorem zda{K:qC}:SO (zaku K) addD:=by
 intro A H x y dx dy hA rx ry d fr e Q q
 unfold addD at e
 split at e
 ·cases e
  cases zbz rx;cases zbz ry
  exact q _ H (Same.refl _) zac (λz=>by cases z)
 ·split at e
  ·rename_i hl
   cases e
   cases zir rx;cases zir ry
   exact⟨zfd hl,q _ H (Same.refl _) zdn (λz=>by cases z)⟩
  ·cases e
 ·split at e
  ·rename_i hl
   cases e
   obtain⟨p,xs,rfl,hp,r1⟩:=zdm rx
   obtain⟨p',ys,rfl,hp',r2⟩:=zdm ry
   refine .inl ⟨p,p',xs,ys,rfl,rfl,zbw hp,zbw hp',zfd (by rw[<- r1.length,<- r2.length];exact hl),λb hb=>?_⟩
   exact q _ _ (Same.new hb) (zpo hb (zcu hA hb) (r1.append r2)) λ_=>⟨b,rfl,hb,zkx hb (r1.append r2)⟩
  ·cases e
 ·split at e
  ·rename_i hl
   cases e
   obtain⟨p,xs,rfl,hp,r1⟩:=zcg rx
   obtain⟨p',ys,rfl,hp',r2⟩:=zcg ry
   refine .inr ⟨p,p',xs,ys,rfl,rfl,SqT.of (zbw hp),SqT.of (zbw hp'),λz=>?_,zfd (by rw[<- r1.length,<- r2.length];exact hl.2),λz=>?_,λ_ b hb=>?_⟩
   ·have h1:=r1.length
    have h0:=hl.1
    rw[z]at h1
    rw[List.isEmpty_eq_false_iff]at h0
    exact h0 (qBh.mp h1)
   ·have h2:=r2.length
    rw[z]at h2
    have:=qBh.mp h2
    subst this
    rw[qu]at q
    exact q _ H (Same.refl _) rx (λz=>by cases z)
   ·exact q _ _ (Same.new hb) (znf hb (zcu hA hb) (r1.append r2)) (λz=>by cases z)
  ·cases e
 ·cases e
noncomputable def intD(c:Int->Int->Bool)(f:Int->Int->PyData):OF
 | .int i,.int j=>if c i j=true then some (f i j,false)else none
 | _,_=>none
theorem zabm{C:Int->Int->Prop}{g:Int->Int->V}{c:Int->Int->Bool}{f:Int->Int->PyData}(hc:∀i j,c i j=true->C i j)(hf:∀H i j,Rp H (f i j) (g i j)):SO (rI C g) (intD c f):=by
 intro A H x y dx dy hA rx ry d fr e Q q
 unfold intD at e
 split at e
 ·split at e
  ·rename_i h
   cases e
   cases zbz rx;cases zbz ry
   exact⟨_,_,rfl,rfl,hc _ _ h,q _ H (Same.refl _) (hf _ _ _) (λz=>by cases z)⟩
  ·cases e
 ·cases e
theorem zabn{g:Int->Int->V}{f:Int->Int->PyData}(hf:∀H i j,Rp H (f i j) (g i j)):SO (rI0 g) (intD (λ_ _=>true) f):=by
 intro A H x y dx dy hA rx ry d fr e Q q
 unfold intD at e
 split at e
 ·split at e
  ·cases e
   cases zbz rx;cases zbz ry
   exact⟨_,_,rfl,rfl,q _ H (Same.refl _) (hf _ _ _) (λz=>by cases z)⟩
  ·cases e
 ·cases e
noncomputable def ltD:OF:=intD (λ_ _=>true) λi j=>.bool (decide (i<j))
theorem zarp:SO (rI0 λi j=>.bl (decide (i<j))) ltD:=zabn λ_ _ _=>zbb
noncomputable def gtD:OF:=intD (λ_ _=>true) λi j=>.bool (decide (j<i))
theorem zarq:SO (rI0 λi j=>.bl (decide (j<i))) gtD:=zabn λ_ _ _=>zbb
noncomputable def modD:OF:=intD (λ_ j=>decide (0<j)) λi j=>.int (i % j)
theorem zme:SO (rI (λ_ j=>0<j) λi j=>.int (i % j)) modD:=zabm (λ_ _ h=>of_decide_eq_true h) λ_ _ _=>zac
noncomputable def zur:OF:=intD (λ_ j=>decide (0<j/\j<1073741824)) λi j=>.int (i / j)
theorem zabo:SO (rI CDiv λi j=>.int (i / j)) zur:=zabm (λi j h=>(of_decide_eq_true h:0<j/\j<1073741824)) λ_ _ _=>zac
noncomputable def powD:OF:=intD (λi j=>decide (0<=j/\j<=1000000/\i.natAbs<2 ^ 64)) λi j=>.int (i ^ j.toNat)
theorem zapd:SO (rI CPow λi j=>.int (i ^ j.toNat)) powD:=zabm (λi j h=>(of_decide_eq_true h:0<=j/\j<=1000000/\i.natAbs<2 ^ 64)) λ_ _ _=>zac
noncomputable def mulD:OF
 | .int i,.int j=>if(-(2 ^ 64)<i/\i<2 ^ 64)\/(-(2 ^ 64)<j/\j<2 ^ 64)then some (.int (i * j),false)else none
 | .str z,.int n=>if z.length<=1000/\-1000<=n/\n<=1000 then some (.str (Txt.mul z n),false)else none
 | _,_=>none
theorem zis:SO zapb mulD:=by
 intro A H x y dx dy hA rx ry d fr e Q q
 unfold mulD at e
 split at e
 ·split at e
  ·rename_i h
   cases e
   cases zbz rx;cases zbz ry
   exact⟨h,q _ H (Same.refl _) zac (λz=>by cases z)⟩
  ·cases e
 ·split at e
  ·rename_i h
   cases e
   cases zir rx;cases zbz ry
   exact⟨h.1,h.2.1,h.2.2,q _ H (Same.refl _) zdn (λz=>by cases z)⟩
  ·cases e
 ·cases e
mutual
theorem zsl{K:qC}{H:Hp}:∀{d:PyData}{v:V},d.canLay0=true->Rp H d v->Rep K H d v
 | .none,v,_,h=>by unfold Rp at h;unfold Rep;exact h
 | .bool b,v,_,h=>by unfold Rp at h;unfold Rep;exact h
 | .int i,v,_,h=>by unfold Rp at h;unfold Rep;exact h
 | .str x,v,_,h=>by unfold Rp at h;unfold Rep;exact h
 | .list ds,v,c,h=>by
  obtain⟨a,xs,e,h1,h2⟩:=zdm h
  unfold Rep
  exact⟨a,xs,e,SqL.of h1,rps_reps (by simpa [PyData.canLay0]using c) h2⟩
 | .tuple ds,v,c,h=>by
  obtain⟨a,xs,e,h1,h2⟩:=zcg h
  unfold Rep
  exact⟨a,xs,e,SqT.of h1,rps_reps (by simpa [PyData.canLay0]using c) h2⟩
 | .dict _,v,c,h=>by simp[PyData.canLay0]at c
theorem rps_reps{K:qC}{H:Hp}:∀{ds:List PyData}{vs:List V},qAx ds=true->Rps H ds vs->Reps K H ds vs
 | [],vs,_,h=>by unfold Rps at h;unfold Reps;exact h
 | d::ds,vs,c,h=>by
  unfold Rps at h
  obtain⟨v,ws,e,h1,h2⟩:=h
  have c:d.canLay0=true/\qAx ds=true:=by simpa [qAx]using c
  unfold Reps
  exact⟨v,ws,e,zsl c.1 h1,rps_reps c.2 h2⟩
end
noncomputable def zafz:PyData->PyData->Bool
 | .none,.none=>true|.none,.int _=>true|.int _,.none=>true|.none,.bool _=>true|.bool _,.none=>true|.none,.str _=>true|.str _,.none=>true
 | .int _,.int _=>true|.bool _,.bool _=>true|.str _,.str _=>true
 | .int _,.str _=>true|.str _,.int _=>true|.bool _,.str _=>true|.str _,.bool _=>true
 | _,_=>false
noncomputable def eqOk(dx dy:PyData):Bool:=zafz dx dy||(qAn dx&&qAn dy)
noncomputable def eqD:OF:=λdx dy=>if eqOk dx dy=true then some (.bool (qAf dx dy),false)else none
noncomputable def neD:OF:=λdx dy=>if eqOk dx dy=true then some (.bool (!PyData.eqv dx dy),false)else none
theorem zabp{H:Hp}{dx dy:PyData}{x y:V}(s:zafz dx dy=true)(rx:Rp H dx x)(ry:Rp H dy y):scal x y=true/\decide (x=y)=qAf dx dy:=by
 cases dx<;>cases dy<;>first
  | (exact absurd (show false=true from s) qI)
  | (unfold Rp at rx ry;subst rx;subst ry;refine⟨rfl,?_⟩;first|rfl|exact zui|exact zaac|exact zuj|simp[qAf])
theorem zape{K:qC}:SO (λx y H Q=>rEq x y H Q\/rEqD K false x y H Q) eqD:=by
 intro A H x y dx dy hA rx ry d fr e Q q
 unfold eqD at e
 split at e
 ·rename_i h
  cases e
  cases hs:zafz dx dy with
  | true=>
   obtain⟨h1,h2⟩:=zabp hs rx ry
   exact .inl ⟨h1,by rw[h2];exact q _ H (Same.refl _) zbb (λz=>by cases z)⟩
  | false=>
   unfold eqOk at h
   rw[hs,qCd,q9]at h
   have rx:=Rp.same (Offs.same A H) _ rx
   have ry:=Rp.same (Offs.same A H) _ ry
   exact .inr ⟨dx,dy,zsl (qAs h.1) rx,zsl (qAs h.2) ry,h.1,h.2,q _ H (Same.refl _) zbb (λz=>by cases z)⟩
 ·cases e
theorem zabq{K:qC}:SO (λx y H Q=>rNe x y H Q\/rEqD K true x y H Q) neD:=by
 intro A H x y dx dy hA rx ry d fr e Q q
 unfold neD at e
 split at e
 ·rename_i h
  cases e
  cases hs:zafz dx dy with
  | true=>
   obtain⟨h1,h2⟩:=zabp hs rx ry
   exact .inl ⟨h1,by rw[h2];exact q _ H (Same.refl _) zbb (λz=>by cases z)⟩
  | false=>
   unfold eqOk at h
   rw[hs,qCd,q9]at h
   have rx:=Rp.same (Offs.same A H) _ rx
   have ry:=Rp.same (Offs.same A H) _ ry
   exact .inr ⟨dx,dy,zsl (qAs h.1) rx,zsl (qAs h.2) ry,h.1,h.2,q _ H (Same.refl _) zbb (λz=>by cases z)⟩
 ·cases e
noncomputable def zcd(ds:List PyData):Bool:=ds.all zdx
theorem zaig{H:Hp}{d:PyData}{v:V}(f:zdx d=true)(h:Rp H d v):zot v=true:=by
 cases d<;>first
  | (unfold Rp at h;subst h;rfl)
  | cases f
theorem zaky{H:Hp}{ds:List PyData}{vs:List V}(f:zcd ds=true)(h:Rps H ds vs):vs.all zot=true:=by
 replace h:=zbr.mp h
 induction h with
 | nil=>rfl
 | cons h _ ih=>
  unfold zcd at f
  rw[qBN,q9]at f
  rw[qBN,zaig f.1 h,ih f.2];rfl
theorem zakz{H:Hp}{d e:PyData}{v u:V}(f:zdx d=true)(g:zdx e=true)(h:Rp H d v)(k:Rp H e u):eqV v u=qAf d e:=by
 cases d<;>cases e<;>first
  | (unfold Rp at h k;subst h;subst k;rfl)
  | exact absurd (show false=true from f) qI
  | exact absurd (show false=true from g) qI
theorem zala{H:Hp}{d:PyData}{v:V}(f:zdx d=true)(h:Rp H d v){ds:List PyData}{vs:List V}(g:zcd ds=true)(r:Rps H ds vs):inV v vs=ds.any λe=>qAf e d:=by
 replace r:=zbr.mp r
 unfold inV
 induction r with
 | nil=>rfl
 | cons r _ ih=>
  unfold zcd at g
  rw[qBN,q9]at g
  rw[qAY,qAY,zakz g.1 f r h,ih g.2]
noncomputable def zhf:PyData->Option (List PyData)
 | .list ds=>some ds
 | .tuple ds=>some ds
 | _=>none
noncomputable def inD(neg:Bool):OF:=λd c=>match zhf c with
 | some ds=>if zdx d=true/\zcd ds=true then some (.bool (if neg then !(ds.any λe=>qAf e d)else ds.any λe=>qAf e d),false)else none
 | none=>none
theorem zwt{K:qC}{H:Hp}{c:PyData}{v:V}{ds:List PyData}(h:Rp H c v)(e:zhf c=some ds):∃p xs,v=.ref p/\(SqL K H p xs\/SqT K H p xs)/\Rps H ds xs:=by
 cases c<;>first
  | cases e
  | skip
 ·obtain⟨a,xs,e,h1,h2⟩:=zdm h;exact⟨a,xs,e,.inl (SqL.of h1),h2⟩
 ·obtain⟨a,xs,e,h1,h2⟩:=zcg h;exact⟨a,xs,e,.inr (SqT.of h1),h2⟩
theorem zou{K:qC}{neg:Bool}:SO (rIn K neg) (inD neg):=by
 intro A H x y dx dy hA rx ry d fr e Q q
 unfold inD at e
 split at e
 ·rename_i ds hi
  split at e
  ·rename_i h
   cases e
   have rx:=Rp.same (Offs.same A H) _ rx
   obtain⟨p,xs,rfl,hq,r⟩:=zwt (K:=K) (Rp.same (Offs.same A H) _ ry) hi
   refine⟨p,xs,rfl,hq,zaig h.1 rx,zaky h.2 r,?_⟩
   rw[zala h.1 rx h.2 r]
   refine q _ H (Same.refl _) ?_ (λz=>by cases z)
   cases neg<;>exact zbb
  ·cases e
 ·cases e
noncomputable def ixD:OF
 | .str z,.int i=>if z.length<=100000 then(atI z.cps.toList i).map λc=>(.str ⟨#[c]⟩,false)else none
 | .list ds,.int i=>(atI ds i).map λd=>(d,false)
 | .tuple ds,.int i=>(atI ds i).map λd=>(d,false)
 | _,_=>none
theorem Rps.atI{H:Hp}{ds:List PyData}{vs:List V}(h:Rps H ds vs){i:Int}{d:PyData}(e:atI ds i=some d):∃v,L2.atI vs i=some v/\Rp H d v:=by
 unfold L2.atI at e ⊢
 rw[<- h.length]
 cases g:ixN ds.length i with
 | none=>rw[g]at e;cases e
 | some j=>
  rw[g]at e
  exact h.get2 e
theorem zov{K:qC}:SO (rIxU K) ixD:=by
 intro A H x y dx dy hA rx ry d fr e Q q
 unfold ixD at e
 split at e
 ·split at e
  ·rename_i z i hl
   obtain⟨c,hc,e⟩:=qH.mp e
   cases e
   cases zir rx;cases zbz ry
   exact⟨zfd hl,c,hc,q _ H (Same.refl _) zdn (λz=>by cases z)⟩
  ·cases e
 ·obtain⟨c,hc,e⟩:=qH.mp e
  cases e
  obtain⟨p,xs,rfl,hp,r⟩:=zdm rx
  cases zbz ry
  obtain⟨v,hv,rv⟩:=r.atI hc
  exact⟨xs,v,.inl (SqL.of (zbw hp)),hv,q _ H (Same.refl _) rv (λz=>by cases z)⟩
 ·obtain⟨c,hc,e⟩:=qH.mp e
  cases e
  obtain⟨p,xs,rfl,hp,r⟩:=zcg rx
  cases zbz ry
  obtain⟨v,hv,rv⟩:=r.atI hc
  exact⟨xs,v,.inr (SqT.of (zbw hp)),hv,q _ H (Same.refl _) rv (λz=>by cases z)⟩
 ·cases e
noncomputable def zjr:List (PyData×PyData)->Key->Option PyData
 | [],_=>none
 | (k,d)::r,j=>if keyD k=some j then some d else zjr r j
noncomputable def zus(kvs:List (PyData×PyData))(j:Key):Bool:=(zjr kvs j).isSome
noncomputable def zng(kvs:List (PyData×PyData))(k:PyData)(d:PyData):List (PyData×PyData):=
 if(kvs.any λkv=>decide (keyD kv.1=keyD k))=true then kvs.map (λkv=>if keyD kv.1=keyD k then(kv.1,d)else kv)else kvs++[(k,d)]
noncomputable def zky(kvs more:List (PyData×PyData)):List (PyData×PyData):=more.foldl (λacc kv=>zng acc kv.1 kv.2) kvs
theorem zid{H:Hp}{k d:PyData}{r:List (PyData×PyData)}{k':Key}{v:V}{vs:List (Key×V)}(hk:keyD k=some k')(h:Rp H d v)(q:Rpd H r vs):Rpd H ((k,d)::r) ((k',v)::vs):=by
 show Rpd H ((k,d)::r) _
 unfold Rpd;exact⟨k',v,vs,rfl,hk,h,q⟩
theorem zev{H:Hp}{k d:PyData}{r:List (PyData×PyData)}{ps:List (Key×V)}(h:Rpd H ((k,d)::r) ps):∃k' v vs,ps=(k',v)::vs/\keyD k=some k'/\Rp H d v/\Rpd H r vs:=by
 unfold Rpd at h;exact h
theorem Rpd.length{H:Hp}:∀{kvs:List (PyData×PyData)}{ps:List (Key×V)},Rpd H kvs ps->kvs.length=ps.length
 | [],ps,h=>by unfold Rpd at h;subst h;rfl
 | (k,d)::r,ps,h=>by
  obtain⟨k',v,vs,rfl,_,_,h3⟩:=zev h
  rw[qj,qj,h3.length]
theorem Rpd.get{H:Hp}{j:Key}:∀{kvs:List (PyData×PyData)}{ps:List (Key×V)},Rpd H kvs ps->match zjr kvs j with
  | some d=>∃v,valV ps j=some v/\Rp H d v
  | none=>valV ps j=none
 | [],ps,h=>by unfold Rpd at h;subst h;rfl
 | (k,d)::r,ps,h=>by
  obtain⟨k',v,vs,rfl,hk,h2,h3⟩:=zev h
  have ih:=Rpd.get (j:=j) h3
  unfold zjr
  by_cases e:k'=j
  ·rw[if_pos (by rw[hk,e])]
   exact⟨v,zmn e,h2⟩
  ·rw[if_neg (λz=>e (by rw[hk]at z;exact qR z)),zmo e]
   exact ih
theorem Rpd.any{H:Hp}{j:Key}:∀{kvs:List (PyData×PyData)}{ps:List (Key×V)},Rpd H kvs ps->(kvs.any λkv=>decide (keyD kv.1=some j))=ps.any λkv=>decide (kv.1=j)
 | [],ps,h=>by unfold Rpd at h;subst h;rfl
 | (k,d)::r,ps,h=>by
  obtain⟨k',v,vs,rfl,hk,h2,h3⟩:=zev h
  rw[qAY,qAY,h3.any,hk]
  congr 1
  simp
theorem Rpd.map{H:Hp}{j:Key}{d':PyData}{v':V}(h':Rp H d' v'):∀{kvs:List (PyData×PyData)}{ps:List (Key×V)},Rpd H kvs ps->Rpd H (kvs.map λkv=>if keyD kv.1=some j then(kv.1,d')else kv) (ps.map λkv=>if kv.1=j then(kv.1,v')else kv)
 | [],ps,h=>by unfold Rpd at h;subst h;exact zkw
 | (k,d)::r,ps,h=>by
  obtain⟨k',v,vs,rfl,hk,h2,h3⟩:=zev h
  rw[qU,qU]
  by_cases e:k'=j
  ·rw[if_pos (show keyD (k,d).1=some j by rw[hk,e]),if_pos (show((k',v):Key×V).1=j from e)]
   exact zid hk h' (Rpd.map h' h3)
  ·rw[if_neg (show ¬keyD (k,d).1=some j from λz=>e (by rw[hk]at z;exact qR z)),if_neg (show ¬((k',v):Key×V).1=j from e)]
   exact zid hk h2 (Rpd.map h' h3)
theorem Rpd.snoc{H:Hp}{k d:PyData}{k':Key}{v:V}(hk:keyD k=some k')(h':Rp H d v):∀{kvs:List (PyData×PyData)}{ps:List (Key×V)},Rpd H kvs ps->Rpd H (kvs++[(k,d)]) (ps++[(k',v)])
 | [],ps,h=>by unfold Rpd at h;subst h;exact zid hk h' zkw
 | (k0,d0)::r,ps,h=>by
  obtain⟨k1,v1,vs,rfl,hk1,h2,h3⟩:=zev h
  exact zid hk1 h2 (Rpd.snoc hk h' h3)
theorem Rpd.put{H:Hp}{k d:PyData}{j:Key}{v:V}{kvs:List (PyData×PyData)}{ps:List (Key×V)}(h:Rpd H kvs ps)(hk:keyD k=some j)(h':Rp H d v):Rpd H (zng kvs k d) (putK ps j v):=by
 unfold zng putK
 rw[hk,h.any]
 split
 ·exact h.map h'
 ·exact h.snoc hk h'
theorem Rpd.merge{H:Hp}:∀{more:List (PyData×PyData)}{ps:List (Key×V)}{kvs:List (PyData×PyData)}{qs:List (Key×V)},Rpd H kvs qs->Rpd H more ps->Rpd H (zky kvs more) (zjm qs ps)
 | [],ps,kvs,qs,h,g=>by unfold Rpd at g;subst g;exact h
 | (k,d)::r,ps,kvs,qs,h,g=>by
  obtain⟨k',v,vs,rfl,hk,h2,h3⟩:=zev g
  show Rpd H (zky (zng kvs k d) r) (zjm (putK qs k' v) vs)
  exact Rpd.merge (h.put hk h2) h3
theorem zabr{H:Hp}{d:PyData}{v:V}{k:Key}(h:Rp H d v)(e:keyD d=some k):v=kV k:=by
 cases d<;>first
  | (cases e;unfold Rp at h;exact h)
  | cases e
noncomputable def zasb(a b:EF):EF:=λenv=>(a env).bind λx=>(b env).bind λy=>match x.d with
 | .dict kvs=>(keyD y.d).bind λk=>(zjr kvs k).bind λd=>some ⟨d,false,bsOf d x.bs⟩
 | _=>none
noncomputable def eDIn(neg:Bool)(a b:EF):EF:=λenv=>(a env).bind λx=>(b env).bind λy=>match y.d with
 | .dict kvs=>(keyD x.d).bind λk=>some ⟨.bool (if neg then !zus kvs k else zus kvs k),false,[]⟩
 | _=>none
theorem zabs{H:Hp}{kvs:List (PyData×PyData)}{ps:List (Key×V)}(r:Rpd H kvs ps)(k:Key):(valV ps k).isSome=zus kvs k:=by
 have g:=r.get (j:=k)
 unfold zus
 cases e:zjr kvs k with
 | none=>rw[e]at g;rw[show valV ps k=none from g];rfl
 | some d=>rw[e]at g;obtain⟨w,e1,_⟩:=g;rw[e1];rfl
theorem zapf{td ty:TE}{fa fb:EF}(ha:SE ty fa)(hb:SE td fb):SE (tDIn ty td) (eDIn false fa fb):=by
 intro fx H0 env σ H h rr hr Q q
 unfold eDIn at hr
 obtain⟨⟨dx,frx,bx⟩,ex,hr⟩:=qA.mp hr
 obtain⟨⟨dy,fry,by'⟩,ey,hr⟩:=qA.mp hr
 cases dy with
 | dict kvs=>
  obtain⟨k,ek,hr⟩:=qA.mp hr
  cases hr
  refine ha fx H0 env σ H h _ ex _ λv H1 s1 v1=>hb fx H0 env σ H1 (h.up s1) _ ey _ λu H2 s2 v2=>?_
  obtain⟨a,ps,rfl,hp,r⟩:=zhn v2.rp
  rw[zabr v1.rp ek]
  exact⟨a,_,rfl,DGet.k (zbw hp),by rw[zabs r k];exact q _ H2 (s1.trans s2) ⟨zbb,λz=>by cases z⟩⟩
 | _=>cases hr
noncomputable def zay(f:EF):TF:=λenv=>(f env).bind λr=>match r.d with|.bool b=>some b|_=>none
theorem st_b{te:TE}{f:EF}(h:SE te f):ST (tB te) (zay f):=by
 intro fx H0 env σ H hE b hb Q q
 unfold zay at hb
 obtain⟨⟨d,fr,bs⟩,e,hb⟩:=qA.mp hb
 cases d with
 | bool c=>
  have hb:some c=some b:=hb
  cases hb
  exact h fx H0 env σ H hE _ e _ λv H' s v1=>⟨_,zjc v1.rp,q H' s⟩
 | _=>cases hb
theorem st_t{te:TE}{f:EF}(h:SE te f):ST (tTest te) (zay f):=st_b h
noncomputable def truD:PyData->Option Bool
 | .none=>some false
 | .bool b=>some b
 | .int i=>some (i != 0)
 | .str x=>if x.length<=100000 then some ((x.length:Int) != 0)else none
 | .list ds=>some (!ds.isEmpty)
 | .tuple ds=>some (!ds.isEmpty)
 | .dict ds=>some (!ds.isEmpty)
noncomputable def tTru(f:EF):TF:=λenv=>(f env).bind λr=>truD r.d
theorem zjd{α β:Type}{xs:List α}{ys:List β}(h:xs.length=ys.length):xs.isEmpty=ys.isEmpty:=by
 cases xs<;>cases ys<;>simp at h<;>rfl
theorem zapg{K:qC}{H:Hp}{d:PyData}{v:V}{b:Bool}(h:Rp H d v)(e:truD d=some b):TruV K v H b:=by
 cases d with
 | none=>cases e;cases zabk h;rfl
 | bool c=>cases e;cases zjc h;rfl
 | int i=>cases e;cases zbz h;rfl
 | str x=>
  have e:(if x.length<=100000 then some ((x.length:Int) != 0)else none)=some b:=e
  split at e
  ·rename_i hl;cases e;cases zir h;exact⟨zfd hl,rfl⟩
  ·cases e
 | list ds=>cases e;obtain⟨a,xs,rfl,h1,h2⟩:=zdm h;exact .inl ⟨xs,SqL.of h1,by rw[zjd h2.length]⟩
 | tuple ds=>cases e;obtain⟨a,xs,rfl,h1,h2⟩:=zcg h;exact .inr (.inl ⟨xs,SqT.of h1,by rw[zjd h2.length]⟩)
 | dict ds=>cases e;obtain⟨a,xs,rfl,h1,h2⟩:=zhn h;exact .inr (.inr ⟨xs,h1,by rw[zjd h2.length]⟩)
theorem zwu{K:qC}{te:TE}{f:EF}(h:SE te f):ST (λσ H Q=>te σ H λx H1=>∃k,TruV K x H1 k/\Q k H1) (tTru f):=by
 intro fx H0 env σ H hE b hb Q q
 unfold tTru at hb
 obtain⟨r,e,hb⟩:=qA.mp hb
 exact h fx H0 env σ H hE _ e _ λv H' s v1=>⟨b,zapg (Rp.same (Offs.same _ _) _ v1.rp) hb,q H' s⟩
noncomputable def zje(f g:TF):TF:=λenv=>(f env).bind λb=>if b=true then g env else some false
noncomputable def tOrF(f g:TF):TF:=λenv=>(f env).bind λb=>if b=true then some true else g env
noncomputable def znh(f:TF):TF:=λenv=>(f env).map λb=>!b
theorem zaih{t u:TT}{f g:TF}(h:ST t f)(k:ST u g):ST (tAnd t u) (zje f g):=by
 intro fx H0 env σ H hE b hb Q q
 unfold zje at hb
 obtain⟨c,e,hb⟩:=qA.mp hb
 refine h fx H0 env σ H hE c e _ λH' s=>?_
 cases c with
 | true=>exact iteT (k fx H0 env σ H' (hE.up s) b hb _ λH'' s'=>q H'' (s.trans s'))
 | false=>cases hb;exact iteF (q H' s)
theorem zaph{t u:TT}{f g:TF}(h:ST t f)(k:ST u g):ST (tOr t u) (tOrF f g):=by
 intro fx H0 env σ H hE b hb Q q
 unfold tOrF at hb
 obtain⟨c,e,hb⟩:=qA.mp hb
 refine h fx H0 env σ H hE c e _ λH' s=>?_
 cases c with
 | false=>exact iteF (k fx H0 env σ H' (hE.up s) b hb _ λH'' s'=>q H'' (s.trans s'))
 | true=>cases hb;exact iteT (q H' s)
theorem zapi{t:TT}{f:TF}(h:ST t f):ST (tNot t) (znh f):=by
 intro fx H0 env σ H hE b hb Q q
 unfold znh at hb
 obtain⟨c,e,rfl⟩:=qH.mp hb
 exact h fx H0 env σ H hE c e _ λH' s=>q H' s
noncomputable def asB:PyData->Option Bool|.bool b=>some b|_=>none
noncomputable def eAnd(a b:EF):EF:=λenv=>(a env).bind λx=>(asB x.d).bind λc=>if c=true then b env else some ⟨.bool false,false,[]⟩
noncomputable def eNot(a:EF):EF:=λenv=>(a env).bind λx=>(asB x.d).map λc=>⟨.bool (!c),false,[]⟩
theorem as_b{H:Hp}{d:PyData}{v:V}{c:Bool}(h:Rp H d v)(e:asB d=some c):v=.bl c:=by
 cases d<;>first
  | (cases e;exact zjc h)
  | cases e
theorem zapj{ta:TE}{fa:EF}(ha:SE ta fa):SE (tNotV ta) (eNot fa):=by
 intro fx H0 env σ H h rr hr Q q
 unfold eNot at hr
 obtain⟨x,ex,hr⟩:=qA.mp hr
 obtain⟨c,ec,rfl⟩:=qH.mp hr
 exact ha fx H0 env σ H h _ ex _ λv H1 s1 v1=>⟨c,as_b v1.rp ec,q _ H1 s1 ⟨zbb,λz=>by cases z⟩⟩
noncomputable def aNil:AF:=λ_=>some []
noncomputable def zad(a:EF)(r:AF):AF:=λenv=>(a env).bind λx=>(r env).map λxs=>x::xs
theorem zau:SA tNil aNil:=by
 intro fx H0 env σ H h rs hr Q q
 cases hr
 exact q [] H (Same.refl _) .nil
theorem zah{te:TE}{ta:TA}{f:EF}{g:AF}(h1:SE te f)(h2:SA ta g):SA (tCons te ta) (zad f g):=by
 intro fx H0 env σ H h rs hr Q q
 unfold zad at hr
 obtain⟨x,ex,hr⟩:=qA.mp hr
 obtain⟨xs,exs,rfl⟩:=qH.mp hr
 exact h1 fx H0 env σ H h x ex _ λv H1 s1 v1=>h2 fx H0 env σ H1 (h.up s1) xs exs _ λvs H2 s2 vs2=>q (v::vs) H2 (s1.trans s2)
  (.cons (v1.later (Same.refl _) s2 λ_ z=>z) (Paired.mapP vs2 λ_ _ z=>z.later s1 (Same.refl _) λ_ y=>y))
noncomputable def zft(rs:List Val):List PyData:=rs.map (·.d)
noncomputable def bss(rs:List Val):List Nat:=rs.flatMap (·.bs)
theorem zef{fx:Addr->Prop}{env:DEnv}{σ:St}{H H':Hp}:∀{rs:List Val}{vs:List V}{cs:List Nat},(∀i∈bss rs,i∈cs)->Paired (λr v=>ValOk (lim fx env σ r.bs) H H' r v) rs vs->Rps (Offs (lim fx env σ cs) H') (zft rs) vs
 | _,_,_,_,.nil=>zct
 | r::rs,v::vs,cs,hc,.cons h t=>zcp (Rp.same (Offs.sub (zho λi hi=>hc i (qBk.mpr ⟨r,qW,hi⟩))) _ h.rp)
   (zef (λi hi=>hc i (by obtain⟨x,h1,h2⟩:=qBk.mp hi;exact qBk.mpr ⟨x,qJ _ h1,h2⟩)) t)
noncomputable def eTup(f:AF):EF:=λenv=>(f env).bind λrs=>if rs.length<=100000 then some ⟨.tuple (zft rs),false,bss rs⟩else none
noncomputable def eLst(f:AF):EF:=λenv=>(f env).bind λrs=>if rs.length<=100000 then some ⟨.list (zft rs),true,bss rs⟩else none
theorem zgk(rs:List Val):(zft rs).length=rs.length:=by unfold zft;rw[qD]
theorem zabt{ta:TA}{f:AF}(ha:SA ta f):SE (tTup ta) (eTup f):=by
 intro fx H0 env σ H h rr hr Q q
 unfold eTup at hr
 obtain⟨rs,er,hr⟩:=qA.mp hr
 split at hr
 ·rename_i hl
  cases hr
  refine ha fx H0 env σ H h rs er _ λvs H1 s1 v1=>?_
  have r:=zef (λi hi=>hi) v1
  have hA:=(h.up s1).lims (bss rs)
  refine⟨zfd (by rw[<- r.length,zgk];exact hl),λp hp=>q _ _ (s1.trans (Same.new hp)) ⟨znf hp (zcu hA hp) r,λz=>by cases z⟩⟩
 ·cases hr
theorem zep{ta:TA}{f:AF}(ha:SA ta f):SE (tLst ta) (eLst f):=by
 intro fx H0 env σ H h rr hr Q q
 unfold eLst at hr
 obtain⟨rs,er,hr⟩:=qA.mp hr
 split at hr
 ·rename_i hl
  cases hr
  refine ha fx H0 env σ H h rs er _ λvs H1 s1 v1=>?_
  have r:=zef (λi hi=>hi) v1
  have hA:=(h.up s1).lims (bss rs)
  refine⟨zfd (by rw[<- r.length,zgk];exact hl),λp hp=>q _ _ (s1.trans (Same.new hp)) ⟨zpo hp (zcu hA hp) r,λ_=>⟨p,rfl,s1.free hp,zkx hp r⟩⟩⟩
 ·cases hr
noncomputable def zaga:EF:=λ_=>some ⟨.dict [],true,[]⟩
theorem zut:SE tDNewK zaga:=by
 intro fx H0 env σ H h rr hr Q q
 cases hr
 intro p hp
 have hA:=h.lims []
 exact q _ _ (Same.new hp) ⟨zkv (by rw[Offs.get (zcu hA hp)];exact zao) zkw,λ_=>⟨p,rfl,hp,⟨[],zao,zkw⟩⟩⟩
noncomputable def eD1(k v:EF):EF:=λenv=>(k env).bind λx=>(v env).bind λy=>(keyD x.d).bind λ_=>some ⟨.dict [(x.d,y.d)],true,y.bs⟩
theorem zarr{tk tv:TE}{f g:EF}(h1:SE tk f)(h2:SE tv g):SE (tDisp [(tk,tv)]) (eD1 f g):=by
 intro fx H0 env σ H h rr hr Q q
 unfold eD1 at hr
 obtain⟨x,ex,hr⟩:=qA.mp hr
 obtain⟨y,ey,hr⟩:=qA.mp hr
 obtain⟨k,ek,hr⟩:=qA.mp hr
 cases hr
 intro p hp
 have hp0:Same H (upd H p (.dK [])):=Same.new hp
 have npf:¬fx p:=zcu h.fxs hp
 have hE:EnvOk (λb=>fx b\/b=p) H0 env σ (upd H p (.dK [])):=h.grow hp0 (λb o e n z=>z.elim n λy=>by rw[y,hp]at e;cases e) λb z=>by
  rcases z with z|z
  ·obtain⟨o,e⟩:=h.fxs b z;exact⟨o,hp0 b o e⟩
  ·rw[z];exact⟨_,zao⟩
 refine h1 _ H0 env σ _ hE x ex _ λv H1 s1 v1=>h2 _ H0 env σ H1 (hE.up s1) y ey _ λu H2 s2 v2=>?_
 have ep:H2 p=some (.dK []):=(s1.trans s2) _ _ zao
 refine⟨ep,[(k,u)],by rw[zabr v1.rp ek];rfl,(by show 1<=15;decide),?_⟩
 have em:zjm [] [(k,u)]=[(k,u)]:=rfl
 rw[em]
 have rp2:Rp (Offs (λb=>lim fx env σ y.bs b\/b=p) (upd H2 p (.dK [(k,u)]))) y.d u:=by
  rw[Offs.upd (.inr rfl)]
  exact Rp.same (Offs.sub λb z=>by
   rcases z with(z|z)|z
   ·exact .inl (.inl z)
   ·exact .inr z
   ·exact .inl (.inr z)) _ v2.rp
 have hs:Same H (upd H2 p (.dK [(k,u)])):=λb o e=>by
  rw[zas (zbh e hp)]
  exact s2 _ _ (s1 _ _ (hp0 _ _ e))
 have hnp:¬lim fx env σ y.bs p:=zcu (h.lims y.bs) hp
 refine q _ _ hs ⟨zkv (by rw[Offs.get hnp];exact zao) (zid ek (Rp.same (Offs.sub λb z=>.inl z) _ rp2) zkw),λ_=>⟨p,rfl,hp,⟨_,zao,zid ek rp2 zkw⟩⟩⟩
noncomputable abbrev GF:=List PyData->Option (PyData×Bool)
noncomputable def SC(r:List V->Hp->VK->Prop)(g:GF):Prop:=∀(A:Addr->Prop)(H:Hp)(vs:List V)(ds:List PyData),(∀b,A b->∃o,H b=some o)->Rps (Offs A H) ds vs->∀d fr,g ds=some (d,fr)->∀Q:VK,
 (∀v H',Same H H'->Rp (Offs A H') d v->(fr=true->∃a,v=.ref a/\H a=none/\zci (Offs (λb=>A b\/b=a) H') H' a d)->Q v H')->r vs H Q
noncomputable def eCB(g:GF)(f:AF):EF:=λenv=>(f env).bind λrs=>(g (zft rs)).bind λz=>some ⟨z.1,z.2,bsOf z.1 (bss rs)⟩
theorem zin{r:List V->Hp->VK->Prop}{g:GF}{ta:TA}{f:AF}(hc:SC r g)(ha:SA ta f):SE (tCB r ta) (eCB g f):=by
 intro fx H0 env σ H h rr hr Q q
 unfold eCB at hr
 obtain⟨rs,er,hr⟩:=qA.mp hr
 obtain⟨⟨d,fr⟩,ez,hr⟩:=qA.mp hr
 cases hr
 refine ha fx H0 env σ H h rs er _ λvs H1 s1 v1=>hc (lim fx env σ (bss rs)) H1 vs (zft rs) ((h.up s1).lims _) (zef (λi hi=>hi) v1) d fr ez _ λw H3 s3 rp fr3=>q w H3 (s1.trans s3) ⟨zgt rp,λe=>?_⟩
 obtain⟨a,g1,g2,g3⟩:=fr3 e
 refine⟨a,g1,s1.free g2,?_⟩
 have nf:zdx d=false:=by cases d<;>first|rfl|exact g3.elim
 show zci (Offs (λb=>lim fx env σ (bsOf d (bss rs)) b\/b=a) H3) H3 a d
 rw[show bsOf d (bss rs)=bss rs by unfold bsOf;rw[if_neg (by rw[nf];decide)]]
 exact g3
theorem rps1{H:Hp}{d:PyData}{vs:List V}(h:Rps H [d] vs):∃v,vs=[v]/\Rp H d v:=by
 unfold Rps at h
 obtain⟨v,ws,rfl,h1,h2⟩:=h
 unfold Rps at h2
 subst h2
 exact⟨v,rfl,h1⟩
theorem rps2{H:Hp}{d e:PyData}{vs:List V}(h:Rps H [d,e] vs):∃v u,vs=[v,u]/\Rp H d v/\Rp H e u:=by
 unfold Rps at h
 obtain⟨v,ws,rfl,h1,h2⟩:=h
 obtain⟨u,rfl,h3⟩:=rps1 h2
 exact⟨v,u,rfl,h1,h3⟩
noncomputable def lenD:GF
 | [.str x]=>if x.length<=100000 then some (.int x.length,false)else none
 | [.list ds]=>some (.int ds.length,false)
 | [.tuple ds]=>some (.int ds.length,false)
 | _=>none
theorem zmf{K:qC}:SC (λxs H Q=>∃x n,xs=[x]/\LenV K x H n/\Q (.int n) H) lenD:=by
 intro A H vs ds hA rv d fr e Q q
 unfold lenD at e
 split at e
 ·split at e
  ·rename_i hl
   cases e
   obtain⟨v,rfl,r⟩:=rps1 rv
   cases zir r
   exact⟨_,_,rfl,⟨zfd hl,rfl⟩,q _ H (Same.refl _) zac (λz=>by cases z)⟩
  ·cases e
 ·cases e
  obtain⟨v,rfl,r⟩:=rps1 rv
  obtain⟨a,xs,rfl,h1,h2⟩:=zdm r
  exact⟨_,_,rfl,.inl ⟨xs,SqL.of (zbw h1),rfl⟩,by rw[<- h2.length];exact q _ H (Same.refl _) zac (λz=>by cases z)⟩
 ·cases e
  obtain⟨v,rfl,r⟩:=rps1 rv
  obtain⟨a,xs,rfl,h1,h2⟩:=zcg r
  exact⟨_,_,rfl,.inr ⟨xs,SqT.of (zbw h1),rfl⟩,by rw[<- h2.length];exact q _ H (Same.refl _) zac (λz=>by cases z)⟩
 ·cases e
noncomputable def minD:GF
 | [.int i,.int j]=>some (.int (if j<i then j else i),false)
 | _=>none
theorem zapk:SC (λxs H Q=>∃i j,xs=[.int i,.int j]/\Q (.int (if j<i then j else i)) H) minD:=by
 intro A H vs ds hA rv d fr e Q q
 unfold minD at e
 split at e
 ·cases e
  obtain⟨v,u,rfl,r1,r2⟩:=rps2 rv
  cases zbz r1;cases zbz r2
  exact⟨_,_,rfl,q _ H (Same.refl _) zac (λz=>by cases z)⟩
 ·cases e
noncomputable def absD:GF
 | [.int i]=>some (.int (if i<0 then -i else i),false)
 | _=>none
theorem zapl:SC (λxs H Q=>∃i,xs=[.int i]/\Q (.int (if i<0 then -i else i)) H) absD:=by
 intro A H vs ds hA rv d fr e Q q
 unfold absD at e
 split at e
 ·cases e
  obtain⟨v,rfl,r1⟩:=rps1 rv
  cases zbz r1
  exact⟨_,rfl,q _ H (Same.refl _) zac (λz=>by cases z)⟩
 ·cases e
noncomputable def zuu:GF
 | [c]=>(zhf c).map λds=>(.list ds,true)
 | _=>none
theorem zabu{K:qC}:SC (λxs H Q=>∃p ys,xs=[.ref p]/\(SqL K H p ys\/SqT K H p ys)/\∀l,H l=none->Q (.ref l) (upd H l (.lst ys))) zuu:=by
 intro A H vs ds hA rv d fr e Q q
 unfold zuu at e
 split at e
 ·obtain⟨es,he,e⟩:=qH.mp e
  cases e
  obtain⟨v,rfl,r1⟩:=rps1 rv
  obtain⟨p,xs,rfl,hq,r⟩:=zwt (K:=K) r1 he
  refine⟨p,xs,rfl,hq.imp (Offs.same A H).seq (SqT.same (Offs.same A H)),λl hl=>?_⟩
  exact q _ _ (Same.new hl) (zpo hl (zcu hA hl) r) λ_=>⟨l,rfl,hl,zkx hl r⟩
 ·cases e
noncomputable def zwv:GF
 | [c]=>(zhf c).map λds=>(.tuple ds,false)
 | _=>none
theorem zagb{K:qC}:SC (λxs H Q=>∃p ys,xs=[.ref p]/\((SqL K H p ys/\∀l,H l=none->Q (.ref l) (upd H l (.tup ys)))\/(SqT K H p ys/\Q (.ref p) H))) zwv:=by
 intro A H vs ds hA rv d fr e Q q
 unfold zwv at e
 split at e
 ·obtain⟨es,he,e⟩:=qH.mp e
  cases e
  obtain⟨v,rfl,r1⟩:=rps1 rv
  rename_i c
  cases c with
  | list ds=>
   cases he
   obtain⟨p,xs,rfl,h1,r⟩:=zdm r1
   exact⟨p,xs,rfl,.inl ⟨SqL.of (zbw h1),λl hl=>q _ _ (Same.new hl) (znf hl (zcu hA hl) r) (λz=>by cases z)⟩⟩
  | tuple ds=>
   cases he
   obtain⟨p,xs,rfl,h1,r⟩:=zcg r1
   exact⟨p,xs,rfl,.inr ⟨SqT.of (zbw h1),q _ H (Same.refl _) r1 (λz=>by cases z)⟩⟩
  | _=>cases he
 ·cases e
noncomputable def zit:List PyData->Option (List Bool)
 | []=>some []
 | .bool b::r=>(zit r).map λbs=>b::bs
 | _=>none
theorem zsm{H:Hp}:∀{ds:List PyData}{vs:List V}{bs:List Bool},Rps H ds vs->zit ds=some bs->vs=bs.map V.bl
 | [],vs,bs,h,e=>by unfold Rps at h;cases e;exact h
 | d::ds,vs,bs,h,e=>by
  unfold Rps at h
  obtain⟨v,ws,rfl,h1,h2⟩:=h
  cases d with
  | bool b=>
   obtain⟨cs,ec,rfl⟩:=qH.mp e
   rw[zjc h1,zsm h2 ec];rfl
  | _=>cases e
noncomputable def anyD(f:List Bool->Bool):GF
 | [.list ds]=>(zit ds).map λbs=>(.bool (f bs),false)
 | _=>none
theorem zsn{K:qC}{f:List Bool->Bool}:SC (rAny K f) (anyD f):=by
 intro A H vs ds hA rv d fr e Q q
 unfold anyD at e
 split at e
 ·obtain⟨bs,he,e⟩:=qH.mp e
  cases e
  obtain⟨v,rfl,r1⟩:=rps1 rv
  obtain⟨p,xs,rfl,h1,r⟩:=zdm r1
  cases zsm r he
  exact⟨p,bs,rfl,SqL.of (zbw h1),q _ H (Same.refl _) zbb (λz=>by cases z)⟩
 ·cases e
noncomputable def zpp:PyData->String
 | .none=>"NoneType"|.bool _=>"bool"|.int _=>"int"|.str _=>"str"|.list _=>"list"|.tuple _=>"tuple"|.dict _=>"dict"
theorem zars{K:qC}{H:Hp}{d:PyData}{v:V}(h:Rp H d v):TyOf K H v (.type (zpp d)):=by
 cases d with
 | list ds=>obtain⟨a,xs,rfl,h1,_⟩:=zdm h;exact .lst h1
 | tuple ds=>obtain⟨a,xs,rfl,h1,_⟩:=zcg h;exact .tup h1
 | dict ds=>obtain⟨a,xs,rfl,h1,_⟩:=zhn h;exact .dK h1
 | none=>cases zabk h;exact .non
 | bool b=>cases zjc h;exact .bl _
 | int b=>cases zbz h;exact .int _
 | str b=>cases zir h;exact .str _
noncomputable def isiB(n:String)(d:PyData):Bool:=zpp d==n||(zpp d=="bool"&&n=="int")
noncomputable def eIsi(n:String)(a:EF):EF:=λenv=>(a env).map λx=>⟨.bool (isiB n x.d),false,[]⟩
theorem zaii{K:qC}{n:String}{te:TE}{f:EF}(h1:SE te f)(hk:∀d,PySem.W.kitOne K (.type (zpp d)) (.type n)=some (isiB n d)) :
  SE (tCB (λxs H Q=>∃x n t b,xs=[x,.ty n]/\TyOf K H x t/\PySem.W.kitOne K t (.type n)=some b/\Q (.bl b) H) (tCons te (tCons (tC (.ty n)) tNil))) (eIsi n f):=by
 intro fx H0 env σ H h rr hr Q q
 unfold eIsi at hr
 obtain⟨x,ex,rfl⟩:=qH.mp hr
 refine h1 fx H0 env σ H h _ ex _ λv H1 s1 v1=>?_
 exact⟨v,n,_,_,rfl,zars (Rp.same (Offs.same _ _) _ v1.rp),hk _,q _ H1 s1 ⟨zbb,λz=>by cases z⟩⟩
theorem zagc{K:qC}:∀d,PySem.W.kitOne K (.type (zpp d)) (.type "list")=some (isiB "list" d):=by intro d;cases d<;>rfl
theorem zabv{K:qC}:∀d,PySem.W.kitOne K (.type (zpp d)) (.type "tuple")=some (isiB "tuple" d):=by intro d;cases d<;>rfl
noncomputable abbrev PF':=DEnv->Option (Option Int)
noncomputable def SPt(t:TO)(f:PF'):Prop:=∀(fx:Addr->Prop)(H0:Hp)(env:DEnv)(σ:St)(H:Hp),EnvOk fx H0 env σ H->∀r,f env=some r->∀Q:Option Int->Hp->Prop,(∀H',Same H H'->Q r H')->t σ H Q
noncomputable def zgl:PF':=λ_=>some none
noncomputable def zfe(a:EF):PF':=λenv=>(a env).bind λx=>match x.d with|.int i=>some (some i)|_=>none
theorem zni:SPt tNoPart zgl:=by
 intro fx H0 env σ H h r hr Q q
 cases hr
 exact q H (Same.refl _)
theorem znj{te:TE}{f:EF}(h1:SE te f):SPt (tPart te) (zfe f):=by
 intro fx H0 env σ H h r hr Q q
 unfold zfe at hr
 obtain⟨⟨d,fr,bs⟩,ex,hr⟩:=qA.mp hr
 cases d with
 | int i=>
  cases hr
  exact h1 fx H0 env σ H h _ ex _ λv H1 s1 v1=>⟨i,zbz v1.rp,q H1 s1⟩
 | _=>cases hr
noncomputable def cutD(xs:List PyData)(lo hi:Option Int):List PyData:=(xs.drop (HT.sIx xs.length 0 lo)).take (HT.sIx xs.length xs.length hi - HT.sIx xs.length 0 lo)
theorem Rps.drop{H:Hp}{ds:List PyData}{vs:List V}(h:Rps H ds vs)(n:Nat):Rps H (ds.drop n) (vs.drop n):=by
 induction n generalizing ds vs with
 | zero=>exact h
 | succ n ih=>
  cases ds with
  | nil=>unfold Rps at h;subst h;exact zct
  | cons d ds=>unfold Rps at h;obtain⟨v,ws,rfl,h1,h2⟩:=h;exact ih h2
theorem Rps.take{H:Hp}{ds:List PyData}{vs:List V}(h:Rps H ds vs)(n:Nat):Rps H (ds.take n) (vs.take n):=by
 induction n generalizing ds vs with
 | zero=>exact zct
 | succ n ih=>
  cases ds with
  | nil=>unfold Rps at h;subst h;exact zct
  | cons d ds=>unfold Rps at h;obtain⟨v,ws,rfl,h1,h2⟩:=h;exact zcp h1 (ih h2)
theorem Rps.cut{H:Hp}{ds:List PyData}{vs:List V}(h:Rps H ds vs)(lo hi:Option Int):Rps H (cutD ds lo hi) (cutV vs lo hi):=by
 unfold cutD cutV
 rw[<- h.length]
 exact(h.drop _).take _
noncomputable def slD(d:PyData)(lo hi:Option Int):Option (PyData×Bool):=match d with
 | .str z=>if z.length<=100000 then some (.str (Txt.slice z lo hi),false)else none
 | .list ds=>some (.list (cutD ds lo hi),true)
 | _=>none
noncomputable def eSl(a:EF)(l h:PF'):EF:=λenv=>(a env).bind λx=>(l env).bind λlo=>(h env).bind λhi=>(slD x.d lo hi).bind λz=>some ⟨z.1,z.2,bsOf z.1 x.bs⟩
theorem zalb{K:qC}{te:TE}{tl th:TO}{f:EF}{fl fh:PF'}(h1:SE te f)(h2:SPt tl fl)(h3:SPt th fh):SE (tSl (rSlU K) te tl th) (eSl f fl fh):=by
 intro fx H0 env σ H h rr hr Q q
 unfold eSl at hr
 obtain⟨⟨d,frd,bs⟩,ex,hr⟩:=qA.mp hr
 obtain⟨lo,el,hr⟩:=qA.mp hr
 obtain⟨hi,eh,hr⟩:=qA.mp hr
 obtain⟨⟨d',fr'⟩,ez,hr⟩:=qA.mp hr
 cases hr
 refine h1 fx H0 env σ H h _ ex _ λv H1 s1 v1=>h2 fx H0 env σ H1 (h.up s1) _ el _ λH2 s2=>h3 fx H0 env σ H2 (h.up (s1.trans s2)) _ eh _ λH3 s3=>?_
 have v3:=(v1.later (Same.refl _) (s2.trans s3) λ_ z=>z).rp
 have t3:=(s1.trans s2).trans s3
 cases d with
 | str z=>
  have ez:(if z.length<=100000 then some (PyData.str (Txt.slice z lo hi),false)else none)=some (d',fr'):=ez
  split at ez
  ·rename_i hl
   cases ez
   cases zir v3
   exact⟨zfd hl,q _ H3 t3 ⟨zdn,λz=>by cases z⟩⟩
  ·cases ez
 | list ds=>
  cases ez
  obtain⟨p,xs,rfl,hp,r⟩:=zdm v3
  refine⟨p,xs,rfl,SqL.of (zbw hp),λl hl=>q _ _ (t3.trans (Same.new hl)) ?_⟩
  have hA:=(h.up t3).lims bs
  exact⟨zpo hl (zcu hA hl) (r.cut lo hi),λ_=>⟨l,rfl,t3.free hl,zkx hl (r.cut lo hi)⟩⟩
 | _=>cases ez
noncomputable def zso(fx:Addr->Prop)(H0:Hp)(d:PyData)(fr:Bool)(v:V)(H:Hp):Prop:=Rp (Offs fx H) d v/\(fr=true->∃a,v=.ref a/\H0 a=none/\zci (Offs (λb=>fx b\/b=a) H) H a d)
noncomputable def spD(n:Nat)(g:GF):Sp:=λvs H Q _=>∃(fx:Addr->Prop)(ds:List PyData)(d:PyData)(fr:Bool),ds.length=n/\(∀b,fx b->∃o,H b=some o)/\Rps (Offs fx H) ds vs/\g ds=some (d,fr)/\∀v H',Same H H'->zso fx H d fr v H'->Q v H'
noncomputable def zbu(n:Nat)(g:GF)(f:AF):EF:=λenv=>(f env).bind λrs=>if rs.length=n then(g (zft rs)).bind λz=>some ⟨z.1,z.2,bsOf z.1 (bss rs)⟩else none
theorem zem{n:Nat}{g:GF}{ta:TA}{f:AF}(ha:SA ta f):SE (tCall (spD n g) [] E0 ta) (zbu n g f):=by
 intro fx H0 env σ H h rr hr Q q
 unfold zbu at hr
 obtain⟨rs,er,hr⟩:=qA.mp hr
 split at hr
 ·rename_i hn
  obtain⟨⟨d,fr⟩,ez,hr⟩:=qA.mp hr
  cases hr
  refine ha fx H0 env σ H h rs er _ λvs H1 s1 v1=>?_
  rw[qu]
  refine⟨lim fx env σ (bss rs),zft rs,d,fr,by rw[zgk];exact hn,(h.up s1).lims _,zef (λi hi=>hi) v1,ez,λw H3 s3 ⟨rp,fr3⟩=>q w H3 (s1.trans s3) ⟨zgt rp,λe=>?_⟩⟩
  obtain⟨a,g1,g2,g3⟩:=fr3 e
  refine⟨a,g1,s1.free g2,?_⟩
  have nf:zdx d=false:=by cases d<;>first|rfl|exact g3.elim
  show zci (Offs (λb=>lim fx env σ (bsOf d (bss rs)) b\/b=a) H3) H3 a d
  rw[show bsOf d (bss rs)=bss rs by unfold bsOf;rw[if_neg (by rw[nf];decide)]]
  exact g3
 ·cases hr
inductive Out where
 | nx (env:DEnv)
 | bk (env:DEnv)
 | ct (env:DEnv)
 | rt (d:PyData) (fr:Bool)
noncomputable def Sat(fx:Addr->Prop)(H0:Hp)(D:Ends):Out->Prop
 | .nx env=>∀σ H,EnvOk fx H0 env σ H->D.nx σ H
 | .bk env=>∀σ H,EnvOk fx H0 env σ H->D.bk σ H
 | .ct env=>∀σ H,EnvOk fx H0 env σ H->D.ct σ H
 | .rt d fr=>∀v H,Same H0 H->zso fx H0 d fr v H->D.rt v H
noncomputable abbrev SF:=DEnv->Option Out
noncomputable def SS(ts:TS)(F:SF):Prop:=∀(fx:Addr->Prop)(H0:Hp)(env:DEnv)(σ:St)(H:Hp)(D:Ends),EnvOk fx H0 env σ H->∀o,F env=some o->Sat fx H0 D o->ts D σ H
noncomputable def frz1(env:DEnv)(i:Nat):DEnv:=match env[i]? with
 | some (.ac d)=>env.set i (.pl d)
 | _=>env
noncomputable def frzs(env:DEnv)(bs:List Nat):DEnv:=bs.foldl frz1 env
theorem zagd(env:DEnv)(i:Nat):(frz1 env i).length=env.length:=by
 unfold frz1;split
 ·rw[qf]
 ·rfl
theorem zbe{α:Type}{l:List α}{i j:Nat}{x y:α}(h:(l.set i x)[j]?=some y):(j=i/\y=x)\/(j≠i/\l[j]?=some y):=by
 rw[List.getElem?_set]at h
 by_cases e:i=j
 ·subst e
  rw[if_pos rfl]at h
  split at h
  ·exact .inl ⟨rfl,(qR h).symm⟩
  ·cases h
 ·rw[if_neg e]at h
  exact .inr ⟨λz=>e z.symm,h⟩
theorem zkz{env:DEnv}{i j:Nat}{d:PyData}(h:(frz1 env i)[j]?=some (.ac d)):env[j]?=some (.ac d)/\j≠i:=by
 unfold frz1 at h
 split at h
 ·rcases zbe h with⟨_,e⟩|⟨e,h⟩
  ·cases e
  ·exact⟨h,e⟩
 ·rename_i hn
  refine⟨h,λe=>?_⟩
  subst e
  exact hn d h
theorem zalc{env:DEnv}{i j:Nat}{d:PyData}(h:(frz1 env i)[j]?=some (.pl d)):env[j]?=some (.pl d)\/(j=i/\env[i]?=some (.ac d)):=by
 unfold frz1 at h
 split at h
 ·rename_i d' hd
  rcases zbe h with⟨e1,e⟩|⟨e,h⟩
  ·cases e;exact .inr ⟨e1,hd⟩
  ·exact .inl h
 ·exact .inl h
theorem zage{env:DEnv}{σ:St}{i:Nat}:∀a,own (frz1 env i) σ a->own env σ a:=by
 rintro a ⟨j,d,h1,h2⟩
 exact⟨j,d,(zkz h1).1,h2⟩
theorem EnvOk.frz1{fx:Addr->Prop}{H0:Hp}{env:DEnv}{σ:St}{H:Hp}(h:EnvOk fx H0 env σ H)(i:Nat):EnvOk fx H0 (frz1 env i) σ H:=by
 have so:Same (Offs (λa=>fx a\/own env σ a) H) (Offs (λa=>fx a\/own (L2.frz1 env i) σ a) H):=Offs.sub λb z=>z.imp (λy=>y) (zage b)
 refine⟨by rw[zagd];exact h.len,λj d e=>?_,λj d e=>?_,λj k d d' a h1 h2 h3 h4=>h.inj j k d d' a (zkz h1).1 (zkz h2).1 h3 h4,h.base,h.fxs⟩
 ·rcases zalc e with e|⟨rfl,e⟩
  ·obtain⟨v,h1,h2⟩:=h.pl j d e
   exact⟨v,h1,Rp.same so _ h2⟩
  ·obtain⟨a,h1,h2,h3,h4⟩:=h.ac j d e
   refine⟨_,h1,h4.rp so λo eo=>?_⟩
   rw[Offs.get]
   ·exact eo
   ·rintro(z|⟨k,d',z1,z2⟩)
    ·exact h3 z
    ·obtain⟨z1,z3⟩:=zkz z1
     exact z3 (h.inj k j d' d a z1 e z2 h1)
 ·obtain⟨a,h1,h2,h3,h4⟩:=h.ac j d (zkz e).1
  exact⟨a,h1,h2,h3,h4.same so λo z=>z⟩
theorem EnvOk.frzs{fx:Addr->Prop}{H0:Hp}{σ:St}{H:Hp}:∀(bs:List Nat){env:DEnv},EnvOk fx H0 env σ H->EnvOk fx H0 (frzs env bs) σ H
 | [],_,h=>h
 | i::bs,_,h=>EnvOk.frzs bs (h.frz1 i)
theorem zgu:∀{bs:List Nat}{env:DEnv}{j:Nat}{d:PyData},(frzs env bs)[j]?=some (.ac d)->env[j]?=some (.ac d)/\j∉bs
 | [],_,_,_,h=>⟨h,by simp⟩
 | i::bs,env,j,d,h=>by
  obtain⟨h1,h2⟩:=zgu (bs:=bs) h
  obtain⟨h3,h4⟩:=zkz h1
  exact⟨h3,by simp[h4,h2]⟩
theorem zch{fx:Addr->Prop}{env:DEnv}{σ:St}{bs:List Nat}:∀a,fx a\/own (frzs env bs) σ a->lim fx env σ bs a:=by
 rintro a (z|⟨i,d,h1,h2⟩)
 ·exact .inl z
 ·obtain⟨h3,h4⟩:=zgu h1
  exact .inr ⟨i,d,h4,h3,h2⟩
theorem zuv{env:DEnv}{σ:St}{i:Nat}{d:PyData}{v:V}:∀a,own (env.set i (.pl d)) (σ.set i (some v)) a->own env σ a:=by
 rintro a ⟨j,e,h1,h2⟩
 rcases zbe h1 with⟨_,z⟩|⟨ne,h1⟩
 ·cases z
 ·rcases zbe h2 with⟨z,_⟩|⟨_,h2⟩
  ·exact absurd z ne
  ·exact⟨j,e,h1,h2⟩
theorem EnvOk.setPl{fx:Addr->Prop}{H0:Hp}{env:DEnv}{σ:St}{H:Hp}(h:EnvOk fx H0 env σ H)(i:Nat){d:PyData}{v:V}(r:Rp (Offs (λa=>fx a\/own env σ a) H) d v):EnvOk fx H0 (env.set i (.pl d)) (σ.set i (some v)) H:=by
 have so:Same (Offs (λa=>fx a\/own env σ a) H) (Offs (λa=>fx a\/own (env.set i (.pl d)) (σ.set i (some v)) a) H):=Offs.sub λb z=>z.imp (λy=>y) (zuv b)
 have kept:∀{j:Nat},j≠i->(σ.set i (some v))[j]?=σ[j]?:=λ{j} n=>qN λz=>n z.symm
 refine⟨by rw[qf,qf];exact h.len,λj e hj=>?_,λj e hj=>?_,λj k d1 d2 a h1 h2 h3 h4=>?_,h.base,h.fxs⟩
 ·rcases zbe hj with⟨rfl,z⟩|⟨ne,hj'⟩
  ·cases z
   have hl:j<env.length:=by have:=(qM.mp hj).1;rwa [qf]at this
   exact⟨v,by rw[qe (by rw[<- h.len];exact hl)],Rp.same so _ r⟩
  ·obtain⟨u,h1,h2⟩:=h.pl j e hj'
   exact⟨u,by rw[kept ne];exact h1,Rp.same so _ h2⟩
 ·rcases zbe hj with⟨_,z⟩|⟨ne,hj'⟩
  ·cases z
  ·obtain⟨a,h1,h2,h3,h4⟩:=h.ac j e hj'
   exact⟨a,by rw[kept ne];exact h1,h2,h3,h4.same so λo z=>z⟩
 ·rcases zbe h1 with⟨_,z⟩|⟨n1,h1⟩
  ·cases z
  rcases zbe h2 with⟨_,z⟩|⟨n2,h2⟩
  ·cases z
  rw[kept n1]at h3
  rw[kept n2]at h4
  exact h.inj j k d1 d2 a h1 h2 h3 h4
theorem EnvOk.setAc {fx:Addr->Prop} {H0:Hp} {env:DEnv} {σ:St} {H:Hp} {a:Addr} (h:EnvOk (λb=>fx b\/b=a) H0 env σ H) (i:Nat) {d:PyData} (r:zci (Offs (λb=>(fx b\/own env σ b)\/b=a) H) H a d) (h0:H0 a=none) (hf:¬fx a) :
  EnvOk fx H0 (env.set i (.ac d)) (σ.set i (some (.ref a))) H:=by
 have kept:∀{j:Nat},j≠i->(σ.set i (some (V.ref a)))[j]?=σ[j]?:=λ{j} n=>qN λz=>n z.symm
 have sub:∀b,fx b\/own (env.set i (.ac d)) (σ.set i (some (.ref a))) b->(fx b\/b=a)\/own env σ b:=by
  rintro b (z|⟨j,e,h1,h2⟩)
  ·exact .inl (.inl z)
  ·rcases zbe h1 with⟨rfl,z⟩|⟨ne,h1⟩
   ·have hl:j<env.length:=by have:=(qM.mp ‹(env.set j (.ac d))[j]?=_›).1;rwa [qf]at this
    rw[qe (by rw[<- h.len];exact hl)]at h2
    cases h2
    exact .inl (.inr rfl)
   ·rw[kept ne]at h2
    exact .inr ⟨j,e,h1,h2⟩
 have so:Same (Offs (λb=>(fx b\/b=a)\/own env σ b) H) (Offs (λb=>fx b\/own (env.set i (.ac d)) (σ.set i (some (.ref a))) b) H):=Offs.sub sub
 have so2:Same (Offs (λb=>(fx b\/own env σ b)\/b=a) H) (Offs (λb=>fx b\/own (env.set i (.ac d)) (σ.set i (some (.ref a))) b) H):=Offs.sub λb z=>by
  rcases sub b z with(y|y)|y
  ·exact .inl (.inl y)
  ·exact .inr y
  ·exact .inl (.inr y)
 refine⟨by rw[qf,qf];exact h.len,λj e hj=>?_,λj e hj=>?_,λj k d1 d2 b h1 h2 h3 h4=>?_,h.base,λb z=>h.fxs b (.inl z)⟩
 ·rcases zbe hj with⟨_,z⟩|⟨ne,hj'⟩
  ·cases z
  ·obtain⟨u,h1,h2⟩:=h.pl j e hj'
   exact⟨u,by rw[kept ne];exact h1,Rp.same so _ h2⟩
 ·rcases zbe hj with⟨rfl,z⟩|⟨ne,hj'⟩
  ·cases z
   have hl:j<env.length:=by have:=(qM.mp hj).1;rwa [qf]at this
   exact⟨a,by rw[qe (by rw[<- h.len];exact hl)],h0,hf,r.same so2 λo z=>z⟩
  ·obtain⟨b,h1,h2,h3,h4⟩:=h.ac j e hj'
   exact⟨b,by rw[kept ne];exact h1,h2,λz=>h3 (.inl z),h4.same so λo z=>z⟩
 ·rcases zbe h1 with⟨e1,z1⟩|⟨n1,h1'⟩<;>rcases zbe h2 with⟨e2,z2⟩|⟨n2,h2'⟩
  ·rw[e1,e2]
  ·subst e1
   have hl:j<env.length:=by have:=(qM.mp h1).1;rwa [qf]at this
   rw[qe (by rw[<- h.len];exact hl)]at h3
   rw[kept n2]at h4
   cases h3
   obtain⟨b,g1,g2,g3,g4⟩:=h.ac k d2 h2'
   rw[h4]at g1
   cases g1
   exact absurd (.inr rfl) g3
  ·subst e2
   have hl:k<env.length:=by have:=(qM.mp h2).1;rwa [qf]at this
   rw[qe (by rw[<- h.len];exact hl)]at h4
   rw[kept n1]at h3
   cases h4
   obtain⟨b,g1,g2,g3,g4⟩:=h.ac j d1 h1'
   rw[h3]at g1
   cases g1
   exact absurd (.inr rfl) g3
  ·rw[kept n1]at h3
   rw[kept n2]at h4
   exact h.inj j k d1 d2 b h1' h2' h3 h4
noncomputable def slOf(r:Val):Sl:=if r.fr=true then .ac r.d else .pl r.d
noncomputable def putV(env:DEnv)(i:Nat)(r:Val):DEnv:=(frzs env r.bs).set i (slOf r)
theorem EnvOk.put{fx:Addr->Prop}{H0:Hp}{env:DEnv}{σ:St}{H H':Hp}(h:EnvOk fx H0 env σ H)(s:Same H H'){r:Val}{v:V}(hv:ValOk (lim fx env σ r.bs) H H' r v)(i:Nat):EnvOk fx H0 (putV env i r) (σ.set i (some v)) H':=by
 unfold putV slOf
 cases e:r.fr with
 | false=>
  rw[if_neg qI]
  exact((h.up s).frzs r.bs).setPl i (Rp.same (Offs.sub zch) _ hv.rp)
 | true=>
  rw[if_pos rfl]
  obtain⟨a,rfl,ha,hacc⟩:=hv.fr e
  have nfx:¬fx a:=zcu h.fxs ha
  have g:EnvOk (λb=>fx b\/b=a) H0 env σ H':=h.grow s (λb o eo n z=>z.elim n λy=>by rw[y,ha]at eo;cases eo) λb z=>by
   rcases z with z|z
   ·obtain⟨o,eo⟩:=h.fxs b z;exact⟨o,s b o eo⟩
   ·rw[z];exact hacc.ex
  refine(g.frzs r.bs).setAc i (hacc.same (Offs.sub λb z=>?_) λo z=>z) (h.base.free ha) nfx
  rcases z with z|z
  ·exact .inl (zch b z)
  ·exact .inr z
noncomputable def sNil:SF:=λenv=>some (.nx env)
noncomputable def sSeq(f g:SF):SF:=λenv=>(f env).bind λo=>match o with
 | .nx env'=>g env'
 | o=>some o
theorem zww:SS tNext sNil:=by
 intro fx H0 env σ H D h o e q
 cases e
 exact q σ H h
theorem zff{t u:TS}{f g:SF}(h1:SS t f)(h2:SS u g):SS (tSeq t u) (sSeq f g):=by
 intro fx H0 env σ H D h o e q
 unfold sSeq at e
 obtain⟨o1,e1,e⟩:=qA.mp e
 refine h1 fx H0 env σ H _ h o1 e1 ?_
 cases o1 with
 | nx env'=>exact λσ' H' h'=>h2 fx H0 env' σ' H' D h' o e q
 | bk env'=>cases e;exact q
 | ct env'=>cases e;exact q
 | rt d fr=>cases e;exact q
noncomputable def zabw:SF:=λ_=>none
theorem zagf:SS tNever zabw:=by
 intro fx H0 env σ H D h o e q
 cases e
noncomputable def zabx(f:EF):SF:=λenv=>(f env).map λ_=>.nx env
theorem zald{te:TE}{f:EF}(h1:SE te f):SS (tDrop te) (zabx f):=by
 intro fx H0 env σ H D h o e q
 unfold zabx at e
 obtain⟨r,er,rfl⟩:=qH.mp e
 exact h1 fx H0 env σ H h r er _ λv H' s _=>q σ H' (h.up s)
noncomputable def sRet(f:EF):SF:=λenv=>(f env).map λr=>.rt r.d r.fr
theorem ziu{te:TE}{f:EF}(h1:SE te f):SS (tRet te) (sRet f):=by
 intro fx H0 env σ H D h o e q
 unfold sRet at e
 obtain⟨r,er,rfl⟩:=qH.mp e
 refine h1 fx H0 env σ H h r er _ λv H' s hv=>q v H' (h.base.trans s) ⟨Rp.same (Offs.sub λb z=>.inl z) _ hv.rp,λz=>?_⟩
 obtain⟨a,g1,g2,g3⟩:=hv.fr z
 exact⟨a,g1,h.base.free g2,g3.same (Offs.sub λb y=>y.imp .inl id) λo z=>z⟩
noncomputable def zaby(i:Nat):SF:=λenv=>match env[i]? with
 | some (.pl d)=>some (.rt d false)
 | some (.ac d)=>some (.rt d true)
 | _=>none
theorem zuw{i:Nat}:SS (tRet (tVar i)) (zaby i):=by
 intro fx H0 env σ H D h o e q
 unfold zaby at e
 cases ei:env[i]? with
 | none=>rw[ei]at e;cases e
 | some sl=>
  rw[ei]at e
  cases sl with
  | no=>cases e
  | pl d=>
   cases e
   obtain⟨v,h1,h2⟩:=h.pl i d ei
   exact⟨v,h1,q v H h.base ⟨Rp.same (Offs.sub λb z=>.inl z) _ h2,λz=>by cases z⟩⟩
  | ac d=>
   cases e
   obtain⟨a,h1,h2,h3,h4⟩:=h.ac i d ei
   refine⟨_,h1,q _ H h.base ⟨h4.rp (Offs.sub λb z=>.inl z) λo eo=>by rw[Offs.get h3];exact eo,λ_=>⟨a,rfl,h2,h4.same (Offs.sub λb z=>?_) λo z=>z⟩⟩⟩
   rcases z with z|z
   ·exact .inl z
   ·rw[z];exact .inr ⟨i,d,ei,h1⟩
noncomputable def sIf(c:TF)(f g:SF):SF:=λenv=>(c env).bind λb=>if b=true then f env else g env
theorem zagg{tc:TT}{t u:TS}{c:TF}{f g:SF}(hc:ST tc c)(h1:SS t f)(h2:SS u g):SS (tIfS tc t u) (sIf c f g):=by
 intro fx H0 env σ H D h o e q
 unfold sIf at e
 obtain⟨b,eb,e⟩:=qA.mp e
 refine hc fx H0 env σ H h b eb _ λH' s=>?_
 cases b with
 | true=>exact iteT (h1 fx H0 env σ H' D (h.up s) o e q)
 | false=>exact iteF (h2 fx H0 env σ H' D (h.up s) o e q)
noncomputable def sSet(i:Nat)(f:EF):SF:=λenv=>(f env).map λr=>.nx (putV env i r)
theorem ziv{te:TE}{f:EF}{i:Nat}(h1:SE te f):SS (tAsg te (gName i)) (sSet i f):=by
 intro fx H0 env σ H D h o e q
 unfold sSet at e
 obtain⟨r,er,rfl⟩:=qH.mp e
 exact h1 fx H0 env σ H h r er _ λv H' s hv=>q _ H' (h.put s hv i)
noncomputable abbrev GT:=PyData->DEnv->Option DEnv
noncomputable def SG(g:TG)(f:GT):Prop:=∀(fx:Addr->Prop)(H0:Hp)(env:DEnv)(σ:St)(H:Hp)(d:PyData)(v:V),EnvOk fx H0 env σ H->Rp (Offs (λa=>fx a\/own env σ a) H) d v->∀env',f d env=some env'->∀Q:St->Hp->Prop,
 (∀σ',EnvOk fx H0 env' σ' H->Q σ' H)->g v σ H Q
noncomputable abbrev GTs:=List PyData->DEnv->Option DEnv
noncomputable def SGs(g:TGs)(f:GTs):Prop:=∀(fx:Addr->Prop)(H0:Hp)(env:DEnv)(σ:St)(H:Hp)(ds:List PyData)(vs:List V),EnvOk fx H0 env σ H->Rps (Offs (λa=>fx a\/own env σ a) H) ds vs->∀env',f ds env=some env'->∀Q:St->Hp->Prop,
 (∀σ',EnvOk fx H0 env' σ' H->Q σ' H)->g vs σ H Q
noncomputable def gN(i:Nat):GT:=λd env=>some (env.set i (.pl d))
theorem zgc{i:Nat}:SG (gName i) (gN i):=by
 intro fx H0 env σ H d v h r env' e Q q
 cases e
 exact q _ (h.setPl i r)
noncomputable def zgd:GTs:=λds env=>match ds with|[]=>some env|_=>none
noncomputable def zbg(i:Nat)(g:GTs):GTs:=λds env=>match ds with|d::r=>g r (env.set i (.pl d))|[]=>none
theorem zla:SGs gNil zgd:=by
 intro fx H0 env σ H ds vs h r env' e Q q
 cases ds with
 | nil=>cases e;unfold Rps at r;exact⟨r,q _ h⟩
 | cons _ _=>cases e
theorem zdd{i:Nat}{t:TGs}{g:GTs}(h1:SGs t g):SGs (gCons (gName i) t) (zbg i g):=by
 intro fx H0 env σ H ds vs h r env' e Q q
 cases ds with
 | nil=>cases e
 | cons d ds=>
  unfold Rps at r
  obtain⟨v,ws,rfl,r1,r2⟩:=r
  refine⟨v,ws,rfl,h1 fx H0 (env.set i (.pl d)) _ H ds ws (h.setPl i r1) (Rps.same (Offs.sub λb z=>z.imp (λy=>y) (zuv b)) _ r2) env' e Q q⟩
noncomputable def gT(n:Nat)(g:GTs):GT:=λd env=>match d with|.tuple ds=>if ds.length=n then g ds env else none|_=>none
theorem zpq{K:qC}{n:Nat}{t:TGs}{g:GTs}(h1:SGs t g):SG (gTup K n t) (gT n g):=by
 intro fx H0 env σ H d v h r env' e Q q
 unfold gT at e
 cases d with
 | tuple ds=>
  have e:(if ds.length=n then g ds env else none)=some env':=e
  split at e
  ·rename_i hn
   obtain⟨a,xs,rfl,ha,rs⟩:=zcg r
   exact⟨a,xs,rfl,SqT.of (zbw ha),by rw[<- rs.length];exact hn,h1 fx H0 env σ H ds xs h rs env' e Q q⟩
  ·cases e
 | _=>cases e
theorem EnvOk.mut{fx:Addr->Prop}{H0:Hp}{env:DEnv}{σ:St}{H:Hp}(h:EnvOk fx H0 env σ H){i:Nat}{d d':PyData}{a:Addr}{o:HO}(e:env[i]?=some (.ac d))(ea:σ[i]?=some (some (.ref a)))
  (r:zci (Offs (λb=>fx b\/own env σ b) H) (upd H a o) a d'):EnvOk fx H0 (env.set i (.ac d')) σ (upd H a o):=by
 have hl:i<env.length:=(qM.mp e).1
 have oa:own env σ a:=⟨i,d,e,ea⟩
 have ow:∀b,own (env.set i (.ac d')) σ b↔own env σ b:=by
  intro b
  constructor
  ·rintro⟨j,d1,h1,h2⟩
   rcases zbe h1 with⟨rfl,z⟩|⟨ne,h1⟩
   ·exact⟨j,d,e,h2⟩
   ·exact⟨j,d1,h1,h2⟩
  ·rintro⟨j,d1,h1,h2⟩
   by_cases hj:j=i
   ·subst hj;exact⟨j,d',by rw[qe hl],h2⟩
   ·exact⟨j,d1,by rw[qN λz=>hj z.symm];exact h1,h2⟩
 have so:Same (Offs (λb=>fx b\/own env σ b) H) (Offs (λb=>fx b\/own (env.set i (.ac d')) σ b) (upd H a o)):=by
  have:Same (Offs (λb=>fx b\/own env σ b) (upd H a o)) (Offs (λb=>fx b\/own (env.set i (.ac d')) σ b) (upd H a o)):=Offs.sub λb z=>z.imp (λy=>y) (ow b).mp
  rw[Offs.upd (.inr oa)]at this
  exact this
 obtain⟨a',g1,g2,g3,g4⟩:=h.ac i d e
 rw[ea]at g1
 cases g1
 refine⟨by rw[qf];exact h.len,λj d1 hj=>?_,λj d1 hj=>?_,λj k d1 d2 b h1 h2 h3 h4=>?_,λb u eb=>by rw[zas (zbh eb g2)];exact h.base b u eb,λb z=>?_⟩
 ·rcases zbe hj with⟨_,z⟩|⟨ne,hj'⟩
  ·cases z
  ·obtain⟨u,h1,h2⟩:=h.pl j d1 hj'
   exact⟨u,h1,Rp.same so _ h2⟩
 ·rcases zbe hj with⟨rfl,z⟩|⟨ne,hj'⟩
  ·cases z
   exact⟨a,ea,g2,g3,r.same so λo z=>z⟩
  ·obtain⟨b,h1,h2,h3,h4⟩:=h.ac j d1 hj'
   refine⟨b,h1,h2,h3,h4.same so λo' z=>?_⟩
   rw[zas λy=>ne (h.inj j i d1 d a hj' e (by rw[<- y];exact h1) ea)]
   exact z
 ·have f:∀{j:Nat}{d1:PyData},(env.set i (.ac d'))[j]?=some (.ac d1)->∃d2,env[j]?=some (.ac d2):=λ{j d1} hj=>by
   rcases zbe hj with⟨rfl,z⟩|⟨ne,hj'⟩
   ·exact⟨d,e⟩
   ·exact⟨d1,hj'⟩
  obtain⟨e1,h1⟩:=f h1
  obtain⟨e2,h2⟩:=f h2
  exact h.inj j k e1 e2 b h1 h2 h3 h4
 ·obtain⟨u,eu⟩:=h.fxs b z
  exact⟨u,by rw[zas λy=>g3 (by rw[<- y];exact z)];exact eu⟩
theorem zet{env:DEnv}{i:Nat}{d:PyData}:∀{bs:List Nat},i∉bs->env[i]?=some (.ac d)->(frzs env bs)[i]?=some (.ac d):=by
 intro bs
 induction bs generalizing env with
 | nil=>intro _ e;exact e
 | cons j bs ih=>
  intro hn e
  have hj:i≠j:=λz=>hn (by simp[z])
  refine ih (λz=>hn (qJ _ z)) ?_
  unfold frz1
  split
  ·rw[qN λz=>hj z.symm];exact e
  ·exact e
noncomputable def sPut(i:Nat)(fk fv:EF):SF:=λenv=>match env[i]? with
 | some (.ac (.dict kvs))=>(fv env).bind λr=>(fk env).bind λk=>(keyD k.d).bind λ_=>if kvs.length<100000/\i∉r.bs then some (.nx ((frzs env r.bs).set i (.ac (.dict (zng kvs k.d r.d)))))else none
 | _=>none
theorem zaij{i:Nat}{tk tv:TE}{fk fv:EF}(h1:SE tk fk)(h2:SE tv fv):SS (sDPut (tVar i) tk tv) (sPut i fk fv):=by
 intro fx H0 env σ H D h o e q
 unfold sPut at e
 split at e
 ·rename_i kvs ei
  obtain⟨r,er,e⟩:=qA.mp e
  obtain⟨k,ek,e⟩:=qA.mp e
  obtain⟨kk,ekk,e⟩:=qA.mp e
  split at e
  ·rename_i hl
   cases e
   obtain⟨a,g1,g2,g3,g4⟩:=h.ac i _ ei
   obtain⟨ps,hx,rx⟩:=g4
   refine h2 fx H0 env σ H h r er _ λv H' s hv=>⟨_,g1,h1 fx H0 env σ H' (h.up s) k ek _ λu H2 s2 hk=>?_⟩
   have t2:=s.trans s2
   have h':=(h.up t2).frzs r.bs
   have ei':=zet hl.2 ei
   have hx':=t2 _ _ hx
   have rx':Rpd (Offs (λb=>fx b\/own (frzs env r.bs) σ b) H2) kvs ps:=by
    obtain⟨a',z1,_,_,z4⟩:=h'.ac i _ ei'
    rw[g1]at z1
    cases z1
    obtain⟨ys,y1,y2⟩:=z4
    rw[hx']at y1
    cases y1
    exact y2
   rw[zabr hk.rp ekk]
   refine⟨a,_,rfl,DPut.k hx' (zhq (by rw[<- rx.length];exact hl.1)),?_⟩
   refine q σ _ (h'.mut ei' g1 ⟨_,zao,rx'.put ekk (Rp.same (Offs.sub zch) _ (hv.later (Same.refl _) s2 λ_ z=>z).rp)⟩)
  ·cases e
 ·cases e
noncomputable def sUpd(i:Nat)(f:EF):SF:=λenv=>match env[i]? with
 | some (.ac (.dict kvs))=>(f env).bind λr=>match r.d with
  | .dict more=>if kvs.length+more.length<=100000/\i∉r.bs then some (.nx ((frzs env r.bs).set i (.ac (.dict (zky kvs more)))))else none
  | _=>none
 | _=>none
theorem zaik{K:qC}{i:Nat}{te:TE}{f:EF}(h1:SE te f):SS (tDrop (tBM K "dict" zabe (tVar i) (tCons te tNil))) (sUpd i f):=by
 intro fx H0 env σ H D h o e q
 unfold sUpd at e
 split at e
 ·rename_i kvs ei
  obtain⟨⟨rd,rfr,rbs⟩,er,e⟩:=qA.mp e
  cases rd with
  | dict more=>
   have e:(if kvs.length+more.length<=100000/\i∉rbs then some (Out.nx ((frzs env rbs).set i (.ac (.dict (zky kvs more)))))else none)=some o:=e
   split at e
   ·rename_i hl
    cases e
    obtain⟨a,g1,g2,g3,g4⟩:=h.ac i _ ei
    obtain⟨ps,hx,rx⟩:=g4
    refine⟨_,g1,.inr (.inr (.inl ⟨rfl,.inl ⟨_,hx⟩⟩)),h1 fx H0 env σ H h _ er _ λv H' s hv=>?_⟩
    have h':=(h.up s).frzs rbs
    have ei':=zet hl.2 ei
    have hx':=s _ _ hx
    have rx':Rpd (Offs (λb=>fx b\/own (frzs env rbs) σ b) H') kvs ps:=by
     obtain⟨a',z1,_,_,z4⟩:=h'.ac i _ ei'
     rw[g1]at z1
     cases z1
     obtain⟨ys,y1,y2⟩:=z4
     rw[hx']at y1
     cases y1
     exact y2
    obtain⟨b,qs,rfl,hb,rb⟩:=zhn (Rp.same (Offs.sub zch) _ hv.rp)
    have hab:a≠b:=λz=>by
     subst z
     exact(Offs.of hb).1 (.inr ⟨i,_,ei',g1⟩)
    refine⟨a,b,ps,qs,rfl,rfl,hab,hx',zbw hb,zfd (by rw[<- rx.length,<- rb.length];exact hl.1),?_⟩
    exact q σ _ (h'.mut ei' g1 ⟨_,zao,rx'.merge rb⟩)
   ·cases e
  | _=>cases e
 ·cases e
theorem EnvOk.rebase{fx:Addr->Prop}{H0:Hp}{env:DEnv}{σ:St}{H:Hp}(h:EnvOk fx H0 env σ H):EnvOk fx (Offs (own env σ) H) env σ H:=by
 refine⟨h.len,h.pl,λi d e=>?_,h.inj,Offs.same _ _,h.fxs⟩
 obtain⟨a,h1,h2,h3,h4⟩:=h.ac i d e
 exact⟨a,h1,Offs.out ⟨i,d,e,h1⟩,h3,h4⟩
theorem EnvOk.floor{fx:Addr->Prop}{H0:Hp}{env:DEnv}{σ:St}{H:Hp}(h:EnvOk fx H0 env σ H):Same H0 (Offs (own env σ) H):=λb o e=>by
 rw[Offs.get]
 ·exact h.base b o e
 ·rintro⟨i,d,h1,h2⟩
  obtain⟨a,g1,g2,_⟩:=h.ac i d h1
  rw[h2]at g1
  cases g1
  rw[g2]at e
  cases e
theorem EnvOk.unbase{fx:Addr->Prop}{H0 F:Hp}{env:DEnv}{σ:St}{H:Hp}(h:EnvOk fx F env σ H)(s:Same H0 F):EnvOk fx H0 env σ H:=by
 refine⟨h.len,h.pl,λi d e=>?_,h.inj,s.trans h.base,h.fxs⟩
 obtain⟨a,h1,h2,h3,h4⟩:=h.ac i d e
 exact⟨a,h1,s.free h2,h3,h4⟩
theorem zso.unbase{fx:Addr->Prop}{H0 F:Hp}{d:PyData}{fr:Bool}{v:V}{H:Hp}(h:zso fx F d fr v H)(s:Same H0 F):zso fx H0 d fr v H:=
 ⟨h.1,λe=>let⟨a,h1,h2,h3⟩:=h.2 e;⟨a,h1,s.free h2,h3⟩⟩
theorem EnvOk.seen{fx:Addr->Prop}{env env':DEnv}{σ σ':St}{H H':Hp}(h:EnvOk fx (Offs (own env σ) H) env' σ' H'):Same (Offs (λb=>fx b\/own env σ b) H) (Offs (λb=>fx b\/own env' σ' b) H'):=λb o e=>by
 obtain⟨h1,h2⟩:=Offs.of e
 have hF:Offs (own env σ) H b=some o:=by rw[Offs.get λz=>h1 (.inr z)];exact h2
 rw[Offs.get]
 ·exact h.base b o hF
 ·rintro(z|⟨i,d,g1,g2⟩)
  ·exact h1 (.inl z)
  ·obtain⟨a,k1,k2,_⟩:=h.ac i d g1
   rw[g2]at k1
   cases k1
   rw[k2]at hF
   cases hF
theorem EnvOk.all{fx:Addr->Prop}{H0:Hp}{env:DEnv}{σ:St}{H:Hp}(h:EnvOk fx H0 env σ H):∀b,fx b\/own env σ b->∃o,H b=some o:=λb z=>h.lims [] b (zakx b z)
noncomputable def Yl(A0:Addr->Prop)(H1:Hp)(J:It)(ds:List PyData):Prop:=∀(A:Addr->Prop)(H':Hp),(∀b,A b->∃o,H' b=some o)->Same (Offs A0 H1) (Offs A H')->
 (∀i d,ds[i]?=some d->J.go i H'/\∀x H'',J.yld i H' x H''->Same H' H''/\Rp (Offs A H'') d x)/\J.stop ds.length H'
noncomputable abbrev IF':=DEnv->Option (List PyData×List Nat)
noncomputable def SI(wi:TI)(f:IF'):Prop:=∀(fx:Addr->Prop)(H0:Hp)(env:DEnv)(σ:St)(H:Hp),EnvOk fx H0 env σ H->∀ds bs,f env=some (ds,bs)->∀R:It->Hp->Prop,
 (∀J H1,Same H H1->Yl (λb=>fx b\/own (frzs env bs) σ b) H1 J ds->R J H1)->wi σ H R
noncomputable def iSeq(K:qC)(te:TE):TI:=λσ H R=>te σ H λx H1=>∃a,x=.ref a/\((∃xs,SqL K H1 a xs)/\R (Itl K a) H1\/(∃xs,SqT K H1 a xs)/\R (Itt K a) H1)
theorem zapm{X:Cx}{tg l:Expr}{tl:TE}(hl:PE X l tl):PI X tg l (iSeq X.K tl):=by
 intro pins s σ H R I h
 refine thn (hl pins s σ H _ I h) λv s1 ⟨x,H1,I1,r1,q1⟩=>?_
 obtain⟨a,e,q⟩:=q1
 subst e
 cases r1
 rcases q with⟨⟨xs,hq⟩,q⟩|⟨⟨xs,hq⟩,q⟩
 ·obtain⟨its,rv,p,hz⟩:=I1.list hq
  refine qCJ p.isList ?_
  refine⟨s1.heap.objs.size,[s1.heap.objs.size],_,_,H1,rfl,I1.kept (t':=s1.toks) λb o e=>qL _ e,zzy a _,⟨_,qg _ rfl,rfl,rfl⟩,λb hb=>?_,q⟩
  have e:b=s1.heap.objs.size:=by simpa using hb
  subst e
  exact I1.fpOk (qK _) (I1.hok.fresh (qK _))
 ·obtain⟨its,rv,p,hz⟩:=I1.tuple hq
  refine qBe (show s1.heap.IsTuple a its.toArray from p) ?_
  refine⟨s1.heap.objs.size,[s1.heap.objs.size],_,_,H1,rfl,I1.kept (t':=s1.toks) λb o e=>qL _ e,zym a _,⟨_,qg _ rfl,rfl,rfl⟩,λb hb=>?_,q⟩
  have e:b=s1.heap.objs.size:=by simpa using hb
  subst e
  exact I1.fpOk (qK _) (I1.hok.fresh (qK _))
theorem zale{X:Cx}{K:qC}(hK:X.K=K){tg l:Expr}{tl:TE}(hl:PE X l tl):PI X tg l (iSeq K tl):=by subst hK;exact zapm hl
noncomputable def zax(f:EF):IF':=λenv=>(f env).bind λr=>(zhf r.d).map λds=>(ds,r.bs)
theorem zalf{K:qC}{A0:Addr->Prop}{H1:Hp}{a:Addr}{ds:List PyData}{xs:List V}(h:Offs A0 H1 a=some (.lst xs))(r:Rps (Offs A0 H1) ds xs):Yl A0 H1 (Itl K a) ds:=by
 intro A H' hA s
 have ha:=zbw (s _ _ h)
 have r':=Rps.same s _ r
 refine⟨λi d e=>?_,⟨xs,SqL.of ha,by rw[r.length];exact qK _⟩⟩
 obtain⟨v,hv,rv⟩:=r'.get2 e
 refine⟨⟨xs,v,SqL.of ha,hv⟩,λx H'' y=>?_⟩
 obtain⟨rfl,y⟩:=y
 have:=y xs (SqL.of ha)
 rw[hv]at this
 cases this
 exact⟨Same.refl _,rv⟩
theorem zapn{K:qC}{A0:Addr->Prop}{H1:Hp}{a:Addr}{ds:List PyData}{xs:List V}(h:Offs A0 H1 a=some (.tup xs))(r:Rps (Offs A0 H1) ds xs):Yl A0 H1 (Itt K a) ds:=by
 intro A H' hA s
 have ha:=zbw (s _ _ h)
 have r':=Rps.same s _ r
 refine⟨λi d e=>?_,⟨xs,SqT.of ha,by rw[r.length];exact qK _⟩⟩
 obtain⟨v,hv,rv⟩:=r'.get2 e
 refine⟨⟨xs,v,SqT.of ha,hv⟩,λx H'' y=>?_⟩
 obtain⟨rfl,y⟩:=y
 have:=y xs (SqT.of ha)
 rw[hv]at this
 cases this
 exact⟨Same.refl _,rv⟩
theorem zej{K:qC}{te:TE}{f:EF}(h1:SE te f):SI (iSeq K te) (zax f):=by
 intro fx H0 env σ H h ds bs e R q
 unfold zax at e
 obtain⟨⟨d,fr,bs'⟩,er,e⟩:=qA.mp e
 obtain⟨es,he,e⟩:=qH.mp e
 cases e
 refine h1 fx H0 env σ H h _ er _ λv H1 s hv=>?_
 have rp:=Rp.same (Offs.sub (zch (bs:=bs'))) _ hv.rp
 cases d with
 | list ds=>
  cases he
  obtain⟨a,xs,rfl,ha,r⟩:=zdm rp
  exact⟨a,rfl,.inl ⟨⟨xs,SqL.of (zbw ha)⟩,q _ H1 s (zalf ha r)⟩⟩
 | tuple ds=>
  cases he
  obtain⟨a,xs,rfl,ha,r⟩:=zcg rp
  exact⟨a,rfl,.inr ⟨⟨xs,SqT.of (zbw ha)⟩,q _ H1 s (zapn ha r)⟩⟩
 | _=>cases he
noncomputable def zqw(ds:List PyData):List PyData:=ds.zipIdx.map λp=>.tuple [.int p.2,p.1]
noncomputable def zpr(f:AF):IF':=λenv=>(f env).bind λrs=>match rs with
 | [r]=>match r.d with
  | .list ds=>some (zqw ds,r.bs)
  | _=>none
 | _=>none
noncomputable def zdj(lo:Int)(n:Nat):List PyData:=(List.range n).map λ(k:Nat)=>.int (lo+(k:Int))
theorem zwx{A0:Addr->Prop}{H1:Hp}{lo:Int}{n:Nat}:Yl A0 H1 (Itr lo n) (zdj lo n):=by
 intro A H' hA s
 have hl:(zdj lo n).length=n:=by unfold zdj;simp
 refine⟨λi d e=>?_,by rw[hl];exact qK _⟩
 unfold zdj at e
 rw[qV]at e
 by_cases hi:i<n
 ·rw[qCy hi]at e
  cases e
  exact⟨hi,λx H'' ⟨e1,e2⟩=>by subst e1;subst e2;exact⟨Same.refl _,zac⟩⟩
 ·rw[qBr (by simpa using hi)]at e
  cases e
noncomputable def zfg(f:AF):IF':=λenv=>(f env).bind λrs=>match rs with
 | [⟨.int j,_,_⟩]=>if -(2 ^ 62)<=j/\j<2 ^ 62 then some (zdj 0 j.toNat,[])else none
 | _=>none
theorem zjs{ta:TA}{f:AF}(h1:SA ta f):SI (iRng1 ta) (zfg f):=by
 intro fx H0 env σ H h ds bs e R q
 unfold zfg at e
 obtain⟨rs,er,e⟩:=qA.mp e
 split at e
 ·split at e
  ·rename_i hj
   cases e
   refine h1 fx H0 env σ H h _ er _ λvs H1 s hv=>?_
   cases hv with
   | cons hv t=>
    cases t
    cases zbz hv.rp
    exact⟨_,rfl,hj.1,hj.2,q _ H1 s zwx⟩
  ·cases e
 ·cases e
noncomputable def forL(g:GT)(body:SF):List PyData->DEnv->Option Out
 | [],env=>some (.nx env)
 | d::ds,env=>(g d env).bind λe1=>(body e1).bind λo=>match o with
  | .nx e2=>forL g body ds e2
  | .ct e2=>forL g body ds e2
  | .bk e2=>some (.nx e2)
  | .rt d fr=>some (.rt d fr)
noncomputable def sFor(f:IF')(g:GT)(body:SF):SF:=λenv=>(f env).bind λz=>forL g body z.1 (frzs env z.2)
theorem zps{wi:TI}{g:TG}{tb:TS}{f:IF'}{gf:GT}{body:SF}(h1:SI wi f)(h2:SG g gf)(h3:SS tb body):SS (tFor wi g tb) (sFor f gf body):=by
 intro fx H0 env σ H D h o e q
 unfold sFor at e
 obtain⟨⟨ds,bs⟩,er,e⟩:=qA.mp e
 refine h1 fx H0 env σ H h ds bs er _ λJ H1 s yl=>?_
 have hE:=(h.up s).frzs bs
 have fl:=hE.floor
 refine⟨λi m σ' H'=>m=ds.length - i/\i<=ds.length/\∃env',forL gf body (ds.drop i) env'=some o/\EnvOk fx (Offs (own (frzs env bs) σ) H1) env' σ' H',⟨ds.length,rfl,qAL _,_,e,hE.rebase⟩,?_⟩
 rintro i m σ' H' ⟨rfl,hi,env',e',h'⟩
 obtain⟨yi,ys⟩:=yl _ H' h'.all h'.seen
 by_cases hlt:i<ds.length
 ·obtain⟨yg,yy⟩:=yi i ds[i] (qG hlt)
  refine .inr ⟨yg,λσ'' H''=>i+1<=ds.length/\∃env'',forL gf body (ds.drop (i+1)) env''=some o/\EnvOk fx (Offs (own (frzs env bs) σ) H1) env'' σ'' H'',?_,?_⟩
  ·rintro σ'' H'' ⟨hle,env'',e'',h''⟩
   exact⟨ds.length - (i+1),by omega,rfl,hle,env'',e'',h''⟩
  ·intro x H'' hy
   obtain⟨sy,ry⟩:=yy x H'' hy
   rw[qy hlt]at e'
   obtain⟨e1,ee1,e'⟩:=qA.mp e'
   obtain⟨o1,eo1,e'⟩:=qA.mp e'
   refine h2 fx _ env' σ' H'' _ x (h'.up sy) ry e1 ee1 _ λσ2 h2'=>h3 fx _ e1 σ2 H'' _ h2' o1 eo1 ?_
   cases o1 with
   | nx e2=>exact λσ3 H3 hh=>⟨hlt,e2,e',hh⟩
   | ct e2=>exact λσ3 H3 hh=>⟨hlt,e2,e',hh⟩
   | bk e2=>cases e';exact λσ3 H3 hh=>q σ3 H3 (hh.unbase fl)
   | rt d fr=>cases e';exact λv H3 sh rt=>q v H3 (fl.trans sh) (rt.unbase fl)
 ·have hi':i=ds.length:=by omega
  subst hi'
  rw[qAR]at e'
  cases e'
  exact .inl ⟨ys,q σ' H' (h'.unbase fl)⟩
noncomputable def zhg(n:Nat)(ds:List PyData):DEnv:=ds.map .pl++List.replicate (n - ds.length) .no
noncomputable def fnD(n:Nat)(f:SF):GF:=λds=>match f (zhg n ds)with
 | some (.rt d fr)=>some (d,fr)
 | some (.nx _)=>some (.none,false)
 | _=>none
theorem zjt{ds:List PyData}{n i:Nat}{sl:Sl}(e:(zhg n ds)[i]?=some sl):(∃d,ds[i]?=some d/\sl=.pl d)\/sl=.no:=by
 unfold zhg at e
 by_cases hi:i<ds.length
 ·rw[qk (by simpa using hi),qV,qG hi]at e
  cases e
  exact .inl ⟨_,qG hi,rfl⟩
 ·rw[qo (by simpa using hi),qBi]at e
  split at e
  ·cases e;exact .inr rfl
  ·cases e
theorem znk{fx:Addr->Prop}{H:Hp}{N:List Str}{ds:List PyData}{vs:List V}(hf:∀b,fx b->∃o,H b=some o)(r:Rps (Offs fx H) ds vs):EnvOk fx H (zhg N.length ds) (zdw N vs) H:=by
 have no:∀(i:Nat)(d:PyData),(zhg N.length ds)[i]?≠some (Sl.ac d):=λi d e=>by
  rcases zjt e with⟨d',_,z⟩|z<;>cases z
 refine⟨?_,λi d e=>?_,λi d e=>absurd e (no i d),λi j d e a h1=>absurd h1 (no i d),Same.refl _,hf⟩
 ·unfold zhg zdw
  rw[qQ,qQ,qD,qD,qA0,qA0,r.length]
 ·rcases zjt e with⟨d',hd,z⟩|z
  ·cases z
   obtain⟨v,hv,rv⟩:=r.get2 hd
   refine⟨v,?_,Rp.same (Offs.sub λb z=>?_) _ rv⟩
   ·unfold zdw
    have hi:i<vs.length:=(qM.mp hv).1
    rw[qk (by simpa using hi),qV,hv];rfl
   ·rcases z with z|⟨j,d',z,_⟩
    ·exact z
    ·exact absurd z (no j d')
  ·cases z
theorem fn_d{N:List Str}{n:Nat}{f:SF}{t:TS}(hs:SS t f){vs:List V}{H:Hp}{Q:VK}{E:XK}(h:spD n (fnD N.length f) vs H Q E):t {nx:=λ_ H'=>Q .non H',rt:=Q} (zdw N vs) H:=by
 obtain⟨fx,ds,d,fr,hn,hf,r,g,k⟩:=h
 unfold fnD at g
 split at g
 ·rename_i d' fr' eo
  cases g
  exact hs fx H _ _ H _ (znk hf r) _ eo λv H' s rt=>k v H' s rt
 ·rename_i e' eo
  cases g
  exact hs fx H _ _ H _ (znk hf r) _ eo λσ H' hE=>k .non H' hE.base ⟨zyw,λz=>by cases z⟩
 ·cases g
theorem zfh{n:Nat}{g:GF}{vs:List V}{H:Hp}{Q:VK}{E:XK}(h:spD n g vs H Q E):vs.length=n:=by
 obtain⟨fx,ds,d,fr,hn,hf,r,_⟩:=h
 rw[<- r.length];exact hn
end L2
namespace PySem
open Sem (wp)
open Builtin Builtin.ObjectAttr
end PySem
namespace L2
open PySem PySem.Spec PyProof.Rows
noncomputable def zalg:Sl->Sl
 | .ac d=>.pl d
 | s=>s
noncomputable def envB(own:List Str)(fr:List Nat)(env:DEnv):DEnv:=own.map (λ_=>Sl.no)++fr.map (λj=>zalg (env.getD j .no))
noncomputable def isAc:Option Sl->Bool
 | some (.ac _)=>true
 | _=>false
noncomputable def capA(fr:List Nat)(env:DEnv):List Nat:=fr.filter λj=>isAc env[j]?
theorem zmq{own:List Str}{fr:List Nat}{env:DEnv}{i:Nat}{d:PyData}(e:(envB own fr env)[i]?=some (.pl d)):∃j k,i=own.length+k/\fr[k]?=some j/\(env[j]?=some (.pl d)\/env[j]?=some (.ac d)):=by
 unfold envB at e
 by_cases hi:i<own.length
 ·rw[qk (by simpa using hi),qV,qG hi]at e
  cases e
 ·rw[qo (by simpa using hi),qD,qV]at e
  cases ej:fr[i - own.length]? with
  | none=>rw[ej]at e;cases e
  | some j=>
   rw[ej]at e
   refine⟨j,i - own.length,by omega,ej,?_⟩
   have e:zalg (env.getD j .no)=.pl d:=qR e
   rw[qZ]at e
   cases ev:env[j]? with
   | none=>rw[ev]at e;cases e
   | some s=>
    rw[ev]at e
    cases s with
    | no=>cases e
    | pl d'=>cases e;exact .inl rfl
    | ac d'=>cases e;exact .inr rfl
theorem zen{own:List Str}{fr:List Nat}{env:DEnv}{i:Nat}{d:PyData}:(envB own fr env)[i]?≠some (.ac d):=by
 intro e
 unfold envB at e
 by_cases hi:i<own.length
 ·rw[qk (by simpa using hi),qV,qG hi]at e
  cases e
 ·rw[qo (by simpa using hi),qD,qV]at e
  cases ej:fr[i - own.length]? with
  | none=>rw[ej]at e;cases e
  | some j=>
   rw[ej]at e
   have e:zalg (env.getD j .no)=.ac d:=qR e
   cases ev:env.getD j .no with
   | no=>rw[ev]at e;cases e
   | pl d'=>rw[ev]at e;cases e
   | ac d'=>rw[ev]at e;cases e
theorem zux{own:List Str}{fr:List Nat}{σ:St}{k j:Nat}{v:V}(hk:fr[k]?=some j)(hv:σ[j]?=some (some v)):(tau own fr σ)[own.length+k]?=some (some v):=by
 unfold tau
 rw[qo (by simp),qD,Nat.add_sub_cancel_left,qV,hk]
 show some (σ.getD j none)=_
 rw[qZ,hv];rfl
theorem znl{fx:Addr->Prop}{H0:Hp}{env:DEnv}{σ:St}{H H1:Hp}{p:Addr}(h:EnvOk fx H0 env σ H)(s:Same H H1)(hp:H1 p=none)(own:List Str)(fr:List Nat)(bs:List Nat) :
  EnvOk (λb=>lim fx env σ (bs++capA fr env) b\/b=p) H1 (envB own fr env) (tau own fr σ) (upd H1 p (.lst [])):=by
 have h1:=h.up s
 have sp:Same H1 (upd H1 p (.lst [])):=Same.new hp
 have so:Same (Offs (λb=>fx b\/L2.own env σ b) H1) (Offs (λb=>(lim fx env σ (bs++capA fr env) b\/b=p)\/L2.own (envB own fr env) (tau own fr σ) b) (upd H1 p (.lst []))):=Offs.mono sp λb o e n z=>by
  rcases z with(z|z)|⟨i,d,z,_⟩
  ·exact n (zhp b z)
  ·rw[z,hp]at e;cases e
  ·exact absurd z zen
 refine⟨?_,λi d e=>?_,λi d e=>absurd e zen,λi j d e a z=>absurd z zen,sp,λb z=>?_⟩
 ·unfold envB tau;simp
 ·obtain⟨j,k,rfl,hk,hj⟩:=zmq e
  rcases hj with hj|hj
  ·obtain⟨v,h2,h3⟩:=h1.pl j d hj
   exact⟨v,zux hk h2,Rp.same so _ h3⟩
  ·obtain⟨a,h2,h3,h4,h5⟩:=h1.ac j d hj
   refine⟨_,zux hk h2,h5.rp so λo eo=>?_⟩
   rw[Offs.get]
   ·exact sp _ _ eo
   ·rintro((z|⟨i',d',z1,z2,z3⟩)|⟨i',d',z,_⟩)
    ·rcases z with z|⟨i',d',z1,z2,z3⟩
     ·exact h4 z
     ·have e2:=h1.inj i' j d' d a z2 hj z3 h2
      subst e2
      refine z1 (qY _ (qAl.mpr ⟨qAH hk,?_⟩))
      rw[hj];rfl
    ·rw[hp]at eo;cases eo
    ·exact absurd z zen
 ·rcases z with z|z
  ·obtain⟨o,e⟩:=h1.lims _ b z;exact⟨o,sp b o e⟩
  ·rw[z];exact⟨_,zao⟩
theorem EnvOk.weaken{fx:Addr->Prop}{H0:Hp}{env e1:DEnv}{σ:St}{H:Hp}(h:EnvOk fx H0 e1 σ H)(hl:env.length=e1.length)(hp:∀(i:Nat) (d:PyData),env[i]?=some (.pl d)->e1[i]?=some (.pl d))(ha:∀(i:Nat) (d:PyData),env[i]?≠some (.ac d)):EnvOk fx H0 env σ H:=by
 refine⟨hl.trans h.len,λi d e=>?_,λi d e=>absurd e (ha i d),λi j d e a z=>absurd z (ha i d),h.base,h.fxs⟩
 obtain⟨v,h1,h2⟩:=h.pl i d (hp i d e)
 exact⟨v,h1,Rp.same (Offs.sub λb z=>z.imp (λy=>y) λ⟨j,d',z,_⟩=>absurd z (ha j d')) _ h2⟩
theorem EnvOk.updFx{fx:Addr->Prop}{H0:Hp}{env:DEnv}{σ:St}{H:Hp}{p:Addr}{o:HO}(h:EnvOk fx H0 env σ H)(hp:fx p)(h0:H0 p=none):EnvOk fx H0 env σ (upd H p o):=by
 have so:Offs (λb=>fx b\/own env σ b) (upd H p o)=Offs (λb=>fx b\/own env σ b) H:=Offs.upd (.inl hp)
 refine⟨h.len,λi d e=>?_,λi d e=>?_,h.inj,λb u e=>by rw[zas (zbh e h0)];exact h.base b u e,λb z=>?_⟩
 ·rw[so];exact h.pl i d e
 ·obtain⟨a,h1,h2,h3,h4⟩:=h.ac i d e
  rw[so]
  exact⟨a,h1,h2,h3,h4.same (Same.refl _) λu z=>by rw[zas λy=>h3 (by rw[y];exact hp)];exact z⟩
 ·by_cases e:b=p
  ·rw[e];exact⟨_,zao⟩
  ·obtain⟨u,hu⟩:=h.fxs b z
   exact⟨u,by rw[zas e];exact hu⟩
noncomputable def GX(n:Nat)(g:GT):Prop:=∀d env e1,g d env=some e1->e1.length=env.length/\∀i,n<=i->e1[i]?=env[i]?
noncomputable def GXs(n:Nat)(g:GTs):Prop:=∀ds env e1,g ds env=some e1->e1.length=env.length/\∀i,n<=i->e1[i]?=env[i]?
theorem zqx{n i:Nat}(h:i<n):GX n (gN i):=by
 intro d env e1 e
 cases e
 exact⟨qf,λj hj=>qN (by omega)⟩
theorem zabz{n:Nat}:GXs n zgd:=by
 intro ds env e1 e
 cases ds with
 | nil=>cases e;exact⟨rfl,λ_ _=>rfl⟩
 | cons _ _=>cases e
theorem zmr{n i:Nat}{g:GTs}(h:i<n)(hg:GXs n g):GXs n (zbg i g):=by
 intro ds env e1 e
 cases ds with
 | nil=>cases e
 | cons d ds=>
  obtain⟨h1,h2⟩:=hg ds _ e1 e
  rw[qf]at h1
  exact⟨h1,λj hj=>(h2 j hj).trans (qN (by omega))⟩
theorem zail{n m:Nat}{g:GTs}(hg:GXs n g):GX n (gT m g):=by
 intro d env e1 e
 unfold gT at e
 cases d with
 | tuple ds=>
  have e:(if ds.length=m then g ds env else none)=some e1:=e
  split at e
  ·exact hg ds env e1 e
  ·cases e
 | _=>cases e
noncomputable def zcv(g:GT)(t:TF)(e:EF)(env:DEnv):List PyData->Option (List PyData)
 | []=>some []
 | d::ds=>(g d env).bind λe1=>(t e1).bind λb=>if b=true then(e e1).bind λr=>(zcv g t e env ds).map λrs=>r.d::rs else zcv g t e env ds
noncomputable def zdy(own:List Str)(fr:List Nat)(fi:IF')(g:GT)(t:TF)(e:EF):EF:=λenv=>(fi env).bind λz=>if z.1.length<100000 then
 (zcv g t e (envB own fr env) z.1).map λrs=>⟨.list rs,true,if zcd rs=true then[]else z.2++capA fr env⟩else none
theorem zfi{H H':Hp}{ds:List PyData}{vs:List V}(f:zcd ds=true)(h:Rps H ds vs):Rps H' ds vs:=by
 replace h:=zbr.mp h
 induction h with
 | nil=>exact zct
 | cons h _ ih=>
  unfold zcd at f
  rw[qBN,q9]at f
  exact zcp (zabl f.1 h) (ih f.2)
theorem zlb{own:List Str}{fr:List Nat}{wi:TI}{g:TG}{tt:TT}{te:TE}{fi:IF'}{gf:GT}{t:TF}{e:EF}(h1:SI wi fi)(h2:SG g gf)(hx:GX own.length gf)(h3:ST tt t)(h4:SE te e) :
  SE (tComp1 wi g tt te own fr) (zdy own fr fi gf t e):=by
 intro fx H0 env σ H h rr hr Q q
 unfold zdy at hr
 obtain⟨⟨ds,bs⟩,ei,hr⟩:=qA.mp hr
 split at hr
 ·rename_i hlen
  have hlen:ds.length<100000:=hlen
  obtain⟨rs,ers,rfl⟩:=qH.mp hr
  refine h1 fx H0 env σ H h ds bs ei _ λJ H1 s yl=>λp hp=>?_
  have hB:=znl h s hp own fr bs
  generalize hA:(λb=>lim fx env σ (bs++capA fr env) b)=A
  have hA':∀b,lim fx env σ (bs++capA fr env) b↔A b:=λb=>by rw[<- hA]
  have eA:(λb=>lim fx env σ (bs++capA fr env) b\/b=p)=λb=>A b\/b=p:=by rw[<- hA]
  rw[eA]at hB
  have nA:¬A p:=λz=>by
   obtain⟨o,eo⟩:=(h.up s).lims _ p ((hA' p).mpr z)
   rw[hp]at eo;cases eo
  have seen:∀{σ':St}{H':Hp},EnvOk (λb=>A b\/b=p) H1 (envB own fr env) σ' H'->Same (Offs (λb=>fx b\/L2.own (frzs env bs) σ b) H1) (Offs (λb=>A b\/b=p) H'):=λ{σ' H'} hE=>Offs.mono hE.base λb o eo n z=>by
   rcases z with z|z
   ·rcases(hA' b).mpr z with z|⟨i,d,z1,z2,z3⟩
    ·exact n (.inl z)
    ·exact n (.inr ⟨i,d,zet (λy=>z1 (qi _ y)) z2,z3⟩)
   ·rw[z,hp]at eo;cases eo
  refine⟨λi m σ' H'=>m=ds.length - i/\i<=ds.length/\∃vs done rest,H' p=some (.lst vs)/\Rps (Offs (λb=>A b\/b=p) H') done vs/\done.length<=i/\zcv gf t e (envB own fr env) (ds.drop i)=some rest/\done++rest=rs/\EnvOk (λb=>A b\/b=p) H1 (envB own fr env) σ' H',
   ⟨ds.length,rfl,qAL _,[],[],rs,zao,zct,qAL _,ers,rfl,hB⟩,?_⟩
  rintro i m σ' H' ⟨rfl,hi,vs,done,rest,ep,rd,dl,ec,edr,hE⟩
  obtain⟨yi,ys⟩:=yl _ H' hE.fxs (seen hE)
  by_cases hlt:i<ds.length
  ·obtain⟨yg,yy⟩:=yi i ds[i] (qG hlt)
   refine .inr ⟨yg,λσ'' H''=>i+1<=ds.length/\∃vs done rest,H'' p=some (.lst vs)/\Rps (Offs (λb=>A b\/b=p) H'') done vs/\done.length<=i+1/\zcv gf t e (envB own fr env) (ds.drop (i+1))=some rest/\done++rest=rs/\EnvOk (λb=>A b\/b=p) H1 (envB own fr env) σ'' H'',?_,?_⟩
   ·rintro σ'' H'' ⟨hle,hh⟩
    exact⟨ds.length - (i+1),by omega,rfl,hle,hh⟩
   ·intro x H'' hy
    obtain⟨sy,ry⟩:=yy x H'' hy
    rw[qy hlt]at ec
    obtain⟨e1,ee1,ec⟩:=qA.mp ec
    obtain⟨b,eb,ec⟩:=qA.mp ec
    have ry':Rp (Offs (λa=>(A a\/a=p)\/L2.own (envB own fr env) σ' a) H'') ds[i] x:=Rp.same (Offs.sub λb z=>z.elim (λy=>y) λ⟨j,d',z,_⟩=>absurd z zen) _ ry
    refine h2 _ H1 (envB own fr env) σ' H'' _ x (hE.up sy) ry' e1 ee1 _ λσ2 hE2=>?_
    refine h3 _ H1 e1 σ2 H'' hE2 b eb _ λH3 s3=>?_
    have hE3:=hE2.up s3
    obtain⟨gl,gk⟩:=hx _ _ _ ee1
    have back:∀{H4:Hp},EnvOk (λb=>A b\/b=p) H1 e1 σ2 H4->EnvOk (λb=>A b\/b=p) H1 (envB own fr env) σ2 H4:=λ{H4} hh=>hh.weaken gl.symm (λj d' ej=>by
     by_cases hj:own.length<=j
     ·rw[gk j hj];exact ej
     ·obtain⟨_,k,rfl,_⟩:=zmq ej;omega) λj d'=>zen
    cases b with
    | false=>
     have ec:zcv gf t e (envB own fr env) (ds.drop (i+1))=some rest:=ec
     exact iteF ⟨hlt,vs,done,rest,s3 _ _ (sy _ _ ep),Rps.same (Offs.grow (sy.trans s3)) _ rd,qB5 dl,ec,edr,back hE3⟩
    | true=>
     have ec:((e e1).bind λr=>(zcv gf t e (envB own fr env) (ds.drop (i+1))).map λrs=>r.d::rs)=some rest:=ec
     obtain⟨r,er,ec⟩:=qA.mp ec
     obtain⟨rest',er',rfl⟩:=qH.mp ec
     refine iteT (h4 _ H1 e1 σ2 H3 hE3 r er _ λv H4 s4 hv=>?_)
     have t4:=(sy.trans s3).trans s4
     refine⟨vs,t4 _ _ ep,zhq (by rw[<- rd.length];omega),hlt,vs++[v],done++[r.d],rest',zao,?_,by rw[qQ];simp;omega,er',by rw[<- edr];simp,(back (hE3.up s4)).updFx (.inr rfl) hp⟩
     rw[Offs.upd (.inr rfl)]
     exact(Rps.same (Offs.grow t4) _ rd).append (zcp (Rp.same (Offs.sub λb z=>.inl z) _ hv.rp) zct)
  ·have hi':i=ds.length:=by omega
   subst hi'
   rw[qAR]at ec
   cases ec
   rw[qu]at edr
   subst edr
   refine .inl ⟨ys,q _ H' (s.trans hE.base) ⟨?_,λ_=>⟨p,rfl,s.free hp,?_⟩⟩⟩
   ·show Rp (Offs (lim fx env σ (if zcd done=true then[]else bs++capA fr env)) H') (.list done) (.ref p)
    have nl:∀cs,¬lim fx env σ cs p:=λcs z=>by
     obtain⟨o,eo⟩:=(h.up s).lims _ p z
     rw[hp]at eo;cases eo
    refine zgj (by rw[Offs.get (nl _)];exact ep) ?_
    split
    ·rename_i f;exact zfi f rd
    ·exact Rps.same (Offs.sub λb z=>.inl ((hA' b).mp z)) _ rd
   ·show zci (Offs (λb=>lim fx env σ (if zcd done=true then[]else bs++capA fr env) b\/b=p) H') H' p (.list done)
    refine⟨vs,ep,?_⟩
    split
    ·rename_i f;exact zfi f rd
    ·exact Rps.same (Offs.sub λb z=>z.imp (hA' b).mp id) _ rd
 ·cases hr
section
variable{X:Cx}{K:qC}
theorem zaca(hK:X.K=K){a:Expr}{ta:TE}(ha:PE X a ta)(he:∀whole,isTrue a X.env whole=(do let v <- whole;standAt a.pos;holding [v] (truthy v))) :
  PT X a (λσ H Q=>ta σ H λx H'=>∃k,TruV K x H' k/\Q k H'):=by subst hK;exact zaev ha he
theorem zuy(hK:X.K=K):CallR X (.type "tuple") (λxs H Q=>∃p ys,xs=[.ref p]/\((SqL K H p ys/\∀l,H l=none->Q (.ref l) (upd H l (.tup ys)))\/(SqT K H p ys/\Q (.ref p) H))):=by subst hK;exact zqq
theorem zaim(hK:X.K=K)(hu:X.A.units+64<cLine):OpR X (compareOp .Eq) (λx y H Q=>rEq x y H Q\/rEqD K false x y H Q):=by subst hK;exact zare.or (zaoz hu)
theorem zsp(hK:X.K=K)(hu:X.A.units+64<cLine):OpR X (compareOp .NotEq) (λx y H Q=>rNe x y H Q\/rEqD K true x y H Q):=by subst hK;exact zarf.or (zapa hu)
noncomputable def zdv:TF:=λ_=>some true
theorem zju:ST tAll zdv:=by
 intro fx H0 env σ H hE b hb Q q
 cases hb
 exact q H (Same.refl _)
end
end L2
namespace PySem
open Sem (wp)
end PySem
namespace L2
open PySem PySem.Spec PyProof.Rows
noncomputable def zcs(i:Nat)(b:EF):EF:=λenv=>match env[i]? with
 | some (.pl (.dict kvs))=>(b env).bind λy=>(keyD y.d).bind λk=>(zjr kvs k).bind λd=>some ⟨d,false,[]⟩
 | some (.ac (.dict kvs))=>(b env).bind λy=>(keyD y.d).bind λk=>(zjr kvs k).bind λd=>some ⟨d,false,[]⟩
 | _=>none
theorem zie{i:Nat}{ty:TE}{fb:EF}(hb:SE ty fb):SE (tDGet (tVar i) ty) (zcs i fb):=by
 intro fx H0 env σ H h rr hr Q q
 unfold zcs at hr
 have key:∀(a:Addr)(ps:List (Key×V))(kvs:List (PyData×PyData)),σ[i]?=some (some (.ref a))->H a=some (.dK ps)->Rpd (Offs (λb=>fx b\/own env σ b) H) kvs ps->((fb env).bind λy=>(keyD y.d).bind λk=>(zjr kvs k).bind λd=>some (⟨d,false,[]⟩:Val))=some rr->tDGet (tVar i) ty σ H Q:=by
  intro a ps kvs hs ha r hr
  obtain⟨y,ey,hr⟩:=qA.mp hr
  obtain⟨k,ek,hr⟩:=qA.mp hr
  obtain⟨d,ed,hr⟩:=qA.mp hr
  cases hr
  refine⟨_,hs,hb fx H0 env σ H h _ ey _ λu H2 s2 v2=>?_⟩
  have g:=(Rpd.same (Offs.grow s2) _ r).get (j:=k)
  rw[ed]at g
  obtain⟨w,e1,e2⟩:=g
  rw[zabr v2.rp ek]
  have dg:=DGet.k (k:=k) (s2 _ _ ha)
  rw[e1]at dg
  exact⟨a,w,rfl,dg,q w H2 s2 ⟨Rp.same (Offs.sub zhp) _ e2,λz=>by cases z⟩⟩
 split at hr
 ·rename_i kvs ei
  obtain⟨v,h1,h2⟩:=h.pl i _ ei
  obtain⟨a,ps,rfl,ha,r⟩:=zhn h2
  exact key a ps kvs h1 (zbw ha) r hr
 ·rename_i kvs ei
  obtain⟨a,h1,h2,h3,ps,ha,r⟩:=h.ac i _ ei
  exact key a ps kvs h1 ha r hr
 ·cases hr
noncomputable def eIxV(i:Nat)(b:EF):EF:=λenv=>match env[i]? with
 | some (.ac (.list ds))=>(b env).bind λy=>match y.d with
  | .int k=>(atI ds k).map λd=>⟨d,false,[]⟩
  | _=>none
 | _=>eOp ixD (eVar i) b env
theorem znm{K:qC}{i:Nat}{tb:TE}{fb:EF}(hb:SE tb fb):SE (tOp (rIxU K) (tVar i) tb) (eIxV i fb):=by
 intro fx H0 env σ H h rr hr Q q
 unfold eIxV at hr
 split at hr
 ·rename_i ds ei
  obtain⟨⟨dy,fy,bys⟩,ey,hr⟩:=qA.mp hr
  cases dy with
  | int k=>
   obtain⟨d,ed,rfl⟩:=qH.mp hr
   obtain⟨a,h1,h2,h3,xs,ha,r⟩:=h.ac i _ ei
   refine⟨_,h1,hb fx H0 env σ H h _ ey _ λu H2 s2 v2=>?_⟩
   cases zbz v2.rp
   obtain⟨v,hv,rv⟩:=(Rps.same (Offs.grow s2) _ r).atI ed
   exact⟨xs,v,.inl (SqL.of (s2 _ _ ha)),hv,q _ H2 s2 ⟨Rp.same (Offs.sub zhp) _ rv,λz=>by cases z⟩⟩
  | _=>cases hr
 ·exact zbd zov (zab i) hb fx H0 env σ H h rr hr Q q
noncomputable def zwy(wi:TI)(g:TG)(tt:TT)(tm:TM):TM:=λσ H Q=>wi σ H λJ H1=>zabd J g tt tm σ H1 Q
section
variable{X:Cx}
theorem zuz{M:Model}{P:Program}{w:World}{A:Around}{R:Result->Shared->Prop}{s:Shared}{elt:Expr}{g0:Comprehension}{target iter:Expr}{ifs:List Expr}{rest:List Comprehension}{scope:Scope}{cpos:Pos}{it acc:Value}{env:Env}
  (l:codeAny (model P w) A (.compLoop (.ListComp elt (g0::⟨target,iter,ifs,0⟩::rest) scope cpos) 1 it acc env) R s)
  (t:∀(A:Around) (E:Value->Shared->Prop),wpAny (model P w) A (pyIter it) (λu s'=>u=it/\s'=s) E s) :
  codeAny (model P w) A (.compStart (.ListComp elt (g0::⟨target,iter,ifs,0⟩::rest) scope cpos) 1 it acc env) R s:=by
 refine codeAny_of_tree ?_
 show wpAny _ _ ((compStart (.ListComp elt (g0::⟨target,iter,ifs,0⟩::rest) scope cpos) 1 it acc env).onRaise (λx=>do noteFrame x env;standAt theWindowsPlace)) _ _ s
 refine wpAny_notedAt ?_
 unfold compStart
 show wpAny _ _ (ask >>=_) _ _ s
 refine qB (wpAny_askSetting (wpAny_ite ?_))
 split
 ·first
   | exact qB (qE (qE (And.intro rfl l)))
   | exact qE (And.intro rfl l)
 ·refine qB (qBX ?_)
  first
   | exact qB (qBS (qB (thn (t _ _) λu s' z=>by obtain⟨e1,e2⟩:=z;subst e1;subst e2;exact qE (And.intro rfl l))))
   | (show wpAny _ _ (standAt iter.pos >>=_) _ _ s;exact qB (qBS (qB (thn (t _ _) λu s' z=>by obtain⟨e1,e2⟩:=z;subst e1;subst e2;exact qE (And.intro rfl l)))))
theorem zwz{elt0:Expr}{g0:Comprehension}{scope:Scope}{cpos:Pos}{target iter:Expr}{ifs:List Expr}{wi:TI}{g:TG}{tt:TT}{te:TE}{p:Addr}
  (hx:X.xe=λ_ _=>False)(hc:X.calm=true)(hi:PI X target iter wi)(hg:PG X target g)(ht:PF X ifs tt)(he:PE X elt0 te)
  (hs:∀x,foldedSetIterable iter X.env x=pure x) :
  PM X (do
   let x <- eval iter X.env
   standAt iter.pos
   let x <- foldedSetIterable iter X.env x
   let _ <- runOwn (.compStart (.ListComp elt0 [g0,⟨target,iter,ifs,0⟩] scope cpos) 1 (<- holding [x] (pyIter x)) (.ref p) X.env) X.env) (zwy wi g tt (zun p te)):=by
 intro pins s σ H Q I h
 refine qB (thn (hi pins s σ H _ I h) λv s1 h1=>?_)
 refine qB (qBS ?_)
 rw[hs]
 refine qB (qE (qB (qAU (thn h1 λitv s2 h2=>?_))))
 obtain⟨it,fp,tn,J,H2,e,I2,T,st2,f2,q⟩:=h2
 subst e
 refine qB (thn (wpAny_runOwn (h:=none) (Q:=λ_ s'=>∃σ' H',Inv X pins σ' H' s'/\Q σ' H') ?_) λ_ _ z=>qE z)
 refine zuz (M:=model X.prog X.w) ?_ λA E=>T.self A 0 s2 _ E st2 ⟨rfl,rfl⟩
 refine qBy (znd (X:=X) (pins:=pins) hx hc (elt0:=elt0) (gens:=[g0,⟨target,iter,ifs,0⟩]) (depth:=1) (ip:=iter.pos) (emit:=(do let _ <- call (.builtin "list.append") [.ref p,<- eval elt0 X.env])) rfl T hg ht (zuo he) I2 st2 f2 q) λr s5 hr=>?_
 obtain⟨rfl,z⟩:=hr
 exact z
theorem zapo(elt target iter target2 iter2:Expr)(ifs ifs2:List Expr)(scope:Scope)(cpos:Pos)(it acc:Value)(env:Env) :
  compTurn (.ListComp elt [⟨target,iter,ifs,0⟩,⟨target2,iter2,ifs2,0⟩] scope cpos) 0 it acc env=(do
   standAt iter.pos
   match <- pyNext it with
   | none=>pure (.done .next)
   | some v=>
    letOwnedTupleGo target it v
    assign target env v
    let mut ok:=true
    for c in ifs do
     if ok then ok <- isTrue c env (eval c env)
    if ok then do
     let x <- eval iter2 env
     standAt iter2.pos
     let x <- foldedSetIterable iter2 env x
     let i <- holding [x] (pyIter x)
     let _ <- runOwn (.compStart (.ListComp elt [⟨target,iter,ifs,0⟩,⟨target2,iter2,ifs2,0⟩] scope cpos) 1 i acc env) env
     again (.compLoop (.ListComp elt [⟨target,iter,ifs,0⟩,⟨target2,iter2,ifs2,0⟩] scope cpos) 0 it acc env)
    else again (.compLoop (.ListComp elt [⟨target,iter,ifs,0⟩,⟨target2,iter2,ifs2,0⟩] scope cpos) 0 it acc env)):=rfl
noncomputable def tComp2(wi:TI)(g:TG)(tt:TT)(wi2:TI)(g2:TG)(tt2:TT)(te:TE)(own:List Str)(fr:List Nat):TE:=zafs wi g tt (λp=>zwy wi2 g2 tt2 (zun p te)) own fr
theorem zagh{scope:Scope}{N' own:List Str}{fr:List Nat}{elt target iter target2 iter2:Expr}{ifs ifs2:List Expr}{cpos:Pos}{wi wi2:TI}{g g2:TG}{tt tt2:TT}{te:TE}(c:CompOk X scope N' own fr)(hc:X.calm=true)(hi:PI X target iter wi)
  (hb:∀(cl:List (Str×Addr)) (C:Addr) (s:Shared) (H:Hp) (fp:List Addr),PG (cxComp X scope N' own cl C s H fp) target g/\PF (cxComp X scope N' own cl C s H fp) ifs tt/\PI (cxComp X scope N' own cl C s H fp) target2 iter2 wi2/\PG (cxComp X scope N' own cl C s H fp) target2 g2/\PF (cxComp X scope N' own cl C s H fp) ifs2 tt2/\PE (cxComp X scope N' own cl C s H fp) elt te)
  (hs:∀x,foldedSetIterable iter X.env x=pure x:=by intro _;rfl)(hs2:∀env x,foldedSetIterable iter2 env x=pure x:=by intro _ _;rfl) :
  PE X (.ListComp elt [⟨target,iter,ifs,0⟩,⟨target2,iter2,ifs2,0⟩] scope cpos) (tComp2 wi g tt wi2 g2 tt2 te own fr):=
 zwr (emit:=λacc env=>do
   let x <- eval iter2 env
   standAt iter2.pos
   let x <- foldedSetIterable iter2 env x
   let _ <- runOwn (.compStart (.ListComp elt [⟨target,iter,ifs,0⟩,⟨target2,iter2,ifs2,0⟩] scope cpos) 1 (<- holding [x] (pyIter x)) acc env) env) c hc (λit acc env=>by
   rw[zapo]
   refine bind_congr λ_=>bind_congr λr=>?_
   cases r with
   | none=>rfl
   | some v=>
    refine bind_congr λ_=>bind_congr λ_=>bind_congr λok=>?_
    cases ok with
    | false=>rfl
    | true=>simp only[if_true,bind_assoc,pure_bind]) hi
  (λcl C s H fp p=>let⟨h1,h2,h3,h4,h5,h6⟩:=hb cl C s H fp;⟨h1,h2,zwz (X:=cxComp X scope N' own cl C s H fp) rfl hc h3 h4 h5 h6 (λx=>hs2 _ x)⟩) hs
end
noncomputable def NoAc(env:DEnv):Prop:=∀(i:Nat)(d:PyData),env[i]?≠some (.ac d)
noncomputable def GZ(lo hi:Nat)(g:GT):Prop:=∀d env e1,g d env=some e1->e1.length=env.length/\(∀i,(i<lo\/hi<=i)->e1[i]?=env[i]?)/\(NoAc env->NoAc e1)
noncomputable def GZs(lo hi:Nat)(g:GTs):Prop:=∀ds env e1,g ds env=some e1->e1.length=env.length/\(∀i,(i<lo\/hi<=i)->e1[i]?=env[i]?)/\(NoAc env->NoAc e1)
theorem zxa{env:DEnv}{i:Nat}{d:PyData}(h:NoAc env):NoAc (env.set i (.pl d)):=by
 intro j d' e
 by_cases q:i=j
 ·subst q
  by_cases l:i<env.length
  ·rw[qe l]at e;cases e
  ·rw[qBr (by simp;omega)]at e;cases e
 ·rw[qN q]at e;exact h j d' e
theorem zacb{lo hi i:Nat}(h:lo<=i)(h':i<hi):GZ lo hi (gN i):=by
 intro d env e1 e
 cases e
 exact⟨qf,λj hj=>qN (by omega),zxa⟩
theorem zacc{lo hi:Nat}:GZs lo hi zgd:=by
 intro ds env e1 e
 cases ds with
 | nil=>cases e;exact⟨rfl,λ_ _=>rfl,id⟩
 | cons _ _=>cases e
theorem zms{lo hi i:Nat}{g:GTs}(h:lo<=i)(h':i<hi)(hg:GZs lo hi g):GZs lo hi (zbg i g):=by
 intro ds env e1 e
 cases ds with
 | nil=>cases e
 | cons d ds=>
  obtain⟨h1,h2,h3⟩:=hg ds _ e1 e
  rw[qf]at h1
  exact⟨h1,λj hj=>(h2 j hj).trans (qN (by omega)),λz=>h3 (zxa z)⟩
theorem zain{lo hi m:Nat}{g:GTs}(hg:GZs lo hi g):GZ lo hi (gT m g):=by
 intro d env e1 e
 unfold gT at e
 cases d with
 | tuple ds=>
  have e:(if ds.length=m then g ds env else none)=some e1:=e
  split at e
  ·exact hg ds env e1 e
  ·cases e
 | _=>cases e
theorem znn{g:GT}{t:TF}{e:EF}{env:DEnv}:∀{ds rs:List PyData},zcv g t e env ds=some rs->rs.length<=ds.length
 | [],rs,h=>by cases h;exact qK _
 | d::ds,rs,h=>by
  unfold zcv at h
  obtain⟨e1,_,h⟩:=qA.mp h
  obtain⟨b,_,h⟩:=qA.mp h
  split at h
  ·obtain⟨r,_,h⟩:=qA.mp h
   obtain⟨rs',h',rfl⟩:=qH.mp h
   have:=znn h'
   simp;omega
  ·have:=znn h
   simp;omega
noncomputable def innL(f2:IF')(g2:GT)(t2:TF)(e:EF)(e1:DEnv):Option (List PyData):=(f2 e1).bind λz=>if z.1.length<300 then zcv g2 t2 e e1 z.1 else none
noncomputable def zhh(g:GT)(t:TF)(f2:IF')(g2:GT)(t2:TF)(e:EF)(env:DEnv):List PyData->Option (List PyData)
 | []=>some []
 | d::ds=>(g d env).bind λe1=>(t e1).bind λb=>if b=true then(innL f2 g2 t2 e e1).bind λr1=>(zhh g t f2 g2 t2 e env ds).map λrs=>r1++rs else zhh g t f2 g2 t2 e env ds
noncomputable def zmg(own:List Str)(fr:List Nat)(fi:IF')(g:GT)(t:TF)(f2:IF')(g2:GT)(t2:TF)(e:EF):EF:=λenv=>(fi env).bind λz=>if z.1.length<300 then
 (zhh g t f2 g2 t2 e (envB own fr env) z.1).map λrs=>⟨.list rs,true,if zcd rs=true then[]else z.2++capA fr env⟩else none
theorem zagi{wi2:TI}{g2:TG}{tt2:TT}{te:TE}{f2:IF'}{gf2:GT}{t2:TF}{e:EF}{B:Addr->Prop}{H1:Hp}{e1:DEnv}{σ:St}{H:Hp}{p:Addr}{vs:List V}{done rest ds:List PyData}{bs:List Nat}{Q:St->Hp->Prop}{k n:Nat}
  (h5:SI wi2 f2)(h6:SG g2 gf2)(hy:GZ k n gf2)(h7:ST tt2 t2)(h4:SE te e)(na:NoAc e1)(no:∀(i:Nat) (d:PyData),k<=i->i<n->e1[i]?≠some (.pl d))
  (hB:B p)(hp:H1 p=none)(hE:EnvOk B H1 e1 σ H)(ep:H p=some (.lst vs))(rd:Rps (Offs B H) done vs)(ei:f2 e1=some (ds,bs))(dl:done.length+ds.length<100000)(ec:zcv gf2 t2 e e1 ds=some rest)
  (q:∀σ' H' vs',H' p=some (.lst vs')->Rps (Offs B H') (done++rest) vs'->EnvOk B H1 e1 σ' H'->Q σ' H'):zwy wi2 g2 tt2 (zun p te) σ H Q:=by
 refine h5 B H1 e1 σ H hE ds bs ei _ λJ H4 s4 yl=>?_
 have hE4:=hE.up s4
 have n4:Offs (λb=>b=p) H4 p=none:=Offs.out rfl
 refine⟨λi m σ' H'=>m=ds.length - i/\i<=ds.length/\∃vs done' rest',H' p=some (.lst vs)/\Rps (Offs B H') done' vs/\done'.length<=done.length+i/\zcv gf2 t2 e e1 (ds.drop i)=some rest'/\done'++rest'=done++rest/\EnvOk B (Offs (λb=>b=p) H4) e1 σ' H',
  ⟨ds.length,rfl,qAL _,vs,done,rest,s4 _ _ ep,Rps.same (Offs.grow s4) _ rd,qK _,ec,rfl,⟨hE4.len,hE4.pl,λi d z=>absurd z (na i d),hE4.inj,Offs.same _ _,hE4.fxs⟩⟩,?_⟩
 rintro i m σ' H' ⟨rfl,hi,vs,done',rest',ep',rd',dl',ec',edr,hE'⟩
 obtain⟨yi,ys⟩:=yl B H' hE'.fxs λb o z=>by
  obtain⟨z1,z2⟩:=Offs.of z
  have hb:¬B b:=λy=>z1 (.inl y)
  rw[Offs.get hb]
  exact hE'.base b o (by rw[Offs.get λy=>hb (by rw[y];exact hB)];exact z2)
 by_cases hlt:i<ds.length
 ·obtain⟨yg,yy⟩:=yi i ds[i] (qG hlt)
  refine .inr ⟨yg,λσ'' H''=>i+1<=ds.length/\∃vs done' rest',H'' p=some (.lst vs)/\Rps (Offs B H'') done' vs/\done'.length<=done.length+(i+1)/\zcv gf2 t2 e e1 (ds.drop (i+1))=some rest'/\done'++rest'=done++rest/\EnvOk B (Offs (λb=>b=p) H4) e1 σ'' H'',?_,?_⟩
  ·rintro σ'' H'' ⟨hle,hh⟩
   exact⟨ds.length - (i+1),by omega,rfl,hle,hh⟩
  ·intro x H'' hyx
   obtain⟨sy,ry⟩:=yy x H'' hyx
   rw[qy hlt]at ec'
   obtain⟨e2,ee2,ec'⟩:=qA.mp ec'
   obtain⟨b,eb,ec'⟩:=qA.mp ec'
   have ry':Rp (Offs (λa=>B a\/L2.own e1 σ' a) H'') ds[i] x:=Rp.same (Offs.sub λb z=>z.elim (λy=>y) λ⟨j,d',z,_⟩=>absurd z (na _ _)) _ ry
   refine h6 _ _ e1 σ' H'' _ x (hE'.up sy) ry' e2 ee2 _ λσ2 hE2=>?_
   refine h7 _ _ e2 σ2 H'' hE2 b eb _ λH3 s3=>?_
   have hE3:=hE2.up s3
   obtain⟨gl,gk,_⟩:=hy _ _ _ ee2
   have back:∀{H4':Hp},EnvOk B (Offs (λb=>b=p) H4) e2 σ2 H4'->EnvOk B (Offs (λb=>b=p) H4) e1 σ2 H4':=λ{H4'} hh=>hh.weaken gl.symm (λj d' ej=>by
    by_cases hj:j<k\/n<=j
    ·rw[gk j hj];exact ej
    ·exact absurd ej (no j d' (by omega) (by omega))) na
   cases b with
   | false=>
    have ec':zcv gf2 t2 e e1 (ds.drop (i+1))=some rest':=ec'
    exact iteF ⟨hlt,vs,done',rest',s3 _ _ (sy _ _ ep'),Rps.same (Offs.grow (sy.trans s3)) _ rd',qB5 dl',ec',edr,back hE3⟩
   | true=>
    have ec':((e e2).bind λr=>(zcv gf2 t2 e e1 (ds.drop (i+1))).map λrs=>r.d::rs)=some rest':=ec'
    obtain⟨r,er,ec'⟩:=qA.mp ec'
    obtain⟨rest2,er',rfl⟩:=qH.mp ec'
    refine iteT (h4 _ _ e2 σ2 H3 hE3 r er _ λv H5 s5 hv=>?_)
    have t5:=(sy.trans s3).trans s5
    refine⟨vs,t5 _ _ ep',zhq (by rw[<- rd'.length];omega),hlt,vs++[v],done'++[r.d],rest2,zao,?_,by rw[qQ];simp;omega,er',by rw[<- edr];simp,(back (hE3.up s5)).updFx hB n4⟩
    rw[Offs.upd hB]
    refine(Rps.same (Offs.grow t5) _ rd').append (zcp (Rp.same (Offs.sub λb z=>.inl z) _ hv.rp) zct)
 ·have hi':i=ds.length:=by omega
  subst hi'
  rw[qAR]at ec'
  cases ec'
  rw[qu]at edr
  subst edr
  exact .inl ⟨ys,q σ' H' vs ep' rd' ⟨hE'.len,hE'.pl,λi d z=>absurd z (na i d),hE'.inj,λb o z=>hE'.base b o (by rw[Offs.get λy=>by rw[y,hp]at z;cases z];exact s4 b o (hE.base b o z)),hE'.fxs⟩⟩
theorem zagj{own:List Str}{fr:List Nat}{env:DEnv}{i:Nat}(h:i<own.length):(envB own fr env)[i]?=some .no:=by
 unfold envB
 rw[qk (by simpa using h),qV,qG h];rfl
theorem zxb{own:List Str}{fr:List Nat}{wi wi2:TI}{g g2:TG}{tt tt2:TT}{te:TE}{fi f2:IF'}{gf gf2:GT}{t t2:TF}{e:EF}{k:Nat}(h1:SI wi fi)(h2:SG g gf)(hx:GZ 0 k gf)(hk:k<=own.length)(h3:ST tt t)
  (h5:SI wi2 f2)(h6:SG g2 gf2)(hy:GZ k own.length gf2)(h7:ST tt2 t2)(h4:SE te e) :
  SE (tComp2 wi g tt wi2 g2 tt2 te own fr) (zmg own fr fi gf t f2 gf2 t2 e):=by
 intro fx H0 env σ H h rr hr Q q
 unfold zmg at hr
 obtain⟨⟨ds,bs⟩,ei,hr⟩:=qA.mp hr
 split at hr
 ·rename_i hlen
  have hlen:ds.length<300:=hlen
  obtain⟨rs,ers,rfl⟩:=qH.mp hr
  refine h1 fx H0 env σ H h ds bs ei _ λJ H1 s yl=>λp hp=>?_
  have hB:=znl h s hp own fr bs
  generalize hA:(λb=>lim fx env σ (bs++capA fr env) b)=A
  have hA':∀b,lim fx env σ (bs++capA fr env) b↔A b:=λb=>by rw[<- hA]
  have eA:(λb=>lim fx env σ (bs++capA fr env) b\/b=p)=λb=>A b\/b=p:=by rw[<- hA]
  rw[eA]at hB
  have seen:∀{σ':St}{H':Hp},EnvOk (λb=>A b\/b=p) H1 (envB own fr env) σ' H'->Same (Offs (λb=>fx b\/L2.own (frzs env bs) σ b) H1) (Offs (λb=>A b\/b=p) H'):=λ{σ' H'} hE=>Offs.mono hE.base λb o eo n z=>by
   rcases z with z|z
   ·rcases(hA' b).mpr z with z|⟨i,d,z1,z2,z3⟩
    ·exact n (.inl z)
    ·exact n (.inr ⟨i,d,zet (λy=>z1 (qi _ y)) z2,z3⟩)
   ·rw[z,hp]at eo;cases eo
  refine⟨λi m σ' H'=>m=ds.length - i/\i<=ds.length/\∃vs done rest,H' p=some (.lst vs)/\Rps (Offs (λb=>A b\/b=p) H') done vs/\done.length<=i * 300/\zhh gf t f2 gf2 t2 e (envB own fr env) (ds.drop i)=some rest/\done++rest=rs/\EnvOk (λb=>A b\/b=p) H1 (envB own fr env) σ' H',
   ⟨ds.length,rfl,qAL _,[],[],rs,zao,zct,qAL _,ers,rfl,hB⟩,?_⟩
  rintro i m σ' H' ⟨rfl,hi,vs,done,rest,ep,rd,dl,ec,edr,hE⟩
  obtain⟨yi,ys⟩:=yl _ H' hE.fxs (seen hE)
  by_cases hlt:i<ds.length
  ·obtain⟨yg,yy⟩:=yi i ds[i] (qG hlt)
   refine .inr ⟨yg,λσ'' H''=>i+1<=ds.length/\∃vs done rest,H'' p=some (.lst vs)/\Rps (Offs (λb=>A b\/b=p) H'') done vs/\done.length<=(i+1) * 300/\zhh gf t f2 gf2 t2 e (envB own fr env) (ds.drop (i+1))=some rest/\done++rest=rs/\EnvOk (λb=>A b\/b=p) H1 (envB own fr env) σ'' H'',?_,?_⟩
   ·rintro σ'' H'' ⟨hle,hh⟩
    exact⟨ds.length - (i+1),by omega,rfl,hle,hh⟩
   ·intro x H'' hyx
    obtain⟨sy,ry⟩:=yy x H'' hyx
    rw[qy hlt]at ec
    obtain⟨e1,ee1,ec⟩:=qA.mp ec
    obtain⟨b,eb,ec⟩:=qA.mp ec
    have ry':Rp (Offs (λa=>(A a\/a=p)\/L2.own (envB own fr env) σ' a) H'') ds[i] x:=Rp.same (Offs.sub λb z=>z.elim (λy=>y) λ⟨j,d',z,_⟩=>absurd z zen) _ ry
    refine h2 _ H1 (envB own fr env) σ' H'' _ x (hE.up sy) ry' e1 ee1 _ λσ2 hE2=>?_
    refine h3 _ H1 e1 σ2 H'' hE2 b eb _ λH3 s3=>?_
    have hE3:=hE2.up s3
    obtain⟨gl,gk,gn⟩:=hx _ _ _ ee1
    have na:NoAc e1:=gn λ_ _=>zen
    have back:∀{σ4:St}{H4:Hp},EnvOk (λb=>A b\/b=p) H1 e1 σ4 H4->EnvOk (λb=>A b\/b=p) H1 (envB own fr env) σ4 H4:=λ{σ4 H4} hh=>hh.weaken gl.symm (λj d' ej=>by
     by_cases hj:own.length<=j
     ·rw[gk j (.inr (by omega))];exact ej
     ·obtain⟨_,k,rfl,_⟩:=zmq ej;omega) λj d'=>zen
    cases b with
    | false=>
     have ec:zhh gf t f2 gf2 t2 e (envB own fr env) (ds.drop (i+1))=some rest:=ec
     exact iteF ⟨hlt,vs,done,rest,s3 _ _ (sy _ _ ep),Rps.same (Offs.grow (sy.trans s3)) _ rd,by omega,ec,edr,back hE3⟩
    | true=>
     have ec:((innL f2 gf2 t2 e e1).bind λr1=>(zhh gf t f2 gf2 t2 e (envB own fr env) (ds.drop (i+1))).map λrs=>r1++rs)=some rest:=ec
     obtain⟨r1,er,ec⟩:=qA.mp ec
     obtain⟨rest',er',rfl⟩:=qH.mp ec
     obtain⟨⟨ds2,bs2⟩,e2,er⟩:=qA.mp er
     split at er
     ·rename_i hl2
      have hl2:ds2.length<300:=hl2
      have l2:=znn er
      refine iteT (zagi (B:=λb=>A b\/b=p) (p:=p) (vs:=vs) (done:=done) h5 h6 hy h7 h4 na (λj d' h8 h9 ej=>?_) (.inr rfl) hp hE3 (s3 _ _ (sy _ _ ep)) (Rps.same (Offs.grow (sy.trans s3)) _ rd) e2 (by omega) er λσ5 H5 vs5 ep5 rd5 hE5=>?_)
      ·rw[gk j (.inr h8),zagj h9]at ej;cases ej
      ·have l2':r1.length<=ds2.length:=l2
       exact⟨hlt,vs5,done++r1,rest',ep5,rd5,by rw[qQ];omega,er',by rw[<- edr,qBE],back hE5⟩
     ·cases er
  ·have hi':i=ds.length:=by omega
   subst hi'
   rw[qAR]at ec
   cases ec
   rw[qu]at edr
   subst edr
   refine .inl ⟨ys,q _ H' (s.trans hE.base) ⟨?_,λ_=>⟨p,rfl,s.free hp,?_⟩⟩⟩
   ·show Rp (Offs (lim fx env σ (if zcd done=true then[]else bs++capA fr env)) H') (.list done) (.ref p)
    have nl:∀cs,¬lim fx env σ cs p:=λcs z=>by
     obtain⟨o,eo⟩:=(h.up s).lims _ p z
     rw[hp]at eo;cases eo
    refine zgj (by rw[Offs.get (nl _)];exact ep) ?_
    split
    ·rename_i f;exact zfi f rd
    ·exact Rps.same (Offs.sub λb z=>.inl ((hA' b).mp z)) _ rd
   ·show zci (Offs (λb=>lim fx env σ (if zcd done=true then[]else bs++capA fr env) b\/b=p) H') H' p (.list done)
    refine⟨vs,ep,?_⟩
    split
    ·rename_i f;exact zfi f rd
    ·exact Rps.same (Offs.sub λb z=>z.imp (hA' b).mp id) _ rd
 ·cases hr
end L2
namespace PySem
open Sem (wp)
end PySem
namespace L2
open PySem PySem.Spec PyProof.Rows
noncomputable def zva:List PyData->Option (List Key)
 | []=>some []
 | d::ds=>(keyD d).bind λk=>(zva ds).map λks=>k::ks
theorem zxc{H:Hp}:∀{ds:List PyData}{vs:List V}{ks:List Key},Rps H ds vs->zva ds=some ks->vs=ks.map kV
 | [],vs,ks,h,e=>by unfold Rps at h;cases e;subst h;rfl
 | d::ds,vs,ks,h,e=>by
  obtain⟨k,ek,e⟩:=qA.mp e
  obtain⟨ks',e',rfl⟩:=qH.mp e
  cases zbr.mp h with
  | cons h1 h2=>
   rename_i v vs'
   have:=zxc (zbr.mpr h2) e'
   subst this
   cases d with
   | int i=>cases ek;unfold Rp at h1;subst h1;rfl
   | str x=>cases ek;unfold Rp at h1;subst h1;rfl
   | _=>cases ek
end L2
namespace PySem
open Sem (wp)
noncomputable def SqIt(b:Bool)(h:Heap)(it l:Addr)(i:Nat):Prop:=match b with
 | true=>h.IsListIter it l i
 | false=>h.IsTupleIter it l i
noncomputable def zno(b:Bool)(h:Heap)(l:Addr)(xs:Array Value):Prop:=match b with
 | true=>h.IsList l xs
 | false=>h.IsTuple l xs
theorem SqIt.moved{b:Bool}{h h':Heap}{it l:Addr}{i:Nat}(x:SqIt b h it l i)(e:∀o,h.get? it=some o->h'.get? it=some o):SqIt b h' it l i:=by
 cases b with
 | true=>obtain⟨o,q,r⟩:=x;exact⟨o,e o q,r⟩
 | false=>obtain⟨o,q,r⟩:=x;exact⟨o,e o q,r⟩
theorem zno.moved{b:Bool}{h h':Heap}{l:Addr}{xs:Array Value}(x:zno b h l xs)(e:∀o,h.get? l=some o->h'.get? l=some o):zno b h' l xs:=by
 cases b with
 | true=>obtain⟨o,q,r⟩:=x;exact⟨o,e o q,r⟩
 | false=>obtain⟨o,q,r⟩:=x;exact⟨o,e o q,r⟩
theorem SqIt.obj{b:Bool}{h:Heap}{it l:Addr}{i:Nat}(x:SqIt b h it l i):∃o,h.get? it=some o/\∀v,o.data≠.cell v:=by
 cases b with
 | true=>obtain⟨o,q,_,r⟩:=x;exact⟨o,q,λv z=>by rw[r]at z;cases z⟩
 | false=>obtain⟨o,q,_,r⟩:=x;exact⟨o,q,λv z=>by rw[r]at z;cases z⟩
section
variable{prog:Program}{w:World}{A:Around}{E:Value->Shared->Prop}{s:Shared}
theorem zqy{it l:Addr}{i:Nat}{items}{x:Value}{Q:Value->Shared->Prop}(hit:s.heap.IsTupleIter it l i)
  (hl:s.heap.IsTuple l items)(hx:items[i]?=some x)
  (hQ:∀h',h'.IsTupleIter it l (i+1)->Heap.SameBut it s.heap h'->Q x {s with heap:=h'}) :
  wpAny (model prog w) A (qAN (.ref it)) Q E s:=by
 obtain⟨o,ho,hc,hd⟩:=id hit
 obtain⟨ol,hol,_,nl,hdl⟩:=hl
 unfold qAN
 refine qB (qAE (name:=Str.ofString "__next__") hit.typeIs qA7
  (qAV qA7 hit.typeIs qCZ ?_ (qCV _)))
 show wpAny _ _ (field (.ref it) 0 >>=_) _ _ s
 refine qB (qBK ho hd (x:=.ref l) rfl ?_)
 show wpAny _ _ (if(Value.ref l==Value.none)=true then _ else _) _ _ s
 rw[if_neg (show ¬((Value.ref l==Value.none)=true)from qI)]
 show wpAny _ _ (field (.ref it) 1 >>=_) _ _ s
 refine qB (qBK ho hd (x:=.int i 0) rfl ?_)
 show wpAny _ _ (seqItems? (.ref l) >>=_) _ _ s
 refine qB (wpAny_seqItems hol hdl ?_)
 simp only[qAm,hx]
 refine qB (qB0 ho hd (by simp) (qE ⟨x,rfl,qE (hQ _ ?_ (qAe ..))⟩))
 exact⟨_,qBH _ ho (qCq (qBY hd _)),(Obj.cls_mapFields ..).trans hc,by
  rw[qBY hd];simp[rawInt]⟩
theorem zsq{it l:Addr}{i:Nat}{items}{Q:Value->Shared->Prop}(hh:A.handled=none)
  (hit:s.heap.IsTupleIter it l i)(hl:s.heap.IsTuple l items)(hx:items[i]?=none)
  (hE:∀h' e,Heap.ExtBut it s.heap h'->(∃o,h'.get? e=some o/\o.cls=.type "StopIteration")->E (.ref e) {s with heap:=h'}) :
  wpAny (model prog w) A (qAN (.ref it)) Q E s:=by
 obtain⟨o,ho,hc,hd⟩:=id hit
 obtain⟨ol,hol,_,nl,hdl⟩:=hl
 unfold qAN
 refine qB (qAE (name:=Str.ofString "__next__") hit.typeIs qA7
  (qAV qA7 hit.typeIs qCZ ?_ (qCV _)))
 show wpAny _ _ (field (.ref it) 0 >>=_) _ _ s
 refine qB (qBK ho hd (x:=.ref l) rfl ?_)
 show wpAny _ _ (if(Value.ref l==Value.none)=true then _ else _) _ _ s
 rw[if_neg (show ¬((Value.ref l==Value.none)=true)from qI)]
 show wpAny _ _ (field (.ref it) 1 >>=_) _ _ s
 refine qB (qBK ho hd (x:=.int i 0) rfl ?_)
 show wpAny _ _ (seqItems? (.ref l) >>=_) _ _ s
 refine qB (wpAny_seqItems hol hdl ?_)
 simp only[qAm,hx]
 refine qB (qBX (qB (qB0 ho hd (by simp) ?_)))
 show wpAny _ _ (newExc (.type "StopIteration") [] >>=_) _ _ _
 refine qB ?_
 simp only[newExc,newTuple]
 refine qB (qAP ?_ (by size_fits))
 refine qB (m:=firstArgMember _ _) (wpAny_of_eq (a:=Value.none) (by first|rfl|(simp only[firstArgMember];rfl)) ?_)
 refine qAP ?_ (by size_fits)
 simp only[raiseNew]
 refine qB (wpAny_handled ?_)
 first|rw[show A.in1.handled=none from hh]|rw[hh]
 refine qB (qE (wpAny_throw ?_))
 exact hE _ _ (((qAe ..).extBut.push _).push _) ⟨_,qg _ rfl,rfl⟩
theorem zalh{b:Bool}{it l:Addr}{i:Nat}{xs:Array Value}{x:Value}{Q:Value->Shared->Prop}(hit:SqIt b s.heap it l i)(hl:zno b s.heap l xs)(hx:xs[i]?=some x)
  (hQ:∀h',SqIt b h' it l (i+1)->Heap.SameBut it s.heap h'->Q x {s with heap:=h'}):wpAny (model prog w) A (qAN (.ref it)) Q E s:=by
 cases b with
 | true=>exact wpAny_nextOf_list_item hit hl hx hQ
 | false=>exact zqy hit hl hx hQ
theorem zaio{b:Bool}{it l:Addr}{i:Nat}{xs:Array Value}{Q:Value->Shared->Prop}(hh:A.handled=none)(hit:SqIt b s.heap it l i)(hl:zno b s.heap l xs)(hx:xs[i]?=none)
  (hE:∀h' e,Heap.ExtBut it s.heap h'->(∃o,h'.get? e=some o/\o.cls=.type "StopIteration")->E (.ref e) {s with heap:=h'}):wpAny (model prog w) A (qAN (.ref it)) Q E s:=by
 cases b with
 | true=>exact wpAny_nextOf_list_end hh hit hl hx hE
 | false=>exact zsq hh hit hl hx hE
end
end PySem
namespace L2
open PySem PySem.Spec PyProof.Rows
noncomputable def SqX(b:Bool)(K:qC)(H:Hp)(a:Addr)(xs:List V):Prop:=match b with
 | true=>SqL K H a xs
 | false=>SqT K H a xs
section
variable{X:Cx}{pins:List (Addr×Obj)}{σ:St}{H:Hp}{s:Shared}
theorem Inv.sq{b:Bool}{a:Addr}{xs:List V}(I:Inv X pins σ H s)(h:SqX b X.K H a xs):∃its:List Value,Vals xs its/\zno b s.heap a its.toArray/\xs.length<=qS:=by
 cases b with
 | true=>obtain⟨its,r,p,z⟩:=I.list h;exact⟨its,r,p.isList,z⟩
 | false=>obtain⟨its,r,p,z⟩:=I.tuple h;exact⟨its,r,(show s.heap.IsTuple a its.toArray from p),z⟩
theorem Inv.sq_inj{b:Bool}{a:Addr}{xs ys:List V}(I:Inv X pins σ H s)(h:SqX b X.K H a xs)(h':SqX b X.K H a ys):xs=ys:=by
 cases b with
 | true=>exact I.list_inj h h'
 | false=>exact I.tuple_inj h h'
end
end L2
namespace PySem
open Sem (wp)
noncomputable def itO(b:Bool)(l:Addr):Obj:=match b with
 | true=>{cls:=.type "list_iterator",data:=.fields #[.ref l,.int 0 0]}
 | false=>{cls:=.type "tuple_iterator",data:=.fields #[.ref l,.int 0 0]}
theorem zagk{b:Bool}{h:Heap}{a l:Addr}(e:h.get? a=some (itO b l)):SqIt b h a l 0:=by
 cases b with
 | true=>exact⟨_,e,rfl,rfl⟩
 | false=>exact⟨_,e,rfl,rfl⟩
end PySem
namespace L2
open PySem PySem.Spec PyProof.Rows
theorem zno.there{b:Bool}{h:Heap}{l:Addr}{xs:Array Value}(x:zno b h l xs):l<h.objs.size:=by
 cases b with
 | true=>obtain⟨o,q,_⟩:=x;exact qT q
 | false=>obtain⟨o,q,_⟩:=x;exact qT q
theorem zapp{K:qC}{A:Addr->Prop}{H:Hp}{d:PyData}{ds:List PyData}{v:V}(h:Rp (Offs A H) d v)(e:zhf d=some ds):∃(b:Bool)(a:Addr)(xs:List V),v=.ref a/\Rps (Offs A H) ds xs/\∀(B:Addr->Prop)(H':Hp),Same (Offs A H) (Offs B H')->SqX b K H' a xs:=by
 cases d with
 | list es=>
  cases e
  obtain⟨a,xs,rfl,ha,r⟩:=zdm h
  exact⟨true,a,xs,rfl,r,λB H' s=>SqL.of (zbw (s _ _ ha))⟩
 | tuple es=>
  cases e
  obtain⟨a,xs,rfl,ha,r⟩:=zcg h
  exact⟨false,a,xs,rfl,r,λB H' s=>SqT.of (zbw (s _ _ ha))⟩
 | _=>cases e
end L2
namespace PySem
open Sem (wp)
open AutoSeq1 (wpAny_loadPart')
theorem zagl{prog:Program}{w:World}{A:Around}(hh:A.handled=none)(b:Bool)(it l:Addr)(hne:l≠it)(items:Array Value) :
  Draws prog w A it [it,l] items.size (λi v=>items[i]?=some v) (λi h=>SqIt b h it l i/\zno b h l items) where
 live:=λ_ _ st=>let⟨o,ho,_⟩:=st.1.obj;⟨o,ho⟩
 frame:=λ_ _ _ st hk=>⟨st.1.moved λo e=>hk it (by simp) o e,st.2.moved λo e=>hk l (by simp) o e⟩
 item:=λi s Q E hi st hQ=>by
  refine zalh st.1 st.2 (x:=items[i]) (by simp[hi]) λh' hit' hs'=>?_
  exact hQ _ h' s.toks (by simp[hi]) ⟨hit',st.2.moved λo e=>hs'.extBut _ o hne e⟩ hs'
 done:=λs Q E st hE=>zaio hh st.1 st.2 (by simp) hE
theorem zmk(l:Addr)(items:Array Value)(n:Nat)(dct:Option Addr)(sl:Array (Option Value)) :
  Meets (Builtin.«enumerate.__new__» ⟨[.type "enumerate",.ref l],[]⟩) (λ_ R s=>s.heap.get? l=some {cls:=.type "tuple",dict:=dct,data:=.seq items n,slots:=sl}/\
   R (.ok (.ret (.ref (s.heap.push (itO false l)).objs.size))) {s with heap:=(s.heap.push (itO false l)).push {cls:=.type "enumerate",data:=.fields #[.none,.bool false,.ref s.heap.objs.size,rawInt 0,.none,.none]}}):=
 .of_wp λprog w A R s h=>by
  obtain⟨hp,g,d,tk,os⟩:=s;obtain⟨hl,h⟩:=h
  have hsub:=sub_enumerate
  have e1:Heap.IsTuple (Shared.heap ⟨hp,g,d,tk,os⟩) l items:=⟨_,hl,rfl,n,rfl⟩
  wp_walk using qBw hl
  refine wpAny_stack_any λst=>qE ?_
  split
  ·rename_i c _ _ _ _ _
   cases(c==Value.type "enumerate")
   ·wp_walk using qBw hl,qBe e1
    exact⟨_,rfl,h⟩
   ·wp_walk using qBw hl,qBe e1
    exact⟨_,rfl,h⟩
  ·wp_walk using qBw hl,qBe e1
   exact⟨_,rfl,h⟩
theorem zsr{prog:Program}{w:World}{A:Around}{E:Value->Shared->Prop}{s:Shared}{b:Bool}{l:Addr}{items:Array Value}{Q:Value->Shared->Prop}(hL:zno b s.heap l items)
  (h:∀h',IsEnum h' (s.heap.objs.size+1) s.heap.objs.size 0 .none->SqIt b h' s.heap.objs.size l 0->(∀c o,s.heap.get? c=some o->h'.get? c=some o)->Q (.ref (s.heap.objs.size+1)) {s with heap:=h'}) :
  wpAny (model prog w) A (call (.type "enumerate") [.ref l]) Q E s:=by
 cases b with
 | true=>exact call_enumerate_list hL λh' e i _ k=>h h' e i k
 | false=>
  obtain⟨⟨c,dct,dt,sl⟩,hl,hc,n,hd⟩:=hL
  replace hc:c=.type "tuple":=hc
  replace hd:dt=.seq items n:=hd
  subst hc hd
  refine callType_new F.called_enumerate (by decide) (F.typeCall_enumerate_1 _) (F.newCall_enumerate_1 _) (λobj=>F.args_object_init_2 obj _) F.entry_enumerate_new (zmk l items n dct sl) ⟨hl,?_⟩
  have hz:(s.heap.push (itO false l)).objs.size=s.heap.objs.size+1:=qBv ..
  have he:=qg (s.heap.push (itO false l)) (o:={cls:=.type "enumerate",data:=.fields #[.none,.bool false,.ref s.heap.objs.size,rawInt 0,.none,.none]}) rfl
  show _/\_
  rw[hz]at he ⊢
  exact⟨⟨_,he,rfl⟩,h _ he (zagk (b:=false) (qL _ (qg _ rfl))) λc o x=>qL _ (qL _ x)⟩
end PySem
namespace L2
open PySem PySem.Spec PyProof.Rows
noncomputable def Itx(K:qC)(b:Bool)(a:Addr):It:=
 ⟨λi H=>∃xs x,SqX b K H a xs/\xs[i]?=some x,λi H x H'=>∃p y,x=.ref p/\H p=none/\H'=upd H p (.tup [.int i,y])/\∀xs,SqX b K H a xs->xs[i]?=some y,λi H=>∃xs,SqX b K H a xs/\xs.length<=i⟩
theorem zyx{P:Program}{w:World}{K:qC}{elts:List Expr}{x1}{tpos:Pos}{b:Bool}(a e it:Addr)(hne:e≠it)(hea:e≠a)(hai:a≠it) :
  Turn P w K (.Tuple elts x1 tpos) (Itx K b a) [e,it] e (λi h=>SqIt b h it a i/\∃old,IsEnum h e it (i:Int) old) where
 mem:=by simp
 obj:=λi h st c hc=>by
  obtain⟨h1,old,h4⟩:=st
  rcases qX.mp hc with rfl|hc
  ·exact⟨_,h4,λv z=>by simp at z⟩
  ·have q:c=it:=by simpa using hc
   subst q
   exact h1.obj
 keep:=λi h h' st k=>⟨st.1.moved λo q=>k it (by simp) o q,let⟨old,q⟩:=st.2;⟨old,k e (by simp) _ q⟩⟩
 item:=by
  intro X hP hw hK hc i pins s σ H E I hf st hg
  subst hP hw hK
  obtain⟨xs,x,hq,hx⟩:=hg
  obtain⟨its,rv,p,hz⟩:=I.sq hq
  obtain⟨u,hu,ru⟩:=rv.get hx
  obtain⟨hit,old,he⟩:=st
  have fe:=hf e (by simp)
  have fi:=hf it (by simp)
  have hlt:i<its.toArray.size:=by
   obtain⟨hh,_⟩:=qM.mp hu
   simpa using hh
  refine wpAny_pyNext_enum_itemD (zagl (by exact I.ok.hd hc) b it a hai its.toArray) he ⟨hit,p⟩ hlt hne (by simp[hne,hea]) λu' h1 tk pu e1 i1 t1 z1 k1=>?_
  have hu':u'=u:=by
   have pu:its.toArray[i]?=some u':=pu
   rw[List.getElem?_toArray,hu]at pu
   exact(qR pu).symm
  subst hu'
  refine⟨_,rfl,wpAny_letOwnedTupleGo_enum (s:={s with heap:=h1,toks:=tk+1}) e1 λh2 e2 sb2=>?_⟩
  have hp:H s.heap.objs.size=none:=I.hok.fresh (qK _)
  have hes:e≠s.heap.objs.size:=qw (qT he)
  have k2:∀c o,c≠e->c≠it->s.heap.get? c=some o->h2.get? c=some o:=λc o q1 q2 q=>(sb2.2 c q1).trans (k1 c o q1 q2 q)
  have t2:h2.get? s.heap.objs.size=some {cls:=.type "tuple",data:=.seq #[.int i tk,u']}:=(sb2.2 _ (qBB hes)).trans t1
  have nch:∀c,c∉[e,it]->c≠e/\c≠it:=λc hb=>⟨λz=>hb (by simp[z]),λz=>hb (by simp[z])⟩
  refine⟨.ref s.heap.objs.size,upd H s.heap.objs.size (.tup [.int i,x]),?_,rfl,⟨_,x,rfl,hp,rfl,λys hy=>by rw[I.sq_inj hy hq];exact hx⟩,⟨?_,u',e2⟩,λc hb=>?_⟩
  ·refine Inv.step (s:=s) (h':=h2) (g':=s.gens) (d':=s.drawn) (t':=tk+1) (ch:=[e,it]) I (λc hb=>?_) (λc o _ _ hc q _=>k2 c o (nch c hc).1 (nch c hc).2 q) (λc o _ _ hc q _=>⟨o.slots,k2 c o (nch c hc).1 (nch c hc).2 q⟩)
    (λc o _ q n=>by rw[zas (qw (qT q))];exact n) (λc o hc q=>⟨o,k2 c o (nch c hc).1 (nch c hc).2 q⟩)
    (λc xs q=>by rw[zas (zbh q hp)];exact q) (λc o v q=>by rw[zas (zbh q hp)];exact q) (λc ps q=>⟨#[],by rw[zas (zbh q hp),q];simp⟩) (λm hm=>?_) (λc v q=>?_) I.bare
   ·rcases qX.mp hb with rfl|hb
    ·exact⟨fe.2.2.2.1,fe.2.1,fe.2.2.2.2.1,fe.2.2.2.2.2⟩
    ·have z:c=it:=by simpa using hb
     subst z
     exact⟨fi.2.2.2.1,fi.2.1,fi.2.2.2.2.1,fi.2.2.2.2.2⟩
   ·obtain⟨o,es,ep,ho,r⟩:=hm
    exact⟨o,es,ep,k2 _ o (qBB fe.2.1) (qBB fi.2.1) ho,r⟩
   ·by_cases hb:c=s.heap.objs.size
    ·subst hb
     rw[zao]at q
     cases q
     exact⟨by show 2<=qS;decide,[.int i tk,u'],.cons ⟨_,rfl⟩ (.cons ru .nil),_,t2,rfl,_,rfl⟩
    ·rw[zas hb]at q
     have nt:∀c w',H c=some w'->c≠e/\c≠it:=λc w' z=>⟨(λy=>by rw[y,fe.1]at z;cases z),(λy=>by rw[y,fi.1]at z;cases z)⟩
     refine(I.hok c v q).stay (λc w' hc r=>?_) (λc r=>by rw[zas (zbh r hp)];exact r) λc ys r=>by rw[zas (zbh r hp)];exact r
     rcases hc with rfl|hc
     ·exact k2 c w' (nt c v q).1 (nt c v q).2 r
     ·exact k2 c w' (nt c _ hc).1 (nt c _ hc).2 r
  ·exact i1.1.moved λo q=>(sb2.2 _ (qBB hne)).trans q
  ·rcases qX.mp hb with rfl|hb
   ·rw[zas hes];exact fe.1
   ·have z:c=it:=by simpa using hb
    subst z
    obtain⟨o,q1,_⟩:=hit.obj
    rw[zas (qw (qT q1))]
    exact fi.1
 done:=by
  intro X hP hw hK hc i pins s σ H E I hf st hg
  subst hP hw hK
  obtain⟨xs,hq,hx⟩:=hg
  obtain⟨its,rv,p,hz⟩:=I.sq hq
  obtain⟨hit,old,he⟩:=st
  obtain⟨f0,f1,f2,f3,f4,f5⟩:=hf it (by simp)
  have hl:=rv.length
  have hT:s.TypeIs (.ref e) "enumerate":=⟨_,he,rfl⟩
  unfold pyNext
  refine qB (wpAny_attempt (qAE (name:=Str.ofString "__next__") hT F.slot_enumerate_next (qAV F.slot_enumerate_next hT F.entry_enumerate_next ?_ (F.args_enumerate_next_1 _))))
  show wpAny _ _ (field (.ref e) 2 >>=_) _ _ _
  refine qB (qBK he rfl (x:=.ref it) rfl ?_)
  refine qB (zaio (by exact I.ok.hd hc) hit p (by simp;omega) λh' x he' hx'=>?_)
  obtain⟨o,ho,hcl⟩:=hx'
  refine qB (wpAny_isInstance (T:="StopIteration") (b:=true) ⟨o,ho,hcl⟩ isSubtype_stop (qE ⟨rfl,?_⟩))
  exact I.turned (t':=s.toks) (λc o hb q=>he' c o hb q) f0 f1 f3 f4 f5
 self:=λ_ _ _ _ _ st h=>let⟨_,q⟩:=st.2;wpAny_pyIter_enum q h
noncomputable def iEnumX(K:qC)(ta:TA):TI:=λσ H R=>ta σ H λvs H1=>∃b a,vs=[.ref a]/\(∃xs,SqX b K H1 a xs)/\R (Itx K b a) H1
theorem zagm{X:Cx}{K:qC}(hK:X.K=K){a:Expr}{ta:TA}{p pos:Pos}{elts:List Expr}{x1}{tpos:Pos}(hg:Gl X "enumerate")(hm:X.mg "enumerate"=none)(ha:PA X [a] ta)(hs:starEach [a] X.env=[(false,eval a X.env)]:=by rfl) :
  PI X (.Tuple elts x1 tpos) (.Call (.Name "enumerate" p) [a] [] pos) (iEnumX K ta):=by
 subst hK
 intro pins s σ H R I h
 refine Call_ (zrs I hg hm boot_enumerate (qBC (thn (ha pos pins s σ H _ I h) λus s1 ⟨vs,H1,I1,r1,q1⟩=>?_) hs rfl))
 obtain⟨b,l,rfl,⟨xs,hq⟩,q⟩:=q1
 obtain⟨u,rfl,ru⟩:=zru r1
 cases ru
 obtain⟨its,rv,pl,hz⟩:=I1.sq hq
 have lt:=zno.there pl
 refine zsr pl λh' he hit hk=>wpAny_pyIter_enum he ?_
 have I2:Inv X pins σ H1 {s1 with heap:=h'}:=I1.kept (t':=s1.toks) hk
 refine⟨s1.heap.objs.size+1,[s1.heap.objs.size+1,s1.heap.objs.size],_,_,H1,rfl,I2,zyx l _ _ (Nat.succ_ne_self _) (qCs (Nat.lt_succ_of_lt lt)) (qw lt),⟨hit,_,he⟩,λc hb=>?_,q⟩
 rcases qX.mp hb with rfl|hb
 ·exact I1.fpOk (Nat.le_succ _) (I1.hok.fresh (Nat.le_succ _))
 ·have e:c=s1.heap.objs.size:=by simpa using hb
  subst e
  exact I1.fpOk (qK _) (I1.hok.fresh (qK _))
noncomputable def zss(f:AF):IF':=λenv=>(f env).bind λrs=>match rs with
 | [r]=>(zhf r.d).map λds=>(zqw ds,r.bs)
 | _=>none
theorem zxd{K:qC}{ta:TA}{f:AF}(h1:SA ta f):SI (iEnumX K ta) (zss f):=by
 intro fx H0 env σ H h ds bs e R q
 unfold zss at e
 obtain⟨rs,er,e⟩:=qA.mp e
 split at e
 ·rename_i r
  obtain⟨d1,ed1,e⟩:=qH.mp e
  cases e
  refine h1 fx H0 env σ H h _ er _ λvs H1 s hv=>?_
  cases hv with
  | cons hv t=>
   cases t
   obtain⟨b,a,xs,rfl,r1,e1⟩:=zapp (K:=K) (Rp.same (Offs.sub (zch (bs:=r.bs))) _ hv.rp) ed1
   refine⟨b,a,rfl,⟨xs,e1 _ H1 (Same.refl _)⟩,q _ H1 s ?_⟩
   intro A H' hA ss
   have q1:=e1 A H' ss
   have r1':=Rps.same ss _ r1
   have hl:(zqw d1).length=d1.length:=by unfold zqw;simp
   refine⟨λi d e=>?_,⟨xs,q1,by rw[hl,r1.length];exact qK _⟩⟩
   unfold zqw at e
   rw[qV,List.getElem?_zipIdx]at e
   cases e0:d1[i]? with
   | none=>rw[e0]at e;cases e
   | some d0=>
    rw[e0]at e
    obtain⟨v,hv,rv⟩:=r1'.get2 e0
    have e:PyData.tuple [.int ((0+i:Nat):Int),d0]=d:=qR e
    rw[Nat.zero_add]at e
    subst e
    refine⟨⟨xs,v,q1,hv⟩,λx H'' y=>?_⟩
    obtain⟨p,y',rfl,hp,rfl,y⟩:=y
    have:=y xs q1
    rw[hv]at this
    cases this
    exact⟨Same.new hp,znf hp (zcu hA hp) (zcp zac (zcp rv zct))⟩
 ·cases e
theorem zacd{K:qC}{ta:TA}{f:AF}(h1:SA ta f):SI (iEnumX K ta) (zpr f):=λfx H0 env σ H h ds bs e R q=>
 zxd h1 fx H0 env σ H h ds bs (by
  unfold zpr at e
  unfold zss
  obtain⟨rs,er,e⟩:=qA.mp e
  rw[er]
  cases rs with
  | nil=>cases e
  | cons r t=>
   cases t with
   | nil=>
    obtain⟨d,fr,b⟩:=r
    cases d<;>first|exact e|cases e
   | cons _ _=>cases e) R q
noncomputable def isStar:Expr->Bool
 | .Starred ..=>true
 | _=>false
theorem zbn{e:Expr}{es:List Expr}{env:Env}(h:isStar e=false):starEach (e::es) env=(false,eval e env)::starEach es env:=by
 cases e<;>first
  | rfl
  | cases h
theorem zagn{X:Cx}{e:Expr}{es:List Expr}{te:TE}{t:TA}(ha:PE X e te)(hr:PA X es t)(hs:isStar e=false:=by rfl):PA X (e::es) (tCons te t):=zajy ha hr (zbn hs)
end L2
namespace PySem.SeqAt
open AutoSeq1 (wpAny_loadPart')
open MeetsSeq PyProof.Rows
end PySem.SeqAt
namespace L2
open PySem PySem.Spec PyProof.Rows
theorem Rps.setAt{H:Hp}{ds:List PyData}{vs:List V}(h:Rps H ds vs){d:PyData}{v:V}(hv:Rp H d v)(n:Nat):Rps H (ds.set n d) (vs.set n v):=by
 induction n generalizing ds vs with
 | zero=>
  cases ds with
  | nil=>unfold Rps at h;subst h;exact zct
  | cons e ds=>unfold Rps at h;obtain⟨w,ws,rfl,h1,h2⟩:=h;exact zcp hv h2
 | succ n ih=>
  cases ds with
  | nil=>unfold Rps at h;subst h;exact zct
  | cons e ds=>unfold Rps at h;obtain⟨w,ws,rfl,h1,h2⟩:=h;exact zcp h1 (ih h2)
noncomputable def zvb(i:Nat)(fk fv:EF):SF:=λenv=>match env[i]? with
 | some (.ac (.list ds))=>(fv env).bind λr=>(fk env).bind λk=>match k.d with
  | .int z=>(ixN ds.length z).bind λj=>if i∉r.bs then some (.nx ((frzs env r.bs).set i (.ac (.list (ds.set j r.d)))))else none
  | _=>none
 | _=>none
structure Bx(p:Prop):Prop where
 out:p
theorem Bx.pt{X:Cx}{e:Expr}{t:TT}(h:Bx (PW X e t)):Bx (PT X e t):=⟨h.out.pt⟩
theorem zai{X:Cx}{i:Int}{j:Nat}{pos:qb}:Bx (PE X (qP.Constant (PySem.Const.int i) j pos) (tC (L2.V.int i))):=⟨zanf⟩
theorem zaf{X:Cx}:Bx (PA X [] tNil):=⟨zaoa⟩
theorem zace{X:Cx}{e:qP}{es:List qP}{te:TE}{t:TA}(ha:Bx (PE X e te))(hr:Bx (PA X es t))(hs:L2.isStar e=Bool.false):Bx (PA X (e::es) (tCons te t)):=⟨zagn ha.out hr.out hs⟩
theorem zbc{X:Cx}{a b:qP}{ta tb:TE}{pos:qb}{op:PySem.Operator}{r:L2.R2}(ho:OpR X (PySem.binaryOp op) r)(ha:Bx (PE X a ta))(hb:Bx (PE X b tb)):Bx (PE X (a.BinOp op b pos) (tOp r ta tb)):=⟨zard ho ha.out hb.out⟩
theorem zak{X:Cx}{st:Stmt}{t:TS}(h1:Bx (PS X st t)):Bx (PSs X [st] t):=⟨zajq h1.out⟩
theorem zae{X:Cx}{st:Stmt}{rest:List Stmt}{t u:TS}(h1:Bx (PS X st t))(h2:Bx (PSs X rest u)):Bx (PSs X (st::rest) (L2.tSeq t u)):=⟨zaer h1.out h2.out⟩
theorem zapq {X:Cx} {x:Str} {p pos:qb} {e:qP} {es:List qP} {t:TA} {ps:List Str} {k:Nat} {sp:L2.Sp} (D:L2.Dn X.prog X.w X.K X.mg X.base x ps k sp) (hr:L2.Room k X.A) (hg:Gl X x) (ha:Bx (PA X (e::es) t)) (hdb:(x==qv "__debug__")=Bool.false) (he:qAF (e::es) X.env=(Bool.false,PySem.eval e X.env)::qAF es X.env) (hpl:((PySem.backTo pos (qAF es X.env)).any λ(x:Bool×PySem.Sem Value)=>x.fst)=Bool.false):Bx (PE X ((qP.Name x p).Call (e::es) [] pos) (L2.tCall sp [] L2.E0 t)):=⟨zaro D hr hg ha.out hdb he hpl⟩
theorem zbk{X:Cx}{e:qP}{te:TE}{pos:qb}(he:Bx (PE X e te)):Bx (PS X (PySem.Stmt.Return (Option.some e) pos) (L2.tRet te)):=⟨zanp he.out⟩
theorem zali{X:Cx}{pos:qb}{i:Nat}{x:Str}{e:qP}{te:TE}{pos':qb}(hN:X.N.Nodup)(hi:X.N[i]?=Option.some x)(hx:L2.Loc X.env.scope x)(he:Bx (PE X e te))(hs:PySem.swapsWith e (Option.some (qP.Name x pos')) pos.line X.env=Pure.pure Bool.false)(hf:X.fn x=Bool.true\/List.lookup x X.env.scope.names=Option.some PySem.NameKind.local):Bx (PS X (PySem.Stmt.Assign [qP.Name x pos'] e pos) (L2.tAsg te (L2.gName i))):=⟨zant hN hi hx he.out hs hf⟩
theorem zacf {X:Cx} {x:Str} {p pos:qb} {e:qP} {es:List qP} {t:TA} {id:String} {r:List L2.V->Hp->VK->Prop} (hc:CallR X (PySem.Value.builtin id) r) (hg:Gl X x) (hm:X.mg x=Option.none) (hv:PySem.bootBuiltins x=Option.some (PySem.Value.builtin id)) (ha:Bx (PA X (e::es) t)) (hn:x≠qv "__name__") (hdb:(x==qv "__debug__")=Bool.false) (he:qAF (e::es) X.env=(Bool.false,PySem.eval e X.env)::qAF es X.env) (hpl:((PySem.backTo pos (qAF es X.env)).any λ(x:Bool×PySem.Sem Value)=>x.fst)=Bool.false):Bx (PE X ((qP.Name x p).Call (e::es) [] pos) (L2.tCB r t)):=⟨zaey hc hg hm hv ha.out hn hdb he hpl⟩
theorem zxe{X:Cx}{b:Bool}{j:Nat}{pos:qb}:Bx (PE X (qP.Constant (PySem.Const.bool b) j pos) (tC (L2.V.bl b))):=⟨zara⟩
theorem zapr{X:Cx}{a b:qP}{ta tb:TE}{pos:qb}{r:L2.R2}(hr:IxR X r)(ha:Bx (PE X a ta))(hb:Bx (PE X b tb))(hs:L2.PlainIx b):Bx (PE X (a.Subscript b pos) (tOp r ta tb)):=⟨zari hr ha.out hb.out hs⟩
theorem zeq{X:Cx}{t u:TS}{pos:qb}{c:qP}{a b:List Stmt}{tc:TT}(hc:Bx (PT X c tc))(ha:Bx (PSs X a t))(hb:Bx (PSs X b u)):Bx (PS X (PySem.Stmt.If c a b pos) (L2.tIfS tc t u)):=⟨zarc hc.out ha.out hb.out⟩
theorem zbv{X:Cx}:Bx (PSs X [] L2.tNext):=⟨zajp⟩
theorem zacg{X:Cx}{a:qP}{pos:qb}{tA:TT}(ha:Bx (PT X a tA)):Bx (PT X (qP.UnaryOp PySem.UnaryOp.Not a pos) (L2.tNot tA)):=⟨zanl ha.out⟩
theorem zgm:∀{X:Cx}{K:qC},
 X.K=K->
  ∀{a:qP}{ta:TE},
   Bx (PE X a ta)->
    (∀(whole:PySem.Sem Value),
      PySem.isTrue a X.env whole=do
       let v <- whole
       PySem.standAt a.pos
       PySem.holding [v] (PySem.truthy v))->
     Bx (PT X a λ(σ:L2.St)(H:Hp)(Q:Bool->Hp->Prop)=>ta σ H λ(x:L2.V)(H':Hp)=>∃(k:Bool),L2.TruV K x H' k/\Q k H'):=by
 intro X K hK a ta ha he
 exact⟨zaca hK ha.out he⟩
theorem zago{X:Cx}{pos:qb}{i:Nat}{x:Str}(hN:X.N.Nodup)(hi:X.N[i]?=Option.some x)(hx:L2.Loc X.env.scope x)(hf:X.fn x=Bool.true\/List.lookup x X.env.scope.names=Option.some PySem.NameKind.local):Bx (PG X (qP.Name x pos) (L2.gName i)):=⟨zajs hN hi hx hf⟩
theorem zcw{X:Cx}{es:List qP}{t:TA}{pos:qb}(h:Bx (PA X es t)):Bx (PE X (qP.List es pos) (tLst t)):=⟨zaoc h.out⟩
theorem zdg{X:Cx}{tg iter:qP}{body:List Stmt}{wi:TI}{g:TG}{tb:TS}{pos:qb}(hp:PySem.PassesOwn (PySem.model X.prog X.w) X.A X.env X.xe)(hc:X.calm=Bool.true)(hi:Bx (PI X tg iter wi))(hg:Bx (PG X tg g))(hb:Bx (PSs X body tb))(hs:(∀(x:Value),PySem.foldedSetIterable iter X.env x=Pure.pure x)):Bx (PS X (PySem.Stmt.For tg iter body [] pos) (L2.tFor wi g tb)):=⟨zanu hp hc hi.out hg.out hb.out hs⟩
theorem zbp{X:Cx}{a b:qP}{ta tb:TE}{pos:qb}{op:PySem.CmpOp}{r:L2.R2}(ho:OpR X (PySem.compareOp op) r)(ha:Bx (PE X a ta))(hb:Bx (PE X b tb))(hm:PySem.behindInMarks op b=Bool.false):Bx (PT X (a.Compare [op] [b] pos) (L2.tTest (tOp r ta tb))):=⟨zajv ho ha.out hb.out hm⟩
theorem zvc{X:Cx}{x:Str}{j:Nat}{pos:qb}:Bx (PE X (qP.Constant (PySem.Const.str x) j pos) (tC (L2.V.str x))):=⟨zang⟩
theorem zde{X:Cx}{e:qP}{te:TE}{pos:qb}(he:Bx (PE X e te))(hs:PySem.swapsWith e Option.none pos.line X.env=Pure.pure Bool.false):Bx (PS X (PySem.Stmt.Expr e pos) (L2.tDrop te)):=⟨zajr he.out hs⟩
theorem zvd{X:Cx}{es:List qP}{t:TA}{pos:qb}{x1:Nat}(h:Bx (PA X es t)):Bx (PE X (qP.Tuple es x1 pos) (tTup t)):=⟨zaob h.out⟩
theorem zalj{X:Cx}{a:qP}{pos:qb}{op:PySem.BoolOp}{t:TE}(h:Bx (PE X a t)):Bx (PE X (qP.BoolOp op [a] pos) t):=⟨zanm h.out⟩
theorem zxf{X:Cx}{a b:qP}{ta tb:TE}{pos:qb}{op:PySem.CmpOp}{r:L2.R2}(ho:OpR X (PySem.compareOp op) r)(ha:Bx (PE X a ta))(hb:Bx (PE X b tb))(hm:PySem.behindInMarks op b=Bool.false):Bx (PE X (a.Compare [op] [b] pos) (tOp r ta tb)):=⟨zaju ho ha.out hb.out hm⟩
theorem zyy {X:Cx} {x:Str} {p pos:qb} {e:qP} {es:List qP} {t:TA} {T:String} {r:List L2.V->Hp->VK->Prop} (hc:CallR X (PySem.Value.type T) r) (hg:Gl X x) (hm:X.mg x=Option.none) (hv:PySem.bootBuiltins x=Option.some (PySem.Value.type T)) (ha:Bx (PA X (e::es) t)) (hn:x≠qv "__name__") (hdb:(x==qv "__debug__")=Bool.false) (he:qAF (e::es) X.env=(Bool.false,PySem.eval e X.env)::qAF es X.env) (hpl:((PySem.backTo pos (qAF es X.env)).any λ(x:Bool×PySem.Sem Value)=>x.fst)=Bool.false):Bx (PE X ((qP.Name x p).Call (e::es) [] pos) (L2.tCB r t)):=⟨zaai hc hg hm hv ha.out hn hdb he hpl⟩
theorem zxg{X:Cx}{x:Str}{v:L2.V}{u:Value}{pos:qb}(hg:Gl X x)(hm:X.mg x=Option.none)(hv:PySem.bootBuiltins x=Option.some u)(r:L2.RelV v u)(hn:x≠qv "__name__")(hd:(x==qv "__debug__")=Bool.false):Bx (PE X (qP.Name x pos) (tC v)):=⟨zajn hg hm hv r hn hd⟩
theorem zalk{X:Cx}{a:qP}{pos:qb}{tA:TT}(ha:Bx (PT X a tA)):Bx (PW X (qP.BoolOp PySem.BoolOp.Or [a] pos) tA):=⟨zanj ha.out⟩
theorem zaip {X:Cx} {a b:qP} {pos:qb} {tA tB':TT} {rest:List qP} (ha:Bx (PT X a tA)) (hb:Bx (PW X (qP.BoolOp PySem.BoolOp.Or (b::rest) pos) tB')):Bx (PW X (qP.BoolOp PySem.BoolOp.Or (a::b::rest) pos) (L2.tOr tA tB')):=⟨zarb ha.out hb.out⟩
theorem zjv{X:Cx}{e:qP}{te:TE}(h:Bx (PE X e te)):Bx (PO X (Option.some e) (tPart te)):=⟨zakb h.out⟩
theorem zjw{X:Cx}:Bx (PO X Option.none L2.tNoPart):=⟨zaka⟩
theorem zhr{X:Cx}{e:qP}{te:TE}{lo hi:Option qP}{tl th:TO}{pos p2:qb}{r:L2.V->Option Int->Option Int->Hp->VK->Prop}(hr:SlR X r)(he:Bx (PE X e te))(hl:Bx (PO X lo tl))(hu:Bx (PO X hi th)):Bx (PE X (e.Subscript (qP.Slice lo hi Option.none p2) pos) (L2.tSl r te tl th)):=⟨zafa hr he.out hl.out hu.out⟩
theorem zdo {X:Cx} {scope:Scope} {N' own:List Str} {fr:List Nat} {elt target iter:qP} {ifs:List qP} {cpos:qb} {wi:TI} {g:TG} {tt:TT} {te:TE} (c:L2.CompOk X scope N' own fr) (hc:X.calm=Bool.true) (hi:Bx (PI X target iter wi)) (hb:(∀(cl:List (Str×Addr))(C:Addr)(s:Shared)(H:Hp)(fp:List Addr),PG (cxComp X scope N' own cl C s H fp) target g/\PF (cxComp X scope N' own cl C s H fp) ifs tt/\PE (cxComp X scope N' own cl C s H fp) elt te)) (hs:(∀(x:Value),PySem.foldedSetIterable iter X.env x=Pure.pure x)):Bx (PE X (elt.ListComp [{target:=target,iter:=iter,ifs:=ifs,is_async:=0}] scope cpos) (L2.tComp1 wi g tt te own fr)):=⟨zaft c hc hi.out hb hs⟩
theorem zfj {X:Cx} {K:qC} (hK:X.K=K) {T:String} {name:Str} {id:String} {r:L2.V->List L2.V->Hp->VK->Prop} {o e:qP} {es:List qP} {to:TE} {t:TA} {apos cpos:qb} (pa:PySem.PlainAttrs T) (slot:PySem.Slot T name id) (hty:PySem.typeOf (PySem.Value.builtin id)=Pure.pure (PySem.Value.type "method_descriptor")) (hm:MtR X id r) (ho:Bx (PE X o to)) (ha:Bx (PA X (e::es) t)) (hbase:PySem.attributeBase o name X.env (PySem.eval o X.env)=PySem.eval o X.env) (hfew:((((PySem.backTo cpos (qAF (e::es) X.env)).all λ(x:Bool×PySem.Sem Value)=>!x.fst)&&(PySem.backToKw cpos (PySem.keywordEach [] X.env)).all λ(x:Option Str×PySem.Sem Value)=>x.fst.isSome)&&Decidable.decide (((e::es).length+([]:List Keyword).length+if([]:List Keyword).isEmpty=Bool.true then 0 else 1)<30))=Bool.true) (hline:(apos.endLine==cpos.line)=Bool.true) (hs:qAF (e::es) X.env=(Bool.false,PySem.eval e X.env)::qAF es X.env) (hplain:((PySem.backTo cpos (qAF es X.env)).any λ(x:Bool×PySem.Sem Value)=>x.fst)=Bool.false):Bx (PE X ((o.Attribute name apos).Call (e::es) [] cpos) (L2.tBM K T r to t)):=⟨zapc hK pa slot hty hm ho.out ha.out hbase hfew hline hs hplain⟩
theorem zall {X:Cx} {a b:qP} {ta tb:TE} {pos:qb} {rest:List qP} (ha:Bx (PE X a ta)) (hb:Bx (PE X (qP.BoolOp PySem.BoolOp.And (b::rest) pos) tb)):Bx (PE X (qP.BoolOp PySem.BoolOp.And (a::b::rest) pos) (L2.tAndV ta tb)):=⟨zann ha.out hb.out⟩
theorem zagp{X:Cx}{pos:qb}:Bx (PPs X pos [] [] []):=⟨zakj⟩
theorem zach{X:Cx}{pos:qb}{k v:qP}{ks:List (Option qP)}{vs:List qP}{tk tv:TE}{trs:List (TE×TE)}(hk:Bx (PE X k tk))(hv:Bx (PE X v tv))(hr:Bx (PPs X pos ks vs trs)):Bx (PPs X pos (Option.some k::ks) (v::vs) ((tk,tv)::trs)):=⟨zafg hk.out hv.out hr.out⟩
theorem zbs{X:Cx}{K:qC}(hK:X.K=K){tg l:qP}{tl:TE}(hl:Bx (PE X l tl)):Bx (PI X tg l (L2.iSeq K tl)):=⟨zale hK hl.out⟩
theorem zdk{X:Cx}{tg a:qP}{ta:TA}{p pos:qb}(hg:Gl X (qv "range"))(hm:X.mg (qv "range")=Option.none)(ha:Bx (PA X [a] ta))(hs:qAF [a] X.env=[(Bool.false,PySem.eval a X.env)]):Bx (PI X tg ((qP.Name (qv "range") p).Call [a] [] pos) (L2.iRng1 ta)):=⟨zzz hg hm ha.out hs⟩
theorem zge{X:Cx}:Bx (PF X [] L2.tAll):=⟨zaow⟩
theorem znp{X:Cx}{pos:qb}:Bx (PE X (qP.Dict [] [] pos) L2.tDNewK):=⟨zaff⟩
theorem zagq{X:Cx}{pos:qb}{keys:List (Option qP)}{values:List qP}{trs:List (TE×TE)}(h:Bx (PPs X pos keys values trs))(hall:(keys.all λ(x:Option qP)=>x.isSome)=Bool.true)(hl:keys.length=values.length)(h0:keys≠[])(h15:keys.length<=15):Bx (PE X (qP.Dict keys values pos) (L2.tDisp trs)):=⟨zakk h.out hall hl h0 h15⟩
theorem zqz{X:Cx}{c:qP}{t:TT}(h:Bx (PT X c t)):Bx (PF X [c] t):=⟨zaox h.out⟩
theorem zalm{X:Cx}{a:qP}{ta:TE}{pos:qb}(ha:Bx (PE X a ta)):Bx (PE X (qP.UnaryOp PySem.UnaryOp.Not a pos) (L2.tNotV ta)):=⟨zano ha.out⟩
theorem zif{X:Cx}{o i:qP}{pos:qb}{td ty:TE}(hu:X.A.units+1<PySem.cLine)(ho:Bx (PE X o td))(hi:Bx (PE X i ty))(hs:L2.NoSl i):Bx (PE X (o.Subscript i pos) (L2.tDGet td ty)):=⟨zakh hu ho.out hi.out hs⟩
theorem zra{X:Cx}{a:qP}{pos:qb}{tA:TT}(ha:Bx (PT X a tA)):Bx (PW X (qP.BoolOp PySem.BoolOp.And [a] pos) tA):=⟨zajo ha.out⟩
theorem zve {X:Cx} {a b:qP} {pos:qb} {tA tB':TT} {rest:List qP} (ha:Bx (PT X a tA)) (hb:Bx (PW X (qP.BoolOp PySem.BoolOp.And (b::rest) pos) tB')):Bx (PW X (qP.BoolOp PySem.BoolOp.And (a::b::rest) pos) (L2.tAnd tA tB')):=⟨zank ha.out hb.out⟩
theorem zaci{X:Cx}{st:Stmt}:Bx (PS X st L2.tNever):=⟨zaes⟩
theorem zxh{X:Cx}{o i value:qP}{pos pos':qb}{td ty tv:TE}(hu:X.A.units+1<PySem.cLine)(ho:Bx (PE X o td))(hi:Bx (PE X i ty))(hv:Bx (PE X value tv))(hs:PySem.swapsWith value (Option.some (o.Subscript i pos')) pos.line X.env=Pure.pure Bool.false):Bx (PS X (PySem.Stmt.Assign [o.Subscript i pos'] value pos) (L2.sDPut td ty tv)):=⟨zaki hu ho.out hi.out hv.out hs⟩
theorem zacj {X:Cx} {scope:Scope} {N' own:List Str} {fr:List Nat} {elt target iter:qP} {ifs:List qP} {cpos:qb} {wi:TI} {g:TG} {tt:TT} {te:TE} {spos py:qb} {i:Nat} {y:Str} (c:L2.CompOk X scope N' own fr) (hc:X.calm=Bool.true) (hi:Bx (PI X target iter wi)) (hb:(∀(cl:List (Str×Addr))(C:Addr)(s:Shared)(H:Hp)(fp:List Addr),PG (cxComp X scope N' own cl C s H fp) target g/\PF (cxComp X scope N' own cl C s H fp) ifs tt/\PE (cxComp X scope N' own cl C s H fp) elt te)) (hsw:PySem.swapsWith (elt.ListComp [{target:=target,iter:=iter,ifs:=ifs,is_async:=0}] scope cpos) (Option.some (qP.Name y py)) spos.line X.env=Pure.pure Bool.true) (hN:X.N.Nodup) (hy:X.N[i]?=Option.some y) (hl:List.lookup y X.env.scope.names=Option.some PySem.NameKind.local) (hs:(∀(x:Value),PySem.foldedSetIterable iter X.env x=Pure.pure x)):Bx (PS X (PySem.Stmt.Assign [qP.Name y py] (elt.ListComp [{target:=target,iter:=iter,ifs:=ifs,is_async:=0}] scope cpos) spos) (L2.tAsgC1 wi g tt te own fr i)):=⟨zafu c hc hi.out hb hsw hN hy hl hs⟩
theorem zst{X:Cx}{K:qC}(hK:X.K=K){a:qP}{ta:TA}{p pos:qb}{elts:List qP}{x1:Nat}{tpos:qb}(hg:Gl X (qv "enumerate"))(hm:X.mg (qv "enumerate")=Option.none)(ha:Bx (PA X [a] ta))(hs:qAF [a] X.env=[(Bool.false,PySem.eval a X.env)]):Bx (PI X (qP.Tuple elts x1 tpos) ((qP.Name (qv "enumerate") p).Call [a] [] pos) (L2.iEnumX K ta)):=⟨zagm hK hg hm ha.out hs⟩
theorem zig{X:Cx}:Bx (PGs X [] L2.gNil):=⟨zajt⟩
theorem zce {X:Cx} {e:qP} {es:List qP} {t:TG} {u:L2.TGs} (h1:Bx (PG X e t)) (h2:Bx (PGs X es u)) (hs:List.map (λ(x:Bool×(Value->PySem.Sem Unit))=>x.snd) (PySem.assignEach (e::es) X.env)=PySem.assign e X.env::List.map (λ(x:Bool×(Value->PySem.Sem Unit))=>x.snd) (PySem.assignEach es X.env)):Bx (PGs X (e::es) (L2.gCons t u)):=⟨zaet h1.out h2.out hs⟩
theorem zih {X:Cx} {K:qC} (hK:X.K=K) {es:List qP} {k:Nat} {t:L2.TGs} {n:Nat} {pos:qb} (hc:X.calm=Bool.true) (h:Bx (PGs X es t)) (hn:(PySem.assignEach es X.env).length=n) (hst:List.findIdx? (λ(x:Bool×(Value->PySem.Sem Unit))=>x.fst) (PySem.assignEach es X.env)=Option.none):Bx (PG X (qP.Tuple es k pos) (L2.gTup K n t)):=⟨zakw hK hc h.out hn hst⟩
theorem zack {X:Cx} {scope:Scope} {N' own:List Str} {fr:List Nat} {elt target iter target2 iter2:qP} {ifs ifs2:List qP} {cpos:qb} {wi wi2:TI} {g g2:TG} {tt tt2:TT} {te:TE} (c:L2.CompOk X scope N' own fr) (hc:X.calm=Bool.true) (hi:Bx (PI X target iter wi)) (hb:(∀(cl:List (Str×Addr))(C:Addr)(s:Shared)(H:Hp)(fp:List Addr),PG (cxComp X scope N' own cl C s H fp) target g/\PF (cxComp X scope N' own cl C s H fp) ifs tt/\PI (cxComp X scope N' own cl C s H fp) target2 iter2 wi2/\PG (cxComp X scope N' own cl C s H fp) target2 g2/\PF (cxComp X scope N' own cl C s H fp) ifs2 tt2/\PE (cxComp X scope N' own cl C s H fp) elt te)) (hs:(∀(x:Value),PySem.foldedSetIterable iter X.env x=Pure.pure x)) (hs2:(∀(env:PySem.Env)(x:Value),PySem.foldedSetIterable iter2 env x=Pure.pure x)):Bx (PE X (elt.ListComp [{target:=target,iter:=iter,ifs:=ifs,is_async:=0},{target:=target2,iter:=iter2,ifs:=ifs2,is_async:=0}] scope cpos) (L2.tComp2 wi g tt wi2 g2 tt2 te own fr)):=⟨zagh c hc hi.out hb hs hs2⟩
theorem zrb{X:Cx}{o i:qP}{td ty:TE}(hu:X.A.units+1<PySem.cLine)(hi:Bx (PE X i ty))(ho:Bx (PE X o td)):Bx (L2.PC X PySem.CmpOp.In i o (L2.tDIn ty td)):=⟨zaon hu hi.out ho.out⟩
theorem zacl{X:Cx}{a b:qP}{pos:qb}{op:PySem.CmpOp}{t:TE}(h:Bx (L2.PC X op a b t))(h1:PySem.behindInMarks op b=Bool.false):Bx (PE X (a.Compare [op] [b] pos) t):=⟨zanh h.out h1⟩
theorem zacm{X:Cx}{a b:qP}{pos:qb}{op:PySem.CmpOp}{t:TE}(h:Bx (L2.PC X op a b t))(h1:PySem.behindInMarks op b=Bool.false):Bx (PT X (a.Compare [op] [b] pos) (L2.tB t)):=⟨zani h.out h1⟩
theorem bv{X:Cx}(i:Nat){x:Str}{pos:Pos}(hN:X.N[i]?=some x:=by rfl)(hv:visB X.env.scope x=true:=by rfl)(hd:(x==("__debug__":Str))=false:=by decide)
  (hcd:(x==("__classdict__":Str))=false:=by decide):Bx (PE X (.Name x pos) (tVar i)):=⟨zane hN (visB.of hv) hd hcd⟩
theorem zxi{X:Cx}{i:Nat}{o k e:Expr}{tk tv:TE}{pos pos':Pos}(ho:Bx (PE X o (tVar i)))(hk:Bx (PE X k tk))(hv:Bx (PE X e tv))
  (ha:∀v,assign (.Subscript o k pos') X.env v=(do
   let ov <- holding [v] (eval o X.env)
   let iv <- holding [v,ov] (eval k X.env)
   standAt pos'
   holding [v,ov,iv] (setItem ov iv v)
   release [v,ov,iv] []))
  (hs:swapsWithSole [.Subscript o k pos'] e pos.line X.env=pure false)(hw:swappedStores [.Subscript o k pos'] e X.env=pure none)(h1:(assignEach [.Subscript o k pos'] X.env).map (·.2)=[assign (.Subscript o k pos') X.env]) :
  Bx (PS X (.Assign [.Subscript o k pos'] e pos) (tAsg tv (gSub (tVar i) tk zake))):=⟨zans hv.out (zanr ho.out hk.out zafb ha) hs hw h1⟩
noncomputable def SatK(fx:Addr->Prop)(H0:Hp)(J:Nat->Prop)(σ0:St)(D:Ends):Out->Prop
 | .nx env=>∀σ H,EnvOk fx H0 env σ H->(∀j,J j->σ[j]?=σ0[j]?)->D.nx σ H
 | .bk env=>∀σ H,EnvOk fx H0 env σ H->(∀j,J j->σ[j]?=σ0[j]?)->D.bk σ H
 | .ct env=>∀σ H,EnvOk fx H0 env σ H->(∀j,J j->σ[j]?=σ0[j]?)->D.ct σ H
 | .rt d fr=>∀v H,Same H0 H->zso fx H0 d fr v H->D.rt v H
noncomputable def SSk(J:Nat->Prop)(ts:TS)(F:SF):Prop:=∀(fx:Addr->Prop)(H0:Hp)(env:DEnv)(σ:St)(H:Hp)(D:Ends),EnvOk fx H0 env σ H->∀o,F env=some o->SatK fx H0 J σ D o->ts D σ H
section
variable{J:Nat->Prop}
theorem zbt{te:TE}{f:EF}{i:Nat}(h1:SE te f)(hJ:¬J i):SSk J (tAsg te (gName i)) (sSet i f):=by
 intro fx H0 env σ H D h o e q
 unfold sSet at e
 obtain⟨r,er,rfl⟩:=qH.mp e
 exact h1 fx H0 env σ H h r er _ λv H' s hv=>q _ H' (h.put s hv i) λj hj=>qN λz=>hJ (by rw[z];exact hj)
theorem zxj{i:Nat}{tk tv:TE}{fk fv:EF}(h1:SE tk fk)(h2:SE tv fv):SSk J (tAsg tv (gSub (tVar i) tk zake)) (zvb i fk fv):=by
 intro fx H0 env σ H D h o e q
 unfold zvb at e
 split at e
 ·rename_i ds ei
  obtain⟨r,er,e⟩:=qA.mp e
  obtain⟨⟨kd,kfr,kbs⟩,ek,e⟩:=qA.mp e
  cases kd with
  | int z=>
   have e:((ixN ds.length z).bind λj=>if i∉r.bs then some (Out.nx ((frzs env r.bs).set i (.ac (.list (ds.set j r.d)))))else none)=some o:=e
   obtain⟨j,ej,e⟩:=qA.mp e
   split at e
   ·rename_i hl
    cases e
    obtain⟨a,g1,g2,g3,g4⟩:=h.ac i _ ei
    obtain⟨xs,hx,rx⟩:=g4
    refine h2 fx H0 env σ H h r er _ λv H' s hv=>⟨_,g1,h1 fx H0 env σ H' (h.up s) _ ek _ λu H2 s2 hk=>?_⟩
    cases zbz hk.rp
    have t2:=s.trans s2
    have h':=(h.up t2).frzs r.bs
    have ei':=zet hl ei
    have hx':=t2 _ _ hx
    have rx':Rps (Offs (λb=>fx b\/own (frzs env r.bs) σ b) H2) ds xs:=by
     obtain⟨a',z1,_,_,z4⟩:=h'.ac i _ ei'
     rw[g1]at z1
     cases z1
     obtain⟨ys,y1,y2⟩:=z4
     rw[hx']at y1
     cases y1
     exact y2
    refine⟨a,xs,z,j,rfl,rfl,hx',by rw[<- rx.length];exact ej,?_⟩
    exact q σ _ (h'.mut ei' g1 ⟨_,zao,rx'.setAt (Rp.same (Offs.sub zch) _ (hv.later (Same.refl _) s2 λ_ z=>z).rp) j⟩) λ_ _=>rfl
   ·cases e
  | _=>cases e
 ·cases e
noncomputable def SGk(J:Nat->Prop)(g:TG)(f:GT):Prop:=∀(fx:Addr->Prop)(H0:Hp)(env:DEnv)(σ:St)(H:Hp)(d:PyData)(v:V),EnvOk fx H0 env σ H->Rp (Offs (λa=>fx a\/own env σ a) H) d v->∀env',f d env=some env'->∀Q:St->Hp->Prop,
 (∀σ',EnvOk fx H0 env' σ' H->(∀j,J j->σ'[j]?=σ[j]?)->Q σ' H)->g v σ H Q
theorem zfv{i:Nat}(hJ:¬J i):SGk J (gName i) (gN i):=by
 intro fx H0 env σ H d v h r env' e Q q
 cases e
 exact q _ (h.setPl i r) λj hj=>qN λz=>hJ (by rw[z];exact hj)
end
noncomputable def zpt(n:Nat)(d:PyData)(ds:List PyData):DEnv:=.ac d::zhg (n - 1) ds
theorem zyz{fx:Addr->Prop}{H:Hp}{N:List Str}{a:Addr}{d:PyData}{ds:List PyData}{vs:List V}(hN:0<N.length)(hf:∀b,fx b->∃o,H b=some o)(na:¬fx a)
  (ac:zci (Offs (λb=>fx b\/b=a) H) H a d) (r:Rps (Offs (λb=>fx b\/b=a) H) ds vs):EnvOk fx (Offs (λb=>b=a) H) (zpt N.length d ds) (zdw N (.ref a::vs)) H:=by
 have no:∀(i:Nat)(e:PyData),(zpt N.length d ds)[i]?=some (Sl.ac e)->i=0/\e=d:=λi e h=>by
  cases i with
  | zero=>cases h;exact⟨rfl,rfl⟩
  | succ i=>
   have h:(zhg (N.length - 1) ds)[i]?=some (Sl.ac e):=h
   rcases zjt h with⟨d',_,z⟩|z<;>cases z
 have s0:(zdw N (.ref a::vs))[0]?=some (some (.ref a)):=by unfold zdw;rfl
 have ow:∀b,own (zpt N.length d ds) (zdw N (.ref a::vs)) b->b=a:=by
  rintro b ⟨i,e,h1,h2⟩
  obtain⟨rfl,_⟩:=no i e h1
  rw[s0]at h2
  cases h2
  rfl
 have so:Same (Offs (λb=>fx b\/b=a) H) (Offs (λb=>fx b\/own (zpt N.length d ds) (zdw N (.ref a::vs)) b) H):=Offs.sub λb z=>z.imp id (ow b)
 refine⟨?_,λi e h=>?_,λi e h=>?_,λi j e e' b h1 h2 _ _=>?_,Offs.same _ _,hf⟩
 ·unfold zpt zhg zdw
  rw[qj,qQ,qQ,qD,qD,qA0,qA0,r.length,qj]
  omega
 ·cases i with
  | zero=>cases h
  | succ i=>
   have h:(zhg (N.length - 1) ds)[i]?=some (Sl.pl e):=h
   rcases zjt h with⟨d',hd,z⟩|z
   ·cases z
    obtain⟨v,hv,rv⟩:=r.get2 hd
    refine⟨v,?_,Rp.same so _ rv⟩
    unfold zdw
    have hi:i<vs.length:=(qM.mp hv).1
    rw[qk (by simpa using hi),qV,qAJ,hv];rfl
   ·cases z
 ·obtain⟨rfl,rfl⟩:=no i e h
  exact⟨a,s0,Offs.out rfl,na,ac.same so λo z=>z⟩
 ·rw[(no i e h1).1,(no j e' h2).1]
end L2
namespace HT
open PySem PySem.Spec PyProof.Rows L2
section
variable{prog:Program}{w:World}{A:Around}{E:Value->Shared->Prop}{s:Shared}
theorem getItem_tuple_whole{t sl:Addr}{items:Array Value}{vl vu:Value}{lo hi:Option Int}{Q:Value->Shared->Prop}(ht:IsTup s.heap t items)(hs:s.heap.IsSliceOf sl vl vu .none)(pl:IsPart vl lo)(pu:IsPart vu hi)
  (hw:sIx items.size 0 lo=0/\sIx items.size items.size hi=items.size) (h:Q (.ref t) s):wpAny (model prog w) A (getItem (.ref t) (.ref sl)) Q E s:=by
 obtain⟨os,hos,hcs,hds⟩:=id hs
 have hTs:s.TypeIs (.ref sl) "slice":=⟨os,hos,hcs⟩
 unfold getItem
 try with_reducible refine qAU ?_
 first|refine qB (qE ?_)|skip
 refine qB (qBm ht.typeIs (by decide) ?_)
 refine qB (qAE (name:=Str.ofString "__getitem__") ht.typeIs qAI
  (qAV qAI ht.typeIs entry_tuple_getitem ?_ (args_tuple_getitem _ _)))
 show wpAny _ _ (Builtin.Tuple.tupleItemsOf (.ref t) >>=_) _ _ s
 refine qB (tupleItemsOf_ ht ?_)
 refine qB (wpAny_typeOf hTs ?_)
 rw[if_pos (by decide)]
 refine qB (zhe hs pl pu ?_)
 have hyes:(((sIx items.size 0 lo:Nat):Int)==0&&(1:Int)==1&&(sIx items.size items.size hi - sIx items.size 0 lo)==items.size)=true:=by
  rw[hw.1,hw.2];simp
 show wpAny _ _ (if(((sIx items.size 0 lo:Nat):Int)==0&&(1:Int)==1&&(sIx items.size items.size hi - sIx items.size 0 lo)==items.size)=true then _ else _) _ _ s
 rw[if_pos hyes]
 unfold Builtin.Tuple.tupleIsExact
 refine qB (qB (wpAny_typeOf ht.typeIs (qE ?_)))
 rw[if_pos (by decide)]
 refine qB (qBX ?_)
 first
  | exact qE ⟨_,rfl,qE h⟩
  | exact qB (qE (qE ⟨_,rfl,qE h⟩))
  | exact qB (qE (qB (qE (qE ⟨_,rfl,qE h⟩))))
end
end HT
namespace L2
open PySem PySem.Spec PyProof.Rows
noncomputable def rSlW(K:qC):V->Option Int->Option Int->Hp->VK->Prop:=λx lo hi H Q=>∃a xs,x=.ref a/\SqT K H a xs/\
 ((HT.sIx xs.length 0 lo=0/\HT.sIx xs.length xs.length hi=xs.length)->Q (.ref a) H)/\(¬(HT.sIx xs.length 0 lo=0/\HT.sIx xs.length xs.length hi=xs.length)->∀p,H p=none->Q (.ref p) (upd H p (.tup (cutV xs lo hi))))
theorem sl_W{X:Cx}{K:qC}(hK:X.K=K):SlR X (rSlW K):=by
 subst hK
 intro pins s σ H x v vl vu lo hi sl Q I rx hs pl pu h
 obtain⟨a,xs,rfl,hx,q1,q2⟩:=h
 by_cases hw:HT.sIx xs.length 0 lo=0/\HT.sIx xs.length xs.length hi=xs.length
 ·cases rx
  obtain⟨its,r,ht,hz⟩:=I.tuple hx
  have hlen:its.toArray.size=xs.length:=by rw[qO];exact r.length.symm
  refine⟨"tuple",_,qAI.lookup,ht.typeIs,?_⟩
  exact HT.getItem_tuple_whole ht hs pl pu (by rw[hlen];exact hw) ⟨.ref a,H,I,rfl,q1 hw⟩
 ·exact zaoe pins s σ H _ v vl vu lo hi sl Q I rx hs pl pu ⟨a,xs,rfl,hx,hw,q2 hw⟩
noncomputable def eSlT(a:EF)(l h:PF'):EF:=λenv=>(a env).bind λx=>(l env).bind λlo=>(h env).bind λhi=>match x.d with
 | .tuple ds=>some ⟨.tuple (cutD ds lo hi),false,x.bs⟩
 | _=>none
theorem zaps{K:qC}{te:TE}{tl th:TO}{f:EF}{fl fh:PF'}(h1:SE te f)(h2:SPt tl fl)(h3:SPt th fh):SE (tSl (rSlW K) te tl th) (eSlT f fl fh):=by
 intro fx H0 env σ H h rr hr Q q
 unfold eSlT at hr
 obtain⟨⟨d,frd,bs⟩,ex,hr⟩:=qA.mp hr
 obtain⟨lo,el,hr⟩:=qA.mp hr
 obtain⟨hi,eh,hr⟩:=qA.mp hr
 cases d with
 | tuple ds=>
  cases hr
  refine h1 fx H0 env σ H h _ ex _ λv H1 s1 v1=>h2 fx H0 env σ H1 (h.up s1) _ el _ λH2 s2=>h3 fx H0 env σ H2 (h.up (s1.trans s2)) _ eh _ λH3 s3=>?_
  have v3:=(v1.later (Same.refl _) (s2.trans s3) λ_ z=>z).rp
  have t3:=(s1.trans s2).trans s3
  obtain⟨p,xs,rfl,hp,r⟩:=zcg v3
  refine⟨p,xs,rfl,SqT.of (zbw hp),λhw=>q _ _ t3 ⟨?_,λz=>by cases z⟩,λ_ l hl=>q _ _ (t3.trans (Same.new hl)) ⟨?_,λz=>by cases z⟩⟩
  ·have e:cutD ds lo hi=ds:=by
    unfold cutD
    rw[r.length,hw.1,hw.2,List.drop_zero,qCr,qAt (by rw[r.length];exact qK _)]
   show Rp _ (.tuple (cutD ds lo hi)) _
   rw[e]
   exact v3
  ·have hA:=(h.up t3).lims bs
   exact znf hl (zcu hA hl) (r.cut lo hi)
 | _=>cases hr
structure MvF(f:Nat)(env env':DEnv)(σ:St)(H H':Hp):Prop where
 rest:∀(j:Nat)(d:PyData),j≠f->env'[j]?=some (.ac d)->env[j]?=some (.ac d)
 at0:∃d,env[f]?=some (.ac d)
 at1:∃d,env'[f]?=some (.ac d)
 keep:∀b o,σ[f]?≠some (some (.ref b))->H b=some o->H' b=some o
 live:∀b o,H b=some o->∃o',H' b=some o'
theorem MvF.same{f:Nat}{env:DEnv}{σ:St}{H H':Hp}(h:∃d,env[f]?=some (.ac d))(s:Same H H'):MvF f env env σ H H':=⟨λ_ _ _ e=>e,h,h,λb o _ e=>s b o e,λb o e=>⟨o,s b o e⟩⟩
theorem MvF.trans{f:Nat}{env e1 e2:DEnv}{σ:St}{H H1 H2:Hp}(a:MvF f env e1 σ H H1)(b:MvF f e1 e2 σ H1 H2):MvF f env e2 σ H H2:=
 ⟨λj d hj e=>a.rest j d hj (b.rest j d hj e),a.at0,b.at1,λx o n e=>b.keep x o n (a.keep x o n e),λx o e=>let⟨o',e'⟩:=a.live x o e;b.live x o' e'⟩
theorem MvF.lim{f:Nat}{env env':DEnv}{σ:St}{H H':Hp}(m:MvF f env env' σ H H'){fx:Addr->Prop}{bs:List Nat}:∀b,L2.lim fx env' σ bs b->L2.lim fx env σ bs b:=by
 rintro b (z|⟨i,d,h1,h2,h3⟩)
 ·exact .inl z
 ·by_cases hi:i=f
  ·obtain⟨d0,e0⟩:=m.at0
   exact .inr ⟨i,d0,h1,by rw[hi];exact e0,h3⟩
  ·exact .inr ⟨i,d,h1,m.rest i d hi h2,h3⟩
theorem MvF.free{f:Nat}{env env':DEnv}{σ:St}{H H':Hp}(m:MvF f env env' σ H H'){b:Addr}(h:H' b=none):H b=none:=by
 cases e:H b with
 | none=>rfl
 | some o=>obtain⟨o',e'⟩:=m.live b o e;rw[h]at e';cases e'
theorem MvF.val{f:Nat}{env env':DEnv}{σ:St}{H0 H H':Hp}(m:MvF f env env' σ H H'){fx:Addr->Prop}{r:Val}{v:V}(hf:f∉r.bs)(h:ValOk (L2.lim fx env σ r.bs) H0 H r v)(hs:∀a,H0 a=none->σ[f]?≠some (some (.ref a))) :
  ValOk (L2.lim fx env' σ r.bs) H0 H' r v:=by
 obtain⟨d0,e0⟩:=m.at0
 have so:∀(C:Addr->Prop),Same (Offs (λb=>L2.lim fx env σ r.bs b\/C b) H) (Offs (λb=>L2.lim fx env' σ r.bs b\/C b) H'):=λC b o e=>by
  obtain⟨n,e⟩:=Offs.of e
  rw[Offs.get λz=>n (z.imp (m.lim b) id)]
  exact m.keep b o (λz=>n (.inl (.inr ⟨f,d0,hf,e0,z⟩))) e
 refine⟨Rp.same (λb o e=>?_) _ h.rp,λz=>?_⟩
 ·have:=so (λ_=>False) b o (by rw[<- e];congr 1;funext x;simp)
  rw[<- this];congr 1;funext x;simp
 ·obtain⟨a,h1,h2,h3⟩:=h.fr z
  exact⟨a,h1,h2,h3.same (so λb=>b=a) λo e=>m.keep a o (hs a h2) e⟩
noncomputable abbrev EFf:=DEnv->Option (Val×DEnv)
noncomputable def zapt(fx:Addr->Prop)(H0:Hp)(env:DEnv)(σ:St)(H:Hp)(r:Val)(v:V):Prop:=r.fr=true->∃a,v=.ref a/\EnvOk (λb=>fx b\/b=a) H0 env σ H
theorem EnvOk.new{fx:Addr->Prop}{H0:Hp}{env:DEnv}{σ:St}{H H':Hp}(h:EnvOk fx H0 env σ H)(s:Same H H'){a:Addr}(ha:H a=none)(hx:∃o,H' a=some o):EnvOk (λb=>fx b\/b=a) H0 env σ H':=
 h.grow s (λb o eo n z=>z.elim n λy=>by rw[y,ha]at eo;cases eo) λb z=>by
  rcases z with z|z
  ·obtain⟨o,eo⟩:=h.fxs b z;exact⟨o,s b o eo⟩
  ·rw[z];exact hx
noncomputable def SEf(f:Nat)(te:TE)(g:EFf):Prop:=∀(fx:Addr->Prop)(H0:Hp)(env:DEnv)(σ:St)(H:Hp),EnvOk fx H0 env σ H->∀r env',g env=some (r,env')->∀Q:VK,
 (∀v H',MvF f env env' σ H H'->EnvOk fx H0 env' σ H'->f∉r.bs->ValOk (lim fx env' σ r.bs) H H' r v->zapt fx H0 env' σ H' r v->Q v H')->te σ H Q
noncomputable def zaj(f:Nat)(g:EF):EFf:=λenv=>match env[f]? with
 | some (.ac _)=>(g env).bind λr=>if f∉r.bs then some (r,env)else none
 | _=>none
theorem zan{f:Nat}{te:TE}{g:EF}(h:SE te g):SEf f te (zaj f g):=by
 intro fx H0 env σ H hE r env' e Q q
 unfold zaj at e
 split at e
 ·rename_i d0 e0
  obtain⟨r',er,e⟩:=qA.mp e
  split at e
  ·rename_i hf
   cases e
   exact h fx H0 env σ H hE r er Q λv H' s hv=>q v H' (MvF.same ⟨_,e0⟩ s) (hE.up s) hf hv λz=>let⟨a,h1,h2,h3⟩:=hv.fr z;⟨a,h1,hE.new s h2 h3.ex⟩
  ·cases e
 ·cases e
theorem EnvOk.notNew{fx:Addr->Prop}{H0:Hp}{env:DEnv}{σ:St}{H:Hp}(h:EnvOk fx H0 env σ H){f:Nat}(e:∃d,env[f]?=some (.ac d)):∀a,H a=none->σ[f]?≠some (some (.ref a)):=λa ha z=>by
 obtain⟨d,e⟩:=e
 obtain⟨b,g1,_,_,g4⟩:=h.ac f d e
 rw[z]at g1
 cases g1
 obtain⟨o,eo⟩:=g4.ex
 rw[ha]at eo;cases eo
noncomputable def fOp(w:OF)(a b:EFf):EFf:=λenv=>(a env).bind λx=>(b x.2).bind λy=>(w x.1.d y.1.d).bind λz=>some (⟨z.1,z.2,bsOf z.1 (x.1.bs++y.1.bs)⟩,y.2)
theorem zjx{d:PyData}{bs:List Nat}{i:Nat}(h:i∉bs):i∉bsOf d bs:=by unfold bsOf;split<;>simp[h]
theorem ziw{f:Nat}{r:R2}{w:OF}{ta tb:TE}{fa fb:EFf}(ho:SO r w)(ha:SEf f ta fa)(hb:SEf f tb fb):SEf f (tOp r ta tb) (fOp w fa fb):=by
 intro fx H0 env σ H h rr env' hr Q q
 unfold fOp at hr
 obtain⟨⟨x,e1⟩,ex,hr⟩:=qA.mp hr
 obtain⟨⟨y,e2⟩,ey,hr⟩:=qA.mp hr
 obtain⟨⟨d,fr⟩,ez,hr⟩:=qA.mp hr
 cases hr
 refine ha fx H0 env σ H h x e1 ex _ λv H1 m1 k1 n1 v1 _=>hb fx H0 e1 σ H1 k1 y e2 ey _ λu H2 m2 k2 n2 v2 _=>?_
 have l1:∀b,lim fx e2 σ (x.bs++y.bs) b->lim fx e2 σ x.bs b:=zho λi hi=>qi _ hi
 have l2:∀b,lim fx e2 σ (x.bs++y.bs) b->lim fx e2 σ y.bs b:=zho λi hi=>qY _ hi
 have v1':=m2.val n1 v1 (h.notNew m1.at0)
 refine ho (lim fx e2 σ (x.bs++y.bs)) H2 v u x.d y.d (k2.lims _) (v1'.later (Same.refl _) (Same.refl _) l1).rp (v2.later (Same.refl _) (Same.refl _) l2).rp d fr ez _ λz H3 s3 rp fr3=>q z H3 ((m1.trans m2).trans (MvF.same m2.at1 s3)) (k2.up s3) (zjx λhm=>(qh.mp hm).elim n1 n2) ⟨zgt rp,λe=>?_⟩ λe=>let⟨a,g1,g2,g3⟩:=fr3 e;⟨a,g1,k2.new s3 g2 g3.ex⟩
 obtain⟨a,g1,g2,g3⟩:=fr3 e
 refine⟨a,g1,(m1.trans m2).free g2,?_⟩
 have nf:zdx d=false:=by cases d<;>first|rfl|exact g3.elim
 show zci (Offs (λb=>lim fx e2 σ (bsOf d (x.bs++y.bs)) b\/b=a) H3) H3 a d
 rw[show bsOf d (x.bs++y.bs)=x.bs++y.bs by unfold bsOf;rw[if_neg (by rw[nf];decide)]]
 exact g3
noncomputable abbrev AFf:=DEnv->Option (List Val×DEnv)
noncomputable def SAf(f:Nat)(ta:TA)(g:AFf):Prop:=∀(fx:Addr->Prop)(H0:Hp)(env:DEnv)(σ:St)(H:Hp),EnvOk fx H0 env σ H->∀rs env',g env=some (rs,env')->∀Q:List V->Hp->Prop,
 (∀vs H',MvF f env env' σ H H'->EnvOk fx H0 env' σ H'->f∉bss rs->Paired (λr v=>ValOk (lim fx env' σ r.bs) H H' r v) rs vs->Q vs H')->ta σ H Q
noncomputable def fNil(f:Nat):AFf:=λenv=>match env[f]? with
 | some (.ac _)=>some ([],env)
 | _=>none
theorem zaz{f:Nat}:SAf f tNil (fNil f):=by
 intro fx H0 env σ H hE rs env' e Q q
 unfold fNil at e
 split at e
 ·rename_i d0 e0
  cases e
  exact q [] H (MvF.same ⟨_,e0⟩ (Same.refl _)) hE (by simp[bss]) .nil
 ·cases e
noncomputable def zal(a:EFf)(r:AFf):AFf:=λenv=>(a env).bind λx=>(r x.2).map λy=>(x.1::y.1,y.2)
theorem ValOk.base{A:Addr->Prop}{H H1 H':Hp}{r:Val}{v:V}(h:ValOk A H1 H' r v)(b:∀a,H1 a=none->H a=none):ValOk A H H' r v:=⟨h.rp,λe=>let⟨a,h1,h2,h3⟩:=h.fr e;⟨a,h1,b a h2,h3⟩⟩
theorem zaq{f:Nat}{te:TE}{ta:TA}{g:EFf}{gs:AFf}(h1:SEf f te g)(h2:SAf f ta gs):SAf f (tCons te ta) (zal g gs):=by
 intro fx H0 env σ H h rs env' hr Q q
 unfold zal at hr
 obtain⟨⟨x,e1⟩,ex,hr⟩:=qA.mp hr
 obtain⟨⟨xs,e2⟩,exs,hr⟩:=qH.mp hr
 cases hr
 exact h1 fx H0 env σ H h x e1 ex _ λv H1 m1 k1 n1 v1 _=>h2 fx H0 e1 σ H1 k1 xs e2 exs _ λvs H2 m2 k2 n2 vs2=>q (v::vs) H2 (m1.trans m2) k2
  (λhm=>by
   have hm:f∈x.bs++bss xs:=hm
   exact(qh.mp hm).elim n1 n2)
  (.cons (m2.val n1 v1 (h.notNew m1.at0)) (Paired.mapP vs2 λ_ _ z=>z.base λa ha=>m1.free ha))
noncomputable abbrev GE:=PyData->List PyData->Option (PyData×Bool×PyData)
noncomputable def spF(n:Nat)(g:GE):Sp:=λvs H Q _=>∃(fx:Addr->Prop)(a:Addr)(vs':List V)(d0 d1 d:PyData)(fr:Bool)(ds:List PyData),vs=.ref a::vs'/\ds.length+1=n/\(∀b,fx b->∃o,H b=some o)/\¬fx a/\
 zci (Offs (λb=>fx b\/b=a) H) H a d0/\Rps (Offs (λb=>fx b\/b=a) H) ds vs'/\g d0 ds=some (d,fr,d1)/\
 ∀v H',(∀b o,b≠a->H b=some o->H' b=some o)->zci (Offs (λb=>fx b\/b=a) H') H' a d1->zso (λb=>fx b\/b=a) H d fr v H'->Q v H'
noncomputable def zsu:PyData->Bool
 | .list ds=>zcd ds
 | _=>false
theorem zxk{Ho Ho' H:Hp}{a:Addr}{d:PyData}(f:zsu d=true)(h:zci Ho H a d):zci Ho' H a d:=by
 unfold zsu at f
 split at f
 ·obtain⟨xs,h1,r⟩:=h
  exact⟨xs,h1,zfi f r⟩
 ·cases f
noncomputable def zam(f n:Nat)(g:GE)(a:AFf):EFf:=λenv=>match env[f]? with
 | some (.ac _)=>(a env).bind λx=>(match x.2[f]? with
  | some (.ac d0)=>if x.1.length+1=n then(g d0 (zft x.1)).bind λz=>if zsu z.2.2=true then some (⟨z.1,z.2.1,bsOf z.1 (bss x.1)⟩,(frzs x.2 (bss x.1)).set f (.ac z.2.2))else none else none
  | _=>none)
 | _=>none
theorem zav{f n:Nat}{g:GE}{ta:TA}{a:AFf}(ha:SAf f ta a):SEf f (tCall (spF n g) [] E0 (tCons (tVar f) ta)) (zam f n g a):=by
 intro fx H0 env σ H h rr env' hr Q q
 unfold zam at hr
 split at hr
 ·rename_i dd edd
  obtain⟨⟨rs,e1⟩,er,hr⟩:=qA.mp hr
  have hr:(match e1[f]? with
   | some (.ac d0)=>if rs.length+1=n then(g d0 (zft rs)).bind λz=>if zsu z.2.2=true then some ((⟨z.1,z.2.1,bsOf z.1 (bss rs)⟩:Val),(frzs e1 (bss rs)).set f (.ac z.2.2))else none else none
   | _=>none)=some (rr,env'):=hr
  split at hr
  ·rename_i d0 ei
   split at hr
   ·rename_i hl
    obtain⟨⟨d,fr,d1⟩,eg,hr⟩:=qA.mp hr
    by_cases hfl0:zsu d1=true
    rotate_left
    ·rw[if_neg hfl0]at hr;cases hr
    rw[if_pos hfl0]at hr
    cases hr
    obtain⟨a0,g1,_,_,_⟩:=h.ac f _ edd
    refine⟨_,g1,ha fx H0 env σ H h rs e1 er _ λvs H1 m1 hE n1 hv=>?_⟩
    obtain⟨a,g1',g2,g3,g4⟩:=hE.ac f _ ei
    rw[g1]at g1'
    cases g1'
    refine⟨lim fx e1 σ (f::bss rs),a0,vs,d0,d1,d,fr,zft rs,by simp,by rw[zgk];exact hl,hE.lims _,?_,?_,?_,eg,λv H' fr' ac' ret=>?_⟩
    ·rintro(z|⟨j,d',z1,z2,z3⟩)
     ·exact g3 z
     ·exact z1 (qX.mpr (.inl (hE.inj j f d' d0 a0 z2 ei z3 g1)))
    ·exact g4.same (Offs.sub λb z=>z.elim (zhp b) λy=>by subst y;exact .inr ⟨f,_,ei,g1⟩) λo z=>z
    ·refine Rps.same (Offs.sub λb z=>?_) _ (zef (λi hi=>hi) hv)
     rcases z with z|z
     ·exact zho (λi hi=>qJ _ hi) b z
     ·subst z;exact .inr ⟨f,d0,n1,ei,g1⟩
    ·obtain⟨o0,eo0⟩:=g4.ex
     obtain⟨o1,eo1⟩:=ac'.ex
     have s2:Same H1 (upd H' a0 o0):=λb o eb=>by
      by_cases hb:b=a0
      ·subst hb
       rw[zao,<- eb,eo0]
      ·rw[zas hb];exact fr' b o hb eb
     have e2:upd (upd H' a0 o0) a0 o1=H':=by
      funext b
      by_cases hb:b=a0
      ·subst hb;rw[zao,eo1]
      ·rw[zas hb,zas hb]
     have hf:=(hE.up s2).frzs (bss rs)
     have ei':=zet n1 ei
     have sl:∀b,fx b\/own (frzs e1 (bss rs)) σ b->lim fx e1 σ (f::bss rs) b\/b=a0:=by
      rintro b (z|⟨j,d',z1,z2⟩)
      ·exact .inl (.inl z)
      ·obtain⟨z3,z4⟩:=zgu z1
       by_cases hj:j=f
       ·subst hj
        rw[g1]at z2
        cases z2
        exact .inr rfl
       ·exact .inl (.inr ⟨j,d',λhm=>(qX.mp hm).elim hj z4,z3,z2⟩)
     have r:zci (Offs (λb=>fx b\/own (frzs e1 (bss rs)) σ b) (upd H' a0 o0)) (upd (upd H' a0 o0) a0 o1) a0 d1:=by
      rw[e2,Offs.upd (.inr ⟨f,_,ei',g1⟩)]
      exact ac'.same (Offs.sub sl) λo z=>z
     have hE':=hf.mut ei' g1 r
     rw[e2]at hE'
     have hfl:f<(frzs e1 (bss rs)).length:=(qM.mp ei').1
     have rest:∀(j:Nat)(d':PyData),j≠f->((frzs e1 (bss rs)).set f (.ac d1))[j]?=some (.ac d')->e1[j]?=some (.ac d')/\j∉bss rs:=λj d' hj e=>by
      rw[qN λz=>hj z.symm]at e
      exact zgu e
     have lm:∀b,lim fx ((frzs e1 (bss rs)).set f (.ac d1)) σ (bss rs) b->lim fx e1 σ (f::bss rs) b\/b=a0:=by
      rintro b (z|⟨j,d',z1,z2,z3⟩)
      ·exact .inl (.inl z)
      ·by_cases hj:j=f
       ·subst hj
        rw[g1]at z3
        cases z3
        exact .inr rfl
       ·exact .inl (.inr ⟨j,d',λhm=>(qX.mp hm).elim hj z1,(rest j d' hj z2).1,z3⟩)
     refine q v H' ⟨λj d' hj e=>m1.rest j d' hj (rest j d' hj e).1,⟨_,edd⟩,⟨d1,qe hfl⟩,λb o nb eb=>fr' b o (λz=>nb (by rw[z];exact g1)) (m1.keep b o nb eb),λb o eb=>?_⟩ hE' (zjx n1) ⟨zgt (Rp.same (Offs.sub lm) _ ret.1),λe=>?_⟩ (λe=>?_)
     ·by_cases hb:b=a0
      ·exact⟨o1,by rw[hb];exact eo1⟩
      ·obtain⟨o',e'⟩:=m1.live b o eb
       exact⟨o',fr' b o' hb e'⟩
     ·obtain⟨c,q1,q2,q3⟩:=ret.2 e
      refine⟨c,q1,m1.free q2,?_⟩
      have nf:zdx d=false:=by cases d<;>first|rfl|exact q3.elim
      show zci (Offs (λb=>lim fx ((frzs e1 (bss rs)).set f (.ac d1)) σ (bsOf d (bss rs)) b\/b=c) H') H' c d
      rw[show bsOf d (bss rs)=bss rs by unfold bsOf;rw[if_neg (by rw[nf];decide)]]
      exact q3.same (Offs.sub λb z=>z.imp (lm b) id) λo z=>z
     ·obtain⟨c,q1,q2,q3⟩:=ret.2 e
      have hca:c≠a0:=λz=>by rw[z,eo0]at q2;cases q2
      have hx:∃o,(upd H' a0 o0) c=some o:=by rw[zas hca];exact q3.ex
      have hf2:=(hE.new s2 q2 hx).frzs (bss rs)
      have r2:zci (Offs (λb=>(fx b\/b=c)\/own (frzs e1 (bss rs)) σ b) (upd H' a0 o0)) (upd (upd H' a0 o0) a0 o1) a0 d1:=by
       rw[e2]
       exact zxk hfl0 ac'
      have:=hf2.mut ei' g1 r2
      rw[e2]at this
      exact⟨c,q1,this⟩
   ·cases hr
  ·cases hr
 ·cases hr
theorem EnvOk.putF{fx:Addr->Prop}{H0:Hp}{env:DEnv}{σ:St}{H H':Hp}(k:EnvOk fx H0 env σ H'){r:Val}{v:V}(hv:ValOk (lim fx env σ r.bs) H H' r v)(hn:zapt fx H0 env σ H' r v)(h0:Same H0 H)(hfx:∀b,fx b->∃o,H b=some o)(i:Nat):EnvOk fx H0 (putV env i r) (σ.set i (some v)) H':=by
 unfold putV slOf
 cases e:r.fr with
 | false=>
  rw[if_neg qI]
  exact(k.frzs r.bs).setPl i (Rp.same (Offs.sub zch) _ hv.rp)
 | true=>
  rw[if_pos rfl]
  obtain⟨a,rfl,ha,hacc⟩:=hv.fr e
  obtain⟨a',ea,g⟩:=hn e
  cases ea
  have nfx:¬fx a:=zcu hfx ha
  refine(g.frzs r.bs).setAc i (hacc.same (Offs.sub λb z=>?_) λo z=>z) (h0.free ha) nfx
  rcases z with z|z
  ·exact .inl (zch b z)
  ·exact .inr z
inductive OutF where
 | nx (env:DEnv)
 | bk (env:DEnv)
 | ct (env:DEnv)
 | rt (d:PyData) (fr:Bool) (env:DEnv)
noncomputable def RetF(fx:Addr->Prop)(H0:Hp)(env:DEnv)(σ:St)(d:PyData)(fr:Bool)(v:V)(H:Hp):Prop:=
 Rp (Offs (λa=>fx a\/own env σ a) H) d v/\(fr=true->∃a,v=.ref a/\H0 a=none/\¬own env σ a/\zci (Offs (λb=>(fx b\/own env σ b)\/b=a) H) H a d)
noncomputable def SatF(fx:Addr->Prop)(H0:Hp)(J:Nat->Prop)(σ0:St)(D:Ends):OutF->Prop
 | .nx env=>∀σ H,EnvOk fx H0 env σ H->(∀j,J j->σ[j]?=σ0[j]?)->D.nx σ H
 | .bk env=>∀σ H,EnvOk fx H0 env σ H->(∀j,J j->σ[j]?=σ0[j]?)->D.bk σ H
 | .ct env=>∀σ H,EnvOk fx H0 env σ H->(∀j,J j->σ[j]?=σ0[j]?)->D.ct σ H
 | .rt d fr env=>∀σ v H,EnvOk fx H0 env σ H->(∀j,J j->σ[j]?=σ0[j]?)->RetF fx H0 env σ d fr v H->D.rt v H
theorem SatF.move{fx:Addr->Prop}{H0:Hp}{J:Nat->Prop}{σ0 σ1:St}{D:Ends}{o:OutF}(h:SatF fx H0 J σ0 D o)(e:∀j,J j->σ1[j]?=σ0[j]?):SatF fx H0 J σ1 D o:=by
 cases o with
 | nx env=>exact λσ H hE k=>h σ H hE λj hj=>(k j hj).trans (e j hj)
 | bk env=>exact λσ H hE k=>h σ H hE λj hj=>(k j hj).trans (e j hj)
 | ct env=>exact λσ H hE k=>h σ H hE λj hj=>(k j hj).trans (e j hj)
 | rt d fr env=>exact λσ v H hE k=>h σ v H hE λj hj=>(k j hj).trans (e j hj)
noncomputable abbrev SFf:=DEnv->Option OutF
noncomputable def SSf(J:Nat->Prop)(ts:TS)(F:SFf):Prop:=∀(fx:Addr->Prop)(H0:Hp)(env:DEnv)(σ:St)(H:Hp)(D:Ends),EnvOk fx H0 env σ H->∀o,F env=some o->SatF fx H0 J σ D o->ts D σ H
section
variable{J:Nat->Prop}{f:Nat}
noncomputable def fS(F:SF):SFf:=λenv=>(F env).bind λo=>match o with
 | .nx e=>some (.nx e)
 | .bk e=>some (.bk e)
 | .ct e=>some (.ct e)
 | .rt _ _=>none
theorem zcj{t:TS}{F:SF}(h:SSk J t F):SSf J t (fS F):=by
 intro fx H0 env σ H D hE o e q
 unfold fS at e
 obtain⟨o1,e1,e⟩:=qA.mp e
 refine h fx H0 env σ H D hE o1 e1 ?_
 cases o1 with
 | nx e'=>cases e;exact q
 | bk e'=>cases e;exact q
 | ct e'=>cases e;exact q
 | rt _ _=>cases e
noncomputable def fNx:SFf:=λenv=>some (.nx env)
theorem zgf:SSf J tNext fNx:=by
 intro fx H0 env σ H D h o e q
 cases e
 exact q σ H h λ_ _=>rfl
noncomputable def fSeq(a b:SFf):SFf:=λenv=>(a env).bind λo=>match o with
 | .nx env'=>b env'
 | o=>some o
theorem zba{t u:TS}{a b:SFf}(h1:SSf J t a)(h2:SSf J u b):SSf J (tSeq t u) (fSeq a b):=by
 intro fx H0 env σ H D h o e q
 unfold fSeq at e
 obtain⟨o1,e1,e⟩:=qA.mp e
 refine h1 fx H0 env σ H _ h o1 e1 ?_
 cases o1 with
 | nx env'=>exact λσ' H' h' k=>h2 fx H0 env' σ' H' D h' o e (q.move k)
 | bk env'=>cases e;exact q
 | ct env'=>cases e;exact q
 | rt d fr env'=>cases e;exact q
noncomputable def fSet(i:Nat)(g:EFf):SFf:=λenv=>(g env).map λx=>.nx (putV x.2 i x.1)
theorem zcx{te:TE}{g:EFf}{i:Nat}(h1:SEf f te g)(hJ:¬J i):SSf J (tAsg te (gName i)) (fSet i g):=by
 intro fx H0 env σ H D h o e q
 unfold fSet at e
 obtain⟨⟨r,env'⟩,er,rfl⟩:=qH.mp e
 exact h1 fx H0 env σ H h r env' er _ λv H' m k n hv hn=>q _ H' (k.putF hv hn h.base h.fxs i) λj hj=>qN λz=>hJ (by rw[z];exact hj)
noncomputable abbrev TFf:=DEnv->Option (Bool×DEnv)
noncomputable def zasc(f:Nat)(g:TF):TFf:=λenv=>match env[f]? with
 | some (.ac _)=>(g env).map λb=>(b,env)
 | _=>none
end
theorem zlc{n:Nat}{g:GE}{vs:List V}{H:Hp}{Q:VK}{E:XK}(h:spF n g vs H Q E):vs.length=n:=by
 obtain⟨fx,a,vs',d0,d1,d,fr,ds,rfl,hn,_,_,_,r,_⟩:=h
 rw[qj,<- r.length];exact hn
noncomputable def fnF(n:Nat)(F:SFf):GE:=λd ds=>(F (zpt n d ds)).bind λo=>match o with
 | .rt d' fr env=>match(env[0]?:Option Sl)with
  | some (.ac d1)=>some (d',fr,d1)
  | _=>none
 | _=>none
theorem fn_f{N:List Str}{n:Nat}{F:SFf}{t:TS}(hN:0<N.length)(hs:SSf (λj=>j=0) t F){vs:List V}{H:Hp}{Q:VK}{E:XK}(h:spF n (fnF N.length F) vs H Q E):t {nx:=λ_ H'=>Q .non H',rt:=Q} (zdw N vs) H:=by
 obtain⟨fx,a,vs',d0,d1,d,fr,ds,rfl,hn,hf,na,ac,r,g,k⟩:=h
 unfold fnF at g
 obtain⟨o,eo,g⟩:=qA.mp g
 cases o with
 | rt d' fr' env'=>
  refine hs fx _ _ _ H _ (zyz hN hf na ac r) _ eo λσ' v H' hE kp rt=>?_
  have g:(match(env'[0]?:Option Sl)with|some (.ac d1)=>some (d',fr',d1)|_=>none)=some (d,fr,d1):=g
  split at g
  ·rename_i d1' e0
   cases g
   obtain⟨a',q1,_,_,q4⟩:=hE.ac 0 _ e0
   rw[kp 0 rfl]at q1
   have q1:some (some (V.ref a))=some (some (V.ref a')):=q1
   cases q1
   have oa:own env' σ' a:=⟨0,_,e0,by rw[kp 0 rfl];rfl⟩
   have sub:∀b,fx b\/b=a->fx b\/own env' σ' b:=λb z=>z.imp id λy=>by subst y;exact oa
   refine k v H' (λb o nb e=>hE.base b o (by rw[Offs.get (A:=λb=>b=a) nb];exact e)) (q4.same (Offs.sub sub) λo z=>z) ⟨Rp.same (Offs.sub sub) _ rt.1,λz=>?_⟩
   obtain⟨c,w1,w2,w4,w3⟩:=rt.2 z
   have hc:c≠a:=λy=>by
    subst y
    exact w4 oa
   refine⟨c,w1,?_,w3.same (Offs.sub λb z=>z.imp (sub b) id) λo z=>z⟩
   rw[Offs.get (A:=λb=>b=a) hc]at w2
   exact w2
  ·cases g
 | nx _=>cases g
 | bk _=>cases g
 | ct _=>cases g
theorem RetF.unbase{fx:Addr->Prop}{H0 F:Hp}{env:DEnv}{σ:St}{d:PyData}{fr:Bool}{v:V}{H:Hp}(h:RetF fx F env σ d fr v H)(s:Same H0 F):RetF fx H0 env σ d fr v H:=
 ⟨h.1,λe=>let⟨a,h1,h2,h3⟩:=h.2 e;⟨a,h1,s.free h2,h3⟩⟩
noncomputable def zgg(g:GT)(body:SFf):List PyData->DEnv->Option OutF
 | [],env=>some (.nx env)
 | d::ds,env=>(g d env).bind λe1=>(body e1).bind λo=>match o with
  | .nx e2=>zgg g body ds e2
  | .ct e2=>zgg g body ds e2
  | .bk e2=>some (.nx e2)
  | .rt d fr e2=>some (.rt d fr e2)
noncomputable abbrev IFf:=DEnv->Option (List PyData×List Nat×DEnv)
noncomputable def SIf(f:Nat)(wi:TI)(g:IFf):Prop:=∀(fx:Addr->Prop)(H0:Hp)(env:DEnv)(σ:St)(H:Hp),EnvOk fx H0 env σ H->∀ds bs env',g env=some (ds,bs,env')->∀R:It->Hp->Prop,
 (∀I H1,MvF f env env' σ H H1->EnvOk fx H0 env' σ H1->Yl (λb=>fx b\/own (frzs env' bs) σ b) H1 I ds->R I H1)->wi σ H R
noncomputable def zdp(a:AFf):IFf:=λenv=>(a env).bind λx=>match x.1 with
 | [⟨.int j,_,_⟩]=>if -(2 ^ 62)<=j/\j<2 ^ 62 then some (zdj 0 j.toNat,[],x.2)else none
 | _=>none
theorem zii{f:Nat}{ta:TA}{a:AFf}(h1:SAf f ta a):SIf f (iRng1 ta) (zdp a):=by
 intro fx H0 env σ H h ds bs env' e R q
 unfold zdp at e
 obtain⟨⟨rs,e1⟩,er,e⟩:=qA.mp e
 dsimp only at e
 split at e
 ·split at e
  ·rename_i hj
   cases e
   refine h1 fx H0 env σ H h _ _ er _ λvs H1 m k n hv=>?_
   cases hv with
   | cons hv t=>
    cases t
    cases zbz hv.rp
    exact⟨_,rfl,hj.1,hj.2,q _ H1 m k zwx⟩
  ·cases e
 ·cases e
noncomputable def znq(f:IFf)(g:GT)(body:SFf):SFf:=λenv=>(f env).bind λz=>zgg g body z.1 (frzs z.2.2 z.2.1)
noncomputable def fFor(f:IF')(g:GT)(body:SFf):SFf:=λenv=>(f env).bind λz=>zgg g body z.1 (frzs env z.2)
section
variable{J:Nat->Prop}
theorem zvf{wi:TI}{g:TG}{tb:TS}{f:IF'}{gf:GT}{body:SFf}(h1:SI wi f)(h2:SGk J g gf)(h3:SSf J tb body):SSf J (tFor wi g tb) (fFor f gf body):=by
 intro fx H0 env σ H D h o e q
 unfold fFor at e
 obtain⟨⟨ds,bs⟩,er,e⟩:=qA.mp e
 refine h1 fx H0 env σ H h ds bs er _ λI H1 s yl=>?_
 have hE:=(h.up s).frzs bs
 have fl:=hE.floor
 refine⟨λi m σ' H'=>m=ds.length - i/\i<=ds.length/\(∀j,J j->σ'[j]?=σ[j]?)/\∃env',zgg gf body (ds.drop i) env'=some o/\EnvOk fx (Offs (own (frzs env bs) σ) H1) env' σ' H',⟨ds.length,rfl,qAL _,λ_ _=>rfl,_,e,hE.rebase⟩,?_⟩
 rintro i m σ' H' ⟨rfl,hi,kp,env',e',h'⟩
 obtain⟨yi,ys⟩:=yl _ H' h'.all h'.seen
 by_cases hlt:i<ds.length
 ·obtain⟨yg,yy⟩:=yi i ds[i] (qG hlt)
  refine .inr ⟨yg,λσ'' H''=>i+1<=ds.length/\(∀j,J j->σ''[j]?=σ[j]?)/\∃env'',zgg gf body (ds.drop (i+1)) env''=some o/\EnvOk fx (Offs (own (frzs env bs) σ) H1) env'' σ'' H'',?_,?_⟩
  ·rintro σ'' H'' ⟨hle,kp',env'',e'',h''⟩
   exact⟨ds.length - (i+1),by omega,rfl,hle,kp',env'',e'',h''⟩
  ·intro x H'' hy
   obtain⟨sy,ry⟩:=yy x H'' hy
   rw[qy hlt]at e'
   obtain⟨e1,ee1,e'⟩:=qA.mp e'
   obtain⟨o1,eo1,e'⟩:=qA.mp e'
   refine h2 fx _ env' σ' H'' _ x (h'.up sy) ry e1 ee1 _ λσ2 h2' k2=>h3 fx _ e1 σ2 H'' _ h2' o1 eo1 ?_
   have k3:∀j,J j->σ2[j]?=σ[j]?:=λj hj=>(k2 j hj).trans (kp j hj)
   cases o1 with
   | nx e2=>exact λσ3 H3 hh k4=>⟨hlt,λj hj=>(k4 j hj).trans (k3 j hj),e2,e',hh⟩
   | ct e2=>exact λσ3 H3 hh k4=>⟨hlt,λj hj=>(k4 j hj).trans (k3 j hj),e2,e',hh⟩
   | bk e2=>cases e';exact λσ3 H3 hh k4=>q σ3 H3 (hh.unbase fl) λj hj=>(k4 j hj).trans (k3 j hj)
   | rt d fr e2=>cases e';exact λσ3 v H3 hh k4 rt=>q σ3 v H3 (hh.unbase fl) (λj hj=>(k4 j hj).trans (k3 j hj)) (rt.unbase fl)
 ·have hi':i=ds.length:=by omega
  subst hi'
  rw[qAR]at e'
  cases e'
  exact .inl ⟨ys,q σ' H' (h'.unbase fl) kp⟩
theorem zmt{fd:Nat}{wi:TI}{g:TG}{tb:TS}{f:IFf}{gf:GT}{body:SFf}(h1:SIf fd wi f)(h2:SGk J g gf)(h3:SSf J tb body):SSf J (tFor wi g tb) (znq f gf body):=by
 intro fx H0 env σ H D h o e q
 unfold znq at e
 obtain⟨⟨ds,bs,v1⟩,er,e⟩:=qA.mp e
 refine h1 fx H0 env σ H h ds bs v1 er _ λI H1 m0 k0 yl=>?_
 have hE:=k0.frzs bs
 have fl:=hE.floor
 refine⟨λi m σ' H'=>m=ds.length - i/\i<=ds.length/\(∀j,J j->σ'[j]?=σ[j]?)/\∃env',zgg gf body (ds.drop i) env'=some o/\EnvOk fx (Offs (own (frzs v1 bs) σ) H1) env' σ' H',⟨ds.length,rfl,qAL _,λ_ _=>rfl,_,e,hE.rebase⟩,?_⟩
 rintro i m σ' H' ⟨rfl,hi,kp,env',e',h'⟩
 obtain⟨yi,ys⟩:=yl _ H' h'.all h'.seen
 by_cases hlt:i<ds.length
 ·obtain⟨yg,yy⟩:=yi i ds[i] (qG hlt)
  refine .inr ⟨yg,λσ'' H''=>i+1<=ds.length/\(∀j,J j->σ''[j]?=σ[j]?)/\∃env'',zgg gf body (ds.drop (i+1)) env''=some o/\EnvOk fx (Offs (own (frzs v1 bs) σ) H1) env'' σ'' H'',?_,?_⟩
  ·rintro σ'' H'' ⟨hle,kp',env'',e'',h''⟩
   exact⟨ds.length - (i+1),by omega,rfl,hle,kp',env'',e'',h''⟩
  ·intro x H'' hy
   obtain⟨sy,ry⟩:=yy x H'' hy
   rw[qy hlt]at e'
   obtain⟨e1,ee1,e'⟩:=qA.mp e'
   obtain⟨o1,eo1,e'⟩:=qA.mp e'
   refine h2 fx _ env' σ' H'' _ x (h'.up sy) ry e1 ee1 _ λσ2 h2' k2=>h3 fx _ e1 σ2 H'' _ h2' o1 eo1 ?_
   have k3:∀j,J j->σ2[j]?=σ[j]?:=λj hj=>(k2 j hj).trans (kp j hj)
   cases o1 with
   | nx e2=>exact λσ3 H3 hh k4=>⟨hlt,λj hj=>(k4 j hj).trans (k3 j hj),e2,e',hh⟩
   | ct e2=>exact λσ3 H3 hh k4=>⟨hlt,λj hj=>(k4 j hj).trans (k3 j hj),e2,e',hh⟩
   | bk e2=>cases e';exact λσ3 H3 hh k4=>q σ3 H3 (hh.unbase fl) λj hj=>(k4 j hj).trans (k3 j hj)
   | rt d fr e2=>cases e';exact λσ3 v H3 hh k4 rt=>q σ3 v H3 (hh.unbase fl) (λj hj=>(k4 j hj).trans (k3 j hj)) (rt.unbase fl)
 ·have hi':i=ds.length:=by omega
  subst hi'
  rw[qAR]at e'
  cases e'
  exact .inl ⟨ys,q σ' H' (h'.unbase fl) kp⟩
end
noncomputable def fApp(i:Nat)(g:EFf):SFf:=λenv=>match env[i]? with
 | some (.ac (.list _))=>(g env).bind λx=>(match x.2[i]? with
  | some (.ac (.list es))=>if es.length<100000/\i∉x.1.bs then some (.nx ((frzs x.2 x.1.bs).set i (.ac (.list (es++[x.1.d])))))else none
  | _=>none)
 | _=>none
theorem zld{J:Nat->Prop}{f:Nat}{K:qC}{i:Nat}{te:TE}{g:EFf}(h1:SEf f te g):SSf J (tDrop (tBM K "list" zaam (tVar i) (tCons te tNil))) (fApp i g):=by
 intro fx H0 env σ H D h o e q
 unfold fApp at e
 split at e
 ·rename_i ds0 ei0
  obtain⟨⟨r,v1⟩,er,e⟩:=qA.mp e
  dsimp only at e
  split at e
  ·rename_i ds ei
   split at e
   ·rename_i hl
    cases e
    obtain⟨a,g1,g2,g3,g4⟩:=h.ac i _ ei0
    obtain⟨xs0,hx0,_⟩:=g4
    refine⟨_,g1,.inl ⟨rfl,_,SqL.of hx0⟩,h1 fx H0 env σ H h r v1 er _ λv H' m k n hv hn=>?_⟩
    have h':=k.frzs r.bs
    have ei':=zet hl.2 ei
    obtain⟨a',z1,_,_,z4⟩:=h'.ac i _ ei'
    rw[g1]at z1
    cases z1
    obtain⟨xs,hx',rx'⟩:=z4
    refine⟨a,xs,v,rfl,rfl,hx',zhq (by rw[<- rx'.length];exact hl.1),?_⟩
    exact q σ _ (h'.mut ei' g1 ⟨_,zao,rx'.append (zcp (Rp.same (Offs.sub zch) _ hv.rp) zct)⟩) λ_ _=>rfl
   ·cases e
  ·cases e
 ·cases e
noncomputable def fCB(g:GF)(a:AFf):EFf:=λenv=>(a env).bind λx=>(g (zft x.1)).bind λz=>some (⟨z.1,z.2,bsOf z.1 (bss x.1)⟩,x.2)
theorem zapu{f:Nat}{r:List V->Hp->VK->Prop}{g:GF}{ta:TA}{a:AFf}(hc:SC r g)(ha:SAf f ta a):SEf f (tCB r ta) (fCB g a):=by
 intro fx H0 env σ H h rr env' hr Q q
 unfold fCB at hr
 obtain⟨⟨rs,e1⟩,er,hr⟩:=qA.mp hr
 obtain⟨⟨d,fr⟩,ez,hr⟩:=qA.mp hr
 cases hr
 refine ha fx H0 env σ H h rs e1 er _ λvs H1 m k n v1=>hc (lim fx e1 σ (bss rs)) H1 vs (zft rs) (k.lims _) (zef (λi hi=>hi) v1) d fr ez _ λw H3 s3 rp fr3=>q w H3 (m.trans (MvF.same m.at1 s3)) (k.up s3) (zjx n) ⟨zgt rp,λe=>?_⟩ λe=>let⟨b,g1,g2,g3⟩:=fr3 e;⟨b,g1,k.new s3 g2 g3.ex⟩
 obtain⟨b,g1,g2,g3⟩:=fr3 e
 refine⟨b,g1,m.free g2,?_⟩
 have nf:zdx d=false:=by cases d<;>first|rfl|exact g3.elim
 show zci (Offs (λc=>lim fx e1 σ (bsOf d (bss rs)) c\/c=b) H3) H3 b d
 rw[show bsOf d (bss rs)=bss rs by unfold bsOf;rw[if_neg (by rw[nf];decide)]]
 exact g3
section
variable{J:Nat->Prop}{f:Nat}
noncomputable def zhs(g:EF):SFf:=λenv=>(g env).map λr=>.rt r.d r.fr (frzs env r.bs)
theorem zjy{te:TE}{g:EF}(h1:SE te g):SSf J (tRet te) (zhs g):=by
 intro fx H0 env σ H D h o e q
 unfold zhs at e
 obtain⟨r,er,rfl⟩:=qH.mp e
 refine h1 fx H0 env σ H h r er _ λv H' s hv=>q σ v H' ((h.up s).frzs r.bs) (λ_ _=>rfl) ⟨Rp.same (Offs.sub zch) _ hv.rp,λz=>?_⟩
 obtain⟨a,h1,h2,h3⟩:=hv.fr z
 refine⟨a,h1,h.base.free h2,λ⟨j,d,z1,z2⟩=>?_,h3.same (Offs.sub λb z=>z.imp (zch b) id) λo z=>z⟩
 obtain⟨o,eo⟩:=h.lims [] a (.inr ⟨j,d,by simp,(zgu z1).1,z2⟩)
 rw[h2]at eo;cases eo
noncomputable def zow(i:Nat):SFf:=λenv=>match env[i]? with
 | some (.pl d)=>some (.rt d false env)
 | some (.ac d)=>some (.rt d true (env.set i .no))
 | _=>none
theorem zij{i:Nat}:SSf J (tRet (tVar i)) (zow i):=by
 intro fx H0 env σ H D h o e q
 unfold zow at e
 cases ei:env[i]? with
 | none=>rw[ei]at e;cases e
 | some sl=>
  rw[ei]at e
  cases sl with
  | no=>cases e
  | pl d=>
   cases e
   obtain⟨v,h1,h2⟩:=h.pl i d ei
   exact⟨v,h1,q σ v H h (λ_ _=>rfl) ⟨h2,λz=>by cases z⟩⟩
  | ac d=>
   cases e
   obtain⟨a,h1,h2,h3,h4⟩:=h.ac i d ei
   have sub:∀b,own (env.set i .no) σ b->own env σ b:=by
    rintro b ⟨j,d',z1,z2⟩
    rcases zbe z1 with⟨_,y⟩|⟨_,y⟩
    ·cases y
    ·exact⟨j,d',y,z2⟩
   have nown:¬own (env.set i .no) σ a:=by
    rintro⟨j,d',z1,z2⟩
    rcases zbe z1 with⟨_,y⟩|⟨hn,y⟩
    ·cases y
    ·exact hn (h.inj j i d' d a y ei z2 h1)
   have so:Same (Offs (λb=>fx b\/own env σ b) H) (Offs (λb=>fx b\/own (env.set i .no) σ b) H):=Offs.sub λb z=>z.imp id (sub b)
   have hE:EnvOk fx H0 (env.set i .no) σ H:=by
    refine⟨by rw[qf];exact h.len,λj e hj=>?_,λj e hj=>?_,λj k d1 d2 b z1 z2 z3 z4=>?_,h.base,h.fxs⟩
    ·rcases zbe hj with⟨_,y⟩|⟨_,y⟩
     ·cases y
     ·obtain⟨v,w1,w2⟩:=h.pl j e y;exact⟨v,w1,Rp.same so _ w2⟩
    ·rcases zbe hj with⟨_,y⟩|⟨_,y⟩
     ·cases y
     ·obtain⟨b,w1,w2,w3,w4⟩:=h.ac j e y;exact⟨b,w1,w2,w3,w4.same so λo z=>z⟩
    ·rcases zbe z1 with⟨_,y1⟩|⟨_,y1⟩
     ·cases y1
     ·rcases zbe z2 with⟨_,y2⟩|⟨_,y2⟩
      ·cases y2
      ·exact h.inj j k d1 d2 b y1 y2 z3 z4
   refine⟨_,h1,q σ _ H hE (λ_ _=>rfl) ⟨h4.rp so λo eo=>by rw[Offs.get λz=>z.elim h3 nown];exact eo,λ_=>⟨a,rfl,h2,nown,h4.same (Offs.sub λb z=>?_) λo z=>z⟩⟩⟩
   rcases z with z|z
   ·exact z.imp id (sub b)
   ·rw[z];exact .inr ⟨i,d,ei,h1⟩
noncomputable def fIfP(c:TF)(a b:SFf):SFf:=λenv=>(c env).bind λx=>if x=true then a env else b env
theorem zgh{tc:TT}{t u:TS}{c:TF}{a b:SFf}(hc:ST tc c)(h1:SSf J t a)(h2:SSf J u b):SSf J (tIfS tc t u) (fIfP c a b):=by
 intro fx H0 env σ H D h o e q
 unfold fIfP at e
 obtain⟨x,eb,e⟩:=qA.mp e
 refine hc fx H0 env σ H h x eb _ λH' s=>?_
 cases x with
 | true=>exact iteT (h1 fx H0 env σ H' D (h.up s) o e q)
 | false=>exact iteF (h2 fx H0 env σ H' D (h.up s) o e q)
end
end L2
namespace PySem
open Sem (wp)
end PySem
namespace L2
open PySem PySem.Spec PyProof.Rows
end L2
namespace PySem
open Sem (wp)
end PySem
namespace L2
open PySem PySem.Spec PyProof.Rows
noncomputable def Scr(K:qC)(a:Addr)(ns:List Int)(H0:Hp)(σ:St):Prop:=σ[0]?=some (some (.ref a))/\SqL K H0 a (ns.map V.int)
theorem SqL.up{K:qC}{H H':Hp}{a:Addr}{xs:List V}(h:SqL K H a xs)(s:Same H H'):SqL K H' a xs:=by
 rcases h with(h|⟨o,h⟩)|h
 ·exact .inl (.inl (s _ _ h))
 ·exact .inl (.inr ⟨o,s _ _ h⟩)
 ·exact .inr h
noncomputable def SSg(K:qC)(ns:List Int)(J:Nat->Prop)(ts:TS)(F:SFf):Prop:=∀(a:Addr)(fx:Addr->Prop)(H0:Hp)(env:DEnv)(σ:St)(H:Hp)(D:Ends),EnvOk fx H0 env σ H->Scr K a ns H0 σ->∀o,F env=some o->SatF fx H0 J σ D o->ts D σ H
section
variable{K:qC}{ns:List Int}{J:Nat->Prop}{f:Nat}
theorem zdq{t:TS}{F:SFf}(h:SSf J t F):SSg K ns J t F:=λa fx H0 env σ H D hE _ o e q=>h fx H0 env σ H D hE o e q
theorem zbx{t u:TS}{a b:SFf}(hJ:J 0)(h1:SSg K ns J t a)(h2:SSg K ns J u b):SSg K ns J (tSeq t u) (fSeq a b):=by
 intro c fx H0 env σ H D h hc o e q
 unfold fSeq at e
 obtain⟨o1,e1,e⟩:=qA.mp e
 refine h1 c fx H0 env σ H _ h hc o1 e1 ?_
 cases o1 with
 | nx env'=>exact λσ' H' h' k=>h2 c fx H0 env' σ' H' D h' ⟨(k 0 hJ).trans hc.1,hc.2⟩ o e (q.move k)
 | bk env'=>cases e;exact q
 | ct env'=>cases e;exact q
 | rt d fr env'=>cases e;exact q
theorem zaln{wi:TI}{g:TG}{tb:TS}{f:IF'}{gf:GT}{body:SFf}(hJ:J 0)(h1:SI wi f)(h2:SGk J g gf)(h3:SSg K ns J tb body):SSg K ns J (tFor wi g tb) (fFor f gf body):=by
 intro a0 fx H0 env σ H D h hc o e q
 unfold fFor at e
 obtain⟨⟨ds,bs⟩,er,e⟩:=qA.mp e
 refine h1 fx H0 env σ H h ds bs er _ λI H1 s yl=>?_
 have hE:=(h.up s).frzs bs
 have fl:=hE.floor
 refine⟨λi m σ' H'=>m=ds.length - i/\i<=ds.length/\(∀j,J j->σ'[j]?=σ[j]?)/\∃env',zgg gf body (ds.drop i) env'=some o/\EnvOk fx (Offs (own (frzs env bs) σ) H1) env' σ' H',⟨ds.length,rfl,qAL _,λ_ _=>rfl,_,e,hE.rebase⟩,?_⟩
 rintro i m σ' H' ⟨rfl,hi,kp,env',e',h'⟩
 obtain⟨yi,ys⟩:=yl _ H' h'.all h'.seen
 by_cases hlt:i<ds.length
 ·obtain⟨yg,yy⟩:=yi i ds[i] (qG hlt)
  refine .inr ⟨yg,λσ'' H''=>i+1<=ds.length/\(∀j,J j->σ''[j]?=σ[j]?)/\∃env'',zgg gf body (ds.drop (i+1)) env''=some o/\EnvOk fx (Offs (own (frzs env bs) σ) H1) env'' σ'' H'',?_,?_⟩
  ·rintro σ'' H'' ⟨hle,kp',env'',e'',h''⟩
   exact⟨ds.length - (i+1),by omega,rfl,hle,kp',env'',e'',h''⟩
  ·intro x H'' hy
   obtain⟨sy,ry⟩:=yy x H'' hy
   rw[qy hlt]at e'
   obtain⟨e1,ee1,e'⟩:=qA.mp e'
   obtain⟨o1,eo1,e'⟩:=qA.mp e'
   refine h2 fx _ env' σ' H'' _ x (h'.up sy) ry e1 ee1 _ λσ2 h2' k2=>?_
   have k3:∀j,J j->σ2[j]?=σ[j]?:=λj hj=>(k2 j hj).trans (kp j hj)
   refine h3 a0 fx _ e1 σ2 H'' _ h2' ⟨(k3 0 hJ).trans hc.1,hc.2.up fl⟩ o1 eo1 ?_
   cases o1 with
   | nx e2=>exact λσ3 H3 hh k4=>⟨hlt,λj hj=>(k4 j hj).trans (k3 j hj),e2,e',hh⟩
   | ct e2=>exact λσ3 H3 hh k4=>⟨hlt,λj hj=>(k4 j hj).trans (k3 j hj),e2,e',hh⟩
   | bk e2=>cases e';exact λσ3 H3 hh k4=>q σ3 H3 (hh.unbase fl) λj hj=>(k4 j hj).trans (k3 j hj)
   | rt d fr e2=>cases e';exact λσ3 v H3 hh k4 rt=>q σ3 v H3 (hh.unbase fl) (λj hj=>(k4 j hj).trans (k3 j hj)) (rt.unbase fl)
 ·have hi':i=ds.length:=by omega
  subst hi'
  rw[qAR]at e'
  cases e'
  exact .inl ⟨ys,q σ' H' (h'.unbase fl) kp⟩
noncomputable def zagr(i:Nat)(m:Int)(ns:List Int):SFf:=λenv=>some (.nx (env.set i (.pl (.int (if(ns.length:Int)<m then ns.length else m)))))
theorem zags{i:Nat}{m:Int}(hJ:¬J i):SSg K ns J (tAsg (tCB (λxs H Q=>∃i j,xs=[.int i,.int j]/\Q (.int (if j<i then j else i)) H) (tCons (tC (.int m)) (tCons (tCB (λxs H Q=>∃x n,xs=[x]/\LenV K x H n/\Q (.int n) H) (tCons (tVar 0) tNil)) tNil))) (gName i)) (zagr i m ns):=by
 intro a fx H0 env σ H D h hc o e q
 cases e
 refine⟨.ref a,hc.1,.ref a,ns.length,rfl,?_,m,ns.length,rfl,q _ H (h.setPl i zac) λj hj=>qN λz=>hJ (by rw[z];exact hj)⟩
 have hs:=hc.2.up h.base
 exact .inl ⟨_,hs,by rw[qD]⟩
noncomputable def zjz(ns:List Int)(z:Int):List PyData:=
 let c:=ns.getD z.toNat 0
 let g:=if c<0 then -c else c
 [.int (if g<10 ^ 18 then 0 else g),.int ((c % 2147483423 * 48271+6151 * z+17) % 2147483423),.int 0]
noncomputable def zxl(K:qC):Sp:=λvs H Q _=>∃(a:Addr)(ns:List Int)(z:Int),vs=[.ref a,.int z]/\SqL K H a (ns.map .int)/\0<=z/\z<=1000/\
 ∀p H',H p=none->Same H H'->zci (λ_=>none) H' p (.list (zjz ns z))->Q (.ref p) H'
noncomputable def zacn(f k:Nat)(ns:List Int):SFf:=λenv=>match env[k]? with
 | some (.pl (.int z))=>if 0<=z/\z<=1000 then some (.nx (env.set f (.ac (.list (zjz ns z)))))else none
 | _=>none
theorem zagt{k:Nat}(hJ:¬J f):SSg K ns J (tAsg (tCall (zxl K) [] E0 (tCons (tVar 0) (tCons (tVar k) tNil))) (gName f)) (zacn f k ns):=by
 intro a fx H0 env σ H D h hc o e q
 unfold zacn at e
 split at e
 ·rename_i z ek
  split at e
  ·rename_i hz
   cases e
   obtain⟨v,hv,rv⟩:=h.pl k _ ek
   cases zbz rv
   refine⟨_,hc.1,_,hv,a,ns,z,rfl,hc.2.up h.base,hz.1,hz.2,λp H' hp s ac=>?_⟩
   refine q _ H' ?_ λj hj=>qN λy=>hJ (by rw[y];exact hj)
   have vo:ValOk (lim fx env σ (Val.bs ⟨.list (zjz ns z),true,[]⟩)) H H' ⟨.list (zjz ns z),true,[]⟩ (.ref p):=by
    refine⟨ac.rp (λb o eb=>by cases eb) λo eo=>?_,λ_=>⟨p,rfl,hp,ac.same (λb o eb=>by cases eb) λo eo=>eo⟩⟩
    rw[Offs.get]
    ·exact eo
    ·intro y
     obtain⟨o',eo'⟩:=h.lims [] p y
     rw[hp]at eo'
     cases eo'
   exact h.put (r:=⟨.list (zjz ns z),true,[]⟩) s vo f
  ·cases e
 ·cases e
end
section
variable{K:qC}{ns:List Int}{J:Nat->Prop}
noncomputable def zaco(k i:Nat)(ns:List Int):SFf:=λenv=>match env[k]? with
 | some (.pl (.int z))=>if 0<=z then some (.nx (if z<ns.length then env.set i (.pl (.int (ns.getD z.toNat 0)))else env))else none
 | _=>none
theorem zagu{k i:Nat}(hJ:¬J i):SSg K ns J (tIfS (tTest (tOp (rI0 λi j=>.bl (decide (i<j))) (tVar k) (tCB (λxs H Q=>∃x n,xs=[x]/\LenV K x H n/\Q (.int n) H) (tCons (tVar 0) tNil)))) (tAsg (tOp (rIxU K) (tVar 0) (tVar k)) (gName i)) tNext) (zaco k i ns):=by
 intro a fx H0 env σ H D h hc o e q
 unfold zaco at e
 split at e
 ·rename_i z ek
  split at e
  ·rename_i hz
   cases e
   obtain⟨v,hv,rv⟩:=h.pl k _ ek
   cases zbz rv
   have hs:=hc.2.up h.base
   refine⟨_,hv,.ref a,hc.1,.ref a,ns.length,rfl,.inl ⟨_,hs,by rw[qD]⟩,z,ns.length,rfl,rfl,decide (z<(ns.length:Int)),rfl,?_⟩
   by_cases hlt:z<ns.length
   ·rw[if_pos hlt]at q
    rw[decide_eq_true hlt]
    refine iteT ⟨.ref a,hc.1,_,hv,ns.map V.int,.int (ns.getD z.toNat 0),.inl hs,?_,?_⟩
    ·have hn:z.toNat<ns.length:=by omega
     unfold atI ixN
     rw[qD,if_pos hz,if_pos hlt]
     show(ns.map V.int)[z.toNat]?=_
     rw[qV,qG hn,qZ,qG hn]
     rfl
    ·exact q _ H (h.setPl i zac) λj hj=>qN λy=>hJ (by rw[y];exact hj)
   ·rw[if_neg hlt]at q
    rw[decide_eq_false hlt]
    exact iteF (q σ H h λ_ _=>rfl)
  ·cases e
 ·cases e
end
theorem zaiq{H:Hp}{σ:St}{env:DEnv}(hl:env.length=σ.length)(hp:∀(i:Nat) (d:PyData),env[i]?=some (.pl d)->∃v,σ[i]?=some (some v)/\Rp H d v)(ha:∀(i:Nat) (d:PyData),env[i]?≠some (.ac d)):EnvOk (λ_=>False) H env σ H:=
 ⟨hl,λi d e=>let⟨v,w1,w2⟩:=hp i d e;⟨v,w1,Rp.same (λb o eb=>by rw[Offs.get λz=>z.elim id λ⟨j,d',z,_⟩=>ha j d' z];exact eb) _ w2⟩,λi d e=>absurd e (ha i d),λi j d e a z=>absurd z (ha i d),Same.refl _,λb z=>z.elim⟩
theorem zacp(ns:List Int)(z:Int):zsu (.list (zjz ns z))=true:=rfl
theorem zalo{K:qC}{N:List Str}(hN:N.length=4){t:TS}{F:List Int->SFf}(hs:∀ns,SSg K ns (λj=>j=0) t (F ns))
  (hF:∀ns z,0<=z->z<=1000->∃env',F ns [.no,.pl (.int z),.no,.no]=some (.rt (.list (zjz ns z)) true env')) {vs:List V} {H:Hp} {Q:VK} {E:XK} (h:zxl K vs H Q E):t {nx:=λ_ H'=>Q .non H',rt:=Q} (zdw N vs) H:=by
 obtain⟨a,ns,z,rfl,hS,h0,h1,k⟩:=h
 obtain⟨env',e⟩:=hF ns z h0 h1
 have st:zdw N [.ref a,.int z]=[some (.ref a),some (.int z),none,none]:=by unfold zdw;rw[hN];rfl
 rw[st]
 refine hs ns a (λ_=>False) H _ _ H _ (zaiq (env:=[.no,.pl (.int z),.no,.no]) rfl (λi d e=>?_) λi d e=>?_) ⟨rfl,hS⟩ _ e λσ v H' hE kp rt=>?_
 ·match i,e with
  | 1,e=>cases e;exact⟨_,rfl,zac⟩
  | 0,e=>cases e
  | 2,e=>cases e
  | 3,e=>cases e
 ·match i,e with
  | 1,e=>cases e
  | 0,e=>cases e
  | 2,e=>cases e
  | 3,e=>cases e
 ·obtain⟨p,rfl,hp,_,ac⟩:=rt.2 rfl
  exact k p H' hp hE.base (zxk (zacp ns z) ac)
theorem zagv{K:qC}{ns:List Int}{t:TS}{F:SFf}(hs:SSg K ns (λj=>j=0) t F){a:Addr}{H:Hp}{Q:VK}{nx:St->Hp->Prop}{n:Nat}(hS:SqL K H a (ns.map V.int))(e:∃env',F (List.replicate (n+1) .no)=some (.rt (.bool true) false env'))(k:∀H',Q (.bl true) H') :
  t {nx:=nx,rt:=Q} (some (.ref a)::List.replicate n none) H:=by
 obtain⟨env',e⟩:=e
 have no:∀(i:Nat)(s:Sl),(List.replicate (n+1) Sl.no)[i]?=some s->s=.no:=λi s e=>by
  rw[qBi]at e
  split at e
  ·exact(qR e).symm
  ·cases e
 refine hs a (λ_=>False) H _ _ H _ (zaiq (by simp) (λi d e=>by cases no i _ e) λi d e=>by cases no i _ e) ⟨rfl,hS⟩ _ e λσ v H' hE kp rt=>?_
 cases zjc rt.1
 exact k H'
noncomputable def Itd(a:Addr)(o:Obj)(kvs:List (Key×V)):It:=
 ⟨λi H=>i<kvs.length/\H a=some (.frz o (.dK kvs)),λi H x H'=>H'=H/\∃k v,kvs[i]?=some (k,v)/\x=kV k,λi H=>kvs.length<=i/\H a=some (.frz o (.dK kvs))⟩
theorem KV.at:∀{kvs:List (Key×V)}{vs:List (Key×Value)}{i:Nat}{k:Key}{v:V},KV kvs vs->kvs[i]?=some (k,v)->∃u,vs[i]?=some (k,u)
 | _,_,i,k,v,.nil,e=>by simp at e
 | _,_,0,k,v,.cons h t,e=>by
  simp at e
  subst e
  exact⟨_,by rw[qAD,show k=_ from h.1]⟩
 | _,_,i+1,k,v,.cons h t,e=>by
  obtain⟨u,q⟩:=KV.at (i:=i) (k:=k) (v:=v) t (by simpa using e)
  exact⟨u,by simpa using q⟩
theorem zair{X:Cx}{pins:List (Addr×Obj)}{σ:St}{H:Hp}{s:Shared}{a:Addr}{o:Obj}{kvs:List (Key×V)}{es:Array DictEntry}{ep:Nat}(I:Inv X pins σ H s)(h:H a=some (.frz o (.dK kvs)))(hd:o.data=.dict es ep) :
  ∃vs,KV kvs vs/\(a==sysModules)=false/\s.heap.DictAt (zar X.prog X.w) a vs ep:=by
 obtain⟨ho,_,hs,vs,kv,o',es',ep',ho',h1,h2,r⟩:=I.hok a _ h
 rw[ho]at ho'
 cases ho'
 rw[hd]at h2
 cases h2
 exact⟨vs,kv,hs,o,es,ho,h1,hd,r⟩
theorem zacq{P:Program}{w:World}{K:qC}{tg:Expr}(a it:Addr){o:Obj}{kvs:List (Key×V)}{es:Array DictEntry}{ep:Nat}(hd:o.data=.dict es ep):Turn P w K tg (Itd a o kvs) [it] it (λi h=>h.IsKeyIter it a i kvs.length ep) where
 mem:=by simp
 obj:=λi h st b hb=>by
  have e:b=it:=by simpa using hb
  subst e
  obtain⟨o,e,c,d⟩:=st
  exact⟨o,e,λv z=>by rw[d]at z;cases z⟩
 keep:=λi h h' st k=>by
  obtain⟨o,e,r⟩:=st
  exact⟨o,k it (by simp) o e,r⟩
 item:=by
  intro X hP hw hK hc i pins s σ H E I hf st hg
  subst hP hw hK
  obtain⟨hi,hfz⟩:=hg
  obtain⟨vs,kv,_,hm⟩:=zair I hfz hd
  obtain⟨f0,f1,f2,f3,f4,f5⟩:=hf it (by simp)
  obtain⟨⟨k,v⟩,hk⟩:∃p,kvs[i]?=some p:=⟨kvs[i],qG hi⟩
  obtain⟨u,hu⟩:=KV.at kv hk
  rw[kv.length]at st
  refine wpAny_pyNext_dict_item st hm hu λkey h' ik st' sb=>?_
  have I1:Inv X pins σ H {s with heap:=h'}:=I.turned (t':=s.toks) (λb o hb e=>(sb.2 b hb).trans e) f0 f1 f3 f4 f5
  obtain⟨o',e,c,d⟩:=id st'
  have rk:RelV (kV k) key:=by
   rcases zbf (show zrq k key=true from ik)with⟨j,t,rfl,rfl⟩|⟨y,t,rfl,rfl⟩
   ·exact⟨t,rfl⟩
   ·exact⟨t,rfl⟩
  rw[<- kv.length]at st'
  exact⟨key,rfl,zzx (s:={s with heap:=h'}) e c d (by decide) ⟨kV k,H,I1,rk,⟨rfl,k,v,hk,rfl⟩,st',λb hb=>(hf b hb).1⟩⟩
 done:=by
  intro X hP hw hK hc i pins s σ H E I hf st hg
  subst hP hw hK
  obtain⟨hi,hfz⟩:=hg
  obtain⟨vs,kv,_,hm⟩:=zair I hfz hd
  obtain⟨f0,f1,f2,f3,f4,f5⟩:=hf it (by simp)
  rw[kv.length]at st
  exact wpAny_pyNext_dict_end (I.ok.hd hc) st hm (qCU.mpr (by rw[<- kv.length];exact hi)) λh' eb=>⟨rfl,I.turned (t':=s.toks) (λb o hb e=>eb b o hb e) f0 f1 f3 f4 f5⟩
 self:=λ_ _ _ _ _ st h=>wpAny_pyIter_keyiter st h
section
variable{X:Cx}
noncomputable def zacr(tl:TE):TI:=λσ H R=>tl σ H λx H1=>∃a o kvs,x=.ref a/\H1 a=some (.frz o (.dK kvs))/\R (Itd a o kvs) H1
theorem zagw{tg l:Expr}{tl:TE}(hl:PE X l tl):PI X tg l (zacr tl):=by
 intro pins s σ H R I h
 refine thn (hl pins s σ H _ I h) λv s1 ⟨x,H1,I1,r1,q1⟩=>?_
 obtain⟨a,o,kvs,e,hfz,q⟩:=q1
 subst e
 cases r1
 obtain⟨ho,_,hs,vs,kv,o',es,ep,ho',h1,h2,r⟩:=I1.hok a _ hfz
 rw[ho]at ho'
 cases ho'
 refine wpAny_pyIter_dict hs (⟨o,es,ho,h1,h2,r⟩:s1.heap.DictAt (zar X.prog X.w) a vs ep) ?_
 refine⟨s1.heap.objs.size,[s1.heap.objs.size],_,_,H1,rfl,I1.kept (t':=s1.toks) λb o e=>qL _ e,zacq a _ h2,⟨_,qg _ rfl,rfl,by rw[kv.length];rfl⟩,λb hb=>?_,q⟩
 have e:b=s1.heap.objs.size:=by simpa using hb
 subst e
 exact I1.fpOk (qK _) (I1.hok.fresh (qK _))
noncomputable def tFrz(i:Nat)(t:TE):TE:=λσ H Q=>∃a kvs,σ[i]?=some (some (.ref a))/\H a=some (.dK kvs)/\∀o,t σ (upd H a (.frz o (.dK kvs))) λv H'=>H' a=some (.frz o (.dK kvs))/\Q v (upd H' a (.dK kvs))
theorem zapv{e:Expr}{t:TE}{i:Nat}(he:PE X e t):PE X e (tFrz i t):=by
 intro pins s σ H Q I h
 obtain⟨a,kvs,_,ha,q⟩:=h
 obtain⟨z,hs,vs,kv,o,es,ep,ho,r⟩:=I.hok a _ ha
 have n0:∀ob u,X.H₀ a≠some (.frz ob u):=λob u y=>by
  have:=I.base.frzs a ob u y
  rw[ha]at this;cases this
 have go:∀{H1 H2:Hp}{s1:Shared},Inv X pins σ H1 s1->(∀b,b≠a->H2 b=H1 b)->(∃u1,H1 a=some u1/\(∀xs,u1≠.tup xs)/\(∀ps,u1≠.tbl ps)/\(∀y,u1≠.own y)/\(∀o' y,u1≠.frz o' (.own y)))->(∃u,H2 a=some u/\zdf X.prog X.w H2 s1.heap a u)->Inv X pins σ H2 s1:=λ{H1 H2 s1} J oth ⟨u1,e1,t1,t2,t3,t4⟩ ⟨u,eu,ou⟩=>by
  have e0:∀b,H1 b=none->H2 b=none:=λb y=>by
   by_cases hb:b=a
   ·rw[hb,e1]at y;cases y
   ·rw[oth b hb];exact y
  have tp:∀b xs,H1 b=some (.tup xs)->H2 b=some (.tup xs):=λb xs y=>by
   by_cases hb:b=a
   ·rw[hb,e1]at y;cases y;exact absurd rfl (t1 xs)
   ·rw[oth b hb];exact y
  refine⟨J.ok,J.os,J.bare,⟨J.base.keep,J.base.slot,λb ob y n hx=>e0 b (J.base.free b ob y n hx),J.base.there,λb xs y=>tp b xs (J.base.tups b xs y),λb ob u' y=>?_,λb ps y=>?_⟩,J.loc,J.cell,e0 _ J.free,λy c ec=>e0 _ (J.freeC y c ec),λp hp=>?_,λb w y=>?_,J.len⟩
  ·by_cases hb:b=a
   ·subst hb;exact absurd y (n0 ob u')
   ·rw[oth b hb];exact J.base.frzs b ob u' y
  ·obtain⟨more,y'⟩:=J.base.tbls b ps y
   by_cases hb:b=a
   ·subst hb;rw[e1]at y';cases y';exact absurd rfl (t2 _)
   ·exact⟨more,by rw[oth b hb];exact y'⟩
  ·obtain⟨p1,p2,p3⟩:=J.pin p hp
   exact⟨p1,e0 _ p2,p3⟩
  ·by_cases hb:b=a
   ·subst hb;rw[eu]at y;cases y;exact ou
   ·rw[oth b hb]at y
    refine(J.hok b w y).stay (λc v _ q=>q) (λc y=>?_) (λc xs y=>tp c xs y) (λc o' y=>?_)
    ·by_cases hc:c=a
     ·rw[hc,e1]at y;cases y;exact absurd rfl (t3 b)
     ·rw[oth c hc];exact y
    ·by_cases hc:c=a
     ·rw[hc,e1]at y;cases y;exact absurd rfl (t4 o' b)
     ·rw[oth c hc];exact y
 have I1:Inv X pins σ (upd H a (.frz o (.dK kvs))) s:=go I (λb hb=>zas hb) ⟨_,ha,(λ_ y=>by cases y),(λ_ y=>by cases y),(λ_ y=>by cases y),(λ_ _ y=>by cases y)⟩ ⟨_,zao,ho,z,hs,vs,kv,o,es,ep,ho,r⟩
 refine thn (he pins s σ _ _ I1 (q o)) λu s1 ⟨v,H1,J,rv,hf,q1⟩=>?_
 obtain⟨ho1,ok1⟩:=J.hok a _ hf
 obtain⟨z1,hs1,vs1,kv1,r1⟩:=ok1
 exact⟨v,upd H1 a (.dK kvs),go (H2:=upd H1 a (.dK kvs)) J (λb hb=>zas hb) ⟨_,hf,(λ_ y=>by cases y),(λ_ y=>by cases y),(λ_ y=>by cases y),(λ_ _ y=>by cases y)⟩ ⟨_,zao,z1,hs1,vs1,kv1,r1⟩,rv,q1⟩
theorem zalp{e:Expr}{t:TE}{i:Nat}(he:Bx (PE X e t)):Bx (PE X e (tFrz i t)):=⟨zapv he.out⟩
theorem zacs{tg l:Expr}{tl:TE}(hl:Bx (PE X l tl)):Bx (PI X tg l (zacr tl)):=⟨zagw hl.out⟩
end
noncomputable def zrc(i j:Nat):EF:=λenv=>match env[i]?,env[j]? with
 | some (.pl (.dict a)),some (.pl (.dict b))=>if a.length<100000 then(a.mapM λp=>keyD p.1).map λks=>⟨.list (ks.map λk=>.bool (b.any λp=>decide (keyD p.1=some k))),true,[]⟩else none
 | _,_=>none
theorem zact{H:Hp}:∀{kvs:List (PyData×PyData)}{ps:List (Key×V)}{ks:List Key},Rpd H kvs ps->(kvs.mapM λp=>keyD p.1)=some ks->ks=ps.map (·.1)
 | [],ps,ks,h,e=>by
  unfold Rpd at h
  subst h
  simp at e
  subst e
  rfl
 | (k,d)::r,ps,ks,h,e=>by
  unfold Rpd at h
  obtain⟨k',v,vs,rfl,h0,h1,h2⟩:=h
  rw[List.mapM_cons]at e
  have h0':keyD (k,d).1=some k':=h0
  rw[h0']at e
  obtain⟨ks',e1,e2⟩:=qA.mp (show((r.mapM λp=>keyD p.1).bind λx=>some (k'::x))=some ks from e)
  cases e2
  rw[zact h2 e1]
  rfl
theorem zais{H:Hp}{k:Key}:∀{kvs:List (PyData×PyData)}{ps:List (Key×V)},Rpd H kvs ps->(kvs.any λp=>decide (keyD p.1=some k))=(valV ps k).isSome
 | [],ps,h=>by
  unfold Rpd at h
  subst h
  rfl
 | (k0,d)::r,ps,h=>by
  unfold Rpd at h
  obtain⟨k',v,vs,rfl,h0,h1,h2⟩:=h
  rw[qAY,zais h2,h0]
  unfold valV
  rw[qA1]
  by_cases e:k'=k
  ·simp[e]
  ·simp[e]
theorem zacu{i j:Nat}{own:List Str}(ho:own.length=1):SE (tFrz i (tComp1 (zacr (tVar i)) (gName 0) tAll (tDIn (tVar 0) (tVar 1)) own [j])) (zrc i j):=by
 intro fx H0 env σ H h rr hr Q q
 unfold zrc at hr
 split at hr
 ·rename_i a b ei ej
  split at hr
  ·rename_i hl
   obtain⟨ks,ek,rfl⟩:=qH.mp hr
   obtain⟨va,sa,ra⟩:=h.pl i _ ei
   obtain⟨vb,sb,rb⟩:=h.pl j _ ej
   obtain⟨pa,psa,rfl,ha,rda⟩:=zhn ra
   obtain⟨pb,psb,rfl,hb,rdb⟩:=zhn rb
   have hks:=zact rda ek
   have ha:=zbw ha
   have hb:=zbw hb
   refine⟨pa,psa,sa,ha,λo=>⟨_,sa,pa,o,psa,rfl,zao,λp hp=>?_⟩⟩
   have np:pa≠p:=λz=>by rw[<- z,zao]at hp;cases hp
   have hpH:H p=none:=by rw[zas (qBB np)]at hp;exact hp
   have nb:pb≠p:=λz=>by rw[z,hpH]at hb;cases hb
   have rdB:∀ys,Rd (upd (upd H pa (.frz o (.dK psa))) p (.lst ys)) pb (.dK psb):=λys=>by
    by_cases e:pb=pa
    ·subst e
     rw[ha]at hb
     cases hb
     exact .inr ⟨o,by rw[zas np,zao]⟩
    ·exact .inl (by rw[zas nb,zas e];exact hb)
   match own,ho with
   | [x0],_=>
   have t1:(tau [x0] [j] σ)[1]?=some (some (.ref pb)):=by
    unfold tau
    show some (σ.getD j none)=_
    rw[qZ,sb];rfl
   refine⟨λi' m σ' H'=>m=psa.length - i'/\i'<=psa.length/\σ'.length=2/\σ'[1]?=some (some (.ref pb))/\H'=upd (upd H pa (.frz o (.dK psa))) p (.lst ((psa.take i').map λkv=>V.bl (valV psb kv.1).isSome)),⟨psa.length,rfl,qAL _,rfl,t1,rfl⟩,?_⟩
   rintro i' m σ' H' ⟨rfl,hi,l2,s1,rfl⟩
   have hfz:upd (upd H pa (.frz o (.dK psa))) p (.lst ((psa.take i').map λkv=>V.bl (valV psb kv.1).isSome)) pa=some (.frz o (.dK psa)):=by rw[zas np,zao]
   by_cases hlt:i'<psa.length
   ·refine .inr ⟨⟨hlt,hfz⟩,λσ'' H''=>i'+1<=psa.length/\σ''.length=2/\σ''[1]?=some (some (.ref pb))/\H''=upd (upd H pa (.frz o (.dK psa))) p (.lst ((psa.take (i'+1)).map λkv=>V.bl (valV psb kv.1).isSome)),?_,?_⟩
    ·rintro σ'' H'' ⟨h1,h2,h3,h4⟩
     exact⟨psa.length - (i'+1),by omega,rfl,h1,h2,h3,h4⟩
    ·rintro x H'' ⟨rfl,k,v,hk,rfl⟩
     unfold gName tAll
     dsimp only
     rw[if_pos rfl]
     refine⟨kV k,?_,.ref pb,?_,pb,valV psb k,rfl,.inl ⟨psb,k,rdB _,rfl,rfl⟩,_,zao,?_,hlt,?_,?_,?_⟩
     ·rw[qe (by omega)]
     ·rw[qN (by decide)];exact s1
     ·rw[qD,qAd,qCO (by omega)]
      exact zhq (by have:=rda.length;omega)
     ·rw[qf];exact l2
     ·rw[qN (by decide)];exact s1
     ·rw[zajl]
      have:psa.take (i'+1)=psa.take i'++[(k,v)]:=by rw[List.take_add_one,hk];rfl
      rw[this,qp]
      rfl
   ·have hi':i'=psa.length:=by omega
    subst hi'
    refine .inl ⟨⟨qK _,hfz⟩,hfz,?_⟩
    rw[qBj]
    have hback:upd (upd (upd H pa (.frz o (.dK psa))) p (.lst (psa.map λkv=>V.bl (valV psb kv.1).isSome))) pa (.dK psa)=upd H p (.lst (psa.map λkv=>V.bl (valV psb kv.1).isSome)):=by
     funext c
     by_cases e1:c=pa
     ·subst e1;rw[zao,zas np,ha]
     ·rw[zas e1]
      by_cases e2:c=p
      ·subst e2;rw[zao,zao]
      ·rw[zas e2,zas e2,zas e1]
    rw[hback]
    have hA:=h.lims []
    have rs:Rps (Offs (lim fx env σ []) H) (ks.map λk=>PyData.bool (b.any λp=>decide (keyD p.1=some k))) (psa.map λkv=>V.bl (valV psb kv.1).isSome):=by
     rw[hks,qAQ]
     have g:∀l:List (Key×V),Rps (Offs (lim fx env σ []) H) (l.map ((λk=>PyData.bool (b.any λp=>decide (keyD p.1=some k)))∘λx=>x.1)) (l.map λkv=>V.bl (valV psb kv.1).isSome):=by
      intro l
      induction l with
      | nil=>exact zct
      | cons y l ih=>exact zcp (by show Rp _ (.bool (b.any λp=>decide (keyD p.1=some y.1))) _;rw[zais rdb];exact zbb) ih
     exact g psa
    exact q _ _ (Same.new hpH) ⟨zpo hpH (zcu hA hpH) rs,λ_=>⟨p,rfl,hpH,zkx hpH rs⟩⟩
  ·cases hr
 ·cases hr
noncomputable def mkD:PyData->Option MK
 | .tuple ds=>(zva ds).map Sum.inr
 | .int i=>some (.inl (.inl i))
 | .str x=>some (.inl (.inr x))
 | _=>none
structure RowM(G:Hp)(r:PyData×PyData)(p:MK×V×V):Prop where
 kd:mkD r.1=some p.1
 key:Rp G r.1 p.2.1
 val:Rp G r.2 p.2.2
theorem RowM.same{G G':Hp}{r:PyData×PyData}{p:MK×V×V}(s:Same G G')(h:RowM G r p):RowM G' r p:=⟨h.kd,Rp.same s _ h.key,Rp.same s _ h.val⟩
theorem zalq{H:Hp}{d:PyData}{m:MK}{v:V}(e:mkD d=some m)(r:Rp H d v):keyV H m v:=by
 cases d with
 | int i=>cases e;exact zbz r
 | str x=>cases e;exact zir r
 | tuple ds=>
  obtain⟨ks,ek,rfl⟩:=qH.mp (show(zva ds).map Sum.inr=some m from e)
  obtain⟨a,xs,rfl,h1,h2⟩:=zcg r
  exact⟨a,rfl,by rw[h1,zxc h2 ek]⟩
 | _=>cases e
theorem znr{G H:Hp}(s:Same G H):∀{rows:List (PyData×PyData)}{ps:List (MK×V×V)},Paired (RowM G) rows ps->zaav H ps
 | _,_,.nil=>λp hp=>nomatch hp
 | _,_,.cons h t=>λp hp=>by
  rcases qX.mp hp with rfl|hp
  ·exact zalq h.kd (Rp.same s _ h.key)
  ·exact znr s t p hp
noncomputable def zagx(rows:List (PyData×PyData))(k:PyData):Option PyData:=(mkD k).bind λm=>(rows.find? λr=>decide (mkD r.1=some m)).map (·.2)
theorem zxm{G:Hp}{m:MK}{d:PyData}:∀{rows:List (PyData×PyData)}{ps:List (MK×V×V)},Paired (RowM G) rows ps->(rows.find? λr=>decide (mkD r.1=some m)).map (·.2)=some d->∃v,valM ps m=some v/\Rp G d v
 | _,_,.nil,e=>by cases e
 | _::rows,_::ps,.cons (a:=r) (b:=p) h t,e=>by
  unfold valM
  by_cases z:p.1=m
  ·rw[qAu (by rw[h.kd,z];simp)]at e
   cases e
   rw[qAu (by simpa using z)]
   exact⟨_,rfl,h.val⟩
  ·rw[qAi (by rw[h.kd];simpa using z)]at e
   rw[qAi (by simpa using z)]
   exact zxm t e
noncomputable def MxA(P:Program)(w:World)(i:Nat)(rows:List (PyData×PyData))(A:Addr->Prop)(σ:St)(H:Hp):Prop:=∃a o ps,σ[i]?=some (some (.ref a))/\H a=some (.frz o (dmO P w a ps))/\Paired (RowM (Offs A H)) rows ps
theorem MxA.to{P:Program}{w:World}{i j:Nat}{rows:List (PyData×PyData)}{A B:Addr->Prop}{σ τ:St}{H H':Hp}(h:MxA P w i rows A σ H)(e:∀a,σ[i]?=some (some (.ref a))->τ[j]?=some (some (.ref a)))(s:Same H H')(so:Same (Offs A H) (Offs B H')):MxA P w j rows B τ H':=by
 obtain⟨a,o,ps,h1,h2,h3⟩:=h
 exact⟨a,o,ps,e a h1,s _ _ h2,Paired.mapP h3 λ_ _ z=>z.same so⟩
theorem MxA.up{P:Program}{w:World}{i:Nat}{rows:List (PyData×PyData)}{A:Addr->Prop}{σ:St}{H H':Hp}(h:MxA P w i rows A σ H)(s:Same H H'):MxA P w i rows A σ H':=h.to (λa e=>e) s (Offs.grow s)
section
variable{P:Program}{w:World}{i:Nat}{rows:List (PyData×PyData)}
noncomputable def SEm(P:Program)(w:World)(i:Nat)(rows:List (PyData×PyData))(te:TE)(f:EF):Prop:=∀(fx:Addr->Prop)(H0:Hp)(env:DEnv)(σ:St)(H:Hp),EnvOk fx H0 env σ H->MxA P w i rows (λb=>fx b\/own env σ b) σ H->∀r,f env=some r->∀Q:VK,(∀v H',Same H H'->ValOk (lim fx env σ r.bs) H H' r v->Q v H')->te σ H Q
noncomputable def SAm(P:Program)(w:World)(i:Nat)(rows:List (PyData×PyData))(ta:TA)(f:AF):Prop:=∀(fx:Addr->Prop)(H0:Hp)(env:DEnv)(σ:St)(H:Hp),EnvOk fx H0 env σ H->MxA P w i rows (λb=>fx b\/own env σ b) σ H->∀rs,f env=some rs->∀Q:List V->Hp->Prop,(∀vs H',Same H H'->Paired (λr v=>ValOk (lim fx env σ r.bs) H H' r v) rs vs->Q vs H')->ta σ H Q
noncomputable def STm(P:Program)(w:World)(i:Nat)(rows:List (PyData×PyData))(tt:TT)(f:TF):Prop:=∀(fx:Addr->Prop)(H0:Hp)(env:DEnv)(σ:St)(H:Hp),EnvOk fx H0 env σ H->MxA P w i rows (λb=>fx b\/own env σ b) σ H->∀b,f env=some b->∀Q:Bool->Hp->Prop,(∀H',Same H H'->Q b H')->tt σ H Q
theorem zacv{te:TE}{f:EF}(h:SE te f):SEm P w i rows te f:=λfx H0 env σ H hE _=>h fx H0 env σ H hE
theorem zait{ta:TA}{f:AF}(h:SA ta f):SAm P w i rows ta f:=λfx H0 env σ H hE _=>h fx H0 env σ H hE
theorem zapw{tt:TT}{f:TF}(h:ST tt f):STm P w i rows tt f:=λfx H0 env σ H hE _=>h fx H0 env σ H hE
theorem zrd{te:TE}{ta:TA}{f:EF}{g:AF}(h1:SEm P w i rows te f)(h2:SAm P w i rows ta g):SAm P w i rows (tCons te ta) (zad f g):=by
 intro fx H0 env σ H h hm rs hr Q q
 unfold zad at hr
 obtain⟨x,ex,hr⟩:=qA.mp hr
 obtain⟨xs,exs,rfl⟩:=qH.mp hr
 exact h1 fx H0 env σ H h hm x ex _ λv H1 s1 v1=>h2 fx H0 env σ H1 (h.up s1) (hm.up s1) xs exs _ λvs H2 s2 vs2=>q (v::vs) H2 (s1.trans s2)
  (.cons (v1.later (Same.refl _) s2 λ_ z=>z) (Paired.mapP vs2 λ_ _ z=>z.later s1 (Same.refl _) λ_ y=>y))
noncomputable def zio(rows:List (PyData×PyData))(f:EF):EF:=λenv=>(f env).bind λy=>(zagx rows y.d).map λd=>⟨d,false,[]⟩
theorem zmu{ty:TE}{f:EF}(h:SE ty f):SEm P w i rows (zafo P w (tVar i) ty) (zio rows f):=by
 intro fx H0 env σ H hE hm rr hr Q q
 unfold zio at hr
 obtain⟨y,ey,hr⟩:=qA.mp hr
 obtain⟨d,ed,rfl⟩:=qH.mp hr
 obtain⟨a,o,ps,h1,h2,h3⟩:=hm
 refine⟨.ref a,h1,h fx H0 env σ H hE y ey _ λv H1 s1 v1=>?_⟩
 obtain⟨m,em,ed⟩:=qA.mp ed
 have h3':=Paired.mapP h3 λ_ _ z=>z.same (Offs.grow (A:=λb=>fx b\/own env σ b) s1)
 obtain⟨u,hu,ru⟩:=zxm h3' ed
 exact⟨a,ps,m,u,rfl,.inr ⟨o,s1 _ _ h2⟩,znr (Offs.same _ _) h3',zalq em (Rp.same (Offs.same _ _) _ v1.rp),hu,q u H1 s1 ⟨Rp.same (Offs.sub zhp) _ ru,λz=>by cases z⟩⟩
theorem zacw{td ty:TE}{fa fb:EF}(ha:SE ty fa)(hb:SEm P w i rows td fb):SEm P w i rows (tDIn ty td) (eDIn false fa fb):=by
 intro fx H0 env σ H h hm rr hr Q q
 unfold eDIn at hr
 obtain⟨⟨dx,frx,bx⟩,ex,hr⟩:=qA.mp hr
 obtain⟨⟨dy,fry,by'⟩,ey,hr⟩:=qA.mp hr
 cases dy with
 | dict kvs=>
  obtain⟨k,ek,hr⟩:=qA.mp hr
  cases hr
  refine ha fx H0 env σ H h _ ex _ λv H1 s1 v1=>hb fx H0 env σ H1 (h.up s1) (hm.up s1) _ ey _ λu H2 s2 v2=>?_
  obtain⟨a,ps,rfl,hp,r⟩:=zhn v2.rp
  rw[zabr v1.rp ek]
  exact⟨a,_,rfl,DGet.k (zbw hp),by rw[zabs r k];exact q _ H2 (s1.trans s2) ⟨zbb,λz=>by cases z⟩⟩
 | _=>cases hr
theorem zapx{te:TE}{f:EF}(h:SEm P w i rows te f):STm P w i rows (tTest te) (zay f):=by
 intro fx H0 env σ H hE hm b hb Q q
 unfold zay at hb
 obtain⟨⟨d,fr,bs⟩,e,hb⟩:=qA.mp hb
 cases d with
 | bool c=>
  have hb:some c=some b:=hb
  cases hb
  exact h fx H0 env σ H hE hm _ e _ λv H' s v1=>⟨b,zjc v1.rp,q H' s⟩
 | _=>cases hb
theorem zalr{K:qC}{te:TE}{f:EF}(h:SEm P w i rows te f):STm P w i rows (λσ H Q=>te σ H λx H1=>∃k,TruV K x H1 k/\Q k H1) (tTru f):=by
 intro fx H0 env σ H hE hm b hb Q q
 unfold tTru at hb
 obtain⟨r,e,hb⟩:=qA.mp hb
 exact h fx H0 env σ H hE hm _ e _ λv H' s v1=>⟨b,zapg (Rp.same (Offs.same _ _) _ v1.rp) hb,q H' s⟩
theorem zals{t u:TT}{f g:TF}(h:STm P w i rows t f)(k:STm P w i rows u g):STm P w i rows (tAnd t u) (zje f g):=by
 intro fx H0 env σ H hE hm b hb Q q
 unfold zje at hb
 obtain⟨c,e,hb⟩:=qA.mp hb
 refine h fx H0 env σ H hE hm c e _ λH' s=>?_
 cases c with
 | true=>exact iteT (k fx H0 env σ H' (hE.up s) (hm.up s) b hb _ λH'' s'=>q H'' (s.trans s'))
 | false=>cases hb;exact iteF (q H' s)
theorem zalt{t:TT}{f:TF}(h:STm P w i rows t f):STm P w i rows (tNot t) (znh f):=by
 intro fx H0 env σ H hE hm b hb Q q
 unfold znh at hb
 obtain⟨c,e,rfl⟩:=qH.mp hb
 exact h fx H0 env σ H hE hm c e _ λH' s=>q H' s
theorem zalu{ta tb:TE}{fa fb:EF}(ha:SEm P w i rows ta fa)(hb:SEm P w i rows tb fb):SEm P w i rows (tAndV ta tb) (eAnd fa fb):=by
 intro fx H0 env σ H h hm rr hr Q q
 unfold eAnd at hr
 obtain⟨x,ex,hr⟩:=qA.mp hr
 obtain⟨c,ec,hr⟩:=qA.mp hr
 refine ha fx H0 env σ H h hm _ ex _ λv H1 s1 v1=>⟨c,as_b v1.rp ec,?_⟩
 cases c with
 | true=>exact iteT (hb fx H0 env σ H1 (h.up s1) (hm.up s1) _ hr _ λu H2 s2 v2=>q u H2 (s1.trans s2) (v2.later s1 (Same.refl _) λ_ z=>z))
 | false=>cases hr;exact iteF (q _ H1 s1 ⟨zbb,λz=>by cases z⟩)
theorem zagy{n:Nat}{g:GF}{ta:TA}{f:AF}(ha:SAm P w i rows ta f):SEm P w i rows (tCall (spD n g) [] E0 ta) (zbu n g f):=by
 intro fx H0 env σ H h hm rr hr Q q
 unfold zbu at hr
 obtain⟨rs,er,hr⟩:=qA.mp hr
 split at hr
 ·rename_i hn
  obtain⟨⟨d,fr⟩,ez,hr⟩:=qA.mp hr
  cases hr
  refine ha fx H0 env σ H h hm rs er _ λvs H1 s1 v1=>?_
  rw[qu]
  refine⟨lim fx env σ (bss rs),zft rs,d,fr,by rw[zgk];exact hn,(h.up s1).lims _,zef (λi hi=>hi) v1,ez,λw H3 s3 ⟨rp,fr3⟩=>q w H3 (s1.trans s3) ⟨zgt rp,λe=>?_⟩⟩
  obtain⟨a,g1,g2,g3⟩:=fr3 e
  refine⟨a,g1,s1.free g2,?_⟩
  have nf:zdx d=false:=by cases d<;>first|rfl|exact g3.elim
  show zci (Offs (λb=>lim fx env σ (bsOf d (bss rs)) b\/b=a) H3) H3 a d
  rw[show bsOf d (bss rs)=bss rs by unfold bsOf;rw[if_neg (by rw[nf];decide)]]
  exact g3
 ·cases hr
theorem zapy{r:List V->Hp->VK->Prop}{g:GF}{ta:TA}{f:AF}(hc:SC r g)(ha:SAm P w i rows ta f):SEm P w i rows (tCB r ta) (eCB g f):=by
 intro fx H0 env σ H h hm rr hr Q q
 unfold eCB at hr
 obtain⟨rs,er,hr⟩:=qA.mp hr
 obtain⟨⟨d,fr⟩,ez,hr⟩:=qA.mp hr
 cases hr
 refine ha fx H0 env σ H h hm rs er _ λvs H1 s1 v1=>hc (lim fx env σ (bss rs)) H1 vs (zft rs) ((h.up s1).lims _) (zef (λi hi=>hi) v1) d fr ez _ λw H3 s3 rp fr3=>q w H3 (s1.trans s3) ⟨zgt rp,λe=>?_⟩
 obtain⟨a,g1,g2,g3⟩:=fr3 e
 refine⟨a,g1,s1.free g2,?_⟩
 have nf:zdx d=false:=by cases d<;>first|rfl|exact g3.elim
 show zci (Offs (λb=>lim fx env σ (bsOf d (bss rs)) b\/b=a) H3) H3 a d
 rw[show bsOf d (bss rs)=bss rs by unfold bsOf;rw[if_neg (by rw[nf];decide)]]
 exact g3
noncomputable def YlM(A0:Addr->Prop)(H1:Hp)(J:It)(ds:List PyData):Prop:=∀(A:Addr->Prop)(H':Hp),(∀b,A b->∃o,H' b=some o)->Same (Offs A0 H1) (Offs A H')->Same H1 H'->
 (∀i d,ds[i]?=some d->J.go i H'/\∀x H'',J.yld i H' x H''->Same H' H''/\Rp (Offs A H'') d x)/\J.stop ds.length H'
noncomputable def SIm(P:Program)(w:World)(i:Nat)(rows:List (PyData×PyData))(wi:TI)(f:IF'):Prop:=∀(fx:Addr->Prop)(H0:Hp)(env:DEnv)(σ:St)(H:Hp),EnvOk fx H0 env σ H->MxA P w i rows (λb=>fx b\/own env σ b) σ H->∀ds bs,f env=some (ds,bs)->∀R:It->Hp->Prop,
 (∀J H1,Same H H1->YlM (λb=>fx b\/own (frzs env bs) σ b) H1 J ds->R J H1)->wi σ H R
theorem zaiu{wi:TI}{f:IF'}(h:SI wi f):SIm P w i rows wi f:=λfx H0 env σ H hE _ ds bs e R k=>h fx H0 env σ H hE ds bs e R λJ H1 s y=>k J H1 s λA H' hA so _=>y A H' hA so
noncomputable def zagz(rows:List (PyData×PyData)):IF':=λ_=>some (rows.map (·.1),[])
theorem zalv:SIm P w i rows (iMix P w (tVar i)) (zagz rows):=by
 intro fx H0 env σ H hE hm ds bs e R k
 cases e
 obtain⟨a,o,ps,h1,h2,h3⟩:=hm
 refine⟨.ref a,h1,a,o,ps,rfl,h2,k _ H (Same.refl _) λA H' hA so sm=>⟨λj d ej=>?_,?_⟩⟩
 ·rw[qV]at ej
  cases er:rows[j]? with
  | none=>rw[er]at ej;cases ej
  | some r=>
   rw[er]at ej
   cases ej
   obtain⟨p,hp,rm⟩:=Paired.at_ h3 er
   refine⟨⟨(qM.mp hp).1,sm _ _ h2⟩,λx H'' y=>?_⟩
   obtain⟨rfl,m,v,hp'⟩:=y
   rw[hp]at hp'
   cases hp'
   exact⟨Same.refl _,Rp.same so _ rm.key⟩
 ·refine⟨?_,sm _ _ h2⟩
  rw[qD,qAy h3]
  exact qK _
theorem zre{x:Str}{fr:List Nat}{kk:Nat}{wi:TI}{tt:TT}{te:TE}{fi:IF'}{t:TF}{e:EF}(hk:fr[kk]?=some i)(h1:SIm P w i rows wi fi)(h3:STm P w (kk+1) rows tt t)(h4:SEm P w (kk+1) rows te e) :
  SEm P w i rows (tComp1 wi (gName 0) tt te [x] fr) (zdy [x] fr fi (gN 0) t e):=by
 intro fx H0 env σ H h hm rr hr Q q
 unfold zdy at hr
 obtain⟨⟨ds,bs⟩,ei,hr⟩:=qA.mp hr
 split at hr
 ·rename_i hlen
  have hlen:ds.length<100000:=hlen
  obtain⟨rs,ers,rfl⟩:=qH.mp hr
  refine h1 fx H0 env σ H h hm ds bs ei _ λJ H1 s yl=>λp hp=>?_
  have hB:=znl h s hp [x] fr bs
  generalize hA:(λb=>lim fx env σ (bs++capA fr env) b)=A
  have hA':∀b,lim fx env σ (bs++capA fr env) b↔A b:=λb=>by rw[<- hA]
  have eA:(λb=>lim fx env σ (bs++capA fr env) b\/b=p)=λb=>A b\/b=p:=by rw[<- hA]
  rw[eA]at hB
  have seen:∀{σ':St}{H':Hp},EnvOk (λb=>A b\/b=p) H1 (envB [x] fr env) σ' H'->Same (Offs (λb=>fx b\/L2.own (frzs env bs) σ b) H1) (Offs (λb=>A b\/b=p) H'):=λ{σ' H'} hE=>Offs.mono hE.base λb o eo n z=>by
   rcases z with z|z
   ·rcases(hA' b).mpr z with z|⟨i,d,z1,z2,z3⟩
    ·exact n (.inl z)
    ·exact n (.inr ⟨i,d,zet (λy=>z1 (qi _ y)) z2,z3⟩)
   ·rw[z,hp]at eo;cases eo
  have mx:∀{e1:DEnv}{σ':St}{H':Hp},(∀(j:Nat)(d:PyData),e1[j]?≠some (Sl.ac d))->Same H1 H'->(∀a,σ[i]?=some (some (.ref a))->σ'[kk+1]?=some (some (.ref a)))->MxA P w (kk+1) rows (λb=>(A b\/b=p)\/L2.own e1 σ' b) σ' H':=λ{e1 σ' H'} ha sm es=>by
   refine hm.to es (s.trans sm) (Offs.mono (s.trans sm) λb o eo n z=>?_)
   rcases z with(z|z)|⟨j,d,z,_⟩
   ·exact n (zhp b ((hA' b).mpr z))
   ·rw[z,s.free hp]at eo;cases eo
   ·exact ha j d z
  refine⟨λj m σ' H'=>m=ds.length - j/\j<=ds.length/\(∀a,σ[i]?=some (some (.ref a))->σ'[kk+1]?=some (some (.ref a)))/\∃vs done rest,H' p=some (.lst vs)/\Rps (Offs (λb=>A b\/b=p) H') done vs/\done.length<=j/\zcv (gN 0) t e (envB [x] fr env) (ds.drop j)=some rest/\done++rest=rs/\EnvOk (λb=>A b\/b=p) H1 (envB [x] fr env) σ' H',
   ⟨ds.length,rfl,qAL _,λa ha=>by rw[Nat.add_comm];exact zux (own:=[x]) hk ha,[],[],rs,zao,zct,qAL _,ers,rfl,hB⟩,?_⟩
  rintro j m σ' H' ⟨rfl,hi,hs,vs,done,rest,ep,rd,dl,ec,edr,hE⟩
  obtain⟨yi,ys⟩:=yl _ H' hE.fxs (seen hE) hE.base
  by_cases hlt:j<ds.length
  ·obtain⟨yg,yy⟩:=yi j ds[j] (qG hlt)
   refine .inr ⟨yg,λσ'' H''=>j+1<=ds.length/\(∀a,σ[i]?=some (some (.ref a))->σ''[kk+1]?=some (some (.ref a)))/\∃vs done rest,H'' p=some (.lst vs)/\Rps (Offs (λb=>A b\/b=p) H'') done vs/\done.length<=j+1/\zcv (gN 0) t e (envB [x] fr env) (ds.drop (j+1))=some rest/\done++rest=rs/\EnvOk (λb=>A b\/b=p) H1 (envB [x] fr env) σ'' H'',?_,?_⟩
   ·rintro σ'' H'' ⟨hle,hh⟩
    exact⟨ds.length - (j+1),by omega,rfl,hle,hh⟩
   ·intro y H'' hy
    obtain⟨sy,ry⟩:=yy y H'' hy
    rw[qy hlt]at ec
    obtain⟨e1,ee1,ec⟩:=qA.mp ec
    obtain⟨b,eb,ec⟩:=qA.mp ec
    have ry':Rp (Offs (λa=>(A a\/a=p)\/L2.own (envB [x] fr env) σ' a) H'') ds[j] y:=Rp.same (Offs.sub λb z=>z.elim (λy=>y) λ⟨j,d',z,_⟩=>absurd z zen) _ ry
    cases ee1
    have hE2:EnvOk (λb=>A b\/b=p) H1 ((envB [x] fr env).set 0 (.pl ds[j])) (σ'.set 0 (some y)) H'':=(hE.up sy).setPl 0 ry'
    have nac:∀(j':Nat)(d:PyData),((envB [x] fr env).set 0 (.pl ds[j]))[j']?≠some (.ac d):=λj' d z=>by
     rcases zbe z with⟨_,y⟩|⟨_,y⟩
     ·cases y
     ·exact zen y
    have hs2:∀a,σ[i]?=some (some (.ref a))->(σ'.set 0 (some y))[kk+1]?=some (some (.ref a)):=λa ha=>by
     rw[qN (by omega)];exact hs a ha
    refine h3 _ H1 _ _ H'' hE2 (mx nac (hE.base.trans sy) hs2) b eb _ λH3 s3=>?_
    have hE3:=hE2.up s3
    have back:∀{H4:Hp},EnvOk (λb=>A b\/b=p) H1 ((envB [x] fr env).set 0 (.pl ds[j])) (σ'.set 0 (some y)) H4->EnvOk (λb=>A b\/b=p) H1 (envB [x] fr env) (σ'.set 0 (some y)) H4:=λ{H4} hh=>hh.weaken (by rw[qf]) (λj' d' ej=>by
     obtain⟨_,k,rfl,_⟩:=zmq ej
     rw[qN (by show 0≠1+k;omega)];exact ej) λj d'=>zen
    cases b with
    | false=>
     have ec:zcv (gN 0) t e (envB [x] fr env) (ds.drop (j+1))=some rest:=ec
     exact iteF ⟨hlt,hs2,vs,done,rest,s3 _ _ (sy _ _ ep),Rps.same (Offs.grow (sy.trans s3)) _ rd,qB5 dl,ec,edr,back hE3⟩
    | true=>
     have ec:((e ((envB [x] fr env).set 0 (.pl ds[j]))).bind λr=>(zcv (gN 0) t e (envB [x] fr env) (ds.drop (j+1))).map λrs=>r.d::rs)=some rest:=ec
     obtain⟨r,er,ec⟩:=qA.mp ec
     obtain⟨rest',er',rfl⟩:=qH.mp ec
     refine iteT (h4 _ H1 _ _ H3 hE3 (mx nac ((hE.base.trans sy).trans s3) hs2) r er _ λv H4 s4 hv=>?_)
     have t4:=(sy.trans s3).trans s4
     refine⟨vs,t4 _ _ ep,zhq (by rw[<- rd.length];omega),hlt,hs2,vs++[v],done++[r.d],rest',zao,?_,by rw[qQ];simp;omega,er',by rw[<- edr];simp,(back (hE3.up s4)).updFx (.inr rfl) hp⟩
     rw[Offs.upd (.inr rfl)]
     exact(Rps.same (Offs.grow t4) _ rd).append (zcp (Rp.same (Offs.sub λb z=>.inl z) _ hv.rp) zct)
  ·have hi':j=ds.length:=by omega
   subst hi'
   rw[qAR]at ec
   cases ec
   rw[qu]at edr
   subst edr
   refine .inl ⟨ys,q _ H' (s.trans hE.base) ⟨?_,λ_=>⟨p,rfl,s.free hp,?_⟩⟩⟩
   ·show Rp (Offs (lim fx env σ (if zcd done=true then[]else bs++capA fr env)) H') (.list done) (.ref p)
    have nl:∀cs,¬lim fx env σ cs p:=λcs z=>by
     obtain⟨o,eo⟩:=(h.up s).lims _ p z
     rw[hp]at eo;cases eo
    refine zgj (by rw[Offs.get (nl _)];exact ep) ?_
    split
    ·rename_i f;exact zfi f rd
    ·exact Rps.same (Offs.sub λb z=>.inl ((hA' b).mp z)) _ rd
   ·show zci (Offs (λb=>lim fx env σ (if zcd done=true then[]else bs++capA fr env) b\/b=p) H') H' p (.list done)
    refine⟨vs,ep,?_⟩
    split
    ·rename_i f;exact zfi f rd
    ·exact Rps.same (Offs.sub λb z=>z.imp (hA' b).mp id) _ rd
 ·cases hr
end
section
variable{X:Cx}{pins:List (Addr×Obj)}{σ:St}{H:Hp}{s:Shared}
theorem Inv.frzM{a:Addr}{ps:List (MK×V×V)}(I:Inv X pins σ H s)(ha:H a=some (dmO X.prog X.w a ps)):∃o,Inv X pins σ (upd H a (.frz o (dmO X.prog X.w a ps))) s:=by
 obtain⟨φ,⟨o,ho⟩,st⟩:=(show zdf X.prog X.w H s.heap a (dmO X.prog X.w a ps)from I.hok a _ ha)
 have e0:∀b,H b=none->upd H a (.frz o (dmO X.prog X.w a ps)) b=none:=λb y=>by
  by_cases hb:b=a
  ·rw[hb,ha]at y;cases y
  ·rw[zas hb];exact y
 have oth:∀b u,H b=some u->u≠dmO X.prog X.w a ps->upd H a (.frz o (dmO X.prog X.w a ps)) b=some u:=λb u y n=>by
  by_cases hb:b=a
  ·rw[hb,ha]at y;cases y;exact absurd rfl n
  ·rw[zas hb];exact y
 have n0:∀ob u,X.H₀ a≠some (.frz ob u):=λob u y=>by
  have:=I.base.frzs a ob u y
  rw[ha]at this;cases this
 refine⟨o,I.ok,I.os,I.bare,⟨I.base.keep,I.base.slot,λb ob y n hx=>e0 b (I.base.free b ob y n hx),I.base.there,λb xs y=>oth b _ (I.base.tups b xs y) (λz=>by cases z),λb ob u' y=>oth b _ (I.base.frzs b ob u' y) (λz=>by cases z),λb qs y=>?_⟩,I.loc,I.cell,e0 _ I.free,λy c ec=>e0 _ (I.freeC y c ec),λp hp=>?_,λb w y=>?_,I.len⟩
 ·obtain⟨more,y'⟩:=I.base.tbls b qs y
  exact⟨more,oth b _ y' (λz=>by cases z)⟩
 ·obtain⟨p1,p2,p3⟩:=I.pin p hp
  exact⟨p1,e0 _ p2,p3⟩
 ·by_cases hb:b=a
  ·subst hb;rw[zao]at y;cases y;exact⟨ho,φ,⟨o,ho⟩,st⟩
  ·rw[zas hb]at y
   exact(I.hok b w y).stay (λc v _ q=>q) (λc y=>oth c _ y (λz=>by cases z)) (λc xs y=>oth c _ y (λz=>by cases z)) (λc o' y=>oth c _ y (λz=>by cases z))
noncomputable def zxn(P:Program)(w:World)(sp:Sp)(ta:TA):TE:=λσ H Q=>ta σ H λvs H1=>∃a ps,vs.head?=some (.ref a)/\H1 a=some (dmO P w a ps)/\∀o,sp vs (upd H1 a (.frz o (dmO P w a ps))) Q E0
theorem zaha{k:Nat}{f:Addr}{fd:qr}{ps:List Str}{sp:Sp}{x:Str}{p pos:Pos}{e:Expr}{es:List Expr}{t:TA}(F:FnOk X.prog X.w X.K X.mg X.base CX0 k f fd ps sp)(hr:Room k X.A)(hg:Gl X x)(hm:X.mg x=some (.ref f))(hk:qBA X.K (.ref f)=true)(hb:zmj X.K fd ps [])
  (ha:PA X (e::es) t)(hdb:(x==("__debug__":Str))=false)(he:starEach (e::es) X.env=(false,eval e X.env)::starEach es X.env)(hpl:(backTo pos (starEach es X.env)).any (·.1)=false) :
  PE X (.Call (.Name x p) (e::es) [] pos) (zxn X.prog X.w sp t):=by
 intro pins s σ H Q I h
 refine qBf (zzw I hg hm ?_ hdb)
 refine qCj (h₀:=X.base) I.ok.mod.kin hk (thn (ha pos pins s σ H _ I h) λus s1 ⟨vs,H1,I1,r,a,ps,hv,hH,q⟩=>⟨I1.kIn,?_⟩) he hpl
 obtain⟨o,I2⟩:=I1.frzM hH
 exact zaia (dvs:=[]) (ds:=[]) F hr hb .nil zaoo I2 r (by rw[qu];exact q o)
end
theorem zalw{X:Cx}{k:Nat}{ps:List Str}{sp:Sp}{x:Str}{p pos:Pos}{e:Expr}{es:List Expr}{t:TA}(D:Dn X.prog X.w X.K X.mg X.base x ps k sp)(hr:Room k X.A)(hg:Gl X x)(ha:Bx (PA X (e::es) t))(hdb:(x==("__debug__":Str))=false)(he:starEach (e::es) X.env=(false,eval e X.env)::starEach es X.env)(hpl:(backTo pos (starEach es X.env)).any (·.1)=false) :
  Bx (PE X (.Call (.Name x p) (e::es) [] pos) (zxn X.prog X.w sp t)):=by
 obtain⟨f,fd,F,hm,hk,hb⟩:=D
 exact⟨zaha F hr hg hm hk hb ha.out hdb he hpl⟩
theorem zalx{X:Cx}{tg l:Expr}{tl:TE}(hl:Bx (PE X l tl)):Bx (PI X tg l (iMix X.prog X.w tl)):=⟨zaou hl.out⟩
theorem zahb{X:Cx}{o i:Expr}{pos:Pos}{td ty:TE}(hu:X.A.units+1<cLine)(ho:Bx (PE X o td))(hi:Bx (PE X i ty))(hs:NoSl i):Bx (PE X (.Subscript o i pos) (zafo X.prog X.w td ty)):=⟨zakp hu ho.out hi.out hs⟩
theorem zahc{X:Cx}{o i value:Expr}{pos pos':Pos}{td ty tv:TE}(hu:X.A.units+1<cLine)(ho:Bx (PE X o td))(hi:Bx (PE X i ty))(hv:Bx (PE X value tv))(hs:swapsWith value (some (.Subscript o i pos')) pos.line X.env=pure false) :
  Bx (PS X (.Assign [.Subscript o i pos'] value pos) (zakq X.prog X.w td ty tv)):=⟨zakr hu ho.out hi.out hv.out hs⟩
noncomputable abbrev zdb:=List (PyData×PyData)
noncomputable def spMA(P:Program)(w:World)(g:zdb->PyData->PyData->Option PyData):Sp:=λvs H Q _=>∃(fx:Addr->Prop)(a:Addr)(o:Obj)(ps:List (MK×V×V))(rows:zdb)(k1 k2:PyData)(v1 v2:V)(d:PyData),vs=[.ref a,v1,v2]/\(∀b,fx b->∃o,H b=some o)/\H a=some (.frz o (dmO P w a ps))/\Paired (RowM (Offs fx H)) rows ps/\Rp (Offs fx H) k1 v1/\Rp (Offs fx H) k2 v2/\g rows k1 k2=some d/\∀v H',Same H H'->zso fx H d true v H'->Q v H'
theorem zahd{P:Program}{w:World}{g:zdb->PyData->PyData->Option PyData}{vs:List V}{H:Hp}{Q:VK}{E:XK}(h:spMA P w g vs H Q E):vs.length=3:=by
 obtain⟨fx,a,o,ps,rows,k1,k2,v1,v2,d,rfl,_⟩:=h
 rfl
noncomputable def gMA(f1 f2:zdb->EF):zdb->PyData->PyData->Option PyData:=λrows k1 k2=>(f1 rows [.no,.pl k1,.pl k2,.no]).bind λr1=>if r1.fr=true/\r1.bs=[]then(f2 rows [.no,.pl k1,.pl k2,.ac r1.d]).bind λr2=>if r2.fr=true then some r2.d else none else none
theorem zart{P:Program}{w:World}{N:List Str}{te1 te2:TE}{f1 f2:zdb->EF}(hN:N.length=4)(h1:∀rows,SEm P w 0 rows te1 (f1 rows))(h2:∀rows,SEm P w 0 rows te2 (f2 rows)){vs:List V}{H:Hp}{Q:VK}{E:XK}(h:spMA P w (gMA f1 f2) vs H Q E) :
  tSeq (tAsg te1 (gName 3)) (tRet te2) {nx:=λ_ H'=>Q .non H',rt:=Q} (zdw N vs) H:=by
 obtain⟨fx,a,o,ps,rows,k1,k2,v1,v2,d,rfl,hf,ha,hr,r1,r2,hg,q⟩:=h
 have st:zdw N [.ref a,v1,v2]=[some (.ref a),some v1,some v2,none]:=by
  unfold zdw
  rw[hN];rfl
 rw[st]
 have noac:∀(i:Nat)(d:PyData),([.no,.pl k1,.pl k2,.no]:DEnv)[i]?≠some (.ac d):=λi d e=>by
  match i with
  | 0=>cases e
  | 1=>cases e
  | 2=>cases e
  | 3=>cases e
  | n+4=>cases e
 have ow:∀b,¬own [.no,.pl k1,.pl k2,.no] [some (.ref a),some v1,some v2,none] b:=λb ⟨i,d,e,_⟩=>noac i d e
 have so:Same (Offs fx H) (Offs (λb=>fx b\/own [.no,.pl k1,.pl k2,.no] [some (.ref a),some v1,some v2,none] b) H):=Offs.sub λb z=>z.elim id λy=>absurd y (ow b)
 have hE:EnvOk fx H [.no,.pl k1,.pl k2,.no] [some (.ref a),some v1,some v2,none] H:=by
  refine⟨rfl,λi d e=>?_,λi d e=>absurd e (noac i d),λi j d e a z=>absurd z (noac i d),Same.refl _,hf⟩
  match i with
  | 0=>cases e
  | 1=>cases e;exact⟨v1,rfl,Rp.same so _ r1⟩
  | 2=>cases e;exact⟨v2,rfl,Rp.same so _ r2⟩
  | 3=>cases e
  | n+4=>cases e
 have hM:MxA P w 0 rows (λb=>fx b\/own [.no,.pl k1,.pl k2,.no] [some (.ref a),some v1,some v2,none] b) [some (.ref a),some v1,some v2,none] H:=⟨a,o,ps,rfl,ha,Paired.mapP hr λ_ _ z=>z.same so⟩
 unfold gMA at hg
 obtain⟨⟨d1,fr1,bs1⟩,e1,hg⟩:=qA.mp hg
 split at hg
 ·rename_i hfr
  obtain⟨hfr,hbs⟩:=hfr
  have hfr:fr1=true:=hfr
  have hbs:bs1=[]:=hbs
  subst hfr hbs
  obtain⟨⟨d2,fr2,bs2⟩,e2,hg⟩:=qA.mp hg
  split at hg
  ·rename_i hfr2
   have hfr2:fr2=true:=hfr2
   subst hfr2
   cases hg
   refine h1 rows fx H _ _ H hE hM _ e1 _ λu H1 s1 v1'=>?_
   obtain⟨c,rfl,hc,_⟩:=v1'.fr rfl
   have hE1:EnvOk fx H [.no,.pl k1,.pl k2,.ac d1] [some (.ref a),some v1,some v2,some (.ref c)] H1:=hE.put s1 v1' 3
   have hM1:MxA P w 0 rows (λb=>fx b\/own [.no,.pl k1,.pl k2,.ac d1] [some (.ref a),some v1,some v2,some (.ref c)] b) [some (.ref a),some v1,some v2,some (.ref c)] H1:=by
    refine hM.to (λa e=>e) s1 (Offs.mono s1 λb o eo n z=>?_)
    rcases z with z|⟨i,d,z1,z2⟩
    ·exact n (.inl z)
    ·match i with
     | 0=>cases z1
     | 1=>cases z1
     | 2=>cases z1
     | 3=>
      have z2:some (some (V.ref c))=some (some (V.ref b)):=z2
      cases z2
      rw[hc]at eo;cases eo
     | n+4=>cases z1
   refine h2 rows fx H _ _ H1 hE1 hM1 _ e2 _ λv H2 s2 hv=>?_
   refine q v H2 (s1.trans s2) ⟨Rp.same (Offs.sub λb z=>.inl z) _ hv.rp,λz=>?_⟩
   obtain⟨b,g1,g2,g3⟩:=hv.fr z
   exact⟨b,g1,s1.free g2,g3.same (Offs.sub λb y=>y.imp (λw=>.inl w) id) λo w=>w⟩
  ·cases hg
 ·cases hg
theorem EnvOk.setNo{fx:Addr->Prop}{H0:Hp}{env:DEnv}{σ:St}{H:Hp}(h:EnvOk fx H0 env σ H)(i:Nat)(v:Option V):EnvOk fx H0 (env.set i .no) (σ.set i v) H:=by
 have oN:∀b,own (env.set i .no) (σ.set i v) b->own env σ b:=λb ⟨k,d,h1,h2⟩=>by
  rcases zbe h1 with⟨_,z⟩|⟨n,z⟩
  ·cases z
  ·exact⟨k,d,z,by rw[qN (λy=>n y.symm)]at h2;exact h2⟩
 refine⟨by rw[qf,qf];exact h.len,λk d e=>?_,λk d e=>?_,λk l d d' a e1 e2 z1 z2=>?_,h.base,h.fxs⟩
 ·rcases zbe e with⟨_,z⟩|⟨n,z⟩
  ·cases z
  ·obtain⟨u,g1,g2⟩:=h.pl k d z
   exact⟨u,by rw[qN (λy=>n y.symm)];exact g1,Rp.same (Offs.sub λb y=>y.imp id (oN b)) _ g2⟩
 ·rcases zbe e with⟨_,z⟩|⟨n,z⟩
  ·cases z
  ·obtain⟨a,g1,g2,g3,g4⟩:=h.ac k d z
   exact⟨a,by rw[qN (λy=>n y.symm)];exact g1,g2,g3,g4.same (Offs.sub λb y=>y.imp id (oN b)) λo z=>z⟩
 ·rcases zbe e1 with⟨_,z⟩|⟨n1,y1⟩
  ·cases z
  ·rcases zbe e2 with⟨_,z⟩|⟨n2,y2⟩
   ·cases z
   ·rw[qN (λy=>n1 y.symm)]at z1
    rw[qN (λy=>n2 y.symm)]at z2
    exact h.inj k l d d' a y1 y2 z1 z2
noncomputable def spAO(P:Program)(w:World)(n:Nat)(g:List PyData->Option zdb):Sp:=λvs H Q _=>∃(fx:Addr->Prop)(ds:List PyData)(rows:zdb),ds.length=n/\(∀b,fx b->∃o,H b=some o)/\Rps (Offs fx H) ds vs/\g ds=some rows/\∀a ps H',Same H H'->H a=none->H' a=some (dmO P w a ps)->Paired (RowM (Offs (λb=>fx b\/b=a) H')) rows ps->Q (.ref a) H'
theorem zahe{P:Program}{w:World}{n:Nat}{g:List PyData->Option zdb}{vs:List V}{H:Hp}{Q:VK}{E:XK}(h:spAO P w n g vs H Q E):vs.length=n:=by
 obtain⟨fx,ds,d,hn,hf,r,_⟩:=h
 rw[<- r.length];exact hn
noncomputable def SR(P:Program)(w:World)(ts:TS)(G:DEnv->Option zdb):Prop:=∀(fx:Addr->Prop)(H0:Hp)(env:DEnv)(σ:St)(H:Hp)(D:Ends),EnvOk fx H0 env σ H->∀rows,G env=some rows->
 (∀a ps H',Same H0 H'->H0 a=none->H' a=some (dmO P w a ps)->Paired (RowM (Offs (λb=>fx b\/b=a) H')) rows ps->D.rt (.ref a) H')->ts D σ H
noncomputable def zvg(f:SF)(G:DEnv->Option zdb):DEnv->Option zdb:=λenv=>(f env).bind λo=>match o with
 | .nx e=>G e
 | _=>none
theorem zacx{P:Program}{w:World}{t u:TS}{f:SF}{G:DEnv->Option zdb}(h1:SS t f)(h2:SR P w u G):SR P w (tSeq t u) (zvg f G):=by
 intro fx H0 env σ H D h rows e q
 unfold zvg at e
 obtain⟨o1,e1,e⟩:=qA.mp e
 refine h1 fx H0 env σ H _ h o1 e1 ?_
 cases o1 with
 | nx env'=>exact λσ' H' h'=>h2 fx H0 env' σ' H' D h' rows e q
 | bk env'=>cases e
 | ct env'=>cases e
 | rt d fr=>cases e
noncomputable def mxFn(n:Nat)(G:DEnv->Option zdb):List PyData->Option zdb:=λds=>G (zhg n ds)
theorem zaru{P:Program}{w:World}{N:List Str}{n:Nat}{G:DEnv->Option zdb}{t:TS}(hs:SR P w t G){vs:List V}{H:Hp}{Q:VK}{E:XK}(h:spAO P w n (mxFn N.length G) vs H Q E):t {nx:=λ_ H'=>Q .non H',rt:=Q} (zdw N vs) H:=by
 obtain⟨fx,ds,rows,hn,hf,r,g,k⟩:=h
 exact hs fx H _ _ H _ (znk hf r) rows g k
noncomputable def zsv(x y:Nat)(t:TF)(e:EF):List PyData->zdb->DEnv->Option zdb
 | [],rows,_=>some rows
 | d::ds,rows,env=>(t (env.set y (.pl d))).bind λb=>if b=true then(e (env.set y (.pl d))).bind λr=>
   if((mkD d).isSome=true/\y<env.length)/\(∀z∈rows,mkD z.1≠mkD d)/\rows.length<4000 then zsv x y t e ds (rows++[(d,r.d)]) (frzs (env.set y (.pl d)) r.bs)else none
  else zsv x y t e ds rows (env.set y (.pl d))
noncomputable def zaly(x y z:Nat)(fi:IF')(t:TF)(e:EF):DEnv->Option zdb:=λenv=>match env[z]?,env[x]? with
 | some (.ac (.dict kvs)),some .no=>if x≠y then(fi (frzs env [z])).bind λp=>zsv x y t e p.1 kvs (frzs (frzs env [z]) p.2)else none
 | _,_=>none
theorem zapz{d:PyData}{k:Key}(e:keyD d=some k):mkD d=some (.inl k)/\∀H,Rp H d (kV k):=by
 cases d with
 | int i=>cases e;exact⟨rfl,λ_=>zac⟩
 | str x=>cases e;exact⟨rfl,λ_=>zdn⟩
 | _=>cases e
theorem zacy{G:Hp}:∀{kvs:List (PyData×PyData)}{ps:List (Key×V)},Rpd G kvs ps->Paired (RowM G) kvs (zjb ps)
 | [],ps,h=>by unfold Rpd at h;subst h;exact .nil
 | (k,d)::r,ps,h=>by
  unfold Rpd at h
  obtain⟨k',v,vs,rfl,h1,h2,h3⟩:=h
  obtain⟨m1,m2⟩:=zapz h1
  exact .cons ⟨m1,m2 _,h2⟩ (zacy h3)
theorem zxo{G:Hp}{m:MK}:∀{rows:zdb}{ps:List (MK×V×V)},Paired (RowM G) rows ps->(∀z∈rows,mkD z.1≠some m)->m∉ps.map (·.1)
 | _,_,.nil,_=>by simp
 | _::_,_::_,.cons (a:=r) (b:=p) h t,n=>by
  rw[qU,qX]
  rintro(z|z)
  ·exact n r (qW ..) (by rw[h.kd,z])
  ·exact zxo t (λz hz=>n z (qJ _ hz)) z
theorem zsw{G:Hp}{r:PyData×PyData}{p:MK×V×V}:∀{rows:zdb}{ps:List (MK×V×V)},Paired (RowM G) rows ps->RowM G r p->Paired (RowM G) (rows++[r]) (ps++[p])
 | _,_,.nil,h=>.cons h .nil
 | _,_,.cons a t,h=>.cons a (zsw t h)
theorem zalz{P:Program}{w:World}{x y z:Nat}{wi:TI}{fi:IF'}{tt:TT}{t:TF}{te:TE}{e:EF}(h4:SI wi fi)(ht:ST tt t)(he:SE te e) :
  SR P w (tSeq (tAsg (tCB (zaif P w) (tCons (tVar z) tNil)) (gName x)) (tSeq (tFor wi (gName y) (tIfS tt (zakq P w (tVar x) (tVar y) te) tNext)) (tRet (tVar x)))) (zaly x y z fi t e):=by
 intro fx H0 env σ H D h rows hG q
 unfold zaly at hG
 split at hG
 ·rename_i kvs ez hx
  split at hG
  ·rename_i hxy
   obtain⟨⟨ds,bs⟩,ei,hp⟩:=qA.mp hG
   obtain⟨az,sz,z0,zf,ps0,hz,rz⟩:=h.ac z _ ez
   refine⟨.ref az,sz,az,ps0,rfl,hz,λl hl=>?_⟩
   have l0:H0 l=none:=h.base.free hl
   have s1:Same H (upd H l (dmO P w l (zjb ps0))):=λb u eb=>by rw[zas (λy=>by rw[y,hl]at eb;cases eb)];exact eb
   have hE:EnvOk (λb=>fx b\/b=l) H0 (frzs env [z]) (σ.set x (some (.ref l))) (upd H l (dmO P w l (zjb ps0))):=by
    have:=(h.grow (fx':=λb=>fx b\/b=l) s1 (λb o eo n y=>y.elim n λy=>by rw[y,hl]at eo;cases eo) λb y=>y.elim (λy=>let⟨o,eo⟩:=h.fxs b y;⟨o,s1 _ _ eo⟩) λy=>⟨dmO P w l (zjb ps0),by rw[y];exact zao⟩)
    have es:env.set x .no=env:=List.ext_getElem? λi=>by
     rw[List.getElem?_set]
     split
     ·rename_i ei
      subst ei
      rw[hx,if_pos (qM.mp hx).1]
     ·rfl
    have k:=this.setNo x (some (.ref l))
    rw[es]at k
    exact k.frzs [z]
   have hrow:Paired (RowM (Offs (λb=>(fx b\/b=l)\/own (frzs env [z]) (σ.set x (some (.ref l))) b) (upd H l (dmO P w l (zjb ps0))))) kvs (zjb ps0):=by
    refine Paired.mapP (zacy rz) λ_ _ k=>k.same (Offs.mono s1 λb o eo n k=>?_)
    rcases k with(k|k)|⟨i,d,k1,k2⟩
    ·exact n (.inl k)
    ·rw[k,hl]at eo;cases eo
    ·obtain⟨k3,k4⟩:=zgu k1
     rcases zbe k2 with⟨k5,_⟩|⟨_,k5⟩
     ·rw[k5,hx]at k3;cases k3
     ·exact n (.inr ⟨i,d,k3,k5⟩)
   have hl':(upd H l (dmO P w l (zjb ps0))) l=some (dmO P w l (zjb ps0)):=zao
   have hsx:(σ.set x (some (.ref l)))[x]?=some (some (.ref l)):=by
    rw[qe]
    rw[<- h.len]
    exact(qM.mp hx).1
   show tFor _ _ _ _ _ _
   generalize hH2:upd H l (dmO P w l (zjb ps0))=H2 at *
   generalize hσ2:σ.set x (some (.ref l))=σ2 at *
   generalize hps2:zjb ps0=ps2 at *
   generalize henv2:frzs env [z]=env2 at *
   refine h4 _ H0 env2 σ2 H2 hE ds bs ei _ λJ H3 s3 yl=>?_
   have hE3:=(hE.up s3).frzs bs
   have hrow3:Paired (RowM (Offs (λb=>(fx b\/b=l)\/own (frzs env2 bs) σ2 b) H3)) kvs ps2:=Paired.mapP hrow λ_ _ k=>k.same (Offs.mono s3 λb o eo n k=>n (k.imp id λ⟨i,d,k1,k2⟩=>⟨i,d,(zgu k1).1,k2⟩))
   have fl:Same H0 (Offs (λb=>own (frzs env2 bs) σ2 b\/b=l) H3):=λb o eo=>by
    rw[Offs.get]
    ·exact hE3.base b o eo
    ·rintro(⟨i,d,k1,k2⟩|k)
     ·obtain⟨a,g1,g2,_⟩:=hE3.ac i d k1
      rw[k2]at g1;cases g1
      rw[g2]at eo;cases eo
     ·rw[k,l0]at eo;cases eo
   have hE4:EnvOk (λb=>fx b\/b=l) (Offs (λb=>own (frzs env2 bs) σ2 b\/b=l) H3) (frzs env2 bs) σ2 H3:=by
    refine⟨hE3.len,hE3.pl,λi d k=>?_,hE3.inj,Offs.same _ _,hE3.fxs⟩
    obtain⟨a,k1,k2,k3,k4⟩:=hE3.ac i d k
    exact⟨a,k1,Offs.out (.inl ⟨i,d,k,k1⟩),k3,k4⟩
   generalize hF:Offs (λb=>own (frzs env2 bs) σ2 b\/b=l) H3=F at *
   have seen:∀{env':DEnv}{σ':St}{H':Hp},EnvOk (λb=>fx b\/b=l) F env' σ' H'->Same (Offs (λb=>(fx b\/b=l)\/own (frzs env2 bs) σ2 b) H3) (Offs (λb=>(fx b\/b=l)\/own env' σ' b) H'):=λ{env' σ' H'} hh b o eo=>by
    obtain⟨k1,k2⟩:=Offs.of eo
    have hFb:F b=some o:=by rw[<- hF,Offs.get λk=>k.elim (λk=>k1 (.inr k)) λk=>k1 (.inl (.inr k))];exact k2
    rw[Offs.get]
    ·exact hh.base b o hFb
    ·rintro(k|⟨i,d,g1,g2⟩)
     ·exact k1 (.inl k)
     ·obtain⟨a,j1,j2,_⟩:=hh.ac i d g1
      rw[g2]at j1;cases j1
      rw[j2]at hFb;cases hFb
   have Fl:F l=none:=by rw[<- hF];exact Offs.out (.inr rfl)
   refine⟨λi m σ' H'=>m=ds.length - i/\i<=ds.length/\σ'[x]?=some (some (.ref l))/\∃rows' ps' env',H' l=some (dmO P w l ps')/\Paired (RowM (Offs (λb=>(fx b\/b=l)\/own env' σ' b) H')) rows' ps'/\zsv x y t e (ds.drop i) rows' env'=some rows/\EnvOk (λb=>fx b\/b=l) F env' σ' H',⟨ds.length,rfl,qAL _,hsx,kvs,ps2,_,s3 _ _ hl',hrow3,hp,hE4⟩,?_⟩
   rintro i m σ' H' ⟨rfl,hi,hs',rows',ps',env',hl'',hr',e',h'⟩
   obtain⟨yi,ys⟩:=yl _ H' h'.all (seen h')
   by_cases hlt:i<ds.length
   ·obtain⟨yg,yy⟩:=yi i ds[i] (qG hlt)
    refine .inr ⟨yg,λσ'' H''=>i+1<=ds.length/\σ''[x]?=some (some (.ref l))/\∃rows'' ps'' env'',H'' l=some (dmO P w l ps'')/\Paired (RowM (Offs (λb=>(fx b\/b=l)\/own env'' σ'' b) H'')) rows'' ps''/\zsv x y t e (ds.drop (i+1)) rows'' env''=some rows/\EnvOk (λb=>fx b\/b=l) F env'' σ'' H'',?_,?_⟩
    ·rintro σ'' H'' ⟨hle,hh⟩
     exact⟨ds.length - (i+1),by omega,rfl,hle,hh⟩
    ·intro v H'' hy
     obtain⟨sy,ry⟩:=yy v H'' hy
     rw[qy hlt]at e'
     obtain⟨b,eb,e'⟩:=qA.mp e'
     have hE5:EnvOk (λb=>fx b\/b=l) F (env'.set y (.pl ds[i])) (σ'.set y (some v)) H'':=(h'.up sy).setPl y ry
     have hs5:(σ'.set y (some v))[x]?=some (some (.ref l)):=by rw[qN (λk=>hxy k.symm)];exact hs'
     have hr5:Paired (RowM (Offs (λb=>(fx b\/b=l)\/own (env'.set y (.pl ds[i])) (σ'.set y (some v)) b) H'')) rows' ps':=Paired.mapP hr' λ_ _ k=>k.same (Offs.mono sy λb o eo n k=>n (k.imp id (zuv b)))
     refine ht _ F _ _ H'' hE5 b eb _ λH5 s5=>?_
     cases b with
     | false=>
      refine iteF ⟨hlt,hs5,rows',ps',_,s5 _ _ (sy _ _ hl''),Paired.mapP hr5 λ_ _ k=>k.same (Offs.grow s5),e',hE5.up s5⟩
     | true=>
      have e':((e (env'.set y (.pl ds[i]))).bind λr=>if((mkD ds[i]).isSome=true/\y<env'.length)/\(∀z∈rows',mkD z.1≠mkD ds[i])/\rows'.length<4000 then zsv x y t e (ds.drop (i+1)) (rows'++[(ds[i],r.d)]) (frzs (env'.set y (.pl ds[i])) r.bs)else none)=some rows:=e'
      obtain⟨r,er,e'⟩:=qA.mp e'
      split at e'
      ·rename_i hc
       obtain⟨⟨c1,hyl⟩,c2,c3⟩:=hc
       obtain⟨m,em⟩:=qCN.mp c1
       refine iteT (he _ F _ _ H5 (hE5.up s5) r er _ λu H6 s6 hv=>?_)
       have hE6:=((hE5.up s5).up s6).frzs r.bs
       have hr6:Paired (RowM (Offs (λb=>(fx b\/b=l)\/own (frzs (env'.set y (.pl ds[i])) r.bs) (σ'.set y (some v)) b) H6)) rows' ps':=Paired.mapP hr5 λ_ _ k=>k.same (Offs.mono (s5.trans s6) λb o eo n k=>n (k.imp id λ⟨i,d,k1,k2⟩=>⟨i,d,(zgu k1).1,k2⟩))
       have hy6:(σ'.set y (some v))[y]?=some (some v)/\Rp (Offs (λb=>(fx b\/b=l)\/own (env'.set y (.pl ds[i])) (σ'.set y (some v)) b) H5) ds[i] v:=by
        obtain⟨v',g1,g2⟩:=(hE5.up s5).pl y ds[i] (by rw[qe hyl])
        rw[qe (by rw[<- h'.len];exact hyl)]at g1
        cases g1
        exact⟨by rw[qe (by rw[<- h'.len];exact hyl)],g2⟩
       refine⟨.ref l,hs5,v,hy6.1,l,ps',m,rfl,s6 _ _ (s5 _ _ (sy _ _ hl'')),znr (Offs.same _ _) hr6,zalq em (Rp.same ((Offs.same _ _).trans s6) _ hy6.2),zxo hr6 (λz hz=>by rw[<- em];exact c2 z hz),by rw[<- qAy hr6];exact zhq (by omega),?_⟩
       refine⟨hlt,hs5,rows'++[(ds[i],r.d)],ps'++[(m,v,u)],_,zao,?_,e',hE6.updFx (.inr rfl) Fl⟩
       rw[Offs.upd (.inl (.inr rfl))]
       refine zsw hr6 ⟨em,Rp.same (Offs.mono s6 λb o eo n k=>n (k.imp id λ⟨i,d,k1,k2⟩=>⟨i,d,(zgu k1).1,k2⟩)) _ hy6.2,Rp.same (Offs.sub zch) _ hv.rp⟩
      ·cases e'
   ·have hi':i=ds.length:=by omega
    subst hi'
    rw[qAR]at e'
    cases e'
    exact .inl ⟨ys,_,hs',q l ps' H' ((h'.unbase fl).base) l0 hl'' (Paired.mapP hr' λ_ _ k=>k.same (Offs.sub λb k=>.inl k))⟩
  ·cases hG
 ·cases hG
section
variable{X:Cx}
noncomputable def zaiv(wi:TI)(g:TG)(tt:TT)(wi2:TI)(g2:TG)(tt2:TT)(te:TE)(own:List Str)(fr:List Nat)(i:Nat):TS:=zaks wi g tt (λp=>zwy wi2 g2 tt2 (zun p te)) own fr i
theorem zahf{scope:Scope}{N' own:List Str}{fr:List Nat}{elt target iter target2 iter2:Expr}{ifs ifs2:List Expr}{cpos spos py:Pos}{i:Nat}{y:Str}{wi wi2:TI}{g g2:TG}{tt tt2:TT}{te:TE}(c:CompOk X scope N' own fr)(hc:X.calm=true)(hi:PI X target iter wi)
  (hb:∀(cl:List (Str×Addr)) (C:Addr) (s:Shared) (H:Hp) (fp:List Addr),PG (cxComp X scope N' own cl C s H fp) target g/\PF (cxComp X scope N' own cl C s H fp) ifs tt/\PI (cxComp X scope N' own cl C s H fp) target2 iter2 wi2/\PG (cxComp X scope N' own cl C s H fp) target2 g2/\PF (cxComp X scope N' own cl C s H fp) ifs2 tt2/\PE (cxComp X scope N' own cl C s H fp) elt te)
  (hsw:swapsWith (.ListComp elt [⟨target,iter,ifs,0⟩,⟨target2,iter2,ifs2,0⟩] scope cpos) (some (.Name y py)) spos.line X.env=pure true)
  (hN:X.N.Nodup)(hy:X.N[i]?=some y)(hl:X.env.scope.names.lookup y=some .local)
  (hs:∀x,foldedSetIterable iter X.env x=pure x:=by intro _;rfl)(hs2:∀env x,foldedSetIterable iter2 env x=pure x:=by intro _ _;rfl) :
  PS X (.Assign [.Name y py] (.ListComp elt [⟨target,iter,ifs,0⟩,⟨target2,iter2,ifs2,0⟩] scope cpos) spos) (zaiv wi g tt wi2 g2 tt2 te own fr i):=
 zws (emit:=λacc env=>do
   let x <- eval iter2 env
   standAt iter2.pos
   let x <- foldedSetIterable iter2 env x
   let _ <- runOwn (.compStart (.ListComp elt [⟨target,iter,ifs,0⟩,⟨target2,iter2,ifs2,0⟩] scope cpos) 1 (<- holding [x] (pyIter x)) acc env) env) c hc (λit acc env=>by
   rw[zapo]
   refine bind_congr λ_=>bind_congr λr=>?_
   cases r with
   | none=>rfl
   | some v=>
    refine bind_congr λ_=>bind_congr λ_=>bind_congr λok=>?_
    cases ok with
    | false=>rfl
    | true=>simp only[if_true,bind_assoc,pure_bind]) hi
  (λcl C s H fp p=>let⟨h1,h2,h3,h4,h5,h6⟩:=hb cl C s H fp;⟨h1,h2,zwz (X:=cxComp X scope N' own cl C s H fp) rfl hc h3 h4 h5 h6 (λx=>hs2 _ x)⟩) hsw hN hy hl hs
theorem zacz{scope:Scope}{N' own:List Str}{fr:List Nat}{elt target iter target2 iter2:Expr}{ifs ifs2:List Expr}{cpos spos py:Pos}{i:Nat}{y:Str}{wi wi2:TI}{g g2:TG}{tt tt2:TT}{te:TE}(c:CompOk X scope N' own fr)(hc:X.calm=true)(hi:Bx (PI X target iter wi))
  (hb:∀(cl:List (Str×Addr)) (C:Addr) (s:Shared) (H:Hp) (fp:List Addr),PG (cxComp X scope N' own cl C s H fp) target g/\PF (cxComp X scope N' own cl C s H fp) ifs tt/\PI (cxComp X scope N' own cl C s H fp) target2 iter2 wi2/\PG (cxComp X scope N' own cl C s H fp) target2 g2/\PF (cxComp X scope N' own cl C s H fp) ifs2 tt2/\PE (cxComp X scope N' own cl C s H fp) elt te)
  (hsw:swapsWith (.ListComp elt [⟨target,iter,ifs,0⟩,⟨target2,iter2,ifs2,0⟩] scope cpos) (some (.Name y py)) spos.line X.env=pure true)
  (hN:X.N.Nodup)(hy:X.N[i]?=some y)(hl:X.env.scope.names.lookup y=some .local)
  (hs:∀x,foldedSetIterable iter X.env x=pure x)(hs2:∀env x,foldedSetIterable iter2 env x=pure x) :
  Bx (PS X (.Assign [.Name y py] (.ListComp elt [⟨target,iter,ifs,0⟩,⟨target2,iter2,ifs2,0⟩] scope cpos) spos) (zaiv wi g tt wi2 g2 tt2 te own fr i)):=
 ⟨zahf c hc hi.out hb hsw hN hy hl hs hs2⟩
end
section
variable{X:Cx}
theorem bpaC{e:Expr}{es:List Expr}{te:TE}{t:TA}(h1:Bx (PE X e te))(h2:Bx (PA X es t))(h3:isStar e=false:=by rfl):Bx (PA X (e::es) (tCons te t)):=zace h1 h2 h3
theorem bpeD{x:Str}{p pos:Pos}{e:Expr}{es:List Expr}{t:TA}{ps:List Str}{k m:Nat}{sp:Sp}(D:Dn X.prog X.w X.K X.mg X.base x ps k sp)(hr:Room m X.A)(ha:Bx (PA X (e::es) t))(hm:k<=m:=by decide)(hg:Gl X x:=by rfl)(hd:(x==("__debug__":Str))=false:=by decide)
  (hs:isStar e=false:=by rfl) (hp:((backTo pos (starEach es X.env)).any λx=>x.1)=false:=by rfl):Bx (PE X (.Call (.Name x p) (e::es) [] pos) (tCall sp [] E0 t)):=zapq D (hr.mono hm) hg ha hd (zbn hs) hp
theorem bpeB{x:Str}{p pos:Pos}{e:Expr}{es:List Expr}{t:TA}{id:String}{r:List V->Hp->VK->Prop}(hc:CallR X (.builtin id) r)(hm:X.mg x=none)(hb:bootBuiltins x=some (.builtin id))(ha:Bx (PA X (e::es) t))(hg:Gl X x:=by rfl)(h1:x≠("__name__":Str):=by decide)(h2:(x==("__debug__":Str))=false:=by decide)
  (hs:isStar e=false:=by rfl) (hp:((backTo pos (starEach es X.env)).any λx=>x.1)=false:=by rfl):Bx (PE X (.Call (.Name x p) (e::es) [] pos) (tCB r t)):=zacf hc hg hm hb ha h1 h2 (zbn hs) hp
theorem bpeT{x:Str}{p pos:Pos}{e:Expr}{es:List Expr}{t:TA}{T:String}{r:List V->Hp->VK->Prop}(hc:CallR X (.type T) r)(hm:X.mg x=none)(hb:bootBuiltins x=some (.type T))(ha:Bx (PA X (e::es) t))(hg:Gl X x:=by rfl)(h1:x≠("__name__":Str):=by decide)(h2:(x==("__debug__":Str))=false:=by decide)
  (hs:isStar e=false:=by rfl) (hp:((backTo pos (starEach es X.env)).any λx=>x.1)=false:=by rfl):Bx (PE X (.Call (.Name x p) (e::es) [] pos) (tCB r t)):=zyy hc hg hm hb ha h1 h2 (zbn hs) hp
theorem bpsS{pos:Pos}{i:Nat}{x:Str}{e:Expr}{te:TE}{pos':Pos}(hN:X.N.Nodup)(hi:X.N[i]?=some x)(hl:Loc X.env.scope x)(he:Bx (PE X e te))(hs:swapsWith e (some (.Name x pos')) pos.line X.env=pure false:=by rfl)(hf:X.fn x=true\/X.env.scope.names.lookup x=some .local:=by exact .inl rfl):Bx (PS X (.Assign [.Name x pos'] e pos) (tAsg te (gName i))):=zali hN hi hl he hs hf
theorem bpeX{a b:Expr}{ta tb:TE}{pos:Pos}{r:R2}(hr:IxR X r)(h1:Bx (PE X a ta))(h2:Bx (PE X b tb))(hp:PlainIx b:=by exact λ_ _=>rfl):Bx (PE X (.Subscript a b pos) (tOp r ta tb)):=zapr hr h1 h2 hp
theorem bpgN{pos:Pos}{i:Nat}{x:Str}(hN:X.N.Nodup)(hi:X.N[i]?=some x)(hl:Loc X.env.scope x)(hf:X.fn x=true\/X.env.scope.names.lookup x=some .local:=by first|exact .inl rfl|exact .inr rfl|assumption):Bx (PG X (.Name x pos) (gName i)):=zago hN hi hl hf
end
theorem zarv{X:Cx}{x:Str}{p pos:Pos}{e:Expr}{es:List Expr}{t:TA}{ps:List Str}{k m:Nat}{sp:Sp}(D:Dn X.prog X.w X.K X.mg X.base x ps k sp)(hr:Room m X.A)(ha:Bx (PA X (e::es) t))(hm:k<=m:=by decide)(hg:Gl X x:=by rfl)(hd:(x==("__debug__":Str))=false:=by decide)
  (hs:isStar e=false:=by rfl) (hp:((backTo pos (starEach es X.env)).any λx=>x.1)=false:=by rfl):Bx (PE X (.Call (.Name x p) (e::es) [] pos) (zxn X.prog X.w sp t)):=zalw D (hr.mono hm) hg ha hd (zbn hs) hp
theorem zka{X:Cx}{P:Program}{w:World}{o i:Expr}{pos:Pos}{td ty:TE}(hP:X.prog=P)(hw:X.w=w)(hu:X.A.units+1<cLine)(ho:Bx (PE X o td))(hi:Bx (PE X i ty))(hs:NoSl i):Bx (PE X (.Subscript o i pos) (zafo P w td ty)):=by
 subst hP hw
 exact zahb hu ho hi hs
noncomputable def zxp(n:Nat)(ga:List PyData->Option zdb)(g:zdb->PyData->PyData->Option PyData)(fa:AF)(f1 f2:EF):EF:=λenv=>(fa env).bind λrs=>if rs.length=n then(ga (zft rs)).bind λrows=>(f1 env).bind λr1=>(f2 env).bind λr2=>(g rows r1.d r2.d).bind λd=>some ⟨d,true,bsOf d (bss rs++(r1.bs++r2.bs))⟩else none
theorem zahg{P:Program}{w:World}{n:Nat}{ga:List PyData->Option zdb}{g:zdb->PyData->PyData->Option PyData}{ta:TA}{t1 t2:TE}{fa:AF}{f1 f2:EF}(ha:SA ta fa)(h1:SE t1 f1)(h2:SE t2 f2) :
  SE (zxn P w (spMA P w g) (tCons (tCall (spAO P w n ga) [] E0 ta) (tCons t1 (tCons t2 tNil)))) (zxp n ga g fa f1 f2):=by
 intro fx H0 env σ H h rr hr Q q
 unfold zxp at hr
 obtain⟨rs,er,hr⟩:=qA.mp hr
 split at hr
 ·rename_i hn
  obtain⟨rows,eg,hr⟩:=qA.mp hr
  obtain⟨r1,e1,hr⟩:=qA.mp hr
  obtain⟨r2,e2,hr⟩:=qA.mp hr
  obtain⟨d,ed,hr⟩:=qA.mp hr
  cases hr
  refine ha fx H0 env σ H h rs er _ λvs H1 s1 v1=>?_
  rw[qu]
  refine⟨lim fx env σ (bss rs),zft rs,rows,by rw[zgk];exact hn,(h.up s1).lims _,zef (λi hi=>hi) v1,eg,λa ps H2 s2 ha2 hd2 hrows=>?_⟩
  have hE2:EnvOk (λb=>fx b\/b=a) H0 env σ H2:=(h.up s1).new s2 ha2 ⟨_,hd2⟩
  refine h1 _ H0 env σ H2 hE2 r1 e1 _ λx H3 s3 vx=>h2 _ H0 env σ H3 (hE2.up s3) r2 e2 _ λy H4 s4 vy=>?_
  have hd4:=s4 _ _ (s3 _ _ hd2)
  refine⟨a,ps,rfl,hd4,λo=>?_⟩
  have hna:∀bs,¬lim fx env σ bs a:=λbs z=>by
   obtain⟨o',eo⟩:=(h.up s1).lims _ a z
   rw[ha2]at eo;cases eo
  have so:∀(A:Addr->Prop),(∀b,lim fx env σ (bss rs++(r1.bs++r2.bs)) b->A b)->A a->Same (Offs A H4) (Offs (lim fx env σ (bss rs++(r1.bs++r2.bs))) (upd H4 a (.frz o (dmO P w a ps)))):=λA k1 k2 b u eo=>by
   obtain⟨k3,k4⟩:=Offs.of eo
   rw[Offs.get λz=>k3 (k1 b z),zas λz=>k3 (by rw[z];exact k2)]
   exact k4
  have l1:∀{bs:List Nat},(∀i∈bs,i∈bss rs++(r1.bs++r2.bs))->∀b,lim fx env σ (bss rs++(r1.bs++r2.bs)) b->lim (λb=>fx b\/b=a) env σ bs b:=λ{bs} k b z=>(zho k b z).imp .inl id
  have same4:Same H (upd H4 a (.frz o (dmO P w a ps))):=λb u eb=>by
   rw[zas (λz=>by rw[z,s1.free ha2]at eb;cases eb)]
   exact s4 _ _ (s3 _ _ (s2 _ _ (s1 _ _ eb)))
  refine⟨lim fx env σ (bss rs++(r1.bs++r2.bs)),a,o,ps,rows,r1.d,r2.d,x,y,d,rfl,λb z=>?_,zao,?_,?_,?_,ed,λv H5 s5 rt=>q v H5 (same4.trans s5) ⟨zgt rt.1,λe=>?_⟩⟩
  ·obtain⟨u,eu⟩:=h.lims _ b z
   exact⟨u,same4 _ _ eu⟩
  ·exact Paired.mapP hrows λ_ _ k=>k.same ((Offs.grow (s3.trans s4)).trans (so _ (λb z=>.inl (zho (λi hi=>qi _ hi) b z)) (.inr rfl)))
  ·exact Rp.same ((Offs.grow s4).trans (so _ (l1 λi hi=>qY _ (qi _ hi)) (.inl (.inr rfl)))) _ vx.rp
  ·exact Rp.same (so _ (l1 λi hi=>qY _ (qY _ hi)) (.inl (.inr rfl))) _ vy.rp
  ·obtain⟨c,g1,g2,g3⟩:=rt.2 e
   refine⟨c,g1,same4.free g2,?_⟩
   have nf:zdx d=false:=by cases d<;>first|rfl|exact g3.elim
   show zci (Offs (λb=>lim fx env σ (bsOf d (bss rs++(r1.bs++r2.bs))) b\/b=c) H5) H5 c d
   rw[show bsOf d (bss rs++(r1.bs++r2.bs))=bss rs++(r1.bs++r2.bs) by unfold bsOf;rw[if_neg (by rw[nf];decide)]]
   exact g3
 ·cases hr
noncomputable def insL{α:Type}(xs:List α)(k:Nat)(y:α):List α:=xs.take k++y::xs.drop k
theorem zmv{α:Type}{xs:List α}{k:Nat}{y:α}:(insL xs k y).length=xs.length+1:=by
 unfold insL
 rw[qQ,qj,qAd,qAr]
 omega
noncomputable def zada:V->List V->Hp->VK->Prop:=λx vs H Q=>∃l xs,∃(k:Nat),∃y,x=.ref l/\vs=[.int (k:Int),y]/\H l=some (.lst xs)/\k<=xs.length/\xs.length<qS/\k<2 ^ 62/\Q .non (upd H l (.lst (insL xs k y)))
theorem zns{X:Cx}:MtM X "list.insert" zada:=by
 intro pins s σ H x vs v us Q I rx rv h
 obtain⟨l,xs,k,y,rfl,rfl,hH,hk,hz,hk2,q⟩:=h
 cases rx
 obtain⟨u1,u2,rfl,r1,r2⟩:=zajw rv
 obtain⟨t,rfl⟩:=r1
 obtain⟨z,its,n,r,hl,e⟩:=I.lstM hH
 have k1:(-(2 ^ 63):Int)<=(k:Int):=Int.le_trans (by decide) (Int.natCast_nonneg k)
 have k2:(k:Int)<2 ^ 63:=Int.lt_trans (Int.ofNat_lt.mpr hk2) (by decide)
 have hsz:its.toArray.size<=qS:=by rw[qO,<- hl];exact qB8 hz
 obtain⟨x,hx⟩:∃x:Int,x=(k:Int):=⟨_,rfl⟩
 rw[<- hx]at k1 k2
 have hfit:¬(!Builtin.List.listFitsIndex x)=true:=by rw[fitsIndex_both k1 k2];exact qI
 have M:=PySem.AutoSeq1.list_insert_list_int_val_1 l its.toArray n x t u2 hfit hsz
 rw[show(Value.int (k:Int) t)=Value.int x t by rw[hx]]
 refine call_meets F.slot_list_insert ⟨_,e,rfl⟩ F.entry_list_insert (F.args_list_insert_3 _ _ _) M ⟨e,?_⟩
 refine⟨.non,_,I.lset (its':=insL its k u2) hH e ?_ ((r.take k).append (.cons r2 (r.drop k))) ?_,rfl,q⟩
 ·have e0:(if x<0 then(x+((its.toArray.size:Nat):Int)).toNat else min x.toNat its.toArray.size)=k:=by
   rw[if_neg (by omega),qO];omega
  show(its.toArray.extract 0 (if x<0 then(x+((its.toArray.size:Nat):Int)).toNat else min x.toNat its.toArray.size)).push u2++its.toArray.extract (if x<0 then(x+((its.toArray.size:Nat):Int)).toNat else min x.toNat its.toArray.size)=(insL its k u2).toArray
  rw[e0]
  apply Array.ext'
  unfold insL
  simp
  exact qAt (by rw[qAr];exact qK _)
 ·show(insL xs k y).length<=qS
  rw[zmv];omega
theorem Rps.ins{H:Hp}{ds:List PyData}{vs:List V}{d:PyData}{v:V}(h:Rps H ds vs)(k:Nat)(r:Rp H d v):Rps H (insL ds k d) (insL vs k v):=(h.take k).append (zcp r (h.drop k))
noncomputable def fIns(i:Nat)(a:AFf):SFf:=λenv=>match env[i]? with
 | some (.ac (.list _))=>(a env).bind λx=>(match x.1,x.2[i]? with
  | [k,r],some (.ac (.list ds))=>(match k.d with
   | .int z=>if 0<=z/\z.toNat<=ds.length/\ds.length<100000/\i∉r.bs then some (.nx ((frzs x.2 r.bs).set i (.ac (.list (insL ds z.toNat r.d)))))else none
   | _=>none)
  | _,_=>none)
 | _=>none
theorem zvh{J:Nat->Prop}{f:Nat}{K:qC}{i:Nat}{ta:TA}{g:AFf}(h1:SAf f ta g):SSf J (tDrop (tBM K "list" zada (tVar i) ta)) (fIns i g):=by
 intro fx H0 env σ H D h o e q
 unfold fIns at e
 split at e
 ·rename_i ds0 ei0
  obtain⟨⟨rs,v1⟩,er,e⟩:=qA.mp e
  dsimp only at e
  split at e
  ·rename_i k r ds ei
   split at e
   ·rename_i z hz
    split at e
    ·rename_i hl
     cases e
     obtain⟨a,g1,g2,g3,g4⟩:=h.ac i _ ei0
     obtain⟨xs0,hx0,_⟩:=g4
     refine⟨_,g1,.inl ⟨rfl,_,SqL.of hx0⟩,h1 fx H0 env σ H h _ v1 er _ λvs H' m k' n hv=>?_⟩
     cases hv with
     | cons hk t=>
      cases t with
      | cons hr t=>
       cases t
       have hk:=hk.rp
       rw[hz]at hk
       cases zbz hk
       have h':=k'.frzs r.bs
       have ei':=zet hl.2.2.2 ei
       obtain⟨a',z1,_,_,z4⟩:=h'.ac i _ ei'
       rw[g1]at z1
       cases z1
       obtain⟨xs,hx',rx'⟩:=z4
       refine⟨a,xs,z.toNat,_,rfl,by rw[Int.toNat_of_nonneg hl.1],hx',by rw[<- rx'.length];exact hl.2.1,zhq (by rw[<- rx'.length];exact hl.2.2.1),by omega,?_⟩
       exact q σ _ (h'.mut ei' g1 ⟨_,zao,rx'.ins z.toNat (Rp.same (Offs.sub zch) _ hr.rp)⟩) λ_ _=>rfl
    ·cases e
   ·cases e
  ·cases e
 ·cases e
noncomputable def fSl(g:EFf)(l h:PF'):EFf:=λenv=>(g env).bind λx=>(l x.2).bind λlo=>(h x.2).bind λhi=>(slD x.1.d lo hi).bind λz=>some (⟨z.1,z.2,bsOf z.1 x.1.bs⟩,x.2)
theorem zaqa{f:Nat}{K:qC}{te:TE}{tl th:TO}{g:EFf}{fl fh:PF'}(h1:SEf f te g)(h2:SPt tl fl)(h3:SPt th fh):SEf f (tSl (rSlU K) te tl th) (fSl g fl fh):=by
 intro fx H0 env σ H h rr env' hr Q q
 unfold fSl at hr
 obtain⟨⟨⟨d,frd,bs⟩,e1⟩,ex,hr⟩:=qA.mp hr
 obtain⟨lo,el,hr⟩:=qA.mp hr
 obtain⟨hi,eh,hr⟩:=qA.mp hr
 obtain⟨⟨d',fr'⟩,ez,hr⟩:=qA.mp hr
 cases hr
 refine h1 fx H0 env σ H h _ e1 ex _ λv H1 m k n v1 _=>h2 fx H0 e1 σ H1 k _ el _ λH2 s2=>h3 fx H0 e1 σ H2 (k.up s2) _ eh _ λH3 s3=>?_
 have v3:=(v1.later (Same.refl _) (s2.trans s3) λ_ z=>z).rp
 have t3:=s2.trans s3
 cases d with
 | str z=>
  have ez:(if z.length<=100000 then some (PyData.str (Txt.slice z lo hi),false)else none)=some (d',fr'):=ez
  split at ez
  ·rename_i hl
   cases ez
   cases zir v3
   exact⟨zfd hl,q _ H3 (m.trans (MvF.same m.at1 t3)) (k.up t3) (zjx (d:=.str (Txt.slice z lo hi)) n) ⟨zdn,λz=>by cases z⟩ λz=>by cases z⟩
  ·cases ez
 | list ds=>
  cases ez
  obtain⟨p,xs,rfl,hp,r⟩:=zdm v3
  refine⟨p,xs,rfl,SqL.of (zbw hp),λl hl=>?_⟩
  have s4:=t3.trans (Same.new (o:=.lst (cutV xs lo hi)) hl)
  have hA:=(k.up t3).lims bs
  exact q _ _ (m.trans (MvF.same m.at1 s4)) (k.up s4) (zjx (d:=.list (cutD ds lo hi)) n) ⟨zpo hl (zcu hA hl) (r.cut lo hi),λ_=>⟨l,rfl,m.free (t3.free hl),zkx hl (r.cut lo hi)⟩⟩ λ_=>⟨l,rfl,k.new s4 (t3.free hl) ⟨_,zao⟩⟩
 | _=>cases ez
end L2
namespace PySem.SeqAt
open AutoSeq1 (wpAny_loadPart')
open MeetsSeq PyProof.Rows
end PySem.SeqAt
namespace PySem.SeqAt
open AutoSeq1 (wpAny_loadPart')
open MeetsSeq PyProof.Rows PySem.W PySem.Calls PySem.Spec
end PySem.SeqAt
namespace L2
open PySem PySem.Spec PyProof.Rows PySem.SeqAt
section
variable{X:Cx}
open Classical in
end
open PySem PySem.Spec PyProof.Rows
section
variable{P:Program}{w:World}{K:qC}{h:Heap}{mg:Str->Option Value}{base:Heap}{x:Str}{st:Stmt}{f:Addr}{fd:qr}{ps:List Str}{k:Nat}{sp:Sp}
structure DefIn(K:qC)(x:Str)(st:Stmt)(f:Addr)(fd:qr):Prop where
 ns:qAW K qq x=some (some (.ref f))
 fn:Fun K x x st f fd
theorem def_mk{oc:Value}{od an:Option Addr}{osl:Array (Option Value)}{kV doc pm cdv ct:Value}(a:qAW K qq x=some (some (.ref f)))(l:K.lookup f=some ⟨oc,od,.func (qAX x x (zfc st) (zel st) (zat st) .none kV doc pm an cdv ct),osl⟩)
  (c:qBo K cdv x=true) (k:qBA K (.ref f)=true):DefIn K x st f (qAX x x (zfc st) (zel st) (zat st) .none kV doc pm an cdv ct):=⟨a,zaop l c k⟩
theorem DefIn.b1{p:Str}(d:DefIn K x st f fd)(h:∀(kV doc pm:Value) (an:Option Addr) (cdv ct a:Value),bindArgs (qAX x x (zfc st) (zel st) (zat st) .none kV doc pm an cdv ct) ⟨[a],[]⟩=pure [(p,a)]):zmj K fd [p] []:=
 d.fn.binds λkV doc pm an cdv ct us hl=>match us,hl with|[a],_=>h kV doc pm an cdv ct a
theorem DefIn.b2{p q:Str}(d:DefIn K x st f fd)(h:∀(kV doc pm:Value) (an:Option Addr) (cdv ct a b:Value),bindArgs (qAX x x (zfc st) (zel st) (zat st) .none kV doc pm an cdv ct) ⟨[a,b],[]⟩=pure [(p,a),(q,b)]):zmj K fd [p,q] []:=
 d.fn.binds λkV doc pm an cdv ct us hl=>match us,hl with|[a,b],_=>h kV doc pm an cdv ct a b
theorem DefIn.b3{p q r:Str}(d:DefIn K x st f fd)(h:∀(kV doc pm:Value) (an:Option Addr) (cdv ct a b c:Value),bindArgs (qAX x x (zfc st) (zel st) (zat st) .none kV doc pm an cdv ct) ⟨[a,b,c],[]⟩=pure [(p,a),(q,b),(r,c)]):zmj K fd [p,q,r] []:=
 d.fn.binds λkV doc pm an cdv ct us hl=>match us,hl with|[a,b,c],_=>h kV doc pm an cdv ct a b c
theorem DefIn.b4{p q r s:Str}(d:DefIn K x st f fd)(h:∀(kV doc pm:Value) (an:Option Addr) (cdv ct a b c e:Value),bindArgs (qAX x x (zfc st) (zel st) (zat st) .none kV doc pm an cdv ct) ⟨[a,b,c,e],[]⟩=pure [(p,a),(q,b),(r,c),(s,e)]):zmj K fd [p,q,r,s] []:=
 d.fn.binds λkV doc pm an cdv ct us hl=>match us,hl with|[a,b,c,e],_=>h kV doc pm an cdv ct a b c e
theorem DefIn.dn(d:DefIn K x st f fd)(X:K.In h)(G:h.Ns qq mg)(ok:FnOk P w K mg base CX0 k f fd ps sp)(b:zmj K fd ps []):Dn P w K mg base x ps k sp:=⟨f,fd,ok,qCK X G d.ns,d.fn.kp,b⟩
universe u9
end
end L2
namespace Bc
open PySem L2
noncomputable def zgn:SF:=(sRet (zdy ["name","elders"] [] (zax (eVar 0)) (gT 2 (zbg 0 (zbg 1 zgd))) zdv (eVar 0)))
noncomputable def zew:GF:=fnD 1 zgn
noncomputable def zdr:SF:=(sSeq (sSet 2 (zbu 1 zew (zad (eVar 0) aNil)))
  (sFor (zax (eVar 1)) (gN 3)
  (sIf (zay (eOp (inD true) (eVar 3) (eVar 2))) zabw sNil)))
noncomputable def zds:GF:=fnD 4 zdr
noncomputable def zpu:SF:=(sSeq (sSet 1 zaga)
  (sSeq (sFor (zax (eVar 0)) (gT 2 (zbg 2 (zbg 3 zgd)))
  (sSeq (sSet 4 (eD1 (eVar 2) (eC (.bool true))))
  (sSeq (sFor (zax (eVar 3)) (gN 5)
  (sUpd 4 (zcs 1 (eVar 5))))
  (sPut 1 (eVar 2) (eVar 4)))))
  (zaby 1)))
noncomputable def zgo:GF:=fnD 6 zpu
theorem zdl{α:Type}{enc out:α->PyData}{g:GT}{t:TF}{e:EF}{env:DEnv}(p:α->Bool):∀{l:List α},(∀x∈l,∃e1,g (enc x) env=some e1/\t e1=some (p x)/\(p x=true->∃r,e e1=some r/\r.d=out x))->
  zcv g t e env (l.map enc)=some ((l.filter p).map out)
 | [],_=>rfl
 | x::l,h=>by
  obtain⟨e1,h1,h2,h3⟩:=h x qW
  have ih:=zdl (l:=l) p λy hy=>h y (qJ _ hy)
  rw[qU]
  unfold zcv
  rw[h1,qF,h2,qF]
  cases hp:p x with
  | false=>
   rw[if_neg qI,ih,qBl,hp];rfl
  | true=>
   obtain⟨r,h4,h5⟩:=h3 hp
   rw[if_pos rfl,h4,qF,ih,qBl,hp]
   simp[h5]
theorem zfk{α:Type}{enc out:α->PyData}{g:GT}{t:TF}{e:EF}{env:DEnv}{l:List α}(h:∀x∈l,∃e1,g (enc x) env=some e1/\t e1=some true/\∃r,e e1=some r/\r.d=out x):zcv g t e env (l.map enc)=some (l.map out):=by
 have q:=zdl (enc:=enc) (out:=out) (g:=g) (t:=t) (e:=e) (env:=env) (λ_=>true) (l:=l) λx hx=>let⟨e1,h1,h2,h3⟩:=h x hx;⟨e1,h1,h2,λ_=>h3⟩
 rw[q]
 congr 2
 exact List.filter_eq_self.mpr λ_ _=>rfl
theorem zxq{α:Type}{enc:α->PyData}{g:GT}{body:SF}(I:List α->DEnv->Prop)(all:List α):∀(l pre:List α)(env:DEnv),pre++l=all->I pre env->
  (∀pre x post env,pre++x::post=all->I pre env->∃e1 e2,g (enc x) env=some e1/\(body e1=some (.nx e2)\/body e1=some (.ct e2))/\I (pre++[x]) e2)->∃env',forL g body (l.map enc) env=some (.nx env')/\I all env'
 | [],pre,env,hall,h0,hs=>by
  rw[qu]at hall
  subst hall
  exact⟨env,rfl,h0⟩
 | x::l,pre,env,hall,h0,hs=>by
  obtain⟨e1,e2,h1,h2,h3⟩:=hs pre x l env hall h0
  obtain⟨env',h4,h5⟩:=zxq I all l (pre++[x]) e2 (by rw[<- hall];simp) h3 hs
  refine⟨env',?_,h5⟩
  rw[qU]
  unfold forL
  rw[h1,qF]
  rcases h2 with h2|h2<;>rw[h2,qF]<;>exact h4
theorem zht{α:Type}{enc:α->PyData}{g:GT}{body:SF}{l:List α}{env:DEnv}(I:List α->DEnv->Prop)(h0:I [] env)(hs:∀pre x post env,pre++x::post=l->I pre env->∃e1 e2,g (enc x) env=some e1/\(body e1=some (.nx e2)\/body e1=some (.ct e2))/\I (pre++[x]) e2) :
  ∃env',forL g body (l.map enc) env=some (.nx env')/\I l env':=zxq I l l [] env rfl h0 hs
theorem zgp{f g:SF}{env e1:DEnv}{o:Option Out}(h:f env=some (.nx e1))(k:g e1=o):sSeq f g env=o:=by unfold sSeq;rw[h];exact k
theorem zaiw{f g:SF}{env:DEnv}{d:PyData}{fr:Bool}(h:f env=some (.rt d fr)):sSeq f g env=some (.rt d fr):=by unfold sSeq;rw[h];rfl
theorem zkb{f:EF}{g:GT}{b:SF}{env:DEnv}{ds:List PyData}{fr:Bool}{bs:List Nat}{o:Option Out}(h:f env=some ⟨.list ds,fr,bs⟩)(k:forL g b ds (frzs env bs)=o):sFor (zax f) g b env=o:=by
 unfold sFor zax;rw[h];exact k
theorem if_t{c:TF}{f g:SF}{env:DEnv}{o:Option Out}(h:c env=some true)(k:f env=o):sIf c f g env=o:=by unfold sIf;rw[h];exact k
theorem if_f{c:TF}{f g:SF}{env:DEnv}{o:Option Out}(h:c env=some false)(k:g env=o):sIf c f g env=o:=by unfold sIf;rw[h];exact k
theorem zmh{i:Nat}{f:EF}{env:DEnv}{r:Val}(h:f env=some r):sSet i f env=some (.nx (putV env i r)):=by unfold sSet;rw[h];rfl
theorem zama{f:EF}{env:DEnv}{r:Val}(h:f env=some r):zabx f env=some (.nx env):=by unfold zabx;rw[h];rfl
theorem zxr{f:EF}{env:DEnv}{d:PyData}{fr:Bool}{bs:List Nat}(h:f env=some ⟨d,fr,bs⟩):sRet f env=some (.rt d fr):=by unfold sRet;rw[h];rfl
theorem zeo{n:Nat}{g:GF}{f:AF}{env:DEnv}{rs:List Val}{d:PyData}{fr:Bool}(h:f env=some rs)(hn:rs.length=n)(k:g (zft rs)=some (d,fr)):zbu n g f env=some ⟨d,fr,bsOf d (bss rs)⟩:=by
 unfold zbu;rw[h,qF,if_pos hn,k];rfl
theorem zhu{own:List Str}{fr:List Nat}{fi:IF'}{g:GT}{t:TF}{e:EF}{env:DEnv}{ds:List PyData}{bs:List Nat}{rs:List PyData}(h:fi env=some (ds,bs))(hl:ds.length<100000)(k:zcv g t e (envB own fr env) ds=some rs) :
  zdy own fr fi g t e env=some ⟨.list rs,true,if zcd rs=true then[]else bs++capA fr env⟩:=by
 unfold zdy;rw[h,qF,if_pos hl,k];rfl
theorem zvi{n:Nat}{f:SF}{ds:List PyData}{env:DEnv}{d:PyData}{fr:Bool}(h:zhg n ds=env)(e:f env=some (.rt d fr)):fnD n f ds=some (d,fr):=by
 unfold fnD;rw[h,e]
noncomputable def zaa(xs:List Str):PyData:=.list (xs.map .str)
noncomputable def rowD(p:Str×List Str):PyData:=.tuple [.str p.1,zaa p.2]
noncomputable def webD(W:Web):PyData:=.list (W.map rowD)
theorem zle(xs:List Str):zcd (xs.map .str)=true:=by
 unfold zcd
 rw[qCm]
 exact qAS.mpr λ_ _=>rfl
theorem zxs(xs:List Str)(x:Str):((xs.map PyData.str).any λe=>qAf e (.str x))=decide (x∈xs):=by
 rw[qBs,qAc,qA8,decide_eq_true_iff]
 constructor
 ·rintro⟨y,hy,h⟩
  have:y=x:=by simpa [qAf]using h
  rw[<- this];exact hy
 ·exact λh=>⟨x,h,by simp[qAf]⟩
theorem zvj(b:Bool)(xs:List Str)(x:Str):inD b (.str x) (zaa xs)=some (.bool (if b then !decide (x∈xs)else decide (x∈xs)),false):=by
 unfold inD zaa
 simp only[zhf]
 rw[if_pos ⟨rfl,zle xs⟩,zxs]
theorem zpv{W:Web}(hl:W.length<100000):zew [webD W]=some (zaa (nm W),true):=by
 have c:zcv (gT 2 (zbg 0 (zbg 1 zgd))) zdv (eVar 0) [.no,.no] (W.map rowD)=some (W.map λp=>PyData.str p.1):=zfk λp _=>⟨[.pl (.str p.1),.pl (zaa p.2)],rfl,rfl,⟨.str p.1,false,[]⟩,rfl,rfl⟩
 have e:zgn [.pl (webD W)]=some (.rt (zaa (nm W)) true):=by
  unfold zgn sRet zdy zax
  simp only[eVar,qAD,qF,webD,zhf,qAw,qD]
  rw[if_pos hl]
  show Option.map _ (Option.map _ (zcv _ _ _ [.no,.no] _))=_
  rw[c]
  unfold zaa nm
  simp
 show(match zgn [.pl (webD W)]with|some (.rt d fr)=>some (d,fr)|some (.nx _)=>some (.none,false)|_=>none)=_
 rw[e]
theorem zrf{W:Web}(hl:W.length<100000){ns:List Str}(h:∀n∈ns,n∈nm W):zds [webD W,zaa ns]=some (.none,false):=by
 have l:∃env',forL (gN 3) (sIf (zay (eOp (inD true) (eVar 3) (eVar 2))) zabw sNil) (ns.map .str) [.pl (webD W),.pl (zaa ns),.ac (zaa (nm W)),.no]=some (.nx env')/\True:=by
  refine zht (λ_ env=>∃s,env=[.pl (webD W),.pl (zaa ns),.ac (zaa (nm W)),s]) ⟨_,rfl⟩ ?_ |>.imp λ_ q=>⟨q.1,trivial⟩
  rintro pre x post env hx ⟨s,rfl⟩
  have hm:=h x (by rw[<- hx];simp)
  refine⟨_,[.pl (webD W),.pl (zaa ns),.ac (zaa (nm W)),.pl (.str x)],rfl,.inl ?_,_,rfl⟩
  simp[sIf,zay,eOp,eVar,sNil,zvj,hm,bsOf,zdx]
 obtain⟨env',l,_⟩:=l
 have e:zdr [.pl (webD W),.pl (zaa ns),.no,.no]=some (.nx env'):=by
  unfold zdr sSeq sSet zbu sFor zax
  simp only[zad,aNil,eVar,qAD,qAJ,qF,qAw,zft,qU,qA9,qj,qCG,zpv hl,if_true]
  simp[putV,frzs,bsOf,zaa,zdx,bss,slOf,zhf]
  exact l
 show(match zdr [.pl (webD W),.pl (zaa ns),.no,.no]with|some (.rt d fr)=>some (d,fr)|some (.nx _)=>some (.none,false)|_=>none)=_
 rw[e]
noncomputable def insS(ks:List Str)(k:Str):List Str:=if k∈ks then ks else ks++[k]
noncomputable def upL(acc:List (Str×List Str))(e:Str):List Str:=(acc.lookup e).getD []
noncomputable def zhv(acc:List (Str×List Str))(p:Str×List Str):List (Str×List Str):=acc++[(p.1,p.2.foldl (λks e=>(upL acc e).foldl insS ks) [p.1])]
noncomputable def ups(W:Web):List (Str×List Str):=W.foldl zhv []
noncomputable def up(W:Web)(n:Str):List Str:=upL (ups W) n
theorem zik(W:Web)(p:Str×List Str):ups (W++[p])=zhv (ups W) p:=by unfold ups;rw[qB1];rfl
theorem zahh{ks:List Str}{k x:Str}:x∈insS ks k↔x∈ks\/x=k:=by
 unfold insS
 split
 ·rename_i h
  exact⟨.inl,λz=>z.elim id λe=>e▸h⟩
 ·simp
theorem zkc{x:Str}:∀{ms ks:List Str},x∈ms.foldl insS ks↔x∈ks\/x∈ms
 | [],ks=>by simp
 | m::ms,ks=>by
  rw[qBQ,zkc,zahh]
  simp[or_assoc]
theorem zamb{ks:List Str}{k:Str}(h:ks.Nodup):(insS ks k).Nodup:=by
 unfold insS
 split
 ·exact h
 ·rename_i hk;exact zum h hk
theorem zrg:∀{ms ks:List Str},ks.Nodup->(ms.foldl insS ks).Nodup
 | [],_,h=>h
 | _::ms,_,h=>zrg (ms:=ms) (zamb h)
theorem zrh{acc:List (Str×List Str)}{x:Str}:∀{es ks:List Str},x∈es.foldl (λks e=>(upL acc e).foldl insS ks) ks↔x∈ks\/∃e∈es,x∈upL acc e
 | [],ks=>by simp
 | e::es,ks=>by
  rw[qBQ,zrh,zkc]
  simp[or_assoc]
theorem zadb{acc:List (Str×List Str)}:∀{es ks:List Str},ks.Nodup->(es.foldl (λks e=>(upL acc e).foldl insS ks) ks).Nodup
 | [],_,h=>h
 | _::es,_,h=>zadb (es:=es) (zrg h)
theorem zeu{l:List (Str×List Str)}{n:Str}{p:Str×List Str}:(l++[p]).lookup n=(l.lookup n).or (if n==p.1 then some p.2 else none):=by
 induction l with
 | nil=>
  obtain⟨a,b⟩:=p
  show List.lookup n [(a,b)]=_
  rw[ql]
  cases n==a<;>rfl
 | cons q l ih=>
  obtain⟨a,b⟩:=q
  rw[List.cons_append,ql,ql]
  cases n==a with
  | true=>rfl
  | false=>exact ih
theorem znt{α:Type}{P:List α->Prop}(h0:P [])(hs:∀l x,P l->P (l++[x])):∀l,P l:=by
 intro l
 have:∀n (l:List α),l.length=n->P l:=by
  intro n
  induction n with
  | zero=>intro l e;rw[qBh.mp e];exact h0
  | succ n ih=>
   intro l e
   have hne:l≠[]:=λz=>by rw[z]at e;cases e
   rw[<- List.dropLast_concat_getLast hne]
   exact hs _ _ (ih _ (by rw[List.length_dropLast,e];rfl))
 exact this _ l rfl
theorem zfw:∀(W:Web),(ups W).map (·.1)=nm W:=by
 refine znt rfl λW p ih=>?_
 rw[zik]
 unfold zhv nm
 rw[qp,qp,ih]
 rfl
theorem zlf(W:Web)(p:Str×List Str):nm (W++[p])=nm W++[p.1]:=by unfold nm;rw[qp];rfl
theorem zex{W:Web}{p:Str×List Str}(h:WebOk (W++[p])):WebOk W/\p.1∉nm W/\(∀e∈p.2,e∈nm W)/\p.2.length<=4:=by
 have hp:(W++[p])[W.length]?=some p:=by simp
 refine⟨⟨?_,λi n es e=>?_,λq hq=>h.few q (qi _ hq),?_⟩,?_,λe he=>?_,h.few p (by simp)⟩
 ·have:=h.nd;rw[zlf]at this;exact(qBc.mp this).1
 ·have hi:i<W.length:=(qM.mp e).1
  have q:=h.el i n es (by rw[qk hi];exact e)
  rw[qAq (by omega)]at q
  exact q
 ·have:=h.len;simp at this;omega
 ·have:=h.nd
  rw[zlf]at this
  intro hm
  exact(qBc.mp this).2.2 p.1 hm p.1 (by simp) rfl
 ·have q:=h.el W.length p.1 p.2 hp e he
  rw[qAq (qK _),qBj]at q
  exact q
theorem zgv{l:List (Str×List Str)}{n:Str}(h:n∈l.map (·.1)):∃ks,l.lookup n=some ks/\(n,ks)∈l:=by
 induction l with
 | nil=>simp at h
 | cons q l ih=>
  obtain⟨a,b⟩:=q
  rw[ql]
  cases e:n==a with
  | true=>rw[eq_of_beq e];exact⟨b,rfl,qW⟩
  | false=>
   have hn:n≠a:=beq_eq_false_iff_ne.mp e
   rcases qX.mp h with z|z
   ·exact absurd z hn
   ·obtain⟨ks,h1,h2⟩:=ih z
    exact⟨ks,h1,qJ _ h2⟩
theorem zlg{W:Web}{p:Str×List Str}{m:Str}(h:m∈nm W):up (W++[p]) m=up W m:=by
 unfold up upL
 rw[zik]
 unfold zhv
 obtain⟨ks,e,_⟩:=zgv (l:=ups W) (n:=m) (by rw[zfw];exact h)
 rw[zeu,e]
 rfl
theorem znu{l:List (Str×List Str)}{n:Str}(h:n∉l.map (·.1)):l.lookup n=none:=by
 induction l with
 | nil=>rfl
 | cons q l ih=>
  obtain⟨a,b⟩:=q
  rw[ql]
  have h1:n≠a:=λz=>h (by simp[z])
  rw[beq_eq_false_iff_ne.mpr h1]
  exact ih λz=>h (qJ _ z)
theorem zaix{W:Web}{p:Str×List Str}(h:p.1∉nm W):up (W++[p]) p.1=p.2.foldl (λks e=>(upL (ups W) e).foldl insS ks) [p.1]:=by
 unfold up upL
 rw[zik]
 unfold zhv
 rw[zeu,znu (by rw[zfw];exact h)]
 simp[upL]
theorem zaqb{W:Web}{n:Str}{es:List Str}(h:(n,es)∈W):n∈nm W:=qm.mpr ⟨_,h,rfl⟩
theorem zxt{W:Web}(h:WebOk W){n:Str}{es:List Str}(hm:(n,es)∈W):∀e∈es,e∈nm W:=λe he=>by
 obtain⟨i,hi,e'⟩:=qBP hm
 have q:=h.el i n es (by rw[qG hi,e']) e he
 obtain⟨p,h1,h2⟩:=qm.mp q
 exact qm.mpr ⟨p,qA3 h1,h2⟩
theorem zadc{x:Str}:∀{W:Web},WebOk W->∀{n:Str}{es:List Str},(n,es)∈W->(x∈up W n↔x=n\/∃e∈es,x∈up W e):=by
 intro W
 refine znt (P:=λW=>WebOk W->∀{n:Str}{es:List Str},(n,es)∈W->(x∈up W n↔x=n\/∃e∈es,x∈up W e)) (λ_ n es h=>nomatch h) (λW p ih h n es hm=>?_) W
 obtain⟨hW,hp,hel,_⟩:=zex h
 rcases qh.mp hm with hm|hm
 ·rw[zlg (zaqb hm),ih hW hm]
  have:(∃e∈es,x∈up W e)↔∃e∈es,x∈up (W++[p]) e:=by
   constructor
   ·rintro⟨e,he,hx⟩;exact⟨e,he,by rw[zlg (zxt hW hm e he)];exact hx⟩
   ·rintro⟨e,he,hx⟩;exact⟨e,he,by rw[zlg (zxt hW hm e he)]at hx;exact hx⟩
  rw[this]
 ·have e:(n,es)=p:=by simpa using hm
  subst e
  rw[zaix hp,zrh]
  have:(∃e∈es,x∈upL (ups W) e)↔∃e∈es,x∈up (W++[(n,es)]) e:=by
   constructor
   ·rintro⟨e,he,hx⟩;exact⟨e,he,by rw[zlg (hel e he)];exact hx⟩
   ·rintro⟨e,he,hx⟩;exact⟨e,he,by rw[zlg (hel e he)]at hx;exact hx⟩
  rw[this]
  simp
theorem zdt{W:Web}(h:WebOk W){n:Str}(hn:n∈nm W):n∈up W n:=by
 obtain⟨⟨m,es⟩,h1,h2⟩:=qm.mp hn
 cases h2
 exact(zadc h h1).mpr (.inl rfl)
theorem zxu:∀{W:Web},WebOk W->∀{n x:Str},x∈up W n->x∈nm W:=by
 intro W
 refine znt (P:=λW=>WebOk W->∀{n x:Str},x∈up W n->x∈nm W) (λ_ n x h=>by simp[up,ups,upL]at h) (λW p ih h n x hx=>?_) W
 obtain⟨hW,hp,hel,_⟩:=zex h
 rw[zlf]
 by_cases hn:n∈nm W
 ·rw[zlg hn]at hx
  exact qi _ (ih hW hx)
 ·by_cases e:n=p.1
  ·rw[e,zaix hp,zrh]at hx
   rcases hx with hx|⟨e',_,hx⟩
   ·exact qY _ (by simpa using hx)
   ·exact qi _ (ih hW hx)
  ·unfold up upL at hx
   rw[zik]at hx
   unfold zhv at hx
   rw[zeu,znu (by rw[zfw];exact hn),beq_eq_false_iff_ne.mpr e]at hx
   simp at hx
theorem zarw:∀{W:Web}{n:Str},(up W n).Nodup:=by
 intro W
 refine znt (P:=λW=>∀{n:Str},(up W n).Nodup) (λ{n}=>by simp[up,ups,upL]) (λW p ih n=>?_) W
 unfold up upL
 rw[zik]
 unfold zhv
 rw[zeu]
 cases e:(ups W).lookup n with
 | some ks=>
  have q:=ih (n:=n)
  unfold up upL at q
  rw[e]at q
  exact q
 | none=>
  show((if n==p.1 then some _ else none).getD []).Nodup
  split
  ·exact zadb (by simp)
  ·exact qCS
theorem zxv{W:Web}(h:WebOk W)(n:Str):(up W n).length<=12:=by
 have:=zjq _ (nm W) (zarw (W:=W) (n:=n)) λx hx=>zxu h hx
 have:=zmd h
 omega
noncomputable def dS(f:List Str->PyData)(l:List (Str×List Str)):List (PyData×PyData):=l.map λp=>(.str p.1,f p.2)
theorem zlh(f:List Str->PyData)(n:Str):∀l:List (Str×List Str),zjr (dS f l) (Sum.inr n)=(l.lookup n).map f
 | []=>rfl
 | (a,b)::l=>by
  have ih:=zlh f n l
  show(if keyD (.str a)=some (Sum.inr n)then some (f b)else zjr (dS f l) (Sum.inr n))=_
  rw[ql]
  by_cases e:a=n
  ·subst e;rw[if_pos (show keyD (.str a)=some (Sum.inr a)from rfl),beq_self_eq_true];rfl
  ·rw[if_neg (show ¬keyD (.str a)=some (Sum.inr n)from λz=>e (qBL (qR z))),beq_eq_false_iff_ne.mpr (qBB e)]
   exact ih
theorem zadd(f:List Str->PyData){l:List (Str×List Str)}{n:Str}{ks:List Str}(h:n∉l.map (·.1)):zng (dS f l) (.str n) (f ks)=dS f (l++[(n,ks)]):=by
 unfold zng dS
 rw[if_neg,qp]
 ·rfl
 ·intro z
  rw[qBs,qA8]at z
  obtain⟨p,hp,e⟩:=z
  have e:=of_decide_eq_true e
  exact h (qm.mpr ⟨p,hp,qBL (qR e)⟩)
noncomputable def zcq(ks:List Str):List (PyData×PyData):=ks.map λk=>(.str k,.bool true)
noncomputable def zaw(ks:List Str):PyData:=.dict (zcq ks)
theorem zsx(x:Str):∀ks:List Str,zus (zcq ks) (Sum.inr x)=decide (x∈ks)
 | []=>by simp[zcq,zus,zjr]
 | k::ks=>by
  have ih:=zsx x ks
  unfold zus at ih ⊢
  show(if keyD (.str k)=some (Sum.inr x)then some (PyData.bool true)else zjr (zcq ks) (Sum.inr x)).isSome=_
  by_cases e:k=x
  ·subst e;rw[if_pos (show keyD (.str k)=some (Sum.inr k)from rfl)];simp
  ·rw[if_neg (show ¬keyD (.str k)=some (Sum.inr x)from λz=>e (qBL (qR z))),ih]
   have:¬x=k:=λz=>e z.symm
   simp[this]
theorem zade(ks:List Str)(k:Str):zng (zcq ks) (.str k) (.bool true)=zcq (insS ks k):=by
 have ha:((zcq ks).any λkv=>decide (keyD kv.1=keyD (.str k)))=decide (k∈ks):=by
  unfold zcq
  rw[qBs,qAc,qA8,decide_eq_true_iff]
  constructor
  ·rintro⟨y,hy,h⟩
   have h:=of_decide_eq_true h
   have:y=k:=qBL (qR h)
   rw[<- this];exact hy
  ·exact λh=>⟨k,h,decide_eq_true rfl⟩
 unfold zng insS
 rw[ha]
 by_cases hk:k∈ks
 ·rw[if_pos (decide_eq_true hk),if_pos hk]
  unfold zcq
  rw[qAQ]
  refine qAo λy _=>?_
  show(if keyD (PyData.str y)=keyD (.str k)then(PyData.str y,PyData.bool true)else(PyData.str y,PyData.bool true))=_
  split<;>rfl
 ·rw[if_neg (by simpa using hk),if_neg hk]
  unfold zcq
  rw[qp];rfl
theorem zjf:∀(ms ks:List Str),zky (zcq ks) (zcq ms)=zcq (ms.foldl insS ks)
 | [],_=>rfl
 | m::ms,ks=>by
  show zky (zng (zcq ks) (.str m) (.bool true)) (zcq ms)=_
  rw[zade,zjf ms];rfl
theorem zxw{α:Type}{pre post:List α}{x:α}{l:List α}(h:pre++x::post=l):l=(pre++[x])++post:=by rw[<- h];simp
theorem zsy:∀{post W:Web},WebOk (W++post)->WebOk W:=by
 intro post
 refine znt (P:=λpost=>∀{W:Web},WebOk (W++post)->WebOk W) (λ{W} h=>by rwa [qu]at h) (λpost p ih W h=>?_) post
 rw[<- qBE]at h
 exact ih (zex h).1
theorem zza{W:Web}(h:WebOk W):zgo [webD W]=some (.dict (dS zaw (ups W)),true):=by
 have inner:∀(V:Web)(p:Str×List Str)(es pre:List Str)(s5:Sl),WebOk (V++[p])->pre++es=p.2->
   ∃s5',forL (gN 5) (sUpd 4 (zcs 1 (eVar 5))) (es.map .str) [.pl (webD W),.ac (.dict (dS zaw (ups V))),.pl (.str p.1),.pl (zaa p.2),.ac (zaw (pre.foldl (λks e=>(upL (ups V) e).foldl insS ks) [p.1])),s5] =
    some (.nx [.pl (webD W),.ac (.dict (dS zaw (ups V))),.pl (.str p.1),.pl (zaa p.2),.ac (zaw (p.2.foldl (λks e=>(upL (ups V) e).foldl insS ks) [p.1])),s5']):=by
  intro V p es
  induction es with
  | nil=>intro pre s5 _ e;rw[qu]at e;subst e;exact⟨s5,rfl⟩
  | cons e es ih=>
   intro pre s5 hV hp
   obtain⟨hV',hn,hel,hfew⟩:=zex hV
   have he:e∈nm V:=hel e (by rw[<- hp];simp)
   obtain⟨ks,lk,_⟩:=zgv (l:=ups V) (n:=e) (by rw[zfw];exact he)
   have eup:upL (ups V) e=ks:=by unfold upL;rw[lk];rfl
   have l1:ks.length<=12:=by rw[<- eup];exact zxv hV' e
   have sub:∀x∈pre.foldl (λks e=>(upL (ups V) e).foldl insS ks) [p.1],x∈nm (V++[p]):=λx hx=>by
    rw[zlf]
    rcases zrh.mp hx with z|⟨e',_,z⟩
    ·exact qY _ (by simpa using z)
    ·exact qi _ (zxu hV' z)
   have l2:(pre.foldl (λks e=>(upL (ups V) e).foldl insS ks) [p.1]).length<=12:=by
    have:=zjq _ _ (zadb (acc:=ups V) (es:=pre) (ks:=[p.1]) (by simp)) sub
    have:=zmd hV
    omega
   obtain⟨s5',q⟩:=ih (pre++[e]) (.pl (.str e)) hV (by rw[<- hp];simp)
   refine⟨s5',?_⟩
   rw[qU]
   unfold forL
   simp only[gN,qF,List.set_cons_succ,List.set_cons_zero]
   have b:sUpd 4 (zcs 1 (eVar 5)) [.pl (webD W),.ac (.dict (dS zaw (ups V))),.pl (.str p.1),.pl (zaa p.2),.ac (zaw (pre.foldl (λks e=>(upL (ups V) e).foldl insS ks) [p.1])),.pl (.str e)] =
     some (.nx [.pl (webD W),.ac (.dict (dS zaw (ups V))),.pl (.str p.1),.pl (zaa p.2),.ac (zaw ((pre++[e]).foldl (λks e=>(upL (ups V) e).foldl insS ks) [p.1])),.pl (.str e)]):=by
    have lz:(zcq (pre.foldl (λks e=>(upL (ups V) e).foldl insS ks) [p.1])).length+(zcq ks).length<=100000:=by unfold zcq;rw[qD,qD];omega
    simp only[sUpd,zaw,zcs,eVar,qAJ,qAD,qF,keyD,zlh,lk,qAw]
    rw[if_pos ⟨lz,by simp⟩,zjf]
    simp[frzs,qB1,eup]
   rw[b,qF]
   exact q
 have outer:∃env',forL (gT 2 (zbg 2 (zbg 3 zgd))) (sSeq (sSet 4 (eD1 (eVar 2) (eC (.bool true)))) (sSeq (sFor (zax (eVar 3)) (gN 5) (sUpd 4 (zcs 1 (eVar 5)))) (sPut 1 (eVar 2) (eVar 4)))) (W.map rowD) [.pl (webD W),.ac (.dict []),.no,.no,.no,.no]=some (.nx env')/\
   ∃s2 s3 s4 s5,env'=[.pl (webD W),.ac (.dict (dS zaw (ups W))),s2,s3,s4,s5]:=by
  refine zht (λpre env=>∃s2 s3 s4 s5,env=[.pl (webD W),.ac (.dict (dS zaw (ups pre))),s2,s3,s4,s5]) ⟨_,_,_,_,rfl⟩ ?_
  rintro pre p post env hp ⟨s2,s3,s4,s5,rfl⟩
  have hV:WebOk (pre++[p]):=zsy (post:=post) (by rw[<- zxw hp];exact h)
  obtain⟨hV',hn,hel,hfew⟩:=zex hV
  obtain⟨s5',q⟩:=inner pre p p.2 [] s5 hV rfl
  refine⟨[.pl (webD W),.ac (.dict (dS zaw (ups pre))),.pl (.str p.1),.pl (zaa p.2),s4,s5],[.pl (webD W),.ac (.dict (dS zaw (ups (pre++[p])))),.pl (.str p.1),.pl (zaa p.2),.pl (zaw (p.2.foldl (λks e=>(upL (ups pre) e).foldl insS ks) [p.1])),s5'],rfl,.inl ?_,_,_,_,_,rfl⟩
  have lz:(dS zaw (ups pre)).length<100000:=by
   unfold dS
   rw[qD,<- qD (f:=(·.1)),zfw]
   have:=zmd hV'
   omega
  have st:sSet 4 (eD1 (eVar 2) (eC (.bool true))) [.pl (webD W),.ac (.dict (dS zaw (ups pre))),.pl (.str p.1),.pl (zaa p.2),s4,s5]=some (.nx [.pl (webD W),.ac (.dict (dS zaw (ups pre))),.pl (.str p.1),.pl (zaa p.2),.ac (zaw [p.1]),s5]):=by
   simp[sSet,eD1,eVar,eC,keyD,putV,frzs,slOf,zaw,zcq]
  have pt:sPut 1 (eVar 2) (eVar 4) [.pl (webD W),.ac (.dict (dS zaw (ups pre))),.pl (.str p.1),.pl (zaa p.2),.ac (zaw (p.2.foldl (λks e=>(upL (ups pre) e).foldl insS ks) [p.1])),s5'] =
    some (.nx [.pl (webD W),.ac (.dict (dS zaw (ups (pre++[p])))),.pl (.str p.1),.pl (zaa p.2),.pl (zaw (p.2.foldl (λks e=>(upL (ups pre) e).foldl insS ks) [p.1])),s5']):=by
   simp only[sPut,eVar,qAJ,qAD,qF,keyD]
   rw[if_pos ⟨lz,by simp⟩,zadd zaw (by rw[zfw];exact hn),zik]
   simp[frzs,frz1,zhv]
  exact zgp st (zgp (zkb rfl q) pt)
 obtain⟨env',hl,s2,s3,s4,s5,rfl⟩:=outer
 exact zvi (env:=[.pl (webD W),.no,.no,.no,.no,.no]) rfl (zgp rfl (zgp (zkb rfl hl) rfl))
noncomputable def ltr(i:Int):Str:=⟨#[97+i.toNat]⟩
noncomputable def Low(x:Str):Prop:=∀c∈x.cps.toList,c<128
theorem zadf{x:Str}(h:Low x):qAv x=true:=by
 unfold qAv
 rw[<- Array.all_toList,qAS]
 intro c hc
 have:=h c hc
 exact decide_eq_true (by omega)
theorem zri(a b:Str):(a++b).cps.toList=a.cps.toList++b.cps.toList:=by
 show(a.cps++b.cps).toList=_
 simp
theorem Low.app{a b:Str}(h1:Low a)(h2:Low b):Low (a++b):=λc hc=>by
 rw[zri]at hc
 exact(qh.mp hc).elim (h1 c) (h2 c)
theorem Low.slice{x:Str}(h:Low x)(l u:Option Int):Low (Txt.slice x l u):=λc hc=>by
 unfold Txt.slice at hc
 split at hc
 ·exact h c hc
 ·have hc:c∈(List.filterMap (x.cps[·]?) (Builtin.Str.strSliceIndices l u 1 x.length)):=by simpa using hc
  obtain⟨i,_,e⟩:=qBV.mp hc
  exact h c (by
   have:=qBG e
   simpa using this)
theorem Low.ltr{i:Int}(h0:0<=i)(h1:i<26):Low (ltr i):=λc hc=>by
 have:c=97+i.toNat:=by simpa [Bc.ltr]using hc
 omega
theorem zamc{i j:Int}(h0:0<=i)(h1:0<=j)(h:ltr i=ltr j):i=j:=by
 unfold ltr at h
 have:#[97+i.toNat]=#[97+j.toNat]:=by injection h
 have:97+i.toNat=97+j.toNat:=by simpa using this
 omega
noncomputable abbrev vi(i:Int):Val:=⟨.int i,false,[]⟩
noncomputable abbrev vs(x:Str):Val:=⟨.str x,false,[]⟩
noncomputable abbrev vb(b:Bool):Val:=⟨.bool b,false,[]⟩
section
variable{a b:EF}{env:DEnv}{i j:Int}
theorem zsz(ha:a env=some (vi i))(hb:b env=some (vi j))(h:0<j):eOp modD a b env=some (vi (i % j)):=by
 unfold eOp;rw[ha,hb];simp[modD,intD,h,bsOf,zdx]
theorem zaiy(ha:a env=some (vi i))(hb:b env=some (vi j))(h:0<j)(h2:j<1073741824):eOp zur a b env=some (vi (i / j)):=by
 unfold eOp;rw[ha,hb];simp[zur,intD,h,h2,bsOf,zdx]
theorem zkd(ha:a env=some (vi i))(hb:b env=some (vi j)):eOp addD a b env=some (vi (i+j)):=by
 unfold eOp;rw[ha,hb];simp[addD,bsOf,zdx]
theorem zox(ha:a env=some (vi i))(hb:b env=some (vi j))(h:(-(2 ^ 64)<i/\i<2 ^ 64)\/(-(2 ^ 64)<j/\j<2 ^ 64)):eOp mulD a b env=some (vi (i * j)):=by
 unfold eOp;rw[ha,hb]
 simp only[qF,mulD]
 rw[if_pos h];simp[bsOf,zdx]
theorem zaqc(ha:a env=some (vi i))(hb:b env=some (vi j)):eOp eqD a b env=some (vb (i==j)):=by
 unfold eOp;rw[ha,hb];rfl
theorem zaiz{x y:Str}(ha:a env=some (vs x))(hb:b env=some (vs y))(h:x.length+y.length<=100000):eOp addD a b env=some (vs (x++y)):=by
 unfold eOp;rw[ha,hb]
 simp only[qF,addD]
 rw[if_pos h];simp[bsOf,zdx]
theorem zaqd{x:Str}{l h:PF'}{lo hi:Option Int}(ha:a env=some (vs x))(hl:l env=some lo)(hh:h env=some hi)(hz:x.length<=100000):eSl a l h env=some (vs (Txt.slice x lo hi)):=by
 unfold eSl;rw[ha,hl,hh]
 simp only[qF,slD]
 rw[if_pos hz];simp[bsOf,zdx]
theorem zaja(ha:a env=some (vi i)):zfe a env=some (some i):=by unfold zfe;rw[ha];rfl
theorem zhw{c:Bool}(ha:a env=some (vb c)):zay a env=some c:=by unfold zay;rw[ha];rfl
theorem zta{r:Val}(ha:a env=some r):zad a aNil env=some [r]:=by unfold zad aNil;rw[ha];rfl
theorem ztb{ds:List PyData}{fr:Bool}{bs:List Nat}(ha:a env=some ⟨.list ds,fr,bs⟩):eCB lenD (zad a aNil) env=some (vi ds.length):=by
 unfold eCB
 rw[zta ha]
 simp[zft,lenD,bsOf,zdx]
theorem zaqe{α β:Type}(f:α->β){l:List α}{n:Nat}{x:α}(h:l[n]?=some x):atI (l.map f) (n:Int)=some (f x):=zkt (by rw[qV,h];rfl)
theorem zaqf{k n:Nat}{b:EF}{ds:List PyData}{d:PyData}(he:env[k]?=some (.pl (.list ds)))(hb:b env=some (vi (n:Int)))(hd:ds[n]?=some d):eIxV k b env=some ⟨d,false,[]⟩:=by
 unfold eIxV
 rw[he]
 unfold eOp eVar
 rw[he,hb]
 simp only[qF,ixD]
 rw[zkt hd]
 simp[bsOf]
theorem zzb{k n:Nat}{b:EF}{ds:List PyData}{d:PyData}(he:env[k]?=some (.ac (.list ds)))(hb:b env=some (vi (n:Int)))(hd:ds[n]?=some d):eIxV k b env=some ⟨d,false,[]⟩:=by
 unfold eIxV
 rw[he]
 simp only
 rw[hb]
 simp only[qF]
 rw[zkt hd];rfl
end
noncomputable def abc:Str:="abcdefghijklmnopqrstuvwxyz"
theorem zamd:(List.range 26).all (λi=>abc.cps.toList[i]?==some (97+i))=true:=by decide +kernel
theorem zame:abc.length=26:=by decide +kernel
theorem zaqg{i:Int}(h0:0<=i)(h1:i<26):atI abc.cps.toList i=some (97+i.toNat):=by
 have q:=qAS.mp zamd i.toNat (qA6.mpr (by omega))
 have e:((i.toNat:Nat):Int)=i:=by omega
 rw[<- e]
 have z:=zkt (eq_of_beq q)
 rw[e]at z ⊢
 exact z
theorem zadg(n:Nat):zdj 0 n=(List.range n).map (λ(k:Nat)=>PyData.int (k:Int)):=by
 unfold zdj
 refine qAo λk _=>?_
 show PyData.int (0+(k:Int))=_
 rw[Int.zero_add]
theorem zli(a b:Str):(a++b).length=a.length+b.length:=by
 have:=congrArg List.length (zri a b)
 rw[qQ]at this
 simpa [Str.length]using this
theorem zadh:WebOk []:=⟨qCS,λi n es e=>by simp at e,λp hp=>by simp at hp,by simp⟩
theorem zadi{W:Web}{p:Str×List Str}(h:WebOk W)(hn:p.1∉nm W)(he:∀e∈p.2,e∈nm W)(hf:p.2.length<=4)(hl:W.length<12):WebOk (W++[p]):=by
 refine⟨by rw[zlf];exact zum h.nd hn,λi n es e=>?_,λq hq=>?_,by simp;omega⟩
 ·by_cases hi:i<W.length
  ·rw[qk hi]at e
   rw[qAq (by omega)]
   exact h.el i n es e
  ·rw[qo (by omega)]at e
   have hi2:i - W.length=0:=by
    have:=(qM.mp e).1
    simp at this;omega
   rw[hi2]at e
   cases e
   have:i=W.length:=by omega
   subst this
   rw[qAq (qK _),qBj]
   exact he
 ·rcases qh.mp hq with hq|hq
  ·exact h.few q hq
  ·rw[qc.mp hq];exact hf
theorem zxx{α:Type}(enc:α->PyData)(l:List α):zqw (l.map enc)=(l.zipIdx).map λ(p:α×Nat)=>PyData.tuple [.int (p.2:Int),enc p.1]:=by
 unfold zqw
 rw[List.zipIdx_map,qAQ];rfl
theorem zaqh{α:Type}{l:List α}(nd:l.Nodup){i j:Nat}{hi:i<l.length}{hj:j<l.length}(e:l[i]=l[j]):i=j:=by
 rcases Nat.lt_trichotomy i j with h|h|h
 ·exact absurd e (qBZ.mp nd i j hi hj h)
 ·exact h
 ·exact absurd e.symm (qBZ.mp nd j i hj hi h)
section
variable{a b:EF}{env:DEnv}{x y:Str}
theorem zarx(ha:a env=some (vs x))(hb:b env=some (vs y)):eOp neD a b env=some (vb (!(x==y))):=by
 unfold eOp;rw[ha,hb];rfl
theorem e_in{neg:Bool}{xs:List Str}{fr:Bool}{bs:List Nat}(ha:a env=some (vs x))(hb:b env=some ⟨zaa xs,fr,bs⟩):eOp (inD neg) a b env=some (vb (if neg then !decide (x∈xs)else decide (x∈xs))):=by
 unfold eOp;rw[ha,hb];simp[zvj,bsOf,zdx]
theorem zajb{k:Nat}{kvs:List (PyData×PyData)}{d:PyData}(he:env[k]?=some (.pl (.dict kvs))\/env[k]?=some (.ac (.dict kvs)))(hb:b env=some (vs y))(hd:zjr kvs (Sum.inr y)=some d):zcs k b env=some ⟨d,false,[]⟩:=by
 unfold zcs
 rcases he with he|he<;>rw[he]<;>simp only<;>rw[hb]<;>simp[keyD,hd]
theorem zadj{neg:Bool}{ks:List Str}{fr:Bool}{bs:List Nat}(ha:a env=some (vs x))(hb:b env=some ⟨zaw ks,fr,bs⟩):eDIn neg a b env=some (vb (if neg then !decide (x∈ks)else decide (x∈ks))):=by
 unfold eDIn;rw[ha,hb];simp[zaw,keyD,zsx]
end
theorem ztc{n:Str}{es:List Str}:∀{W:Web},W.lookup n=some es->W[(nm W).idxOf n]?=some (n,es)
 | [],h=>by cases h
 | (a,b)::W,h=>by
  rw[ql]at h
  show((a,b)::W)[(a::nm W).idxOf n]?=_
  rw[List.idxOf_cons]
  cases e:n==a with
  | true=>
   rw[e]at h
   cases h
   rw[<- eq_of_beq e]
   simp
  | false=>
   rw[e]at h
   have hne:(a==n)=false:=by
    have:=beq_eq_false_iff_ne.mp e
    exact beq_eq_false_iff_ne.mpr (qBB this)
   rw[hne]
   simpa using ztc (W:=W) h
theorem zahi{l:List Str}{n:Nat}{x:Str}(h:x∈l.take n):l.idxOf x<n:=by
 have:l.idxOf x=(l.take n).idxOf x:=by
  conv=>lhs;rw[<- qBp n l]
  rw[List.idxOf_append,if_pos h]
 rw[this]
 have h2:=qAh h
 rw[qAd]at h2
 omega
theorem zajc{W:Web}(h:WebOk W){n e:Str}(he:e∈upL W n):e∈nm W/\(nm W).idxOf e<(nm W).idxOf n:=by
 unfold upL at he
 cases hl:W.lookup n with
 | none=>rw[hl]at he;simp at he
 | some es=>
  rw[hl]at he
  have hi:=ztc hl
  have q:=h.el _ _ _ hi e he
  have:nm (W.take ((nm W).idxOf n))=(nm W).take ((nm W).idxOf n):=by unfold nm;rw[qBg]
  rw[this]at q
  exact⟨qA3 q,zahi q⟩
theorem zadk{W:Web}{n:Str}(h:n∈nm W):∃es,W.lookup n=some es/\(n,es)∈W:=zgv (l:=W) (n:=n) h
theorem zadl{W:Web}(h:WebOk W){n x:Str}(hn:n∈nm W):x∈up W n↔x=n\/∃e∈upL W n,x∈up W e:=by
 obtain⟨es,hl,hm⟩:=zadk hn
 rw[zadc h hm]
 unfold upL
 rw[hl];rfl
theorem zlj{W:Web}{n:Str}(h:n∈nm W):(ups W).lookup n=some (up W n):=by
 obtain⟨ks,e,_⟩:=zgv (l:=ups W) (n:=n) (by rw[zfw];exact h)
 unfold up upL
 rw[e];rfl
theorem zadm{a:EF}{f:AF}{env:DEnv}{r:Val}{rs:List Val}(ha:a env=some r)(hf:f env=some rs):zad a f env=some (r::rs):=by unfold zad;rw[ha,hf];rfl
noncomputable def zpw:SF:=(sSeq (sIf (tTru (eIsi "tuple" (eVar 0))) (sRet (eCB zuu (zad (eVar 0) aNil))) sNil)
  (sRet (eLst (zad (eVar 0) aNil))))
noncomputable def zil:GF:=fnD 1 zpw
noncomputable def ztd:SF:=(sSeq (sSet 2 zaga)
  (sSeq (sFor (zax (zbu 1 zil (zad (eVar 1) aNil))) (gN 3)
  (sUpd 2 (zcs 0 (eVar 3))))
  (zaby 2)))
noncomputable def zgq:GF:=fnD 4 ztd
noncomputable def hdg(W:Web)(n:Str):List Str:=(nm W).filter λx=>decide (x∈up W n)
theorem zvk{W:Web}(h:WebOk W){n x:Str}:x∈hdg W n↔x∈up W n:=by
 unfold hdg;rw[qAl,decide_eq_true_iff];exact⟨λz=>z.2,λz=>⟨zxu h z,z⟩⟩
theorem zamf{W:Web}(h:WebOk W){n:Str}:(hdg W n).length<=12:=qAM (qBq _ _) (zmd h)
theorem zxy{W:Web}(h:WebOk W):∀(m:Nat){k n e:Str},(nm W).idxOf k<m->k∈nm W->n∈up W k->e∈up W n->e∈up W k
 | 0,_,_,_,hm,_,_,_=>absurd hm (qBt _)
 | m+1,k,n,e,hm,hk,hn,he=>by
  rcases(zadl h hk).mp hn with rfl|⟨e',he',hn'⟩
  ·exact he
  ·obtain⟨g1,g2⟩:=zajc h he'
   exact(zadl h hk).mpr (.inr ⟨e',he',zxy h m (by omega) g1 hn' he⟩)
theorem znv{α:Type}(f:α->Bool):∀(l:List α),zit (l.map λx=>.bool (f x))=some (l.map f)
 | []=>rfl
 | x::l=>by
  show(zit (l.map λx=>.bool (f x))).map _=_
  rw[znv f l];rfl
theorem zary{α:Type}{f:α->Bool}{l:List α}{a:EF}{env:DEnv}{fr:Bool}{bs:List Nat}(ha:a env=some ⟨.list (l.map λx=>.bool (f x)),fr,bs⟩):eCB (anyD λbs=>bs.all id) (zad a aNil) env=some (vb (l.all f)):=by
 unfold eCB
 rw[zta ha,qF]
 show((zit (l.map λx=>.bool (f x))).map _).bind _=_
 rw[znv]
 simp only[qAw,qF,qCm]
 rfl
theorem zjg{α:Type}{enc:α->PyData}{out:α->List PyData}{g:GT}{t:TF}{f2:IF'}{g2:GT}{t2:TF}{e:EF}{env:DEnv}:∀{l:List α},(∀x∈l,∃e1,g (enc x) env=some e1/\t e1=some true/\innL f2 g2 t2 e e1=some (out x))->
  zhh g t f2 g2 t2 e env (l.map enc)=some (l.flatMap out)
 | [],_=>rfl
 | x::l,h=>by
  obtain⟨e1,h1,h2,h3⟩:=h x qW
  have ih:=zjg (l:=l) λy hy=>h y (qJ _ hy)
  rw[qU]
  unfold zhh
  rw[h1,qF,h2,qF,if_pos rfl,h3,qF,ih,qBd]
  rfl
theorem zxz{own:List Str}{fr:List Nat}{fi:IF'}{g:GT}{t:TF}{f2:IF'}{g2:GT}{t2:TF}{e:EF}{env:DEnv}{ds:List PyData}{bs:List Nat}{rs:List PyData}(h:fi env=some (ds,bs))(hl:ds.length<300)(k:zhh g t f2 g2 t2 e (envB own fr env) ds=some rs) :
  zmg own fr fi g t f2 g2 t2 e env=some ⟨.list rs,true,if zcd rs=true then[]else bs++capA fr env⟩:=by
 unfold zmg;rw[h,qF,if_pos hl,k];rfl
theorem zzc{α β:Type}(f:α->List β)(p:α->β->Bool)(l:List α):(l.flatMap λx=>(f x).map λe=>PyData.bool (p x e))=((l.flatMap λx=>(f x).map λe=>(x,e)).map λz=>PyData.bool (p z.1 z.2)):=by
 induction l with
 | nil=>rfl
 | cons x l ih=>rw[qBd,qBd,qp,ih,qAQ];rfl
noncomputable def zlk(ns:List Int):SFf:=(fSeq (fS (sSet 2 (eC (.int 0))))
  (fSeq (zaco 1 2 ns)
  (fSeq (fS (sSet 3 (eCB absD (zad (eVar 2) aNil))))
  (fSeq (fIfP (zay (eOp ltD (eVar 3) (eOp powD (eC (.int 10)) (eC (.int 18))))) (fS (sSet 3 (eC (.int 0)))) fNx)
  (zhs (eLst (zad (eVar 3) (zad (eOp modD (eOp addD (eOp addD (eOp mulD (eOp modD (eVar 2) (eC (.int 2147483423))) (eC (.int 48271))) (eOp mulD (eC (.int 6151)) (eVar 1))) (eC (.int 17))) (eC (.int 2147483423))) (zad (eC (.int 0)) aNil)))))))))
theorem zamg(ns:List Int)(z:Int)(h0:0<=z)(h1:z<=1000):∃env',zlk ns [.no,.pl (.int z),.no,.no]=some (.rt (.list (zjz ns z)) true env'):=by
 have e1:zlk ns [.no,.pl (.int z),.no,.no]=(fSeq (fS (sSet 3 (eCB absD (zad (eVar 2) aNil))))
  (fSeq (fIfP (zay (eOp ltD (eVar 3) (eOp powD (eC (.int 10)) (eC (.int 18))))) (fS (sSet 3 (eC (.int 0)))) fNx)
  (zhs (eLst (zad (eVar 3) (zad (eOp modD (eOp addD (eOp addD (eOp mulD (eOp modD (eVar 2) (eC (.int 2147483423))) (eC (.int 48271))) (eOp mulD (eC (.int 6151)) (eVar 1))) (eC (.int 17))) (eC (.int 2147483423))) (zad (eC (.int 0)) aNil))))))) [.no,.pl (.int z),.pl (.int (ns.getD z.toNat 0)),.no]:=by
  show(fSeq (zaco 1 2 ns) _) [.no,.pl (.int z),.pl (.int 0),.no]=_
  unfold fSeq zaco
  show Option.bind (if 0<=z then some (OutF.nx (if z<ns.length then[.no,.pl (.int z),.pl (.int (ns.getD z.toNat 0)),.no]else[.no,.pl (.int z),.pl (.int 0),.no]))else none) _=_
  rw[if_pos h0]
  by_cases hl:z<ns.length
  ·rw[if_pos hl];rfl
  ·rw[if_neg hl,show ns.getD z.toNat 0=0 by rw[qZ,qBr (by omega)];rfl]
   rfl
 rw[e1]
 have hfd:zjz ns z=[.int (if(if ns.getD z.toNat 0<0 then -ns.getD z.toNat 0 else ns.getD z.toNat 0)<10 ^ 18 then 0 else(if ns.getD z.toNat 0<0 then -ns.getD z.toNat 0 else ns.getD z.toNat 0)),.int ((ns.getD z.toNat 0 % 2147483423 * 48271+6151 * z+17) % 2147483423),.int 0]:=rfl
 rw[hfd]
 clear hfd e1
 generalize ns.getD z.toNat 0=c
 have e2:∀g:Int,(zhs (eLst (zad (eVar 3) (zad (eOp modD (eOp addD (eOp addD (eOp mulD (eOp modD (eVar 2) (eC (.int 2147483423))) (eC (.int 48271))) (eOp mulD (eC (.int 6151)) (eVar 1))) (eC (.int 17))) (eC (.int 2147483423))) (zad (eC (.int 0)) aNil))))) [.no,.pl (.int z),.pl (.int c),.pl (.int g)]=some (.rt (.list [.int g,.int ((c % 2147483423 * 48271+6151 * z+17) % 2147483423),.int 0]) true [.no,.pl (.int z),.pl (.int c),.pl (.int g)]):=λg=>by
  have m:eOp modD (eOp addD (eOp addD (eOp mulD (eOp modD (eVar 2) (eC (.int 2147483423))) (eC (.int 48271))) (eOp mulD (eC (.int 6151)) (eVar 1))) (eC (.int 17))) (eC (.int 2147483423)) [.no,.pl (.int z),.pl (.int c),.pl (.int g)]=some (vi ((c % 2147483423 * 48271+6151 * z+17) % 2147483423)):=
   zsz (zkd (zkd (zox (zsz rfl rfl (by decide)) rfl (.inr (by decide))) (zox rfl rfl (.inl (by decide)))) rfl) rfl (by decide)
  unfold zhs eLst zad
  rw[m]
  rfl
 have e3:(fSeq (fS (sSet 3 (eCB absD (zad (eVar 2) aNil)))) (fSeq (fIfP (zay (eOp ltD (eVar 3) (eOp powD (eC (.int 10)) (eC (.int 18))))) (fS (sSet 3 (eC (.int 0)))) fNx)
  (zhs (eLst (zad (eVar 3) (zad (eOp modD (eOp addD (eOp addD (eOp mulD (eOp modD (eVar 2) (eC (.int 2147483423))) (eC (.int 48271))) (eOp mulD (eC (.int 6151)) (eVar 1))) (eC (.int 17))) (eC (.int 2147483423))) (zad (eC (.int 0)) aNil))))))) [.no,.pl (.int z),.pl (.int c),.no] =
  (fSeq (fIfP (zay (eOp ltD (eVar 3) (eOp powD (eC (.int 10)) (eC (.int 18))))) (fS (sSet 3 (eC (.int 0)))) fNx)
  (zhs (eLst (zad (eVar 3) (zad (eOp modD (eOp addD (eOp addD (eOp mulD (eOp modD (eVar 2) (eC (.int 2147483423))) (eC (.int 48271))) (eOp mulD (eC (.int 6151)) (eVar 1))) (eC (.int 17))) (eC (.int 2147483423))) (zad (eC (.int 0)) aNil)))))) [.no,.pl (.int z),.pl (.int c),.pl (.int (if c<0 then -c else c))]:=rfl
 rw[e3]
 have e4:∀g:Int,zay (eOp ltD (eVar 3) (eOp powD (eC (.int 10)) (eC (.int 18)))) [.no,.pl (.int z),.pl (.int c),.pl (.int g)]=some (decide (g<10 ^ 18)):=λg=>rfl
 generalize (if c<0 then -c else c)=g
 unfold fSeq fIfP
 rw[e4,qF]
 by_cases hg:g<10 ^ 18
 ·rw[if_pos (decide_eq_true hg),if_pos hg]
  exact⟨_,e2 0⟩
 ·rw[if_neg (by rw[decide_eq_false hg];decide),if_neg hg]
  exact⟨_,e2 g⟩
noncomputable def zey:SFf:=(fSeq (fIfP (zay (eOp gtD (eIxV 0 (eC (.int 0))) (eC (.int 0)))) (fSeq (fS (sSet 2 (eOp modD (eIxV 0 (eC (.int 0))) (eVar 1))))
  (fSeq (fS (zvb 0 (eC (.int 0)) (eOp zur (eIxV 0 (eC (.int 0))) (eVar 1))))
  (zow 2))) fNx)
  (fSeq (fS (sSet 3 (eOp addD (eIxV 0 (eC (.int 2))) (eC (.int 1)))))
  (fSeq (fS (zvb 0 (eC (.int 2)) (eVar 3)))
  (fSeq (fS (sSet 4 (eOp modD (eOp addD (eOp addD (eIxV 0 (eC (.int 1))) (eOp mulD (eOp mulD (eC (.int 40692)) (eVar 3)) (eVar 3))) (eOp mulD (eC (.int 69621)) (eVar 3))) (eC (.int 2147483647)))))
  (fSeq (fS (sSet 4 (eOp modD (eOp addD (eOp addD (eOp mulD (eVar 4) (eVar 4)) (eOp mulD (eC (.int 39373)) (eVar 4))) (eVar 3)) (eC (.int 2147483579)))))
  (fSeq (fS (sSet 4 (eOp modD (eOp addD (eOp mulD (eVar 4) (eVar 4)) (eOp mulD (eC (.int 16807)) (eVar 4))) (eC (.int 2147483549)))))
  (zhs (eOp modD (eOp zur (eVar 4) (eC (.int 64))) (eVar 1)))))))))
noncomputable def zag:GE:=fnF 5 zey
noncomputable def zdu:SFf:=(fSeq (fS (sSet 2 (eC (.str ""))))
  (fSeq (fFor (zfg (zad (eVar 1) aNil)) (gN 3)
  (fSet 2 (fOp addD (zaj 0 (eVar 2)) (fOp ixD (zaj 0 (eC (.str "abcdefghijklmnopqrstuvwxyz"))) (zam 0 2 zag (zal (zaj 0 (eC (.int 26))) (fNil 0)))))))
  (zow 2)))
noncomputable def zbj:GE:=fnF 4 zdu
noncomputable def zhx:SFf:=(fSeq (fS (sSet 2 (eLst aNil)))
  (fSeq (fFor (zfg (zad (eCB lenD (zad (eVar 1) aNil)) aNil)) (gN 3)
  (fSeq (fS (sSet 4 (eLst aNil)))
  (fSeq (znq (zdp (zal (fCB minD (zal (zaj 0 (eVar 3)) (zal (zam 0 2 zag (zal (zaj 0 (eC (.int 5))) (fNil 0))) (fNil 0)))) (fNil 0))) (gN 5)
  (fSeq (fSet 6 (fOp ixD (zaj 0 (eVar 1)) (zam 0 2 zag (zal (zaj 0 (eVar 3)) (fNil 0)))))
  (fIfP (zay (eOp (inD true) (eVar 6) (eVar 4))) (fApp 4 (zaj 0 (eVar 6))) fNx)))
  (fApp 2 (zaj 0 (eTup (zad (eIxV 1 (eVar 3)) (zad (eVar 4) aNil))))))))
  (zow 2)))
noncomputable def zek:GE:=fnF 7 zhx
noncomputable def znw:SF:=(sSeq (sSet 1 zaga)
  (sSeq (sFor (zax (eVar 0)) (gT 2 (zbg 2 (zbg 3 zgd)))
  (sSeq (sSet 4 (eLst (zad (eVar 2) aNil)))
  (sSeq (sFor (zax (eVar 3)) (gN 5)
  (sSet 4 (eOp addD (eVar 4) (zcs 1 (eVar 5)))))
  (sPut 1 (eVar 2) (zdy ["_law_other","_law_rest"] [4] (zax (eVar 0)) (gT 2 (zbg 0 (zbg 1 zgd))) (zay (eOp (inD false) (eVar 0) (eVar 2))) (eVar 0))))))
  (zaby 1)))
noncomputable def zdz:GF:=fnD 6 znw
noncomputable def zfl:SF:=(sRet (eCB (anyD λbs=>bs.all id) (zad (zrc 0 1) aNil)))
noncomputable def zck:GF:=fnD 2 zfl
noncomputable def zcl:SFf:=(fSeq (fSet 2 (fOp ixD (zaj 0 (eLst (zad (eC (.int 0)) (zad (eC (.int 1)) (zad (eC (.int 2)) (zad (eC (.int 7)) aNil)))))) (zam 0 2 zag (zal (zaj 0 (eC (.int 4))) (fNil 0)))))
  (fSeq (fSet 3 (zam 0 2 zag (zal (zaj 0 (eC (.int 2))) (fNil 0))))
  (fSeq (fSet 4 (zam 0 2 zag (zal (zaj 0 (eC (.int 8))) (fNil 0))))
  (fSeq (fSet 5 (zam 0 2 zag (zal (zaj 0 (eC (.int 26))) (fNil 0))))
  (fSeq (fSet 6 (fOp ixD (zaj 0 (eLst (zad (eC (.int 1)) (zad (eC (.int 3)) (zad (eC (.int 5)) (zad (eC (.int 7)) (zad (eC (.int 9)) (zad (eC (.int 11)) (zad (eC (.int 15)) (zad (eC (.int 17)) (zad (eC (.int 19)) (zad (eC (.int 21)) (zad (eC (.int 23)) (zad (eC (.int 25)) aNil)))))))))))))) (zam 0 2 zag (zal (zaj 0 (eC (.int 12))) (fNil 0)))))
  (fSeq (fSet 7 (zam 0 2 zbj (zal (zaj 0 (eVar 2)) (fNil 0))))
  (fSeq (fS (sSet 8 (eLst aNil)))
  (fSeq (fFor (zfg (zad (eVar 1) aNil)) (gN 9)
  (fSeq (fIfP (zay (eOp eqD (eVar 3) (eC (.int 0)))) (fSet 7 (zam 0 2 zbj (zal (zam 0 2 zag (zal (zaj 0 (eOp addD (eVar 2) (eC (.int 1)))) (fNil 0))) (fNil 0)))) fNx)
  (fSeq (fS (sSet 10 (eOp ixD (eC (.str "abcdefghijklmnopqrstuvwxyz")) (eOp modD (eOp addD (eVar 5) (eOp mulD (eVar 6) (eVar 9))) (eC (.int 26))))))
  (fApp 8 (zaj 0 (eOp addD (eOp addD (eSl (eVar 7) zgl (zfe (eVar 4))) (eVar 10)) (eSl (eVar 7) (zfe (eVar 4)) zgl)))))))
  (zow 8)))))))))
noncomputable def zbl:GE:=fnF 11 zcl
noncomputable def zke:SF:=(sRet (eCB (anyD λbs=>bs.any id) (zad (zdy ["bundle"] [1] (zax (eVar 0)) (gN 0) zdv (eCB (anyD λbs=>bs.all id) (zad (zdy ["name"] [0] (zax (eVar 1)) (gN 0) zdv (eOp (inD false) (eVar 0) (eVar 1))) aNil))) aNil)))
noncomputable def zca:GF:=fnD 2 zke
noncomputable def znx:SF:=(sRet (eNot (eCB (anyD λbs=>bs.any id) (zad (zmg ["number","low","high"] [0,1] (zss (zad (eVar 1) aNil)) (gT 2 (zbg 0 (zbg 1 zgd))) zdv (zax (eSlT (eVar 4) zgl (zfe (eVar 0)))) (gN 2) zdv (eDIn false (eVar 2) (zcs 3 (eVar 1)))) aNil))))
noncomputable def zdh:GF:=fnD 2 znx
noncomputable def zte:DEnv->Option zdb:=(zvg (sSet 2 (zbu 1 zgo (zad (eVar 0) aNil)))
  (zvg (sSet 3 (zbu 1 zew (zad (eVar 0) aNil)))
  (zvg (sSet 4 (zmg ["number","first","second"] [3] (zpr (zad (eVar 3) aNil)) (gT 2 (zbg 0 (zbg 1 zgd))) zdv (zax (eSl (eVar 3) (zfe (eOp addD (eVar 0) (eC (.int 1)))) zgl)) (gN 2) zdv (eTup (zad (eVar 1) (zad (eVar 2) aNil)))))
  (zaly 5 6 2 (zax (eVar 4)) (zje (tTru (zbu 2 zca (zad (eVar 1) (zad (eVar 6) aNil)))) (tTru (zbu 2 zdh (zad (eVar 2) (zad (eVar 6) aNil))))) (zbu 2 zgq (zad (eVar 2) (zad (eVar 6) aNil)))))))
noncomputable def zfm:List PyData->Option zdb:=mxFn 7 zte
noncomputable def zadn(rows:zdb):EF:=(zdy ["arm"] [0,1,2] (zagz rows) (gN 0) (zje (zay (eDIn false (eVar 2) (zio rows (eVar 0)))) (zay (eDIn false (eVar 3) (zio rows (eVar 0))))) (eVar 0))
noncomputable def zvl(rows:zdb):EF:=(zdy ["arm"] [0,3] (zax (eVar 3)) (gN 0) (znh (tTru (eCB (anyD λbs=>bs.any id) (zad (zdy ["one"] [0,1] (zax (eVar 2)) (gN 0) zdv (eAnd (eOp neD (eVar 0) (eVar 1)) (zbu 2 zck (zad (zio rows (eVar 0)) (zad (zio rows (eVar 1)) aNil))))) aNil)))) (eVar 0))
noncomputable def zcb:zdb->PyData->PyData->Option PyData:=gMA zadn zvl
noncomputable def zado:SF:=(sSeq (zabx (zbu 2 zds (zad (eVar 0) (zad (eLst (zad (eVar 2) (zad (eVar 3) aNil))) aNil))))
  (sRet (zxp 2 zfm zcb (zad (eVar 0) (zad (eVar 1) aNil)) (eVar 2) (eVar 3))))
noncomputable def zfn:GF:=fnD 4 zado
noncomputable def zdc:SFf:=(fSeq (fS (sSet 3 (eLst aNil)))
  (fSeq (znq (zdp (zal (zam 0 2 zag (zal (zaj 0 (eC (.int 3))) (fNil 0))) (fNil 0))) (gN 4)
  (fSeq (fS (sSet 5 (eLst aNil)))
  (fSeq (znq (zdp (zal (zam 0 2 zag (zal (zaj 0 (eOp addD (eVar 2) (eC (.int 1)))) (fNil 0))) (fNil 0))) (gN 6)
  (fSeq (fSet 7 (fOp ixD (zaj 0 (eVar 1)) (zam 0 2 zag (zal (zaj 0 (eCB lenD (zad (eVar 1) aNil))) (fNil 0)))))
  (fIfP (zay (eOp (inD true) (eVar 7) (eVar 5))) (fApp 5 (zaj 0 (eVar 7))) fNx)))
  (fApp 3 (zaj 0 (eVar 5))))))
  (zow 3)))
noncomputable def zbo:GE:=fnF 8 zdc
noncomputable def zgr:SFf:=(fSeq (fS (sSet 4 (eLst (zad (eVar 2) aNil))))
  (fSeq (znq (zdp (zal (zam 0 2 zag (zal (zaj 0 (eC (.int 4))) (fNil 0))) (fNil 0))) (gN 5)
  (fSeq (fSet 6 (fOp ixD (zaj 0 (eVar 1)) (zam 0 2 zag (zal (zaj 0 (eCB lenD (zad (eVar 1) aNil))) (fNil 0)))))
  (fIfP (zje (zay (eOp (inD true) (eVar 6) (eVar 4))) (zay (eOp neD (eVar 6) (eVar 3)))) (fIns 4 (zal (zam 0 2 zag (zal (zaj 0 (eOp addD (eCB lenD (zad (eVar 4) aNil)) (eC (.int 1)))) (fNil 0))) (zal (zaj 0 (eVar 6)) (fNil 0)))) fNx)))
  (fSeq (fIfP (zay (eOp (inD true) (eVar 3) (eVar 4))) (fIns 4 (zal (zam 0 2 zag (zal (zaj 0 (eOp addD (eCB lenD (zad (eVar 4) aNil)) (eC (.int 1)))) (fNil 0))) (zal (zaj 0 (eVar 3)) (fNil 0)))) fNx)
  (zow 4))))
noncomputable def zcf:GE:=fnF 7 zgr
noncomputable def zkf:SF:=(sSeq (sIf (zay (eOp (inD false) (eVar 3) (zcs 1 (eVar 2)))) (sRet (eLst (zad (eVar 2) aNil))) sNil)
  (sSeq (sIf (zay (eOp (inD false) (eVar 2) (zcs 1 (eVar 3)))) (sRet (eLst (zad (eVar 3) aNil))) sNil)
  (sRet (eLst (zad (eCB zwv (zad (zdy ["_law_name"] [2,3] (zax (eVar 0)) (gN 0) (zay (eOp (inD false) (eVar 0) (eTup (zad (eVar 1) (zad (eVar 2) aNil))))) (eVar 0)) aNil)) aNil)))))
noncomputable def zcr:GF:=fnD 4 zkf
theorem zahj:bootBuiltins "abs"=some (.builtin "abs"):=by decide +kernel
theorem zya:bootBuiltins "all"=some (.builtin "all"):=by decide +kernel
theorem zrj:bootBuiltins "any"=some (.builtin "any"):=by decide +kernel
theorem zadp:bootBuiltins "dict"=some (.type "dict"):=by decide +kernel
theorem zhy:bootBuiltins "isinstance"=some (.builtin "isinstance"):=by decide +kernel
theorem zeg:bootBuiltins "len"=some (.builtin "len"):=by decide +kernel
theorem zny:bootBuiltins "list"=some (.type "list"):=by decide +kernel
theorem zyb:bootBuiltins "min"=some (.builtin "min"):=by decide +kernel
theorem zpx:bootBuiltins "tuple"=some (.type "tuple"):=by decide +kernel
noncomputable def top(i:Nat):Stmt:=PySem.Challenge.pw_bestcalls_k24_meets_in_one_bundle.main.body.getD i (.Pass ⟨0,0,0,0⟩)
structure Txt(mg:Str->Option Value):Prop where
 abs:mg "abs"=none
 all:mg "all"=none
 any:mg "any"=none
 dict:mg "dict"=none
 enumerate:mg "enumerate"=none
 isinstance:mg "isinstance"=none
 len:mg "len"=none
 list:mg "list"=none
 min:mg "min"=none
 range:mg "range"=none
 tuple:mg "tuple"=none
noncomputable abbrev zll:Stmt:=top 4
noncomputable abbrev zpy:List Str:=["web"]
theorem zvm:zpy.Nodup:=by decide +kernel
theorem zvn:FnScope zpy ["web"] (zat zll):=⟨rfl,rfl,rfl,zvm,rfl,by decide +kernel,by decide +kernel⟩
noncomputable abbrev zlm:Stmt:=top 5
noncomputable abbrev zpz:List Str:=["arm"]
theorem zvo:zpz.Nodup:=by decide +kernel
theorem zvp:FnScope zpz ["arm"] (zat zlm):=⟨rfl,rfl,rfl,zvo,rfl,by decide +kernel,by decide +kernel⟩
noncomputable abbrev zgw:Stmt:=top 6
noncomputable abbrev zkg:List Str:=["web","names","known","name"]
theorem zgi:zkg.Nodup:=by decide +kernel
theorem zoy:FnScope zkg ["web","names"] (zat zgw):=⟨rfl,rfl,rfl,zgi,rfl,by decide +kernel,by decide +kernel⟩
noncomputable abbrev zln:Stmt:=top 7
noncomputable abbrev zqa:List Str:=["web","roofs","name","elders","roof","elder"]
theorem zea:zqa.Nodup:=by decide +kernel
theorem zvq:FnScope zqa ["web"] (zat zln):=⟨rfl,rfl,rfl,zea,rfl,by decide +kernel,by decide +kernel⟩
noncomputable abbrev znz:Stmt:=top 8
noncomputable abbrev ztf:List Str:=["roofs","arm","roof","name"]
theorem zlo:ztf.Nodup:=by decide +kernel
theorem zzd:FnScope ztf ["roofs","arm"] (zat znz):=⟨rfl,rfl,rfl,zlo,rfl,by decide +kernel,by decide +kernel⟩
noncomputable abbrev zgx:Stmt:=top 10
noncomputable abbrev zkh:List Str:=["sort","names"]
theorem zoz:zkh.Nodup:=by decide +kernel
theorem zpa:FnScope zkh ["sort","names"] (zat zgx):=⟨rfl,rfl,rfl,zoz,rfl,by decide +kernel,by decide +kernel⟩
noncomputable abbrev zjh:Stmt:=top 11
noncomputable abbrev zoa:List Str:=["roofs","names"]
theorem ztg:zoa.Nodup:=by decide +kernel
theorem zth:FnScope zoa ["roofs","names"] (zat zjh):=⟨rfl,rfl,rfl,ztg,rfl,by decide +kernel,by decide +kernel⟩
noncomputable abbrev zji:Stmt:=top 12
noncomputable abbrev zob:List Str:=["roof","other_roof"]
theorem zti:zob.Nodup:=by decide +kernel
theorem ztj:FnScope zob ["roof","other_roof"] (zat zji):=⟨rfl,rfl,rfl,zti,rfl,by decide +kernel,by decide +kernel⟩
noncomputable abbrev zoc:Stmt:=top 13
noncomputable abbrev ztk:List Str:=["web","sort","roofs","names","pairs","arms","pair"]
theorem zez:ztk.Nodup:=by decide +kernel
theorem zze:FnScope ztk ["web","sort"] (zat zoc):=⟨rfl,rfl,rfl,zez,rfl,by decide +kernel,by decide +kernel⟩
noncomputable abbrev zgy:Stmt:=top 14
noncomputable abbrev zki:List Str:=["arms","kind","other","both"]
theorem zix:zki.Nodup:=by decide +kernel
theorem zpb:FnScope zki ["arms","kind","other"] (zat zgy):=⟨rfl,rfl,rfl,zix,rfl,by decide +kernel,by decide +kernel⟩
noncomputable abbrev zvr:Stmt:=top 15
noncomputable abbrev zadq:List Str:=["web","sort","kind","other"]
theorem zahk:zadq.Nodup:=by decide +kernel
theorem zahl:FnScope zadq ["web","sort","kind","other"] (zat zvr):=⟨rfl,rfl,rfl,zahk,rfl,by decide +kernel,by decide +kernel⟩
noncomputable abbrev zlp:Stmt:=top 17
noncomputable abbrev zqb:List Str:=["_law_script","_law_k","_law_cell","_law_great"]
theorem zfo:zqb.Nodup:=by decide +kernel
theorem zvs:FnScope zqb ["_law_script","_law_k"] (zat zlp):=⟨rfl,rfl,rfl,zfo,rfl,by decide +kernel,by decide +kernel⟩
noncomputable abbrev zlq:Stmt:=top 18
noncomputable abbrev zqc:List Str:=["_law_feed_here","_law_many","_law_digit","_law_step","_law_mixed"]
theorem zeb:zqc.Nodup:=by decide +kernel
theorem zvt:FnScope zqc ["_law_feed_here","_law_many"] (zat zlq):=⟨rfl,rfl,rfl,zeb,rfl,by decide +kernel,by decide +kernel⟩
noncomputable abbrev zgz:Stmt:=top 19
noncomputable abbrev zkj:List Str:=["_law_feed_here","_law_many","_law_word","_law_k"]
theorem zeh:zkj.Nodup:=by decide +kernel
theorem zpc:FnScope zkj ["_law_feed_here","_law_many"] (zat zgz):=⟨rfl,rfl,rfl,zeh,rfl,by decide +kernel,by decide +kernel⟩
noncomputable abbrev zjj:Stmt:=top 20
noncomputable abbrev zod:List Str:=["_law_feed_here","_law_many","_law_size","_law_same","_law_at","_law_first","_law_step","_law_base","_law_names_here","_law_k","_law_sign"]
theorem zbm:zod.Nodup:=by decide +kernel
theorem ztl:FnScope zod ["_law_feed_here","_law_many"] (zat zjj):=⟨rfl,rfl,rfl,zbm,rfl,by decide +kernel,by decide +kernel⟩
noncomputable abbrev zoe:Stmt:=top 21
noncomputable abbrev ztm:List Str:=["_law_feed_here","_law_names_here","_law_web_here","_law_k","_law_elders","_law_j","_law_name"]
theorem zfa:ztm.Nodup:=by decide +kernel
theorem zzf:FnScope ztm ["_law_feed_here","_law_names_here"] (zat zoe):=⟨rfl,rfl,rfl,zfa,rfl,by decide +kernel,by decide +kernel⟩
noncomputable abbrev zjk:Stmt:=top 22
noncomputable abbrev zof:List Str:=["_law_web_here","_law_table","_law_name","_law_elders","_law_some","_law_elder"]
theorem zcm:zof.Nodup:=by decide +kernel
theorem ztn:FnScope zof ["_law_web_here"] (zat zjk):=⟨rfl,rfl,rfl,zcm,rfl,by decide +kernel,by decide +kernel⟩
noncomputable abbrev zlr:Stmt:=top 23
noncomputable abbrev zqd:List Str:=["_law_feed_here","_law_names_here","_law_most","_law_found","_law_k","_law_some","_law_j","_law_name"]
theorem zec:zqd.Nodup:=by decide +kernel
theorem zvu:FnScope zqd ["_law_feed_here","_law_names_here","_law_most"] (zat zlr):=⟨rfl,rfl,rfl,zec,rfl,by decide +kernel,by decide +kernel⟩
noncomputable abbrev zls:Stmt:=top 24
noncomputable abbrev zqe:List Str:=["_law_feed_here","_law_names_here","_law_kind","_law_other","_law_some","_law_j","_law_name"]
theorem zha:zqe.Nodup:=by decide +kernel
theorem zvv:FnScope zqe ["_law_feed_here","_law_names_here","_law_kind","_law_other"] (zat zls):=⟨rfl,rfl,rfl,zha,rfl,by decide +kernel,by decide +kernel⟩
noncomputable abbrev zog:Stmt:=top 25
noncomputable abbrev zto:List Str:=["_law_names_here","_law_table","_law_kind","_law_other"]
theorem zzg:zto.Nodup:=by decide +kernel
theorem zzh:FnScope zto ["_law_names_here","_law_table","_law_kind","_law_other"] (zat zog):=⟨rfl,rfl,rfl,zzg,rfl,by decide +kernel,by decide +kernel⟩
noncomputable abbrev zzi:Stmt:=top 26
noncomputable abbrev zaqi:List Str:=["_law_script","_law_many","_law_k","_law_feed_here","_law_names_here","_law_web_here","_law_table","_law_kind","_law_other","_law_sort_here","_law_handed","_law_found","_law_due_here"]
theorem zfx:zaqi.Nodup:=by decide +kernel
theorem zaqj:FnScope zaqi ["_law_script"] (zat zzi):=⟨rfl,rfl,rfl,zfx,rfl,by decide +kernel,by decide +kernel⟩
theorem ziy:(["name","elders"]:List Str).Nodup:=by decide +kernel
theorem zlt:(["bundle","names"]:List Str).Nodup:=by decide +kernel
theorem zlu:(["name","bundle"]:List Str).Nodup:=by decide +kernel
theorem zfp:(["number","low","high","roofs","names"]:List Str).Nodup:=by decide +kernel
theorem zoh:(["name","other_roof"]:List Str).Nodup:=by decide +kernel
theorem zhb:(["number","first","second","names"]:List Str).Nodup:=by decide +kernel
theorem zlv:(["arm","arms","kind","other"]:List Str).Nodup:=by decide +kernel
theorem zlw:(["arm","arms","both"]:List Str).Nodup:=by decide +kernel
theorem zlx:(["one","arm","arms"]:List Str).Nodup:=by decide +kernel
theorem zhz:(["_law_other","_law_rest","_law_some"]:List Str).Nodup:=by decide +kernel
theorem zrk:(["_law_name","_law_kind","_law_other"]:List Str).Nodup:=by decide +kernel
theorem zadr:(["_law_some"]:List Str).Nodup:=by decide +kernel
section
variable(P:Program)(w:World)(K:qC)(mg:Str->Option Value)(base:Heap)
noncomputable abbrev zly:Prop:=Dn P w K mg base "names_of" ["web"] 1 (spD 1 zew)
noncomputable abbrev zqf:Prop:=Dn P w K mg base "names_in" ["arm"] 1 (spD 1 zil)
noncomputable abbrev zkk:Prop:=Dn P w K mg base "check_kinds" ["web","names"] 2 (spD 2 zds)
noncomputable abbrev zqg:Prop:=Dn P w K mg base "roofs_of" ["web"] 1 (spD 1 zgo)
noncomputable abbrev ztp:Prop:=Dn P w K mg base "roof_of" ["roofs","arm"] 2 (spD 2 zgq)
noncomputable abbrev zkl:Prop:=Dn P w K mg base "are_bundled" ["sort","names"] 1 (spD 2 zca)
noncomputable abbrev zoi:Prop:=Dn P w K mg base "are_apart" ["roofs","names"] 1 (spD 2 zdh)
noncomputable abbrev zoj:Prop:=Dn P w K mg base "is_within" ["roof","other_roof"] 1 (spD 2 zck)
noncomputable abbrev ztq:Prop:=Dn P w K mg base "arms_of" ["web","sort"] 3 (spAO P w 2 zfm)
noncomputable abbrev zkm:Prop:=Dn P w K mg base "meets_among" ["arms","kind","other"] 2 (spMA P w zcb)
noncomputable abbrev zads:Prop:=Dn P w K mg base "meets" ["web","sort","kind","other"] 4 (spD 4 zfn)
noncomputable abbrev zqh:Prop:=Dn P w K mg base "_law_feed" ["_law_script","_law_k"] 1 (zxl K)
noncomputable abbrev zed:Prop:=Dn P w K mg base "_law_take" ["_law_feed_here","_law_many"] 1 (spF 2 zag)
noncomputable abbrev zkn:Prop:=Dn P w K mg base "_law_letters" ["_law_feed_here","_law_many"] 2 (spF 2 zbj)
noncomputable abbrev zok:Prop:=Dn P w K mg base "_law_names" ["_law_feed_here","_law_many"] 3 (spF 2 zbl)
noncomputable abbrev ztr:Prop:=Dn P w K mg base "_law_web" ["_law_feed_here","_law_names_here"] 2 (spF 2 zek)
noncomputable abbrev zol:Prop:=Dn P w K mg base "_law_above" ["_law_web_here"] 1 (spD 1 zdz)
noncomputable abbrev zqi:Prop:=Dn P w K mg base "_law_sort" ["_law_feed_here","_law_names_here","_law_most"] 2 (spF 3 zbo)
noncomputable abbrev zqj:Prop:=Dn P w K mg base "_law_both" ["_law_feed_here","_law_names_here","_law_kind","_law_other"] 2 (spF 4 zcf)
noncomputable abbrev zts:Prop:=Dn P w K mg base "_law_due" ["_law_names_here","_law_table","_law_kind","_law_other"] 1 (spD 4 zcr)
end
section
variable{P:Program}{w:World}{K:qC}{mg:Str->Option Value}{base:Heap}
theorem zvw {f:Addr} {fd:qr} (F:Fun K "names_of" "names_of" zll f fd) (T:Txt mg)  : FnOk P w K mg base CX0 1 f fd ["web"] (spD 1 zew):=by
 refine F.ok zvn (λvs H Q E h=>zfh h) (λcdv A outer s H vs Q E hr h=>?_)
 have hu:=zga hr
 apply Exists.intro
 apply And.intro
 ·refine' Bx.out (zak (zbk (zdo (zcc (N':=["name","elders"]) (own:=["name","elders"]) (fr:=[]) (by kernel_rfl)) rfl (zbs (K:=K) rfl (bv 0)) ?hb1 (by intro _;rfl))))
  case hb1=>(intro cl C s H fp;refine'⟨Bx.out (zih (K:=K) (n:=2) rfl rfl (zce (bpgN (i:=0) ziy rfl (Or.inl rfl)) (zce (bpgN (i:=1) ziy rfl (Or.inl rfl)) zig (by rfl)) (by rfl)) (by rfl) (by rfl)),Bx.out zge,Bx.out (bv 0)⟩)
 exact fn_d (f:=zgn) ((ziu (zlb (zej (zab 0)) (zpq (zdd (zdd zla))) (zail (zmr (by decide) (zmr (by decide) zabz))) zju (zab 0)))) h
theorem zvx {f:Addr} {fd:qr} (F:Fun K "names_in" "names_in" zlm f fd) (T:Txt mg)  : FnOk P w K mg base CX0 1 f fd ["arm"] (spD 1 zil):=by
 refine F.ok zvp (λvs H Q E h=>zfh h) (λcdv A outer s H vs Q E hr h=>?_)
 have hu:=zga hr
 apply Exists.intro
 apply And.intro
 ·refine' Bx.out (zae (zeq (zgm (K:=K) rfl (bpeB (zsk (K:=K) rfl) T.isinstance zhy (bpaC (bv 0) (bpaC (zxg (v:=.ty "tuple") (by rfl) T.tuple zpx rfl (by decide) (by decide)) zaf))) (λ_=>rfl)) (zak (zbk (bpeT (zpn (K:=K) rfl) T.list zny (bpaC (bv 0) zaf)))) zbv)
 (zak (zbk (zcw (bpaC (bv 0) zaf)))))
 exact fn_d (f:=zpw) ((zff (zagg (zwu (zaii (zab 0) zabv)) (ziu (zin zabu (zah (zab 0) zau))) zww) (ziu (zep (zah (zab 0) zau))))) h
theorem zpd{f:Addr}{fd:qr}(F:Fun K "check_kinds" "check_kinds" zgw f fd)(T:Txt mg)(D_names_of:zly P w K mg base):FnOk P w K mg base CX0 2 f fd ["web","names"] (spD 2 zds):=by
 refine F.ok zoy (λvs H Q E h=>zfh h) (λcdv A outer s H vs Q E hr h=>?_)
 have hu:=zga hr
 apply Exists.intro
 apply And.intro
 ·refine' Bx.out (zae (bpsS (i:=2) zgi rfl (Or.inl rfl) (bpeD D_names_of hr (bpaC (bv 0) zaf)))
 (zak (zdg qz rfl (zbs (K:=K) rfl (bv 1)) (bpgN (i:=3) zgi rfl (Or.inl rfl))
  (zak (zeq (zbp (zhm (K:=K) rfl) (bv 3) (bv 2) (by rfl)) (zak zaci) zbv)) (by intro _;rfl))))
 exact fn_d (f:=zdr) ((zff (ziv (zem (zah (zab 0) zau))) (zps (zej (zab 1)) zgc (zagg (st_t (zbd zou (zab 3) (zab 2))) zagf zww)))) h
theorem zvy {f:Addr} {fd:qr} (F:Fun K "roofs_of" "roofs_of" zln f fd) (T:Txt mg)  : FnOk P w K mg base CX0 1 f fd ["web"] (spD 1 zgo):=by
 refine F.ok zvq (λvs H Q E h=>zfh h) (λcdv A outer s H vs Q E hr h=>?_)
 have hu:=zga hr
 apply Exists.intro
 apply And.intro
 ·refine' Bx.out (zae (bpsS (i:=1) zea rfl (Or.inl rfl) znp)
 (zae (zdg qz rfl (zbs (K:=K) rfl (bv 0)) (zih (K:=K) (n:=2) rfl rfl (zce (bpgN (i:=2) zea rfl (Or.inl rfl)) (zce (bpgN (i:=3) zea rfl (Or.inl rfl)) zig (by rfl)) (by rfl)) (by rfl) (by rfl))
  (zae (bpsS (i:=4) zea rfl (Or.inl rfl) (zagq (zach (bv 2) zxe zagp) rfl rfl (by simp) (by decide)))
 (zae (zdg qz rfl (zbs (K:=K) rfl (bv 3)) (bpgN (i:=5) zea rfl (Or.inl rfl))
  (zak (zde (zfj (K:=K) rfl qCL qCD qCC zsh (bv 4) (bpaC (zif hu (bv 1) (bv 5) (λ_ _=>rfl)) zaf) (by rfl) (by rfl) (by rfl) (zbn (by rfl)) (by rfl)) (by rfl))) (by intro _;rfl))
 (zak (zxh hu (bv 1) (bv 2) (bv 4) rfl)))) (by intro _;rfl))
 (zak (zbk (bv 1)))))
 exact fn_d (f:=zpu) ((zff (ziv zut) (zff (zps (zej (zab 0)) (zpq (zdd (zdd zla))) (zff (ziv (zarr (zab 2) (se_c λ_=>zbb))) (zff (zps (zej (zab 3)) zgc (zaik (zie (zab 5)))) (zaij (zab 2) (zab 4))))) zuw))) h
theorem zzj{f:Addr}{fd:qr}(F:Fun K "roof_of" "roof_of" znz f fd)(T:Txt mg)(D_names_in:zqf P w K mg base):FnOk P w K mg base CX0 2 f fd ["roofs","arm"] (spD 2 zgq):=by
 refine F.ok zzd (λvs H Q E h=>zfh h) (λcdv A outer s H vs Q E hr h=>?_)
 have hu:=zga hr
 apply Exists.intro
 apply And.intro
 ·refine' Bx.out (zae (bpsS (i:=2) zlo rfl (Or.inl rfl) znp)
 (zae (zdg qz rfl (zbs (K:=K) rfl (bpeD D_names_in hr (bpaC (bv 1) zaf))) (bpgN (i:=3) zlo rfl (Or.inl rfl))
  (zak (zde (zfj (K:=K) rfl qCL qCD qCC zsh (bv 2) (bpaC (zif hu (bv 0) (bv 3) (λ_ _=>rfl)) zaf) (by rfl) (by rfl) (by rfl) (zbn (by rfl)) (by rfl)) (by rfl))) (by intro _;rfl))
 (zak (zbk (bv 2)))))
 exact fn_d (f:=ztd) ((zff (ziv zut) (zff (zps (zej (zem (zah (zab 1) zau))) zgc (zaik (zie (zab 3)))) zuw))) h
theorem zpe {f:Addr} {fd:qr} (F:Fun K "are_bundled" "are_bundled" zgx f fd) (T:Txt mg)  : FnOk P w K mg base CX0 1 f fd ["sort","names"] (spD 2 zca):=by
 refine F.ok zpa (λvs H Q E h=>zfh h) (λcdv A outer s H vs Q E hr h=>?_)
 have hu:=zga hr
 apply Exists.intro
 apply And.intro
 ·refine' Bx.out (zak (zbk (bpeB (zne (K:=K) rfl rfl) T.any zrj (bpaC (zdo (zcc (N':=["bundle","names"]) (own:=["bundle"]) (fr:=[1]) (by kernel_rfl)) rfl (zbs (K:=K) rfl (bv 0)) ?hb1 (by intro _;rfl)) zaf))))
  case hb1=>(intro cl C s H fp;refine'⟨Bx.out (bpgN (i:=0) zlt rfl (Or.inr rfl)),Bx.out zge,Bx.out (bpeB (zsj (K:=K) rfl rfl) T.all zya (bpaC (zdo (zcc (N':=["name","bundle"]) (own:=["name"]) (fr:=[0]) (by kernel_rfl)) rfl (zbs (K:=K) rfl (bv 1)) ?hb2 (by intro _;rfl)) zaf))⟩;case hb2=>(intro cl C s H fp;refine'⟨Bx.out (bpgN (i:=0) zlu rfl (Or.inl rfl)),Bx.out zge,Bx.out (zxf (zsi (K:=K) rfl) (bv 0) (bv 1) (by rfl))⟩))
 exact fn_d (f:=zke) ((ziu (zin zsn (zah (zlb (zej (zab 0)) zgc (zqx (by decide)) zju (zin zsn (zah (zlb (zej (zab 1)) zgc (zqx (by decide)) zju (zbd zou (zab 0) (zab 1))) zau))) zau)))) h
theorem ztt {f:Addr} {fd:qr} (F:Fun K "are_apart" "are_apart" zjh f fd) (T:Txt mg)  : FnOk P w K mg base CX0 1 f fd ["roofs","names"] (spD 2 zdh):=by
 refine F.ok zth (λvs H Q E h=>zfh h) (λcdv A outer s H vs Q E hr h=>?_)
 have hu:=zga hr
 apply Exists.intro
 apply And.intro
 ·refine' Bx.out (zak (zbk (zalm (bpeB (zne (K:=K) rfl rfl) T.any zrj (bpaC (zack (zcc (N':=["number","low","high","roofs","names"]) (own:=["number","low","high"]) (fr:=[0,1]) (by kernel_rfl)) rfl (zst (K:=K) rfl rfl T.enumerate (bpaC (bv 1) zaf) (by rfl)) ?hb1 (by intro _;rfl) (by intro _ _;rfl)) zaf)))))
  case hb1=>(intro cl C s H fp;refine'⟨Bx.out (zih (K:=K) (n:=2) rfl rfl (zce (bpgN (i:=0) zfp rfl (Or.inl rfl)) (zce (bpgN (i:=1) zfp rfl (Or.inl rfl)) zig (by rfl)) (by rfl)) (by rfl) (by rfl)),Bx.out zge,Bx.out (zbs (K:=K) rfl (zhr (sl_W (K:=K) rfl) (bv 4) zjw (zjv (bv 0)))),Bx.out (bpgN (i:=2) zfp rfl (Or.inl rfl)),Bx.out zge,Bx.out (zacl (zrb hu (bv 2) (zif hu (bv 3) (bv 1) (λ_ _=>rfl))) (by rfl))⟩)
 exact fn_d (f:=znx) ((ziu (zapj (zin zsn (zah (zxb (k:=2) (zxd (zah (zab 1) zau)) (zpq (zdd (zdd zla))) (zain (zms (by decide) (by decide) (zms (by decide) (by decide) zacc))) (by decide) zju (zej (zaps (zab 4) zni (znj (zab 0)))) zgc (zacb (by decide) (by decide)) zju (zapf (zab 2) (zie (zab 1)))) zau))))) h
theorem ztu {f:Addr} {fd:qr} (F:Fun K "is_within" "is_within" zji f fd) (T:Txt mg)  : FnOk P w K mg base CX0 1 f fd ["roof","other_roof"] (spD 2 zck):=by
 refine F.ok ztj (λvs H Q E h=>zfh h) (λcdv A outer s H vs Q E hr h=>?_)
 have hu:=zga hr
 apply Exists.intro
 apply And.intro
 ·refine' Bx.out (zak (zbk (bpeB (zsj (K:=K) rfl rfl) T.all zya (bpaC (zalp (i:=0) (zdo (zcc (N':=["name","other_roof"]) (own:=["name"]) (fr:=[1]) (by kernel_rfl)) rfl (zacs (bv 0)) ?hb1 (by intro _;rfl))) zaf))))
  case hb1=>(intro cl C s H fp;refine'⟨Bx.out (bpgN (i:=0) zoh rfl (Or.inl rfl)),Bx.out zge,Bx.out (zacl (zrb hu (bv 0) (bv 1)) (by rfl))⟩)
 exact fn_d (f:=zfl) ((ziu (zin zsn (zah (zacu rfl) zau)))) h
theorem zzk{f:Addr}{fd:qr}(F:Fun K "arms_of" "arms_of" zoc f fd)(T:Txt mg)(D_are_apart:zoi P w K mg base)(D_are_bundled:zkl P w K mg base)(D_names_of:zly P w K mg base)(D_roof_of:ztp P w K mg base)(D_roofs_of:zqg P w K mg base):FnOk P w K mg base CX0 3 f fd ["web","sort"] (spAO P w 2 zfm):=by
 refine F.ok zze (λvs H Q E h=>zahe h) (λcdv A outer s H vs Q E hr h=>?_)
 have hu:=zga hr
 apply Exists.intro
 apply And.intro
 ·refine' Bx.out (zae (bpsS (i:=2) zez rfl (Or.inl rfl) (bpeD D_roofs_of hr (bpaC (bv 0) zaf)))
 (zae (bpsS (i:=3) zez rfl (Or.inr rfl) (bpeD D_names_of hr (bpaC (bv 0) zaf)))
 (zae (zacz (i:=4) (zcc (N':=["number","first","second","names"]) (own:=["number","first","second"]) (fr:=[3]) (by kernel_rfl)) rfl (zst (K:=K) rfl rfl T.enumerate (bpaC (bv 3) zaf) (by rfl)) ?hb1 (by rfl) zez rfl rfl (by intro _;rfl) (by intro _ _;rfl))
 (zae (bpsS (i:=5) zez rfl (Or.inl rfl) (bpeT zyu T.dict zadp (bpaC (bv 2) zaf)))
 (zae (zdg qz rfl (zbs (K:=K) rfl (bv 4)) (bpgN (i:=6) zez rfl (Or.inl rfl))
  (zak (zeq (zve (zgm (K:=K) rfl (bpeD D_are_bundled hr (bpaC (bv 1) (bpaC (bv 6) zaf))) (λ_=>rfl)) (zra (zgm (K:=K) rfl (bpeD D_are_apart hr (bpaC (bv 2) (bpaC (bv 6) zaf))) (λ_=>rfl)))).pt (zak (zahc hu (bv 5) (bv 6) (bpeD D_roof_of hr (bpaC (bv 2) (bpaC (bv 6) zaf))) (by rfl))) zbv)) (by intro _;rfl))
 (zak (zbk (bv 5))))))))
  case hb1=>(intro cl C s H fp;refine'⟨Bx.out (zih (K:=K) (n:=2) rfl rfl (zce (bpgN (i:=0) zhb rfl (Or.inl rfl)) (zce (bpgN (i:=1) zhb rfl (Or.inl rfl)) zig (by rfl)) (by rfl)) (by rfl) (by rfl)),Bx.out zge,Bx.out (zbs (K:=K) rfl (zhr (zafy (K:=K) rfl) (bv 3) (zjv (zbc (zbi (K:=K) rfl) (bv 0) zai)) zjw)),Bx.out (bpgN (i:=2) zhb rfl (Or.inl rfl)),Bx.out zge,Bx.out (zvd (bpaC (bv 1) (bpaC (bv 2) zaf)))⟩)
 exact zaru ((zacx (ziv (zem (zah (zab 0) zau))) (zacx (ziv (zem (zah (zab 0) zau))) (zacx (ziv (zxb (k:=2) (zacd (zah (zab 3) zau)) (zpq (zdd (zdd zla))) (zain (zms (by decide) (by decide) (zms (by decide) (by decide) zacc))) (by decide) zju (zej (zalb (zab 3) (znj (zbd zda (zab 0) (se_c λ_=>zac))) zni)) zgc (zacb (by decide) (by decide)) zju (zabt (zah (zab 1) (zah (zab 2) zau))))) (zalz (zej (zab 4)) (zaih (zwu (zem (zah (zab 1) (zah (zab 6) zau)))) (zwu (zem (zah (zab 2) (zah (zab 6) zau))))) (zem (zah (zab 2) (zah (zab 6) zau)))))))) h
theorem zpf{f:Addr}{fd:qr}(F:Fun K "meets_among" "meets_among" zgy f fd)(T:Txt mg)(D_is_within:zoj P w K mg base):FnOk P w K mg base CX0 2 f fd ["arms","kind","other"] (spMA P w zcb):=by
 refine F.ok zpb (λvs H Q E h=>zahd h) (λcdv A outer s H vs Q E hr h=>?_)
 have hu:=zga hr
 apply Exists.intro
 apply And.intro
 ·refine' Bx.out (zae (bpsS (i:=3) zix rfl (Or.inr rfl) (zdo (zcc (N':=["arm","arms","kind","other"]) (own:=["arm"]) (fr:=[0,1,2]) (by kernel_rfl)) rfl (zalx (bv 0)) ?hb1 (by intro _;rfl)))
 (zak (zbk (zdo (zcc (N':=["arm","arms","both"]) (own:=["arm"]) (fr:=[0,3]) (by kernel_rfl)) rfl (zbs (K:=K) rfl (bv 3)) ?hb2 (by intro _;rfl)))))
  case hb1=>(intro cl C s H fp;refine'⟨Bx.out (bpgN (i:=0) zlv rfl (Or.inl rfl)),Bx.out (zqz (Bx.pt (zve (zacm (zrb hu (bv 2) (zka (P:=P) (w:=w) rfl rfl hu (bv 1) (bv 0) (λ_ _=>rfl))) (by rfl)) (zra (zacm (zrb hu (bv 3) (zka (P:=P) (w:=w) rfl rfl hu (bv 1) (bv 0) (λ_ _=>rfl))) (by rfl)))))),Bx.out (bv 0)⟩)
  case hb2=>(intro cl C s H fp;refine'⟨Bx.out (bpgN (i:=0) zlw rfl (Or.inr rfl)),Bx.out (zqz (zacg (zgm (K:=K) rfl (bpeB (zne (K:=K) rfl rfl) T.any zrj (bpaC (zdo (zcc (N':=["one","arm","arms"]) (own:=["one"]) (fr:=[0,1]) (by kernel_rfl)) rfl (zbs (K:=K) rfl (bv 2)) ?hb3 (by intro _;rfl)) zaf)) (λ_=>rfl)))),Bx.out (bv 0)⟩;case hb3=>(intro cl C s H fp;refine'⟨Bx.out (bpgN (i:=0) zlx rfl (Or.inl rfl)),Bx.out zge,Bx.out (zall (zxf (zsp (K:=K) rfl hr.units) (bv 0) (bv 1) (ziq _)) (zalj (bpeD D_is_within hr (bpaC (zka (P:=P) (w:=w) rfl rfl hu (bv 2) (bv 0) (λ_ _=>rfl)) (bpaC (zka (P:=P) (w:=w) rfl rfl hu (bv 2) (bv 1) (λ_ _=>rfl)) zaf)))))⟩))
 exact zart (f1:=zadn) (f2:=zvl) rfl (λrows=>zre (kk:=0) rfl zalv (zals (zapx (zacw (zab 2) (zmu (zab 0)))) (zapx (zacw (zab 3) (zmu (zab 0))))) (zacv (zab 0))) (λrows=>zre (kk:=0) rfl (zaiu (zej (zab 3))) (zalt (zalr (zapy zsn (zrd (zre (kk:=1) rfl (zaiu (zej (zab 2))) (zapw zju) (zalu (zacv (zbd zabq (zab 0) (zab 1))) (zagy (zrd (zmu (zab 0)) (zrd (zmu (zab 1)) (zait zau)))))) (zait zau))))) (zacv (zab 0))) h
theorem zahm{f:Addr}{fd:qr}(F:Fun K "meets" "meets" zvr f fd)(T:Txt mg)(D_arms_of:ztq P w K mg base)(D_check_kinds:zkk P w K mg base)(D_meets_among:zkm P w K mg base):FnOk P w K mg base CX0 4 f fd ["web","sort","kind","other"] (spD 4 zfn):=by
 refine F.ok zahl (λvs H Q E h=>zfh h) (λcdv A outer s H vs Q E hr h=>?_)
 have hu:=zga hr
 apply Exists.intro
 apply And.intro
 ·refine' Bx.out (zae (zde (bpeD D_check_kinds hr (bpaC (bv 0) (bpaC (zcw (bpaC (bv 2) (bpaC (bv 3) zaf))) zaf))) (by rfl))
 (zak (zbk (zarv D_meets_among hr (bpaC (bpeD D_arms_of hr (bpaC (bv 0) (bpaC (bv 1) zaf))) (bpaC (bv 2) (bpaC (bv 3) zaf)))))))
 exact fn_d (f:=zado) ((zff (zald (zem (zah (zab 0) (zah (zep (zah (zab 2) (zah (zab 3) zau))) zau)))) (ziu (zahg (zah (zab 0) (zah (zab 1) zau)) (zab 2) (zab 3))))) h
theorem zvz{f:Addr}{fd:qr}(F:Fun K "_law_feed" "_law_feed" zlp f fd)(T:Txt mg):FnOk P w K mg base CX0 1 f fd ["_law_script","_law_k"] (zxl K):=by
 refine F.ok zvs (λvs H Q E h=>by obtain⟨a,ns,z,rfl,_⟩:=h;rfl) (λcdv A outer s H vs Q E hr h=>?_)
 have hu:=zga hr
 apply Exists.intro
 apply And.intro
 ·refine' Bx.out (zae (bpsS (i:=2) zfo rfl (Or.inl rfl) zai)
 (zae (zeq (zbp zany (bv 1) (bpeB (zcz (K:=K) rfl) T.len zeg (bpaC (bv 0) zaf)) (ziq _)) (zak (bpsS (i:=2) zfo rfl (Or.inl rfl) (bpeX (zhl (K:=K) rfl) (bv 0) (bv 1)))) zbv)
 (zae (bpsS (i:=3) zfo rfl (Or.inl rfl) (bpeB zaew T.abs zahj (bpaC (bv 2) zaf)))
 (zae (zeq (zbp zany (bv 3) (zbc zanx zai zai) (ziq _)) (zak (bpsS (i:=3) zfo rfl (Or.inl rfl) zai)) zbv)
 (zak (zbk (zcw (bpaC (bv 3) (bpaC (zbc zmc (zbc (zbi (K:=K) rfl) (zbc (zbi (K:=K) rfl) (zbc zgb (zbc zmc (bv 2) zai) zai) (zbc zgb zai (bv 1))) zai) zai) (bpaC zai zaf))))))))))
 exact zalo rfl (F:=zlk) (λns=>(zbx rfl (zdq (zcj (zbt (se_c λ_=>zac) (by decide)))) (zbx rfl (zagu (by decide)) (zbx rfl (zdq (zcj (zbt (zin zapl (zah (zab 2) zau)) (by decide)))) (zbx rfl (zdq (zgh (st_t (zbd zarp (zab 3) (zbd zapd (se_c λ_=>zac) (se_c λ_=>zac)))) (zcj (zbt (se_c λ_=>zac) (by decide))) zgf)) (zdq (zjy (zep (zah (zab 3) (zah (zbd zme (zbd zda (zbd zda (zbd zis (zbd zme (zab 2) (se_c λ_=>zac)) (se_c λ_=>zac)) (zbd zis (se_c λ_=>zac) (zab 1))) (se_c λ_=>zac)) (se_c λ_=>zac)) (zah (se_c λ_=>zac) zau))))))))))) zamg h
theorem zwa {f:Addr} {fd:qr} (F:Fun K "_law_take" "_law_take" zlq f fd) (T:Txt mg)  : FnOk P w K mg base CX0 1 f fd ["_law_feed_here","_law_many"] (spF 2 zag):=by
 refine F.ok zvt (λvs H Q E h=>zlc h) (λcdv A outer s H vs Q E hr h=>?_)
 have hu:=zga hr
 apply Exists.intro
 apply And.intro
 ·refine' Bx.out (zae (zeq (zbp zarg (bpeX (zhl (K:=K) rfl) (bv 0) zai) zai (ziq _)) (zae (bpsS (i:=2) zeb rfl (Or.inl rfl) (zbc zmc (bpeX (zhl (K:=K) rfl) (bv 0) zai) (bv 1)))
 (zae (zxi (bv 0) zai (zbc zaab (bpeX (zhl (K:=K) rfl) (bv 0) zai) (bv 1)) (by intro _;rfl) (by rfl) (by rfl) (by rfl))
 (zak (zbk (bv 2))))) zbv)
 (zae (bpsS (i:=3) zeb rfl (Or.inl rfl) (zbc (zbi (K:=K) rfl) (bpeX (zhl (K:=K) rfl) (bv 0) zai) zai))
 (zae (zxi (bv 0) zai (bv 3) (by intro _;rfl) (by rfl) (by rfl) (by rfl))
 (zae (bpsS (i:=4) zeb rfl (Or.inl rfl) (zbc zmc (zbc (zbi (K:=K) rfl) (zbc (zbi (K:=K) rfl) (bpeX (zhl (K:=K) rfl) (bv 0) zai) (zbc zgb (zbc zgb zai (bv 3)) (bv 3))) (zbc zgb zai (bv 3))) zai))
 (zae (bpsS (i:=4) zeb rfl (Or.inl rfl) (zbc zmc (zbc (zbi (K:=K) rfl) (zbc (zbi (K:=K) rfl) (zbc zgb (bv 4) (bv 4)) (zbc zgb zai (bv 4))) (bv 3)) zai))
 (zae (bpsS (i:=4) zeb rfl (Or.inl rfl) (zbc zmc (zbc (zbi (K:=K) rfl) (zbc zgb (bv 4) (bv 4)) (zbc zgb zai (bv 4))) zai))
 (zak (zbk (zbc zmc (zbc zaab (bv 4) zai) (bv 1))))))))))
 exact fn_f (by decide) (F:=zey) ((zba (zgh (st_t (zbd zarq (znm (se_c λ_=>zac)) (se_c λ_=>zac))) (zba (zcj (zbt (zbd zme (znm (se_c λ_=>zac)) (zab 1)) (by decide))) (zba (zcj (zxj (se_c λ_=>zac) (zbd zabo (znm (se_c λ_=>zac)) (zab 1)))) zij)) zgf) (zba (zcj (zbt (zbd zda (znm (se_c λ_=>zac)) (se_c λ_=>zac)) (by decide))) (zba (zcj (zxj (se_c λ_=>zac) (zab 3))) (zba (zcj (zbt (zbd zme (zbd zda (zbd zda (znm (se_c λ_=>zac)) (zbd zis (zbd zis (se_c λ_=>zac) (zab 3)) (zab 3))) (zbd zis (se_c λ_=>zac) (zab 3))) (se_c λ_=>zac)) (by decide))) (zba (zcj (zbt (zbd zme (zbd zda (zbd zda (zbd zis (zab 4) (zab 4)) (zbd zis (se_c λ_=>zac) (zab 4))) (zab 3)) (se_c λ_=>zac)) (by decide))) (zba (zcj (zbt (zbd zme (zbd zda (zbd zis (zab 4) (zab 4)) (zbd zis (se_c λ_=>zac) (zab 4))) (se_c λ_=>zac)) (by decide))) (zjy (zbd zme (zbd zabo (zab 4) (se_c λ_=>zac)) (zab 1)))))))))) h
theorem zpg{f:Addr}{fd:qr}(F:Fun K "_law_letters" "_law_letters" zgz f fd)(T:Txt mg)(D_law_take:zed P w K mg base):FnOk P w K mg base CX0 2 f fd ["_law_feed_here","_law_many"] (spF 2 zbj):=by
 refine F.ok zpc (λvs H Q E h=>zlc h) (λcdv A outer s H vs Q E hr h=>?_)
 have hu:=zga hr
 apply Exists.intro
 apply And.intro
 ·refine' Bx.out (zae (bpsS (i:=2) zeh rfl (Or.inl rfl) zvc)
 (zae (zdg qz rfl (zdk rfl T.range (bpaC (bv 1) zaf) (by rfl)) (bpgN (i:=3) zeh rfl (Or.inl rfl))
  (zak (bpsS (i:=2) zeh rfl (Or.inl rfl) (zbc (zbi (K:=K) rfl) (bv 2) (bpeX (zhl (K:=K) rfl) zvc (bpeD D_law_take hr (bpaC (bv 0) (bpaC zai zaf))))))) (by intro _;rfl))
 (zak (zbk (bv 2)))))
 exact fn_f (by decide) (F:=zdu) ((zba (zcj (zbt (se_c λ_=>zdn) (by decide))) (zba (zvf (zjs (zah (zab 1) zau)) (zfv (by decide)) (zcx (ziw zda (zan (zab 2)) (ziw zov (zan (se_c λ_=>zdn)) (zav (zaq (zan (se_c λ_=>zac)) zaz)))) (by decide))) zij))) h
theorem ztv{f:Addr}{fd:qr}(F:Fun K "_law_names" "_law_names" zjj f fd)(T:Txt mg)(D_law_letters:zkn P w K mg base)(D_law_take:zed P w K mg base):FnOk P w K mg base CX0 3 f fd ["_law_feed_here","_law_many"] (spF 2 zbl):=by
 refine F.ok ztl (λvs H Q E h=>zlc h) (λcdv A outer s H vs Q E hr h=>?_)
 have hu:=zga hr
 apply Exists.intro
 apply And.intro
 ·refine' Bx.out (zae (bpsS (i:=2) zbm rfl (Or.inl rfl) (bpeX (zhl (K:=K) rfl) (zcw (bpaC zai (bpaC zai (bpaC zai (bpaC zai zaf))))) (bpeD D_law_take hr (bpaC (bv 0) (bpaC zai zaf)))))
 (zae (bpsS (i:=3) zbm rfl (Or.inl rfl) (bpeD D_law_take hr (bpaC (bv 0) (bpaC zai zaf))))
 (zae (bpsS (i:=4) zbm rfl (Or.inl rfl) (bpeD D_law_take hr (bpaC (bv 0) (bpaC zai zaf))))
 (zae (bpsS (i:=5) zbm rfl (Or.inl rfl) (bpeD D_law_take hr (bpaC (bv 0) (bpaC zai zaf))))
 (zae (bpsS (i:=6) zbm rfl (Or.inl rfl) (bpeX (zhl (K:=K) rfl) (zcw (bpaC zai (bpaC zai (bpaC zai (bpaC zai (bpaC zai (bpaC zai (bpaC zai (bpaC zai (bpaC zai (bpaC zai (bpaC zai (bpaC zai zaf))))))))))))) (bpeD D_law_take hr (bpaC (bv 0) (bpaC zai zaf)))))
 (zae (bpsS (i:=7) zbm rfl (Or.inl rfl) (bpeD D_law_letters hr (bpaC (bv 0) (bpaC (bv 2) zaf))))
 (zae (bpsS (i:=8) zbm rfl (Or.inl rfl) (zcw zaf))
 (zae (zdg qz rfl (zdk rfl T.range (bpaC (bv 1) zaf) (by rfl)) (bpgN (i:=9) zbm rfl (Or.inl rfl))
  (zae (zeq (zbp (zaim (K:=K) rfl hr.units) (bv 3) zai (ziq _)) (zak (bpsS (i:=7) zbm rfl (Or.inl rfl) (bpeD D_law_letters hr (bpaC (bv 0) (bpaC (bpeD D_law_take hr (bpaC (bv 0) (bpaC (zbc (zbi (K:=K) rfl) (bv 2) zai) zaf))) zaf))))) zbv)
 (zae (bpsS (i:=10) zbm rfl (Or.inl rfl) (bpeX (zhl (K:=K) rfl) zvc (zbc zmc (zbc (zbi (K:=K) rfl) (bv 5) (zbc zgb (bv 6) (bv 9))) zai)))
 (zak (zde (zfj (K:=K) rfl qAC qAb qAa zfb (bv 8) (bpaC (zbc (zbi (K:=K) rfl) (zbc (zbi (K:=K) rfl) (zhr (zafy (K:=K) rfl) (bv 7) zjw (zjv (bv 4))) (bv 10)) (zhr (zafy (K:=K) rfl) (bv 7) (zjv (bv 4)) zjw)) zaf) (by rfl) (by rfl) (by rfl) (zbn (by rfl)) (by rfl)) (by rfl))))) (by intro _;rfl))
 (zak (zbk (bv 8)))))))))))
 exact fn_f (by decide) (F:=zcl) ((zba (zcx (ziw zov (zan (zep (zah (se_c λ_=>zac) (zah (se_c λ_=>zac) (zah (se_c λ_=>zac) (zah (se_c λ_=>zac) zau)))))) (zav (zaq (zan (se_c λ_=>zac)) zaz))) (by decide)) (zba (zcx (zav (zaq (zan (se_c λ_=>zac)) zaz)) (by decide)) (zba (zcx (zav (zaq (zan (se_c λ_=>zac)) zaz)) (by decide)) (zba (zcx (zav (zaq (zan (se_c λ_=>zac)) zaz)) (by decide)) (zba (zcx (ziw zov (zan (zep (zah (se_c λ_=>zac) (zah (se_c λ_=>zac) (zah (se_c λ_=>zac) (zah (se_c λ_=>zac) (zah (se_c λ_=>zac) (zah (se_c λ_=>zac) (zah (se_c λ_=>zac) (zah (se_c λ_=>zac) (zah (se_c λ_=>zac) (zah (se_c λ_=>zac) (zah (se_c λ_=>zac) (zah (se_c λ_=>zac) zau)))))))))))))) (zav (zaq (zan (se_c λ_=>zac)) zaz))) (by decide)) (zba (zcx (zav (zaq (zan (zab 2)) zaz)) (by decide)) (zba (zcj (zbt (zep zau) (by decide))) (zba (zvf (zjs (zah (zab 1) zau)) (zfv (by decide)) (zba (zgh (st_t (zbd zape (zab 3) (se_c λ_=>zac))) (zcx (zav (zaq (zav (zaq (zan (zbd zda (zab 2) (se_c λ_=>zac))) zaz)) zaz)) (by decide)) zgf) (zba (zcj (zbt (zbd zov (se_c λ_=>zdn) (zbd zme (zbd zda (zab 5) (zbd zis (zab 6) (zab 9))) (se_c λ_=>zac))) (by decide))) (zld (zan (zbd zda (zbd zda (zalb (zab 7) zni (znj (zab 4))) (zab 10)) (zalb (zab 7) (znj (zab 4)) zni))))))) zij))))))))) h
theorem zzl{f:Addr}{fd:qr}(F:Fun K "_law_web" "_law_web" zoe f fd)(T:Txt mg)(D_law_take:zed P w K mg base):FnOk P w K mg base CX0 2 f fd ["_law_feed_here","_law_names_here"] (spF 2 zek):=by
 refine F.ok zzf (λvs H Q E h=>zlc h) (λcdv A outer s H vs Q E hr h=>?_)
 have hu:=zga hr
 apply Exists.intro
 apply And.intro
 ·refine' Bx.out (zae (bpsS (i:=2) zfa rfl (Or.inl rfl) (zcw zaf))
 (zae (zdg qz rfl (zdk rfl T.range (bpaC (bpeB (zcz (K:=K) rfl) T.len zeg (bpaC (bv 1) zaf)) zaf) (by rfl)) (bpgN (i:=3) zfa rfl (Or.inl rfl))
  (zae (bpsS (i:=4) zfa rfl (Or.inl rfl) (zcw zaf))
 (zae (zdg qz rfl (zdk rfl T.range (bpaC (bpeB (zrv rfl) T.min zyb (bpaC (bv 3) (bpaC (bpeD D_law_take hr (bpaC (bv 0) (bpaC zai zaf))) zaf))) zaf) (by rfl)) (bpgN (i:=5) zfa rfl (Or.inl rfl))
  (zae (bpsS (i:=6) zfa rfl (Or.inl rfl) (bpeX (zhl (K:=K) rfl) (bv 1) (bpeD D_law_take hr (bpaC (bv 0) (bpaC (bv 3) zaf)))))
 (zak (zeq (zbp (zhm (K:=K) rfl) (bv 6) (bv 4) (by rfl)) (zak (zde (zfj (K:=K) rfl qAC qAb qAa zfb (bv 4) (bpaC (bv 6) zaf) (by rfl) (by rfl) (by rfl) (zbn (by rfl)) (by rfl)) (by rfl))) zbv))) (by intro _;rfl))
 (zak (zde (zfj (K:=K) rfl qAC qAb qAa zfb (bv 2) (bpaC (zvd (bpaC (bpeX (zhl (K:=K) rfl) (bv 1) (bv 3)) (bpaC (bv 4) zaf))) zaf) (by rfl) (by rfl) (by rfl) (zbn (by rfl)) (by rfl)) (by rfl))))) (by intro _;rfl))
 (zak (zbk (bv 2)))))
 exact fn_f (by decide) (F:=zhx) ((zba (zcj (zbt (zep zau) (by decide))) (zba (zvf (zjs (zah (zin zmf (zah (zab 1) zau)) zau)) (zfv (by decide)) (zba (zcj (zbt (zep zau) (by decide))) (zba (zmt (zii (zaq (zapu zapk (zaq (zan (zab 3)) (zaq (zav (zaq (zan (se_c λ_=>zac)) zaz)) zaz))) zaz)) (zfv (by decide)) (zba (zcx (ziw zov (zan (zab 1)) (zav (zaq (zan (zab 3)) zaz))) (by decide)) (zgh (st_t (zbd zou (zab 6) (zab 4))) (zld (zan (zab 6))) zgf))) (zld (zan (zabt (zah (znm (zab 3)) (zah (zab 4) zau)))))))) zij))) h
theorem ztw {f:Addr} {fd:qr} (F:Fun K "_law_above" "_law_above" zjk f fd) (T:Txt mg)  : FnOk P w K mg base CX0 1 f fd ["_law_web_here"] (spD 1 zdz):=by
 refine F.ok ztn (λvs H Q E h=>zfh h) (λcdv A outer s H vs Q E hr h=>?_)
 have hu:=zga hr
 apply Exists.intro
 apply And.intro
 ·refine' Bx.out (zae (bpsS (i:=1) zcm rfl (Or.inl rfl) znp)
 (zae (zdg qz rfl (zbs (K:=K) rfl (bv 0)) (zih (K:=K) (n:=2) rfl rfl (zce (bpgN (i:=2) zcm rfl (Or.inl rfl)) (zce (bpgN (i:=3) zcm rfl (Or.inl rfl)) zig (by rfl)) (by rfl)) (by rfl) (by rfl))
  (zae (bpsS (i:=4) zcm rfl (Or.inr rfl) (zcw (bpaC (bv 2) zaf)))
 (zae (zdg qz rfl (zbs (K:=K) rfl (bv 3)) (bpgN (i:=5) zcm rfl (Or.inl rfl))
  (zak (bpsS (i:=4) zcm rfl (Or.inr rfl) (zbc (zbi (K:=K) rfl) (bv 4) (zif hu (bv 1) (bv 5) (λ_ _=>rfl))))) (by intro _;rfl))
 (zak (zxh hu (bv 1) (bv 2) (zdo (zcc (N':=["_law_other","_law_rest","_law_some"]) (own:=["_law_other","_law_rest"]) (fr:=[4]) (by kernel_rfl)) rfl (zbs (K:=K) rfl (bv 0)) ?hb1 (by intro _;rfl)) rfl)))) (by intro _;rfl))
 (zak (zbk (bv 1)))))
  case hb1=>(intro cl C s H fp;refine'⟨Bx.out (zih (K:=K) (n:=2) rfl rfl (zce (bpgN (i:=0) zhz rfl (Or.inl rfl)) (zce (bpgN (i:=1) zhz rfl (Or.inl rfl)) zig (by rfl)) (by rfl)) (by rfl) (by rfl)),Bx.out (zqz (zbp (zsi (K:=K) rfl) (bv 0) (bv 2) (by rfl))),Bx.out (bv 0)⟩)
 exact fn_d (f:=znw) ((zff (ziv zut) (zff (zps (zej (zab 0)) (zpq (zdd (zdd zla))) (zff (ziv (zep (zah (zab 2) zau))) (zff (zps (zej (zab 3)) zgc (ziv (zbd zda (zab 4) (zie (zab 5))))) (zaij (zab 2) (zlb (zej (zab 0)) (zpq (zdd (zdd zla))) (zail (zmr (by decide) (zmr (by decide) zabz))) (st_t (zbd zou (zab 0) (zab 2))) (zab 0)))))) zuw))) h
theorem zwb{f:Addr}{fd:qr}(F:Fun K "_law_sort" "_law_sort" zlr f fd)(T:Txt mg)(D_law_take:zed P w K mg base):FnOk P w K mg base CX0 2 f fd ["_law_feed_here","_law_names_here","_law_most"] (spF 3 zbo):=by
 refine F.ok zvu (λvs H Q E h=>zlc h) (λcdv A outer s H vs Q E hr h=>?_)
 have hu:=zga hr
 apply Exists.intro
 apply And.intro
 ·refine' Bx.out (zae (bpsS (i:=3) zec rfl (Or.inl rfl) (zcw zaf))
 (zae (zdg qz rfl (zdk rfl T.range (bpaC (bpeD D_law_take hr (bpaC (bv 0) (bpaC zai zaf))) zaf) (by rfl)) (bpgN (i:=4) zec rfl (Or.inl rfl))
  (zae (bpsS (i:=5) zec rfl (Or.inl rfl) (zcw zaf))
 (zae (zdg qz rfl (zdk rfl T.range (bpaC (bpeD D_law_take hr (bpaC (bv 0) (bpaC (zbc (zbi (K:=K) rfl) (bv 2) zai) zaf))) zaf) (by rfl)) (bpgN (i:=6) zec rfl (Or.inl rfl))
  (zae (bpsS (i:=7) zec rfl (Or.inl rfl) (bpeX (zhl (K:=K) rfl) (bv 1) (bpeD D_law_take hr (bpaC (bv 0) (bpaC (bpeB (zcz (K:=K) rfl) T.len zeg (bpaC (bv 1) zaf)) zaf)))))
 (zak (zeq (zbp (zhm (K:=K) rfl) (bv 7) (bv 5) (by rfl)) (zak (zde (zfj (K:=K) rfl qAC qAb qAa zfb (bv 5) (bpaC (bv 7) zaf) (by rfl) (by rfl) (by rfl) (zbn (by rfl)) (by rfl)) (by rfl))) zbv))) (by intro _;rfl))
 (zak (zde (zfj (K:=K) rfl qAC qAb qAa zfb (bv 3) (bpaC (bv 5) zaf) (by rfl) (by rfl) (by rfl) (zbn (by rfl)) (by rfl)) (by rfl))))) (by intro _;rfl))
 (zak (zbk (bv 3)))))
 exact fn_f (by decide) (F:=zdc) ((zba (zcj (zbt (zep zau) (by decide))) (zba (zmt (zii (zaq (zav (zaq (zan (se_c λ_=>zac)) zaz)) zaz)) (zfv (by decide)) (zba (zcj (zbt (zep zau) (by decide))) (zba (zmt (zii (zaq (zav (zaq (zan (zbd zda (zab 2) (se_c λ_=>zac))) zaz)) zaz)) (zfv (by decide)) (zba (zcx (ziw zov (zan (zab 1)) (zav (zaq (zan (zin zmf (zah (zab 1) zau))) zaz))) (by decide)) (zgh (st_t (zbd zou (zab 7) (zab 5))) (zld (zan (zab 7))) zgf))) (zld (zan (zab 5)))))) zij))) h
theorem zwc{f:Addr}{fd:qr}(F:Fun K "_law_both" "_law_both" zls f fd)(T:Txt mg)(D_law_take:zed P w K mg base):FnOk P w K mg base CX0 2 f fd ["_law_feed_here","_law_names_here","_law_kind","_law_other"] (spF 4 zcf):=by
 refine F.ok zvv (λvs H Q E h=>zlc h) (λcdv A outer s H vs Q E hr h=>?_)
 have hu:=zga hr
 apply Exists.intro
 apply And.intro
 ·refine' Bx.out (zae (bpsS (i:=4) zha rfl (Or.inl rfl) (zcw (bpaC (bv 2) zaf)))
 (zae (zdg qz rfl (zdk rfl T.range (bpaC (bpeD D_law_take hr (bpaC (bv 0) (bpaC zai zaf))) zaf) (by rfl)) (bpgN (i:=5) zha rfl (Or.inl rfl))
  (zae (bpsS (i:=6) zha rfl (Or.inl rfl) (bpeX (zhl (K:=K) rfl) (bv 1) (bpeD D_law_take hr (bpaC (bv 0) (bpaC (bpeB (zcz (K:=K) rfl) T.len zeg (bpaC (bv 1) zaf)) zaf)))))
 (zak (zeq (zve (zbp (zhm (K:=K) rfl) (bv 6) (bv 4) (by rfl)) (zra (zbp (zsp (K:=K) rfl hr.units) (bv 6) (bv 3) (ziq _)))).pt (zak (zde (zfj (K:=K) rfl qAC qBU qBT zns (bv 4) (bpaC (bpeD D_law_take hr (bpaC (bv 0) (bpaC (zbc (zbi (K:=K) rfl) (bpeB (zcz (K:=K) rfl) T.len zeg (bpaC (bv 4) zaf)) zai) zaf))) (bpaC (bv 6) zaf)) (by rfl) (by rfl) (by rfl) (zbn (by rfl)) (by rfl)) (by rfl))) zbv))) (by intro _;rfl))
 (zae (zeq (zbp (zhm (K:=K) rfl) (bv 3) (bv 4) (by rfl)) (zak (zde (zfj (K:=K) rfl qAC qBU qBT zns (bv 4) (bpaC (bpeD D_law_take hr (bpaC (bv 0) (bpaC (zbc (zbi (K:=K) rfl) (bpeB (zcz (K:=K) rfl) T.len zeg (bpaC (bv 4) zaf)) zai) zaf))) (bpaC (bv 3) zaf)) (by rfl) (by rfl) (by rfl) (zbn (by rfl)) (by rfl)) (by rfl))) zbv)
 (zak (zbk (bv 4))))))
 exact fn_f (by decide) (F:=zgr) ((zba (zcj (zbt (zep (zah (zab 2) zau)) (by decide))) (zba (zmt (zii (zaq (zav (zaq (zan (se_c λ_=>zac)) zaz)) zaz)) (zfv (by decide)) (zba (zcx (ziw zov (zan (zab 1)) (zav (zaq (zan (zin zmf (zah (zab 1) zau))) zaz))) (by decide)) (zgh (zaih (st_t (zbd zou (zab 6) (zab 4))) (st_t (zbd zabq (zab 6) (zab 3)))) (zvh (zaq (zav (zaq (zan (zbd zda (zin zmf (zah (zab 4) zau)) (se_c λ_=>zac))) zaz)) (zaq (zan (zab 6)) zaz))) zgf))) (zba (zgh (st_t (zbd zou (zab 3) (zab 4))) (zvh (zaq (zav (zaq (zan (zbd zda (zin zmf (zah (zab 4) zau)) (se_c λ_=>zac))) zaz)) (zaq (zan (zab 3)) zaz))) zgf) zij)))) h
theorem zzm {f:Addr} {fd:qr} (F:Fun K "_law_due" "_law_due" zog f fd) (T:Txt mg)  : FnOk P w K mg base CX0 1 f fd ["_law_names_here","_law_table","_law_kind","_law_other"] (spD 4 zcr):=by
 refine F.ok zzh (λvs H Q E h=>zfh h) (λcdv A outer s H vs Q E hr h=>?_)
 have hu:=zga hr
 apply Exists.intro
 apply And.intro
 ·refine' Bx.out (zae (zeq (zbp (zsi (K:=K) rfl) (bv 3) (zif hu (bv 1) (bv 2) (λ_ _=>rfl)) (by rfl)) (zak (zbk (zcw (bpaC (bv 2) zaf)))) zbv)
 (zae (zeq (zbp (zsi (K:=K) rfl) (bv 2) (zif hu (bv 1) (bv 3) (λ_ _=>rfl)) (by rfl)) (zak (zbk (zcw (bpaC (bv 3) zaf)))) zbv)
 (zak (zbk (zcw (bpaC (bpeT (zuy (K:=K) rfl) T.tuple zpx (bpaC (zdo (zcc (N':=["_law_name","_law_kind","_law_other"]) (own:=["_law_name"]) (fr:=[2,3]) (by kernel_rfl)) rfl (zbs (K:=K) rfl (bv 0)) ?hb1 (by intro _;rfl)) zaf)) zaf))))))
  case hb1=>(intro cl C s H fp;refine'⟨Bx.out (bpgN (i:=0) zrk rfl (Or.inl rfl)),Bx.out (zqz (zbp (zsi (K:=K) rfl) (bv 0) (zvd (bpaC (bv 1) (bpaC (bv 2) zaf))) (by rfl))),Bx.out (bv 0)⟩)
 exact fn_d (f:=zkf) ((zff (zagg (st_t (zbd zou (zab 3) (zie (zab 2)))) (ziu (zep (zah (zab 2) zau))) zww) (zff (zagg (st_t (zbd zou (zab 2) (zie (zab 3)))) (ziu (zep (zah (zab 3) zau))) zww) (ziu (zep (zah (zin zagb (zah (zlb (zej (zab 0)) zgc (zqx (by decide)) (st_t (zbd zou (zab 0) (zabt (zah (zab 1) (zah (zab 2) zau))))) (zab 0)) zau)) zau)))))) h
end
inductive Arm where
 | one (n:Str)
 | many (ns:List Str)
noncomputable def Arm.parts:Arm->List Str
 | .one n=>[n]
 | .many ns=>ns
noncomputable def armD:Arm->PyData
 | .one n=>.str n
 | .many ns=>.tuple (ns.map .str)
noncomputable def zfy(ks:List Str):PyData:=.tuple (ks.map .str)
theorem zph(a:Arm):zil [armD a]=some (zaa a.parts,true):=by
 cases a with
 | one n=>rfl
 | many ns=>rfl
noncomputable def upA(W:Web)(a:Arm):List Str:=a.parts.foldl (λks n=>(up W n).foldl insS ks) []
theorem zamh{W:Web}{a:Arm}{x:Str}:x∈upA W a↔∃n∈a.parts,x∈up W n:=by
 unfold upA
 have:∀(l ks:List Str),x∈l.foldl (λks n=>(up W n).foldl insS ks) ks↔x∈ks\/∃n∈l,x∈up W n:=by
  intro l
  induction l with
  | nil=>intro ks;simp
  | cons n l ih=>intro ks;rw[qBQ,ih,zkc];simp[or_assoc]
 rw[this];simp
theorem zzn{W:Web}(h:WebOk W){a:Arm}(hk:∀n∈a.parts,n∈nm W):zgq [.dict (dS zaw (ups W)),armD a]=some (zaw (upA W a),true):=by
 have nd:∀(l ks:List Str),ks.Nodup->(∀x∈ks,x∈nm W)->(l.foldl (λks n=>(up W n).foldl insS ks) ks).Nodup/\∀x∈l.foldl (λks n=>(up W n).foldl insS ks) ks,x∈nm W:=by
  intro l
  induction l with
  | nil=>intro ks h1 h2;exact⟨h1,h2⟩
  | cons n l ih=>
   intro ks h1 h2
   refine ih _ (zrg h1) λx hx=>?_
   rcases zkc.mp hx with z|z
   ·exact h2 x z
   ·exact zxu h z
 obtain⟨env',lp,s3,rfl⟩:=zht (enc:=PyData.str) (g:=gN 3) (body:=sUpd 2 (zcs 0 (eVar 3))) (l:=a.parts) (env:=[.pl (.dict (dS zaw (ups W))),.pl (armD a),.ac (zaw []),.no])
  (λpre env=>∃s3,env=[.pl (.dict (dS zaw (ups W))),.pl (armD a),.ac (zaw (pre.foldl (λks n=>(up W n).foldl insS ks) [])),s3]) ⟨_,rfl⟩ (by
   rintro pre n post env hp ⟨s3,rfl⟩
   have hn:n∈nm W:=hk n (by rw[<- hp];simp)
   refine⟨[.pl (.dict (dS zaw (ups W))),.pl (armD a),.ac (zaw (pre.foldl (λks n=>(up W n).foldl insS ks) [])),.pl (.str n)],[.pl (.dict (dS zaw (ups W))),.pl (armD a),.ac (zaw ((pre++[n]).foldl (λks n=>(up W n).foldl insS ks) [])),.pl (.str n)],rfl,.inl ?_,_,rfl⟩
   ·have l1:=zxv h n
    obtain⟨n1,n2⟩:=nd pre [] qCS (by simp)
    have l2:=zjq _ _ n1 n2
    have l3:=zmd h
    have lz:(zcq (pre.foldl (λks n=>(up W n).foldl insS ks) [])).length+(zcq (up W n)).length<=100000:=by unfold zcq;rw[qD,qD];omega
    simp only[sUpd,zaw,zcs,eVar,qAJ,qAD,qF,keyD,zlh,zlj hn,qAw]
    rw[if_pos ⟨lz,by simp⟩,zjf,qB1]
    simp[frzs])
 exact zvi (env:=[.pl (.dict (dS zaw (ups W))),.pl (armD a),.no,.no]) rfl (zgp rfl (zgp (zkb (zeo (n:=1) (rs:=[⟨armD a,false,[]⟩]) rfl rfl (zph a)) lp) rfl))
theorem zyc:∀(a b:List Str),PyData.eqvAll (a.map .str) (b.map .str)=(a==b)
 | [],[]=>rfl
 | [],_::_=>rfl
 | _::_,[]=>rfl
 | x::a,y::b=>by
  show(qAf (.str x) (.str y)&&PyData.eqvAll (a.map .str) (b.map .str))=_
  rw[zyc a b]
  show((x==y)&&(a==b))=_
  rfl
noncomputable def LowS(ks:List Str):Prop:=∀k∈ks,qAv k=true
theorem zami{α:Type}{f:α->Bool}{l:List α}{a:EF}{env:DEnv}{fr:Bool}{bs:List Nat}(ha:a env=some ⟨.list (l.map λx=>.bool (f x)),fr,bs⟩):eCB (anyD λbs=>bs.any id) (zad a aNil) env=some (vb (l.any f)):=by
 unfold eCB
 rw[zta ha,qF]
 show((zit (l.map λx=>.bool (f x))).map _).bind _=_
 rw[znv]
 simp only[qAw,qF,qBs]
 rfl
theorem zaqk{a b:EF}{env:DEnv}{x y:List Str}{f1 f2:Bool}{b1 b2:List Nat}(ha:a env=some ⟨zaa x,f1,b1⟩)(hb:b env=some ⟨zaa y,f2,b2⟩)(h:x.length+y.length<=100000):eOp addD a b env=some ⟨zaa (x++y),true,b1++b2⟩:=by
 unfold eOp
 rw[ha,hb]
 show((if(x.map PyData.str).length+(y.map PyData.str).length<=100000 then some (PyData.list (x.map .str++y.map .str),true)else none).bind λz=>some (⟨z.1,z.2,bsOf z.1 (b1++b2)⟩:Val))=_
 rw[if_pos (by rw[qD,qD];exact h),<- qp]
 rfl
theorem zamj(ds:List PyData)(k:Nat):cutD ds (some (k:Int)) none=ds.drop k:=by
 unfold cutD
 have e1:HT.sIx ds.length ds.length none=ds.length:=rfl
 rw[e1,HT.sIx_nat]
 rcases Nat.le_total k ds.length with h|h
 ·rw[qCO h,qAt (by rw[qAr];exact qK _)]
 ·rw[Nat.min_eq_right h,qAR,List.drop_of_length_le h,List.take_nil]
theorem zaql{a b:EF}{env:DEnv}{i j:Int}(ha:a env=some (vi i))(hb:b env=some (vi j)):eOp gtD a b env=some (vb (decide (j<i))):=by
 unfold eOp;rw[ha,hb];rfl
noncomputable def Hd(d:PyData)(s:Sl):Prop:=s=.pl d\/s=.ac d
theorem e_hd{env:DEnv}{i:Nat}{d:PyData}{s:Sl}(h:env[i]?=some s)(hs:Hd d s):∃bs,eVar i env=some ⟨d,false,bs⟩:=by
 unfold eVar
 rw[h]
 rcases hs with rfl|rfl
 ·exact⟨_,rfl⟩
 ·exact⟨_,rfl⟩
theorem zyd{W:Web}(h:WebOk W):∀(m:Nat){x y:Str},(nm W).idxOf y<m->y∈nm W->x∈up W y->x=y\/(nm W).idxOf x<(nm W).idxOf y
 | 0,_,_,hm,_,_=>absurd hm (qBt _)
 | m+1,x,y,hm,hy,hx=>by
  rcases(zadl h hy).mp hx with rfl|⟨e,he,hxe⟩
  ·exact .inl rfl
  ·obtain⟨g1,g2⟩:=zajc h he
   rcases zyd h m (by omega) g1 hxe with rfl|hlt
   ·exact .inr g2
   ·exact .inr (by omega)
theorem zom{W:Web}(h:WebOk W){x y:Str}(hx:x∈nm W)(hy:y∈nm W)(h1:x∈up W y)(h2:y∈up W x):x=y:=by
 rcases zyd h _ (qBM _) hy h1 with e|e
 ·exact e
 ·rcases zyd h _ (qBM _) hx h2 with e'|e'
  ·exact e'.symm
  ·omega
theorem zahn{d:PyData}(s:qAn d=true):neD d d=some (.bool false,false):=by
 unfold neD eqOk
 rw[s,Bool.and_self,Bool.or_true,if_pos rfl,PySem.SeqAt.eqv_refl _ (qAs s)]
 rfl
theorem zamk{a b:EF}{env:DEnv}{d:PyData}{f1 f2:Bool}{b1 b2:List Nat}(ha:a env=some ⟨d,f1,b1⟩)(hb:b env=some ⟨d,f2,b2⟩)(s:qAn d=true):zay (eOp neD a b) env=some false:=by
 refine zhw ?_
 unfold eOp;rw[ha,hb]
 simp only[qF]
 rw[zahn s];rfl
theorem zap{a b:SFf}{env e':DEnv}(h:a env=some (.nx e')):fSeq a b env=b e':=by unfold fSeq;rw[h];rfl
theorem zaml{a b:SFf}{env e':DEnv}{d:PyData}{fr:Bool}(h:a env=some (.rt d fr e')):fSeq a b env=some (.rt d fr e'):=by unfold fSeq;rw[h];rfl
theorem zml{F:SF}{env e':DEnv}(h:F env=some (.nx e')):fS F env=some (.nx e'):=by unfold fS;rw[h];rfl
theorem zlz{i:Nat}{e:EF}{env:DEnv}{d:PyData}(h:e env=some ⟨d,false,[]⟩):sSet i e env=some (.nx (env.set i (.pl d))):=by unfold sSet;rw[h];rfl
theorem zajd{i:Nat}{e:EF}{env:DEnv}{d:PyData}(h:e env=some ⟨d,false,[]⟩):fS (sSet i e) env=some (.nx (env.set i (.pl d))):=zml (zlz h)
theorem zdi{i:Nat}{g:EFf}{env e1:DEnv}{d:PyData}(h:g env=some (⟨d,false,[]⟩,e1)):fSet i g env=some (.nx (e1.set i (.pl d))):=by unfold fSet;rw[h];rfl
theorem zadt{i:Nat}{g:EFf}{env e1:DEnv}{d:PyData}(h:g env=some (⟨d,true,[]⟩,e1)):fSet i g env=some (.nx (e1.set i (.ac d))):=by unfold fSet;rw[h];rfl
theorem zko{f:Nat}{e:EF}{env:DEnv}{d0:PyData}{r:Val}(h0:env[f]?=some (.ac d0))(h:e env=some r)(hb:f∉r.bs):zaj f e env=some (r,env):=by
 unfold zaj;rw[h0];show(e env).bind _=_;rw[h,qF,if_pos hb]
theorem zby{f:Nat}{e:EF}{env:DEnv}{d0:PyData}{d:PyData}{fr:Bool}(h0:env[f]?=some (.ac d0))(h:e env=some ⟨d,fr,[]⟩):zaj f e env=some (⟨d,fr,[]⟩,env):=zko h0 h (by simp)
theorem zmi{w:OF}{a b:EFf}{env e1 e2:DEnv}{x y:Val}{z:PyData}{fr:Bool}(ha:a env=some (x,e1))(hb:b e1=some (y,e2))(hw:w x.d y.d=some (z,fr)):fOp w a b env=some (⟨z,fr,bsOf z (x.bs++y.bs)⟩,e2):=by
 unfold fOp;rw[ha,qF,hb,qF,hw];rfl
theorem zon{c:TF}{a b:SFf}{env:DEnv}(h:c env=some true):fIfP c a b env=a env:=by unfold fIfP;rw[h];rfl
theorem zkp{c:TF}{a b:SFf}{env:DEnv}(h:c env=some false):fIfP c a b env=b env:=by unfold fIfP;rw[h];rfl
theorem zrl{f:IF'}{g:GT}{body:SFf}{env:DEnv}{ds:List PyData}{bs:List Nat}(h:f env=some (ds,bs)):fFor f g body env=zgg g body ds (frzs env bs):=by unfold fFor;rw[h];rfl
theorem zmw{f:IFf}{g:GT}{body:SFf}{env e1:DEnv}{ds:List PyData}{bs:List Nat}(h:f env=some (ds,bs,e1)):znq f g body env=zgg g body ds (frzs e1 bs):=by unfold znq;rw[h];rfl
theorem ztx{α:Type}{enc:α->PyData}{g:GT}{body:SFf}(I:List α->DEnv->Prop)(all:List α):∀(l pre:List α)(env:DEnv),pre++l=all->I pre env->
  (∀pre x post env,pre++x::post=all->I pre env->∃e1 e2,g (enc x) env=some e1/\body e1=some (.nx e2)/\I (pre++[x]) e2)->∃env',zgg g body (l.map enc) env=some (.nx env')/\I all env'
 | [],pre,env,hall,h0,hs=>by
  rw[qu]at hall
  subst hall
  exact⟨env,rfl,h0⟩
 | x::l,pre,env,hall,h0,hs=>by
  obtain⟨e1,e2,h1,h2,h3⟩:=hs pre x l env hall h0
  obtain⟨env',h4,h5⟩:=ztx I all l (pre++[x]) e2 (by rw[<- hall];simp) h3 hs
  refine⟨env',?_,h5⟩
  rw[qU]
  unfold zgg
  rw[h1,qF,h2,qF]
  exact h4
theorem zzo{α:Type}{enc:α->PyData}{g:GT}{body:SFf}{l:List α}{env:DEnv}(I:List α->DEnv->Prop)(h0:I [] env)(hs:∀pre x post env,pre++x::post=l->I pre env->∃e1 e2,g (enc x) env=some e1/\body e1=some (.nx e2)/\I (pre++[x]) e2) :
  ∃env',zgg g body (l.map enc) env=some (.nx env')/\I l env':=ztx I l l [] env rfl h0 hs
theorem zcn{g:GT}{body:SFf}{n:Nat}{env:DEnv}(I:Nat->DEnv->Prop)(h0:I 0 env)(hs:∀k env,k<n->I k env->∃e1 e2,g (.int (k:Int)) env=some e1/\body e1=some (.nx e2)/\I (k+1) e2) :
  ∃env',zgg g body (zdj 0 n) env=some (.nx env')/\I n env':=by
 rw[zadg]
 obtain⟨env',h1,h2⟩:=zzo (enc:=λ(k:Nat)=>PyData.int (k:Int)) (g:=g) (body:=body) (l:=List.range n) (env:=env) (λpre e=>I pre.length e) h0 λpre x post e hp hI=>by
  have hx:x=pre.length/\pre.length<n:=by
   have hlen:pre.length<n:=by
    have:=congrArg List.length hp
    rw[qQ,qj,qBD]at this
    omega
   have:=congrArg (λl=>l[pre.length]?) hp
   rw[qo (qK _),Nat.sub_self,qCy hlen]at this
   exact⟨qR this,hlen⟩
  obtain⟨e1,e2,q1,q2,q3⟩:=hs pre.length e hx.2 hI
  exact⟨e1,e2,by rw[hx.1];exact q1,q2,by rw[qQ];exact q3⟩
 rw[qBD]at h2
 exact⟨env',h1,h2⟩
noncomputable def Fok(d:PyData)(n:Nat):Prop:=∃g m s:Int,d=.list [.int g,.int m,.int s]/\0<=g/\0<=m/\m<2 ^ 32/\0<=s/\s<=n
theorem Fok.mono{d:PyData}{n n':Nat}(h:Fok d n)(hn:n<=n'):Fok d n':=by
 obtain⟨g,m,s,e,h1,h2,h3,h4,h5⟩:=h
 exact⟨g,m,s,e,h1,h2,h3,h4,by omega⟩
theorem Fok.flat{d:PyData}{n:Nat}(h:Fok d n):zsu d=true:=by
 obtain⟨g,m,s,rfl,_⟩:=h
 rfl
theorem zaqm{env:DEnv}{i:Nat}{d:PyData}(h:env[i]?=some (.pl d)):zow i env=some (.rt d false env):=by unfold zow;rw[h]
theorem zzp{d:PyData}{n:Nat}{m:Int}(ok:Fok d n)(hn:n<=10 ^ 12)(m0:0<m)(m1:m<1073741824):∃(r:Int)(d':PyData),zag d [.int m]=some (.int r,false,d')/\0<=r/\r<m/\Fok d' (n+1):=by
 obtain⟨g,mm,s,rfl,g0,mm0,mm1,s0,s1⟩:=ok
 have key:∀(r:Int)(d':PyData)(env:DEnv),env[0]?=some (.ac d')->zey [.ac (.list [.int g,.int mm,.int s]),.pl (.int m),.no,.no,.no]=some (.rt (.int r) false env)->zag (.list [.int g,.int mm,.int s]) [.int m]=some (.int r,false,d'):=λr d' env he h=>by
  unfold zag fnF
  show(zey [.ac (.list [.int g,.int mm,.int s]),.pl (.int m),.no,.no,.no]).bind _=_
  rw[h]
  show(match env[0]? with|some (.ac d1)=>some (PyData.int r,false,d1)|_=>none)=_
  rw[he]
 by_cases hg:0<g
 ·refine⟨g % m,.list [.int (g / m),.int mm,.int s],key _ _ [.ac (.list [.int (g / m),.int mm,.int s]),.pl (.int m),.pl (.int (g % m)),.no,.no] rfl ?_,qA2 _ (by omega),qAk _ m0,⟨g / m,mm,s,rfl,Int.ediv_nonneg g0 (by omega),mm0,mm1,s0,by omega⟩⟩
  unfold zey
  have t:zay (eOp gtD (eIxV 0 (eC (.int 0))) (eC (.int 0))) [.ac (.list [.int g,.int mm,.int s]),.pl (.int m),.no,.no,.no]=some true:=zhw (by rw[zaql (i:=g) (j:=0) (zzb (n:=0) rfl rfl rfl) rfl,decide_eq_true hg])
  have a1:sSet 2 (eOp modD (eIxV 0 (eC (.int 0))) (eVar 1)) [.ac (.list [.int g,.int mm,.int s]),.pl (.int m),.no,.no,.no]=some (.nx [.ac (.list [.int g,.int mm,.int s]),.pl (.int m),.pl (.int (g % m)),.no,.no]):=zlz (zsz (zzb (n:=0) rfl rfl rfl) rfl m0)
  have a2:zvb 0 (eC (.int 0)) (eOp zur (eIxV 0 (eC (.int 0))) (eVar 1)) [.ac (.list [.int g,.int mm,.int s]),.pl (.int m),.pl (.int (g % m)),.no,.no]=some (.nx [.ac (.list [.int (g / m),.int mm,.int s]),.pl (.int m),.pl (.int (g % m)),.no,.no]):=by
   unfold zvb
   show(Option.bind (eOp zur (eIxV 0 (eC (.int 0))) (eVar 1) _) _)=_
   rw[zaiy (i:=g) (j:=m) (zzb (n:=0) rfl rfl rfl) rfl m0 m1]
   rfl
  refine zaml ?_
  rw[zon t,zap (zml a1),zap (zml a2)]
  exact zaqm rfl
 ·have eg:g=0:=by omega
  subst eg
  have bs:(-(2:Int) ^ 64<s+1/\s+1<2 ^ 64):=by constructor<;>omega
  generalize h1:(mm+40692 * (s+1) * (s+1)+69621 * (s+1)) % 2147483647=x1
  have x10:0<=x1/\x1<2147483647:=by rw[<- h1];exact⟨qA2 _ (by decide),qAk _ (by decide)⟩
  generalize h2:(x1 * x1+39373 * x1+(s+1)) % 2147483579=x2
  have x20:0<=x2/\x2<2147483579:=by rw[<- h2];exact⟨qA2 _ (by decide),qAk _ (by decide)⟩
  generalize h3:(x2 * x2+16807 * x2) % 2147483549=x3
  have sm:∀{x:Int},0<=x/\x<2147483647->-(2:Int) ^ 64<x/\x<2 ^ 64:=λ{x} h=>by constructor<;>omega
  refine⟨x3 / 64 % m,.list [.int 0,.int mm,.int (s+1)],key _ _ [.ac (.list [.int 0,.int mm,.int (s+1)]),.pl (.int m),.no,.pl (.int (s+1)),.pl (.int x3)] rfl ?_,qA2 _ (by omega),qAk _ m0,⟨0,mm,s+1,rfl,by omega,mm0,mm1,by omega,by omega⟩⟩
  unfold zey
  have t:zay (eOp gtD (eIxV 0 (eC (.int 0))) (eC (.int 0))) [.ac (.list [.int 0,.int mm,.int s]),.pl (.int m),.no,.no,.no]=some false:=zhw (by rw[zaql (i:=0) (j:=0) (zzb (n:=0) rfl rfl rfl) rfl];rfl)
  have a1:sSet 3 (eOp addD (eIxV 0 (eC (.int 2))) (eC (.int 1))) [.ac (.list [.int 0,.int mm,.int s]),.pl (.int m),.no,.no,.no]=some (.nx [.ac (.list [.int 0,.int mm,.int s]),.pl (.int m),.no,.pl (.int (s+1)),.no]):=zlz (zkd (zzb (n:=2) rfl rfl rfl) rfl)
  have a2:zvb 0 (eC (.int 2)) (eVar 3) [.ac (.list [.int 0,.int mm,.int s]),.pl (.int m),.no,.pl (.int (s+1)),.no]=some (.nx [.ac (.list [.int 0,.int mm,.int (s+1)]),.pl (.int m),.no,.pl (.int (s+1)),.no]):=rfl
  have a3:sSet 4 (eOp modD (eOp addD (eOp addD (eIxV 0 (eC (.int 1))) (eOp mulD (eOp mulD (eC (.int 40692)) (eVar 3)) (eVar 3))) (eOp mulD (eC (.int 69621)) (eVar 3))) (eC (.int 2147483647))) [.ac (.list [.int 0,.int mm,.int (s+1)]),.pl (.int m),.no,.pl (.int (s+1)),.no]=some (.nx [.ac (.list [.int 0,.int mm,.int (s+1)]),.pl (.int m),.no,.pl (.int (s+1)),.pl (.int x1)]):=by
   rw[<- h1]
   exact zlz (zsz (zkd (zkd (zzb (n:=1) rfl rfl rfl) (zox (zox rfl rfl (.inr bs)) rfl (.inr bs))) (zox rfl rfl (.inr bs))) rfl (by decide))
  have a4:sSet 4 (eOp modD (eOp addD (eOp addD (eOp mulD (eVar 4) (eVar 4)) (eOp mulD (eC (.int 39373)) (eVar 4))) (eVar 3)) (eC (.int 2147483579))) [.ac (.list [.int 0,.int mm,.int (s+1)]),.pl (.int m),.no,.pl (.int (s+1)),.pl (.int x1)]=some (.nx [.ac (.list [.int 0,.int mm,.int (s+1)]),.pl (.int m),.no,.pl (.int (s+1)),.pl (.int x2)]):=by
   rw[<- h2]
   exact zlz (zsz (zkd (zkd (zox rfl rfl (.inr (sm x10))) (zox rfl rfl (.inr (sm x10)))) rfl) rfl (by decide))
  have a5:sSet 4 (eOp modD (eOp addD (eOp mulD (eVar 4) (eVar 4)) (eOp mulD (eC (.int 16807)) (eVar 4))) (eC (.int 2147483549))) [.ac (.list [.int 0,.int mm,.int (s+1)]),.pl (.int m),.no,.pl (.int (s+1)),.pl (.int x2)]=some (.nx [.ac (.list [.int 0,.int mm,.int (s+1)]),.pl (.int m),.no,.pl (.int (s+1)),.pl (.int x3)]):=by
   rw[<- h3]
   have:=sm (x:=x2) ⟨x20.1,by omega⟩
   exact zlz (zsz (zkd (zox rfl rfl (.inr this)) (zox rfl rfl (.inr this))) rfl (by decide))
  rw[zap (zkp t),zap (zml a1),zap (zml a2),zap (zml a3),zap (zml a4),zap (zml a5)]
  unfold zhs
  rw[zsz (i:=x3 / 64) (j:=m) (zaiy (i:=x3) (j:=64) rfl rfl (by decide) (by decide)) rfl m0]
  rfl
theorem zfq{f n:Nat}{g:GE}{a:AFf}{env e1:DEnv}{d0 d1 d':PyData}{rs:List Val}{z:PyData}{fr:Bool}(h0:env[f]?=some (.ac d0))(ha:a env=some (rs,e1))(h1:e1[f]?=some (.ac d1))(hl:rs.length+1=n)(hg:g d1 (zft rs)=some (z,fr,d'))(hf:zsu d'=true) :
  zam f n g a env=some (⟨z,fr,bsOf z (bss rs)⟩,(frzs e1 (bss rs)).set f (.ac d')):=by
 unfold zam
 rw[h0]
 show(a env).bind _=_
 rw[ha,qF]
 show(match e1[f]? with|some (.ac d0)=>_|_=>none)=_
 rw[h1]
 show(if rs.length+1=n then _ else none)=_
 rw[if_pos hl,hg,qF,if_pos hf]
theorem ziz{f:Nat}{x:EFf}{env e1:DEnv}{r:Val}{d:PyData}(hx:x env=some (r,e1))(h1:e1[f]?=some (.ac d)):zal x (fNil f) env=some ([r],e1):=by
 unfold zal
 rw[hx,qF]
 show(fNil f e1).map _=_
 unfold fNil
 rw[h1];rfl
theorem zaho{f:Nat}{x:EFf}{env e1:DEnv}{d0 d:PyData}{n:Nat}{m:Int}(h0:env[f]?=some (.ac d0))(hx:x env=some (vi m,e1))(h1:e1[f]?=some (.ac d))(ok:Fok d n)(hn:n<=10 ^ 12)(m0:0<m)(m1:m<1073741824) :
  ∃(r:Int)(d':PyData),zam f 2 zag (zal x (fNil f)) env=some (vi r,e1.set f (.ac d'))/\0<=r/\r<m/\Fok d' (n+1):=by
 obtain⟨r,d',q1,q2,q3,q4⟩:=zzp ok hn m0 m1
 exact⟨r,d',zfq h0 (ziz hx h1) h1 rfl q1 q4.flat,q2,q3,q4⟩
theorem zcy{f:Nat}{e:EF}{env:DEnv}{d:PyData}{n:Nat}{m:Int}(h0:env[f]?=some (.ac d))(he:e env=some (vi m))(ok:Fok d n)(hn:n<=10 ^ 12)(m0:0<m)(m1:m<1073741824) :
  ∃(r:Int)(d':PyData),zam f 2 zag (zal (zaj f e) (fNil f)) env=some (vi r,env.set f (.ac d'))/\0<=r/\r<m/\Fok d' (n+1):=zaho h0 (zby h0 he) h0 ok hn m0 m1
theorem zmx{e:EF}{env:DEnv}{n:Nat}(h:e env=some (vi (n:Int)))(hn:n<2 ^ 62):zfg (zad e aNil) env=some (zdj 0 n,[]):=by
 unfold zfg
 rw[zta h,qF]
 show(if -(2 ^ 62)<=(n:Int)/\(n:Int)<2 ^ 62 then some (zdj 0 (n:Int).toNat,[])else none)=_
 rw[if_pos ⟨by omega,by omega⟩,qAm]
theorem zadu(x:Str)(a b:Nat)(hb:b<=x.length):(((List.range (b - a)).map λk=>a+k).filterMap (x.cps[·]?)).length=b - a:=by
 have:((List.range (b - a)).map λk=>a+k).filterMap (x.cps[·]?)=((List.range (b - a)).map λk=>a+k).map λi=>x.cps[i]?.getD 0:=by
  have g:∀l:List Nat,(∀i∈l,i<x.cps.size)->l.filterMap (x.cps[·]?)=l.map λi=>x.cps[i]?.getD 0:=by
   intro l
   induction l with
   | nil=>intro _;rfl
   | cons i l ih=>
    intro h
    have hi:=h i qW
    rw[qBR,qA5 hi,qU,ih λj hj=>h j (qJ _ hj),qA5 hi]
    rfl
  refine g _ λi hi=>?_
  obtain⟨k,hk,rfl⟩:=qm.mp hi
  have hk:=qA6.mp hk
  have:x.length=x.cps.size:=rfl
  omega
 rw[this,qD,qD,qBD]
theorem zamm(n a:Nat):Builtin.Str.strSliceIndices none (some (a:Int)) 1 n=(List.range (min a n - 0)).map λk=>0+k:=by
 unfold Builtin.Str.strSliceIndices sliceRange
 simp only[show(1:Int) > 0 by decide,if_true]
 rw[if_neg (show ¬((a:Int)<0) by omega)]
 have e:(max 0 (min (a:Int) (n:Int)))=((min a n:Nat):Int):=by omega
 rw[e]
 by_cases h:(0:Int)<((min a n:Nat):Int)
 ·rw[if_pos h]
  have e2:((((min a n:Nat):Int) - 0+1 - 1) / 1).toNat=min a n - 0:=by rw[qCu];omega
  rw[e2]
  exact qAo λk _=>by omega
 ·rw[if_neg h]
  have e2:min a n - 0=0:=by omega
  rw[e2];rfl
theorem zamn(n a:Nat):Builtin.Str.strSliceIndices (some (a:Int)) none 1 n=(List.range (n - min a n)).map λk=>min a n+k:=by
 unfold Builtin.Str.strSliceIndices sliceRange
 simp only[show(1:Int) > 0 by decide,if_true]
 rw[if_neg (show ¬((a:Int)<0) by omega)]
 have e:(max 0 (min (a:Int) (n:Int)))=((min a n:Nat):Int):=by omega
 rw[e]
 by_cases h:((min a n:Nat):Int)<(n:Int)
 ·rw[if_pos h]
  have e2:(((n:Int) - ((min a n:Nat):Int)+1 - 1) / 1).toNat=n - min a n:=by rw[qCu];omega
  rw[e2]
  exact qAo λk _=>by omega
 ·rw[if_neg h]
  have e2:n - min a n=0:=by omega
  rw[e2];rfl
theorem zoo(x:Str)(a:Nat):(Txt.slice x none (some (a:Int))).length=min a x.length:=by
 unfold Txt.slice
 rw[zamm]
 split
 ·rename_i h
  rw[q9,beq_iff_eq,beq_iff_eq,qD,qBD]at h
  omega
 ·show(List.filterMap _ _).toArray.size=_
  rw[qO,zadu x 0 (min a x.length) (by omega)];omega
theorem zwd(x:Str)(a:Nat):(Txt.slice x (some (a:Int)) none).length=x.length - min a x.length:=by
 unfold Txt.slice
 rw[zamn]
 split
 ·rename_i h
  rw[q9,beq_iff_eq,beq_iff_eq,qD,qBD]at h
  omega
 ·show(List.filterMap _ _).toArray.size=_
  rw[qO,zadu x (min a x.length) x.length (by omega)]
theorem zrm(x:Str):x.cps.toList.length=x.length:=rfl
noncomputable def zmm(b:Str)(a:Nat)(i:Int):Str:=Txt.slice b none (some (a:Int))++ltr i++Txt.slice b (some (a:Int)) none
theorem zadv{b c:Str}{a:Nat}{i j:Int}(hi:0<=i)(hj:0<=j)(h:zmm b a i=zmm c a j):i=j:=by
 unfold zmm at h
 have l1:∀k,(ltr k).length=1:=λ_=>rfl
 have hl:=congrArg Str.length h
 rw[zli,zli,zli,zli,l1,l1,zoo,zoo,zwd,zwd]at hl
 have q:=congrArg (λx:Str=>x.cps.toList) h
 simp only[zri,qBE]at q
 have q2:=(List.append_inj q (by rw[zrm,zrm,zoo,zoo];omega)).2
 have q3:=(List.append_inj q2 (by rw[zrm,zrm];rfl)).1
 exact zamc hi hj (by unfold ltr at q3 ⊢;congr 1;exact Array.toList_inj.mp q3)
theorem zadw{b:Str}{a:Nat}{i:Int}(h:Low b)(h0:0<=i)(h1:i<26):Low (zmm b a i):=((h.slice _ _).app (Low.ltr h0 h1)).app (h.slice _ _)
theorem zaqn:∀st∈([1,3,5,7,9,11,15,17,19,21,23,25]:List Nat),∀a<16,∀b<16,st * a % 26=st * b % 26->a=b:=by decide +kernel
noncomputable def zty:List Nat:=[1,3,5,7,9,11,15,17,19,21,23,25]
theorem zadx{o:Int}{st:Nat}(hs:st∈zty){a b:Nat}(ha:a<16)(hb:b<16)(h:(o+st * a) % 26=(o+st * b) % 26):a=b:=by
 have h2:=Int.emod_add_cancel_left.mp h
 exact zaqn st hs a ha b hb (by exact_mod_cast h2)
theorem zaje{i:Int}(h0:0<=i)(h1:i<26):ixD (.str abc) (.int i)=some (.str (ltr i),false):=by
 show(if abc.length<=100000 then(atI abc.cps.toList i).map λc=>(PyData.str ⟨#[c]⟩,false)else none)=_
 rw[if_pos (by rw[zame];decide),zaqg h0 h1];rfl
theorem zkq{d:PyData}{n m:Nat}(ok:Fok d n)(hn:n+100<=10 ^ 12)(hm:m<=8):∃(w:Str)(d':PyData),zbj d [.int (m:Int)]=some (.str w,false,d')/\w.length=m/\Low w/\Fok d' (n+m):=by
 have loop:∃env',zgg (gN 3) (fSet 2 (fOp addD (zaj 0 (eVar 2)) (fOp ixD (zaj 0 (eC (.str abc))) (zam 0 2 zag (zal (zaj 0 (eC (.int 26))) (fNil 0)))))) (zdj 0 m) [.ac d,.pl (.int (m:Int)),.pl (.str ""),.no]=some (.nx env')/\
   ∃(w:Str)(d':PyData)(s:Sl),env'=[.ac d',.pl (.int (m:Int)),.pl (.str w),s]/\w.length=m/\Low w/\Fok d' (n+m):=by
  refine zcn (λk env=>∃(w:Str)(d':PyData)(s:Sl),env=[.ac d',.pl (.int (m:Int)),.pl (.str w),s]/\w.length=k/\Low w/\Fok d' (n+k)) ⟨"",d,.no,rfl,rfl,(λc hc=>nomatch hc),ok⟩ ?_
  rintro k env hk ⟨w,d1,s,rfl,hw,lw,ok1⟩
  obtain⟨r,d2,q1,q2,q3,q4⟩:=zcy (f:=0) (e:=eC (.int 26)) (env:=[.ac d1,.pl (.int (m:Int)),.pl (.str w),.pl (.int (k:Int))]) rfl rfl ok1 (by omega) (by decide) (by decide)
  refine⟨_,[.ac d2,.pl (.int (m:Int)),.pl (.str (w++ltr r)),.pl (.int (k:Int))],rfl,?_,w++ltr r,d2,_,rfl,by rw[zli,hw];rfl,lw.app (Low.ltr q2 q3),q4⟩
  have a1:=zmi (zby (f:=0) (e:=eC (.str abc)) (env:=[.ac d1,.pl (.int (m:Int)),.pl (.str w),.pl (.int (k:Int))]) (d0:=d1) rfl rfl) q1 (zaje q2 q3)
  have a2:=zmi (w:=addD) (zby (f:=0) (e:=eVar 2) (env:=[.ac d1,.pl (.int (m:Int)),.pl (.str w),.pl (.int (k:Int))]) (d0:=d1) rfl rfl) a1 (z:=.str (w++ltr r)) (fr:=false) (by
   show(if w.length+(ltr r).length<=100000 then some (PyData.str (w++ltr r),false)else none)=_
   rw[if_pos (by rw[hw];show k+1<=100000;omega)])
  exact zdi a2
 obtain⟨env',h1,w,d',s,rfl,h2,h3,h4⟩:=loop
 refine⟨w,d',?_,h2,h3,h4⟩
 have run:zdu [.ac d,.pl (.int (m:Int)),.no,.no]=some (.rt (.str w) false [.ac d',.pl (.int (m:Int)),.pl (.str w),s]):=by
  unfold zdu
  rw[zap (zajd (d:=.str "") rfl)]
  have e:fFor (zfg (zad (eVar 1) aNil)) (gN 3) (fSet 2 (fOp addD (zaj 0 (eVar 2)) (fOp ixD (zaj 0 (eC (.str "abcdefghijklmnopqrstuvwxyz"))) (zam 0 2 zag (zal (zaj 0 (eC (.int 26))) (fNil 0)))))) [.ac d,.pl (.int (m:Int)),.pl (.str ""),.no]=some (.nx [.ac d',.pl (.int (m:Int)),.pl (.str w),s]):=by
   rw[zrl (zmx (n:=m) rfl (by omega))]
   exact h1
  exact(zap e).trans (zaqm rfl)
 unfold zbj fnF
 show(zdu [.ac d,.pl (.int (m:Int)),.no,.no]).bind _=_
 rw[run];rfl
theorem zajf{w:OF}{a b:EF}{env:DEnv}{x y:Val}{z:PyData}{fr:Bool}(ha:a env=some x)(hb:b env=some y)(hw:w x.d y.d=some (z,fr)):eOp w a b env=some ⟨z,fr,bsOf z (x.bs++y.bs)⟩:=by
 unfold eOp;rw[ha,qF,hb,qF,hw];rfl
theorem zma{i:Nat}{g:EFf}{env e1:DEnv}{ds:List PyData}{ds0:List PyData}{d:PyData}{fr:Bool}{bs:List Nat}(h0:env[i]?=some (.ac (.list ds0)))(hg:g env=some (⟨d,fr,bs⟩,e1))(h1:e1[i]?=some (.ac (.list ds)))(hl:ds.length<100000)(hi:i∉bs) :
  fApp i g env=some (.nx ((frzs e1 bs).set i (.ac (.list (ds++[d]))))):=by
 unfold fApp
 rw[h0]
 show(g env).bind _=_
 rw[hg,qF]
 show(match e1[i]? with|some (.ac (.list es))=>_|_=>none)=_
 rw[h1]
 show(if ds.length<100000/\i∉bs then _ else none)=_
 rw[if_pos ⟨hl,hi⟩]
theorem at4{r:Int}(h0:0<=r)(h1:r<4):∃sz:Nat,ixD (.list [.int 0,.int 1,.int 2,.int 7]) (.int r)=some (.int (sz:Int),false)/\sz<=7:=by
 have:r=0\/r=1\/r=2\/r=3:=by omega
 rcases this with rfl|rfl|rfl|rfl
 ·exact⟨0,rfl,by decide⟩
 ·exact⟨1,rfl,by decide⟩
 ·exact⟨2,rfl,by decide⟩
 ·exact⟨7,rfl,by decide⟩
theorem zady{α:Type}(f:α->PyData){l:List α}{n:Nat}{x:α}(h:l[n]?=some x):ixD (.list (l.map f)) (.int (n:Int))=some (f x,false):=by
 show(atI (l.map f) (n:Int)).map _=_
 rw[zaqe f h];rfl
theorem at12{r:Int}(h0:0<=r)(h1:r<12):∃st:Nat,ixD (.list [.int 1,.int 3,.int 5,.int 7,.int 9,.int 11,.int 15,.int 17,.int 19,.int 21,.int 23,.int 25]) (.int r)=some (.int (st:Int),false)/\st∈zty:=by
 have hl:r.toNat<zty.length:=by show r.toNat<12;omega
 have:=zady (λ(k:Nat)=>PyData.int (k:Int)) (qG hl)
 rw[show((r.toNat:Nat):Int)=r by omega]at this
 exact⟨_,this,qBI hl⟩
theorem zop{neg:Bool}{i j:Nat}{env:DEnv}{x:Str}{xs:List Str}{s:Sl}(hi:env[i]?=some (.pl (.str x)))(hj:env[j]?=some s)(hs:Hd (zaa xs) s):zay (eOp (inD neg) (eVar i) (eVar j)) env=some (if neg then !decide (x∈xs)else decide (x∈xs)):=by
 obtain⟨bs,e⟩:=e_hd hj hs
 have ei:eVar i env=some (vs x):=by unfold eVar;rw[hi]
 exact zhw (zajf ei e (zvj neg xs x))
theorem zkr{a:EFf}{f:Nat}{env e1:DEnv}{d:PyData}{n:Nat}(h:a env=some (vi (n:Int),e1))(h1:e1[f]?=some (.ac d))(hn:n<2 ^ 62):zdp (zal a (fNil f)) env=some (zdj 0 n,[],e1):=by
 unfold zdp
 rw[ziz h h1,qF]
 show(if -(2 ^ 62)<=(n:Int)/\(n:Int)<2 ^ 62 then some (zdj 0 (n:Int).toNat,[],e1)else none)=_
 rw[if_pos ⟨by omega,by omega⟩,qAm]
theorem zhc{a:EFf}{r:AFf}{env e1 e2:DEnv}{x:Val}{xs:List Val}(h:a env=some (x,e1))(h2:r e1=some (xs,e2)):zal a r env=some (x::xs,e2):=by
 unfold zal;rw[h,qF];show(r e1).map _=_;rw[h2];rfl
theorem zamo{f:Nat}{env:DEnv}{d:PyData}(h:env[f]?=some (.ac d)):fNil f env=some ([],env):=by unfold fNil;rw[h]
theorem zzq{xs:List Str}{k:Nat}{D2:Sl}(hk:0<k)(hkx:k<xs.length)(hx:xs.length<=12)(lo:∀x∈xs,Low x){m:Nat}(hm:m<=4){d:PyData}{n:Nat}(ok:Fok d n)(hn:n+1000<=10 ^ 12){s5 s6:Sl} :
  ∃env',zgg (gN 5) (fSeq (fSet 6 (fOp ixD (zaj 0 (eVar 1)) (zam 0 2 zag (zal (zaj 0 (eVar 3)) (fNil 0)))))
   (fIfP (zay (eOp (inD true) (eVar 6) (eVar 4))) (fApp 4 (zaj 0 (eVar 6))) fNx)) (zdj 0 m) [.ac d,.pl (zaa xs),D2,.pl (.int (k:Int)),.ac (zaa []),s5,s6]=some (.nx env')/\
   ∃(es:List Str)(d':PyData)(s5 s6:Sl),env'=[.ac d',.pl (zaa xs),D2,.pl (.int (k:Int)),.ac (zaa es),s5,s6]/\(∀e∈es,e∈xs.take k)/\es.length<=m/\Fok d' (n+m):=by
 refine zcn (λj env=>∃(es:List Str)(d':PyData)(s5 s6:Sl),env=[.ac d',.pl (zaa xs),D2,.pl (.int (k:Int)),.ac (zaa es),s5,s6]/\(∀e∈es,e∈xs.take k)/\es.length<=j/\Fok d' (n+j)) ⟨[],d,s5,s6,rfl,(λe he=>nomatch he),qK _,ok⟩ ?_
 rintro j env hj ⟨es,d1,s5,s6,rfl,he,hl,ok1⟩
 obtain⟨r,d2,q1,q2,q3,q4⟩:=zcy (f:=0) (e:=eVar 3) (env:=[.ac d1,.pl (zaa xs),D2,.pl (.int (k:Int)),.ac (zaa es),.pl (.int (j:Int)),s6]) rfl rfl ok1 (by omega) (by omega) (by omega)
 have hr:r.toNat<xs.length:=by omega
 have ix:=zady PyData.str (qG hr)
 rw[show((r.toNat:Nat):Int)=r by omega]at ix
 have hm:xs[r.toNat]∈xs.take k:=qCT.mpr ⟨r.toNat,by omega,rfl⟩
 generalize xs[r.toNat]=w at ix hm
 have s1:fSet 6 (fOp ixD (zaj 0 (eVar 1)) (zam 0 2 zag (zal (zaj 0 (eVar 3)) (fNil 0)))) [.ac d1,.pl (zaa xs),D2,.pl (.int (k:Int)),.ac (zaa es),.pl (.int (j:Int)),s6]=some (.nx [.ac d2,.pl (zaa xs),D2,.pl (.int (k:Int)),.ac (zaa es),.pl (.int (j:Int)),.pl (.str w)]):=
  zdi (zmi (zby (f:=0) (e:=eVar 1) (d0:=d1) (d:=zaa xs) (fr:=false) rfl rfl) q1 ix)
 have t:=zop (neg:=true) (i:=6) (j:=4) (env:=[.ac d2,.pl (zaa xs),D2,.pl (.int (k:Int)),.ac (zaa es),.pl (.int (j:Int)),.pl (.str w)]) (x:=w) (xs:=es) rfl rfl (.inr rfl)
 by_cases hin:w∈es
 ·refine⟨_,_,rfl,(zap s1).trans (zkp (by rw[t];simp[hin])),es,d2,_,_,rfl,he,by omega,q4⟩
 ·refine⟨_,[.ac d2,.pl (zaa xs),D2,.pl (.int (k:Int)),.ac (zaa (es++[w])),.pl (.int (j:Int)),.pl (.str w)],rfl,(zap s1).trans ((zon (by rw[t];simp[hin])).trans ?_),es++[w],d2,_,_,rfl,λe hm'=>?_,by rw[qQ];simp;omega,q4⟩
  ·rw[zma rfl (zby (f:=0) (e:=eVar 6) (d0:=d2) (d:=.str w) (fr:=false) rfl rfl) rfl (by rw[qD];omega) (by simp)]
   show some (OutF.nx [.ac d2,.pl (zaa xs),D2,.pl (.int (k:Int)),.ac (.list (es.map .str++[.str w])),.pl (.int (j:Int)),.pl (.str w)])=_
   unfold zaa
   rw[qp];rfl
  ·rcases qh.mp hm' with z|z
   ·exact he e z
   ·rw[qc.mp z];exact hm
theorem zzr{d:PyData}{n:Nat}{xs:List Str}(ok:Fok d n)(hn:n+10000<=10 ^ 12)(hx:xs.length<=12)(nd:xs.Nodup)(lo:∀x∈xs,Low x):∃(W:Web)(d':PyData),zek d [zaa xs]=some (webD W,true,d')/\nm W=xs/\WebOk W/\Fok d' (n+1000):=by
 have loop:∃env',zgg (gN 3) (fSeq (fS (sSet 4 (eLst aNil)))
  (fSeq (znq (zdp (zal (fCB minD (zal (zaj 0 (eVar 3)) (zal (zam 0 2 zag (zal (zaj 0 (eC (.int 5))) (fNil 0))) (fNil 0)))) (fNil 0))) (gN 5)
  (fSeq (fSet 6 (fOp ixD (zaj 0 (eVar 1)) (zam 0 2 zag (zal (zaj 0 (eVar 3)) (fNil 0)))))
  (fIfP (zay (eOp (inD true) (eVar 6) (eVar 4))) (fApp 4 (zaj 0 (eVar 6))) fNx)))
  (fApp 2 (zaj 0 (eTup (zad (eIxV 1 (eVar 3)) (zad (eVar 4) aNil))))))) (zdj 0 xs.length) [.ac d,.pl (zaa xs),.ac (webD []),.no,.no,.no,.no]=some (.nx env')/\
  ∃(W:Web)(d':PyData)(s3 s4 s5 s6:Sl),env'=[.ac d',.pl (zaa xs),.ac (webD W),s3,s4,s5,s6]/\nm W=xs.take xs.length/\WebOk W/\Fok d' (n+10 * xs.length):=by
  refine zcn (λk env=>∃(W:Web)(d':PyData)(s3 s4 s5 s6:Sl),env=[.ac d',.pl (zaa xs),.ac (webD W),s3,s4,s5,s6]/\nm W=xs.take k/\WebOk W/\Fok d' (n+10 * k)) ⟨[],d,_,_,_,_,rfl,rfl,zadh,ok⟩ ?_
  rintro k env hk ⟨W,d1,s3,s4,s5,s6,rfl,hW,wok,ok1⟩
  have Wl:W.length=k:=by have:=congrArg List.length hW;unfold nm at this;rw[qD,qAd]at this;omega
  have e0:fS (sSet 4 (eLst aNil)) [.ac d1,.pl (zaa xs),.ac (webD W),.pl (.int (k:Int)),s4,s5,s6]=some (.nx [.ac d1,.pl (zaa xs),.ac (webD W),.pl (.int (k:Int)),.ac (zaa []),s5,s6]):=rfl
  obtain⟨t,d2,q1,q2,q3,q4⟩:=zcy (f:=0) (e:=eC (.int 5)) (env:=[.ac d1,.pl (zaa xs),.ac (webD W),.pl (.int (k:Int)),.ac (zaa []),s5,s6]) rfl rfl ok1 (by omega) (by decide) (by decide)
  have mn:∃m:Nat,(if t<(k:Int)then t else(k:Int))=(m:Int)/\m<=4/\m<=k:=by
   by_cases h:t<(k:Int)
   ·exact⟨t.toNat,by rw[if_pos h];omega,by omega,by omega⟩
   ·exact⟨k,by rw[if_neg h],by omega,qK _⟩
  obtain⟨m,em,m4,mk⟩:=mn
  have e1:fCB minD (zal (zaj 0 (eVar 3)) (zal (zam 0 2 zag (zal (zaj 0 (eC (.int 5))) (fNil 0))) (fNil 0))) [.ac d1,.pl (zaa xs),.ac (webD W),.pl (.int (k:Int)),.ac (zaa []),s5,s6]=some (vi (m:Int),[.ac d2,.pl (zaa xs),.ac (webD W),.pl (.int (k:Int)),.ac (zaa []),s5,s6]):=by
   unfold fCB
   rw[zhc (zby (f:=0) (e:=eVar 3) (d0:=d1) (d:=.int (k:Int)) (fr:=false) rfl rfl) (zhc q1 (zamo rfl)),qF]
   show((some (PyData.int (if t<(k:Int)then t else(k:Int)),false)).bind _)=_
   rw[em];rfl
  have inner:∃(es:List Str)(d3:PyData)(s5' s6':Sl),znq (zdp (zal (fCB minD (zal (zaj 0 (eVar 3)) (zal (zam 0 2 zag (zal (zaj 0 (eC (.int 5))) (fNil 0))) (fNil 0)))) (fNil 0))) (gN 5)
    (fSeq (fSet 6 (fOp ixD (zaj 0 (eVar 1)) (zam 0 2 zag (zal (zaj 0 (eVar 3)) (fNil 0)))))
    (fIfP (zay (eOp (inD true) (eVar 6) (eVar 4))) (fApp 4 (zaj 0 (eVar 6))) fNx)) [.ac d1,.pl (zaa xs),.ac (webD W),.pl (.int (k:Int)),.ac (zaa []),s5,s6]=some (.nx [.ac d3,.pl (zaa xs),.ac (webD W),.pl (.int (k:Int)),.ac (zaa es),s5',s6'])/\(∀e∈es,e∈xs.take k)/\es.length<=4/\Fok d3 (n+10 * k+9):=by
   rw[zmw (zkr (f:=0) e1 rfl (by omega))]
   by_cases h0:m=0
   ·subst h0
    exact⟨[],d2,_,_,rfl,(λe he=>nomatch he),by simp,q4.mono (by omega)⟩
   ·obtain⟨env',h1,es,d3,s5',s6',rfl,h2,h3,h4⟩:=zzq (D2:=.ac (webD W)) (k:=k) (by omega) hk hx lo m4 q4 (by omega) (s5:=s5) (s6:=s6)
    exact⟨es,d3,s5',s6',h1,h2,by omega,h4.mono (by omega)⟩
  obtain⟨es,d3,s5',s6',h1,h2,h3,h4⟩:=inner
  have hget:xs[k]?=some xs[k]:=qG hk
  have e2:eTup (zad (eIxV 1 (eVar 3)) (zad (eVar 4) aNil)) [.ac d3,.pl (zaa xs),.ac (webD W),.pl (.int (k:Int)),.ac (zaa es),s5',s6']=some ⟨rowD (xs[k],es),false,[4]⟩:=by
   have ei:eIxV 1 (eVar 3) [.ac d3,.pl (zaa xs),.ac (webD W),.pl (.int (k:Int)),.ac (zaa es),s5',s6']=some (vs xs[k]):=zaqf rfl rfl (by rw[qV,hget];rfl)
   unfold eTup zad
   rw[ei];rfl
  refine⟨_,[.ac d3,.pl (zaa xs),.ac (webD (W++[(xs[k],es)])),.pl (.int (k:Int)),.pl (zaa es),s5',s6'],rfl,(zap e0).trans ((zap h1).trans ?_),W++[(xs[k],es)],d3,_,_,_,_,rfl,?_,?_,h4.mono (by omega)⟩
  ·rw[zma rfl (zko (f:=0) (d0:=d3) rfl e2 (show(0:Nat)∉[4] by decide)) rfl (by rw[qD];omega) (by decide)]
   show some (OutF.nx [.ac d3,.pl (zaa xs),.ac (.list (W.map rowD++[rowD (xs[k],es)])),.pl (.int (k:Int)),.pl (zaa es),s5',s6'])=_
   unfold webD
   rw[qp];rfl
  ·rw[zlf,hW,List.take_succ,hget];rfl
  ·refine zadi wok ?_ (by rw[hW];exact h2) h3 (by omega)
   rw[hW]
   intro z
   obtain⟨i,hi,e⟩:=qCT.mp z
   have:=zaqh nd (i:=i) (j:=k) e
   omega
 obtain⟨env',h1,W,d',s3,s4,s5,s6,rfl,h2,h3,h4⟩:=loop
 refine⟨W,d',?_,by rw[h2,qBj],h3,h4.mono (by omega)⟩
 have run:zhx [.ac d,.pl (zaa xs),.no,.no,.no,.no,.no]=some (.rt (webD W) true [.ac d',.pl (zaa xs),.no,s3,s4,s5,s6]):=by
  unfold zhx
  refine(zap (show fS (sSet 2 (eLst aNil)) [.ac d,.pl (zaa xs),.no,.no,.no,.no,.no]=some (.nx [.ac d,.pl (zaa xs),.ac (webD []),.no,.no,.no,.no])from rfl)).trans ?_
  have it:zfg (zad (eCB lenD (zad (eVar 1) aNil)) aNil) [.ac d,.pl (zaa xs),.ac (webD []),.no,.no,.no,.no]=some (zdj 0 xs.length,[]):=zmx (by rw[ztb (ds:=xs.map .str) (fr:=false) (bs:=[]) rfl,qD]) (by omega)
  exact(zap ((zrl it).trans h1)).trans rfl
 unfold zek fnF
 show(zhx [.ac d,.pl (zaa xs),.no,.no,.no,.no,.no]).bind _=_
 rw[run];rfl
noncomputable def tabW(W V:Web):List (Str×List Str):=V.map λp=>(p.1,hdg W p.1)
theorem zahp(W V:Web):(tabW W V).map (·.1)=nm V:=by unfold tabW nm;rw[qAQ];rfl
theorem zwe{W:Web}:∀{V:Web}{n:Str},n∈nm V->(tabW W V).lookup n=some (hdg W n)
 | [],n,h=>by cases h
 | p::V,n,h=>by
  show List.lookup n ((p.1,hdg W p.1)::tabW W V)=_
  rw[ql]
  by_cases e:n=p.1
  ·subst e;rw[beq_self_eq_true]
  ·rw[beq_eq_false_iff_ne.mpr e]
   exact zwe (V:=V) (by
    unfold nm at h ⊢
    rcases qX.mp h with z|z
    ·exact absurd z e
    ·exact z)
theorem zwf{W:Web}(h:WebOk W):zdz [webD W]=some (.dict (dS zaa (tabW W W)),true):=by
 have hl:=h.len
 have outer:∃env',forL (gT 2 (zbg 2 (zbg 3 zgd))) (sSeq (sSet 4 (eLst (zad (eVar 2) aNil)))
  (sSeq (sFor (zax (eVar 3)) (gN 5)
  (sSet 4 (eOp addD (eVar 4) (zcs 1 (eVar 5)))))
  (sPut 1 (eVar 2) (zdy ["_law_other","_law_rest"] [4] (zax (eVar 0)) (gT 2 (zbg 0 (zbg 1 zgd))) (zay (eOp (inD false) (eVar 0) (eVar 2))) (eVar 0))))) (W.map rowD) [.pl (webD W),.ac (.dict (dS zaa (tabW W []))),.no,.no,.no,.no]=some (.nx env')/\∃s2 s3 s4 s5,env'=[.pl (webD W),.ac (.dict (dS zaa (tabW W W))),s2,s3,s4,s5]:=by
  refine zht (λpre env=>∃s2 s3 s4 s5,env=[.pl (webD W),.ac (.dict (dS zaa (tabW W pre))),s2,s3,s4,s5]) ⟨_,_,_,_,rfl⟩ ?_
  rintro pre p post env hp ⟨s2,s3,s4,s5,rfl⟩
  have hV:WebOk (pre++[p]):=zsy (post:=post) (by rw[<- zxw hp];exact h)
  obtain⟨hV',hn,hel,hfew⟩:=zex hV
  have pm:(p.1,p.2)∈W:=by rw[<- hp];simp
  have e1:sSet 4 (eLst (zad (eVar 2) aNil)) [.pl (webD W),.ac (.dict (dS zaa (tabW W pre))),.pl (.str p.1),.pl (zaa p.2),s4,s5]=some (.nx [.pl (webD W),.ac (.dict (dS zaa (tabW W pre))),.pl (.str p.1),.pl (zaa p.2),.ac (zaa [p.1]),s5]):=rfl
  have inner:∃env',forL (gN 5) (sSet 4 (eOp addD (eVar 4) (zcs 1 (eVar 5)))) (p.2.map .str) [.pl (webD W),.ac (.dict (dS zaa (tabW W pre))),.pl (.str p.1),.pl (zaa p.2),.ac (zaa [p.1]),s5]=some (.nx env')/\
    ∃(ys:List Str)(s5:Sl),env'=[.pl (webD W),.ac (.dict (dS zaa (tabW W pre))),.pl (.str p.1),.pl (zaa p.2),.ac (zaa ys),s5]/\(∀x,x∈ys↔x=p.1\/∃e∈p.2,x∈hdg W e)/\ys.length<=1+12 * p.2.length:=by
   refine zht (λes env=>∃(ys:List Str)(s5:Sl),env=[.pl (webD W),.ac (.dict (dS zaa (tabW W pre))),.pl (.str p.1),.pl (zaa p.2),.ac (zaa ys),s5]/\(∀x,x∈ys↔x=p.1\/∃e∈es,x∈hdg W e)/\ys.length<=1+12 * es.length) ⟨[p.1],s5,rfl,λx=>by simp,by simp⟩ ?_
   rintro es e post env he ⟨ys,s5,rfl,hm,hy⟩
   have len:=congrArg List.length he
   rw[qQ,qj]at len
   have hh:=zamf h (n:=e)
   have gd:zcs 1 (eVar 5) [.pl (webD W),.ac (.dict (dS zaa (tabW W pre))),.pl (.str p.1),.pl (zaa p.2),.ac (zaa ys),.pl (.str e)]=some ⟨zaa (hdg W e),false,[]⟩:=by
    simp[zcs,eVar,keyD,zlh,zwe (W:=W) (V:=pre) (n:=e) (hel e (by rw[<- he];simp))]
   refine⟨_,_,rfl,.inl (zmh (zaqk (f1:=false) (b1:=[4]) rfl gd (by omega))),ys++hdg W e,.pl (.str e),rfl,λx=>?_,by rw[qQ,qQ];simp;omega⟩
   rw[qh,hm]
   constructor
   ·rintro((z|⟨e',z1,z2⟩)|z)
    ·exact .inl z
    ·exact .inr ⟨e',qi _ z1,z2⟩
    ·exact .inr ⟨e,by simp,z⟩
   ·rintro(z|⟨e',z1,z2⟩)
    ·exact .inl (.inl z)
    ·rcases qh.mp z1 with z1|z1
     ·exact .inl (.inr ⟨e',z1,z2⟩)
     ·rw[qc.mp z1]at z2;exact .inr z2
  obtain⟨env1,q,ys,s5',rfl,hm,hy⟩:=inner
  have filt:(W.filter λr=>decide (r.1∈ys)).map (λr=>PyData.str r.1)=(hdg W p.1).map .str:=by
   unfold hdg nm
   rw[List.filter_map,qAQ]
   refine congrArg (λl=>List.map (λr:Str×List Str=>PyData.str r.1) l) (qB2 λr hr=>?_)
   refine decide_eq_decide.mpr ?_
   rw[hm,zadc h pm]
   constructor
   ·rintro(z|⟨e,z1,z2⟩)
    ·exact .inl z
    ·exact .inr ⟨e,z1,(zvk h).mp z2⟩
   ·rintro(z|⟨e,z1,z2⟩)
    ·exact .inl z
    ·exact .inr ⟨e,z1,(zvk h).mpr z2⟩
  have c:zcv (gT 2 (zbg 0 (zbg 1 zgd))) (zay (eOp (inD false) (eVar 0) (eVar 2))) (eVar 0) [.no,.no,.pl (zaa ys)] (W.map rowD)=some ((hdg W p.1).map .str):=by
   rw[<- filt]
   exact zdl (enc:=rowD) (out:=λr=>PyData.str r.1) (λr=>decide (r.1∈ys)) λr _=>⟨[.pl (.str r.1),.pl (zaa r.2),.pl (zaa ys)],rfl,zop (neg:=false) (i:=0) (j:=2) (x:=r.1) (xs:=ys) rfl rfl (.inl rfl),λ_=>⟨vs r.1,rfl,rfl⟩⟩
  have ec:zdy ["_law_other","_law_rest"] [4] (zax (eVar 0)) (gT 2 (zbg 0 (zbg 1 zgd))) (zay (eOp (inD false) (eVar 0) (eVar 2))) (eVar 0) [.pl (webD W),.ac (.dict (dS zaa (tabW W pre))),.pl (.str p.1),.pl (zaa p.2),.ac (zaa ys),s5']=some ⟨zaa (hdg W p.1),true,[]⟩:=by
   have:=zhu (own:=["_law_other","_law_rest"]) (fr:=[4]) (fi:=zax (eVar 0)) (env:=[.pl (webD W),.ac (.dict (dS zaa (tabW W pre))),.pl (.str p.1),.pl (zaa p.2),.ac (zaa ys),s5']) (ds:=W.map rowD) (bs:=[]) rfl (by rw[qD];omega) c
   rw[this,if_pos (zle _)];rfl
  have lz:(dS zaa (tabW W pre)).length<100000:=by
   unfold dS tabW
   rw[qD,qD]
   have:=hV'.len
   omega
  have pt:sPut 1 (eVar 2) (zdy ["_law_other","_law_rest"] [4] (zax (eVar 0)) (gT 2 (zbg 0 (zbg 1 zgd))) (zay (eOp (inD false) (eVar 0) (eVar 2))) (eVar 0)) [.pl (webD W),.ac (.dict (dS zaa (tabW W pre))),.pl (.str p.1),.pl (zaa p.2),.ac (zaa ys),s5']=some (.nx [.pl (webD W),.ac (.dict (dS zaa (tabW W (pre++[p])))),.pl (.str p.1),.pl (zaa p.2),.ac (zaa ys),s5']):=by
   unfold sPut
   show((zdy ["_law_other","_law_rest"] [4] (zax (eVar 0)) (gT 2 (zbg 0 (zbg 1 zgd))) (zay (eOp (inD false) (eVar 0) (eVar 2))) (eVar 0) [.pl (webD W),.ac (.dict (dS zaa (tabW W pre))),.pl (.str p.1),.pl (zaa p.2),.ac (zaa ys),s5']).bind _)=_
   rw[ec]
   show(if(dS zaa (tabW W pre)).length<100000/\1∉([]:List Nat)then some (Out.nx [.pl (webD W),.ac (.dict (zng (dS zaa (tabW W pre)) (.str p.1) (zaa (hdg W p.1)))),.pl (.str p.1),.pl (zaa p.2),.ac (zaa ys),s5'])else none)=_
   rw[if_pos ⟨lz,by simp⟩,zadd zaa (by rw[zahp];exact hn),show tabW W (pre++[p])=tabW W pre++[(p.1,hdg W p.1)] by unfold tabW;rw[qp];rfl]
  exact⟨_,_,rfl,.inl (zgp e1 (zgp (zkb rfl q) pt)),_,_,_,_,rfl⟩
 obtain⟨env',hl',s2,s3,s4,s5,rfl⟩:=outer
 exact zvi (env:=[.pl (webD W),.no,.no,.no,.no,.no]) rfl (zgp rfl (zgp (zkb rfl hl') rfl))
theorem zadz{b:Str}{a:Nat}{i:Int}(h:b.length<=7):(zmm b a i).length<=8:=by
 unfold zmm
 have la:∀x y:Str,(x++y).length=x.length+y.length:=λx y=>by show(x.cps++y.cps).size=x.cps.size+y.cps.size;exact Array.size_append
 rw[la,la,zoo,zwd,show(ltr i).length=1 from rfl]
 omega
section
variable{d:PyData}{n:Nat}
theorem ztz{m sz sm at_ fi st k:Nat}{b:Str}{xs:List Str}{s10:Sl}(ok:Fok d n)(hn:n+1000<=10 ^ 12)(hsz:sz<=7)(hst:st∈zty)(hfi:fi<26)(hb:Low b)(hbl:b.length<=7)(hxs:xs.length<1000)(hk:k<16) :
  ∃(b':Str)(d':PyData),Low b'/\b'.length<=7/\Fok d' (n+10)/\(fSeq (fIfP (zay (eOp eqD (eVar 3) (eC (.int 0)))) (fSet 7 (zam 0 2 zbj (zal (zam 0 2 zag (zal (zaj 0 (eOp addD (eVar 2) (eC (.int 1)))) (fNil 0))) (fNil 0)))) fNx)
  (fSeq (fS (sSet 10 (eOp ixD (eC (.str "abcdefghijklmnopqrstuvwxyz")) (eOp modD (eOp addD (eVar 5) (eOp mulD (eVar 6) (eVar 9))) (eC (.int 26))))))
  (fApp 8 (zaj 0 (eOp addD (eOp addD (eSl (eVar 7) zgl (zfe (eVar 4))) (eVar 10)) (eSl (eVar 7) (zfe (eVar 4)) zgl)))))) [.ac d,.pl (.int (m:Int)),.pl (.int (sz:Int)),.pl (.int (sm:Int)),.pl (.int (at_:Int)),.pl (.int (fi:Int)),.pl (.int (st:Int)),.pl (.str b),.ac (zaa xs),.pl (.int (k:Int)),s10] =
   some (.nx [.ac d',.pl (.int (m:Int)),.pl (.int (sz:Int)),.pl (.int (sm:Int)),.pl (.int (at_:Int)),.pl (.int (fi:Int)),.pl (.int (st:Int)),.pl (.str b'),.ac (zaa (xs++[zmm b' at_ (((fi:Int)+st * k) % 26)])),.pl (.int (k:Int)),.pl (.str (ltr (((fi:Int)+st * k) % 26)))]):=by
 have first:∃(b':Str)(d':PyData),Low b'/\b'.length<=7/\Fok d' (n+10)/\fIfP (zay (eOp eqD (eVar 3) (eC (.int 0)))) (fSet 7 (zam 0 2 zbj (zal (zam 0 2 zag (zal (zaj 0 (eOp addD (eVar 2) (eC (.int 1)))) (fNil 0))) (fNil 0)))) fNx [.ac d,.pl (.int (m:Int)),.pl (.int (sz:Int)),.pl (.int (sm:Int)),.pl (.int (at_:Int)),.pl (.int (fi:Int)),.pl (.int (st:Int)),.pl (.str b),.ac (zaa xs),.pl (.int (k:Int)),s10] =
   some (.nx [.ac d',.pl (.int (m:Int)),.pl (.int (sz:Int)),.pl (.int (sm:Int)),.pl (.int (at_:Int)),.pl (.int (fi:Int)),.pl (.int (st:Int)),.pl (.str b'),.ac (zaa xs),.pl (.int (k:Int)),s10]):=by
  have t:zay (eOp eqD (eVar 3) (eC (.int 0))) [.ac d,.pl (.int (m:Int)),.pl (.int (sz:Int)),.pl (.int (sm:Int)),.pl (.int (at_:Int)),.pl (.int (fi:Int)),.pl (.int (st:Int)),.pl (.str b),.ac (zaa xs),.pl (.int (k:Int)),s10]=some ((sm:Int)==0):=zhw (zaqc rfl rfl)
  by_cases h:(sm:Int)=0
  ·rw[zon (by rw[t,h];rfl)]
   obtain⟨r,d1,q1,q2,q3,q4⟩:=zcy (f:=0) (e:=eOp addD (eVar 2) (eC (.int 1))) (env:=[.ac d,.pl (.int (m:Int)),.pl (.int (sz:Int)),.pl (.int (sm:Int)),.pl (.int (at_:Int)),.pl (.int (fi:Int)),.pl (.int (st:Int)),.pl (.str b),.ac (zaa xs),.pl (.int (k:Int)),s10]) rfl (zkd rfl rfl) ok (by omega) (by omega) (by omega)
   obtain⟨w,d2,p1,p2,p3,p4⟩:=zkq (m:=r.toNat) q4 (by omega) (by omega)
   rw[show((r.toNat:Nat):Int)=r by omega]at p1
   exact⟨w,d2,p3,by omega,p4.mono (by omega),zdi (zfq rfl (ziz q1 rfl) rfl rfl p1 p4.flat)⟩
  ·exact⟨b,d,hb,hbl,ok.mono (by omega),by rw[zkp (by rw[t,beq_eq_false_iff_ne.mpr h])];rfl⟩
 obtain⟨b',d',lb,bl,ok',h1⟩:=first
 refine⟨b',d',lb,bl,ok',?_⟩
 have hst100:st<=25:=by
  have:∀x∈zty,x<=25:=by decide
  exact this st hst
 have md:0<=((fi:Int)+st * k) % 26/\((fi:Int)+st * k) % 26<26:=⟨qA2 _ (by decide),qAk _ (by decide)⟩
 rw[zap h1]
 have h2:fS (sSet 10 (eOp ixD (eC (.str "abcdefghijklmnopqrstuvwxyz")) (eOp modD (eOp addD (eVar 5) (eOp mulD (eVar 6) (eVar 9))) (eC (.int 26))))) [.ac d',.pl (.int (m:Int)),.pl (.int (sz:Int)),.pl (.int (sm:Int)),.pl (.int (at_:Int)),.pl (.int (fi:Int)),.pl (.int (st:Int)),.pl (.str b'),.ac (zaa xs),.pl (.int (k:Int)),s10] =
   some (.nx [.ac d',.pl (.int (m:Int)),.pl (.int (sz:Int)),.pl (.int (sm:Int)),.pl (.int (at_:Int)),.pl (.int (fi:Int)),.pl (.int (st:Int)),.pl (.str b'),.ac (zaa xs),.pl (.int (k:Int)),.pl (.str (ltr (((fi:Int)+st * k) % 26)))]):=by
  refine zajd (d:=.str (ltr (((fi:Int)+st * k) % 26))) ?_
  exact zajf (w:=ixD) (x:=⟨.str abc,false,[]⟩) (y:=vi (((fi:Int)+st * k) % 26)) rfl (zsz (zkd rfl (zox rfl rfl (.inr ⟨by omega,by omega⟩))) rfl (by decide)) (zaje md.1 md.2)
 rw[zap h2]
 have z1:=Txt.slice_le b' none (some (at_:Int))
 have z2:=Txt.slice_le b' (some (at_:Int)) none
 have l1:∀i,(ltr i).length=1:=λ_=>rfl
 have h3:eOp addD (eOp addD (eSl (eVar 7) zgl (zfe (eVar 4))) (eVar 10)) (eSl (eVar 7) (zfe (eVar 4)) zgl) [.ac d',.pl (.int (m:Int)),.pl (.int (sz:Int)),.pl (.int (sm:Int)),.pl (.int (at_:Int)),.pl (.int (fi:Int)),.pl (.int (st:Int)),.pl (.str b'),.ac (zaa xs),.pl (.int (k:Int)),.pl (.str (ltr (((fi:Int)+st * k) % 26)))]=some (vs (zmm b' at_ (((fi:Int)+st * k) % 26))):=
  zaiz (zaiz (zaqd rfl rfl (zaja rfl) (by omega)) rfl (by rw[l1];omega)) (zaqd rfl (zaja rfl) rfl (by omega)) (by rw[zli,l1];omega)
 rw[zma rfl (zby (f:=0) (d0:=d') rfl h3) rfl (by rw[qD];omega) (by simp)]
 show some (OutF.nx [.ac d',.pl (.int (m:Int)),.pl (.int (sz:Int)),.pl (.int (sm:Int)),.pl (.int (at_:Int)),.pl (.int (fi:Int)),.pl (.int (st:Int)),.pl (.str b'),.ac (.list (xs.map .str++[.str (zmm b' at_ (((fi:Int)+st * k) % 26))])),.pl (.int (k:Int)),.pl (.str (ltr (((fi:Int)+st * k) % 26)))])=_
 unfold zaa
 rw[qp]
 rfl
end
theorem zrn{d:PyData}{n m:Nat}(ok:Fok d n)(hn:n+10000<=10 ^ 12)(hm:m<=16):∃(xs:List Str)(d':PyData),zbl d [.int (m:Int)]=some (zaa xs,true,d')/\xs.length=m/\xs.Nodup/\(∀x∈xs,Low x/\x.length<=8)/\Fok d' (n+1000):=by
 obtain⟨r1,d1,a1,a2,a3,a4⟩:=zcy (f:=0) (e:=eC (.int 4)) (env:=[.ac d,.pl (.int (m:Int)),.no,.no,.no,.no,.no,.no,.no,.no,.no]) rfl rfl ok (by omega) (by decide) (by decide)
 obtain⟨sz,e1,hsz⟩:=at4 a2 a3
 have s1:fSet 2 (fOp ixD (zaj 0 (eLst (zad (eC (.int 0)) (zad (eC (.int 1)) (zad (eC (.int 2)) (zad (eC (.int 7)) aNil)))))) (zam 0 2 zag (zal (zaj 0 (eC (.int 4))) (fNil 0)))) [.ac d,.pl (.int (m:Int)),.no,.no,.no,.no,.no,.no,.no,.no,.no]=some (.nx [.ac d1,.pl (.int (m:Int)),.pl (.int (sz:Int)),.no,.no,.no,.no,.no,.no,.no,.no]):=
  zdi (zmi (zby (f:=0) (d0:=d) (d:=.list [.int 0,.int 1,.int 2,.int 7]) (fr:=true) rfl rfl) a1 e1)
 obtain⟨r2,d2,b1,b2,b3,b4⟩:=zcy (f:=0) (e:=eC (.int 2)) (env:=[.ac d1,.pl (.int (m:Int)),.pl (.int (sz:Int)),.no,.no,.no,.no,.no,.no,.no,.no]) rfl rfl a4 (by omega) (by decide) (by decide)
 obtain⟨r3,d3,c1,c2,c3,c4⟩:=zcy (f:=0) (e:=eC (.int 8)) (env:=[.ac d2,.pl (.int (m:Int)),.pl (.int (sz:Int)),.pl (.int r2),.no,.no,.no,.no,.no,.no,.no]) rfl rfl b4 (by omega) (by decide) (by decide)
 obtain⟨r4,d4,f1,f2,f3,f4⟩:=zcy (f:=0) (e:=eC (.int 26)) (env:=[.ac d3,.pl (.int (m:Int)),.pl (.int (sz:Int)),.pl (.int r2),.pl (.int r3),.no,.no,.no,.no,.no,.no]) rfl rfl c4 (by omega) (by decide) (by decide)
 obtain⟨r5,d5,g1,g2,g3,g4⟩:=zcy (f:=0) (e:=eC (.int 12)) (env:=[.ac d4,.pl (.int (m:Int)),.pl (.int (sz:Int)),.pl (.int r2),.pl (.int r3),.pl (.int r4),.no,.no,.no,.no,.no]) rfl rfl f4 (by omega) (by decide) (by decide)
 obtain⟨st,e5,hst⟩:=at12 g2 g3
 have s5:fSet 6 (fOp ixD (zaj 0 (eLst (zad (eC (.int 1)) (zad (eC (.int 3)) (zad (eC (.int 5)) (zad (eC (.int 7)) (zad (eC (.int 9)) (zad (eC (.int 11)) (zad (eC (.int 15)) (zad (eC (.int 17)) (zad (eC (.int 19)) (zad (eC (.int 21)) (zad (eC (.int 23)) (zad (eC (.int 25)) aNil)))))))))))))) (zam 0 2 zag (zal (zaj 0 (eC (.int 12))) (fNil 0)))) [.ac d4,.pl (.int (m:Int)),.pl (.int (sz:Int)),.pl (.int r2),.pl (.int r3),.pl (.int r4),.no,.no,.no,.no,.no] =
   some (.nx [.ac d5,.pl (.int (m:Int)),.pl (.int (sz:Int)),.pl (.int r2),.pl (.int r3),.pl (.int r4),.pl (.int (st:Int)),.no,.no,.no,.no]):=
  zdi (zmi (zby (f:=0) (d0:=d4) (d:=.list [.int 1,.int 3,.int 5,.int 7,.int 9,.int 11,.int 15,.int 17,.int 19,.int 21,.int 23,.int 25]) (fr:=true) rfl rfl) g1 e5)
 obtain⟨b,d6,p1,p2,p3,p4⟩:=zkq (m:=sz) g4 (by omega) (by omega)
 have s6:fSet 7 (zam 0 2 zbj (zal (zaj 0 (eVar 2)) (fNil 0))) [.ac d5,.pl (.int (m:Int)),.pl (.int (sz:Int)),.pl (.int r2),.pl (.int r3),.pl (.int r4),.pl (.int (st:Int)),.no,.no,.no,.no] =
   some (.nx [.ac d6,.pl (.int (m:Int)),.pl (.int (sz:Int)),.pl (.int r2),.pl (.int r3),.pl (.int r4),.pl (.int (st:Int)),.pl (.str b),.no,.no,.no]):=
  zdi (zfq rfl (ziz (zby (f:=0) (d0:=d5) rfl (d:=.int (sz:Int)) (fr:=false) rfl) rfl) rfl rfl p1 p4.flat)
 obtain⟨sm,rfl⟩:∃k:Nat,r2=(k:Int):=⟨r2.toNat,by omega⟩
 obtain⟨at_,rfl⟩:∃k:Nat,r3=(k:Int):=⟨r3.toNat,by omega⟩
 obtain⟨fi,rfl⟩:∃k:Nat,r4=(k:Int):=⟨r4.toNat,by omega⟩
 have loop:∃env',zgg (gN 9) (fSeq (fIfP (zay (eOp eqD (eVar 3) (eC (.int 0)))) (fSet 7 (zam 0 2 zbj (zal (zam 0 2 zag (zal (zaj 0 (eOp addD (eVar 2) (eC (.int 1)))) (fNil 0))) (fNil 0)))) fNx)
  (fSeq (fS (sSet 10 (eOp ixD (eC (.str "abcdefghijklmnopqrstuvwxyz")) (eOp modD (eOp addD (eVar 5) (eOp mulD (eVar 6) (eVar 9))) (eC (.int 26))))))
  (fApp 8 (zaj 0 (eOp addD (eOp addD (eSl (eVar 7) zgl (zfe (eVar 4))) (eVar 10)) (eSl (eVar 7) (zfe (eVar 4)) zgl)))))) (zdj 0 m) [.ac d6,.pl (.int (m:Int)),.pl (.int (sz:Int)),.pl (.int (sm:Int)),.pl (.int (at_:Int)),.pl (.int (fi:Int)),.pl (.int (st:Int)),.pl (.str b),.ac (zaa []),.no,.no]=some (.nx env')/\
  ∃(xs:List Str)(b:Str)(d':PyData)(s9 s10:Sl),env'=[.ac d',.pl (.int (m:Int)),.pl (.int (sz:Int)),.pl (.int (sm:Int)),.pl (.int (at_:Int)),.pl (.int (fi:Int)),.pl (.int (st:Int)),.pl (.str b),.ac (zaa xs),s9,s10]/\Low b/\b.length<=7/\xs.length=m/\(∀i,i<m->∃b':Str,(Low b'/\b'.length<=7)/\xs[i]?=some (zmm b' at_ (((fi:Int)+st * i) % 26)))/\Fok d' (n+20+10 * m):=by
  refine zcn (λk env=>∃(xs:List Str)(b:Str)(d':PyData)(s9 s10:Sl),env=[.ac d',.pl (.int (m:Int)),.pl (.int (sz:Int)),.pl (.int (sm:Int)),.pl (.int (at_:Int)),.pl (.int (fi:Int)),.pl (.int (st:Int)),.pl (.str b),.ac (zaa xs),s9,s10]/\Low b/\b.length<=7/\xs.length=k/\(∀i,i<k->∃b':Str,(Low b'/\b'.length<=7)/\xs[i]?=some (zmm b' at_ (((fi:Int)+st * i) % 26)))/\Fok d' (n+20+10 * k))
   ⟨[],b,d6,.no,.no,rfl,p3,by omega,rfl,λi hi=>by omega,p4.mono (by omega)⟩ ?_
  rintro k env hk ⟨xs,b0,d0,s9,s10,rfl,lb,bl,xl,xi,ok0⟩
  obtain⟨b',d',q1,q2,q3,q4⟩:=ztz (m:=m) (sm:=sm) (fi:=fi) (at_:=at_) (k:=k) (s10:=s10) ok0 (by omega) hsz hst (by omega) lb bl (xs:=xs) (by omega) (by omega)
  refine⟨_,_,rfl,q4,xs++[zmm b' at_ (((fi:Int)+st * k) % 26)],b',d',_,_,rfl,q1,q2,by rw[qQ];simp[xl],λi hi=>?_,q3.mono (by omega)⟩
  by_cases h:i<k
  ·obtain⟨b'',z1,z2⟩:=xi i h
   exact⟨b'',z1,by rw[qk (by omega)];exact z2⟩
  ·have:i=k:=by omega
   subst this
   exact⟨b',⟨q1,q2⟩,by rw[qo (by omega),xl,Nat.sub_self];rfl⟩
 obtain⟨env1,hloop,xs,b2',d7,s9,s10,rfl,_,_,xl,xi,ok7⟩:=loop
 have md:∀i:Nat,0<=((fi:Int)+st * i) % 26/\((fi:Int)+st * i) % 26<26:=λi=>⟨qA2 _ (by decide),qAk _ (by decide)⟩
 have xnd:xs.Nodup:=by
  refine List.nodup_iff_pairwise_ne.mpr (qBZ.mpr λi j hi hj hij e=>?_)
  obtain⟨b1,_,z1⟩:=xi i (by omega)
  obtain⟨b2,_,z2⟩:=xi j (by omega)
  rw[qG hi]at z1
  rw[qG hj]at z2
  have:=zadv (md i).1 (md j).1 ((qR z1).symm.trans (e.trans (qR z2)))
  have:=zadx hst (a:=i) (b:=j) (by omega) (by omega) this
  omega
 have xlo:∀x∈xs,Low x/\x.length<=8:=λx hx=>by
  obtain⟨i,hi,rfl⟩:=List.mem_iff_getElem.mp hx
  obtain⟨b1,z0,z1⟩:=xi i (by omega)
  rw[qG hi]at z1
  rw[qR z1]
  exact⟨zadw z0.1 (md i).1 (md i).2,zadz z0.2⟩
 refine⟨xs,d7,?_,xl,xnd,xlo,ok7.mono (by omega)⟩
 have run:zcl [.ac d,.pl (.int (m:Int)),.no,.no,.no,.no,.no,.no,.no,.no,.no]=some (.rt (zaa xs) true [.ac d7,.pl (.int (m:Int)),.pl (.int (sz:Int)),.pl (.int (sm:Int)),.pl (.int (at_:Int)),.pl (.int (fi:Int)),.pl (.int (st:Int)),.pl (.str b2'),.no,s9,s10]):=by
  unfold zcl
  refine(zap s1).trans ((zap (zdi b1)).trans ((zap (zdi c1)).trans ((zap (zdi f1)).trans ?_)))
  refine(zap s5).trans ((zap s6).trans ?_)
  have s7:fS (sSet 8 (eLst aNil)) [.ac d6,.pl (.int (m:Int)),.pl (.int (sz:Int)),.pl (.int (sm:Int)),.pl (.int (at_:Int)),.pl (.int (fi:Int)),.pl (.int (st:Int)),.pl (.str b),.no,.no,.no]=some (.nx [.ac d6,.pl (.int (m:Int)),.pl (.int (sz:Int)),.pl (.int (sm:Int)),.pl (.int (at_:Int)),.pl (.int (fi:Int)),.pl (.int (st:Int)),.pl (.str b),.ac (zaa []),.no,.no]):=rfl
  refine(zap s7).trans ?_
  refine(zap ((zrl (zmx (n:=m) rfl (by omega))).trans hloop)).trans ?_
  rfl
 unfold zbl fnF
 show(zcl [.ac d,.pl (.int (m:Int)),.no,.no,.no,.no,.no,.no,.no,.no,.no]).bind _=_
 rw[run];rfl
open Classical in
open Classical in
theorem zajg(xs:List PyData)(k:Nat):cutD xs none (some (k:Int))=xs.take k:=by
 unfold cutD
 rw[show HT.sIx xs.length 0 none=0 from rfl,HT.sIx_nat,List.drop_zero,qCr]
 by_cases h:k<=xs.length
 ·rw[qCO h]
 ·rw[Nat.min_eq_right (by omega),qAt (qK _),qAt (by omega)]
open Classical in
open Classical in
open Classical in
open Classical in
noncomputable def srtD(bs:List (List Str)):PyData:=.list (bs.map zaa)
noncomputable def bnB(bs:List (List Str))(xs:List Str):Bool:=bs.any λb=>xs.all λx=>decide (x∈b)
theorem zaqo{xs b:List Str}{i j:Nat}{env:DEnv}{c:PyData}(hl:xs.length<1000){own:List Str}(ho:own.length=1)(hi:zhf c=some (xs.map .str))(h1:env[i]?=some (.pl c))(h0:env[j]?=some (.pl (zaa b))):eCB (anyD λbs=>bs.all id) (zad (zdy own [j] (zax (eVar i)) (gN 0) zdv (eOp (inD false) (eVar 0) (eVar 1))) aNil) env=some (vb (xs.all λx=>decide (x∈b))):=by
 obtain⟨o,rfl⟩:∃o,own=[o]:=by
  cases own with
  | nil=>cases ho
  | cons a t=>cases t with|nil=>exact⟨a,rfl⟩|cons _ _=>cases ho
 have en:envB [o] [j] env=[.no,.pl (zaa b)]:=by
  unfold envB
  simp only[qU,qA9,qZ,h0];rfl
 have c1:zcv (gN 0) zdv (eOp (inD false) (eVar 0) (eVar 1)) (envB [o] [j] env) (xs.map .str)=some (xs.map λx=>.bool (decide (x∈b))):=by
  rw[en]
  exact zfk λx _=>⟨[.pl (.str x),.pl (zaa b)],rfl,rfl,vb (decide (x∈b)),e_in (neg:=false) (fr:=false) (bs:=[]) rfl rfl,rfl⟩
 refine zary (zhu (bs:=[]) ?_ (by rw[qD];omega) c1)
 unfold zax eVar
 rw[h1]
 show((zhf c).map _)=_
 rw[hi];rfl
theorem zaea{bs:List (List Str)}{xs:List Str}(hb:bs.length<1000)(hl:xs.length<1000):zca [srtD bs,zfy xs]=some (.bool (bnB bs xs),false):=by
 have c:zcv (gN 0) zdv (eCB (anyD λbs=>bs.all id) (zad (zdy ["name"] [0] (zax (eVar 1)) (gN 0) zdv (eOp (inD false) (eVar 0) (eVar 1))) aNil)) [.no,.pl (zfy xs)] (bs.map zaa)=some (bs.map λb=>.bool (xs.all λx=>decide (x∈b))):=
  zfk λb _=>⟨[.pl (zaa b),.pl (zfy xs)],rfl,rfl,_,zaqo hl rfl rfl rfl rfl,rfl⟩
 exact zvi (env:=[.pl (srtD bs),.pl (zfy xs)]) rfl (zxr (bs:=[]) (zami (zhu (own:=["bundle"]) (fr:=[1]) (fi:=zax (eVar 0)) (bs:=[]) (env:=[.pl (srtD bs),.pl (zfy xs)]) rfl (by rw[qD];omega) c)))
noncomputable def apB(W:Web)(xs:List Str):Bool:=!((xs.zipIdx).any λp=>(xs.take p.2).any λh=>decide (h∈up W p.1))
theorem zahq{α β:Type}(f:α->List β)(p:α->β->Bool)(l:List α):((l.flatMap λx=>(f x).map λe=>(x,e)).any λz=>p z.1 z.2)=l.any λx=>(f x).any (p x):=by
 induction l with
 | nil=>rfl
 | cons x l ih=>rw[qBd,List.any_append,ih,qAY,qBs];rfl
theorem zamp{W:Web}(h:WebOk W){xs:List Str}(hx:∀x∈xs,x∈nm W)(hl:xs.length<300):zdh [.dict (dS zaw (ups W)),zfy xs]=some (.bool (apB W xs),false):=by
 have c:zhh (gT 2 (zbg 0 (zbg 1 zgd))) zdv (zax (eSlT (eVar 4) zgl (zfe (eVar 0)))) (gN 2) zdv (eDIn false (eVar 2) (zcs 3 (eVar 1))) [.no,.no,.no,.pl (.dict (dS zaw (ups W))),.pl (zfy xs)] (xs.zipIdx.map λ(p:Str×Nat)=>PyData.tuple [.int (p.2:Int),.str p.1])=some (xs.zipIdx.flatMap λp=>(xs.take p.2).map λh=>.bool (decide (h∈up W p.1))):=by
  refine zjg λp hp=>⟨[.pl (.int (p.2:Int)),.pl (.str p.1),.no,.pl (.dict (dS zaw (ups W))),.pl (zfy xs)],rfl,rfl,?_⟩
  have hp1:p.1∈xs:=by
   obtain⟨x,k⟩:=p
   exact List.fst_mem_of_mem_zipIdx hp
  unfold innL
  have it:zax (eSlT (eVar 4) zgl (zfe (eVar 0))) [.pl (.int (p.2:Int)),.pl (.str p.1),.no,.pl (.dict (dS zaw (ups W))),.pl (zfy xs)]=some ((xs.take p.2).map .str,[]):=by
   show some (cutD (xs.map .str) none (some (p.2:Int)),([]:List Nat))=_
   rw[zajg,<- qBg]
  rw[it,qF,if_pos (by show((xs.take p.2).map PyData.str).length<300;rw[qD,qAd];omega)]
  refine zfk λy _=>⟨[.pl (.int (p.2:Int)),.pl (.str p.1),.pl (.str y),.pl (.dict (dS zaw (ups W))),.pl (zfy xs)],rfl,rfl,_,zadj (neg:=false) (ks:=up W p.1) rfl (zajb (d:=zaw (up W p.1)) (.inl rfl) rfl (by rw[zlh,zlj (hx _ hp1)];rfl)),rfl⟩
 rw[zzc]at c
 have e:=zami (zxz (own:=["number","low","high"]) (fr:=[0,1]) (fi:=zss (zad (eVar 1) aNil)) (bs:=[]) (env:=[.pl (.dict (dS zaw (ups W))),.pl (zfy xs)]) (by
  show some (zqw (xs.map .str),([]:List Nat))=_
  rw[zxx]) (by rw[qD,qBz];exact hl) c)
 have e2:=zahq (λq:Str×Nat=>xs.take q.2) (λq h=>decide (h∈up W q.1)) xs.zipIdx
 have e3:=e.trans (congrArg (λb=>some (vb b)) e2)
 refine zvi (env:=[.pl (.dict (dS zaw (ups W))),.pl (zfy xs)]) rfl (zxr (bs:=[]) ?_)
 unfold eNot
 rw[e3];rfl
noncomputable def upI(A:List Str)(xs:List Str):Prop:=(∀x∈xs,x∈A)/\xs.Pairwise λa b=>A.idxOf a<A.idxOf b
theorem zye{a x:Str}{A:List Str}(h:x≠a):(a::A).idxOf x=A.idxOf x+1:=by
 rw[List.idxOf_cons]
 rw[show(a==x)=false from beq_eq_false_iff_ne.mpr (qBB h)];rfl
theorem zmb:∀{A:List Str},A.Nodup->∀{xs:List Str},upI A xs->A.filter (λx=>decide (x∈xs))=xs
 | [],_,xs,⟨h,_⟩=>by
  cases xs with
  | nil=>rfl
  | cons x xs=>exact nomatch h x (qW ..)
 | a::A,nd,xs,⟨h,k⟩=>by
  obtain⟨na,nd'⟩:=qAK.mp nd
  have sub:∀{ys:List Str},(∀y∈ys,y∈xs)->ys.Pairwise (λa' b=>(a::A).idxOf a'<(a::A).idxOf b)->a∉ys->upI A ys:=λ{ys} hs hp ha=>by
   refine⟨λy hy=>?_,hp.imp_of_mem λ{y z} hy hz e=>?_⟩
   ·rcases qX.mp (h y (hs y hy))with rfl|z
    ·exact absurd hy ha
    ·exact z
   ·have n1:y≠a:=λ(q:y=a)=>ha (by rw[<- q];exact hy)
    have n2:z≠a:=λ(q:z=a)=>ha (by rw[<- q];exact hz)
    rw[zye n1,zye n2]at e
    omega
  by_cases ha:a∈xs
  ·cases xs with
   | nil=>cases ha
   | cons x t=>
    obtain⟨k1,k2⟩:=List.pairwise_cons.mp k
    have hxa:x=a:=by
     rcases qX.mp ha with e|e
     ·exact e.symm
     ·have:=k1 a e
      rw[List.idxOf_cons_self]at this
      omega
    subst hxa
    have hnt:x∉t:=λe=>qAZ _ (k1 x e)
    have ih:=zmb nd' (sub (ys:=t) (λy hy=>qJ _ hy) k2 hnt)
    rw[qBl,if_pos (by simp)]
    have:A.filter (λy=>decide (y∈x::t))=A.filter (λy=>decide (y∈t)):=qB2 λy hy=>by
     have:y≠x:=λe=>na (e▸hy)
     simp[this]
    rw[this,ih]
  ·rw[qBl,if_neg (by simpa using ha)]
   exact zmb nd' (sub (λy hy=>hy) k ha)
open Classical in
open Classical in
noncomputable abbrev tk(m:Int):EFf:=zam 0 2 zag (zal (zaj 0 (eC (.int m))) (fNil 0))
theorem zaqp{d:PyData}{n:Nat}{r:DEnv}(ok:Fok d n)(hn:n<=10 ^ 12)(m:Int)(m0:0<m)(m1:m<1073741824):∃(k:Nat)(d':PyData),tk m (.ac d::r)=some (vi (k:Int),.ac d'::r)/\(k:Int)<m/\Fok d' (n+1):=by
 obtain⟨q,d',e,h0,h1,ok'⟩:=zcy (f:=0) (e:=eC (.int m)) (env:=.ac d::r) rfl rfl ok hn m0 m1
 exact⟨q.toNat,d',by rw[show((q.toNat:Nat):Int)=q by omega];exact e,by omega,ok'⟩
theorem zarz{d:PyData}{n:Nat}{r:DEnv}{e t:EF}{ds:List PyData}{fr:Bool}{bs:List Nat}(he:e (.ac d::r)=some ⟨.list ds,fr,bs⟩)(hf:(0:Nat)∉bs)(ht:t (.ac d::r)=some (vi (ds.length:Int)))(ok:Fok d n)(hn:n<=10 ^ 12)(h0:0<ds.length)(h1:ds.length<1000):∃(z:PyData)(d':PyData),z∈ds/\Fok d' (n+1)/\fOp ixD (zaj 0 e) (zam 0 2 zag (zal (zaj 0 t) (fNil 0))) (.ac d::r)=some (⟨z,false,bsOf z bs⟩,.ac d'::r):=by
 obtain⟨q,d',e1,k0,k1,ok'⟩:=zcy (f:=0) (e:=t) (env:=.ac d::r) rfl ht ok hn (by omega) (by omega)
 obtain⟨k,rfl⟩:∃k:Nat,q=(k:Int):=⟨q.toNat,by omega⟩
 have hk:k<ds.length:=by omega
 refine⟨ds[k],d',qBI hk,ok',?_⟩
 rw[zmi (w:=ixD) (z:=ds[k]) (fr:=false) (zko (f:=0) (d0:=d) rfl he hf) e1 (by
  show(atI ds (k:Int)).map _=_
  rw[zkt (qG hk)];rfl)]
 show some ((⟨ds[k],false,bsOf ds[k] (bs++[])⟩:Val),_)=_
 rw[qu];rfl
theorem zaqq{d:PyData}{n:Nat}{r:DEnv}{i:Nat}{xs:List Str}(hi:(.ac d::r:DEnv)[i]?=some (.pl (zaa xs)))(ok:Fok d n)(hn:n<=10 ^ 12)(h0:0<xs.length)(h1:xs.length<1000):∃(z:Str)(d':PyData),z∈xs/\Fok d' (n+1)/\fOp ixD (zaj 0 (eVar i)) (zam 0 2 zag (zal (zaj 0 (eCB lenD (zad (eVar i) aNil))) (fNil 0))) (.ac d::r)=some (vs z,.ac d'::r):=by
 have e:eVar i (.ac d::r)=some ⟨zaa xs,false,[]⟩:=by unfold eVar;rw[hi]
 obtain⟨z,d',hz,ok',q⟩:=zarz (e:=eVar i) (t:=eCB lenD (zad (eVar i) aNil)) (ds:=xs.map .str) (bs:=[]) e (by simp) (ztb e) ok hn (by rw[qD];exact h0) (by rw[qD];exact h1)
 obtain⟨x,hx,rfl⟩:=qm.mp hz
 exact⟨x,d',hx,ok',q⟩
theorem zaeb(xs:List Str)(x:Str):PyData.list (xs.map .str++[.str x])=zaa (xs++[x]):=by unfold zaa;rw[qp];rfl
theorem zahr(bs:List (List Str))(b:List Str):PyData.list (bs.map zaa++[zaa b])=srtD (bs++[b]):=by unfold srtD;rw[qp];rfl
theorem zua:∀us:List Str,((zcq us).mapM λp=>keyD p.1)=some (us.map Sum.inr)
 | []=>rfl
 | u::us=>by
  show((zcq (u::us)).mapM λp=>keyD p.1)=_
  rw[show zcq (u::us)=(.str u,.bool true)::zcq us from rfl,List.mapM_cons]
  show((zcq us).mapM λp=>keyD p.1).bind _=_
  rw[zua us];rfl
theorem zyf(x:Str):∀vs:List Str,((zcq vs).any λp=>decide (keyD p.1=some (Sum.inr x)))=decide (x∈vs)
 | []=>rfl
 | v::vs=>by
  rw[show zcq (v::vs)=(.str v,.bool true)::zcq vs from rfl,qAY,zyf x vs]
  show(decide (some (Sum.inr v:Key)=some (Sum.inr x))||decide (x∈vs))=_
  by_cases h:v=x
  ·subst h;simp
  ·have h':¬x=v:=λz=>h z.symm
   simp[h,h']
theorem zyg:∀bs:List Bool,zit (bs.map .bool)=some bs
 | []=>rfl
 | b::bs=>by
  show(zit (bs.map .bool)).map _=_
  rw[zyg bs];rfl
theorem zwg{us vs:List Str}(hl:us.length<100000):zck [zaw us,zaw vs]=some (.bool (us.all λx=>decide (x∈vs)),false):=by
 have e:zrc 0 1 [.pl (zaw us),.pl (zaw vs)]=some ⟨.list ((us.map λx=>decide (x∈vs)).map .bool),true,[]⟩:=by
  show(if(zcq us).length<100000 then((zcq us).mapM λp=>keyD p.1).map _ else none)=_
  rw[if_pos (by unfold zcq;rw[qD];exact hl),zua,qAw,qAQ,qAQ]
  congr 3
  refine qAo λx _=>?_
  show PyData.bool ((zcq vs).any λp=>decide (keyD p.1=some (Sum.inr x)))=_
  rw[zyf];rfl
 have f:zfl [.pl (zaw us),.pl (zaw vs)]=some (.rt (.bool (us.all λx=>decide (x∈vs))) false):=by
  unfold zfl sRet eCB
  rw[zta e]
  show(((zit ((us.map λx=>decide (x∈vs)).map .bool)).map _).bind _).map _=_
  rw[zyg]
  show some (Out.rt (.bool ((us.map λx=>decide (x∈vs)).all id)) false)=_
  rw[qCm];rfl
 unfold zck fnD
 show(match zfl [.pl (zaw us),.pl (zaw vs)]with|some (.rt d fr)=>some (d,fr)|some (.nx _)=>some (.none,false)|_=>none)=_
 rw[f]
noncomputable def prs(A:List Str):List (Str×Str):=A.zipIdx.flatMap λq=>(A.drop (q.2+1)).map λy=>(q.1,y)
theorem zwh{A:List Str}{p:Str×Str}:p∈prs A↔∃i j:Nat,i<j/\A[i]?=some p.1/\A[j]?=some p.2:=by
 unfold prs
 rw[qBk]
 constructor
 ·rintro⟨⟨x,i⟩,hq,hp⟩
  obtain⟨y,hy,rfl⟩:=qm.mp hp
  obtain⟨k,hk⟩:=qAz.mp hy
  rw[List.getElem?_drop]at hk
  exact⟨i,i+1+k,by omega,qCB.mp hq,hk⟩
 ·rintro⟨i,j,hij,h1,h2⟩
  refine⟨(p.1,i),qCB.mpr h1,qm.mpr ⟨p.2,qAz.mpr ⟨j - (i+1),?_⟩,rfl⟩⟩
  rw[List.getElem?_drop,show i+1+(j - (i+1))=j by omega]
  exact h2
theorem zajh{A:List Str}(nd:A.Nodup):(prs A).Nodup:=by
 unfold prs List.Nodup
 rw[List.pairwise_flatMap]
 constructor
 ·rintro⟨x,i⟩ _
  rw[qBb]
  exact((List.drop_sublist _ _).nodup nd).imp λh e=>h (Prod.mk.inj e).2
 ·have:(A.zipIdx.map Prod.fst).Pairwise (·≠·):=by rw[List.zipIdx_map_fst];exact nd
  rw[qBb]at this
  refine this.imp λ{a b} h x hx y hy e=>?_
  obtain⟨u,_,rfl⟩:=qm.mp hx
  obtain⟨v,_,rfl⟩:=qm.mp hy
  exact h (Prod.mk.inj e).1
theorem zyh{A:List Str}{p:Str×Str}(h:p∈prs A):p.1∈A/\p.2∈A:=by
 obtain⟨i,j,_,h1,h2⟩:=zwh.mp h
 exact⟨qAz.mpr ⟨i,h1⟩,qAz.mpr ⟨j,h2⟩⟩
theorem zaec{A:List Str}(nd:A.Nodup){i:Nat}{x:Str}(h:A[i]?=some x):A.idxOf x=i:=by
 obtain⟨hi,rfl⟩:=qM.mp h
 exact List.Nodup.idxOf_getElem nd i hi
theorem zwi{A:List Str}(nd:A.Nodup){p:Str×Str}:p∈prs A↔p.1∈A/\p.2∈A/\A.idxOf p.1<A.idxOf p.2:=by
 constructor
 ·intro h
  obtain⟨i,j,hij,h1,h2⟩:=zwh.mp h
  exact⟨(zyh h).1,(zyh h).2,by rw[zaec nd h1,zaec nd h2];exact hij⟩
 ·rintro⟨h1,h2,h3⟩
  exact zwh.mpr ⟨_,_,h3,by rw[qG (qAh h1),qBW],by rw[qG (qAh h2),qBW]⟩
noncomputable def okP(W:Web)(bs:List (List Str))(p:Str×Str):Bool:=bnB bs [p.1,p.2]&&apB W [p.1,p.2]
noncomputable def zia(W:Web)(bs:List (List Str)):List Arm:=(nm W).map .one++((prs (nm W)).filter (okP W bs)).map λp=>.many [p.1,p.2]
noncomputable def rfA(W:Web):Arm->List Str
 | .one n=>up W n
 | .many ns=>upA W (.many ns)
theorem zwj{W:Web}{a:Arm}{x:Str}:x∈rfA W a↔∃n∈a.parts,x∈up W n:=by
 cases a with
 | one n=>exact⟨λh=>⟨n,qc.mpr rfl,h⟩,λ⟨m,hm,h⟩=>by rw[qc.mp hm]at h;exact h⟩
 | many ns=>exact zamh
theorem zco{W:Web}{a b x:Str}:x∈rfA W (.many [a,b])↔x∈up W a\/x∈up W b:=by
 rw[zwj]
 show(∃n∈[a,b],x∈up W n)↔_
 simp
theorem ap2{W:Web}{x y:Str}:apB W [x,y]=true↔x∉up W y:=by
 simp[apB,List.zipIdx]
theorem bn2{bs:List (List Str)}{x y:Str}:bnB bs [x,y]=true↔∃b∈bs,x∈b/\y∈b:=by
 simp[bnB]
theorem zim{W:Web}{bs:List (List Str)}{a:Arm}:a∈zia W bs↔(∃n∈nm W,a=.one n)\/∃x y,a=.many [x,y]/\(x,y)∈prs (nm W)/\bnB bs [x,y]=true/\x∉up W y:=by
 unfold zia
 rw[qh,qm,qm]
 constructor
 ·rintro(⟨n,hn,rfl⟩|⟨⟨x,y⟩,hp,rfl⟩)
  ·exact .inl ⟨n,hn,rfl⟩
  ·obtain⟨h1,h2⟩:=qAl.mp hp
   obtain⟨h3,h4⟩:=qA4.mp h2
   exact .inr ⟨x,y,rfl,h1,h3,ap2.mp h4⟩
 ·rintro(⟨n,hn,rfl⟩|⟨x,y,rfl,h1,h2,h3⟩)
  ·exact .inl ⟨n,hn,rfl⟩
  ·exact .inr ⟨(x,y),qAl.mpr ⟨h1,qA4.mpr ⟨h2,ap2.mpr h3⟩⟩,rfl⟩
theorem zamq{W:Web}(h:WebOk W){bs:List (List Str)}:(zia W bs).Nodup:=by
 unfold zia
 rw[qBc]
 refine⟨?_,?_,?_⟩
 ·unfold List.Nodup
  rw[qBb]
  exact h.nd.imp λn e=>n (by cases e;rfl)
 ·unfold List.Nodup
  rw[qBb]
  refine((zajh h.nd).filter _).imp λ{a b} n e=>n ?_
  obtain⟨a1,a2⟩:=a
  obtain⟨b1,b2⟩:=b
  cases e;rfl
 ·rintro a ha b hb rfl
  obtain⟨_,_,rfl⟩:=qm.mp ha
  obtain⟨_,_,e⟩:=qm.mp hb
  cases e
theorem zmy{W:Web}{bs:List (List Str)}{a:Arm}(h:a∈zia W bs):∀n∈a.parts,n∈nm W:=by
 rcases zim.mp h with⟨n,hn,rfl⟩|⟨x,y,rfl,h1,_⟩
 ·intro m hm;rw[qc.mp hm];exact hn
 ·intro m hm
  obtain⟨p1,p2⟩:=zyh h1
  rcases(show m=x\/m=y by simpa [Arm.parts]using hm)with rfl|rfl
  ·exact p1
  ·exact p2
noncomputable def zfu(W:Web)(bs:List (List Str))(k o:Str):List Arm:=(zia W bs).filter λa=>decide (k∈rfA W a)&&decide (o∈rfA W a)
noncomputable def inB(W:Web)(b a:Arm):Bool:=(rfA W b).all λx=>decide (x∈rfA W a)
noncomputable def arEq:Arm->Arm->Bool
 | .one a,.one b=>decide (a=b)
 | .many a,.many b=>decide (a=b)
 | _,_=>false
theorem zaed{a b:Arm}:arEq a b=true↔a=b:=by
 cases a<;>cases b<;>simp[arEq]
noncomputable def zfr(W:Web)(bs:List (List Str))(k o:Str):List Arm:=(zfu W bs k o).filter λa=>!((zfu W bs k o).any λb=>!(arEq b a)&&inB W b a)
noncomputable def zfs(W:Web)(k o:Str):Arm:=if o∈up W k then .one k else if k∈up W o then .one o else .many ((nm W).filter λn=>decide (n∈[k,o]))
theorem zqk{α:Type}{p:α->Bool}{m:α}:∀{l:List α},l.Nodup->m∈l->p m=true->(∀a∈l,p a=true->a=m)->l.filter p=[m]
 | [],_,hm,_,_=>nomatch hm
 | a::l,nd,hm,hp,hu=>by
  obtain⟨n1,n2⟩:=qAK.mp nd
  by_cases e:a=m
  ·subst e
   rw[qCb hp]
   congr 1
   exact qCh.mpr λb hb hpb=>n1 (hu b (qJ _ hb) hpb▸hb)
  ·rw[qCc λz=>e (hu a (qW ..) z)]
   exact zqk n2 ((qX.mp hm).resolve_left λz=>e z.symm) hp λb hb=>hu b (qJ _ hb)
theorem zfz{W:Web}{bs:List (List Str)}{k o:Str}{a:Arm}:a∈zfu W bs k o↔a∈zia W bs/\k∈rfA W a/\o∈rfA W a:=by
 unfold zfu
 rw[qAl,qA4,decide_eq_true_iff,decide_eq_true_iff]
theorem zyi{W:Web}{a b:Arm}:inB W b a=true↔∀x∈rfA W b,x∈rfA W a:=by
 unfold inB
 rw[qAS]
 exact⟨λh x hx=>of_decide_eq_true (h x hx),λh x hx=>decide_eq_true (h x hx)⟩
theorem zub{W:Web}(h:WebOk W){bs:List (List Str)}{k o:Str}{m:Arm}(hm:m∈zfu W bs k o)(hl:∀a∈zfu W bs k o,inB W m a=true)(hu:∀a∈zfu W bs k o,inB W a m=true->a=m):zfr W bs k o=[m]:=by
 unfold zfr
 refine zqk ((zamq h).filter _) hm ?_ λa ha hp=>?_
 ·rw[qB4,qB3]
  intro b hb z
  obtain⟨z1,z2⟩:=qA4.mp z
  rw[hu b hb z2,zaed.mpr rfl]at z1
  cases z1
 ·by_cases e:a=m
  ·exact e
  ·rw[qB4,qB3]at hp
   exact absurd (qA4.mpr ⟨by rw[qB4,Bool.eq_false_iff];exact λz=>e (zaed.mp z).symm,hl a ha⟩) (hp m hm)
theorem zamr{W:Web}(h:WebOk W){k n e:Str}(hk:k∈nm W)(h1:n∈up W k)(h2:e∈up W n):e∈up W k:=zxy h _ (qBM _) hk h1 h2
theorem zams{W:Web}(h:WebOk W){a:Arm}(ha:∀n∈a.parts,n∈nm W){z e:Str}(h1:z∈rfA W a)(h2:e∈up W z):e∈rfA W a:=by
 obtain⟨n,hn,hz⟩:=zwj.mp h1
 exact zwj.mpr ⟨n,hn,zamr h (ha n hn) hz h2⟩
theorem zql{W:Web}(h:WebOk W){bs:List (List Str)}{k o:Str}(hk:k∈nm W)(ho:o∈up W k):zfr W bs k o=[.one k]/\zfr W bs o k=[.one k]:=by
 have key:∀{p q:Str},(p=k/\q=o)\/(p=o/\q=k)->zfr W bs p q=[.one k]:=by
  intro p q hpq
  have ms:∀{a:Arm},a∈zfu W bs p q->a∈zia W bs/\k∈rfA W a:=λ{a} ha=>by
   obtain⟨h1,h2,h3⟩:=zfz.mp ha
   rcases hpq with⟨rfl,rfl⟩|⟨rfl,rfl⟩
   ·exact⟨h1,h2⟩
   ·exact⟨h1,h3⟩
  refine zub h ?_ (λa ha=>?_) λa ha hi=>?_
  ·have s:=zdt h hk
   refine zfz.mpr ⟨zim.mpr (.inl ⟨k,hk,rfl⟩),?_⟩
   rcases hpq with⟨rfl,rfl⟩|⟨rfl,rfl⟩
   ·exact⟨s,ho⟩
   ·exact⟨ho,s⟩
  ·obtain⟨h1,h2⟩:=ms ha
   exact zyi.mpr λx hx=>zams h (zmy h1) h2 hx
  ·obtain⟨h1,h2⟩:=ms ha
   have hi:=zyi.mp hi
   rcases zim.mp h1 with⟨n,hn,rfl⟩|⟨x,y,rfl,hp,_,hxy⟩
   ·rw[zom h hk hn h2 (hi n (zdt h hn))]
   ·obtain⟨p1,p2,p3⟩:=(zwi h.nd).mp hp
    have hx:=hi x (zco.mpr (.inl (zdt h p1)))
    have hy:=hi y (zco.mpr (.inr (zdt h p2)))
    rcases zco.mp h2 with z|z
    ·have e:=zom h hk p1 z hx
     subst e
     rcases zyd h _ (qBM _) p1 hy with e|e
     ·rw[e]at p3;exact absurd p3 (qAZ _)
     ·exact absurd e (Nat.lt_asymm p3)
    ·have e:=zom h hk p2 z hy
     subst e
     exact absurd hx hxy
 exact⟨key (.inl ⟨rfl,rfl⟩),key (.inr ⟨rfl,rfl⟩)⟩
theorem zqm{W:Web}(h:WebOk W){bs:List (List Str)}{x y:Str}(hx:x∈nm W)(hy:y∈nm W)(hi:(nm W).idxOf x<(nm W).idxOf y)(h1:y∉up W x)(h2:x∉up W y)(hb:bnB bs [x,y]=true):zfr W bs x y=[.many [x,y]]/\zfr W bs y x=[.many [x,y]]:=by
 have key:∀{p q:Str},(p=x/\q=y)\/(p=y/\q=x)->zfr W bs p q=[.many [x,y]]:=by
  intro p q hpq
  have ms:∀{a:Arm},a∈zfu W bs p q->a∈zia W bs/\x∈rfA W a/\y∈rfA W a:=λ{a} ha=>by
   obtain⟨g1,g2,g3⟩:=zfz.mp ha
   rcases hpq with⟨rfl,rfl⟩|⟨rfl,rfl⟩
   ·exact⟨g1,g2,g3⟩
   ·exact⟨g1,g3,g2⟩
  have sx:=zdt h hx
  have sy:=zdt h hy
  refine zub h ?_ (λa ha=>?_) λa ha hin=>?_
  ·refine zfz.mpr ⟨zim.mpr (.inr ⟨x,y,rfl,(zwi h.nd).mpr ⟨hx,hy,hi⟩,hb,h2⟩),?_⟩
   rcases hpq with⟨rfl,rfl⟩|⟨rfl,rfl⟩
   ·exact⟨zco.mpr (.inl sx),zco.mpr (.inr sy)⟩
   ·exact⟨zco.mpr (.inr sy),zco.mpr (.inl sx)⟩
  ·obtain⟨g1,g2,g3⟩:=ms ha
   refine zyi.mpr λz hz=>?_
   rcases zco.mp hz with z1|z1
   ·exact zams h (zmy g1) g2 z1
   ·exact zams h (zmy g1) g3 z1
  ·obtain⟨g1,g2,g3⟩:=ms ha
   have hin:=zyi.mp hin
   have ix:∀{u:Str},u∈nm W->u∈rfA W a->x∈up W u->u=x:=λ{u} hu hua hxu=>by
    rcases zco.mp (hin u hua)with z|z
    ·exact(zom h hx hu hxu z).symm
    ·exact absurd (zamr h hy z hxu) h2
   have iy:∀{u:Str},u∈nm W->u∈rfA W a->y∈up W u->u=y:=λ{u} hu hua hyu=>by
    rcases zco.mp (hin u hua)with z|z
    ·exact absurd (zamr h hx z hyu) h1
    ·exact(zom h hy hu hyu z).symm
   have nxy:x≠y:=λe=>by rw[e]at hi;exact absurd hi (qAZ _)
   rcases zim.mp g1 with⟨n,hn,rfl⟩|⟨u,v,rfl,hp,_,huv⟩
   ·exact absurd ((ix hn (zdt h hn) g2).symm.trans (iy hn (zdt h hn) g3)) nxy
   ·obtain⟨p1,p2,p3⟩:=(zwi h.nd).mp hp
    have eu:∀{w:Str},x∈up W u->u=x:=λ{w} z=>ix p1 (zco.mpr (.inl (zdt h p1))) z
    have eux:x∈up W u->u=x:=λz=>ix p1 (zco.mpr (.inl (zdt h p1))) z
    have evx:x∈up W v->v=x:=λz=>ix p2 (zco.mpr (.inr (zdt h p2))) z
    have euy:y∈up W u->u=y:=λz=>iy p1 (zco.mpr (.inl (zdt h p1))) z
    have evy:y∈up W v->v=y:=λz=>iy p2 (zco.mpr (.inr (zdt h p2))) z
    rcases zco.mp g2 with a1|a1<;>rcases zco.mp g3 with b1|b1
    ·exact absurd ((eux a1).symm.trans (euy b1)) nxy
    ·rw[eux a1,evy b1]
    ·have p3:(nm W).idxOf u<(nm W).idxOf v:=p3
     rw[evx a1,euy b1]at p3
     exact absurd p3 (Nat.lt_asymm hi)
    ·exact absurd ((evx a1).symm.trans (evy b1)) nxy
 exact⟨key (.inl ⟨rfl,rfl⟩),key (.inr ⟨rfl,rfl⟩)⟩
theorem zuc{W:Web}(h:WebOk W){x y:Str}(hx:x∈nm W)(hy:y∈nm W)(hi:(nm W).idxOf x<(nm W).idxOf y):((nm W).filter λn=>decide (n∈[x,y]))=[x,y]/\((nm W).filter λn=>decide (n∈[y,x]))=[x,y]:=by
 have e:=zmb h.nd (xs:=[x,y]) ⟨λz hz=>by rcases qX.mp hz with rfl|hz;exact hx;rw[qc.mp hz];exact hy,by simpa using hi⟩
 refine⟨e,?_⟩
 rw[<- e]
 refine qB2 λn _=>?_
 simp[or_comm]
theorem zahs{W:Web}(h:WebOk W){bs:List (List Str)}{k o:Str}(hk:k∈nm W)(ho:o∈nm W)(hb:bnB bs [k,o]=true):zfr W bs k o=[zfs W k o]/\zfr W bs o k=[zfs W k o]:=by
 unfold zfs
 by_cases h1:o∈up W k
 ·rw[if_pos h1];exact zql h hk h1
 ·rw[if_neg h1]
  by_cases h2:k∈up W o
  ·rw[if_pos h2];exact(zql h ho h2).symm
  ·rw[if_neg h2]
   have hb':bnB bs [o,k]=true:=by
    obtain⟨b,b1,b2,b3⟩:=bn2.mp hb
    exact bn2.mpr ⟨b,b1,b3,b2⟩
   rcases Nat.lt_trichotomy ((nm W).idxOf k) ((nm W).idxOf o)with z|z|z
   ·rw[(zuc h hk ho z).1];exact zqm h hk ho z h1 h2 hb
   ·have e:k=o:=by
     have a1:=qBW (qAh hk)
     have a2:=qBW (qAh ho)
     rw[<- a1,<- a2]
     congr 1
    subst e
    exact absurd (zdt h hk) h1
   ·rw[(zuc h ho hk z).2];exact(zqm h ho hk z h2 h1 hb').symm
noncomputable def zhd(W:Web)(bs:List (List Str)):zdb:=(zia W bs).map λa=>(armD a,zaw (rfA W a))
theorem zaji{W:Web}(h:WebOk W):ups W=(nm W).map λn=>(n,up W n):=by
 have k:=zfw W
 have nd:=h.nd
 rw[<- k]at nd ⊢
 rw[qAQ]
 refine(List.map_id _).symm.trans (qAo λp hp=>?_)
 have m:p.1∈nm W:=by rw[<- k];exact qm.mpr ⟨p,hp,rfl⟩
 have e:=zlj (W:=W) m
 have:∀{l:List (Str×List Str)},(l.map (·.1)).Nodup->p∈l->l.lookup p.1=some p.2:=by
  intro l
  induction l with
  | nil=>intro _ z;cases z
  | cons q l ih=>
   intro nd z
   rw[qU,qAK]at nd
   rw[ql]
   rcases qX.mp z with rfl|z
   ·rw[show(p.1==p.1)=true from beq_self_eq_true _]
   ·have:(p.1==q.1)=false:=beq_eq_false_iff_ne.mpr λe=>nd.1 (qm.mpr ⟨p,z,e⟩)
    rw[this];exact ih nd.2 z
 have e2:=this nd hp
 rw[e]at e2
 exact Prod.ext rfl (qR e2).symm
theorem zasa{W:Web}(h:WebOk W):dS zaw (ups W)=((nm W).map Arm.one).map λa=>(armD a,zaw (rfA W a)):=by
 rw[zaji h]
 unfold dS
 rw[qAQ,qAQ];rfl
noncomputable abbrev prD(p:Str×Str):PyData:=zfy [p.1,p.2]
theorem zro{W:Web}(h:WebOk W){bs:List (List Str)}(hb:bs.length<1000){A B C:Sl}:∀(ps:List (Str×Str))(rows:zdb)(s6:Sl),(∀p∈ps,p.1∈nm W/\p.2∈nm W)->ps.Nodup->(∀z∈rows,∀p∈ps,mkD z.1≠mkD (prD p))->rows.length+ps.length<4000->
  zsv 5 6 (zje (tTru (zbu 2 zca (zad (eVar 1) (zad (eVar 6) aNil)))) (tTru (zbu 2 zdh (zad (eVar 2) (zad (eVar 6) aNil))))) (zbu 2 zgq (zad (eVar 2) (zad (eVar 6) aNil))) (ps.map prD) rows [A,.pl (srtD bs),.pl (.dict (dS zaw (ups W))),B,C,.no,s6] =
   some (rows++((ps.filter (okP W bs)).map λp=>(Arm.many [p.1,p.2])).map λa=>(armD a,zaw (rfA W a)))
 | [],rows,s6,_,_,_,_=>by
  show some rows=_
  rw[List.filter_nil,qA9,qA9,qu]
 | p::ps,rows,s6,hm,nd,hd,hl=>by
  obtain⟨n1,n2⟩:=qAK.mp nd
  obtain⟨p1,p2⟩:=hm p (qW ..)
  have e1:zbu 2 zca (zad (eVar 1) (zad (eVar 6) aNil)) [A,.pl (srtD bs),.pl (.dict (dS zaw (ups W))),B,C,.no,.pl (prD p)]=some (vb (bnB bs [p.1,p.2])):=zeo (n:=2) (rs:=[⟨srtD bs,false,[]⟩,⟨prD p,false,[]⟩]) rfl rfl (zaea hb (by simp))
  have e2:zbu 2 zdh (zad (eVar 2) (zad (eVar 6) aNil)) [A,.pl (srtD bs),.pl (.dict (dS zaw (ups W))),B,C,.no,.pl (prD p)]=some (vb (apB W [p.1,p.2])):=zeo (n:=2) (rs:=[⟨.dict (dS zaw (ups W)),false,[]⟩,⟨prD p,false,[]⟩]) rfl rfl (zamp h (λx hx=>by rcases(show x=p.1\/x=p.2 by simpa using hx)with rfl|rfl;exact p1;exact p2) (by simp))
  have e3:zbu 2 zgq (zad (eVar 2) (zad (eVar 6) aNil)) [A,.pl (srtD bs),.pl (.dict (dS zaw (ups W))),B,C,.no,.pl (prD p)]=some ⟨zaw (rfA W (.many [p.1,p.2])),true,[]⟩:=zeo (n:=2) (rs:=[⟨.dict (dS zaw (ups W)),false,[]⟩,⟨armD (.many [p.1,p.2]),false,[]⟩]) rfl rfl (zzn h (a:=.many [p.1,p.2]) (λx hx=>by rcases(show x=p.1\/x=p.2 by simpa [Arm.parts]using hx)with rfl|rfl;exact p1;exact p2))
  have t:zje (tTru (zbu 2 zca (zad (eVar 1) (zad (eVar 6) aNil)))) (tTru (zbu 2 zdh (zad (eVar 2) (zad (eVar 6) aNil)))) [A,.pl (srtD bs),.pl (.dict (dS zaw (ups W))),B,C,.no,.pl (prD p)]=some (okP W bs p):=by
   unfold zje tTru okP
   rw[e1,e2]
   cases bnB bs [p.1,p.2]<;>rfl
  rw[qU]
  unfold zsv
  rw[show([A,.pl (srtD bs),.pl (.dict (dS zaw (ups W))),B,C,.no,s6]:DEnv).set 6 (.pl (prD p))=[A,.pl (srtD bs),.pl (.dict (dS zaw (ups W))),B,C,.no,.pl (prD p)]from rfl,t,qF]
  by_cases ho:okP W bs p=true
  ·rw[ho,if_pos rfl,e3,qF,if_pos ⟨⟨rfl,(by show 6<7;decide)⟩,λz hz=>hd z hz p (qW ..),by rw[qj]at hl;omega⟩,qCb ho]
   refine(zro h hb ps (rows++[(prD p,zaw (rfA W (.many [p.1,p.2])))]) _ (λq hq=>hm q (qJ _ hq)) n2 (λz hz q hq e=>?_) (by rw[qQ,qCl];rw[qj]at hl;omega)).trans ?_
   ·rcases qh.mp hz with hz|hz
    ·exact hd z hz q (qJ _ hq) e
    ·rw[qc.mp hz]at e
     have e:(some (Sum.inr [Sum.inr p.1,Sum.inr p.2]):Option MK)=some (Sum.inr [Sum.inr q.1,Sum.inr q.2]):=e
     simp at e
     exact n1 (by rw[show p=q from Prod.ext e.1 e.2];exact hq)
   ·rw[qBE];rfl
  ·have ho':okP W bs p=false:=Bool.eq_false_iff.mpr ho
   rw[ho',qCc ho]
   exact zro h hb ps rows _ (λq hq=>hm q (qJ _ hq)) n2 (λz hz q hq=>hd z hz q (qJ _ hq)) (by rw[qj]at hl;omega)
theorem zaee{A:List Str}(h:A.length<=12):(prs A).length<=144:=by
 unfold prs
 rw[List.length_flatMap]
 simp only[qD,qAr]
 have:∀(l:List (Str×Nat)),(l.map λq=>A.length - (q.2+1)).sum<=12 * l.length:=by
  intro l
  induction l with
  | nil=>simp
  | cons q l ih=>
   rw[qU,List.sum_cons,qj]
   omega
 have:=this A.zipIdx
 rw[qBz]at this
 omega
theorem zaht{A:List Str}(hl:A.length<=12){a b c:Sl}:zmg ["number","first","second"] [3] (zpr (zad (eVar 3) aNil)) (gT 2 (zbg 0 (zbg 1 zgd))) zdv (zax (eSl (eVar 3) (zfe (eOp addD (eVar 0) (eC (.int 1)))) zgl)) (gN 2) zdv (eTup (zad (eVar 1) (zad (eVar 2) aNil))) [a,b,c,.ac (zaa A),.no,.no,.no]=some ⟨.list ((prs A).map prD),true,if zcd ((prs A).map prD)=true then[]else[3]++[3]⟩:=by
 have k:zhh (gT 2 (zbg 0 (zbg 1 zgd))) zdv (zax (eSl (eVar 3) (zfe (eOp addD (eVar 0) (eC (.int 1)))) zgl)) (gN 2) zdv (eTup (zad (eVar 1) (zad (eVar 2) aNil))) [.no,.no,.no,.pl (zaa A)] (A.zipIdx.map λ(p:Str×Nat)=>PyData.tuple [.int (p.2:Int),.str p.1])=some (A.zipIdx.flatMap λq=>(A.drop (q.2+1)).map λy=>prD (q.1,y)):=by
  refine zjg λp hp=>⟨[.pl (.int (p.2:Int)),.pl (.str p.1),.no,.pl (zaa A)],rfl,rfl,?_⟩
  unfold innL
  have it:zax (eSl (eVar 3) (zfe (eOp addD (eVar 0) (eC (.int 1)))) zgl) [.pl (.int (p.2:Int)),.pl (.str p.1),.no,.pl (zaa A)]=some ((A.drop (p.2+1)).map .str,[]):=by
   show some (cutD (A.map .str) (some ((p.2+1:Nat):Int)) none,([]:List Nat))=_
   rw[zamj,<- qCa]
  rw[it,qF,if_pos (by show((A.drop (p.2+1)).map PyData.str).length<300;rw[qD,qAr];omega)]
  exact zfk λy _=>⟨[.pl (.int (p.2:Int)),.pl (.str p.1),.pl (.str y),.pl (zaa A)],rfl,rfl,_,rfl,rfl⟩
 have e:(A.zipIdx.flatMap λq=>(A.drop (q.2+1)).map λy=>prD (q.1,y))=(prs A).map prD:=by
  unfold prs
  rw[List.map_flatMap]
  simp only[qAQ]
  rfl
 rw[e]at k
 exact zxz (own:=["number","first","second"]) (fr:=[3]) (fi:=zpr (zad (eVar 3) aNil)) (bs:=[3]) (env:=[a,b,c,.ac (zaa A),.no,.no,.no]) (by
  show some (zqw (A.map .str),[3])=_
  rw[zxx]) (by rw[qD,qBz];omega) k
theorem zaef{W:Web}(h:WebOk W){bs:List (List Str)}(hb:bs.length<1000):zfm [webD W,srtD bs]=some (zhd W bs):=by
 have hn:=zmd h
 unfold zfm mxFn zte
 show zvg _ _ [.pl (webD W),.pl (srtD bs),.no,.no,.no,.no,.no]=_
 have e1:sSet 2 (zbu 1 zgo (zad (eVar 0) aNil)) [.pl (webD W),.pl (srtD bs),.no,.no,.no,.no,.no]=some (.nx [.pl (webD W),.pl (srtD bs),.ac (.dict (dS zaw (ups W))),.no,.no,.no,.no]):=zmh (zeo (n:=1) (rs:=[⟨webD W,false,[]⟩]) rfl rfl (zza h))
 have e2:sSet 3 (zbu 1 zew (zad (eVar 0) aNil)) [.pl (webD W),.pl (srtD bs),.ac (.dict (dS zaw (ups W))),.no,.no,.no,.no]=some (.nx [.pl (webD W),.pl (srtD bs),.ac (.dict (dS zaw (ups W))),.ac (zaa (nm W)),.no,.no,.no]):=zmh (zeo (n:=1) (rs:=[⟨webD W,false,[]⟩]) rfl rfl (zpv (by have:=h.len;omega)))
 obtain⟨C,e3⟩:∃C:Sl,sSet 4 (zmg ["number","first","second"] [3] (zpr (zad (eVar 3) aNil)) (gT 2 (zbg 0 (zbg 1 zgd))) zdv (zax (eSl (eVar 3) (zfe (eOp addD (eVar 0) (eC (.int 1)))) zgl)) (gN 2) zdv (eTup (zad (eVar 1) (zad (eVar 2) aNil)))) [.pl (webD W),.pl (srtD bs),.ac (.dict (dS zaw (ups W))),.ac (zaa (nm W)),.no,.no,.no]=some (.nx [.pl (webD W),.pl (srtD bs),.ac (.dict (dS zaw (ups W))),C,.ac (.list ((prs (nm W)).map prD)),.no,.no]):=by
  rw[zmh (zaht hn)]
  by_cases f:zcd ((prs (nm W)).map prD)=true
  ·rw[if_pos f];exact⟨_,rfl⟩
  ·rw[if_neg f];exact⟨_,rfl⟩
 unfold zvg
 rw[e1]
 simp only[qF]
 rw[e2]
 simp only[qF]
 rw[e3]
 simp only[qF]
 refine(if_pos (e:=none) (show(5:Nat)≠6 by decide)).trans ?_
 refine(zro h hb (A:=.pl (webD W)) (B:=C) (C:=.pl (.list ((prs (nm W)).map prD))) (prs (nm W)) (dS zaw (ups W)) .no (λp hp=>zyh hp) (zajh h.nd) (λz hz p _ e=>?_) ?_).trans ?_
 ·unfold dS at hz
  obtain⟨q,_,rfl⟩:=qm.mp hz
  cases e
 ·have:=zaee hn
  unfold dS
  rw[qD,zaji h,qD];omega
 ·rw[zasa h,<- qp];rfl
theorem zahu(k:Str):∀ks:List Str,(insS ks k).length<=ks.length+1:=λks=>by
 unfold insS
 split
 ·omega
 ·rw[qQ];simp
theorem zaeg:∀(l ks:List Str),(l.foldl insS ks).length<=ks.length+l.length
 | [],ks=>by simp
 | x::l,ks=>by
  rw[qBQ]
  have h1:=zaeg l (insS ks x)
  have h2:=zahu x ks
  rw[qj];omega
theorem zaeh{W:Web}(h:WebOk W):∀(ns:List Str)(ks:List Str),(ns.foldl (λks n=>(up W n).foldl insS ks) ks).length<=ks.length+1000 * ns.length
 | [],ks=>by simp
 | n::ns,ks=>by
  rw[qBQ]
  have h1:=zaeh h ns ((up W n).foldl insS ks)
  have h2:=zaeg (up W n) ks
  have h3:=zxv h n
  rw[qj];omega
noncomputable def shN(k:Nat)(d:PyData):Prop:=PyData.canLay0 d=true/\PyData.depth d<=k
theorem zaei{k:Nat}:∀{ds:List PyData},(∀d∈ds,shN k d)->qAx ds=true/\qB7 ds<=k
 | [],_=>⟨by unfold qAx;rfl,by unfold qB7;omega⟩
 | d::ds,h=>by
  obtain⟨h1,h2⟩:=h d (by simp)
  obtain⟨h3,h4⟩:=zaei λx hx=>h x (qJ _ hx)
  unfold qAx qB7
  exact⟨by rw[h1,h3];rfl,by omega⟩
theorem zaqr{k:Nat}{ds:List PyData}(h:∀d∈ds,shN k d):shN (k+1) (.tuple ds):=by
 obtain⟨h1,h2⟩:=zaei h
 unfold shN PyData.canLay0 PyData.depth
 exact⟨h1,by omega⟩
theorem zaej{k:Nat}{ds:List PyData}(h:∀d∈ds,shN k d):shN (k+1) (.list ds):=by
 obtain⟨h1,h2⟩:=zaei h
 unfold shN PyData.canLay0 PyData.depth
 exact⟨h1,by omega⟩
theorem zajj{k:Nat}{x:Str}(h:qAv x=true):shN k (.str x):=by unfold shN PyData.canLay0 PyData.depth;exact⟨h,by omega⟩
theorem zaqs{k:Nat}:∀d∈([]:List PyData),shN k d:=λd h=>by cases h
theorem zamt{k:Nat}{d:PyData}{ds:List PyData}(h:shN k d)(t:∀x∈ds,shN k x):∀x∈d::ds,shN k x:=λx hx=>(qX.mp hx).elim (λe=>e▸h) (t x)
theorem zks{k:Nat}{d:PyData}(h:shN k d)(hk:k<=64):qAn d=true:=by
 unfold qAn
 rw[h.1,decide_eq_true (qAM h.2 hk)];rfl
theorem zaek{k:Nat}{xs:List Str}(h:LowS xs):∀d∈xs.map PyData.str,shN k d:=λd hd=>by
 obtain⟨x,hx,rfl⟩:=qm.mp hd
 exact zajj (h x hx)
noncomputable def mkA:Arm->MK
 | .one n=>.inl (.inr n)
 | .many ns=>.inr (ns.map .inr)
theorem zqn:∀ns:List Str,zva (ns.map .str)=some (ns.map Sum.inr)
 | []=>rfl
 | n::ns=>by
  show((zva (ns.map .str)).map λks=>(Sum.inr n:Key)::ks)=_
  rw[zqn ns];rfl
theorem zajk(a:Arm):mkD (armD a)=some (mkA a):=by
 cases a with
 | one n=>rfl
 | many ns=>
  show(zva (ns.map .str)).map Sum.inr=_
  rw[zqn];rfl
theorem zoq:∀{xs ys:List Str},xs.map (Sum.inr:Str->Key)=ys.map Sum.inr->xs=ys
 | [],[],_=>rfl
 | [],_::_,e=>by cases e
 | _::_,[],e=>by cases e
 | x::xs,y::ys,e=>by
  rw[qU,qU]at e
  injection e with e1 e2
  cases e1
  rw[zoq e2]
theorem zamu{a b:Arm}(e:mkA a=mkA b):a=b:=by
 cases a<;>cases b
 ·cases e;rfl
 ·cases e
 ·cases e
 ·rename_i x y
  have e:(Sum.inr (x.map Sum.inr):MK)=Sum.inr (y.map Sum.inr):=e
  rw[zoq (qBL e)]
theorem zud{α:Type}{p:α->Bool}{a:α}(h:∀b,p b=true↔b=a):∀{l:List α},a∈l->l.find? p=some a
 | [],z=>nomatch z
 | b::l,z=>by
  by_cases e:p b=true
  ·rw[qAu e,(h b).mp e]
  ·rw[qAi e]
   exact zud h ((qX.mp z).resolve_left λq=>e ((h b).mpr q.symm))
theorem zahv{W:Web}{bs:List (List Str)}{a:Arm}(ha:a∈zia W bs):zagx (zhd W bs) (armD a)=some (zaw (rfA W a)):=by
 unfold zagx zhd
 rw[zajk,qF,List.find?_map,zud (a:=a) (λb=>?_) ha]
 ·rfl
 ·show decide (mkD (armD b)=some (mkA a))=true↔_
  rw[decide_eq_true_iff,zajk]
  exact⟨λe=>zamu (qR e),λe=>by rw[e]⟩
theorem zyj{W:Web}{bs:List (List Str)}{a:Arm}{f:EF}{env:DEnv}{fr:Bool}{b:List Nat}(hf:f env=some ⟨armD a,fr,b⟩)(ha:a∈zia W bs):zio (zhd W bs) f env=some ⟨zaw (rfA W a),false,[]⟩:=by
 unfold zio
 rw[hf,qF]
 show(zagx (zhd W bs) (armD a)).map _=_
 rw[zahv ha];rfl
theorem zyk{W:Web}(h:WebOk W){bs:List (List Str)}:(zia W bs).length<=200:=by
 unfold zia
 have h1:=zmd h
 have h2:=zaee h1
 have h3:=qBq (okP W bs) (prs (nm W))
 rw[qQ,qD,qD];omega
theorem zamv{W:Web}(h:WebOk W){bs:List (List Str)}{k o:Str}:zadn (zhd W bs) [.no,.pl (.str k),.pl (.str o),.no]=some ⟨.list ((zfu W bs k o).map armD),true,[]⟩:=by
 have c:zcv (gN 0) (zje (zay (eDIn false (eVar 2) (zio (zhd W bs) (eVar 0)))) (zay (eDIn false (eVar 3) (zio (zhd W bs) (eVar 0))))) (eVar 0) [.no,.no,.pl (.str k),.pl (.str o)] ((zia W bs).map armD)=some ((zfu W bs k o).map armD):=by
  refine zdl (λa=>decide (k∈rfA W a)&&decide (o∈rfA W a)) λa ha=>⟨[.pl (armD a),.no,.pl (.str k),.pl (.str o)],rfl,?_,λ_=>⟨_,rfl,rfl⟩⟩
  unfold zje
  rw[zhw (zadj (neg:=false) (x:=k) (ks:=rfA W a) rfl (zyj (a:=a) rfl ha)),zhw (zadj (neg:=false) (x:=o) (ks:=rfA W a) rfl (zyj (a:=a) rfl ha))]
  cases decide (k∈rfA W a)<;>rfl
 have e:=zhu (own:=["arm"]) (fr:=[0,1,2]) (fi:=zagz (zhd W bs)) (g:=gN 0) (bs:=[]) (env:=[.no,.pl (.str k),.pl (.str o),.no]) (ds:=(zia W bs).map armD) (by unfold zagz zhd;rw[qAQ];rfl) (by rw[qD];have:=zyk h (bs:=bs);omega) c
 refine e.trans ?_
 rw[show capA [0,1,2] [.no,.pl (.str k),.pl (.str o),.no]=[]from rfl,qu,ite_self]
theorem zaqt{W:Web}(h:WebOk W){bs:List (List Str)}{a:Arm}(ha:a∈zia W bs):(rfA W a).length<100000:=by
 rcases zim.mp ha with⟨n,hn,rfl⟩|⟨x,y,rfl,_⟩
 ·have:=zxv h n
  show(up W n).length<100000
  omega
 ·have:=zaeh h [x,y] []
  show(upA W (.many [x,y])).length<100000
  unfold upA
  exact Nat.lt_of_le_of_lt this (by show 0+1000 * 2<100000;decide)
theorem zamw(a b:Arm):qAf (armD a) (armD b)=arEq a b:=by
 cases a with
 | one x=>
  cases b with
  | one y=>
   show(x==y)=decide (x=y)
   exact qAc.mpr (by rw[beq_iff_eq,decide_eq_true_iff])
  | many ys=>rfl
 | many xs=>
  cases b with
  | one y=>rfl
  | many ys=>
   show PyData.eqvAll (xs.map .str) (ys.map .str)=decide (xs=ys)
   rw[zyc]
   exact qAc.mpr (by rw[beq_iff_eq,decide_eq_true_iff])
theorem zael{a:Arm}(h:∀n∈a.parts,qAv n=true):shN 1 (armD a):=by
 cases a with
 | one n=>exact zajj (h n (qc.mpr rfl))
 | many ns=>exact zaqr (zaek h)
theorem zaqu{a b:Arm}(ha:∀n∈a.parts,qAv n=true)(hb:∀n∈b.parts,qAv n=true):neD (armD a) (armD b)=some (.bool (!(arEq a b)),false):=by
 unfold neD eqOk
 rw[zks (zael ha) (by decide),zks (zael hb) (by decide),Bool.and_self,Bool.or_true,if_pos rfl,zamw]
theorem zaem{W:Web}(h:WebOk W)(lo:LowS (nm W)){bs:List (List Str)}{k o:Str}:∃cs,zvl (zhd W bs) [.no,.pl (.str k),.pl (.str o),.ac (.list ((zfu W bs k o).map armD))]=some ⟨.list ((zfr W bs k o).map armD),true,cs⟩:=by
 have low:∀{a:Arm},a∈zfu W bs k o->∀n∈a.parts,qAv n=true:=λ{a} ha n hn=>lo n (zmy (zfz.mp ha).1 n hn)
 have hlen:(zfu W bs k o).length<=200:=qAM (qBq _ _) (zyk h)
 have c:zcv (gN 0) (znh (tTru (eCB (anyD λbs=>bs.any id) (zad (zdy ["one"] [0,1] (zax (eVar 2)) (gN 0) zdv (eAnd (eOp neD (eVar 0) (eVar 1)) (zbu 2 zck (zad (zio (zhd W bs) (eVar 0)) (zad (zio (zhd W bs) (eVar 1)) aNil))))) aNil)))) (eVar 0) [.no,.no,.pl (.list ((zfu W bs k o).map armD))] ((zfu W bs k o).map armD)=some ((zfr W bs k o).map armD):=by
  refine zdl (λa=>!((zfu W bs k o).any λb=>!(arEq b a)&&inB W b a)) λa ha=>⟨[.pl (armD a),.no,.pl (.list ((zfu W bs k o).map armD))],rfl,?_,λ_=>⟨_,rfl,rfl⟩⟩
  have ci:zcv (gN 0) zdv (eAnd (eOp neD (eVar 0) (eVar 1)) (zbu 2 zck (zad (zio (zhd W bs) (eVar 0)) (zad (zio (zhd W bs) (eVar 1)) aNil)))) [.no,.pl (armD a),.no] ((zfu W bs k o).map armD)=some ((zfu W bs k o).map λb=>.bool (!(arEq b a)&&inB W b a)):=by
   refine zfk λb hb=>⟨[.pl (armD b),.pl (armD a),.no],rfl,rfl,vb (!(arEq b a)&&inB W b a),?_,rfl⟩
   have e1:eOp neD (eVar 0) (eVar 1) [.pl (armD b),.pl (armD a),.no]=some (vb (!(arEq b a))):=by
    show(neD (armD b) (armD a)).bind _=_
    rw[zaqu (low hb) (low ha)];rfl
   have e2:zbu 2 zck (zad (zio (zhd W bs) (eVar 0)) (zad (zio (zhd W bs) (eVar 1)) aNil)) [.pl (armD b),.pl (armD a),.no]=some (vb (inB W b a)):=
    zeo (n:=2) (rs:=[⟨zaw (rfA W b),false,[]⟩,⟨zaw (rfA W a),false,[]⟩]) (zadm (zyj (a:=b) rfl (zfz.mp hb).1) (zta (zyj (a:=a) rfl (zfz.mp ha).1))) rfl (zwg (zaqt h (zfz.mp hb).1))
   unfold eAnd
   rw[e1,e2]
   cases arEq b a<;>rfl
  have e:=zami (zhu (own:=["one"]) (fr:=[0,1]) (fi:=zax (eVar 2)) (bs:=[]) (env:=[.pl (armD a),.no,.pl (.list ((zfu W bs k o).map armD))]) rfl (by rw[qD];omega) ci)
  unfold znh tTru
  rw[e];rfl
 exact⟨_,zhu (own:=["arm"]) (fr:=[0,3]) (fi:=zax (eVar 3)) (bs:=[3]) (env:=[.no,.pl (.str k),.pl (.str o),.ac (.list ((zfu W bs k o).map armD))]) rfl (by rw[qD];omega) c⟩
theorem zamx{W:Web}(h:WebOk W)(lo:LowS (nm W)){bs:List (List Str)}{k o:Str}:zcb (zhd W bs) (.str k) (.str o)=some (.list ((zfr W bs k o).map armD)):=by
 obtain⟨cs,e⟩:=zaem h lo (bs:=bs) (k:=k) (o:=o)
 unfold zcb gMA
 rw[zamv h,qF,if_pos ⟨rfl,rfl⟩,e,qF,if_pos rfl]
theorem zaen{W:Web}(h:WebOk W)(lo:LowS (nm W)){bs:List (List Str)}(hb:bs.length<1000){k o:Str}(hk:k∈nm W)(ho:o∈nm W):zfn [webD W,srtD bs,.str k,.str o]=some (.list ((zfr W bs k o).map armD),true):=by
 have e1:zbu 2 zds (zad (eVar 0) (zad (eLst (zad (eVar 2) (zad (eVar 3) aNil))) aNil)) [.pl (webD W),.pl (srtD bs),.pl (.str k),.pl (.str o)]=some ⟨.none,false,[]⟩:=zeo (n:=2) (rs:=[⟨webD W,false,[]⟩,⟨zaa [k,o],true,[]⟩]) rfl rfl (zrf (by have:=h.len;omega) λn hn=>by rcases(show n=k\/n=o by simpa using hn)with rfl|rfl;exact hk;exact ho)
 have e2:zxp 2 zfm zcb (zad (eVar 0) (zad (eVar 1) aNil)) (eVar 2) (eVar 3) [.pl (webD W),.pl (srtD bs),.pl (.str k),.pl (.str o)]=some ⟨.list ((zfr W bs k o).map armD),true,[]⟩:=by
  show((zfm [webD W,srtD bs]).bind λrows=>_)=_
  rw[zaef h hb,qF]
  show((zcb (zhd W bs) (.str k) (.str o)).bind λd=>_)=_
  rw[zamx h lo];rfl
 exact zvi (env:=[.pl (webD W),.pl (srtD bs),.pl (.str k),.pl (.str o)]) rfl (zgp (zama e1) (zxr e2))
theorem zaqv{W:Web}(h:WebOk W)(lo:LowS (nm W)){bs:List (List Str)}(hl:bs.length<1000){k o:Str}(hk:k∈nm W)(ho:o∈nm W)(hb:bnB bs [k,o]=true):zfn [webD W,srtD bs,.str k,.str o]=some (.list [armD (zfs W k o)],true)/\zfn [webD W,srtD bs,.str o,.str k]=some (.list [armD (zfs W k o)],true):=by
 obtain⟨a1,a2⟩:=zahs h hk ho hb
 rw[zaen h lo hl hk ho,zaen h lo hl ho hk,a1,a2]
 exact⟨rfl,rfl⟩
theorem zaeo{A:List Str}(hA:0<A.length)(hA2:A.length<1000){d:PyData}{n m:Nat}(ok:Fok d n)(hn:n+10<=10 ^ 12)(hm:m<=5){S s2 s4 s6 s7:Sl} :
  ∃env',zgg (gN 6) (fSeq (fSet 7 (fOp ixD (zaj 0 (eVar 1)) (zam 0 2 zag (zal (zaj 0 (eCB lenD (zad (eVar 1) aNil))) (fNil 0)))))
  (fIfP (zay (eOp (inD true) (eVar 7) (eVar 5))) (fApp 5 (zaj 0 (eVar 7))) fNx)) (zdj 0 m) [.ac d,.pl (zaa A),s2,S,s4,.ac (zaa []),s6,s7]=some (.nx env')/\∃(b:List Str) (d':PyData) (s6 s7:Sl),env'=[.ac d',.pl (zaa A),s2,S,s4,.ac (zaa b),s6,s7]/\(∀x∈b,x∈A)/\b.length<=m/\Fok d' (n+m):=by
 refine zcn (λk env=>∃(b:List Str)(d':PyData)(s6 s7:Sl),env=[.ac d',.pl (zaa A),s2,S,s4,.ac (zaa b),s6,s7]/\(∀x∈b,x∈A)/\b.length<=k/\Fok d' (n+k)) ⟨[],d,s6,s7,rfl,λ_ h=>(nomatch h),qK _,ok⟩ ?_
 rintro k env hk ⟨b,d0,t6,t7,rfl,h1,h3,ok0⟩
 obtain⟨x,d1,hx,ok1,q⟩:=zaqq (i:=1) (r:=[.pl (zaa A),s2,S,s4,.ac (zaa b),.pl (.int (k:Int)),t7]) (xs:=A) rfl ok0 (by omega) hA hA2
 have t:=zop (neg:=true) (i:=7) (j:=5) (env:=[.ac d1,.pl (zaa A),s2,S,s4,.ac (zaa b),.pl (.int (k:Int)),.pl (.str x)]) (x:=x) (xs:=b) rfl rfl (.inr rfl)
 by_cases hin:x∈b
 ·exact⟨_,_,rfl,(zap (zdi q)).trans (zkp (by rw[decide_eq_true hin]at t;exact t)),b,d1,_,_,rfl,h1,by omega,ok1⟩
 ·refine⟨_,[.ac d1,.pl (zaa A),s2,S,s4,.ac (zaa (b++[x])),.pl (.int (k:Int)),.pl (.str x)],rfl,(zap (zdi q)).trans ((zon (by rw[decide_eq_false hin]at t;exact t)).trans ?_),b++[x],d1,_,_,rfl,λy hy=>?_,by rw[qQ];simp;omega,ok1⟩
  ·refine(zma (env:=[.ac d1,.pl (zaa A),s2,S,s4,.ac (zaa b),.pl (.int (k:Int)),.pl (.str x)]) rfl (zby (f:=0) (e:=eVar 7) (d0:=d1) (d:=.str x) (fr:=false) rfl rfl) rfl (by rw[qD];omega) (by simp)).trans ?_
   show some (OutF.nx [.ac d1,.pl (zaa A),s2,S,s4,.ac (.list (b.map .str++[.str x])),.pl (.int (k:Int)),.pl (.str x)])=_
   rw[zaeb]
  ·rcases qh.mp hy with z|z
   ·exact h1 y z
   ·rw[qc.mp z];exact hx
noncomputable def inA(A b:List Str):Prop:=(∀x∈b,x∈A)/\b.length<=5
theorem zue{A:List Str}(hA:0<A.length)(hA2:A.length<1000){d:PyData}{n:Nat}(ok:Fok d n)(hn:n+100<=10 ^ 12):∃(bs:List (List Str))(d':PyData),zbo d [zaa A,.int 5]=some (srtD bs,true,d')/\bs.length<=2/\(∀b∈bs,inA A b)/\Fok d' (n+20):=by
 obtain⟨m,d1,e1,hm,ok1⟩:=zaqp (r:=[.pl (zaa A),.pl (.int 5),.ac (srtD []),.no,.no,.no,.no]) ok (by omega) 3 (by decide) (by decide)
 have loop:=zcn (g:=gN 4) (n:=m) (body:=(fSeq (fS (sSet 5 (eLst aNil)))
  (fSeq (znq (zdp (zal (zam 0 2 zag (zal (zaj 0 (eOp addD (eVar 2) (eC (.int 1)))) (fNil 0))) (fNil 0))) (gN 6)
  (fSeq (fSet 7 (fOp ixD (zaj 0 (eVar 1)) (zam 0 2 zag (zal (zaj 0 (eCB lenD (zad (eVar 1) aNil))) (fNil 0)))))
  (fIfP (zay (eOp (inD true) (eVar 7) (eVar 5))) (fApp 5 (zaj 0 (eVar 7))) fNx)))
  (fApp 3 (zaj 0 (eVar 5)))))) (env:=[.ac d1,.pl (zaa A),.pl (.int 5),.ac (srtD []),.no,.no,.no,.no])
  (λk env=>∃(bs:List (List Str)) (d':PyData) (s4 s5 s6 s7:Sl),env=[.ac d',.pl (zaa A),.pl (.int 5),.ac (srtD bs),s4,s5,s6,s7]/\bs.length=k/\(∀b∈bs,inA A b)/\Fok d' (n+1+6 * k)) ⟨[],d1,_,_,_,_,rfl,rfl,λ_ h=>(nomatch h),ok1⟩ (by
   rintro k env hk ⟨bs,d0,s4,s5,s6,s7,rfl,hl,hb,ok0⟩
   obtain⟨q,d2,e2,q0,q1,ok2⟩:=zcy (f:=0) (e:=eOp addD (eVar 2) (eC (.int 1))) (env:=[.ac d0,.pl (zaa A),.pl (.int 5),.ac (srtD bs),.pl (.int (k:Int)),.ac (zaa []),s6,s7]) rfl (zkd (i:=5) (j:=1) rfl rfl) ok0 (by omega) (by decide) (by decide)
   obtain⟨j,rfl⟩:∃j:Nat,q=(j:Int):=⟨q.toNat,by omega⟩
   obtain⟨env',hl2,b,d3,t6,t7,rfl,b1,b3,ok3⟩:=zaeo hA hA2 ok2 (by omega) (m:=j) (by omega) (s2:=.pl (.int 5)) (S:=.ac (srtD bs)) (s4:=.pl (.int (k:Int))) (s6:=s6) (s7:=s7)
   refine⟨[.ac d0,.pl (zaa A),.pl (.int 5),.ac (srtD bs),.pl (.int (k:Int)),s5,s6,s7],[.ac d3,.pl (zaa A),.pl (.int 5),.ac (srtD (bs++[b])),.pl (.int (k:Int)),.pl (zaa b),t6,t7],rfl,(zap (show fS (sSet 5 (eLst aNil)) [.ac d0,.pl (zaa A),.pl (.int 5),.ac (srtD bs),.pl (.int (k:Int)),s5,s6,s7]=some (.nx [.ac d0,.pl (zaa A),.pl (.int 5),.ac (srtD bs),.pl (.int (k:Int)),.ac (zaa []),s6,s7])from rfl)).trans ((zap ((zmw (zkr (f:=0) (d:=d2) e2 rfl (by omega))).trans hl2)).trans ?_),bs++[b],d3,_,_,_,_,rfl,by rw[qQ,hl];rfl,λc hc=>?_,ok3.mono (by omega)⟩
   ·refine(zma (bs:=[5]) (fr:=false) (d:=zaa b) (env:=[.ac d3,.pl (zaa A),.pl (.int 5),.ac (srtD bs),.pl (.int (k:Int)),.ac (zaa b),t6,t7]) rfl (zko (f:=0) (e:=eVar 5) (d0:=d3) rfl rfl (show(0:Nat)∉[5] by decide)) rfl (by rw[qD];omega) (by decide)).trans ?_
    show some (OutF.nx [.ac d3,.pl (zaa A),.pl (.int 5),.ac (.list (bs.map zaa++[zaa b])),.pl (.int (k:Int)),.pl (zaa b),t6,t7])=_
    rw[zahr]
   ·rcases qh.mp hc with z|z
    ·exact hb c z
    ·rw[qc.mp z];exact⟨b1,by omega⟩)
 obtain⟨env',hl,bs,d2,s4,s5,s6,s7,rfl,hbl,hb,ok2⟩:=loop
 refine⟨bs,d2,?_,by omega,hb,ok2.mono (by omega)⟩
 have run:zdc [.ac d,.pl (zaa A),.pl (.int 5),.no,.no,.no,.no,.no]=some (.rt (srtD bs) true [.ac d2,.pl (zaa A),.pl (.int 5),.no,s4,s5,s6,s7]):=by
  unfold zdc
  exact(zap (show fS (sSet 3 (eLst aNil)) [.ac d,.pl (zaa A),.pl (.int 5),.no,.no,.no,.no,.no]=some (.nx [.ac d,.pl (zaa A),.pl (.int 5),.ac (srtD []),.no,.no,.no,.no])from rfl)).trans ((zap ((zmw (zkr (f:=0) (d:=d1) e1 rfl (by omega))).trans hl)).trans rfl)
 unfold zbo fnF
 show(zdc [.ac d,.pl (zaa A),.pl (.int 5),.no,.no,.no,.no,.no]).bind _=_
 rw[run];rfl
theorem zahw(b:List Str)(k:Nat)(x:Str):insL (b.map PyData.str) k (.str x)=(insL b k x).map .str:=by
 unfold insL
 rw[qp,qU,qBg,qCa]
theorem zor{b:List Str}{k:Nat}{x y:Str}:y∈insL b k x↔y=x\/y∈b:=by
 unfold insL
 rw[qh,qX]
 constructor
 ·rintro(h|h|h)
  ·exact .inr (qA3 h)
  ·exact .inl h
  ·exact .inr (qCt h)
 ·rintro(h|h)
  ·exact .inr (.inl h)
  ·rw[<- qBp k b,qh]at h
   exact h.imp id .inr
theorem zyl{d:PyData}{n:Nat}(ok:Fok d n)(hn:n+10<=10 ^ 12){b:List Str}(hl:b.length<100){i:Nat}{x:Str}{A K O s5 s6:Sl}(hi:∀d:PyData,eVar i [.ac d,A,K,O,.ac (zaa b),s5,s6]=some (vs x)) :
  ∃(k:Nat)(d':PyData),fIns 4 (zal (zam 0 2 zag (zal (zaj 0 (eOp addD (eCB lenD (zad (eVar 4) aNil)) (eC (.int 1)))) (fNil 0))) (zal (zaj 0 (eVar i)) (fNil 0))) [.ac d,A,K,O,.ac (zaa b),s5,s6]=some (.nx [.ac d',A,K,O,.ac (zaa (insL b k x)),s5,s6])/\Fok d' (n+1):=by
 obtain⟨q,d1,e1,k0,k1,ok1⟩:=zcy (f:=0) (e:=eOp addD (eCB lenD (zad (eVar 4) aNil)) (eC (.int 1))) (env:=[.ac d,A,K,O,.ac (zaa b),s5,s6]) rfl (zkd (ztb rfl) rfl) ok (by omega) (by omega) (by rw[qD];omega)
 rw[qD]at k1
 obtain⟨k,rfl⟩:∃k:Nat,q=(k:Int):=⟨q.toNat,by omega⟩
 have e3:=zhc e1 (ziz (f:=0) (d:=d1) (zby (f:=0) (e:=eVar i) (env:=[.ac d1,A,K,O,.ac (zaa b),s5,s6]) (d0:=d1) (d:=.str x) (fr:=false) rfl (hi d1)) rfl)
 refine⟨k,d1,?_,ok1⟩
 unfold fIns
 show(Option.bind (zal (zam 0 2 zag (zal (zaj 0 (eOp addD (eCB lenD (zad (eVar 4) aNil)) (eC (.int 1)))) (fNil 0))) (zal (zaj 0 (eVar i)) (fNil 0)) [.ac d,A,K,O,.ac (zaa b),s5,s6]) _)=_
 rw[e3,qF]
 show(if 0<=(k:Int)/\((k:Int).toNat)<=(b.map PyData.str).length/\(b.map PyData.str).length<100000/\4∉([]:List Nat)then some (OutF.nx [.ac d1,A,K,O,.ac (.list (insL (b.map PyData.str) ((k:Int).toNat) (.str x))),s5,s6])else none)=_
 rw[qD,if_pos ⟨by omega,by omega,by omega,by simp⟩,zahw]
 rfl
theorem zuf{A:List Str}(hA:0<A.length)(hA2:A.length<1000){k o:Str}(hk:k∈A)(ho:o∈A){d:PyData}{n:Nat}(ok:Fok d n)(hn:n+100<=10 ^ 12):∃(b:List Str)(d':PyData),zcf d [zaa A,.str k,.str o]=some (zaa b,true,d')/\k∈b/\o∈b/\(∀x∈b,x∈A)/\b.length<=5/\Fok d' (n+20):=by
 obtain⟨m,d1,e1,hm,ok1⟩:=zaqp (r:=[.pl (zaa A),.pl (.str k),.pl (.str o),.ac (zaa [k]),.no,.no]) ok (by omega) 4 (by decide) (by decide)
 have loop:=zcn (g:=gN 5) (n:=m) (body:=(fSeq (fSet 6 (fOp ixD (zaj 0 (eVar 1)) (zam 0 2 zag (zal (zaj 0 (eCB lenD (zad (eVar 1) aNil))) (fNil 0)))))
  (fIfP (zje (zay (eOp (inD true) (eVar 6) (eVar 4))) (zay (eOp neD (eVar 6) (eVar 3)))) (fIns 4 (zal (zam 0 2 zag (zal (zaj 0 (eOp addD (eCB lenD (zad (eVar 4) aNil)) (eC (.int 1)))) (fNil 0))) (zal (zaj 0 (eVar 6)) (fNil 0)))) fNx))) (env:=[.ac d1,.pl (zaa A),.pl (.str k),.pl (.str o),.ac (zaa [k]),.no,.no])
  (λj env=>∃(b:List Str) (d':PyData) (s5 s6:Sl),env=[.ac d',.pl (zaa A),.pl (.str k),.pl (.str o),.ac (zaa b),s5,s6]/\k∈b/\(∀x∈b,x∈A)/\b.length<=1+j/\Fok d' (n+1+2 * j)) ⟨[k],d1,_,_,rfl,qc.mpr rfl,λx hx=>by rw[qc.mp hx];exact hk,by simp,ok1⟩ (by
   rintro j env hj ⟨b,d0,s5,s6,rfl,h1,h2,h3,ok0⟩
   obtain⟨x,d2,hx,ok2,q⟩:=zaqq (i:=1) (r:=[.pl (zaa A),.pl (.str k),.pl (.str o),.ac (zaa b),.pl (.int (j:Int)),s6]) (xs:=A) rfl ok0 (by omega) hA hA2
   have t1:=zop (neg:=true) (i:=6) (j:=4) (env:=[.ac d2,.pl (zaa A),.pl (.str k),.pl (.str o),.ac (zaa b),.pl (.int (j:Int)),.pl (.str x)]) (x:=x) (xs:=b) rfl rfl (.inr rfl)
   have t2:zay (eOp neD (eVar 6) (eVar 3)) [.ac d2,.pl (zaa A),.pl (.str k),.pl (.str o),.ac (zaa b),.pl (.int (j:Int)),.pl (.str x)]=some (!(x==o)):=zhw (zarx rfl rfl)
   have t:∃c,zje (zay (eOp (inD true) (eVar 6) (eVar 4))) (zay (eOp neD (eVar 6) (eVar 3))) [.ac d2,.pl (zaa A),.pl (.str k),.pl (.str o),.ac (zaa b),.pl (.int (j:Int)),.pl (.str x)]=some c:=by
    unfold zje
    rw[t1,t2]
    cases decide (x∈b)<;>exact⟨_,rfl⟩
   obtain⟨c,t⟩:=t
   cases c with
   | false=>exact⟨_,_,rfl,(zap (zdi q)).trans (zkp t),b,d2,_,_,rfl,h1,h2,by omega,ok2.mono (by omega)⟩
   | true=>
    obtain⟨p,d3,e3,ok3⟩:=zyl ok2 (by omega) (b:=b) (by omega) (i:=6) (x:=x) (A:=.pl (zaa A)) (K:=.pl (.str k)) (O:=.pl (.str o)) (s5:=.pl (.int (j:Int))) (s6:=.pl (.str x)) (λ_=>rfl)
    refine⟨_,_,rfl,(zap (zdi q)).trans ((zon t).trans e3),insL b p x,d3,_,_,rfl,zor.mpr (.inr h1),λy hy=>?_,by rw[zmv];omega,ok3.mono (by omega)⟩
    rcases zor.mp hy with rfl|hy
    ·exact hx
    ·exact h2 y hy)
 obtain⟨env',hl,b,d2,s5,s6,rfl,h1,h2,h3,ok2⟩:=loop
 have t:=zop (neg:=true) (i:=3) (j:=4) (env:=[.ac d2,.pl (zaa A),.pl (.str k),.pl (.str o),.ac (zaa b),s5,s6]) (x:=o) (xs:=b) rfl rfl (.inr rfl)
 have fin:∀{c:List Str}{d3:PyData},(fIfP (zay (eOp (inD true) (eVar 3) (eVar 4))) (fIns 4 (zal (zam 0 2 zag (zal (zaj 0 (eOp addD (eCB lenD (zad (eVar 4) aNil)) (eC (.int 1)))) (fNil 0))) (zal (zaj 0 (eVar 3)) (fNil 0)))) fNx) [.ac d2,.pl (zaa A),.pl (.str k),.pl (.str o),.ac (zaa b),s5,s6]=some (.nx [.ac d3,.pl (zaa A),.pl (.str k),.pl (.str o),.ac (zaa c),s5,s6])->zcf d [zaa A,.str k,.str o]=some (zaa c,true,d3):=λ{c d3} e=>by
  have run:zgr [.ac d,.pl (zaa A),.pl (.str k),.pl (.str o),.no,.no,.no]=some (.rt (zaa c) true [.ac d3,.pl (zaa A),.pl (.str k),.pl (.str o),.no,s5,s6]):=by
   unfold zgr
   exact(zap (show fS (sSet 4 (eLst (zad (eVar 2) aNil))) [.ac d,.pl (zaa A),.pl (.str k),.pl (.str o),.no,.no,.no]=some (.nx [.ac d,.pl (zaa A),.pl (.str k),.pl (.str o),.ac (zaa [k]),.no,.no])from rfl)).trans ((zap ((zmw (zkr (f:=0) (d:=d1) e1 rfl (by omega))).trans hl)).trans ((zap e).trans rfl))
  unfold zcf fnF
  show(zgr [.ac d,.pl (zaa A),.pl (.str k),.pl (.str o),.no,.no,.no]).bind _=_
  rw[run];rfl
 by_cases hin:o∈b
 ·exact⟨b,d2,fin (zkp (by rw[decide_eq_true hin]at t;exact t)),h1,hin,h2,by omega,ok2.mono (by omega)⟩
 ·obtain⟨p,d3,e3,ok3⟩:=zyl ok2 (by omega) (b:=b) (by omega) (i:=3) (x:=o) (A:=.pl (zaa A)) (K:=.pl (.str k)) (O:=.pl (.str o)) (s5:=s5) (s6:=s6) (λ_=>rfl)
  refine⟨insL b p o,d3,fin ((zon (by rw[decide_eq_false hin]at t;exact t)).trans e3),zor.mpr (.inr h1),zor.mpr (.inl rfl),λy hy=>?_,by rw[zmv];omega,ok3.mono (by omega)⟩
  rcases zor.mp hy with rfl|hy
  ·exact ho
  ·exact h2 y hy
theorem zamy{W:Web}(h:WebOk W){k o:Str}(hk:k∈nm W)(ho:o∈nm W):zcr [zaa (nm W),.dict (dS zaa (tabW W W)),.str k,.str o]=some (.list [armD (zfs W k o)],true):=by
 have t:∀{x y:Str}{i j:Nat},x∈nm W->eVar i [.pl (zaa (nm W)),.pl (.dict (dS zaa (tabW W W))),.pl (.str k),.pl (.str o)]=some (vs x)->eVar j [.pl (zaa (nm W)),.pl (.dict (dS zaa (tabW W W))),.pl (.str k),.pl (.str o)]=some (vs y)->zay (eOp (inD false) (eVar j) (zcs 1 (eVar i))) [.pl (zaa (nm W)),.pl (.dict (dS zaa (tabW W W))),.pl (.str k),.pl (.str o)]=some (decide (y∈up W x)):=λ{x y i j} hx hi hj=>by
  rw[zhw (e_in (neg:=false) (xs:=hdg W x) hj (zajb (d:=zaa (hdg W x)) (.inl rfl) hi (by rw[zlh,zwe hx];rfl)))]
  show some (decide (y∈hdg W x))=_
  rw[decide_eq_decide.mpr (zvk h)]
 have c:zdy ["_law_name"] [2,3] (zax (eVar 0)) (gN 0) (zay (eOp (inD false) (eVar 0) (eTup (zad (eVar 1) (zad (eVar 2) aNil))))) (eVar 0) [.pl (zaa (nm W)),.pl (.dict (dS zaa (tabW W W))),.pl (.str k),.pl (.str o)]=some ⟨zaa ((nm W).filter λn=>decide (n∈[k,o])),true,[]⟩:=by
  have ci:zcv (gN 0) (zay (eOp (inD false) (eVar 0) (eTup (zad (eVar 1) (zad (eVar 2) aNil))))) (eVar 0) [.no,.pl (.str k),.pl (.str o)] ((nm W).map .str)=some (((nm W).filter λn=>decide (n∈[k,o])).map .str):=by
   refine zdl (λn=>decide (n∈[k,o])) λn _=>⟨[.pl (.str n),.pl (.str k),.pl (.str o)],rfl,zhw ?_,λ_=>⟨_,rfl,rfl⟩⟩
   show some (⟨.bool (([k,o].map PyData.str).any λe=>qAf e (.str n)),false,[]⟩:Val)=_
   rw[zxs]
  refine(zhu (own:=["_law_name"]) (fr:=[2,3]) (fi:=zax (eVar 0)) (bs:=[]) (env:=[.pl (zaa (nm W)),.pl (.dict (dS zaa (tabW W W))),.pl (.str k),.pl (.str o)]) rfl (by rw[qD];have:=zmd h;omega) ci).trans ?_
  rw[zle,if_pos rfl];rfl
 refine zvi (env:=[.pl (zaa (nm W)),.pl (.dict (dS zaa (tabW W W))),.pl (.str k),.pl (.str o)]) rfl ?_
 unfold zfs
 by_cases h1:o∈up W k
 ·rw[if_pos h1]
  have t1:=t (i:=2) (j:=3) hk rfl rfl
  rw[decide_eq_true h1]at t1
  exact zaiw (if_t t1 rfl)
 ·rw[if_neg h1]
  have t1:=t (i:=2) (j:=3) hk rfl rfl
  rw[decide_eq_false h1]at t1
  refine zgp (if_f t1 rfl) ?_
  by_cases h2:k∈up W o
  ·rw[if_pos h2]
   have t2:=t (i:=3) (j:=2) ho rfl rfl
   rw[decide_eq_true h2]at t2
   exact zaiw (if_t t2 rfl)
  ·rw[if_neg h2]
   have t2:=t (i:=3) (j:=2) ho rfl rfl
   rw[decide_eq_false h2]at t2
   refine zgp (if_f t2 rfl) ?_
   have e:eCB zwv (zad (zdy ["_law_name"] [2,3] (zax (eVar 0)) (gN 0) (zay (eOp (inD false) (eVar 0) (eTup (zad (eVar 1) (zad (eVar 2) aNil))))) (eVar 0)) aNil) [.pl (zaa (nm W)),.pl (.dict (dS zaa (tabW W W))),.pl (.str k),.pl (.str o)]=some ⟨zfy ((nm W).filter λn=>decide (n∈[k,o])),false,[]⟩:=by
    unfold eCB
    rw[zta c];rfl
   refine zxr (bs:=[]) ?_
   unfold eLst
   rw[zta e];rfl
theorem zahx(ns:List Int)(z:Int):Fok (.list (zjz ns z)) 0:=by
 refine⟨_,_,0,rfl,?_,qA2 _ (by decide),Int.lt_trans (qAk _ (by decide)) (by decide),Int.le_refl _,Int.le_refl _⟩
 have:∀c:Int,0<=(if(if c<0 then -c else c)<10 ^ 18 then 0 else(if c<0 then -c else c)):=λc=>by
  by_cases h:c<0
  ·rw[if_pos h];split<;>omega
  ·rw[if_neg h];split<;>omega
 exact this _
noncomputable def zos(ns:List Int):SFf:=(fSeq (zagr 1 10 ns)
  (fSeq (fFor (zfg (zad (eOp addD (eVar 1) (eC (.int 1))) aNil)) (gN 2)
  (fSeq (zacn 3 2 ns)
  (fSeq (fIfP (zay (eOp eqD (eVar 2) (eVar 1))) (fS (sSet 3 (eLst (zad (eC (.int 0)) (zad (eC (.int 0)) (zad (eC (.int 0)) aNil)))))) fNx)
  (fSeq (fSet 4 (zam 3 2 zbl (zal (fOp addD (zaj 3 (eC (.int 2))) (zam 3 2 zag (zal (zaj 3 (eC (.int 9))) (fNil 3)))) (fNil 3))))
  (fSeq (fSet 5 (zam 3 2 zek (zal (zaj 3 (eVar 4)) (fNil 3))))
  (fSeq (fS (sSet 6 (zbu 1 zdz (zad (eVar 5) aNil))))
  (fSeq (fSet 7 (fOp ixD (zaj 3 (eVar 4)) (zam 3 2 zag (zal (zaj 3 (eCB lenD (zad (eVar 4) aNil))) (fNil 3)))))
  (fSeq (fSet 8 (fOp ixD (zaj 3 (eVar 4)) (zam 3 2 zag (zal (zaj 3 (eCB lenD (zad (eVar 4) aNil))) (fNil 3)))))
  (fSeq (fSet 9 (fSl (zam 3 3 zbo (zal (zaj 3 (eVar 4)) (zal (zaj 3 (eC (.int 5))) (fNil 3)))) zgl (zfe (eC (.int 1)))))
  (fSeq (fIns 9 (zal (zam 3 2 zag (zal (zaj 3 (eOp addD (eCB lenD (zad (eVar 9) aNil)) (eC (.int 1)))) (fNil 3))) (zal (zam 3 4 zcf (zal (zaj 3 (eVar 4)) (zal (zaj 3 (eVar 7)) (zal (zaj 3 (eVar 8)) (fNil 3))))) (fNil 3))))
  (fSeq (fS (sSet 10 (zdy ["_law_some"] [] (zax (eVar 9)) (gN 0) zdv (eCB zuu (zad (eVar 0) aNil)))))
  (fSeq (fS (sSet 11 (zbu 4 zfn (zad (eVar 5) (zad (eVar 10) (zad (eVar 7) (zad (eVar 8) aNil)))))))
  (fSeq (fS (sSet 12 (zbu 4 zcr (zad (eVar 4) (zad (eVar 6) (zad (eVar 7) (zad (eVar 8) aNil)))))))
  (fSeq (fIfP (tOrF (znh (tTru (eIsi "list" (eVar 11)))) (tOrF (zay (eOp neD (eVar 11) (eVar 12))) (zay (eOp neD (eVar 10) (eVar 9))))) (zhs (eC (.bool false))) fNx)
  (fSeq (fApp 11 (zaj 3 (eIxV 4 (eC (.int 0)))))
  (fIfP (zay (eOp neD (zbu 4 zfn (zad (eVar 5) (zad (eVar 10) (zad (eVar 8) (zad (eVar 7) aNil))))) (eVar 12))) (zhs (eC (.bool false))) fNx))))))))))))))))
  (zhs (eC (.bool true)))))
theorem zaqw{a0 a1 a2:Sl}{r:DEnv}{d:PyData}{n:Nat}{xs:List Str}(ok:Fok d n)(hn:n<=10 ^ 12)(h0:0<xs.length)(h1:xs.length<1000):∃(z:Str)(d':PyData),z∈xs/\Fok d' (n+1)/\fOp ixD (zaj 3 (eVar 4)) (zam 3 2 zag (zal (zaj 3 (eCB lenD (zad (eVar 4) aNil))) (fNil 3))) (a0::a1::a2::.ac d::.pl (zaa xs)::r)=some (vs z,a0::a1::a2::.ac d'::.pl (zaa xs)::r):=by
 have e:eVar 4 (a0::a1::a2::.ac d::.pl (zaa xs)::r)=some ⟨zaa xs,false,[]⟩:=rfl
 obtain⟨q,d',e1,k0,k1,ok'⟩:=zcy (f:=3) (e:=eCB lenD (zad (eVar 4) aNil)) (env:=a0::a1::a2::.ac d::.pl (zaa xs)::r) rfl (ztb e) ok hn (by rw[qD];omega) (by rw[qD];omega)
 rw[qD]at k1
 obtain⟨k,rfl⟩:∃k:Nat,q=(k:Int):=⟨q.toNat,by omega⟩
 have hk:k<xs.length:=by omega
 refine⟨xs[k],d',qBI hk,ok',?_⟩
 rw[zmi (w:=ixD) (z:=.str xs[k]) (fr:=false) (zby (f:=3) (d0:=d) rfl e) e1 (by
  show(atI (xs.map PyData.str) (k:Int)).map _=_
  rw[zkt (by rw[qV,qG hk];rfl)];rfl)]
 rfl
theorem zamz(bs:List (List Str))(k:Nat)(b:List Str):insL (bs.map zaa) k (zaa b)=(insL bs k b).map zaa:=by
 unfold insL
 rw[qp,qU,qBg,qCa]
theorem zrp{bs:List (List Str)}{k:Nat}{b c:List Str}:c∈insL bs k b↔c=b\/c∈bs:=by
 unfold insL
 rw[qh,qX]
 constructor
 ·rintro(h|h|h)
  ·exact .inr (qA3 h)
  ·exact .inl h
  ·exact .inr (qCt h)
 ·rintro(h|h)
  ·exact .inr (.inl h)
  ·rw[<- qBp k bs,qh]at h
   exact h.imp id .inr
theorem zaqx{bs:List (List Str)}(h:∀b∈bs,LowS b):qAn (srtD bs)=true:=zks (k:=2) (zaej λd hd=>by
 obtain⟨b,hb,rfl⟩:=qm.mp hd
 exact zaej (zaek (h b hb))) (by decide)
theorem zaep:∀{bs:List (List Str)}{b:List Str},b∈bs->zcd (bs.map zaa)=false:=λ{bs b} h=>by
 unfold zcd
 rw[List.all_eq_false]
 exact⟨zaa b,qm.mpr ⟨b,h,rfl⟩,qI⟩
theorem zzs(ns:List Int){M k:Nat}(hk:k<=20){s3 s4 s5 s6 s7 s8 s9 s10 s11 s12:Sl}:∃t3 t4 t5 t6 t7 t8 t9 t10 t11 t12:Sl,(fSeq (zacn 3 2 ns)
  (fSeq (fIfP (zay (eOp eqD (eVar 2) (eVar 1))) (fS (sSet 3 (eLst (zad (eC (.int 0)) (zad (eC (.int 0)) (zad (eC (.int 0)) aNil)))))) fNx)
  (fSeq (fSet 4 (zam 3 2 zbl (zal (fOp addD (zaj 3 (eC (.int 2))) (zam 3 2 zag (zal (zaj 3 (eC (.int 9))) (fNil 3)))) (fNil 3))))
  (fSeq (fSet 5 (zam 3 2 zek (zal (zaj 3 (eVar 4)) (fNil 3))))
  (fSeq (fS (sSet 6 (zbu 1 zdz (zad (eVar 5) aNil))))
  (fSeq (fSet 7 (fOp ixD (zaj 3 (eVar 4)) (zam 3 2 zag (zal (zaj 3 (eCB lenD (zad (eVar 4) aNil))) (fNil 3)))))
  (fSeq (fSet 8 (fOp ixD (zaj 3 (eVar 4)) (zam 3 2 zag (zal (zaj 3 (eCB lenD (zad (eVar 4) aNil))) (fNil 3)))))
  (fSeq (fSet 9 (fSl (zam 3 3 zbo (zal (zaj 3 (eVar 4)) (zal (zaj 3 (eC (.int 5))) (fNil 3)))) zgl (zfe (eC (.int 1)))))
  (fSeq (fIns 9 (zal (zam 3 2 zag (zal (zaj 3 (eOp addD (eCB lenD (zad (eVar 9) aNil)) (eC (.int 1)))) (fNil 3))) (zal (zam 3 4 zcf (zal (zaj 3 (eVar 4)) (zal (zaj 3 (eVar 7)) (zal (zaj 3 (eVar 8)) (fNil 3))))) (fNil 3))))
  (fSeq (fS (sSet 10 (zdy ["_law_some"] [] (zax (eVar 9)) (gN 0) zdv (eCB zuu (zad (eVar 0) aNil)))))
  (fSeq (fS (sSet 11 (zbu 4 zfn (zad (eVar 5) (zad (eVar 10) (zad (eVar 7) (zad (eVar 8) aNil)))))))
  (fSeq (fS (sSet 12 (zbu 4 zcr (zad (eVar 4) (zad (eVar 6) (zad (eVar 7) (zad (eVar 8) aNil)))))))
  (fSeq (fIfP (tOrF (znh (tTru (eIsi "list" (eVar 11)))) (tOrF (zay (eOp neD (eVar 11) (eVar 12))) (zay (eOp neD (eVar 10) (eVar 9))))) (zhs (eC (.bool false))) fNx)
  (fSeq (fApp 11 (zaj 3 (eIxV 4 (eC (.int 0)))))
  (fIfP (zay (eOp neD (zbu 4 zfn (zad (eVar 5) (zad (eVar 10) (zad (eVar 8) (zad (eVar 7) aNil))))) (eVar 12))) (zhs (eC (.bool false))) fNx))))))))))))))) [.no,.pl (.int (M:Int)),.pl (.int (k:Int)),s3,s4,s5,s6,s7,s8,s9,s10,s11,s12]=some (.nx [.no,.pl (.int (M:Int)),.pl (.int (k:Int)),t3,t4,t5,t6,t7,t8,t9,t10,t11,t12]):=by
 have h1:(zacn 3 2 ns) [.no,.pl (.int (M:Int)),.pl (.int (k:Int)),s3,s4,s5,s6,s7,s8,s9,s10,s11,s12]=some (.nx [.no,.pl (.int (M:Int)),.pl (.int (k:Int)),.ac (.list (zjz ns k)),s4,s5,s6,s7,s8,s9,s10,s11,s12]):=by
  show(if 0<=(k:Int)/\(k:Int)<=1000 then some (OutF.nx [.no,.pl (.int (M:Int)),.pl (.int (k:Int)),.ac (.list (zjz ns k)),s4,s5,s6,s7,s8,s9,s10,s11,s12])else none)=_
  rw[if_pos ⟨by omega,by omega⟩]
 have h2:∃d0,Fok d0 0/\(fIfP (zay (eOp eqD (eVar 2) (eVar 1))) (fS (sSet 3 (eLst (zad (eC (.int 0)) (zad (eC (.int 0)) (zad (eC (.int 0)) aNil)))))) fNx) [.no,.pl (.int (M:Int)),.pl (.int (k:Int)),.ac (.list (zjz ns k)),s4,s5,s6,s7,s8,s9,s10,s11,s12]=some (.nx [.no,.pl (.int (M:Int)),.pl (.int (k:Int)),.ac d0,s4,s5,s6,s7,s8,s9,s10,s11,s12]):=by
  have t:zay (eOp eqD (eVar 2) (eVar 1)) [.no,.pl (.int (M:Int)),.pl (.int (k:Int)),.ac (.list (zjz ns k)),s4,s5,s6,s7,s8,s9,s10,s11,s12]=some ((k:Int)==M):=zhw (zaqc rfl rfl)
  by_cases e:(k:Int)=M
  ·exact⟨.list [.int 0,.int 0,.int 0],⟨0,0,0,rfl,by decide,by decide,by decide,by decide,by decide⟩,(zon (by rw[t,e,beq_self_eq_true])).trans rfl⟩
  ·exact⟨_,zahx ns k,(zkp (by rw[t,beq_eq_false_iff_ne.mpr e])).trans rfl⟩
 obtain⟨d0,ok0,h2⟩:=h2
 generalize hA1:(Sl.pl (.int (M:Int)))=A1 at *
 generalize hA2:(Sl.pl (.int (k:Int)))=A2 at *
 obtain⟨r2,d2,u1,u2,u3,ok2⟩:=zcy (f:=3) (e:=eC (.int 9)) (env:=[.no,A1,A2,.ac d0,s4,s5,s6,s7,s8,s9,s10,s11,s12]) rfl rfl ok0 (by omega) (by decide) (by decide)
 obtain⟨m,em⟩:∃m:Nat,2+r2=(m:Int):=⟨(2+r2).toNat,by omega⟩
 have a4:=zmi (w:=addD) (z:=.int (2+r2)) (fr:=false) (zby (f:=3) (e:=eC (.int 2)) (env:=[.no,A1,A2,.ac d0,s4,s5,s6,s7,s8,s9,s10,s11,s12]) (d0:=d0) (d:=.int 2) (fr:=false) rfl rfl) u1 rfl
 rw[em]at a4
 obtain⟨xs,d3,n1,n2,n3,n4,ok3⟩:=zrn (m:=m) ok2 (by omega) (by omega)
 have h4:(fSet 4 (zam 3 2 zbl (zal (fOp addD (zaj 3 (eC (.int 2))) (zam 3 2 zag (zal (zaj 3 (eC (.int 9))) (fNil 3)))) (fNil 3)))) [.no,A1,A2,.ac d0,s4,s5,s6,s7,s8,s9,s10,s11,s12]=some (.nx [.no,A1,A2,.ac d3,.ac (zaa xs),s5,s6,s7,s8,s9,s10,s11,s12]):=
  zadt (zfq (f:=3) (n:=2) (g:=zbl) (d0:=d0) (d1:=d2) rfl (ziz (f:=3) (d:=d2) a4 rfl) rfl rfl n1 ok3.flat)
 obtain⟨W,d4,w1,w2,w3,ok4⟩:=zzr (xs:=xs) ok3 (by omega) (by omega) n3 (λx hx=>(n4 x hx).1)
 subst w2
 have lo:LowS (nm W):=λx hx=>zadf (n4 x hx).1
 have h5:(fSet 5 (zam 3 2 zek (zal (zaj 3 (eVar 4)) (fNil 3)))) [.no,A1,A2,.ac d3,.ac (zaa (nm W)),s5,s6,s7,s8,s9,s10,s11,s12]=some (.nx [.no,A1,A2,.ac d4,.pl (zaa (nm W)),.ac (webD W),s6,s7,s8,s9,s10,s11,s12]):=by
  have a5:=zfq (f:=3) (n:=2) (g:=zek) (d0:=d3) (d1:=d3) rfl (ziz (f:=3) (d:=d3) (zko (f:=3) (e:=eVar 4) (env:=[.no,A1,A2,.ac d3,.ac (zaa (nm W)),s5,s6,s7,s8,s9,s10,s11,s12]) (d0:=d3) (r:=⟨zaa (nm W),false,[4]⟩) rfl rfl (show(3:Nat)∉[4] by decide)) rfl) rfl rfl w1 ok4.flat
  unfold fSet
  rw[a5];rfl
 have h6:(fS (sSet 6 (zbu 1 zdz (zad (eVar 5) aNil)))) [.no,A1,A2,.ac d4,.pl (zaa (nm W)),.ac (webD W),s6,s7,s8,s9,s10,s11,s12]=some (.nx [.no,A1,A2,.ac d4,.pl (zaa (nm W)),.pl (webD W),.ac (.dict (dS zaa (tabW W W))),s7,s8,s9,s10,s11,s12]):=
  zml ((zmh (zeo (n:=1) (rs:=[⟨webD W,false,[5]⟩]) rfl rfl (zwf w3))).trans rfl)
 have hne:0<(nm W).length:=by omega
 have hW2:(nm W).length<1000:=by omega
 obtain⟨kk,d5,kin,ok5,e7⟩:=zaqw (a0:=.no) (a1:=A1) (a2:=A2) (r:=[.pl (webD W),.ac (.dict (dS zaa (tabW W W))),s7,s8,s9,s10,s11,s12]) ok4 (by omega) hne hW2
 obtain⟨oo,d6,oin,ok6,e8⟩:=zaqw (a0:=.no) (a1:=A1) (a2:=A2) (r:=[.pl (webD W),.ac (.dict (dS zaa (tabW W W))),.pl (.str kk),s8,s9,s10,s11,s12]) ok5 (by omega) hne hW2
 obtain⟨bs,d7,g9,b1,b2,ok7⟩:=zue hne hW2 ok6 (by omega)
 have h9:(fSet 9 (fSl (zam 3 3 zbo (zal (zaj 3 (eVar 4)) (zal (zaj 3 (eC (.int 5))) (fNil 3)))) zgl (zfe (eC (.int 1))))) [.no,A1,A2,.ac d6,.pl (zaa (nm W)),.pl (webD W),.ac (.dict (dS zaa (tabW W W))),.pl (.str kk),.pl (.str oo),s9,s10,s11,s12]=some (.nx [.no,A1,A2,.ac d7,.pl (zaa (nm W)),.pl (webD W),.ac (.dict (dS zaa (tabW W W))),.pl (.str kk),.pl (.str oo),.ac (srtD (bs.take 1)),s10,s11,s12]):=by
  have a:=zfq (f:=3) (n:=3) (g:=zbo) (env:=[.no,A1,A2,.ac d6,.pl (zaa (nm W)),.pl (webD W),.ac (.dict (dS zaa (tabW W W))),.pl (.str kk),.pl (.str oo),s9,s10,s11,s12]) (d0:=d6) (d1:=d6) rfl (zhc (zby (f:=3) (e:=eVar 4) (d0:=d6) (d:=zaa (nm W)) (fr:=false) rfl rfl) (ziz (f:=3) (d:=d6) (zby (f:=3) (e:=eC (.int 5)) (d0:=d6) (d:=.int 5) (fr:=false) rfl rfl) rfl)) rfl rfl g9 ok7.flat
  refine(zadt (e1:=[.no,A1,A2,.ac d7,.pl (zaa (nm W)),.pl (webD W),.ac (.dict (dS zaa (tabW W W))),.pl (.str kk),.pl (.str oo),s9,s10,s11,s12]) (d:=srtD (bs.take 1)) ?_).trans rfl
  unfold fSl
  rw[a]
  show some ((⟨.list (cutD (bs.map zaa) none (some ((1:Nat):Int))),true,[]⟩:Val),_)=_
  rw[zajg,<- qBg]
  rfl
 generalize hc:bs.take 1=cs at h9
 have cl:cs.length<=1:=by rw[<- hc,qAd];omega
 have cb:∀b∈cs,inA (nm W) b:=λb hb=>b2 b (by rw[<- hc]at hb;exact qA3 hb)
 obtain⟨q,d8,e10,q0,q1,ok8⟩:=zcy (f:=3) (e:=eOp addD (eCB lenD (zad (eVar 9) aNil)) (eC (.int 1))) (env:=[.no,A1,A2,.ac d7,.pl (zaa (nm W)),.pl (webD W),.ac (.dict (dS zaa (tabW W W))),.pl (.str kk),.pl (.str oo),.ac (srtD cs),s10,s11,s12]) rfl (zkd (ztb rfl) rfl) ok7 (by omega) (by omega) (by rw[qD];omega)
 rw[qD]at q1
 obtain⟨p,rfl⟩:∃p:Nat,q=(p:Int):=⟨q.toNat,by omega⟩
 obtain⟨b,d9,g10,hkb,hob,hb3,hb5,ok9⟩:=zuf hne hW2 kin oin ok8 (by omega)
 have h10:(fIns 9 (zal (zam 3 2 zag (zal (zaj 3 (eOp addD (eCB lenD (zad (eVar 9) aNil)) (eC (.int 1)))) (fNil 3))) (zal (zam 3 4 zcf (zal (zaj 3 (eVar 4)) (zal (zaj 3 (eVar 7)) (zal (zaj 3 (eVar 8)) (fNil 3))))) (fNil 3)))) [.no,A1,A2,.ac d7,.pl (zaa (nm W)),.pl (webD W),.ac (.dict (dS zaa (tabW W W))),.pl (.str kk),.pl (.str oo),.ac (srtD cs),s10,s11,s12]=some (.nx [.no,A1,A2,.ac d9,.pl (zaa (nm W)),.pl (webD W),.ac (.dict (dS zaa (tabW W W))),.pl (.str kk),.pl (.str oo),.ac (srtD (insL cs p b)),s10,s11,s12]):=by
  have a:=zfq (f:=3) (n:=4) (g:=zcf) (env:=[.no,A1,A2,.ac d8,.pl (zaa (nm W)),.pl (webD W),.ac (.dict (dS zaa (tabW W W))),.pl (.str kk),.pl (.str oo),.ac (srtD cs),s10,s11,s12]) (d0:=d8) (d1:=d8) rfl (zhc (zby (f:=3) (e:=eVar 4) (d0:=d8) (d:=zaa (nm W)) (fr:=false) rfl rfl) (zhc (zby (f:=3) (e:=eVar 7) (d0:=d8) (d:=.str kk) (fr:=false) rfl rfl) (ziz (f:=3) (d:=d8) (zby (f:=3) (e:=eVar 8) (d0:=d8) (d:=.str oo) (fr:=false) rfl rfl) rfl))) rfl rfl g10 ok9.flat
  have e3:=zhc e10 (ziz (f:=3) (d:=d9) a rfl)
  unfold fIns
  show(Option.bind (zal (zam 3 2 zag (zal (zaj 3 (eOp addD (eCB lenD (zad (eVar 9) aNil)) (eC (.int 1)))) (fNil 3))) (zal (zam 3 4 zcf (zal (zaj 3 (eVar 4)) (zal (zaj 3 (eVar 7)) (zal (zaj 3 (eVar 8)) (fNil 3))))) (fNil 3)) _) _)=_
  rw[e3,qF]
  show(if 0<=(p:Int)/\((p:Int).toNat)<=(cs.map zaa).length/\(cs.map zaa).length<100000/\9∉([]:List Nat)then some (OutF.nx [.no,A1,A2,.ac d9,.pl (zaa (nm W)),.pl (webD W),.ac (.dict (dS zaa (tabW W W))),.pl (.str kk),.pl (.str oo),.ac (.list (insL (cs.map zaa) ((p:Int).toNat) (zaa b))),s10,s11,s12])else none)=_
  rw[qD,if_pos ⟨by omega,by omega,by omega,by simp⟩,zamz]
  rfl
 have hbn:bnB (insL cs p b) [kk,oo]=true:=bn2.mpr ⟨b,zrp.mpr (.inl rfl),hkb,hob⟩
 have hll:(insL cs p b).length<=2:=by rw[zmv];omega
 have hlow:∀c∈insL cs p b,LowS c:=λc hc x hx=>by
  rcases zrp.mp hc with rfl|hc
  ·exact lo x (hb3 x hx)
  ·exact lo x ((cb c hc).1 x hx)
 have hnf:zcd ((insL cs p b).map zaa)=false:=zaep (zrp.mpr (.inl rfl))
 generalize hz:insL cs p b=zs at h10 hbn hll hlow hnf
 have h11:(fS (sSet 10 (zdy ["_law_some"] [] (zax (eVar 9)) (gN 0) zdv (eCB zuu (zad (eVar 0) aNil))))) [.no,A1,A2,.ac d9,.pl (zaa (nm W)),.pl (webD W),.ac (.dict (dS zaa (tabW W W))),.pl (.str kk),.pl (.str oo),.ac (srtD zs),s10,s11,s12]=some (.nx [.no,A1,A2,.ac d9,.pl (zaa (nm W)),.pl (webD W),.ac (.dict (dS zaa (tabW W W))),.pl (.str kk),.pl (.str oo),.pl (srtD zs),.ac (srtD zs),s11,s12]):=by
  have ci:zcv (gN 0) zdv (eCB zuu (zad (eVar 0) aNil)) [.no] (zs.map zaa)=some (zs.map zaa):=zfk λc _=>⟨[.pl (zaa c)],rfl,rfl,_,rfl,rfl⟩
  have e:=zhu (own:=["_law_some"]) (fr:=[]) (fi:=zax (eVar 9)) (g:=gN 0) (bs:=[9]) (env:=[.no,A1,A2,.ac d9,.pl (zaa (nm W)),.pl (webD W),.ac (.dict (dS zaa (tabW W W))),.pl (.str kk),.pl (.str oo),.ac (srtD zs),s10,s11,s12]) rfl (by rw[qD];omega) ci
  rw[hnf,if_neg qI]at e
  exact zml ((zmh e).trans rfl)
 obtain⟨m1,m2⟩:=zaqv w3 lo (bs:=zs) (by omega) kin oin hbn
 have h12:(fS (sSet 11 (zbu 4 zfn (zad (eVar 5) (zad (eVar 10) (zad (eVar 7) (zad (eVar 8) aNil))))))) [.no,A1,A2,.ac d9,.pl (zaa (nm W)),.pl (webD W),.ac (.dict (dS zaa (tabW W W))),.pl (.str kk),.pl (.str oo),.pl (srtD zs),.ac (srtD zs),s11,s12]=some (.nx [.no,A1,A2,.ac d9,.pl (zaa (nm W)),.pl (webD W),.ac (.dict (dS zaa (tabW W W))),.pl (.str kk),.pl (.str oo),.pl (srtD zs),.pl (srtD zs),.ac (.list [armD (zfs W kk oo)]),s12]):=
  zml ((zmh (zeo (n:=4) (rs:=[⟨webD W,false,[]⟩,⟨srtD zs,false,[10]⟩,⟨.str kk,false,[]⟩,⟨.str oo,false,[]⟩]) rfl rfl m1)).trans rfl)
 have h13:(fS (sSet 12 (zbu 4 zcr (zad (eVar 4) (zad (eVar 6) (zad (eVar 7) (zad (eVar 8) aNil))))))) [.no,A1,A2,.ac d9,.pl (zaa (nm W)),.pl (webD W),.ac (.dict (dS zaa (tabW W W))),.pl (.str kk),.pl (.str oo),.pl (srtD zs),.pl (srtD zs),.ac (.list [armD (zfs W kk oo)]),s12]=some (.nx [.no,A1,A2,.ac d9,.pl (zaa (nm W)),.pl (webD W),.pl (.dict (dS zaa (tabW W W))),.pl (.str kk),.pl (.str oo),.pl (srtD zs),.pl (srtD zs),.ac (.list [armD (zfs W kk oo)]),.ac (.list [armD (zfs W kk oo)])]):=
  zml ((zmh (zeo (n:=4) (rs:=[⟨zaa (nm W),false,[]⟩,⟨.dict (dS zaa (tabW W W)),false,[6]⟩,⟨.str kk,false,[]⟩,⟨.str oo,false,[]⟩]) rfl rfl (zamy w3 kin oin))).trans rfl)
 have pin:∀x∈(zfs W kk oo).parts,qAv x=true:=λx hx=>by
  unfold zfs at hx
  split at hx
  ·rw[qc.mp hx];exact lo _ kin
  ·split at hx
   ·rw[qc.mp hx];exact lo _ oin
   ·exact lo x (qAl.mp hx).1
 have shm:qAn (.list [armD (zfs W kk oo)])=true:=zks (k:=2) (zaej (zamt (zael pin) zaqs)) (by decide)
 generalize hm:armD (zfs W kk oo)=am at *
 have h14:(fIfP (tOrF (znh (tTru (eIsi "list" (eVar 11)))) (tOrF (zay (eOp neD (eVar 11) (eVar 12))) (zay (eOp neD (eVar 10) (eVar 9))))) (zhs (eC (.bool false))) fNx) [.no,A1,A2,.ac d9,.pl (zaa (nm W)),.pl (webD W),.pl (.dict (dS zaa (tabW W W))),.pl (.str kk),.pl (.str oo),.pl (srtD zs),.pl (srtD zs),.ac (.list [am]),.ac (.list [am])]=some (.nx [.no,A1,A2,.ac d9,.pl (zaa (nm W)),.pl (webD W),.pl (.dict (dS zaa (tabW W W))),.pl (.str kk),.pl (.str oo),.pl (srtD zs),.pl (srtD zs),.ac (.list [am]),.ac (.list [am])]):=by
  refine(zkp ?_).trans rfl
  unfold tOrF
  rw[show znh (tTru (eIsi "list" (eVar 11))) [.no,A1,A2,.ac d9,.pl (zaa (nm W)),.pl (webD W),.pl (.dict (dS zaa (tabW W W))),.pl (.str kk),.pl (.str oo),.pl (srtD zs),.pl (srtD zs),.ac (.list [am]),.ac (.list [am])]=some false from rfl,qF,if_neg qI,zamk (d:=.list [am]) (f1:=false) (f2:=false) (b1:=[11]) (b2:=[12]) rfl rfl shm,qF,if_neg qI]
  exact zamk (d:=srtD zs) (f1:=false) (f2:=false) (b1:=[]) (b2:=[]) rfl rfl (zaqx hlow)
 obtain⟨x0,xr,ex⟩:∃x0 xr,nm W=x0::xr:=by
  cases e:nm W with
  | nil=>rw[e]at hne;simp at hne
  | cons a l=>exact⟨a,l,rfl⟩
 have h15:(fApp 11 (zaj 3 (eIxV 4 (eC (.int 0))))) [.no,A1,A2,.ac d9,.pl (zaa (nm W)),.pl (webD W),.pl (.dict (dS zaa (tabW W W))),.pl (.str kk),.pl (.str oo),.pl (srtD zs),.pl (srtD zs),.ac (.list [am]),.ac (.list [am])]=some (.nx [.no,A1,A2,.ac d9,.pl (zaa (nm W)),.pl (webD W),.pl (.dict (dS zaa (tabW W W))),.pl (.str kk),.pl (.str oo),.pl (srtD zs),.pl (srtD zs),.ac (.list [am,.str x0]),.ac (.list [am])]):=by
  refine(zma (bs:=[]) (fr:=false) (d:=.str x0) (ds:=[am]) rfl (zby (f:=3) (d0:=d9) rfl ?_) rfl (by show 1<100000;decide) (by simp)).trans rfl
  exact zaqf (n:=0) (ds:=(nm W).map .str) rfl rfl (by rw[ex];rfl)
 have h16:(fIfP (zay (eOp neD (zbu 4 zfn (zad (eVar 5) (zad (eVar 10) (zad (eVar 8) (zad (eVar 7) aNil))))) (eVar 12))) (zhs (eC (.bool false))) fNx) [.no,A1,A2,.ac d9,.pl (zaa (nm W)),.pl (webD W),.pl (.dict (dS zaa (tabW W W))),.pl (.str kk),.pl (.str oo),.pl (srtD zs),.pl (srtD zs),.ac (.list [am,.str x0]),.ac (.list [am])]=some (.nx [.no,A1,A2,.ac d9,.pl (zaa (nm W)),.pl (webD W),.pl (.dict (dS zaa (tabW W W))),.pl (.str kk),.pl (.str oo),.pl (srtD zs),.pl (srtD zs),.ac (.list [am,.str x0]),.ac (.list [am])]):=
  (zkp (zamk (d:=.list [am]) (f1:=true) (f2:=false) (b1:=[]) (b2:=[12]) (zeo (n:=4) (rs:=[⟨webD W,false,[]⟩,⟨srtD zs,false,[]⟩,⟨.str oo,false,[]⟩,⟨.str kk,false,[]⟩]) rfl rfl m2) rfl shm)).trans rfl
 exact⟨_,_,_,_,_,_,_,_,_,_,(zap h1).trans ((zap h2).trans ((zap h4).trans ((zap h5).trans ((zap h6).trans ((zap (zdi e7)).trans ((zap (zdi e8)).trans ((zap h9).trans ((zap h10).trans ((zap h11).trans ((zap h12).trans ((zap h13).trans ((zap h14).trans ((zap h15).trans h16)))))))))))))⟩
theorem zahy(ns:List Int):∃env',zos ns (List.replicate 13 .no)=some (.rt (.bool true) false env'):=by
 obtain⟨M,eM,hM⟩:∃M:Nat,(if(ns.length:Int)<10 then(ns.length:Int)else 10)=(M:Int)/\M<=10:=by
  by_cases h:(ns.length:Int)<10
  ·exact⟨ns.length,if_pos h,by omega⟩
  ·exact⟨10,if_neg h,by omega⟩
 have h1:zagr 1 10 ns (List.replicate 13 .no)=some (.nx [.no,.pl (.int (M:Int)),.no,.no,.no,.no,.no,.no,.no,.no,.no,.no,.no]):=by
  unfold zagr
  rw[eM];rfl
 have it:zfg (zad (eOp addD (eVar 1) (eC (.int 1))) aNil) [.no,.pl (.int (M:Int)),.no,.no,.no,.no,.no,.no,.no,.no,.no,.no,.no]=some (zdj 0 (M+1),[]):=zmx ((zkd (i:=(M:Int)) (j:=1) rfl rfl).trans (by rw[Int.natCast_add];rfl)) (by omega)
 have loop:=zcn (g:=gN 2) (n:=M+1) (body:=_) (env:=[.no,.pl (.int (M:Int)),.no,.no,.no,.no,.no,.no,.no,.no,.no,.no,.no])
  (λk env=>∃s2 s3 s4 s5 s6 s7 s8 s9 s10 s11 s12:Sl,env=[.no,.pl (.int (M:Int)),s2,s3,s4,s5,s6,s7,s8,s9,s10,s11,s12]) ⟨_,_,_,_,_,_,_,_,_,_,_,rfl⟩ (by
   rintro k env hk ⟨s2,s3,s4,s5,s6,s7,s8,s9,s10,s11,s12,rfl⟩
   obtain⟨t3,t4,t5,t6,t7,t8,t9,t10,t11,t12,e⟩:=zzs ns (M:=M) (k:=k) (by omega) (s3:=s3) (s4:=s4) (s5:=s5) (s6:=s6) (s7:=s7) (s8:=s8) (s9:=s9) (s10:=s10) (s11:=s11) (s12:=s12)
   exact⟨_,_,rfl,e,_,_,_,_,_,_,_,_,_,_,_,rfl⟩)
 obtain⟨env',hl,s2,s3,s4,s5,s6,s7,s8,s9,s10,s11,s12,rfl⟩:=loop
 refine⟨[.no,.pl (.int (M:Int)),s2,s3,s4,s5,s6,s7,s8,s9,s10,s11,s12],?_⟩
 unfold zos
 exact(zap h1).trans ((zap ((zrl it).trans hl)).trans rfl)
section
variable{P:Program}{w:World}{K:qC}{mg:Str->Option Value}{base:Heap}
noncomputable def zahz(K:qC):Sp:=λvs H Q _=>∃(a:Addr)(ns:List Int),vs=[.ref a]/\SqL K H a (ns.map V.int)/\∀H',Q (.bl true) H'
theorem zaqy{f:Addr}{fd:qr}(F:Fun K "law" "law" zzi f fd)(T:Txt mg)(D_law_above:zol P w K mg base)(D_law_both:zqj P w K mg base)(D_law_due:zts P w K mg base)(D_law_feed:zqh P w K mg base)(D_law_names:zok P w K mg base)(D_law_sort:zqi P w K mg base)(D_law_take:zed P w K mg base)(D_law_web:ztr P w K mg base)(D_meets:zads P w K mg base):FnOk P w K mg base CX0 5 f fd ["_law_script"] (zahz K):=by
 refine F.ok zaqj (λvs H Q E h=>?_) (λcdv A outer s H vs Q E hr h=>?_)
 ·obtain⟨a,ns,rfl,_⟩:=h
  rfl
 ·obtain⟨a,ns,rfl,hS,k⟩:=h
  have hu:=zga hr
  apply Exists.intro
  apply And.intro
  ·refine' Bx.out (zae (bpsS (i:=1) zfx rfl (Or.inl rfl) (bpeB (zrv rfl) T.min zyb (bpaC zai (bpaC (bpeB (zcz (K:=K) rfl) T.len zeg (bpaC (bv 0) zaf)) zaf))))
 (zae (zdg qz rfl (zdk rfl T.range (bpaC (zbc (zbi (K:=K) rfl) (bv 1) zai) zaf) (by rfl)) (bpgN (i:=2) zfx rfl (Or.inl rfl))
  (zae (bpsS (i:=3) zfx rfl (Or.inl rfl) (bpeD D_law_feed hr (bpaC (bv 0) (bpaC (bv 2) zaf))))
 (zae (zeq (zbp (zaim (K:=K) rfl hr.units) (bv 2) (bv 1) (ziq _)) (zak (bpsS (i:=3) zfx rfl (Or.inl rfl) (zcw (bpaC zai (bpaC zai (bpaC zai zaf)))))) zbv)
 (zae (bpsS (i:=4) zfx rfl (Or.inl rfl) (bpeD D_law_names hr (bpaC (bv 3) (bpaC (zbc (zbi (K:=K) rfl) zai (bpeD D_law_take hr (bpaC (bv 3) (bpaC zai zaf)))) zaf))))
 (zae (bpsS (i:=5) zfx rfl (Or.inl rfl) (bpeD D_law_web hr (bpaC (bv 3) (bpaC (bv 4) zaf))))
 (zae (bpsS (i:=6) zfx rfl (Or.inl rfl) (bpeD D_law_above hr (bpaC (bv 5) zaf)))
 (zae (bpsS (i:=7) zfx rfl (Or.inl rfl) (bpeX (zhl (K:=K) rfl) (bv 4) (bpeD D_law_take hr (bpaC (bv 3) (bpaC (bpeB (zcz (K:=K) rfl) T.len zeg (bpaC (bv 4) zaf)) zaf)))))
 (zae (bpsS (i:=8) zfx rfl (Or.inl rfl) (bpeX (zhl (K:=K) rfl) (bv 4) (bpeD D_law_take hr (bpaC (bv 3) (bpaC (bpeB (zcz (K:=K) rfl) T.len zeg (bpaC (bv 4) zaf)) zaf)))))
 (zae (bpsS (i:=9) zfx rfl (Or.inl rfl) (zhr (zafy (K:=K) rfl) (bpeD D_law_sort hr (bpaC (bv 3) (bpaC (bv 4) (bpaC zai zaf)))) zjw (zjv zai)))
 (zae (zde (zfj (K:=K) rfl qAC qBU qBT zns (bv 9) (bpaC (bpeD D_law_take hr (bpaC (bv 3) (bpaC (zbc (zbi (K:=K) rfl) (bpeB (zcz (K:=K) rfl) T.len zeg (bpaC (bv 9) zaf)) zai) zaf))) (bpaC (bpeD D_law_both hr (bpaC (bv 3) (bpaC (bv 4) (bpaC (bv 7) (bpaC (bv 8) zaf))))) zaf)) (by rfl) (by rfl) (by rfl) (zbn (by rfl)) (by rfl)) (by rfl))
 (zae (zacj (i:=10) (zcc (N':=["_law_some"]) (own:=["_law_some"]) (fr:=[]) (by kernel_rfl)) rfl (zbs (K:=K) rfl (bv 9)) ?hb1 (by rfl) zfx rfl rfl (by intro _;rfl))
 (zae (bpsS (i:=11) zfx rfl (Or.inl rfl) (bpeD D_meets hr (bpaC (bv 5) (bpaC (bv 10) (bpaC (bv 7) (bpaC (bv 8) zaf))))))
 (zae (bpsS (i:=12) zfx rfl (Or.inl rfl) (bpeD D_law_due hr (bpaC (bv 4) (bpaC (bv 6) (bpaC (bv 7) (bpaC (bv 8) zaf))))))
 (zae (zeq (zaip (zacg (zgm (K:=K) rfl (bpeB (zsk (K:=K) rfl) T.isinstance zhy (bpaC (bv 11) (bpaC (zxg (v:=.ty "list") (by rfl) T.list zny rfl (by decide) (by decide)) zaf))) (λ_=>rfl))) (zaip (zbp (zsp (K:=K) rfl hr.units) (bv 11) (bv 12) (ziq _)) (zalk (zbp (zsp (K:=K) rfl hr.units) (bv 10) (bv 9) (ziq _))))).pt (zak (zbk zxe)) zbv)
 (zae (zde (zfj (K:=K) rfl qAC qAb qAa zfb (bv 11) (bpaC (bpeX (zhl (K:=K) rfl) (bv 4) zai) zaf) (by rfl) (by rfl) (by rfl) (zbn (by rfl)) (by rfl)) (by rfl))
 (zak (zeq (zbp (zsp (K:=K) rfl hr.units) (bpeD D_meets hr (bpaC (bv 5) (bpaC (bv 10) (bpaC (bv 8) (bpaC (bv 7) zaf))))) (bv 12) (ziq _)) (zak (zbk zxe)) zbv)))))))))))))))) (by intro _;rfl))
 (zak (zbk zxe))))
   case hb1=>(intro cl C s H fp;refine'⟨Bx.out (bpgN (i:=0) zadr rfl (Or.inl rfl)),Bx.out zge,Bx.out (bpeT (zpn (K:=K) rfl) T.list zny (bpaC (bv 0) zaf))⟩)
  exact zagv (F:=zos ns) (n:=12) ((zbx rfl (zags (by decide)) (zbx rfl (zaln rfl (zjs (zah (zbd zda (zab 1) (se_c λ_=>zac)) zau)) (zfv (by decide)) (zbx rfl (zagt (by decide)) (zbx rfl (zdq (zgh (st_t (zbd zape (zab 2) (zab 1))) (zcj (zbt (zep (zah (se_c λ_=>zac) (zah (se_c λ_=>zac) (zah (se_c λ_=>zac) zau)))) (by decide))) zgf)) (zbx rfl (zdq (zcx (zav (zaq (ziw zda (zan (se_c λ_=>zac)) (zav (zaq (zan (se_c λ_=>zac)) zaz))) zaz)) (by decide))) (zbx rfl (zdq (zcx (zav (zaq (zan (zab 4)) zaz)) (by decide))) (zbx rfl (zdq (zcj (zbt (zem (zah (zab 5) zau)) (by decide)))) (zbx rfl (zdq (zcx (ziw zov (zan (zab 4)) (zav (zaq (zan (zin zmf (zah (zab 4) zau))) zaz))) (by decide))) (zbx rfl (zdq (zcx (ziw zov (zan (zab 4)) (zav (zaq (zan (zin zmf (zah (zab 4) zau))) zaz))) (by decide))) (zbx rfl (zdq (zcx (zaqa (zav (zaq (zan (zab 4)) (zaq (zan (se_c λ_=>zac)) zaz))) zni (znj (se_c λ_=>zac))) (by decide))) (zbx rfl (zdq (zvh (zaq (zav (zaq (zan (zbd zda (zin zmf (zah (zab 9) zau)) (se_c λ_=>zac))) zaz)) (zaq (zav (zaq (zan (zab 4)) (zaq (zan (zab 7)) (zaq (zan (zab 8)) zaz)))) zaz)))) (zbx rfl (zdq (zcj (zbt (zlb (zej (zab 9)) zgc (zqx (by decide)) zju (zin zabu (zah (zab 0) zau))) (by decide)))) (zbx rfl (zdq (zcj (zbt (zem (zah (zab 5) (zah (zab 10) (zah (zab 7) (zah (zab 8) zau))))) (by decide)))) (zbx rfl (zdq (zcj (zbt (zem (zah (zab 4) (zah (zab 6) (zah (zab 7) (zah (zab 8) zau))))) (by decide)))) (zbx rfl (zdq (zgh (zaph (zapi (zwu (zaii (zab 11) zagc))) (zaph (st_t (zbd zabq (zab 11) (zab 12))) (st_t (zbd zabq (zab 10) (zab 9))))) (zjy (se_c λ_=>zbb)) zgf)) (zbx rfl (zdq (zld (zan (znm (se_c λ_=>zac))))) (zdq (zgh (st_t (zbd zabq (zem (zah (zab 5) (zah (zab 10) (zah (zab 8) (zah (zab 7) zau))))) (zab 12))) (zjy (se_c λ_=>zbb)) zgf))))))))))))))))) (zdq (zjy (se_c λ_=>zbb)))))) hS (zahy ns) k
end
theorem all_mk{l:PySem.W.OpenLaw}{w:World}{K:qC}{h:Heap}{mg:Str->Option Value}{fa f1 f2 f3 f4 f5 f6 f7 f8 f9 f10 f11 f12 f13 f14 f15 f16 f17 f18 f19 f20 f21:Addr}{e1 e2 e3 e4 e5 e6 e7 e8 e9 e10 e11 e12 e13 e14 e15 e16 e17 e18 e19 e20 e21:qr}(X:K.In h)(G:h.Ns qq mg)(hfa:mg "law"=some (.ref fa))
  (d1:DefIn K "names_of" zll f1 e1)
  (d2:DefIn K "names_in" zlm f2 e2)
  (d3:DefIn K "check_kinds" zgw f3 e3)
  (d4:DefIn K "roofs_of" zln f4 e4)
  (d5:DefIn K "roof_of" znz f5 e5)
  (d6:DefIn K "are_bundled" zgx f6 e6)
  (d7:DefIn K "are_apart" zjh f7 e7)
  (d8:DefIn K "is_within" zji f8 e8)
  (d9:DefIn K "arms_of" zoc f9 e9)
  (d10:DefIn K "meets_among" zgy f10 e10)
  (d11:DefIn K "meets" zvr f11 e11)
  (d12:DefIn K "_law_feed" zlp f12 e12)
  (d13:DefIn K "_law_take" zlq f13 e13)
  (d14:DefIn K "_law_letters" zgz f14 e14)
  (d15:DefIn K "_law_names" zjj f15 e15)
  (d16:DefIn K "_law_web" zoe f16 e16)
  (d17:DefIn K "_law_above" zjk f17 e17)
  (d18:DefIn K "_law_sort" zlr f18 e18)
  (d19:DefIn K "_law_both" zls f19 e19)
  (d20:DefIn K "_law_due" zog f20 e20)
  (d21:DefIn K "law" zzi f21 e21)
  (z1:qAW K qq "abs"=some none)(z2:qAW K qq "all"=some none)(z3:qAW K qq "any"=some none)(z4:qAW K qq "dict"=some none)(z5:qAW K qq "enumerate"=some none)(z6:qAW K qq "isinstance"=some none)(z7:qAW K qq "len"=some none)(z8:qAW K qq "list"=some none)(z9:qAW K qq "min"=some none)(z10:qAW K qq "range"=some none)(z11:qAW K qq "tuple"=some none) :
  ∃fd:qr,(∀(s:Shared)(v:Value),BindsTo s fd ⟨[v],[]⟩ [("_law_script",v)])/\∀base:Heap,K.In base->base.Ns qq mg->FnOk l.prog w K mg base CX0 5 fa fd ["_law_script"] (zahz K):=by
 have e:=hfa.symm.trans (qCK X G d21.ns)
 cases e
 have T:Txt mg:=⟨qAG X G z1,qAG X G z2,qAG X G z3,qAG X G z4,qAG X G z5,qAG X G z6,qAG X G z7,qAG X G z8,qAG X G z9,qAG X G z10,qAG X G z11⟩
 obtain⟨_,_,q1,q2,q3,q4,q5,q6,_,rfl,_,_⟩:=d21.fn.ex
 refine⟨qAX "law" "law" (zfc zzi) (zel zzi) (zat zzi) .none q1 q2 q3 q4 q5 q6,λs v=>.of_eq rfl,λbase _ _=>?_⟩
 have D_names_of:zly l.prog w K mg base:=d1.dn X G (zvw d1.fn T ) (d1.b1 λ_ _ _ _ _ _ _=>rfl)
 have D_names_in:zqf l.prog w K mg base:=d2.dn X G (zvx d2.fn T ) (d2.b1 λ_ _ _ _ _ _ _=>rfl)
 have D_check_kinds:zkk l.prog w K mg base:=d3.dn X G (zpd d3.fn T D_names_of) (d3.b2 λ_ _ _ _ _ _ _ _=>rfl)
 have D_roofs_of:zqg l.prog w K mg base:=d4.dn X G (zvy d4.fn T ) (d4.b1 λ_ _ _ _ _ _ _=>rfl)
 have D_roof_of:ztp l.prog w K mg base:=d5.dn X G (zzj d5.fn T D_names_in) (d5.b2 λ_ _ _ _ _ _ _ _=>rfl)
 have D_are_bundled:zkl l.prog w K mg base:=d6.dn X G (zpe d6.fn T ) (d6.b2 λ_ _ _ _ _ _ _ _=>rfl)
 have D_are_apart:zoi l.prog w K mg base:=d7.dn X G (ztt d7.fn T ) (d7.b2 λ_ _ _ _ _ _ _ _=>rfl)
 have D_is_within:zoj l.prog w K mg base:=d8.dn X G (ztu d8.fn T ) (d8.b2 λ_ _ _ _ _ _ _ _=>rfl)
 have D_arms_of:ztq l.prog w K mg base:=d9.dn X G (zzk d9.fn T D_are_apart D_are_bundled D_names_of D_roof_of D_roofs_of) (d9.b2 λ_ _ _ _ _ _ _ _=>rfl)
 have D_meets_among:zkm l.prog w K mg base:=d10.dn X G (zpf d10.fn T D_is_within) (d10.b3 λ_ _ _ _ _ _ _ _ _=>rfl)
 have D_meets:zads l.prog w K mg base:=d11.dn X G (zahm d11.fn T D_arms_of D_check_kinds D_meets_among) (d11.b4 λ_ _ _ _ _ _ _ _ _ _=>rfl)
 have D_law_feed:zqh l.prog w K mg base:=d12.dn X G (zvz d12.fn T ) (d12.b2 λ_ _ _ _ _ _ _ _=>rfl)
 have D_law_take:zed l.prog w K mg base:=d13.dn X G (zwa d13.fn T ) (d13.b2 λ_ _ _ _ _ _ _ _=>rfl)
 have D_law_letters:zkn l.prog w K mg base:=d14.dn X G (zpg d14.fn T D_law_take) (d14.b2 λ_ _ _ _ _ _ _ _=>rfl)
 have D_law_names:zok l.prog w K mg base:=d15.dn X G (ztv d15.fn T D_law_letters D_law_take) (d15.b2 λ_ _ _ _ _ _ _ _=>rfl)
 have D_law_web:ztr l.prog w K mg base:=d16.dn X G (zzl d16.fn T D_law_take) (d16.b2 λ_ _ _ _ _ _ _ _=>rfl)
 have D_law_above:zol l.prog w K mg base:=d17.dn X G (ztw d17.fn T ) (d17.b1 λ_ _ _ _ _ _ _=>rfl)
 have D_law_sort:zqi l.prog w K mg base:=d18.dn X G (zwb d18.fn T D_law_take) (d18.b3 λ_ _ _ _ _ _ _ _ _=>rfl)
 have D_law_both:zqj l.prog w K mg base:=d19.dn X G (zwc d19.fn T D_law_take) (d19.b4 λ_ _ _ _ _ _ _ _ _ _=>rfl)
 have D_law_due:zts l.prog w K mg base:=d20.dn X G (zzm d20.fn T ) (d20.b4 λ_ _ _ _ _ _ _ _ _ _=>rfl)
 exact zaqy d21.fn T D_law_above D_law_both D_law_due D_law_feed D_law_names D_law_sort D_law_take D_law_web D_meets
theorem walk{l:PySem.W.OpenLaw}{q:Program}{loose:List Str}{XP:(Str->Option Value)->Heap->Prop}{YP:World->Heap->Prop}{d:DefRec}{K:Params->qC}(hn:l.most=some 63)(hdf:d.params.defaults=[])
  (hY:∀(w:World) (h:Heap),YP w h->(K w.params).In h)
  (F:∀(w:World)(mg:Str->Option Value)(fa:Addr)(h:Heap),(K w.params).In h->h.Ns qq mg->mg d.name=some (.ref fa)->
   ∃fd:qr,(∀(s:Shared)(u:Value),BindsTo s fd ⟨[u],[]⟩ [("_law_script",u)])/\∀base:Heap,(K w.params).In base->base.Ns qq mg->FnOk l.prog w (K w.params) mg base CX0 5 fa fd ["_law_script"] (zahz (K w.params))) :
  PySem.W.WalkO q loose XP YP l.row.toRowW d [] (λf vs=>PySem.call f vs):=
 L2.walk_of (n:=63) (k:=5) (x:="_law_script") (CX:=λ_=>CX0) (sp:=λw=>zahz (K w.params)) hn (by decide) hdf ⟨rfl,by decide,by decide,rfl⟩ hY F (λ_ _ a ns hl _ hS=>⟨a,ns,rfl,hS,λ_=>rfl⟩) λ_ _ _ _ _ z=>z
end Bc
theorem PySem.W.Fast.tw11151905306831749212:True:=trivial
theorem PySem.W.Fast.tw17683766219413830790:True:=trivial
theorem PySem.W.Fast.tw2886530856004469870:True:=trivial
theorem PySem.W.Fast.tw1106261815323236299:True:=trivial
theorem PySem.W.Fast.tw11413137072288680155:True:=trivial
theorem PySem.W.Fast.tw2768624337163097664:True:=trivial
theorem PySem.W.Fast.tw3178005002333894651:True:=trivial
theorem PySem.W.Fast.tw9535709856537299891:True:=trivial
open PySem PySem.W PyProof.Rows
set_option maxRecDepth 100000 in
set_option maxHeartbeats 0 in
theorem PySem.Challenge.cw_bestcalls_k24_meets_in_one_bundle_holds : PySem.Challenge.rw_bestcalls_k24_meets_in_one_bundle.Holds := by
 w_on;o_law;k_head;(case hw=>w_witness2)
 k_fill
 refine Bc.walk (l:=PySem.Challenge.rw_bestcalls_k24_meets_in_one_bundle) rfl rfl (λw h Y=>PySem.W.kIn_of Y) ?F
 case F=>
  intro w mg fa h KX G hmg
  refine' Bc.all_mk KX G hmg ?_ ?_ ?_ ?_ ?_ ?_ ?_ ?_ ?_ ?_ ?_ ?_ ?_ ?_ ?_ ?_ ?_ ?_ ?_ ?_ ?_ ?_ ?_ ?_ ?_ ?_ ?_ ?_ ?_ ?_ ?_ ?_
  any_goals (first|refine' L2.def_mk ?_ ?_ ?_ ?_|skip)
  any_goals (first|k_is|rfl)
