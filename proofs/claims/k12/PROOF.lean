import PyProof.Rows.All
import KE.KLam
import Wide.All
import OpenK.AllK
import Wide.FinOn
import Lean
import PyProof.EqAt
import PyProof.EqKinds
import PyProof.TupleCall
import KE.KTryOn
import PyProof.ExcInit
import PyProof.ExcClass3
import PyProof.ExcBaseAll.ValueError
import PyProof.InstStoreFacts
import ObjForm.Fk.InstStore
import PyProof.ExcArgsOwn
import PyProof.ExcAttrAll.ValueError
import PyProof.PureStr
import PyProof.FString2
import PyProof.Rows.FactsFmt
import PyProof.FactsAll.NoneType_2
import PyProof.NsDelKeeps
import PyProof.IsiBase
import KE.KRevSl
import PyProof.DictWalks
import PyProof.AutoListH
import PyProof.AutoSeq1
import PyProof.MeetsStr
import PyProof.Rows.MinMaxN
import PySem.Challenge.RW_bestcalls_k12_fits_and_nearer
set_option genSizeOf false
set_option Elab.async false
set_option linter.all false
set_option maxRecDepth 100000
noncomputable section
open Option renaming bind_eq_some_iff→qA,bind_some→qE,map_eq_some_iff→qG,map_some→qAi,isSome_some→qDB,isSome_map→qDI
open PySem.W renaming Frag→qB,keepIn→qS,nsIn→qW,mg_of→qY,codeIn→qe,fnOf→qh,mg_none_of→qAR,kia_one→qAa,looks_findIn→qAd,cellsFrom_some→qBD,codeRec_of→qBl,callWith_K→qB9,kitx_list→qC9,kitx_dict→qDA
open PySem renaming wpAny_bind→qC,wpAny_pure→qI,mainGlobals→qN,Expr→qO,sizeLine→qV,wpAny_loadPart_at→qi,Pos→qj,mem_of_lookup→qo,FuncData→qt,starEach→qAJ,wpAny_field→qAW,wpAny_isSubtype_exc→qAh,wpAny_callSpecial?_slot→qAm,wpAny_pyIter_tuple→qAw,wpAny_pyIter_list→qA1,wpAny_newObj_type→qA2,wpAny_mono→qA7,wpAny_call_entry→qBF,wpAny_seqItems→qBG,wpAny_setField_rec→qBJ,wpAny_Call_Name_kw→qBK,sizeLine_eq→qBM,wpAny_newFunctionEnv_cells→qBR,codeAny_call_builtin→qBS,wpAny_setField→qBV,codeAny_mono→qBc,wpAny_standAt→qBe,wpAny_loadPart'→qBf,wpAny_getItem_str_slice→qBg,wpAny_truthy_bool→qBi,codeAny_call_function→qBk,wpAny_passesOwn→qBw,wpAny_execs_nil→qBx,wpAny_onRaise→qB6,wpAny_pyReprObj_gives→qCE,post_val_or_str→qCF,wpAny_call→qCG,wpAny_updateSeq_pair→qCK,wpAny_holding→qCV,tupleKind_room_in1→qCW,wpAny_rule→qCe,wpAny_typeOf→qCj,codeAny_func→qCk,wpAny_execs_cons→qCq,noFill_tuple_add→qCr,wpAny_comprehension_free→qDH
open PySem.Heap renaming get?_push_of_some→qD,lt_size→qJ,get?_push_size→qa,get?_update_other→qAg,get?_update_self→qAr,size_push→qAz,get?_none_of_le→qB8,get?_update_ne→qDL
open List renaming length_map→qF,getElem?_eq_getElem→qH,mem_cons_of_mem→qK,length_append→qM,size_toArray→qQ,getElem?_map→qR,getElem?_eq_some_iff→qU,mem_append→qX,mem_append_right→qb,mem_cons→qc,map_cons→qd,getElem?_set_ne→qf,mem_cons_self→qm,mem_append_left→qu,lookup_cons→q9,getD_eq_getElem?_getD→qAA,append_nil→qAB,getElem?_cons_zero→qAD,getElem?_cons_succ→qAE,map_append→qAG,length_set→qAH,getElem?_set_self→qAI,length_take→qAK,mem_singleton→qAL,getElem?_append_left→qAN,mem_of_mem_take→qAO,length_drop→qAP,length_cons→qAQ,contains_cons→qAS,length_replicate→qAT,getElem?_append_right→qAU,all_eq_true→qAV,append_assoc→qAX,mem_map→qAY,mem_of_getElem?→qAj,mem_range→qAq,take_append_of_le_length→qAt,not_mem_nil→qAu,all_cons→qAy,find?_cons→qA0,getElem_mem→qA3,zip_cons_cons→qA4,drop_eq_getElem_cons→qA6,mem_of_mem_drop→qA8,of_mem_zip→qA9,nodup_append→qBA,any_cons→qBC,nodup_cons→qBH,length_nil→qBI,map_take→qBL,mem_flatMap→qBO,drop_length→qBP,any_eq_true→qBQ,eq_of_mem_replicate→qBT,set_cons_zero→qBW,set_cons_succ→qBX,mem_filterMap→qBY,length_eq_zero_iff→qBZ,getElem?_replicate→qBa,foldl_cons→qBb,map_drop→qBj,replicate_succ→qBm,map_congr_left→qBn,getElem_of_mem→qBo,filterMap_cons→qBp,map_map→qBt,foldl_append→qBz,mem_nil_iff→qB2,forIn_cons→qB5,take_sublist→qCL,map_nil→qCN,any_map→qCO,zipIdx_cons→qCS,take_length→qCT,cons_append→qCU,mem_filter→qCb,length_eraseIdx_of_lt→qCh,pairwise_iff_getElem→qCm,nodup_nil→qCn,take_of_length_le→qC0,range_succ_eq_map→qC1,length_pos_of_mem→qC2,take_append_drop→qC5,getElem?_eq_none→qC6,range_eq_range'→qDD,getElem?_zipIdx→qDE,zipIdx_map_fst→qDJ,flatMap_append→qDK
open Nat renaming le_refl→qL,lt_of_lt_of_le→qg,ne_of_lt→qk,le_trans→qAM,zero_le→qAv,lt_irrefl→qBE,ne_of_gt→qBU,le_of_lt→qBh,lt_of_le_of_lt→qBv,le_add_right→qB4,le_of_succ_le→qCM,zero_add→qCR,lt_succ_self→qCX,le_succ→qCg,lt_trans→qDC
open Bool renaming false_ne_true→qP,and_eq_true→qx,or_true→qAk,eq_iff_iff→qAs,or_eq_true_iff→qBr,false_eq_true→qBu,false_or→qCI,and_self→qCJ
open Option.some renaming inj→qZ
open PySem.PassesOwn renaming never→qp
open PySem.F renaming plainAttrs_list→qr,type_list_append→qy,slot_list_append→qz,slot_tuple_iterator_next→qBN,excBase_ValueError→qBq,args_tuple_add_2→qBs,entry_tuple_add→qBy,slot_tuple_add→qB1,typeOf_object_class→qCA,slot_zip_next→qCB,store_ValueError→qCQ,type_dict_update→qCZ,slot_dict_update→qCa,plainAttrs_dict→qCf,args_tuple_iterator_next_1→qCp,type_list_pop→qCu,slot_list_pop→qCv,entry_tuple_iterator_next→qCx,slot_gs_get→qDF
open PySem.Str renaming ofString→qw
open PySem.Builtin.SmallTypes renaming nextOf→q0
open Int renaming emod_nonneg→qAC,emod_lt_of_pos→qAF,toNat_natCast→qBB,eq_ofNat_of_zero_le→qB3,mul_nonneg→qCw
open PyProof.Rows renaming slot_tuple_getitem→qAZ,callWith_type1→qBd
open PySem.SeqAt renaming shaped→qAb,canLay_of_shaped→qAn,eqv_refl→qB0
open PySem.PyData renaming canLayAll0→qAc,strOk→qAe,depthAll→qAp,eqv→qAx
open PySem.Obj renaming data_mapFields→qAf,isFreed_of_fields→qA5
open Array renaming getElem?_eq_some_iff→qAl,length_toList→qCC,mem_of_getElem?→qC3,mem_toList_iff→qC8,toList_append→qDG
open Ne renaming symm→qAo
open Sum.inr renaming inj→qB7
open PySem.Paired renaming length→qCD
open PySem.Code renaming quiet_builtin→qCH
open List.Perm renaming refl→qCP,append_left→qCi
open Classical renaming axiomOfChoice→qCY
open PySem.Heap.SameBut renaming update→qCc
open PySem.Calls renaming Name_function_global→qCd,callWith_builtin→qCz,evalArgs_plain→qC7,spliced_cons→qDM,Constant_str→qDN
open PySem.W.Looks renaming ld→qCl
open PySem.Heap.IsTuple renaming push→qCo
open PySem.SeqAt.EqAt renaming str_int→qCs,int_str→qCt
open PySem.Heap.IsList renaming push→qCy
open PySem.Around renaming frames_deeper→qC4
namespace L2
open PySem PySem.Spec PyProof.Rows
noncomputable abbrev Key:=Sum Int Str
noncomputable def zabn:Key->Value->Bool
 | .inl k,v=>Value.isInt k v
 | .inr x,v=>Value.isStrOf x v
noncomputable def keyH(w:World):Key->Int
 | .inl k=>hashInt k
 | .inr x=>hashStr w x
theorem zde:∀{k:Key}{v:Value},zabn k v=true->(∃i t,k=Sum.inl i/\v=Value.int i t)\/(∃x t,k=Sum.inr x/\v=Value.str x t)
 | .inl i,v,h=>by
  obtain⟨t,e⟩:=Value.isInt_shape (k:=i) (v:=v) h
  exact .inl ⟨i,t,rfl,e⟩
 | .inr x,v,h=>by
  obtain⟨t,e⟩:=Value.isStrOf_shape (x:=x) (v:=v) h
  exact .inr ⟨x,t,rfl,e⟩
theorem zadb(i:Int)(t:Tok):zabn (.inl i) (.int i t)=true:=by simp[zabn,Value.isInt]
theorem zadc(x:Str)(t:Tok):zabn (.inr x) (.str x t)=true:=by simp[zabn,Value.isStrOf]
theorem zapt(a b:Int):decide ((Sum.inl a:Key)=Sum.inl b)=(a==b):=by
 by_cases e:a=b
 ·subst e;simp
 ·have h:¬(Sum.inl a:Key)=Sum.inl b:=λq=>e (Sum.inl.inj q)
  rw[decide_eq_false h]
  exact(beq_eq_false_iff_ne.mpr e).symm
theorem zapu(a b:Str):decide ((Sum.inr a:Key)=Sum.inr b)=decide (a=b):=by
 by_cases e:a=b
 ·subst e;simp
 ·have h:¬(Sum.inr a:Key)=Sum.inr b:=λq=>e (qB7 q)
  rw[decide_eq_false h,decide_eq_false e]
theorem zapv(a:Int)(b:Str):decide ((Sum.inl a:Key)=Sum.inr b)=false:=decide_eq_false (λq=>nomatch q)
theorem zapw(a:Str)(b:Int):decide ((Sum.inr a:Key)=Sum.inl b)=false:=decide_eq_false (λq=>nomatch q)
noncomputable def zds(prog:Program)(w:World):PySem.KeyKind prog w Key where
 is:=zabn
 hash:=keyH w
 inj:=λv a b ha hb=>by
  rcases zde ha with⟨i,t,rfl,rfl⟩|⟨x,t,rfl,rfl⟩
  ·rcases zde hb with⟨j,u,rfl,e⟩|⟨y,u,rfl,e⟩
   ·injection e with e1 _;rw[e1]
   ·exact nomatch e
  ·rcases zde hb with⟨j,u,rfl,e⟩|⟨y,u,rfl,e⟩
   ·exact nomatch e
   ·injection e with e1 _;rw[e1]
 byValue:=λk v h=>by
  rcases zde h with⟨i,t,rfl,rfl⟩|⟨x,t,rfl,rfl⟩<;>rfl
 pyHash:=λhv h=>by
  rcases zde hv with⟨i,t,rfl,rfl⟩|⟨x,t,rfl,rfl⟩
  ·exact wpAny_pyHash_int h
  ·exact wpAny_pyHash_str h
 eqBool:=λhu hv h=>by
  rcases zde hu with⟨i,t,rfl,rfl⟩|⟨x,t,rfl,rfl⟩
  ·rcases zde hv with⟨j,u,rfl,rfl⟩|⟨y,u,rfl,rfl⟩
   ·rw[zapt]at h;exact wpAny_eqBool_int h
   ·rw[zapv]at h;exact qCt i t y u _ _ _ _ h
  ·rcases zde hv with⟨j,u,rfl,rfl⟩|⟨y,u,rfl,rfl⟩
   ·rw[zapw]at h;exact qCs x t j u _ _ _ _ h
   ·rw[zapu]at h;exact wpAny_eqBool_str h
 «strs»:=λk x t v h=>by
  rcases zde h with⟨i,u,rfl,e⟩|⟨y,u,rfl,e⟩
  ·exact nomatch e
  ·injection e with e1 _
   subst e1
   cases v<;>rfl
theorem zxm(prog:Program)(w:World)(i:Int)(t:Tok):(zds prog w).is (.inl i) (.int i t)=true:=zadb i t
theorem zxn(prog:Program)(w:World)(x:Str)(t:Tok):(zds prog w).is (.inr x) (.str x t)=true:=zadc x t
inductive V where
 | non|bl (b:Bool)|int (i:Int)|str (x:Str)|byt (b:Array UInt8)|flt (b:UInt64)|ref (a:Addr)|ty (n:String)
 deriving DecidableEq
noncomputable def RelV:V->Value->Prop
 | .non,u=>u=Value.none
 | .bl b,u=>u=Value.bool b
 | .int i,u=>∃t,u=Value.int i t
 | .str x,u=>∃t,u=Value.str x t
 | .byt b,u=>∃t,u=Value.bytes b t
 | .flt b,u=>∃t,u=Value.float b t
 | .ref a,u=>u=Value.ref a
 | .ty n,u=>u=Value.type n
noncomputable abbrev Vals:List V->List Value->Prop:=Paired RelV
theorem Vals.length{xs:List V}{us:List Value}(r:Vals xs us):xs.length=us.length:=qCD r
theorem Vals.get:∀{xs:List V}{us:List Value}{i:Nat}{x:V},Vals xs us->xs[i]?=some x->∃u,us[i]?=some u/\RelV x u
 | _,_,_,_,.nil,e=>by simp at e
 | _,_,0,_,.cons r _,e=>by simp at e;subst e;exact⟨_,rfl,r⟩
 | _,_,i+1,x,.cons _ t,e=>by
  obtain⟨u,h1,h2⟩:=Vals.get (i:=i) (x:=x) t (by simpa using e)
  exact⟨u,by simpa using h1,h2⟩
theorem Vals.set{x:V}{u:Value}(r:RelV x u):∀{xs:List V}{us:List Value}(i:Nat),Vals xs us->Vals (xs.set i x) (us.set i u)
 | _,_,_,.nil=>.nil
 | _,_,0,.cons _ t=>.cons r t
 | _,_,i+1,.cons q t=>.cons q (Vals.set r i t)
theorem Vals.append:∀{xs ys:List V}{us ws:List Value},Vals xs us->Vals ys ws->Vals (xs++ys) (us++ws)
 | _,_,_,_,.nil,s=>s
 | _,_,_,_,.cons r t,s=>.cons r (Vals.append t s)
theorem Vals.take:∀{xs:List V}{us:List Value}(n:Nat),Vals xs us->Vals (xs.take n) (us.take n)
 | _,_,0,_=>.nil
 | _,_,_+1,.nil=>.nil
 | _,_,n+1,.cons r t=>.cons r (Vals.take n t)
theorem Vals.drop:∀{xs:List V}{us:List Value}(n:Nat),Vals xs us->Vals (xs.drop n) (us.drop n)
 | _,_,0,r=>r
 | _,_,_+1,.nil=>.nil
 | _,_,n+1,.cons _ t=>Vals.drop n t
noncomputable def RelO:Option V->Option Value->Prop
 | some v,some u=>RelV v u
 | none,none=>True
 | _,_=>False
noncomputable def KV{κ:Type}:List (κ×V)->List (κ×Value)->Prop:=Paired λ(p:κ×V)(q:κ×Value)=>p.1=q.1/\RelV p.2 q.2
noncomputable def kV:Key->V
 | .inl i=>.int i
 | .inr x=>.str x
inductive HO where
  | lst (xs:List V)
  | tup (xs:List V)
  | dK (kvs:List (Key×V))|dT (kvs:List (List Key×V))
  | set (S:Int->Bool) (n:Nat)
  | ins (C dx:Addr) (fs:List (Str×V))
  | own (x:Addr)
  | xd (fs:List (Str×V))
  | met (f x:Addr)
  | rng (lo hi:Int)
  | frz (o:Obj) (u:HO)
  | tbl (ps:Array Value)
 | tabO (q:Str)
  | ext (φ:Heap->Prop)
noncomputable abbrev Hp:=Addr->Option HO
noncomputable def upd(H:Hp)(a:Addr)(o:HO):Hp:=λb=>if b=a then some o else H b
theorem zaq{H:Hp}{a:Addr}{o:HO}:upd H a o a=some o:=by unfold upd;rw[if_pos rfl]
theorem zar{H:Hp}{a b:Addr}{o:HO}(h:b≠a):upd H a o b=H b:=by unfold upd;rw[if_neg h]
theorem zams{H:Hp}{a:Addr}{o u:HO}:upd (upd H a o) a u=upd H a u:=by
 funext b;unfold upd;split<;>rfl
theorem zatb{H:Hp}{a b:Addr}{o u:HO}(h:H a=some o)(h':H b=some u)(d:o≠u):a≠b:=by
 intro e;subst e;rw[h]at h';exact d (qZ h')
theorem zbe{H:Hp}{a b:Addr}{o:HO}(h:H a=some o)(h':H b=none):a≠b:=by
 intro e;subst e;rw[h]at h';cases h'
section
variable(P:Program)(w:World)
noncomputable def zdv(H:Hp)(h:Heap)(a:Addr):HO->Prop
 | .lst xs=>xs.length<=qV/\∃(its:List Value)(n:Nat),Vals xs its/\h.get? a=some {cls:=.type "list",data:=.seq its.toArray n}
 | .tup xs=>xs.length<=qV/\∃its:List Value,Vals xs its/\IsTup h a its.toArray
 | .dK kvs=>kvs.length<=qV/\(a==sysModules)=false/\∃vs,KV kvs vs/\h.DictOf (zds P w) a vs
 | .dT kvs=>kvs.length<=qV/\(a==sysModules)=false/\∃xs:List (List Key×Addr×Value),
   Paired (λ(p:List Key×V)(q:List Key×Addr×Value)=>p.1=q.1/\H q.2.1=some (.tup (p.1.map kV))/\RelV p.2 q.2.2) kvs xs/\
   ∃o es ep,h.get? a=some o/\o.ExactDict/\o.data=.dict es ep/\es.toList=xs.map (entryOfKey (tupleKind (zds P w)))/\(xs.map (·.1)).Nodup
 | .set S n=>h.SetOf (intKind P w) a S n
 | .ins C dx fs=>H dx=some (.own a)/\fs.length<=1000/\dx≠a/\h.get? a=some (PySem.W.instObj C dx)/\
   ∃mA,h.Ns1 dx mA/\(∀f,RelO (fs.lookup f) (mA f))/\PySem.Within mA (fs.map (·.1))
 | .own _=>∃o,h.get? a=some o
 | .xd fs=>∃mA,h.Ns1 a mA/\∀f,RelO (fs.lookup f) (mA f)
 | .rng lo hi=>∃t u v,h.get? a=some {cls:=.type "range",data:=.fields #[.int lo t,.int hi u,.int 1 v]}
 | .frz o u=>h.get? a=some o/\zdv H h a u
 | .tbl ps=>h.get? a=some {cls:=.none,data:=.fields ps}
 | .tabO q=>∃ps:Array Value,h.get? a=some (PySem.W.tabObj ps)/\TriplesOk ps.toList/\∀pos cv,codeAmong pos ps.toList=some cv->∃c o vs t,cv=.ref c/\c≠a/\H c=some (.own a)/\h.get? c=some o/\o.data=.fields vs/\vs[1]?=some (.str q t)
 | .met f x=>h.get? a=some (PySem.W.methodObj (.ref f) (.ref x))
 | .ext φ=>φ h/\(∃o,h.get? a=some o)/\∀h1 h2:Heap,φ h1->(∀o,h1.get? a=some o->h2.get? a=some o)->φ h2
noncomputable def HOk(H:Hp)(h:Heap):Prop:=∀a o,H a=some o->zdv P w H h a o
end
section
variable{P:Program}{w:World}{H H':Hp}{h h':Heap}{a:Addr}{o:HO}
theorem zdv.lt(x:zdv P w H h a o):a<h.objs.size:=by
 cases o with
 | lst xs=>obtain⟨_,_,_,_,e⟩:=x;exact qJ e
 | tup xs=>obtain⟨_,_,_,p⟩:=x;exact p.lt
 | dK kvs=>obtain⟨_,_,_,_,o,_,_,e,_⟩:=x;exact qJ e
 | dT kvs=>obtain⟨_,_,_,_,o,_,_,e,_⟩:=x;exact qJ e
 | set S n=>obtain⟨o,_,_,_,e,_⟩:=x;exact qJ e
 | ins C dx fs=>obtain⟨_,_,_,e,_⟩:=x;exact qJ e
 | own y=>obtain⟨_,e⟩:=x;exact qJ e
 | xd fs=>obtain⟨_,⟨_,_,_,e,_⟩,_⟩:=x;exact qJ e
 | rng lo hi=>obtain⟨_,_,_,e⟩:=x;exact qJ e
 | frz ob u=>obtain⟨e,_⟩:=x;exact qJ e
 | tbl ps=>exact qJ (show h.get? a=some _ from x)
 | tabO q=>obtain⟨_,e,_⟩:=x;exact qJ e
 | met f y=>exact qJ (show h.get? a=some _ from x)
 | ext φ=>obtain⟨_,⟨_,e⟩,_⟩:=x;exact qJ e
theorem Paired.mapP{α β:Type}{F G:α->β->Prop}:∀{l₁:List α}{l₂:List β},Paired F l₁ l₂->(∀a b,F a b->G a b)->Paired G l₁ l₂
 | _,_,.nil,_=>.nil
 | _,_,.cons r t,f=>.cons (f _ _ r) (Paired.mapP t f)
theorem zdv.stay(x:zdv P w H h a o)(k:∀b u,(b=a\/H b=some (.own a))->h.get? b=some u->h'.get? b=some u)
  (ho:∀b,H b=some (.own a)->H' b=some (.own a))(ht:∀b xs,H b=some (.tup xs)->H' b=some (.tup xs)):zdv P w H' h' a o:=by
 induction o with
 | lst xs=>obtain⟨z,its,n,r,e⟩:=x;exact⟨z,its,n,r,k _ _ (.inl rfl) e⟩
 | tup xs=>obtain⟨z,its,r,ob,e,c⟩:=x;exact⟨z,its,r,ob,k _ _ (.inl rfl) e,c⟩
 | dK kvs=>obtain⟨z,y,vs,r,ob,es,ep,e,c⟩:=x;exact⟨z,y,vs,r,ob,es,ep,k _ _ (.inl rfl) e,c⟩
 | dT kvs=>
  obtain⟨z,y,xs,r,ob,es,ep,e,c⟩:=x
  exact⟨z,y,xs,Paired.mapP r λp q z=>⟨z.1,ht _ _ z.2.1,z.2.2⟩,ob,es,ep,k _ _ (.inl rfl) e,c⟩
 | set S n=>obtain⟨ob,es,ep,t,e,c⟩:=x;exact⟨ob,es,ep,t,k _ _ (.inl rfl) e,c⟩
 | ins C dx fs=>
  obtain⟨d,z,ne,e,mA,⟨od,es,ep,e2,c⟩,r⟩:=x
  exact⟨ho _ d,z,ne,k _ _ (.inl rfl) e,mA,⟨od,es,ep,k _ _ (.inr d) e2,c⟩,r⟩
 | own y=>obtain⟨ob,e⟩:=x;exact⟨ob,k _ _ (.inl rfl) e⟩
 | xd fs=>obtain⟨mA,⟨od,es,ep,e,c⟩,r⟩:=x;exact⟨mA,⟨od,es,ep,k _ _ (.inl rfl) e,c⟩,r⟩
 | rng lo hi=>obtain⟨t,u,v,e⟩:=x;exact⟨t,u,v,k _ _ (.inl rfl) e⟩
 | frz ob u ih=>obtain⟨e,q⟩:=x;exact⟨k _ _ (.inl rfl) e,ih q⟩
 | tabO q=>
  obtain⟨ps,e,t,c⟩:=x
  exact⟨ps,k _ _ (.inl rfl) e,t,λpos cv hc=>by
   obtain⟨c',o,vs,tt,e1,e2,e3,e4,e5⟩:=c pos cv hc
   exact⟨c',o,vs,tt,e1,e2,ho _ e3,k _ _ (.inr e3) e4,e5⟩⟩
 | tbl ps=>
  have e:h.get? a=some {cls:=.none,data:=.fields ps}:=x
  show h'.get? a=some {cls:=.none,data:=.fields ps}
  exact k a _ (.inl rfl) e
 | met f y=>
  have e:h.get? a=some (PySem.W.methodObj (.ref f) (.ref y)):=x
  show h'.get? a=some (PySem.W.methodObj (.ref f) (.ref y))
  exact k a _ (.inl rfl) e
 | ext φ=>obtain⟨p,⟨o,e⟩,st⟩:=x;exact⟨st _ _ p λo q=>k _ _ (.inl rfl) q,⟨o,k _ _ (.inl rfl) e⟩,st⟩
theorem HOk.lt(x:HOk P w H h)(e:H a=some o):a<h.objs.size:=(x a o e).lt
theorem HOk.fresh(x:HOk P w H h)(e:h.objs.size<=a):H a=none:=by
 cases q:H a with
 | none=>rfl
 | some u=>exact absurd (qg (x.lt q) e) (qBE _)
theorem HOk.kept(x:HOk P w H h)(k:∀b u,h.get? b=some u->h'.get? b=some u):HOk P w H h':=λa o e=>
 (x a o e).stay (λb u _ q=>k b u q) (λ_ q=>q) λ_ _ q=>q
theorem HOk.laid(x:HOk P w H h)(k:∀b u,h.get? b=some u->h'.get? b=some u)(hp:h.objs.size<=a)(new:zdv P w (upd H a o) h' a o):HOk P w (upd H a o) h':=λb u e=>by
 have hn:=x.fresh hp
 by_cases hb:b=a
 ·subst hb;rw[zaq]at e;cases e;exact new
 ·rw[zar hb]at e
  exact(x b u e).stay (λc v _ q=>k c v q) (λc q=>by rw[zar (zbe q hn)];exact q) λc xs q=>by rw[zar (zbe q hn)];exact q
end
noncomputable def Rd(H:Hp)(a:Addr)(u:HO):Prop:=H a=some u\/∃o,H a=some (.frz o u)
theorem Rd.ok{P:Program}{w:World}{H:Hp}{h:Heap}{a:Addr}{u:HO}(r:Rd H a u)(x:HOk P w H h):zdv P w H h a u:=by
 rcases r with r|⟨o,r⟩
 ·exact x a u r
 ·obtain⟨_,q⟩:=x a _ r
  exact q
noncomputable def Mut:Option HO->Prop
 | some (.lst _)=>True
 | some (.dK _)=>True
 | some (.dT _)=>True
 | some (.set _ _)=>True
 | some (.ins _ _ _)=>True
 | some (.ext _)=>True
 | _=>False
section
variable{P:Program}{w:World}{H:Hp}{h h':Heap}{x e:Addr}{o':HO}
theorem HOk.write(ok:HOk P w H h)(mu:Mut (H x))(he:e=x\/H e=some (.own x))(k:∀b u,b≠e->h.get? b=some u->h'.get? b=some u)(heo:∃u,h'.get? e=some u)
  (new:zdv P w (upd H x o') h' x o'):HOk P w (upd H x o') h':=λb u q=>by
 have nown:∀c y,H c=some (.own y)->c≠x:=λc y r z=>by subst z;rw[r]at mu;exact mu
 have ntup:∀c xs,H c=some (.tup xs)->c≠x:=λc xs r z=>by subst z;rw[r]at mu;exact mu
 by_cases hb:b=x
 ·subst hb;rw[zaq]at q;cases q;exact new
 ·rw[zar hb]at q
  by_cases hbe:b=e
  ·have q':H b=some (.own x):=by
    rcases he with z|z
    ·exact absurd (hbe.trans z) hb
    ·rw[hbe];exact z
   rw[q]at q';cases q'
   obtain⟨v,hv⟩:=heo
   exact⟨v,by rw[hbe];exact hv⟩
  ·refine(ok b u q).stay (λc v hc r=>k c v ?_ r) (λc r=>by rw[zar (nown c b r)];exact r) λc xs r=>by rw[zar (ntup c xs r)];exact r
   rcases hc with rfl|hc
   ·exact hbe
   ·rintro rfl
    rcases he with z|z
    ·exact nown c b hc z
    ·rw[hc]at z;cases z;exact hb rfl
end
set_option genInjectivity false in
structure Un(fs ex:List Addr)(H H':Hp)(h h':Heap):Prop where
 keep:∀b o,h.get? b=some o->H b=none->b∉fs->b∉ex->h'.get? b=some o
 slot:∀b o,h.get? b=some o->H b=none->b∈fs->b∉ex->∃sl,h'.get? b=some {o with slots:=sl}
 free:∀b o,h.get? b=some o->H b=none->b∉ex->H' b=none
 there:∀b o,h.get? b=some o->b∉ex->∃o',h'.get? b=some o'
 tups:∀b xs,H b=some (.tup xs)->H' b=some (.tup xs)
 frzs:∀b o u,H b=some (.frz o u)->H' b=some (.frz o u)
 tbls:∀b ps,H b=some (.tbl ps)->∃more,H' b=some (.tbl (ps++more))
section
variable{fs fs' ex ex':List Addr}{H H1 H2:Hp}{h h1 h2 h':Heap}{a x e:Addr}{o:HO}
theorem Un.any(u:Un fs ex H H1 h h1){b:Addr}{ob:Obj}(q:h.get? b=some ob)(n:H b=none)(hx:b∉ex):∃sl,h1.get? b=some {ob with slots:=sl}:=by
 by_cases hb:b∈fs
 ·exact u.slot b ob q n hb hx
 ·exact⟨ob.slots,u.keep b ob q n hb hx⟩
theorem Un.kept(k:∀b u,h.get? b=some u->h'.get? b=some u):Un fs ex H H h h':=
 ⟨λb ob q _ _ _=>k b ob q,λb ob q _ _ _=>⟨ob.slots,k b ob q⟩,λ_ _ _ n _=>n,λb ob q _=>⟨ob,k b ob q⟩,λ_ _ q=>q,λ_ _ _ q=>q,λ_ ps q=>⟨#[],by rw[q];simp⟩⟩
theorem Un.refl:Un fs ex H H h h:=Un.kept λ_ _ q=>q
theorem Un.laid(k:∀b u,h.get? b=some u->h'.get? b=some u)(hp:h.objs.size<=a)(hn:H a=none):Un fs ex H (upd H a o) h h' where
 keep:=λb u q _ _ _=>k b u q
 slot:=λb u q _ _ _=>⟨u.slots,k b u q⟩
 free:=λb u q n _=>by rw[zar (qk (qg (qJ q) hp))];exact n
 there:=λb u q _=>⟨u,k b u q⟩
 tups:=λb xs q=>by rw[zar (zbe q hn)];exact q
 frzs:=λb u xs q=>by rw[zar (zbe q hn)];exact q
 tbls:=λb ps q=>⟨#[],by rw[zar (zbe q hn),q];simp⟩
theorem Un.write(mu:Mut (H x))(he:e=x\/H e=some (.own x))(k:∀b u,b≠e->h.get? b=some u->h'.get? b=some u)(heo:∃u,h'.get? e=some u):Un fs ex H (upd H x o) h h':=by
 have hx:∀b,H b=none->b≠x:=λb n z=>by subst z;rw[n]at mu;exact mu
 have hb:∀b,H b=none->b≠e:=λb n z=>by
  subst z
  rcases he with r|r
  ·exact hx b n r
  ·rw[n]at r;cases r
 have hm:∀b u,H b=some u->¬Mut (some u)->b≠x:=λb u q nm z=>by subst z;rw[q]at mu;exact nm mu
 refine⟨λb u q n _ _=>k b u (hb b n) q,λb u q n _ _=>⟨u.slots,k b u (hb b n) q⟩,λb u q n _=>by rw[zar (hx b n)];exact n,λb u q _=>?_,
  λb xs q=>by rw[zar (hm b _ q λz=>z)];exact q,λb u xs q=>by rw[zar (hm b _ q λz=>z)];exact q,λb ps q=>⟨#[],by rw[zar (hm b _ q λz=>z),q];simp⟩⟩
 by_cases hbe:b=e
 ·subst hbe;exact heo
 ·exact⟨u,k b u hbe q⟩
end
noncomputable def trk(h:Heap)(H:Hp):List Addr:=(List.range h.objs.size).filter λa=>(H a).isSome
noncomputable def hidT(h:Heap)(H:Hp):Heap:=PySem.W.hideAll h (trk h H)
theorem zadd(h:Heap)(H:Hp):(hidT h H).objs.size=h.objs.size:=PySem.W.hideAll_size _ _
theorem zou{h:Heap}{H:Hp}{b:Addr}{o:Obj}(e:h.get? b=some o)(n:H b=none):(hidT h H).get? b=some o:=
 PySem.W.hideAll_get _ e λhm=>by
  have q:(H b).isSome=true:=(qCb.mp hm).2
  rw[n]at q;simp at q
theorem zamt{h:Heap}{H:Hp}{b:Addr}{o:Obj}(e:(hidT h H).get? b=some o):h.get? b=some o/\H b=none:=by
 have e':h.get? b=some o:=PySem.W.of_hideAll (trk h H) e
 refine⟨e',?_⟩
 cases q:H b with
 | none=>rfl
 | some x=>
  have hm:b∈trk h H:=qCb.mpr ⟨qAq.mpr (qJ e'),by simp[q]⟩
  have z:(hidT h H).get? b=none:=PySem.W.hideAll_none (trk h H) hm
  rw[z]at e;cases e
set_option genInjectivity false in
structure Mod(K:qB)(mg:Str->Option Value)(base:Heap):Prop where
 kin:K.In base
 glob:base.Ns qN mg
 blt:∃mb,base.Ns builtinsNs mb/\∀x:Str,x≠"__name__"->mb x=bootBuiltins x
 nolimit:base.NoLimit
set_option genInjectivity false in
structure Cx where
 prog:Program
 w:World
 K:qB
 mg:Str->Option Value
 base:Heap
 A:Around
 N:List Str
 s₀:Shared
 H₀:Hp
 env:Env
 outer:List Env
 stack:List Env
 ex:List Addr
 fn:Str->Bool
 calm:Bool
 pn:List (Addr×Obj)
 xe:Value->Shared->Prop
noncomputable def frs(l:List Env):List Addr:=l.filterMap (·.frame)
noncomputable abbrev Cx.fs(X:Cx):List Addr:=frs X.outer
noncomputable def Vis(sc:Scope)(x:Str):Prop:=sc.names.lookup x=some .local\/sc.names.lookup x=some .cell\/sc.names.lookup x=some .free
noncomputable def visB(sc:Scope)(x:Str):Bool:=match sc.names.lookup x with
 | some .local=>true
 | some .cell=>true
 | some .free=>true
 | _=>false
theorem visB.of{sc:Scope}{x:Str}(h:visB sc x=true):Vis sc x:=by
 unfold visB at h
 cases e:sc.names.lookup x with
 | none=>rw[e]at h;cases h
 | some k=>rw[e]at h;cases k<;>first|exact .inl e|exact .inr (.inl e)|exact .inr (.inr e)|cases h
noncomputable def Loc(sc:Scope)(x:Str):Prop:=sc.names.lookup x=some .local\/sc.names.lookup x=some .cell
noncomputable def Look(env:Env)(h:Heap)(m:Str->Option Value)(x:Str)(u:Value):Prop:=
 (env.kindOf x=some .local/\m x=some u)\/((env.kindOf x=some .cell\/env.kindOf x=some .free)/\∃c,env.cells.lookup x=some c/\h.IsCell c (some u))
set_option genInjectivity false in
structure Cx.Ok(X:Cx):Prop where
 mod:Mod X.K X.mg X.base
 kind:X.env.scope.kind=.function
 glob:X.env.globals=qN
 blt:X.env.builtins=builtinsNs
 above:X.s₀.heap.objs.size<=X.env.locals
 inj:∀x y c,X.env.cells.lookup x=some c->X.env.cells.lookup y=some c->x=y
 has:∀x,(X.env.kindOf x=some .cell\/X.env.kindOf x=some .free)->∃c,X.env.cells.lookup x=some c
 cab:∀x c,X.fn x=true->X.env.cells.lookup x=some c->X.s₀.heap.objs.size<=c
 hd:X.calm=true->X.A.handled=none
 frames:X.A.frames=some X.stack
 stk:X.stack=X.outer\/(X.stack=X.env::X.outer/\X.env.frame=some X.env.locals)
 exf:∀b∈X.ex,b≠X.env.locals/\∀x c,X.env.cells.lookup x=some c->c≠b
 bs:∀b o,X.base.get? b=some o->X.s₀.heap.get? b=some o/\X.H₀ b=none
 bsz:X.base.objs.size<=X.s₀.heap.objs.size
 noex:∀b o,X.base.get? b=some o->b∉X.ex
 exfs:∀b∈X.ex,b∉X.fs
 funs:X.s₀.heap.FunFrames X.base X.outer
 frf:∀b∈X.fs,X.H₀ b=none
set_option genInjectivity false in
structure Inv(X:Cx)(pins:List (Addr×Obj))(σ:List (Option V))(H:Hp)(s:Shared):Prop where
 ok:X.Ok
 os:s.os=X.s₀.os
 bare:AllBare s.gens
 base:Un X.fs X.ex X.H₀ H X.s₀.heap s.heap
 loc:∃m,s.heap.Ns X.env.locals m/\∀(i:Nat)(x:Str)(v:V),X.N[i]?=some x->σ[i]?=some (some v)->Vis X.env.scope x->∃u,RelV v u/\Look X.env s.heap m x u
 cell:∀x c,X.env.cells.lookup x=some c->∃v,s.heap.IsCell c v
 free:H X.env.locals=none
 freeC:∀x c,X.env.cells.lookup x=some c->H c=none
 pin:∀p∈X.pn++pins,s.heap.get? p.1=some p.2/\H p.1=none/\p.1≠X.env.locals/\p.1∉X.fs/\∀v,p.2.data≠.cell v
 hok:HOk X.prog X.w H s.heap
 len:σ.length=X.N.length
section
variable{X:Cx}{pins:List (Addr×Obj)}{σ:List (Option V)}{H H':Hp}{s:Shared}{h':Heap}
theorem Cx.Ok.nofr(ok:X.Ok){b:Addr}{o:Obj}(e:X.base.get? b=some o):b∉X.fs:=λhb=>by
 have:=(ok.funs.mem hb).1
 rw[e]at this;cases this
theorem Inv.bs(I:Inv X pins σ H s):∀b o,X.base.get? b=some o->s.heap.get? b=some o/\H b=none:=λb o e=>
 ⟨I.base.keep b o (I.ok.bs b o e).1 (I.ok.bs b o e).2 (I.ok.nofr e) (I.ok.noex b o e),I.base.free b o (I.ok.bs b o e).1 (I.ok.bs b o e).2 (I.ok.noex b o e)⟩
theorem Inv.bk(I:Inv X pins σ H s):∀b o,X.base.get? b=some o->s.heap.get? b=some o:=λb o e=>(I.bs b o e).1
theorem Inv.mod(I:Inv X pins σ H s):Mod X.K X.mg X.base:=I.ok.mod
theorem Inv.kIn(I:Inv X pins σ H s):X.K.In s.heap:=I.ok.mod.kin.keeps I.bk
theorem Inv.fr(I:Inv X pins σ H s):∃m,Fr X.base X.env.locals s.heap m:=
 let⟨m,hn,_⟩:=I.loc
 ⟨m,hn,I.bk,qAM I.ok.bsz I.ok.above⟩
theorem Inv.lt(I:Inv X pins σ H s):X.env.locals<s.heap.objs.size:=let⟨_,hn,_⟩:=I.loc;hn.lt
theorem Inv.sz(I:Inv X pins σ H s):X.s₀.heap.objs.size<=s.heap.objs.size:=qAM I.ok.above (qBh I.lt)
theorem Inv.nofs(I:Inv X pins σ H s){a:Addr}(h:s.heap.objs.size<=a):a∉X.fs:=λhb=>by
 obtain⟨_,o,ho,_⟩:=I.ok.funs.mem hb
 exact absurd (qg (qJ ho) (qAM I.sz h)) (qBE _)
theorem Inv.cne(I:Inv X pins σ H s):∀x c,X.env.cells.lookup x=some c->c≠X.env.locals:=λx c e z=>by
 obtain⟨v,o,ho,hd⟩:=I.cell x c e
 obtain⟨m,⟨o',es,ep,ho',hd',_⟩,_⟩:=I.loc
 rw[z,ho']at ho;cases ho;rw[hd']at hd;cases hd
theorem Inv.funs(I:Inv X pins σ H s):s.heap.FunFrames X.base X.outer:=by
 have all:∀(l:List Env),(∀b∈frs l,b∈X.fs)->X.s₀.heap.FunFrames X.base l->s.heap.FunFrames X.base l:=by
  intro l
  induction l with
  | nil=>intro _ _;trivial
  | cons env r ih=>
   intro hs hl
   obtain⟨hk,⟨L,o,hf,hn,ho,hd⟩,hr⟩:=hl
   have hL:L∈X.fs:=hs L (by unfold frs;rw[qBp,hf];exact qm)
   obtain⟨sl,e⟩:=I.base.slot L o ho (I.ok.frf L hL) hL λz=>I.ok.exfs L z hL
   exact⟨hk,⟨L,_,hf,hn,e,hd⟩,ih (λb hb=>hs b (by unfold frs;rw[qBp,hf];exact qK _ hb)) hr⟩
 exact all X.outer (λ_ hb=>hb) I.ok.funs
theorem Inv.stack(I:Inv X pins σ H s):s.heap.FunFrames X.base X.stack:=by
 rcases I.ok.stk with e|⟨e,hf⟩
 ·rw[e];exact I.funs
 ·rw[e]
  obtain⟨m,hn,_⟩:=I.loc
  refine .cons (by rw[I.ok.kind];decide) hf hn ?_ I.funs
  exact qB8 (qAM I.ok.bsz I.ok.above)
theorem Inv.stkSub(I:Inv X pins σ H s):∀b∈frs X.stack,b∈X.env.locals::X.fs:=λb hb=>by
 rcases I.ok.stk with e|⟨e,hf⟩
 ·rw[e]at hb;exact qK _ hb
 ·rw[e]at hb
  unfold frs at hb
  rw[qBp,hf]at hb
  exact hb
theorem Inv.stkFree(I:Inv X pins σ H s):∀b∈frs X.stack,H b=none:=λb hb=>by
 rcases qc.mp (I.stkSub b hb)with e|hb
 ·rw[e];exact I.free
 ·obtain⟨_,o,ho,_⟩:=I.ok.funs.mem hb
  exact I.base.free b o ho (I.ok.frf b hb) λz=>I.ok.exfs b z hb
theorem Inv.step{g':Array GenState}{t':Nat}{d':Drawn}{ch:List Addr}(I:Inv X pins σ H s)
  (hch:∀b∈ch,(b∈X.ex\/X.s₀.heap.objs.size<=b)/\b≠X.env.locals/\(∀x c,X.env.cells.lookup x=some c->c≠b)/\∀p∈X.pn++pins,p.1≠b)
  (keep:∀b o,b≠X.env.locals->b∉X.fs->b∉ch->s.heap.get? b=some o->H b=none->h'.get? b=some o)
  (slot:∀b o,b≠X.env.locals->b∈X.fs->b∉ch->s.heap.get? b=some o->H b=none->∃sl,h'.get? b=some {o with slots:=sl}) (free:∀b o,b∉ch->s.heap.get? b=some o->H b=none->H' b=none)
  (there:∀b o,b∉ch->s.heap.get? b=some o->∃o',h'.get? b=some o')
  (tups:∀b xs,H b=some (.tup xs)->H' b=some (.tup xs))(frzs:∀b o u,H b=some (.frz o u)->H' b=some (.frz o u))(tbls:∀b ps,H b=some (.tbl ps)->∃more,H' b=some (.tbl (ps++more)))
  (ns:∀m,s.heap.Ns X.env.locals m->h'.Ns X.env.locals m)(hok:HOk X.prog X.w H' h')(hg:AllBare g') :
  Inv X pins σ H' {s with heap:=h',gens:=g',drawn:=d',toks:=t'}:=by
 have neL:∀b o,X.s₀.heap.get? b=some o->b≠X.env.locals:=λb o e=>qk (qg (qJ e) I.ok.above)
 have neC:∀b o,X.s₀.heap.get? b=some o->b∉X.ex->b∉ch:=λb o e hx hb=>by
  rcases(hch b hb).1 with z|z
  ·exact hx z
  ·exact absurd (qg (qJ e) z) (qBE _)
 have cellK:∀x c,X.env.cells.lookup x=some c->∀v,s.heap.IsCell c v->h'.IsCell c v:=λx c e v ⟨o,ho,hd⟩=>by
  have nch:c∉ch:=λz=>(hch c z).2.2.1 x c e rfl
  by_cases hc:c∈X.fs
  ·obtain⟨sl,q⟩:=slot c o (I.cne x c e) hc nch ho (I.freeC x c e)
   exact⟨_,q,hd⟩
  ·exact⟨o,keep c o (I.cne x c e) hc nch ho (I.freeC x c e),hd⟩
 refine⟨I.ok,I.os,hg,⟨λb o e n hb hx=>?_,λb o e n hb hx=>?_,λb o e n hx=>?_,λb o e hx=>?_,λb xs e=>tups b xs (I.base.tups b xs e),λb o xs e=>frzs b o xs (I.base.frzs b o xs e),λb ps e=>?_⟩,?_,λx c e=>?_,?_,λx c e=>?_,λp hp=>?_,hok,I.len⟩
 ·exact keep b o (neL b o e) hb (neC b o e hx) (I.base.keep b o e n hb hx) (I.base.free b o e n hx)
 ·obtain⟨sl,e1⟩:=I.base.slot b o e n hb hx
  obtain⟨sl',e2⟩:=slot b _ (neL b o e) hb (neC b o e hx) e1 (I.base.free b o e n hx)
  exact⟨sl',e2⟩
 ·obtain⟨o',e1⟩:=I.base.there b o e hx
  exact free b o' (neC b o e hx) e1 (I.base.free b o e n hx)
 ·obtain⟨o',e1⟩:=I.base.there b o e hx
  exact there b o' (neC b o e hx) e1
 ·obtain⟨m1,e1⟩:=I.base.tbls b ps e
  obtain⟨m2,e2⟩:=tbls b _ e1
  exact⟨m1++m2,by rw[e2,Array.append_assoc]⟩
 ·obtain⟨m,hn,hl⟩:=I.loc
  refine⟨m,ns m hn,λi x v e1 e2 e3=>?_⟩
  obtain⟨u,r,l⟩:=hl i x v e1 e2 e3
  refine⟨u,r,?_⟩
  rcases l with l|⟨k,c,e,z⟩
  ·exact .inl l
  ·exact .inr ⟨k,c,e,cellK x c e _ z⟩
 ·obtain⟨v,z⟩:=I.cell x c e
  exact⟨v,cellK x c e v z⟩
 ·obtain⟨m,⟨o,_,_,ho,_⟩,_⟩:=I.loc
  exact free _ o (λz=>(hch _ z).2.1 rfl) ho I.free
 ·obtain⟨v,o,ho,hd⟩:=I.cell x c e
  exact free c o (λz=>(hch c z).2.2.1 x c e rfl) ho (I.freeC x c e)
 ·obtain⟨e,n,ne,nf,d⟩:=I.pin p hp
  have nch:p.1∉ch:=λz=>(hch p.1 z).2.2.2 p hp rfl
  exact⟨keep p.1 p.2 ne nf nch e n,free p.1 p.2 nch e n,ne,nf,d⟩
theorem Inv.un{t':Nat}(I:Inv X pins σ H s)(u:Un X.fs [] H H' s.heap h')(hok:HOk X.prog X.w H' h'):Inv X pins σ H' {s with heap:=h',toks:=t'}:=by
 obtain⟨m,⟨o,es,ep,ho,r⟩,_⟩:=id I.loc
 obtain⟨sl,hL⟩:=u.any ho I.free (by simp)
 exact I.step (g':=s.gens) (d':=s.drawn) (ch:=[]) (λ_ z=>nomatch z) (λb o _ hb _ e n=>u.keep b o e n hb (by simp)) (λb o _ hb _ e n=>u.slot b o e n hb (by simp)) (λb o _ e n=>u.free b o e n (by simp)) (λb o _ e=>u.there b o e (by simp)) u.tups u.frzs u.tbls (λm' hm=>by
  obtain⟨o',es',ep',ho',r'⟩:=hm
  rw[ho]at ho';cases ho'
  exact⟨_,es',ep',hL,r'⟩) hok I.bare
theorem Inv.call{g':Array GenState}{t':Nat}{d':Drawn}{ch:List Addr}(I:Inv X pins σ H s)(u:Un (frs X.stack) ch H H' s.heap h')(hok:HOk X.prog X.w H' h')(hg:AllBare g')
  (hch:∀b∈ch,(b∈X.ex\/X.s₀.heap.objs.size<=b)/\b≠X.env.locals/\(∀x c,X.env.cells.lookup x=some c->c≠b)/\∀p∈X.pn++pins,p.1≠b) :
  Inv X pins σ H' {s with heap:=h',gens:=g',drawn:=d',toks:=t'}:=by
 obtain⟨m,⟨o,es,ep,ho,r⟩,_⟩:=id I.loc
 obtain⟨sl,hL⟩:=u.any ho I.free λz=>(hch _ z).2.1 rfl
 exact I.step (ch:=ch) hch (λb o hL hb hc e n=>u.keep b o e n (λz=>(qc.mp (I.stkSub b z)).elim hL hb) hc) (λb o _ _ hc e n=>u.any e n hc) (λb o hc e n=>u.free b o e n hc) (λb o hc e=>u.there b o e hc) u.tups u.frzs u.tbls (λm' hm=>by
  obtain⟨o',es',ep',ho',r'⟩:=hm
  rw[ho]at ho';cases ho'
  exact⟨_,es',ep',hL,r'⟩) hok hg
theorem Inv.turned{t':Nat}{it:Addr}(I:Inv X pins σ H s)(k:∀b o,b≠it->s.heap.get? b=some o->h'.get? b=some o)(hn:H it=none)(hL:it≠X.env.locals)
  (h1:it∈X.ex\/X.s₀.heap.objs.size<=it) (h2:∀x c,X.env.cells.lookup x=some c->c≠it) (h3:∀p∈X.pn++pins,p.1≠it):Inv X pins σ H {s with heap:=h',toks:=t'}:=by
 have nit:∀b u,H b=some u->b≠it:=λb u e z=>by rw[z,hn]at e;cases e
 refine I.step (g':=s.gens) (d':=s.drawn) (ch:=[it]) (λb hb=>?_) (λb o _ _ hc e _=>k b o (λz=>hc (by simp[z])) e) (λb o _ _ hc e _=>⟨o.slots,k b o (λz=>hc (by simp[z])) e⟩) (λ_ _ _ _ n=>n)
  (λb o hc e=>⟨o,k b o (λz=>hc (by simp[z])) e⟩) (λ_ _ e=>e) (λ_ _ _ e=>e) (λb ps e=>⟨#[],by rw[e];simp⟩) (λm hm=>?_) (λb u e=>?_) I.bare
 ·have e:b=it:=by simpa using hb
  subst e
  exact⟨h1,hL,h2,h3⟩
 ·obtain⟨o,es,ep,ho,r⟩:=hm
  exact⟨o,es,ep,k _ o (qAo hL) ho,r⟩
 ·refine(I.hok b u e).stay (λc v hc q=>k c v ?_ q) (λ_ q=>q) λ_ _ q=>q
  rcases hc with z|z
  ·rw[z];exact nit b u e
  ·exact nit c _ z
theorem Inv.tok(I:Inv X pins σ H s)(t:Nat):Inv X pins σ H {s with toks:=t}:=I.un (h':=s.heap) (t':=t) Un.refl I.hok
theorem Inv.kept{t':Nat}(I:Inv X pins σ H s)(k:∀b u,s.heap.get? b=some u->h'.get? b=some u):Inv X pins σ H {s with heap:=h',toks:=t'}:=I.un (Un.kept k) (I.hok.kept k)
theorem Inv.laid{a:Addr}{o:HO}{t':Nat}(I:Inv X pins σ H s)(k:∀b u,s.heap.get? b=some u->h'.get? b=some u)(hp:s.heap.objs.size<=a)(new:zdv X.prog X.w (upd H a o) h' a o) :
  Inv X pins σ (upd H a o) {s with heap:=h',toks:=t'}:=I.un (Un.laid k hp (I.hok.fresh hp)) (I.hok.laid k hp new)
theorem Inv.write{x e:Addr}{o:HO}{t':Nat}(I:Inv X pins σ H s)(mu:Mut (H x))(he:e=x\/H e=some (.own x))(k:∀b u,b≠e->s.heap.get? b=some u->h'.get? b=some u)(heo:∃u,h'.get? e=some u)
  (new:zdv X.prog X.w (upd H x o) h' x o):Inv X pins σ (upd H x o) {s with heap:=h',toks:=t'}:=I.un (Un.write mu he k heo) (I.hok.write mu he k heo new)
theorem Inv.pins_of{pins':List (Addr×Obj)}(I:Inv X pins σ H s)(h:∀p∈pins',s.heap.get? p.1=some p.2/\H p.1=none/\p.1≠X.env.locals/\p.1∉X.fs/\∀v,p.2.data≠.cell v):Inv X pins' σ H s:=
 ⟨I.ok,I.os,I.bare,I.base,I.loc,I.cell,I.free,I.freeC,λp hp=>(qX.mp hp).elim (λz=>I.pin p (qu _ z)) (h p),I.hok,I.len⟩
theorem zsn{N:List Str}(hN:N.Nodup){i j:Nat}{x:Str}(a:N[i]?=some x)(b:N[j]?=some x):i=j:=by
 obtain⟨h1,e1⟩:=qU.mp a
 obtain⟨h2,e2⟩:=qU.mp b
 exact(List.getElem_inj hN).mp (e1.trans e2.symm)
theorem zua{M:Model}{A:Around}{E:Value->Shared->Prop}{i:Nat}{x:Str}{v:V}{u:Value}{Q:Unit->Shared->Prop}(I:Inv X pins σ H s)(hN:X.N.Nodup)(hi:X.N[i]?=some x)(hx:Loc X.env.scope x)(r:RelV v u)
  (h:∀s',Inv X pins (σ.set i (some v)) H s'->(∃a,Heap.SameBut a s.heap s'.heap/\(a=X.env.locals\/X.env.cells.lookup x=some a))->Q () s') (hf:X.fn x=true\/X.env.scope.names.lookup x=some .local:=by assumption):wpAny M A (storeName X.env x u) Q E s:=by
 obtain⟨m,hn,hl⟩:=id I.loc
 have hcls:(X.env.scope.kind==.class||(X.env.scope.kind==.module&&X.env.locals != X.env.globals))=false:=by rw[I.ok.kind];rfl
 have hiσ:i<σ.length:=by rw[I.len];exact(qU.mp hi).1
 have cne:=I.cne
 have tracked:∀{a:Addr}{h':Heap},(∃o,s.heap.get? a=some o/\H a=none)->Heap.SameBut a s.heap h'->HOk X.prog X.w H h':=λ{a h'} ha hs b ob e=>by
  obtain⟨_,_,hfree⟩:=ha
  refine(I.hok b ob e).stay (λc w' hc q=>(hs.2 c ?_).trans q) (λ_ q=>q) λ_ _ q=>q
  rintro rfl
  rcases hc with rfl|hc
  ·rw[hfree]at e;cases e
  ·rw[hfree]at hc;cases hc
 rcases hx with hk|hk
 ·refine wpAny_storeName_local hk hn (λh' hn' hs=>?_) hcls
  obtain⟨oL,_,_,hoL,_⟩:=id hn
  refine h _ ⟨I.ok,I.os,I.bare,⟨λb o e n hb hx=>?_,λb o e n hb hx=>?_,I.base.free,λb o e hx=>?_,I.base.tups,I.base.frzs,I.base.tbls⟩,⟨_,hn',λj y v' e1 e2 e3=>?_⟩,λy c e=>?_,I.free,I.freeC,λp hp=>?_,tracked ⟨oL,hoL,I.free⟩ hs,by simpa using I.len⟩ ⟨_,hs,.inl rfl⟩
  ·exact(hs.2 b (qk (qg (qJ e) I.ok.above))).trans (I.base.keep b o e n hb hx)
  ·obtain⟨sl,e1⟩:=I.base.slot b o e n hb hx
   exact⟨sl,(hs.2 b (qk (qg (qJ e) I.ok.above))).trans e1⟩
  ·obtain⟨o',e1⟩:=I.base.there b o e hx
   exact⟨o',(hs.2 b (qk (qg (qJ e) I.ok.above))).trans e1⟩
  ·by_cases hj:j=i
   ·subst hj
    rw[hi]at e1;cases e1
    rw[qAI hiσ]at e2
    cases e2
    exact⟨u,r,.inl ⟨hk,by simp⟩⟩
   ·rw[qf (qAo hj)]at e2
    obtain⟨u',r',q⟩:=hl j y v' e1 e2 e3
    refine⟨u',r',?_⟩
    rcases q with⟨k,e⟩|⟨k,c,e,z⟩
    ·refine .inl ⟨k,?_⟩
     have:y≠x:=λe=>hj (zsn hN e1 (e▸hi))
     simp[this,e]
    ·exact .inr ⟨k,c,e,z.sameBut hs (cne y c e)⟩
  ·obtain⟨w',z⟩:=I.cell y c e
   exact⟨w',z.sameBut hs (cne y c e)⟩
  ·obtain⟨e,n,ne,nf,d⟩:=I.pin p hp
   exact⟨(hs.2 p.1 ne).trans e,n,ne,nf,d⟩
 ·have hfn:X.fn x=true:=by
   rcases hf with z|z
   ·exact z
   ·rw[z]at hk;cases hk
  obtain⟨c,hc⟩:=I.ok.has x (.inl hk)
  obtain⟨w',z⟩:=I.cell x c hc
  refine wpAny_storeName_cell I.ok.kind hk hc z (λh' hc' hs=>?_)
  obtain⟨oc,hoc,hocd⟩:=id z
  refine h {s with heap:=h'} ⟨I.ok,I.os,I.bare,⟨λb o e n hb hx=>?_,λb o e n hb hx=>?_,I.base.free,λb o e hx=>?_,I.base.tups,I.base.frzs,I.base.tbls⟩,⟨m,hn.sameBut hs (qAo (cne x c hc)),λj y v' e1 e2 e3=>?_⟩,λy c' e=>?_,I.free,I.freeC,λp hp=>?_,tracked ⟨oc,hoc,I.freeC x c hc⟩ hs,by simpa using I.len⟩ ⟨c,hs,.inr hc⟩
  ·exact(hs.2 b (qk (qg (qJ e) (I.ok.cab x c hfn hc)))).trans (I.base.keep b o e n hb hx)
  ·obtain⟨sl,e1⟩:=I.base.slot b o e n hb hx
   exact⟨sl,(hs.2 b (qk (qg (qJ e) (I.ok.cab x c hfn hc)))).trans e1⟩
  ·obtain⟨o',e1⟩:=I.base.there b o e hx
   exact⟨o',(hs.2 b (qk (qg (qJ e) (I.ok.cab x c hfn hc)))).trans e1⟩
  ·by_cases hj:j=i
   ·subst hj
    rw[hi]at e1;cases e1
    rw[qAI hiσ]at e2
    cases e2
    exact⟨u,r,.inr ⟨.inl hk,c,hc,hc'⟩⟩
   ·rw[qf (qAo hj)]at e2
    obtain⟨u',r',q⟩:=hl j y v' e1 e2 e3
    refine⟨u',r',?_⟩
    rcases q with q|⟨k,c',e,z'⟩
    ·exact .inl q
    ·refine .inr ⟨k,c',e,z'.sameBut hs ?_⟩
     rintro rfl
     exact hj (zsn hN e1 (I.ok.inj _ _ _ e hc▸hi))
  ·by_cases hcc:c'=c
   ·subst hcc;exact⟨_,hc'⟩
   ·obtain⟨w2,z2⟩:=I.cell y c' e
    exact⟨w2,z2.sameBut hs hcc⟩
  ·obtain⟨e,n,ne,nf,d⟩:=I.pin p hp
   refine⟨(hs.2 p.1 ?_).trans e,n,ne,nf,d⟩
   intro q
   rw[q,hoc]at e
   have q':oc=p.2:=qZ e
   exact d w' (by rw[<- q'];exact hocd)
theorem zso{M:Model}{A:Around}{E:Value->Shared->Prop}{i:Nat}{x:Str}{v:V}{u:Value}{Q:Unit->Shared->Prop}(I:Inv X pins σ H s)(hN:X.N.Nodup)(hi:X.N[i]?=some x)(hx:Loc X.env.scope x)(r:RelV v u)
  (h:∀s',Inv X pins (σ.set i (some v)) H s'->Q () s') (hf:X.fn x=true\/X.env.scope.names.lookup x=some .local:=by assumption):wpAny M A (storeName X.env x u) Q E s:=
 zua I hN hi hx r (λs' I' _=>h s' I') hf
theorem Inv.call'{s':Shared}{ch:List Addr}(I:Inv X pins σ H s)(ho:s'.os=s.os)(u:Un (frs X.stack) ch H H' s.heap s'.heap)(hok:HOk X.prog X.w H' s'.heap)(hg:AllBare s'.gens)
  (hch:∀b∈ch,(b∈X.ex\/X.s₀.heap.objs.size<=b)/\b≠X.env.locals/\(∀x c,X.env.cells.lookup x=some c->c≠b)/\∀p∈X.pn++pins,p.1≠b):Inv X pins σ H' s':=by
 obtain⟨h',g',d',t',o'⟩:=s'
 have e:o'=s.os:=ho
 subst e
 exact I.call (g':=g') (t':=t') (d':=d') u hok hg hch
end
noncomputable abbrev XK:=Value->Option Addr->Hp->Prop
noncomputable abbrev St:=List (Option V)
noncomputable abbrev VK:=V->Hp->Prop
noncomputable abbrev TE:=St->Hp->VK->Prop
noncomputable abbrev TT:=St->Hp->(Bool->Hp->Prop)->Prop
noncomputable abbrev TA:=St->Hp->(List V->Hp->Prop)->Prop
set_option genInjectivity false in
structure Ends where
 nx:St->Hp->Prop
 rt:VK
 bk:St->Hp->Prop:=λ_ _=>False
 ct:St->Hp->Prop:=λ_ _=>False
noncomputable abbrev TS:=Ends->St->Hp->Prop
noncomputable def EP(X:Cx)(pins:List (Addr×Obj))(σ:St)(Q:VK)(u:Value)(s':Shared):Prop:=∃v H',Inv X pins σ H' s'/\RelV v u/\Q v H'
noncomputable def TP(X:Cx)(pins:List (Addr×Obj))(σ:St)(Q:Bool->Hp->Prop)(b:Bool)(s':Shared):Prop:=∃H',Inv X pins σ H' s'/\Q b H'
noncomputable def AP(X:Cx)(pins:List (Addr×Obj))(σ:St)(Q:List V->Hp->Prop)(us:List Value)(s':Shared):Prop:=∃vs H',Inv X pins σ H' s'/\Vals vs us/\Q vs H'
noncomputable def SP(X:Cx)(pins:List (Addr×Obj))(D:Ends)(f:Flow)(s':Shared):Prop:=
 match f with
 | .next=>∃σ' H',Inv X pins σ' H' s'/\D.nx σ' H'
 | .brk=>∃σ' H',Inv X pins σ' H' s'/\D.bk σ' H'
 | .cont=>∃σ' H',Inv X pins σ' H' s'/\D.ct σ' H'
 | .ret u=>∃v σ' H',Inv X pins σ' H' s'/\RelV v u/\D.rt v H'
noncomputable def PE(X:Cx)(e:Expr)(t:TE):Prop:=
 ∀(pins:List (Addr×Obj))(s:Shared)(σ:St)(H:Hp)(Q:VK),Inv X pins σ H s->t σ H Q->wpAny (model X.prog X.w) X.A (eval e X.env) (EP X pins σ Q) X.xe s
noncomputable def PT(X:Cx)(e:Expr)(t:TT):Prop:=
 ∀(pins:List (Addr×Obj))(s:Shared)(σ:St)(H:Hp)(Q:Bool->Hp->Prop),Inv X pins σ H s->t σ H Q->wpAny (model X.prog X.w) X.A (isTrue e X.env (eval e X.env)) (TP X pins σ Q) X.xe s
noncomputable def PW(X:Cx)(e:Expr)(t:TT):Prop:=
 ∀(whole:Sem Value)(pins:List (Addr×Obj))(s:Shared)(σ:St)(H:Hp)(Q:Bool->Hp->Prop),Inv X pins σ H s->t σ H Q->wpAny (model X.prog X.w) X.A (isTrue e X.env whole) (TP X pins σ Q) X.xe s
theorem PW.pt{X:Cx}{e:Expr}{t:TT}(h:PW X e t):PT X e t:=h _
noncomputable def PA(X:Cx)(es:List Expr)(t:TA):Prop:=
 ∀(pos:Pos)(pins:List (Addr×Obj))(s:Shared)(σ:St)(H:Hp)(Q:List V->Hp->Prop),Inv X pins σ H s->t σ H Q->wpAny (model X.prog X.w) X.A (spliced (backTo pos (starEach es X.env))) (AP X pins σ Q) X.xe s
noncomputable def PS(X:Cx)(st:Stmt)(t:TS):Prop:=
 ∀(pins:List (Addr×Obj))(s:Shared)(σ:St)(H:Hp)(D:Ends),Inv X pins σ H s->t D σ H->wpAny (model X.prog X.w) X.A (exec st X.env) (SP X pins D) X.xe s
noncomputable def PSs(X:Cx)(st:List Stmt)(t:TS):Prop:=
 ∀(pins:List (Addr×Obj))(s:Shared)(σ:St)(H:Hp)(D:Ends),Inv X pins σ H s->t D σ H->wpAny (model X.prog X.w) X.A (execs st X.env) (SP X pins D) X.xe s
theorem thn{α:Type}{t:Sem α}{Q Q':α->Shared->Prop}{M:Model}{A:Around}{E:Value->Shared->Prop}{s:Shared}(h:wpAny M A t Q E s)(hQ:∀a s,Q a s->Q' a s):wpAny M A t Q' E s:=qA7 h hQ λ_ _ x=>x
section
variable{X:Cx}
theorem bin{a b:Expr}{ta tb:TE}(ha:PE X a ta)(hb:PE X b tb){pins:List (Addr×Obj)}{s:Shared}{σ:St}{H:Hp}{R:V->V->Hp->Prop}(I:Inv X pins σ H s)(h:ta σ H λx H1=>tb σ H1 λy H2=>R x y H2)
  {α:Type}{Q:α->Shared->Prop}{f:Value->Value->Sem α}
  (hf:∀v u s2 x y H2,Inv X pins σ H2 s2->RelV x v->RelV y u->R x y H2->wpAny (model X.prog X.w) X.A (f v u) Q X.xe s2) :
  wpAny (model X.prog X.w) X.A (eval a X.env) (λv s₁=>wpAny (model X.prog X.w) X.A (eval b X.env) (λu s₂=>wpAny (model X.prog X.w) X.A (f v u) Q X.xe s₂) X.xe s₁) X.xe s:=by
 refine thn (ha pins s σ H _ I h) λv s1 ⟨x,H1,I1,r1,q1⟩=>?_
 refine thn (hb pins s1 σ H1 _ I1 q1) λu s2 ⟨y,H2,I2,r2,q2⟩=>?_
 exact hf v u s2 x y H2 I2 r1 r2 q2
noncomputable def tVar(i:Nat):TE:=λσ H Q=>∃v,σ[i]?=some (some v)/\Q v H
noncomputable def tC(v:V):TE:=λ_ H Q=>Q v H
theorem zade{i:Nat}{x:Str}{pos:Pos}(hN:X.N[i]?=some x)(hv:Vis X.env.scope x)(hd:(x==("__debug__":Str))=false:=by decide)(hcd:(x==("__classdict__":Str))=false:=by decide):PE X (.Name x pos) (tVar i):=by
 intro pins s σ H Q I h
 obtain⟨v,e,h⟩:=h
 obtain⟨m,hn,hl⟩:=I.loc
 obtain⟨u,r,l⟩:=hl i x v hN e hv
 have fin:EP X pins σ Q u s:=⟨v,H,I,r,h⟩
 rcases l with⟨hk,hm⟩|⟨hk,c,hc,hcell⟩
 ·exact wpAny_Name (wpAny_loadName_local I.ok.kind hk hn hm fin) hd
 ·rcases hk with hk|hk
  ·exact wpAny_Name (wpAny_loadName_cell I.ok.kind hk hc hcell fin) hd
  ·exact wpAny_Name (wpAny_loadName_free I.ok.kind hk hc hcell fin hcd) hd
theorem zhs{i j pos}:PE X (.Constant (.int i) j pos) (tC (.int i)):=λ_ _ _ H _ I h=>wpAny_Constant_int ⟨.int i,H,I.tok _,⟨_,rfl⟩,h⟩
theorem zatc{b j pos}:PE X (.Constant (.bool b) j pos) (tC (.bl b)):=λ_ _ _ H _ I h=>Constant_bool ⟨.bl b,H,I,rfl,h⟩
theorem zapx{j pos}:PE X (.Constant .none j pos) (tC .non):=λ_ _ _ H _ I h=>Constant_none ⟨.non,H,I,rfl,h⟩
theorem zapy{x j pos}:PE X (.Constant (.str x) j pos) (tC (.str x)):=λ_ _ _ H _ I h=>qDN ⟨.str x,H,I.tok _,⟨_,rfl⟩,h⟩
noncomputable def Gl(X:Cx)(x:Str):Prop:=X.env.kindOf x=some .globalImplicit
theorem zoz{E:Value->Shared->Prop}{pins:List (Addr×Obj)}{s:Shared}{σ:St}{H:Hp}{x:Str}{u:Value}{pos:Pos}{Q:Value->Shared->Prop}(I:Inv X pins σ H s)(hg:Gl X x)(hm:X.mg x=some u)(h:Q u s)
  (hd:(x==("__debug__":Str))=false:=by decide):wpAny (model X.prog X.w) X.A (eval (.Name x pos) X.env) Q E s:=
 qCd I.ok.kind hg (Calls.loadGlobal_global (by rw[I.ok.glob];exact I.mod.glob.keeps I.bk) hm h) hd
theorem zpa{E:Value->Shared->Prop}{pins:List (Addr×Obj)}{s:Shared}{σ:St}{H:Hp}{x:Str}{u:Value}{pos:Pos}{Q:Value->Shared->Prop}(I:Inv X pins σ H s)(hg:Gl X x)(hm:X.mg x=none)(hv:bootBuiltins x=some u)(h:Q u s)
  (hn:x≠"__name__":=by decide) (hd:(x==("__debug__":Str))=false:=by decide):wpAny (model X.prog X.w) X.A (eval (.Name x pos) X.env) Q E s:=by
 obtain⟨mb,h1,h2⟩:=I.mod.blt
 exact qCd I.ok.kind hg (Calls.loadGlobal_builtin (by rw[I.ok.glob];exact I.mod.glob.keeps I.bk) hm (by rw[I.ok.blt];exact h1.keeps I.bk) ((h2 x hn).trans hv) h) hd
theorem zamu{x:Str}{v:V}{u:Value}{pos:Pos}(hg:Gl X x)(hm:X.mg x=none)(hv:bootBuiltins x=some u)(r:RelV v u)(hn:x≠"__name__":=by decide)(hd:(x==("__debug__":Str))=false:=by decide):PE X (.Name x pos) (tC v):=
 λ_ _ _ H _ I h=>zpa I hg hm hv ⟨v,H,I,r,h⟩ hn hd
variable{a b:Expr}{ta tb:TE}{pos:Pos}
noncomputable def PC(X:Cx)(op:CmpOp)(a b:Expr)(t:TE):Prop:=
 ∀(pins:List (Addr×Obj))(s:Shared)(σ:St)(H:Hp)(Q:VK),Inv X pins σ H s->t σ H Q->
  wpAny (model X.prog X.w) X.A (eval a X.env) (λv s₁=>wpAny (model X.prog X.w) X.A (eval b X.env) (λu s₂=>wpAny (model X.prog X.w) X.A (compareOp op v u) (EP X pins σ Q) X.xe s₂) X.xe s₁) X.xe s
noncomputable def tB(t:TE):TT:=λσ H Q=>t σ H λx H1=>∃c,x=.bl c/\Q c H1
theorem zapz{op:CmpOp}{t:TE}(h:PC X op a b t)(h1:behindInMarks op b=false:=by rfl):PE X (.Compare a [op] [b] pos) t:=λpins s σ H Q I hw=>wpAny_Compare1 (h pins s σ H Q I hw) h1
variable{tA tB':TT}{rest:List Expr}
noncomputable def tAnd(t u:TT):TT:=λσ H Q=>t σ H λc H1=>if c=true then u σ H1 Q else Q false H1
noncomputable def tOr(t u:TT):TT:=λσ H Q=>t σ H λc H1=>if c=true then Q true H1 else u σ H1 Q
noncomputable def tNot(t:TT):TT:=λσ H Q=>t σ H λc H1=>Q (!c) H1
theorem zamv(ha:PT X a tA):PW X (.BoolOp .And [a] pos) tA:=by
 intro wh pins s σ H Q I h
 refine isTrue_and (thn (ha pins s σ H Q I h) λc s1 e=>?_)
 cases c with
 | true=>exact isTrue_and_nil e
 | false=>exact e
theorem zaqa(ha:PT X a tA):PW X (.BoolOp .Or [a] pos) tA:=by
 intro wh pins s σ H Q I h
 refine isTrue_or (thn (ha pins s σ H Q I h) λc s1 e=>?_)
 cases c with
 | false=>exact isTrue_or_nil e
 | true=>exact e
theorem zaqb(ha:PT X a tA)(hb:PW X (.BoolOp .And (b::rest) pos) tB'):PW X (.BoolOp .And (a::b::rest) pos) (tAnd tA tB'):=by
 intro wh pins s σ H Q I h
 refine isTrue_and (thn (ha pins s σ H _ I h) λc s1 ⟨H1,I1,q1⟩=>?_)
 cases c with
 | true=>exact hb wh pins s1 σ H1 Q I1 q1
 | false=>exact⟨H1,I1,q1⟩
theorem zatd(ha:PT X a tA)(hb:PW X (.BoolOp .Or (b::rest) pos) tB'):PW X (.BoolOp .Or (a::b::rest) pos) (tOr tA tB'):=by
 intro wh pins s σ H Q I h
 refine isTrue_or (thn (ha pins s σ H _ I h) λc s1 ⟨H1,I1,q1⟩=>?_)
 cases c with
 | true=>exact⟨H1,I1,q1⟩
 | false=>exact hb wh pins s1 σ H1 Q I1 q1
theorem zaqc(ha:PT X a tA):PT X (.UnaryOp .Not a pos) (tNot tA):=by
 intro pins s σ H Q I h
 exact isTrue_not (ha pins s σ H (λc H1=>Q (!c) H1) I h)
noncomputable def tAndV(ta tb:TE):TE:=λσ H Q=>ta σ H λx H1=>∃c,x=.bl c/\if c=true then tb σ H1 Q else Q (.bl false) H1
theorem zaqd{op}{t:TE}(h:PE X a t):PE X (.BoolOp op [a] pos) t:=λpins s σ H Q I hw=>BoolOp_one (h pins s σ H Q I hw)
theorem zaqe(ha:PE X a ta)(hb:PE X (.BoolOp .And (b::rest) pos) tb):PE X (.BoolOp .And (a::b::rest) pos) (tAndV ta tb):=by
 intro pins s σ H Q I h
 refine BoolOp_and (thn (ha pins s σ H _ I h) λv s1 ⟨x,H1,I1,r1,q1⟩=>?_)
 obtain⟨c,rfl,q1⟩:=q1
 cases r1
 refine qBi ?_
 cases c with
 | true=>exact hb pins s1 σ H1 Q I1 q1
 | false=>exact⟨.bl false,H1,I1,rfl,q1⟩
end
noncomputable def SqL(K:qB)(H:Hp)(a:Addr)(xs:List V):Prop:=
 Rd H a (.lst xs)\/
  ∃(o:Obj)(its:Array Value)(n:Nat),K.lookup a=some o/\o.cls=.type "list"/\o.dict=none/\o.data=.seq its n/\its.size<=qV/\Vals xs its.toList
noncomputable def SqT(K:qB)(H:Hp)(a:Addr)(xs:List V):Prop:=
 Rd H a (.tup xs)\/
  ∃(o:Obj)(its:Array Value)(n:Nat),K.lookup a=some o/\o.cls=.type "tuple"/\o.data=.seq its n/\its.size<=qV/\Vals xs its.toList
noncomputable def absV:Value->Option V
 | .none=>some .non
 | .bool b=>some (.bl b)
 | .int i _=>some (.int i)
 | .str x _=>some (.str x)
 | .bytes b _=>some (.byt b)
 | .float b _=>some (.flt b)
 | .ref a=>some (.ref a)
 | .type n=>some (.ty n)
 | _=>none
theorem RelV.abs{x:V}{u:Value}(r:RelV x u):absV u=some x:=by
 cases x with
 | non=>cases r;rfl
 | bl _=>cases r;rfl
 | int _=>obtain⟨t,rfl⟩:=r;rfl
 | str _=>obtain⟨t,rfl⟩:=r;rfl
 | byt _=>obtain⟨t,rfl⟩:=r;rfl
 | flt _=>obtain⟨t,rfl⟩:=r;rfl
 | ref _=>cases r;rfl
 | ty _=>cases r;rfl
theorem RelV.inj{x y:V}{u:Value}(r:RelV x u)(q:RelV y u):x=y:=qZ (r.abs.symm.trans q.abs)
theorem Vals.inj:∀{xs ys:List V}{us:List Value},Vals xs us->Vals ys us->xs=ys
 | _,_,_,.nil,.nil=>rfl
 | _,_,_,.cons r t,.cons r' t'=>by rw[r.inj r',Vals.inj t t']
section
variable{X:Cx}{pins:List (Addr×Obj)}{σ:St}{H:Hp}{s:Shared}{a:Addr}{xs ys:List V}
theorem SqL.of{K:qB}(h:H a=some (.lst xs)):SqL K H a xs:=.inl (.inl h)
theorem SqT.of{K:qB}(h:H a=some (.tup xs)):SqT K H a xs:=.inl (.inl h)
theorem Inv.list(I:Inv X pins σ H s)(h:SqL X.K H a xs):∃its:List Value,Vals xs its/\PlainL s.heap a its.toArray/\xs.length<=qV:=by
 rcases h with h|⟨o,its,n,hk,hc,hd,hs,hz,r⟩
 ·obtain⟨z,its,n,r,e⟩:=h.ok I.hok
  exact⟨its,r,⟨_,n,e,rfl,rfl,rfl⟩,z⟩
 ·refine⟨its.toList,r,⟨o,n,I.kIn a o hk,hc,hd,by simpa using hs⟩,?_⟩
  have e:=r.length
  simp only[qCC]at e
  omega
theorem Inv.tuple(I:Inv X pins σ H s)(h:SqT X.K H a xs):∃its:List Value,Vals xs its/\IsTup s.heap a its.toArray/\xs.length<=qV:=by
 rcases h with h|⟨o,its,n,hk,hc,hs,hz,r⟩
 ·obtain⟨z,its,r,p⟩:=h.ok I.hok
  exact⟨its,r,p,z⟩
 ·refine⟨its.toList,r,⟨o,I.kIn a o hk,hc,n,by simpa using hs⟩,?_⟩
  have e:=r.length
  simp only[qCC]at e
  omega
theorem Inv.list_inj(I:Inv X pins σ H s)(h:SqL X.K H a xs)(h':SqL X.K H a ys):xs=ys:=by
 obtain⟨its,r,⟨o,n,e,_,_,d⟩,_⟩:=I.list h
 obtain⟨its',r',⟨o',n',e',_,_,d'⟩,_⟩:=I.list h'
 rw[e]at e';cases e'
 rw[d]at d'
 injection d' with d1 _
 have:its=its':=by simpa using congrArg Array.toList d1
 subst this
 exact r.inj r'
theorem Inv.tuple_inj(I:Inv X pins σ H s)(h:SqT X.K H a xs)(h':SqT X.K H a ys):xs=ys:=by
 obtain⟨its,r,⟨o,e,_,n,d⟩,_⟩:=I.tuple h
 obtain⟨its',r',⟨o',e',_,n',d'⟩,_⟩:=I.tuple h'
 rw[e]at e';cases e'
 rw[d]at d'
 injection d' with d1 _
 have:its=its':=by simpa using congrArg Array.toList d1
 subst this
 exact r.inj r'
end
noncomputable abbrev Cx.wish(X:Cx)(E:Value->Shared->Prop):Cx:={X with xe:=E}
noncomputable abbrev Cx.nox(X:Cx):Cx:=X.wish λ_ _=>False
theorem Cx.Ok.wish{X:Cx}(ok:X.Ok)(E:Value->Shared->Prop):(X.wish E).Ok:=
 ⟨ok.mod,ok.kind,ok.glob,ok.blt,ok.above,ok.inj,ok.has,ok.cab,ok.hd,ok.frames,ok.stk,ok.exf,ok.bs,ok.bsz,ok.noex,ok.exfs,ok.funs,ok.frf⟩
theorem Cx.Ok.unwish{X:Cx}{E:Value->Shared->Prop}(ok:(X.wish E).Ok):X.Ok:=
 ⟨ok.mod,ok.kind,ok.glob,ok.blt,ok.above,ok.inj,ok.has,ok.cab,ok.hd,ok.frames,ok.stk,ok.exf,ok.bs,ok.bsz,ok.noex,ok.exfs,ok.funs,ok.frf⟩
section
variable{X:Cx}{pins:List (Addr×Obj)}{σ:St}{H:Hp}{s:Shared}{E:Value->Shared->Prop}
theorem Inv.wish(I:Inv X pins σ H s)(E:Value->Shared->Prop):Inv (X.wish E) pins σ H s:=⟨I.ok.wish E,I.os,I.bare,I.base,I.loc,I.cell,I.free,I.freeC,I.pin,I.hok,I.len⟩
theorem Inv.unwish(I:Inv (X.wish E) pins σ H s):Inv X pins σ H s:=⟨I.ok.unwish,I.os,I.bare,I.base,I.loc,I.cell,I.free,I.freeC,I.pin,I.hok,I.len⟩
theorem SP.unwish{D:Ends}{f:Flow}{s':Shared}(h:SP (X.wish E) pins D f s'):SP X pins D f s':=by
 cases f with
 | next=>obtain⟨σ',H',I,q⟩:=h;exact⟨σ',H',I.unwish,q⟩
 | brk=>obtain⟨σ',H',I,q⟩:=h;exact⟨σ',H',I.unwish,q⟩
 | cont=>obtain⟨σ',H',I,q⟩:=h;exact⟨σ',H',I.unwish,q⟩
 | ret u=>obtain⟨v,σ',H',I,r,q⟩:=h;exact⟨v,σ',H',I.unwish,r,q⟩
theorem PSs.nox{st:List Stmt}{t:TS}(h:PSs X.nox st t):PSs X st t:=λpins s σ H D I hw=>
 qA7 (h pins s σ H D (I.wish _) hw) (λ_ _ q=>q.unwish) λ_ _ z=>False.elim z
end
section
variable{X:Cx}{st:Stmt}{rest:List Stmt}{t u:TS}{e:Expr}{te:TE}{pos:Pos}
noncomputable def tNext:TS:=λD σ H=>D.nx σ H
noncomputable def tSeq(t u:TS):TS:=λD σ H=>t {D with nx:=u D} σ H
theorem zamw:PSs X [] tNext:=λ_ _ σ H _ I h=>qBx ⟨σ,H,I,h⟩
theorem zkv(h1:PS X st t)(h2:PSs X rest u):PSs X (st::rest) (tSeq t u):=by
 intro pins s σ H D I h
 refine qCq (thn (h1 pins s σ H {D with nx:=u D} I h) λf s1 q=>?_)
 cases f with
 | next=>
  obtain⟨σ',H',I',q⟩:=q
  exact h2 pins s1 σ' H' D I' q
 | ret v=>exact q
 | brk=>exact q
 | cont=>exact q
theorem zln(h1:PS X st t):PSs X [st] t:=by
 intro pins s σ H D I h
 refine qCq (thn (h1 pins s σ H D I h) λf s1 q=>?_)
 cases f with
 | next=>exact qBx q
 | ret v=>exact q
 | brk=>exact q
 | cont=>exact q
theorem Inv.quiet{pins:List (Addr×Obj)}{σ:St}{H:Hp}{s:Shared}(I:Inv X pins σ H s):interactive X.env=false:=by simp[interactive,I.ok.kind]
noncomputable def tDrop(te:TE):TS:=λD σ H=>te σ H λ_ H1=>D.nx σ H1
theorem zsp(he:PE X e te)(hs:swapsWith e none pos.line X.env=pure false:=by rfl):PS X (.Expr e pos) (tDrop te):=by
 intro pins s σ H D I h
 exact wpAny_Expr_any (thn (he pins s σ H _ I h) λv s1 ⟨x,H1,I1,r1,q1⟩=>⟨σ,H1,I1,q1⟩) I.quiet hs
noncomputable def tRet(te:TE):TS:=λD σ H=>te σ H D.rt
theorem zale(he:PE X e te):PS X (.Return (some e) pos) (tRet te):=by
 intro pins s σ H D I h
 exact wpAny_Return_some (thn (he pins s σ H _ I h) λv s1 ⟨x,H1,I1,r1,q1⟩=>⟨x,σ,H1,I1,r1,q1⟩)
noncomputable def tIfS(c:TT)(t u:TS):TS:=λD σ H=>c σ H λb H1=>if b=true then t D σ H1 else u D σ H1
theorem zaqf{c:Expr}{a b:List Stmt}{tc:TT}(hc:PT X c tc)(ha:PSs X a t)(hb:PSs X b u):PS X (.If c a b pos) (tIfS tc t u):=by
 intro pins s σ H D I h
 refine wpAny_If (thn (hc pins s σ H _ I h) λd s1 ⟨H1,I1,q1⟩=>?_)
 cases d with
 | true=>exact ha pins s1 σ H1 D I1 q1
 | false=>exact hb pins s1 σ H1 D I1 q1
noncomputable def tNever:TS:=λ_ _ _=>False
theorem zahx:PS X st tNever:=λ_ _ _ _ _ _ h=>h.elim
end
noncomputable abbrev TG:=V->St->Hp->(St->Hp->Prop)->Prop
noncomputable abbrev TGs:=List V->St->Hp->(St->Hp->Prop)->Prop
noncomputable def PG(X:Cx)(target:Expr)(t:TG):Prop:=
 ∀(pins:List (Addr×Obj))(s:Shared)(σ:St)(H:Hp)(v:V)(u:Value)(Q:St->Hp->Prop),Inv X pins σ H s->RelV v u->t v σ H Q->
  wpAny (model X.prog X.w) X.A (assign target X.env u) (λ_ s'=>∃σ' H',Inv X pins σ' H' s'/\Q σ' H') X.xe s
noncomputable def PGs(X:Cx)(ts:List Expr)(t:TGs):Prop:=
 ∀(pins:List (Addr×Obj))(s:Shared)(σ:St)(H:Hp)(vs:List V)(us:List Value)(Q:St->Hp->Prop),Inv X pins σ H s->Vals vs us->t vs σ H Q->
  wpAny (model X.prog X.w) X.A (assignInOrder ((assignEach ts X.env).map (·.2)) us) (λ_ s'=>∃σ' H',Inv X pins σ' H' s'/\Q σ' H') X.xe s
section
variable{X:Cx}{pos:Pos}
noncomputable def gName(i:Nat):TG:=λv σ H Q=>Q (σ.set i (some v)) H
theorem zxo{i:Nat}{x:Str}(hN:X.N.Nodup)(hi:X.N[i]?=some x)(hx:Loc X.env.scope x)(hf:X.fn x=true\/X.env.scope.names.lookup x=some .local:=by assumption):PG X (.Name x pos) (gName i):=by
 intro pins s σ H v u Q I r h
 exact wpAny_assign_Name (zso I hN hi hx r (λs' I'=>⟨_,H,I',h⟩) hf)
noncomputable def gNil:TGs:=λvs σ H Q=>vs=[]/\Q σ H
noncomputable def gCons(t:TG)(u:TGs):TGs:=λvs σ H Q=>∃v r,vs=v::r/\t v σ H λσ' H'=>u r σ' H' Q
theorem zamx:PGs X [] gNil:=by
 intro pins s σ H vs us Q I r h
 obtain⟨e,h⟩:=h
 subst e
 cases r
 exact assignInOrder_nil ⟨σ,H,I,h⟩
theorem zahy{e:Expr}{es:List Expr}{t:TG}{u:TGs}(h1:PG X e t)(h2:PGs X es u)
  (hs:(assignEach (e::es) X.env).map (·.2)=assign e X.env::(assignEach es X.env).map (·.2):=by rfl):PGs X (e::es) (gCons t u):=by
 intro pins s σ H vs us Q I r h
 obtain⟨v,vr,e1,h⟩:=h
 subst e1
 cases r with
 | cons r rr=>
  rw[hs]
  refine assignInOrder_cons (thn (h1 pins s σ H _ _ _ I r h) λ_ s1 ⟨σ1,H1,I1,q1⟩=>?_)
  exact h2 pins s1 σ1 H1 _ _ Q I1 rr q1
noncomputable def gTup(K:qB)(n:Nat)(t:TGs):TG:=λv σ H Q=>∃a xs,v=.ref a/\SqT K H a xs/\xs.length=n/\t xs σ H Q
theorem zaqg{es:List Expr}{k:Nat}{t:TGs}{n:Nat}(hc:X.calm=true)(h:PGs X es t)
  (hn:(assignEach es X.env).length=n:=by rfl) (hst:(assignEach es X.env).findIdx? (·.1)=none:=by rfl):PG X (.Tuple es k pos) (gTup X.K n t):=by
 intro pins s σ H v u Q I r hw
 obtain⟨a,xs,e1,hq,hl,hw⟩:=hw
 subst e1
 cases r
 obtain⟨its,rv,ht,hz⟩:=I.tuple hq
 refine assign_Tuple_tuple (I.ok.hd hc) ht (by simp[hn,<- hl,rv.length]) hst λh' hx=>?_
 have I1:Inv X pins σ H {s with heap:=h'}:=I.kept (t':=s.toks) λb o e=>hx b o (qk (qJ e)) e
 exact h pins _ σ H xs _ Q I1 (by simpa using rv) hw
noncomputable def tAsg(te:TE)(g:TG):TS:=λD σ H=>te σ H λx H1=>g x σ H1 D.nx
theorem zzh{i:Nat}{x:Str}{e:Expr}{te:TE}{pos':Pos}(hN:X.N.Nodup)(hi:X.N[i]?=some x)(hx:Loc X.env.scope x)(he:PE X e te)(hs:swapsWith e (some (.Name x pos')) pos.line X.env=pure false:=by rfl)(hf:X.fn x=true\/X.env.scope.names.lookup x=some .local:=by assumption) :
  PS X (.Assign [.Name x pos'] e pos) (tAsg te (gName i)):=by
 intro pins s σ H D I h
 refine wpAny_Assign_Name (thn (he pins s σ H _ I h) λv s1 ⟨y,H1,I1,r1,q1⟩=>?_) hs
 exact zso I1 hN hi hx r1 (λs2 I2=>⟨_,H1,I2,q1⟩) hf
end
set_option genInjectivity false in
structure It where
 go:Nat->Hp->Prop
 yld:Nat->Hp->V->Hp->Prop
 stop:Nat->Hp->Prop
noncomputable def FpOk(X:Cx)(pins:List (Addr×Obj))(H:Hp)(b:Addr):Prop:=
 H b=none/\b≠X.env.locals/\b∉X.fs/\(b∈X.ex\/X.s₀.heap.objs.size<=b)/\(∀x c,X.env.cells.lookup x=some c->c≠b)/\∀p∈X.pn++pins,p.1≠b
theorem Inv.fpOk{X:Cx}{pins:List (Addr×Obj)}{σ:St}{H H':Hp}{s:Shared}{b:Addr}(I:Inv X pins σ H s)(hb:s.heap.objs.size<=b)(hn:H' b=none):FpOk X pins H' b:=by
 refine⟨hn,qBU (qg I.lt hb),I.nofs hb,.inr (qAM I.sz hb),λx c e z=>?_,λp hp z=>?_⟩
 ·obtain⟨v,q⟩:=I.cell x c e
  exact absurd (qg q.lt (by rw[z];exact hb)) (qBE _)
 ·exact absurd (qg (qJ (I.pin p hp).1) (by rw[z];exact hb)) (qBE _)
set_option genInjectivity false in
structure Turn(P:Program)(w:World)(K:qB)(tg:Expr)(J:It)(fp:List Addr)(it:Addr)(tn:Nat->Heap->Prop):Prop where
 mem:it∈fp
 obj:∀i h,tn i h->∀b∈fp,∃o,h.get? b=some o/\∀v,o.data≠.cell v
 keep:∀i h h',tn i h->(∀b∈fp,∀o,h.get? b=some o->h'.get? b=some o)->tn i h'
 item:∀(X:Cx),X.prog=P->X.w=w->X.K=K->X.calm=true->∀(i:Nat)(pins:List (Addr×Obj))(s:Shared)(σ:St)(H:Hp)(E:Value->Shared->Prop),Inv X pins σ H s->(∀b∈fp,FpOk X pins H b)->tn i s.heap->J.go i H->
  wpAny (model P w) X.A (pyNext (.ref it)) (λr s1=>∃u,r=some u/\
   wpAny (model P w) X.A (letOwnedTupleGo tg (.ref it) u) (λ_ s2=>∃x H',Inv X pins σ H' s2/\RelV x u/\J.yld i H x H'/\tn (i+1) s2.heap/\∀b∈fp,H' b=none) E s1) E s
 done:∀(X:Cx),X.prog=P->X.w=w->X.K=K->X.calm=true->∀(i:Nat)(pins:List (Addr×Obj))(s:Shared)(σ:St)(H:Hp)(E:Value->Shared->Prop),Inv X pins σ H s->(∀b∈fp,FpOk X pins H b)->tn i s.heap->J.stop i H->
  wpAny (model P w) X.A (pyNext (.ref it)) (λr s1=>r=none/\Inv X pins σ H s1) E s
 self:∀(A:Around)(i:Nat)(s:Shared)(Q:Value->Shared->Prop)(E:Value->Shared->Prop),tn i s.heap->Q (.ref it) s->wpAny (model P w) A (pyIter (.ref it)) Q E s
noncomputable abbrev TI:=St->Hp->(It->Hp->Prop)->Prop
noncomputable def PIE(X:Cx)(pins:List (Addr×Obj))(σ:St)(tg:Expr)(R:It->Hp->Prop)(itv:Value)(s2:Shared):Prop:=
 ∃(it:Addr)(fp:List Addr)(tn:Nat->Heap->Prop)(J:It)(H':Hp),itv=.ref it/\Inv X pins σ H' s2/\Turn X.prog X.w X.K tg J fp it tn/\tn 0 s2.heap/\(∀b∈fp,FpOk X pins H' b)/\R J H'
noncomputable def PI(X:Cx)(tg iter:Expr)(wi:TI):Prop:=
 ∀(pins:List (Addr×Obj))(s:Shared)(σ:St)(H:Hp)(R:It->Hp->Prop),Inv X pins σ H s->wi σ H R->
  wpAny (model X.prog X.w) X.A (eval iter X.env) (λv s1=>wpAny (model X.prog X.w) X.A (pyIter v) (PIE X pins σ tg R) X.xe s1) X.xe s
theorem zamy{M:Model}{A:Around}{E:Value->Shared->Prop}{s:Shared}{tg:Expr}{it:Addr}{u:Value}{o:Obj}{n:String}{vs:Array Value}{Q:Unit->Shared->Prop}(ho:s.heap.get? it=some o)(hc:o.cls=.type n)(hd:o.data=.fields vs)
  (hn:["enumerate","zip","dict_itemiterator","dict_reverseitemiterator","odict_iterator","itertools.zip_longest","itertools.pairwise"].contains n=false) (hQ:Q () s):wpAny M A (letOwnedTupleGo tg (.ref it) u) Q E s:=by
 unfold letOwnedTupleGo
 cases tg<;>first
  | exact qI hQ
  | (cases u<;>first
    | exact qI hQ
    | (refine qC (wpAny_load ho ?_)
       rw[hc,hd]
       show wpAny M A (if(["enumerate","zip","dict_itemiterator","dict_reverseitemiterator","odict_iterator","itertools.zip_longest","itertools.pairwise"].contains n&&vs[0]?==some (rawInt _))=true then _ else _) Q E s
       rw[if_neg (by intro h;rw[hn,Bool.false_and]at h;cases h)]
       exact qI hQ))
noncomputable def Itl(K:qB)(a:Addr):It:=
 ⟨λi H=>∃xs x,SqL K H a xs/\xs[i]?=some x,λi H x H'=>H'=H/\∀xs,SqL K H a xs->xs[i]?=some x,λi H=>∃xs,SqL K H a xs/\xs.length<=i⟩
noncomputable def Itt(K:qB)(a:Addr):It:=
 ⟨λi H=>∃xs x,SqT K H a xs/\xs[i]?=some x,λi H x H'=>H'=H/\∀xs,SqT K H a xs->xs[i]?=some x,λi H=>∃xs,SqT K H a xs/\xs.length<=i⟩
noncomputable def Itr(lo:Int)(n:Nat):It:=⟨λi _=>i<n,λi H x H'=>H'=H/\x=.int (lo+i),λi _=>n<=i⟩
theorem zub{P:Program}{w:World}{K:qB}{tg:Expr}(a it:Addr):Turn P w K tg (Itl K a) [it] it (λi h=>h.IsListIter it a i) where
 mem:=by simp
 obj:=λi h st b hb=>by
  have e:b=it:=by simpa using hb
  subst e
  obtain⟨o,e,c,d⟩:=st
  exact⟨o,e,λv z=>by rw[d]at z;cases z⟩
 keep:=λi h h' st k=>st.at λo e=>k it (by simp) o e
 item:=by
  intro X hP hw hK hc i pins s σ H E I hf st hg
  subst hP hw hK
  obtain⟨xs,x,hq,hx⟩:=hg
  obtain⟨its,rv,p,hz⟩:=I.list hq
  obtain⟨u,hu,ru⟩:=rv.get hx
  obtain⟨f0,f1,f2,f3,f4,f5⟩:=hf it (by simp)
  refine wpAny_pyNext_list_item st p.isList (x:=u) (by simpa using hu) λh' st' sb=>?_
  have I1:Inv X pins σ H {s with heap:=h'}:=I.turned (t':=s.toks) (λb o hb e=>(sb.2 b hb).trans e) f0 f1 f3 f4 f5
  obtain⟨o,e,c,d⟩:=id st'
  exact⟨u,rfl,zamy (s:={s with heap:=h'}) e c d (by decide) ⟨x,H,I1,ru,⟨rfl,λys hy=>by rw[I.list_inj hy hq];exact hx⟩,st',λb hb=>(hf b hb).1⟩⟩
 done:=by
  intro X hP hw hK hc i pins s σ H E I hf st hg
  subst hP hw hK
  obtain⟨xs,hq,hx⟩:=hg
  obtain⟨its,rv,p,hz⟩:=I.list hq
  obtain⟨f0,f1,f2,f3,f4,f5⟩:=hf it (by simp)
  have hl:=rv.length
  exact wpAny_pyNext_list_end (I.ok.hd hc) st p.isList (by simp;omega) λh' eb=>⟨rfl,I.turned (t':=s.toks) (λb o hb e=>eb b o hb e) f0 f1 f3 f4 f5⟩
 self:=λ_ _ _ _ _ st h=>wpAny_pyIter_listiter st h
theorem zabo{P:Program}{w:World}{K:qB}{tg:Expr}(a it:Addr):Turn P w K tg (Itt K a) [it] it (λi h=>h.IsTupleIter it a i) where
 mem:=by simp
 obj:=λi h st b hb=>by
  have e:b=it:=by simpa using hb
  subst e
  obtain⟨o,e,c,d⟩:=st
  exact⟨o,e,λv z=>by rw[d]at z;cases z⟩
 keep:=λi h h' st k=>st.at λo e=>k it (by simp) o e
 item:=by
  intro X hP hw hK hc i pins s σ H E I hf st hg
  subst hP hw hK
  obtain⟨xs,x,hq,hx⟩:=hg
  obtain⟨its,rv,p,hz⟩:=I.tuple hq
  obtain⟨u,hu,ru⟩:=rv.get hx
  obtain⟨f0,f1,f2,f3,f4,f5⟩:=hf it (by simp)
  refine wpAny_pyNext_tuple_item st (show s.heap.IsTuple a its.toArray from p) (x:=u) (by simpa using hu) λh' st' sb=>?_
  have I1:Inv X pins σ H {s with heap:=h'}:=I.turned (t':=s.toks) (λb o hb e=>(sb.2 b hb).trans e) f0 f1 f3 f4 f5
  obtain⟨o,e,c,d⟩:=id st'
  exact⟨u,rfl,zamy (s:={s with heap:=h'}) e c d (by decide) ⟨x,H,I1,ru,⟨rfl,λys hy=>by rw[I.tuple_inj hy hq];exact hx⟩,st',λb hb=>(hf b hb).1⟩⟩
 done:=by
  intro X hP hw hK hc i pins s σ H E I hf st hg
  subst hP hw hK
  obtain⟨xs,hq,hx⟩:=hg
  obtain⟨its,rv,p,hz⟩:=I.tuple hq
  obtain⟨f0,f1,f2,f3,f4,f5⟩:=hf it (by simp)
  have hl:=rv.length
  exact wpAny_pyNext_tuple_end (I.ok.hd hc) st (show s.heap.IsTuple a its.toArray from p) (by simp;omega) λh' eb=>⟨rfl,I.turned (t':=s.toks) (λb o hb e=>eb b o hb e) f0 f1 f3 f4 f5⟩
 self:=λ_ _ _ _ _ st h=>wpAny_pyIter_tupleiter st h
theorem zabp{P:Program}{w:World}{K:qB}{tg:Expr}(it:Addr)(lo:Int)(n:Nat):Turn P w K tg (Itr lo n) [it] it (λi h=>IsRangeIter h it (lo+(i:Nat) * 1) ((n:Int) - (i:Nat)) 1) where
 mem:=by simp
 obj:=λi h st b hb=>by
  have e:b=it:=by simpa using hb
  subst e
  exact⟨_,st,λv z=>by
   have z':Data.fields _=Data.cell v:=z
   cases z'⟩
 keep:=λi h h' st k=>k it (by simp) _ st
 item:=by
  intro X hP hw hK hc i pins s σ H E I hf st hg
  subst hP hw hK
  obtain⟨f0,f1,f2,f3,f4,f5⟩:=hf it (by simp)
  have W:=Walks.range (prog:=X.prog) (w:=X.w) (I.ok.hd hc) it lo 1 n
  refine W.item i s _ _ hg st λv h' tk hv st' kk=>?_
  obtain⟨t,rfl⟩:=hv
  have I1:Inv X pins σ H {s with heap:=h',toks:=tk}:=I.turned (λb o hb e=>kk b o (by simpa using hb) e) f0 f1 f3 f4 f5
  refine⟨_,rfl,zamy (s:={s with heap:=h',toks:=tk}) (n:="range_iterator") st' rfl rfl (by decide) ⟨.int (lo+i),H,I1,⟨t,?_⟩,⟨rfl,rfl⟩,st',λb hb=>(hf b hb).1⟩⟩
  rw[Int.mul_one]
 done:=by
  intro X hP hw hK hc i pins s σ H E I hf st hg
  subst hP hw hK
  obtain⟨f0,f1,f2,f3,f4,f5⟩:=hf it (by simp)
  exact wpAny_pyNext_range_end (I.ok.hd hc) st (by have:n<=i:=hg;omega) λh' eb=>⟨rfl,I.turned (t':=s.toks) (λb o hb e=>eb b o hb e) f0 f1 f3 f4 f5⟩
 self:=λ_ _ _ _ _ st h=>wpAny_pyIter_rangeiter st h
section
variable{X:Cx}{tg:Expr}
noncomputable def zaqh(K:qB)(tl:TE):TI:=λσ H R=>tl σ H λx H1=>∃a,x=.ref a/\(∃xs,SqL K H1 a xs)/\R (Itl K a) H1
theorem zamz{l:Expr}{tl:TE}(hl:PE X l tl):PI X tg l (zaqh X.K tl):=by
 intro pins s σ H R I h
 refine thn (hl pins s σ H _ I h) λv s1 ⟨x,H1,I1,r1,q1⟩=>?_
 obtain⟨a,e,⟨xs,hq⟩,q⟩:=q1
 subst e
 cases r1
 obtain⟨its,rv,p,hz⟩:=I1.list hq
 refine qA1 p.isList ?_
 refine⟨s1.heap.objs.size,[s1.heap.objs.size],_,_,H1,rfl,I1.kept (t':=s1.toks) λb o e=>qD _ e,zub a _,⟨_,qa _ rfl,rfl,rfl⟩,λb hb=>?_,q⟩
 have e:b=s1.heap.objs.size:=by simpa using hb
 subst e
 exact I1.fpOk (qL _) (I1.hok.fresh (qL _))
theorem zahz{pins:List (Addr×Obj)}{σ:St}{H:Hp}{s:Shared}{R:It->Hp->Prop}{E:Value->Shared->Prop}{lo hi:Int}{t u v:Tok}{tk:Nat}(I:Inv X pins σ H s)(h1:-(2 ^ 62)<=lo)(h2:lo<2 ^ 62)(h3:-(2 ^ 62)<=hi)(h4:hi<2 ^ 62)
  (q:R (Itr lo (hi - lo).toNat) H):wpAny (model X.prog X.w) X.A (pyIter (.ref s.heap.objs.size)) (PIE X pins σ tg R) E {s with heap:=s.heap.push {cls:=.type "range",data:=.fields #[.int lo t,.int hi u,.int 1 v]},toks:=tk}:=by
 refine wpAny_pyIter_range (IsRange.new ..) (small_one h1 h2 h3 h4) ?_
 have I1:Inv X pins σ H {s with heap:=s.heap.push {cls:=.type "range",data:=.fields #[.int lo t,.int hi u,.int 1 v]},toks:=tk}:=I.kept λb o e=>qD _ e
 refine⟨(s.heap.push {cls:=.type "range",data:=.fields #[.int lo t,.int hi u,.int 1 v]}).objs.size,[(s.heap.push {cls:=.type "range",data:=.fields #[.int lo t,.int hi u,.int 1 v]}).objs.size],_,_,H,rfl,
  I1.kept (t':=tk) λb o e=>qD _ e,zabp _ lo (hi - lo).toNat,?_,λb hb=>?_,q⟩
 ·have e1:lo+((0:Nat):Int) * 1=lo:=by simp
  have e2:(((hi - lo).toNat:Nat):Int) - ((0:Nat):Int)=Builtin.Range.rangeSize lo hi 1:=by rw[rangeSize_one];split<;>omega
  show IsRangeIter _ _ (lo+((0:Nat):Int) * 1) ((((hi - lo).toNat:Nat):Int) - ((0:Nat):Int)) 1
  rw[e1,e2]
  exact qa _ rfl
 ·have e:b=(s.heap.push {cls:=.type "range",data:=.fields #[.int lo t,.int hi u,.int 1 v]}).objs.size:=by simpa using hb
  subst e
  exact I1.fpOk (qL _) (I1.hok.fresh (qL _))
noncomputable def iRng1(ta:TA):TI:=λσ H R=>ta σ H λvs H1=>∃j:Int,vs=[.int j]/\-(2 ^ 62)<=j/\j<2 ^ 62/\R (Itr 0 j.toNat) H1
theorem zuc{a:Expr}{ta:TA}{p pos:Pos}(hg:Gl X "range")(hm:X.mg "range"=none)(ha:PA X [a] ta)(hs:starEach [a] X.env=[(false,eval a X.env)]:=by rfl):PI X tg (.Call (.Name "range" p) [a] [] pos) (iRng1 ta):=by
 intro pins s σ H R I h
 refine Call_ (zpa I hg hm boot_range (qBd (thn (ha pos pins s σ H _ I h) λus s1 ⟨vs,H1,I1,r1,q1⟩=>?_) hs rfl))
 obtain⟨j,e,q1,q2,q⟩:=q1
 subst e
 cases r1 with
 | cons r rr=>
  cases rr
  obtain⟨t,rfl⟩:=r
  exact call_range_1 (zahz I1 (by omega) (by omega) q1 q2 (by simpa using q))
noncomputable def tFor(wi:TI)(g:TG)(tb:TS):TS:=λD σ H=>wi σ H λJ H1=>∃W:Nat->Nat->St->Hp->Prop,(∃m,W 0 m σ H1)/\∀i m σ H,W i m σ H->
 (J.stop i H/\D.nx σ H)\/(J.go i H/\∃N:St->Hp->Prop,(∀σ' H',N σ' H'->∃m',m'<m/\W (i+1) m' σ' H')/\∀x H',J.yld i H x H'->g x σ H' λσ2 H2=>tb {D with nx:=N,ct:=N,bk:=D.nx} σ2 H2)
noncomputable def zud(fp:List Addr)(h:Heap):List (Addr×Obj):=fp.filterMap λb=>(h.get? b).map λo=>(b,o)
theorem zkw{fp:List Addr}{h:Heap}{b:Addr}{o:Obj}(hb:b∈fp)(e:h.get? b=some o):(b,o)∈zud fp h:=qBY.mpr ⟨b,hb,by rw[e];rfl⟩
theorem zadf{fp:List Addr}{h:Heap}{p:Addr×Obj}(hp:p∈zud fp h):p.1∈fp/\h.get? p.1=some p.2:=by
 obtain⟨b,hb,e⟩:=qBY.mp hp
 cases q:h.get? b with
 | none=>rw[q]at e;cases e
 | some o=>
  rw[q]at e
  have e':(b,o)=p:=qZ e
  subst e'
  exact⟨hb,q⟩
theorem Inv.pinned{pins:List (Addr×Obj)}{σ:St}{H:Hp}{s:Shared}{fp:List Addr}(I:Inv X pins σ H s)(hf:∀b∈fp,FpOk X pins H b)(ho:∀b∈fp,∃o,s.heap.get? b=some o/\∀v,o.data≠.cell v):Inv X (pins++zud fp s.heap) σ H s:=
 I.pins_of λp hp=>(qX.mp hp).elim (λz=>I.pin p (qb _ z)) λz=>by
  obtain⟨hb,e⟩:=zadf z
  obtain⟨f0,f1,f2,_⟩:=hf p.1 hb
  obtain⟨o,e',d⟩:=ho p.1 hb
  rw[e]at e';cases e'
  exact⟨e,f0,f1,f2,d⟩
theorem Inv.unpinned{pins pl:List (Addr×Obj)}{σ:St}{H:Hp}{s:Shared}(I:Inv X (pins++pl) σ H s):Inv X pins σ H s:=I.pins_of λp hp=>I.pin p (qb _ (qu _ hp))
theorem zadg{iter:Expr}{body:List Stmt}{wi:TI}{g:TG}{tb:TS}{pos:Pos}(hp:PassesOwn (model X.prog X.w) X.A X.env X.xe)(hc:X.calm=true)(hi:PI X tg iter wi)(hg:PG X tg g)(hb:PSs X body tb)
  (hs:∀x,foldedSetIterable iter X.env x=pure x:=by intro _;rfl):PS X (.For tg iter body [] pos) (tFor wi g tb):=by
 intro pins s σ H D I h
 refine wpAny_For (thn (hi pins s σ H _ I h) λv s1 h1=>thn h1 λitv s2 h2=>?_) hs
 obtain⟨it,fp,tn,J,H2,e,I2,T,st2,f2,W,⟨m0,w0⟩,turn⟩:=h2
 subst e
 have stat:∀{H':Hp},(∀b∈fp,H' b=none)->∀b∈fp,FpOk X pins H' b:=λhn b hb=>⟨hn b hb,(f2 b hb).2⟩
 refine codeAny_forLoop_any (λn s'=>∃i σ' H',Inv X pins σ' H' s'/\tn i s'.heap/\(∀b∈fp,H' b=none)/\W i n σ' H') ?_ m0 ⟨0,σ,H2,I2,st2,λb hb=>(f2 b hb).1,w0⟩
 rintro n s3 ⟨i,σ3,H3,I3,st3,fr3,w3⟩
 rcases turn i n σ3 H3 w3 with⟨stop,qn⟩|⟨go,N,hN,step⟩
 ·refine qBw hp (thn (T.done X rfl rfl rfl hc i pins s3 σ3 H3 X.xe I3 (stat fr3) st3 stop) λr s4 ⟨hr,I4⟩=>?_)
  subst hr
  exact qBx ⟨σ3,H3,I4,qn⟩
 ·refine qBw hp (thn (T.item X rfl rfl rfl hc i pins s3 σ3 H3 X.xe I3 (stat fr3) st3 go) λr s4 ⟨u,hr,h4⟩=>?_)
  subst hr
  refine qBw hp (thn h4 λ_ s5 ⟨x,H5,I5,r5,y5,st5,fr5⟩=>?_)
  have I5':=I5.pinned (stat fr5) (T.obj _ _ st5)
  refine qBw hp (thn (hg _ s5 σ3 H5 x u _ I5' r5 (step x H5 y5)) λ_ s6 ⟨σ6,H6,I6,q6⟩=>?_)
  refine qBw hp (thn (hb _ s6 σ6 H6 _ I6 q6) λf s7 q7=>?_)
  have again:∀{σ7:St}{H7:Hp},Inv X (pins++zud fp s5.heap) σ7 H7 s7->N σ7 H7->∃m,m<n/\∃i σ' H',Inv X pins σ' H' s7/\tn i s7.heap/\(∀b∈fp,H' b=none)/\W i m σ' H':=λ{σ7 H7} I7 n7=>by
   obtain⟨m',hm,w7⟩:=hN σ7 H7 n7
   refine⟨m',hm,i+1,σ7,H7,I7.unpinned,T.keep _ _ _ st5 λb hb o e=>(I7.pin (b,o) (qb _ (qb _ (zkw hb e)))).1,λb hb=>?_,w7⟩
   obtain⟨o,e,d⟩:=T.obj _ _ st5 b hb
   exact(I7.pin (b,o) (qb _ (qb _ (zkw hb e)))).2.1
  cases f with
  | next=>obtain⟨σ7,H7,I7,n7⟩:=q7;exact again I7 n7
  | cont=>obtain⟨σ7,H7,I7,n7⟩:=q7;exact again I7 n7
  | brk=>obtain⟨σ7,H7,I7,q7⟩:=q7;exact⟨σ7,H7,I7.unpinned,q7⟩
  | ret v=>obtain⟨x7,σ7,H7,I7,r7,q7⟩:=q7;exact⟨x7,σ7,H7,I7.unpinned,r7,q7⟩
end
theorem for_list{K:qB}{a:Addr}{xs:List V}{g:TG}{tb:TS}{D:Ends}{σ:St}{H:Hp}(Pv:Nat->St->Hp->Prop)(h0:Pv 0 σ H)(hl:∀i σ H,i<=xs.length->Pv i σ H->SqL K H a xs)
  (hs:∀i x σ H,xs[i]?=some x->Pv i σ H->g x σ H λσ2 H2=>tb {D with nx:=Pv (i+1),ct:=Pv (i+1),bk:=D.nx} σ2 H2) (hd:∀σ H,Pv xs.length σ H->D.nx σ H) :
  ∃W:Nat->Nat->St->Hp->Prop,(∃m,W 0 m σ H)/\∀i m σ H,W i m σ H->
   ((Itl K a).stop i H/\D.nx σ H)\/((Itl K a).go i H/\∃N:St->Hp->Prop,(∀σ' H',N σ' H'->∃m',m'<m/\W (i+1) m' σ' H')/\∀x H',(Itl K a).yld i H x H'->g x σ H' λσ2 H2=>tb {D with nx:=N,ct:=N,bk:=D.nx} σ2 H2):=by
 refine⟨λi m σ H=>m=xs.length - i/\i<=xs.length/\Pv i σ H,⟨xs.length,by simp,qAv _,h0⟩,?_⟩
 rintro i m σ H ⟨rfl,hi,p⟩
 have q:=hl i σ H hi p
 by_cases hlt:i<xs.length
 ·refine .inr ⟨⟨xs,xs[i],q,by simp[hlt]⟩,Pv (i+1),λσ' H' p'=>⟨xs.length - (i+1),by omega,rfl,hlt,p'⟩,λx H' y=>?_⟩
  obtain⟨e,y⟩:=y
  subst e
  exact hs i x σ _ (y xs q) p
 ·have e:i=xs.length:=by omega
  subst e
  exact .inl ⟨⟨xs,q,qL _⟩,hd σ H p⟩
theorem for_range{lo:Int}{n:Nat}{g:TG}{tb:TS}{D:Ends}{σ:St}{H:Hp}(Pv:Nat->St->Hp->Prop)(h0:Pv 0 σ H)
  (hs:∀i σ H,i<n->Pv i σ H->g (.int (lo+i)) σ H λσ2 H2=>tb {D with nx:=Pv (i+1),ct:=Pv (i+1),bk:=D.nx} σ2 H2) (hd:∀σ H,Pv n σ H->D.nx σ H) :
  ∃W:Nat->Nat->St->Hp->Prop,(∃m,W 0 m σ H)/\∀i m σ H,W i m σ H->
   ((Itr lo n).stop i H/\D.nx σ H)\/((Itr lo n).go i H/\∃N:St->Hp->Prop,(∀σ' H',N σ' H'->∃m',m'<m/\W (i+1) m' σ' H')/\∀x H',(Itr lo n).yld i H x H'->g x σ H' λσ2 H2=>tb {D with nx:=N,ct:=N,bk:=D.nx} σ2 H2):=by
 refine⟨λi m σ H=>m=n - i/\i<=n/\Pv i σ H,⟨n,by simp,qAv _,h0⟩,?_⟩
 rintro i m σ H ⟨rfl,hi,p⟩
 by_cases hlt:i<n
 ·refine .inr ⟨hlt,Pv (i+1),λσ' H' p'=>⟨n - (i+1),by omega,rfl,hlt,p'⟩,λx H' y=>?_⟩
  obtain⟨e,y⟩:=y
  subst e y
  exact hs i σ _ hlt p
 ·have e:i=n:=by omega
  subst e
  exact .inl ⟨qL _,hd σ H p⟩
noncomputable abbrev R2:=V->V->Hp->VK->Prop
noncomputable def OpR(X:Cx)(f:Value->Value->Sem Value)(r:R2):Prop:=
 ∀(pins:List (Addr×Obj))(s:Shared)(σ:St)(H:Hp)(x y:V)(v u:Value)(Q:VK),Inv X pins σ H s->RelV x v->RelV y u->r x y H Q->
  wpAny (model X.prog X.w) X.A (f v u) (EP X pins σ Q) X.xe s
noncomputable def UnR(X:Cx)(f:Value->Sem Value)(r:V->Hp->VK->Prop):Prop:=
 ∀(pins:List (Addr×Obj))(s:Shared)(σ:St)(H:Hp)(x:V)(v:Value)(Q:VK),Inv X pins σ H s->RelV x v->r x H Q->
  wpAny (model X.prog X.w) X.A (f v) (EP X pins σ Q) X.xe s
noncomputable def CallR(X:Cx)(f:Value)(r:List V->Hp->VK->Prop):Prop:=
 ∀(pins:List (Addr×Obj))(s:Shared)(σ:St)(H:Hp)(xs:List V)(us:List Value)(Q:VK),Inv X pins σ H s->Vals xs us->r xs H Q->
  wpAny (model X.prog X.w) X.A (call f us) (EP X pins σ Q) X.xe s
noncomputable def TruR(X:Cx)(r:V->Hp->(Bool->Hp->Prop)->Prop):Prop:=
 ∀(pins:List (Addr×Obj))(s:Shared)(σ:St)(H:Hp)(x:V)(v:Value)(Q:Bool->Hp->Prop),Inv X pins σ H s->RelV x v->r x H Q->
  wpAny (model X.prog X.w) X.A (truthy v) (TP X pins σ Q) X.xe s
noncomputable def tOp(r:R2)(ta tb:TE):TE:=λσ H Q=>ta σ H λx H1=>tb σ H1 λy H2=>r x y H2 Q
noncomputable def tUn(r:V->Hp->VK->Prop)(ta:TE):TE:=λσ H Q=>ta σ H λx H1=>r x H1 Q
noncomputable def rI(C:Int->Int->Prop)(g:Int->Int->V):R2:=λx y H Q=>∃i j,x=.int i/\y=.int j/\C i j/\Q (g i j) H
noncomputable def rI0(g:Int->Int->V):R2:=λx y H Q=>∃i j,x=.int i/\y=.int j/\Q (g i j) H
noncomputable def rU(g:Int->V):V->Hp->VK->Prop:=λx H Q=>∃i,x=.int i/\Q (g i) H
section
variable{X:Cx}{a b c:Expr}{ta tb tc:TE}{pos:Pos}
theorem binT(ha:PE X a ta)(hb:PE X b tb){pins:List (Addr×Obj)}{s:Shared}{σ:St}{H:Hp}{R:V->V->Hp->Prop}(I:Inv X pins σ H s)
  (h:ta σ H λx H1=>tb σ H1 λy H2=>R x y H2){Q:Value->Shared->Prop}{f:Value->Value->Sem Value}
  (hf:∀v u s2 x y H2,Inv X pins σ H2 s2->RelV x v->RelV y u->R x y H2->wpAny (model X.prog X.w) X.A (f v u) Q X.xe s2) :
  wpAny (model X.prog X.w) X.A (eval a X.env) (λv s₁=>wpAny (model X.prog X.w) X.A (eval b X.env) (λu s₂=>wpAny (model X.prog X.w) X.A (f v u) Q X.xe s₂) X.xe s₁) X.xe s:=by
 refine thn (ha pins s σ H _ I h) λv s1 ⟨x,H1,I1,r1,q1⟩=>?_
 refine thn (hb pins s1 σ H1 _ I1 q1) λu s2 ⟨y,H2,I2,r2,q2⟩=>?_
 exact hf v u s2 x y H2 I2 r1 r2 q2
theorem zlc{op:Operator}{r:R2}(ho:OpR X (binaryOp op) r)(ha:PE X a ta)(hb:PE X b tb):PE X (.BinOp a op b pos) (tOp r ta tb):=by
 intro pins s σ H Q I h
 exact wpAny_BinOp (binT ha hb I h λv u s2 x y H2 I2 rx ry q=>ho pins s2 σ H2 x y v u Q I2 rx ry q)
theorem zate{op:UnaryOp}{r:V->Hp->VK->Prop}(ho:UnR X (unaryOp op) r)(ha:PE X a ta):PE X (.UnaryOp op a pos) (tUn r ta):=by
 intro pins s σ H Q I h
 exact UnaryOp_ (thn (ha pins s σ H _ I h) λv s1 ⟨x,H1,I1,r1,q1⟩=>ho pins s1 σ H1 x v Q I1 r1 q1)
theorem opI{f:Value->Value->Sem Value}{C:Int->Int->Prop}{g:Int->Int->Int}
  (rule:∀(i j:Int)(t u:Tok)(s:Shared)(Q:Value->Shared->Prop)(E:Value->Shared->Prop),C i j->Q (.int (g i j) s.toks) {s with toks:=s.toks+1}->wpAny (model X.prog X.w) X.A (f (.int i t) (.int j u)) Q E s) :
  OpR X f (rI C λi j=>.int (g i j)):=by
 intro pins s σ H x y v u Q I rx ry h
 obtain⟨i,j,rfl,rfl,hc,q⟩:=h
 obtain⟨t,rfl⟩:=rx
 obtain⟨t',rfl⟩:=ry
 exact rule i j t t' s _ _ hc ⟨.int (g i j),H,I.tok _,⟨_,rfl⟩,q⟩
theorem opI0{f:Value->Value->Sem Value}{g:Int->Int->Int}
  (rule:∀(i j:Int)(t u:Tok)(s:Shared)(Q:Value->Shared->Prop)(E:Value->Shared->Prop),Q (.int (g i j) s.toks) {s with toks:=s.toks+1}->wpAny (model X.prog X.w) X.A (f (.int i t) (.int j u)) Q E s) :
  OpR X f (rI0 λi j=>.int (g i j)):=by
 intro pins s σ H x y v u Q I rx ry h
 obtain⟨i,j,rfl,rfl,q⟩:=h
 obtain⟨t,rfl⟩:=rx
 obtain⟨t',rfl⟩:=ry
 exact rule i j t t' s _ _ ⟨.int (g i j),H,I.tok _,⟨_,rfl⟩,q⟩
theorem opB0{f:Value->Value->Sem Value}{g:Int->Int->Bool}
  (rule:∀(i j:Int) (t u:Tok) (s:Shared) (Q:Value->Shared->Prop) (E:Value->Shared->Prop),Q (.bool (g i j)) s->wpAny (model X.prog X.w) X.A (f (.int i t) (.int j u)) Q E s) :
  OpR X f (rI0 λi j=>.bl (g i j)):=by
 intro pins s σ H x y v u Q I rx ry h
 obtain⟨i,j,rfl,rfl,q⟩:=h
 obtain⟨t,rfl⟩:=rx
 obtain⟨t',rfl⟩:=ry
 exact rule i j t t' s _ _ ⟨.bl (g i j),H,I,rfl,q⟩
noncomputable def CDiv(i j:Int):Prop:=0<j/\j<1073741824
noncomputable def CPow(i j:Int):Prop:=0<=j/\j<=1000000/\i.natAbs<2 ^ 64
noncomputable def CMul(i j:Int):Prop:=(-(2 ^ 64)<i/\i<2 ^ 64)\/(-(2 ^ 64)<j/\j<2 ^ 64)
theorem CMul.ok{i j:Int}(h:CMul i j):IntMulOk i j:=by
 rcases h with⟨h1,h2⟩|⟨h1,h2⟩
 ·exact .of_left (intBits_le_64 h1 h2)
 ·exact .of_right (intBits_le_64 h1 h2)
theorem zaqi:OpR X (binaryOp .Add) (rI0 λi j=>.int (i+j)):=opI0 λ_ _ _ _ _ _ _ q=>add_int q
theorem zaqj:OpR X (binaryOp .Mult) (rI CMul λi j=>.int (i * j)):=opI λ_ _ _ _ _ _ _ hc q=>mul_int q hc.ok
theorem zei:OpR X (binaryOp .FloorDiv) (rI CDiv λi j=>.int (i / j)):=opI λi j _ _ _ _ _ hc q=>by
 have h1:(0:Int)<j:=hc.1
 have h2:j<1073741824:=hc.2
 exact floordiv_int (by omega) (by rw[Int.fdiv_eq_ediv_of_nonneg i (by omega)];exact q) (.inl (PyProof.noPylong_small (by omega)))
theorem zcl:OpR X (binaryOp .Mod) (rI (λ_ j=>0<j) λi j=>.int (i % j)):=opI λi j _ _ _ _ _ hc q=>by
 have h1:(0:Int)<j:=hc
 exact mod_int' (by omega) (by rw[Int.fmod_eq_emod_of_nonneg i (by omega)];exact q)
theorem zalf:OpR X (binaryOp .Pow) (rI CPow λi j=>.int (i ^ j.toNat)):=opI λ_ _ _ _ _ _ _ hc q=>pow_int_small hc.1 hc.2.1 hc.2.2 q
theorem unI{f:Value->Sem Value}{g:Int->Int}
  (rule:∀(i:Int)(t:Tok)(s:Shared)(Q:Value->Shared->Prop)(E:Value->Shared->Prop),Q (.int (g i) s.toks) {s with toks:=s.toks+1}->wpAny (model X.prog X.w) X.A (f (.int i t)) Q E s) :
  UnR X f (rU λi=>.int (g i)):=by
 intro pins s σ H x v Q I rx h
 obtain⟨i,rfl,q⟩:=h
 obtain⟨t,rfl⟩:=rx
 exact rule i t s _ _ ⟨.int (g i),H,I.tok _,⟨_,rfl⟩,q⟩
theorem zue:UnR X (unaryOp .USub) (rU λi=>.int (-i)):=unI λ_ _ _ _ _ q=>neg_int q
end
noncomputable def scal:V->V->Bool
 | .non,.non=>true|.non,.int _=>true|.int _,.non=>true|.non,.bl _=>true|.bl _,.non=>true|.non,.str _=>true|.str _,.non=>true
 | .int _,.int _=>true|.bl _,.bl _=>true|.str _,.str _=>true|.byt _,.byt _=>true
 | .int _,.str _=>true|.str _,.int _=>true|.bl _,.str _=>true|.str _,.bl _=>true
 | _,_=>false
noncomputable def rEq:R2:=λx y H Q=>scal x y=true/\Q (.bl (decide (x=y))) H
noncomputable def rNe:R2:=λx y H Q=>scal x y=true/\Q (.bl (!decide (x=y))) H
theorem zxp{i j:Int}:decide (V.int i=V.int j)=(i==j):=by
 rw[qAs]
 simp
theorem zzi{i j:Bool}:decide (V.bl i=V.bl j)=(i==j):=by
 rw[qAs]
 simp
theorem zxq{i j:Str}:decide (V.str i=V.str j)=(i==j):=by
 rw[qAs]
 simp
theorem zadh{i j:Array UInt8}:decide (V.byt i=V.byt j)=(i.toList==j.toList):=by
 rw[qAs]
 cases i
 cases j
 simp
section
variable{X:Cx}{a b c:Expr}{ta tb tc:TE}{pos:Pos}
theorem zcm{pins:List (Addr×Obj)}{σ:St}{H:Hp}{s:Shared}{Q:VK}{k k':Bool}(I:Inv X pins σ H s)(q:Q (.bl k) H)(e:k=k'):EP X pins σ Q (.bool k') s:=by
 subst e
 exact⟨.bl k,H,I,rfl,q⟩
theorem zatf:OpR X (compareOp .Eq) rEq:=by
 intro pins s σ H x y v u Q I rx ry h
 obtain⟨hs,q⟩:=h
 cases x with
 | non=>
  cases rx
  cases y with
  | non=>cases ry;exact PySem.EqNone.eq_none_none (zcm I q (by simp))
  | bl j=>cases ry;exact PySem.EqNone.eq_none_bool (zcm I q (by simp))
  | int j=>obtain⟨t',rfl⟩:=ry;exact PySem.EqNone.eq_none_int (zcm I q (by simp))
  | str j=>obtain⟨t',rfl⟩:=ry;exact PySem.EqNone.eq_none_str (zcm I q (by simp))
  | _=>exact absurd (show false=true from hs) qP
 | bl i=>
  cases rx
  cases y with
  | non=>cases ry;exact PySem.EqNone.eq_bool_none (zcm I q (by simp))
  | bl j=>cases ry;exact eq_bool (zcm I q zzi)
  | str j=>obtain⟨t',rfl⟩:=ry;exact PySem.EqMixed.eq_bool_str (zcm I q (by simp))
  | _=>exact absurd (show false=true from hs) qP
 | int i=>
  obtain⟨t,rfl⟩:=rx
  cases y with
  | non=>cases ry;exact PySem.EqNone.eq_int_none (zcm I q (by simp))
  | int j=>obtain⟨t',rfl⟩:=ry;exact eq_int (zcm I q zxp)
  | str j=>obtain⟨t',rfl⟩:=ry;exact PySem.EqMixed.eq_int_str (zcm I q (by simp))
  | _=>exact absurd (show false=true from hs) qP
 | str i=>
  obtain⟨t,rfl⟩:=rx
  cases y with
  | non=>cases ry;exact PySem.EqNone.eq_str_none (zcm I q (by simp))
  | bl j=>cases ry;exact PySem.EqMixed.eq_str_bool (zcm I q (by simp))
  | int j=>obtain⟨t',rfl⟩:=ry;exact PySem.EqMixed.eq_str_int (zcm I q (by simp))
  | str j=>obtain⟨t',rfl⟩:=ry;exact eq_str (zcm I q zxq)
  | _=>exact absurd (show false=true from hs) qP
 | byt i=>
  obtain⟨t,rfl⟩:=rx
  cases y with
  | byt j=>obtain⟨t',rfl⟩:=ry;exact PySem.W.eq_bytes (zcm I q zadh)
  | _=>exact absurd (show false=true from hs) qP
 | _=>cases y<;>exact absurd (show false=true from hs) qP
theorem zatg:OpR X (compareOp .NotEq) rNe:=by
 intro pins s σ H x y v u Q I rx ry h
 obtain⟨hs,q⟩:=h
 cases x with
 | non=>
  cases rx
  cases y with
  | non=>cases ry;exact PySem.EqNone.ne_none_none (zcm I q (by simp))
  | bl j=>cases ry;exact PySem.EqNone.ne_none_bool (zcm I q (by simp))
  | int j=>obtain⟨t',rfl⟩:=ry;exact PySem.EqNone.ne_none_int (zcm I q (by simp))
  | str j=>obtain⟨t',rfl⟩:=ry;exact PySem.EqNone.ne_none_str (zcm I q (by simp))
  | _=>exact absurd (show false=true from hs) qP
 | bl i=>
  cases rx
  cases y with
  | non=>cases ry;exact PySem.EqNone.ne_bool_none (zcm I q (by simp))
  | bl j=>cases ry;exact ne_bool (zcm I q (congrArg not zzi))
  | str j=>obtain⟨t',rfl⟩:=ry;exact PySem.EqMixed.ne_bool_str (zcm I q (by simp))
  | _=>exact absurd (show false=true from hs) qP
 | int i=>
  obtain⟨t,rfl⟩:=rx
  cases y with
  | non=>cases ry;exact PySem.EqNone.ne_int_none (zcm I q (by simp))
  | int j=>obtain⟨t',rfl⟩:=ry;exact ne_int (zcm I q (congrArg not zxp))
  | str j=>obtain⟨t',rfl⟩:=ry;exact PySem.EqMixed.ne_int_str (zcm I q (by simp))
  | _=>exact absurd (show false=true from hs) qP
 | str i=>
  obtain⟨t,rfl⟩:=rx
  cases y with
  | non=>cases ry;exact PySem.EqNone.ne_str_none (zcm I q (by simp))
  | bl j=>cases ry;exact PySem.EqMixed.ne_str_bool (zcm I q (by simp))
  | int j=>obtain⟨t',rfl⟩:=ry;exact PySem.EqMixed.ne_str_int (zcm I q (by simp))
  | str j=>obtain⟨t',rfl⟩:=ry;exact ne_str (zcm I q (congrArg not zxq))
  | _=>exact absurd (show false=true from hs) qP
 | byt i=>
  obtain⟨t,rfl⟩:=rx
  cases y with
  | byt j=>obtain⟨t',rfl⟩:=ry;exact PySem.W.ne_bytes (zcm I q (congrArg not zadh))
  | _=>exact absurd (show false=true from hs) qP
 | _=>cases y<;>exact absurd (show false=true from hs) qP
theorem zath:OpR X (compareOp .Lt) (rI0 λi j=>.bl (decide (i<j))):=opB0 λ_ _ _ _ _ _ _ q=>lt_int q
theorem OpR.or{f:Value->Value->Sem Value}{r r':R2}(h:OpR X f r)(h':OpR X f r'):OpR X f (λx y H Q=>r x y H Q\/r' x y H Q):=by
 intro pins s σ H x y v u Q I rx ry q
 rcases q with q|q
 ·exact h pins s σ H x y v u Q I rx ry q
 ·exact h' pins s σ H x y v u Q I rx ry q
theorem zdt(b:Expr){op:CmpOp}(h:op≠.In:=by decide)(h2:op≠.NotIn:=by decide):behindInMarks op b=false:=by
 have e1:(op==CmpOp.In)=false:=by cases op<;>first|rfl|exact absurd rfl h
 have e2:(op==CmpOp.NotIn)=false:=by cases op<;>first|rfl|exact absurd rfl h2
 cases b<;>simp[behindInMarks,e1,e2]
theorem zana{op:CmpOp}{r:R2}(ho:OpR X (compareOp op) r)(ha:PE X a ta)(hb:PE X b tb)(hm:behindInMarks op b=false):PE X (.Compare a [op] [b] pos) (tOp r ta tb):=by
 intro pins s σ H Q I h
 exact wpAny_Compare1 (binT ha hb I h λv u s2 x y H2 I2 rx ry q=>ho pins s2 σ H2 x y v u Q I2 rx ry q) hm
noncomputable def tTest(t:TE):TT:=λσ H Q=>t σ H λx H'=>∃k,x=.bl k/\Q k H'
theorem zadi{op:CmpOp}{r:R2}(ho:OpR X (compareOp op) r)(ha:PE X a ta)(hb:PE X b tb)(hm:behindInMarks op b=false):PT X (.Compare a [op] [b] pos) (tTest (tOp r ta tb)):=by
 intro pins s σ H Q I h
 refine wpAny_isTrue_Compare1 (thn (ha pins s σ H _ I h) λv s1 ⟨x,H1,I1,r1,q1⟩=>thn (hb pins s1 σ H1 _ I1 q1) λu s2 ⟨y,H2,I2,r2,q2⟩=>
  thn (ho pins s2 σ H2 x y v u _ I2 r1 r2 q2) λc s3 ⟨z,H3,I3,r3,k,e,q3⟩=>?_) hm
 subst e
 cases r3
 exact qBi ⟨H3,I3,q3⟩
noncomputable def TruV(K:qB)(x:V)(H:Hp)(k:Bool):Prop:=
 match x with
 | .non=>k=false
 | .bl b=>k=b
 | .int i=>k=(i != 0)
 | .str y=>y.length<=qV/\k=((y.length:Int) != 0)
 | .byt y=>y.size<=qV/\k=((y.size:Int) != 0)
 | .ref p=>(∃xs,SqL K H p xs/\k=!xs.isEmpty)\/(∃xs,SqT K H p xs/\k=!xs.isEmpty)\/∃kvs,H p=some (.dK kvs)/\k=!kvs.isEmpty
 | _=>False
theorem zabq{κ:Type}{kvs:List (κ×V)}{vs:List (κ×Value)}(r:KV kvs vs):(!vs.isEmpty)=!kvs.isEmpty:=by
 cases r<;>rfl
theorem zrk{xs:List V}{its:List Value}(r:Vals xs its):(!its.toArray.isEmpty)=!xs.isEmpty:=by
 cases r<;>simp
theorem zuf:(qV:Nat)<2 ^ 63:=by rw[qBM];decide
theorem zaqk:TruR X (λx H Q=>∃k,TruV X.K x H k/\Q k H):=by
 intro pins s σ H x v Q I rx h
 obtain⟨k,e,q⟩:=h
 have hl:=zuf
 have hs:qV=16777216:=qBM
 cases x with
 | non=>
  cases rx
  have e':k=false:=e
  subst e'
  exact truthy_none ⟨H,I,q⟩
 | bl b=>
  cases rx
  have e':k=b:=e
  subst e'
  exact qBi ⟨H,I,q⟩
 | int i=>
  obtain⟨t,rfl⟩:=rx
  have e':k=(i != 0):=e
  subst e'
  exact PySem.P.truthy_int ⟨H,I,q⟩
 | str y=>
  obtain⟨t,rfl⟩:=rx
  obtain⟨hy,e'⟩:y.length<=qV/\k=((y.length:Int) != 0):=e
  subst e'
  exact PySem.P.truthy_str (by omega) ⟨H,I.tok _,q⟩
 | byt y=>
  obtain⟨t,rfl⟩:=rx
  obtain⟨hy,e'⟩:y.size<=qV/\k=((y.size:Int) != 0):=e
  subst e'
  exact PySem.W.truthy_bytes (by omega) ⟨H,I.tok _,q⟩
 | ref p=>
  cases rx
  have e':(∃xs,SqL X.K H p xs/\k=!xs.isEmpty)\/(∃xs,SqT X.K H p xs/\k=!xs.isEmpty)\/∃kvs,H p=some (.dK kvs)/\k=!kvs.isEmpty:=e
  rcases e' with⟨xs,hx,e'⟩|⟨xs,hx,e'⟩|⟨kvs,hx,e'⟩
  ·subst e'
   obtain⟨its,r,pl,hz⟩:=I.list hx
   have hlen:=r.length
   exact wpAny_truthy_list pl.isList (by simp only[qQ];omega) ⟨H,I.tok _,by rw[zrk r];exact q⟩
  ·subst e'
   obtain⟨its,r,pl,hz⟩:=I.tuple hx
   have hlen:=r.length
   exact truthy_tuple pl (by simp only[qQ];omega) ⟨H,I.tok _,by rw[zrk r];exact q⟩
  ·subst e'
   obtain⟨hz,hS,vs,r,m⟩:kvs.length<=qV/\(p==sysModules)=false/\∃vs,KV kvs vs/\s.heap.DictOf (zds X.prog X.w) p vs:=I.hok p _ hx
   have hlen:kvs.length=vs.length:=qCD r
   exact wpAny_truthy_dict hS m (by omega) ⟨H,I.tok _,by rw[zabq r];exact q⟩
 | _=>exact(show False from e).elim
theorem zaia(ha:PE X a ta)(he:∀whole,isTrue a X.env whole=(do let v <- whole;standAt a.pos;holding [v] (truthy v))) :
  PT X a (λσ H Q=>ta σ H λx H'=>∃k,TruV X.K x H' k/\Q k H'):=by
 intro pins s σ H Q I h
 exact isTrue_plain (thn (ha pins s σ H _ I h) λv s1 ⟨x,H1,I1,r1,q1⟩=>zaqk pins s1 σ H1 x v Q I1 r1 q1) (he _)
theorem zabr:OpR X (binaryOp .Add) (λx y H Q=>∃i j,x=.str i/\y=.str j/\i.length+j.length<=qV/\Q (.str (i++j)) H):=by
 intro pins s σ H x y v u Q I rx ry h
 obtain⟨i,j,rfl,rfl,hz,q⟩:=h
 obtain⟨t,rfl⟩:=rx
 obtain⟨t',rfl⟩:=ry
 exact add_str (λt' tk=>⟨.str (i++j),H,I.tok _,⟨_,rfl⟩,q⟩) hz
theorem zxr{x:V}{us:List Value}(r:Vals [x] us):∃u,us=[u]/\RelV x u:=by
 cases r with
 | cons r1 r2=>cases r2;exact⟨_,rfl,r1⟩
theorem zxs{x y:V}{us:List Value}(r:Vals [x,y] us):∃u w',us=[u,w']/\RelV x u/\RelV y w':=by
 cases r with
 | cons r1 r2=>
  cases r2 with
  | cons r3 r4=>cases r4;exact⟨_,_,rfl,r1,r3⟩
theorem zadj(hc:X.calm=true):CallR X (.builtin "min") (λxs H Q=>∃i j,xs=[.int i,.int j]/\Q (.int (if j<i then j else i)) H):=by
 intro pins s σ H xs us Q I r h
 obtain⟨i,j,rfl,q⟩:=h
 obtain⟨u,w',rfl,⟨t,rfl⟩,⟨t',rfl⟩⟩:=zxs r
 refine min_two_ints (I.ok.hd hc) λh' tk k=>⟨_,H,I.kept k,?_,q⟩
 by_cases hj:j<i
 ·rw[if_pos hj,if_pos hj];exact⟨_,rfl⟩
 ·rw[if_neg hj,if_neg hj];exact⟨_,rfl⟩
noncomputable def LenV(K:qB)(x:V)(H:Hp)(n:Nat):Prop:=
 match x with
 | .str y=>y.length<=qV/\n=y.length
 | .byt y=>y.size<=qV/\n=y.size
 | .ref p=>(∃xs,SqL K H p xs/\n=xs.length)\/∃xs,SqT K H p xs/\n=xs.length
 | _=>False
theorem zaib:CallR X (.builtin "len") (λxs H Q=>∃x n,xs=[x]/\LenV X.K x H n/\Q (.int n) H):=by
 intro pins s σ H xs us Q I r h
 obtain⟨x,n,rfl,e,q⟩:=h
 obtain⟨u,rfl,rx⟩:=zxr r
 have hl:=zuf
 have hs:qV=16777216:=qBM
 cases x with
 | str y=>
  obtain⟨t,rfl⟩:=rx
  obtain⟨hy,e'⟩:y.length<=qV/\n=y.length:=e
  subst e'
  exact len_str (by omega) ⟨.int _,H,I.tok _,⟨_,rfl⟩,q⟩
 | byt y=>
  obtain⟨t,rfl⟩:=rx
  obtain⟨hy,e'⟩:y.size<=qV/\n=y.size:=e
  subst e'
  exact PySem.W.len_bytes (by omega) ⟨.int _,H,I.tok _,⟨_,rfl⟩,q⟩
 | ref p=>
  cases rx
  have e':(∃xs,SqL X.K H p xs/\n=xs.length)\/∃xs,SqT X.K H p xs/\n=xs.length:=e
  rcases e' with⟨xs,hx,e'⟩|⟨xs,hx,e'⟩
  ·subst e'
   obtain⟨its,r',pl,hz⟩:=I.list hx
   have hlen:=r'.length
   exact Calls.call_len_list pl.isList (by simp only[qQ];omega) ⟨.int xs.length,H,I.tok _,⟨_,by simp only[qQ];rw[hlen]⟩,q⟩
  ·subst e'
   obtain⟨its,r',pl,hz⟩:=I.tuple hx
   have hlen:=r'.length
   exact len_tuple pl (by simp only[qQ];omega) ⟨.int xs.length,H,I.tok _,⟨_,by simp only[qQ];rw[hlen]⟩,q⟩
 | _=>exact(show False from e).elim
end
set_option genInjectivity false in
structure ObjM(h:Heap)(x dx C:Addr)(mA:Str->Option Value):Prop where
 obj:h.get? x=some (PySem.W.instObj C dx)
 ns:h.Ns1 dx mA
 ne:dx≠x
theorem zadk{h:Heap}{dx:Addr}{mA:Str->Option Value}(n:h.Ns1 dx mA):∃od,h.get? dx=some od/\∀name,PySem.W.lookIn name od=some (mA name):=by
 obtain⟨o,es,ep,ho,hd,hk,_,hm⟩:=n
 refine⟨o,ho,λname=>?_⟩
 have e:=hm name
 unfold nsFind findBy at e
 rw[<- Array.find?_toList]at e
 unfold PySem.W.lookIn
 rw[hd]
 dsimp only
 split
 ·rename_i y q
  rw[q]at e
  exact congrArg some e
 ·rename_i q
  rw[q]at e
  have a:es.toList.any (·.refKey)=false:=by
   rw[List.any_eq_false]
   intro y hy
   obtain⟨z,t,hkey⟩:=hk y (qC8.mp hy)
   simp[DictEntry.refKey,hkey]
  have a':¬es.toList.any (·.refKey)=true:=by rw[a];exact qP
  rw[if_neg a']
  exact congrArg some e
theorem ObjM.look{h:Heap}{x dx C:Addr}{mA:Str->Option Value}(I:ObjM h x dx C mA):∃od,PySem.W.InstAt h x (PySem.W.instObj C dx) C (some od)/\∀name,PySem.W.lookIn name od=some (mA name):=
 let⟨od,ho,hl⟩:=zadk I.ns
 ⟨od,⟨I.obj,rfl,rfl,ho⟩,hl⟩
theorem RelO.some_of{v:V}{o:Option Value}(r:RelO (some v) o):∃u,o=some u/\RelV v u:=by
 cases o with
 | none=>exact(show False from r).elim
 | some u=>exact⟨u,rfl,r⟩
theorem zadl{v:V}{u:Value}(r:RelV v u):PySem.W.handedIn u=true:=by
 cases v with
 | non=>cases(show u=Value.none from r);rfl
 | bl b=>cases(show u=Value.bool b from r);rfl
 | int i=>obtain⟨t,e⟩:=(show ∃t,u=Value.int i t from r);cases e;rfl
 | str x=>obtain⟨t,e⟩:=(show ∃t,u=Value.str x t from r);cases e;rfl
 | byt b=>obtain⟨t,e⟩:=(show ∃t,u=Value.bytes b t from r);cases e;rfl
 | flt b=>obtain⟨t,e⟩:=(show ∃t,u=Value.float b t from r);cases e;rfl
 | ref a=>cases(show u=Value.ref a from r);rfl
 | ty n=>cases(show u=Value.type n from r);rfl
section
variable{P:Program}{w:World}{H H':Hp}{h h':Heap}{a C dx:Addr}{fs fs':List (Str×V)}
theorem zanb(hok:HOk P w H h)(e:H a=some (.ins C dx fs)):∃mA,ObjM h a dx C mA/\(∀f,RelO (fs.lookup f) (mA f))/\PySem.Within mA (fs.map (·.1))/\fs.length<=1000/\H dx=some (.own a):=by
 obtain⟨d,z,ne,ob,mA,n,r,q⟩:=(show zdv P w H h a (.ins C dx fs)from hok a _ e)
 exact⟨mA,⟨ob,n,ne⟩,r,q,z,d⟩
end
set_option genInjectivity false in
structure Cls(K:qB)(C:Addr):Prop where
 pg:PySem.W.plainGet K C Str.empty=true
 hd:PySem.W.hasDictIn K C=true
 po:PySem.W.plainOver K C=true
 sa:PySem.W.findIn K (.ref C) "__setattr__"=some (some (.builtin "object.__setattr__"))
theorem Cls.get{K:qB}{C:Addr}(c:Cls K C)(f:Str):PySem.W.plainGet K C f=true:=c.pg
set_option genInjectivity false in
set_option genInjectivity false in
section
variable{X:Cx}{pins:List (Addr×Obj)}{σ:St}{H:Hp}{s:Shared}{a C dx:Addr}{fs:List (Str×V)}{f:Str}{v:V}{A:Around}{E:Value->Shared->Prop}
theorem zanc{prog:Program}{w:World}{env:Env}{e:Expr}{f:Str}{pos:Pos}{s:Shared}{Q:Value->Shared->Prop}(hb:attributeBase e f env (eval e env)=eval e env)
  (h:wpAny (model prog w) A (eval e env) (λo s₁=>wpAny (model prog w) A (getAttr o f true) Q E s₁) E s):wpAny (model prog w) A (eval (.Attribute e f pos) env) Q E s:=
 Attribute_any_ h (by rw[arm_eval_Attribute,hb])
end
section
variable{X:Cx}{pins:List (Addr×Obj)}{σ:St}{H:Hp}{s:Shared}{A:Around}{E:Value->Shared->Prop}{Q:Value->Shared->Prop}{c:Value}{b:Bool}
inductive TyOf(K:qB)(H:Hp):V->Value->Prop where
 | non:TyOf K H .non (.type "NoneType")
 | bl (x:Bool):TyOf K H (.bl x) (.type "bool")
 | int (i:Int):TyOf K H (.int i) (.type "int")
 | str (x:Str):TyOf K H (.str x) (.type "str")
 | flt (x:UInt64):TyOf K H (.flt x) (.type "float")
 | lst {a:Addr} {xs:List V} (e:H a=some (.lst xs)):TyOf K H (.ref a) (.type "list")
 | frz {a:Addr} {o:Obj} {xs:List V} (e:H a=some (.frz o (.lst xs))):TyOf K H (.ref a) (.type "list")
 | tup {a:Addr} {xs:List V} (e:H a=some (.tup xs)):TyOf K H (.ref a) (.type "tuple")
 | dK {a:Addr} {kvs:List (Key×V)} (e:H a=some (.dK kvs)):TyOf K H (.ref a) (.type "dict")
 | dT {a:Addr} {kvs:List (List Key×V)} (e:H a=some (.dT kvs)):TyOf K H (.ref a) (.type "dict")
 | ins {a C dx:Addr} {fs:List (Str×V)} (e:H a=some (.ins C dx fs)) (cl:Cls K C) (ha:PySem.W.findIn K (.ref C) "__class__"=some (some (.builtin "object.__class__")))
   (hn:PySem.W.specialIn K (.builtin "object.__class__") "__get__"=some (some (.builtin "getset_descriptor.__get__")))(htk:PySem.W.takesIn K (.builtin "object.__class__")=some true)
   (hm:PySem.W.mroIn K C (.type "object")=some true):TyOf K H (.ref a) (.ref C)
theorem zadm {x:V} {u t:Value} (I:Inv X pins σ H s) (rx:RelV x u) (ty:TyOf X.K H x t) (e:PySem.W.kitOne X.K t c=some b) (h:∀tk,Q (.bool b) {s with toks:=tk}) :
  wpAny (model X.prog X.w) A (call (.builtin "isinstance") [u,c]) Q E s:=by
 cases ty with
 | non=>cases(show u=Value.none from rx);exact qAa PySem.W.kitx_none I.kIn True.intro e (λz=>nomatch z) h
 | bl y=>cases(show u=Value.bool y from rx);exact qAa PySem.W.kitx_bool I.kIn True.intro e (λz=>nomatch z) h
 | int i=>obtain⟨t,q⟩:=(show ∃t,u=Value.int i t from rx);cases q;exact qAa PySem.W.kitx_int I.kIn True.intro e (λz=>nomatch z) h
 | str y=>obtain⟨t,q⟩:=(show ∃t,u=Value.str y t from rx);cases q;exact qAa PySem.W.kitx_str I.kIn True.intro e (λz=>nomatch z) h
 | flt y=>obtain⟨t,q⟩:=(show ∃t,u=Value.float y t from rx);cases q;exact qAa PySem.W.kitx_float I.kIn True.intro e (λz=>nomatch z) h
 | @lst a xs ea=>
  cases(show u=Value.ref a from rx)
  obtain⟨_,_,n,_,h1⟩:=(show zdv X.prog X.w H s.heap a (.lst xs)from I.hok a _ ea)
  exact qAa qC9 I.kIn ⟨_,h1,rfl⟩ e (λz=>nomatch z) h
 | @frz a ob xs ea=>
  cases(show u=Value.ref a from rx)
  obtain⟨_,_,_,n,_,h1⟩:=(show zdv X.prog X.w H s.heap a (.frz ob (.lst xs))from I.hok a _ ea)
  exact qAa qC9 I.kIn ⟨_,h1,rfl⟩ e (λz=>nomatch z) h
 | @tup a xs ea=>
  cases(show u=Value.ref a from rx)
  obtain⟨_,_,_,p⟩:=(show zdv X.prog X.w H s.heap a (.tup xs)from I.hok a _ ea)
  obtain⟨o,h1,h2,_⟩:=p
  exact qAa PySem.W.kitx_tuple I.kIn ⟨o,h1,h2⟩ e (λz=>nomatch z) h
 | @dK a kvs ea=>
  cases(show u=Value.ref a from rx)
  obtain⟨_,_,vs,_,p⟩:=(show zdv X.prog X.w H s.heap a (.dK kvs)from I.hok a _ ea)
  obtain⟨o,es,ep,h1,h2,_⟩:=p
  exact qAa qDA I.kIn ⟨o,h1,h2.1⟩ e (λz=>nomatch z) h
 | @dT a kvs ea=>
  cases(show u=Value.ref a from rx)
  obtain⟨_,_,xs,_,o,es,ep,h1,h2,_⟩:=(show zdv X.prog X.w H s.heap a (.dT kvs)from I.hok a _ ea)
  exact qAa qDA I.kIn ⟨o,h1,h2.1⟩ e (λz=>nomatch z) h
 | @ins a C dx fs ea cl ha hn htk hm=>
  cases(show u=Value.ref a from rx)
  obtain⟨mA,O,_⟩:=zanb I.hok ea
  obtain⟨od,J,_⟩:=O.look
  exact qAa (PySem.W.kitx_own (cl.get _) cl.hd ha hn htk hm) I.kIn J e (λz=>nomatch z) h
end
set_option genInjectivity false in
structure Room(k:Nat)(A:Around):Prop where
 hd:A.handled=none
 dp:A.depth+3 * k+5<recursionLimit
 un:A.units+16 * k+200<cLine
 gd:A.guards=some []
theorem Room.mono{j k:Nat}{A:Around}(r:Room k A)(h:j<=k):Room j A:=⟨r.hd,by have:=r.dp;omega,by have:=r.un;omega,r.gd⟩
theorem Room.deeper{k:Nat}{A:Around}(r:Room (k+1) A)(env:Env):Room k (A.deeper env):=
 ⟨r.hd,by have:=r.dp;show A.depth+1+3 * k+5<_;omega,by have:=r.un;show A.units+3+16 * k+200<_;omega,r.gd⟩
theorem zabs{A:Around}{C:Addr}{us:List Value}{kw:List (Str×Value)}:(A.under (.builtin "type.__call__" ⟨.ref C::us,kw⟩)).depth=A.depth+1:=by
 first|rfl|simp[Around.under,Code.weight,Code.isCreation,Code.isGuard,Code.isCaller,Code.frames,Code.isFrame,guardIds]
theorem zabt{A:Around}{C:Addr}{us:List Value}{kw:List (Str×Value)}:(A.under (.builtin "type.__call__" ⟨.ref C::us,kw⟩)).units=A.units+1:=by
 first|rfl|simp[Around.under,Code.cUnits,Code.frames,Code.isFrame]
theorem Room.make{k:Nat}{A:Around}(r:Room (k+1) A)(C:Addr)(us:List Value)(kw:List (Str×Value)):Room k (A.under (.builtin "type.__call__" ⟨.ref C::us,kw⟩)):=
 ⟨r.hd,by have:=r.dp;rw[zabs];omega,by have:=r.un;rw[zabt];omega,by first|exact r.gd|(simpa [Around.under,Code.isGuard,Code.isFrame,guardIds]using r.gd)⟩
theorem Room.depth{k:Nat}{A:Around}(r:Room k A):A.depth<recursionLimit:=by have:=r.dp;omega
theorem Room.units{k:Nat}{A:Around}(r:Room k A):A.units+64<cLine:=by have:=r.un;omega
noncomputable def tNil:TA:=λ_ H Q=>Q [] H
noncomputable def tCons(ta:TE)(tr:TA):TA:=λσ H Q=>ta σ H λx H1=>tr σ H1 λxs H2=>Q (x::xs) H2
section
variable{X:Cx}{e:Expr}{es:List Expr}{te:TE}{t:TA}{pos:Pos}
theorem zob:PA X [] tNil:=λ_ _ _ _ H Q I h=>Calls.spliced_nil ⟨[],H,I,.nil,h⟩
theorem zju(ha:PE X e te)(hr:PA X es t)(hs:starEach (e::es) X.env=(false,eval e X.env)::starEach es X.env:=by rfl):PA X (e::es) (tCons te t):=by
 intro pos pins s σ H Q I h
 rw[hs]
 show wpAny _ _ (spliced ((false,eval e X.env)::backTo pos (starEach es X.env))) _ _ s
 refine qDM (thn (ha pins s σ H _ I h) λu s1 ⟨x,H1,I1,r1,q1⟩=>?_)
 exact thn (hr pos pins s1 σ H1 _ I1 q1) λus s2 ⟨xs,H2,I2,r2,q2⟩=>⟨x::xs,H2,I2,.cons r1 r2,q2⟩
noncomputable def tTup(t:TA):TE:=λσ H Q=>t σ H λxs H1=>xs.length<=qV/\∀p,H1 p=none->Q (.ref p) (upd H1 p (.tup xs))
noncomputable def tLst(t:TA):TE:=λσ H Q=>t σ H λxs H1=>xs.length<=qV/\∀p,H1 p=none->Q (.ref p) (upd H1 p (.lst xs))
theorem zaql{x1}(h:PA X es t):PE X (.Tuple es x1 pos) (tTup t):=by
 intro pins s σ H Q I hq
 refine wpAny_Tuple_spliced (thn (h pos pins s σ H _ I hq) λus s1 ⟨xs,H1,I1,r,z,q⟩=>⟨by rw[<- r.length];exact z,?_⟩)
 have hf:H1 s1.heap.objs.size=none:=I1.hok.fresh (qL _)
 refine⟨.ref s1.heap.objs.size,upd H1 s1.heap.objs.size (.tup xs),I1.laid (t':=s1.toks) (λb u e=>qD _ e) (qL _) ?_,rfl,q _ hf⟩
 exact⟨z,us,r,⟨_,qa _ rfl,rfl,_,rfl⟩⟩
theorem zalg(h:PA X es t):PE X (.List es pos) (tLst t):=by
 intro pins s σ H Q I hq
 refine wpAny_List_spliced (thn (h pos pins s σ H _ I hq) λus s1 ⟨xs,H1,I1,r,z,q⟩=>⟨by rw[<- r.length];exact z,?_⟩)
 have hf:H1 s1.heap.objs.size=none:=I1.hok.fresh (qL _)
 refine⟨.ref s1.heap.objs.size,upd H1 s1.heap.objs.size (.lst xs),I1.laid (t':=s1.toks) (λb u e=>qD _ e) (qL _) ?_,rfl,q _ hf⟩
 exact⟨z,us,0,r,qa _ rfl⟩
end
noncomputable abbrev Sp:=List V->Hp->VK->XK->Prop
noncomputable abbrev CXT:=List Env->Hp->Shared->XK->Value->Shared->Prop
set_option genInjectivity false in
structure Env0(P:Program)(w:World)(K:qB)(mg:Str->Option Value)(base:Heap)(A:Around)(outer:List Env)(s:Shared)(H:Hp):Prop where
 frames:A.frames=some outer
 mod:Mod K mg base
 bs:∀b o,base.get? b=some o->s.heap.get? b=some o/\H b=none
 bsz:base.objs.size<=s.heap.objs.size
 funs:s.heap.FunFrames base outer
 frf:∀b∈frs outer,H b=none
 hok:HOk P w H s.heap
 bare:AllBare s.gens
noncomputable def CE(outer:List Env)(P:Program)(w:World)(H:Hp)(s:Shared)(Q:VK)(u:Value)(s':Shared):Prop:=
 ∃v H',s'.os=s.os/\AllBare s'.gens/\Un (frs outer) [] H H' s.heap s'.heap/\HOk P w H' s'.heap/\RelV v u/\Q v H'
noncomputable def CR(CX:CXT)(outer:List Env)(P:Program)(w:World)(H:Hp)(s:Shared)(Q:VK)(E:XK)(r:Result)(s':Shared):Prop:=
 match r with
 | .ok (.ret u)=>CE outer P w H s Q u s'
 | .ok _=>False
 | .error e=>CX outer H s E e s'
set_option genInjectivity false in
structure FnOk(P:Program)(w:World)(K:qB)(mg:Str->Option Value)(base:Heap)(CX:CXT)(k:Nat)(f:Addr)(fd:qt)(ps:List Str)(sp:Sp):Prop where
 len:∀vs H Q E,sp vs H Q E->vs.length=ps.length
 run:∀(A:Around)(outer:List Env)(s:Shared)(H:Hp)(args:Args)(us:List Value)(vs:List V)(Q:VK)(E:XK),Room k A->Env0 P w K mg base A outer s H->BindsTo s fd args (ps.zip us)->Vals vs us->sp vs H Q E->
  codeAny (model P w) A (.call (.ref f) args) (CR CX outer P w H s Q E) s
theorem Env0.make{P:Program}{w:World}{K:qB}{mg:Str->Option Value}{base:Heap}{A:Around}{outer:List Env}{s:Shared}{H:Hp}(e:Env0 P w K mg base A outer s H)(C:Addr)(us:List Value)(kw:List (Str×Value)) :
  Env0 P w K mg base (A.under (.builtin "type.__call__" ⟨.ref C::us,kw⟩)) outer s H:=⟨by first|exact e.frames|(simpa [Around.under,Code.envs,Code.isFrame,pushEnvs]using e.frames),e.mod,e.bs,e.bsz,e.funs,e.frf,e.hok,e.bare⟩
section
variable{X:Cx}{pins:List (Addr×Obj)}{σ:St}{H:Hp}{s s':Shared}
theorem Inv.env0(I:Inv X pins σ H s):Env0 X.prog X.w X.K X.mg X.base X.A X.stack s H:=
 ⟨I.ok.frames,I.ok.mod,I.bs,qAM I.ok.bsz I.sz,I.stack,I.stkFree,I.hok,I.bare⟩
theorem Inv.after{Q:VK}{u:Value}(I:Inv X pins σ H s)(h:CE X.stack X.prog X.w H s Q u s'):EP X pins σ Q u s':=by
 obtain⟨v,H',os,bare,un,hok,r,q⟩:=h
 obtain⟨hh,g,d,t,os'⟩:=s'
 obtain rfl:os'=s.os:=os
 exact⟨v,H',I.call (h':=hh) (g':=g) (d':=d) (t':=t) (ch:=[]) un hok bare (λb z=>absurd z (by simp)),r,q⟩
end
noncomputable def tCall(sp:Sp)(dvs:List V)(E:XK)(t:TA):TE:=λσ H Q=>t σ H λvs H1=>sp (vs++dvs) H1 Q E
noncomputable def zom(K:qB)(fd:qt)(ps:List Str)(ds:List Value):Prop:=
 ∀(s:Shared)(us:List Value),K.In s.heap->(us++ds).length=ps.length->BindsTo s fd ⟨us,[]⟩ (ps.zip (us++ds))
theorem zom.all{K:qB}{fd:qt}{ps:List Str}(h:∀us:List Value,us.length=ps.length->bindArgs fd ⟨us,[]⟩=pure (ps.zip us)):zom K fd ps []:=λs us _ hl=>by
 rw[qAB]at hl ⊢
 exact .of_eq (h us hl)
noncomputable def zrl(CX:CXT)(X:Cx)(E:XK):Prop:=∀(pins:List (Addr×Obj))(σ:St)(H:Hp)(s:Shared)(e:Value)(s':Shared),Inv X pins σ H s->CX X.stack H s E e s'->X.xe e s'
section
variable{X:Cx}{CX:CXT}{k:Nat}{f C:Addr}{fd:qt}{ps:List Str}{sp:Sp}{dvs:List V}{ds:List Value}{E:XK}{x m:Str}{p pos apos:Pos}{e o:Expr}{es:List Expr}{ta:TE}{t:TA}
theorem zaqm{pins:List (Addr×Obj)}{σ:St}{H:Hp}{s:Shared}{Q:VK}{us:List Value}{vs:List V}(F:FnOk X.prog X.w X.K X.mg X.base CX k f fd ps sp)(hr:Room k X.A)(hb:zom X.K fd ps ds)(hd:Vals dvs ds)(hx:zrl CX X E)
  (I:Inv X pins σ H s) (r:Vals vs us) (h:sp (vs++dvs) H Q E):wpAny (model X.prog X.w) X.A (call (.ref f) us) (EP X pins σ Q) X.xe s:=by
 have r2:Vals (vs++dvs) (us++ds):=r.append hd
 have hl:(us++ds).length=ps.length:=by rw[<- r2.length];exact F.len _ _ _ _ h
 refine qCG (qBc (F.run X.A X.stack s H ⟨us,[]⟩ (us++ds) (vs++dvs) Q E hr I.env0 (hb s us I.kIn hl) r2 h) λr s' hq=>?_)
 cases r with
 | error e=>exact hx pins σ H s e s' I hq
 | ok fl=>
  cases fl with
  | ret u=>exact I.after hq
  | next=>exact False.elim hq
  | brk=>exact False.elim hq
  | cont=>exact False.elim hq
theorem zadn(F:FnOk X.prog X.w X.K X.mg X.base CX k f fd ps sp)(hr:Room k X.A)(hg:Gl X x)(hm:X.mg x=some (.ref f))(hk:qS X.K (.ref f)=true)(hb:zom X.K fd ps ds)(hd:Vals dvs ds)(hx:zrl CX X E)
  (ha:PA X (e::es) t)(hdb:(x==("__debug__":Str))=false:=by decide)(he:starEach (e::es) X.env=(false,eval e X.env)::starEach es X.env:=by rfl)(hpl:(backTo pos (starEach es X.env)).any (·.1)=false:=by rfl) :
  PE X (.Call (.Name x p) (e::es) [] pos) (tCall sp dvs E t):=by
 intro pins s σ H Q I h
 refine qBK (zoz I hg hm ?_ hdb)
 refine qB9 (h₀:=X.base) I.ok.mod.kin hk (thn (ha pos pins s σ H _ I h) λus s1 ⟨vs,H1,I1,r,q⟩=>⟨I1.kIn,?_⟩) he hpl
 exact zaqm F hr hb hd hx I1 r q
set_option genInjectivity false in
end
section
variable{X:Cx}{CX:CXT}{k:Nat}{f C:Addr}{fd:qt}{ps ks:List Str}{sp:Sp}{E:XK}{x m:Str}{p pos apos kpos:Pos}{e o:Expr}{es:List Expr}{kws:List Keyword}{te ta:TE}{t tk:TA}{nm:Option Str}
set_option genInjectivity false in
variable{g:List Value->List Value->List Value}{gV:List V->List V->List V}
end
set_option genInjectivity false in
structure FnScope(N P:List Str)(sc:Scope):Prop where
 kind:sc.kind=.function
 co:sc.isCoroutine=false
 gen:sc.isGenerator=false
 nd:N.Nodup
 pre:N.take P.length=P
 par:∀x∈P,sc.names.lookup x=some .local\/sc.names.lookup x=some .cell
 nofree:∀y∈sc.names,y.2≠.free
theorem zug{kindOf:Str->Option NameKind}{x:Str}:∀{binds:List (Str×Value)}{m:Str->Option Value},(∀v,(x,v)∉binds)->bindL kindOf binds m x=m x
 | [],_,_=>rfl
 | (n,v)::r,m,h=>by
  unfold bindL
  rw[zug λw hw=>h w (qK _ hw)]
  split
  ·have:x≠n:=by rintro rfl;exact h v qm
   simp[this]
  ·rfl
theorem zuh{kindOf:Str->Option NameKind}{x:Str}:∀{binds:List (Str×Value)}{m:Str->Option Value},(∀v,(x,v)∉binds)->bindC kindOf binds m x=m x
 | [],_,_=>rfl
 | (n,v)::r,m,h=>by
  unfold bindC
  rw[zuh λw hw=>h w (qK _ hw)]
  split
  ·rfl
  ·have:x≠n:=by rintro rfl;exact h v qm
   simp[this]
theorem zui{kindOf:Str->Option NameKind}{x:Str}{v:Value}:∀{P:List Str}{vs:List Value}{i:Nat}{m:Str->Option Value},P.Nodup->P[i]?=some x->vs[i]?=some v->kindOf x=some .local->
  bindL kindOf (P.zip vs) m x=some v
 | [],_,_,_,_,h,_,_=>by simp at h
 | _::_,[],_,_,_,_,h,_=>by simp at h
 | p::P,w::vs,0,m,nd,h1,h2,hk=>by
  simp at h1 h2;subst h1;subst h2
  show bindL kindOf ((p,w)::P.zip vs) m p=_
  unfold bindL
  rw[zug λv hv=>(qBH.mp nd).1 (qA9 hv).1,if_pos hk]
  simp
 | p::P,w::vs,i+1,m,nd,h1,h2,hk=>by
  show bindL kindOf ((p,w)::P.zip vs) m x=_
  unfold bindL
  exact zui (i:=i) (qBH.mp nd).2 (by simpa using h1) (by simpa using h2) hk
theorem zuj{kindOf:Str->Option NameKind}{x:Str}{v:Value}:∀{P:List Str}{vs:List Value}{i:Nat}{m:Str->Option Value},P.Nodup->P[i]?=some x->vs[i]?=some v->kindOf x≠some .local->
  bindC kindOf (P.zip vs) m x=some v
 | [],_,_,_,_,h,_,_=>by simp at h
 | _::_,[],_,_,_,_,h,_=>by simp at h
 | p::P,w::vs,0,m,nd,h1,h2,hk=>by
  simp at h1 h2;subst h1;subst h2
  show bindC kindOf ((p,w)::P.zip vs) m p=_
  unfold bindC
  rw[zuh λv hv=>(qBH.mp nd).1 (qA9 hv).1,if_neg hk]
  simp
 | p::P,w::vs,i+1,m,nd,h1,h2,hk=>by
  show bindC kindOf ((p,w)::P.zip vs) m x=_
  unfold bindC
  exact zuj (i:=i) (qBH.mp nd).2 (by simpa using h1) (by simpa using h2) hk
noncomputable def zgi(N:List Str)(vs:List V):St:=vs.map some++List.replicate (N.length - vs.length) none
noncomputable def cxOf(CX:CXT)(P:Program)(w:World)(K:qB)(mg:Str->Option Value)(base:Heap)(N:List Str)(qual:Str)(scope:Scope)(f:Addr)(cd:Value)(A:Around)(outer:List Env)(s:Shared)(H:Hp)(E:XK):Cx where
 prog:=P
 w:=w
 K:=K
 mg:=mg
 base:=base
 A:=A.deeper (envOfC qual scope s.heap.objs.size f cd)
 N:=N
 s₀:=s
 H₀:=H
 env:=envOfC qual scope s.heap.objs.size f cd
 outer:=outer
 stack:=envOfC qual scope s.heap.objs.size f cd::outer
 ex:=[]
 calm:=true
 fn:=λ_=>true
 pn:=[]
 xe:=λe s'=>wpAny (model P w) (A.deeper (envOfC qual scope s.heap.objs.size f cd)) (leaving (envOfC qual scope s.heap.objs.size f cd) e) (λ_ s''=>CX outer H s E e s'') (λe' s''=>CX outer H s E e' s'') s'
theorem zsq{sc:Scope}{n:Nat}{x:Str}(h:sc.names.lookup x=some .cell):∃c,(cellsFrom n sc.names []).lookup x=some c:=by
 have q:=qBD sc.names n [] (.inl h)
 exact Option.isSome_iff_exists.mp q
theorem zlz{CX:CXT}{P:Program}{w:World}{K:qB}{mg:Str->Option Value}{base:Heap}{N ps:List Str}{qual:Str}{scope:Scope}{f:Addr}{cd:Value}{A:Around}{outer:List Env}{s s1:Shared}{H:Hp}{E:XK}{us:List Value}{vs:List V}
  (S:FnScope N ps scope)(hd:A.handled=none)(e0:Env0 P w K mg base A outer s H)(hl:vs.length=ps.length)(r:Vals vs us)
  (x:InCallC s s.heap.objs.size (bindL (envOfC qual scope s.heap.objs.size f cd).kindOf (ps.zip us) λ_=>none) (cellsFrom (s.heap.objs.size+1) scope.names []) (bindC (envOfC qual scope s.heap.objs.size f cd).kindOf (ps.zip us) λ_=>none) s1) :
  Inv (cxOf CX P w K mg base N qual scope f cd A outer s H E) [] (zgi N vs) H s1:=by
 have hpl:ps.length<=N.length:=by have:=congrArg List.length S.pre;rw[qAK]at this;omega
 obtain⟨h1,tk,rfl,hk⟩:=x.done
 have noA:∀b:Addr,b∉(cxOf CX P w K mg base N qual scope f cd A outer s H E).ex:=λb z=>absurd (show b∈([]:List Addr)from z) (by simp)
 refine⟨⟨e0.mod,S.kind,rfl,rfl,qL _,λy z c h1 h2=>?_,λy hy=>?_,λy c _ h=>?_,λ_=>hd,qC4 e0.frames,.inr ⟨rfl,rfl⟩,λb z=>absurd z (noA b),e0.bs,e0.bsz,λb _ _=>noA b,λb z=>absurd z (noA b),e0.funs,e0.frf⟩,
  rfl,e0.bare,Un.kept hk,⟨_,x.toInCall.ns,λi y v h1 h2 h3=>?_⟩,λy c h=>⟨_,x.cell y c h⟩,e0.hok.fresh (qL _),λy c h=>?_,λp hp=>absurd (show p∈([]:List (Addr×Obj))from hp) (by simp),e0.hok.kept hk,?_⟩
 ·exact name_of_addr x.apart (qo h1) (qo h2)
 ·have hy:scope.names.lookup y=some .cell\/scope.names.lookup y=some .free:=hy
  rcases hy with hy|hy
  ·exact zsq hy
  ·exact absurd rfl (S.nofree _ (qo hy))
 ·exact qBh (x.above y c (qo h))
 ·have hi:i<vs.length:=by
   unfold zgi at h2
   by_cases hi:i<vs.length
   ·exact hi
   ·rw[qAU (by simpa using hi)]at h2
    rw[qBa]at h2
    split at h2<;>cases h2
  have ha:vs[i]?=some v:=by
   unfold zgi at h2
   rw[qAN (by simpa using hi),qR]at h2
   cases e:vs[i]? with
   | none=>rw[e]at h2;cases h2
   | some a=>rw[e]at h2;cases h2;rfl
  obtain⟨u,hu,rv⟩:=r.get ha
  have hp:ps[i]?=some y:=by
   rw[<- S.pre,List.getElem?_take_of_lt (by omega)];exact h1
  have ndP:ps.Nodup:=by rw[<- S.pre];exact S.nd.sublist (qCL _ _)
  refine⟨u,rv,?_⟩
  rcases S.par y (qAj hp)with k|k
  ·exact .inl ⟨k,zui ndP hp hu k⟩
  ·obtain⟨c,e⟩:=zsq (n:=s.heap.objs.size+1) k
   refine .inr ⟨.inl k,c,e,?_⟩
   have q:=x.cell y c e
   rw[zuj ndP hp hu (by show scope.names.lookup y≠_;rw[k];decide)]at q
   exact q
 ·exact e0.hok.fresh (qBh (x.above y c (qo h)))
 ·unfold zgi
  show _=N.length
  rw[qM,qF,qAT]
  omega
theorem zati{CX:CXT}{P:Program}{w:World}{K:qB}{mg:Str->Option Value}{base:Heap}{k:Nat}{f:Addr}{name qual:Str}{params:Arguments}{body:List Stmt}{scope:Scope}{dV kV doc pm cdv ct oc:Value}{an od:Option Addr}
  {osl:Array (Option Value)}{N ps:List Str}{sp:Sp}(lk:K.lookup f=some ⟨oc,od,.func (qh name qual params body scope dV kV doc pm an cdv ct),osl⟩)(hcd:qe K cdv qual=true)(S:FnScope N ps scope)
  (len:∀vs H Q E,sp vs H Q E->vs.length=ps.length)
  (hbody:∀(A:Around)(outer:List Env)(s:Shared)(H:Hp)(vs:List V)(Q:VK)(E:XK),Room k (A.deeper (envOfC qual scope s.heap.objs.size f cdv))->sp vs H Q E->
   ∃t,PSs (cxOf CX P w K mg base N qual scope f cdv A outer s H E) body t/\t {nx:=λ_ H'=>Q .non H',rt:=Q} (zgi N vs) H) :
  FnOk P w K mg base CX (k+1) f (qh name qual params body scope dV kV doc pm an cdv ct) ps sp:=by
 refine⟨len,λA outer s H args us vs Q E hr e0 hb r hsp=>?_⟩
 have hl:=len _ _ _ _ hsp
 have KX:K.In s.heap:=e0.mod.kin.keeps λb o e=>(e0.bs b o e).1
 have lim:s.heap.NoLimit:=e0.mod.nolimit.keeps λb o e=>(e0.bs b o e).1
 have hkind:∀y∈ps.zip us,scope.names.lookup y.1=some .local\/(scope.names.lookup y.1=some .cell/\((cellsFrom (s.heap.objs.size+1) scope.names []).lookup y.1).isSome=true):=λ⟨n,v⟩ hy=>by
  rcases S.par n (qA9 hy).1 with q|q
  ·exact .inl q
  ·exact .inr ⟨q,qBD _ _ _ (.inl q)⟩
 refine qBk hr.depth (KX _ _ lk) rfl S.co S.gen rfl (qBl KX hcd) (hb _ _ _ _ ?_)
 refine qBR S.kind hkind λenv he s1 x=>?_
 subst he
 refine⟨lim.keeps x.toInCall.keep,qCk ?_⟩
 obtain⟨t,ht,hq⟩:=hbody A outer s H vs Q E (hr.deeper _) hsp
 have I:Inv (cxOf CX P w K mg base N qual scope f cdv A outer s H E) [] (zgi N vs) H s1:=zlz S hr.hd e0 hl r x
 refine qA7 (ht [] s1 (zgi N vs) H _ I hq) (λfl s' hs=>?_) λe s' hs=>hs
 have fin:∀{σ':St}{H':Hp}{v:V}{u:Value},Inv (cxOf CX P w K mg base N qual scope f cdv A outer s H E) [] σ' H' s'->RelV v u->Q v H'->CE outer P w H s Q u s':=
  λ{σ' H' v u} J rv q=>⟨v,H',J.os,J.bare,J.base,J.hok,rv,q⟩
 cases fl with
 | ret u=>
  obtain⟨v,σ',H',J,rv,q⟩:=hs
  exact fin J rv q
 | next=>
  obtain⟨σ',H',J,q⟩:=hs
  exact fin (v:=V.non) (u:=Value.none) J rfl q
 | brk=>
  obtain⟨_,_,_,q⟩:=hs
  exact False.elim q
 | cont=>
  obtain⟨_,_,_,q⟩:=hs
  exact False.elim q
section
variable{X:Cx}{x:Str}{p pos:Pos}{e:Expr}{es:List Expr}{t:TA}{id T:String}{r:List V->Hp->VK->Prop}
noncomputable def tCB(r:List V->Hp->VK->Prop)(t:TA):TE:=λσ H Q=>t σ H λvs H1=>r vs H1 Q
theorem zzj(hc:CallR X (.builtin id) r)(hg:Gl X x)(hm:X.mg x=none)(hv:bootBuiltins x=some (.builtin id))(ha:PA X (e::es) t)(hn:x≠"__name__":=by decide)(hdb:(x==("__debug__":Str))=false:=by decide)
  (he:starEach (e::es) X.env=(false,eval e X.env)::starEach es X.env:=by rfl) (hpl:(backTo pos (starEach es X.env)).any (·.1)=false:=by rfl):PE X (.Call (.Name x p) (e::es) [] pos) (tCB r t):=by
 intro pins s σ H Q I h
 refine qBK (zpa I hg hm hv ?_ hn hdb)
 exact PyProof.Rows.callWith_builtin1 (thn (ha pos pins s σ H _ I h) λus s1 ⟨vs,H1,I1,r1,q1⟩=>hc pins s1 σ H1 vs us Q I1 r1 q1) he hpl
theorem zado(hc:CallR X (.type T) r)(hg:Gl X x)(hm:X.mg x=none)(hv:bootBuiltins x=some (.type T))(ha:PA X (e::es) t)(hn:x≠"__name__":=by decide)(hdb:(x==("__debug__":Str))=false:=by decide)
  (he:starEach (e::es) X.env=(false,eval e X.env)::starEach es X.env:=by rfl) (hpl:(backTo pos (starEach es X.env)).any (·.1)=false:=by rfl):PE X (.Call (.Name x p) (e::es) [] pos) (tCB r t):=by
 intro pins s σ H Q I h
 refine qBK (zpa I hg hm hv ?_ hn hdb)
 exact qBd (thn (ha pos pins s σ H _ I h) λus s1 ⟨vs,H1,I1,r1,q1⟩=>hc pins s1 σ H1 vs us Q I1 r1 q1) he hpl
end
end L2
namespace HT
open PySem PyProof.Rows
section
open PySem.SeqAt
open PySem.AutoSeq1 (wpAny_loadPart')
open PySem.MeetsSeq PySem.MeetsSeq2 PySem.MeetsSeq3
end
section
variable{prog:Program}{w:World}{A:Around}{E:Value->Shared->Prop}{s:Shared}
theorem cat_tup{t b:Addr}{vs ws:List Value}{Q:Value->Shared->Prop}(ht:IsTup s.heap t vs.toArray)(hb:IsTup s.heap b ws.toArray)(hv:vs≠[])
  (h1:ws=[]->Q (.ref t) s) (h2:ws≠[]->Q (.ref s.heap.objs.size) {s with heap:=s.heap.push {cls:=.type "tuple",data:=.seq (vs++ws).toArray}})
  (hsz:vs.length+ws.length<=qV):wpAny (model prog w) A (binaryOp .Add (.ref t) (.ref b)) Q E s:=by
 obtain⟨⟨cls,dd,data,sl⟩,ho,hc,n,hd⟩:=id ht
 obtain⟨⟨cls2,dd2,data2,sl2⟩,ho2,hc2,n2,hd2⟩:=id hb
 simp only at hc hd hc2 hd2
 subst hc hd hc2 hd2
 have e:vs.toArray++ws.toArray=(vs++ws).toArray:=by simp
 by_cases hw:ws=[]
 ·exact concat_meets ⟨_,ho,rfl⟩ ⟨_,ho2,rfl⟩ qCr seq_tuple_add qB1 qBy (qBs _ _)
   (tuple_addW1 t b vs.toArray ws.toArray n n2 dd dd2 sl sl2 (by simpa using hv) (by simp[hw])) ⟨ho,ho2,h1 hw⟩
 ·refine concat_meets ⟨_,ho,rfl⟩ ⟨_,ho2,rfl⟩ qCr seq_tuple_add qB1 qBy (qBs _ _)
   (tuple_addW2 t b vs.toArray ws.toArray n n2 dd dd2 sl sl2 (by simpa using hv) (by simpa using hw) (by rw[qQ,qQ];exact hsz)) ⟨ho,ho2,?_⟩
  rw[e]
  exact h2 hw
noncomputable def sIx(n d:Nat):Option Int->Nat
 | none=>d
 | some v=>if v<0 then(v+(n:Int)).toNat else min v.toNat n
theorem sIx_nat(n d k:Nat):sIx n d (some (k:Int))=min k n:=by
 show(if(k:Int)<0 then((k:Int)+(n:Int)).toNat else min (k:Int).toNat n)=min k n
 rw[if_neg (by omega),qBB]
theorem zaqn(n d:Nat)(hd:d<=n)(o:Option Int):sIx n d o<=n:=by
 cases o with
 | none=>exact hd
 | some v=>
  show(if v<0 then(v+(n:Int)).toNat else min v.toNat n)<=n
  by_cases hv:v<0
  ·rw[if_pos hv];omega
  ·rw[if_neg hv];exact Nat.min_le_right _ _
theorem zadp(v:Int)(n d:Nat):(if v<0 then max (v+(n:Int)) 0 else min v (n:Int))=((sIx n d (some v):Nat):Int):=by
 show(if v<0 then max (v+(n:Int)) 0 else min v (n:Int))=(((if v<0 then(v+(n:Int)).toNat else min v.toNat n):Nat):Int)
 by_cases hv:v<0
 ·simp only[if_pos hv];omega
 ·simp only[if_neg hv];omega
theorem zabu(lo hi:Option Int)(n:Nat):Builtin.Slice.sliceAdjust lo hi 1 (n:Int)=(((sIx n 0 lo:Nat):Int),((sIx n n hi:Nat):Int)):=by
 have h1:¬((1:Int)<0):=by omega
 unfold Builtin.Slice.sliceAdjust
 simp only[h1,if_false]
 refine Prod.ext ?_ ?_
 ·cases lo with
  | none=>rfl
  | some v=>exact zadp v n 0
 ·cases hi with
  | none=>rfl
  | some v=>exact zadp v n n
theorem zabv(i j:Nat):Builtin.Slice.slicePlaces (i:Int) (j:Int) 1=j - i:=by
 unfold Builtin.Slice.slicePlaces
 have h1:(1:Int) > 0:=by omega
 simp only[h1,if_true,Int.ediv_one]
 split<;>omega
theorem zrm{v:Value}{o:Option Int}{Q:Option Int->Shared->Prop}(p:IsPart v o)(h:Q o s):wpAny (model prog w) A (Builtin.Slice.slicePartIndex v) Q E s:=by
 cases p with
 | none=>exact slicePart_none h
 | int i t=>exact slicePart_int h
theorem zjn{sl:Addr}{vl vu:Value}{lo hi:Option Int}{n:Nat}{Q:Int×Int×Nat->Shared->Prop}(hs:s.heap.IsSliceOf sl vl vu .none)(pl:IsPart vl lo)(pu:IsPart vu hi)
  (h:Q (((sIx n 0 lo:Nat):Int),1,sIx n n hi - sIx n 0 lo) s):wpAny (model prog w) A (Builtin.Slice.sliceApplied (.ref sl) (pure (n:Int))) Q E s:=by
 obtain⟨os,hos,hcs,hds⟩:=id hs
 unfold Builtin.Slice.sliceApplied Builtin.Slice.sliceFields
 refine qC (qC (qAW hos hds (x:=vl) rfl (qC (qAW hos hds (x:=vu) rfl (qC (qAW hos hds (x:=.none) rfl (qI ?_)))))))
 refine qC (slicePart_none ?_)
 show wpAny _ _ (if((1:Int)==0)=true then _ else _) _ _ s
 rw[if_neg (by decide)]
 refine qC (zrm pl (qC (zrm pu (qC (qI ?_)))))
 show wpAny _ _ (match Builtin.Slice.sliceAdjust lo hi 1 (n:Int)with|(lo,hi)=>pure (lo,(1:Int),Builtin.Slice.slicePlaces lo hi 1)) _ _ s
 rw[zabu lo hi n]
 show wpAny _ _ (pure (((sIx n 0 lo:Nat):Int),(1:Int),Builtin.Slice.slicePlaces ((sIx n 0 lo:Nat):Int) ((sIx n n hi:Nat):Int) 1)) _ _ s
 rw[zabv]
 exact qI h
theorem zaic(xs:Array Value)(i k:Nat):((List.range k).filterMap λ(m:Nat)=>xs[((i:Int)+(m:Int) * 1).toNat]?).toArray=((xs.toList.drop i).take k).toArray:=by
 have e:(λ(m:Nat)=>xs[((i:Int)+(m:Int) * 1).toNat]?)=λm=>xs[i+m]?:=by
  funext m
  have:((i:Int)+(m:Int) * 1).toNat=i+m:=by omega
  rw[this]
 rw[e]
 have:=pick_run xs i k
 rw[List.filterMap_map]at this
 have e2:((λx=>xs[x]?)∘λx=>i+x)=λm=>xs[i+m]?:=rfl
 rw[e2]at this
 rw[this]
theorem getItem_tuple_cut{t sl:Addr}{items:Array Value}{vl vu:Value}{lo hi:Option Int}{Q:Value->Shared->Prop}(ht:IsTup s.heap t items)(hs:s.heap.IsSliceOf sl vl vu .none)(pl:IsPart vl lo)(pu:IsPart vu hi)
  (hw:¬(sIx items.size 0 lo=0/\sIx items.size items.size hi=items.size))
  (h:Q (.ref s.heap.objs.size) {s with heap:=s.heap.push {cls:=.type "tuple",data:=.seq ((items.toList.drop (sIx items.size 0 lo)).take (sIx items.size items.size hi - sIx items.size 0 lo)).toArray}})
  (hsz:items.size<=qV):wpAny (model prog w) A (getItem (.ref t) (.ref sl)) Q E s:=by
 have htake:sizeOk (.seq ((items.toList.drop (sIx items.size 0 lo)).take (sIx items.size items.size hi - sIx items.size 0 lo)).toArray):=by
  show((items.toList.drop (sIx items.size 0 lo)).take (sIx items.size items.size hi - sIx items.size 0 lo)).toArray.size<=qV
  rw[qQ,qAK,qAP,qCC]
  omega
 have hj:sIx items.size items.size hi<=items.size:=zaqn _ _ (qL _) hi
 obtain⟨os,hos,hcs,hds⟩:=id hs
 have hTs:s.TypeIs (.ref sl) "slice":=⟨os,hos,hcs⟩
 unfold getItem
 try with_reducible refine qCV ?_
 first|refine qC (qI ?_)|skip
 refine qC (wpAny_sequenceKey ht.typeIs (by decide) ?_)
 refine qC (qAm (name:=Str.ofString "__getitem__") ht.typeIs qAZ
  (qBF qAZ ht.typeIs entry_tuple_getitem ?_ (args_tuple_getitem _ _)))
 show wpAny _ _ (Builtin.Tuple.tupleItemsOf (.ref t) >>=_) _ _ s
 refine qC (tupleItemsOf_ ht ?_)
 refine qC (qCj hTs ?_)
 rw[if_pos (by decide)]
 refine qC (zjn hs pl pu ?_)
 have hno:¬((((sIx items.size 0 lo:Nat):Int)==0&&(1:Int)==1&&(sIx items.size items.size hi - sIx items.size 0 lo)==items.size)=true):=by
  intro q
  rw[qx,qx]at q
  have q1:((sIx items.size 0 lo:Nat):Int)=0:=eq_of_beq q.1.1
  have q2:sIx items.size items.size hi - sIx items.size 0 lo=items.size:=eq_of_beq q.2
  exact hw ⟨by omega,by omega⟩
 show wpAny _ _ (if(((sIx items.size 0 lo:Nat):Int)==0&&(1:Int)==1&&(sIx items.size items.size hi - sIx items.size 0 lo)==items.size)=true then _ else _) _ _ s
 rw[if_neg hno,zaic]
 first
  | exact qC (m:=Builtin.Tuple.tupleExact _) (qA2 (qI ⟨_,rfl,qI h⟩) htake)
  | exact qC (m:=Builtin.Tuple.tupleExact _) (qA2 (qC (qI (qI ⟨_,rfl,qI h⟩))) htake)
  | exact qC (qC (m:=Builtin.Tuple.tupleExact _) (qA2 (qI (qI ⟨_,rfl,qI h⟩)) htake))
  | exact qC (qC (m:=Builtin.Tuple.tupleExact _) (qA2 (qI ⟨_,rfl,qI h⟩) htake))
end
end HT
namespace L2
open PySem PySem.Spec PyProof.Rows
noncomputable abbrev TO:=St->Hp->(Option Int->Hp->Prop)->Prop
noncomputable def PO(X:Cx)(e:Option Expr)(t:TO):Prop:=
 ∀(pins:List (Addr×Obj))(s:Shared)(σ:St)(H:Hp)(Q:Option Int->Hp->Prop),Inv X pins σ H s->t σ H Q->
  wpAny (model X.prog X.w) X.A (evalPart e X.env) (λu s'=>∃o H',Inv X pins σ H' s'/\IsPart u o/\Q o H') X.xe s
noncomputable def tNoPart:TO:=λ_ H Q=>Q none H
noncomputable def tPart(t:TE):TO:=λσ H Q=>t σ H λx H1=>∃i,x=.int i/\Q (some i) H1
section
variable{X:Cx}{e:Expr}{te:TE}{lo hi:Option Expr}{tl th:TO}{pos p2:Pos}
theorem zadq:PO X none tNoPart:=by
 intro pins s σ H Q I h
 rw[evalPart_none]
 exact qI ⟨none,H,I,.none,h⟩
theorem zadr(h:PE X e te):PO X (some e) (tPart te):=by
 intro pins s σ H Q I hw
 rw[evalPart_some]
 refine thn (h pins s σ H _ I hw) λu s1 ⟨x,H1,I1,r1,q1⟩=>?_
 obtain⟨i,rfl,q⟩:=q1
 obtain⟨t,rfl⟩:=r1
 exact⟨some i,H1,I1,.int i t,q⟩
noncomputable def SlR(X:Cx)(r:V->Option Int->Option Int->Hp->VK->Prop):Prop:=
 ∀(pins:List (Addr×Obj))(s:Shared)(σ:St)(H:Hp)(x:V)(v vl vu:Value)(lo hi:Option Int)(sl:Addr)(Q:VK),Inv X pins σ H s->RelV x v->s.heap.IsSliceOf sl vl vu .none->IsPart vl lo->IsPart vu hi->r x lo hi H Q->
  ∃T id,typeLookup (.type T) "__getitem__"=pure (some (.builtin id))/\s.TypeIs v T/\wpAny (model X.prog X.w) X.A (getItem v (.ref sl)) (EP X pins σ Q) X.xe s
noncomputable def tSl(r:V->Option Int->Option Int->Hp->VK->Prop)(te:TE)(tl th:TO):TE:=λσ H Q=>te σ H λx H1=>tl σ H1 λl H2=>th σ H2 λu H3=>r x l u H3 Q
theorem zzk{r:V->Option Int->Option Int->Hp->VK->Prop}(hr:SlR X r)(he:PE X e te)(hl:PO X lo tl)(hu:PO X hi th):PE X (.Subscript e (.Slice lo hi none p2) pos) (tSl r te tl th):=by
 intro pins s σ H Q I h
 refine Subscript_ (thn (he pins s σ H _ I h) λv s1 ⟨x,H1,I1,r1,q1⟩=>?_)
 refine wpAny_Slice (thn (hl pins s1 σ H1 _ I1 q1) λvl s2 ⟨l,H2,I2,pl,q2⟩=>thn (hu pins s2 σ H2 _ I2 q2) λvu s3 ⟨u,H3,I3,pu,q3⟩=>?_)
 rw[evalPart_none]
 refine qI ?_
 have I4:Inv X pins σ H3 {s3 with heap:=s3.heap.push {cls:=.type "slice",data:=.fields #[vl,vu,.none]}}:=I3.kept (t':=s3.toks) λb ob q=>qD _ q
 obtain⟨T,id,hT,ht,hg⟩:=hr pins {s3 with heap:=s3.heap.push {cls:=.type "slice",data:=.fields #[vl,vu,.none]}} σ H3 x v vl vu l u s3.heap.objs.size Q I4 r1 (Heap.IsSliceOf.new ..) pl pu q3
 show wpAny (model X.prog X.w) X.A (subscriptTail e (.Slice lo hi none p2) v (.ref s3.heap.objs.size)) (EP X pins σ Q) X.xe {s3 with heap:=s3.heap.push {cls:=.type "slice",data:=.fields #[vl,vu,.none]}}
 exact tail_any (ops:=[.ref s3.heap.objs.size,v]) ht hT hg (by with_unfolding_all rfl)
noncomputable def cutV(xs:List V)(lo hi:Option Int):List V:=(xs.drop (HT.sIx xs.length 0 lo)).take (HT.sIx xs.length xs.length hi - HT.sIx xs.length 0 lo)
theorem zpb(xs:List V)(lo hi:Option Int):(cutV xs lo hi).length<=xs.length:=by
 unfold cutV
 rw[qAK,qAP]
 omega
noncomputable def rSlT(K:qB):V->Option Int->Option Int->Hp->VK->Prop:=λx lo hi H Q=>∃a xs,x=.ref a/\SqT K H a xs/\
 ¬(HT.sIx xs.length 0 lo=0/\HT.sIx xs.length xs.length hi=xs.length)/\∀p,H p=none->Q (.ref p) (upd H p (.tup (cutV xs lo hi)))
theorem zaqo:SlR X (rSlT X.K):=by
 intro pins s σ H x v vl vu lo hi sl Q I rx hs pl pu h
 obtain⟨a,xs,rfl,hx,hw,q⟩:=h
 cases rx
 obtain⟨its,r,ht,hz⟩:=I.tuple hx
 have hlen:its.toArray.size=xs.length:=by rw[qQ];exact r.length.symm
 refine⟨"tuple",_,qAZ.lookup,ht.typeIs,?_⟩
 refine HT.getItem_tuple_cut ht hs pl pu (by rw[hlen];exact hw) ?_ (by rw[hlen];exact hz)
 rw[hlen]
 refine⟨.ref s.heap.objs.size,_,I.laid (t':=s.toks) (o:=.tup (cutV xs lo hi)) (λb ob q=>qD _ q) (qL _) ?_,rfl,q _ (I.hok.fresh (qL _))⟩
 exact⟨qAM (zpb xs lo hi) hz,_,(r.drop (HT.sIx xs.length 0 lo)).take (HT.sIx xs.length xs.length hi - HT.sIx xs.length 0 lo),IsTup.new _ _⟩
noncomputable def zaqp(K:qB):R2:=λx y H Q=>∃a b xs ys,x=.ref a/\y=.ref b/\SqT K H a xs/\SqT K H b ys/\xs≠[]/\xs.length+ys.length<=qV/\
 (ys=[]->Q (.ref a) H)/\(ys≠[]->∀p,H p=none->Q (.ref p) (upd H p (.tup (xs++ys))))
theorem Vals.nil_iff{xs:List V}{us:List Value}(r:Vals xs us):us=[]↔xs=[]:=by
 cases r with
 | nil=>simp
 | cons _ _=>simp
theorem zand:OpR X (binaryOp .Add) (zaqp X.K):=by
 intro pins s σ H x y v u Q I rx ry h
 obtain⟨a,b,xs,ys,rfl,rfl,ha,hb,hx,hz,q1,q2⟩:=h
 cases rx
 cases ry
 obtain⟨its,r1,p1,_⟩:=I.tuple ha
 obtain⟨its2,r2,p2,_⟩:=I.tuple hb
 refine HT.cat_tup p1 p2 (λz=>hx (r1.nil_iff.mp z)) (λz=>⟨.ref a,H,I,rfl,q1 (r2.nil_iff.mp z)⟩) (λz=>?_) (by rw[<- r1.length,<- r2.length];exact hz)
 refine⟨.ref s.heap.objs.size,_,I.laid (t':=s.toks) (o:=.tup (xs++ys)) (λb ob q=>qD _ q) (qL _) ?_,rfl,q2 (λw=>z (r2.nil_iff.mpr w)) _ (I.hok.fresh (qL _))⟩
 exact⟨by rw[qM];exact hz,_,r1.append r2,IsTup.new _ _⟩
end
noncomputable def ixN(n:Nat)(i:Int):Option Nat:=if 0<=i then(if i<n then some i.toNat else none)else if -(n:Int)<=i then some (i+n).toNat else none
noncomputable def atI{α:Type}(xs:List α)(i:Int):Option α:=(ixN xs.length i).bind λj=>xs[j]?
theorem zane{n:Nat}{i:Int}{j:Nat}(h:ixN n i=some j):seqIndex? i n=some j/\j<n/\-(n:Int)<=i/\i<n:=by
 unfold ixN at h
 by_cases h0:0<=i
 ·rw[if_pos h0]at h
  by_cases h1:i<n
  ·rw[if_pos h1]at h
   have e:i.toNat=j:=qZ h
   exact⟨by rw[seqIndex_of h0 h1,e],by omega,by omega,h1⟩
  ·rw[if_neg h1]at h;cases h
 ·rw[if_neg h0]at h
  by_cases h1:-(n:Int)<=i
  ·rw[if_pos h1]at h
   have e:(i+n).toNat=j:=qZ h
   exact⟨by rw[seqIndex_neg (by omega) h1,e],by omega,h1,by omega⟩
  ·rw[if_neg h1]at h;cases h
theorem zxt{α:Type}{xs:List α}{i:Int}{v:α}(h:atI xs i=some v):∃j,seqIndex? i xs.length=some j/\xs[j]?=some v/\j<xs.length/\-(xs.length:Int)<=i/\i<xs.length:=by
 unfold atI at h
 cases e:ixN xs.length i with
 | none=>rw[e]at h;cases h
 | some j=>
  rw[e]at h
  obtain⟨h1,h2,h3,h4⟩:=zane e
  exact⟨j,h1,h,h2,h3,h4⟩
theorem znc{α:Type}{xs:List α}{j:Nat}{v:α}(h:xs[j]?=some v):atI xs (j:Int)=some v:=by
 have hj:j<xs.length:=(qU.mp h).1
 have e:ixN xs.length (j:Int)=some j:=by
  unfold ixN
  rw[if_pos (by omega),if_pos (by omega)];simp
 unfold atI;rw[e];exact h
noncomputable def PlainIx(b:Expr):Prop:=∀o i,subscripted b false o i=operate [o,i] (getItem o i)
noncomputable def IxR(X:Cx)(r:R2):Prop:=
 ∀(value slice:Expr)(pins:List (Addr×Obj))(s:Shared)(σ:St)(H:Hp)(x y:V)(v u:Value)(Q:VK),Inv X pins σ H s->RelV x v->RelV y u->r x y H Q->
  subscripted slice false v u=operate [v,u] (getItem v u)->wpAny (model X.prog X.w) X.A (subscriptTail value slice v u) (EP X pins σ Q) X.xe s
noncomputable def MtR(X:Cx)(id:String)(r:V->List V->Hp->VK->Prop):Prop:=
 ∀(pins:List (Addr×Obj))(s:Shared)(σ:St)(H:Hp)(x:V)(xs:List V)(v:Value)(us:List Value)(Q:VK),Inv X pins σ H s->RelV x v->Vals xs us->r x xs H Q->
  wpAny (model X.prog X.w) X.A (call (.builtin id) (v::us)) (EP X pins σ Q) X.xe s
section
variable{X:Cx}{a b:Expr}{ta tb:TE}{pos:Pos}
theorem zaqq{r:R2}(hr:IxR X r)(ha:PE X a ta)(hb:PE X b tb)(hs:PlainIx b):PE X (.Subscript a b pos) (tOp r ta tb):=by
 intro pins s σ H Q I h
 exact Subscript_ (binT ha hb I h λv u s2 x y H2 I2 rx ry q=>hr a b pins s2 σ H2 x y v u Q I2 rx ry q (hs _ _))
noncomputable def rIxL(K:qB):R2:=λx y H Q=>∃p xs i v,x=.ref p/\y=.int i/\SqL K H p xs/\atI xs i=some v/\Q v H
noncomputable def rIxT(K:qB):R2:=λx y H Q=>∃p xs i v,x=.ref p/\y=.int i/\SqT K H p xs/\atI xs i=some v/\Q v H
noncomputable def rIxS:R2:=λx y H Q=>∃z i c,x=.str z/\y=.int i/\z.length<=qV/\atI z.cps.toList i=some c/\Q (.str ⟨#[c]⟩) H
theorem zanf:IxR X (rIxL X.K):=by
 intro value slice pins s σ H x y v u Q I rx ry h hs
 obtain⟨p,xs,i,z,rfl,rfl,hq,he,q⟩:=h
 cases rx
 obtain⟨t,rfl⟩:=ry
 obtain⟨its,r,pl,hz⟩:=I.list hq
 obtain⟨j,h1,h2,h3,h4,h5⟩:=zxt he
 obtain⟨w,ew,rw'⟩:=r.get h2
 have hl:=r.length
 have hn:=zuf
 have fin:EP X pins σ Q w s:=⟨z,H,I,rw',q⟩
 by_cases h0:0<=i
 ·have hj:i.toNat=j:=by
   rw[seqIndex_of h0 h5]at h1
   exact qZ h1
  exact item_listR pl.isList h0 (by omega) (by rw[hj];simpa using ew) fin hs
 ·have hj:(i+(its.toArray.size:Int)).toNat=j:=by
   rw[seqIndex_neg (by omega) h4]at h1
   rw[qQ,<- hl]
   exact qZ h1
  exact subscriptTail_builtinR (x:=w) pl.isList.typeIs slot_list_getitem.lookup
   (wpAny_getItem_list_neg (Q:=λr s'=>r=w/\EP X pins σ Q r s') pl.isList (by omega) (by rw[qQ]<;>omega) (by omega) (by rw[hj];simpa using ew) ⟨rfl,fin⟩) hs
theorem zaqr:IxR X (rIxT X.K):=by
 intro value slice pins s σ H x y v u Q I rx ry h hs
 obtain⟨p,xs,i,z,rfl,rfl,hq,he,q⟩:=h
 cases rx
 obtain⟨t,rfl⟩:=ry
 obtain⟨its,r,pl,hz⟩:=I.tuple hq
 obtain⟨j,h1,h2,h3,h4,h5⟩:=zxt he
 obtain⟨w,ew,rw'⟩:=r.get h2
 have hl:=r.length
 have hn:=zuf
 have fin:EP X pins σ Q w s:=⟨z,H,I,rw',q⟩
 exact subscriptTail_builtinR (x:=w) pl.typeIs slot_tuple_getitem.lookup
  (getItem_tuple (j:=j) (Q:=λr s'=>r=w/\EP X pins σ Q r s') pl (by omega) (by omega) (by rw[qQ,<- hl];exact h1) (by simpa using ew) ⟨rfl,fin⟩) hs
theorem zaqs:IxR X rIxS:=by
 intro value slice pins s σ H x y v u Q I rx ry h hs
 obtain⟨z,i,c,rfl,rfl,hz,he,q⟩:=h
 obtain⟨t,rfl⟩:=rx
 obtain⟨t',rfl⟩:=ry
 obtain⟨j,h1,h2,h3,h4,h5⟩:=zxt he
 have hl:z.cps.toList.length=z.length:=by simp[Str.length]
 rw[hl]at h1 h4 h5
 have hn:=zuf
 exact tail_any (typeIs_str s z t) slot_str_getitem.lookup (getItem_str (c:=c) (by
  have e1:decide (i < -(2 ^ 63:Int))=false:=decide_eq_false (by omega)
  have e2:decide (i>=2 ^ 63)=false:=decide_eq_false (by omega)
  rw[e1,e2,Bool.or_false]) (by rw[h1];simpa using h2) ⟨.str ⟨#[c]⟩,H,I.tok _,⟨_,rfl⟩,q⟩) hs
theorem zuk(lo hi:Option Int)(n:Nat):(sliceBounds lo hi none n).1=((HT.sIx n 0 lo:Nat):Int)/\(sliceBounds lo hi none n).2.1=((HT.sIx n n hi:Nat):Int)/\(sliceBounds lo hi none n).2.2=1:=by
 refine⟨?_,?_,rfl⟩
 ·cases lo with
  | none=>simp[sliceBounds,HT.sIx]
  | some i=>
   simp only[sliceBounds,HT.sIx,Option.getD_none,show(1:Int) > 0 by decide,if_true]
   by_cases h:i<0
   ·simp only[h,if_true]<;>omega
   ·simp only[h,if_false]<;>omega
 ·cases hi with
  | none=>simp[sliceBounds,HT.sIx]
  | some i=>
   simp only[sliceBounds,HT.sIx,Option.getD_none,show(1:Int) > 0 by decide,if_true]
   by_cases h:i<0
   ·simp only[h,if_true]<;>omega
   ·simp only[h,if_false]<;>omega
theorem zsr(its:List Value)(lo hi:Option Int):slicePick its.toArray lo hi none=((its.drop (HT.sIx its.length 0 lo)).take (HT.sIx its.length its.length hi - HT.sIx its.length 0 lo)).toArray:=by
 obtain⟨h1,h2,h3⟩:=zuk lo hi its.toArray.size
 unfold slicePick
 rw[h1,h2,h3]
 simp only[sliceRange_one,pick_run,qQ]<;>rfl
noncomputable def rSlL(K:qB):V->Option Int->Option Int->Hp->VK->Prop:=λx lo hi H Q=>∃a xs,x=.ref a/\SqL K H a xs/\∀p,H p=none->Q (.ref p) (upd H p (.lst (cutV xs lo hi)))
theorem zang:SlR X (rSlL X.K):=by
 intro pins s σ H x v vl vu lo hi sl Q I rx hs pl pu h
 obtain⟨a,xs,rfl,hx,q⟩:=h
 cases rx
 obtain⟨its,r,ht,hz⟩:=I.list hx
 have hlen:=r.length
 refine⟨"list",_,slot_list_getitem.lookup,ht.isList.typeIs,?_⟩
 refine wpAny_getItem_list_slice ht.isList hs pl pu .none (by simp) ?_ (by rw[qQ]<;>omega)
 rw[zsr,<- hlen]
 refine⟨.ref s.heap.objs.size,_,I.laid (t':=s.toks) (o:=.lst (cutV xs lo hi)) (λb ob q=>qD _ q) (qL _) ?_,rfl,q _ (I.hok.fresh (qL _))⟩
 exact⟨qAM (zpb xs lo hi) hz,_,0,(r.drop (HT.sIx xs.length 0 lo)).take (HT.sIx xs.length xs.length hi - HT.sIx xs.length 0 lo),qa _ rfl⟩
noncomputable def zrc:V->Bool
 | .non=>true
 | .bl _=>true
 | .int _=>true
 | .str _=>true
 | _=>false
noncomputable def eqV:V->V->Bool
 | .non,.non=>true
 | .bl a,.bl b=>a==b
 | .bl a,.int b=>(if a then 1 else 0)==b
 | .int a,.bl b=>a==(if b then 1 else 0)
 | .int a,.int b=>a==b
 | .str a,.str b=>a==b
 | _,_=>false
theorem zaqt{A:Around}{s:Shared}{y x:V}{u v:Value}(ry:RelV y u)(rx:RelV x v)(fy:zrc y=true)(fx:zrc x=true):SeqAt.EqAt A s u v (eqV y x):=by
 cases y with
 | non=>
  cases ry
  cases x with
  | non=>cases rx;exact SeqAt.EqAt.same _
  | bl b=>cases rx;exact SeqAt.EqAt.none_bool b
  | int b=>obtain⟨t,rfl⟩:=rx;exact SeqAt.EqAt.none_int b t
  | str b=>obtain⟨t,rfl⟩:=rx;exact SeqAt.EqAt.none_str b t
  | _=>exact absurd (show false=true from fx) qP
 | bl a=>
  cases ry
  cases x with
  | non=>cases rx;exact SeqAt.EqAt.bool_none a
  | bl b=>cases rx;exact SeqAt.EqAt.bool_bool a b
  | int b=>obtain⟨t,rfl⟩:=rx;exact SeqAt.EqAt.bool_int a b t
  | str b=>obtain⟨t,rfl⟩:=rx;exact SeqAt.EqAt.bool_str a b t
  | _=>exact absurd (show false=true from fx) qP
 | int a=>
  obtain⟨t',rfl⟩:=ry
  cases x with
  | non=>cases rx;exact SeqAt.EqAt.int_none a t'
  | bl b=>cases rx;exact SeqAt.EqAt.int_bool a t' b
  | int b=>obtain⟨t,rfl⟩:=rx;exact SeqAt.EqAt.int_int a t' b t
  | str b=>obtain⟨t,rfl⟩:=rx;exact qCt a t' b t
  | _=>exact absurd (show false=true from fx) qP
 | str a=>
  obtain⟨t',rfl⟩:=ry
  cases x with
  | non=>cases rx;exact SeqAt.EqAt.str_none a t'
  | bl b=>cases rx;exact SeqAt.EqAt.str_bool a t' b
  | int b=>obtain⟨t,rfl⟩:=rx;exact qCs a t' b t
  | str b=>obtain⟨t,rfl⟩:=rx;exact SeqAt.EqAt.str_str a t' b t
  | _=>exact absurd (show false=true from fx) qP
 | _=>exact absurd (show false=true from fy) qP
noncomputable def eqU(x:V)(u:Value):Bool:=match u with
 | .none=>eqV .non x
 | .bool b=>eqV (.bl b) x
 | .int i _=>eqV (.int i) x
 | .str z _=>eqV (.str z) x
 | _=>false
theorem zalh{x y:V}{u:Value}(r:RelV y u)(f:zrc y=true):eqU x u=eqV y x:=by
 cases y with
 | non=>cases r;rfl
 | bl b=>cases r;rfl
 | int i=>obtain⟨t,rfl⟩:=r;rfl
 | str z=>obtain⟨t,rfl⟩:=r;rfl
 | _=>exact absurd (show false=true from f) qP
theorem zpc{x:V}:∀{xs:List V}{us:List Value},Vals xs us->xs.all zrc=true->us.any (eqU x)=xs.any λy=>eqV y x
 | _,_,.nil,_=>rfl
 | y::xs,u::us,.cons r t,f=>by
  rw[qAy,qx]at f
  rw[qBC,qBC,zalh r f.1,zpc t f.2]
theorem zma{A:Around}{s:Shared}{x:V}{v:Value}(rx:RelV x v)(fx:zrc x=true):∀{xs:List V}{us:List Value},Vals xs us->xs.all zrc=true->∀u∈us,SeqAt.EqAt A s u v (eqU x u)
 | _,_,.nil,_=>λu hu=>by cases hu
 | y::xs,u::us,.cons r t,f=>λu' hu=>by
  rw[qAy,qx]at f
  rcases qc.mp hu with rfl|hu
  ·rw[zalh r f.1];exact zaqt r rx f.1 fx
  ·exact zma rx fx t f.2 u' hu
noncomputable def inV(x:V)(xs:List V):Bool:=xs.any λy=>eqV y x
noncomputable def rIn(K:qB)(neg:Bool):R2:=λx y H Q=>∃p xs,y=.ref p/\(SqL K H p xs\/SqT K H p xs)/\zrc x=true/\xs.all zrc=true/\Q (.bl (if neg then !inV x xs else inV x xs)) H
theorem zads:OpR X (compareOp .In) (rIn X.K false):=by
 intro pins s σ H x y v u Q I rx ry h
 obtain⟨p,xs,rfl,hq,fx,fs,q⟩:=h
 cases ry
 rcases hq with hq|hq
 ·obtain⟨its,r,pl,hz⟩:=I.list hq
  refine SeqAt.in_listAt (eqU x) pl.isList (λw hw=>zma rx fx r fs w (by simpa using hw)) ⟨.bl _,H,I,rfl,?_⟩
  rw[show its.toArray.any (eqU x)=its.any (eqU x) by simp,zpc r fs]
  exact q
 ·obtain⟨its,r,pl,hz⟩:=I.tuple hq
  refine SeqAt.in_tupleAt (eqU x) pl (λw hw=>zma rx fx r fs w (by simpa using hw)) ⟨.bl _,H,I,rfl,?_⟩
  rw[show its.toArray.any (eqU x)=its.any (eqU x) by simp,zpc r fs]
  exact q
theorem zul:OpR X (compareOp .NotIn) (rIn X.K true):=by
 intro pins s σ H x y v u Q I rx ry h
 obtain⟨p,xs,rfl,hq,fx,fs,q⟩:=h
 cases ry
 rcases hq with hq|hq
 ·obtain⟨its,r,pl,hz⟩:=I.list hq
  refine SeqAt.notIn_listAt (eqU x) pl.isList (λw hw=>zma rx fx r fs w (by simpa using hw)) ⟨.bl _,H,I,rfl,?_⟩
  rw[show its.toArray.any (eqU x)=its.any (eqU x) by simp,zpc r fs]
  exact q
 ·obtain⟨its,r,pl,hz⟩:=I.tuple hq
  refine SeqAt.notIn_tupleAt (eqU x) pl (λw hw=>zma rx fx r fs w (by simpa using hw)) ⟨.bl _,H,I,rfl,?_⟩
  rw[show its.toArray.any (eqU x)=its.any (eqU x) by simp,zpc r fs]
  exact q
theorem zum:CallR X (.type "list") (λxs H Q=>∃p ys,xs=[.ref p]/\(SqL X.K H p ys\/SqT X.K H p ys)/\∀l,H l=none->Q (.ref l) (upd H l (.lst ys))):=by
 intro pins s σ H xs us Q I r h
 obtain⟨p,ys,rfl,hq,q⟩:=h
 obtain⟨u,rfl,rx⟩:=zxr r
 cases rx
 have fin:∀(its:List Value),Vals ys its->ys.length<=qV->∀(h':Heap)(c':Nat),(∀b o',s.heap.get? b=some o'->h'.get? b=some o')->
   h'.get? s.heap.objs.size=some {cls:=.type "list",dict:=none,data:=.seq its.toArray c',slots:=#[]}->EP X pins σ Q (.ref s.heap.objs.size) {s with heap:=h'}:=λits r' hz h' c' kp e=>
  ⟨.ref s.heap.objs.size,_,I.laid (t':=s.toks) kp (qL _) (show zdv X.prog X.w _ h' _ (.lst ys)from⟨hz,its,c',r',e⟩),rfl,q _ (I.hok.fresh (qL _))⟩
 rcases hq with hq|hq
 ·obtain⟨its,r',pl,hz⟩:=I.list hq
  have hlen:=r'.length
  obtain⟨o,ho,hc,n,hd⟩:=pl.isList
  exact call_list_seq p (.inl rfl) ho hc hd (λh' c' kp e=>fin its r' hz h' c' kp e) (by simp only[qQ]<;>omega)
 ·obtain⟨its,r',pl,hz⟩:=I.tuple hq
  have hlen:=r'.length
  obtain⟨o,ho,hc,n,hd⟩:=pl
  exact call_list_seq p (.inr rfl) ho hc hd (λh' c' kp e=>fin its r' hz h' c' kp e) (by simp only[qQ]<;>omega)
theorem zss:CallR X (.type "tuple") (λxs H Q=>∃p ys,xs=[.ref p]/\((SqL X.K H p ys/\∀l,H l=none->Q (.ref l) (upd H l (.tup ys)))\/(SqT X.K H p ys/\Q (.ref p) H))):=by
 intro pins s σ H xs us Q I r h
 obtain⟨p,ys,rfl,h⟩:=h
 obtain⟨u,rfl,rx⟩:=zxr r
 cases rx
 rcases h with⟨hq,q⟩|⟨hq,q⟩
 ·obtain⟨its,r',pl,hz⟩:=I.list hq
  have hlen:=r'.length
  refine call_tuple_list pl.isList (λh' kp=>?_) (by simp only[qQ]<;>omega)
  have I1:Inv X pins σ H {s with heap:=h'}:=I.kept (t':=s.toks) kp
  have I2:Inv X pins σ (upd H h'.objs.size (.tup ys)) {s with heap:=h'.push {cls:=.type "tuple",data:=.seq its.toArray}}:=
   I1.laid (t':=s.toks) (λb o e=>qD _ e) (qL _) (show zdv X.prog X.w _ _ _ (.tup ys)from⟨hz,its,r',IsTup.new _ _⟩)
  exact⟨.ref h'.objs.size,_,I2,rfl,q _ (I1.hok.fresh (qL _))⟩
 ·obtain⟨its,r',pl,hz⟩:=I.tuple hq
  exact call_tuple_same pl ⟨.ref p,H,I,rfl,q⟩
noncomputable def tyV(K:qB)(T:String)(x:V)(H:Hp):Prop:=match x with
 | .str _=>T="str"
 | .int _=>T="int"
 | .ref p=>(T="list"/\∃xs,SqL K H p xs)\/(T="tuple"/\∃o,K.lookup p=some o/\o.cls=.type "tuple"/\o.dict=none)\/
   (T="dict"/\((∃kvs,H p=some (.dK kvs))\/∃kvs,H p=some (.dT kvs)))\/(T="set"/\∃S n,H p=some (.set S n))
 | _=>False
theorem zaqu{pins:List (Addr×Obj)}{σ:St}{H:Hp}{s:Shared}{T:String}{x:V}{v:Value}(I:Inv X pins σ H s)(r:RelV x v)(ty:tyV X.K T x H) :
  s.TypeIs v T/\∀a,v=.ref a->∃ob,s.heap.get? a=some ob/\ob.dict=none:=by
 cases x with
 | str z=>
  obtain⟨t,rfl⟩:=r
  cases(show T="str"from ty)
  exact⟨typeIs_str s z t,λ_ e=>nomatch e⟩
 | int i=>
  obtain⟨t,rfl⟩:=r
  cases(show T="int"from ty)
  exact⟨typeIs_int s i t,λ_ e=>nomatch e⟩
 | ref p=>
  cases r
  rcases ty with⟨rfl,xs,hq⟩|⟨rfl,o,hk,hc,hd⟩|⟨rfl,hk⟩|⟨rfl,S,n,hk⟩
  ·obtain⟨its,_,pl,_⟩:=I.list hq
   refine⟨pl.isList.typeIs,λa e=>?_⟩
   cases e
   obtain⟨o,n,e,c,hd,_⟩:=pl
   exact⟨o,e,hd⟩
  ·refine⟨⟨o,I.kIn p o hk,hc⟩,λa e=>?_⟩
   cases e
   exact⟨o,I.kIn _ o hk,hd⟩
  ·have z:∃o,s.heap.get? p=some o/\o.ExactDict:=by
    rcases hk with⟨kvs,hk⟩|⟨kvs,hk⟩
    ·obtain⟨_,_,_,_,o,_,_,e,ex,_⟩:=I.hok p _ hk
     exact⟨o,e,ex⟩
    ·obtain⟨_,_,_,_,o,_,_,e,ex,_⟩:=I.hok p _ hk
     exact⟨o,e,ex⟩
   obtain⟨o,e,ex⟩:=z
   refine⟨⟨o,e,ex.1⟩,λa e2=>?_⟩
   cases e2
   exact⟨o,e,ex.2.1⟩
  ·obtain⟨o,_,_,_,e,ex,_⟩:=I.hok p _ hk
   refine⟨⟨o,e,ex.1⟩,λa e2=>?_⟩
   cases e2
   exact⟨o,e,ex.2.1⟩
 | _=>exact False.elim ty
noncomputable def tBM(K:qB)(T:String)(r:V->List V->Hp->VK->Prop)(to:TE)(t:TA):TE:=λσ H Q=>to σ H λx H1=>tyV K T x H1/\t σ H1 λxs H2=>r x xs H2 Q
variable{o e:Expr}{es:List Expr}{to:TE}{t:TA}{name:Str}{apos cpos:Pos}{T id:String}{r:V->List V->Hp->VK->Prop}
theorem zatj(pa:PlainAttrs T)(slot:Slot T name id)(hty:typeOf (.builtin id)=pure (.type "method_descriptor"))(hm:MtR X id r)(ho:PE X o to)(ha:PA X (e::es) t)
  (hbase:attributeBase o name X.env (eval o X.env)=eval o X.env:=by rfl)
  (hfew:((backTo cpos (starEach (e::es) X.env)).all (λx=>!x.1)&&(backToKw cpos (keywordEach [] X.env)).all (λx=>x.1.isSome)
   && decide ((e::es).length+([]:List Keyword).length+(if([]:List Keyword).isEmpty then 0 else 1)<30))=true:=by rfl)
  (hline:(apos.endLine==cpos.line)=true:=by rfl)(hs:starEach (e::es) X.env=(false,eval e X.env)::starEach es X.env:=by rfl)(hplain:(backTo cpos (starEach es X.env)).any (·.1)=false:=by rfl) :
  PE X (.Call (.Attribute o name apos) (e::es) [] cpos) (tBM X.K T r to t):=by
 intro pins s σ H Q I h
 refine wpAny_Call_method_late hbase hfew hline rfl (thn (ho pins s σ H _ I h) λv s1 ⟨x,H1,I1,r1,ty,q1⟩=>?_)
 obtain⟨h1,h2⟩:=zaqu I1 r1 ty
 refine⟨T,id,pa,slot,hty,h1,h2,?_⟩
 have hA:=ha cpos pins s1 σ H1 _ I1 q1
 rw[hs]at hA ⊢
 refine qCz (by show(false||(backTo cpos (starEach es X.env)).any (·.1))=false;rw[hplain]<;>rfl) (qC7 ?_)
 exact thn hA λus s2 ⟨vs,H2,I2,r2,q2⟩=>hm pins s2 σ H2 x vs v us Q I2 r1 r2 q2
end
noncomputable def MtM(X:Cx)(id:String)(r:V->List V->Hp->VK->Prop):Prop:=
 ∀(pins:List (Addr×Obj))(s:Shared)(σ:St)(H:Hp)(x:V)(xs:List V)(v:Value)(us:List Value)(Q:VK),Inv X pins σ H s->RelV x v->Vals xs us->r x xs H Q->
  wpAny (model X.prog X.w) X.A (call (.builtin id) (v::us)) (EP X pins σ Q) X.xe s
theorem Vals.one:∀{x:V}{us:List Value},Vals [x] us->∃u,us=[u]/\RelV x u
 | _,_,.cons r .nil=>⟨_,rfl,r⟩
theorem Vals.eraseIdx:∀{xs:List V}{us:List Value}(i:Nat),Vals xs us->Vals (xs.eraseIdx i) (us.eraseIdx i)
 | _,_,_,.nil=>.nil
 | _,_,0,.cons _ t=>t
 | _,_,i+1,.cons r t=>.cons r (Vals.eraseIdx i t)
theorem zun{α:Type}:∀(l:List α)(i:Nat),(l.eraseIdx i).length<=l.length
 | [],_=>qL _
 | _::_,0=>qCg _
 | _::r,i+1=>Nat.succ_le_succ (zun r i)
section
variable{X:Cx}{pins:List (Addr×Obj)}{σ:St}{H:Hp}{s:Shared}{l b:Addr}{xs ys zs:List V}
theorem Inv.lset{its its':List Value}{n:Nat}{f:Array Value->Array Value}{t':Nat}(I:Inv X pins σ H s)(hH:H l=some (.lst xs))
  (e:s.heap.get? l=some {cls:=.type "list",data:=.seq its.toArray n}) (hf:f its.toArray=its'.toArray) (hv:Vals ys its') (hz:ys.length<=qV) :
  Inv X pins σ (upd H l (.lst ys)) {s with heap:=s.heap.update l (Obj.mapSeq f),toks:=t'}:=by
 have q:=PySem.IsL.update e f
 rw[hf]at q
 refine I.write (x:=l) (e:=l) (by rw[hH];exact trivial) (.inl rfl) (λb' u hb hu=>(qAg s.heap (Obj.mapSeq f) (qAo hb)).trans hu) ⟨_,q⟩ ?_
 exact⟨hz,its',_,hv,q⟩
theorem Inv.lnew{its:List Value}{t':Nat}(I:Inv X pins σ H s)(hv:Vals ys its)(hz:ys.length<=qV) :
  Inv X pins σ (upd H s.heap.objs.size (.lst ys)) {s with heap:=s.heap.push {cls:=.type "list",data:=.seq its.toArray},toks:=t'}:=
 I.laid (λ_ _ q=>qD _ q) (qL _) ⟨hz,its,0,hv,qa _ rfl⟩
theorem Inv.fresh(I:Inv X pins σ H s):H s.heap.objs.size=none:=I.hok.fresh (qL _)
theorem Inv.lstM(I:Inv X pins σ H s)(hH:H l=some (.lst xs)):xs.length<=qV/\∃(its:List Value)(n:Nat),Vals xs its/\xs.length=its.length/\s.heap.get? l=some {cls:=.type "list",data:=.seq its.toArray n}:=by
 obtain⟨z,its,n,r,e⟩:=I.hok l _ hH
 exact⟨z,its,n,r,r.length,e⟩
theorem zaid{n:Nat}(h:n<=qV):Builtin.List.listTooLong n=false:=by
 unfold Builtin.List.listTooLong
 exact decide_eq_false (by omega)
end
section
variable{X:Cx}
noncomputable def zxu:V->List V->Hp->VK->Prop:=λx vs H Q=>∃l xs y,x=.ref l/\vs=[y]/\H l=some (.lst xs)/\xs.length<qV/\Q .non (upd H l (.lst (xs++[y])))
theorem zdg:MtM X "list.append" zxu:=by
 intro pins s σ H x vs v us Q I rx rv h
 obtain⟨l,xs,y,rfl,rfl,hH,hz,q⟩:=h
 cases rx
 obtain⟨u,rfl,ru⟩:=rv.one
 obtain⟨z,its,n,r,hl,e⟩:=I.lstM hH
 refine call_meets F.slot_list_append ⟨_,e,rfl⟩ F.entry_list_append (F.args_list_append_2 _ _) (PySem.list_append l its.toArray n u (by rw[qQ];omega)) ⟨e,?_⟩
 refine⟨.non,_,I.lset (its':=its++[u]) hH e (by simp) (r.append (.cons ru .nil)) ?_,rfl,q⟩
 rw[qM,List.length_singleton]
 omega
noncomputable def zanh:V->List V->Hp->VK->Prop:=λx vs H Q=>∃l b xs zs,x=.ref l/\vs=[.ref b]/\H l=some (.lst xs)/\H b=some (.lst zs)/\xs.length+zs.length<=qV/\Q .non (upd H l (.lst (xs++zs)))
theorem zaqv:MtM X "list.extend" zanh:=by
 intro pins s σ H x vs v us Q I rx rv h
 obtain⟨l,b,xs,zs,rfl,rfl,hH,hB,hz,q⟩:=h
 cases rx
 obtain⟨u,rfl,ru⟩:=rv.one
 cases ru
 obtain⟨z,its,n,r,hl,e⟩:=I.lstM hH
 obtain⟨z2,its2,n2,r2,hl2,e2⟩:=I.lstM hB
 have hsz:its.toArray.size+its2.toArray.size<=qV:=by rw[qQ,qQ];omega
 have hlong:¬(!its.toArray.isEmpty&&Builtin.List.listTooLong (its.toArray.size+its2.toArray.size))=true:=by
  rw[zaid hsz,Bool.and_false]
  exact qP
 refine call_meets F.slot_list_extend ⟨_,e,rfl⟩ F.entry_list_extend (F.args_list_extend_2 _ _)
  (AutoSeq1.list_extend_list_list_0 l its.toArray n b its2.toArray n2 hlong (by rw[qQ];omega) (by omega)) ⟨e,e2,?_⟩
 refine⟨.non,_,I.lset (its':=its++its2) hH e (by simp) (r.append r2) ?_,rfl,q⟩
 rw[qM]
 omega
noncomputable def zali:V->List V->Hp->VK->Prop:=λx vs H Q=>∃l xs i k y,x=.ref l/\vs=[.int i]/\H l=some (.lst xs)/\-(2 ^ 63)<=i/\i<2 ^ 63/\seqIndex? i xs.length=some k/\xs[k]?=some y/\Q y (upd H l (.lst (xs.eraseIdx k)))
theorem zzl:MtM X "list.pop" zali:=by
 intro pins s σ H x vs v us Q I rx rv h
 obtain⟨l,xs,i,k,y,rfl,rfl,hH,h1,h2,hk,hy,q⟩:=h
 cases rx
 obtain⟨u,rfl,ru⟩:=rv.one
 obtain⟨t,rfl⟩:=ru
 obtain⟨z,its,n,r,hl,e⟩:=I.lstM hH
 obtain⟨w,hw,rw'⟩:=r.get hy
 refine call_meets F.slot_list_pop ⟨_,e,rfl⟩ F.entry_list_pop (F.args_list_pop_2 _ _)
  (MeetsSeq.list_pop_at l its.toArray n i t k w (fitsIndex_both h1 h2) (by rw[qQ,<- hl];exact hk) (by rw[<- Array.getElem?_toList];exact hw) (by rw[qQ];omega)) ⟨e,?_⟩
 refine⟨y,_,I.lset (its':=its.eraseIdx k) hH e ?_ (r.eraseIdx k) ?_,rw',q⟩
 ·show its.toArray.eraseIdxIfInBounds k=(its.eraseIdx k).toArray
  rw[List.eraseIdxIfInBounds_toArray]
 ·have:=zun xs k
  omega
noncomputable def rCat:R2:=λx y H Q=>∃l b xs zs,x=.ref l/\y=.ref b/\H l=some (.lst xs)/\H b=some (.lst zs)/\xs.length+zs.length<=qV/\∀p,H p=none->Q (.ref p) (upd H p (.lst (xs++zs)))
theorem zaqw:OpR X (binaryOp .Add) rCat:=by
 intro pins s σ H x y v u Q I rx ry h
 obtain⟨l,b,xs,zs,rfl,rfl,hH,hB,hz,q⟩:=h
 cases rx
 cases ry
 obtain⟨z,its,n,r,hl,e⟩:=I.lstM hH
 obtain⟨z2,its2,n2,r2,hl2,e2⟩:=I.lstM hB
 refine PySem.P.add_list e e2 ?_ (by rw[qQ,qQ];omega)
 have ea:its.toArray++its2.toArray=(its++its2).toArray:=by simp
 rw[ea]
 exact⟨.ref _,_,I.lnew (t':=s.toks) (r.append r2) (by rw[qM];omega),rfl,q _ I.fresh⟩
end
section
variable{prog:Program}{w:World}{A:Around}{E:Value->Shared->Prop}{s:Shared}
set_option maxRecDepth 100000 in
end
section
variable{κ:Type}[DecidableEq κ]
noncomputable def valV(kvs:List (κ×V))(k:κ):Option V:=(kvs.find? λkv=>decide (kv.1=k)).map (·.2)
noncomputable def putK(kvs:List (κ×V))(k:κ)(v:V):List (κ×V):=
 if(kvs.any λkv=>decide (kv.1=k))=true then kvs.map (λkv=>if kv.1=k then(kv.1,v)else kv)else kvs++[(k,v)]
theorem zov{p:κ×V}{r:List (κ×V)}{k:κ}(e:p.1=k):valV (p::r) k=some p.2:=by simp[valV,qA0,e]
theorem zow{p:κ×V}{r:List (κ×V)}{k:κ}(e:¬p.1=k):valV (p::r) k=valV r k:=by simp[valV,qA0,e]
theorem zzm(k:κ):∀kvs:List (κ×V),(kvs.any λkv=>decide (kv.1=k))=(valV kvs k).isSome
 | []=>rfl
 | p::r=>by
  rw[qBC]
  by_cases e:p.1=k
  ·simp only[zov e,decide_eq_true e,Bool.true_or,qDB]
  ·rw[zow e,decide_eq_false e,qCI];exact zzm k r
theorem zlo(kvs:List (κ×V))(k:κ)(v:V):(putK kvs k v).length<=kvs.length+1:=by
 unfold putK
 split
 ·rw[qF];omega
 ·rw[qM,qAQ,qBI];omega
theorem RelO.isSome_eq{o:Option V}{u:Option Value}(r:RelO o u):o.isSome=u.isSome:=by
 cases o with
 | none=>cases u with
  | none=>rfl
  | some _=>exact(show False from r).elim
 | some _=>cases u with
  | none=>exact(show False from r).elim
  | some _=>rfl
theorem KV.val{kvs:List (κ×V)}{vs:List (κ×Value)}(r:KV kvs vs)(k:κ):RelO (valV kvs k) (valueAt vs k):=by
 unfold KV at r
 induction r with
 | nil=>exact True.intro
 | @cons p q ps qs h t ih=>
  obtain⟨h1,h2⟩:=h
  by_cases e:p.1=k
  ·have e':q.1=k:=h1.symm.trans e
   have b:valueAt (q::qs) k=some q.2:=by simp[valueAt,qA0,e']
   rw[zov e,b];exact h2
  ·have e':¬q.1=k:=λz=>e (h1.trans z)
   have b:valueAt (q::qs) k=valueAt qs k:=by simp[valueAt,qA0,e']
   rw[zow e,b];exact ih
theorem KV.any{kvs:List (κ×V)}{vs:List (κ×Value)}(r:KV kvs vs)(k:κ):(kvs.any λkv=>decide (kv.1=k))=vs.any λkv=>decide (kv.1=k):=by
 unfold KV at r
 induction r with
 | nil=>rfl
 | cons h t ih=>rw[qBC,qBC,ih,h.1]
theorem KV.repl{kvs:List (κ×V)}{vs:List (κ×Value)}(r:KV kvs vs)(k:κ){y:V}{u:Value}(ry:RelV y u) :
  KV (kvs.map λkv=>if kv.1=k then(kv.1,y)else kv) (vs.map λkv=>if kv.1=k then(kv.1,u)else kv):=by
 unfold KV at r ⊢
 induction r with
 | nil=>exact .nil
 | @cons p q ps qs h t ih=>
  rw[qd,qd]
  refine .cons ?_ ih
  obtain⟨h1,h2⟩:=h
  by_cases e:p.1=k
  ·rw[if_pos e,if_pos (h1.symm.trans e)];exact⟨h1,ry⟩
  ·rw[if_neg e,if_neg (λz=>e (h1.trans z))];exact⟨h1,h2⟩
theorem KV.put{kvs:List (κ×V)}{vs:List (κ×Value)}(r:KV kvs vs)(k:κ){y:V}{u:Value}(ry:RelV y u):KV (putK kvs k y) (stored vs k u):=by
 unfold putK stored
 rw[r.any k]
 by_cases e:(vs.any λkv=>decide (kv.1=k))=true
 ·rw[if_pos e,if_pos e];exact r.repl k ry
 ·rw[if_neg e,if_neg e];exact Paired.snoc r ⟨rfl,ry⟩
theorem KV.length{kvs:List (κ×V)}{vs:List (κ×Value)}(r:KV kvs vs):kvs.length=vs.length:=qCD r
end
theorem zadt{P:Program}{w:World}{k:Key}{u:Value}(r:RelV (kV k) u):(zds P w).is k u=true:=by
 cases k with
 | inl i=>obtain⟨t,e⟩:=(show ∃t,u=Value.int i t from r);subst e;exact zxm P w i t
 | inr x=>obtain⟨t,e⟩:=(show ∃t,u=Value.str x t from r);subst e;exact zxn P w x t
theorem zuo{P:Program}{w:World}:∀{ks:List Key}{us:List Value},Vals (ks.map kV) us->ItemsAre (zds P w) ks us
 | [],_,r=>by rw[qCN]at r;cases r;exact .nil
 | k::ks,_,r=>by
  rw[qd]at r
  cases r with
  | cons h t=>exact .cons (zadt h) (zuo t)
noncomputable abbrev KT(H:Hp):List (List Key×V)->List (List Key×Addr×Value)->Prop:=Paired λp q=>p.1=q.1/\H q.2.1=some (.tup (p.1.map kV))/\RelV p.2 q.2.2
theorem KT.val{H:Hp}{kvs:List (List Key×V)}{xs:List (List Key×Addr×Value)}(r:KT H kvs xs)(k:List Key):RelO (valV kvs k) ((atKey xs k).map (·.2)):=by
 induction r with
 | nil=>exact True.intro
 | @cons p q ps qs h t ih=>
  obtain⟨h1,_,h2⟩:=h
  by_cases e:p.1=k
  ·have e':q.1=k:=h1.symm.trans e
   have b:atKey (q::qs) k=some q.2:=by simp[atKey,qA0,e']
   rw[zov e,b];exact h2
  ·have e':¬q.1=k:=λz=>e (h1.trans z)
   have b:atKey (q::qs) k=atKey qs k:=by simp[atKey,qA0,e']
   rw[zow e,b];exact ih
theorem KT.repl{H:Hp}{kvs:List (List Key×V)}{xs:List (List Key×Addr×Value)}(r:KT H kvs xs)(k:List Key){y:V}{u:Value}(ry:RelV y u) :
  KT H (kvs.map λkv=>if kv.1=k then(kv.1,y)else kv) (xs.map (putAt k u)):=by
 induction r with
 | nil=>exact .nil
 | @cons p q ps qs h t ih=>
  rw[qd,qd]
  refine .cons ?_ ih
  obtain⟨h1,h2,h3⟩:=h
  unfold putAt
  by_cases e:p.1=k
  ·rw[if_pos e,if_pos (h1.symm.trans e)];exact⟨h1,h2,ry⟩
  ·rw[if_neg e,if_neg (λz=>e (h1.trans z))];exact⟨h1,h2,h3⟩
theorem KT.put{H:Hp}{kvs:List (List Key×V)}{xs:List (List Key×Addr×Value)}(r:KT H kvs xs)(k:List Key){b:Addr}{y:V}{u:Value}(hb:H b=some (.tup (k.map kV)))(ry:RelV y u) :
  KT H (putK kvs k y) (storedH xs k b u):=by
 have e:(kvs.any λkv=>decide (kv.1=k))=(atKey xs k).isSome:=by
  rw[zzm,(r.val k).isSome_eq,qDI]
 unfold putK storedH
 rw[e]
 by_cases q:(atKey xs k).isSome=true
 ·rw[if_pos q,if_pos q];exact r.repl k ry
 ·rw[if_neg q,if_neg q];exact Paired.snoc r ⟨rfl,hb,ry⟩
theorem KT.keeps{H H':Hp}{kvs:List (List Key×V)}{xs:List (List Key×Addr×Value)}(r:KT H kvs xs)(ht:∀b ys,H b=some (.tup ys)->H' b=some (.tup ys)):KT H' kvs xs:=
 Paired.mapP r λ_ _ z=>⟨z.1,ht _ _ z.2.1,z.2.2⟩
section
variable{P:Program}{w:World}{H:Hp}{h:Heap}{a:Addr}
theorem zaqx{u:HO}(ok:HOk P w H h)(e:Rd H a u):zdv P w H h a u:=e.ok ok
theorem zaie{kvs:List (Key×V)}(ok:HOk P w H h)(e:Rd H a (.dK kvs)):kvs.length<=qV/\(a==sysModules)=false/\∃vs,KV kvs vs/\h.DictOf (zds P w) a vs:=
 show zdv P w H h a (.dK kvs)from zaqx ok e
theorem zaif{kvs:List (Key×V)}(ok:HOk P w H h)(e:H a=some (.dK kvs)):kvs.length<=qV/\(a==sysModules)=false/\∃vs,KV kvs vs/\h.DictOf (zds P w) a vs:=zaie ok (.inl e)
theorem zzn{ks:List Key}(ok:HOk P w H h)(e:H a=some (.tup (ks.map kV))):(tupleKind (zds P w)).is h ks a:=by
 obtain⟨_,its,r,o,h1,h2,n,h3⟩:=(show zdv P w H h a (.tup (ks.map kV))from ok a _ e)
 exact⟨o,its.toArray,n,h1,h2,h3,by simpa using zuo r⟩
theorem zaig{kvs:List (List Key×V)}(ok:HOk P w H h)(e:Rd H a (.dT kvs)):kvs.length<=qV/\(a==sysModules)=false/\
  ∃xs,KT H kvs xs/\h.DictOfH (tupleKind (zds P w)) a xs:=by
 obtain⟨z,y,xs,r,o,es,ep,h1,h2,h3,h4,h5⟩:=(show zdv P w H h a (.dT kvs)from zaqx ok e)
 refine⟨z,y,xs,r,o,es,ep,h1,h2,h3,h4,λx hx=>?_,h5⟩
 have all:∀{l:List (List Key×V)}{m:List (List Key×Addr×Value)},KT H l m->∀x∈m,(tupleKind (zds P w)).is h x.1 x.2.1:=by
  intro l m q
  induction q with
  | nil=>intro x hx;exact nomatch hx
  | @cons p q ps qs hq t ih=>
   intro x hx
   rcases qc.mp hx with e|hx
   ·subst e
    exact zzn ok (by rw[<- hq.1];exact hq.2.1)
   ·exact ih x hx
 exact all r x hx
theorem zatk{kvs:List (List Key×V)}(ok:HOk P w H h)(e:H a=some (.dT kvs)):kvs.length<=qV/\(a==sysModules)=false/\
  ∃xs,KT H kvs xs/\h.DictOfH (tupleKind (zds P w)) a xs:=zaig ok (.inl e)
end
noncomputable def DGet(H:Hp)(a:Addr)(y:V)(r:Option V):Prop:=
 (∃kvs k,Rd H a (.dK kvs)/\y=kV k/\r=valV kvs k)\/∃kvs k b,Rd H a (.dT kvs)/\y=.ref b/\H b=some (.tup (k.map kV))/\r=valV kvs k
noncomputable def DPut(H:Hp)(a:Addr)(y v:V)(H':Hp):Prop:=
 (∃kvs k,H a=some (.dK kvs)/\y=kV k/\kvs.length<qV/\H'=upd H a (.dK (putK kvs k v)))\/
 ∃kvs k b,H a=some (.dT kvs)/\y=.ref b/\H b=some (.tup (k.map kV))/\kvs.length<qV/\H'=upd H a (.dT (putK kvs k v))
theorem DGet.k{H:Hp}{a:Addr}{kvs:List (Key×V)}{k:Key}(e:H a=some (.dK kvs)):DGet H a (kV k) (valV kvs k):=.inl ⟨kvs,k,.inl e,rfl,rfl⟩
theorem DPut.k{H:Hp}{a:Addr}{kvs:List (Key×V)}{k:Key}{v:V}(e:H a=some (.dK kvs))(hl:kvs.length<qV):DPut H a (kV k) v (upd H a (.dK (putK kvs k v))):=.inl ⟨kvs,k,e,rfl,hl,rfl⟩
section
variable{X:Cx}{pins:List (Addr×Obj)}{σ:St}{H:Hp}{s:Shared}{a:Addr}{y v:V}{u r:Value}{o:Option V}{A:Around}{E:Value->Shared->Prop}
theorem Inv.big(I:Inv X pins σ H s):sysModules<s.heap.objs.size:=by
 have h:qN<s.heap.objs.size:=(I.mod.glob.keeps I.bk).lt
 exact qDC (by decide) h
theorem zadu{Q:Value->Shared->Prop}(hu:A.units+1<cLine)(I:Inv X pins σ H s)(g:DGet H a y (some v))(ry:RelV y u)(h:∀w' s',Inv X pins σ H s'->RelV v w'->Q w' s') :
  wpAny (model X.prog X.w) A (getItem (.ref a) u) Q E s:=by
 rcases g with⟨kvs,k,e,ey,l⟩|⟨kvs,k,b,e,ey,eb,l⟩
 ·subst ey
  obtain⟨z,hd,vs,rel,dd⟩:=zaie I.hok e
  obtain⟨w',hw,rw'⟩:=RelO.some_of (v:=v) (o:=valueAt vs k) (by rw[l];exact rel.val k)
  exact wpAny_getItem_of (zadt ry) dd.mapOf hw (h w' _ (I.tok _) rw')
 ·subst ey
  cases(show u=Value.ref b from ry)
  obtain⟨z,hd,xs,rel,dd⟩:=zaig I.hok e
  obtain⟨w',hw,rw'⟩:=RelO.some_of (v:=v) (o:=(atKey xs k).map (·.2)) (by rw[l];exact rel.val k)
  obtain⟨p,hp,hp2⟩:=qG.mp hw
  refine wpAny_getItem_heap (qCW hu) (zzn I.hok eb) dd hp ?_
  rw[hp2]
  exact h w' _ (I.tok _) rw'
theorem d_in{Q:Value->Shared->Prop}(hu:A.units+1<cLine)(I:Inv X pins σ H s)(g:DGet H a y o)(ry:RelV y u)(h:∀s',Inv X pins σ H s'->Q (.bool o.isSome) s') :
  wpAny (model X.prog X.w) A (compareOp .In u (.ref a)) Q E s:=by
 rcases g with⟨kvs,k,e,ey,l⟩|⟨kvs,k,b,e,ey,eb,l⟩
 ·subst ey
  obtain⟨z,hd,vs,rel,dd⟩:=zaie I.hok e
  refine wpAny_in_of (zadt ry) hd dd.mapOf ?_
  rw[<- (rel.val k).isSome_eq,<- l]
  exact h _ (I.tok _)
 ·subst ey
  cases(show u=Value.ref b from ry)
  obtain⟨z,hd,xs,rel,dd⟩:=zaig I.hok e
  refine wpAny_in_heap (qCW hu) (zzn I.hok eb) hd dd ?_
  have q:=(rel.val k).isSome_eq
  rw[qDI]at q
  rw[<- q,<- l]
  exact h _ (I.tok _)
theorem zst{h':Heap}{t':Nat}{ob:HO}(I:Inv X pins σ H s)(mu:Mut (H a))(hs:Heap.SameBut a s.heap h')(he:∃q,h'.get? a=some q)(new:zdv X.prog X.w (upd H a ob) h' a ob) :
  Inv X pins σ (upd H a ob) {s with heap:=h',toks:=t'}:=
 I.write (x:=a) (e:=a) mu (.inl rfl) (λb q hb z=>(hs.2 b hb).trans z) he new
theorem zadv{P:Program}{w:World}{H':Hp}{h':Heap}{kvs:List (Key×V)}{vs:List (Key×Value)}(z:kvs.length<=qV)(hd:(a==sysModules)=false)(rel:KV kvs vs)(dd:h'.DictOf (zds P w) a vs) :
  zdv P w H' h' a (.dK kvs):=⟨z,hd,vs,rel,dd⟩
theorem zadw{H':Hp}{Q:Unit->Shared->Prop}(hu:A.units+1<cLine)(I:Inv X pins σ H s)(g:DPut H a y v H')(ry:RelV y u)(rv:RelV v r)(h:∀s',Inv X pins σ H' s'->Q () s') :
  wpAny (model X.prog X.w) A (setItem (.ref a) u r) Q E s:=by
 rcases g with⟨kvs,k,e,ey,l,eH⟩|⟨kvs,k,b,e,ey,eb,l,eH⟩
 ·subst ey eH
  obtain⟨z,hd,vs,rel,dd⟩:=zaif I.hok e
  have hz:vs.length<=qV:=by rw[<- rel.length];exact z
  have hl:(putK kvs k v).length<=qV:=by have:=zlo kvs k v;omega
  refine wpAny_setItem_pairs (hsz:=hz) (zadt ry) dd λh' dd' hs=>h _ ?_
  have he:∃q,h'.get? a=some q:=let⟨q,_,_,hq,_⟩:=dd';⟨q,hq⟩
  exact zst I (by rw[e];exact True.intro) hs he (zadv hl hd (rel.put k rv) dd')
 ·subst ey eH
  cases(show u=Value.ref b from ry)
  obtain⟨z,hd,xs,rel,dd⟩:=zatk I.hok e
  have hz:xs.length<=qV:=by rw[<- qCD rel];exact z
  have hl:(putK kvs k v).length<=qV:=by have:=zlo kvs k v;omega
  refine wpAny_setItem_heap (hsz:=hz) (qCW hu) (zzn I.hok eb) dd λh' dd' hs=>h _ ?_
  obtain⟨q,es,ep,hq,h2,h3,h4,_,h5⟩:=dd'
  refine zst I (by rw[e];exact True.intro) hs ⟨q,hq⟩ ⟨hl,hd,_,(rel.put k eb rv).keeps λc ys ec=>?_,q,es,ep,hq,h2,h3,h4,h5⟩
  rw[zar (zatb ec e (λz=>nomatch z))]
  exact ec
end
noncomputable def NoSl(i:Expr):Prop:=∀ov iv,subscripted i false ov iv=operate [ov,iv] (getItem ov iv)
theorem zani{prog:Program}{w:World}{A:Around}{E:Value->Shared->Prop}{s:Shared}{env:Env}{value slice:Expr}{pos:Pos}{T id:String}{Q:Value->Shared->Prop}
  (hl:typeLookup (.type T) "__getitem__"=pure (some (.builtin id)))(hs:NoSl slice)
  (h:wpAny (model prog w) A (eval value env) (λo s₁=>wpAny (model prog w) A (eval slice env) (λi s₂=>s₂.TypeIs o T/\wpAny (model prog w) A (getItem o i) Q E s₂) E s₁) E s) :
  wpAny (model prog w) A (eval (.Subscript value slice pos) env) Q E s:=by
 refine Subscript_ (qA7 h (λo s₁ h₁=>qA7 h₁ (λi s₂ h₂=>?_) λ_ _ x=>x) λ_ _ x=>x)
 obtain⟨hT,h₂⟩:=h₂
 unfold subscriptTail
 refine qC ?_
 rw[getitemInPython_of_ne hT.not_modules]
 refine qC (wpAny_specialOf hT hl ?_)
 have fin:wpAny (model prog w) A (subscripted slice false o i) (λr s₃=>wpAny (model prog w) A (letTemporaryGo value o r >>=λ_=>pure r) Q E s₃) E s₂:=by
  rw[hs o i]
  exact wpAny_operating (qA7 h₂ (λr s₃ h₃=>qC (wpAny_letTemporaryGo (qI h₃))) λ_ _ x=>x)
 first
  | exact qI (qC fin)
  | exact qC (qI (qC fin))
  | exact qC fin
theorem zxv{X:Cx}{pins:List (Addr×Obj)}{σ:St}{H:Hp}{s:Shared}{a:Addr}{y:V}{o:Option V}(I:Inv X pins σ H s)(g:DGet H a y o):s.TypeIs (.ref a) "dict":=by
 rcases g with⟨kvs,k,e,_,_⟩|⟨kvs,k,b,e,_,_,_⟩
 ·obtain⟨_,_,vs,_,dd⟩:=zaie I.hok e
  exact dd.typeIs
 ·obtain⟨_,_,xs,_,dd⟩:=zaig I.hok e
  exact dd.typeIs
noncomputable def tDGet(td ty:TE):TE:=λσ H Q=>td σ H λx H1=>ty σ H1 λy H2=>∃a v,x=.ref a/\DGet H2 a y (some v)/\Q v H2
noncomputable def tDIn(ty td:TE):TE:=λσ H Q=>ty σ H λy H1=>td σ H1 λx H2=>∃a o,x=.ref a/\DGet H2 a y o/\Q (.bl o.isSome) H2
noncomputable def sDPut(td ty tv:TE):TS:=λD σ H=>tv σ H λv H1=>td σ H1 λx H2=>ty σ H2 λy H3=>∃a H4,x=.ref a/\DPut H3 a y v H4/\D.nx σ H4
section
variable{X:Cx}{o i e value:Expr}{pos pos' tpos:Pos}{td ty tv:TE}
theorem zanj(hu:X.A.units+1<cLine)(ho:PE X o td)(hi:PE X i ty)(hs:NoSl i):PE X (.Subscript o i pos) (tDGet td ty):=by
 intro pins s σ H Q I h
 refine zani PySem.F.slot_dict_getitem.lookup hs (thn (ho pins s σ H _ I h) λu s1 ⟨x,H1,I1,rx,q1⟩=>thn (hi pins s1 σ H1 _ I1 q1) λiv s2 ⟨y,H2,I2,ry,a,v,ex,g,q2⟩=>?_)
 subst ex
 obtain rfl:u=Value.ref a:=rx
 exact⟨zxv I2 g,zadu hu I2 g ry λw' s3 I3 rw'=>⟨v,H2,I3,rw',q2⟩⟩
theorem zaqy(hu:X.A.units+1<cLine)(hi:PE X i ty)(ho:PE X o td):PC X .In i o (tDIn ty td):=by
 intro pins s σ H Q I h
 refine thn (hi pins s σ H _ I h) λiv s1 ⟨y,H1,I1,ry,q1⟩=>thn (ho pins s1 σ H1 _ I1 q1) λu s2 ⟨x,H2,I2,rx,a,ov,ex,g,q2⟩=>?_
 subst ex
 obtain rfl:u=Value.ref a:=rx
 exact d_in hu I2 g ry λs3 I3=>⟨.bl ov.isSome,H2,I3,rfl,q2⟩
theorem zank(hu:X.A.units+1<cLine)(ho:PE X o td)(hi:PE X i ty)(hv:PE X value tv)(hs:swapsWith value (some (.Subscript o i pos')) pos.line X.env=pure false) :
  PS X (.Assign [.Subscript o i pos'] value pos) (sDPut td ty tv):=by
 intro pins s σ H D I h
 refine wpAny_Assign_Subscript (thn (hv pins s σ H _ I h) λr s1 ⟨v,H1,I1,rv,q1⟩=>thn (ho pins s1 σ H1 _ I1 q1) λu s2 ⟨x,H2,I2,rx,q2⟩=>thn (hi pins s2 σ H2 _ I2 q2) λiv s3 ⟨y,H3,I3,ry,a,H4,ex,g,q3⟩=>?_) hs
 subst ex
 obtain rfl:u=Value.ref a:=rx
 exact zadw hu I3 g ry rv λs4 I4=>⟨σ,H4,I4,q3⟩
end
theorem zzo{P:Program}{w:World}{H:Hp}(h:Heap)(hb:sysModules<h.objs.size):zdv P w H (h.push {cls:=.type "dict",data:=.dict #[]}) h.objs.size (.dK []):=
 ⟨qAv _,beq_eq_false_iff_ne.mpr (qAo (qk hb)),[],.nil,Heap.DictOf.new h⟩
noncomputable def tDNewK:TE:=λ_ H Q=>∀p,H p=none->Q (.ref p) (upd H p (.dK []))
section
variable{X:Cx}{pos:Pos}
theorem zaih:PE X (.Dict [] [] pos) tDNewK:=λpins s σ H Q I h=>
 wpAny_Dict_empty ⟨.ref s.heap.objs.size,_,I.laid (a:=s.heap.objs.size) (o:=.dK []) (t':=s.toks) (λ_ _ q=>qD _ q) (qL _) (zzo s.heap I.big),rfl,h _ (I.hok.fresh (qL _))⟩
end
noncomputable def zadx:List (TE×TE)->St->Hp->(List (V×V)->Hp->Prop)->Prop
 | [],_,H,Q=>Q [] H
 | (tk,tv)::r,σ,H,Q=>tk σ H λx H1=>tv σ H1 λy H2=>zadx r σ H2 λps H3=>Q ((x,y)::ps) H3
noncomputable abbrev VV:List (V×V)->List (Value×Value)->Prop:=Paired λp q=>RelV p.1 q.1/\RelV p.2 q.2
noncomputable def PPs(X:Cx)(pos:Pos)(keys:List (Option Expr))(values:List Expr)(trs:List (TE×TE)):Prop:=
 ∀(pins:List (Addr×Obj))(s:Shared)(σ:St)(H:Hp)(Q:List (V×V)->Hp->Prop),Inv X pins σ H s->zadx trs σ H Q->
  wpAny (model X.prog X.w) X.A (evalPairs (pairTrees keys values X.env pos)) (λvs s'=>∃ps H',Inv X pins σ H' s'/\VV ps vs/\Q ps H') X.xe s
theorem zanl{X:Cx}{pos:Pos}:PPs X pos [] [] []:=λpins s σ H Q I h=>pairTrees_nil_walk ⟨[],H,I,.nil,h⟩
theorem zaii{X:Cx}{pos:Pos}{k v:Expr}{ks:List (Option Expr)}{vs:List Expr}{tk tv:TE}{trs:List (TE×TE)}(hk:PE X k tk)(hv:PE X v tv)(hr:PPs X pos ks vs trs) :
  PPs X pos (some k::ks) (v::vs) ((tk,tv)::trs):=λpins s σ H Q I h=>
 pairTrees_cons_walk (thn (hk pins s σ H _ I h) λu s1 ⟨x,H1,I1,rx,q1⟩=>thn (hv pins s1 σ H1 _ I1 q1) λw2 s2 ⟨y,H2,I2,ry,q2⟩=>
  thn (hr pins s2 σ H2 _ I2 q2) λws s3 ⟨ps,H3,I3,rel,q3⟩=>⟨(x,y)::ps,H3,I3,.cons ⟨rx,ry⟩ rel,q3⟩)
noncomputable def zmb(kvs more:List (Key×V)):List (Key×V):=more.foldl (λacc kv=>putK acc kv.1 kv.2) kvs
theorem KV.merge:∀{more:List (Key×V)}{rs:List (Key×Value)}{kvs:List (Key×V)}{vs:List (Key×Value)},KV more rs->KV kvs vs->KV (zmb kvs more) (merged vs rs):=by
 intro more rs kvs vs r
 unfold KV at r
 induction r generalizing kvs vs with
 | nil=>intro q;exact q
 | @cons p q ps qs h t ih=>
  intro r0
  have e:KV (putK kvs p.1 p.2) (stored vs q.1 q.2):=by
   have:=r0.put p.1 h.2
   rw[<- h.1];exact this
  exact ih e
theorem zix:∀(more kvs:List (Key×V)),(zmb kvs more).length<=kvs.length+more.length
 | [],kvs=>by show kvs.length<=kvs.length+0;omega
 | p::r,kvs=>by
  have h1:=zix r (putK kvs p.1 p.2)
  have h2:=zlo kvs p.1 p.2
  show(zmb (putK kvs p.1 p.2) r).length<=_
  rw[qAQ];omega
theorem zrn{P:Program}{w:World}:∀{kvs:List (Key×V)}{ws:List (Value×Value)},VV (kvs.map λkv=>(kV kv.1,kv.2)) ws->∃rs,Carries (zds P w) ws rs/\KV kvs rs
 | [],_,r=>by rw[qCN]at r;cases r;exact⟨[],True.intro,.nil⟩
 | p::kvs,_,r=>by
  rw[qd]at r
  cases r with
  | @cons a b as bs h t=>
   obtain⟨rs,c,q⟩:=zrn (P:=P) (w:=w) t
   obtain⟨b1,b2⟩:=b
   exact⟨(p.1,b2)::rs,⟨zadt h.1,rfl,c⟩,.cons ⟨rfl,h.2⟩ q⟩
noncomputable def tDisp(trs:List (TE×TE)):TE:=λσ H Q=>∀p,H p=none->zadx trs σ (upd H p (.dK [])) λps H2=>H2 p=some (.dK [])/\∃kvs:List (Key×V),ps=kvs.map (λkv=>(kV kv.1,kv.2))/\kvs.length<=15/\Q (.ref p) (upd H2 p (.dK (zmb [] kvs)))
theorem zanm{X:Cx}{pos:Pos}{keys:List (Option Expr)}{values:List Expr}{trs:List (TE×TE)}(h:PPs X pos keys values trs)(hall:keys.all (·.isSome)=true)(hl:keys.length=values.length)(h0:keys≠[])
  (h15:keys.length<=15):PE X (.Dict keys values pos) (tDisp trs):=by
 intro pins s σ H Q I q
 have hn:=I.hok.fresh (qL s.heap.objs.size)
 have I1:=I.laid (a:=s.heap.objs.size) (o:=.dK []) (h':=s.heap.push {cls:=.type "dict",data:=.dict #[]}) (t':=s.toks) (λ_ _ q=>qD _ q) (qL _) (zzo s.heap I.big)
 refine wpAny_Dict_walk (knd:=zds X.prog X.w) hall hl h0 h15 (thn (h pins _ σ _ _ I1 (q _ hn)) λws s2 ⟨ps,H2,I2,rel,e,kvs,ep,lk,q2⟩=>?_)
 subst ep
 obtain⟨rs,c,rk⟩:=zrn (P:=X.prog) (w:=X.w) rel
 obtain⟨z,hd,vs0,r0,dd⟩:=zaif I2.hok e
 cases r0
 refine⟨rs,c,dd,λh' dd' hs=>⟨.ref s.heap.objs.size,_,?_,rfl,q2⟩⟩
 have hz:(zmb [] kvs).length<=qV:=by
  have h1:=zix kvs []
  rw[qBI]at h1
  rw[qBM];omega
 have he:∃q,h'.get? s.heap.objs.size=some q:=let⟨q,_,_,hq,_⟩:=dd';⟨q,hq⟩
 exact zst I2 (by rw[e];exact True.intro) hs he (zadv hz hd (rk.merge .nil) dd')
set_option genInjectivity false in
set_option genInjectivity false in
section
variable{X:Cx}{pins:List (Addr×Obj)}{σ:St}{H:Hp}{s:Shared}{a:Addr}{y d:V}{u r:Value}{o:Option V}{A:Around}{E:Value->Shared->Prop}
end
end L2
namespace Att
open PySem PySem.W PySem.Calls PyProof.Rows
theorem zpd{P:Params}{h:Heap}:∀(ns:List Int)(vs:List Value),WellAll P h vs (ns.map WData.int)->IntsAre vs ns:=by
 intro ns
 induction ns with
 | nil=>
  intro vs w
  rw[qCN]at w
  cases w
  exact .nil
 | cons n ns ih=>
  intro vs w
  rw[qd]at w
  cases w with
  | cons a b=>
   cases a
   exact .cons _ _ (ih _ b)
theorem zady{l:OpenLaw}{n:Nat}(hn:l.most=some n){P:Params}{h:Heap}{args:List WData}{vals:List Value}
  (hpre:l.row.toRowW.claim.pre args=true)(hwl:WellAll P h vals args) :
  ∃a vs ns,vals=[Value.ref a]/\args=[WData.list (ns.map WData.int)]/\h.get? a=some {cls:=.type "list",data:=.seq vs.toArray}/\IntsAre vs ns/\ns.length<=n:=by
 have hsh:WShape.hasAll [] args [.list .int]=true:=(pre_splitW hpre).1
 have hc:l.pre.holds [] {args:=args}=true:=(pre_splitW hpre).2
 obtain⟨d,r,rfl,h1,h2⟩:=hasAllW_cons hsh
 obtain rfl:=hasAllW_nil h2
 obtain⟨xs,rfl,h3⟩:=hasW_list h1
 obtain⟨ns,rfl⟩:=items_int h3
 have hlen:ns.length<=n:=by
  unfold OpenLaw.pre at hc
  have h4:(WTm.not (.lt (.lit (.int (n:Int))) (.len (.arg 0)))).holds [] {args:=[.list (ns.map .int)]}=true:=by
   have h4:=(holds_andW hc).1
   rw[hn]at h4
   exact h4
  have h5:=condW_of h4 (w_not (w_lt w_lit (w_len_list (w_arg rfl))))
  rw[qF]at h5
  refine Nat.le_of_not_lt λq=>?_
  have q':(n:Int)<((ns.length:Nat):Int):=by omega
  first
   | (rw[decide_eq_true q']at h5;exact absurd h5 (by decide))
   | (simp at h5;omega)
 cases hwl with
 | cons w1 w2=>
  cases w2
  cases w1 with
  | list ho hall=>exact⟨_,_,ns,rfl,rfl,ho,zpd ns _ hall,hlen⟩
theorem zadz(l:OpenLaw)(args:List WData):l.row.toRowW.claim.post args (.bool true) args=true:=
 postW_of (r:=l.row.toRowW) (X:=(true==true))
  (show WShape.has [] (.bool true) .bool=true by first|rfl|decide|simp[WShape.has,WShape.arms,WShape.armsAll])
  (show(WTm.eq .res (.lit (.bool true))).value [] {args:=args,res:=some (.bool true),after:=args}=some (.bool (true==true))from w_eq_bool (w_res rfl) w_lit) rfl
theorem attach_call{l:OpenLaw}{n:Nat}{q:Program}{loose:List Str}{XP:(Str->Option Value)->Heap->Prop}{YP:World->Heap->Prop}{d:DefRec}
  (hn:l.most=some n)(hdf:d.params.defaults=[])
  (call:∀(w:World)(s₀ s₁:Shared)(mg mb:Str->Option Value)(fa:Addr)(o:Obj)(pm cd doc:Value)(a:Addr)(vs:List Value)(ns:List Int),
   Ground q loose [] XP w s₀ mg mb s₁.heap->YP w s₁.heap->
   s₁.heap.get? fa=some o->o.data=.func (docDef d.name d.params d.body d.scope pm cd doc)->s₁.heap.CodeRec cd d.name->mg d.name=some (.ref fa)->
   s₁.heap.get? a=some {cls:=.type "list",data:=.seq vs.toArray}->IntsAre vs ns->ns.length<=n->s₁.gens=#[]->
   codeAny (model l.prog w) callerA (.call (.ref fa) ⟨[.ref a],[]⟩) (λr s'=>r=.ok (.ret (.bool true))/\OldK s₁.heap s'.heap/\s'.os=s₁.os/\AllBare s'.gens) s₁) :
  WalkO q loose XP YP l.row.toRowW d [] (λf vs=>PySem.call f vs):=by
 intro w s₀ s₁ mg mb G Y fa o pm cd doc dV kV ho hd hcd hD hmg hg args vals as hpre hlay hrd hwl hlo
 obtain rfl:dV=.none:=Dflts.none hD hdf
 obtain rfl:kV=.none:=Dflts.noKw hD
 obtain⟨a,vs,ns,rfl,rfl,hobj,hints,hlen⟩:=zady hn hpre hwl
 refine enter_call (qBc (call w s₀ s₁ mg mb fa o pm cd doc a vs ns G Y ho (fd_plain hd) hcd hmg hobj hints hlen hg) λr s' hq=>?_)
 obtain⟨rfl,h2,h3,h4⟩:=hq
 exact⟨.inl ⟨.bool true,.bool true,[],rfl,λ_=>rfl,.bool true,zadz l _,λ_=>⟨List.Pairwise.nil,λ_ hm=>(nomatch hm)⟩⟩,h2,h3,h4⟩
end Att
namespace L2
open PySem PySem.Spec PyProof.Rows
theorem zup:∀{vs:List Value}{ns:List Int},IntsAre vs ns->Vals (ns.map V.int) vs
 | _,_,.nil=>.nil
 | _,_,.cons n t h=>.cons ⟨t,rfl⟩ (zup h)
end L2
namespace L2
open PySem PySem.Spec PyProof.Rows
noncomputable def zsu(s:Stmt)(j:Nat):Stmt:=match s with
 | .ClassDef _ _ _ body _ _ _ _ _ _ _=>body.getD j (.Pass ⟨0,0,0,0⟩)
 | _=>.Pass ⟨0,0,0,0⟩
noncomputable def zbi(s:Stmt):Arguments:=match s with
 | .FunctionDef _ a _ _ _ _ _ _ _ _=>a
 | _=>{posonlyargs:=[],args:=[],vararg:=none,kwonlyargs:=[],kw_defaults:=[],kwarg:=none,defaults:=[]}
noncomputable def zbd(s:Stmt):List Stmt:=match s with
 | .FunctionDef _ _ b _ _ _ _ _ _ _=>b
 | _=>[]
noncomputable def zai(s:Stmt):Scope:=match s with
 | .FunctionDef _ _ _ _ _ _ sc _ _ _=>sc
 | _=>{kind:=.function,names:=[],isGenerator:=false,isCoroutine:=false}
noncomputable abbrev CX0:CXT:=λ_ _ _ _ _ _=>False
noncomputable abbrev E0:XK:=λ_ _ _=>False
theorem zatl{X:Cx}:zrl CX0 X E0:=λ_ _ _ _ _ _ _ h=>h.elim
set_option genInjectivity false in
structure Fun(K:qB)(x qual:Str)(st:Stmt)(f:Addr)(fd:qt):Prop where
 ex:∃(oc:Value)(od:Option Addr)(kV doc pm:Value)(an:Option Addr)(cdv ct:Value)(osl:Array (Option Value)),
  fd=qh x qual (zbi st) (zbd st) (zai st) .none kV doc pm an cdv ct/\K.lookup f=some ⟨oc,od,.func fd,osl⟩/\qe K cdv qual=true
 kp:qS K (.ref f)=true
section
variable{P:Program}{w:World}{K:qB}{mg:Str->Option Value}{base:Heap}
theorem Fun.ok{x qual:Str}{st:Stmt}{f:Addr}{fd:qt}{N ps:List Str}{k:Nat}{sp:Sp}(F:Fun K x qual st f fd)(S:FnScope N ps (zai st))(len:∀vs H Q E,sp vs H Q E->vs.length=ps.length)
  (hbody:∀(cdv:Value)(A:Around)(outer:List Env)(s:Shared)(H:Hp)(vs:List V)(Q:VK)(E:XK),Room k (A.deeper (envOfC qual (zai st) s.heap.objs.size f cdv))->sp vs H Q E->
   ∃t,PSs (cxOf CX0 P w K mg base N qual (zai st) f cdv A outer s H E).nox (zbd st) t/\t {nx:=λ_ H'=>Q .non H',rt:=Q} (zgi N vs) H):FnOk P w K mg base CX0 (k+1) f fd ps sp:=by
 obtain⟨oc,od,kV,doc,pm,an,cdv,ct,osl,rfl,lk,hcd⟩:=F.ex
 refine zati lk hcd S len λA outer s H vs Q E hr hsp=>?_
 obtain⟨t,h,q⟩:=hbody cdv A outer s H vs Q E hr hsp
 exact⟨t,h.nox,q⟩
theorem Fun.binds{x qual:Str}{st:Stmt}{f:Addr}{fd:qt}{ps:List Str}(F:Fun K x qual st f fd)
  (h:∀(kV doc pm:Value) (an:Option Addr) (cdv ct:Value) (us:List Value),us.length=ps.length->bindArgs (qh x qual (zbi st) (zbd st) (zai st) .none kV doc pm an cdv ct) ⟨us,[]⟩=pure (ps.zip us)):zom K fd ps []:=by
 obtain⟨oc,od,kV,doc,pm,an,cdv,ct,osl,rfl,lk,hcd⟩:=F.ex
 exact .all (h kV doc pm an cdv ct)
theorem zdb{x qual:Str}{st:Stmt}{f:Addr}{oc:Value}{od an:Option Addr}{osl:Array (Option Value)}{kV doc pm cdv ct:Value}(l:K.lookup f=some ⟨oc,od,.func (qh x qual (zbi st) (zbd st) (zai st) .none kV doc pm an cdv ct),osl⟩)
  (c:qe K cdv qual=true) (k:qS K (.ref f)=true):Fun K x qual st f (qh x qual (zbi st) (zbd st) (zai st) .none kV doc pm an cdv ct):=⟨⟨oc,od,kV,doc,pm,an,cdv,ct,osl,rfl,l,c⟩,k⟩
end
theorem zfn{A:Around}{k:Nat}(hr:Room k A):A.units+1<cLine:=qBv (Nat.add_le_add_left (by decide:1<=64) _) hr.units
section
variable{X:Cx}
theorem pv(i:Nat){x:Str}{pos:Pos}(hN:X.N[i]?=some x:=by rfl)(hv:visB X.env.scope x=true:=by rfl)(hd:(x==("__debug__":Str))=false:=by decide)
  (hcd:(x==("__classdict__":Str))=false:=by decide):PE X (.Name x pos) (tVar i):=zade hN (visB.of hv) hd hcd
end
theorem iteF{A B:Prop}(h:B):if false=true then A else B:=by
 rw[if_neg qP]
 exact h
theorem iteT{A B:Prop}(h:A):if true=true then A else B:=by
 rw[if_pos rfl]
 exact h
theorem ite2{c A B:Prop}[Decidable c](h1:c->A)(h2:¬c->B):if c then A else B:=by
 by_cases h:c
 ·rw[if_pos h]
  exact h1 h
 ·rw[if_neg h]
  exact h2 h
noncomputable def Same(H H':Hp):Prop:=∀b o,H b=some o->H' b=some o
theorem Same.refl(H:Hp):Same H H:=λ_ _ h=>h
theorem Same.trans{H H1 H2:Hp}(a:Same H H1)(b:Same H1 H2):Same H H2:=λc o h=>b c o (a c o h)
theorem Same.free{H H':Hp}(e:Same H H'){l:Addr}(h:H' l=Option.none):H l=Option.none:=by
 cases q:H l with
 | none=>rfl
 | some o=>
  rw[e l o q]at h
  cases h
theorem Same.seq{K:qB}{H H':Hp}{a:Addr}{xs:List V}(e:Same H H')(h:SqL K H a xs):SqL K H' a xs:=by
 rcases h with(h|⟨o,h⟩)|h
 ·exact .inl (.inl (e _ _ h))
 ·exact .inl (.inr ⟨o,e _ _ h⟩)
 ·exact .inr h
section
variable{κ:Type}[DecidableEq κ]
theorem zxw:∀{l:List κ}{k:κ},l.Nodup->¬k∈l->(l++[k]).Nodup
 | [],k,_,_=>by simp
 | a::r,k,h,hk=>by
  obtain⟨h1,h2⟩:=qBH.mp h
  show(a::(r++[k])).Nodup
  refine qBH.mpr ⟨λm=>?_,zxw h2 λm=>hk (qc.mpr (Or.inr m))⟩
  rcases qX.mp m with q|q
  ·exact h1 q
  ·exact hk (qc.mpr (Or.inl (qAL.mp q).symm))
end
end L2
set_option maxHeartbeats 4000000
namespace L2
open PySem PySem.Spec PyProof.Rows
noncomputable def clos(cells:List (Str×Addr)):List (Str×NameKind)->List (Str×Addr)->List (Str×Addr)
 | [],acc=>acc
 | (n,k)::r,acc=>if k==.free then clos cells r ((n,(cells.lookup n).getD 0)::acc)else clos cells r acc
theorem zsv{cells:List (Str×Addr)}:∀{names:List (Str×NameKind)}{acc:List (Str×Addr)},(∀y∈names,y.2=.free->∃c,cells.lookup y.1=some c)->∀p∈clos cells names acc,p∈acc\/((p.1,NameKind.free)∈names/\cells.lookup p.1=some p.2)
 | [],acc,_,p,hp=>.inl hp
 | (n,k)::r,acc,h,p,hp=>by
  unfold clos at hp
  have hr:∀y∈r,y.2=.free->∃c,cells.lookup y.1=some c:=λy hy=>h y (qK _ hy)
  split at hp
  ·rename_i hk
   rcases zsv hr p hp with q|q
   ·rcases qc.mp q with q|q
    ·subst q
     have hk':k=.free:=by simpa using hk
     subst hk'
     obtain⟨c,hc⟩:=h (n,.free) qm rfl
     exact .inr ⟨qm,by show cells.lookup n=some ((cells.lookup n).getD 0);rw[hc];rfl⟩
    ·exact .inl q
   ·exact .inr ⟨qK _ q.1,q.2⟩
  ·rcases zsv hr p hp with q|q
   ·exact .inl q
   ·exact .inr ⟨qK _ q.1,q.2⟩
theorem zsw{cells:List (Str×Addr)}:∀{names:List (Str×NameKind)}{acc:List (Str×Addr)},∀p∈acc,p∈clos cells names acc
 | [],acc,p,hp=>hp
 | (n,k)::r,acc,p,hp=>by
  unfold clos
  split
  ·exact zsw p (qK _ hp)
  ·exact zsw p hp
theorem zsx{cells:List (Str×Addr)}{x:Str}:∀{names:List (Str×NameKind)}{acc:List (Str×Addr)},(x,NameKind.free)∈names->∃c,(x,c)∈clos cells names acc
 | [],_,h=>by simp at h
 | (n,k)::r,acc,h=>by
  unfold clos
  rcases qc.mp h with e|h
  ·cases e
   rw[if_pos (show(NameKind.free==NameKind.free)=true by decide)]
   exact⟨_,zsw _ qm⟩
  ·split
   ·exact zsx h
   ·exact zsx h
theorem zmc{α:Type}{x:Str}{c:α}:∀{l:List (Str×α)},(x,c)∈l->∃c',l.lookup x=some c'
 | [],h=>by simp at h
 | (k,v)::r,h=>by
  rw[q9]
  cases hb:x==k with
  | true=>exact⟨v,rfl⟩
  | false=>
   rcases qc.mp h with e|h
   ·cases e;simp at hb
   ·exact zmc h
theorem zmd{scope:Scope}{env:Env}(h:∀y∈scope.names,y.2=.free->∃c,env.cells.lookup y.1=some c):closureFor scope env=pure (clos env.cells scope.names []):=by
 unfold closureFor
 have key:∀(names:List (Str×NameKind))(acc:List (Str×Addr)),(∀y∈names,y.2=.free->∃c,env.cells.lookup y.1=some c)->
   (forIn names acc (λ(x:Str×NameKind) (r:List (Str×Addr))=>(if(x.2==.free)=true then(do let a <- cellOf env x.1;pure (ForInStep.yield ((x.1,a)::r)))else pure (ForInStep.yield r):Sem (ForInStep (List (Str×Addr))))))=pure (clos env.cells names acc):=by
  intro names
  induction names with
  | nil=>intro acc _;rfl
  | cons y r ih=>
   intro acc hy
   obtain⟨n,k⟩:=y
   have hr:=λy (hm:y∈r)=>hy y (qK _ hm)
   rw[qB5]
   unfold clos
   cases hk:(k==NameKind.free)with
   | true=>
    have hk':k=.free:=by simpa using hk
    subst hk'
    obtain⟨c,hc⟩:=hy (n,.free) qm rfl
    have e1:cellOf env n=pure c:=by unfold cellOf;rw[hc]
    simp only[if_true]
    have hc':env.cells.lookup n=some c:=hc
    rw[e1,hc']
    simp only[pure_bind,Option.getD_some]
    exact ih _ hr
   | false=>
    simp only[qBu,if_false,pure_bind]
    exact ih _ hr
 simpa using key scope.names [] h
theorem zgo:∀(names:List (Str×NameKind))(n:Nat)(acc:List (Str×Addr)),cellsFrom n names acc=cellsFrom n names []++acc
 | [],_,_=>rfl
 | (name,kind)::r,n,acc=>by
  unfold cellsFrom
  split
  ·rw[zgo r (n+1) ((name,n)::acc),zgo r (n+1) [(name,n)],qAX];rfl
  ·exact zgo r n acc
theorem zgp{x:Str}{c:Addr}:∀(names:List (Str×NameKind))(n:Nat)(acc:List (Str×Addr)),(x,c)∈cellsFrom n names acc->(x,c)∈acc\/(x,NameKind.cell)∈names
 | [],_,_,h=>.inl h
 | (name,kind)::r,n,acc,h=>by
  unfold cellsFrom at h
  split at h
  ·rename_i hk
   have hk':kind=.cell:=by simpa using hk
   subst hk'
   rcases zgp r _ _ h with q|q
   ·rcases qc.mp q with q|q
    ·cases q;exact .inr qm
    ·exact .inl q
   ·exact .inr (qK _ q)
  ·rcases zgp r _ _ h with q|q
   ·exact .inl q
   ·exact .inr (qK _ q)
theorem zkx{α:Type}{x:Str}:∀{l r:List (Str×α)},(l++r).lookup x=(l.lookup x).or (r.lookup x)
 | [],_=>by simp
 | (k,v)::l,r=>by
  rw[qCU,q9,q9]
  cases x==k with
  | true=>rfl
  | false=>exact zkx
theorem zgb{env:Env}{x:Str}{k':NameKind}:∀{names:List (Str×NameKind)},
  (names.map λ(n,k)=>if(k==NameKind.free&&env.scope.kind==.function&&env.kindOf n==some .cell)then(n,NameKind.cell)else(n,k)).lookup x=some k'->
  ∃k,names.lookup x=some k/\(k'=k\/(k=.free/\k'=.cell))
 | [],h=>by simp at h
 | (n,k)::r,h=>by
  rw[qd]at h
  by_cases hc:(k==NameKind.free&&env.scope.kind==.function&&env.kindOf n==some .cell)=true
  ·simp only[hc,if_true]at h
   rw[q9]at h ⊢
   cases hx:x==n with
   | true=>
    rw[hx]at h
    have hk:k=.free:=by simp at hc;exact hc.1.1
    exact⟨k,rfl,.inr ⟨hk,(qZ h).symm⟩⟩
   | false=>rw[hx]at h;exact zgb h
  ·simp only[hc,qBu,if_false]at h
   rw[q9]at h ⊢
   cases hx:x==n with
   | true=>rw[hx]at h;exact⟨k,rfl,.inl (qZ h).symm⟩
   | false=>rw[hx]at h;exact zgb h
theorem zjv{env:Env}{x:Str}:∀{names:List (Str×NameKind)},names.lookup x=some .free->
  ((names.map λ(n,k)=>if(k==NameKind.free&&env.scope.kind==.function&&env.kindOf n==some .cell)then(n,NameKind.cell)else(n,k)).lookup x=some .free\/
   (names.map λ(n,k)=>if(k==NameKind.free&&env.scope.kind==.function&&env.kindOf n==some .cell)then(n,NameKind.cell)else(n,k)).lookup x=some .cell)
 | [],h=>by simp at h
 | (n,k)::r,h=>by
  rw[qd]
  rw[q9]at h
  by_cases hc:(k==NameKind.free&&env.scope.kind==.function&&env.kindOf n==some .cell)=true
  ·simp only[hc,if_true]
   rw[q9]
   cases hx:x==n with
   | true=>exact .inr rfl
   | false=>rw[hx]at h;exact zjv h
  ·simp only[hc,qBu,if_false]
   rw[q9]
   cases hx:x==n with
   | true=>rw[hx]at h;exact .inl h
   | false=>rw[hx]at h;exact zjv h
theorem zabw{M:Model}{A:Around}{E:Value->Shared->Prop}{s:Shared}{scope:Scope}{globals:Addr}{cl:List (Str×Addr)}{qual:Str}{env:Env}{Q:Env->Shared->Prop}
  (hQ:∀h',(∀b o,s.heap.get? b=some o->h'.get? b=some o)->h'.Ns s.heap.objs.size (λ_=>none)->(∀n c,(n,c)∈cellsFrom (s.heap.objs.size+1) scope.names []->h'.IsCell c none/\s.heap.objs.size+1<=c)->
   ((cellsFrom (s.heap.objs.size+1) scope.names []).Pairwise λx y=>x.2≠y.2)->
   Q {scope:=scope,locals:=s.heap.objs.size,globals:=globals,cells:=cellsFrom (s.heap.objs.size+1) scope.names []++cl,qual:=qual,func:=none,code:=env.code,frame:=env.frame,builtins:=env.builtins} {s with heap:=h'}) :
  wpAny M A (newFunctionEnv scope globals cl [] qual none .none (some env)) Q E s:=by
 simp only[newFunctionEnv,qDB,if_true]
 refine qC (wpAny_alloc ?_)
 refine qC (wpAny_layCells _ (λname kind cells=>by cases hkc:kind==NameKind.cell<;>simp[hkc]) _ _ _ _ ?_)
 have ok:=cellsFrom_ok scope.names (s.heap.push {cls:=.type "dict",data:=.dict #[]}) (s.heap.objs.size+1) [] ⟨λ_ _ hm=>(nomatch hm),List.Pairwise.nil⟩ (by rw[qAz];exact qL _)
 rw[qAz]at ok
 rw[show({s with heap:=s.heap.push {cls:=.type "dict",data:=.dict #[]}}:Shared).heap.objs.size=s.heap.objs.size+1 from qAz ..]
 rw[zgo]
 refine qC ?_
 refine qI (qI ?_)
 exact hQ _ (λb o e=>pushCells_keeps _ _ b o (qD _ e)) ((Heap.Ns.new s.heap (.type "dict")).keeps (pushCells_keeps _ _)) ok.empty ok.apart
noncomputable def cxComp(X:Cx)(scope:Scope)(N' own:List Str)(cl:List (Str×Addr))(C:Addr)(s:Shared)(H:Hp)(fp:List Addr):Cx:=
 {X with N:=N',s₀:=s,H₀:=H,env:=compEnvC scope cl C X.env,outer:=X.stack,stack:=X.stack,ex:=fp,fn:=λx=>own.contains x,pn:=[],xe:=λ_ _=>False}
structure CompOk(X:Cx)(scope:Scope)(N' own:List Str)(fr:List Nat):Prop where
 kind:scope.kind=.function
 names:∀y∈scope.names,scope.names.lookup y.1=some y.2
 up:∀y∈scope.names,y.2=.free->(X.env.kindOf y.1=some .cell\/X.env.kindOf y.1=some .free)
 nm:N'=own++fr.map (λj=>X.N.getD j Str.empty)
 fr:∀j∈fr,j<X.N.length/\scope.names.lookup (X.N.getD j Str.empty)=some .free
 own:∀x∈own,scope.names.lookup x=some .local\/scope.names.lookup x=some .cell
noncomputable def tau(own:List Str)(fr:List Nat)(σ:St):St:=own.map (λ_=>none)++fr.map (λj=>σ.getD j none)
section
variable{X:Cx}{pins:List (Addr×Obj)}{σ:St}{H:Hp}{s:Shared}{scope:Scope}{N' own:List Str}{fr:List Nat}
theorem znd(c:CompOk X scope N' own fr)(ok:X.Ok):∀y∈scope.names,y.2=.free->∃a,X.env.cells.lookup y.1=some a:=λy hy e=>ok.has y.1 (c.up y hy e)
theorem zaij{fp:List Addr}{h':Heap}(c:CompOk X scope N' own fr)(I:Inv X pins σ H s)
  (hf:∀b∈fp,FpOk X pins H b)(ho:∀b∈fp,∃o,s.heap.get? b=some o/\∀v,o.data≠.cell v)
  (keep:∀b o,s.heap.get? b=some o->h'.get? b=some o)(ns:h'.Ns s.heap.objs.size (λ_=>none))
  (cells:∀n c,(n,c)∈cellsFrom (s.heap.objs.size+1) scope.names []->h'.IsCell c none/\s.heap.objs.size+1<=c)
  (apart:(cellsFrom (s.heap.objs.size+1) scope.names []).Pairwise λx y=>x.2≠y.2) :
  Inv (cxComp X scope N' own (cellsFrom (s.heap.objs.size+1) scope.names []++clos X.env.cells scope.names []) s.heap.objs.size s H fp) [] (tau own fr σ) H {s with heap:=h'}:=by
 have found:=znd c I.ok
 have clm:∀x a,(x,a)∈clos X.env.cells scope.names []->(x,NameKind.free)∈scope.names/\X.env.cells.lookup x=some a:=λx a hm=>by
  rcases zsv found (x,a) hm with q|q
  ·simp at q
  ·exact q
 have look:∀x a,(cellsFrom (s.heap.objs.size+1) scope.names []++clos X.env.cells scope.names []).lookup x=some a->
   ((x,a)∈cellsFrom (s.heap.objs.size+1) scope.names []/\(x,NameKind.cell)∈scope.names)\/((x,NameKind.free)∈scope.names/\X.env.cells.lookup x=some a):=λx a e=>by
  rw[zkx]at e
  cases q:(cellsFrom (s.heap.objs.size+1) scope.names []).lookup x with
  | some b=>
   rw[q]at e
   cases e
   have hm:=qo q
   rcases zgp _ _ _ hm with z|z
   ·simp at z
   ·exact .inl ⟨hm,z⟩
  | none=>
   rw[q]at e
   exact .inr (clm x a (qo e))
 have lookF:∀x a,(x,NameKind.free)∈scope.names->X.env.cells.lookup x=some a->(cellsFrom (s.heap.objs.size+1) scope.names []++clos X.env.cells scope.names []).lookup x=some a:=λx a hx e=>by
  rw[zkx]
  have q:(cellsFrom (s.heap.objs.size+1) scope.names []).lookup x=none:=by
   cases q:(cellsFrom (s.heap.objs.size+1) scope.names []).lookup x with
   | none=>rfl
   | some b=>
    rcases zgp _ _ _ (qo q)with z|z
    ·simp at z
    ·have h1:=c.names _ hx
     have h2:=c.names _ z
     rw[h1]at h2
     cases h2
  rw[q]
  obtain⟨d,hd⟩:=zsx (cells:=X.env.cells) (acc:=[]) hx
  obtain⟨d',hd'⟩:=zmc hd
  have:=(clm x d' (qo hd')).2
  rw[e]at this
  cases this
  exact hd'
 have below:∀b o,s.heap.get? b=some o->b<s.heap.objs.size:=λb o e=>qJ e
 have cold:∀x a,X.env.cells.lookup x=some a->a<s.heap.objs.size:=λx a e=>let⟨v,q⟩:=I.cell x a e;q.lt
 refine⟨⟨I.ok.mod,c.kind,I.ok.glob,I.ok.blt,qL _,?inj,?has,?cab,I.ok.hd,I.ok.frames,.inl rfl,?exf,I.bs,qAM I.ok.bsz I.sz,?noex,?exfs,I.stack,I.stkFree⟩,
  rfl,I.bare,Un.kept keep,⟨_,ns,?loc⟩,?cell,I.hok.fresh (qL _),?freeC,?pin,I.hok.kept keep,?len⟩
 case inj=>
  intro x y a h1 h2
  rcases look x a h1 with⟨m1,k1⟩|⟨k1,e1⟩<;>rcases look y a h2 with⟨m2,k2⟩|⟨k2,e2⟩
  ·exact name_of_addr apart m1 m2
  ·exact absurd (qg (cold y a e2) (qCM (cells x a m1).2)) (qBE _)
  ·exact absurd (qg (cold x a e1) (qCM (cells y a m2).2)) (qBE _)
  ·exact I.ok.inj x y a e1 e2
 case has=>
  intro x hx
  have hx':(∃k,scope.names.lookup x=some k/\(k=.cell\/k=.free)):=by
   rcases hx with hx|hx
   ·obtain⟨k,e,q⟩:=zgb (env:=X.env) (names:=scope.names) hx
    rcases q with q|⟨q,_⟩
    ·exact⟨k,e,.inl q.symm⟩
    ·exact⟨k,e,.inr q⟩
   ·obtain⟨k,e,q⟩:=zgb (env:=X.env) (names:=scope.names) hx
    rcases q with q|⟨q,_⟩
    ·exact⟨k,e,.inr q.symm⟩
    ·exact⟨k,e,.inr q⟩
  obtain⟨k,e,q⟩:=hx'
  show ∃a,(cellsFrom (s.heap.objs.size+1) scope.names []++clos X.env.cells scope.names []).lookup x=some a
  rcases q with rfl|rfl
  ·obtain⟨a,ha⟩:=zsq (n:=s.heap.objs.size+1) e
   exact⟨a,by rw[zkx,ha];rfl⟩
  ·obtain⟨a,ha⟩:=found _ (qo e) rfl
   exact⟨a,lookF x a (qo e) ha⟩
 case cab=>
  intro x a hx e
  have hx:own.contains x=true:=hx
  have hx':x∈own:=by simpa using hx
  rcases look x a e with⟨m1,_⟩|⟨k1,_⟩
  ·have:=(cells x a m1).2
   show s.heap.objs.size<=a
   omega
  ·have h1:=c.names _ k1
   rcases c.own x hx' with h2|h2
   ·rw[h1]at h2;cases h2
   ·rw[h1]at h2;cases h2
 case exf=>
  intro b hb
  obtain⟨o,e,d⟩:=ho b hb
  refine⟨qk (below b o e),λx a q z=>?_⟩
  subst z
  rcases look x a q with⟨m1,_⟩|⟨k1,e1⟩
  ·exact absurd (qg (below a o e) (qCM (cells x a m1).2)) (qBE _)
  ·obtain⟨v,o',e',d'⟩:=I.cell x a e1
   rw[e]at e'
   cases e'
   exact d v d'
 case noex=>
  intro b o e hb
  rcases(hf b hb).2.2.2.1 with z|z
  ·exact I.ok.noex b o e z
  ·exact absurd (qg (qg (qJ e) I.ok.bsz) z) (qBE _)
 case exfs=>
  intro b hb z
  rcases qc.mp (I.stkSub b z)with q|q
  ·exact(hf b hb).2.1 q
  ·exact(hf b hb).2.2.1 q
 case loc=>
  intro i x v h1 h2 h3
  have h1:N'[i]?=some x:=h1
  rw[c.nm]at h1
  unfold tau at h2
  by_cases hi:i<own.length
  ·rw[qAN (by simpa using hi),qR]at h2
   cases q:own[i]? with
   | none=>rw[q]at h2;cases h2
   | some z=>rw[q]at h2;cases h2
  ·rw[qAU (by simpa using hi),qR,qF]at h2
   rw[qAU (by simpa using hi),qR]at h1
   cases q:fr[i - own.length]? with
   | none=>rw[q]at h2;cases h2
   | some j=>
    rw[q]at h1 h2
    have e1:X.N.getD j Str.empty=x:=qZ h1
    have e2:σ.getD j none=some v:=qZ h2
    obtain⟨hj,hfree⟩:=c.fr j (qAj q)
    rw[e1]at hfree
    have hNj:X.N[j]?=some x:=by
     rw[<- e1,qAA,qH hj];rfl
    have hσj:σ[j]?=some (some v):=by
     rw[qAA]at e2
     cases z:σ[j]? with
     | none=>rw[z]at e2;cases e2
     | some w=>rw[z]at e2;rw[show w=some v from e2]
    have hmem:(x,NameKind.free)∈scope.names:=qo hfree
    have hup:=c.up _ hmem rfl
    obtain⟨m,hn,hl⟩:=I.loc
    obtain⟨u,ru,lk⟩:=hl j x v hNj hσj (by rcases hup with z|z;exact .inr (.inl z);exact .inr (.inr z))
    refine⟨u,ru,.inr ⟨?_,?_⟩⟩
    ·rcases zjv (env:=X.env) (names:=scope.names) hfree with z|z
     ·exact .inr z
     ·exact .inl z
    ·rcases lk with⟨k1,_⟩|⟨_,a,ha,hc⟩
     ·rcases hup with z|z
      ·rw[show X.env.kindOf x=some .cell from z]at k1;cases k1
      ·rw[show X.env.kindOf x=some .free from z]at k1;cases k1
     ·exact⟨a,lookF x a hmem ha,hc.keeps keep⟩
 case cell=>
  intro x a e
  rcases look x a e with⟨m1,_⟩|⟨k1,e1⟩
  ·exact⟨_,(cells x a m1).1⟩
  ·obtain⟨v,q⟩:=I.cell x a e1
   exact⟨v,q.keeps keep⟩
 case freeC=>
  intro x a e
  rcases look x a e with⟨m1,_⟩|⟨k1,e1⟩
  ·exact I.hok.fresh (by have:=(cells x a m1).2;omega)
  ·exact I.freeC x a e1
 case pin=>intro p hp;exact absurd (show p∈([]:List (Addr×Obj))from hp) (by simp)
 case len=>
  show(tau own fr σ).length=N'.length
  rw[c.nm];unfold tau;simp
end
noncomputable abbrev TM:=St->Hp->(St->Hp->Prop)->Prop
noncomputable def PM(X:Cx)(act:Sem Unit)(t:TM):Prop:=
 ∀(pins:List (Addr×Obj))(s:Shared)(σ:St)(H:Hp)(Q:St->Hp->Prop),Inv X pins σ H s->t σ H Q->wpAny (model X.prog X.w) X.A act (λ_ s'=>∃σ' H',Inv X pins σ' H' s'/\Q σ' H') X.xe s
noncomputable def PF(X:Cx)(ifs:List Expr)(t:TT):Prop:=
 ∀(pins:List (Addr×Obj))(s:Shared)(σ:St)(H:Hp)(Q:Bool->Hp->Prop),Inv X pins σ H s->t σ H Q->
  wpAny (model X.prog X.w) X.A (forIn ifs true λc r=>if r=true then do let ok <- isTrue c X.env (eval c X.env);pure (ForInStep.yield ok)else pure (ForInStep.yield r)) (TP X pins σ Q) X.xe s
noncomputable def tAll:TT:=λ_ H Q=>Q true H
section
variable{X:Cx}
theorem zaqz:PF X [] tAll:=λ_ s σ H Q I h=>wpAny_tests_nil ⟨H,I,h⟩
noncomputable def zabx(p:Addr)(te:TE):TM:=λσ H Q=>te σ H λv H1=>∃ys,H1 p=some (.lst ys)/\ys.length<qV/\Q σ (upd H1 p (.lst (ys++[v])))
theorem zxx{elt:Expr}{te:TE}{p:Addr}(h:PE X elt te):PM X (do let _ <- call (.builtin "list.append") [.ref p,<- eval elt X.env]) (zabx p te):=by
 intro pins s σ H Q I q
 refine qC (thn (h pins s σ H _ I q) λu s1 ⟨v,H1,I1,r,ys,hp,hz,q1⟩=>?_)
 refine qC (thn (zdg pins s1 σ H1 (.ref p) [v] (.ref p) [u] (λ_ H2=>Q σ H2) I1 rfl (.cons r .nil) ⟨p,ys,v,rfl,rfl,hp,hz,q1⟩) λ_ s2 ⟨_,H2,I2,_,q2⟩=>?_)
 exact qI ⟨σ,H2,I2,q2⟩
noncomputable def zaik(J:It)(g:TG)(tt:TT)(tm:TM):TM:=λσ H Q=>∃W:Nat->Nat->St->Hp->Prop,(∃m,W 0 m σ H)/\∀i m σ H,W i m σ H->
 (J.stop i H/\Q σ H)\/(J.go i H/\∃N:St->Hp->Prop,(∀σ' H',N σ' H'->∃m',m'<m/\W (i+1) m' σ' H')/\∀x H',J.yld i H x H'->g x σ H' λσ2 H2=>tt σ2 H2 λb H3=>if b=true then tm σ2 H3 N else N σ2 H3)
theorem zpe{elt0:Expr}{gens:List Comprehension}{scope:Scope}{cpos:Pos}{depth:Nat}{target:Expr}{ifs:List Expr}{emit:Sem Unit}{acc:Value}{ip:Pos}{it:Addr}{fp:List Addr}{tn:Nat->Heap->Prop}{J:It}{g:TG}{tt:TT}{tm:TM}{pins:List (Addr×Obj)}{σ:St}{H:Hp}{s:Shared}{Q:St->Hp->Prop}
  (hx:X.xe=λ_ _=>False)(hc:X.calm=true)
  (eq:compTurn (.ListComp elt0 gens scope cpos) depth (.ref it) acc X.env=(do
   standAt ip
   match <- pyNext (.ref it)with
   | none=>pure (.done .next)
   | some v=>
    letOwnedTupleGo target (.ref it) v
    assign target X.env v
    let mut ok:=true
    for c in ifs do
     if ok then ok <- isTrue c X.env (eval c X.env)
    if ok then emit
    again (.compLoop (.ListComp elt0 gens scope cpos) depth (.ref it) acc X.env)))
  (T:Turn X.prog X.w X.K target J fp it tn)(hg:PG X target g)(ht:PF X ifs tt)(hm:PM X emit tm)
  (I:Inv X pins σ H s)(st:tn 0 s.heap)(hf:∀b∈fp,FpOk X pins H b)(h:zaik J g tt tm σ H Q) :
  codeAny (model X.prog X.w) X.A (.compLoop (.ListComp elt0 gens scope cpos) depth (.ref it) acc X.env) (λr s'=>r=.ok .next/\∃σ' H',Inv X pins σ' H' s'/\Q σ' H') s:=by
 obtain⟨W,⟨m0,w0⟩,turn⟩:=h
 have stat:∀{H':Hp},(∀b∈fp,H' b=none)->∀b∈fp,FpOk X pins H' b:=λhn b hb=>⟨hn b hb,(hf b hb).2⟩
 have xe:∀{α:Type}{m:Sem α}{Q':α->Shared->Prop}{E:Value->Shared->Prop}{s:Shared},wpAny (model X.prog X.w) X.A m Q' X.xe s->wpAny (model X.prog X.w) X.A m Q' E s:=λq=>qA7 q (λ_ _ z=>z) λ_ _ z=>by rw[hx]at z;exact z.elim
 refine codeAny_loop rfl (λn s'=>∃i σ' H',Inv X pins σ' H' s'/\tn i s'.heap/\(∀b∈fp,H' b=none)/\W i n σ' H') ?_ m0 ⟨0,σ,H,I,st,λb hb=>(hf b hb).1,w0⟩
 rintro n s3 ⟨i,σ3,H3,I3,st3,fr3,w3⟩
 show wpAny _ X.A ((compTurn (.ListComp elt0 gens scope cpos) depth (.ref it) acc X.env).onRaise (λx=>do noteFrame x X.env;theTreesLotGoes x)) _ _ s3
 refine wpAny_noted ?_
 rw[eq]
 refine qC (qBe (qC ?_))
 rcases turn i n σ3 H3 w3 with⟨stop,qn⟩|⟨go,N,hN,step⟩
 ·refine thn (T.done X rfl rfl rfl hc i pins s3 σ3 H3 _ I3 (stat fr3) st3 stop) λr s4 ⟨hr,I4⟩=>?_
  subst hr
  exact qI ⟨rfl,σ3,H3,I4,qn⟩
 ·refine thn (T.item X rfl rfl rfl hc i pins s3 σ3 H3 _ I3 (stat fr3) st3 go) λr s4 ⟨u,hr,h4⟩=>?_
  subst hr
  refine qC (thn h4 λ_ s5 ⟨x,H5,I5,r5,y5,st5,fr5⟩=>?_)
  have I5':=I5.pinned (stat fr5) (T.obj _ _ st5)
  refine qC (xe (thn (hg _ s5 σ3 H5 x u _ I5' r5 (step x H5 y5)) λ_ s6 ⟨σ6,H6,I6,q6⟩=>?_))
  have again:∀{σ7:St}{H7:Hp}{s7:Shared},Inv X (pins++zud fp s5.heap) σ7 H7 s7->N σ7 H7->∃m,m<n/\∃i σ' H',Inv X pins σ' H' s7/\tn i s7.heap/\(∀b∈fp,H' b=none)/\W i m σ' H':=λ{σ7 H7 s7} I7 n7=>by
   obtain⟨m',hm,w7⟩:=hN σ7 H7 n7
   refine⟨m',hm,i+1,σ7,H7,I7.unpinned,T.keep _ _ _ st5 λb hb o e=>(I7.pin (b,o) (qb _ (qb _ (zkw hb e)))).1,λb hb=>?_,w7⟩
   obtain⟨o,e,d⟩:=T.obj _ _ st5 b hb
   exact(I7.pin (b,o) (qb _ (qb _ (zkw hb e)))).2.1
  refine qC (xe (thn (ht _ s6 σ6 H6 _ I6 q6) λok s7 ⟨H7,I7,q7⟩=>?_))
  cases ok with
  | false=>
   rw[if_neg (by decide)]at q7
   exact qI ⟨rfl,again I7 q7⟩
  | true=>
   rw[if_pos rfl]at q7
   refine qC (xe (thn (hm _ s7 σ6 H7 _ I7 q7) λ_ s8 ⟨σ8,H8,I8,q8⟩=>?_))
   exact qI ⟨rfl,again I8 q8⟩
end
section
variable{X:Cx}{pins:List (Addr×Obj)}{σ:St}{H:Hp}{s:Shared}{scope:Scope}{N' own:List Str}{fr:List Nat}
theorem zro{elt0 target iter:Expr}{ifs:List Expr}{rest:List Comprehension}{cpos:Pos}{g:TG}{tt:TT}{tm:Addr->TM}{emit:Value->Env->Sem Unit}{it:Addr}{fp:List Addr}{tn:Nat->Heap->Prop}{J:It}{Q:VK}{E:Value->Shared->Prop}{RR:Value->Addr->Result->Shared->Prop}
  (c:CompOk X scope N' own fr)(hc:X.calm=true)
  (eq:∀it acc env,compTurn (.ListComp elt0 (⟨target,iter,ifs,0⟩::rest) scope cpos) 0 it acc env=(do
   standAt iter.pos
   match <- pyNext it with
   | none=>pure (.done .next)
   | some v=>
    letOwnedTupleGo target it v
    assign target env v
    let mut ok:=true
    for c in ifs do
     if ok then ok <- isTrue c env (eval c env)
    if ok then emit acc env
    again (.compLoop (.ListComp elt0 (⟨target,iter,ifs,0⟩::rest) scope cpos) 0 it acc env)))
  (T:Turn X.prog X.w X.K target J fp it tn)
  (hb:∀(cl:List (Str×Addr)) (C:Addr) (s:Shared) (H:Hp) (fp:List Addr) (p:Addr),PG (cxComp X scope N' own cl C s H fp) target g/\PF (cxComp X scope N' own cl C s H fp) ifs tt/\PM (cxComp X scope N' own cl C s H fp) (emit (.ref p) (compEnvC scope cl C X.env)) (tm p))
  (I:Inv X pins σ H s)(st:tn 0 s.heap)(hf:∀b∈fp,FpOk X pins H b)
  (h:∀p,H p=none->zaik J g tt (tm p) (tau own fr σ) (upd H p (.lst [])) (λ_ H'=>Q (.ref p) H'))
  (hRR:∀(p C:Addr) (m:Str->Option Value) (H':Hp) (s':Shared),Inv X pins σ H' s'->s'.heap.Ns C m->FpOk X pins H' C->Q (.ref p) H'->RR (.ref p) C (.ok .next) s') :
  wpAny (model X.prog X.w) X.A (newList []) (λacc s₃=>wpAny (model X.prog X.w) X.A (newFunctionEnv scope X.env.globals (clos X.env.cells scope.names []) [] X.env.qual none .none (some X.env)) (λcenv s₄=>
   codeAny (model X.prog X.w) X.A (.compStart (.ListComp elt0 (⟨target,iter,ifs,0⟩::rest) scope cpos) 0 (.ref it) acc {cenv with scope:=relabel scope X.env}) (RR acc cenv.locals) s₄) E s₃) E s:=by
 refine qA2 ?_
 have I3:Inv X pins σ (upd H s.heap.objs.size (.lst [])) {s with heap:=s.heap.push {cls:=.type "list",dict:=none,data:=.seq ([]:List Value).toArray}}:=I.lnew (t':=s.toks) .nil (qAv _)
 have hn0:H s.heap.objs.size=none:=I.hok.fresh (qL _)
 generalize e3:({s with heap:=s.heap.push {cls:=.type "list",dict:=none,data:=.seq ([]:List Value).toArray}}:Shared)=s3 at I3 ⊢
 have k3:∀b o,s.heap.get? b=some o->s3.heap.get? b=some o:=λb o e=>by rw[<- e3];exact qD _ e
 have hne:∀b∈fp,b≠s.heap.objs.size:=λb hb=>by
  obtain⟨o,e,_⟩:=T.obj _ _ st b hb
  exact qk (qJ e)
 have hf3:∀b∈fp,FpOk X pins (upd H s.heap.objs.size (.lst [])) b:=λb hb=>⟨by rw[zar (hne b hb)];exact(hf b hb).1,(hf b hb).2⟩
 have st3:tn 0 s3.heap:=T.keep _ _ _ st λb _ o e=>k3 b o e
 refine zabw λh' keep ns cells apart=>?_
 have I4:=zaij c I3 hf3 (T.obj _ _ st3) keep ns cells apart
 have st4:tn 0 h':=T.keep _ _ _ st3 λb _ o e=>keep b o e
 obtain⟨hg,ht,hm⟩:=hb (cellsFrom (s3.heap.objs.size+1) scope.names []++clos X.env.cells scope.names []) s3.heap.objs.size s3 (upd H s.heap.objs.size (.lst [])) fp s.heap.objs.size
 have hf4:∀b∈fp,FpOk (cxComp X scope N' own (cellsFrom (s3.heap.objs.size+1) scope.names []++clos X.env.cells scope.names []) s3.heap.objs.size s3 (upd H s.heap.objs.size (.lst [])) fp) [] (upd H s.heap.objs.size (.lst [])) b:=λb hb=>
  ⟨(hf3 b hb).1,(I4.ok.exf b hb).1,I4.ok.exfs b hb,.inl hb,(I4.ok.exf b hb).2,λp hp=>absurd (show p∈([]:List (Addr×Obj))from hp) (by simp)⟩
 have loop:codeAny (model X.prog X.w) X.A (.compLoop (.ListComp elt0 (⟨target,iter,ifs,0⟩::rest) scope cpos) 0 (.ref it) (.ref s.heap.objs.size) (compEnvC scope (cellsFrom (s3.heap.objs.size+1) scope.names []++clos X.env.cells scope.names []) s3.heap.objs.size X.env)) (RR (.ref s.heap.objs.size) s3.heap.objs.size) {s3 with heap:=h'}:=by
  refine qBc (zpe (X:=cxComp X scope N' own (cellsFrom (s3.heap.objs.size+1) scope.names []++clos X.env.cells scope.names []) s3.heap.objs.size s3 (upd H s.heap.objs.size (.lst [])) fp) (pins:=[]) rfl hc (eq _ _ _) T hg ht hm I4 st4 hf4 (h _ hn0)) λr s5 hr=>?_
  obtain⟨rfl,σ5,H5,I5,q5⟩:=hr
  obtain⟨m,hn,_⟩:=id I5.loc
  have u5:Un (frs X.stack) fp (upd H s.heap.objs.size (.lst [])) H5 s3.heap s5.heap:=I5.base
  have hok5:HOk X.prog X.w H5 s5.heap:=I5.hok
  have os5:s5.os=s3.os:=I5.os
  have bare5:=I5.bare
  have free5:H5 s3.heap.objs.size=none:=I5.free
  have hn:s5.heap.Ns s3.heap.objs.size m:=hn
  clear I5
  obtain⟨hh,gg,dd,tk,os'⟩:=s5
  obtain rfl:os'=s3.os:=os5
  have I6:Inv X pins σ H5 {s3 with heap:=hh,gens:=gg,drawn:=dd,toks:=tk}:=I3.call (ch:=fp) u5 hok5 bare5 λb hb=>⟨(hf3 b hb).2.2.2.1,(hf3 b hb).2.1,(hf3 b hb).2.2.2.2.1,(hf3 b hb).2.2.2.2.2⟩
  exact hRR _ _ m H5 _ I6 hn (I3.fpOk (qL _) free5) q5
 exact codeAny_compStart_list loop (T.self _ 0 _ _ _ st4 loop)
noncomputable def zail(wi:TI)(g:TG)(tt:TT)(tm:Addr->TM)(own:List Str)(fr:List Nat):TE:=λσ H Q=>wi σ H λJ H1=>∀p,H1 p=none->zaik J g tt (tm p) (tau own fr σ) (upd H1 p (.lst [])) (λ_ H'=>Q (.ref p) H')
theorem zzp{elt0 target iter:Expr}{ifs:List Expr}{rest:List Comprehension}{cpos:Pos}{wi:TI}{g:TG}{tt:TT}{tm:Addr->TM}{emit:Value->Env->Sem Unit}(c:CompOk X scope N' own fr)(hc:X.calm=true)
  (eq:∀it acc env,compTurn (.ListComp elt0 (⟨target,iter,ifs,0⟩::rest) scope cpos) 0 it acc env=(do
   standAt iter.pos
   match <- pyNext it with
   | none=>pure (.done .next)
   | some v=>
    letOwnedTupleGo target it v
    assign target env v
    let mut ok:=true
    for c in ifs do
     if ok then ok <- isTrue c env (eval c env)
    if ok then emit acc env
    again (.compLoop (.ListComp elt0 (⟨target,iter,ifs,0⟩::rest) scope cpos) 0 it acc env)))
  (hi:PI X target iter wi)
  (hb:∀(cl:List (Str×Addr)) (C:Addr) (s:Shared) (H:Hp) (fp:List Addr) (p:Addr),PG (cxComp X scope N' own cl C s H fp) target g/\PF (cxComp X scope N' own cl C s H fp) ifs tt/\PM (cxComp X scope N' own cl C s H fp) (emit (.ref p) (compEnvC scope cl C X.env)) (tm p))
  (hs:∀x,foldedSetIterable iter X.env x=pure x:=by intro _;rfl) :
  PE X (.ListComp elt0 (⟨target,iter,ifs,0⟩::rest) scope cpos) (zail wi g tt tm own fr):=by
 intro pins s σ H Q I h
 rw[eval_ListComp]
 refine qDH (use:=none) rfl hs (zmd (znd c I.ok)) c.kind (λy hy e=>(c.names y hy).trans (by rw[e])) ?_
 refine thn (hi pins s σ H _ I h) λv s1 h1=>thn h1 λitv s2 h2=>?_
 obtain⟨it,fp,tn,J,H2,e,I2,T,st2,f2,q⟩:=h2
 subst e
 refine zro (Q:=Q) c hc eq T hb I2 st2 f2 q λp C m H' s' I' hn hC q'=>?_
 exact⟨m,hn,λh' sb=>⟨.ref p,H',I'.turned (t':=s'.toks) (λb o hb e=>(sb.2 b hb).trans e) hC.1 hC.2.1 hC.2.2.2.1 hC.2.2.2.2.1 hC.2.2.2.2.2,rfl,q'⟩⟩
noncomputable def zara(wi:TI)(g:TG)(tt:TT)(tm:Addr->TM)(own:List Str)(fr:List Nat)(i:Nat):TS:=λD σ H=>zail wi g tt tm own fr σ H λv H'=>D.nx (σ.set i (some v)) H'
theorem zaim{elt0 target iter:Expr}{ifs:List Expr}{rest:List Comprehension}{cpos spos py:Pos}{wi:TI}{g:TG}{tt:TT}{tm:Addr->TM}{emit:Value->Env->Sem Unit}{i:Nat}{y:Str}(c:CompOk X scope N' own fr)(hc:X.calm=true)
  (eq:∀it acc env,compTurn (.ListComp elt0 (⟨target,iter,ifs,0⟩::rest) scope cpos) 0 it acc env=(do
   standAt iter.pos
   match <- pyNext it with
   | none=>pure (.done .next)
   | some v=>
    letOwnedTupleGo target it v
    assign target env v
    let mut ok:=true
    for c in ifs do
     if ok then ok <- isTrue c env (eval c env)
    if ok then emit acc env
    again (.compLoop (.ListComp elt0 (⟨target,iter,ifs,0⟩::rest) scope cpos) 0 it acc env)))
  (hi:PI X target iter wi)
  (hb:∀(cl:List (Str×Addr)) (C:Addr) (s:Shared) (H:Hp) (fp:List Addr) (p:Addr),PG (cxComp X scope N' own cl C s H fp) target g/\PF (cxComp X scope N' own cl C s H fp) ifs tt/\PM (cxComp X scope N' own cl C s H fp) (emit (.ref p) (compEnvC scope cl C X.env)) (tm p))
  (hsw:swapsWith (.ListComp elt0 (⟨target,iter,ifs,0⟩::rest) scope cpos) (some (.Name y py)) spos.line X.env=pure true)
  (hN:X.N.Nodup)(hy:X.N[i]?=some y)(hl:X.env.scope.names.lookup y=some .local)
  (hs:∀x,foldedSetIterable iter X.env x=pure x:=by intro _;rfl) :
  PS X (.Assign [.Name y py] (.ListComp elt0 (⟨target,iter,ifs,0⟩::rest) scope cpos) spos) (zara wi g tt tm own fr i):=by
 intro pins s σ H D I h
 rw[exec_Assign_Name_used _ _ _ _ hsw]
 refine qC (qBe (qC ?_))
 show wpAny _ X.A (do let _ <- comprehension (.ListComp elt0 (⟨target,iter,ifs,0⟩::rest) scope cpos) scope X.env _ (newList []) false (eval iter X.env) (some (assign (.Name y py) X.env))) _ _ s
 refine qC (thn (qDH (use:=some (assign (.Name y py) X.env)) (Q:=λ_ s'=>SP X pins D .next s') rfl hs (zmd (znd c I.ok)) c.kind (λy hy e=>(c.names y hy).trans (by rw[e])) ?_) λ_ s' q=>qI (qI q))
 refine thn (hi pins s σ H _ I h) λv s1 h1=>thn h1 λitv s2 h2=>?_
 obtain⟨it,fp,tn,J,H2,e,I2,T,st2,f2,q⟩:=h2
 subst e
 refine zro (Q:=λv H'=>D.nx (σ.set i (some v)) H') c hc eq T hb I2 st2 f2 q λp C m H' s' I' hn hC q'=>?_
 show wpAny _ X.A (assign (.Name y py) X.env (.ref p)) _ _ _
 refine wpAny_assign_Name (zua I' hN hy (.inl hl) (v:=.ref p) rfl (λs'' I'' ⟨a,sb,ha⟩=>?_) (.inr hl))
 have hCa:C≠a:=by
  rcases ha with rfl|ha
  ·exact hC.2.1
  ·exact qAo (hC.2.2.2.2.1 y a ha)
 refine⟨m,hn.sameBut sb hCa,λh' sb'=>⟨σ.set i (some (.ref p)),H',I''.turned (t':=s''.toks) (λb o hb e=>(sb'.2 b hb).trans e) hC.1 hC.2.1 hC.2.2.2.1 hC.2.2.2.2.1 hC.2.2.2.2.2,q'⟩⟩
end
section
variable{X:Cx}
section
variable{scope:Scope}{N' own:List Str}{fr:List Nat}{elt target iter:Expr}{ifs:List Expr}{cpos:Pos}{wi:TI}{g:TG}{tt:TT}{te:TE}
noncomputable def tComp1(wi:TI)(g:TG)(tt:TT)(te:TE)(own:List Str)(fr:List Nat):TE:=zail wi g tt (λp=>zabx p te) own fr
theorem zain(c:CompOk X scope N' own fr)(hc:X.calm=true)(hi:PI X target iter wi)
  (hb:∀(cl:List (Str×Addr)) (C:Addr) (s:Shared) (H:Hp) (fp:List Addr),PG (cxComp X scope N' own cl C s H fp) target g/\PF (cxComp X scope N' own cl C s H fp) ifs tt/\PE (cxComp X scope N' own cl C s H fp) elt te)
  (hs:∀x,foldedSetIterable iter X.env x=pure x:=by intro _;rfl):PE X (.ListComp elt [⟨target,iter,ifs,0⟩] scope cpos) (tComp1 wi g tt te own fr):=
 zzp (emit:=λacc env=>do let _ <- call (.builtin "list.append") [acc,<- eval elt env]) c hc (λ_ _ _=>rfl) hi
  (λcl C s H fp p=>⟨(hb cl C s H fp).1,(hb cl C s H fp).2.1,zxx (hb cl C s H fp).2.2⟩) hs
noncomputable def tAsgC1(wi:TI)(g:TG)(tt:TT)(te:TE)(own:List Str)(fr:List Nat)(i:Nat):TS:=zara wi g tt (λp=>zabx p te) own fr i
theorem zaio{spos py:Pos}{i:Nat}{y:Str}(c:CompOk X scope N' own fr)(hc:X.calm=true)(hi:PI X target iter wi)
  (hb:∀(cl:List (Str×Addr)) (C:Addr) (s:Shared) (H:Hp) (fp:List Addr),PG (cxComp X scope N' own cl C s H fp) target g/\PF (cxComp X scope N' own cl C s H fp) ifs tt/\PE (cxComp X scope N' own cl C s H fp) elt te)
  (hsw:swapsWith (.ListComp elt [⟨target,iter,ifs,0⟩] scope cpos) (some (.Name y py)) spos.line X.env=pure true)
  (hN:X.N.Nodup)(hy:X.N[i]?=some y)(hl:X.env.scope.names.lookup y=some .local)
  (hs:∀x,foldedSetIterable iter X.env x=pure x:=by intro _;rfl):PS X (.Assign [.Name y py] (.ListComp elt [⟨target,iter,ifs,0⟩] scope cpos) spos) (tAsgC1 wi g tt te own fr i):=
 zaim (emit:=λacc env=>do let _ <- call (.builtin "list.append") [acc,<- eval elt env]) c hc (λ_ _ _=>rfl) hi
  (λcl C s H fp p=>⟨(hb cl C s H fp).1,(hb cl C s H fp).2.1,zxx (hb cl C s H fp).2.2⟩) hsw hN hy hl hs
end
noncomputable def zatm:R2:=λx y H Q=>∃z n,x=.str z/\y=.int n/\z.length<=1000/\-1000<=n/\n<=1000/\Q (.str (Txt.mul z n)) H
theorem zann:OpR X (binaryOp .Mult) zatm:=by
 intro pins s σ H x y v u Q I rx ry h
 obtain⟨z,n,rfl,rfl,h1,h2,h3,q⟩:=h
 obtain⟨t,rfl⟩:=rx
 obtain⟨t',rfl⟩:=ry
 exact SB.mul (mulOk_of 1000 1000 h1 (by omega) (by omega) (by decide) (by decide)) λt' k=>⟨.str (Txt.mul z n),H,I.tok _,⟨_,rfl⟩,q⟩
noncomputable def rSlS:V->Option Int->Option Int->Hp->VK->Prop:=λx lo hi H Q=>∃z,x=.str z/\z.length<=qV/\Q (.str (Txt.slice z lo hi)) H
theorem zarb:SlR X rSlS:=by
 intro pins s σ H x v vl vu lo hi sl Q I rx hs pl pu h
 obtain⟨z,rfl,hz,q⟩:=h
 obtain⟨t,rfl⟩:=rx
 refine⟨"str",_,F.slot_str_getitem.lookup,typeIs_str _ _ _,?_⟩
 have fin:∀t' k,EP X pins σ Q (.str (Txt.slice z lo hi) t') {s with toks:=k}:=λt' k=>⟨.str (Txt.slice z lo hi),H,I.tok _,⟨_,rfl⟩,q⟩
 have fz:(Txt.slice z lo hi).length<=qV:=qAM (Txt.slice_le z _ _) hz
 cases pl with
 | none=>cases pu with
  | none=>exact qBg (l:=none) (u:=none) (st:=none) hs rfl (qCF ⟨fz,fin⟩)
  | int j tj=>exact qBg (l:=none) (u:=some (j,tj)) (st:=none) hs rfl (qCF ⟨fz,fin⟩)
 | int i ti=>cases pu with
  | none=>exact qBg (l:=some (i,ti)) (u:=none) (st:=none) hs rfl (qCF ⟨fz,fin⟩)
  | int j tj=>exact qBg (l:=some (i,ti)) (u:=some (j,tj)) (st:=none) hs rfl (qCF ⟨fz,fin⟩)
noncomputable def zaea:V->List V->Hp->VK->Prop:=λx vs H Q=>∃d o kvs more,x=.ref d/\vs=[.ref o]/\d≠o/\H d=some (.dK kvs)/\H o=some (.dK more)/\kvs.length+more.length<=qV/\Q .non (upd H d (.dK (zmb kvs more)))
theorem zuq:MtM X "dict.update" zaea:=by
 intro pins s σ H x vs v us Q I rx rv h
 obtain⟨d,o,kvs,more,rfl,rfl,hne,hd,ho,hz,q⟩:=h
 cases rx
 obtain⟨u,rfl,ru⟩:=rv.one
 cases ru
 obtain⟨z1,s1,vs1,rel1,dd1⟩:=zaif I.hok hd
 obtain⟨z2,s2,vs2,rel2,dd2⟩:=zaif I.hok ho
 refine call_meetsIn F.slot_dict_update dd1.typeIs F.entry_dict_update (F.args_dict_update_2 _ _) (meets_dict_update (zds X.prog X.w) d o hne s2) ⟨vs1,vs2,dd1,dd2,?_,λh' h1 h2 sb=>?_⟩
 ·rw[<- rel1.length,<- rel2.length];exact hz
 ·have he:∃q,h'.get? d=some q:=by obtain⟨ob,_,_,e,_⟩:=h1;exact⟨ob,e⟩
  refine⟨.non,_,zst (t':=s.toks) I (by rw[hd];trivial) sb he (zadv (qAM (zix more kvs) hz) s1 (rel2.merge rel1) h1),rfl,q⟩
theorem zaip{id:String}(hid:id="isinstance"):CallR X (.builtin id) (λxs H Q=>∃x n t b,xs=[x,.ty n]/\TyOf X.K H x t/\PySem.W.kitOne X.K t (.type n)=some b/\Q (.bl b) H):=by
 subst hid
 intro pins s σ H xs us Q I r h
 obtain⟨x,n,t,b,rfl,ty,e,q⟩:=h
 obtain⟨u,w',rfl,rx,ry⟩:=zxs r
 cases ry
 exact zadm I rx ty e λtk=>⟨.bl b,H,I.tok _,rfl,q⟩
end
mutual
def Rep(K:qB)(H:Hp):PyData->V->Prop
 | .none,v=>v=.non
 | .bool b,v=>v=.bl b
 | .int i,v=>v=.int i
 | .str x,v=>v=.str x
 | .list ds,v=>∃a xs,v=.ref a/\SqL K H a xs/\Reps K H ds xs
 | .tuple ds,v=>∃a xs,v=.ref a/\SqT K H a xs/\Reps K H ds xs
 | .dict _,_=>False
def Reps(K:qB)(H:Hp):List PyData->List V->Prop
 | [],xs=>xs=[]
 | d::ds,xs=>∃v vs,xs=v::vs/\Rep K H d v/\Reps K H ds vs
end
mutual
theorem zjw{X:Cx}{pins:List (Addr×Obj)}{σ:St}{H:Hp}{s:Shared}(I:Inv X pins σ H s):∀(d:PyData){v:V}{u:Value},Rep X.K H d v->RelV v u->∃as,Reads s.heap u d as
 | .none,v,u,h,r=>by unfold Rep at h;subst h;cases r;exact⟨_,.none⟩
 | .bool b,v,u,h,r=>by unfold Rep at h;subst h;cases r;exact⟨_,.bool b⟩
 | .int i,v,u,h,r=>by unfold Rep at h;subst h;obtain⟨t,rfl⟩:=r;exact⟨_,.int i t⟩
 | .str x,v,u,h,r=>by unfold Rep at h;subst h;obtain⟨t,rfl⟩:=r;exact⟨_,.str x t⟩
 | .list ds,v,u,h,r=>by
  unfold Rep at h
  obtain⟨a,xs,rfl,hq,hr⟩:=h
  cases r
  obtain⟨its,rv,p,hz⟩:=I.list hq
  obtain⟨as,q⟩:=reps_reads I ds hr rv
  obtain⟨o,h1,h2,n,h3⟩:=p.isList
  exact⟨_,reads_list_at h1 h2 h3 (by simpa using q)⟩
 | .tuple ds,v,u,h,r=>by
  unfold Rep at h
  obtain⟨a,xs,rfl,hq,hr⟩:=h
  cases r
  obtain⟨its,rv,p,hz⟩:=I.tuple hq
  obtain⟨as,q⟩:=reps_reads I ds hr rv
  obtain⟨o,h1,h2,n,h3⟩:=p
  exact⟨_,reads_tuple_at h1 h2 h3 (by simpa using q)⟩
 | .dict _,_,_,h,_=>by unfold Rep at h;exact h.elim
theorem reps_reads{X:Cx}{pins:List (Addr×Obj)}{σ:St}{H:Hp}{s:Shared}(I:Inv X pins σ H s):∀(ds:List PyData){vs:List V}{us:List Value},Reps X.K H ds vs->Vals vs us->∃as,ReadsAll s.heap us ds as
 | [],vs,us,h,r=>by unfold Reps at h;subst h;cases r;exact⟨_,.nil⟩
 | d::ds,vs,us,h,r=>by
  unfold Reps at h
  obtain⟨v,vs',rfl,h1,h2⟩:=h
  cases r with
  | cons r rr=>
   obtain⟨as,q1⟩:=zjw I d h1 r
   obtain⟨bs,q2⟩:=reps_reads I ds h2 rr
   exact⟨_,.cons q1 q2⟩
end
theorem SqT.same{K:qB}{H H':Hp}{a:Addr}{xs:List V}(h:Same H H')(q:SqT K H a xs):SqT K H' a xs:=by
 rcases q with(q|⟨o,q⟩)|q
 ·exact .inl (.inl (h _ _ q))
 ·exact .inl (.inr ⟨o,h _ _ q⟩)
 ·exact .inr q
section
variable{X:Cx}
noncomputable def rEqD(K:qB)(neg:Bool):R2:=λx y H Q=>∃d e,Rep K H d x/\Rep K H e y/\qAb d=true/\qAb e=true/\Q (.bl (if neg then !PyData.eqv d e else qAx d e)) H
theorem zarc(hu:X.A.units+64<cLine):OpR X (compareOp .Eq) (rEqD X.K false):=by
 intro pins s σ H x y v u Q I rx ry h
 obtain⟨d,e,hd,he,sd,se,q⟩:=h
 obtain⟨as,r1⟩:=zjw I d hd rx
 obtain⟨bs,r2⟩:=zjw I e he ry
 exact eq_dataH r1 r2 sd se hu ⟨.bl (qAx d e),H,I,rfl,q⟩
theorem zard(hu:X.A.units+64<cLine):OpR X (compareOp .NotEq) (rEqD X.K true):=by
 intro pins s σ H x y v u Q I rx ry h
 obtain⟨d,e,hd,he,sd,se,q⟩:=h
 obtain⟨as,r1⟩:=zjw I d hd rx
 obtain⟨bs,r2⟩:=zjw I e he ry
 exact ne_dataH r1 r2 sd se hu ⟨.bl (!PyData.eqv d e),H,I,rfl,q⟩
theorem zaeb{bs:List Bool}:∀{its:List Value},Vals (bs.map V.bl) its->its=bs.map Value.bool:=by
 induction bs with
 | nil=>intro its r;cases r;rfl
 | cons b bs ih=>
  intro its r
  cases r with
  | cons r rr=>cases r;rw[ih rr];rfl
theorem zaec(bs:List Bool):(List.range bs.length).any (λi=>bs.getD i false)=bs.any id:=by
 rw[qAs,qBQ,qBQ]
 constructor
 ·rintro⟨i,hi,h⟩
  have hi:=qAq.mp hi
  rw[qAA,qH hi]at h
  exact⟨_,qA3 hi,h⟩
 ·rintro⟨b,hb,h⟩
  obtain⟨i,hi,e⟩:=qBo hb
  exact⟨i,qAq.mpr hi,by rw[qAA,qH hi,e];exact h⟩
theorem zaed(bs:List Bool):(List.range bs.length).all (λi=>bs.getD i false)=bs.all id:=by
 rw[qAs,qAV,qAV]
 constructor
 ·intro h b hb
  obtain⟨i,hi,e⟩:=qBo hb
  have q:=h i (qAq.mpr hi)
  rw[qAA,qH hi,e]at q
  exact q
 ·intro h i hi
  have hi:=qAq.mp hi
  have q:=h _ (qA3 hi)
  rw[qAA,qH hi]
  exact q
noncomputable def rAny(K:qB)(f:List Bool->Bool):List V->Hp->VK->Prop:=λxs H Q=>∃p bs,xs=[.ref p]/\SqL K H p (bs.map V.bl)/\Q (.bl (f bs)) H
theorem zaiq(hc:X.calm=true):CallR X (.builtin "any") (rAny X.K λbs=>bs.any id):=by
 intro pins s σ H xs us Q I r h
 obtain⟨p,bs,rfl,hq,q⟩:=h
 obtain⟨u,rfl,ru⟩:=zxr r
 cases ru
 obtain⟨its,rv,pl,hz⟩:=I.list hq
 cases zaeb rv
 have hne:p≠s.heap.objs.size:=by obtain⟨o,e,_⟩:=pl.isList;exact qk (qJ e)
 refine call_any_walk (qA1 pl.isList ⟨s.heap.objs.size,_,_,_,_,_,λi=>bs.getD i false,rfl,Walks.list (A:=X.A.in1) (show X.A.in1.handled=none from I.ok.hd hc) _ p hne (bs.map Value.bool).toArray,⟨⟨_,qa _ rfl,rfl,rfl⟩,?_⟩,?_,?_⟩)
 ·obtain⟨o,e,z⟩:=pl.isList
  exact⟨o,qD _ e,z⟩
 ·intro i v s' Q' E' hv hQ
  have hv:(bs.map Value.bool)[i]?=some v:=by simpa using hv
  rw[qR]at hv
  cases e:bs[i]? with
  | none=>rw[e]at hv;cases hv
  | some b=>
   rw[e]at hv
   cases hv
   have z:bs.getD i false=b:=by rw[qAA,e];rfl
   have hQ:Q' (bs.getD i false) s':=hQ
   rw[z]at hQ
   exact qBi hQ
 ·intro h' tk hk
  refine⟨.bl (bs.any id),H,?_,by rw[<- zaec bs];simp;rfl,q⟩
  exact I.kept (t':=tk) λb o e=>hk b o (by have:=qJ e;simp;exact qk this) (qD _ e)
theorem zair(hc:X.calm=true):CallR X (.builtin "all") (rAny X.K λbs=>bs.all id):=by
 intro pins s σ H xs us Q I r h
 obtain⟨p,bs,rfl,hq,q⟩:=h
 obtain⟨u,rfl,ru⟩:=zxr r
 cases ru
 obtain⟨its,rv,pl,hz⟩:=I.list hq
 cases zaeb rv
 have hne:p≠s.heap.objs.size:=by obtain⟨o,e,_⟩:=pl.isList;exact qk (qJ e)
 refine call_all_walk (qA1 pl.isList ⟨s.heap.objs.size,_,_,_,_,_,λi=>bs.getD i false,rfl,Walks.list (A:=X.A.in1) (show X.A.in1.handled=none from I.ok.hd hc) _ p hne (bs.map Value.bool).toArray,⟨⟨_,qa _ rfl,rfl,rfl⟩,?_⟩,?_,?_⟩)
 ·obtain⟨o,e,z⟩:=pl.isList
  exact⟨o,qD _ e,z⟩
 ·intro i v s' Q' E' hv hQ
  have hv:(bs.map Value.bool)[i]?=some v:=by simpa using hv
  rw[qR]at hv
  cases e:bs[i]? with
  | none=>rw[e]at hv;cases hv
  | some b=>
   rw[e]at hv
   cases hv
   have z:bs.getD i false=b:=by rw[qAA,e];rfl
   have hQ:Q' (bs.getD i false) s':=hQ
   rw[z]at hQ
   exact qBi hQ
 ·intro h' tk hk
  refine⟨.bl (bs.all id),H,?_,by rw[<- zaed bs];simp;rfl,q⟩
  exact I.kept (t':=tk) λb o e=>hk b o (by have:=qJ e;simp;exact qk this) (qD _ e)
end
noncomputable def zaee(o:Option NameKind):Bool:=o==some .cell||o==some .free
noncomputable def zaef(sc:Scope)(N:List Str)(scope:Scope)(N' own:List Str)(fr:List Nat):Bool:=
 (scope.kind==.function)&&(scope.names.all λy=>scope.names.lookup y.1==some y.2)&&(scope.names.all λy=>!(y.2==.free)||zaee (sc.names.lookup y.1))&&
 (N'==own++fr.map λj=>N.getD j Str.empty)&&(fr.all λj=>decide (j<N.length)&&(scope.names.lookup (N.getD j Str.empty)==some .free))&&
 (own.all λx=>scope.names.lookup x==some .local||scope.names.lookup x==some .cell)
section
variable{X:Cx}
theorem zek{scope:Scope}{N' own:List Str}{fr:List Nat}(h:zaef X.env.scope X.N scope N' own fr=true):CompOk X scope N' own fr:=by
 unfold zaef at h
 simp only[qx]at h
 obtain⟨⟨⟨⟨⟨h1,h2⟩,h3⟩,h4⟩,h5⟩,h6⟩:=h
 refine⟨eq_of_beq h1,λy hy=>eq_of_beq (qAV.mp h2 y hy),λy hy e=>?_,eq_of_beq h4,λj hj=>?_,λx hx=>?_⟩
 ·have q:=qAV.mp h3 y hy
  rw[e]at q
  have q:zaee (X.env.scope.names.lookup y.1)=true:=by simpa using q
  unfold zaee at q
  rcases qBr.mp q with z|z
  ·exact .inl (eq_of_beq z)
  ·exact .inr (eq_of_beq z)
 ·have q:=qAV.mp h5 j hj
  rw[qx]at q
  exact⟨of_decide_eq_true q.1,eq_of_beq q.2⟩
 ·have q:=qAV.mp h6 x hx
  rcases qBr.mp q with z|z
  ·exact .inl (eq_of_beq z)
  ·exact .inr (eq_of_beq z)
noncomputable def zais(K:qB):R2:=λx y H Q=>match x,y with
 | .int i,.int j=>Q (.int (i+j)) H
 | .str a,.str b=>a.length+b.length<=qV/\Q (.str (a++b)) H
 | .ref _,.ref _=>rCat x y H Q\/zaqp K x y H Q
 | _,_=>False
theorem zaeg:OpR X (binaryOp .Add) (zais X.K):=by
 intro pins s σ H x y v u Q I rx ry h
 cases x<;>cases y<;>first
  | exact h.elim
  | exact zaqi pins s σ H _ _ v u Q I rx ry ⟨_,_,rfl,rfl,h⟩
  | exact zabr pins s σ H _ _ v u Q I rx ry ⟨_,_,rfl,rfl,h.1,h.2⟩
  | exact(zaqw.or zand) pins s σ H _ _ v u Q I rx ry h
noncomputable def zare:R2:=λx y H Q=>match x,y with
 | .int i,.int j=>CMul i j/\Q (.int (i * j)) H
 | .str z,.int n=>z.length<=1000/\-1000<=n/\n<=1000/\Q (.str (Txt.mul z n)) H
 | _,_=>False
theorem ziy:OpR X (binaryOp .Mult) zare:=by
 intro pins s σ H x y v u Q I rx ry h
 cases x<;>cases y<;>first
  | exact h.elim
  | exact zaqj pins s σ H _ _ v u Q I rx ry ⟨_,_,rfl,rfl,h.1,h.2⟩
  | exact zann pins s σ H _ _ v u Q I rx ry ⟨_,_,rfl,rfl,h.1,h.2.1,h.2.2.1,h.2.2.2⟩
noncomputable def rIxU(K:qB):R2:=λx y H Q=>match x,y with
 | .str z,.int i=>z.length<=qV/\∃c,atI z.cps.toList i=some c/\Q (.str ⟨#[c]⟩) H
 | .ref p,.int i=>∃xs v,(SqL K H p xs\/SqT K H p xs)/\atI xs i=some v/\Q v H
 | _,_=>False
theorem ix_U:IxR X (rIxU X.K):=by
 intro value slice pins s σ H x y v u Q I rx ry h hs
 cases x<;>cases y<;>first
  | exact h.elim
  | (obtain⟨h1,c,h2,h3⟩:=h;exact zaqs value slice pins s σ H _ _ v u Q I rx ry ⟨_,_,c,rfl,rfl,h1,h2,h3⟩ hs)
  | (obtain⟨xs,w,h1,h2,h3⟩:=h
     rcases h1 with h1|h1
     ·exact zanf value slice pins s σ H _ _ v u Q I rx ry ⟨_,xs,_,w,rfl,rfl,h1,h2,h3⟩ hs
     ·exact zaqr value slice pins s σ H _ _ v u Q I rx ry ⟨_,xs,_,w,rfl,rfl,h1,h2,h3⟩ hs)
noncomputable def rSlU(K:qB):V->Option Int->Option Int->Hp->VK->Prop:=λx lo hi H Q=>match x with
 | .str z=>z.length<=qV/\Q (.str (Txt.slice z lo hi)) H
 | .ref _=>rSlL K x lo hi H Q
 | _=>False
theorem sl_U:SlR X (rSlU X.K):=by
 intro pins s σ H x v vl vu lo hi sl Q I rx hs pl pu h
 cases x<;>first
  | exact h.elim
  | exact zarb pins s σ H _ v vl vu lo hi sl Q I rx hs pl pu ⟨_,rfl,h.1,h.2⟩
  | exact zang pins s σ H _ v vl vu lo hi sl Q I rx hs pl pu h
noncomputable def Dn(P:Program)(w:World)(K:qB)(mg:Str->Option Value)(base:Heap)(x:Str)(ps:List Str)(k:Nat)(sp:Sp):Prop:=
 ∃f fd,FnOk P w K mg base CX0 k f fd ps sp/\mg x=some (.ref f)/\qS K (.ref f)=true/\zom K fd ps []
theorem zatn{x:Str}{p pos:Pos}{e:Expr}{es:List Expr}{t:TA}{ps:List Str}{k:Nat}{sp:Sp}(D:Dn X.prog X.w X.K X.mg X.base x ps k sp)(hr:Room k X.A)(hg:Gl X x)(ha:PA X (e::es) t)
  (hdb:(x==("__debug__":Str))=false:=by decide)(he:starEach (e::es) X.env=(false,eval e X.env)::starEach es X.env:=by rfl)(hpl:(backTo pos (starEach es X.env)).any (·.1)=false:=by rfl) :
  PE X (.Call (.Name x p) (e::es) [] pos) (tCall sp [] E0 t):=by
 obtain⟨f,fd,F,hm,hk,hb⟩:=D
 exact zadn F hr hg hm hk hb .nil zatl ha hdb he hpl
end
theorem Same.upd{H H':Hp}{p:Addr}{o:HO}(h:Same H H')(hp:H p=none):Same H (upd H' p o):=λb u e=>by rw[zar (zbe e hp)];exact h b u e
theorem Same.new{H:Hp}{p:Addr}{o:HO}(hp:H p=none):Same H (L2.upd H p o):=(Same.refl H).upd hp
end L2
namespace Bc
open PySem L2
noncomputable abbrev Web:=List (Str×List Str)
noncomputable def nm(W:Web):List Str:=W.map (·.1)
structure WebOk(W:Web):Prop where
 nd:(nm W).Nodup
 el:∀i n es,W[i]?=some (n,es)->∀e∈es,e∈nm (W.take i)
 few:∀p∈W,p.2.length<=4
 len:W.length<=12
theorem zjx{α:Type}[DecidableEq α]:∀(l m:List α),l.Nodup->(∀x∈l,x∈m)->l.length<=m.length
 | [],_,_,_=>qAv _
 | a::l,m,h,s=>by
  obtain⟨h1,h2⟩:=qBH.mp h
  have ha:=s a qm
  have q:=zjx l (m.erase a) h2 λx hx=>(List.mem_erase_of_ne (λ(z:x=a)=>h1 (by rw[<- z];exact hx))).mpr (s x (qK _ hx))
  rw[List.length_erase_of_mem ha]at q
  have:=qC2 ha
  rw[qAQ]
  omega
theorem zrp{W:Web}(h:WebOk W):(nm W).length<=12:=by unfold nm;rw[qF];exact h.len
end Bc
namespace L2
open PySem PySem.Spec PyProof.Rows
section
variable{X:Cx}{K:qB}(hK:X.K=K)
include hK
theorem zano{es:List Expr}{k:Nat}{t:TGs}{n:Nat}{pos:Pos}(hc:X.calm=true)(h:PGs X es t)
  (hn:(assignEach es X.env).length=n:=by rfl) (hst:(assignEach es X.env).findIdx? (·.1)=none:=by rfl):PG X (.Tuple es k pos) (gTup K n t):=by subst hK;exact zaqg hc h hn hst
theorem zdh:IxR X (rIxU K):=by subst hK;exact ix_U
theorem zme:SlR X (rSlU K):=by subst hK;exact sl_U
theorem zbh:OpR X (binaryOp .Add) (zais K):=by subst hK;exact zaeg
theorem zarf:OpR X (compareOp .In) (rIn K false):=by subst hK;exact zads
theorem zpf:OpR X (compareOp .NotIn) (rIn K true):=by subst hK;exact zul
theorem zbg:CallR X (.builtin "len") (λxs H Q=>∃x n,xs=[x]/\LenV K x H n/\Q (.int n) H):=by subst hK;exact zaib
theorem zaeh(hc:X.calm=true):CallR X (.builtin "any") (rAny K λbs=>bs.any id):=by subst hK;exact zaiq hc
theorem zur(hc:X.calm=true):CallR X (.builtin "all") (rAny K λbs=>bs.all id):=by subst hK;exact zair hc
theorem zmf:CallR X (.builtin "isinstance") (λxs H Q=>∃x n t b,xs=[x,.ty n]/\TyOf K H x t/\PySem.W.kitOne K t (.type n)=some b/\Q (.bl b) H):=by subst hK;exact zaip rfl
theorem zdk:CallR X (.type "list") (λxs H Q=>∃p ys,xs=[.ref p]/\(SqL K H p ys\/SqT K H p ys)/\∀l,H l=none->Q (.ref l) (upd H l (.lst ys))):=by subst hK;exact zum
theorem zait{tg l:Expr}{tl:TE}(hl:PE X l tl):PI X tg l (zaqh K tl):=by subst hK;exact zamz hl
theorem zaei{T:String}{name:Str}{id:String}{r:V->List V->Hp->VK->Prop}{o e:Expr}{es:List Expr}{to:TE}{t:TA}{apos cpos:Pos}(pa:PlainAttrs T)(slot:Slot T name id)(hty:typeOf (.builtin id)=pure (.type "method_descriptor"))(hm:MtR X id r)(ho:PE X o to)(ha:PA X (e::es) t)
  (hbase:attributeBase o name X.env (eval o X.env)=eval o X.env:=by rfl)
  (hfew:((backTo cpos (starEach (e::es) X.env)).all (λx=>!x.1)&&(backToKw cpos (keywordEach [] X.env)).all (λx=>x.1.isSome)
   && decide ((e::es).length+([]:List Keyword).length+(if([]:List Keyword).isEmpty then 0 else 1)<30))=true:=by rfl)
  (hline:(apos.endLine==cpos.line)=true:=by rfl)(hs:starEach (e::es) X.env=(false,eval e X.env)::starEach es X.env:=by rfl)(hplain:(backTo cpos (starEach es X.env)).any (·.1)=false:=by rfl) :
  PE X (.Call (.Attribute o name apos) (e::es) [] cpos) (tBM K T r to t):=by subst hK;exact zatj pa slot hty hm ho ha hbase hfew hline hs hplain
end
noncomputable def xcIn(K:qB)(C:Addr):Bool:=match K.lookup C with
 | some ⟨.type "type",_,.cls cd,sl⟩=>(match cd.mro,sl.toList with
  | .ref C'::bm,[_,_,_,_,some (.builtin n),_]=>C'==C&&!cd.hasDel&&cd.hasDict&&n=="ValueError.__new__"&&bm.contains (.type "ValueError")&&bm.contains (.type "BaseException")&&!bm.contains (.type "AttributeError")&&!bm.contains (.type "NameError")
  | _,_=>false)
 | _=>false
theorem zarg{K:qB}{h:Heap}{C:Addr}(X:K.In h)(q:xcIn K C=true):∃nm qn N bs bm sn sub ab col dd k0 k1 k2 k3 k5,
  h.get? C=some (excClassObj nm qn C N bs bm true sn sub ab col dd k0 k1 k2 k3 k5 "ValueError.__new__")/\(Value.ref C::bm).contains (.type "ValueError")=true/\(Value.ref C::bm).contains (.type "BaseException")=true/\(Value.ref C::bm).contains (.type "AttributeError")=false/\(Value.ref C::bm).contains (.type "NameError")=false:=by
 unfold xcIn at q
 split at q
 ·rename_i dd cd sl ho
  split at q
  ·rename_i C' bm k0 k1 k2 k3 n k5 hm hs
   simp only[qx,beq_iff_eq,Bool.not_eq_true']at q
   obtain⟨⟨⟨⟨⟨⟨⟨rfl,hdel⟩,hdc⟩,rfl⟩,hv⟩,hb⟩,ha⟩,hn⟩:=q
   obtain⟨nm,bs,mro,ns,qn,hd,sn,sub,ab,col,del⟩:=cd
   dsimp only at hm hdel hdc
   subst hm hdel hdc
   have hsl:sl=#[k0,k1,k2,k3,some (.builtin "ValueError.__new__"),k5]:=by
    obtain⟨l⟩:=sl
    simp only at hs
    rw[hs]
   subst hsl
   refine⟨nm,qn,ns,bs,bm,sn,sub,ab,col,dd,k0,k1,k2,k3,k5,X _ _ ho,?_,?_,?_,?_⟩
   ·rw[qAS,hv,qAk]
   ·rw[qAS,hb,qAk]
   ·rw[qAS,ha];rfl
   ·rw[qAS,hn];rfl
  ·cases q
 ·cases q
end L2
namespace PySem
open Sem (wp)
section
variable{prog:Program}{w:World}{A:Around}{E:Value->Shared->Prop}{h:Heap}{g:Array GenState}{d:Drawn}{t:Nat}{os:OsState}
variable{nm q:Str}{C N:Addr}{bs bm:List Value}{sn:List Str}{sub:List Value}{ab:Bool}{col:Option Bool}{dd:Option Addr}{k0 k1 k2 k3 k5:Option Value}
theorem zaby{M:Model}{rest:List Value}{Q:Unit->Shared->Prop}(hC:h.get? C=some (excClassObj nm q C N bs bm true sn sub ab col dd k0 k1 k2 k3 k5 "ValueError.__new__"))(hv:(Value.ref C::bm).contains (.type "ValueError")=true)
  (hq:Q () ⟨h,g,d,t,os⟩):wpAny M A (checkBuiltinCall "ValueError.__new__" ⟨.ref C::rest,[]⟩) Q E ⟨h,g,d,t,os⟩:=by
 have F:=qBq
 have f0:=F.noStar
 simp only[checkBuiltinCall,F.newKind,F.newSplit,F.newRow]
 repeat (first|refine qi hC ?_|(refine qAh hC ?_;rw[hv])|refine wpAny_staticBase_exc hC ?_|refine wpAny_madeBy_exc hC ?_|simp only[bne_self_eq_false,qBu,if_false]|wp_step)
 exact hq
theorem zaej{rest:List Value}{R:Result->Shared->Prop}(hC:h.get? C=some (excClassObj nm q C N bs bm true sn sub ab col dd k0 k1 k2 k3 k5 "ValueError.__new__"))(hv:(Value.ref C::bm).contains (.type "ValueError")=true)(ha:(Value.ref C::bm).contains (.type "AttributeError")=false)(hn:(Value.ref C::bm).contains (.type "NameError")=false)
  (hq:R (.ok (.ret (.ref (h.objs.size+1)))) ⟨(h.push {cls:=.type "tuple",data:=.seq rest.toArray}).push {cls:=.ref C,data:=.fields #[.ref h.objs.size,.none,.none,.none,.bool false,.none]},g,d,t,os⟩) (hr:rest.length<=qV) :
  codeAny (model prog w) A (.builtin "ValueError.__new__" ⟨.ref C::rest,[]⟩) R ⟨h,g,d,t,os⟩:=by
 have F:=qBq
 have f0:=F.ends
 refine codeAny_builtinAt F.entry ?_
 unfold Builtin.«BaseException.__new__»
 refine wpAt_bind ?_
 show wpAt _ _ _ (stack >>=_) _ _ _
 refine wpAt_bind (wpAt_stack λp below=>wpAt_of_wpAny ?_)
 wp_walk
 refine wpAt_of_wpAny ?_
 rw[F.owner]
 repeat (first|with_reducible refine wpAny_madeHere_exc F.canon hC ?_|with_reducible refine qi hC ?_|(with_reducible refine qAh hC ?_;first|rw[hv]|rw[ha]|rw[hn])|wp_step)
 show R _ _
 rw[qAz]
 exact hq
theorem zato{rest:List Value}{fI:Addr}{oI:Obj}{Q:Value->Shared->Prop}(hC:h.get? C=some (excClassObj nm q C N bs bm true sn sub ab col dd k0 k1 k2 k3 k5 "ValueError.__new__"))(hv:(Value.ref C::bm).contains (.type "ValueError")=true)(ha:(Value.ref C::bm).contains (.type "AttributeError")=false)(hn:(Value.ref C::bm).contains (.type "NameError")=false)
  (LI:W.Looks (model prog w) h (typeLookup (.ref C) "__init__") (some (.ref fI)))(hfI:h.get? fI=some oI)(hfc:oI.cls=.type "function")(hr:rest.length<=qV)
  (hq:∀h' e,Heap.MadeExcOf h h' e (.ref C) rest->wpAny (model prog w) (A.under (.builtin "type.__call__" ⟨.ref C::rest,[]⟩)) (call (.ref fI) (.ref e::rest)) (λr s'=>r=.none/\Q (.ref e) s') E ⟨h',g,d,t,os⟩) :
  wpAny (model prog w) A (call (.ref C) rest) Q E ⟨h,g,d,t,os⟩:=by
 have F:=qBq
 have f1:=tc_lookup
 have f2:=tc_bind (.ref C)
 have hT:(⟨h,g,d,t,os⟩:Shared).TypeIs (.ref C) "type":=⟨_,hC,rfl⟩
 refine qCG (codeAny_of_tree ?_)
 show wpAny _ _ (callAny (.ref C) _) _ _ _
 repeat (any_goals (first|assumption|with_reducible refine qi hC ?_|wp_step))
 refine⟨rfl,?_⟩
 refine codeAny_call_builtin_at (qCH _ (by decide +kernel)) entry_typeCall (wpAny_check_type_call_sub hC ?_)
 repeat (first|with_reducible refine qi hC ?_|with_reducible refine wpAny_madeBy_exc hC ?_|wp_step)
 refine codeAny_call_builtin_code (qCH _ F.quiet) (zaby hC hv ?_)
 refine zaej hC hv ha hn ?_ hr
 show wpAny _ _ _ _ _ _
 have kp:∀b o,h.get? b=some o->((h.push {cls:=.type "tuple",data:=.seq rest.toArray}).push {cls:=.ref C,data:=.fields #[.ref h.objs.size,.none,.none,.none,.bool false,.none]}).get? b=some o:=λb o e=>qD _ (qD _ e)
 have hC1:=kp _ _ hC
 have he:((h.push {cls:=.type "tuple",data:=.seq rest.toArray}).push {cls:=.ref C,data:=.fields #[.ref h.objs.size,.none,.none,.none,.bool false,.none]}).get? (h.objs.size+1)=some {cls:=.ref C,data:=.fields #[.ref h.objs.size,.none,.none,.none,.bool false,.none]}:=by heap_get
 have hcC:(Value.ref C::bm).contains (.ref C)=true:=by simp
 unfold isInstance
 repeat (first|with_reducible refine qi he ?_|(refine qAh hC1 ?_;rw[hcC])|wp_step)
 show wpAny _ _ (typeLookup (.ref C) _) _ _ _
 refine(LI.keeps kp).here ?_
 refine qCV (qC ?_)
 unfold bindSpecial
 refine qC (qCj (T:="function") ⟨_,kp _ _ hfI,hfc⟩ ?_)
 rw[if_pos (by decide)]
 refine qI (qC (qA7 (hq _ (h.objs.size+1) ⟨kp,qB8 (qCg _),h.objs.size,he,qB8 (qL _),?_⟩) (λr s' hh=>?_) λ_ _ x=>x))
 ·exact qD _ (Heap.get?_push_at rfl rfl)
 ·obtain⟨rfl,hQ⟩:=hh
  wp_walk
  exact hQ
end
open Builtin Builtin.ObjectAttr
noncomputable def vmro:List Value:=[.type "ValueError",.type "Exception",.type "BaseException",.type "object"]
noncomputable def zdw:List Value->Bool
 | .ref _::r=>zdw r
 | l=>l==vmro
theorem zmg(self:Value)(what:Str):∀{l:List Value},zdw l=true->refuseLoop self what l=refuseLoop self what vmro
 | [],h=>by cases h
 | v::r,h=>by
  cases v with
  | ref a=>rw[refuseLoop_ref];exact zmg self what h
  | _=>rw[eq_of_beq (show(_==vmro)=true from h)]
theorem zdc{T:Value}(hT:vmro.contains T=true):∀{l:List Value},zdw l=true->l.contains T=true
 | [],h=>by cases h
 | v::r,h=>by
  cases v with
  | ref a=>rw[qAS,zdc hT (l:=r) h,qAk]
  | _=>rw[eq_of_beq (show(_==vmro)=true from h)];exact hT
section
variable{prog:Program}{w:World}{A:Around}{E:Value->Shared->Prop}{h:Heap}{g:Array GenState}{d:Drawn}{t:Nat}{os:OsState}
variable{nm q:Str}{C N x:Addr}{bs bm:List Value}{sn:List Str}{sub:List Value}{ab:Bool}{col:Option Bool}{dd:Option Addr}{k0 k1 k2 k3 k5:Option Value}{newId:String}{name:Str}{v:Value}
theorem zus{M:Model}{o:Obj}{nameV:Value}{Q:Unit->Shared->Prop}(hr:zdw bm=true)
  (hC:h.get? C=some (excClassObj nm q C N bs bm true sn sub ab col dd k0 k1 k2 k3 k5 newId))(hx:h.get? x=some o)(hc:o.cls=.ref C)(hq:Q () ⟨h,g,d,t,os⟩) :
  wpAny M A (checkBuiltinCall "object.__setattr__" ⟨[.ref x,nameV,v],[]⟩) Q E ⟨h,g,d,t,os⟩:=by
 have SF:=qCQ
 have hcB:(Value.ref C::bm).contains (.type "object")=true:=by rw[qAS,zdc (by decide) hr,qAk]
 have ha:=SF.args (.ref x) nameV v
 simp only[checkBuiltinCall,SF.kind,SF.split]
 refine qC ?_
 ·unfold isInstance
  repeat (first|(with_reducible refine qi hx ?_;rw[hc])|(with_reducible refine qAh hC ?_;rw[hcB])|wp_step)
  exact hq
theorem zut{tk:Tok}{Q:Fin->Shared->Prop}{o:Obj}(hr:zdw bm=true)
  (hC:h.get? C=some (excClassObj nm q C N bs bm true sn sub ab col dd k0 k1 k2 k3 k5 newId))(hx:h.get? x=some o)(hc:o.cls=.ref C)(hnc:∀c,o.data≠.cls c)(hdn:o.dict=none)
  (LA:W.Looks (model prog w) h (typeLookup (.ref C) name) none)
  (hq:∀h' tk' dx,h.objs.size<=dx->h'.Ns1 dx (λy=>if y=name then some v else none)->h'.get? x=some {o with dict:=some dx}->
   (∀b o,b≠x->h.get? b=some o->h'.get? b=some o)->Q (.done (.ret .none)) ⟨h',g,d,tk',os⟩) :
  wpAny (model prog w) A (Builtin.«object.__setattr__» ⟨[.ref x,.str name tk,v],[]⟩) Q E ⟨h,g,d,t,os⟩:=by
 have SF:=qCQ
 have hpass:refuseLoop (.ref x) "__setattr__" bm=pure ():=by rw[zmg _ _ hr];exact SF.passes (.ref x)
 unfold Builtin.«object.__setattr__»
 repeat (first|rw[refuse_eq]|(rw[refuseLoop_ref,hpass])|(with_reducible refine qi hx ?_;rw[hc])|with_reducible refine wpAny_mroOf_exc hC ?_|(with_reducible refine LA.here ?_)|wp_step)
 rw[hdn,if_neg (by simp[typeHasDict])]
 split
 ·rename_i hcd
  cases hcd
 split
 ·rename_i c hcd
  exact absurd hcd (hnc c)
 ·have hx₁:(h.push {cls:=.type "dict",data:=.dict #[]}).get? x=some o:=qD _ hx
  have hxs:x≠h.objs.size:=qk (qJ hx)
  refine qC (wpAny_alloc' ?_)
  refine qC (wpAny_update' hx₁ ?_)
  refine qI ?_
  have hgd:((h.push {cls:=.type "dict",data:=.dict #[]}).update x λo=>{cls:=o.cls,dict:=some h.objs.size,data:=o.data,slots:=o.slots}).get? h.objs.size
    = some {cls:=.type "dict",data:=.dict #[]}:=
   (qDL _ _ _ _ hxs.symm).trans (Heap.get?_push_at rfl rfl)
  have hnd:((h.push {cls:=.type "dict",data:=.dict #[]}).update x λo=>{cls:=o.cls,dict:=some h.objs.size,data:=o.data,slots:=o.slots}).Ns h.objs.size (λ_=>none):=
   ⟨_,#[],_,hgd,rfl,λe he=>absurd he (by simp),λ_=>rfl⟩
  show wpAny _ _ (storeInDict h.objs.size (.str name tk) name v) _ _ _
  unfold storeInDict newKeyGuard
  refine qC (qI (qC (wpAny_nsSet1EFk (Heap.Ns1.of_empty hnd) λh' hn' hs hkeepD=>?_)))
  obtain⟨oD,esD,epD,hoD,hdD,hcD⟩:=hn'.count (Within.cons name v Within.nil)
  refine qC (wpAny_lookBehind hoD (by rw[hdD];exact pastItsLine_dict (qAM hcD (by rw[qAQ,qBI,qBM];omega))) ?_)
  wp_walk
  refine hq h' _ h.objs.size (qL _) hn' ?_ (λb ob hbx hb=>?_)
  ·refine(hs.2 x hxs).trans (qAr _ hx₁ ?_)
   have hfr:=(Heap.get?_some_iff.mp hx).2
   obtain⟨oc,od,odt,osl⟩:=o
   cases odt<;>first|rfl|exact hfr
  ·exact(hs.2 b (qk (qJ hb))).trans ((qDL _ _ _ _ hbx).trans (qD _ hb))
theorem zarh{Q:Unit->Shared->Prop}{o:Obj}(hr:zdw bm=true)
  (hC:h.get? C=some (excClassObj nm q C N bs bm true sn sub ab col dd k0 k1 k2 k3 k5 newId))(hx:h.get? x=some o)(hc:o.cls=.ref C)(hnc:∀c,o.data≠.cls c)(hdn:o.dict=none)
  (LS:W.Looks (model prog w) h (typeLookup (.ref C) "__setattr__") (some (.builtin "object.__setattr__")))(LA:W.Looks (model prog w) h (typeLookup (.ref C) name) none)
  (hq:∀h' tk' dx,h.objs.size<=dx->h'.Ns1 dx (λy=>if y=name then some v else none)->h'.get? x=some {o with dict:=some dx}->
   (∀b o,b≠x->h.get? b=some o->h'.get? b=some o)->Q () ⟨h',g,d,tk',os⟩) :
  wpAny (model prog w) A (setAttr (.ref x) name v) Q E ⟨h,g,d,t,os⟩:=by
 have SF:=qCQ
 have f3:=SF.slot.bind (.ref x)
 unfold setAttr callSpecial? specialOf
 repeat (any_goals (first|assumption|(with_reducible refine qi hx ?_;rw[hc])|(with_reducible refine LS.here ?_)|wp_step))
 refine qBS SF.slot.plain SF.entry (zus hr hC hx hc (zut hr hC hx hc hnc hdn LA λh' tk' dx a1 a2 a3 a4=>?_))
 repeat (any_goals (first|assumption|wp_step))
 exact hq h' tk' dx a1 a2 a3 a4
theorem zatp{Q:Value->Shared->Prop}{o:Obj}{dx:Addr}{vs:Array Value}{mA:Str->Option Value}{expr:Bool}(hr:zdw bm=true)
  (hC:h.get? C=some (excClassObj nm q C N bs bm true sn sub ab col dd k0 k1 k2 k3 k5 newId))(hx:h.get? x=some o)(hc:o.cls=.ref C)(hd:o.data=.fields vs)(hdd:o.dict=some dx)
  (hns:h.Ns dx mA)(hv:mA name=some v)
  (LG:W.Looks (model prog w) h (typeLookup (.ref C) "__getattribute__") (some (.builtin "BaseException.__getattribute__")))(LH:W.Looks (model prog w) h (typeLookup (.ref C) "__getattr__") none)(LA:W.Looks (model prog w) h (typeLookup (.ref C) name) none)
  (hh:W.handedIn v=true)(hq:∀tk',Q v ⟨h,g,d,tk',os⟩) :
  wpAny (model prog w) A (getAttr (.ref x) name expr) Q E ⟨h,g,d,t,os⟩:=by
 have hk:builtinKind "BaseException.__getattribute__"=some .slot:=by decide +kernel
 have hsplit:splitId "BaseException.__getattribute__"=some ("BaseException","__getattribute__"):=by decide +kernel
 have hcB:(Value.ref C::bm).contains (.type "BaseException")=true:=by rw[qAS,zdc (by decide) hr,qAk]
 have hx0:(expr&&onTheHeap (Value.builtin "BaseException.__getattribute__"))=false:=by cases expr<;>rfl
 have hx2:(Value.builtin "BaseException.__getattribute__"==Value.builtin "object.__getattribute__")=false:=by decide +kernel
 have hx1:(onTheHeap (Value.ref C)&&Value.builtin "BaseException.__getattribute__"==Value.builtin "object.__getattribute__")=false:=by rw[hx2];rfl
 have FB:=F.attr_ValueError
 have f3:=FB.ga.bind (.ref x)
 have ha:=F.args_bexc_ga (.ref x)
 unfold getAttr getAttrBy
 repeat (any_goals (first|assumption|(with_reducible refine qi hx ?_;rw[hc])|(with_reducible refine LG.here ?_)|(with_reducible refine LH.here ?_)|wp_step))
 refine qBS FB.ga.plain F.entry_bexc_ga ?_
 simp only[checkBuiltinCall,hk,hsplit]
 refine qC ?_
 unfold isInstance
 repeat (first|(with_reducible refine qi hx ?_;rw[hc])|(with_reducible refine qAh hC ?_;rw[hcB])|wp_step)
 repeat (any_goals (first|assumption|(with_reducible refine qi hx ?_;rw[hc])|(with_reducible refine LA.here ?_)|wp_step))
 rw[hd]
 dsimp only
 unfold instanceDict
 repeat (any_goals (first|assumption|(with_reducible refine qi hx ?_;rw[hc])|(with_reducible refine qi hC ?_)|wp_step))
 rw[hdd]
 dsimp only
 refine qI ?_
 unfold inDict
 refine wpAny_nsGet hns ?_
 rw[hv]
 dsimp only
 repeat (any_goals (first|assumption|wp_step))
 show wpAny _ _ (handedOut v) _ _ _
 rw[W.handedOut_of hh]
 exact qI (hq _)
theorem zatq{Q:Value->Shared->Prop}{o:Obj}{vs:Array Value}{rest:List Value}(hr:zdw bm=true)(hl:rest.length<=qV)
  (hC:h.get? C=some (excClassObj nm q C N bs bm true sn sub ab col dd k0 k1 k2 k3 k5 newId))(hx:h.get? x=some o)(hc:o.cls=.ref C)(hd:o.data=.fields vs)(hs:0<vs.size)
  (hq:∀h' p,h'.get? x=some {o with data:=.fields (vs.setIfInBounds 0 (.ref p))}->(∀b o,b≠x->h.get? b=some o->h'.get? b=some o)->Q .none ⟨h',g,d,t,os⟩) :
  wpAny (model prog w) A (call (.builtin "ValueError.__init__") (.ref x::rest)) Q E ⟨h,g,d,t,os⟩:=by
 have F:=qBq
 have hcB:(Value.ref C::bm).contains (.type "ValueError")=true:=by rw[qAS,zdc (by decide) hr,qAk]
 have hshort:=F.noStar
 refine qCG (qBS F.init.plain F.initEntry ?_)
 simp only[checkBuiltinCall,F.initKind,F.initSplit,F.initRow]
 repeat (first|(with_reducible refine qi hx ?_;rw[hc])|with_reducible refine qi hC ?_|(with_reducible refine qAh hC ?_;rw[hcB])|wp_step)
 refine qB6 ?_
 rw[show ∀(a b:String)(n:Nat),Bind.check ⟨.positional,"*","ValueError",.self,[⟨"args",.varPos,false⟩]⟩ a b n (List.map (λx=>x.fst) ({pos:=Value.ref x::rest}:Args).kw)=pure ()from
  λa b n=>check_star_args _ _ _ _ _ _]
 refine qI ?_
 unfold Builtin.«BaseException.__init__»
 repeat (any_goals (first|assumption|wp_step))
 rw[hd]
 dsimp only
 refine qI ?_
 rw[Array.getElem?_eq_getElem hs]
 dsimp only
 refine qI (qC ?_)
 have hx':(h.push {cls:=.type "tuple",data:=.seq rest.toArray}).get? x=some o:=qD _ hx
 refine qBV hx' hd hs ?_
 have fin:Q .none ⟨(h.push {cls:=.type "tuple",data:=.seq rest.toArray}).update x (Obj.mapFields (·.setIfInBounds 0 (Value.ref h.objs.size))),g,d,t,os⟩:=by
  refine hq _ h.objs.size ?_ λb ob hb e=>by rw[qAg _ _ (qAo hb)];exact qD _ e
  have hd₃:=qAf hd (·.setIfInBounds 0 (Value.ref h.objs.size))
  rw[qAr _ hx' (qA5 hd₃)]
  unfold Obj.mapFields
  obtain⟨oc,od,odt,osl⟩:=o
  cases hd
  rfl
 cases vs[0]<;>(repeat (any_goals (first|exact fin|assumption|wp_step)))
end
noncomputable def Heap.Tb(h:Heap)(T:Addr):Prop:=∃oT ts,h.get? T=some oT/\oT.data=.fields ts/\ts[3]?=some .none
section
variable{M:Model}{A:Around}{E:Value->Shared->Prop}{s:Shared}{base:Heap}{env:Env}{outer:List Env}{L e:Addr}{oe:Obj}{vs:Array Value}
theorem mapf{o:Obj}{vs:Array Value}(hd:o.data=.fields vs)(f:Array Value->Array Value):Obj.mapFields f o={o with data:=.fields (f vs)}:=by
 unfold Obj.mapFields
 obtain⟨oc,od,odt,osl⟩:=o
 cases hd
 rfl
theorem zpg{head:Value}{hadNext:Bool}{Q:Unit->Shared->Prop}
  (hfr:A.frames=some (env::outer))(hl:s.heap.FunFrames base (env::outer))(hf:env.frame=some L)(he:s.heap.get? e=some oe)(hd:oe.data=.fields vs)(hsz:1<vs.size)
  (hQ:∀h' T,s.heap.objs.size<=T->T≠e->(∀b o,b≠e->b∉(env::outer).filterMap (·.frame)->s.heap.get? b=some o->h'.get? b=some o)->
   (∀b o,b≠e->s.heap.get? b=some o->∃sl,h'.get? b=some {o with slots:=sl})->h'.get? e=some {oe with data:=.fields (vs.setIfInBounds 1 (.ref T))}->h'.Tb T->Q () {s with heap:=h'}) :
  wpAny M A (do let a <- frameOf env;let pl <- entryPlaceOf L hadNext;let b <- EntryCells.newEntry head a .none (rawInt L) .none pl;setField (.ref e) 1 b) (λ_ s'=>wpAny M A (setFlight (.ref e) none) Q E s') E s:=by
 have hene:e∉(env::outer).filterMap (·.frame):=λhm=>by
  obtain⟨_,o,ho,hnf⟩:=hl.mem hm
  rw[he]at ho;injection ho with ho;subst ho;exact hnf vs hd
 refine qC (wpAny_frameOf_fun hfr hl hf λh₁ hs₁=>?_)
 refine qC (wpAny_entryPlaceOf λpl hpl=>?_)
 unfold EntryCells.newEntry newFields
 refine qC (qA2 ?_ (hpl.sizeOk5 _ _ _ _ _))
 have he₁:h₁.get? e=some oe:=(hs₁.2.1 e hene).trans he
 have he₂:=qD (h:=h₁) {cls:=.type "traceback",dict:=none,data:=.fields ([head,.ref L,.none,rawInt L,.none]++(if pl.isEmpty then List.replicate 6 Value.none else pl)).toArray} he₁
 refine qBV he₂ hd hsz ?_
 have hTe:h₁.objs.size≠e:=qBU (qJ he₁)
 have hd₃:=qAf hd (·.setIfInBounds 1 (Value.ref h₁.objs.size))
 have he₃:=qAr (Obj.mapFields (·.setIfInBounds 1 (Value.ref h₁.objs.size))) he₂ (qA5 hd₃)
 have hT₃:=(qAg (h₁.push {cls:=.type "traceback",dict:=none,data:=.fields ([head,.ref L,.none,rawInt L,.none]++(if pl.isEmpty then List.replicate 6 Value.none else pl)).toArray})
  (Obj.mapFields (·.setIfInBounds 1 (Value.ref h₁.objs.size))) (qAo hTe)).trans (qa h₁ rfl)
 unfold setFlight
 refine qC (qAW he₃ hd₃ (x:=.ref h₁.objs.size) (by simp[hsz]) ?_)
 rw[if_pos (show(Value.ref h₁.objs.size != Value.none)=true from by simp)]
 refine qBV hT₃ rfl (by simp only[qQ,qM,qAQ,qBI]<;>omega) ?_
 have keep:∀b o,b≠e->h₁.get? b=some o->
   (((h₁.push {cls:=.type "traceback",dict:=none,data:=.fields ([head,.ref L,.none,rawInt L,.none]++(if pl.isEmpty then List.replicate 6 Value.none else pl)).toArray}).update e (Obj.mapFields (·.setIfInBounds 1 (Value.ref h₁.objs.size)))).update h₁.objs.size
    (Obj.mapFields (·.setIfInBounds 3 ((none:Option Addr).elim Value.none λf=>rawInt f)))).get? b=some o:=λb o hbe hb=>by
  have hbT:h₁.objs.size≠b:=qBU (qJ hb)
  rw[qAg _ _ hbT,qAg _ _ (qAo hbe)]
  exact qD _ hb
 refine hQ _ h₁.objs.size (Nat.le_of_eq hs₁.1.symm) hTe (λb o hb hn ho=>keep b o hb ((hs₁.2.1 b hn).trans ho)) (λb o hb ho=>?_) ?_ ?_
 ·obtain⟨sl,hs⟩:=hs₁.2.2 b o ho
  exact⟨sl,keep b _ hb hs⟩
 ·rw[qAg _ _ hTe,he₃,mapf hd]
 ·exact⟨_,_,qAr _ hT₃ (qA5 (qAf rfl _)),qAf rfl _,by first|(simp;done)|(rcases hpl with rfl|⟨_,_,_,_,_,_,_,rfl⟩<;>simp)⟩
theorem zxy{Q:Unit->Shared->Prop}
  (hfr:A.frames=some (env::outer))(hl:s.heap.FunFrames base (env::outer))(hf:env.frame=some L)(he:s.heap.get? e=some oe)(hd:oe.data=.fields vs)
  (h1:vs[1]?=some .none\/∃T,vs[1]?=some (.ref T)/\T≠e/\s.heap.Tb T)
  (hQ:∀h' T,s.heap.objs.size<=T->T≠e->(∀b o,b≠e->vs[1]?≠some (.ref b)->b∉(env::outer).filterMap (·.frame)->s.heap.get? b=some o->h'.get? b=some o)->
   (∀b o,b≠e->vs[1]?≠some (.ref b)->s.heap.get? b=some o->∃sl,h'.get? b=some {o with slots:=sl})->(∀b,vs[1]?=some (.ref b)->h'.Tb b)->
   h'.get? e=some {oe with data:=.fields (vs.setIfInBounds 1 (.ref T))}->h'.Tb T->Q () {s with heap:=h'}) :
  wpAny M A (noteFrame (.ref e) env) (λ_ s'=>wpAny M A (setFlight (.ref e) none) Q E s') E s:=by
 unfold noteFrame
 simp only[hf]
 rcases h1 with h1|⟨T,h1,hTe,oT,ts,hT,hdT,h3⟩
 ·refine(qC (qAW he hd h1 ?_))
  rw[if_neg (by decide)]
  exact zpg hfr hl hf he hd (qAl.mp h1).1 λh' T a1 a2 a3 a4 a5 a6=>hQ h' T a1 a2 (λb o q _=>a3 b o q) (λb o q _=>a4 b o q) (λb q=>by rw[h1]at q;cases q) a5 a6
 ·refine(qC (qAW he hd h1 ?_))
  rw[if_pos (show(Value.ref T != Value.none)=true from by simp)]
  refine qC (qAW hT hdT h3 ?_)
  rw[if_neg (show ¬((Value.none==rawInt L)=true)from by simp[rawInt])]
  have hsz3:=(qAl.mp h3).1
  refine qC (qBV hT hdT hsz3 ?_)
  have other:∀b,b≠T->(s.heap.update T (Obj.mapFields (·.setIfInBounds 3 Value.none))).get? b=s.heap.get? b:=λb hb=>qAg _ _ (qAo hb)
  have hT':=qAr (Obj.mapFields (·.setIfInBounds 3 Value.none)) hT (qA5 (qAf hdT _))
  have noRecord:∀b o,s.heap.get? b=some o->(∀vs,o.data≠.fields vs)->b≠T:=λb o hb hnf q=>by
   rw[q,hT]at hb;injection hb with hb;subst hb;exact hnf ts hdT
  have ne:∀{b:Addr},vs[1]?≠some (.ref b)->b≠T:=λq z=>q (by rw[h1,z])
  refine zpg hfr (hl.of_keeps λb o hb hnf=>⟨o,(other b (noRecord b o hb hnf)).trans hb,rfl⟩) hf ((other e (qAo hTe)).trans he) hd (qAl.mp h1).1 λh' T' a1 a2 a3 a4 a5 a6=>?_
  refine hQ h' T' (by rw[Heap.size_update]at a1;exact a1) a2 (λb o q n z ho=>a3 b o q z ((other b (ne n)).trans ho)) (λb o q n ho=>a4 b o q ((other b (ne n)).trans ho)) (λb q=>?_) a5 a6
  rw[h1]at q
  cases q
  obtain⟨sl,hs⟩:=a4 T _ hTe hT'
  exact⟨_,_,hs,qAf hdT _,by simp[hsz3]⟩
theorem zaek{Q:Unit->Shared->Prop}{T:Addr}(he:s.heap.get? e=some oe)(hd:oe.data=.fields vs)(h1:vs[1]?=some (.ref T))(hT:s.heap.Tb T)
  (hQ:∀h',(∀b o,b≠T->s.heap.get? b=some o->h'.get? b=some o)->h'.Tb T->Q () {s with heap:=h'}):wpAny M A (setFlight (.ref e) none) Q E s:=by
 obtain⟨oT,ts,hT,hdT,h3⟩:=hT
 have hsz3:=(qAl.mp h3).1
 unfold setFlight
 refine qC (qAW he hd h1 ?_)
 rw[if_pos (show(Value.ref T != Value.none)=true from by simp)]
 refine qBV hT hdT hsz3 (hQ _ (λb o hb ho=>by rw[qAg _ _ (qAo hb)];exact ho) ?_)
 exact⟨_,_,qAr _ hT (qA5 (qAf hdT _)),qAf hdT _,by simp[hsz3]⟩
end
end PySem
namespace L2
open PySem PySem.Spec PyProof.Rows
noncomputable def xeD(e C dx:Addr)(tv:Value)(h:Heap):Prop:=∃vs sl,h.get? e=some {cls:=.ref C,dict:=some dx,data:=.fields vs,slots:=sl}/\vs[1]?=some tv
theorem xeD.stay{e C dx:Addr}{tv:Value}(h1 h2:Heap)(h:xeD e C dx tv h1)(k:∀o,h1.get? e=some o->h2.get? e=some o):xeD e C dx tv h2:=
 let⟨vs,sl,a,b⟩:=h;⟨vs,sl,k _ a,b⟩
theorem zanp{T:Addr}(h1 h2:Heap)(h:h1.Tb T)(k:∀o,h1.get? T=some o->h2.get? T=some o):h2.Tb T:=
 let⟨oT,ts,a,b⟩:=h;⟨oT,ts,k _ a,b⟩
theorem zalj{P:Program}{w:World}{H:Hp}{h:Heap}{e C dx:Addr}{tv:Value}(q:xeD e C dx tv h):zdv P w H h e (.ext (xeD e C dx tv)):=
 ⟨q,let⟨_,_,a,_⟩:=q;⟨_,a⟩,λh1 h2=>xeD.stay h1 h2⟩
theorem zael{P:Program}{w:World}{H:Hp}{h:Heap}{T:Addr}(q:h.Tb T):zdv P w H h T (.ext λh=>h.Tb T):=
 ⟨q,let⟨_,_,a,_⟩:=q;⟨_,a⟩,λh1 h2=>zanp h1 h2⟩
theorem zdv.there{P:Program}{w:World}{H:Hp}{h:Heap}{a:Addr}{o:HO}(x:zdv P w H h a o):∃ob,h.get? a=some ob:=by
 cases o with
 | lst xs=>obtain⟨_,_,_,_,e⟩:=x;exact⟨_,e⟩
 | tup xs=>obtain⟨_,_,_,ob,e,_⟩:=x;exact⟨_,e⟩
 | dK kvs=>obtain⟨_,_,_,_,o,_,_,e,_⟩:=x;exact⟨_,e⟩
 | dT kvs=>obtain⟨_,_,_,_,o,_,_,e,_⟩:=x;exact⟨_,e⟩
 | set S n=>obtain⟨o,_,_,_,e,_⟩:=x;exact⟨_,e⟩
 | ins C dx fs=>obtain⟨_,_,_,e,_⟩:=x;exact⟨_,e⟩
 | own y=>exact x
 | xd fs=>obtain⟨_,⟨_,_,_,e,_⟩,_⟩:=x;exact⟨_,e⟩
 | rng lo hi=>obtain⟨_,_,_,e⟩:=x;exact⟨_,e⟩
 | frz ob u=>obtain⟨e,_⟩:=x;exact⟨_,e⟩
 | tbl ps=>exact⟨_,x⟩
 | tabO q=>obtain⟨_,e,_⟩:=x;exact⟨_,e⟩
 | met f y=>exact⟨_,x⟩
 | ext φ=>exact x.2.1
theorem HOk.no{P:Program}{w:World}{H:Hp}{h:Heap}{a:Addr}(x:HOk P w H h)(n:h.get? a=none):H a=none:=by
 cases q:H a with
 | none=>rfl
 | some u=>obtain⟨ob,z⟩:=(x a u q).there;rw[n]at z;cases z
noncomputable def zaiu(H H':Hp):Prop:=∀b o,H b=some o->(∀φ,o≠.ext φ)->H' b=some o
noncomputable def StX(H0:Hp)(E:XK):XK:=λc dx H'=>∀H3,(∀b o,H0 b=some o->H' b=some o->H3 b=some o)->zaiu H' H3->E c dx H3
structure Flt(h:Heap)(H':Hp)(e C dx:Addr):Prop where
 new:h.get? e=none
 st:∃tv,H' e=some (.ext (xeD e C dx tv))/\(tv=.none\/∃T,tv=.ref T/\T≠e/\h.get? T=none/\H' T=some (.ext λh=>h.Tb T))
noncomputable def CXE(P:Program)(w:World):CXT:=λouter H s E e s'=>∃ea C dx H',e=.ref ea/\s'.os=s.os/\AllBare s'.gens/\Un (frs outer) [] H H' s.heap s'.heap/\HOk P w H' s'.heap/\Flt s.heap H' ea C dx/\StX H E (.ref C) (some dx) H'
section
variable{X:Cx}{pins:List (Addr×Obj)}{σ:St}{H1:Hp}{s:Shared}{e C dx:Addr}{E:Value->Shared->Prop}
theorem zuu{h0:Heap}{Q:Unit->Shared->Prop}(I:Inv X pins σ H1 s)(hst:X.stack=X.env::X.outer)(hfr:X.env.frame=some X.env.locals)(hz:∀b ob,h0.get? b=some ob->∃o',s.heap.get? b=some o')(F:Flt h0 H1 e C dx)
  (k:∀s' H2,Inv X pins σ H2 s'->(∃T,H2 e=some (.ext (xeD e C dx (.ref T)))/\T≠e/\h0.get? T=none/\H2 T=some (.ext λh=>h.Tb T))->
   (∀b o ob,h0.get? b=some ob->H1 b=some o->H2 b=some o)->zaiu H1 H2->(s.heap.objs.size<=s'.heap.objs.size)->Q () s') :
  wpAny (model X.prog X.w) X.A (noteFrame (.ref e) X.env) (λ_ s'=>wpAny (model X.prog X.w) X.A (setFlight (.ref e) none) Q E s') E s:=by
 obtain⟨tv,he,ht⟩:=F.st
 obtain⟨⟨vs,sl,oe,h1⟩,_,_⟩:=I.hok e _ he
 have hfs:∀b,b∈(X.env::X.outer).filterMap (·.frame)->H1 b=none:=λb hb=>I.stkFree b (by unfold frs;rw[hst];exact hb)
 have hT1:tv=.none\/∃T,tv=.ref T/\T≠e/\s.heap.Tb T:=ht.imp id λ⟨T,a,b,c,d⟩=>⟨T,a,b,(I.hok T _ d).1⟩
 refine zxy (base:=X.base) (L:=X.env.locals) (by rw[<- hst];exact I.ok.frames) (by rw[<- hst];exact I.stack) hfr oe rfl (hT1.imp (λz=>by rw[h1,z]) λ⟨T,a,b,c⟩=>⟨T,by rw[h1,a],b,c⟩) λh' T a1 a2 a3 a4 a5 a6 a7=>?_
 have nT:H1 T=none:=I.hok.fresh a1
 have tr:∀b,vs[1]?=some (.ref b)->H1 b=some (.ext λh=>h.Tb b)/\b≠e/\h0.get? b=none:=λb q=>by
  rw[h1]at q
  rcases ht with z|⟨T0,z,b1,c1,d1⟩
  ·rw[z]at q;cases q
  ·rw[z]at q;cases q;exact⟨d1,b1,c1⟩
 let H2:Hp:=upd (upd H1 T (.ext λh=>h.Tb T)) e (.ext (xeD e C dx (.ref T)))
 have h2:∀b,b≠e->b≠T->H2 b=H1 b:=λb q z=>by show upd _ _ _ b=_;rw[zar q,zar z]
 have h2e:H2 e=some (.ext (xeD e C dx (.ref T))):=zaq
 have h2T:H2 T=some (.ext λh=>h.Tb T):=by show upd _ _ _ T=_;rw[zar a2,zaq]
 have ext2:∀b o,H1 b=some o->(∀φ,o≠.ext φ)->H2 b=some o:=λb o q n=>by
  rw[h2 b (λz=>by rw[z,he]at q;cases q;exact n _ rfl) (λz=>by rw[z,nT]at q;cases q)];exact q
 have kp:∀b o,H1 b=some o->b≠e->vs[1]?≠some (.ref b)->∀u,s.heap.get? b=some u->h'.get? b=some u:=λb o q n n2 u z=>a3 b u n n2 (λm=>by rw[hfs b m]at q;cases q) z
 have hsz1:1<vs.size:=(qAl.mp h1).1
 have ok2:HOk X.prog X.w H2 h':=λb o q=>by
  by_cases hb:b=e
  ·subst hb
   rw[h2e]at q
   cases q
   exact zalj ⟨_,_,a6,by rw[Array.getElem?_setIfInBounds_self_of_lt hsz1]⟩
  ·by_cases hbT:b=T
   ·subst hbT
    rw[h2T]at q
    cases q
    exact zael a7
   ·rw[h2 b hb hbT]at q
    by_cases hv:vs[1]?=some (.ref b)
    ·rw[(tr b hv).1]at q
     cases q
     exact zael (a5 b hv)
    ·refine(I.hok b o q).stay (λc u hc z=>?_) (λc z=>ext2 c _ z (λφ y=>by cases y)) (λc xs z=>ext2 c _ z (λφ y=>by cases y))
     rcases hc with rfl|hc
     ·exact kp c o q hb hv u z
     ·exact kp c _ hc (λy=>by rw[y,he]at hc;cases hc) (λy=>by rw[(tr c y).1]at hc;cases hc) u z
 have un:Un (frs X.stack) [] H1 H2 s.heap h':=by
  have nb:∀b,H1 b=none->b≠e/\vs[1]?≠some (.ref b):=λb n=>⟨λy=>(by rw[y,he]at n;cases n),λy=>(by rw[(tr b y).1]at n;cases n)⟩
  have hfs':∀b,b∈frs X.stack↔b∈(X.env::X.outer).filterMap (·.frame):=λb=>by unfold frs;rw[hst]
  refine⟨λb o q n hb _=>a3 b o (nb b n).1 (nb b n).2 (λm=>hb ((hfs' b).mpr m)) q,λb o q n hb _=>a4 b o (nb b n).1 (nb b n).2 q,λb o q n _=>?_,λb o q _=>?_,λb xs q=>ext2 b _ q (λφ y=>by cases y),λb o u q=>ext2 b _ q (λφ y=>by cases y),λb ps q=>⟨#[],by rw[ext2 b _ q (λφ y=>by cases y)];simp⟩⟩
  ·rw[h2 b (nb b n).1 (λy=>by rw[y]at q;exact absurd (qJ q) (Nat.not_lt.mpr a1))];exact n
  ·by_cases hb:b=e
   ·exact⟨_,by rw[hb];exact a6⟩
   ·by_cases hv:vs[1]?=some (.ref b)
    ·obtain⟨oT,_,z,_⟩:=a5 b hv;exact⟨oT,z⟩
    ·obtain⟨sl,z⟩:=a4 b o hb hv q;exact⟨_,z⟩
 have n0:h0.get? T=none:=by
  cases y:h0.get? T with
  | none=>rfl
  | some ob=>obtain⟨o',z⟩:=hz T ob y;exact absurd (qJ z) (Nat.not_lt.mpr a1)
 have hs:s.heap.objs.size<=h'.objs.size:=qBh (qBv a1 (let⟨_,_,z,_⟩:=a7;qJ z))
 refine k _ H2 (I.call' (s':={s with heap:=h'}) rfl un ok2 I.bare (λb z=>absurd z (by simp))) ⟨T,h2e,a2,n0,h2T⟩ (λb o ob q z=>?_) ext2 hs
 rw[h2 b (λy=>by rw[y,F.new]at q;cases q) (λy=>by rw[y,nT]at z;cases z)]
 exact z
theorem zzq{h0:Heap}{Q:Unit->Shared->Prop}(I:Inv X pins σ H1 s)(hst:X.stack=X.env::X.outer)(hfr:X.env.frame=some X.env.locals)(hz:∀b ob,h0.get? b=some ob->∃o',s.heap.get? b=some o')(F:Flt h0 H1 e C dx)
  (k:∀s' H2,Inv X pins σ H2 s'->(∃T,H2 e=some (.ext (xeD e C dx (.ref T)))/\T≠e/\h0.get? T=none/\H2 T=some (.ext λh=>h.Tb T))->
   (∀b o ob,h0.get? b=some ob->H1 b=some o->H2 b=some o)->zaiu H1 H2->(s.heap.objs.size<=s'.heap.objs.size)->Q () s') :
  wpAny (model X.prog X.w) X.A (leaving X.env (.ref e)) Q E s:=by
 unfold leaving
 exact qC (zuu I hst hfr hz F k)
end
theorem zalk{P:Program}{w:World}{K:qB}{mg:Str->Option Value}{base:Heap}{N:List Str}{qual:Str}{scope:Scope}{f:Addr}{cd:Value}{A:Around}{outer:List Env}{s:Shared}{H:Hp}{E:XK}
  {pins:List (Addr×Obj)}{σ:St}{H1:Hp}{s1:Shared}{e C dx:Addr}(I:Inv (cxOf (CXE P w) P w K mg base N qual scope f cd A outer s H E) pins σ H1 s1)(h0k:HOk P w H s.heap)(F:Flt s.heap H1 e C dx)(q:StX H E (.ref C) (some dx) H1) :
  (cxOf (CXE P w) P w K mg base N qual scope f cd A outer s H E).xe (.ref e) s1:=by
 refine zzq (X:=cxOf (CXE P w) P w K mg base N qual scope f cd A outer s H E) I rfl rfl (λb ob z=>I.base.there b ob z (λy=>absurd (show b∈([]:List Addr)from y) (by simp))) F λs' H2 I2 ht hk hx _=>?_
 refine⟨e,C,dx,H2,rfl,I2.os,I2.bare,I2.base,I2.hok,⟨F.new,_,ht.choose_spec.1,.inr ⟨_,rfl,ht.choose_spec.2⟩⟩,λH3 r1 r2=>q H3 (λb o z1 z2=>?_) (λb o z n=>r2 b o (hx b o z n) n)⟩
 obtain⟨ob,y⟩:=(h0k b o z1).there
 exact r1 b o z1 (hk b o ob y z2)
theorem zaem{P:Program}{w:World}{K:qB}{mg:Str->Option Value}{base:Heap}{N:List Str}{qual:Str}{scope:Scope}{f:Addr}{cd:Value}{A:Around}{outer:List Env}{s:Shared}{H:Hp}{E:XK}(h0k:HOk P w H s.heap) :
  zrl (CXE P w) (cxOf (CXE P w) P w K mg base N qual scope f cd A outer s H E) (StX H E):=by
 intro pins σ H1 s1 e s2 I h
 obtain⟨ea,C,dx,H2,rfl,os,bare,un,ok,F,q⟩:=h
 have I2:=I.call' (s':=s2) os un ok bare (λb z=>absurd z (by simp))
 have old:∀b ob,s.heap.get? b=some ob->∃o',s1.heap.get? b=some o':=λb ob z=>I.base.there b ob z (λy=>absurd (show b∈([]:List Addr)from y) (by simp))
 have nw:∀b,s1.heap.get? b=none->s.heap.get? b=none:=λb z=>by
  cases y:s.heap.get? b with
  | none=>rfl
  | some ob=>obtain⟨o',y'⟩:=old b ob y;rw[z]at y';cases y'
 refine zalk I2 h0k ⟨nw _ F.new,?_⟩ (q H2 (λ_ _ _ z=>z) (λ_ _ z _=>z))
 obtain⟨tv,a,b⟩:=F.st
 exact⟨tv,a,b.imp id λ⟨T,x1,x2,x3,x4⟩=>⟨T,x1,x2,nw _ x3,x4⟩⟩
theorem zaen{CX:CXT}{P:Program}{w:World}{K:qB}{mg:Str->Option Value}{base:Heap}{x qual:Str}{st:Stmt}{f:Addr}{fd:qt}{N ps:List Str}{k:Nat}{sp:Sp}(Fu:Fun K x qual st f fd)(S:FnScope N ps (zai st))(len:∀vs H Q E,sp vs H Q E->vs.length=ps.length)
  (hbody:∀(cdv:Value)(A:Around)(outer:List Env)(s:Shared)(H:Hp)(vs:List V)(Q:VK)(E:XK),Room k (A.deeper (envOfC qual (zai st) s.heap.objs.size f cdv))->HOk P w H s.heap->sp vs H Q E->
   ∃t,PSs (cxOf CX P w K mg base N qual (zai st) f cdv A outer s H E) (zbd st) t/\t {nx:=λ_ H'=>Q .non H',rt:=Q} (zgi N vs) H):FnOk P w K mg base CX (k+1) f fd ps sp:=by
 refine⟨len,λA outer s H args us vs Q E hr e0 hb r hsp=>?_⟩
 obtain⟨oc,od,kV,doc,pm,an,cdv,ct,osl,rfl,lk,hcd⟩:=Fu.ex
 have KX:K.In s.heap:=e0.mod.kin.keeps λb o e=>(e0.bs b o e).1
 refine qBk hr.depth (KX _ _ lk) rfl S.co S.gen rfl (qBl KX hcd) (hb _ _ _ _ (qBR S.kind (λ⟨n,v⟩ hy=>?_) λenv he s1 x=>?_))
 ·rcases S.par n (qA9 hy).1 with q|q
  ·exact .inl q
  ·exact .inr ⟨q,qBD _ _ _ (.inl q)⟩
 ·subst he
  obtain⟨t,ht,hq⟩:=hbody cdv A outer s H vs Q E (hr.deeper _) e0.hok hsp
  have I:=zlz (CX:=CX) (E:=E) S hr.hd e0 (len _ _ _ _ hsp) r x
  refine⟨(e0.mod.nolimit.keeps λb o e=>(e0.bs b o e).1).keeps x.toInCall.keep,qCk (qA7 (ht [] s1 (zgi N vs) H _ I hq) (λfl s' hs=>?_) λe s' hs=>hs)⟩
  cases fl with
  | ret u=>obtain⟨v,σ',H',J,rv,q⟩:=hs;exact⟨v,H',J.os,J.bare,J.base,J.hok,rv,q⟩
  | next=>obtain⟨σ',H',J,q⟩:=hs;exact⟨.non,H',J.os,J.bare,J.base,J.hok,rfl,q⟩
  | brk=>obtain⟨_,_,_,q⟩:=hs;exact q.elim
  | cont=>obtain⟨_,_,_,q⟩:=hs;exact q.elim
noncomputable def xcR(K:qB)(C:Addr):Bool:=match K.lookup C with
 | some ⟨_,_,.cls cd,_⟩=>(match cd.mro with|_::bm=>zdw bm|_=>false)
 | _=>false
theorem zjy{K:qB}{h:Heap}{C:Addr}(X:K.In h)(q:xcIn K C=true)(q2:xcR K C=true):∃nm qn N bs bm sn sub ab col dd k0 k1 k2 k3 k5,
  h.get? C=some (excClassObj nm qn C N bs bm true sn sub ab col dd k0 k1 k2 k3 k5 "ValueError.__new__")/\zdw bm=true/\(Value.ref C::bm).contains (.type "AttributeError")=false/\(Value.ref C::bm).contains (.type "NameError")=false:=by
 obtain⟨nm,qn,N,bs,bm,sn,sub,ab,col,dd,k0,k1,k2,k3,k5,hC,_,_,ha,hn⟩:=zarg X q
 refine⟨nm,qn,N,bs,bm,sn,sub,ab,col,dd,k0,k1,k2,k3,k5,hC,?_,ha,hn⟩
 unfold xcR at q2
 split at q2
 ·rename_i a b cd sl ho
  have:=X _ _ ho
  rw[hC]at this
  have e:=qZ this
  unfold excClassObj at e
  injection e with _ _ e _
  injection e with e
  subst e
  exact q2
 ·cases q2
structure XMk(K:qB)(C f:Addr):Prop where
 cls:xcIn K C=true
 tail:xcR K C=true
 init:PySem.W.findIn K (.ref C) "__init__"=some (some (.ref f))
 fn:PySem.W.isFn K (.ref f)=true
 kp:qS K (.ref C)=true
 sa:PySem.W.findIn K (.ref C) "__setattr__"=some (some (.builtin "object.__setattr__"))
 at_:PySem.W.findIn K (.ref C) "at"=some none
 ga:PySem.W.findIn K (.ref C) "__getattribute__"=some (some (.builtin "BaseException.__getattribute__"))
 gh:PySem.W.findIn K (.ref C) "__getattr__"=some none
noncomputable def atV:V->Prop
 | .non=>True
 | .str x=>(PySem.reprText x).length<=1000
 | .int n=>0<=n/\n<100
 | _=>False
noncomputable def xe0(e C:Addr)(h:Heap):Prop:=∃vs sl,h.get? e=some {cls:=.ref C,dict:=none,data:=.fields vs,slots:=sl}/\vs[1]?=some .none
theorem zaeo{P:Program}{w:World}{H:Hp}{h:Heap}{e C:Addr}(q:xe0 e C h):zdv P w H h e (.ext (xe0 e C)):=
 ⟨q,(let⟨_,_,a,_⟩:=q;⟨_,a⟩),λh1 h2 ⟨vs,sl,a,b⟩ k=>⟨vs,sl,k _ a,b⟩⟩
noncomputable def spI(C:Addr):Sp:=λvs H Q _=>∃e v,vs=[.ref e,v]/\H e=some (.ext (xe0 e C))/\atV v/\∀dx,H dx=none->dx≠e->Q .non (upd (upd H dx (.xd [("at",v)])) e (.ext (xeD e C dx .none)))
section
variable{X:Cx}{pins:List (Addr×Obj)}{σ:St}{H:Hp}{s:Shared}{C f:Addr}{k:Nat}{fd:qt}
theorem Inv.new{h':Heap}{a:Addr}{o:HO}{t':Nat}(I:Inv X pins σ H s)(k:∀b u,s.heap.get? b=some u->h'.get? b=some u)(hn:s.heap.get? a=none)(new:zdv X.prog X.w (upd H a o) h' a o):Inv X pins σ (upd H a o) {s with heap:=h',toks:=t'}:=by
 have hH:=HOk.no I.hok hn
 have ne:∀b u,s.heap.get? b=some u->b≠a:=λb u q z=>by rw[z,hn]at q;cases q
 have neH:∀b u,H b=some u->b≠a:=λb u q z=>by rw[z,hH]at q;cases q
 refine I.un (h':=h') ⟨λb o q _ _ _=>k b o q,λb o q _ _ _=>⟨o.slots,k b o q⟩,λb o q n _=>by rw[zar (ne b o q)];exact n,λb o q _=>⟨o,k b o q⟩,λb xs q=>by rw[zar (neH b _ q)];exact q,λb o u q=>by rw[zar (neH b _ q)];exact q,λb ps q=>⟨#[],by rw[zar (neH b _ q),q];simp⟩⟩ λb u q=>?_
 by_cases hb:b=a
 ·subst hb;rw[zaq]at q;cases q;exact new
 ·rw[zar hb]at q
  exact(I.hok b u q).stay (λc v _ q=>k c v q) (λc q=>by rw[zar (neH c _ q)];exact q) λc xs q=>by rw[zar (neH c _ q)];exact q
theorem zaep{v:V}{u:Value}(M:XMk X.K C f)(F:FnOk X.prog X.w X.K X.mg X.base CX0 k f fd ["self","at"] (spI C))(hr:Room (k+1) X.A)(hb:zom X.K fd ["self","at"] [])(hex:X.ex=[])(I:Inv X pins σ H s)(rv:RelV v u)(av:atV v)
  {Q:Value->Shared->Prop}(q:∀e dx H' s',Inv X pins σ H' s'->Flt X.s₀.heap H' e C dx->H' e=some (.ext (xeD e C dx .none))->H' dx=some (.xd [("at",v)])->Same H H'->Q (.ref e) s') :
  wpAny (model X.prog X.w) X.A (call (.ref C) [u]) Q X.xe s:=by
 obtain⟨nm,qn,N,bs,bm,sn,sub,ab,col,dd,k0,k1,k2,k3,k5,hC,hbm,ha,hn⟩:=zjy I.kIn M.cls M.tail
 obtain⟨hh,g,d,tk,os⟩:=s
 obtain⟨oI,hfI,hfc⟩:∃oI,hh.get? f=some oI/\oI.cls=.type "function":=by
  have z:(X.K.lookup f).map (·.cls)=some (.type "function"):=beq_iff_eq.mp M.fn
  cases y:X.K.lookup f with
  | none=>rw[y]at z;cases z
  | some o=>rw[y]at z;exact⟨o,I.kIn _ _ y,qZ z⟩
 refine zato (C:=C) hC (by rw[qAS,zdc (by decide) hbm,qAk]) ha hn (qAd I.kIn M.init) hfI hfc (by show 1<=qV;rw[qBM];omega) λh' e hm=>?_
 obtain⟨t,he,htn,ht⟩:=hm.there
 have I2:=Inv.new (h':=h') (a:=e) (o:=.ext (xe0 e C)) (t':=tk) I hm.keeps hm.new (zaeo ⟨_,_,he,rfl⟩)
 have hHe:H e=none:=HOk.no I.hok hm.new
 have sp:spI C [.ref e,v] (upd H e (.ext (xe0 e C))) (λr H2=>r=.non/\∃dx,H dx=none/\dx≠e/\H2=upd (upd (upd H e (.ext (xe0 e C))) dx (.xd [("at",v)])) e (.ext (xeD e C dx .none))) E0:=
  ⟨e,v,rfl,zaq,av,λdx hd ne=>⟨rfl,dx,by rw[zar ne]at hd;exact hd,ne,rfl⟩⟩
 refine qCG (qBc (F.run _ X.stack _ _ ⟨[.ref e,u],[]⟩ [.ref e,u] _ _ E0 (hr.make C [u] []) (I2.env0.make C [u] []) (by have:=hb ⟨h',g,d,tk,os⟩ [.ref e,u] I2.kIn rfl;rw[qAB]at this;exact this) (show Vals [V.ref e,v] [Value.ref e,u]from .cons rfl (.cons rv .nil)) sp) λr s' hq=>?_)
 cases r with
 | error x=>exact hq.elim
 | ok fl=>
  cases fl with
  | ret w=>
   obtain⟨v',H2,I3,rv',rfl,dx,hd,ne,rfl⟩:=I2.after hq
   refine⟨rv',q e dx _ s' I3 ⟨?_,.none,zaq,.inl rfl⟩ zaq (by rw[zar ne,zaq]) λb o z=>?_⟩
   ·cases y:X.s₀.heap.get? e with
    | none=>rfl
    | some ob=>
     obtain⟨o',z⟩:=I.base.there e ob y (by rw[hex];simp)
     have:=hm.new
     rw[show hh.get? e=some o' from z]at this
     cases this
   ·have n1:b≠e:=λy=>by rw[y,hHe]at z;cases z
    have n2:b≠dx:=λy=>by rw[y,hd]at z;cases z
    rw[zar n1,zar n2,zar n1]
    exact z
  | next=>exact False.elim hq
  | brk=>exact False.elim hq
  | cont=>exact False.elim hq
noncomputable def Lvs(X:Cx)(E:XK):Prop:=∀(pins:List (Addr×Obj))(σ:St)(H1:Hp)(s1:Shared)(e C dx:Addr),Inv X pins σ H1 s1->Flt X.s₀.heap H1 e C dx->E (.ref C) (some dx) H1->X.xe (.ref e) s1
noncomputable def zaeq(C:Addr)(E:XK)(te:TE):TS:=λ_ σ H=>te σ H λv H1=>atV v/\∀H' dx,Same H1 H'->H' dx=some (.xd [("at",v)])->E (.ref C) (some dx) H'
theorem zaiv{E:XK}{x:Str}{np cpos pos:Pos}{a:Expr}{te:TE}(M:XMk X.K C f)(F:FnOk X.prog X.w X.K X.mg X.base CX0 k f fd ["self","at"] (spI C))(hr:Room (k+1) X.A)(hb:zom X.K fd ["self","at"] [])(hex:X.ex=[])(hc:X.calm=true)(hx:Lvs X E)
  (hg:Gl X x)(hm:X.mg x=some (.ref C))(ha:PE X a te)(hdb:(x==("__debug__":Str))=false:=by decide)(he:starEach [a] X.env=[(false,eval a X.env)]:=by rfl) :
  PS X (.Raise (some (.Call (.Name x np) [a] [] cpos)) none pos) (zaeq C E te):=by
 intro pins s σ H D I h
 rw[arm_exec_Raise]
 refine qC (qBe ?_)
 unfold raiseStmt
 simp only[evalOpt,Option.map]
 refine qC ?_
 have hcall:wpAny (model X.prog X.w) X.A (eval (.Call (.Name x np) [a] [] cpos) X.env) (λr s'=>∃e dx H' v H1,r=.ref e/\Inv X pins σ H' s'/\Flt X.s₀.heap H' e C dx/\H' e=some (.ext (xeD e C dx .none))/\H' dx=some (.xd [("at",v)])/\Same H1 H'/\∀H' dx,Same H1 H'->H' dx=some (.xd [("at",v)])->E (.ref C) (some dx) H') X.xe s:=by
  refine qBK (zoz I hg hm ?_ hdb)
  refine qB9 (h₀:=X.base) I.ok.mod.kin M.kp (thn (zju ha zob he cpos pins s σ H (λvs H1=>match vs with|[v]=>atV v/\∀H' dx,Same H1 H'->H' dx=some (.xd [("at",v)])->E (.ref C) (some dx) H'|_=>False) I h) λus s1 ⟨vs,H1,I1,r,q⟩=>⟨I1.kIn,?_⟩) he rfl
  match vs,q,r with
  | [v],q,r=>
   obtain⟨u,rfl,rv⟩:=zxr r
   exact zaep M F hr hb hex I1 rv q.1 λe dx H' s' I' fl he0 hd sm=>⟨e,dx,H',v,H1,rfl,I',fl,he0,hd,sm,q.2⟩
  | [],q,_=>exact q.elim
  | _::_::_,q,_=>exact q.elim
 refine qC (thn hcall λr s' hh=>?_)
 obtain⟨e,dx,H',v,H1,rfl,I',fl,he',hd,sm,q⟩:=hh
 refine qC (qBe (qI ?_))
 obtain⟨nm,qn,N,bs,bm,sn,sub,ab,col,dd,k0,k1,k2,k3,k5,hC,hbm,_,_⟩:=zjy I'.kIn M.cls M.tail
 have hcB:(Value.ref C::bm).contains (.type "BaseException")=true:=by rw[qAS,zdc (by decide) hbm,qAk]
 obtain⟨⟨vs,sl,oe,h1⟩,_,_⟩:=I'.hok e _ he'
 have hxe:=hx pins σ H' s' e C dx I' fl (q H' dx sm hd)
 have hh:=I'.ok.hd hc
 obtain⟨hp,g,d,tk,os⟩:=s'
 repeat (first|with_reducible refine qi oe ?_|with_reducible refine qi hC ?_|(with_reducible refine qAh hC ?_;rw[hcB])|wp_step)
 rw[h1]
 dsimp only
 refine qI ?_
 rw[if_neg (by decide)]
 exact qI (wpAny_raiseNew_none hh hxe)
end
section
variable{X:Cx}{pins:List (Addr×Obj)}{σ:St}{H:Hp}{s:Shared}{C f:Addr}{k:Nat}{fd:qt}
noncomputable def tMsg(te:TE):TE:=λσ H Q=>te σ H λv H1=>atV v/\∀m,Q (.str m) H1
theorem zaer:∀m<100,Nat.log2 m<1920:=by decide +kernel
theorem zrq:∀m<100,(Str.ofString (toString ((m:Nat):Int))).length<=10:=by decide +kernel
theorem zanq {v:V} {u:Value} {A:Around} {E:Value->Shared->Prop} {Q:Value->Shared->Prop} (r:RelV v u) (av:atV v) (q:∀(m:Str) t,m.length<=1000->Q (.str m s.toks) {s with toks:=t}) :
  wpAny (model X.prog X.w) A (pyReprObj u) Q E s:=by
 cases v with
 | non=>
  cases r
  exact qCE (T:="NoneType") rfl F.slot_NoneType_repr F.entry_NoneType_repr (by unfold argsOk;kernel_rfl) gives_none_repr (q "None" _ (by decide)) (hx:=by decide)
 | str x=>
  obtain⟨t,rfl⟩:=r
  exact qCE (T:="str") rfl PyProof.Rows.slot_str_repr PyProof.Rows.entry_str_repr (PyProof.Rows.args_str_repr _) (gives_str_repr x t) (q _ _ av) (hx:=qAM av (by rw[qBM];omega))
 | int n=>
  obtain⟨t,rfl⟩:=r
  obtain⟨n0,n1⟩:=av
  obtain⟨m,rfl⟩:∃m:Nat,n=(m:Int):=⟨n.toNat,by omega⟩
  have hm:m<100:=by omega
  have hb:(m:Int).natAbs.log2<1920:=by
   rw[Int.natAbs_natCast]
   exact zaer m hm
  exact qCE (T:="int") rfl F.slot_int_repr F.entry_int_repr (F.args_int_repr_1 _) (gives_int_repr (m:Int) t hb) (q _ _ (qAM (zrq m hm) (by decide))) (hx:=qAM (zrq m hm) (by rw[qBM];omega))
 | _=>exact av.elim
theorem zari{c:Str}{j p a p2 pos te}(ha:PE X a te)(hc:c.length<=1000):PE X (.JoinedStr [.Constant (.str c) j p,.FormattedValue a 114 none p2] pos) (tMsg te):=by
 intro pins s σ H Q I h
 have la:∀x y:Str,(x++y).length=x.length+y.length:=λx y=>by show(x.cps++y.cps).size=x.cps.size+y.cps.size;exact Array.size_append
 have l0:(Str.empty).length=0:=rfl
 have big:(3000:Nat)<=qV:=by rw[qBM];omega
 refine wpAny_JoinedStr ?_
 show wpAny _ _ (eval (.Constant (.str c) j p) X.env) (λv s₁=>∃y t,v=.str y t/\(Str.empty++y).length<=qV/\wpAny _ _ (eval (.FormattedValue a 114 none p2) X.env) (λv s₂=>∃z t,v=.str z t/\((Str.empty++y)++z).length<=qV/\(((Str.empty++y)++z).length<=qV/\_)) _ s₁) _ s
 refine qDN ⟨c,_,rfl,by rw[la,l0];omega,?_⟩
 refine wpAny_FormattedValue_repr (thn (ha pins _ σ H _ (I.tok _) h) λu s1 ⟨v,H1,I1,r,av,q⟩=>zanq (X:=X) r av λm t hm=>?_)
 have lz:((Str.empty++c)++m).length<=qV:=by rw[la,la,l0];omega
 have fin:∀tk,EP X pins σ Q (.str ((Str.empty++c)++m) tk) {s1 with toks:=tk+1}:=λtk=>⟨.str _,H1,I1.tok _,⟨_,rfl⟩,q _⟩
 exact wpAny_formatField_str ⟨m,_,rfl,lz,lz,fin _⟩ ⟨m,_,rfl,lz,lz,fin _⟩ (by omega)
noncomputable def zall(C:Addr)(t:TA):TE:=λσ H Q=>t σ H λvs H1=>∃e m,vs=[.ref e,m]/\H1 e=some (.ext (xe0 e C))/\Q .non H1
theorem zxz{K:qB}:PySem.W.findCls K (.type "ValueError") (.type "type") "__init__"=some (.val (.builtin "ValueError.__init__")):=by
 first|rfl|decide +kernel|kernel_rfl
theorem zjz:bootBuiltins "ValueError"=some (.type "ValueError"):=by decide +kernel
theorem zaiw{p p2 pos:Pos}{e:Expr}{es:List Expr}{t:TA}{pl:Sem Bool}(M:XMk X.K C f)(hg:Gl X "ValueError")(hm:X.mg "ValueError"=none)(ha:PA X (e::es) t)
  (hst:starEach (e::es) X.env=(false,eval e X.env)::starEach es X.env:=by rfl)(hpl:(backTo pos (starEach es X.env)).any (·.1)=false:=by rfl)
  (ht:eval (.Call (.Attribute (.Name "ValueError" p) "__init__" p2) (e::es) [] pos) X.env=(do
   let ov <- eval (.Name "ValueError" p) X.env
   standAt p2.atName
   let(f,first) <- holding [ov] (getMethod ov "__init__" pl)
   callWith pos f first (backTo pos (starEach (e::es) X.env)) (backToKw pos (keywordEach [] X.env))):=by rfl) :
  PE X (.Call (.Attribute (.Name "ValueError" p) "__init__" p2) (e::es) [] pos) (zall C t):=by
 intro pins s σ H Q I h
 refine PySem.W.methodCall_KW (pl:=pl) (zpa I hg hm zjz ?_ (by decide) (by decide)) ht
 obtain⟨m,fr⟩:=I.fr
 refine PySem.W.method_type fr I.ok.mod.kin (by kernel_rfl) (by decide +kernel) zxz (by decide +kernel) ?_
 have hA:=ha pos pins _ σ H _ (I.tok (s.toks+1)) h
 rw[hst]at hA ⊢
 refine qCz (by show(false||(backTo pos (starEach es X.env)).any (·.1))=false;rw[hpl]<;>rfl) (qC7 ?_)
 refine thn hA λus s2 ⟨vs,H2,I2,r2,e',mv,ev,he,q⟩=>?_
 subst ev
 obtain⟨u1,u2,rfl,r1,r3⟩:=zxs r2
 cases r1
 obtain⟨nm,qn,N,bs,bm,sn,sub,ab,col,dd,k0,k1,k2,k3,k5,hC,hbm,_,_⟩:=zjy I2.kIn M.cls M.tail
 obtain⟨⟨vs,sl,oe,h1⟩,_,_⟩:=I2.hok e' _ he
 obtain⟨hh,g,d,tk,os⟩:=s2
 refine zatq hbm (by show 1<=qV;rw[qBM];omega) hC oe rfl rfl (Nat.lt_of_succ_lt (qAl.mp h1).1) λh' p' a1 a2=>?_
 refine⟨.non,H2,?_,rfl,q⟩
 have hup:upd H2 e' (.ext (xe0 e' C))=H2:=by
  funext b
  by_cases hb:b=e'
  ·subst hb;rw[zaq,he]
  ·rw[zar hb]
 have:=I2.write (x:=e') (e:=e') (o:=.ext (xe0 e' C)) (h':=h') (t':=tk) (by rw[he];exact True.intro) (.inl rfl) (λb u hb z=>a2 b u hb z) ⟨_,a1⟩ (zaeo ⟨_,_,a1,by rw[Array.getElem?_setIfInBounds_ne (by decide)];exact h1⟩)
 rw[hup]at this
 exact this
end
section
variable{X:Cx}{pins:List (Addr×Obj)}{σ:St}{H:Hp}{s:Shared}{C f:Addr}{k:Nat}{fd:qt}
noncomputable def tSat(C:Addr)(ta tv:TE):TS:=λD σ H=>tv σ H λv H1=>ta σ H1 λx H2=>∃e,x=.ref e/\H2 e=some (.ext (xe0 e C))/\∀dx,H2 dx=none->dx≠e->D.nx σ (upd (upd H2 dx (.xd [("at",v)])) e (.ext (xeD e C dx .none)))
theorem zarj{o value:Expr}{pos' pos:Pos}{ta tv:TE}(M:XMk X.K C f)(ha:PE X o ta)(hv:PE X value tv)(hs:swapsWith value (some (.Attribute o "at" pos')) pos.line X.env=pure false:=by rfl):PS X (.Assign [.Attribute o "at" pos'] value pos) (tSat C ta tv):=by
 intro pins s σ H D I h
 refine plainObj_wpAny_Assign_Attribute (thn (hv pins s σ H _ I h) λu s1 ⟨y,H1,I1,ry,q⟩=>thn (ha pins s1 σ H1 _ I1 q) λov s2 ⟨x,H2,I2,rx,e,ex,he,q2⟩=>?_) hs
 subst ex
 obtain rfl:ov=Value.ref e:=rx
 obtain⟨nm,qn,N,bs,bm,sn,sub,ab,col,dd,k0,k1,k2,k3,k5,hC,hbm,_,_⟩:=zjy I2.kIn M.cls M.tail
 obtain⟨⟨vs,sl,oe,h1⟩,_,_⟩:=I2.hok e _ he
 obtain⟨hh,g,d,tk,os⟩:=s2
 refine zarh hbm hC oe rfl (λc z=>by cases z) rfl (qAd I2.kIn M.sa) (qAd I2.kIn M.at_) λh' tk' dx a1 a2 a3 a4=>?_
 have hdx:H2 dx=none:=I2.hok.fresh a1
 have ne:dx≠e:=λz=>by rw[z,he]at hdx;cases hdx
 refine⟨σ,upd (upd H2 dx (.xd [("at",y)])) e (.ext (xeD e C dx .none)),?_,q2 dx hdx ne⟩
 have n2:∀b,b≠e->b≠dx->upd (upd H2 dx (.xd [("at",y)])) e (.ext (xeD e C dx .none)) b=H2 b:=λb p q=>by rw[zar p,zar q]
 have nb:∀b o,H2 b=some o->(∀φ,o≠.ext φ)->b≠e/\b≠dx:=λb o z n=>⟨λy=>(by rw[y,he]at z;cases z;exact n _ rfl),λy=>(by rw[y,hdx]at z;cases z)⟩
 have st:∀b o,H2 b=some o->(∀φ,o≠.ext φ)->upd (upd H2 dx (.xd [("at",y)])) e (.ext (xeD e C dx .none)) b=some o:=λb o z n=>by rw[n2 b (nb b o z n).1 (nb b o z n).2];exact z
 have lt:∀b u,hh.get? b=some u->b≠dx:=λb u z y=>by rw[y]at z;exact absurd (qJ z) (Nat.not_lt.mpr a1)
 refine Inv.un (s:=⟨hh,g,d,tk,os⟩) I2 (h':=h') ⟨λb o z n _ _=>a4 b o (λy=>by rw[y,he]at n;cases n) z,λb o z n _ _=>⟨o.slots,a4 b o (λy=>by rw[y,he]at n;cases n) z⟩,λb o z n _=>?_,λb o z _=>?_,λb xs z=>st b _ z (λφ y=>by cases y),λb o u z=>st b _ z (λφ y=>by cases y),λb ps z=>⟨#[],by rw[st b _ z (λφ y=>by cases y)];simp⟩⟩ λb o z=>?_
 ·rw[n2 b (λy=>by rw[y,he]at n;cases n) (lt b o z)];exact n
 ·by_cases hb:b=e
  ·exact⟨_,by rw[hb];exact a3⟩
  ·exact⟨o,a4 b o hb z⟩
 ·by_cases hb:b=e
  ·subst hb
   rw[zaq]at z
   cases z
   exact zalj ⟨vs,sl,a3,h1⟩
  ·by_cases hd:b=dx
   ·subst hd
    rw[zar hb,zaq]at z
    cases z
    refine⟨_,a2,λn=>?_⟩
    by_cases hn:n="at"
    ·subst hn
     exact ry
    ·have:List.lookup n [((("at":Str)),y)]=none:=by
      rw[q9]
      have:(n==("at":Str))=false:=by rw[beq_eq_false_iff_ne];exact hn
      rw[this]
      rfl
     rw[this]
     show RelO none (if n=("at":Str)then _ else _)
     rw[if_neg hn]
     trivial
   ·rw[n2 b hb hd]at z
    refine(I2.hok b o z).stay (λc u hc y=>a4 c u ?_ y) (λc y=>st c _ y (λφ x=>by cases x)) (λc xs y=>st c _ y (λφ x=>by cases x))
    rcases hc with rfl|hc
    ·exact hb
    ·exact λx=>by rw[x,he]at hc;cases hc
noncomputable def tXat(C:Addr)(te:TE):TE:=λσ H Q=>te σ H λx H1=>∃e dx tv v,x=.ref e/\H1 e=some (.ext (xeD e C dx tv))/\H1 dx=some (.xd [("at",v)])/\Q v H1
theorem zark{o:Expr}{pos:Pos}{te:TE}(M:XMk X.K C f)(ho:PE X o te)(hb:attributeBase o "at" X.env (eval o X.env)=eval o X.env:=by rfl):PE X (.Attribute o "at" pos) (tXat C te):=by
 intro pins s σ H Q I h
 refine zanc hb (thn (ho pins s σ H _ I h) λu s1 ⟨x,H1,I1,rx,e,dx,tv,v,ex,he,hd,q⟩=>?_)
 subst ex
 obtain rfl:u=Value.ref e:=rx
 obtain⟨nm,qn,N,bs,bm,sn,sub,ab,col,dd,k0,k1,k2,k3,k5,hC,hbm,_,_⟩:=zjy I1.kIn M.cls M.tail
 obtain⟨⟨vs,sl,oe,h1⟩,_,_⟩:=I1.hok e _ he
 obtain⟨mA,ns,rl⟩:=I1.hok dx _ hd
 have hv:∃w,mA "at"=some w/\RelV v w:=by
  have:=rl "at"
  rw[show List.lookup ("at":Str) [(("at":Str),v)]=some v from rfl]at this
  cases y:mA "at"with
  | none=>rw[y]at this;exact this.elim
  | some w=>rw[y]at this;exact⟨w,rfl,this⟩
 obtain⟨w,hw,rw'⟩:=hv
 obtain⟨hh,g,d,tk,os⟩:=s1
 refine zatp hbm hC oe rfl rfl rfl ns.ns hw (qAd I1.kIn M.ga) (qAd I1.kIn M.gh) (qAd I1.kIn M.at_) (zadl rw') λtk'=>⟨v,H1,I1.tok _,rw',q⟩
end
noncomputable def zaix(c:Str)(p1 p2 p3 p4 p5 p6 p7 p8 p9 p10 p11 p12 p13:Pos):List Stmt:=
 [.Expr (.Call (.Attribute (.Name "ValueError" p1) "__init__" p2) [.Name "self" p3,.JoinedStr [.Constant (.str c) 0 p4,.FormattedValue (.Name "at" p5) 114 none p6] p7] [] p8) p9,
  .Assign [.Attribute (.Name "self" p10) "at" p11] (.Name "at" p12) p13]
noncomputable def zaiy(c:Str)(p1 p2 p3 p4 p5 p6 p7 p8:Pos):Prop:=∀env:Env,∃pl:Sem Bool,eval (.Call (.Attribute (.Name "ValueError" p1) "__init__" p2) [.Name "self" p3,.JoinedStr [.Constant (.str c) 0 p4,.FormattedValue (.Name "at" p5) 114 none p6] p7] [] p8) env=(do
   let ov <- eval (.Name "ValueError" p1) env
   standAt p2.atName
   let(f,first) <- holding [ov] (getMethod ov "__init__" pl)
   callWith p8 f first (backTo p8 (starEach [.Name "self" p3,.JoinedStr [.Constant (.str c) 0 p4,.FormattedValue (.Name "at" p5) 114 none p6] p7] env)) (backToKw p8 (keywordEach [] env)))
theorem zaes{P:Program}{w:World}{K:qB}{mg:Str->Option Value}{base:Heap}{C f:Addr}{qual:Str}{st:Stmt}{fd:qt}{c:Str}{p1 p2 p3 p4 p5 p6 p7 p8 p9 p10 p11 p12 p13:Pos}(F:Fun K "__init__" qual st f fd)(M:XMk K C f)(hm:mg "ValueError"=none)
  (hb:zbd st=zaix c p1 p2 p3 p4 p5 p6 p7 p8 p9 p10 p11 p12 p13) (hsc:zai st={kind:=.function,names:=[("self",.local),("at",.local),("ValueError",.globalImplicit)],isGenerator:=false,isCoroutine:=false}) (hc:c.length<=1000) (ht:zaiy c p1 p2 p3 p4 p5 p6 p7 p8) :
  FnOk P w K mg base CX0 1 f fd ["self","at"] (spI C):=by
 have nd:(["self","at"]:List Str).Nodup:=by decide +kernel
 have S:FnScope ["self","at"] ["self","at"] (zai st):=by rw[hsc];exact⟨rfl,rfl,rfl,nd,rfl,by decide +kernel,by decide +kernel⟩
 refine F.ok S (λvs H Q E h=>by obtain⟨e,v,rfl,_⟩:=h;rfl) λcdv A outer s H vs Q E hr h=>?_
 obtain⟨e,v,rfl,he,av,q⟩:=h
 have g0:visB (cxOf CX0 P w K mg base ["self","at"] qual (zai st) f cdv A outer s H E).nox.env.scope "self"=true:=by show visB (zai st) _=_;rw[hsc];decide +kernel
 have g1:visB (cxOf CX0 P w K mg base ["self","at"] qual (zai st) f cdv A outer s H E).nox.env.scope "at"=true:=by show visB (zai st) _=_;rw[hsc];decide +kernel
 have g2:Gl (cxOf CX0 P w K mg base ["self","at"] qual (zai st) f cdv A outer s H E).nox "ValueError":=by show(zai st).names.lookup _=_;rw[hsc];decide +kernel
 have e0:∀{p:Pos},PE (cxOf CX0 P w K mg base ["self","at"] qual (zai st) f cdv A outer s H E).nox (.Name "self" p) (tVar 0):=λ{p}=>pv 0 rfl g0
 have e1:∀{p:Pos},PE (cxOf CX0 P w K mg base ["self","at"] qual (zai st) f cdv A outer s H E).nox (.Name "at" p) (tVar 1):=λ{p}=>pv 1 rfl g1
 refine⟨tSeq (tDrop (zall C (tCons (tVar 0) (tCons (tMsg (tVar 1)) tNil)))) (tSat C (tVar 0) (tVar 1)),?_,?_⟩
 ·rw[hb]
  obtain⟨pl,ht⟩:=ht (cxOf CX0 P w K mg base ["self","at"] qual (zai st) f cdv A outer s H E).nox.env
  exact zkv (zsp (zaiw (f:=f) (pl:=pl) M g2 hm (zju e0 (zju (zari e1 hc) zob)) rfl rfl ht)) (zln (zarj M e0 e1))
 ·exact⟨_,rfl,v,rfl,av,λm=>⟨e,_,rfl,he,v,rfl,_,rfl,e,rfl,he,q⟩⟩
noncomputable def keyD:PyData->Option Key
 | .int i=>some (Sum.inl i)
 | .str s=>some (Sum.inr s)
 | _=>none
mutual
def Rp(H:Hp):PyData->V->Prop
 | .none,v=>v=.non
 | .bool b,v=>v=.bl b
 | .int i,v=>v=.int i
 | .str x,v=>v=.str x
 | .list ds,v=>∃a xs,v=.ref a/\H a=some (.lst xs)/\Rps H ds xs
 | .tuple ds,v=>∃a xs,v=.ref a/\H a=some (.tup xs)/\Rps H ds xs
 | .dict kvs,v=>∃a ps,v=.ref a/\H a=some (.dK ps)/\Rpd H kvs ps
def Rps(H:Hp):List PyData->List V->Prop
 | [],xs=>xs=[]
 | d::ds,xs=>∃v vs,xs=v::vs/\Rp H d v/\Rps H ds vs
def Rpd(H:Hp):List (PyData×PyData)->List (Key×V)->Prop
 | [],ps=>ps=[]
 | (k,d)::r,ps=>∃k' v vs,ps=(k',v)::vs/\keyD k=some k'/\Rp H d v/\Rpd H r vs
end
mutual
theorem Rp.same{H H':Hp}(h:Same H H'):∀(d:PyData){v:V},Rp H d v->Rp H' d v
 | .none,v,q=>by unfold Rp at q ⊢;exact q
 | .bool b,v,q=>by unfold Rp at q ⊢;exact q
 | .int i,v,q=>by unfold Rp at q ⊢;exact q
 | .str x,v,q=>by unfold Rp at q ⊢;exact q
 | .list ds,v,q=>by
  unfold Rp at q ⊢
  obtain⟨a,xs,e,hq,hr⟩:=q
  exact⟨a,xs,e,h _ _ hq,Rps.same h ds hr⟩
 | .tuple ds,v,q=>by
  unfold Rp at q ⊢
  obtain⟨a,xs,e,hq,hr⟩:=q
  exact⟨a,xs,e,h _ _ hq,Rps.same h ds hr⟩
 | .dict kvs,v,q=>by
  unfold Rp at q ⊢
  obtain⟨a,xs,e,hq,hr⟩:=q
  exact⟨a,xs,e,h _ _ hq,Rpd.same h kvs hr⟩
theorem Rps.same{H H':Hp}(h:Same H H'):∀(ds:List PyData){vs:List V},Rps H ds vs->Rps H' ds vs
 | [],vs,q=>by unfold Rps at q ⊢;exact q
 | d::ds,vs,q=>by
  unfold Rps at q ⊢
  obtain⟨v,vs',e,h1,h2⟩:=q
  exact⟨v,vs',e,Rp.same h d h1,Rps.same h ds h2⟩
theorem Rpd.same{H H':Hp}(h:Same H H'):∀(ds:List (PyData×PyData)){vs:List (Key×V)},Rpd H ds vs->Rpd H' ds vs
 | [],vs,q=>by unfold Rpd at q ⊢;exact q
 | (k,d)::ds,vs,q=>by
  unfold Rpd at q ⊢
  obtain⟨k',v,vs',e,h0,h1,h2⟩:=q
  exact⟨k',v,vs',e,h0,Rp.same h d h1,Rpd.same h ds h2⟩
end
theorem zdl{H:Hp}:∀{ds:List PyData}{xs:List V},Rps H ds xs↔Paired (Rp H) ds xs
 | [],xs=>by
  constructor
  ·intro h;unfold Rps at h;subst h;exact .nil
  ·intro h;cases h;unfold Rps;rfl
 | d::ds,xs=>by
  constructor
  ·intro h
   unfold Rps at h
   obtain⟨v,vs,rfl,h1,h2⟩:=h
   exact .cons h1 (zdl.mp h2)
  ·intro h
   cases h with
   | cons h1 h2=>unfold Rps;exact⟨_,_,rfl,h1,zdl.mpr h2⟩
theorem Rps.length{H:Hp}{ds:List PyData}{xs:List V}(h:Rps H ds xs):ds.length=xs.length:=(zdl.mp h).length
theorem zfe{H:Hp}{ds:List PyData}{v:V}(h:Rp H (.list ds) v):∃a xs,v=.ref a/\H a=some (.lst xs)/\Rps H ds xs:=by unfold Rp at h;exact h
theorem zcr{H:Hp}{ds:List PyData}{v:V}(h:Rp H (.tuple ds) v):∃a xs,v=.ref a/\H a=some (.tup xs)/\Rps H ds xs:=by unfold Rp at h;exact h
theorem zne{H:Hp}{ds:List (PyData×PyData)}{v:V}(h:Rp H (.dict ds) v):∃a xs,v=.ref a/\H a=some (.dK xs)/\Rpd H ds xs:=by unfold Rp at h;exact h
theorem zev{H:Hp}{i:Int}{v:V}(h:Rp H (.int i) v):v=.int i:=by unfold Rp at h;exact h
theorem zmh{H:Hp}{i:Str}{v:V}(h:Rp H (.str i) v):v=.str i:=by unfold Rp at h;exact h
theorem ziz{H:Hp}{i:Bool}{v:V}(h:Rp H (.bool i) v):v=.bl i:=by unfold Rp at h;exact h
theorem zya{H:Hp}{v:V}(h:Rp H .none v):v=.non:=by unfold Rp at h;exact h
theorem zae{H:Hp}{i:Int}:Rp H (.int i) (.int i):=by unfold Rp;rfl
theorem zdi{H:Hp}{i:Str}:Rp H (.str i) (.str i):=by unfold Rp;rfl
theorem zam{H:Hp}{i:Bool}:Rp H (.bool i) (.bl i):=by unfold Rp;rfl
theorem zgt{H:Hp}:Rp H .none .non:=by unfold Rp;rfl
theorem zic{H:Hp}{ds:List PyData}{a:Addr}{xs:List V}(h:H a=some (.lst xs))(r:Rps H ds xs):Rp H (.list ds) (.ref a):=by unfold Rp;exact⟨a,xs,rfl,h,r⟩
theorem zyb{H:Hp}{ds:List PyData}{a:Addr}{xs:List V}(h:H a=some (.tup xs))(r:Rps H ds xs):Rp H (.tuple ds) (.ref a):=by unfold Rp;exact⟨a,xs,rfl,h,r⟩
theorem znf{H:Hp}{ds:List (PyData×PyData)}{a:Addr}{xs:List (Key×V)}(h:H a=some (.dK xs))(r:Rpd H ds xs):Rp H (.dict ds) (.ref a):=by unfold Rp;exact⟨a,xs,rfl,h,r⟩
theorem zej{H:Hp}:Rps H [] []:=by unfold Rps;rfl
theorem zng{H:Hp}:Rpd H [] []:=by unfold Rpd;rfl
theorem zdx{H:Hp}{d:PyData}{ds:List PyData}{v:V}{vs:List V}(h:Rp H d v)(r:Rps H ds vs):Rps H (d::ds) (v::vs):=by
 show Rps H (d::ds) _
 unfold Rps;exact⟨v,vs,rfl,h,r⟩
theorem Rps.append{H:Hp}{ds es:List PyData}{vs ws:List V}(h:Rps H ds vs)(r:Rps H es ws):Rps H (ds++es) (vs++ws):=by
 replace h:=zdl.mp h
 refine zdl.mpr ?_
 induction h with
 | nil=>exact zdl.mp r
 | cons h _ ih=>exact .cons h ih
theorem Rps.get2{H:Hp}{ds:List PyData}{vs:List V}(h:Rps H ds vs){i:Nat}{d:PyData}(e:ds[i]?=some d):∃v,vs[i]?=some v/\Rp H d v:=by
 replace h:=zdl.mp h
 induction h generalizing i with
 | nil=>simp at e
 | cons h _ ih=>
  cases i with
  | zero=>simp at e;subst e;exact⟨_,rfl,h⟩
  | succ i=>simpa using ih (by simpa using e)
open Classical in
noncomputable def Offs(A:Addr->Prop)(H:Hp):Hp:=λb=>if A b then none else H b
theorem Offs.get{A:Addr->Prop}{H:Hp}{b:Addr}(h:¬A b):Offs A H b=H b:=if_neg h
theorem Offs.out{A:Addr->Prop}{H:Hp}{b:Addr}(h:A b):Offs A H b=none:=if_pos h
theorem Offs.of{A:Addr->Prop}{H:Hp}{b:Addr}{o:HO}(h:Offs A H b=some o):¬A b/\H b=some o:=by
 by_cases hb:A b
 ·rw[Offs.out hb]at h;cases h
 ·rw[Offs.get hb]at h;exact⟨hb,h⟩
theorem Offs.mono{A B:Addr->Prop}{H H':Hp}(s:Same H H')(h:∀b o,H b=some o->¬A b->¬B b):Same (Offs A H) (Offs B H'):=λb o e=>by
 obtain⟨h1,h2⟩:=Offs.of e
 rw[Offs.get (h b o h2 h1)]
 exact s b o h2
theorem Offs.same(A:Addr->Prop)(H:Hp):Same (Offs A H) H:=λb o e=>(Offs.of e).2
theorem Offs.sub{A B:Addr->Prop}{H:Hp}(h:∀b,B b->A b):Same (Offs A H) (Offs B H):=Offs.mono (Same.refl _) λb _ _ n z=>n (h b z)
theorem Offs.grow{A:Addr->Prop}{H H':Hp}(s:Same H H'):Same (Offs A H) (Offs A H'):=Offs.mono s λ_ _ _ z=>z
theorem Offs.upd{A:Addr->Prop}{H:Hp}{a:Addr}{o:HO}(h:A a):Offs A (upd H a o)=Offs A H:=by
 funext b
 by_cases hb:A b
 ·rw[Offs.out hb,Offs.out hb]
 ·rw[Offs.get hb,Offs.get hb,zar (λe=>hb (by rw[e];exact h))]
inductive Sl where
 | no
  | pl (d:PyData)
  | ac (d:PyData)
noncomputable abbrev DEnv:=List Sl
noncomputable def own(env:DEnv)(σ:St)(a:Addr):Prop:=∃(i:Nat)(d:PyData),env[i]?=some (.ac d)/\σ[i]?=some (some (.ref a))
noncomputable def zhp(Ho H:Hp)(a:Addr):PyData->Prop
 | .list ds=>∃xs,H a=some (.lst xs)/\Rps Ho ds xs
 | .dict kvs=>∃ps,H a=some (.dK ps)/\Rpd Ho kvs ps
 | _=>False
theorem zhp.rp{Ho H H':Hp}{a:Addr}{d:PyData}(h:zhp Ho H a d)(s:Same Ho H')(e:∀o,H a=some o->H' a=some o):Rp H' d (.ref a):=by
 cases d with
 | list ds=>
  obtain⟨xs,h1,h2⟩:=h
  exact zic (e _ h1) (Rps.same s _ h2)
 | dict ds=>
  obtain⟨xs,h1,h2⟩:=h
  exact znf (e _ h1) (Rpd.same s _ h2)
 | _=>exact h.elim
theorem zhp.same{Ho H Ho' H':Hp}{a:Addr}{d:PyData}(h:zhp Ho H a d)(s:Same Ho Ho')(e:∀o,H a=some o->H' a=some o):zhp Ho' H' a d:=by
 cases d with
 | list ds=>
  obtain⟨xs,h1,h2⟩:=h
  exact⟨xs,e _ h1,Rps.same s _ h2⟩
 | dict ds=>
  obtain⟨xs,h1,h2⟩:=h
  exact⟨xs,e _ h1,Rpd.same s _ h2⟩
 | _=>exact h.elim
theorem zhp.ex{Ho H:Hp}{a:Addr}{d:PyData}(h:zhp Ho H a d):∃o,H a=some o:=by
 cases d with
 | list ds=>obtain⟨xs,h1,h2⟩:=h;exact⟨_,h1⟩
 | dict ds=>obtain⟨xs,h1,h2⟩:=h;exact⟨_,h1⟩
 | _=>exact h.elim
structure EnvOk(fx:Addr->Prop)(H0:Hp)(env:DEnv)(σ:St)(H:Hp):Prop where
 len:env.length=σ.length
 pl:∀(i:Nat)(d:PyData),env[i]?=some (.pl d)->∃v,σ[i]?=some (some v)/\Rp (Offs (λa=>fx a\/own env σ a) H) d v
 ac:∀(i:Nat)(d:PyData),env[i]?=some (.ac d)->∃a,σ[i]?=some (some (.ref a))/\H0 a=none/\¬fx a/\zhp (Offs (λa=>fx a\/own env σ a) H) H a d
 inj:∀(i j:Nat)(d e:PyData)(a:Addr),env[i]?=some (.ac d)->env[j]?=some (.ac e)->σ[i]?=some (some (.ref a))->σ[j]?=some (some (.ref a))->i=j
 base:Same H0 H
 fxs:∀b,fx b->∃o,H b=some o
theorem EnvOk.grow{fx fx':Addr->Prop}{H0:Hp}{env:DEnv}{σ:St}{H H':Hp}(h:EnvOk fx H0 env σ H)(s:Same H H')(f:∀b o,H b=some o->¬fx b->¬fx' b)(g:∀b,fx' b->∃o,H' b=some o):EnvOk fx' H0 env σ H':=by
 have so:Same (Offs (λa=>fx a\/own env σ a) H) (Offs (λa=>fx' a\/own env σ a) H'):=Offs.mono s λb o e n=>λz=>z.elim (f b o e λy=>n (.inl y)) λy=>n (.inr y)
 refine⟨h.len,λi d e=>?_,λi d e=>?_,h.inj,h.base.trans s,g⟩
 ·obtain⟨v,h1,h2⟩:=h.pl i d e
  exact⟨v,h1,Rp.same so d h2⟩
 ·obtain⟨a,h1,h2,h3,h4⟩:=h.ac i d e
  obtain⟨o,ho⟩:=h4.ex
  exact⟨a,h1,h2,f a o ho h3,h4.same so λo=>s a o⟩
theorem EnvOk.up{fx:Addr->Prop}{H0:Hp}{env:DEnv}{σ:St}{H H':Hp}(h:EnvOk fx H0 env σ H)(s:Same H H'):EnvOk fx H0 env σ H':=
 h.grow s (λ_ _ _ z=>z) λb z=>let⟨o,e⟩:=h.fxs b z;⟨o,s b o e⟩
structure Val where
 d:PyData
 fr:Bool
 bs:List Nat
noncomputable def lim(fx:Addr->Prop)(env:DEnv)(σ:St)(bs:List Nat)(a:Addr):Prop:=fx a\/∃(i:Nat)(d:PyData),i∉bs/\env[i]?=some (.ac d)/\σ[i]?=some (some (.ref a))
structure ValOk(A:Addr->Prop)(H H':Hp)(r:Val)(v:V):Prop where
 rp:Rp (Offs A H') r.d v
 fr:r.fr=true->∃a,v=.ref a/\H a=none/\zhp (Offs (λb=>A b\/b=a) H') H' a r.d
theorem zlp{fx:Addr->Prop}{env:DEnv}{σ:St}{bs cs:List Nat}(h:∀i∈bs,i∈cs):∀a,lim fx env σ cs a->lim fx env σ bs a:=by
 rintro a (z|⟨i,d,h1,h2,h3⟩)
 ·exact .inl z
 ·exact .inr ⟨i,d,λq=>h1 (h i q),h2,h3⟩
theorem zph{fx:Addr->Prop}{env:DEnv}{σ:St}{bs:List Nat}:∀a,lim fx env σ bs a->fx a\/own env σ a:=by
 rintro a (z|⟨i,d,h1,h2,h3⟩)
 ·exact .inl z
 ·exact .inr ⟨i,d,h2,h3⟩
theorem zanr{fx:Addr->Prop}{env:DEnv}{σ:St}:∀a,fx a\/own env σ a->lim fx env σ [] a:=by
 rintro a (z|⟨i,d,h2,h3⟩)
 ·exact .inl z
 ·exact .inr ⟨i,d,by simp,h2,h3⟩
theorem EnvOk.lims{fx:Addr->Prop}{H0:Hp}{env:DEnv}{σ:St}{H:Hp}(h:EnvOk fx H0 env σ H)(bs:List Nat):∀b,lim fx env σ bs b->∃o,H b=some o:=by
 rintro b (z|⟨i,d,h1,h2,h3⟩)
 ·exact h.fxs b z
 ·obtain⟨a,g1,g2,g3,g4⟩:=h.ac i d h2
  rw[h3]at g1
  cases g1
  exact g4.ex
theorem ValOk.later{A B:Addr->Prop}{H0 H H' H'':Hp}{r:Val}{v:V}(h:ValOk A H H' r v)(s0:Same H0 H)(s:Same H' H'')(hB:∀b,B b->A b):ValOk B H0 H'' r v:=by
 refine⟨Rp.same (Offs.mono s λb _ _ n z=>n (hB b z)) _ h.rp,λe=>?_⟩
 obtain⟨a,h1,h2,h3⟩:=h.fr e
 exact⟨a,h1,s0.free h2,h3.same (Offs.mono s λb _ _ n z=>n (z.elim (λy=>.inl (hB b y)) .inr)) λo=>s a o⟩
noncomputable def zff:PyData->Bool
 | .list _=>false
 | .tuple _=>false
 | .dict _=>false
 | _=>true
theorem zpi{H H':Hp}{d:PyData}{v:V}(f:zff d=true)(h:Rp H d v):Rp H' d v:=by
 cases d<;>first
  | (unfold Rp at h ⊢;exact h)
  | cases f
noncomputable def bsOf(d:PyData)(bs:List Nat):List Nat:=if zff d=true then[]else bs
theorem znh{fx:Addr->Prop}{env:DEnv}{σ:St}{bs:List Nat}{H:Hp}{d:PyData}{v:V}(h:Rp (Offs (lim fx env σ bs) H) d v):Rp (Offs (lim fx env σ (bsOf d bs)) H) d v:=by
 unfold bsOf
 split
 ·rename_i e;exact zpi e h
 ·exact h
noncomputable abbrev EF:=DEnv->Option Val
noncomputable def SE(te:TE)(f:EF):Prop:=∀(fx:Addr->Prop)(H0:Hp)(env:DEnv)(σ:St)(H:Hp),EnvOk fx H0 env σ H->∀r,f env=some r->∀Q:VK,(∀v H',Same H H'->ValOk (lim fx env σ r.bs) H H' r v->Q v H')->te σ H Q
noncomputable abbrev TF:=DEnv->Option Bool
noncomputable def ST(tt:TT)(f:TF):Prop:=∀(fx:Addr->Prop)(H0:Hp)(env:DEnv)(σ:St)(H:Hp),EnvOk fx H0 env σ H->∀b,f env=some b->∀Q:Bool->Hp->Prop,(∀H',Same H H'->Q b H')->tt σ H Q
noncomputable abbrev AF:=DEnv->Option (List Val)
noncomputable def SA(ta:TA)(f:AF):Prop:=∀(fx:Addr->Prop)(H0:Hp)(env:DEnv)(σ:St)(H:Hp),EnvOk fx H0 env σ H->∀rs,f env=some rs->∀Q:List V->Hp->Prop,
 (∀vs H',Same H H'->Paired (λr v=>ValOk (lim fx env σ r.bs) H H' r v) rs vs->Q vs H')->ta σ H Q
section
variable{X:Cx}
noncomputable def eVar(i:Nat):EF:=λenv=>match env[i]? with
 | some (.pl d)=>some ⟨d,false,[]⟩
 | some (.ac d)=>some ⟨d,false,[i]⟩
 | _=>none
theorem zac(i:Nat):SE (tVar i) (eVar i):=by
 intro fx H0 env σ H h r hr Q q
 unfold eVar at hr
 cases e:env[i]? with
 | none=>rw[e]at hr;cases hr
 | some sl=>
  rw[e]at hr
  cases sl with
  | no=>cases hr
  | pl d=>
   cases hr
   obtain⟨v,h1,h2⟩:=h.pl i d e
   exact⟨v,h1,q v H (Same.refl _) ⟨Rp.same (Offs.sub zph) _ h2,λz=>by cases z⟩⟩
  | ac d=>
   cases hr
   obtain⟨a,h1,h2,h3,h4⟩:=h.ac i d e
   have hna:¬lim fx env σ [i] a:=by
    rintro(z|⟨j,d',g1,g2,g3⟩)
    ·exact h3 z
    ·exact g1 (qAL.mpr (h.inj j i d' d a g2 e g3 h1))
   exact⟨_,h1,q _ H (Same.refl _) ⟨h4.rp (Offs.sub zph) λo z=>by rw[Offs.get hna];exact z,λz=>by cases z⟩⟩
noncomputable def eC(d:PyData):EF:=λ_=>some ⟨d,false,[]⟩
theorem se_c{d:PyData}{v:V}(h:∀H,Rp H d v):SE (tC v) (eC d):=by
 intro fx H0 env σ H _ r hr Q q
 cases hr
 exact q v H (Same.refl _) ⟨h _,λz=>by cases z⟩
noncomputable abbrev OF:=PyData->PyData->Option (PyData×Bool)
noncomputable def SO(r:R2)(f:OF):Prop:=∀(A:Addr->Prop)(H:Hp)(x y:V)(dx dy:PyData),(∀b,A b->∃o,H b=some o)->Rp (Offs A H) dx x->Rp (Offs A H) dy y->∀d fr,f dx dy=some (d,fr)->∀Q:VK,
 (∀v H',Same H H'->Rp (Offs A H') d v->(fr=true->∃a,v=.ref a/\H a=none/\zhp (Offs (λb=>A b\/b=a) H') H' a d)->Q v H')->r x y H Q
noncomputable def eOp(f:OF)(a b:EF):EF:=λenv=>(a env).bind λx=>(b env).bind λy=>(f x.d y.d).bind λz=>some ⟨z.1,z.2,bsOf z.1 (x.bs++y.bs)⟩
theorem zau{r:R2}{f:OF}{ta tb:TE}{fa fb:EF}(ho:SO r f)(ha:SE ta fa)(hb:SE tb fb):SE (tOp r ta tb) (eOp f fa fb):=by
 intro fx H0 env σ H h rr hr Q q
 unfold eOp at hr
 obtain⟨x,ex,hr⟩:=qA.mp hr
 obtain⟨y,ey,hr⟩:=qA.mp hr
 obtain⟨⟨d,fr⟩,ez,hr⟩:=qA.mp hr
 cases hr
 refine ha fx H0 env σ H h x ex _ λv H1 s1 v1=>hb fx H0 env σ H1 (h.up s1) y ey _ λu H2 s2 v2=>?_
 have l1:∀b,lim fx env σ (x.bs++y.bs) b->lim fx env σ x.bs b:=zlp λi hi=>qu _ hi
 have l2:∀b,lim fx env σ (x.bs++y.bs) b->lim fx env σ y.bs b:=zlp λi hi=>qb _ hi
 refine ho (lim fx env σ (x.bs++y.bs)) H2 v u x.d y.d ((h.up (s1.trans s2)).lims _) (v1.later (Same.refl _) s2 l1).rp (v2.later (Same.refl _) (Same.refl _) l2).rp d fr ez _ λw H3 s3 rp fr3=>q w H3 ((s1.trans s2).trans s3) ⟨znh rp,λe=>?_⟩
 obtain⟨a,g1,g2,g3⟩:=fr3 e
 refine⟨a,g1,(s1.trans s2).free g2,?_⟩
 have nf:zff d=false:=by cases d<;>first|rfl|exact g3.elim
 show zhp (Offs (λb=>lim fx env σ (bsOf d (x.bs++y.bs)) b\/b=a) H3) H3 a d
 rw[show bsOf d (x.bs++y.bs)=x.bs++y.bs by unfold bsOf;rw[if_neg (by rw[nf];decide)]]
 exact g3
end
theorem zhb{n:Nat}(h:n<=100000):n<=qV:=qAM h (by decide)
theorem zpj{n:Nat}(h:n<100000):n<qV:=qDC h (by decide)
theorem zes{A:Addr->Prop}{H:Hp}(hA:∀b,A b->∃o,H b=some o){p:Addr}(hp:H p=none):¬A p:=λz=>by
 obtain⟨o,e⟩:=hA p z
 rw[hp]at e;cases e
theorem zsy{A:Addr->Prop}{H:Hp}{p:Addr}{ds:List PyData}{xs:List V}(hp:H p=none)(r:Rps (Offs A H) ds xs):zhp (Offs (λb=>A b\/b=p) (upd H p (.lst xs))) (upd H p (.lst xs)) p (.list ds):=by
 refine⟨xs,zaq,Rps.same (Offs.mono (Same.new hp) λb o e n z=>?_) _ r⟩
 rcases z with z|z
 ·exact n z
 ·rw[z,hp]at e;cases e
theorem zzr{A:Addr->Prop}{H:Hp}{p:Addr}{ds:List PyData}{xs:List V}(hp:H p=none)(hA:¬A p)(r:Rps (Offs A H) ds xs):Rp (Offs A (upd H p (.lst xs))) (.list ds) (.ref p):=
 zic (by rw[Offs.get hA];exact zaq) (Rps.same (Offs.grow (Same.new hp)) _ r)
theorem zlq{A:Addr->Prop}{H:Hp}{p:Addr}{ds:List PyData}{xs:List V}(hp:H p=none)(hA:¬A p)(r:Rps (Offs A H) ds xs):Rp (Offs A (upd H p (.tup xs))) (.tuple ds) (.ref p):=
 zyb (by rw[Offs.get hA];exact zaq) (Rps.same (Offs.grow (Same.new hp)) _ r)
theorem zdj{A:Addr->Prop}{H:Hp}{a:Addr}{o:HO}(h:Offs A H a=some o):H a=some o:=(Offs.of h).2
noncomputable def addD:OF
 | .int i,.int j=>some (.int (i+j),false)
 | .str a,.str b=>if a.length+b.length<=100000 then some (.str (a++b),false)else none
 | .list a,.list b=>if a.length+b.length<=100000 then some (.list (a++b),true)else none
 | .tuple a,.tuple b=>if a.isEmpty=false/\a.length+b.length<=100000 then some (.tuple (a++b),false)else none
 | _,_=>none
theorem zee{K:qB}:SO (zais K) addD:=by
 intro A H x y dx dy hA rx ry d fr e Q q
 unfold addD at e
 split at e
 ·cases e
  cases zev rx;cases zev ry
  exact q _ H (Same.refl _) zae (λz=>by cases z)
 ·split at e
  ·rename_i hl
   cases e
   cases zmh rx;cases zmh ry
   exact⟨zhb hl,q _ H (Same.refl _) zdi (λz=>by cases z)⟩
  ·cases e
 ·split at e
  ·rename_i hl
   cases e
   obtain⟨p,xs,rfl,hp,r1⟩:=zfe rx
   obtain⟨p',ys,rfl,hp',r2⟩:=zfe ry
   refine .inl ⟨p,p',xs,ys,rfl,rfl,zdj hp,zdj hp',zhb (by rw[<- r1.length,<- r2.length];exact hl),λb hb=>?_⟩
   exact q _ _ (Same.new hb) (zzr hb (zes hA hb) (r1.append r2)) λ_=>⟨b,rfl,hb,zsy hb (r1.append r2)⟩
  ·cases e
 ·split at e
  ·rename_i hl
   cases e
   obtain⟨p,xs,rfl,hp,r1⟩:=zcr rx
   obtain⟨p',ys,rfl,hp',r2⟩:=zcr ry
   refine .inr ⟨p,p',xs,ys,rfl,rfl,SqT.of (zdj hp),SqT.of (zdj hp'),λz=>?_,zhb (by rw[<- r1.length,<- r2.length];exact hl.2),λz=>?_,λ_ b hb=>?_⟩
   ·have h1:=r1.length
    have h0:=hl.1
    rw[z]at h1
    rw[List.isEmpty_eq_false_iff]at h0
    exact h0 (qBZ.mp h1)
   ·have h2:=r2.length
    rw[z]at h2
    have:=qBZ.mp h2
    subst this
    rw[qAB]at q
    exact q _ H (Same.refl _) rx (λz=>by cases z)
   ·exact q _ _ (Same.new hb) (zlq hb (zes hA hb) (r1.append r2)) (λz=>by cases z)
  ·cases e
 ·cases e
noncomputable def intD(c:Int->Int->Bool)(f:Int->Int->PyData):OF
 | .int i,.int j=>if c i j=true then some (f i j,false)else none
 | _,_=>none
theorem zalm{C:Int->Int->Prop}{g:Int->Int->V}{c:Int->Int->Bool}{f:Int->Int->PyData}(hc:∀i j,c i j=true->C i j)(hf:∀H i j,Rp H (f i j) (g i j)):SO (rI C g) (intD c f):=by
 intro A H x y dx dy hA rx ry d fr e Q q
 unfold intD at e
 split at e
 ·split at e
  ·rename_i h
   cases e
   cases zev rx;cases zev ry
   exact⟨_,_,rfl,rfl,hc _ _ h,q _ H (Same.refl _) (hf _ _ _) (λz=>by cases z)⟩
  ·cases e
 ·cases e
noncomputable def modD:OF:=intD (λ_ j=>decide (0<j)) λi j=>.int (i % j)
theorem zdd:SO (rI (λ_ j=>0<j) λi j=>.int (i % j)) modD:=zalm (λ_ _ h=>of_decide_eq_true h) λ_ _ _=>zae
noncomputable def zdp:OF:=intD (λ_ j=>decide (0<j/\j<1073741824)) λi j=>.int (i / j)
theorem zet:SO (rI CDiv λi j=>.int (i / j)) zdp:=zalm (λi j h=>(of_decide_eq_true h:0<j/\j<1073741824)) λ_ _ _=>zae
noncomputable def mulD:OF
 | .int i,.int j=>if(-(2 ^ 64)<i/\i<2 ^ 64)\/(-(2 ^ 64)<j/\j<2 ^ 64)then some (.int (i * j),false)else none
 | .str z,.int n=>if z.length<=1000/\-1000<=n/\n<=1000 then some (.str (Txt.mul z n),false)else none
 | _,_=>none
theorem zuv:SO zare mulD:=by
 intro A H x y dx dy hA rx ry d fr e Q q
 unfold mulD at e
 split at e
 ·split at e
  ·rename_i h
   cases e
   cases zev rx;cases zev ry
   exact⟨h,q _ H (Same.refl _) zae (λz=>by cases z)⟩
  ·cases e
 ·split at e
  ·rename_i h
   cases e
   cases zmh rx;cases zev ry
   exact⟨h.1,h.2.1,h.2.2,q _ H (Same.refl _) zdi (λz=>by cases z)⟩
  ·cases e
 ·cases e
mutual
theorem zuw{K:qB}{H:Hp}:∀{d:PyData}{v:V},d.canLay0=true->Rp H d v->Rep K H d v
 | .none,v,_,h=>by unfold Rp at h;unfold Rep;exact h
 | .bool b,v,_,h=>by unfold Rp at h;unfold Rep;exact h
 | .int i,v,_,h=>by unfold Rp at h;unfold Rep;exact h
 | .str x,v,_,h=>by unfold Rp at h;unfold Rep;exact h
 | .list ds,v,c,h=>by
  obtain⟨a,xs,e,h1,h2⟩:=zfe h
  unfold Rep
  exact⟨a,xs,e,SqL.of h1,rps_reps (by simpa [PyData.canLay0]using c) h2⟩
 | .tuple ds,v,c,h=>by
  obtain⟨a,xs,e,h1,h2⟩:=zcr h
  unfold Rep
  exact⟨a,xs,e,SqT.of h1,rps_reps (by simpa [PyData.canLay0]using c) h2⟩
 | .dict _,v,c,h=>by simp[PyData.canLay0]at c
theorem rps_reps{K:qB}{H:Hp}:∀{ds:List PyData}{vs:List V},qAc ds=true->Rps H ds vs->Reps K H ds vs
 | [],vs,_,h=>by unfold Rps at h;unfold Reps;exact h
 | d::ds,vs,c,h=>by
  unfold Rps at h
  obtain⟨v,ws,e,h1,h2⟩:=h
  have c:d.canLay0=true/\qAc ds=true:=by simpa [qAc]using c
  unfold Reps
  exact⟨v,ws,e,zuw c.1 h1,rps_reps c.2 h2⟩
end
noncomputable def zaiz:PyData->PyData->Bool
 | .none,.none=>true|.none,.int _=>true|.int _,.none=>true|.none,.bool _=>true|.bool _,.none=>true|.none,.str _=>true|.str _,.none=>true
 | .int _,.int _=>true|.bool _,.bool _=>true|.str _,.str _=>true
 | .int _,.str _=>true|.str _,.int _=>true|.bool _,.str _=>true|.str _,.bool _=>true
 | _,_=>false
noncomputable def eqOk(dx dy:PyData):Bool:=zaiz dx dy||(qAb dx&&qAb dy)
noncomputable def eqD:OF:=λdx dy=>if eqOk dx dy=true then some (.bool (qAx dx dy),false)else none
noncomputable def neD:OF:=λdx dy=>if eqOk dx dy=true then some (.bool (!PyData.eqv dx dy),false)else none
theorem zaet{H:Hp}{dx dy:PyData}{x y:V}(s:zaiz dx dy=true)(rx:Rp H dx x)(ry:Rp H dy y):scal x y=true/\decide (x=y)=qAx dx dy:=by
 cases dx<;>cases dy<;>first
  | (exact absurd (show false=true from s) qP)
  | (unfold Rp at rx ry;subst rx;subst ry;refine⟨rfl,?_⟩;first|rfl|exact zxp|exact zzi|exact zxq|simp[qAx])
theorem zrd{K:qB}:SO (λx y H Q=>rEq x y H Q\/rEqD K false x y H Q) eqD:=by
 intro A H x y dx dy hA rx ry d fr e Q q
 unfold eqD at e
 split at e
 ·rename_i h
  cases e
  cases hs:zaiz dx dy with
  | true=>
   obtain⟨h1,h2⟩:=zaet hs rx ry
   exact .inl ⟨h1,by rw[h2];exact q _ H (Same.refl _) zam (λz=>by cases z)⟩
  | false=>
   unfold eqOk at h
   rw[hs,qCI,qx]at h
   have rx:=Rp.same (Offs.same A H) _ rx
   have ry:=Rp.same (Offs.same A H) _ ry
   exact .inr ⟨dx,dy,zuw (qAn h.1) rx,zuw (qAn h.2) ry,h.1,h.2,q _ H (Same.refl _) zam (λz=>by cases z)⟩
 ·cases e
theorem zpk{K:qB}:SO (λx y H Q=>rNe x y H Q\/rEqD K true x y H Q) neD:=by
 intro A H x y dx dy hA rx ry d fr e Q q
 unfold neD at e
 split at e
 ·rename_i h
  cases e
  cases hs:zaiz dx dy with
  | true=>
   obtain⟨h1,h2⟩:=zaet hs rx ry
   exact .inl ⟨h1,by rw[h2];exact q _ H (Same.refl _) zam (λz=>by cases z)⟩
  | false=>
   unfold eqOk at h
   rw[hs,qCI,qx]at h
   have rx:=Rp.same (Offs.same A H) _ rx
   have ry:=Rp.same (Offs.same A H) _ ry
   exact .inr ⟨dx,dy,zuw (qAn h.1) rx,zuw (qAn h.2) ry,h.1,h.2,q _ H (Same.refl _) zam (λz=>by cases z)⟩
 ·cases e
noncomputable def zef(ds:List PyData):Bool:=ds.all zff
theorem zaln{H:Hp}{d:PyData}{v:V}(f:zff d=true)(h:Rp H d v):zrc v=true:=by
 cases d<;>first
  | (unfold Rp at h;subst h;rfl)
  | cases f
theorem zans{H:Hp}{ds:List PyData}{vs:List V}(f:zef ds=true)(h:Rps H ds vs):vs.all zrc=true:=by
 replace h:=zdl.mp h
 induction h with
 | nil=>rfl
 | cons h _ ih=>
  unfold zef at f
  rw[qAy,qx]at f
  rw[qAy,zaln f.1 h,ih f.2];rfl
theorem zant{H:Hp}{d e:PyData}{v u:V}(f:zff d=true)(g:zff e=true)(h:Rp H d v)(k:Rp H e u):eqV v u=qAx d e:=by
 cases d<;>cases e<;>first
  | (unfold Rp at h k;subst h;subst k;rfl)
  | exact absurd (show false=true from f) qP
  | exact absurd (show false=true from g) qP
theorem zanu{H:Hp}{d:PyData}{v:V}(f:zff d=true)(h:Rp H d v){ds:List PyData}{vs:List V}(g:zef ds=true)(r:Rps H ds vs):inV v vs=ds.any λe=>qAx e d:=by
 replace r:=zdl.mp r
 unfold inV
 induction r with
 | nil=>rfl
 | cons r _ ih=>
  unfold zef at g
  rw[qAy,qx]at g
  rw[qBC,qBC,zant g.1 f r h,ih g.2]
noncomputable def zid:PyData->Option (List PyData)
 | .list ds=>some ds
 | .tuple ds=>some ds
 | _=>none
noncomputable def inD(neg:Bool):OF:=λd c=>match zid c with
 | some ds=>if zff d=true/\zef ds=true then some (.bool (if neg then !(ds.any λe=>qAx e d)else ds.any λe=>qAx e d),false)else none
 | none=>none
theorem zzs{K:qB}{H:Hp}{c:PyData}{v:V}{ds:List PyData}(h:Rp H c v)(e:zid c=some ds):∃p xs,v=.ref p/\(SqL K H p xs\/SqT K H p xs)/\Rps H ds xs:=by
 cases c<;>first
  | cases e
  | skip
 ·obtain⟨a,xs,e,h1,h2⟩:=zfe h;exact⟨a,xs,e,.inl (SqL.of h1),h2⟩
 ·obtain⟨a,xs,e,h1,h2⟩:=zcr h;exact⟨a,xs,e,.inr (SqT.of h1),h2⟩
theorem zaja{K:qB}{neg:Bool}:SO (rIn K neg) (inD neg):=by
 intro A H x y dx dy hA rx ry d fr e Q q
 unfold inD at e
 split at e
 ·rename_i ds hi
  split at e
  ·rename_i h
   cases e
   have rx:=Rp.same (Offs.same A H) _ rx
   obtain⟨p,xs,rfl,hq,r⟩:=zzs (K:=K) (Rp.same (Offs.same A H) _ ry) hi
   refine⟨p,xs,rfl,hq,zaln h.1 rx,zans h.2 r,?_⟩
   rw[zanu h.1 rx h.2 r]
   refine q _ H (Same.refl _) ?_ (λz=>by cases z)
   cases neg<;>exact zam
  ·cases e
 ·cases e
noncomputable def ixD:OF
 | .str z,.int i=>if z.length<=100000 then(atI z.cps.toList i).map λc=>(.str ⟨#[c]⟩,false)else none
 | .list ds,.int i=>(atI ds i).map λd=>(d,false)
 | .tuple ds,.int i=>(atI ds i).map λd=>(d,false)
 | _,_=>none
theorem Rps.atI{H:Hp}{ds:List PyData}{vs:List V}(h:Rps H ds vs){i:Int}{d:PyData}(e:atI ds i=some d):∃v,L2.atI vs i=some v/\Rp H d v:=by
 unfold L2.atI at e ⊢
 rw[<- h.length]
 cases g:ixN ds.length i with
 | none=>rw[g]at e;cases e
 | some j=>
  rw[g]at e
  exact h.get2 e
theorem zajb{K:qB}:SO (rIxU K) ixD:=by
 intro A H x y dx dy hA rx ry d fr e Q q
 unfold ixD at e
 split at e
 ·split at e
  ·rename_i z i hl
   obtain⟨c,hc,e⟩:=qG.mp e
   cases e
   cases zmh rx;cases zev ry
   exact⟨zhb hl,c,hc,q _ H (Same.refl _) zdi (λz=>by cases z)⟩
  ·cases e
 ·obtain⟨c,hc,e⟩:=qG.mp e
  cases e
  obtain⟨p,xs,rfl,hp,r⟩:=zfe rx
  cases zev ry
  obtain⟨v,hv,rv⟩:=r.atI hc
  exact⟨xs,v,.inl (SqL.of (zdj hp)),hv,q _ H (Same.refl _) rv (λz=>by cases z)⟩
 ·obtain⟨c,hc,e⟩:=qG.mp e
  cases e
  obtain⟨p,xs,rfl,hp,r⟩:=zcr rx
  cases zev ry
  obtain⟨v,hv,rv⟩:=r.atI hc
  exact⟨xs,v,.inr (SqT.of (zdj hp)),hv,q _ H (Same.refl _) rv (λz=>by cases z)⟩
 ·cases e
noncomputable def zmi:List (PyData×PyData)->Key->Option PyData
 | [],_=>none
 | (k,d)::r,j=>if keyD k=some j then some d else zmi r j
noncomputable def zyc(kvs:List (PyData×PyData))(j:Key):Bool:=(zmi kvs j).isSome
noncomputable def zre(kvs:List (PyData×PyData))(k:PyData)(d:PyData):List (PyData×PyData):=
 if(kvs.any λkv=>decide (keyD kv.1=keyD k))=true then kvs.map (λkv=>if keyD kv.1=keyD k then(kv.1,d)else kv)else kvs++[(k,d)]
noncomputable def zlr(kvs more:List (PyData×PyData)):List (PyData×PyData):=more.foldl (λacc kv=>zre acc kv.1 kv.2) kvs
theorem zky{H:Hp}{k d:PyData}{r:List (PyData×PyData)}{k':Key}{v:V}{vs:List (Key×V)}(hk:keyD k=some k')(h:Rp H d v)(q:Rpd H r vs):Rpd H ((k,d)::r) ((k',v)::vs):=by
 show Rpd H ((k,d)::r) _
 unfold Rpd;exact⟨k',v,vs,rfl,hk,h,q⟩
theorem zgu{H:Hp}{k d:PyData}{r:List (PyData×PyData)}{ps:List (Key×V)}(h:Rpd H ((k,d)::r) ps):∃k' v vs,ps=(k',v)::vs/\keyD k=some k'/\Rp H d v/\Rpd H r vs:=by
 unfold Rpd at h;exact h
theorem Rpd.length{H:Hp}:∀{kvs:List (PyData×PyData)}{ps:List (Key×V)},Rpd H kvs ps->kvs.length=ps.length
 | [],ps,h=>by unfold Rpd at h;subst h;rfl
 | (k,d)::r,ps,h=>by
  obtain⟨k',v,vs,rfl,_,_,h3⟩:=zgu h
  rw[qAQ,qAQ,h3.length]
theorem Rpd.get{H:Hp}{j:Key}:∀{kvs:List (PyData×PyData)}{ps:List (Key×V)},Rpd H kvs ps->match zmi kvs j with
  | some d=>∃v,valV ps j=some v/\Rp H d v
  | none=>valV ps j=none
 | [],ps,h=>by unfold Rpd at h;subst h;rfl
 | (k,d)::r,ps,h=>by
  obtain⟨k',v,vs,rfl,hk,h2,h3⟩:=zgu h
  have ih:=Rpd.get (j:=j) h3
  unfold zmi
  by_cases e:k'=j
  ·rw[if_pos (by rw[hk,e])]
   exact⟨v,zov e,h2⟩
  ·rw[if_neg (λz=>e (by rw[hk]at z;exact qZ z)),zow e]
   exact ih
theorem Rpd.any{H:Hp}{j:Key}:∀{kvs:List (PyData×PyData)}{ps:List (Key×V)},Rpd H kvs ps->(kvs.any λkv=>decide (keyD kv.1=some j))=ps.any λkv=>decide (kv.1=j)
 | [],ps,h=>by unfold Rpd at h;subst h;rfl
 | (k,d)::r,ps,h=>by
  obtain⟨k',v,vs,rfl,hk,h2,h3⟩:=zgu h
  rw[qBC,qBC,h3.any,hk]
  congr 1
  simp
theorem Rpd.map{H:Hp}{j:Key}{d':PyData}{v':V}(h':Rp H d' v'):∀{kvs:List (PyData×PyData)}{ps:List (Key×V)},Rpd H kvs ps->Rpd H (kvs.map λkv=>if keyD kv.1=some j then(kv.1,d')else kv) (ps.map λkv=>if kv.1=j then(kv.1,v')else kv)
 | [],ps,h=>by unfold Rpd at h;subst h;exact zng
 | (k,d)::r,ps,h=>by
  obtain⟨k',v,vs,rfl,hk,h2,h3⟩:=zgu h
  rw[qd,qd]
  by_cases e:k'=j
  ·rw[if_pos (show keyD (k,d).1=some j by rw[hk,e]),if_pos (show((k',v):Key×V).1=j from e)]
   exact zky hk h' (Rpd.map h' h3)
  ·rw[if_neg (show ¬keyD (k,d).1=some j from λz=>e (by rw[hk]at z;exact qZ z)),if_neg (show ¬((k',v):Key×V).1=j from e)]
   exact zky hk h2 (Rpd.map h' h3)
theorem Rpd.snoc{H:Hp}{k d:PyData}{k':Key}{v:V}(hk:keyD k=some k')(h':Rp H d v):∀{kvs:List (PyData×PyData)}{ps:List (Key×V)},Rpd H kvs ps->Rpd H (kvs++[(k,d)]) (ps++[(k',v)])
 | [],ps,h=>by unfold Rpd at h;subst h;exact zky hk h' zng
 | (k0,d0)::r,ps,h=>by
  obtain⟨k1,v1,vs,rfl,hk1,h2,h3⟩:=zgu h
  exact zky hk1 h2 (Rpd.snoc hk h' h3)
theorem Rpd.put{H:Hp}{k d:PyData}{j:Key}{v:V}{kvs:List (PyData×PyData)}{ps:List (Key×V)}(h:Rpd H kvs ps)(hk:keyD k=some j)(h':Rp H d v):Rpd H (zre kvs k d) (putK ps j v):=by
 unfold zre putK
 rw[hk,h.any]
 split
 ·exact h.map h'
 ·exact h.snoc hk h'
theorem Rpd.merge{H:Hp}:∀{more:List (PyData×PyData)}{ps:List (Key×V)}{kvs:List (PyData×PyData)}{qs:List (Key×V)},Rpd H kvs qs->Rpd H more ps->Rpd H (zlr kvs more) (zmb qs ps)
 | [],ps,kvs,qs,h,g=>by unfold Rpd at g;subst g;exact h
 | (k,d)::r,ps,kvs,qs,h,g=>by
  obtain⟨k',v,vs,rfl,hk,h2,h3⟩:=zgu g
  show Rpd H (zlr (zre kvs k d) r) (zmb (putK qs k' v) vs)
  exact Rpd.merge (h.put hk h2) h3
theorem zajc{H:Hp}{d:PyData}{v:V}{k:Key}(h:Rp H d v)(e:keyD d=some k):v=kV k:=by
 cases d<;>first
  | (cases e;unfold Rp at h;exact h)
  | cases e
noncomputable def zauj(a b:EF):EF:=λenv=>(a env).bind λx=>(b env).bind λy=>match x.d with
 | .dict kvs=>(keyD y.d).bind λk=>(zmi kvs k).bind λd=>some ⟨d,false,bsOf d x.bs⟩
 | _=>none
noncomputable def eDIn(neg:Bool)(a b:EF):EF:=λenv=>(a env).bind λx=>(b env).bind λy=>match y.d with
 | .dict kvs=>(keyD x.d).bind λk=>some ⟨.bool (if neg then !zyc kvs k else zyc kvs k),false,[]⟩
 | _=>none
theorem zanv{H:Hp}{kvs:List (PyData×PyData)}{ps:List (Key×V)}(r:Rpd H kvs ps)(k:Key):(valV ps k).isSome=zyc kvs k:=by
 have g:=r.get (j:=k)
 unfold zyc
 cases e:zmi kvs k with
 | none=>rw[e]at g;rw[show valV ps k=none from g];rfl
 | some d=>rw[e]at g;obtain⟨w,e1,_⟩:=g;rw[e1];rfl
theorem zalo{td ty:TE}{fa fb:EF}(ha:SE ty fa)(hb:SE td fb):SE (tDIn ty td) (eDIn false fa fb):=by
 intro fx H0 env σ H h rr hr Q q
 unfold eDIn at hr
 obtain⟨⟨dx,frx,bx⟩,ex,hr⟩:=qA.mp hr
 obtain⟨⟨dy,fry,by'⟩,ey,hr⟩:=qA.mp hr
 cases dy with
 | dict kvs=>
  obtain⟨k,ek,hr⟩:=qA.mp hr
  cases hr
  refine ha fx H0 env σ H h _ ex _ λv H1 s1 v1=>hb fx H0 env σ H1 (h.up s1) _ ey _ λu H2 s2 v2=>?_
  obtain⟨a,ps,rfl,hp,r⟩:=zne v2.rp
  rw[zajc v1.rp ek]
  exact⟨a,_,rfl,DGet.k (zdj hp),by rw[zanv r k];exact q _ H2 (s1.trans s2) ⟨zam,λz=>by cases z⟩⟩
 | _=>cases hr
noncomputable def zbt(f:EF):TF:=λenv=>(f env).bind λr=>match r.d with|.bool b=>some b|_=>none
theorem st_b{te:TE}{f:EF}(h:SE te f):ST (tB te) (zbt f):=by
 intro fx H0 env σ H hE b hb Q q
 unfold zbt at hb
 obtain⟨⟨d,fr,bs⟩,e,hb⟩:=qA.mp hb
 cases d with
 | bool c=>
  have hb:some c=some b:=hb
  cases hb
  exact h fx H0 env σ H hE _ e _ λv H' s v1=>⟨_,ziz v1.rp,q H' s⟩
 | _=>cases hb
theorem st_t{te:TE}{f:EF}(h:SE te f):ST (tTest te) (zbt f):=st_b h
noncomputable def truD:PyData->Option Bool
 | .none=>some false
 | .bool b=>some b
 | .int i=>some (i != 0)
 | .str x=>if x.length<=100000 then some ((x.length:Int) != 0)else none
 | .list ds=>some (!ds.isEmpty)
 | .tuple ds=>some (!ds.isEmpty)
 | .dict ds=>some (!ds.isEmpty)
noncomputable def tTru(f:EF):TF:=λenv=>(f env).bind λr=>truD r.d
theorem zls{α β:Type}{xs:List α}{ys:List β}(h:xs.length=ys.length):xs.isEmpty=ys.isEmpty:=by
 cases xs<;>cases ys<;>simp at h<;>rfl
theorem zarl{K:qB}{H:Hp}{d:PyData}{v:V}{b:Bool}(h:Rp H d v)(e:truD d=some b):TruV K v H b:=by
 cases d with
 | none=>cases e;cases zya h;rfl
 | bool c=>cases e;cases ziz h;rfl
 | int i=>cases e;cases zev h;rfl
 | str x=>
  have e:(if x.length<=100000 then some ((x.length:Int) != 0)else none)=some b:=e
  split at e
  ·rename_i hl;cases e;cases zmh h;exact⟨zhb hl,rfl⟩
  ·cases e
 | list ds=>cases e;obtain⟨a,xs,rfl,h1,h2⟩:=zfe h;exact .inl ⟨xs,SqL.of h1,by rw[zls h2.length]⟩
 | tuple ds=>cases e;obtain⟨a,xs,rfl,h1,h2⟩:=zcr h;exact .inr (.inl ⟨xs,SqT.of h1,by rw[zls h2.length]⟩)
 | dict ds=>cases e;obtain⟨a,xs,rfl,h1,h2⟩:=zne h;exact .inr (.inr ⟨xs,h1,by rw[zls h2.length]⟩)
theorem zka{K:qB}{te:TE}{f:EF}(h:SE te f):ST (λσ H Q=>te σ H λx H1=>∃k,TruV K x H1 k/\Q k H1) (tTru f):=by
 intro fx H0 env σ H hE b hb Q q
 unfold tTru at hb
 obtain⟨r,e,hb⟩:=qA.mp hb
 exact h fx H0 env σ H hE _ e _ λv H' s v1=>⟨b,zarl (Rp.same (Offs.same _ _) _ v1.rp) hb,q H' s⟩
noncomputable def zjt(f g:TF):TF:=λenv=>(f env).bind λb=>if b=true then g env else some false
noncomputable def tOrF(f g:TF):TF:=λenv=>(f env).bind λb=>if b=true then some true else g env
noncomputable def zhc(f:TF):TF:=λenv=>(f env).map λb=>!b
theorem zaeu{t u:TT}{f g:TF}(h:ST t f)(k:ST u g):ST (tAnd t u) (zjt f g):=by
 intro fx H0 env σ H hE b hb Q q
 unfold zjt at hb
 obtain⟨c,e,hb⟩:=qA.mp hb
 refine h fx H0 env σ H hE c e _ λH' s=>?_
 cases c with
 | true=>exact iteT (k fx H0 env σ H' (hE.up s) b hb _ λH'' s'=>q H'' (s.trans s'))
 | false=>cases hb;exact iteF (q H' s)
theorem zarm{t u:TT}{f g:TF}(h:ST t f)(k:ST u g):ST (tOr t u) (tOrF f g):=by
 intro fx H0 env σ H hE b hb Q q
 unfold tOrF at hb
 obtain⟨c,e,hb⟩:=qA.mp hb
 refine h fx H0 env σ H hE c e _ λH' s=>?_
 cases c with
 | false=>exact iteF (k fx H0 env σ H' (hE.up s) b hb _ λH'' s'=>q H'' (s.trans s'))
 | true=>cases hb;exact iteT (q H' s)
theorem zux{t:TT}{f:TF}(h:ST t f):ST (tNot t) (zhc f):=by
 intro fx H0 env σ H hE b hb Q q
 unfold zhc at hb
 obtain⟨c,e,rfl⟩:=qG.mp hb
 exact h fx H0 env σ H hE c e _ λH' s=>q H' s
noncomputable def asB:PyData->Option Bool|.bool b=>some b|_=>none
noncomputable def eAnd(a b:EF):EF:=λenv=>(a env).bind λx=>(asB x.d).bind λc=>if c=true then b env else some ⟨.bool false,false,[]⟩
theorem as_b{H:Hp}{d:PyData}{v:V}{c:Bool}(h:Rp H d v)(e:asB d=some c):v=.bl c:=by
 cases d<;>first
  | (cases e;exact ziz h)
  | cases e
theorem zuy{ta tb:TE}{fa fb:EF}(ha:SE ta fa)(hb:SE tb fb):SE (tAndV ta tb) (eAnd fa fb):=by
 intro fx H0 env σ H h rr hr Q q
 unfold eAnd at hr
 obtain⟨x,ex,hr⟩:=qA.mp hr
 obtain⟨c,ec,hr⟩:=qA.mp hr
 refine ha fx H0 env σ H h _ ex _ λv H1 s1 v1=>⟨c,as_b v1.rp ec,?_⟩
 cases c with
 | true=>exact iteT (hb fx H0 env σ H1 (h.up s1) _ hr _ λu H2 s2 v2=>q u H2 (s1.trans s2) (v2.later s1 (Same.refl _) λ_ z=>z))
 | false=>cases hr;exact iteF (q _ H1 s1 ⟨zam,λz=>by cases z⟩)
noncomputable def aNil:AF:=λ_=>some []
noncomputable def zaa(a:EF)(r:AF):AF:=λenv=>(a env).bind λx=>(r env).map λxs=>x::xs
theorem zaj:SA tNil aNil:=by
 intro fx H0 env σ H h rs hr Q q
 cases hr
 exact q [] H (Same.refl _) .nil
theorem zab{te:TE}{ta:TA}{f:EF}{g:AF}(h1:SE te f)(h2:SA ta g):SA (tCons te ta) (zaa f g):=by
 intro fx H0 env σ H h rs hr Q q
 unfold zaa at hr
 obtain⟨x,ex,hr⟩:=qA.mp hr
 obtain⟨xs,exs,rfl⟩:=qG.mp hr
 exact h1 fx H0 env σ H h x ex _ λv H1 s1 v1=>h2 fx H0 env σ H1 (h.up s1) xs exs _ λvs H2 s2 vs2=>q (v::vs) H2 (s1.trans s2)
  (.cons (v1.later (Same.refl _) s2 λ_ z=>z) (Paired.mapP vs2 λ_ _ z=>z.later s1 (Same.refl _) λ_ y=>y))
noncomputable def zge(rs:List Val):List PyData:=rs.map (·.d)
noncomputable def bss(rs:List Val):List Nat:=rs.flatMap (·.bs)
theorem zgc{fx:Addr->Prop}{env:DEnv}{σ:St}{H H':Hp}:∀{rs:List Val}{vs:List V}{cs:List Nat},(∀i∈bss rs,i∈cs)->Paired (λr v=>ValOk (lim fx env σ r.bs) H H' r v) rs vs->Rps (Offs (lim fx env σ cs) H') (zge rs) vs
 | _,_,_,_,.nil=>zej
 | r::rs,v::vs,cs,hc,.cons h t=>zdx (Rp.same (Offs.sub (zlp λi hi=>hc i (qBO.mpr ⟨r,qm,hi⟩))) _ h.rp)
   (zgc (λi hi=>hc i (by obtain⟨x,h1,h2⟩:=qBO.mp hi;exact qBO.mpr ⟨x,qK _ h1,h2⟩)) t)
noncomputable def eTup(f:AF):EF:=λenv=>(f env).bind λrs=>if rs.length<=100000 then some ⟨.tuple (zge rs),false,bss rs⟩else none
noncomputable def eLst(f:AF):EF:=λenv=>(f env).bind λrs=>if rs.length<=100000 then some ⟨.list (zge rs),true,bss rs⟩else none
theorem zhd(rs:List Val):(zge rs).length=rs.length:=by unfold zge;rw[qF]
theorem zjo{ta:TA}{f:AF}(ha:SA ta f):SE (tTup ta) (eTup f):=by
 intro fx H0 env σ H h rr hr Q q
 unfold eTup at hr
 obtain⟨rs,er,hr⟩:=qA.mp hr
 split at hr
 ·rename_i hl
  cases hr
  refine ha fx H0 env σ H h rs er _ λvs H1 s1 v1=>?_
  have r:=zgc (λi hi=>hi) v1
  have hA:=(h.up s1).lims (bss rs)
  refine⟨zhb (by rw[<- r.length,zhd];exact hl),λp hp=>q _ _ (s1.trans (Same.new hp)) ⟨zlq hp (zes hA hp) r,λz=>by cases z⟩⟩
 ·cases hr
theorem zht{ta:TA}{f:AF}(ha:SA ta f):SE (tLst ta) (eLst f):=by
 intro fx H0 env σ H h rr hr Q q
 unfold eLst at hr
 obtain⟨rs,er,hr⟩:=qA.mp hr
 split at hr
 ·rename_i hl
  cases hr
  refine ha fx H0 env σ H h rs er _ λvs H1 s1 v1=>?_
  have r:=zgc (λi hi=>hi) v1
  have hA:=(h.up s1).lims (bss rs)
  refine⟨zhb (by rw[<- r.length,zhd];exact hl),λp hp=>q _ _ (s1.trans (Same.new hp)) ⟨zzr hp (zes hA hp) r,λ_=>⟨p,rfl,s1.free hp,zsy hp r⟩⟩⟩
 ·cases hr
noncomputable def zajd:EF:=λ_=>some ⟨.dict [],true,[]⟩
theorem zyd:SE tDNewK zajd:=by
 intro fx H0 env σ H h rr hr Q q
 cases hr
 intro p hp
 have hA:=h.lims []
 exact q _ _ (Same.new hp) ⟨znf (by rw[Offs.get (zes hA hp)];exact zaq) zng,λ_=>⟨p,rfl,hp,⟨[],zaq,zng⟩⟩⟩
noncomputable def eD1(k v:EF):EF:=λenv=>(k env).bind λx=>(v env).bind λy=>(keyD x.d).bind λ_=>some ⟨.dict [(x.d,y.d)],true,y.bs⟩
theorem zatr{tk tv:TE}{f g:EF}(h1:SE tk f)(h2:SE tv g):SE (tDisp [(tk,tv)]) (eD1 f g):=by
 intro fx H0 env σ H h rr hr Q q
 unfold eD1 at hr
 obtain⟨x,ex,hr⟩:=qA.mp hr
 obtain⟨y,ey,hr⟩:=qA.mp hr
 obtain⟨k,ek,hr⟩:=qA.mp hr
 cases hr
 intro p hp
 have hp0:Same H (upd H p (.dK [])):=Same.new hp
 have npf:¬fx p:=zes h.fxs hp
 have hE:EnvOk (λb=>fx b\/b=p) H0 env σ (upd H p (.dK [])):=h.grow hp0 (λb o e n z=>z.elim n λy=>by rw[y,hp]at e;cases e) λb z=>by
  rcases z with z|z
  ·obtain⟨o,e⟩:=h.fxs b z;exact⟨o,hp0 b o e⟩
  ·rw[z];exact⟨_,zaq⟩
 refine h1 _ H0 env σ _ hE x ex _ λv H1 s1 v1=>h2 _ H0 env σ H1 (hE.up s1) y ey _ λu H2 s2 v2=>?_
 have ep:H2 p=some (.dK []):=(s1.trans s2) _ _ zaq
 refine⟨ep,[(k,u)],by rw[zajc v1.rp ek];rfl,(by show 1<=15;decide),?_⟩
 have em:zmb [] [(k,u)]=[(k,u)]:=rfl
 rw[em]
 have rp2:Rp (Offs (λb=>lim fx env σ y.bs b\/b=p) (upd H2 p (.dK [(k,u)]))) y.d u:=by
  rw[Offs.upd (.inr rfl)]
  exact Rp.same (Offs.sub λb z=>by
   rcases z with(z|z)|z
   ·exact .inl (.inl z)
   ·exact .inr z
   ·exact .inl (.inr z)) _ v2.rp
 have hs:Same H (upd H2 p (.dK [(k,u)])):=λb o e=>by
  rw[zar (zbe e hp)]
  exact s2 _ _ (s1 _ _ (hp0 _ _ e))
 have hnp:¬lim fx env σ y.bs p:=zes (h.lims y.bs) hp
 refine q _ _ hs ⟨znf (by rw[Offs.get hnp];exact zaq) (zky ek (Rp.same (Offs.sub λb z=>.inl z) _ rp2) zng),λ_=>⟨p,rfl,hp,⟨_,zaq,zky ek rp2 zng⟩⟩⟩
noncomputable abbrev GF:=List PyData->Option (PyData×Bool)
noncomputable def SC(r:List V->Hp->VK->Prop)(g:GF):Prop:=∀(A:Addr->Prop)(H:Hp)(vs:List V)(ds:List PyData),(∀b,A b->∃o,H b=some o)->Rps (Offs A H) ds vs->∀d fr,g ds=some (d,fr)->∀Q:VK,
 (∀v H',Same H H'->Rp (Offs A H') d v->(fr=true->∃a,v=.ref a/\H a=none/\zhp (Offs (λb=>A b\/b=a) H') H' a d)->Q v H')->r vs H Q
noncomputable def eCB(g:GF)(f:AF):EF:=λenv=>(f env).bind λrs=>(g (zge rs)).bind λz=>some ⟨z.1,z.2,bsOf z.1 (bss rs)⟩
theorem zda{r:List V->Hp->VK->Prop}{g:GF}{ta:TA}{f:AF}(hc:SC r g)(ha:SA ta f):SE (tCB r ta) (eCB g f):=by
 intro fx H0 env σ H h rr hr Q q
 unfold eCB at hr
 obtain⟨rs,er,hr⟩:=qA.mp hr
 obtain⟨⟨d,fr⟩,ez,hr⟩:=qA.mp hr
 cases hr
 refine ha fx H0 env σ H h rs er _ λvs H1 s1 v1=>hc (lim fx env σ (bss rs)) H1 vs (zge rs) ((h.up s1).lims _) (zgc (λi hi=>hi) v1) d fr ez _ λw H3 s3 rp fr3=>q w H3 (s1.trans s3) ⟨znh rp,λe=>?_⟩
 obtain⟨a,g1,g2,g3⟩:=fr3 e
 refine⟨a,g1,s1.free g2,?_⟩
 have nf:zff d=false:=by cases d<;>first|rfl|exact g3.elim
 show zhp (Offs (λb=>lim fx env σ (bsOf d (bss rs)) b\/b=a) H3) H3 a d
 rw[show bsOf d (bss rs)=bss rs by unfold bsOf;rw[if_neg (by rw[nf];decide)]]
 exact g3
theorem rps1{H:Hp}{d:PyData}{vs:List V}(h:Rps H [d] vs):∃v,vs=[v]/\Rp H d v:=by
 unfold Rps at h
 obtain⟨v,ws,rfl,h1,h2⟩:=h
 unfold Rps at h2
 subst h2
 exact⟨v,rfl,h1⟩
theorem rps2{H:Hp}{d e:PyData}{vs:List V}(h:Rps H [d,e] vs):∃v u,vs=[v,u]/\Rp H d v/\Rp H e u:=by
 unfold Rps at h
 obtain⟨v,ws,rfl,h1,h2⟩:=h
 obtain⟨u,rfl,h3⟩:=rps1 h2
 exact⟨v,u,rfl,h1,h3⟩
noncomputable def lenD:GF
 | [.str x]=>if x.length<=100000 then some (.int x.length,false)else none
 | [.list ds]=>some (.int ds.length,false)
 | [.tuple ds]=>some (.int ds.length,false)
 | _=>none
theorem zel{K:qB}:SC (λxs H Q=>∃x n,xs=[x]/\LenV K x H n/\Q (.int n) H) lenD:=by
 intro A H vs ds hA rv d fr e Q q
 unfold lenD at e
 split at e
 ·split at e
  ·rename_i hl
   cases e
   obtain⟨v,rfl,r⟩:=rps1 rv
   cases zmh r
   exact⟨_,_,rfl,⟨zhb hl,rfl⟩,q _ H (Same.refl _) zae (λz=>by cases z)⟩
  ·cases e
 ·cases e
  obtain⟨v,rfl,r⟩:=rps1 rv
  obtain⟨a,xs,rfl,h1,h2⟩:=zfe r
  exact⟨_,_,rfl,.inl ⟨xs,SqL.of (zdj h1),rfl⟩,by rw[<- h2.length];exact q _ H (Same.refl _) zae (λz=>by cases z)⟩
 ·cases e
  obtain⟨v,rfl,r⟩:=rps1 rv
  obtain⟨a,xs,rfl,h1,h2⟩:=zcr r
  exact⟨_,_,rfl,.inr ⟨xs,SqT.of (zdj h1),rfl⟩,by rw[<- h2.length];exact q _ H (Same.refl _) zae (λz=>by cases z)⟩
 ·cases e
noncomputable def minD:GF
 | [.int i,.int j]=>some (.int (if j<i then j else i),false)
 | _=>none
theorem zarn:SC (λxs H Q=>∃i j,xs=[.int i,.int j]/\Q (.int (if j<i then j else i)) H) minD:=by
 intro A H vs ds hA rv d fr e Q q
 unfold minD at e
 split at e
 ·cases e
  obtain⟨v,u,rfl,r1,r2⟩:=rps2 rv
  cases zev r1;cases zev r2
  exact⟨_,_,rfl,q _ H (Same.refl _) zae (λz=>by cases z)⟩
 ·cases e
noncomputable def zkb:GF
 | [c]=>(zid c).map λds=>(.list ds,true)
 | _=>none
theorem zia{K:qB}:SC (λxs H Q=>∃p ys,xs=[.ref p]/\(SqL K H p ys\/SqT K H p ys)/\∀l,H l=none->Q (.ref l) (upd H l (.lst ys))) zkb:=by
 intro A H vs ds hA rv d fr e Q q
 unfold zkb at e
 split at e
 ·obtain⟨es,he,e⟩:=qG.mp e
  cases e
  obtain⟨v,rfl,r1⟩:=rps1 rv
  obtain⟨p,xs,rfl,hq,r⟩:=zzs (K:=K) r1 he
  refine⟨p,xs,rfl,hq.imp (Offs.same A H).seq (SqT.same (Offs.same A H)),λl hl=>?_⟩
  exact q _ _ (Same.new hl) (zzr hl (zes hA hl) r) λ_=>⟨l,rfl,hl,zsy hl r⟩
 ·cases e
noncomputable def zkc:GF
 | [c]=>(zid c).map λds=>(.tuple ds,false)
 | _=>none
theorem zmj{K:qB}:SC (λxs H Q=>∃p ys,xs=[.ref p]/\((SqL K H p ys/\∀l,H l=none->Q (.ref l) (upd H l (.tup ys)))\/(SqT K H p ys/\Q (.ref p) H))) zkc:=by
 intro A H vs ds hA rv d fr e Q q
 unfold zkc at e
 split at e
 ·obtain⟨es,he,e⟩:=qG.mp e
  cases e
  obtain⟨v,rfl,r1⟩:=rps1 rv
  rename_i c
  cases c with
  | list ds=>
   cases he
   obtain⟨p,xs,rfl,h1,r⟩:=zfe r1
   exact⟨p,xs,rfl,.inl ⟨SqL.of (zdj h1),λl hl=>q _ _ (Same.new hl) (zlq hl (zes hA hl) r) (λz=>by cases z)⟩⟩
  | tuple ds=>
   cases he
   obtain⟨p,xs,rfl,h1,r⟩:=zcr r1
   exact⟨p,xs,rfl,.inr ⟨SqT.of (zdj h1),q _ H (Same.refl _) r1 (λz=>by cases z)⟩⟩
  | _=>cases he
 ·cases e
noncomputable def zpl:List PyData->Option (List Bool)
 | []=>some []
 | .bool b::r=>(zpl r).map λbs=>b::bs
 | _=>none
theorem zuz{H:Hp}:∀{ds:List PyData}{vs:List V}{bs:List Bool},Rps H ds vs->zpl ds=some bs->vs=bs.map V.bl
 | [],vs,bs,h,e=>by unfold Rps at h;cases e;exact h
 | d::ds,vs,bs,h,e=>by
  unfold Rps at h
  obtain⟨v,ws,rfl,h1,h2⟩:=h
  cases d with
  | bool b=>
   obtain⟨cs,ec,rfl⟩:=qG.mp e
   rw[ziz h1,zuz h2 ec];rfl
  | _=>cases e
noncomputable def anyD(f:List Bool->Bool):GF
 | [.list ds]=>(zpl ds).map λbs=>(.bool (f bs),false)
 | _=>none
theorem zaev{K:qB}{f:List Bool->Bool}:SC (rAny K f) (anyD f):=by
 intro A H vs ds hA rv d fr e Q q
 unfold anyD at e
 split at e
 ·obtain⟨bs,he,e⟩:=qG.mp e
  cases e
  obtain⟨v,rfl,r1⟩:=rps1 rv
  obtain⟨p,xs,rfl,h1,r⟩:=zfe r1
  cases zuz r he
  exact⟨p,bs,rfl,SqL.of (zdj h1),q _ H (Same.refl _) zam (λz=>by cases z)⟩
 ·cases e
noncomputable def zrr:PyData->String
 | .none=>"NoneType"|.bool _=>"bool"|.int _=>"int"|.str _=>"str"|.list _=>"list"|.tuple _=>"tuple"|.dict _=>"dict"
theorem zats{K:qB}{H:Hp}{d:PyData}{v:V}(h:Rp H d v):TyOf K H v (.type (zrr d)):=by
 cases d with
 | list ds=>obtain⟨a,xs,rfl,h1,_⟩:=zfe h;exact .lst h1
 | tuple ds=>obtain⟨a,xs,rfl,h1,_⟩:=zcr h;exact .tup h1
 | dict ds=>obtain⟨a,xs,rfl,h1,_⟩:=zne h;exact .dK h1
 | none=>cases zya h;exact .non
 | bool b=>cases ziz h;exact .bl _
 | int b=>cases zev h;exact .int _
 | str b=>cases zmh h;exact .str _
noncomputable def isiB(n:String)(d:PyData):Bool:=zrr d==n||(zrr d=="bool"&&n=="int")
noncomputable def eIsi(n:String)(a:EF):EF:=λenv=>(a env).map λx=>⟨.bool (isiB n x.d),false,[]⟩
theorem zzt{K:qB}{n:String}{te:TE}{f:EF}(h1:SE te f)(hk:∀d,PySem.W.kitOne K (.type (zrr d)) (.type n)=some (isiB n d)) :
  SE (tCB (λxs H Q=>∃x n t b,xs=[x,.ty n]/\TyOf K H x t/\PySem.W.kitOne K t (.type n)=some b/\Q (.bl b) H) (tCons te (tCons (tC (.ty n)) tNil))) (eIsi n f):=by
 intro fx H0 env σ H h rr hr Q q
 unfold eIsi at hr
 obtain⟨x,ex,rfl⟩:=qG.mp hr
 refine h1 fx H0 env σ H h _ ex _ λv H1 s1 v1=>?_
 exact⟨v,n,_,_,rfl,zats (Rp.same (Offs.same _ _) _ v1.rp),hk _,q _ H1 s1 ⟨zam,λz=>by cases z⟩⟩
theorem zva{K:qB}:∀d,PySem.W.kitOne K (.type (zrr d)) (.type "tuple")=some (isiB "tuple" d):=by intro d;cases d<;>rfl
theorem zzu{K:qB}:∀d,PySem.W.kitOne K (.type (zrr d)) (.type "bool")=some (isiB "bool" d):=by intro d;cases d<;>rfl
noncomputable abbrev PF':=DEnv->Option (Option Int)
noncomputable def SPt(t:TO)(f:PF'):Prop:=∀(fx:Addr->Prop)(H0:Hp)(env:DEnv)(σ:St)(H:Hp),EnvOk fx H0 env σ H->∀r,f env=some r->∀Q:Option Int->Hp->Prop,(∀H',Same H H'->Q r H')->t σ H Q
noncomputable def zdy:PF':=λ_=>some none
noncomputable def zbo(a:EF):PF':=λenv=>(a env).bind λx=>match x.d with|.int i=>some (some i)|_=>none
theorem zgj:SPt tNoPart zdy:=by
 intro fx H0 env σ H h r hr Q q
 cases hr
 exact q H (Same.refl _)
theorem zct{te:TE}{f:EF}(h1:SE te f):SPt (tPart te) (zbo f):=by
 intro fx H0 env σ H h r hr Q q
 unfold zbo at hr
 obtain⟨⟨d,fr,bs⟩,ex,hr⟩:=qA.mp hr
 cases d with
 | int i=>
  cases hr
  exact h1 fx H0 env σ H h _ ex _ λv H1 s1 v1=>⟨i,zev v1.rp,q H1 s1⟩
 | _=>cases hr
noncomputable def cutD(xs:List PyData)(lo hi:Option Int):List PyData:=(xs.drop (HT.sIx xs.length 0 lo)).take (HT.sIx xs.length xs.length hi - HT.sIx xs.length 0 lo)
theorem Rps.drop{H:Hp}{ds:List PyData}{vs:List V}(h:Rps H ds vs)(n:Nat):Rps H (ds.drop n) (vs.drop n):=by
 induction n generalizing ds vs with
 | zero=>exact h
 | succ n ih=>
  cases ds with
  | nil=>unfold Rps at h;subst h;exact zej
  | cons d ds=>unfold Rps at h;obtain⟨v,ws,rfl,h1,h2⟩:=h;exact ih h2
theorem Rps.take{H:Hp}{ds:List PyData}{vs:List V}(h:Rps H ds vs)(n:Nat):Rps H (ds.take n) (vs.take n):=by
 induction n generalizing ds vs with
 | zero=>exact zej
 | succ n ih=>
  cases ds with
  | nil=>unfold Rps at h;subst h;exact zej
  | cons d ds=>unfold Rps at h;obtain⟨v,ws,rfl,h1,h2⟩:=h;exact zdx h1 (ih h2)
theorem Rps.cut{H:Hp}{ds:List PyData}{vs:List V}(h:Rps H ds vs)(lo hi:Option Int):Rps H (cutD ds lo hi) (cutV vs lo hi):=by
 unfold cutD cutV
 rw[<- h.length]
 exact(h.drop _).take _
noncomputable def slD(d:PyData)(lo hi:Option Int):Option (PyData×Bool):=match d with
 | .str z=>if z.length<=100000 then some (.str (Txt.slice z lo hi),false)else none
 | .list ds=>some (.list (cutD ds lo hi),true)
 | _=>none
noncomputable def eSl(a:EF)(l h:PF'):EF:=λenv=>(a env).bind λx=>(l env).bind λlo=>(h env).bind λhi=>(slD x.d lo hi).bind λz=>some ⟨z.1,z.2,bsOf z.1 x.bs⟩
theorem zni{K:qB}{te:TE}{tl th:TO}{f:EF}{fl fh:PF'}(h1:SE te f)(h2:SPt tl fl)(h3:SPt th fh):SE (tSl (rSlU K) te tl th) (eSl f fl fh):=by
 intro fx H0 env σ H h rr hr Q q
 unfold eSl at hr
 obtain⟨⟨d,frd,bs⟩,ex,hr⟩:=qA.mp hr
 obtain⟨lo,el,hr⟩:=qA.mp hr
 obtain⟨hi,eh,hr⟩:=qA.mp hr
 obtain⟨⟨d',fr'⟩,ez,hr⟩:=qA.mp hr
 cases hr
 refine h1 fx H0 env σ H h _ ex _ λv H1 s1 v1=>h2 fx H0 env σ H1 (h.up s1) _ el _ λH2 s2=>h3 fx H0 env σ H2 (h.up (s1.trans s2)) _ eh _ λH3 s3=>?_
 have v3:=(v1.later (Same.refl _) (s2.trans s3) λ_ z=>z).rp
 have t3:=(s1.trans s2).trans s3
 cases d with
 | str z=>
  have ez:(if z.length<=100000 then some (PyData.str (Txt.slice z lo hi),false)else none)=some (d',fr'):=ez
  split at ez
  ·rename_i hl
   cases ez
   cases zmh v3
   exact⟨zhb hl,q _ H3 t3 ⟨zdi,λz=>by cases z⟩⟩
  ·cases ez
 | list ds=>
  cases ez
  obtain⟨p,xs,rfl,hp,r⟩:=zfe v3
  refine⟨p,xs,rfl,SqL.of (zdj hp),λl hl=>q _ _ (t3.trans (Same.new hl)) ?_⟩
  have hA:=(h.up t3).lims bs
  exact⟨zzr hl (zes hA hl) (r.cut lo hi),λ_=>⟨l,rfl,t3.free hl,zsy hl (r.cut lo hi)⟩⟩
 | _=>cases ez
noncomputable def zye(fx:Addr->Prop)(H0:Hp)(d:PyData)(fr:Bool)(v:V)(H:Hp):Prop:=Rp (Offs fx H) d v/\(fr=true->∃a,v=.ref a/\H0 a=none/\zhp (Offs (λb=>fx b\/b=a) H) H a d)
noncomputable def spD(n:Nat)(g:GF):Sp:=λvs H Q _=>∃(fx:Addr->Prop)(ds:List PyData)(d:PyData)(fr:Bool),ds.length=n/\(∀b,fx b->∃o,H b=some o)/\Rps (Offs fx H) ds vs/\g ds=some (d,fr)/\∀v H',Same H H'->zye fx H d fr v H'->Q v H'
noncomputable def zas(n:Nat)(g:GF)(f:AF):EF:=λenv=>(f env).bind λrs=>if rs.length=n then(g (zge rs)).bind λz=>some ⟨z.1,z.2,bsOf z.1 (bss rs)⟩else none
theorem zay{n:Nat}{g:GF}{ta:TA}{f:AF}(ha:SA ta f):SE (tCall (spD n g) [] E0 ta) (zas n g f):=by
 intro fx H0 env σ H h rr hr Q q
 unfold zas at hr
 obtain⟨rs,er,hr⟩:=qA.mp hr
 split at hr
 ·rename_i hn
  obtain⟨⟨d,fr⟩,ez,hr⟩:=qA.mp hr
  cases hr
  refine ha fx H0 env σ H h rs er _ λvs H1 s1 v1=>?_
  rw[qAB]
  refine⟨lim fx env σ (bss rs),zge rs,d,fr,by rw[zhd];exact hn,(h.up s1).lims _,zgc (λi hi=>hi) v1,ez,λw H3 s3 ⟨rp,fr3⟩=>q w H3 (s1.trans s3) ⟨znh rp,λe=>?_⟩⟩
  obtain⟨a,g1,g2,g3⟩:=fr3 e
  refine⟨a,g1,s1.free g2,?_⟩
  have nf:zff d=false:=by cases d<;>first|rfl|exact g3.elim
  show zhp (Offs (λb=>lim fx env σ (bsOf d (bss rs)) b\/b=a) H3) H3 a d
  rw[show bsOf d (bss rs)=bss rs by unfold bsOf;rw[if_neg (by rw[nf];decide)]]
  exact g3
 ·cases hr
inductive Out where
 | nx (env:DEnv)
 | bk (env:DEnv)
 | ct (env:DEnv)
 | rt (d:PyData) (fr:Bool)
noncomputable def Sat(fx:Addr->Prop)(H0:Hp)(D:Ends):Out->Prop
 | .nx env=>∀σ H,EnvOk fx H0 env σ H->D.nx σ H
 | .bk env=>∀σ H,EnvOk fx H0 env σ H->D.bk σ H
 | .ct env=>∀σ H,EnvOk fx H0 env σ H->D.ct σ H
 | .rt d fr=>∀v H,Same H0 H->zye fx H0 d fr v H->D.rt v H
noncomputable abbrev SF:=DEnv->Option Out
noncomputable def SS(ts:TS)(F:SF):Prop:=∀(fx:Addr->Prop)(H0:Hp)(env:DEnv)(σ:St)(H:Hp)(D:Ends),EnvOk fx H0 env σ H->∀o,F env=some o->Sat fx H0 D o->ts D σ H
noncomputable def frz1(env:DEnv)(i:Nat):DEnv:=match env[i]? with
 | some (.ac d)=>env.set i (.pl d)
 | _=>env
noncomputable def frzs(env:DEnv)(bs:List Nat):DEnv:=bs.foldl frz1 env
theorem zzv(env:DEnv)(i:Nat):(frz1 env i).length=env.length:=by
 unfold frz1;split
 ·rw[qAH]
 ·rfl
theorem zcf{α:Type}{l:List α}{i j:Nat}{x y:α}(h:(l.set i x)[j]?=some y):(j=i/\y=x)\/(j≠i/\l[j]?=some y):=by
 rw[List.getElem?_set]at h
 by_cases e:i=j
 ·subst e
  rw[if_pos rfl]at h
  split at h
  ·exact .inl ⟨rfl,(qZ h).symm⟩
  ·cases h
 ·rw[if_neg e]at h
  exact .inr ⟨λz=>e z.symm,h⟩
theorem znj{env:DEnv}{i j:Nat}{d:PyData}(h:(frz1 env i)[j]?=some (.ac d)):env[j]?=some (.ac d)/\j≠i:=by
 unfold frz1 at h
 split at h
 ·rcases zcf h with⟨_,e⟩|⟨e,h⟩
  ·cases e
  ·exact⟨h,e⟩
 ·rename_i hn
  refine⟨h,λe=>?_⟩
  subst e
  exact hn d h
theorem zanw{env:DEnv}{i j:Nat}{d:PyData}(h:(frz1 env i)[j]?=some (.pl d)):env[j]?=some (.pl d)\/(j=i/\env[i]?=some (.ac d)):=by
 unfold frz1 at h
 split at h
 ·rename_i d' hd
  rcases zcf h with⟨e1,e⟩|⟨e,h⟩
  ·cases e;exact .inr ⟨e1,hd⟩
  ·exact .inl h
 ·exact .inl h
theorem zaje{env:DEnv}{σ:St}{i:Nat}:∀a,own (frz1 env i) σ a->own env σ a:=by
 rintro a ⟨j,d,h1,h2⟩
 exact⟨j,d,(znj h1).1,h2⟩
theorem EnvOk.frz1{fx:Addr->Prop}{H0:Hp}{env:DEnv}{σ:St}{H:Hp}(h:EnvOk fx H0 env σ H)(i:Nat):EnvOk fx H0 (frz1 env i) σ H:=by
 have so:Same (Offs (λa=>fx a\/own env σ a) H) (Offs (λa=>fx a\/own (L2.frz1 env i) σ a) H):=Offs.sub λb z=>z.imp (λy=>y) (zaje b)
 refine⟨by rw[zzv];exact h.len,λj d e=>?_,λj d e=>?_,λj k d d' a h1 h2 h3 h4=>h.inj j k d d' a (znj h1).1 (znj h2).1 h3 h4,h.base,h.fxs⟩
 ·rcases zanw e with e|⟨rfl,e⟩
  ·obtain⟨v,h1,h2⟩:=h.pl j d e
   exact⟨v,h1,Rp.same so _ h2⟩
  ·obtain⟨a,h1,h2,h3,h4⟩:=h.ac j d e
   refine⟨_,h1,h4.rp so λo eo=>?_⟩
   rw[Offs.get]
   ·exact eo
   ·rintro(z|⟨k,d',z1,z2⟩)
    ·exact h3 z
    ·obtain⟨z1,z3⟩:=znj z1
     exact z3 (h.inj k j d' d a z1 e z2 h1)
 ·obtain⟨a,h1,h2,h3,h4⟩:=h.ac j d (znj e).1
  exact⟨a,h1,h2,h3,h4.same so λo z=>z⟩
theorem EnvOk.frzs{fx:Addr->Prop}{H0:Hp}{σ:St}{H:Hp}:∀(bs:List Nat){env:DEnv},EnvOk fx H0 env σ H->EnvOk fx H0 (frzs env bs) σ H
 | [],_,h=>h
 | i::bs,_,h=>EnvOk.frzs bs (h.frz1 i)
theorem zaew:∀{bs:List Nat}{env:DEnv}{j:Nat}{d:PyData},(frzs env bs)[j]?=some (.ac d)->env[j]?=some (.ac d)/\j∉bs
 | [],_,_,_,h=>⟨h,by simp⟩
 | i::bs,env,j,d,h=>by
  obtain⟨h1,h2⟩:=zaew (bs:=bs) h
  obtain⟨h3,h4⟩:=znj h1
  exact⟨h3,by simp[h4,h2]⟩
theorem zgq{fx:Addr->Prop}{env:DEnv}{σ:St}{bs:List Nat}:∀a,fx a\/own (frzs env bs) σ a->lim fx env σ bs a:=by
 rintro a (z|⟨i,d,h1,h2⟩)
 ·exact .inl z
 ·obtain⟨h3,h4⟩:=zaew h1
  exact .inr ⟨i,d,h4,h3,h2⟩
theorem zaex{env:DEnv}{σ:St}{i:Nat}{d:PyData}{v:V}:∀a,own (env.set i (.pl d)) (σ.set i (some v)) a->own env σ a:=by
 rintro a ⟨j,e,h1,h2⟩
 rcases zcf h1 with⟨_,z⟩|⟨ne,h1⟩
 ·cases z
 ·rcases zcf h2 with⟨z,_⟩|⟨_,h2⟩
  ·exact absurd z ne
  ·exact⟨j,e,h1,h2⟩
theorem EnvOk.setPl{fx:Addr->Prop}{H0:Hp}{env:DEnv}{σ:St}{H:Hp}(h:EnvOk fx H0 env σ H)(i:Nat){d:PyData}{v:V}(r:Rp (Offs (λa=>fx a\/own env σ a) H) d v):EnvOk fx H0 (env.set i (.pl d)) (σ.set i (some v)) H:=by
 have so:Same (Offs (λa=>fx a\/own env σ a) H) (Offs (λa=>fx a\/own (env.set i (.pl d)) (σ.set i (some v)) a) H):=Offs.sub λb z=>z.imp (λy=>y) (zaex b)
 have kept:∀{j:Nat},j≠i->(σ.set i (some v))[j]?=σ[j]?:=λ{j} n=>qf λz=>n z.symm
 refine⟨by rw[qAH,qAH];exact h.len,λj e hj=>?_,λj e hj=>?_,λj k d1 d2 a h1 h2 h3 h4=>?_,h.base,h.fxs⟩
 ·rcases zcf hj with⟨rfl,z⟩|⟨ne,hj'⟩
  ·cases z
   have hl:j<env.length:=by have:=(qU.mp hj).1;rwa [qAH]at this
   exact⟨v,by rw[qAI (by rw[<- h.len];exact hl)],Rp.same so _ r⟩
  ·obtain⟨u,h1,h2⟩:=h.pl j e hj'
   exact⟨u,by rw[kept ne];exact h1,Rp.same so _ h2⟩
 ·rcases zcf hj with⟨_,z⟩|⟨ne,hj'⟩
  ·cases z
  ·obtain⟨a,h1,h2,h3,h4⟩:=h.ac j e hj'
   exact⟨a,by rw[kept ne];exact h1,h2,h3,h4.same so λo z=>z⟩
 ·rcases zcf h1 with⟨_,z⟩|⟨n1,h1⟩
  ·cases z
  rcases zcf h2 with⟨_,z⟩|⟨n2,h2⟩
  ·cases z
  rw[kept n1]at h3
  rw[kept n2]at h4
  exact h.inj j k d1 d2 a h1 h2 h3 h4
theorem EnvOk.setAc {fx:Addr->Prop} {H0:Hp} {env:DEnv} {σ:St} {H:Hp} {a:Addr} (h:EnvOk (λb=>fx b\/b=a) H0 env σ H) (i:Nat) {d:PyData} (r:zhp (Offs (λb=>(fx b\/own env σ b)\/b=a) H) H a d) (h0:H0 a=none) (hf:¬fx a) :
  EnvOk fx H0 (env.set i (.ac d)) (σ.set i (some (.ref a))) H:=by
 have kept:∀{j:Nat},j≠i->(σ.set i (some (V.ref a)))[j]?=σ[j]?:=λ{j} n=>qf λz=>n z.symm
 have sub:∀b,fx b\/own (env.set i (.ac d)) (σ.set i (some (.ref a))) b->(fx b\/b=a)\/own env σ b:=by
  rintro b (z|⟨j,e,h1,h2⟩)
  ·exact .inl (.inl z)
  ·rcases zcf h1 with⟨rfl,z⟩|⟨ne,h1⟩
   ·have hl:j<env.length:=by have:=(qU.mp ‹(env.set j (.ac d))[j]?=_›).1;rwa [qAH]at this
    rw[qAI (by rw[<- h.len];exact hl)]at h2
    cases h2
    exact .inl (.inr rfl)
   ·rw[kept ne]at h2
    exact .inr ⟨j,e,h1,h2⟩
 have so:Same (Offs (λb=>(fx b\/b=a)\/own env σ b) H) (Offs (λb=>fx b\/own (env.set i (.ac d)) (σ.set i (some (.ref a))) b) H):=Offs.sub sub
 have so2:Same (Offs (λb=>(fx b\/own env σ b)\/b=a) H) (Offs (λb=>fx b\/own (env.set i (.ac d)) (σ.set i (some (.ref a))) b) H):=Offs.sub λb z=>by
  rcases sub b z with(y|y)|y
  ·exact .inl (.inl y)
  ·exact .inr y
  ·exact .inl (.inr y)
 refine⟨by rw[qAH,qAH];exact h.len,λj e hj=>?_,λj e hj=>?_,λj k d1 d2 b h1 h2 h3 h4=>?_,h.base,λb z=>h.fxs b (.inl z)⟩
 ·rcases zcf hj with⟨_,z⟩|⟨ne,hj'⟩
  ·cases z
  ·obtain⟨u,h1,h2⟩:=h.pl j e hj'
   exact⟨u,by rw[kept ne];exact h1,Rp.same so _ h2⟩
 ·rcases zcf hj with⟨rfl,z⟩|⟨ne,hj'⟩
  ·cases z
   have hl:j<env.length:=by have:=(qU.mp hj).1;rwa [qAH]at this
   exact⟨a,by rw[qAI (by rw[<- h.len];exact hl)],h0,hf,r.same so2 λo z=>z⟩
  ·obtain⟨b,h1,h2,h3,h4⟩:=h.ac j e hj'
   exact⟨b,by rw[kept ne];exact h1,h2,λz=>h3 (.inl z),h4.same so λo z=>z⟩
 ·rcases zcf h1 with⟨e1,z1⟩|⟨n1,h1'⟩<;>rcases zcf h2 with⟨e2,z2⟩|⟨n2,h2'⟩
  ·rw[e1,e2]
  ·subst e1
   have hl:j<env.length:=by have:=(qU.mp h1).1;rwa [qAH]at this
   rw[qAI (by rw[<- h.len];exact hl)]at h3
   rw[kept n2]at h4
   cases h3
   obtain⟨b,g1,g2,g3,g4⟩:=h.ac k d2 h2'
   rw[h4]at g1
   cases g1
   exact absurd (.inr rfl) g3
  ·subst e2
   have hl:k<env.length:=by have:=(qU.mp h2).1;rwa [qAH]at this
   rw[qAI (by rw[<- h.len];exact hl)]at h4
   rw[kept n1]at h3
   cases h4
   obtain⟨b,g1,g2,g3,g4⟩:=h.ac j d1 h1'
   rw[h3]at g1
   cases g1
   exact absurd (.inr rfl) g3
  ·rw[kept n1]at h3
   rw[kept n2]at h4
   exact h.inj j k d1 d2 b h1' h2' h3 h4
noncomputable def slOf(r:Val):Sl:=if r.fr=true then .ac r.d else .pl r.d
noncomputable def putV(env:DEnv)(i:Nat)(r:Val):DEnv:=(frzs env r.bs).set i (slOf r)
theorem EnvOk.put{fx:Addr->Prop}{H0:Hp}{env:DEnv}{σ:St}{H H':Hp}(h:EnvOk fx H0 env σ H)(s:Same H H'){r:Val}{v:V}(hv:ValOk (lim fx env σ r.bs) H H' r v)(i:Nat):EnvOk fx H0 (putV env i r) (σ.set i (some v)) H':=by
 unfold putV slOf
 cases e:r.fr with
 | false=>
  rw[if_neg qP]
  exact((h.up s).frzs r.bs).setPl i (Rp.same (Offs.sub zgq) _ hv.rp)
 | true=>
  rw[if_pos rfl]
  obtain⟨a,rfl,ha,hacc⟩:=hv.fr e
  have nfx:¬fx a:=zes h.fxs ha
  have g:EnvOk (λb=>fx b\/b=a) H0 env σ H':=h.grow s (λb o eo n z=>z.elim n λy=>by rw[y,ha]at eo;cases eo) λb z=>by
   rcases z with z|z
   ·obtain⟨o,eo⟩:=h.fxs b z;exact⟨o,s b o eo⟩
   ·rw[z];exact hacc.ex
  refine(g.frzs r.bs).setAc i (hacc.same (Offs.sub λb z=>?_) λo z=>z) (h.base.free ha) nfx
  rcases z with z|z
  ·exact .inl (zgq b z)
  ·exact .inr z
noncomputable def sNil:SF:=λenv=>some (.nx env)
noncomputable def sSeq(f g:SF):SF:=λenv=>(f env).bind λo=>match o with
 | .nx env'=>g env'
 | o=>some o
theorem zeg:SS tNext sNil:=by
 intro fx H0 env σ H D h o e q
 cases e
 exact q σ H h
theorem zaw{t u:TS}{f g:SF}(h1:SS t f)(h2:SS u g):SS (tSeq t u) (sSeq f g):=by
 intro fx H0 env σ H D h o e q
 unfold sSeq at e
 obtain⟨o1,e1,e⟩:=qA.mp e
 refine h1 fx H0 env σ H _ h o1 e1 ?_
 cases o1 with
 | nx env'=>exact λσ' H' h'=>h2 fx H0 env' σ' H' D h' o e q
 | bk env'=>cases e;exact q
 | ct env'=>cases e;exact q
 | rt d fr=>cases e;exact q
noncomputable def zzw:SF:=λ_=>none
theorem zzx:SS tNever zzw:=by
 intro fx H0 env σ H D h o e q
 cases e
noncomputable def zabz(f:EF):SF:=λenv=>(f env).map λ_=>.nx env
theorem zaey{te:TE}{f:EF}(h1:SE te f):SS (tDrop te) (zabz f):=by
 intro fx H0 env σ H D h o e q
 unfold zabz at e
 obtain⟨r,er,rfl⟩:=qG.mp e
 exact h1 fx H0 env σ H h r er _ λv H' s _=>q σ H' (h.up s)
noncomputable def sRet(f:EF):SF:=λenv=>(f env).map λr=>.rt r.d r.fr
theorem zcg{te:TE}{f:EF}(h1:SE te f):SS (tRet te) (sRet f):=by
 intro fx H0 env σ H D h o e q
 unfold sRet at e
 obtain⟨r,er,rfl⟩:=qG.mp e
 refine h1 fx H0 env σ H h r er _ λv H' s hv=>q v H' (h.base.trans s) ⟨Rp.same (Offs.sub λb z=>.inl z) _ hv.rp,λz=>?_⟩
 obtain⟨a,g1,g2,g3⟩:=hv.fr z
 exact⟨a,g1,h.base.free g2,g3.same (Offs.sub λb y=>y.imp .inl id) λo z=>z⟩
noncomputable def zpm(i:Nat):SF:=λenv=>match env[i]? with
 | some (.pl d)=>some (.rt d false)
 | some (.ac d)=>some (.rt d true)
 | _=>none
theorem znk{i:Nat}:SS (tRet (tVar i)) (zpm i):=by
 intro fx H0 env σ H D h o e q
 unfold zpm at e
 cases ei:env[i]? with
 | none=>rw[ei]at e;cases e
 | some sl=>
  rw[ei]at e
  cases sl with
  | no=>cases e
  | pl d=>
   cases e
   obtain⟨v,h1,h2⟩:=h.pl i d ei
   exact⟨v,h1,q v H h.base ⟨Rp.same (Offs.sub λb z=>.inl z) _ h2,λz=>by cases z⟩⟩
  | ac d=>
   cases e
   obtain⟨a,h1,h2,h3,h4⟩:=h.ac i d ei
   refine⟨_,h1,q _ H h.base ⟨h4.rp (Offs.sub λb z=>.inl z) λo eo=>by rw[Offs.get h3];exact eo,λ_=>⟨a,rfl,h2,h4.same (Offs.sub λb z=>?_) λo z=>z⟩⟩⟩
   rcases z with z|z
   ·exact .inl z
   ·rw[z];exact .inr ⟨i,d,ei,h1⟩
noncomputable def sIf(c:TF)(f g:SF):SF:=λenv=>(c env).bind λb=>if b=true then f env else g env
theorem zld{tc:TT}{t u:TS}{c:TF}{f g:SF}(hc:ST tc c)(h1:SS t f)(h2:SS u g):SS (tIfS tc t u) (sIf c f g):=by
 intro fx H0 env σ H D h o e q
 unfold sIf at e
 obtain⟨b,eb,e⟩:=qA.mp e
 refine hc fx H0 env σ H h b eb _ λH' s=>?_
 cases b with
 | true=>exact iteT (h1 fx H0 env σ H' D (h.up s) o e q)
 | false=>exact iteF (h2 fx H0 env σ H' D (h.up s) o e q)
noncomputable def sSet(i:Nat)(f:EF):SF:=λenv=>(f env).map λr=>.nx (putV env i r)
theorem zax{te:TE}{f:EF}{i:Nat}(h1:SE te f):SS (tAsg te (gName i)) (sSet i f):=by
 intro fx H0 env σ H D h o e q
 unfold sSet at e
 obtain⟨r,er,rfl⟩:=qG.mp e
 exact h1 fx H0 env σ H h r er _ λv H' s hv=>q _ H' (h.put s hv i)
noncomputable abbrev GT:=PyData->DEnv->Option DEnv
noncomputable def SG(g:TG)(f:GT):Prop:=∀(fx:Addr->Prop)(H0:Hp)(env:DEnv)(σ:St)(H:Hp)(d:PyData)(v:V),EnvOk fx H0 env σ H->Rp (Offs (λa=>fx a\/own env σ a) H) d v->∀env',f d env=some env'->∀Q:St->Hp->Prop,
 (∀σ',EnvOk fx H0 env' σ' H->Q σ' H)->g v σ H Q
noncomputable abbrev GTs:=List PyData->DEnv->Option DEnv
noncomputable def SGs(g:TGs)(f:GTs):Prop:=∀(fx:Addr->Prop)(H0:Hp)(env:DEnv)(σ:St)(H:Hp)(ds:List PyData)(vs:List V),EnvOk fx H0 env σ H->Rps (Offs (λa=>fx a\/own env σ a) H) ds vs->∀env',f ds env=some env'->∀Q:St->Hp->Prop,
 (∀σ',EnvOk fx H0 env' σ' H->Q σ' H)->g vs σ H Q
noncomputable def gN(i:Nat):GT:=λd env=>some (env.set i (.pl d))
theorem zch{i:Nat}:SG (gName i) (gN i):=by
 intro fx H0 env σ H d v h r env' e Q q
 cases e
 exact q _ (h.setPl i r)
noncomputable def zja:GTs:=λds env=>match ds with|[]=>some env|_=>none
noncomputable def zbu(i:Nat)(g:GTs):GTs:=λds env=>match ds with|d::r=>g r (env.set i (.pl d))|[]=>none
theorem zkd:SGs gNil zja:=by
 intro fx H0 env σ H ds vs h r env' e Q q
 cases ds with
 | nil=>cases e;unfold Rps at r;exact⟨r,q _ h⟩
 | cons _ _=>cases e
theorem zcs{i:Nat}{t:TGs}{g:GTs}(h1:SGs t g):SGs (gCons (gName i) t) (zbu i g):=by
 intro fx H0 env σ H ds vs h r env' e Q q
 cases ds with
 | nil=>cases e
 | cons d ds=>
  unfold Rps at r
  obtain⟨v,ws,rfl,r1,r2⟩:=r
  refine⟨v,ws,rfl,h1 fx H0 (env.set i (.pl d)) _ H ds ws (h.setPl i r1) (Rps.same (Offs.sub λb z=>z.imp (λy=>y) (zaex b)) _ r2) env' e Q q⟩
noncomputable def gT(n:Nat)(g:GTs):GT:=λd env=>match d with|.tuple ds=>if ds.length=n then g ds env else none|_=>none
theorem zoc{K:qB}{n:Nat}{t:TGs}{g:GTs}(h1:SGs t g):SG (gTup K n t) (gT n g):=by
 intro fx H0 env σ H d v h r env' e Q q
 unfold gT at e
 cases d with
 | tuple ds=>
  have e:(if ds.length=n then g ds env else none)=some env':=e
  split at e
  ·rename_i hn
   obtain⟨a,xs,rfl,ha,rs⟩:=zcr r
   exact⟨a,xs,rfl,SqT.of (zdj ha),by rw[<- rs.length];exact hn,h1 fx H0 env σ H ds xs h rs env' e Q q⟩
  ·cases e
 | _=>cases e
theorem EnvOk.mut{fx:Addr->Prop}{H0:Hp}{env:DEnv}{σ:St}{H:Hp}(h:EnvOk fx H0 env σ H){i:Nat}{d d':PyData}{a:Addr}{o:HO}(e:env[i]?=some (.ac d))(ea:σ[i]?=some (some (.ref a)))
  (r:zhp (Offs (λb=>fx b\/own env σ b) H) (upd H a o) a d'):EnvOk fx H0 (env.set i (.ac d')) σ (upd H a o):=by
 have hl:i<env.length:=(qU.mp e).1
 have oa:own env σ a:=⟨i,d,e,ea⟩
 have ow:∀b,own (env.set i (.ac d')) σ b↔own env σ b:=by
  intro b
  constructor
  ·rintro⟨j,d1,h1,h2⟩
   rcases zcf h1 with⟨rfl,z⟩|⟨ne,h1⟩
   ·exact⟨j,d,e,h2⟩
   ·exact⟨j,d1,h1,h2⟩
  ·rintro⟨j,d1,h1,h2⟩
   by_cases hj:j=i
   ·subst hj;exact⟨j,d',by rw[qAI hl],h2⟩
   ·exact⟨j,d1,by rw[qf λz=>hj z.symm];exact h1,h2⟩
 have so:Same (Offs (λb=>fx b\/own env σ b) H) (Offs (λb=>fx b\/own (env.set i (.ac d')) σ b) (upd H a o)):=by
  have:Same (Offs (λb=>fx b\/own env σ b) (upd H a o)) (Offs (λb=>fx b\/own (env.set i (.ac d')) σ b) (upd H a o)):=Offs.sub λb z=>z.imp (λy=>y) (ow b).mp
  rw[Offs.upd (.inr oa)]at this
  exact this
 obtain⟨a',g1,g2,g3,g4⟩:=h.ac i d e
 rw[ea]at g1
 cases g1
 refine⟨by rw[qAH];exact h.len,λj d1 hj=>?_,λj d1 hj=>?_,λj k d1 d2 b h1 h2 h3 h4=>?_,λb u eb=>by rw[zar (zbe eb g2)];exact h.base b u eb,λb z=>?_⟩
 ·rcases zcf hj with⟨_,z⟩|⟨ne,hj'⟩
  ·cases z
  ·obtain⟨u,h1,h2⟩:=h.pl j d1 hj'
   exact⟨u,h1,Rp.same so _ h2⟩
 ·rcases zcf hj with⟨rfl,z⟩|⟨ne,hj'⟩
  ·cases z
   exact⟨a,ea,g2,g3,r.same so λo z=>z⟩
  ·obtain⟨b,h1,h2,h3,h4⟩:=h.ac j d1 hj'
   refine⟨b,h1,h2,h3,h4.same so λo' z=>?_⟩
   rw[zar λy=>ne (h.inj j i d1 d a hj' e (by rw[<- y];exact h1) ea)]
   exact z
 ·have f:∀{j:Nat}{d1:PyData},(env.set i (.ac d'))[j]?=some (.ac d1)->∃d2,env[j]?=some (.ac d2):=λ{j d1} hj=>by
   rcases zcf hj with⟨rfl,z⟩|⟨ne,hj'⟩
   ·exact⟨d,e⟩
   ·exact⟨d1,hj'⟩
  obtain⟨e1,h1⟩:=f h1
  obtain⟨e2,h2⟩:=f h2
  exact h.inj j k e1 e2 b h1 h2 h3 h4
 ·obtain⟨u,eu⟩:=h.fxs b z
  exact⟨u,by rw[zar λy=>g3 (by rw[<- y];exact z)];exact eu⟩
noncomputable def sApp(i:Nat)(f:EF):SF:=λenv=>match env[i]? with
 | some (.ac (.list ds))=>(f env).bind λr=>if ds.length<100000/\i∉r.bs then some (.nx ((frzs env r.bs).set i (.ac (.list (ds++[r.d])))))else none
 | _=>none
theorem zmk{env:DEnv}{i:Nat}{d:PyData}:∀{bs:List Nat},i∉bs->env[i]?=some (.ac d)->(frzs env bs)[i]?=some (.ac d):=by
 intro bs
 induction bs generalizing env with
 | nil=>intro _ e;exact e
 | cons j bs ih=>
  intro hn e
  have hj:i≠j:=λz=>hn (by simp[z])
  refine ih (λz=>hn (qK _ z)) ?_
  unfold frz1
  split
  ·rw[qf λz=>hj z.symm];exact e
  ·exact e
theorem zpn{K:qB}{i:Nat}{te:TE}{f:EF}(h1:SE te f):SS (tDrop (tBM K "list" zxu (tVar i) (tCons te tNil))) (sApp i f):=by
 intro fx H0 env σ H D h o e q
 unfold sApp at e
 split at e
 ·rename_i ds ei
  obtain⟨r,er,e⟩:=qA.mp e
  split at e
  ·rename_i hl
   cases e
   obtain⟨a,g1,g2,g3,g4⟩:=h.ac i _ ei
   obtain⟨xs,hx,rx⟩:=g4
   refine⟨_,g1,.inl ⟨rfl,_,SqL.of hx⟩,h1 fx H0 env σ H h r er _ λv H' s hv=>?_⟩
   have h':=(h.up s).frzs r.bs
   have ei':=zmk hl.2 ei
   have hx':=s _ _ hx
   have rx':Rps (Offs (λb=>fx b\/own (frzs env r.bs) σ b) H') ds xs:=by
    obtain⟨a',z1,_,_,z4⟩:=h'.ac i _ ei'
    rw[g1]at z1
    cases z1
    obtain⟨ys,y1,y2⟩:=z4
    rw[hx']at y1
    cases y1
    exact y2
   refine⟨a,xs,v,rfl,rfl,hx',zpj (by rw[<- rx.length];exact hl.1),?_⟩
   refine q σ _ (h'.mut ei' g1 ⟨_,zaq,rx'.append (zdx (Rp.same (Offs.sub zgq) _ hv.rp) zej)⟩)
  ·cases e
 ·cases e
noncomputable def sPut(i:Nat)(fk fv:EF):SF:=λenv=>match env[i]? with
 | some (.ac (.dict kvs))=>(fv env).bind λr=>(fk env).bind λk=>(keyD k.d).bind λ_=>if kvs.length<100000/\i∉r.bs then some (.nx ((frzs env r.bs).set i (.ac (.dict (zre kvs k.d r.d)))))else none
 | _=>none
theorem zalp{i:Nat}{tk tv:TE}{fk fv:EF}(h1:SE tk fk)(h2:SE tv fv):SS (sDPut (tVar i) tk tv) (sPut i fk fv):=by
 intro fx H0 env σ H D h o e q
 unfold sPut at e
 split at e
 ·rename_i kvs ei
  obtain⟨r,er,e⟩:=qA.mp e
  obtain⟨k,ek,e⟩:=qA.mp e
  obtain⟨kk,ekk,e⟩:=qA.mp e
  split at e
  ·rename_i hl
   cases e
   obtain⟨a,g1,g2,g3,g4⟩:=h.ac i _ ei
   obtain⟨ps,hx,rx⟩:=g4
   refine h2 fx H0 env σ H h r er _ λv H' s hv=>⟨_,g1,h1 fx H0 env σ H' (h.up s) k ek _ λu H2 s2 hk=>?_⟩
   have t2:=s.trans s2
   have h':=(h.up t2).frzs r.bs
   have ei':=zmk hl.2 ei
   have hx':=t2 _ _ hx
   have rx':Rpd (Offs (λb=>fx b\/own (frzs env r.bs) σ b) H2) kvs ps:=by
    obtain⟨a',z1,_,_,z4⟩:=h'.ac i _ ei'
    rw[g1]at z1
    cases z1
    obtain⟨ys,y1,y2⟩:=z4
    rw[hx']at y1
    cases y1
    exact y2
   rw[zajc hk.rp ekk]
   refine⟨a,_,rfl,DPut.k hx' (zpj (by rw[<- rx.length];exact hl.1)),?_⟩
   refine q σ _ (h'.mut ei' g1 ⟨_,zaq,rx'.put ekk (Rp.same (Offs.sub zgq) _ (hv.later (Same.refl _) s2 λ_ z=>z).rp)⟩)
  ·cases e
 ·cases e
noncomputable def sUpd(i:Nat)(f:EF):SF:=λenv=>match env[i]? with
 | some (.ac (.dict kvs))=>(f env).bind λr=>match r.d with
  | .dict more=>if kvs.length+more.length<=100000/\i∉r.bs then some (.nx ((frzs env r.bs).set i (.ac (.dict (zlr kvs more)))))else none
  | _=>none
 | _=>none
theorem zalq{K:qB}{i:Nat}{te:TE}{f:EF}(h1:SE te f):SS (tDrop (tBM K "dict" zaea (tVar i) (tCons te tNil))) (sUpd i f):=by
 intro fx H0 env σ H D h o e q
 unfold sUpd at e
 split at e
 ·rename_i kvs ei
  obtain⟨⟨rd,rfr,rbs⟩,er,e⟩:=qA.mp e
  cases rd with
  | dict more=>
   have e:(if kvs.length+more.length<=100000/\i∉rbs then some (Out.nx ((frzs env rbs).set i (.ac (.dict (zlr kvs more)))))else none)=some o:=e
   split at e
   ·rename_i hl
    cases e
    obtain⟨a,g1,g2,g3,g4⟩:=h.ac i _ ei
    obtain⟨ps,hx,rx⟩:=g4
    refine⟨_,g1,.inr (.inr (.inl ⟨rfl,.inl ⟨_,hx⟩⟩)),h1 fx H0 env σ H h _ er _ λv H' s hv=>?_⟩
    have h':=(h.up s).frzs rbs
    have ei':=zmk hl.2 ei
    have hx':=s _ _ hx
    have rx':Rpd (Offs (λb=>fx b\/own (frzs env rbs) σ b) H') kvs ps:=by
     obtain⟨a',z1,_,_,z4⟩:=h'.ac i _ ei'
     rw[g1]at z1
     cases z1
     obtain⟨ys,y1,y2⟩:=z4
     rw[hx']at y1
     cases y1
     exact y2
    obtain⟨b,qs,rfl,hb,rb⟩:=zne (Rp.same (Offs.sub zgq) _ hv.rp)
    have hab:a≠b:=λz=>by
     subst z
     exact(Offs.of hb).1 (.inr ⟨i,_,ei',g1⟩)
    refine⟨a,b,ps,qs,rfl,rfl,hab,hx',zdj hb,zhb (by rw[<- rx.length,<- rb.length];exact hl.1),?_⟩
    exact q σ _ (h'.mut ei' g1 ⟨_,zaq,rx'.merge rb⟩)
   ·cases e
  | _=>cases e
 ·cases e
theorem EnvOk.rebase{fx:Addr->Prop}{H0:Hp}{env:DEnv}{σ:St}{H:Hp}(h:EnvOk fx H0 env σ H):EnvOk fx (Offs (own env σ) H) env σ H:=by
 refine⟨h.len,h.pl,λi d e=>?_,h.inj,Offs.same _ _,h.fxs⟩
 obtain⟨a,h1,h2,h3,h4⟩:=h.ac i d e
 exact⟨a,h1,Offs.out ⟨i,d,e,h1⟩,h3,h4⟩
theorem EnvOk.floor{fx:Addr->Prop}{H0:Hp}{env:DEnv}{σ:St}{H:Hp}(h:EnvOk fx H0 env σ H):Same H0 (Offs (own env σ) H):=λb o e=>by
 rw[Offs.get]
 ·exact h.base b o e
 ·rintro⟨i,d,h1,h2⟩
  obtain⟨a,g1,g2,_⟩:=h.ac i d h1
  rw[h2]at g1
  cases g1
  rw[g2]at e
  cases e
theorem EnvOk.unbase{fx:Addr->Prop}{H0 F:Hp}{env:DEnv}{σ:St}{H:Hp}(h:EnvOk fx F env σ H)(s:Same H0 F):EnvOk fx H0 env σ H:=by
 refine⟨h.len,h.pl,λi d e=>?_,h.inj,s.trans h.base,h.fxs⟩
 obtain⟨a,h1,h2,h3,h4⟩:=h.ac i d e
 exact⟨a,h1,s.free h2,h3,h4⟩
theorem zye.unbase{fx:Addr->Prop}{H0 F:Hp}{d:PyData}{fr:Bool}{v:V}{H:Hp}(h:zye fx F d fr v H)(s:Same H0 F):zye fx H0 d fr v H:=
 ⟨h.1,λe=>let⟨a,h1,h2,h3⟩:=h.2 e;⟨a,h1,s.free h2,h3⟩⟩
theorem EnvOk.seen{fx:Addr->Prop}{env env':DEnv}{σ σ':St}{H H':Hp}(h:EnvOk fx (Offs (own env σ) H) env' σ' H'):Same (Offs (λb=>fx b\/own env σ b) H) (Offs (λb=>fx b\/own env' σ' b) H'):=λb o e=>by
 obtain⟨h1,h2⟩:=Offs.of e
 have hF:Offs (own env σ) H b=some o:=by rw[Offs.get λz=>h1 (.inr z)];exact h2
 rw[Offs.get]
 ·exact h.base b o hF
 ·rintro(z|⟨i,d,g1,g2⟩)
  ·exact h1 (.inl z)
  ·obtain⟨a,k1,k2,_⟩:=h.ac i d g1
   rw[g2]at k1
   cases k1
   rw[k2]at hF
   cases hF
theorem EnvOk.all{fx:Addr->Prop}{H0:Hp}{env:DEnv}{σ:St}{H:Hp}(h:EnvOk fx H0 env σ H):∀b,fx b\/own env σ b->∃o,H b=some o:=λb z=>h.lims [] b (zanr b z)
noncomputable def Yl(A0:Addr->Prop)(H1:Hp)(J:It)(ds:List PyData):Prop:=∀(A:Addr->Prop)(H':Hp),(∀b,A b->∃o,H' b=some o)->Same (Offs A0 H1) (Offs A H')->
 (∀i d,ds[i]?=some d->J.go i H'/\∀x H'',J.yld i H' x H''->Same H' H''/\Rp (Offs A H'') d x)/\J.stop ds.length H'
noncomputable abbrev IF':=DEnv->Option (List PyData×List Nat)
noncomputable def SI(wi:TI)(f:IF'):Prop:=∀(fx:Addr->Prop)(H0:Hp)(env:DEnv)(σ:St)(H:Hp),EnvOk fx H0 env σ H->∀ds bs,f env=some (ds,bs)->∀R:It->Hp->Prop,
 (∀J H1,Same H H1->Yl (λb=>fx b\/own (frzs env bs) σ b) H1 J ds->R J H1)->wi σ H R
noncomputable def iSeq(K:qB)(te:TE):TI:=λσ H R=>te σ H λx H1=>∃a,x=.ref a/\((∃xs,SqL K H1 a xs)/\R (Itl K a) H1\/(∃xs,SqT K H1 a xs)/\R (Itt K a) H1)
theorem zaro{X:Cx}{tg l:Expr}{tl:TE}(hl:PE X l tl):PI X tg l (iSeq X.K tl):=by
 intro pins s σ H R I h
 refine thn (hl pins s σ H _ I h) λv s1 ⟨x,H1,I1,r1,q1⟩=>?_
 obtain⟨a,e,q⟩:=q1
 subst e
 cases r1
 rcases q with⟨⟨xs,hq⟩,q⟩|⟨⟨xs,hq⟩,q⟩
 ·obtain⟨its,rv,p,hz⟩:=I1.list hq
  refine qA1 p.isList ?_
  refine⟨s1.heap.objs.size,[s1.heap.objs.size],_,_,H1,rfl,I1.kept (t':=s1.toks) λb o e=>qD _ e,zub a _,⟨_,qa _ rfl,rfl,rfl⟩,λb hb=>?_,q⟩
  have e:b=s1.heap.objs.size:=by simpa using hb
  subst e
  exact I1.fpOk (qL _) (I1.hok.fresh (qL _))
 ·obtain⟨its,rv,p,hz⟩:=I1.tuple hq
  refine qAw (show s1.heap.IsTuple a its.toArray from p) ?_
  refine⟨s1.heap.objs.size,[s1.heap.objs.size],_,_,H1,rfl,I1.kept (t':=s1.toks) λb o e=>qD _ e,zabo a _,⟨_,qa _ rfl,rfl,rfl⟩,λb hb=>?_,q⟩
  have e:b=s1.heap.objs.size:=by simpa using hb
  subst e
  exact I1.fpOk (qL _) (I1.hok.fresh (qL _))
theorem zanx{X:Cx}{K:qB}(hK:X.K=K){tg l:Expr}{tl:TE}(hl:PE X l tl):PI X tg l (iSeq K tl):=by subst hK;exact zaro hl
noncomputable def zav(f:EF):IF':=λenv=>(f env).bind λr=>(zid r.d).map λds=>(ds,r.bs)
theorem zany{K:qB}{A0:Addr->Prop}{H1:Hp}{a:Addr}{ds:List PyData}{xs:List V}(h:Offs A0 H1 a=some (.lst xs))(r:Rps (Offs A0 H1) ds xs):Yl A0 H1 (Itl K a) ds:=by
 intro A H' hA s
 have ha:=zdj (s _ _ h)
 have r':=Rps.same s _ r
 refine⟨λi d e=>?_,⟨xs,SqL.of ha,by rw[r.length];exact qL _⟩⟩
 obtain⟨v,hv,rv⟩:=r'.get2 e
 refine⟨⟨xs,v,SqL.of ha,hv⟩,λx H'' y=>?_⟩
 obtain⟨rfl,y⟩:=y
 have:=y xs (SqL.of ha)
 rw[hv]at this
 cases this
 exact⟨Same.refl _,rv⟩
theorem zarp{K:qB}{A0:Addr->Prop}{H1:Hp}{a:Addr}{ds:List PyData}{xs:List V}(h:Offs A0 H1 a=some (.tup xs))(r:Rps (Offs A0 H1) ds xs):Yl A0 H1 (Itt K a) ds:=by
 intro A H' hA s
 have ha:=zdj (s _ _ h)
 have r':=Rps.same s _ r
 refine⟨λi d e=>?_,⟨xs,SqT.of ha,by rw[r.length];exact qL _⟩⟩
 obtain⟨v,hv,rv⟩:=r'.get2 e
 refine⟨⟨xs,v,SqT.of ha,hv⟩,λx H'' y=>?_⟩
 obtain⟨rfl,y⟩:=y
 have:=y xs (SqT.of ha)
 rw[hv]at this
 cases this
 exact⟨Same.refl _,rv⟩
theorem zeh{K:qB}{te:TE}{f:EF}(h1:SE te f):SI (iSeq K te) (zav f):=by
 intro fx H0 env σ H h ds bs e R q
 unfold zav at e
 obtain⟨⟨d,fr,bs'⟩,er,e⟩:=qA.mp e
 obtain⟨es,he,e⟩:=qG.mp e
 cases e
 refine h1 fx H0 env σ H h _ er _ λv H1 s hv=>?_
 have rp:=Rp.same (Offs.sub (zgq (bs:=bs'))) _ hv.rp
 cases d with
 | list ds=>
  cases he
  obtain⟨a,xs,rfl,ha,r⟩:=zfe rp
  exact⟨a,rfl,.inl ⟨⟨xs,SqL.of (zdj ha)⟩,q _ H1 s (zany ha r)⟩⟩
 | tuple ds=>
  cases he
  obtain⟨a,xs,rfl,ha,r⟩:=zcr rp
  exact⟨a,rfl,.inr ⟨⟨xs,SqT.of (zdj ha)⟩,q _ H1 s (zarp ha r)⟩⟩
 | _=>cases he
noncomputable def zsz(ds:List PyData):List PyData:=ds.zipIdx.map λp=>.tuple [.int p.2,p.1]
noncomputable def zzy(f:AF):IF':=λenv=>(f env).bind λrs=>match rs with
 | [r]=>match r.d with
  | .list ds=>some (zsz ds,r.bs)
  | _=>none
 | _=>none
noncomputable def zpo(lo:Int)(n:Nat):List PyData:=(List.range n).map λ(k:Nat)=>.int (lo+(k:Int))
theorem zajf{A0:Addr->Prop}{H1:Hp}{lo:Int}{n:Nat}:Yl A0 H1 (Itr lo n) (zpo lo n):=by
 intro A H' hA s
 have hl:(zpo lo n).length=n:=by unfold zpo;simp
 refine⟨λi d e=>?_,by rw[hl];exact qL _⟩
 unfold zpo at e
 rw[qR]at e
 by_cases hi:i<n
 ·rw[List.getElem?_range hi]at e
  cases e
  exact⟨hi,λx H'' ⟨e1,e2⟩=>by subst e1;subst e2;exact⟨Same.refl _,zae⟩⟩
 ·rw[qC6 (by simpa using hi)]at e
  cases e
noncomputable def zfg(f:AF):IF':=λenv=>(f env).bind λrs=>match rs with
 | [⟨.int j,_,_⟩]=>if -(2 ^ 62)<=j/\j<2 ^ 62 then some (zpo 0 j.toNat,[])else none
 | _=>none
theorem zke{ta:TA}{f:AF}(h1:SA ta f):SI (iRng1 ta) (zfg f):=by
 intro fx H0 env σ H h ds bs e R q
 unfold zfg at e
 obtain⟨rs,er,e⟩:=qA.mp e
 split at e
 ·split at e
  ·rename_i hj
   cases e
   refine h1 fx H0 env σ H h _ er _ λvs H1 s hv=>?_
   cases hv with
   | cons hv t=>
    cases t
    cases zev hv.rp
    exact⟨_,rfl,hj.1,hj.2,q _ H1 s zajf⟩
  ·cases e
 ·cases e
noncomputable def forL(g:GT)(body:SF):List PyData->DEnv->Option Out
 | [],env=>some (.nx env)
 | d::ds,env=>(g d env).bind λe1=>(body e1).bind λo=>match o with
  | .nx e2=>forL g body ds e2
  | .ct e2=>forL g body ds e2
  | .bk e2=>some (.nx e2)
  | .rt d fr=>some (.rt d fr)
noncomputable def sFor(f:IF')(g:GT)(body:SF):SF:=λenv=>(f env).bind λz=>forL g body z.1 (frzs env z.2)
theorem zfh{wi:TI}{g:TG}{tb:TS}{f:IF'}{gf:GT}{body:SF}(h1:SI wi f)(h2:SG g gf)(h3:SS tb body):SS (tFor wi g tb) (sFor f gf body):=by
 intro fx H0 env σ H D h o e q
 unfold sFor at e
 obtain⟨⟨ds,bs⟩,er,e⟩:=qA.mp e
 refine h1 fx H0 env σ H h ds bs er _ λJ H1 s yl=>?_
 have hE:=(h.up s).frzs bs
 have fl:=hE.floor
 refine⟨λi m σ' H'=>m=ds.length - i/\i<=ds.length/\∃env',forL gf body (ds.drop i) env'=some o/\EnvOk fx (Offs (own (frzs env bs) σ) H1) env' σ' H',⟨ds.length,rfl,qAv _,_,e,hE.rebase⟩,?_⟩
 rintro i m σ' H' ⟨rfl,hi,env',e',h'⟩
 obtain⟨yi,ys⟩:=yl _ H' h'.all h'.seen
 by_cases hlt:i<ds.length
 ·obtain⟨yg,yy⟩:=yi i ds[i] (qH hlt)
  refine .inr ⟨yg,λσ'' H''=>i+1<=ds.length/\∃env'',forL gf body (ds.drop (i+1)) env''=some o/\EnvOk fx (Offs (own (frzs env bs) σ) H1) env'' σ'' H'',?_,?_⟩
  ·rintro σ'' H'' ⟨hle,env'',e'',h''⟩
   exact⟨ds.length - (i+1),by omega,rfl,hle,env'',e'',h''⟩
  ·intro x H'' hy
   obtain⟨sy,ry⟩:=yy x H'' hy
   rw[qA6 hlt]at e'
   obtain⟨e1,ee1,e'⟩:=qA.mp e'
   obtain⟨o1,eo1,e'⟩:=qA.mp e'
   refine h2 fx _ env' σ' H'' _ x (h'.up sy) ry e1 ee1 _ λσ2 h2'=>h3 fx _ e1 σ2 H'' _ h2' o1 eo1 ?_
   cases o1 with
   | nx e2=>exact λσ3 H3 hh=>⟨hlt,e2,e',hh⟩
   | ct e2=>exact λσ3 H3 hh=>⟨hlt,e2,e',hh⟩
   | bk e2=>cases e';exact λσ3 H3 hh=>q σ3 H3 (hh.unbase fl)
   | rt d fr=>cases e';exact λv H3 sh rt=>q v H3 (fl.trans sh) (rt.unbase fl)
 ·have hi':i=ds.length:=by omega
  subst hi'
  rw[qBP]at e'
  cases e'
  exact .inl ⟨ys,q σ' H' (h'.unbase fl)⟩
noncomputable def zle(n:Nat)(ds:List PyData):DEnv:=ds.map .pl++List.replicate (n - ds.length) .no
noncomputable def fnD(n:Nat)(f:SF):GF:=λds=>match f (zle n ds)with
 | some (.rt d fr)=>some (d,fr)
 | some (.nx _)=>some (.none,false)
 | _=>none
theorem zvb{ds:List PyData}{n i:Nat}{sl:Sl}(e:(zle n ds)[i]?=some sl):(∃d,ds[i]?=some d/\sl=.pl d)\/sl=.no:=by
 unfold zle at e
 by_cases hi:i<ds.length
 ·rw[qAN (by simpa using hi),qR,qH hi]at e
  cases e
  exact .inl ⟨_,qH hi,rfl⟩
 ·rw[qAU (by simpa using hi),qBa]at e
  split at e
  ·cases e;exact .inr rfl
  ·cases e
theorem zgf{fx:Addr->Prop}{H:Hp}{N:List Str}{ds:List PyData}{vs:List V}(hf:∀b,fx b->∃o,H b=some o)(r:Rps (Offs fx H) ds vs):EnvOk fx H (zle N.length ds) (zgi N vs) H:=by
 have no:∀(i:Nat)(d:PyData),(zle N.length ds)[i]?≠some (Sl.ac d):=λi d e=>by
  rcases zvb e with⟨d',_,z⟩|z<;>cases z
 refine⟨?_,λi d e=>?_,λi d e=>absurd e (no i d),λi j d e a h1=>absurd h1 (no i d),Same.refl _,hf⟩
 ·unfold zle zgi
  rw[qM,qM,qF,qF,qAT,qAT,r.length]
 ·rcases zvb e with⟨d',hd,z⟩|z
  ·cases z
   obtain⟨v,hv,rv⟩:=r.get2 hd
   refine⟨v,?_,Rp.same (Offs.sub λb z=>?_) _ rv⟩
   ·unfold zgi
    have hi:i<vs.length:=(qU.mp hv).1
    rw[qAN (by simpa using hi),qR,hv];rfl
   ·rcases z with z|⟨j,d',z,_⟩
    ·exact z
    ·exact absurd z (no j d')
  ·cases z
theorem fn_d{N:List Str}{n:Nat}{f:SF}{t:TS}(hs:SS t f){vs:List V}{H:Hp}{Q:VK}{E:XK}(h:spD n (fnD N.length f) vs H Q E):t {nx:=λ_ H'=>Q .non H',rt:=Q} (zgi N vs) H:=by
 obtain⟨fx,ds,d,fr,hn,hf,r,g,k⟩:=h
 unfold fnD at g
 split at g
 ·rename_i d' fr' eo
  cases g
  exact hs fx H _ _ H _ (zgf hf r) _ eo λv H' s rt=>k v H' s rt
 ·rename_i e' eo
  cases g
  exact hs fx H _ _ H _ (zgf hf r) _ eo λσ H' hE=>k .non H' hE.base ⟨zgt,λz=>by cases z⟩
 ·cases g
theorem zcn{n:Nat}{g:GF}{vs:List V}{H:Hp}{Q:VK}{E:XK}(h:spD n g vs H Q E):vs.length=n:=by
 obtain⟨fx,ds,d,fr,hn,hf,r,_⟩:=h
 rw[<- r.length];exact hn
noncomputable def atD:PyData->Bool
 | .none=>true
 | .str x=>decide ((PySem.reprText x).length<=1000)
 | .int n=>decide (0<=n/\n<100)
 | _=>false
theorem zzz{d:PyData}(h:atD d=true):zff d=true:=by cases d<;>first|rfl|cases h
theorem zatt{H:Hp}{d:PyData}{v:V}(h:atD d=true)(r:Rp H d v):atV v:=by
 cases d with
 | none=>rw[zya r];trivial
 | str x=>rw[zmh r];show(PySem.reprText x).length<=1000;exact of_decide_eq_true h
 | int n=>rw[zev r];show 0<=n/\n<100;exact of_decide_eq_true h
 | _=>cases h
noncomputable def RX(H0:Hp)(C:Addr)(d:PyData):XK:=λc od H'=>c=.ref C/\Same H0 H'/\zff d=true/\∃dx v,od=some dx/\H' dx=some (.xd [("at",v)])/\Rp H' d v
theorem RX.base{H0 H1:Hp}{C:Addr}{d:PyData}(s:Same H0 H1){c:Value}{od:Option Addr}{H':Hp}(h:RX H1 C d c od H'):RX H0 C d c od H':=
 let⟨a,b,r⟩:=h;⟨a,s.trans b,r⟩
theorem RX.stx{H0:Hp}{C:Addr}{d:PyData}{E:XK}(h:∀c od H',RX H0 C d c od H'->E c od H'){c:Value}{od:Option Addr}{H':Hp}(q:RX H0 C d c od H'):StX H0 E c od H':=by
 intro H3 r1 r2
 obtain⟨a,b,f,dx,v,e1,e2,e3⟩:=q
 exact h _ _ _ ⟨a,λx o z=>r1 x o z (b x o z),f,dx,v,e1,r2 _ _ e2 (λφ z=>by cases z),zpi f e3⟩
inductive OutX where
 | ok (o:Out)
 | rx (c:Str) (d:PyData)
noncomputable def SatX(cl:Str->Addr)(fx:Addr->Prop)(H0:Hp)(D:Ends)(E:XK):OutX->Prop
 | .ok o=>Sat fx H0 D o
 | .rx c d=>∀k od H',RX H0 (cl c) d k od H'->E k od H'
noncomputable abbrev SFX:=DEnv->Option OutX
noncomputable def SSx(cl:Str->Addr)(ts:XK->TS)(F:SFX):Prop:=∀(fx:Addr->Prop)(H0:Hp)(env:DEnv)(σ:St)(H:Hp)(D:Ends)(E:XK),EnvOk fx H0 env σ H->∀o,F env=some o->SatX cl fx H0 D E o->ts E D σ H
section
variable{cl:Str->Addr}
noncomputable def xOf(f:SF):SFX:=λenv=>(f env).map .ok
theorem zvc{t:TS}{f:SF}(h:SS t f):SSx cl (λ_=>t) (xOf f):=by
 intro fx H0 env σ H D E hE o e q
 obtain⟨o',e',rfl⟩:=qG.mp e
 exact h fx H0 env σ H D hE o' e' q
noncomputable def xSeq(f g:SFX):SFX:=λenv=>(f env).bind λo=>match o with
 | .ok (.nx env')=>g env'
 | o=>some o
theorem zta{t u:XK->TS}{f g:SFX}(h1:SSx cl t f)(h2:SSx cl u g):SSx cl (λE=>tSeq (t E) (u E)) (xSeq f g):=by
 intro fx H0 env σ H D E hE o e q
 obtain⟨o1,e1,e⟩:=qA.mp e
 refine h1 fx H0 env σ H _ E hE o1 e1 ?_
 cases o1 with
 | rx c d=>cases e;exact q
 | ok o1=>
  cases o1 with
  | nx env'=>exact λσ' H' h'=>h2 fx H0 env' σ' H' D E h' o e q
  | bk env'=>cases e;exact q
  | ct env'=>cases e;exact q
  | rt d fr=>cases e;exact q
noncomputable def xIf(c:TF)(f g:SFX):SFX:=λenv=>(c env).bind λb=>if b=true then f env else g env
theorem zalr{tc:TT}{t u:XK->TS}{c:TF}{f g:SFX}(hc:ST tc c)(h1:SSx cl t f)(h2:SSx cl u g):SSx cl (λE=>tIfS tc (t E) (u E)) (xIf c f g):=by
 intro fx H0 env σ H D E h o e q
 obtain⟨b,eb,e⟩:=qA.mp e
 refine hc fx H0 env σ H h b eb _ λH' s=>?_
 cases b with
 | true=>exact iteT (h1 fx H0 env σ H' D E (h.up s) o e q)
 | false=>exact iteF (h2 fx H0 env σ H' D E (h.up s) o e q)
noncomputable def zml(c:Str)(f:EF):SFX:=λenv=>(f env).bind λr=>if atD r.d=true then some (.rx c r.d)else none
theorem zvd{c:Str}{te:TE}{f:EF}(h1:SE te f):SSx cl (λE=>zaeq (cl c) E te) (zml c f):=by
 intro fx H0 env σ H D E h o e q
 obtain⟨r,er,e⟩:=qA.mp e
 split at e
 ·rename_i ha
  cases e
  refine h1 fx H0 env σ H h r er _ λv H' s hv=>⟨zatt ha hv.rp,λH2 dx s2 hd=>q _ _ _ ⟨rfl,(h.base.trans s).trans s2,zzz ha,dx,v,rfl,hd,zpi (zzz ha) hv.rp⟩⟩
 ·cases e
noncomputable def zyf(g:GT)(body:SFX):List PyData->DEnv->Option OutX
 | [],env=>some (.ok (.nx env))
 | d::ds,env=>(g d env).bind λe1=>(body e1).bind λo=>match o with
  | .ok (.nx e2)=>zyf g body ds e2
  | .ok (.ct e2)=>zyf g body ds e2
  | .ok (.bk e2)=>some (.ok (.nx e2))
  | .ok (.rt d fr)=>some (.ok (.rt d fr))
  | .rx c d=>some (.rx c d)
noncomputable def xFor(f:IF')(g:GT)(body:SFX):SFX:=λenv=>(f env).bind λz=>zyf g body z.1 (frzs env z.2)
theorem zanz{wi:TI}{g:TG}{tb:XK->TS}{f:IF'}{gf:GT}{body:SFX}(h1:SI wi f)(h2:SG g gf)(h3:SSx cl tb body):SSx cl (λE=>tFor wi g (tb E)) (xFor f gf body):=by
 intro fx H0 env σ H D E h o e q
 obtain⟨⟨ds,bs⟩,er,e⟩:=qA.mp e
 refine h1 fx H0 env σ H h ds bs er _ λJ H1 s yl=>?_
 have hE:=(h.up s).frzs bs
 have fl:=hE.floor
 refine⟨λi m σ' H'=>m=ds.length - i/\i<=ds.length/\∃env',zyf gf body (ds.drop i) env'=some o/\EnvOk fx (Offs (own (frzs env bs) σ) H1) env' σ' H',⟨ds.length,rfl,qAv _,_,e,hE.rebase⟩,?_⟩
 rintro i m σ' H' ⟨rfl,hi,env',e',h'⟩
 obtain⟨yi,ys⟩:=yl _ H' h'.all h'.seen
 by_cases hlt:i<ds.length
 ·obtain⟨yg,yy⟩:=yi i ds[i] (qH hlt)
  refine .inr ⟨yg,λσ'' H''=>i+1<=ds.length/\∃env'',zyf gf body (ds.drop (i+1)) env''=some o/\EnvOk fx (Offs (own (frzs env bs) σ) H1) env'' σ'' H'',?_,?_⟩
  ·rintro σ'' H'' ⟨hle,env'',e'',h''⟩
   exact⟨ds.length - (i+1),by omega,rfl,hle,env'',e'',h''⟩
  ·intro x H'' hy
   obtain⟨sy,ry⟩:=yy x H'' hy
   rw[qA6 hlt]at e'
   obtain⟨e1,ee1,e'⟩:=qA.mp e'
   obtain⟨o1,eo1,e'⟩:=qA.mp e'
   refine h2 fx _ env' σ' H'' _ x (h'.up sy) ry e1 ee1 _ λσ2 h2'=>h3 fx _ e1 σ2 H'' _ E h2' o1 eo1 ?_
   cases o1 with
   | rx c d=>cases e';exact λk od H3 r=>q k od H3 (r.base fl)
   | ok o1=>
    cases o1 with
    | nx e2=>exact λσ3 H3 hh=>⟨hlt,e2,e',hh⟩
    | ct e2=>exact λσ3 H3 hh=>⟨hlt,e2,e',hh⟩
    | bk e2=>cases e';exact λσ3 H3 hh=>q σ3 H3 (hh.unbase fl)
    | rt d fr=>cases e';exact λv H3 sh rt=>q v H3 (fl.trans sh) (rt.unbase fl)
 ·have hi':i=ds.length:=by omega
  subst hi'
  rw[qBP]at e'
  cases e'
  exact .inl ⟨ys,q σ' H' (h'.unbase fl)⟩
inductive ResX where
 | ok (d:PyData) (fr:Bool)
 | rx (c:Str) (d:PyData)
noncomputable abbrev GFX:=List PyData->Option ResX
noncomputable def zatu(cl:Str->Addr)(fx:Addr->Prop)(H:Hp)(Q:VK)(E:XK):ResX->Prop
 | .ok d fr=>∀v H',Same H H'->zye fx H d fr v H'->Q v H'
 | .rx c d=>∀k od H',RX H (cl c) d k od H'->E k od H'
noncomputable def spX(cl:Str->Addr)(n:Nat)(g:GFX):Sp:=λvs H Q E=>∃(fx:Addr->Prop)(ds:List PyData)(r:ResX),ds.length=n/\(∀b,fx b->∃o,H b=some o)/\Rps (Offs fx H) ds vs/\g ds=some r/\zatu cl fx H Q E r
theorem zyg{n:Nat}{g:GFX}{vs:List V}{H:Hp}{Q:VK}{E:XK}(h:spX cl n g vs H Q E):vs.length=n:=by
 obtain⟨fx,ds,r,hn,hf,rr,_⟩:=h
 rw[<- rr.length];exact hn
noncomputable def fnX(n:Nat)(f:SFX):GFX:=λds=>match f (zle n ds)with
 | some (.ok (.rt d fr))=>some (.ok d fr)
 | some (.ok (.nx _))=>some (.ok .none false)
 | some (.rx c d)=>some (.rx c d)
 | _=>none
theorem fn_x{N:List Str}{n:Nat}{f:SFX}{t:XK->TS}(hs:SSx cl t f){vs:List V}{H:Hp}{Q:VK}{E:XK}(h:spX cl n (fnX N.length f) vs H Q E):t (StX H E) {nx:=λ_ H'=>Q .non H',rt:=Q} (zgi N vs) H:=by
 obtain⟨fx,ds,r,hn,hf,rr,g,k⟩:=h
 unfold fnX at g
 split at g
 ·rename_i d' fr' eo
  cases g
  exact hs fx H _ _ H _ _ (zgf hf rr) _ eo λv H' s rt=>k v H' s rt
 ·rename_i e' eo
  cases g
  exact hs fx H _ _ H _ _ (zgf hf rr) _ eo λσ H' hE=>k .non H' hE.base ⟨zgt,λz=>by cases z⟩
 ·rename_i c d eo
  cases g
  exact hs fx H _ _ H _ _ (zgf hf rr) _ eo λk' od H' q=>RX.stx k q
 ·cases g
noncomputable def zaez(n:Nat)(g:GFX)(f:AF):SFX:=λenv=>(f env).bind λrs=>if rs.length=n then(g (zge rs)).map λr=>match r with
 | .ok _ _=>.ok (.nx env)
 | .rx c d=>.rx c d else none
theorem zaaa{n:Nat}{g:GFX}{ta:TA}{f:AF}(ha:SA ta f):SSx cl (λE=>tDrop (tCall (spX cl n g) [] E ta)) (zaez n g f):=by
 intro fx H0 env σ H D E h o e q
 obtain⟨rs,er,e⟩:=qA.mp e
 split at e
 ·rename_i hn
  obtain⟨r,ez,rfl⟩:=qG.mp e
  refine ha fx H0 env σ H h rs er _ λvs H1 s1 v1=>?_
  rw[qAB]
  refine⟨lim fx env σ (bss rs),zge rs,r,by rw[zhd];exact hn,(h.up s1).lims _,zgc (λi hi=>hi) v1,ez,?_⟩
  cases r with
  | ok d fr=>exact λw H3 s3 _=>q σ H3 (h.up (s1.trans s3))
  | rx c d=>exact λk od H3 r=>q k od H3 (r.base (h.base.trans s1))
 ·cases e
end
noncomputable abbrev Cx.hold(X:Cx)(e:Addr):Cx:={X with A:=X.A.mark (some (.ref e)),calm:=false,xe:=λ_ _=>False}
section
variable{X:Cx}{pins:List (Addr×Obj)}{σ:St}{H:Hp}{s:Shared}
theorem Inv.hold(I:Inv X pins σ H s)(e:Addr):Inv (X.hold e) pins σ H s:=
 ⟨⟨I.ok.mod,I.ok.kind,I.ok.glob,I.ok.blt,I.ok.above,I.ok.inj,I.ok.has,I.ok.cab,(λz=>by cases z),I.ok.frames,I.ok.stk,I.ok.exf,I.ok.bs,I.ok.bsz,I.ok.noex,I.ok.exfs,I.ok.funs,I.ok.frf⟩,I.os,I.bare,I.base,I.loc,I.cell,I.free,I.freeC,I.pin,I.hok,I.len⟩
theorem Inv.unhold{e:Addr}(ok:X.Ok)(I:Inv (X.hold e) pins σ H s):Inv X pins σ H s:=
 ⟨ok,I.os,I.bare,I.base,I.loc,I.cell,I.free,I.freeC,I.pin,I.hok,I.len⟩
theorem zaoa{A:Around}{E:Value->Shared->Prop}{n:Str}{pos:Pos}{j:Nat}{Q:Unit->Shared->Prop}(I:Inv X pins σ H s)(hN:X.N.Nodup)(hj:X.N[j]?=some n)(hl:X.env.scope.names.lookup n=some .local)
  (h:∀s',Inv X pins (σ.set j none) H s'->Q () s'):wpAny (model X.prog X.w) A (do bindName X.env n .none;unbindBehindTheSuite X.env n pos) Q E s:=by
 obtain⟨m,hn,hlk⟩:=id I.loc
 have hcls:(X.env.scope.kind==.class||(X.env.scope.kind==.module&&X.env.locals != X.env.globals))=false:=by rw[I.ok.kind];rfl
 refine wpAny_nameGoes_keeps hl hn hcls λh' v ns sb=>h _ ?_
 have lo:∀b ob,X.s₀.heap.get? b=some ob->h'.get? b=s.heap.get? b:=λb ob e=>sb.2 b (qk (qg (qJ e) I.ok.above))
 have cne:=I.cne
 refine⟨I.ok,I.os,I.bare,⟨λb o e n hb hx=>(lo b o e).trans (I.base.keep b o e n hb hx),λb o e n hb hx=>?_,I.base.free,λb o e hx=>?_,I.base.tups,I.base.frzs,I.base.tbls⟩,⟨_,ns,λk y v' e1 e2 e3=>?_⟩,λy c e=>?_,I.free,I.freeC,λp hp=>?_,λb ob e=>?_,by simpa using I.len⟩
 ·obtain⟨sl,e1⟩:=I.base.slot b o e n hb hx
  exact⟨sl,(lo b o e).trans e1⟩
 ·obtain⟨o',e1⟩:=I.base.there b o e hx
  exact⟨o',(lo b o e).trans e1⟩
 ·by_cases hk:k=j
  ·subst hk
   rw[qAI (by have:=(qU.mp hj).1;rw[I.len];exact this)]at e2
   cases e2
  ·rw[qf (qAo hk)]at e2
   obtain⟨u',r',q⟩:=hlk k y v' e1 e2 e3
   refine⟨u',r',?_⟩
   rcases q with⟨z,e⟩|⟨z,c,e,y'⟩
   ·refine .inl ⟨z,?_⟩
    have:y≠n:=λe=>hk (zsn hN e1 (e▸hj))
    simp[this,e]
   ·exact .inr ⟨z,c,e,y'.sameBut sb (cne y c e)⟩
 ·obtain⟨w',z⟩:=I.cell y c e
  exact⟨w',z.sameBut sb (cne y c e)⟩
 ·obtain⟨e,n,ne,nf,d⟩:=I.pin p hp
  exact⟨(sb.2 p.1 ne).trans e,n,ne,nf,d⟩
 ·refine(I.hok b ob e).stay (λc w' hc q=>(sb.2 c ?_).trans q) (λ_ q=>q) λ_ _ q=>q
  rintro rfl
  rcases hc with hc|hc
  ·rw[<- hc,I.free]at e;cases e
  ·rw[I.free]at hc;cases hc
end
noncomputable def tErr(Ok:Addr->Prop)(ts:Addr->TS)(j:Nat)(D:Ends)(σ:St)(H1:Hp):XK:=λc od H2=>∃C dx,c=.ref C/\Ok C/\od=some dx/\
 ∀e H3,(∀b o,H1 b=some o->H2 b=some o->H3 b=some o)->zaiu H2 H3->(∃tv,H3 e=some (.ext (xeD e C dx tv)))->
  ts C {nx:=λσ' H'=>D.nx (σ'.set j none) H',rt:=λ_ _=>False} (σ.set j (some (.ref e))) H3
section
variable{X:Cx}{pins:List (Addr×Obj)}{σ:St}{H1:Hp}{s1:Shared}
theorem handled{Ok:Addr->Prop}{ts:Addr->TS}{B:Addr}{n cn:Str}{hpos cp:Pos}{st0:Stmt}{suite:List Stmt}{j:Nat}{D:Ends}{ev:Value}{s':Shared}
  (hN:X.N.Nodup)(hj:X.N[j]?=some n)(hn:X.env.scope.names.lookup n=some .local)(hst:X.stack=X.env::X.outer)(hfr:X.env.frame=some X.env.locals)(hgc:Gl X cn)(hmc:X.mg cn=some (.ref B))
  (hex:∀C,Ok C->PySem.W.exmOne X.K (.ref C) (.ref B)=some true)(hs:∀C,Ok C->∀e,PSs (X.hold e) (st0::suite) (ts C))(hdc:(cn==("__debug__":Str))=false)
  (I1:Inv X pins σ H1 s1)(hq:CXE X.prog X.w X.stack H1 s1 (tErr Ok ts j D σ H1) ev s') :
  wpAny (model X.prog X.w) X.A (noteFrame ev X.env) (λ_ s2=>wpAny (model X.prog X.w) X.A (setFlight ev none) (λ_ s3=>wpAny (model X.prog X.w) X.A (handleBy ev X.env [.ExceptHandler (some (.Name cn cp)) (some n) (st0::suite) hpos]) (SP X pins D) X.xe s3) X.xe s2) X.xe s':=by
 obtain⟨e,C',dx,H2,rfl,os,bare,un,ok,fl,stx⟩:=hq
 have I2:=I1.call' (s':=s') os un ok bare (λb z=>absurd z (by simp))
 refine zuu I2 hst hfr (λb ob z=>un.there b ob z (by simp)) fl λs3 H3 I3 ⟨T,hT1,hT2,hT3,hT4⟩ ho hkx hz3=>?_
 obtain⟨C,dx',eC,hOk,edx,sq⟩:=stx H3 (λb o z1 z2=>ho b o _ (I1.hok b o z1).there.choose_spec z2) hkx
 cases eC
 cases edx
 obtain⟨⟨vs',sl,oe,h1⟩,_,_⟩:=I3.hok e _ hT1
 have tb:=(I3.hok T _ hT4).1
 have J3:=I3.hold e
 refine wpAny_handleBy_cons (codeAny_handlers_test (zoz J3 hgc hmc ?_ hdc)) (by intro z;cases z)
 have LT:PySem.W.Looks (model X.prog X.w) s3.heap (typeOf (.ref e)) (.ref C'):=(qCl oe).andThen .now
 refine(PySem.W.exm_one (I3.kIn) LT (hex C' hOk)).here ?_
 show codeAny _ _ _ _ _
 refine codeAny_handlers_suite_as (zaek oe rfl h1 tb λh' kp tb'=>?_)
 have hup:upd H3 T (.ext λh=>h.Tb T)=H3:=by
  funext b
  by_cases hb:b=T
  ·subst hb;rw[zaq,hT4]
  ·rw[zar hb]
 have J4:Inv (X.hold e) pins σ H3 {s3 with heap:=h'}:=by
  have:=J3.write (x:=T) (e:=T) (o:=.ext λh=>h.Tb T) (h':=h') (t':=s3.toks) (by rw[hT4];exact True.intro) (.inl rfl) (λb u hb z=>kp b u hb z) (let⟨oT,_,z,_⟩:=tb';⟨oT,z⟩) (zael tb')
  rw[hup]at this
  exact this
 refine zso (X:=X) (Inv.unhold I1.ok J4) hN hj (.inl hn) (show RelV (.ref e) (.ref e)from rfl) (λs5 J5=>?_) (.inr hn)
 refine qA7 (hs C' hOk e pins s5 _ H3 _ (J5.hold e) (sq e H3 (λ_ _ _ z=>z) (λ_ _ z _=>z) ⟨_,hT1⟩)) (λfl s6 q6=>?_) λ_ _ z=>z.elim
 cases fl with
 | next=>
  obtain⟨σ',H',J6,q6⟩:=q6
  exact zaoa (Inv.unhold I1.ok J6) hN hj hn λs7 I7=>⟨_,_,I7,q6⟩
 | ret u=>obtain⟨v,σ',H',J6,_,q6⟩:=q6;exact q6.elim
 | brk=>obtain⟨σ',H',J6,q6⟩:=q6;exact q6.elim
 | cont=>obtain⟨σ',H',J6,q6⟩:=q6;exact q6.elim
end
noncomputable def ownB(P:Addr):Option HO->Bool
 | some (.own x)=>x==P
 | _=>false
theorem ztb{P:Addr}{o:Option HO}:ownB P o=true↔o=some (.own P):=by
 constructor
 ·intro h
  unfold ownB at h
  split at h
  ·rename_i x
   have:x=P:=by simpa using h
   rw[this]
  ·cases h
 ·rintro rfl
  simp[ownB]
noncomputable def hidB(P:Addr)(H:Hp)(b:Addr):Bool:=b==P||ownB P (H b)
noncomputable def hidP(P:Addr)(H:Hp):Hp:=λb=>if hidB P H b=true then none else H b
noncomputable def resP(P:Addr)(H H':Hp):Hp:=λb=>if hidB P H b=true then H b else H' b
section
variable{P:Addr}{H H':Hp}{b:Addr}{u:HO}{q:Str}
theorem zals(h:H b=some u)(hb:b≠P)(hu:u≠.own P):hidB P H b=false:=by
 unfold hidB
 rw[beq_eq_false_iff_ne.mpr hb,qCI]
 cases e:ownB P (H b)with
 | false=>rfl
 | true=>rw[ztb.mp e]at h;cases h;exact absurd rfl hu
theorem zarq(hP:H P=some (.tabO q))(h:H b=none):hidB P H b=false:=by
 unfold hidB
 rw[h,beq_eq_false_iff_ne.mpr (λz=>by rw[z,hP]at h;cases h)];rfl
theorem zmm(h:H b=some u)(hb:b≠P)(hu:u≠.own P):hidP P H b=some u:=by
 unfold hidP;rw[zals h hb hu];exact h
theorem zafa(h:hidP P H b=some u):H b=some u/\hidB P H b=false:=by
 unfold hidP at h
 cases e:hidB P H b with
 | true=>rw[e]at h;cases h
 | false=>rw[e]at h;exact⟨h,rfl⟩
theorem zjb(h:H b=none):hidP P H b=none:=by unfold hidP;split<;>first|rfl|exact h
theorem zmn(h:hidB P H b=false):resP P H H' b=H' b:=by unfold resP;rw[h];rfl
theorem zafb(h:hidB P H b=true):resP P H H' b=H b:=by unfold resP;rw[h];rfl
theorem zalt(h:hidB P H b=true):b=P\/H b=some (.own P):=by
 unfold hidB at h
 rcases qBr.mp h with z|z
 ·exact .inl (by simpa using z)
 ·exact .inr (ztb.mp z)
theorem zarr:hidB P H P=true:=by unfold hidB;simp
theorem zafc(h:H b=some (.own P)):hidB P H b=true:=by unfold hidB;rw[ztb.mpr h,qAk]
theorem zars{Pr:Program}{w:World}{h:Heap}(hP:H P=some (.tabO q))(x:HOk Pr w H h):HOk Pr w (hidP P H) h:=λb u e=>by
 obtain⟨e1,e2⟩:=zafa e
 have nb:b≠P:=λz=>by rw[z,zarr]at e2;cases e2
 exact(x b u e1).stay (λc v _ z=>z) (λc z=>zmm z (λy=>by rw[y,hP]at z;cases z) (λy=>by cases y;exact nb rfl)) (λc xs z=>zmm z (λy=>by rw[y,hP]at z;cases z) (λy=>by cases y))
theorem zajg{Pr:Program}{w:World}{fs:List Addr}{h h':Heap}(hP:H P=some (.tabO q))(ok:HOk Pr w H h)(hfs:∀b∈fs,H b=none)(un:Un fs [] (hidP P H) H' h h')(ok':HOk Pr w H' h') :
  Un fs [] H (resP P H H') h h'/\HOk Pr w (resP P H H') h'/\∀b,hidB P H b=true->H' b=none:=by
 have hs:∀b,hidB P H b=true->∃u,H b=some u:=λb e=>(zalt e).elim (λz=>⟨.tabO q,z▸hP⟩) λz=>⟨.own P,z⟩
 have hn:∀b,hidB P H b=true->hidP P H b=none:=λb e=>by unfold hidP;rw[e];rfl
 have kp:∀b o,hidB P H b=true->h.get? b=some o->h'.get? b=some o:=λb o e z=>un.keep b o z (hn b e) (λy=>by obtain⟨u,q⟩:=hs b e;rw[hfs b y]at q;cases q) (by simp)
 have fr:∀b,hidB P H b=true->H' b=none:=λb e=>by
  obtain⟨u,z⟩:=hs b e
  obtain⟨o,y⟩:=(ok b u z).there
  exact un.free b o y (hn b e) (by simp)
 have up:∀b u,H b=some u->u≠.own P->b≠P->hidB P H b=false/\hidP P H b=some u:=λb u z hu hb=>⟨zals z hb hu,zmm z hb hu⟩
 refine⟨⟨λb o z n hb hx=>un.keep b o z (zjb n) hb hx,λb o z n hb hx=>un.slot b o z (zjb n) hb hx,λb o z n hx=>?_,λb o z hx=>un.there b o z hx,λb xs z=>?_,λb o u z=>?_,λb ps z=>?_⟩,λb u e=>?_,fr⟩
 ·rw[zmn (zarq hP n)];exact un.free b o z (zjb n) hx
 ·obtain⟨a1,a2⟩:=up b _ z (λy=>by cases y) (λy=>by rw[y,hP]at z;cases z)
  rw[zmn a1];exact un.tups b xs a2
 ·obtain⟨a1,a2⟩:=up b _ z (λy=>by cases y) (λy=>by rw[y,hP]at z;cases z)
  rw[zmn a1];exact un.frzs b o u a2
 ·obtain⟨a1,a2⟩:=up b _ z (λy=>by cases y) (λy=>by rw[y,hP]at z;cases z)
  rw[zmn a1];exact un.tbls b ps a2
 ·cases hb:hidB P H b with
  | true=>
   rw[zafb hb]at e
   rcases zalt hb with z|z
   ·subst z
    rw[hP]at e
    cases e
    refine(ok b _ hP).stay (λc v hc y=>kp c v (hc.elim (λz=>by rw[z];exact hb) zafc) y) (λc y=>by rw[zafb (zafc y)];exact y) (λc xs y=>?_)
    obtain⟨a1,a2⟩:=up c _ y (λy=>by cases y) (λz=>by rw[z,hP]at y;cases y)
    rw[zmn a1];exact un.tups c xs a2
   ·rw[z]at e
    cases e
    obtain⟨o,y⟩:=(ok b _ z).there
    exact⟨o,kp b o hb y⟩
  | false=>
   rw[zmn hb]at e
   have nh:∀c v,H' c=some v->hidB P H c=false:=λc v y=>by
    cases z:hidB P H c with
    | false=>rfl
    | true=>rw[fr c z]at y;cases y
   exact(ok' b u e).stay (λc v _ z=>z) (λc y=>by rw[zmn (nh c _ y)];exact y) (λc xs y=>by rw[zmn (nh c _ y)];exact y)
end
theorem zafd{pos:Pos}{a b:Int}{c cv:Value}(l:List Value)(h:TriplesOk l)(e:codeAmong pos (l++[rawInt a,rawInt b,c])=some cv):codeAmong pos l=some cv\/cv=c:=by
 fun_induction TriplesOk l with
 | case1=>
  simp only[List.nil_append,rawInt,codeAmong]at e
  split at e
  ·exact .inr (qZ e).symm
  ·cases e
 | case2 x t y u z rest ih=>
  simp only[qCU,codeAmong]at e ⊢
  split at e
  ·rename_i hc;rw[if_pos hc];exact .inl e
  ·rename_i hc;rw[if_neg hc];exact ih h e
 | case3 l h1 h2=>exact h.elim
theorem zyh{a b:Int}{c:Value}(l:List Value)(h:TriplesOk l):TriplesOk (l++[rawInt a,rawInt b,c]):=by
 fun_induction TriplesOk l with
 | case1=>exact True.intro
 | case2 x t y u z rest ih=>exact ih h
 | case3 l h1 h2=>exact h.elim
noncomputable def BM(mg:Str->Option Value)(base:Heap):Prop:=∃bm ob,mg "__builtins__"=some (.ref bm)/\bm≠builtinsNs/\base.get? bm=some ob/\ob.cls=.type "module"/\ob.dict=some builtinsNs/\ob.data=.plain
section
variable{X:Cx}{pins:List (Addr×Obj)}{σ:St}{H:Hp}{s:Shared}{c P:Addr}{params:Arguments}{body:Expr}{scope:Scope}{clos:List (Str×Addr)}{pos:Pos}
noncomputable abbrev lamQ(X:Cx):Str:=X.env.qual++"<lambda>"
theorem zajh{Q:Value->Shared->Prop}{E:Value->Shared->Prop}(I:Inv X pins σ H s)(hcode:X.env.code=.ref c)(C:PySem.W.CodeHd X.base c P)(hP:H P=some (.tabO (lamQ X)))(hbm:BM X.mg X.base)(hcl:closureFor scope X.env=pure clos)(hdef:defaultsOf params X.env=([],[]))
  (h:∀(s':Shared)(H':Hp)(f c':Addr)(ctv pm:Value),Inv X pins σ H' s'->(H'=H\/(H c'=none/\H'=upd H c' (.own P)))->H' f=none->s'.heap.get? f=some (PySem.W.kla_obj "<lambda>" (lamQ X) params body scope clos pm c' ctv)->s'.heap.CodeRec (.ref c') (lamQ X)->H' c'=some (.own P)->Q (.ref f) s') :
  wpAny (model X.prog X.w) X.A (eval (.Lambda params body scope pos) X.env) Q E s:=by
 obtain⟨ps,hps,tr,ent⟩:=I.hok P _ hP
 have Cs:PySem.W.CodeHd s.heap c P:=C.keeps I.bk
 have hgs:s.heap.Ns qN X.mg:=I.mod.glob.keeps I.bk
 have nP:∀b o,X.base.get? b=some o->b≠P:=λb o e z=>by have:=(I.bs b o e).2;rw[z,hP]at this;cases this
 have hgP:qN≠P:=by
  obtain⟨o,es,ep,e,_⟩:=I.mod.glob
  exact nP _ o e
 obtain⟨bm,ob,b1,b2,b3,b4,b5,b6⟩:=hbm
 have hbG:bm≠qN:=λz=>by
  obtain⟨o,es,ep,e,hd,_⟩:=I.mod.glob
  rw[z,e]at b3;cases b3;rw[hd]at b6;cases b6
 have hb:s.heap.BuiltinsAt X.mg P:=⟨bm,ob,b1,b2,hbG,nP _ _ b3,I.bk _ _ b3,b4,b5,b6⟩
 refine PySem.W.kla_eval hdef ?_
 cases hf:codeAmong pos ps.toList with
 | none=>
  refine PySem.W.kla_makeFunction (mg:=X.mg) hcl I.ok.glob hgs hcode Cs hps tr hf hgP hb λc' ctv h' tk hx hge hlt hrec htb=>?_
  have nc:H c'=none:=I.hok.fresh hge
  have nP':c'≠P:=λz=>by rw[z,hP]at nc;cases nc
  generalize hob:PySem.W.kla_obj "<lambda>" (lamQ X) params body scope clos ((X.mg "__name__").getD .none) c' ctv=obj
  have kp:∀b o,b≠P->s.heap.get? b=some o->(h'.push obj).get? b=some o:=λb o z e=>qD _ (hx b o z e)
  have hsz:s.heap.objs.size<=h'.objs.size:=qBh (qBv hge hlt)
  have up:∀b u,H b=some u->upd H c' (.own P) b=some u:=λb u e=>by rw[zar (λz=>by rw[z,nc]at e;cases e)];exact e
  obtain⟨c2,oc,vs,t,e2,hoc,hd,hv⟩:=hrec
  cases e2
  have tabN:(h'.push obj).get? P=some (PySem.W.tabObj (ps++#[rawInt pos.line,rawInt pos.col,.ref c'])):=qD _ htb
  have un:Un X.fs [] H (upd H c' (.own P)) s.heap (h'.push obj):=
   ⟨λb o e n _ _=>kp b o (λz=>by rw[z,hP]at n;cases n) e,λb o e n _ _=>⟨o.slots,kp b o (λz=>by rw[z,hP]at n;cases n) e⟩,λb o e n _=>by rw[zar (qk (qg (qJ e) hge))];exact n,
    λb o e _=>(Decidable.em (b=P)).elim (λz=>⟨_,z▸tabN⟩) (λz=>⟨o,kp b o z e⟩),λb xs e=>up b _ e,λb o u e=>up b _ e,λb ps e=>⟨#[],by rw[up b _ e];simp⟩⟩
  have ok:HOk X.prog X.w (upd H c' (.own P)) (h'.push obj):=λb u e=>by
   by_cases hb:b=c'
   ·subst hb
    rw[zaq]at e
    cases e
    exact⟨oc,qD _ hoc⟩
   ·rw[zar hb]at e
    by_cases hbP:b=P
    ·subst hbP
     rw[hP]at e
     cases e
     refine⟨_,tabN,by rw[qDG];exact zyh _ tr,λpos' cv hc=>?_⟩
     rw[qDG]at hc
     rcases zafd _ tr hc with hc|hc
     ·obtain⟨c1,o,vs1,t1,a1,a2,a3,a4,a5⟩:=ent pos' cv hc
      exact⟨c1,o,vs1,t1,a1,a2,up _ _ a3,kp _ _ a2 a4,a5⟩
     ·exact⟨c',oc,vs,t,hc,nP',zaq,qD _ hoc,hd,hv⟩
    ·exact(I.hok b u e).stay (λc v hc z=>kp c v (hc.elim (λy=>by rw[y];exact hbP) λy w=>by rw[w,hP]at y;cases y) z) (λc z=>up c _ z) (λc xs z=>up c _ z)
  refine h _ _ h'.objs.size c' ctv _ (I.un (t':=tk) un ok) (.inr ⟨nc,rfl⟩) ?_ (by rw[<- hob];exact qa _ rfl) ⟨c',oc,vs,t,rfl,qD _ hoc,hd,hv⟩ zaq
  rw[zar (qBU hlt)]
  exact I.hok.fresh hsz
 | some cv=>
  obtain⟨c',oc,vs,t,rfl,ne,own,hoc,hd,hv⟩:=ent pos cv hf
  refine PySem.W.kla_makeFunctionHit (mg:=X.mg) hcl I.ok.glob hgs hcode Cs hps tr hf hb λctv h' tk hk hsz=>?_
  have kp:∀b o,s.heap.get? b=some o->(h'.push (PySem.W.kla_obj "<lambda>" (lamQ X) params body scope clos ((X.mg "__name__").getD .none) c' ctv)).get? b=some o:=λb o e=>qD _ (hk b o e)
  exact h _ H h'.objs.size c' ctv _ (I.un (t':=tk) (Un.kept kp) (I.hok.kept kp)) (.inl rfl) (I.hok.fresh hsz) (qa _ rfl) ⟨c',oc,vs,t,rfl,kp _ _ hoc,hd,hv⟩ own
end
structure LamScope(N:List Str)(sc:Scope):Prop where
 kind:sc.kind=.function
 co:sc.isCoroutine=false
 gen:sc.isGenerator=false
 nocell:∀x∈sc.names,x.2≠.cell
 free:∀x∈N,sc.names.lookup x=some .free
noncomputable def ztc(CX:CXT)(P:Program)(w:World)(K:qB)(mg:Str->Option Value)(base:Heap)(N:List Str)(qual:Str)(scope:Scope)(f:Addr)(cd:Value)(cl:List (Str×Addr))(A:Around)(outer:List Env)(s:Shared)(H:Hp)(E:XK):Cx where
 prog:=P
 w:=w
 K:=K
 mg:=mg
 base:=base
 A:=A.deeper (PySem.W.envX qual scope s.heap.objs.size f cd cl)
 N:=N
 s₀:=s
 H₀:=H
 env:=PySem.W.envX qual scope s.heap.objs.size f cd cl
 outer:=outer
 stack:=PySem.W.envX qual scope s.heap.objs.size f cd cl::outer
 ex:=[]
 calm:=true
 fn:=λ_=>false
 pn:=[]
 xe:=λe s'=>wpAny (model P w) (A.deeper (PySem.W.envX qual scope s.heap.objs.size f cd cl)) (leaving (PySem.W.envX qual scope s.heap.objs.size f cd cl) e) (λ_ s''=>CX outer H s E e s'') (λe' s''=>CX outer H s E e' s'') s'
structure Cells(cl:List (Str×Addr))(N:List Str)(vs:List V)(h:Heap)(H:Hp)(sc:Scope):Prop where
 inj:∀x y c,cl.lookup x=some c->cl.lookup y=some c->x=y
 has:∀x,sc.names.lookup x=some .free->∃c,cl.lookup x=some c
 cell:∀x c,cl.lookup x=some c->(∃v,h.IsCell c v)/\H c=none
 val:∀(i:Nat)(x:Str)(v:V),N[i]?=some x->vs[i]?=some v->∃c u,cl.lookup x=some c/\h.IsCell c (some u)/\RelV v u
 len:vs.length=N.length
section
variable{CX:CXT}{P:Program}{w:World}{K:qB}{mg:Str->Option Value}{base:Heap}{N:List Str}{name qual:Str}{params:Arguments}{body:Expr}{scope:Scope}{f c':Addr}{cl:List (Str×Addr)}{A:Around}{outer:List Env}{s:Shared}{H:Hp}{E:XK}{Q:VK}{vs:List V}{pm ctv:Value}{k:Nat}
theorem zaob(S:LamScope N scope)(hr:Room (k+1) A)(e0:Env0 P w K mg base A outer s H){o:Obj}(ho:s.heap.get? f=some o)(hod:o.data=.func (PySem.W.kla_fn name qual params body scope cl pm (.ref c') ctv))(hcd:s.heap.CodeRec (.ref c') qual)
  (hbind:bindArgs (PySem.W.kla_fn name qual params body scope cl pm (.ref c') ctv) ⟨[],[]⟩=pure [])(Ce:Cells cl N vs s.heap H scope)
  (hbody:Room k (A.deeper (PySem.W.envX qual scope s.heap.objs.size f (.ref c') cl))->∃t,PE (ztc CX P w K mg base N qual scope f (.ref c') cl A outer s H E) body t/\t (vs.map some) H Q) :
  codeAny (model P w) A (.call (.ref f) ⟨[],[]⟩) (CR CX outer P w H s Q E) s:=by
 refine PySem.W.kla_callFunE hr.depth ho hod S.co S.gen rfl hcd ?_
 rw[hbind]
 refine qI (wpAny_newFunctionEnv S.nocell (λx hx=>absurd (show x∈([]:List (Str×Value))from hx) (by simp)) (λh₁ hns hsb=>⟨((e0.mod.nolimit.keeps λb o e=>(e0.bs b o e).1)).fresh _ hsb,?_⟩) S.kind)
 show codeAny _ _ (.expr body (PySem.W.envX qual scope s.heap.objs.size f (.ref c') cl)) _ _
 have hk:∀b o,s.heap.get? b=some o->h₁.get? b=some o:=λb o e=>hsb.extBut b o (qk (qJ e)) (qD _ e)
 obtain⟨t,ht,hq⟩:=hbody (hr.deeper _)
 have noA:∀b:Addr,b∉(ztc CX P w K mg base N qual scope f (.ref c') cl A outer s H E).ex:=λb z=>absurd (show b∈([]:List Addr)from z) (by simp)
 have cellK:∀c v,s.heap.IsCell c v->h₁.IsCell c v:=λc v ⟨o,e,d⟩=>⟨o,hk _ _ e,d⟩
 have I:Inv (ztc CX P w K mg base N qual scope f (.ref c') cl A outer s H E) [] (vs.map some) H {s with heap:=h₁,toks:=s.toks+([]:List (Str×Value)).length}:=by
  refine⟨⟨e0.mod,S.kind,rfl,rfl,qL _,Ce.inj,λy hy=>?_,λy c z _=>?_,λ_=>hr.hd,qC4 e0.frames,.inr ⟨rfl,rfl⟩,λb z=>absurd z (noA b),e0.bs,e0.bsz,λb _ _=>noA b,λb z=>absurd z (noA b),e0.funs,e0.frf⟩,
   rfl,e0.bare,Un.kept hk,⟨_,hns,λi y v h1 h2 h3=>?_⟩,λy c z=>?_,e0.hok.fresh (qL _),λy c z=>(Ce.cell y c z).2,λp hp=>absurd (show p∈([]:List (Addr×Obj))from hp) (by simp),e0.hok.kept hk,?_⟩
  ·have hy:scope.names.lookup y=some .cell\/scope.names.lookup y=some .free:=hy
   rcases hy with hy|hy
   ·exact absurd rfl (S.nocell _ (qo hy))
   ·exact Ce.has y hy
  ·cases z
  ·rw[qR]at h2
   cases ev:vs[i]? with
   | none=>rw[ev]at h2;cases h2
   | some v0=>
    rw[ev]at h2
    cases h2
    obtain⟨c,u,a1,a2,a3⟩:=Ce.val i y v h1 ev
    exact⟨u,a3,.inr ⟨.inr (S.free y (qAj h1)),c,a1,cellK _ _ a2⟩⟩
  ·obtain⟨v,z⟩:=(Ce.cell y c z).1
   exact⟨v,cellK _ _ z⟩
  ·rw[qF];exact Ce.len
 refine PySem.W.kla_codeExpr (qA7 (ht [] _ (vs.map some) H Q I hq) (λu s' h=>?_) λe s' h=>h)
 obtain⟨v,H',J,rv,q⟩:=h
 exact⟨v,H',J.os,J.bare,J.base,J.hok,rv,q⟩
end
noncomputable def Asks(P:Program)(w:World)(K:qB)(mg:Str->Option Value)(base:Heap)(CX:CXT)(k:Nat)(fs:List Addr)(s:Shared)(H:Hp)(g:Addr)(R:Hp->VK->XK->Prop):Prop:=
 ∀(A:Around)(outer:List Env)(s':Shared)(H':Hp)(Q:VK)(E:XK),Room k A->Env0 P w K mg base A outer s' H'->Un fs [] H H' s.heap s'.heap->R H' Q E->codeAny (model P w) A (.call (.ref g) ⟨[],[]⟩) (CR CX outer P w H' s' Q E) s'
structure ToldOk(P:Program)(w:World)(K:qB)(mg:Str->Option Value)(base:Heap)(k j:Nat)(f:Addr)(fd:qt)(p:Str)(tol:(Hp->VK->XK->Prop)->Hp->VK->Prop):Prop where
 run:∀(A:Around)(outer:List Env)(s:Shared)(H:Hp)(args:Args)(g:Addr)(R:Hp->VK->XK->Prop)(Q:VK),Room k A->Env0 P w K mg base A outer s H->BindsTo s fd args [(p,.ref g)]->PySem.W.FnAt g s.heap->H g=none->Asks P w K mg base (CXE P w) j (frs outer) s H g R->tol R H Q->
  codeAny (model P w) A (.call (.ref f) args) (CR CX0 outer P w H s Q λ_ _ _=>False) s
theorem zaoc{P:Program}{w:World}{K:qB}{mg:Str->Option Value}{base:Heap}{x qual:Str}{st:Stmt}{f:Addr}{fd:qt}{N:List Str}{p:Str}{k j:Nat}{tol:(Hp->VK->XK->Prop)->Hp->VK->Prop}(Fu:Fun K x qual st f fd)(S:FnScope N [p] (zai st))
  (hbody:∀(cdv:Value)(A:Around)(outer:List Env)(s:Shared)(H:Hp)(g:Addr)(R:Hp->VK->XK->Prop)(Q:VK),Room k (A.deeper (envOfC qual (zai st) s.heap.objs.size f cdv))->HOk P w H s.heap->PySem.W.FnAt g s.heap->H g=none->Asks P w K mg base (CXE P w) j (frs outer) s H g R->tol R H Q->
   ∃t,PSs (cxOf CX0 P w K mg base N qual (zai st) f cdv A outer s H λ_ _ _=>False) (zbd st) t/\t {nx:=λ_ H'=>Q .non H',rt:=Q} (zgi N [.ref g]) H):ToldOk P w K mg base (k+1) j f fd p tol:=by
 refine⟨λA outer s H args g R Q hr e0 hb hg hn ha ht=>?_⟩
 obtain⟨oc,od,kV,doc,pm,an,cdv,ct,osl,rfl,lk,hcd⟩:=Fu.ex
 have KX:K.In s.heap:=e0.mod.kin.keeps λb o e=>(e0.bs b o e).1
 refine qBk hr.depth (KX _ _ lk) rfl S.co S.gen rfl (qBl KX hcd) (hb _ _ _ _ (qBR S.kind (λ⟨n,v⟩ hy=>?_) λenv he s1 x=>?_))
 ·have hy':(n,v)∈[p].zip [Value.ref g]:=hy
  rcases S.par n (qA9 hy').1 with q|q
  ·exact .inl q
  ·exact .inr ⟨q,qBD _ _ _ (.inl q)⟩
 ·subst he
  obtain⟨t,ht,hq⟩:=hbody cdv A outer s H g R Q (hr.deeper _) e0.hok hg hn ha ht
  have I:=zlz (CX:=CX0) (E:=λ_ _ _=>False) (us:=[.ref g]) (vs:=[.ref g]) S hr.hd e0 rfl (.cons rfl .nil) x
  refine⟨(e0.mod.nolimit.keeps λb o e=>(e0.bs b o e).1).keeps x.toInCall.keep,qCk (qA7 (ht [] s1 (zgi N [.ref g]) H _ I hq) (λfl s' hs=>?_) λe s' hs=>hs)⟩
  cases fl with
  | ret u=>obtain⟨v,σ',H',J,rv,q⟩:=hs;exact⟨v,H',J.os,J.bare,J.base,J.hok,rv,q⟩
  | next=>obtain⟨σ',H',J,q⟩:=hs;exact⟨.non,H',J.os,J.bare,J.base,J.hok,rfl,q⟩
  | brk=>obtain⟨_,_,_,q⟩:=hs;exact q.elim
  | cont=>obtain⟨_,_,_,q⟩:=hs;exact q.elim
noncomputable def zaod(Ok:Addr->Prop)(g:Addr)(R:Hp->VK->XK->Prop)(ts:Addr->TS)(i j:Nat):TS:=λD σ H=>σ[i]?=some (some (.ref g))/\R H (λ_ H2=>D.nx σ H2) (tErr Ok ts j D σ H)
section
variable{X:Cx}
theorem zaoe{Ok:Addr->Prop}{g B:Addr}{k i:Nat}{R:Hp->VK->XK->Prop}{an n cn:Str}{p cpos pos epos hpos cp:Pos}{st0:Stmt}{suite:List Stmt}{ts:Addr->TS}{j:Nat}
  (As:Asks X.prog X.w X.K X.mg X.base (CXE X.prog X.w) k X.fs X.s₀ X.H₀ g R)(hex0:X.ex=[])(hr:Room k X.A)(hg:PySem.W.FnAt g X.s₀.heap)(hn0:X.H₀ g=none)
  (hi:X.N[i]?=some an)(hv:Vis X.env.scope an)
  (hN:X.N.Nodup)(hj:X.N[j]?=some n)(hn:X.env.scope.names.lookup n=some .local)
  (hst:X.stack=X.env::X.outer)(hfr:X.env.frame=some X.env.locals)(hgc:Gl X cn)(hmc:X.mg cn=some (.ref B))(hex:∀C,Ok C->PySem.W.exmOne X.K (.ref C) (.ref B)=some true)(hs:∀C,Ok C->∀e,PSs (X.hold e) (st0::suite) (ts C))
  (hdb:(an==("__debug__":Str))=false)(hda:(an==("__classdict__":Str))=false)(hdc:(cn==("__debug__":Str))=false)
  (hsw:swapsWith (.Call (.Name an p) [] [] cpos) none epos.line X.env=pure false) :
  PS X (.Try [.Expr (.Call (.Name an p) [] [] cpos) epos] [.ExceptHandler (some (.Name cn cp)) (some n) (st0::suite) hpos] [] [] pos) (zaod Ok g R ts i j):=by
 intro pins s σ H D I h
 obtain⟨hσ,hR⟩:=h
 refine wpAny_Try_except ?_
 refine qCq (wpAny_Expr_any (qBK ?_) I.quiet hsw)
 refine qA7 (zade (X:=X.nox) hi hv hdb hda pins s σ H (λv H'=>v=.ref g/\H'=H) (I.wish _) ⟨_,hσ,rfl,rfl⟩) (λu s1 ⟨v,H1,I1,rv,ev,eH⟩=>?_) λ_ _ z=>z.elim
 subst ev
 subst eH
 cases rv
 have I1:Inv X pins σ H1 s1:=I1.unwish
 obtain⟨oc,od,fd,sl,eg⟩:=hg
 have fnA:PySem.W.FnAt g s1.heap:=by
  obtain⟨sl',z⟩:=I1.base.any eg hn0 (by rw[hex0];simp)
  exact⟨oc,od,fd,sl',z⟩
 refine PySem.W.callWith_F0 fnA ?_
 have un:Un X.fs [] X.H₀ H1 X.s₀.heap s1.heap:=by
  have:=I1.base
  rw[hex0]at this
  exact this
 refine qCG (qBc (As X.A X.stack s1 H1 _ _ hr I1.env0 un hR) λres s' hq=>?_)
 cases res with
 | ok fl=>
  cases fl with
  | ret u=>
   obtain⟨v,H2,I2,rv,q2⟩:=I1.after hq
   exact qBx (qBx ⟨_,H2,I2,q2⟩)
  | next=>exact False.elim hq
  | brk=>exact False.elim hq
  | cont=>exact False.elim hq
 | error ev=>exact handled hN hj hn hst hfr hgc hmc hex hs hdc I1 hq
end
noncomputable def clF(sc:Scope)(env:Env):List (Str×Addr):=(sc.names.filterMap λp=>if p.2==.free then(env.cells.lookup p.1).map λc=>(p.1,c)else none).reverse
theorem zafe{sc:Scope}{env:Env}{x:Str}{c:Addr}:(x,c)∈clF sc env↔(x,NameKind.free)∈sc.names/\env.cells.lookup x=some c:=by
 unfold clF
 rw[List.mem_reverse,qBY]
 constructor
 ·rintro⟨⟨y,k⟩,h1,h2⟩
  dsimp only at h2
  split at h2
  ·rename_i hk
   have hk:k=NameKind.free:=by simpa using hk
   obtain⟨d,e1,e2⟩:=qG.mp h2
   cases e2
   exact⟨hk▸h1,e1⟩
  ·cases h2
 ·rintro⟨h1,h2⟩
  exact⟨(x,.free),h1,by dsimp only;rw[if_pos (by rfl),h2];rfl⟩
theorem zrs{α:Type}:∀{l:List (Str×α)}{x:Str}{c:α},(x,c)∈l->∃d,l.lookup x=some d
 | (k,v)::r,x,c,h=>by
  rw[q9]
  cases hb:x==k with
  | true=>exact⟨v,rfl⟩
  | false=>
   rcases qc.mp h with e|h
   ·cases e;simp at hb
   ·exact zrs h
theorem zie{sc:Scope}{env:Env}{x:Str}{c:Addr}(h:(clF sc env).lookup x=some c):env.cells.lookup x=some c:=(zafe.mp (qo h)).2
theorem zaff{sc:Scope}{env:Env}{x:Str}{c:Addr}(h:(x,NameKind.free)∈sc.names)(e:env.cells.lookup x=some c):(clF sc env).lookup x=some c:=by
 obtain⟨d,hd⟩:=zrs (zafe.mpr ⟨h,e⟩)
 rw[hd]
 exact(zie hd).symm.trans e
noncomputable def zafg(P:Addr)(q:Str)(js:List Nat)(tb:Hp->XK->TE)(tol:(Hp->VK->XK->Prop)->Hp->VK->Prop):TE:=λσ H Q=>H P=some (.tabO q)/\∃vs:List V,(js.map λj=>σ[j]?)=vs.map (λv=>some (some v))/\
 ∀H1,(H1=H\/∃c,H c=none/\H1=upd H c (.own P))->∃R:Hp->VK->XK->Prop,(∀H' Q' E',R H' Q' E'->tb H' E' (vs.map some) H' Q')/\tol R (hidP P H1) (λv H'=>(∀b,hidB P H1 b=true->H' b=none)->Q v (resP P H1 H'))
section
variable{X:Cx}{k j:Nat}{f c P:Addr}{fd:qt}{pr:Str}{tol:(Hp->VK->XK->Prop)->Hp->VK->Prop}{tn:Str}{p lp pos:Pos}{params:Arguments}{body:Expr}{scope:Scope}{NB:List Str}{js:List Nat}{tb:Hp->XK->TE}
theorem zaji(T:ToldOk X.prog X.w X.K X.mg X.base k (j+1) f fd pr tol)(hr:Room k X.A)(hg:Gl X tn)(hm:X.mg tn=some (.ref f))(hk:qS X.K (.ref f)=true)(hb:zom X.K fd [pr] [])
  (hcode:X.env.code=.ref c)(C:PySem.W.CodeHd X.base c P)(hbm:BM X.mg X.base)(S:LamScope NB scope)(hcl:closureFor scope X.env=pure (clF scope X.env))(hdef:defaultsOf params X.env=([],[]))
  (hbind:∀(cl:List (Str×Addr)) (pm cd ctv:Value),bindArgs (PySem.W.kla_fn "<lambda>" (lamQ X) params body scope cl pm cd ctv) ⟨[],[]⟩=pure [])
  (hfree:∀q∈scope.names,q.2=.free->X.env.kindOf q.1=some .cell)
  (hjs:js.map (λi=>X.N[i]?)=NB.map some)
  (hB:∀(A:Around)(outer:List Env)(s:Shared)(H:Hp)(E:XK)(g c':Addr)(cl:List (Str×Addr)),Room j (A.deeper (PySem.W.envX (lamQ X) scope s.heap.objs.size g (.ref c') cl))->HOk X.prog X.w H s.heap->PE (ztc (CXE X.prog X.w) X.prog X.w X.K X.mg X.base NB (lamQ X) scope g (.ref c') cl A outer s H E) body (tb H E))
  (hdb:(tn==("__debug__":Str))=false:=by decide)(he:starEach [.Lambda params body scope lp] X.env=(false,eval (.Lambda params body scope lp) X.env)::starEach [] X.env:=by rfl)(hpl:(backTo pos (starEach [] X.env)).any (·.1)=false:=by rfl) :
  PE X (.Call (.Name tn p) [.Lambda params body scope lp] [] pos) (zafg P (lamQ X) js tb tol):=by
 intro pins s σ H Q I ⟨hP,vs,hvs,hk2⟩
 refine qBK (zoz I hg hm ?_ hdb)
 refine qB9 (h₀:=X.base) I.ok.mod.kin hk ?_ he hpl
 rw[he]
 show wpAny _ _ (spliced ((false,eval (.Lambda params body scope lp) X.env)::backTo pos (starEach [] X.env))) _ _ s
 refine qDM (zajh I hcode C hP hbm hcl hdef λs1 H1 g c' ctv pm I1 hH1 ng hob hrec hown=>?_)
 refine Calls.spliced_nil ⟨I1.kIn,?_⟩
 have hP1:H1 P=some (.tabO (lamQ X)):=by
  rcases hH1 with rfl|⟨n,rfl⟩
  ·exact hP
  ·rw[zar (λz=>by rw[<- z,hP]at n;cases n)];exact hP
 obtain⟨R,hR,hT⟩:=hk2 H1 (hH1.imp id λz=>⟨_,z⟩)
 have cellOf:∀x c,(clF scope X.env).lookup x=some c->(∃v,s1.heap.IsCell c v)/\H1 c=none:=λx c z=>⟨I1.cell x c (zie z),I1.freeC x c (zie z)⟩
 have fr:∀x,scope.names.lookup x=some .free->∃c,(clF scope X.env).lookup x=some c:=λx z=>by
  have m:=qo z
  obtain⟨c,e⟩:=I1.ok.has x (.inl (hfree _ m rfl))
  exact⟨c,zaff m e⟩
 have lenV:vs.length=NB.length:=by
  have h1:=congrArg List.length hvs
  have h2:=congrArg List.length hjs
  simp only[qF]at h1 h2
  omega
 have val:∀(i:Nat)(x:Str)(v:V),NB[i]?=some x->vs[i]?=some v->∃c u,(clF scope X.env).lookup x=some c/\s1.heap.IsCell c (some u)/\RelV v u:=λi x v e1 e2=>by
  have h1:=congrArg (λl=>l[i]?) hjs
  have h2:=congrArg (λl=>l[i]?) hvs
  simp only[qR]at h1 h2
  rw[e1]at h1
  rw[e2]at h2
  cases ej:js[i]? with
  | none=>rw[ej]at h1;cases h1
  | some jj=>
   rw[ej]at h1 h2
   have g1:X.N[jj]?=some x:=qZ h1
   have g2:σ[jj]?=some (some v):=qZ h2
   have kf:scope.names.lookup x=some .free:=S.free x (qAj e1)
   have kc:X.env.kindOf x=some .cell:=hfree _ (qo kf) rfl
   obtain⟨m,hn,hl⟩:=I1.loc
   obtain⟨u,rv,lk⟩:=hl jj x v g1 g2 (.inr (.inl kc))
   rcases lk with⟨z,_⟩|⟨_,c,ec,ic⟩
   ·rw[kc]at z;cases z
   ·exact⟨c,u,zaff (qo kf) ec,ic,rv⟩
 have As:Asks X.prog X.w X.K X.mg X.base (CXE X.prog X.w) (j+1) (frs X.stack) s1 (hidP P H1) g R:=by
  intro A outer s' H' Q' E' hr' e0 un hR'
  obtain⟨sl,hg'⟩:=un.any hob (zjb ng) (by simp)
  obtain⟨c2,oc,vs2,t,e2,hoc,hd,hv⟩:=hrec
  cases e2
  have nc:hidP P H1 c'=none:=by unfold hidP;rw[zafc hown];rfl
  obtain⟨sl2,hc'⟩:=un.any hoc nc (by simp)
  have ic:∀c v,s1.heap.IsCell c v->H1 c=none->s'.heap.IsCell c v:=λc v ⟨o,e,d⟩ n=>by
   obtain⟨sl,z⟩:=un.any e (zjb n) (by simp)
   exact⟨_,z,d⟩
  refine zaob (N:=NB) (vs:=vs) S hr' e0 hg' rfl ⟨c',_,vs2,t,rfl,hc',hd,hv⟩ (hbind _ _ _ _) ⟨λx y c z1 z2=>I1.ok.inj x y c (zie z1) (zie z2),fr,λx c z=>?_,λi x v e1 e2=>?_,lenV⟩ λrm=>⟨_,hB A outer s' H' E' g c' _ rm e0.hok,hR H' Q' E' hR'⟩
  ·obtain⟨⟨v,iv⟩,n⟩:=cellOf x c z
   refine⟨⟨v,ic c v iv n⟩,?_⟩
   obtain⟨o,e,_⟩:=iv
   exact un.free c o e (zjb n) (by simp)
  ·obtain⟨c,u,a1,a2,a3⟩:=val i x v e1 e2
   exact⟨c,u,a1,ic c _ a2 (cellOf x c a1).2,a3⟩
 have e0:=I1.env0
 have e0':Env0 X.prog X.w X.K X.mg X.base X.A X.stack s1 (hidP P H1):=⟨e0.frames,e0.mod,λb o z=>⟨(e0.bs b o z).1,zjb (e0.bs b o z).2⟩,e0.bsz,e0.funs,λb z=>zjb (e0.frf b z),zars hP1 e0.hok,e0.bare⟩
 refine qCG (qBc (T.run X.A X.stack s1 (hidP P H1) ⟨[.ref g],[]⟩ g R _ hr e0' (hb s1 [.ref g] I1.kIn rfl) ⟨_,_,_,_,hob⟩ (zjb ng) As hT) λres s' hq=>?_)
 cases res with
 | error e=>exact hq.elim
 | ok fl=>
  cases fl with
  | ret u=>
   obtain⟨v,H2,os,bare,un,ok,rv,q2⟩:=hq
   obtain⟨un',ok',hn⟩:=zajg hP1 I1.hok I1.stkFree un ok
   exact⟨v,_,I1.call' os un' ok' bare (λb z=>absurd z (by simp)),rv,q2 hn⟩
  | next=>exact False.elim hq
  | brk=>exact False.elim hq
  | cont=>exact False.elim hq
end
section
variable{P:Program}{w:World}{K:qB}{mg:Str->Option Value}{base:Heap}{N:List Str}{qual:Str}{scope:Scope}{f:Addr}{cd:Value}{cl:List (Str×Addr)}{A:Around}{outer:List Env}{s:Shared}{H:Hp}{E:XK}
theorem zaof{pins:List (Addr×Obj)}{σ:St}{H1:Hp}{s1:Shared}{e C dx:Addr}(I:Inv (ztc (CXE P w) P w K mg base N qual scope f cd cl A outer s H E) pins σ H1 s1)(h0k:HOk P w H s.heap)(F:Flt s.heap H1 e C dx)(q:StX H E (.ref C) (some dx) H1) :
  (ztc (CXE P w) P w K mg base N qual scope f cd cl A outer s H E).xe (.ref e) s1:=by
 refine zzq (X:=ztc (CXE P w) P w K mg base N qual scope f cd cl A outer s H E) I rfl rfl (λb ob z=>I.base.there b ob z (λy=>absurd (show b∈([]:List Addr)from y) (by simp))) F λs' H2 I2 ht hk hx _=>?_
 refine⟨e,C,dx,H2,rfl,I2.os,I2.bare,I2.base,I2.hok,⟨F.new,_,ht.choose_spec.1,.inr ⟨_,rfl,ht.choose_spec.2⟩⟩,λH3 r1 r2=>q H3 (λb o z1 z2=>?_) (λb o z n=>r2 b o (hx b o z n) n)⟩
 obtain⟨ob,y⟩:=(h0k b o z1).there
 exact r1 b o z1 (hk b o ob y z2)
theorem znl(h0k:HOk P w H s.heap):zrl (CXE P w) (ztc (CXE P w) P w K mg base N qual scope f cd cl A outer s H E) (StX H E):=by
 intro pins σ H1 s1 e s2 I h
 obtain⟨ea,C,dx,H2,rfl,os,bare,un,ok,F,q⟩:=h
 have I2:=I.call' (s':=s2) os un ok bare (λb z=>absurd z (by simp))
 have old:∀b ob,s.heap.get? b=some ob->∃o',s1.heap.get? b=some o':=λb ob z=>I.base.there b ob z (λy=>absurd (show b∈([]:List Addr)from y) (by simp))
 have nw:∀b,s1.heap.get? b=none->s.heap.get? b=none:=λb z=>by
  cases y:s.heap.get? b with
  | none=>rfl
  | some ob=>obtain⟨o',y'⟩:=old b ob y;rw[z]at y';cases y'
 refine zaof I2 h0k ⟨nw _ F.new,?_⟩ (q H2 (λ_ _ _ z=>z) (λ_ _ z _=>z))
 obtain⟨tv,a,b⟩:=F.st
 exact⟨tv,a,b.imp id λ⟨T,x1,x2,x3,x4⟩=>⟨T,x1,x2,nw _ x3,x4⟩⟩
end
end L2
namespace PySem
open Sem (wp)
open Builtin Builtin.ObjectAttr
section
variable{prog:Program}{w:World}{A:Around}{E:Value->Shared->Prop}{h:Heap}{g:Array GenState}{d:Drawn}{t:Nat}{os:OsState}
variable{nm q:Str}{C N x:Addr}{bs bm:List Value}{sn:List Str}{sub:List Value}{ab:Bool}{col:Option Bool}{dd:Option Addr}{k0 k1 k2 k3 k5:Option Value}{newId:String}{o:Obj}
theorem zaca {R:Result->Shared->Prop} (hr:zdw bm=true) (hC:h.get? C=some (excClassObj nm q C N bs bm true sn sub ab col dd k0 k1 k2 k3 k5 newId)) (hx:h.get? x=some o) (hc:o.cls=.ref C) (hq:R (.ok (.ret (.ref C))) ⟨h,g,d,t,os⟩) :
  codeAny (model prog w) A (.call (.builtin "getset_descriptor.__get__") ⟨[.builtin "object.__class__",.ref x,.ref C],[]⟩) R ⟨h,g,d,t,os⟩:=by
 have hT5:(⟨h,g,d,t,os⟩:Shared).TypeIs (.builtin "object.__class__") "getset_descriptor":=qCA
 have hcB:(Value.ref C::bm).contains (.type (".".intercalate ("object.__class__".cutAt '.').dropLast))=true:=by
  rw[F.owner_object_class,qAS,zdc (by decide) hr];rfl
 refine qBS qDF.plain F.entry_gs_get (qDF.check _ _ _ _ _ _ _ _ hT5 (F.args_gs_get _ _ _) ?_)
 repeat (any_goals (first|assumption|(with_reducible refine qi hx ?_;rw[hc])|(with_reducible refine qAh hC ?_;rw[hcB])|wp_step))
 refine⟨qCH _ (by decide +kernel),codeAny_builtin F.entry_object_class ?_⟩
 repeat (any_goals (first|assumption|(with_reducible refine qi hx ?_;rw[hc])|wp_step))
theorem zart{Q:Option Value->Shared->Prop}(hr:zdw bm=true)(hC:h.get? C=some (excClassObj nm q C N bs bm true sn sub ab col dd k0 k1 k2 k3 k5 newId))(hx:h.get? x=some o)(hc:o.cls=.ref C)
  (LG:W.Looks (model prog w) h (typeLookup (.ref C) "__getattribute__") (some (.builtin "BaseException.__getattribute__")))(LA:W.Looks (model prog w) h (typeLookup (.ref C) "__class__") (some (.builtin "object.__class__")))
  (LH:W.Looks (model prog w) h (typeLookup (.ref C) "__getattr__") none) (hq:Q (some (.ref C)) ⟨h,g,d,t+1,os⟩):wpAny (model prog w) A (getAttr? (.ref x) "__class__") Q E ⟨h,g,d,t,os⟩:=by
 have hk:builtinKind "BaseException.__getattribute__"=some .slot:=by decide +kernel
 have hsplit:splitId "BaseException.__getattribute__"=some ("BaseException","__getattribute__"):=by decide +kernel
 have hcB:(Value.ref C::bm).contains (.type "BaseException")=true:=by rw[qAS,zdc (by decide) hr,qAk]
 have hx2:(Value.builtin "BaseException.__getattribute__"==Value.builtin "object.__getattribute__")=false:=by decide +kernel
 have hx1:(onTheHeap (Value.ref C)&&Value.builtin "BaseException.__getattribute__"==Value.builtin "object.__getattribute__")=false:=by rw[hx2];rfl
 have FB:=F.attr_ValueError
 have f3:=FB.ga.bind (.ref x)
 have hT5:(⟨h,g,d,t+1,os⟩:Shared).TypeIs (.builtin "object.__class__") "getset_descriptor":=qCA
 have f5:=qCA
 have f6:=qDF.lookup
 have f7:=F.slot_gs_set.lookup
 unfold getAttr? getAttrBy? getAttrBy
 repeat (any_goals (first|assumption|(with_reducible refine qi hx ?_;rw[hc])|(with_reducible refine LG.here ?_)|(with_reducible refine LH.here ?_)|wp_step))
 refine qBS FB.ga.plain F.entry_bexc_ga ?_
 simp only[checkBuiltinCall,hk,hsplit]
 refine qC ?_
 unfold isInstance
 repeat (first|(with_reducible refine qi hx ?_;rw[hc])|(with_reducible refine qAh hC ?_;rw[hcB])|wp_step)
 repeat (any_goals (first|assumption|(with_reducible refine qi hx ?_;rw[hc])|(with_reducible refine LA.here ?_)|wp_step))
 refine zaca hr hC hx hc ?_
 repeat (any_goals (first|assumption|wp_step))
end
end PySem
namespace L2
open PySem PySem.Spec PyProof.Rows
section
variable{X:Cx}{C f:Addr}
theorem ztd{K:qB}{e C dx f:Addr}(M:XMk K C f)(ha:PySem.W.findIn K (.ref C) "__class__"=some (some (.builtin "object.__class__"))):PySem.W.KitX K (.ref e) (.ref C) (λh=>∃tv,xeD e C dx tv h) where
 ty:=λ_ _ _ ⟨_,_,_,a,_⟩=>(qCl a).andThen .now
 it:=λ_ _ X _=>by
  obtain⟨nm,qn,N,bs,bm,sn,sub,ab,col,dd,k0,k1,k2,k3,k5,hC,_⟩:=zjy X M.cls M.tail
  intro A' Q' E' s' k q
  unfold isType loadHead
  exact qC (wpAny_loadPart (k _ _ hC) (qI q))
 ne:=λh tp dd its n sl X htp=>by
  obtain⟨nm,qn,N,bs,bm,sn,sub,ab,col,dd,k0,k1,k2,k3,k5,hC,_⟩:=zjy X M.cls M.tail
  refine Bool.eq_false_iff.mpr λq=>?_
  have e:C=tp:=Value.ref.inj (beq_iff_eq.mp q)
  subst e
  have z:=congrArg Obj.cls (qZ (hC.symm.trans htp))
  unfold excClassObj at z
  injection z with z
  exact absurd z (by decide)
 ca:=λ{prog w A E Q s} X ⟨tv,vs,sl,a,_⟩ k=>by
  obtain⟨nm,qn,N,bs,bm,sn,sub,ab,col,dd,k0,k1,k2,k3,k5,hC,hbm,_⟩:=zjy X M.cls M.tail
  obtain⟨h,g,d,t,os⟩:=s
  exact zart hbm hC a rfl (qAd X M.ga) (qAd X ha) (qAd X M.gh) k
noncomputable def rIsX(K:qB)(C:Addr):List V->Hp->VK->Prop:=λxs H Q=>∃e dx tv b,H e=some (.ext (xeD e C dx tv))/\Q (.bl b) H/\
 ((∃c,xs=[.ref e,.ref c]/\PySem.W.kitOne K (.ref C) (.ref c)=some b)\/(∃n,xs=[.ref e,.ty n]/\PySem.W.kitOne K (.ref C) (.type n)=some b)\/∃p ys us,xs=[.ref e,.ref p]/\H p=some (.tup ys)/\(∀its,Vals ys its->its=us)/\PySem.W.kitAny K (.ref C) us=some b)
theorem zajj(M:XMk X.K C f)(ha:PySem.W.findIn X.K (.ref C) "__class__"=some (some (.builtin "object.__class__"))):CallR X (.builtin "isinstance") (rIsX X.K C):=by
 intro pins s σ H xs us Q I r h
 obtain⟨e,dx,tv,b,he,q,h⟩:=h
 have hx:=(I.hok e _ he).1
 rcases h with⟨c,rfl,kk⟩|⟨n,rfl,kk⟩|⟨p,ys,us',rfl,hp,hv,kk⟩
 ·obtain⟨u1,u2,rfl,r1,r2⟩:=zxs r
  cases r1
  cases r2
  exact qAa (ztd (dx:=dx) M ha) I.kIn ⟨tv,hx⟩ kk (λz=>nomatch z) λtk=>⟨.bl b,H,I.tok _,rfl,q⟩
 ·obtain⟨u1,u2,rfl,r1,r2⟩:=zxs r
  cases r1
  cases r2
  exact qAa (ztd (dx:=dx) M ha) I.kIn ⟨tv,hx⟩ kk (λz=>nomatch z) λtk=>⟨.bl b,H,I.tok _,rfl,q⟩
 ·obtain⟨u1,u2,rfl,r1,r2⟩:=zxs r
  cases r1
  cases r2
  obtain⟨_,its,vi,op,hop,ho1,n,ho2⟩:=I.hok p _ hp
  cases hv its vi
  obtain⟨oc,od,odt,osl⟩:=op
  cases ho1
  cases ho2
  exact PySem.W.kia_tup (ztd (dx:=dx) M ha) I.kIn ⟨tv,hx⟩ hop kk (λz=>nomatch z) λtk=>⟨.bl b,H,I.tok _,rfl,q⟩
end
theorem zaog{X:Cx}{x:Str}{C:Addr}{pos:Pos}(hg:Gl X x)(hm:X.mg x=some (.ref C))(hd:(x==("__debug__":Str))=false:=by decide):PE X (.Name x pos) (tC (.ref C)):=
 λ_ _ _ H _ I h=>zoz I hg hm ⟨.ref C,H,I,rfl,h⟩ hd
noncomputable def zaoh:Sl->Sl
 | .ac d=>.pl d
 | s=>s
noncomputable def envB(own:List Str)(fr:List Nat)(env:DEnv):DEnv:=own.map (λ_=>Sl.no)++fr.map (λj=>zaoh (env.getD j .no))
noncomputable def isAc:Option Sl->Bool
 | some (.ac _)=>true
 | _=>false
noncomputable def capA(fr:List Nat)(env:DEnv):List Nat:=fr.filter λj=>isAc env[j]?
theorem zte{own:List Str}{fr:List Nat}{env:DEnv}{i:Nat}{d:PyData}(e:(envB own fr env)[i]?=some (.pl d)):∃j k,i=own.length+k/\fr[k]?=some j/\(env[j]?=some (.pl d)\/env[j]?=some (.ac d)):=by
 unfold envB at e
 by_cases hi:i<own.length
 ·rw[qAN (by simpa using hi),qR,qH hi]at e
  cases e
 ·rw[qAU (by simpa using hi),qF,qR]at e
  cases ej:fr[i - own.length]? with
  | none=>rw[ej]at e;cases e
  | some j=>
   rw[ej]at e
   refine⟨j,i - own.length,by omega,ej,?_⟩
   have e:zaoh (env.getD j .no)=.pl d:=qZ e
   rw[qAA]at e
   cases ev:env[j]? with
   | none=>rw[ev]at e;cases e
   | some s=>
    rw[ev]at e
    cases s with
    | no=>cases e
    | pl d'=>cases e;exact .inl rfl
    | ac d'=>cases e;exact .inr rfl
theorem zjc{own:List Str}{fr:List Nat}{env:DEnv}{i:Nat}{d:PyData}:(envB own fr env)[i]?≠some (.ac d):=by
 intro e
 unfold envB at e
 by_cases hi:i<own.length
 ·rw[qAN (by simpa using hi),qR,qH hi]at e
  cases e
 ·rw[qAU (by simpa using hi),qF,qR]at e
  cases ej:fr[i - own.length]? with
  | none=>rw[ej]at e;cases e
  | some j=>
   rw[ej]at e
   have e:zaoh (env.getD j .no)=.ac d:=qZ e
   cases ev:env.getD j .no with
   | no=>rw[ev]at e;cases e
   | pl d'=>rw[ev]at e;cases e
   | ac d'=>rw[ev]at e;cases e
theorem zafh{own:List Str}{fr:List Nat}{σ:St}{k j:Nat}{v:V}(hk:fr[k]?=some j)(hv:σ[j]?=some (some v)):(tau own fr σ)[own.length+k]?=some (some v):=by
 unfold tau
 rw[qAU (by simp),qF,Nat.add_sub_cancel_left,qR,hk]
 show some (σ.getD j none)=_
 rw[qAA,hv];rfl
theorem zve{fx:Addr->Prop}{H0:Hp}{env:DEnv}{σ:St}{H H1:Hp}{p:Addr}(h:EnvOk fx H0 env σ H)(s:Same H H1)(hp:H1 p=none)(own:List Str)(fr:List Nat)(bs:List Nat) :
  EnvOk (λb=>lim fx env σ (bs++capA fr env) b\/b=p) H1 (envB own fr env) (tau own fr σ) (upd H1 p (.lst [])):=by
 have h1:=h.up s
 have sp:Same H1 (upd H1 p (.lst [])):=Same.new hp
 have so:Same (Offs (λb=>fx b\/L2.own env σ b) H1) (Offs (λb=>(lim fx env σ (bs++capA fr env) b\/b=p)\/L2.own (envB own fr env) (tau own fr σ) b) (upd H1 p (.lst []))):=Offs.mono sp λb o e n z=>by
  rcases z with(z|z)|⟨i,d,z,_⟩
  ·exact n (zph b z)
  ·rw[z,hp]at e;cases e
  ·exact absurd z zjc
 refine⟨?_,λi d e=>?_,λi d e=>absurd e zjc,λi j d e a z=>absurd z zjc,sp,λb z=>?_⟩
 ·unfold envB tau;simp
 ·obtain⟨j,k,rfl,hk,hj⟩:=zte e
  rcases hj with hj|hj
  ·obtain⟨v,h2,h3⟩:=h1.pl j d hj
   exact⟨v,zafh hk h2,Rp.same so _ h3⟩
  ·obtain⟨a,h2,h3,h4,h5⟩:=h1.ac j d hj
   refine⟨_,zafh hk h2,h5.rp so λo eo=>?_⟩
   rw[Offs.get]
   ·exact sp _ _ eo
   ·rintro((z|⟨i',d',z1,z2,z3⟩)|⟨i',d',z,_⟩)
    ·rcases z with z|⟨i',d',z1,z2,z3⟩
     ·exact h4 z
     ·have e2:=h1.inj i' j d' d a z2 hj z3 h2
      subst e2
      refine z1 (qb _ (qCb.mpr ⟨qAj hk,?_⟩))
      rw[hj];rfl
    ·rw[hp]at eo;cases eo
    ·exact absurd z zjc
 ·rcases z with z|z
  ·obtain⟨o,e⟩:=h1.lims _ b z;exact⟨o,sp b o e⟩
  ·rw[z];exact⟨_,zaq⟩
theorem EnvOk.weaken{fx:Addr->Prop}{H0:Hp}{env e1:DEnv}{σ:St}{H:Hp}(h:EnvOk fx H0 e1 σ H)(hl:env.length=e1.length)(hp:∀(i:Nat) (d:PyData),env[i]?=some (.pl d)->e1[i]?=some (.pl d))(ha:∀(i:Nat) (d:PyData),env[i]?≠some (.ac d)):EnvOk fx H0 env σ H:=by
 refine⟨hl.trans h.len,λi d e=>?_,λi d e=>absurd e (ha i d),λi j d e a z=>absurd z (ha i d),h.base,h.fxs⟩
 obtain⟨v,h1,h2⟩:=h.pl i d (hp i d e)
 exact⟨v,h1,Rp.same (Offs.sub λb z=>z.imp (λy=>y) λ⟨j,d',z,_⟩=>absurd z (ha j d')) _ h2⟩
theorem EnvOk.updFx{fx:Addr->Prop}{H0:Hp}{env:DEnv}{σ:St}{H:Hp}{p:Addr}{o:HO}(h:EnvOk fx H0 env σ H)(hp:fx p)(h0:H0 p=none):EnvOk fx H0 env σ (upd H p o):=by
 have so:Offs (λb=>fx b\/own env σ b) (upd H p o)=Offs (λb=>fx b\/own env σ b) H:=Offs.upd (.inl hp)
 refine⟨h.len,λi d e=>?_,λi d e=>?_,h.inj,λb u e=>by rw[zar (zbe e h0)];exact h.base b u e,λb z=>?_⟩
 ·rw[so];exact h.pl i d e
 ·obtain⟨a,h1,h2,h3,h4⟩:=h.ac i d e
  rw[so]
  exact⟨a,h1,h2,h3,h4.same (Same.refl _) λu z=>by rw[zar λy=>h3 (by rw[y];exact hp)];exact z⟩
 ·by_cases e:b=p
  ·rw[e];exact⟨_,zaq⟩
  ·obtain⟨u,hu⟩:=h.fxs b z
   exact⟨u,by rw[zar e];exact hu⟩
noncomputable def GX(n:Nat)(g:GT):Prop:=∀d env e1,g d env=some e1->e1.length=env.length/\∀i,n<=i->e1[i]?=env[i]?
noncomputable def GXs(n:Nat)(g:GTs):Prop:=∀ds env e1,g ds env=some e1->e1.length=env.length/\∀i,n<=i->e1[i]?=env[i]?
theorem zpp{n i:Nat}(h:i<n):GX n (gN i):=by
 intro d env e1 e
 cases e
 exact⟨qAH,λj hj=>qf (by omega)⟩
theorem ztf{n:Nat}:GXs n zja:=by
 intro ds env e1 e
 cases ds with
 | nil=>cases e;exact⟨rfl,λ_ _=>rfl⟩
 | cons _ _=>cases e
theorem zhu{n i:Nat}{g:GTs}(h:i<n)(hg:GXs n g):GXs n (zbu i g):=by
 intro ds env e1 e
 cases ds with
 | nil=>cases e
 | cons d ds=>
  obtain⟨h1,h2⟩:=hg ds _ e1 e
  rw[qAH]at h1
  exact⟨h1,λj hj=>(h2 j hj).trans (qf (by omega))⟩
theorem zaab{n m:Nat}{g:GTs}(hg:GXs n g):GX n (gT m g):=by
 intro d env e1 e
 unfold gT at e
 cases d with
 | tuple ds=>
  have e:(if ds.length=m then g ds env else none)=some e1:=e
  split at e
  ·exact hg ds env e1 e
  ·cases e
 | _=>cases e
noncomputable def zfc(g:GT)(t:TF)(e:EF)(env:DEnv):List PyData->Option (List PyData)
 | []=>some []
 | d::ds=>(g d env).bind λe1=>(t e1).bind λb=>if b=true then(e e1).bind λr=>(zfc g t e env ds).map λrs=>r.d::rs else zfc g t e env ds
noncomputable def zif(own:List Str)(fr:List Nat)(fi:IF')(g:GT)(t:TF)(e:EF):EF:=λenv=>(fi env).bind λz=>if z.1.length<100000 then
 (zfc g t e (envB own fr env) z.1).map λrs=>⟨.list rs,true,if zef rs=true then[]else z.2++capA fr env⟩else none
theorem zmo{H H':Hp}{ds:List PyData}{vs:List V}(f:zef ds=true)(h:Rps H ds vs):Rps H' ds vs:=by
 replace h:=zdl.mp h
 induction h with
 | nil=>exact zej
 | cons h _ ih=>
  unfold zef at f
  rw[qAy,qx]at f
  exact zdx (zpi f.1 h) (ih f.2)
theorem zjd{own:List Str}{fr:List Nat}{wi:TI}{g:TG}{tt:TT}{te:TE}{fi:IF'}{gf:GT}{t:TF}{e:EF}(h1:SI wi fi)(h2:SG g gf)(hx:GX own.length gf)(h3:ST tt t)(h4:SE te e) :
  SE (tComp1 wi g tt te own fr) (zif own fr fi gf t e):=by
 intro fx H0 env σ H h rr hr Q q
 unfold zif at hr
 obtain⟨⟨ds,bs⟩,ei,hr⟩:=qA.mp hr
 split at hr
 ·rename_i hlen
  have hlen:ds.length<100000:=hlen
  obtain⟨rs,ers,rfl⟩:=qG.mp hr
  refine h1 fx H0 env σ H h ds bs ei _ λJ H1 s yl=>λp hp=>?_
  have hB:=zve h s hp own fr bs
  generalize hA:(λb=>lim fx env σ (bs++capA fr env) b)=A
  have hA':∀b,lim fx env σ (bs++capA fr env) b↔A b:=λb=>by rw[<- hA]
  have eA:(λb=>lim fx env σ (bs++capA fr env) b\/b=p)=λb=>A b\/b=p:=by rw[<- hA]
  rw[eA]at hB
  have nA:¬A p:=λz=>by
   obtain⟨o,eo⟩:=(h.up s).lims _ p ((hA' p).mpr z)
   rw[hp]at eo;cases eo
  have seen:∀{σ':St}{H':Hp},EnvOk (λb=>A b\/b=p) H1 (envB own fr env) σ' H'->Same (Offs (λb=>fx b\/L2.own (frzs env bs) σ b) H1) (Offs (λb=>A b\/b=p) H'):=λ{σ' H'} hE=>Offs.mono hE.base λb o eo n z=>by
   rcases z with z|z
   ·rcases(hA' b).mpr z with z|⟨i,d,z1,z2,z3⟩
    ·exact n (.inl z)
    ·exact n (.inr ⟨i,d,zmk (λy=>z1 (qu _ y)) z2,z3⟩)
   ·rw[z,hp]at eo;cases eo
  refine⟨λi m σ' H'=>m=ds.length - i/\i<=ds.length/\∃vs done rest,H' p=some (.lst vs)/\Rps (Offs (λb=>A b\/b=p) H') done vs/\done.length<=i/\zfc gf t e (envB own fr env) (ds.drop i)=some rest/\done++rest=rs/\EnvOk (λb=>A b\/b=p) H1 (envB own fr env) σ' H',
   ⟨ds.length,rfl,qAv _,[],[],rs,zaq,zej,qAv _,ers,rfl,hB⟩,?_⟩
  rintro i m σ' H' ⟨rfl,hi,vs,done,rest,ep,rd,dl,ec,edr,hE⟩
  obtain⟨yi,ys⟩:=yl _ H' hE.fxs (seen hE)
  by_cases hlt:i<ds.length
  ·obtain⟨yg,yy⟩:=yi i ds[i] (qH hlt)
   refine .inr ⟨yg,λσ'' H''=>i+1<=ds.length/\∃vs done rest,H'' p=some (.lst vs)/\Rps (Offs (λb=>A b\/b=p) H'') done vs/\done.length<=i+1/\zfc gf t e (envB own fr env) (ds.drop (i+1))=some rest/\done++rest=rs/\EnvOk (λb=>A b\/b=p) H1 (envB own fr env) σ'' H'',?_,?_⟩
   ·rintro σ'' H'' ⟨hle,hh⟩
    exact⟨ds.length - (i+1),by omega,rfl,hle,hh⟩
   ·intro x H'' hy
    obtain⟨sy,ry⟩:=yy x H'' hy
    rw[qA6 hlt]at ec
    obtain⟨e1,ee1,ec⟩:=qA.mp ec
    obtain⟨b,eb,ec⟩:=qA.mp ec
    have ry':Rp (Offs (λa=>(A a\/a=p)\/L2.own (envB own fr env) σ' a) H'') ds[i] x:=Rp.same (Offs.sub λb z=>z.elim (λy=>y) λ⟨j,d',z,_⟩=>absurd z zjc) _ ry
    refine h2 _ H1 (envB own fr env) σ' H'' _ x (hE.up sy) ry' e1 ee1 _ λσ2 hE2=>?_
    refine h3 _ H1 e1 σ2 H'' hE2 b eb _ λH3 s3=>?_
    have hE3:=hE2.up s3
    obtain⟨gl,gk⟩:=hx _ _ _ ee1
    have back:∀{H4:Hp},EnvOk (λb=>A b\/b=p) H1 e1 σ2 H4->EnvOk (λb=>A b\/b=p) H1 (envB own fr env) σ2 H4:=λ{H4} hh=>hh.weaken gl.symm (λj d' ej=>by
     by_cases hj:own.length<=j
     ·rw[gk j hj];exact ej
     ·obtain⟨_,k,rfl,_⟩:=zte ej;omega) λj d'=>zjc
    cases b with
    | false=>
     have ec:zfc gf t e (envB own fr env) (ds.drop (i+1))=some rest:=ec
     exact iteF ⟨hlt,vs,done,rest,s3 _ _ (sy _ _ ep),Rps.same (Offs.grow (sy.trans s3)) _ rd,Nat.le_succ_of_le dl,ec,edr,back hE3⟩
    | true=>
     have ec:((e e1).bind λr=>(zfc gf t e (envB own fr env) (ds.drop (i+1))).map λrs=>r.d::rs)=some rest:=ec
     obtain⟨r,er,ec⟩:=qA.mp ec
     obtain⟨rest',er',rfl⟩:=qG.mp ec
     refine iteT (h4 _ H1 e1 σ2 H3 hE3 r er _ λv H4 s4 hv=>?_)
     have t4:=(sy.trans s3).trans s4
     refine⟨vs,t4 _ _ ep,zpj (by rw[<- rd.length];omega),hlt,vs++[v],done++[r.d],rest',zaq,?_,by rw[qM];simp;omega,er',by rw[<- edr];simp,(back (hE3.up s4)).updFx (.inr rfl) hp⟩
     rw[Offs.upd (.inr rfl)]
     exact(Rps.same (Offs.grow t4) _ rd).append (zdx (Rp.same (Offs.sub λb z=>.inl z) _ hv.rp) zej)
  ·have hi':i=ds.length:=by omega
   subst hi'
   rw[qBP]at ec
   cases ec
   rw[qAB]at edr
   subst edr
   refine .inl ⟨ys,q _ H' (s.trans hE.base) ⟨?_,λ_=>⟨p,rfl,s.free hp,?_⟩⟩⟩
   ·show Rp (Offs (lim fx env σ (if zef done=true then[]else bs++capA fr env)) H') (.list done) (.ref p)
    have nl:∀cs,¬lim fx env σ cs p:=λcs z=>by
     obtain⟨o,eo⟩:=(h.up s).lims _ p z
     rw[hp]at eo;cases eo
    refine zic (by rw[Offs.get (nl _)];exact ep) ?_
    split
    ·rename_i f;exact zmo f rd
    ·exact Rps.same (Offs.sub λb z=>.inl ((hA' b).mp z)) _ rd
   ·show zhp (Offs (λb=>lim fx env σ (if zef done=true then[]else bs++capA fr env) b\/b=p) H') H' p (.list done)
    refine⟨vs,ep,?_⟩
    split
    ·rename_i f;exact zmo f rd
    ·exact Rps.same (Offs.sub λb z=>z.imp (hA' b).mp id) _ rd
 ·cases hr
section
variable{X:Cx}{K:qB}
theorem zafi(hK:X.K=K){a:Expr}{ta:TE}(ha:PE X a ta)(he:∀whole,isTrue a X.env whole=(do let v <- whole;standAt a.pos;holding [v] (truthy v))) :
  PT X a (λσ H Q=>ta σ H λx H'=>∃k,TruV K x H' k/\Q k H'):=by subst hK;exact zaia ha he
theorem zhe(hK:X.K=K):CallR X (.type "tuple") (λxs H Q=>∃p ys,xs=[.ref p]/\((SqL K H p ys/\∀l,H l=none->Q (.ref l) (upd H l (.tup ys)))\/(SqT K H p ys/\Q (.ref p) H))):=by subst hK;exact zss
theorem zlf(hK:X.K=K)(hu:X.A.units+64<cLine):OpR X (compareOp .Eq) (λx y H Q=>rEq x y H Q\/rEqD K false x y H Q):=by subst hK;exact zatf.or (zarc hu)
theorem zkf(hK:X.K=K)(hu:X.A.units+64<cLine):OpR X (compareOp .NotEq) (λx y H Q=>rNe x y H Q\/rEqD K true x y H Q):=by subst hK;exact zatg.or (zard hu)
noncomputable def zfd:TF:=λ_=>some true
theorem zkg:ST tAll zfd:=by
 intro fx H0 env σ H hE b hb Q q
 cases hb
 exact q H (Same.refl _)
noncomputable def rIsC(neg:Bool):R2:=λx y H Q=>∃b,y=.bl b/\Q (.bl (if neg then !decide (x=y)else decide (x=y))) H
theorem zafj{x:V}{v:Value}{b:Bool}(r:RelV x v):(v==Value.bool b)=decide (x=.bl b):=by
 cases x with
 | non=>cases r;rfl
 | bl c=>cases r;cases b<;>cases c<;>rfl
 | int _=>obtain⟨t,rfl⟩:=r;rfl
 | str _=>obtain⟨t,rfl⟩:=r;rfl
 | byt _=>obtain⟨t,rfl⟩:=r;rfl
 | flt _=>obtain⟨t,rfl⟩:=r;rfl
 | ref _=>cases r;rfl
 | ty _=>cases r;rfl
theorem zacb{x:V}{v:Value}{b:Bool}(r:RelV x v):plainIs v (.bool b)=true:=by
 cases x with
 | non=>cases r;rfl
 | bl c=>cases r;rfl
 | int _=>obtain⟨t,rfl⟩:=r;rfl
 | str _=>obtain⟨t,rfl⟩:=r;rfl
 | byt _=>obtain⟨t,rfl⟩:=r;rfl
 | flt _=>obtain⟨t,rfl⟩:=r;rfl
 | ref _=>cases r;rfl
 | ty _=>cases r;rfl
theorem zaru:OpR X (compareOp .Is) (rIsC false):=by
 intro pins s σ H x y v u Q I rx ry h
 obtain⟨b,rfl,q⟩:=h
 cases ry
 exact wpAny_is_plain (zacb rx) ⟨.bl _,H,I,by rw[zafj rx];rfl,q⟩
noncomputable def isB:PyData->Bool->Bool
 | .bool c,b=>c==b
 | _,_=>false
noncomputable def isCD(neg:Bool):OF:=λd e=>match e with
 | .bool b=>some (.bool (if neg then !isB d b else isB d b),false)
 | _=>none
theorem zatv{H:Hp}{d:PyData}{v:V}{b:Bool}(h:Rp H d v):decide (v=.bl b)=isB d b:=by
 cases d with
 | list ds=>obtain⟨a,xs,rfl,_⟩:=zfe h;rfl
 | tuple ds=>obtain⟨a,xs,rfl,_⟩:=zcr h;rfl
 | dict ds=>obtain⟨a,xs,rfl,_⟩:=zne h;rfl
 | bool c=>cases ziz h;exact zzi
 | _=>unfold Rp at h;subst h;rfl
theorem zatw{neg:Bool}:SO (rIsC neg) (isCD neg):=by
 intro A H x y dx dy hA rx ry d fr e Q q
 unfold isCD at e
 split at e
 ·cases e
  cases ziz ry
  refine⟨_,rfl,?_⟩
  rw[zatv rx]
  exact q _ H (Same.refl _) zam (λz=>by cases z)
 ·cases e
noncomputable def eNeg(a:EF):EF:=λenv=>(a env).bind λx=>match x.d with|.int i=>some ⟨.int (-i),false,[]⟩|_=>none
theorem zvf{te:TE}{f:EF}(h1:SE te f):SE (tUn (rU λi=>.int (-i)) te) (eNeg f):=by
 intro fx H0 env σ H h rr hr Q q
 unfold eNeg at hr
 obtain⟨⟨d,fr,bs⟩,ex,hr⟩:=qA.mp hr
 cases d with
 | int i=>
  cases hr
  exact h1 fx H0 env σ H h _ ex _ λv H1 s1 v1=>⟨i,zev v1.rp,q _ H1 s1 ⟨zae,λz=>by cases z⟩⟩
 | _=>cases hr
end
end L2
namespace PySem
open Sem (wp)
end PySem
namespace L2
open PySem PySem.Spec PyProof.Rows
noncomputable def zalu:List PyData->Option (List (PyData×PyData))
 | []=>some []
 | .tuple [k,v]::r=>(keyD k).bind λ_=>(zalu r).map λps=>(k,v)::ps
 | _=>none
noncomputable def zauk:GF
 | [.list rows]=>(zalu rows).map λps=>(.dict (zlr [] ps),true)
 | _=>none
noncomputable def zhf(i j:Nat)(f:EF):SF:=λenv=>match env[i]?,env[j]? with
 | some (.ac (.list ds)),some (.ac (.list es))=>(f env).bind λr=>match r.d with
  | .int k=>if 0<=k/\k<100000/\ds.length<100000/\i≠j then(es[k.toNat]?).bind λd=>some (.nx ((env.set j (.ac (.list (es.eraseIdx k.toNat)))).set i (.ac (.list (ds++[d])))))else none
  | _=>none
 | _,_=>none
theorem Rps.erase{H:Hp}{ds:List PyData}{vs:List V}(h:Rps H ds vs)(n:Nat):Rps H (ds.eraseIdx n) (vs.eraseIdx n):=by
 induction n generalizing ds vs with
 | zero=>
  cases ds with
  | nil=>unfold Rps at h;subst h;exact zej
  | cons d ds=>unfold Rps at h;obtain⟨v,ws,rfl,h1,h2⟩:=h;exact h2
 | succ n ih=>
  cases ds with
  | nil=>unfold Rps at h;subst h;exact zej
  | cons d ds=>unfold Rps at h;obtain⟨v,ws,rfl,h1,h2⟩:=h;exact zdx h1 (ih h2)
theorem zvg{K:qB}{i j:Nat}{te:TE}{f:EF}(h1:SE te f):SS (tDrop (tBM K "list" zxu (tVar i) (tCons (tBM K "list" zali (tVar j) (tCons te tNil)) tNil))) (zhf i j f):=by
 intro fx H0 env σ H D h o e q
 unfold zhf at e
 split at e
 ·rename_i ds es ei ej
  obtain⟨⟨rd,rfr,rbs⟩,er,e⟩:=qA.mp e
  cases rd with
  | int k=>
   have e:(if 0<=k/\k<100000/\ds.length<100000/\i≠j then(es[k.toNat]?).bind λd=>some (Out.nx ((env.set j (.ac (.list (es.eraseIdx k.toNat)))).set i (.ac (.list (ds++[d])))))else none)=some o:=e
   split at e
   ·rename_i hl
    obtain⟨d,ed,e⟩:=qA.mp e
    cases e
    obtain⟨a,g1,g2,g3,g4⟩:=h.ac i _ ei
    obtain⟨xs,hx,rx⟩:=g4
    obtain⟨b,k1,k2,k3,k4⟩:=h.ac j _ ej
    obtain⟨ys,hy,ry⟩:=k4
    have hab:a≠b:=λz=>hl.2.2.2 (h.inj i j _ _ a ei ej g1 (by rw[z];exact k1))
    refine⟨_,g1,.inl ⟨rfl,_,SqL.of hx⟩,_,k1,.inl ⟨rfl,_,SqL.of hy⟩,h1 fx H0 env σ H h _ er _ λv H' s hv=>?_⟩
    cases zev hv.rp
    have h':=h.up s
    have hy':=s _ _ hy
    have hx':=s _ _ hx
    have ry':Rps (Offs (λb=>fx b\/own env σ b) H') es ys:=Rps.same (Offs.grow s) _ ry
    have rx':Rps (Offs (λb=>fx b\/own env σ b) H') ds xs:=Rps.same (Offs.grow s) _ rx
    obtain⟨u,hu,ru⟩:=ry'.get2 ed
    have hlt:k.toNat<ys.length:=(qU.mp hu).1
    have hsq:seqIndex? k ys.length=some k.toNat:=seqIndex_of hl.1 (by omega)
    refine⟨b,ys,k,k.toNat,u,rfl,rfl,hy',by omega,by omega,hsq,hu,?_⟩
    have h2:=h'.mut ej k1 (d':=.list (es.eraseIdx k.toNat)) (o:=.lst (ys.eraseIdx k.toNat)) ⟨_,zaq,ry'.erase _⟩
    have ei2:(env.set j (.ac (.list (es.eraseIdx k.toNat))))[i]?=some (.ac (.list ds)):=by rw[qf (qAo hl.2.2.2)];exact ei
    have hx2:(upd H' b (.lst (ys.eraseIdx k.toNat))) a=some (.lst xs):=by rw[zar hab];exact hx'
    obtain⟨a',z1,_,_,z4⟩:=h2.ac i _ ei2
    rw[g1]at z1
    cases z1
    obtain⟨zs,y1,y2⟩:=z4
    rw[hx2]at y1
    cases y1
    have ow:Same (Offs (λb=>fx b\/own env σ b) H') (Offs (λc=>fx c\/own (env.set j (.ac (.list (es.eraseIdx k.toNat)))) σ c) (upd H' b (.lst (ys.eraseIdx k.toNat)))):=by
     have t:Same (Offs (λb=>fx b\/own env σ b) (upd H' b (.lst (ys.eraseIdx k.toNat)))) (Offs (λc=>fx c\/own (env.set j (.ac (.list (es.eraseIdx k.toNat)))) σ c) (upd H' b (.lst (ys.eraseIdx k.toNat)))):=Offs.sub λc z=>z.imp (λy=>y) λ⟨m,d1,w1,w2⟩=>by
      rcases zcf w1 with⟨rfl,_⟩|⟨_,w1⟩
      ·exact⟨m,_,ej,w2⟩
      ·exact⟨m,d1,w1,w2⟩
     rw[Offs.upd (.inr ⟨j,_,ej,k1⟩)]at t
     exact t
    refine⟨a,xs,u,rfl,rfl,hx2,zpj (by rw[<- rx.length];exact hl.2.2.1),?_⟩
    exact q σ _ (h2.mut ei2 g1 ⟨_,zaq,y2.append (zdx (Rp.same ow _ ru) zej)⟩)
   ·cases e
  | _=>cases e
 ·cases e
noncomputable def zcc(i:Nat)(b:EF):EF:=λenv=>match env[i]? with
 | some (.pl (.dict kvs))=>(b env).bind λy=>(keyD y.d).bind λk=>(zmi kvs k).bind λd=>some ⟨d,false,[]⟩
 | some (.ac (.dict kvs))=>(b env).bind λy=>(keyD y.d).bind λk=>(zmi kvs k).bind λd=>some ⟨d,false,[]⟩
 | _=>none
theorem zje{i:Nat}{ty:TE}{fb:EF}(hb:SE ty fb):SE (tDGet (tVar i) ty) (zcc i fb):=by
 intro fx H0 env σ H h rr hr Q q
 unfold zcc at hr
 have key:∀(a:Addr)(ps:List (Key×V))(kvs:List (PyData×PyData)),σ[i]?=some (some (.ref a))->H a=some (.dK ps)->Rpd (Offs (λb=>fx b\/own env σ b) H) kvs ps->((fb env).bind λy=>(keyD y.d).bind λk=>(zmi kvs k).bind λd=>some (⟨d,false,[]⟩:Val))=some rr->tDGet (tVar i) ty σ H Q:=by
  intro a ps kvs hs ha r hr
  obtain⟨y,ey,hr⟩:=qA.mp hr
  obtain⟨k,ek,hr⟩:=qA.mp hr
  obtain⟨d,ed,hr⟩:=qA.mp hr
  cases hr
  refine⟨_,hs,hb fx H0 env σ H h _ ey _ λu H2 s2 v2=>?_⟩
  have g:=(Rpd.same (Offs.grow s2) _ r).get (j:=k)
  rw[ed]at g
  obtain⟨w,e1,e2⟩:=g
  rw[zajc v2.rp ek]
  have dg:=DGet.k (k:=k) (s2 _ _ ha)
  rw[e1]at dg
  exact⟨a,w,rfl,dg,q w H2 s2 ⟨Rp.same (Offs.sub zph) _ e2,λz=>by cases z⟩⟩
 split at hr
 ·rename_i kvs ei
  obtain⟨v,h1,h2⟩:=h.pl i _ ei
  obtain⟨a,ps,rfl,ha,r⟩:=zne h2
  exact key a ps kvs h1 (zdj ha) r hr
 ·rename_i kvs ei
  obtain⟨a,h1,h2,h3,ps,ha,r⟩:=h.ac i _ ei
  exact key a ps kvs h1 ha r hr
 ·cases hr
noncomputable def eIxV(i:Nat)(b:EF):EF:=λenv=>match env[i]? with
 | some (.ac (.list ds))=>(b env).bind λy=>match y.d with
  | .int k=>(atI ds k).map λd=>⟨d,false,[]⟩
  | _=>none
 | _=>eOp ixD (eVar i) b env
theorem zbw{K:qB}{i:Nat}{tb:TE}{fb:EF}(hb:SE tb fb):SE (tOp (rIxU K) (tVar i) tb) (eIxV i fb):=by
 intro fx H0 env σ H h rr hr Q q
 unfold eIxV at hr
 split at hr
 ·rename_i ds ei
  obtain⟨⟨dy,fy,bys⟩,ey,hr⟩:=qA.mp hr
  cases dy with
  | int k=>
   obtain⟨d,ed,rfl⟩:=qG.mp hr
   obtain⟨a,h1,h2,h3,xs,ha,r⟩:=h.ac i _ ei
   refine⟨_,h1,hb fx H0 env σ H h _ ey _ λu H2 s2 v2=>?_⟩
   cases zev v2.rp
   obtain⟨v,hv,rv⟩:=(Rps.same (Offs.grow s2) _ r).atI ed
   exact⟨xs,v,.inl (SqL.of (s2 _ _ ha)),hv,q _ H2 s2 ⟨Rp.same (Offs.sub zph) _ rv,λz=>by cases z⟩⟩
  | _=>cases hr
 ·exact zau zajb (zac i) hb fx H0 env σ H h rr hr Q q
noncomputable def zafk(wi:TI)(g:TG)(tt:TT)(tm:TM):TM:=λσ H Q=>wi σ H λJ H1=>zaik J g tt tm σ H1 Q
section
variable{X:Cx}
theorem zyi{M:Model}{P:Program}{w:World}{A:Around}{R:Result->Shared->Prop}{s:Shared}{elt:Expr}{g0:Comprehension}{target iter:Expr}{ifs:List Expr}{rest:List Comprehension}{scope:Scope}{cpos:Pos}{it acc:Value}{env:Env}
  (l:codeAny (model P w) A (.compLoop (.ListComp elt (g0::⟨target,iter,ifs,0⟩::rest) scope cpos) 1 it acc env) R s)
  (t:∀(A:Around) (E:Value->Shared->Prop),wpAny (model P w) A (pyIter it) (λu s'=>u=it/\s'=s) E s) :
  codeAny (model P w) A (.compStart (.ListComp elt (g0::⟨target,iter,ifs,0⟩::rest) scope cpos) 1 it acc env) R s:=by
 refine codeAny_of_tree ?_
 show wpAny _ _ ((compStart (.ListComp elt (g0::⟨target,iter,ifs,0⟩::rest) scope cpos) 1 it acc env).onRaise (λx=>do noteFrame x env;standAt theWindowsPlace)) _ _ s
 refine wpAny_notedAt ?_
 unfold compStart
 show wpAny _ _ (ask >>=_) _ _ s
 refine qC (wpAny_askSetting (wpAny_ite ?_))
 split
 ·first
   | exact qC (qI (qI (And.intro rfl l)))
   | exact qI (And.intro rfl l)
 ·refine qC (qCe ?_)
  first
   | exact qC (qBe (qC (thn (t _ _) λu s' z=>by obtain⟨e1,e2⟩:=z;subst e1;subst e2;exact qI (And.intro rfl l))))
   | (show wpAny _ _ (standAt iter.pos >>=_) _ _ s;exact qC (qBe (qC (thn (t _ _) λu s' z=>by obtain⟨e1,e2⟩:=z;subst e1;subst e2;exact qI (And.intro rfl l)))))
theorem zajk{elt0:Expr}{g0:Comprehension}{scope:Scope}{cpos:Pos}{target iter:Expr}{ifs:List Expr}{wi:TI}{g:TG}{tt:TT}{te:TE}{p:Addr}
  (hx:X.xe=λ_ _=>False)(hc:X.calm=true)(hi:PI X target iter wi)(hg:PG X target g)(ht:PF X ifs tt)(he:PE X elt0 te)
  (hs:∀x,foldedSetIterable iter X.env x=pure x) :
  PM X (do
   let x <- eval iter X.env
   standAt iter.pos
   let x <- foldedSetIterable iter X.env x
   let _ <- runOwn (.compStart (.ListComp elt0 [g0,⟨target,iter,ifs,0⟩] scope cpos) 1 (<- holding [x] (pyIter x)) (.ref p) X.env) X.env) (zafk wi g tt (zabx p te)):=by
 intro pins s σ H Q I h
 refine qC (thn (hi pins s σ H _ I h) λv s1 h1=>?_)
 refine qC (qBe ?_)
 rw[hs]
 refine qC (qI (qC (qCV (thn h1 λitv s2 h2=>?_))))
 obtain⟨it,fp,tn,J,H2,e,I2,T,st2,f2,q⟩:=h2
 subst e
 refine qC (thn (wpAny_runOwn (h:=none) (Q:=λ_ s'=>∃σ' H',Inv X pins σ' H' s'/\Q σ' H') ?_) λ_ _ z=>qI z)
 refine zyi (M:=model X.prog X.w) ?_ λA E=>T.self A 0 s2 _ E st2 ⟨rfl,rfl⟩
 refine qBc (zpe (X:=X) (pins:=pins) hx hc (elt0:=elt0) (gens:=[g0,⟨target,iter,ifs,0⟩]) (depth:=1) (ip:=iter.pos) (emit:=(do let _ <- call (.builtin "list.append") [.ref p,<- eval elt0 X.env])) rfl T hg ht (zxx he) I2 st2 f2 q) λr s5 hr=>?_
 obtain⟨rfl,z⟩:=hr
 exact z
theorem zatx(elt target iter target2 iter2:Expr)(ifs ifs2:List Expr)(scope:Scope)(cpos:Pos)(it acc:Value)(env:Env) :
  compTurn (.ListComp elt [⟨target,iter,ifs,0⟩,⟨target2,iter2,ifs2,0⟩] scope cpos) 0 it acc env=(do
   standAt iter.pos
   match <- pyNext it with
   | none=>pure (.done .next)
   | some v=>
    letOwnedTupleGo target it v
    assign target env v
    let mut ok:=true
    for c in ifs do
     if ok then ok <- isTrue c env (eval c env)
    if ok then do
     let x <- eval iter2 env
     standAt iter2.pos
     let x <- foldedSetIterable iter2 env x
     let i <- holding [x] (pyIter x)
     let _ <- runOwn (.compStart (.ListComp elt [⟨target,iter,ifs,0⟩,⟨target2,iter2,ifs2,0⟩] scope cpos) 1 i acc env) env
     again (.compLoop (.ListComp elt [⟨target,iter,ifs,0⟩,⟨target2,iter2,ifs2,0⟩] scope cpos) 0 it acc env)
    else again (.compLoop (.ListComp elt [⟨target,iter,ifs,0⟩,⟨target2,iter2,ifs2,0⟩] scope cpos) 0 it acc env)):=rfl
noncomputable def tComp2(wi:TI)(g:TG)(tt:TT)(wi2:TI)(g2:TG)(tt2:TT)(te:TE)(own:List Str)(fr:List Nat):TE:=zail wi g tt (λp=>zafk wi2 g2 tt2 (zabx p te)) own fr
theorem zajl{scope:Scope}{N' own:List Str}{fr:List Nat}{elt target iter target2 iter2:Expr}{ifs ifs2:List Expr}{cpos:Pos}{wi wi2:TI}{g g2:TG}{tt tt2:TT}{te:TE}(c:CompOk X scope N' own fr)(hc:X.calm=true)(hi:PI X target iter wi)
  (hb:∀(cl:List (Str×Addr)) (C:Addr) (s:Shared) (H:Hp) (fp:List Addr),PG (cxComp X scope N' own cl C s H fp) target g/\PF (cxComp X scope N' own cl C s H fp) ifs tt/\PI (cxComp X scope N' own cl C s H fp) target2 iter2 wi2/\PG (cxComp X scope N' own cl C s H fp) target2 g2/\PF (cxComp X scope N' own cl C s H fp) ifs2 tt2/\PE (cxComp X scope N' own cl C s H fp) elt te)
  (hs:∀x,foldedSetIterable iter X.env x=pure x:=by intro _;rfl)(hs2:∀env x,foldedSetIterable iter2 env x=pure x:=by intro _ _;rfl) :
  PE X (.ListComp elt [⟨target,iter,ifs,0⟩,⟨target2,iter2,ifs2,0⟩] scope cpos) (tComp2 wi g tt wi2 g2 tt2 te own fr):=
 zzp (emit:=λacc env=>do
   let x <- eval iter2 env
   standAt iter2.pos
   let x <- foldedSetIterable iter2 env x
   let _ <- runOwn (.compStart (.ListComp elt [⟨target,iter,ifs,0⟩,⟨target2,iter2,ifs2,0⟩] scope cpos) 1 (<- holding [x] (pyIter x)) acc env) env) c hc (λit acc env=>by
   rw[zatx]
   refine bind_congr λ_=>bind_congr λr=>?_
   cases r with
   | none=>rfl
   | some v=>
    refine bind_congr λ_=>bind_congr λ_=>bind_congr λok=>?_
    cases ok with
    | false=>rfl
    | true=>simp only[if_true,bind_assoc,pure_bind]) hi
  (λcl C s H fp p=>let⟨h1,h2,h3,h4,h5,h6⟩:=hb cl C s H fp;⟨h1,h2,zajk (X:=cxComp X scope N' own cl C s H fp) rfl hc h3 h4 h5 h6 (λx=>hs2 _ x)⟩) hs
end
noncomputable def NoAc(env:DEnv):Prop:=∀(i:Nat)(d:PyData),env[i]?≠some (.ac d)
noncomputable def GZ(lo hi:Nat)(g:GT):Prop:=∀d env e1,g d env=some e1->e1.length=env.length/\(∀i,(i<lo\/hi<=i)->e1[i]?=env[i]?)/\(NoAc env->NoAc e1)
theorem zajm{env:DEnv}{i:Nat}{d:PyData}(h:NoAc env):NoAc (env.set i (.pl d)):=by
 intro j d' e
 by_cases q:i=j
 ·subst q
  by_cases l:i<env.length
  ·rw[qAI l]at e;cases e
  ·rw[qC6 (by simp;omega)]at e;cases e
 ·rw[qf q]at e;exact h j d' e
theorem zafl{lo hi i:Nat}(h:lo<=i)(h':i<hi):GZ lo hi (gN i):=by
 intro d env e1 e
 cases e
 exact⟨qAH,λj hj=>qf (by omega),zajm⟩
theorem zpq{g:GT}{t:TF}{e:EF}{env:DEnv}:∀{ds rs:List PyData},zfc g t e env ds=some rs->rs.length<=ds.length
 | [],rs,h=>by cases h;exact qL _
 | d::ds,rs,h=>by
  unfold zfc at h
  obtain⟨e1,_,h⟩:=qA.mp h
  obtain⟨b,_,h⟩:=qA.mp h
  split at h
  ·obtain⟨r,_,h⟩:=qA.mp h
   obtain⟨rs',h',rfl⟩:=qG.mp h
   have:=zpq h'
   simp;omega
  ·have:=zpq h
   simp;omega
noncomputable def innL(f2:IF')(g2:GT)(t2:TF)(e:EF)(e1:DEnv):Option (List PyData):=(f2 e1).bind λz=>if z.1.length<300 then zfc g2 t2 e e1 z.1 else none
noncomputable def zkh(g:GT)(t:TF)(f2:IF')(g2:GT)(t2:TF)(e:EF)(env:DEnv):List PyData->Option (List PyData)
 | []=>some []
 | d::ds=>(g d env).bind λe1=>(t e1).bind λb=>if b=true then(innL f2 g2 t2 e e1).bind λr1=>(zkh g t f2 g2 t2 e env ds).map λrs=>r1++rs else zkh g t f2 g2 t2 e env ds
noncomputable def zvh(own:List Str)(fr:List Nat)(fi:IF')(g:GT)(t:TF)(f2:IF')(g2:GT)(t2:TF)(e:EF):EF:=λenv=>(fi env).bind λz=>if z.1.length<300 then
 (zkh g t f2 g2 t2 e (envB own fr env) z.1).map λrs=>⟨.list rs,true,if zef rs=true then[]else z.2++capA fr env⟩else none
theorem zajn{wi2:TI}{g2:TG}{tt2:TT}{te:TE}{f2:IF'}{gf2:GT}{t2:TF}{e:EF}{B:Addr->Prop}{H1:Hp}{e1:DEnv}{σ:St}{H:Hp}{p:Addr}{vs:List V}{done rest ds:List PyData}{bs:List Nat}{Q:St->Hp->Prop}{k n:Nat}
  (h5:SI wi2 f2)(h6:SG g2 gf2)(hy:GZ k n gf2)(h7:ST tt2 t2)(h4:SE te e)(na:NoAc e1)(no:∀(i:Nat) (d:PyData),k<=i->i<n->e1[i]?≠some (.pl d))
  (hB:B p)(hp:H1 p=none)(hE:EnvOk B H1 e1 σ H)(ep:H p=some (.lst vs))(rd:Rps (Offs B H) done vs)(ei:f2 e1=some (ds,bs))(dl:done.length+ds.length<100000)(ec:zfc gf2 t2 e e1 ds=some rest)
  (q:∀σ' H' vs',H' p=some (.lst vs')->Rps (Offs B H') (done++rest) vs'->EnvOk B H1 e1 σ' H'->Q σ' H'):zafk wi2 g2 tt2 (zabx p te) σ H Q:=by
 refine h5 B H1 e1 σ H hE ds bs ei _ λJ H4 s4 yl=>?_
 have hE4:=hE.up s4
 have n4:Offs (λb=>b=p) H4 p=none:=Offs.out rfl
 refine⟨λi m σ' H'=>m=ds.length - i/\i<=ds.length/\∃vs done' rest',H' p=some (.lst vs)/\Rps (Offs B H') done' vs/\done'.length<=done.length+i/\zfc gf2 t2 e e1 (ds.drop i)=some rest'/\done'++rest'=done++rest/\EnvOk B (Offs (λb=>b=p) H4) e1 σ' H',
  ⟨ds.length,rfl,qAv _,vs,done,rest,s4 _ _ ep,Rps.same (Offs.grow s4) _ rd,qL _,ec,rfl,⟨hE4.len,hE4.pl,λi d z=>absurd z (na i d),hE4.inj,Offs.same _ _,hE4.fxs⟩⟩,?_⟩
 rintro i m σ' H' ⟨rfl,hi,vs,done',rest',ep',rd',dl',ec',edr,hE'⟩
 obtain⟨yi,ys⟩:=yl B H' hE'.fxs λb o z=>by
  obtain⟨z1,z2⟩:=Offs.of z
  have hb:¬B b:=λy=>z1 (.inl y)
  rw[Offs.get hb]
  exact hE'.base b o (by rw[Offs.get λy=>hb (by rw[y];exact hB)];exact z2)
 by_cases hlt:i<ds.length
 ·obtain⟨yg,yy⟩:=yi i ds[i] (qH hlt)
  refine .inr ⟨yg,λσ'' H''=>i+1<=ds.length/\∃vs done' rest',H'' p=some (.lst vs)/\Rps (Offs B H'') done' vs/\done'.length<=done.length+(i+1)/\zfc gf2 t2 e e1 (ds.drop (i+1))=some rest'/\done'++rest'=done++rest/\EnvOk B (Offs (λb=>b=p) H4) e1 σ'' H'',?_,?_⟩
  ·rintro σ'' H'' ⟨hle,hh⟩
   exact⟨ds.length - (i+1),by omega,rfl,hle,hh⟩
  ·intro x H'' hyx
   obtain⟨sy,ry⟩:=yy x H'' hyx
   rw[qA6 hlt]at ec'
   obtain⟨e2,ee2,ec'⟩:=qA.mp ec'
   obtain⟨b,eb,ec'⟩:=qA.mp ec'
   have ry':Rp (Offs (λa=>B a\/L2.own e1 σ' a) H'') ds[i] x:=Rp.same (Offs.sub λb z=>z.elim (λy=>y) λ⟨j,d',z,_⟩=>absurd z (na _ _)) _ ry
   refine h6 _ _ e1 σ' H'' _ x (hE'.up sy) ry' e2 ee2 _ λσ2 hE2=>?_
   refine h7 _ _ e2 σ2 H'' hE2 b eb _ λH3 s3=>?_
   have hE3:=hE2.up s3
   obtain⟨gl,gk,_⟩:=hy _ _ _ ee2
   have back:∀{H4':Hp},EnvOk B (Offs (λb=>b=p) H4) e2 σ2 H4'->EnvOk B (Offs (λb=>b=p) H4) e1 σ2 H4':=λ{H4'} hh=>hh.weaken gl.symm (λj d' ej=>by
    by_cases hj:j<k\/n<=j
    ·rw[gk j hj];exact ej
    ·exact absurd ej (no j d' (by omega) (by omega))) na
   cases b with
   | false=>
    have ec':zfc gf2 t2 e e1 (ds.drop (i+1))=some rest':=ec'
    exact iteF ⟨hlt,vs,done',rest',s3 _ _ (sy _ _ ep'),Rps.same (Offs.grow (sy.trans s3)) _ rd',Nat.le_succ_of_le dl',ec',edr,back hE3⟩
   | true=>
    have ec':((e e2).bind λr=>(zfc gf2 t2 e e1 (ds.drop (i+1))).map λrs=>r.d::rs)=some rest':=ec'
    obtain⟨r,er,ec'⟩:=qA.mp ec'
    obtain⟨rest2,er',rfl⟩:=qG.mp ec'
    refine iteT (h4 _ _ e2 σ2 H3 hE3 r er _ λv H5 s5 hv=>?_)
    have t5:=(sy.trans s3).trans s5
    refine⟨vs,t5 _ _ ep',zpj (by rw[<- rd'.length];omega),hlt,vs++[v],done'++[r.d],rest2,zaq,?_,by rw[qM];simp;omega,er',by rw[<- edr];simp,(back (hE3.up s5)).updFx hB n4⟩
    rw[Offs.upd hB]
    refine(Rps.same (Offs.grow t5) _ rd').append (zdx (Rp.same (Offs.sub λb z=>.inl z) _ hv.rp) zej)
 ·have hi':i=ds.length:=by omega
  subst hi'
  rw[qBP]at ec'
  cases ec'
  rw[qAB]at edr
  subst edr
  exact .inl ⟨ys,q σ' H' vs ep' rd' ⟨hE'.len,hE'.pl,λi d z=>absurd z (na i d),hE'.inj,λb o z=>hE'.base b o (by rw[Offs.get λy=>by rw[y,hp]at z;cases z];exact s4 b o (hE.base b o z)),hE'.fxs⟩⟩
theorem zajo{own:List Str}{fr:List Nat}{env:DEnv}{i:Nat}(h:i<own.length):(envB own fr env)[i]?=some .no:=by
 unfold envB
 rw[qAN (by simpa using h),qR,qH h];rfl
theorem zajp{own:List Str}{fr:List Nat}{wi wi2:TI}{g g2:TG}{tt tt2:TT}{te:TE}{fi f2:IF'}{gf gf2:GT}{t t2:TF}{e:EF}{k:Nat}(h1:SI wi fi)(h2:SG g gf)(hx:GZ 0 k gf)(hk:k<=own.length)(h3:ST tt t)
  (h5:SI wi2 f2)(h6:SG g2 gf2)(hy:GZ k own.length gf2)(h7:ST tt2 t2)(h4:SE te e) :
  SE (tComp2 wi g tt wi2 g2 tt2 te own fr) (zvh own fr fi gf t f2 gf2 t2 e):=by
 intro fx H0 env σ H h rr hr Q q
 unfold zvh at hr
 obtain⟨⟨ds,bs⟩,ei,hr⟩:=qA.mp hr
 split at hr
 ·rename_i hlen
  have hlen:ds.length<300:=hlen
  obtain⟨rs,ers,rfl⟩:=qG.mp hr
  refine h1 fx H0 env σ H h ds bs ei _ λJ H1 s yl=>λp hp=>?_
  have hB:=zve h s hp own fr bs
  generalize hA:(λb=>lim fx env σ (bs++capA fr env) b)=A
  have hA':∀b,lim fx env σ (bs++capA fr env) b↔A b:=λb=>by rw[<- hA]
  have eA:(λb=>lim fx env σ (bs++capA fr env) b\/b=p)=λb=>A b\/b=p:=by rw[<- hA]
  rw[eA]at hB
  have seen:∀{σ':St}{H':Hp},EnvOk (λb=>A b\/b=p) H1 (envB own fr env) σ' H'->Same (Offs (λb=>fx b\/L2.own (frzs env bs) σ b) H1) (Offs (λb=>A b\/b=p) H'):=λ{σ' H'} hE=>Offs.mono hE.base λb o eo n z=>by
   rcases z with z|z
   ·rcases(hA' b).mpr z with z|⟨i,d,z1,z2,z3⟩
    ·exact n (.inl z)
    ·exact n (.inr ⟨i,d,zmk (λy=>z1 (qu _ y)) z2,z3⟩)
   ·rw[z,hp]at eo;cases eo
  refine⟨λi m σ' H'=>m=ds.length - i/\i<=ds.length/\∃vs done rest,H' p=some (.lst vs)/\Rps (Offs (λb=>A b\/b=p) H') done vs/\done.length<=i * 300/\zkh gf t f2 gf2 t2 e (envB own fr env) (ds.drop i)=some rest/\done++rest=rs/\EnvOk (λb=>A b\/b=p) H1 (envB own fr env) σ' H',
   ⟨ds.length,rfl,qAv _,[],[],rs,zaq,zej,qAv _,ers,rfl,hB⟩,?_⟩
  rintro i m σ' H' ⟨rfl,hi,vs,done,rest,ep,rd,dl,ec,edr,hE⟩
  obtain⟨yi,ys⟩:=yl _ H' hE.fxs (seen hE)
  by_cases hlt:i<ds.length
  ·obtain⟨yg,yy⟩:=yi i ds[i] (qH hlt)
   refine .inr ⟨yg,λσ'' H''=>i+1<=ds.length/\∃vs done rest,H'' p=some (.lst vs)/\Rps (Offs (λb=>A b\/b=p) H'') done vs/\done.length<=(i+1) * 300/\zkh gf t f2 gf2 t2 e (envB own fr env) (ds.drop (i+1))=some rest/\done++rest=rs/\EnvOk (λb=>A b\/b=p) H1 (envB own fr env) σ'' H'',?_,?_⟩
   ·rintro σ'' H'' ⟨hle,hh⟩
    exact⟨ds.length - (i+1),by omega,rfl,hle,hh⟩
   ·intro x H'' hyx
    obtain⟨sy,ry⟩:=yy x H'' hyx
    rw[qA6 hlt]at ec
    obtain⟨e1,ee1,ec⟩:=qA.mp ec
    obtain⟨b,eb,ec⟩:=qA.mp ec
    have ry':Rp (Offs (λa=>(A a\/a=p)\/L2.own (envB own fr env) σ' a) H'') ds[i] x:=Rp.same (Offs.sub λb z=>z.elim (λy=>y) λ⟨j,d',z,_⟩=>absurd z zjc) _ ry
    refine h2 _ H1 (envB own fr env) σ' H'' _ x (hE.up sy) ry' e1 ee1 _ λσ2 hE2=>?_
    refine h3 _ H1 e1 σ2 H'' hE2 b eb _ λH3 s3=>?_
    have hE3:=hE2.up s3
    obtain⟨gl,gk,gn⟩:=hx _ _ _ ee1
    have na:NoAc e1:=gn λ_ _=>zjc
    have back:∀{σ4:St}{H4:Hp},EnvOk (λb=>A b\/b=p) H1 e1 σ4 H4->EnvOk (λb=>A b\/b=p) H1 (envB own fr env) σ4 H4:=λ{σ4 H4} hh=>hh.weaken gl.symm (λj d' ej=>by
     by_cases hj:own.length<=j
     ·rw[gk j (.inr (by omega))];exact ej
     ·obtain⟨_,k,rfl,_⟩:=zte ej;omega) λj d'=>zjc
    cases b with
    | false=>
     have ec:zkh gf t f2 gf2 t2 e (envB own fr env) (ds.drop (i+1))=some rest:=ec
     exact iteF ⟨hlt,vs,done,rest,s3 _ _ (sy _ _ ep),Rps.same (Offs.grow (sy.trans s3)) _ rd,by omega,ec,edr,back hE3⟩
    | true=>
     have ec:((innL f2 gf2 t2 e e1).bind λr1=>(zkh gf t f2 gf2 t2 e (envB own fr env) (ds.drop (i+1))).map λrs=>r1++rs)=some rest:=ec
     obtain⟨r1,er,ec⟩:=qA.mp ec
     obtain⟨rest',er',rfl⟩:=qG.mp ec
     obtain⟨⟨ds2,bs2⟩,e2,er⟩:=qA.mp er
     split at er
     ·rename_i hl2
      have hl2:ds2.length<300:=hl2
      have l2:=zpq er
      refine iteT (zajn (B:=λb=>A b\/b=p) (p:=p) (vs:=vs) (done:=done) h5 h6 hy h7 h4 na (λj d' h8 h9 ej=>?_) (.inr rfl) hp hE3 (s3 _ _ (sy _ _ ep)) (Rps.same (Offs.grow (sy.trans s3)) _ rd) e2 (by omega) er λσ5 H5 vs5 ep5 rd5 hE5=>?_)
      ·rw[gk j (.inr h8),zajo h9]at ej;cases ej
      ·have l2':r1.length<=ds2.length:=l2
       exact⟨hlt,vs5,done++r1,rest',ep5,rd5,by rw[qM];omega,er',by rw[<- edr,qAX],back hE5⟩
     ·cases er
  ·have hi':i=ds.length:=by omega
   subst hi'
   rw[qBP]at ec
   cases ec
   rw[qAB]at edr
   subst edr
   refine .inl ⟨ys,q _ H' (s.trans hE.base) ⟨?_,λ_=>⟨p,rfl,s.free hp,?_⟩⟩⟩
   ·show Rp (Offs (lim fx env σ (if zef done=true then[]else bs++capA fr env)) H') (.list done) (.ref p)
    have nl:∀cs,¬lim fx env σ cs p:=λcs z=>by
     obtain⟨o,eo⟩:=(h.up s).lims _ p z
     rw[hp]at eo;cases eo
    refine zic (by rw[Offs.get (nl _)];exact ep) ?_
    split
    ·rename_i f;exact zmo f rd
    ·exact Rps.same (Offs.sub λb z=>.inl ((hA' b).mp z)) _ rd
   ·show zhp (Offs (λb=>lim fx env σ (if zef done=true then[]else bs++capA fr env) b\/b=p) H') H' p (.list done)
    refine⟨vs,ep,?_⟩
    split
    ·rename_i f;exact zmo f rd
    ·exact Rps.same (Offs.sub λb z=>z.imp (hA' b).mp id) _ rd
 ·cases hr
end L2
namespace PySem
open Sem (wp)
end PySem
namespace L2
open PySem PySem.Spec PyProof.Rows
instance memKey (k:Key) (l:List Key):Decidable (k∈l):=decidable_of_iff (∃x,x∈l/\x=k) ⟨λ⟨x,h,e⟩=>e▸h,λh=>⟨k,h,rfl⟩⟩
end L2
namespace PySem
open Sem (wp)
noncomputable def SqIt(b:Bool)(h:Heap)(it l:Addr)(i:Nat):Prop:=match b with
 | true=>h.IsListIter it l i
 | false=>h.IsTupleIter it l i
noncomputable def zfm(b:Bool)(h:Heap)(l:Addr)(xs:Array Value):Prop:=match b with
 | true=>h.IsList l xs
 | false=>h.IsTuple l xs
theorem SqIt.moved{b:Bool}{h h':Heap}{it l:Addr}{i:Nat}(x:SqIt b h it l i)(e:∀o,h.get? it=some o->h'.get? it=some o):SqIt b h' it l i:=by
 cases b with
 | true=>obtain⟨o,q,r⟩:=x;exact⟨o,e o q,r⟩
 | false=>obtain⟨o,q,r⟩:=x;exact⟨o,e o q,r⟩
theorem zfm.moved{b:Bool}{h h':Heap}{l:Addr}{xs:Array Value}(x:zfm b h l xs)(e:∀o,h.get? l=some o->h'.get? l=some o):zfm b h' l xs:=by
 cases b with
 | true=>obtain⟨o,q,r⟩:=x;exact⟨o,e o q,r⟩
 | false=>obtain⟨o,q,r⟩:=x;exact⟨o,e o q,r⟩
theorem SqIt.at{b:Bool}{h h':Heap}{it l:Addr}{i:Nat}(x:SqIt b h it l i)(e:∀o,h.get? it=some o->h'.get? it=some o):SqIt b h' it l i:=x.moved e
theorem SqIt.extBut{b:Bool}{h h':Heap}{it l c:Addr}{i:Nat}(x:SqIt b h it l i)(s:Heap.ExtBut c h h')(n:it≠c):SqIt b h' it l i:=x.moved λo e=>s _ o n e
theorem zfm.extBut{b:Bool}{h h':Heap}{l c:Addr}{xs:Array Value}(x:zfm b h l xs)(s:Heap.ExtBut c h h')(n:l≠c):zfm b h' l xs:=x.moved λo e=>s _ o n e
theorem SqIt.obj{b:Bool}{h:Heap}{it l:Addr}{i:Nat}(x:SqIt b h it l i):∃o,h.get? it=some o/\∀v,o.data≠.cell v:=by
 cases b with
 | true=>obtain⟨o,q,_,r⟩:=x;exact⟨o,q,λv z=>by rw[r]at z;cases z⟩
 | false=>obtain⟨o,q,_,r⟩:=x;exact⟨o,q,λv z=>by rw[r]at z;cases z⟩
section
variable{prog:Program}{w:World}{A:Around}{E:Value->Shared->Prop}{s:Shared}
theorem ztg{it l:Addr}{i:Nat}{items}{x:Value}{Q:Value->Shared->Prop}(hit:s.heap.IsTupleIter it l i)
  (hl:s.heap.IsTuple l items)(hx:items[i]?=some x)
  (hQ:∀h',h'.IsTupleIter it l (i+1)->Heap.SameBut it s.heap h'->Q x {s with heap:=h'}) :
  wpAny (model prog w) A (q0 (.ref it)) Q E s:=by
 obtain⟨o,ho,hc,hd⟩:=id hit
 obtain⟨ol,hol,_,nl,hdl⟩:=hl
 unfold q0
 refine qC (qAm (name:=Str.ofString "__next__") hit.typeIs qBN
  (qBF qBN hit.typeIs qCx ?_ (qCp _)))
 show wpAny _ _ (field (.ref it) 0 >>=_) _ _ s
 refine qC (qAW ho hd (x:=.ref l) rfl ?_)
 show wpAny _ _ (if(Value.ref l==Value.none)=true then _ else _) _ _ s
 rw[if_neg (show ¬((Value.ref l==Value.none)=true)from qP)]
 show wpAny _ _ (field (.ref it) 1 >>=_) _ _ s
 refine qC (qAW ho hd (x:=.int i 0) rfl ?_)
 show wpAny _ _ (seqItems? (.ref l) >>=_) _ _ s
 refine qC (qBG hol hdl ?_)
 simp only[qBB,hx]
 refine qC (qBV ho hd (by simp) (qI ⟨x,rfl,qI (hQ _ ?_ (qCc ..))⟩))
 exact⟨_,qAr _ ho (qA5 (qAf hd _)),(Obj.cls_mapFields ..).trans hc,by
  rw[qAf hd];simp[rawInt]⟩
theorem zvi{it l:Addr}{i:Nat}{items}{Q:Value->Shared->Prop}(hh:A.handled=none)
  (hit:s.heap.IsTupleIter it l i)(hl:s.heap.IsTuple l items)(hx:items[i]?=none)
  (hE:∀h' e,Heap.ExtBut it s.heap h'->(∃o,h'.get? e=some o/\o.cls=.type "StopIteration")->E (.ref e) {s with heap:=h'}) :
  wpAny (model prog w) A (q0 (.ref it)) Q E s:=by
 obtain⟨o,ho,hc,hd⟩:=id hit
 obtain⟨ol,hol,_,nl,hdl⟩:=hl
 unfold q0
 refine qC (qAm (name:=Str.ofString "__next__") hit.typeIs qBN
  (qBF qBN hit.typeIs qCx ?_ (qCp _)))
 show wpAny _ _ (field (.ref it) 0 >>=_) _ _ s
 refine qC (qAW ho hd (x:=.ref l) rfl ?_)
 show wpAny _ _ (if(Value.ref l==Value.none)=true then _ else _) _ _ s
 rw[if_neg (show ¬((Value.ref l==Value.none)=true)from qP)]
 show wpAny _ _ (field (.ref it) 1 >>=_) _ _ s
 refine qC (qAW ho hd (x:=.int i 0) rfl ?_)
 show wpAny _ _ (seqItems? (.ref l) >>=_) _ _ s
 refine qC (qBG hol hdl ?_)
 simp only[qBB,hx]
 refine qC (qCe (qC (qBV ho hd (by simp) ?_)))
 show wpAny _ _ (newExc (.type "StopIteration") [] >>=_) _ _ _
 refine qC ?_
 simp only[newExc,newTuple]
 refine qC (qA2 ?_ (by size_fits))
 refine qC (m:=firstArgMember _ _) (wpAny_of_eq (a:=Value.none) (by first|rfl|(simp only[firstArgMember];rfl)) ?_)
 refine qA2 ?_ (by size_fits)
 simp only[raiseNew]
 refine qC (wpAny_handled ?_)
 first|rw[show A.in1.handled=none from hh]|rw[hh]
 refine qC (qI (wpAny_throw ?_))
 exact hE _ _ (((qCc ..).extBut.push _).push _) ⟨_,qa _ rfl,rfl⟩
theorem zth{b:Bool}{it l:Addr}{i:Nat}{xs:Array Value}{x:Value}{Q:Value->Shared->Prop}(hit:SqIt b s.heap it l i)(hl:zfm b s.heap l xs)(hx:xs[i]?=some x)
  (hQ:∀h',SqIt b h' it l (i+1)->Heap.SameBut it s.heap h'->Q x {s with heap:=h'}):wpAny (model prog w) A (q0 (.ref it)) Q E s:=by
 cases b with
 | true=>exact wpAny_nextOf_list_item hit hl hx hQ
 | false=>exact ztg hit hl hx hQ
theorem zaac{b:Bool}{it l:Addr}{i:Nat}{xs:Array Value}{Q:Value->Shared->Prop}(hh:A.handled=none)(hit:SqIt b s.heap it l i)(hl:zfm b s.heap l xs)(hx:xs[i]?=none)
  (hE:∀h' e,Heap.ExtBut it s.heap h'->(∃o,h'.get? e=some o/\o.cls=.type "StopIteration")->E (.ref e) {s with heap:=h'}):wpAny (model prog w) A (q0 (.ref it)) Q E s:=by
 cases b with
 | true=>exact wpAny_nextOf_list_end hh hit hl hx hE
 | false=>exact zvi hh hit hl hx hE
theorem zacc{b1 b2:Bool}{z TI TO i1 i2 l1 l2:Addr}{k1 k2:Nat}{xs ys:Array Value}{x y a b:Value}{Q:Value->Shared->Prop}(D:ZipApart z TI TO i1 i2 l1 l2)
  (hz:IsZip s.heap z TI TO .none)(hTI:IsPair s.heap TI (.ref i1) (.ref i2))(hTO:IsPair s.heap TO a b)
  (h1:SqIt b1 s.heap i1 l1 k1)(h2:SqIt b2 s.heap i2 l2 k2)(hl1:zfm b1 s.heap l1 xs)(hl2:zfm b2 s.heap l2 ys)(hx:xs[k1]?=some x)(hy:ys[k2]?=some y)
  (hQ:∀h',IsZip h' z TI TO (rawInt s.heap.objs.size)->IsPair h' TO x y->SqIt b1 h' i1 l1 (k1+1)->SqIt b2 h' i2 l2 (k2+1)->IsPair h' s.heap.objs.size x y->h'.objs.size=s.heap.objs.size+1->
   (∀c o,c≠z->c≠TO->c≠i1->c≠i2->s.heap.get? c=some o->h'.get? c=some o)->Q (.ref s.heap.objs.size) {s with heap:=h'}) :
  wpAny (model prog w) A (Builtin.«zip.__next__» ⟨[.ref z],[]⟩) (λfin s'=>∃v,fin=.done (.ret v)/\Q v s') E s:=by
 show wpAny _ _ (field (.ref z) 2 >>=_) _ _ _
 refine qC (qAW hz rfl (x:=.bool false) rfl ?_)
 show wpAny _ _ (field (.ref z) 3 >>=_) _ _ _
 refine qC (qAW hz rfl (x:=.ref TI) rfl ?_)
 refine qC (qBG hTI rfl ?_)
 show wpAny _ _ (Builtin.SmallTypes.ownedTupleIsFree (.ref z) >>=_) _ _ _
 refine qC ?_
 unfold Builtin.SmallTypes.ownedTupleIsFree
 refine qC (qAW hz rfl (x:=.none) rfl (qI ?_))
 simp only[if_true]
 refine qC (qCe ?_)
 refine qC (qAW hz rfl (x:=.ref TO) rfl ?_)
 refine qC (qBJ hz (by simp) λh₁ hz₁ hs₁=>?_)
 replace hz₁:IsZip h₁ z TI TO .ellipsis:=hz₁
 refine qC ?_
 simp only[qCS,List.zipIdx_nil,qB5,List.forIn_nil]
 refine qC (qC (qB6 ?_))
 show wpAny _ _ (q0 (.ref i1) >>=_) _ _ _
 refine qC (zth (h1.extBut hs₁.extBut D.i1z) (hl1.extBut hs₁.extBut D.l1z) hx λh₂ h1₂ hs₂=>qI ?_)
 have hTO₂:IsPair h₂ TO a b:=hs₂.extBut _ _ D.TOi1 (hs₁.extBut _ _ D.TOz hTO)
 refine qC (qBG hTO₂ rfl ?_)
 refine qC (qCK hTO₂ λh₃ hTO₃ hs₃=>?_)
 replace hTO₃:IsPair h₃ TO x b:=hTO₃
 refine qC (wpAny_letGo (qI ?_))
 refine qC (qC (qB6 ?_))
 show wpAny _ _ (q0 (.ref i2) >>=_) _ _ _
 refine qC (zth (((h2.extBut hs₁.extBut D.i2z).extBut hs₂.extBut D.i12.symm).extBut hs₃.extBut D.TOi2.symm)
  (((hl2.extBut hs₁.extBut D.l2z).extBut hs₂.extBut D.l2i1).extBut hs₃.extBut D.l2TO) hy λh₄ h2₄ hs₄=>qI ?_)
 have hTO₄:IsPair h₄ TO x b:=hs₄.extBut _ _ D.TOi2 hTO₃
 refine qC (qBG hTO₄ rfl ?_)
 refine qC (qCK hTO₄ λh₅ hTO₅ hs₅=>?_)
 replace hTO₅:IsPair h₅ TO x y:=hTO₅
 refine qC (wpAny_letGo (qI (qI ?_)))
 refine qC (qBG hTO₅ rfl ?_)
 refine qC (wpAny_newTuple ?_)
 have hsz:h₅.objs.size=s.heap.objs.size:=by rw[hs₅.1,hs₄.1,hs₃.1,hs₂.1,hs₁.1]
 have hz₅:IsZip h₅ z TI TO .ellipsis:=hs₅.extBut _ _ D.TOz.symm (hs₄.extBut _ _ D.i2z.symm (hs₃.extBut _ _ D.TOz.symm (hs₂.extBut _ _ D.i1z.symm hz₁)))
 have hk₅:∀c o,c≠z->c≠TO->c≠i1->c≠i2->s.heap.get? c=some o->h₅.get? c=some o:=λc o c1 c2 c3 c4 e=>
  hs₅.extBut _ _ c2 (hs₄.extBut _ _ c4 (hs₃.extBut _ _ c2 (hs₂.extBut _ _ c3 (hs₁.extBut _ _ c1 e))))
 have h1₅:SqIt b1 h₅ i1 l1 (k1+1):=((h1₂.extBut hs₃.extBut D.TOi1.symm).extBut hs₄.extBut D.i12).extBut hs₅.extBut D.TOi1.symm
 have h2₅:SqIt b2 h₅ i2 l2 (k2+1):=h2₄.extBut hs₅.extBut D.TOi2.symm
 have hzlt:z<h₅.objs.size:=qJ hz₅
 have hTOlt:TO<h₅.objs.size:=qJ hTO₅
 have hi1lt:i1<h₅.objs.size:=by obtain⟨_,e,_⟩:=h1₅.obj;exact qJ e
 have hi2lt:i2<h₅.objs.size:=by obtain⟨_,e,_⟩:=h2₅.obj;exact qJ e
 show wpAny _ _ (Builtin.SmallTypes.ownedTupleHandOut (.ref z) (.ref h₅.objs.size) >>=_) _ _ _
 refine qC ?_
 unfold Builtin.SmallTypes.ownedTupleHandOut
 have hz₆:IsZip (h₅.push {cls:=.type "tuple",data:=.seq #[x,y]}) z TI TO .ellipsis:=qD _ hz₅
 refine qC (qBJ hz₆ (by simp) λh₇ hz₇ hs₇=>?_)
 replace hz₇:IsZip h₇ z TI TO (rawInt h₅.objs.size):=hz₇
 refine qBJ hz₇ (by simp) λh₈ hz₈ hs₈=>?_
 replace hz₈:IsZip h₈ z TI TO (rawInt h₅.objs.size):=hz₈
 have up:∀c o,c≠z->h₅.get? c=some o->h₈.get? c=some o:=λc o c1 e=>hs₈.extBut _ _ c1 (hs₇.extBut _ _ c1 (qD _ e))
 have hT₈:IsPair h₈ h₅.objs.size x y:=hs₈.extBut _ _ (qBU hzlt) (hs₇.extBut _ _ (qBU hzlt) (qa _ rfl))
 have hz8:h₈.objs.size=h₅.objs.size+1:=by rw[hs₈.1,hs₇.1,qAz]
 rw[hsz]at hz₈ hT₈ hz8
 refine qI ⟨_,rfl,?_⟩
 show Q (.ref h₅.objs.size) _
 rw[hsz]
 exact hQ h₈ hz₈ (up _ _ D.TOz hTO₅) (h1₅.at λo e=>up _ o D.i1z e) (h2₅.at λo e=>up _ o D.i2z e) hT₈ hz8 λc o c1 c2 c3 c4 e=>up c o c1 (hk₅ c o c1 c2 c3 c4 e)
theorem zafm{b1 b2:Bool}{z TI TO i1 i2 l1 l2:Addr}{k1 k2:Nat}{xs ys:Array Value}{a b:Value}{Q:Fin->Shared->Prop}(hh:A.handled=none)(D:ZipApart z TI TO i1 i2 l1 l2)
  (hz:IsZip s.heap z TI TO .none)(hTI:IsPair s.heap TI (.ref i1) (.ref i2))(hTO:IsPair s.heap TO a b)
  (h1:SqIt b1 s.heap i1 l1 k1)(h2:SqIt b2 s.heap i2 l2 k2)(hl1:zfm b1 s.heap l1 xs)(hl2:zfm b2 s.heap l2 ys)(hend:xs[k1]?=none\/ys[k2]?=none)
  (hE:∀h' e,(∀c o,c≠z->c≠TO->c≠i1->c≠i2->s.heap.get? c=some o->h'.get? c=some o)->(∃o,h'.get? e=some o/\o.cls=.type "StopIteration")->E (.ref e) {s with heap:=h'}) :
  wpAny (model prog w) A (Builtin.«zip.__next__» ⟨[.ref z],[]⟩) Q E s:=by
 show wpAny _ _ (field (.ref z) 2 >>=_) _ _ _
 refine qC (qAW hz rfl (x:=.bool false) rfl ?_)
 show wpAny _ _ (field (.ref z) 3 >>=_) _ _ _
 refine qC (qAW hz rfl (x:=.ref TI) rfl ?_)
 refine qC (qBG hTI rfl ?_)
 show wpAny _ _ (Builtin.SmallTypes.ownedTupleIsFree (.ref z) >>=_) _ _ _
 refine qC ?_
 unfold Builtin.SmallTypes.ownedTupleIsFree
 refine qC (qAW hz rfl (x:=.none) rfl (qI ?_))
 simp only[if_true]
 refine qC (qCe ?_)
 refine qC (qAW hz rfl (x:=.ref TO) rfl ?_)
 refine qC (qBJ hz (by simp) λh₁ hz₁ hs₁=>?_)
 replace hz₁:IsZip h₁ z TI TO .ellipsis:=hz₁
 refine qC ?_
 simp only[qCS,List.zipIdx_nil,qB5,List.forIn_nil]
 refine qC (qC (qB6 ?_))
 show wpAny _ _ (q0 (.ref i1) >>=_) _ _ _
 cases hx:xs[k1]? with
 | none=>
  refine qC (zaac hh (h1.extBut hs₁.extBut D.i1z) (hl1.extBut hs₁.extBut D.l1z) hx λh₂ e hs₂ he=>?_)
  obtain⟨oe,hoe,hce⟩:=he
  have hz₂:IsZip h₂ z TI TO .ellipsis:=hs₂ _ _ D.i1z.symm hz₁
  have hez:e≠z:=λx=>by subst x;rw[hz₂]at hoe;cases hoe;simp at hce
  refine qBJ hz₂ (by simp) λh₃ _ hs₃=>hE h₃ e (λc o c1 _ c3 _ x=>hs₃.extBut _ _ c1 (hs₂ _ _ c3 (hs₁.extBut _ _ c1 x))) ⟨oe,hs₃.extBut _ _ hez hoe,hce⟩
 | some x=>
  have hy:ys[k2]?=none:=by rcases hend with h|h;rw[hx]at h;cases h;exact h
  refine qC (zth (h1.extBut hs₁.extBut D.i1z) (hl1.extBut hs₁.extBut D.l1z) hx λh₂ h1₂ hs₂=>qI ?_)
  have hTO₂:IsPair h₂ TO a b:=hs₂.extBut _ _ D.TOi1 (hs₁.extBut _ _ D.TOz hTO)
  refine qC (qBG hTO₂ rfl ?_)
  refine qC (qCK hTO₂ λh₃ hTO₃ hs₃=>?_)
  refine qC (wpAny_letGo (qI ?_))
  refine qC (qC (qB6 ?_))
  show wpAny _ _ (q0 (.ref i2) >>=_) _ _ _
  refine qC (zaac hh (((h2.extBut hs₁.extBut D.i2z).extBut hs₂.extBut D.i12.symm).extBut hs₃.extBut D.TOi2.symm)
   (((hl2.extBut hs₁.extBut D.l2z).extBut hs₂.extBut D.l2i1).extBut hs₃.extBut D.l2TO) hy λh₄ e hs₄ he=>?_)
  obtain⟨oe,hoe,hce⟩:=he
  have hz₄:IsZip h₄ z TI TO .ellipsis:=hs₄ _ _ D.i2z.symm (hs₃.extBut _ _ D.TOz.symm (hs₂.extBut _ _ D.i1z.symm hz₁))
  have hez:e≠z:=λx=>by subst x;rw[hz₄]at hoe;cases hoe;simp at hce
  refine qBJ hz₄ (by simp) λh₅ _ hs₅=>hE h₅ e (λc o c1 c2 c3 c4 x=>hs₅.extBut _ _ c1 (hs₄ _ _ c4 (hs₃.extBut _ _ c2 (hs₂.extBut _ _ c3 (hs₁.extBut _ _ c1 x))))) ⟨oe,hs₅.extBut _ _ hez hoe,hce⟩
structure ZipAt(b1 b2:Bool)(h:Heap)(z TI TO i1 i2 l1 l2:Addr)(f0:Value)(k:Nat):Prop where
 z:IsZip h z TI TO f0
 ti:IsPair h TI (.ref i1) (.ref i2)
 to:∃a b,IsPair h TO a b
 i1:SqIt b1 h i1 l1 k
 i2:SqIt b2 h i2 l2 k
theorem zafn{b1 b2:Bool}{z TI TO i1 i2 l1 l2:Addr}{k:Nat}{xs ys:Array Value}{x y:Value}{Q:Value->Shared->Prop}(D:ZipApart z TI TO i1 i2 l1 l2)
  (hz:ZipAt b1 b2 s.heap z TI TO i1 i2 l1 l2 .none k)(hl1:zfm b1 s.heap l1 xs)(hl2:zfm b2 s.heap l2 ys)(hx:xs[k]?=some x)(hy:ys[k]?=some y)
  (hQ:∀h',ZipAt b1 b2 h' z TI TO i1 i2 l1 l2 (rawInt s.heap.objs.size) (k+1)->IsPair h' s.heap.objs.size x y->
   (∀c o,c≠z->c≠TO->c≠i1->c≠i2->s.heap.get? c=some o->h'.get? c=some o)->Q (.ref s.heap.objs.size) {s with heap:=h'}) :
  wpAny (model prog w) A (Builtin.«zip.__next__» ⟨[.ref z],[]⟩) (λfin s'=>∃v,fin=.done (.ret v)/\Q v s') E s:=by
 obtain⟨p1,p2,⟨a,b,p3⟩,p4,p5⟩:=hz
 exact zacc D p1 p2 p3 p4 p5 hl1 hl2 hx hy λh' q1 q2 q3 q4 q5 _ q7=>hQ h' ⟨q1,q7 _ _ D.TIz D.TITO D.TIi1 D.TIi2 p2,⟨x,y,q2⟩,q3,q4⟩ q5 q7
theorem zajq{b1 b2:Bool}{z TI TO i1 i2 l1 l2:Addr}{k:Nat}{xs ys:Array Value}{Q:Fin->Shared->Prop}(hh:A.handled=none)(D:ZipApart z TI TO i1 i2 l1 l2)
  (hz:ZipAt b1 b2 s.heap z TI TO i1 i2 l1 l2 .none k)(hl1:zfm b1 s.heap l1 xs)(hl2:zfm b2 s.heap l2 ys)(hend:xs[k]?=none\/ys[k]?=none)
  (hE:∀h' e,(∀c o,c≠z->c≠TO->c≠i1->c≠i2->s.heap.get? c=some o->h'.get? c=some o)->(∃o,h'.get? e=some o/\o.cls=.type "StopIteration")->E (.ref e) {s with heap:=h'}) :
  wpAny (model prog w) A (Builtin.«zip.__next__» ⟨[.ref z],[]⟩) Q E s:=by
 obtain⟨p1,p2,⟨a,b,p3⟩,p4,p5⟩:=hz
 exact zafm hh D p1 p2 p3 p4 p5 hl1 hl2 hend hE
end
end PySem
namespace L2
open PySem PySem.Spec PyProof.Rows
noncomputable def SqX(b:Bool)(K:qB)(H:Hp)(a:Addr)(xs:List V):Prop:=match b with
 | true=>SqL K H a xs
 | false=>SqT K H a xs
section
variable{X:Cx}{pins:List (Addr×Obj)}{σ:St}{H:Hp}{s:Shared}
theorem Inv.sq{b:Bool}{a:Addr}{xs:List V}(I:Inv X pins σ H s)(h:SqX b X.K H a xs):∃its:List Value,Vals xs its/\zfm b s.heap a its.toArray/\xs.length<=qV:=by
 cases b with
 | true=>obtain⟨its,r,p,z⟩:=I.list h;exact⟨its,r,p.isList,z⟩
 | false=>obtain⟨its,r,p,z⟩:=I.tuple h;exact⟨its,r,(show s.heap.IsTuple a its.toArray from p),z⟩
theorem Inv.sq_inj{b:Bool}{a:Addr}{xs ys:List V}(I:Inv X pins σ H s)(h:SqX b X.K H a xs)(h':SqX b X.K H a ys):xs=ys:=by
 cases b with
 | true=>exact I.list_inj h h'
 | false=>exact I.tuple_inj h h'
end
noncomputable def Itz(K:qB)(b1:Bool)(a1:Addr)(b2:Bool)(a2:Addr):It:=
 ⟨λi H=>∃xs ys x y,SqX b1 K H a1 xs/\SqX b2 K H a2 ys/\xs[i]?=some x/\ys[i]?=some y,
  λi H v H'=>∃p x y,v=.ref p/\H p=none/\H'=upd H p (.tup [x,y])/\(∀xs,SqX b1 K H a1 xs->xs[i]?=some x)/\∀ys,SqX b2 K H a2 ys->ys[i]?=some y,
  λi H=>∃xs ys,SqX b1 K H a1 xs/\SqX b2 K H a2 ys/\(xs.length<=i\/ys.length<=i)⟩
theorem zajr{P:Program}{w:World}{K:qB}{elts:List Expr}{x1}{tpos:Pos}{b1 b2:Bool}{z TI TO i1 i2 l1 l2:Addr}(D:ZipApart z TI TO i1 i2 l1 l2) :
  Turn P w K (.Tuple elts x1 tpos) (Itz K b1 l1 b2 l2) [z,TI,TO,i1,i2] z (λi h=>ZipAt b1 b2 h z TI TO i1 i2 l1 l2 .none i) where
 mem:=by simp
 obj:=λi h st b hb=>by
  obtain⟨a,c,hto⟩:=st.to
  simp only[qc,qAu,or_false]at hb
  rcases hb with rfl|rfl|rfl|rfl|rfl
  ·exact⟨_,st.z,λv q=>by simp at q⟩
  ·exact⟨_,st.ti,λv q=>by simp at q⟩
  ·exact⟨_,hto,λv q=>by simp at q⟩
  ·exact st.i1.obj
  ·exact st.i2.obj
 keep:=λi h h' st k=>by
  obtain⟨a,c,hto⟩:=st.to
  exact⟨k z (by simp) _ st.z,k TI (by simp) _ st.ti,⟨a,c,k TO (by simp) _ hto⟩,st.i1.moved λo q=>k i1 (by simp) o q,st.i2.moved λo q=>k i2 (by simp) o q⟩
 item:=by
  intro X hP hw hK hc i pins s σ H E I hf st hg
  subst hP hw hK
  obtain⟨xs,ys,x,y,q1,q2,hx,hy⟩:=hg
  obtain⟨its1,rv1,p1,_⟩:=I.sq q1
  obtain⟨its2,rv2,p2,_⟩:=I.sq q2
  obtain⟨u1,hu1,ru1⟩:=rv1.get hx
  obtain⟨u2,hu2,ru2⟩:=rv2.get hy
  have hT:s.TypeIs (.ref z) "zip":=⟨_,st.z,rfl⟩
  unfold pyNext
  refine qC (wpAny_attempt (qAm (name:=Str.ofString "__next__") hT qCB (qBF qCB hT F.entry_zip_next
   (zafn D st p1 p2 (x:=u1) (y:=u2) (by simpa using hu1) (by simpa using hu2) λh1 zt tp kp=>qI ?_) (F.args_zip_next_1 _))))
  refine⟨_,rfl,wpAny_letOwnedTupleGo_zip (s:={s with heap:=h1}) zt.z λh2 z2 sb2=>?_⟩
  have hp:H s.heap.objs.size=none:=I.hok.fresh (qL _)
  have fz:=hf z (by simp)
  have fO:=hf TO (by simp)
  have f1:=hf i1 (by simp)
  have f2:=hf i2 (by simp)
  have lt:∀b∈[z,TI,TO,i1,i2],b≠s.heap.objs.size:=λb hb=>by
   obtain⟨a,c,hto⟩:=st.to
   simp only[qc,qAu,or_false]at hb
   rcases hb with rfl|rfl|rfl|rfl|rfl
   ·exact qk (qJ st.z)
   ·exact qk (qJ st.ti)
   ·exact qk (qJ hto)
   ·obtain⟨o,q,_⟩:=st.i1.obj;exact qk (qJ q)
   ·obtain⟨o,q,_⟩:=st.i2.obj;exact qk (qJ q)
  have k2:∀b o,b≠z->b≠TO->b≠i1->b≠i2->s.heap.get? b=some o->h2.get? b=some o:=λb o e1 e2 e3 e4 q=>(sb2.2 b e1).trans (kp b o e1 e2 e3 e4 q)
  have t2:IsPair h2 s.heap.objs.size u1 u2:=(sb2.2 _ (qAo (lt z (by simp)))).trans tp
  have nch:∀b,b∉[z,TO,i1,i2]->b≠z/\b≠TO/\b≠i1/\b≠i2:=λb hb=>⟨λq=>hb (by simp[q]),λq=>hb (by simp[q]),λq=>hb (by simp[q]),λq=>hb (by simp[q])⟩
  have k3:∀b o,b∉[z,TO,i1,i2]->s.heap.get? b=some o->h2.get? b=some o:=λb o hb q=>let⟨e1,e2,e3,e4⟩:=nch b hb;k2 b o e1 e2 e3 e4 q
  have nH:∀c v,H c=some v->c∉[z,TO,i1,i2]:=λc v q hc=>by
   have:H c=none:=by
    simp only[qc,qAu,or_false]at hc
    rcases hc with rfl|rfl|rfl|rfl
    ·exact fz.1
    ·exact fO.1
    ·exact f1.1
    ·exact f2.1
   rw[this]at q;cases q
  refine⟨.ref s.heap.objs.size,upd H s.heap.objs.size (.tup [x,y]),?_,rfl,⟨_,x,y,rfl,hp,rfl,λzs q=>by rw[I.sq_inj q q1];exact hx,λzs q=>by rw[I.sq_inj q q2];exact hy⟩,?_,λb hb=>by rw[zar (lt b hb)];exact(hf b hb).1⟩
  ·refine Inv.step (s:=s) (h':=h2) (g':=s.gens) (d':=s.drawn) (t':=s.toks) (ch:=[z,TO,i1,i2]) I (λb hb=>?_) (λb o _ _ hc q _=>k3 b o hc q) (λb o _ _ hc q _=>⟨o.slots,k3 b o hc q⟩)
    (λb o _ q n=>by rw[zar (qk (qJ q))];exact n) (λb o hc q=>⟨o,k3 b o hc q⟩)
    (λb xs q=>by rw[zar (zbe q hp)];exact q) (λb o v q=>by rw[zar (zbe q hp)];exact q) (λb ps q=>⟨#[],by rw[zar (zbe q hp),q];simp⟩) (λm hm=>?_) (λb v q=>?_) I.bare
   ·have:=hf b (by
     simp only[qc,qAu,or_false]at hb ⊢
     rcases hb with rfl|rfl|rfl|rfl<;>simp)
    exact⟨this.2.2.2.1,this.2.1,this.2.2.2.2.1,this.2.2.2.2.2⟩
   ·obtain⟨o,es,ep,ho,r⟩:=hm
    exact⟨o,es,ep,k2 _ o (qAo fz.2.1) (qAo fO.2.1) (qAo f1.2.1) (qAo f2.2.1) ho,r⟩
   ·by_cases hb:b=s.heap.objs.size
    ·subst hb
     rw[zaq]at q
     cases q
     exact⟨by show 2<=qV;decide,[u1,u2],.cons ru1 (.cons ru2 .nil),_,t2,rfl,_,rfl⟩
    ·rw[zar hb]at q
     refine(I.hok b v q).stay (λc w' hc r=>?_) (λc r=>by rw[zar (zbe r hp)];exact r) λc ys r=>by rw[zar (zbe r hp)];exact r
     rcases hc with rfl|hc
     ·exact k3 c w' (nH c v q) r
     ·exact k3 c w' (nH c _ hc) r
  ·obtain⟨a,c,hto⟩:=zt.to
   exact⟨z2,(sb2.2 _ D.TIz).trans zt.ti,⟨a,c,(sb2.2 _ D.TOz).trans hto⟩,zt.i1.moved λo q=>(sb2.2 _ D.i1z).trans q,zt.i2.moved λo q=>(sb2.2 _ D.i2z).trans q⟩
 done:=by
  intro X hP hw hK hc i pins s σ H E I hf st hg
  subst hP hw hK
  obtain⟨xs,ys,q1,q2,hle⟩:=hg
  obtain⟨its1,rv1,p1,_⟩:=I.sq q1
  obtain⟨its2,rv2,p2,_⟩:=I.sq q2
  have l1':=rv1.length
  have l2':=rv2.length
  have hT:s.TypeIs (.ref z) "zip":=⟨_,st.z,rfl⟩
  unfold pyNext
  refine qC (wpAny_attempt (qAm (name:=Str.ofString "__next__") hT qCB (qBF qCB hT F.entry_zip_next
   (zajq (by exact I.ok.hd hc) D st p1 p2 (by rcases hle with q|q;exact .inl (by simp;omega);exact .inr (by simp;omega)) λh' e kp he=>?_) (F.args_zip_next_1 _))))
  obtain⟨o,ho,hcl⟩:=he
  refine qC (wpAny_isInstance (T:="StopIteration") (b:=true) ⟨o,ho,hcl⟩ isSubtype_stop (qI ⟨rfl,?_⟩))
  have fz:=hf z (by simp)
  have fO:=hf TO (by simp)
  have f1:=hf i1 (by simp)
  have f2:=hf i2 (by simp)
  have nch:∀b,b∉[z,TO,i1,i2]->b≠z/\b≠TO/\b≠i1/\b≠i2:=λb hb=>⟨λq=>hb (by simp[q]),λq=>hb (by simp[q]),λq=>hb (by simp[q]),λq=>hb (by simp[q])⟩
  have k3:∀b o,b∉[z,TO,i1,i2]->s.heap.get? b=some o->h'.get? b=some o:=λb o hb q=>let⟨e1,e2,e3,e4⟩:=nch b hb;kp b o e1 e2 e3 e4 q
  have nH:∀c v,H c=some v->c∉[z,TO,i1,i2]:=λc v q hc=>by
   have:H c=none:=by
    simp only[qc,qAu,or_false]at hc
    rcases hc with rfl|rfl|rfl|rfl
    ·exact fz.1
    ·exact fO.1
    ·exact f1.1
    ·exact f2.1
   rw[this]at q;cases q
  refine Inv.step (s:=s) (h':=h') (g':=s.gens) (d':=s.drawn) (t':=s.toks) (ch:=[z,TO,i1,i2]) I (λb hb=>?_) (λb o _ _ hc q _=>k3 b o hc q) (λb o _ _ hc q _=>⟨o.slots,k3 b o hc q⟩)
    (λb o _ q n=>n) (λb o hc q=>⟨o,k3 b o hc q⟩) (λb xs q=>q) (λb o v q=>q) (λb ps q=>⟨#[],by rw[q];simp⟩) (λm hm=>?_) (λb v q=>?_) I.bare
  ·have:=hf b (by
     simp only[qc,qAu,or_false]at hb ⊢
     rcases hb with rfl|rfl|rfl|rfl<;>simp)
   exact⟨this.2.2.2.1,this.2.1,this.2.2.2.2.1,this.2.2.2.2.2⟩
  ·obtain⟨o,es,ep,ho,r⟩:=hm
   exact⟨o,es,ep,kp _ o (qAo fz.2.1) (qAo fO.2.1) (qAo f1.2.1) (qAo f2.2.1) ho,r⟩
  ·refine(I.hok b v q).stay (λc w' hc r=>?_) (λc r=>r) λc ys r=>r
   rcases hc with rfl|hc
   ·exact k3 c w' (nH c v q) r
   ·exact k3 c w' (nH c _ hc) r
 self:=λ_ _ _ _ _ st h=>wpAny_pyIter_zip st.z h
end L2
namespace PySem
open Sem (wp)
noncomputable def itO(b:Bool)(l:Addr):Obj:=match b with
 | true=>{cls:=.type "list_iterator",data:=.fields #[.ref l,.int 0 0]}
 | false=>{cls:=.type "tuple_iterator",data:=.fields #[.ref l,.int 0 0]}
noncomputable def zx1(b1:Bool)(h:Heap)(l1:Addr):Heap:=h.push (itO b1 l1)
noncomputable def zx2(b1 b2:Bool)(h:Heap)(l1 l2:Addr):Heap:=(zx1 b1 h l1).push (itO b2 l2)
noncomputable def zx3(b1 b2:Bool)(h:Heap)(l1 l2:Addr):Heap:=(zx2 b1 b2 h l1 l2).push {cls:=.type "tuple",data:=.seq #[.ref h.objs.size,.ref (zx1 b1 h l1).objs.size]}
noncomputable def zx4(b1 b2:Bool)(h:Heap)(l1 l2:Addr):Heap:=(zx3 b1 b2 h l1 l2).push {cls:=.type "tuple",data:=.seq #[.none,.none]}
noncomputable def zx5(b1 b2:Bool)(h:Heap)(l1 l2:Addr):Heap:=(zx4 b1 b2 h l1 l2).push {cls:=.type "zip",data:=.fields #[.none,.bool false,.bool false,.ref (zx2 b1 b2 h l1 l2).objs.size,.ref (zx3 b1 b2 h l1 l2).objs.size]}
theorem zacd(b1 b2:Bool)(l1 l2:Addr)(xs ys:Array Value) :
  Meets (Builtin.«zip.__new__» ⟨[.type "zip",.ref l1,.ref l2],[]⟩) (λ_ R s=>zfm b1 s.heap l1 xs/\zfm b2 s.heap l2 ys/\R (.ok (.ret (.ref (zx4 b1 b2 s.heap l1 l2).objs.size))) {s with heap:=zx5 b1 b2 s.heap l1 l2}):=
 .of_wp λprog w A R s h=>by
  obtain⟨hp,g,d,tk,os⟩:=s;obtain⟨h1,h2,h⟩:=h
  have hsub:=sub_zip
  cases b1 with
  | true=>
   have e1:Heap.IsList (Shared.heap ⟨hp,g,d,tk,os⟩) l1 xs:=h1
   cases b2 with
   | true=>
    have e2:Heap.IsList (Shared.heap ⟨hp.push {cls:=.type "list_iterator",data:=.fields #[.ref l1,.int 0 0]},g,d,tk,os⟩) l2 ys:=qCy h2 _
    wp_walk using qA1 e1,qA1 e2
    exact⟨_,rfl,h⟩
   | false=>
    have e2:Heap.IsTuple (Shared.heap ⟨hp.push {cls:=.type "list_iterator",data:=.fields #[.ref l1,.int 0 0]},g,d,tk,os⟩) l2 ys:=qCo h2 _
    wp_walk using qA1 e1,qAw e2
    exact⟨_,rfl,h⟩
  | false=>
   have e1:Heap.IsTuple (Shared.heap ⟨hp,g,d,tk,os⟩) l1 xs:=h1
   cases b2 with
   | true=>
    have e2:Heap.IsList (Shared.heap ⟨hp.push {cls:=.type "tuple_iterator",data:=.fields #[.ref l1,.int 0 0]},g,d,tk,os⟩) l2 ys:=qCy h2 _
    wp_walk using qAw e1,qA1 e2
    exact⟨_,rfl,h⟩
   | false=>
    have e2:Heap.IsTuple (Shared.heap ⟨hp.push {cls:=.type "tuple_iterator",data:=.fields #[.ref l1,.int 0 0]},g,d,tk,os⟩) l2 ys:=qCo h2 _
    wp_walk using qAw e1,qAw e2
    exact⟨_,rfl,h⟩
theorem zti{b:Bool}{h:Heap}{a l:Addr}(e:h.get? a=some (itO b l)):SqIt b h a l 0:=by
 cases b with
 | true=>exact⟨_,e,rfl,rfl⟩
 | false=>exact⟨_,e,rfl,rfl⟩
theorem zafo{prog:Program}{w:World}{A:Around}{E:Value->Shared->Prop}{s:Shared}{b1 b2:Bool}{l1 l2:Addr}{xs ys:Array Value}{Q:Value->Shared->Prop}(h1:zfm b1 s.heap l1 xs)(h2:zfm b2 s.heap l2 ys)
  (h:∀h',ZipAt b1 b2 h' (s.heap.objs.size+4) (s.heap.objs.size+2) (s.heap.objs.size+3) s.heap.objs.size (s.heap.objs.size+1) l1 l2 .none 0->(∀c o,s.heap.get? c=some o->h'.get? c=some o)->Q (.ref (s.heap.objs.size+4)) {s with heap:=h'}) :
  wpAny (model prog w) A (call (.type "zip") [.ref l1,.ref l2]) Q E s:=by
 refine callType_new F.called_zip (by decide) (F.typeCall_zip_2 _ _) (F.newCall_zip_2 _ _) (λobj=>F.args_object_init_3 obj _ _) F.entry_zip_new (zacd b1 b2 l1 l2 xs ys) ⟨h1,h2,?_⟩
 have z1:(zx1 b1 s.heap l1).objs.size=s.heap.objs.size+1:=qAz ..
 have z2:(zx2 b1 b2 s.heap l1 l2).objs.size=s.heap.objs.size+2:=by unfold zx2;rw[qAz,z1]
 have z3:(zx3 b1 b2 s.heap l1 l2).objs.size=s.heap.objs.size+3:=by unfold zx3;rw[qAz,z2]
 have z4:(zx4 b1 b2 s.heap l1 l2).objs.size=s.heap.objs.size+4:=by unfold zx4;rw[qAz,z3]
 have fr:∀o:Obj,(zx5 b1 b2 s.heap l1 l2).get? (zx4 b1 b2 s.heap l1 l2).objs.size=some {cls:=.type "zip",dict:=none,data:=.fields #[.none,.bool false,.bool false,.ref (zx2 b1 b2 s.heap l1 l2).objs.size,.ref (zx3 b1 b2 s.heap l1 l2).objs.size],slots:=#[]}:=λ_=>qa _ rfl
 have g5:=fr {cls:=.none,data:=.seq #[]}
 have g4:(zx5 b1 b2 s.heap l1 l2).get? (zx3 b1 b2 s.heap l1 l2).objs.size=some {cls:=.type "tuple",data:=.seq #[.none,.none]}:=qD _ (qa _ rfl)
 have g3:(zx5 b1 b2 s.heap l1 l2).get? (zx2 b1 b2 s.heap l1 l2).objs.size=some {cls:=.type "tuple",data:=.seq #[.ref s.heap.objs.size,.ref (zx1 b1 s.heap l1).objs.size]}:=qD _ (qD _ (qa _ rfl))
 have g2:(zx5 b1 b2 s.heap l1 l2).get? (zx1 b1 s.heap l1).objs.size=some (itO b2 l2):=qD _ (qD _ (qD _ (qa _ (by cases b2<;>rfl))))
 have g1:(zx5 b1 b2 s.heap l1 l2).get? s.heap.objs.size=some (itO b1 l1):=qD _ (qD _ (qD _ (qD _ (qa _ (by cases b1<;>rfl)))))
 show _/\_
 rw[z2,z3,z4]at g5
 rw[z1,z2]at g3
 rw[z3]at g4
 rw[z1]at g2
 rw[z4]
 exact⟨⟨_,g5,rfl⟩,h _ ⟨g5,g3,⟨_,_,g4⟩,zti g1,zti g2⟩ λc o q=>qD _ (qD _ (qD _ (qD _ (qD _ q))))⟩
end PySem
namespace L2
open PySem PySem.Spec PyProof.Rows
theorem zarv:bootBuiltins "zip"=some (.type "zip"):=by decide +kernel
noncomputable def iZip(K:qB)(ta:TA):TI:=λσ H R=>ta σ H λvs H1=>∃b1 b2 a1 a2,vs=[.ref a1,.ref a2]/\(∃xs,SqX b1 K H1 a1 xs)/\(∃ys,SqX b2 K H1 a2 ys)/\R (Itz K b1 a1 b2 a2) H1
theorem zfm.there{b:Bool}{h:Heap}{l:Addr}{xs:Array Value}(x:zfm b h l xs):l<h.objs.size:=by
 cases b with
 | true=>obtain⟨o,q,_⟩:=x;exact qJ q
 | false=>obtain⟨o,q,_⟩:=x;exact qJ q
theorem zafp{n l1 l2:Nat}(h1:l1<n)(h2:l2<n):ZipApart (n+4) (n+2) (n+3) n (n+1) l1 l2:=by
 constructor<;>first|exact qk (by omega)|exact qBU (by omega)
theorem zarw{X:Cx}{K:qB}(hK:X.K=K){a b:Expr}{ta:TA}{p pos:Pos}{elts:List Expr}{x1}{tpos:Pos}(hg:Gl X "zip")(hm:X.mg "zip"=none)(ha:PA X [a,b] ta)(hs:starEach [a,b] X.env=(false,eval a X.env)::starEach [b] X.env:=by rfl)(hs2:(backTo pos (starEach [b] X.env)).any (·.1)=false:=by rfl) :
  PI X (.Tuple elts x1 tpos) (.Call (.Name "zip" p) [a,b] [] pos) (iZip K ta):=by
 subst hK
 intro pins s σ H R I h
 refine Call_ (zpa I hg hm zarv (callWith_type1 (thn (ha pos pins s σ H _ I h) λus s1 ⟨vs,H1,I1,r1,q1⟩=>?_) hs hs2))
 obtain⟨b1,b2,l1,l2,rfl,⟨xs,e1⟩,⟨ys,e2⟩,q⟩:=q1
 obtain⟨u1,u2,rfl,ru1,ru2⟩:=zxs r1
 cases ru1
 cases ru2
 obtain⟨its1,rv1,p1,_⟩:=I1.sq e1
 obtain⟨its2,rv2,p2,_⟩:=I1.sq e2
 have t1:=zfm.there p1
 have t2:=zfm.there p2
 refine zafo p1 p2 λh' zt hk=>wpAny_pyIter_zip zt.z ?_
 have I2:Inv X pins σ H1 {s1 with heap:=h'}:=I1.kept (t':=s1.toks) hk
 have D:=zafp t1 t2
 refine⟨s1.heap.objs.size+4,[s1.heap.objs.size+4,s1.heap.objs.size+2,s1.heap.objs.size+3,s1.heap.objs.size,s1.heap.objs.size+1],_,_,H1,rfl,I2,zajr D,zt,λc hc=>?_,q⟩
 have hge:s1.heap.objs.size<=c:=by
  simp only[qc,qAu,or_false]at hc
  rcases hc with rfl|rfl|rfl|rfl|rfl
  ·exact qB4 _ _
  ·exact qB4 _ _
  ·exact qB4 _ _
  ·exact qL _
  ·exact qB4 _ _
 exact I1.fpOk hge (I1.hok.fresh hge)
noncomputable def zace(f:AF):IF':=λenv=>(f env).bind λrs=>match rs with
 | [r,t]=>(zid r.d).bind λds=>(zid t.d).map λes=>(List.zipWith (λd e=>.tuple [d,e]) ds es,r.bs++t.bs)
 | _=>none
theorem zafq{K:qB}{A:Addr->Prop}{H:Hp}{d:PyData}{ds:List PyData}{v:V}(h:Rp (Offs A H) d v)(e:zid d=some ds):∃(b:Bool)(a:Addr)(xs:List V),v=.ref a/\Rps (Offs A H) ds xs/\∀(B:Addr->Prop)(H':Hp),Same (Offs A H) (Offs B H')->SqX b K H' a xs:=by
 cases d with
 | list es=>
  cases e
  obtain⟨a,xs,rfl,ha,r⟩:=zfe h
  exact⟨true,a,xs,rfl,r,λB H' s=>SqL.of (zdj (s _ _ ha))⟩
 | tuple es=>
  cases e
  obtain⟨a,xs,rfl,ha,r⟩:=zcr h
  exact⟨false,a,xs,rfl,r,λB H' s=>SqT.of (zdj (s _ _ ha))⟩
 | _=>cases e
theorem zajs{ds es:List PyData}{i:Nat}{d:PyData}(h:(List.zipWith (λd e=>PyData.tuple [d,e]) ds es)[i]?=some d):∃a b,ds[i]?=some a/\es[i]?=some b/\d=.tuple [a,b]:=by
 rw[List.getElem?_zipWith]at h
 cases e1:ds[i]? with
 | none=>rw[e1]at h;cases h
 | some a=>
  cases e2:es[i]? with
  | none=>rw[e1,e2]at h;cases h
  | some b=>rw[e1,e2]at h;cases h;exact⟨a,b,rfl,rfl,rfl⟩
theorem zalv{K:qB}{ta:TA}{f:AF}(h1:SA ta f):SI (iZip K ta) (zace f):=by
 intro fx H0 env σ H h ds bs e R q
 unfold zace at e
 obtain⟨rs,er,e⟩:=qA.mp e
 split at e
 ·rename_i r t
  obtain⟨d1,ed1,e⟩:=qA.mp e
  obtain⟨d2,ed2,e⟩:=qG.mp e
  cases e
  refine h1 fx H0 env σ H h _ er _ λvs H1 s hv=>?_
  cases hv with
  | cons hv1 hv'=>
   cases hv' with
   | cons hv2 hv''=>
    cases hv''
    have sub1:∀b,(fx b\/own (frzs env (r.bs++t.bs)) σ b)->lim fx env σ r.bs b:=λb z=>zlp (λi hi=>qu _ hi) b (zgq b z)
    have sub2:∀b,(fx b\/own (frzs env (r.bs++t.bs)) σ b)->lim fx env σ t.bs b:=λb z=>zlp (λi hi=>qb _ hi) b (zgq b z)
    obtain⟨b1,a1,xs,rfl,r1,e1⟩:=zafq (K:=K) (Rp.same (Offs.sub sub1) _ hv1.rp) ed1
    obtain⟨b2,a2,ys,rfl,r2,e2⟩:=zafq (K:=K) (Rp.same (Offs.sub sub2) _ hv2.rp) ed2
    refine⟨b1,b2,a1,a2,rfl,⟨xs,e1 _ H1 (Same.refl _)⟩,⟨ys,e2 _ H1 (Same.refl _)⟩,q _ H1 s ?_⟩
    intro A H' hA ss
    have q1:=e1 A H' ss
    have q2:=e2 A H' ss
    have r1':=Rps.same ss _ r1
    have r2':=Rps.same ss _ r2
    refine⟨λi d e=>?_,⟨xs,ys,q1,q2,?_⟩⟩
    ·obtain⟨c1,c2,ec1,ec2,rfl⟩:=zajs e
     obtain⟨v1,g1,rv1⟩:=r1'.get2 ec1
     obtain⟨v2,g2,rv2⟩:=r2'.get2 ec2
     refine⟨⟨xs,ys,v1,v2,q1,q2,g1,g2⟩,λx H'' y=>?_⟩
     obtain⟨p,x',y',rfl,hp,rfl,y1,y2⟩:=y
     have z1:=y1 xs q1
     rw[g1]at z1
     cases z1
     have z2:=y2 ys q2
     rw[g2]at z2
     cases z2
     exact⟨Same.new hp,zlq hp (zes hA hp) (zdx rv1 (zdx rv2 zej))⟩
    ·rw[List.length_zipWith,r1.length,r2.length]
     rcases Nat.le_total xs.length ys.length with z|z
     ·exact .inl (by rw[Nat.min_eq_left z];exact qL _)
     ·exact .inr (by rw[Nat.min_eq_right z];exact qL _)
 ·cases e
end L2
namespace PySem
open Sem (wp)
open AutoSeq1 (wpAny_loadPart')
theorem zajt{prog:Program}{w:World}{A:Around}(hh:A.handled=none)(b:Bool)(it l:Addr)(hne:l≠it)(items:Array Value) :
  Draws prog w A it [it,l] items.size (λi v=>items[i]?=some v) (λi h=>SqIt b h it l i/\zfm b h l items) where
 live:=λ_ _ st=>let⟨o,ho,_⟩:=st.1.obj;⟨o,ho⟩
 frame:=λ_ _ _ st hk=>⟨st.1.moved λo e=>hk it (by simp) o e,st.2.moved λo e=>hk l (by simp) o e⟩
 item:=λi s Q E hi st hQ=>by
  refine zth st.1 st.2 (x:=items[i]) (by simp[hi]) λh' hit' hs'=>?_
  exact hQ _ h' s.toks (by simp[hi]) ⟨hit',st.2.moved λo e=>hs'.extBut _ o hne e⟩ hs'
 done:=λs Q E st hE=>zaac hh st.1 st.2 (by simp) hE
theorem zon(l:Addr)(items:Array Value)(n:Nat)(dct:Option Addr)(sl:Array (Option Value)) :
  Meets (Builtin.«enumerate.__new__» ⟨[.type "enumerate",.ref l],[]⟩) (λ_ R s=>s.heap.get? l=some {cls:=.type "tuple",dict:=dct,data:=.seq items n,slots:=sl}/\
   R (.ok (.ret (.ref (s.heap.push (itO false l)).objs.size))) {s with heap:=(s.heap.push (itO false l)).push {cls:=.type "enumerate",data:=.fields #[.none,.bool false,.ref s.heap.objs.size,rawInt 0,.none,.none]}}):=
 .of_wp λprog w A R s h=>by
  obtain⟨hp,g,d,tk,os⟩:=s;obtain⟨hl,h⟩:=h
  have hsub:=sub_enumerate
  have e1:Heap.IsTuple (Shared.heap ⟨hp,g,d,tk,os⟩) l items:=⟨_,hl,rfl,n,rfl⟩
  wp_walk using qBf hl
  refine wpAny_stack_any λst=>qI ?_
  split
  ·rename_i c _ _ _ _ _
   cases(c==Value.type "enumerate")
   ·wp_walk using qBf hl,qAw e1
    exact⟨_,rfl,h⟩
   ·wp_walk using qBf hl,qAw e1
    exact⟨_,rfl,h⟩
  ·wp_walk using qBf hl,qAw e1
   exact⟨_,rfl,h⟩
theorem zvj{prog:Program}{w:World}{A:Around}{E:Value->Shared->Prop}{s:Shared}{b:Bool}{l:Addr}{items:Array Value}{Q:Value->Shared->Prop}(hL:zfm b s.heap l items)
  (h:∀h',IsEnum h' (s.heap.objs.size+1) s.heap.objs.size 0 .none->SqIt b h' s.heap.objs.size l 0->(∀c o,s.heap.get? c=some o->h'.get? c=some o)->Q (.ref (s.heap.objs.size+1)) {s with heap:=h'}) :
  wpAny (model prog w) A (call (.type "enumerate") [.ref l]) Q E s:=by
 cases b with
 | true=>exact call_enumerate_list hL λh' e i _ k=>h h' e i k
 | false=>
  obtain⟨⟨c,dct,dt,sl⟩,hl,hc,n,hd⟩:=hL
  replace hc:c=.type "tuple":=hc
  replace hd:dt=.seq items n:=hd
  subst hc hd
  refine callType_new F.called_enumerate (by decide) (F.typeCall_enumerate_1 _) (F.newCall_enumerate_1 _) (λobj=>F.args_object_init_2 obj _) F.entry_enumerate_new (zon l items n dct sl) ⟨hl,?_⟩
  have hz:(s.heap.push (itO false l)).objs.size=s.heap.objs.size+1:=qAz ..
  have he:=qa (s.heap.push (itO false l)) (o:={cls:=.type "enumerate",data:=.fields #[.none,.bool false,.ref s.heap.objs.size,rawInt 0,.none,.none]}) rfl
  show _/\_
  rw[hz]at he ⊢
  exact⟨⟨_,he,rfl⟩,h _ he (zti (b:=false) (qD _ (qa _ rfl))) λc o x=>qD _ (qD _ x)⟩
end PySem
namespace L2
open PySem PySem.Spec PyProof.Rows
noncomputable def Itx(K:qB)(b:Bool)(a:Addr):It:=
 ⟨λi H=>∃xs x,SqX b K H a xs/\xs[i]?=some x,λi H x H'=>∃p y,x=.ref p/\H p=none/\H'=upd H p (.tup [.int i,y])/\∀xs,SqX b K H a xs->xs[i]?=some y,λi H=>∃xs,SqX b K H a xs/\xs.length<=i⟩
theorem zacf{P:Program}{w:World}{K:qB}{elts:List Expr}{x1}{tpos:Pos}{b:Bool}(a e it:Addr)(hne:e≠it)(hea:e≠a)(hai:a≠it) :
  Turn P w K (.Tuple elts x1 tpos) (Itx K b a) [e,it] e (λi h=>SqIt b h it a i/\∃old,IsEnum h e it (i:Int) old) where
 mem:=by simp
 obj:=λi h st c hc=>by
  obtain⟨h1,old,h4⟩:=st
  rcases qc.mp hc with rfl|hc
  ·exact⟨_,h4,λv z=>by simp at z⟩
  ·have q:c=it:=by simpa using hc
   subst q
   exact h1.obj
 keep:=λi h h' st k=>⟨st.1.moved λo q=>k it (by simp) o q,let⟨old,q⟩:=st.2;⟨old,k e (by simp) _ q⟩⟩
 item:=by
  intro X hP hw hK hc i pins s σ H E I hf st hg
  subst hP hw hK
  obtain⟨xs,x,hq,hx⟩:=hg
  obtain⟨its,rv,p,hz⟩:=I.sq hq
  obtain⟨u,hu,ru⟩:=rv.get hx
  obtain⟨hit,old,he⟩:=st
  have fe:=hf e (by simp)
  have fi:=hf it (by simp)
  have hlt:i<its.toArray.size:=by
   obtain⟨hh,_⟩:=qU.mp hu
   simpa using hh
  refine wpAny_pyNext_enum_itemD (zajt (by exact I.ok.hd hc) b it a hai its.toArray) he ⟨hit,p⟩ hlt hne (by simp[hne,hea]) λu' h1 tk pu e1 i1 t1 z1 k1=>?_
  have hu':u'=u:=by
   have pu:its.toArray[i]?=some u':=pu
   rw[List.getElem?_toArray,hu]at pu
   exact(qZ pu).symm
  subst hu'
  refine⟨_,rfl,wpAny_letOwnedTupleGo_enum (s:={s with heap:=h1,toks:=tk+1}) e1 λh2 e2 sb2=>?_⟩
  have hp:H s.heap.objs.size=none:=I.hok.fresh (qL _)
  have hes:e≠s.heap.objs.size:=qk (qJ he)
  have k2:∀c o,c≠e->c≠it->s.heap.get? c=some o->h2.get? c=some o:=λc o q1 q2 q=>(sb2.2 c q1).trans (k1 c o q1 q2 q)
  have t2:h2.get? s.heap.objs.size=some {cls:=.type "tuple",data:=.seq #[.int i tk,u']}:=(sb2.2 _ (qAo hes)).trans t1
  have nch:∀c,c∉[e,it]->c≠e/\c≠it:=λc hb=>⟨λz=>hb (by simp[z]),λz=>hb (by simp[z])⟩
  refine⟨.ref s.heap.objs.size,upd H s.heap.objs.size (.tup [.int i,x]),?_,rfl,⟨_,x,rfl,hp,rfl,λys hy=>by rw[I.sq_inj hy hq];exact hx⟩,⟨?_,u',e2⟩,λc hb=>?_⟩
  ·refine Inv.step (s:=s) (h':=h2) (g':=s.gens) (d':=s.drawn) (t':=tk+1) (ch:=[e,it]) I (λc hb=>?_) (λc o _ _ hc q _=>k2 c o (nch c hc).1 (nch c hc).2 q) (λc o _ _ hc q _=>⟨o.slots,k2 c o (nch c hc).1 (nch c hc).2 q⟩)
    (λc o _ q n=>by rw[zar (qk (qJ q))];exact n) (λc o hc q=>⟨o,k2 c o (nch c hc).1 (nch c hc).2 q⟩)
    (λc xs q=>by rw[zar (zbe q hp)];exact q) (λc o v q=>by rw[zar (zbe q hp)];exact q) (λc ps q=>⟨#[],by rw[zar (zbe q hp),q];simp⟩) (λm hm=>?_) (λc v q=>?_) I.bare
   ·rcases qc.mp hb with rfl|hb
    ·exact⟨fe.2.2.2.1,fe.2.1,fe.2.2.2.2.1,fe.2.2.2.2.2⟩
    ·have z:c=it:=by simpa using hb
     subst z
     exact⟨fi.2.2.2.1,fi.2.1,fi.2.2.2.2.1,fi.2.2.2.2.2⟩
   ·obtain⟨o,es,ep,ho,r⟩:=hm
    exact⟨o,es,ep,k2 _ o (qAo fe.2.1) (qAo fi.2.1) ho,r⟩
   ·by_cases hb:c=s.heap.objs.size
    ·subst hb
     rw[zaq]at q
     cases q
     exact⟨by show 2<=qV;decide,[.int i tk,u'],.cons ⟨_,rfl⟩ (.cons ru .nil),_,t2,rfl,_,rfl⟩
    ·rw[zar hb]at q
     have nt:∀c w',H c=some w'->c≠e/\c≠it:=λc w' z=>⟨(λy=>by rw[y,fe.1]at z;cases z),(λy=>by rw[y,fi.1]at z;cases z)⟩
     refine(I.hok c v q).stay (λc w' hc r=>?_) (λc r=>by rw[zar (zbe r hp)];exact r) λc ys r=>by rw[zar (zbe r hp)];exact r
     rcases hc with rfl|hc
     ·exact k2 c w' (nt c v q).1 (nt c v q).2 r
     ·exact k2 c w' (nt c _ hc).1 (nt c _ hc).2 r
  ·exact i1.1.moved λo q=>(sb2.2 _ (qAo hne)).trans q
  ·rcases qc.mp hb with rfl|hb
   ·rw[zar hes];exact fe.1
   ·have z:c=it:=by simpa using hb
    subst z
    obtain⟨o,q1,_⟩:=hit.obj
    rw[zar (qk (qJ q1))]
    exact fi.1
 done:=by
  intro X hP hw hK hc i pins s σ H E I hf st hg
  subst hP hw hK
  obtain⟨xs,hq,hx⟩:=hg
  obtain⟨its,rv,p,hz⟩:=I.sq hq
  obtain⟨hit,old,he⟩:=st
  obtain⟨f0,f1,f2,f3,f4,f5⟩:=hf it (by simp)
  have hl:=rv.length
  have hT:s.TypeIs (.ref e) "enumerate":=⟨_,he,rfl⟩
  unfold pyNext
  refine qC (wpAny_attempt (qAm (name:=Str.ofString "__next__") hT F.slot_enumerate_next (qBF F.slot_enumerate_next hT F.entry_enumerate_next ?_ (F.args_enumerate_next_1 _))))
  show wpAny _ _ (field (.ref e) 2 >>=_) _ _ _
  refine qC (qAW he rfl (x:=.ref it) rfl ?_)
  refine qC (zaac (by exact I.ok.hd hc) hit p (by simp;omega) λh' x he' hx'=>?_)
  obtain⟨o,ho,hcl⟩:=hx'
  refine qC (wpAny_isInstance (T:="StopIteration") (b:=true) ⟨o,ho,hcl⟩ isSubtype_stop (qI ⟨rfl,?_⟩))
  exact I.turned (t':=s.toks) (λc o hb q=>he' c o hb q) f0 f1 f3 f4 f5
 self:=λ_ _ _ _ _ st h=>let⟨_,q⟩:=st.2;wpAny_pyIter_enum q h
noncomputable def iEnumX(K:qB)(ta:TA):TI:=λσ H R=>ta σ H λvs H1=>∃b a,vs=[.ref a]/\(∃xs,SqX b K H1 a xs)/\R (Itx K b a) H1
theorem zaju{X:Cx}{K:qB}(hK:X.K=K){a:Expr}{ta:TA}{p pos:Pos}{elts:List Expr}{x1}{tpos:Pos}(hg:Gl X "enumerate")(hm:X.mg "enumerate"=none)(ha:PA X [a] ta)(hs:starEach [a] X.env=[(false,eval a X.env)]:=by rfl) :
  PI X (.Tuple elts x1 tpos) (.Call (.Name "enumerate" p) [a] [] pos) (iEnumX K ta):=by
 subst hK
 intro pins s σ H R I h
 refine Call_ (zpa I hg hm boot_enumerate (qBd (thn (ha pos pins s σ H _ I h) λus s1 ⟨vs,H1,I1,r1,q1⟩=>?_) hs rfl))
 obtain⟨b,l,rfl,⟨xs,hq⟩,q⟩:=q1
 obtain⟨u,rfl,ru⟩:=zxr r1
 cases ru
 obtain⟨its,rv,pl,hz⟩:=I1.sq hq
 have lt:=zfm.there pl
 refine zvj pl λh' he hit hk=>wpAny_pyIter_enum he ?_
 have I2:Inv X pins σ H1 {s1 with heap:=h'}:=I1.kept (t':=s1.toks) hk
 refine⟨s1.heap.objs.size+1,[s1.heap.objs.size+1,s1.heap.objs.size],_,_,H1,rfl,I2,zacf l _ _ (Nat.succ_ne_self _) (qBU (Nat.lt_succ_of_lt lt)) (qk lt),⟨hit,_,he⟩,λc hb=>?_,q⟩
 rcases qc.mp hb with rfl|hb
 ·exact I1.fpOk (qCg _) (I1.hok.fresh (qCg _))
 ·have e:c=s1.heap.objs.size:=by simpa using hb
  subst e
  exact I1.fpOk (qL _) (I1.hok.fresh (qL _))
noncomputable def zvk(f:AF):IF':=λenv=>(f env).bind λrs=>match rs with
 | [r]=>(zid r.d).map λds=>(zsz ds,r.bs)
 | _=>none
theorem zaad{K:qB}{ta:TA}{f:AF}(h1:SA ta f):SI (iEnumX K ta) (zvk f):=by
 intro fx H0 env σ H h ds bs e R q
 unfold zvk at e
 obtain⟨rs,er,e⟩:=qA.mp e
 split at e
 ·rename_i r
  obtain⟨d1,ed1,e⟩:=qG.mp e
  cases e
  refine h1 fx H0 env σ H h _ er _ λvs H1 s hv=>?_
  cases hv with
  | cons hv t=>
   cases t
   obtain⟨b,a,xs,rfl,r1,e1⟩:=zafq (K:=K) (Rp.same (Offs.sub (zgq (bs:=r.bs))) _ hv.rp) ed1
   refine⟨b,a,rfl,⟨xs,e1 _ H1 (Same.refl _)⟩,q _ H1 s ?_⟩
   intro A H' hA ss
   have q1:=e1 A H' ss
   have r1':=Rps.same ss _ r1
   have hl:(zsz d1).length=d1.length:=by unfold zsz;simp
   refine⟨λi d e=>?_,⟨xs,q1,by rw[hl,r1.length];exact qL _⟩⟩
   unfold zsz at e
   rw[qR,qDE]at e
   cases e0:d1[i]? with
   | none=>rw[e0]at e;cases e
   | some d0=>
    rw[e0]at e
    obtain⟨v,hv,rv⟩:=r1'.get2 e0
    have e:PyData.tuple [.int ((0+i:Nat):Int),d0]=d:=qZ e
    rw[qCR]at e
    subst e
    refine⟨⟨xs,v,q1,hv⟩,λx H'' y=>?_⟩
    obtain⟨p,y',rfl,hp,rfl,y⟩:=y
    have:=y xs q1
    rw[hv]at this
    cases this
    exact⟨Same.new hp,zlq hp (zes hA hp) (zdx zae (zdx rv zej))⟩
 ·cases e
theorem zafr{K:qB}{ta:TA}{f:AF}(h1:SA ta f):SI (iEnumX K ta) (zzy f):=λfx H0 env σ H h ds bs e R q=>
 zaad h1 fx H0 env σ H h ds bs (by
  unfold zzy at e
  unfold zvk
  obtain⟨rs,er,e⟩:=qA.mp e
  rw[er]
  cases rs with
  | nil=>cases e
  | cons r t=>
   cases t with
   | nil=>
    obtain⟨d,fr,b⟩:=r
    cases d<;>first|exact e|cases e
   | cons _ _=>cases e) R q
noncomputable def isStar:Expr->Bool
 | .Starred ..=>true
 | _=>false
theorem zan{e:Expr}{es:List Expr}{env:Env}(h:isStar e=false):starEach (e::es) env=(false,eval e env)::starEach es env:=by
 cases e<;>first
  | rfl
  | cases h
theorem zajv{X:Cx}{e:Expr}{es:List Expr}{te:TE}{t:TA}(ha:PE X e te)(hr:PA X es t)(hs:isStar e=false:=by rfl):PA X (e::es) (tCons te t):=zju ha hr (zan hs)
end L2
namespace PySem.SeqAt
open AutoSeq1 (wpAny_loadPart')
open MeetsSeq PyProof.Rows
end PySem.SeqAt
namespace L2
open PySem PySem.Spec PyProof.Rows
structure Bx(p:Prop):Prop where
 out:p
theorem Bx.pt{X:Cx}{e:Expr}{t:TT}(h:Bx (PW X e t)):Bx (PT X e t):=⟨h.out.pt⟩
theorem zal:∀{X:L2.Cx}{i:Int}{j:Nat}{pos:qj},L2.Bx (L2.PE X (qO.Constant (PySem.Const.int i) j pos) (L2.tC (L2.V.int i))):=by
 intro X i j pos
 exact⟨@zhs X i j pos⟩
theorem zaf:∀{X:L2.Cx},L2.Bx (L2.PA X [] L2.tNil):=by
 intro X
 exact⟨@zob X⟩
theorem zao:∀{X:L2.Cx}{e:qO}{es:List qO}{te:L2.TE}{t:L2.TA},L2.Bx (L2.PE X e te)->L2.Bx (L2.PA X es t)->L2.isStar e=Bool.false->L2.Bx (L2.PA X (e::es) (L2.tCons te t)):=by
 intro X e es te t ha hr hs
 exact⟨@zajv X e es te t ha.out hr.out hs⟩
theorem zat:∀{X:L2.Cx}{a b:qO}{ta tb:L2.TE}{pos:qj}{op:PySem.Operator}{r:L2.R2},L2.OpR X (PySem.binaryOp op) r->L2.Bx (L2.PE X a ta)->L2.Bx (L2.PE X b tb)->L2.Bx (L2.PE X (a.BinOp op b pos) (L2.tOp r ta tb)):=by
 intro X a b ta tb pos op r ho ha hb
 exact⟨@zlc X a b ta tb pos op r ho ha.out hb.out⟩
theorem zak:∀{X:L2.Cx}{st:PySem.Stmt}{t:L2.TS},L2.Bx (L2.PS X st t)->L2.Bx (L2.PSs X [st] t):=by
 intro X st t h1
 exact⟨@zln X st t h1.out⟩
theorem zah:∀{X:L2.Cx}{st:PySem.Stmt}{rest:List PySem.Stmt}{t u:L2.TS},L2.Bx (L2.PS X st t)->L2.Bx (L2.PSs X rest u)->L2.Bx (L2.PSs X (st::rest) (L2.tSeq t u)):=by
 intro X st rest t u h1 h2
 exact⟨@zkv X st rest t u h1.out h2.out⟩
theorem zig:∀{X:L2.Cx}{x:PySem.Str}{p pos:qj}{e:qO}{es:List qO}{t:L2.TA}{ps:List PySem.Str}{k:Nat}{sp:L2.Sp},L2.Dn X.prog X.w X.K X.mg X.base x ps k sp->L2.Room k X.A->L2.Gl X x->L2.Bx (L2.PA X (e::es) t)->(x==qw "__debug__")=Bool.false->qAJ (e::es) X.env=(Bool.false,PySem.eval e X.env)::qAJ es X.env->((PySem.backTo pos (qAJ es X.env)).any λ(x:Bool×PySem.Sem PySem.Value)=>x.fst)=Bool.false->L2.Bx (L2.PE X ((qO.Name x p).Call (e::es) [] pos) (L2.tCall sp [] L2.E0 t)):=by
 intro X x p pos e es t ps k sp D hr hg ha hdb he hpl
 exact⟨@zatn X x p pos e es t ps k sp D hr hg ha.out hdb he hpl⟩
theorem zba:∀{X:L2.Cx}{e:qO}{te:L2.TE}{pos:qj},L2.Bx (L2.PE X e te)->L2.Bx (L2.PS X (PySem.Stmt.Return (Option.some e) pos) (L2.tRet te)):=by
 intro X e te pos he
 exact⟨@zale X e te pos he.out⟩
theorem zhg:∀{X:L2.Cx}{pos:qj}{i:Nat}{x:PySem.Str}{e:qO}{te:L2.TE}{pos':qj},X.N.Nodup->X.N[i]?=Option.some x->L2.Loc X.env.scope x->L2.Bx (L2.PE X e te)->PySem.swapsWith e (Option.some (qO.Name x pos')) pos.line X.env=Pure.pure Bool.false->X.fn x=Bool.true\/List.lookup x X.env.scope.names=Option.some PySem.NameKind.local->L2.Bx (L2.PS X (PySem.Stmt.Assign [qO.Name x pos'] e pos) (L2.tAsg te (L2.gName i))):=by
 intro X pos i x e te pos' hN hi hx he hs hf
 exact⟨@zzh X pos i x e te pos' hN hi hx he.out hs hf⟩
theorem zpr:∀{X:L2.Cx}{x:PySem.Str}{p pos:qj}{e:qO}{es:List qO}{t:L2.TA}{id:String}{r:List L2.V->L2.Hp->L2.VK->Prop},L2.CallR X (PySem.Value.builtin id) r->L2.Gl X x->X.mg x=Option.none->PySem.bootBuiltins x=Option.some (PySem.Value.builtin id)->L2.Bx (L2.PA X (e::es) t)->x≠qw "__name__"->(x==qw "__debug__")=Bool.false->qAJ (e::es) X.env=(Bool.false,PySem.eval e X.env)::qAJ es X.env->((PySem.backTo pos (qAJ es X.env)).any λ(x:Bool×PySem.Sem PySem.Value)=>x.fst)=Bool.false->L2.Bx (L2.PE X ((qO.Name x p).Call (e::es) [] pos) (L2.tCB r t)):=by
 intro X x p pos e es t id r hc hg hm hv ha hn hdb he hpl
 exact⟨@zzj X x p pos e es t id r hc hg hm hv ha.out hn hdb he hpl⟩
theorem zbz:∀{X:L2.Cx}{b:Bool}{j:Nat}{pos:qj},L2.Bx (L2.PE X (qO.Constant (PySem.Const.bool b) j pos) (L2.tC (L2.V.bl b))):=by
 intro X b j pos
 exact⟨@zatc X b j pos⟩
theorem zhv:∀{X:L2.Cx}{a b:qO}{ta tb:L2.TE}{pos:qj}{r:L2.R2},L2.IxR X r->L2.Bx (L2.PE X a ta)->L2.Bx (L2.PE X b tb)->L2.PlainIx b->L2.Bx (L2.PE X (a.Subscript b pos) (L2.tOp r ta tb)):=by
 intro X a b ta tb pos r hr ha hb hs
 exact⟨@zaqq X a b ta tb pos r hr ha.out hb.out hs⟩
theorem zdr:∀{X:L2.Cx}{t u:L2.TS}{pos:qj}{c:qO}{a b:List PySem.Stmt}{tc:L2.TT},L2.Bx (L2.PT X c tc)->L2.Bx (L2.PSs X a t)->L2.Bx (L2.PSs X b u)->L2.Bx (L2.PS X (PySem.Stmt.If c a b pos) (L2.tIfS tc t u)):=by
 intro X t u pos c a b tc hc ha hb
 exact⟨@zaqf X t u pos c a b tc hc.out ha.out hb.out⟩
theorem zbp:∀{X:L2.Cx},L2.Bx (L2.PSs X [] L2.tNext):=by
 intro X
 exact⟨@zamw X⟩
theorem znm:∀{X:L2.Cx}{a:qO}{pos:qj}{tA:L2.TT},L2.Bx (L2.PT X a tA)->L2.Bx (L2.PT X (qO.UnaryOp PySem.UnaryOp.Not a pos) (L2.tNot tA)):=by
 intro X a pos tA ha
 exact⟨@zaqc X a pos tA ha.out⟩
theorem zcp:∀{X:L2.Cx}{K:qB},
 X.K=K->
  ∀{a:qO}{ta:L2.TE},
   L2.Bx (L2.PE X a ta)->
    (∀(whole:PySem.Sem PySem.Value),
      PySem.isTrue a X.env whole=do
       let v <- whole
       PySem.standAt a.pos
       PySem.holding [v] (PySem.truthy v))->
     L2.Bx (L2.PT X a λ(σ:L2.St)(H:L2.Hp)(Q:Bool->L2.Hp->Prop)=>ta σ H λ(x:L2.V)(H':L2.Hp)=>∃(k:Bool),L2.TruV K x H' k/\Q k H'):=by
 intro X K hK a ta ha he
 exact⟨@zafi X K hK a ta ha.out he⟩
theorem zhw:∀{X:L2.Cx}{pos:qj}{i:Nat}{x:PySem.Str},X.N.Nodup->X.N[i]?=Option.some x->L2.Loc X.env.scope x->X.fn x=Bool.true\/List.lookup x X.env.scope.names=Option.some PySem.NameKind.local->L2.Bx (L2.PG X (qO.Name x pos) (L2.gName i)):=by
 intro X pos i x hN hi hx hf
 exact⟨@zxo X pos i x hN hi hx hf⟩
theorem zfi:∀{X:L2.Cx}{es:List qO}{t:L2.TA}{pos:qj},L2.Bx (L2.PA X es t)->L2.Bx (L2.PE X (qO.List es pos) (L2.tLst t)):=by
 intro X es t pos h
 exact⟨@zalg X es t pos h.out⟩
theorem zcu:∀{X:L2.Cx}{tg iter:qO}{body:List PySem.Stmt}{wi:L2.TI}{g:L2.TG}{tb:L2.TS}{pos:qj},PySem.PassesOwn (PySem.model X.prog X.w) X.A X.env X.xe->X.calm=Bool.true->L2.Bx (L2.PI X tg iter wi)->L2.Bx (L2.PG X tg g)->L2.Bx (L2.PSs X body tb)->(∀(x:PySem.Value),PySem.foldedSetIterable iter X.env x=Pure.pure x)->L2.Bx (L2.PS X (PySem.Stmt.For tg iter body [] pos) (L2.tFor wi g tb)):=by
 intro X tg iter body wi g tb pos hp hc hi hg hb hs
 exact⟨@zadg X tg iter body wi g tb pos hp hc hi.out hg.out hb.out hs⟩
theorem zck:∀{X:L2.Cx}{a b:qO}{ta tb:L2.TE}{pos:qj}{op:PySem.CmpOp}{r:L2.R2},L2.OpR X (PySem.compareOp op) r->L2.Bx (L2.PE X a ta)->L2.Bx (L2.PE X b tb)->PySem.behindInMarks op b=Bool.false->L2.Bx (L2.PT X (a.Compare [op] [b] pos) (L2.tTest (L2.tOp r ta tb))):=by
 intro X a b ta tb pos op r ho ha hb hm
 exact⟨@zadi X a b ta tb pos op r ho ha.out hb.out hm⟩
theorem zki:∀{X:L2.Cx}{x:PySem.Str}{j:Nat}{pos:qj},L2.Bx (L2.PE X (qO.Constant (PySem.Const.str x) j pos) (L2.tC (L2.V.str x))):=by
 intro X x j pos
 exact⟨@zapy X x j pos⟩
theorem zdf:∀{X:L2.Cx}{e:qO}{te:L2.TE}{pos:qj},L2.Bx (L2.PE X e te)->PySem.swapsWith e Option.none pos.line X.env=Pure.pure Bool.false->L2.Bx (L2.PS X (PySem.Stmt.Expr e pos) (L2.tDrop te)):=by
 intro X e te pos he hs
 exact⟨@zsp X e te pos he.out hs⟩
theorem zfo:∀{X:L2.Cx}{es:List qO}{t:L2.TA}{pos:qj}{x1:Nat},L2.Bx (L2.PA X es t)->L2.Bx (L2.PE X (qO.Tuple es x1 pos) (L2.tTup t)):=by
 intro X es t pos x1 h
 exact⟨@zaql X es t pos x1 h.out⟩
theorem zps:∀{X:L2.Cx}{a:qO}{pos:qj}{op:PySem.BoolOp}{t:L2.TE},L2.Bx (L2.PE X a t)->L2.Bx (L2.PE X (qO.BoolOp op [a] pos) t):=by
 intro X a pos op t h
 exact⟨@zaqd X a pos op t h.out⟩
theorem zhx:∀{X:L2.Cx}{a b:qO}{ta tb:L2.TE}{pos:qj}{op:PySem.CmpOp}{r:L2.R2},L2.OpR X (PySem.compareOp op) r->L2.Bx (L2.PE X a ta)->L2.Bx (L2.PE X b tb)->PySem.behindInMarks op b=Bool.false->L2.Bx (L2.PE X (a.Compare [op] [b] pos) (L2.tOp r ta tb)):=by
 intro X a b ta tb pos op r ho ha hb hm
 exact⟨@zana X a b ta tb pos op r ho ha.out hb.out hm⟩
theorem znn:∀{X:L2.Cx}{x:PySem.Str}{p pos:qj}{e:qO}{es:List qO}{t:L2.TA}{T:String}{r:List L2.V->L2.Hp->L2.VK->Prop},L2.CallR X (PySem.Value.type T) r->L2.Gl X x->X.mg x=Option.none->PySem.bootBuiltins x=Option.some (PySem.Value.type T)->L2.Bx (L2.PA X (e::es) t)->x≠qw "__name__"->(x==qw "__debug__")=Bool.false->qAJ (e::es) X.env=(Bool.false,PySem.eval e X.env)::qAJ es X.env->((PySem.backTo pos (qAJ es X.env)).any λ(x:Bool×PySem.Sem PySem.Value)=>x.fst)=Bool.false->L2.Bx (L2.PE X ((qO.Name x p).Call (e::es) [] pos) (L2.tCB r t)):=by
 intro X x p pos e es t T r hc hg hm hv ha hn hdb he hpl
 exact⟨@zado X x p pos e es t T r hc hg hm hv ha.out hn hdb he hpl⟩
theorem zmp:∀{X:L2.Cx}{x:PySem.Str}{v:L2.V}{u:PySem.Value}{pos:qj},L2.Gl X x->X.mg x=Option.none->PySem.bootBuiltins x=Option.some u->L2.RelV v u->x≠qw "__name__"->(x==qw "__debug__")=Bool.false->L2.Bx (L2.PE X (qO.Name x pos) (L2.tC v)):=by
 intro X x v u pos hg hm hv r hn hd
 exact⟨@zamu X x v u pos hg hm hv r hn hd⟩
theorem zyj:∀{X:L2.Cx}{a:qO}{pos:qj}{tA:L2.TT},L2.Bx (L2.PT X a tA)->L2.Bx (L2.PW X (qO.BoolOp PySem.BoolOp.Or [a] pos) tA):=by
 intro X a pos tA ha
 exact⟨@zaqa X a pos tA ha.out⟩
theorem zafs:∀{X:L2.Cx}{a b:qO}{pos:qj}{tA tB':L2.TT}{rest:List qO},L2.Bx (L2.PT X a tA)->L2.Bx (L2.PW X (qO.BoolOp PySem.BoolOp.Or (b::rest) pos) tB')->L2.Bx (L2.PW X (qO.BoolOp PySem.BoolOp.Or (a::b::rest) pos) (L2.tOr tA tB')):=by
 intro X a b pos tA tB' rest ha hb
 exact⟨@zatd X a b pos tA tB' rest ha.out hb.out⟩
theorem zbx:∀{X:L2.Cx}{e:qO}{te:L2.TE},L2.Bx (L2.PE X e te)->L2.Bx (L2.PO X (Option.some e) (L2.tPart te)):=by
 intro X e te h
 exact⟨@zadr X e te h.out⟩
theorem zer:∀{X:L2.Cx},L2.Bx (L2.PO X Option.none L2.tNoPart):=by
 intro X
 exact⟨@zadq X⟩
theorem zca:∀{X:L2.Cx}{e:qO}{te:L2.TE}{lo hi:Option qO}{tl th:L2.TO}{pos p2:qj}{r:L2.V->Option Int->Option Int->L2.Hp->L2.VK->Prop},L2.SlR X r->L2.Bx (L2.PE X e te)->L2.Bx (L2.PO X lo tl)->L2.Bx (L2.PO X hi th)->L2.Bx (L2.PE X (e.Subscript (qO.Slice lo hi Option.none p2) pos) (L2.tSl r te tl th)):=by
 intro X e te lo hi tl th pos p2 r hr he hl hu
 exact⟨@zzk X e te lo hi tl th pos p2 r hr he.out hl.out hu.out⟩
theorem zih:∀{X:L2.Cx}{scope:PySem.Scope}{N' own:List PySem.Str}{fr:List Nat}{elt target iter:qO}{ifs:List qO}{cpos:qj}{wi:L2.TI}{g:L2.TG}{tt:L2.TT}{te:L2.TE},L2.CompOk X scope N' own fr->X.calm=Bool.true->L2.Bx (L2.PI X target iter wi)->(∀(cl:List (PySem.Str×PySem.Addr))(C:PySem.Addr)(s:PySem.Shared)(H:L2.Hp)(fp:List PySem.Addr),L2.PG (L2.cxComp X scope N' own cl C s H fp) target g/\L2.PF (L2.cxComp X scope N' own cl C s H fp) ifs tt/\L2.PE (L2.cxComp X scope N' own cl C s H fp) elt te)->(∀(x:PySem.Value),PySem.foldedSetIterable iter X.env x=Pure.pure x)->L2.Bx (L2.PE X (elt.ListComp [{target:=target,iter:=iter,ifs:=ifs,is_async:=0}] scope cpos) (L2.tComp1 wi g tt te own fr)):=by
 intro X scope N' own fr elt target iter ifs cpos wi g tt te c hc hi hb hs
 exact⟨@zain X scope N' own fr elt target iter ifs cpos wi g tt te c hc hi.out hb hs⟩
theorem zfp:∀{X:L2.Cx}{K:qB},X.K=K->∀{T:String}{name:PySem.Str}{id:String}{r:L2.V->List L2.V->L2.Hp->L2.VK->Prop}{o e:qO}{es:List qO}{to:L2.TE}{t:L2.TA}{apos cpos:qj},PySem.PlainAttrs T->PySem.Slot T name id->PySem.typeOf (PySem.Value.builtin id)=Pure.pure (PySem.Value.type "method_descriptor")->L2.MtR X id r->L2.Bx (L2.PE X o to)->L2.Bx (L2.PA X (e::es) t)->PySem.attributeBase o name X.env (PySem.eval o X.env)=PySem.eval o X.env->((((PySem.backTo cpos (qAJ (e::es) X.env)).all λ(x:Bool×PySem.Sem PySem.Value)=>!x.fst)&&(PySem.backToKw cpos (PySem.keywordEach [] X.env)).all λ(x:Option PySem.Str×PySem.Sem PySem.Value)=>x.fst.isSome)&&Decidable.decide (((e::es).length+([]:List Keyword).length+if([]:List Keyword).isEmpty=Bool.true then 0 else 1)<30))=Bool.true->(apos.endLine==cpos.line)=Bool.true->qAJ (e::es) X.env=(Bool.false,PySem.eval e X.env)::qAJ es X.env->((PySem.backTo cpos (qAJ es X.env)).any λ(x:Bool×PySem.Sem PySem.Value)=>x.fst)=Bool.false->L2.Bx (L2.PE X ((o.Attribute name apos).Call (e::es) [] cpos) (L2.tBM K T r to t)):=by
 intro X K hK T name id r o e es to t apos cpos pa slot hty hm ho ha hbase hfew hline hs hplain
 exact⟨@zaei X K hK T name id r o e es to t apos cpos pa slot hty hm ho.out ha.out hbase hfew hline hs hplain⟩
theorem zpt:∀{X:L2.Cx}{a b:qO}{ta tb:L2.TE}{pos:qj}{rest:List qO},L2.Bx (L2.PE X a ta)->L2.Bx (L2.PE X (qO.BoolOp PySem.BoolOp.And (b::rest) pos) tb)->L2.Bx (L2.PE X (qO.BoolOp PySem.BoolOp.And (a::b::rest) pos) (L2.tAndV ta tb)):=by
 intro X a b ta tb pos rest ha hb
 exact⟨@zaqe X a b ta tb pos rest ha.out hb.out⟩
theorem zajw:∀{X:L2.Cx}{pos:qj},L2.Bx (L2.PPs X pos [] [] []):=by
 intro X pos
 exact⟨@zanl X pos⟩
theorem zaft:∀{X:L2.Cx}{pos:qj}{k v:qO}{ks:List (Option qO)}{vs:List qO}{tk tv:L2.TE}{trs:List (L2.TE×L2.TE)},L2.Bx (L2.PE X k tk)->L2.Bx (L2.PE X v tv)->L2.Bx (L2.PPs X pos ks vs trs)->L2.Bx (L2.PPs X pos (Option.some k::ks) (v::vs) ((tk,tv)::trs)):=by
 intro X pos k v ks vs tk tv trs hk hv hr
 exact⟨@zaii X pos k v ks vs tk tv trs hk.out hv.out hr.out⟩
theorem zbq:∀{X:L2.Cx}{K:qB},X.K=K->∀{tg l:qO}{tl:L2.TE},L2.Bx (L2.PE X l tl)->L2.Bx (L2.PI X tg l (L2.iSeq K tl)):=by
 intro X K hK tg l tl hl
 exact⟨@zanx X K hK tg l tl hl.out⟩
theorem zii:∀{X:L2.Cx}{tg a:qO}{ta:L2.TA}{p pos:qj},L2.Gl X (qw "range")->X.mg (qw "range")=Option.none->L2.Bx (L2.PA X [a] ta)->qAJ [a] X.env=[(Bool.false,PySem.eval a X.env)]->L2.Bx (L2.PI X tg ((qO.Name (qw "range") p).Call [a] [] pos) (L2.iRng1 ta)):=by
 intro X tg a ta p pos hg hm ha hs
 exact⟨@zuc X tg a ta p pos hg hm ha.out hs⟩
theorem zhh:∀{X:L2.Cx},L2.Bx (L2.PF X [] L2.tAll):=by
 intro X
 exact⟨@zaqz X⟩
theorem zyk:∀{X:L2.Cx}{j:Nat}{pos:qj},L2.Bx (L2.PE X (qO.Constant PySem.Const.none j pos) (L2.tC L2.V.non)):=by
 intro X j pos
 exact⟨@zapx X j pos⟩
theorem zpu:∀{X:L2.Cx}{pos:qj},L2.Bx (L2.PE X (qO.Dict [] [] pos) L2.tDNewK):=by
 intro X pos
 exact⟨@zaih X pos⟩
theorem zajx:∀{X:L2.Cx}{pos:qj}{keys:List (Option qO)}{values:List qO}{trs:List (L2.TE×L2.TE)},L2.Bx (L2.PPs X pos keys values trs)->(keys.all λ(x:Option qO)=>x.isSome)=Bool.true->keys.length=values.length->keys≠[]->keys.length<=15->L2.Bx (L2.PE X (qO.Dict keys values pos) (L2.tDisp trs)):=by
 intro X pos keys values trs h hall hl h0 h15
 exact⟨@zanm X pos keys values trs h.out hall hl h0 h15⟩
theorem zjf:∀{X:L2.Cx}{o i:qO}{pos:qj}{td ty:L2.TE},X.A.units+1<PySem.cLine->L2.Bx (L2.PE X o td)->L2.Bx (L2.PE X i ty)->L2.NoSl i->L2.Bx (L2.PE X (o.Subscript i pos) (L2.tDGet td ty)):=by
 intro X o i pos td ty hu ho hi hs
 exact⟨@zanj X o i pos td ty hu ho.out hi.out hs⟩
theorem zaae:∀{X:L2.Cx}{a:qO}{pos:qj}{tA:L2.TT},L2.Bx (L2.PT X a tA)->L2.Bx (L2.PW X (qO.BoolOp PySem.BoolOp.And [a] pos) tA):=by
 intro X a pos tA ha
 exact⟨@zamv X a pos tA ha.out⟩
theorem zyl:∀{X:L2.Cx}{a b:qO}{pos:qj}{tA tB':L2.TT}{rest:List qO},L2.Bx (L2.PT X a tA)->L2.Bx (L2.PW X (qO.BoolOp PySem.BoolOp.And (b::rest) pos) tB')->L2.Bx (L2.PW X (qO.BoolOp PySem.BoolOp.And (a::b::rest) pos) (L2.tAnd tA tB')):=by
 intro X a b pos tA tB' rest ha hb
 exact⟨@zaqb X a b pos tA tB' rest ha.out hb.out⟩
theorem zvl:∀{X:L2.Cx}{st:PySem.Stmt},L2.Bx (L2.PS X st L2.tNever):=by
 intro X st
 exact⟨@zahx X st⟩
theorem zaaf:∀{X:L2.Cx}{o i value:qO}{pos pos':qj}{td ty tv:L2.TE},X.A.units+1<PySem.cLine->L2.Bx (L2.PE X o td)->L2.Bx (L2.PE X i ty)->L2.Bx (L2.PE X value tv)->PySem.swapsWith value (Option.some (o.Subscript i pos')) pos.line X.env=Pure.pure Bool.false->L2.Bx (L2.PS X (PySem.Stmt.Assign [o.Subscript i pos'] value pos) (L2.sDPut td ty tv)):=by
 intro X o i value pos pos' td ty tv hu ho hi hv hs
 exact⟨@zank X o i value pos pos' td ty tv hu ho.out hi.out hv.out hs⟩
theorem zpv:∀{X:L2.Cx}{scope:PySem.Scope}{N' own:List PySem.Str}{fr:List Nat}{elt target iter:qO}{ifs:List qO}{cpos:qj}{wi:L2.TI}{g:L2.TG}{tt:L2.TT}{te:L2.TE}{spos py:qj}{i:Nat}{y:PySem.Str},L2.CompOk X scope N' own fr->X.calm=Bool.true->L2.Bx (L2.PI X target iter wi)->(∀(cl:List (PySem.Str×PySem.Addr))(C:PySem.Addr)(s:PySem.Shared)(H:L2.Hp)(fp:List PySem.Addr),L2.PG (L2.cxComp X scope N' own cl C s H fp) target g/\L2.PF (L2.cxComp X scope N' own cl C s H fp) ifs tt/\L2.PE (L2.cxComp X scope N' own cl C s H fp) elt te)->PySem.swapsWith (elt.ListComp [{target:=target,iter:=iter,ifs:=ifs,is_async:=0}] scope cpos) (Option.some (qO.Name y py)) spos.line X.env=Pure.pure Bool.true->X.N.Nodup->X.N[i]?=Option.some y->List.lookup y X.env.scope.names=Option.some PySem.NameKind.local->(∀(x:PySem.Value),PySem.foldedSetIterable iter X.env x=Pure.pure x)->L2.Bx (L2.PS X (PySem.Stmt.Assign [qO.Name y py] (elt.ListComp [{target:=target,iter:=iter,ifs:=ifs,is_async:=0}] scope cpos) spos) (L2.tAsgC1 wi g tt te own fr i)):=by
 intro X scope N' own fr elt target iter ifs cpos wi g tt te spos py i y c hc hi hb hsw hN hy hl hs
 exact⟨@zaio X scope N' own fr elt target iter ifs cpos wi g tt te spos py i y c hc hi.out hb hsw hN hy hl hs⟩
theorem zafu:∀{X:L2.Cx}{K:qB},X.K=K->∀{a b:qO}{ta:L2.TA}{p pos:qj}{elts:List qO}{x1:Nat}{tpos:qj},L2.Gl X (qw "zip")->X.mg (qw "zip")=Option.none->L2.Bx (L2.PA X [a,b] ta)->qAJ [a,b] X.env=(Bool.false,PySem.eval a X.env)::qAJ [b] X.env->((PySem.backTo pos (qAJ [b] X.env)).any λ(x:Bool×PySem.Sem PySem.Value)=>x.fst)=Bool.false->L2.Bx (L2.PI X (qO.Tuple elts x1 tpos) ((qO.Name (qw "zip") p).Call [a,b] [] pos) (L2.iZip K ta)):=by
 intro X K hK a b ta p pos elts x1 tpos hg hm ha hs hs2
 exact⟨@zarw X K hK a b ta p pos elts x1 tpos hg hm ha.out hs hs2⟩
theorem zvm:∀{X:L2.Cx}{K:qB},X.K=K->∀{a:qO}{ta:L2.TA}{p pos:qj}{elts:List qO}{x1:Nat}{tpos:qj},L2.Gl X (qw "enumerate")->X.mg (qw "enumerate")=Option.none->L2.Bx (L2.PA X [a] ta)->qAJ [a] X.env=[(Bool.false,PySem.eval a X.env)]->L2.Bx (L2.PI X (qO.Tuple elts x1 tpos) ((qO.Name (qw "enumerate") p).Call [a] [] pos) (L2.iEnumX K ta)):=by
 intro X K hK a ta p pos elts x1 tpos hg hm ha hs
 exact⟨@zaju X K hK a ta p pos elts x1 tpos hg hm ha.out hs⟩
theorem zhy:∀{X:L2.Cx},L2.Bx (L2.PGs X [] L2.gNil):=by
 intro X
 exact⟨@zamx X⟩
theorem zcb:∀{X:L2.Cx}{e:qO}{es:List qO}{t:L2.TG}{u:L2.TGs},L2.Bx (L2.PG X e t)->L2.Bx (L2.PGs X es u)->List.map (λ(x:Bool×(PySem.Value->PySem.Sem Unit))=>x.snd) (PySem.assignEach (e::es) X.env)=PySem.assign e X.env::List.map (λ(x:Bool×(PySem.Value->PySem.Sem Unit))=>x.snd) (PySem.assignEach es X.env)->L2.Bx (L2.PGs X (e::es) (L2.gCons t u)):=by
 intro X e es t u h1 h2 hs
 exact⟨@zahy X e es t u h1.out h2.out hs⟩
theorem zhz:∀{X:L2.Cx}{K:qB},X.K=K->∀{es:List qO}{k:Nat}{t:L2.TGs}{n:Nat}{pos:qj},X.calm=Bool.true->L2.Bx (L2.PGs X es t)->(PySem.assignEach es X.env).length=n->List.findIdx? (λ(x:Bool×(PySem.Value->PySem.Sem Unit))=>x.fst) (PySem.assignEach es X.env)=Option.none->L2.Bx (L2.PG X (qO.Tuple es k pos) (L2.gTup K n t)):=by
 intro X K hK es k t n pos hc h hn hst
 exact⟨@zano X K hK es k t n pos hc h.out hn hst⟩
theorem zvn:∀{X:L2.Cx}{a:qO}{ta:L2.TE}{pos:qj}{op:PySem.UnaryOp}{r:L2.V->L2.Hp->L2.VK->Prop},L2.UnR X (PySem.unaryOp op) r->L2.Bx (L2.PE X a ta)->L2.Bx (L2.PE X (qO.UnaryOp op a pos) (L2.tUn r ta)):=by
 intro X a ta pos op r ho ha
 exact⟨@zate X a ta pos op r ho ha.out⟩
theorem zafv:∀{X:L2.Cx}{scope:PySem.Scope}{N' own:List PySem.Str}{fr:List Nat}{elt target iter target2 iter2:qO}{ifs ifs2:List qO}{cpos:qj}{wi wi2:L2.TI}{g g2:L2.TG}{tt tt2:L2.TT}{te:L2.TE},L2.CompOk X scope N' own fr->X.calm=Bool.true->L2.Bx (L2.PI X target iter wi)->(∀(cl:List (PySem.Str×PySem.Addr))(C:PySem.Addr)(s:PySem.Shared)(H:L2.Hp)(fp:List PySem.Addr),L2.PG (L2.cxComp X scope N' own cl C s H fp) target g/\L2.PF (L2.cxComp X scope N' own cl C s H fp) ifs tt/\L2.PI (L2.cxComp X scope N' own cl C s H fp) target2 iter2 wi2/\L2.PG (L2.cxComp X scope N' own cl C s H fp) target2 g2/\L2.PF (L2.cxComp X scope N' own cl C s H fp) ifs2 tt2/\L2.PE (L2.cxComp X scope N' own cl C s H fp) elt te)->(∀(x:PySem.Value),PySem.foldedSetIterable iter X.env x=Pure.pure x)->(∀(env:PySem.Env)(x:PySem.Value),PySem.foldedSetIterable iter2 env x=Pure.pure x)->L2.Bx (L2.PE X (elt.ListComp [{target:=target,iter:=iter,ifs:=ifs,is_async:=0},{target:=target2,iter:=iter2,ifs:=ifs2,is_async:=0}] scope cpos) (L2.tComp2 wi g tt wi2 g2 tt2 te own fr)):=by
 intro X scope N' own fr elt target iter target2 iter2 ifs ifs2 cpos wi wi2 g g2 tt tt2 te c hc hi hb hs hs2
 exact⟨@zajl X scope N' own fr elt target iter target2 iter2 ifs ifs2 cpos wi wi2 g g2 tt tt2 te c hc hi.out hb hs hs2⟩
theorem zafw:∀{X:L2.Cx}{o i:qO}{td ty:L2.TE},X.A.units+1<PySem.cLine->L2.Bx (L2.PE X i ty)->L2.Bx (L2.PE X o td)->L2.Bx (L2.PC X PySem.CmpOp.In i o (L2.tDIn ty td)):=by
 intro X o i td ty hu hi ho
 exact⟨@zaqy X o i td ty hu hi.out ho.out⟩
theorem zafx:∀{X:L2.Cx}{a b:qO}{pos:qj}{op:PySem.CmpOp}{t:L2.TE},L2.Bx (L2.PC X op a b t)->PySem.behindInMarks op b=Bool.false->L2.Bx (L2.PE X (a.Compare [op] [b] pos) t):=by
 intro X a b pos op t h h1
 exact⟨@zapz X a b pos op t h.out h1⟩
theorem bv{X:Cx}(i:Nat){x:Str}{pos:Pos}(hN:X.N[i]?=some x:=by rfl)(hv:visB X.env.scope x=true:=by rfl)(hd:(x==("__debug__":Str))=false:=by decide)
  (hcd:(x==("__classdict__":Str))=false:=by decide):Bx (PE X (.Name x pos) (tVar i)):=⟨zade hN (visB.of hv) hd hcd⟩
noncomputable def SatK(fx:Addr->Prop)(H0:Hp)(J:Nat->Prop)(σ0:St)(D:Ends):Out->Prop
 | .nx env=>∀σ H,EnvOk fx H0 env σ H->(∀j,J j->σ[j]?=σ0[j]?)->D.nx σ H
 | .bk env=>∀σ H,EnvOk fx H0 env σ H->(∀j,J j->σ[j]?=σ0[j]?)->D.bk σ H
 | .ct env=>∀σ H,EnvOk fx H0 env σ H->(∀j,J j->σ[j]?=σ0[j]?)->D.ct σ H
 | .rt d fr=>∀v H,Same H0 H->zye fx H0 d fr v H->D.rt v H
noncomputable def SSk(J:Nat->Prop)(ts:TS)(F:SF):Prop:=∀(fx:Addr->Prop)(H0:Hp)(env:DEnv)(σ:St)(H:Hp)(D:Ends),EnvOk fx H0 env σ H->∀o,F env=some o->SatK fx H0 J σ D o->ts D σ H
section
variable{J:Nat->Prop}
theorem zaoi{te:TE}{f:EF}{i:Nat}(h1:SE te f)(hJ:¬J i):SSk J (tAsg te (gName i)) (sSet i f):=by
 intro fx H0 env σ H D h o e q
 unfold sSet at e
 obtain⟨r,er,rfl⟩:=qG.mp e
 exact h1 fx H0 env σ H h r er _ λv H' s hv=>q _ H' (h.put s hv i) λj hj=>qf λz=>hJ (by rw[z];exact hj)
end
end L2
namespace HT
open PySem PySem.Spec PyProof.Rows L2
section
variable{prog:Program}{w:World}{A:Around}{E:Value->Shared->Prop}{s:Shared}
theorem getItem_tuple_whole{t sl:Addr}{items:Array Value}{vl vu:Value}{lo hi:Option Int}{Q:Value->Shared->Prop}(ht:IsTup s.heap t items)(hs:s.heap.IsSliceOf sl vl vu .none)(pl:IsPart vl lo)(pu:IsPart vu hi)
  (hw:sIx items.size 0 lo=0/\sIx items.size items.size hi=items.size) (h:Q (.ref t) s):wpAny (model prog w) A (getItem (.ref t) (.ref sl)) Q E s:=by
 obtain⟨os,hos,hcs,hds⟩:=id hs
 have hTs:s.TypeIs (.ref sl) "slice":=⟨os,hos,hcs⟩
 unfold getItem
 try with_reducible refine qCV ?_
 first|refine qC (qI ?_)|skip
 refine qC (wpAny_sequenceKey ht.typeIs (by decide) ?_)
 refine qC (qAm (name:=Str.ofString "__getitem__") ht.typeIs qAZ
  (qBF qAZ ht.typeIs entry_tuple_getitem ?_ (args_tuple_getitem _ _)))
 show wpAny _ _ (Builtin.Tuple.tupleItemsOf (.ref t) >>=_) _ _ s
 refine qC (tupleItemsOf_ ht ?_)
 refine qC (qCj hTs ?_)
 rw[if_pos (by decide)]
 refine qC (zjn hs pl pu ?_)
 have hyes:(((sIx items.size 0 lo:Nat):Int)==0&&(1:Int)==1&&(sIx items.size items.size hi - sIx items.size 0 lo)==items.size)=true:=by
  rw[hw.1,hw.2];simp
 show wpAny _ _ (if(((sIx items.size 0 lo:Nat):Int)==0&&(1:Int)==1&&(sIx items.size items.size hi - sIx items.size 0 lo)==items.size)=true then _ else _) _ _ s
 rw[if_pos hyes]
 unfold Builtin.Tuple.tupleIsExact
 refine qC (qC (qCj ht.typeIs (qI ?_)))
 rw[if_pos (by decide)]
 refine qC (qCe ?_)
 first
  | exact qI ⟨_,rfl,qI h⟩
  | exact qC (qI (qI ⟨_,rfl,qI h⟩))
  | exact qC (qI (qC (qI (qI ⟨_,rfl,qI h⟩))))
end
end HT
namespace L2
open PySem PySem.Spec PyProof.Rows
noncomputable def rSlW(K:qB):V->Option Int->Option Int->Hp->VK->Prop:=λx lo hi H Q=>∃a xs,x=.ref a/\SqT K H a xs/\
 ((HT.sIx xs.length 0 lo=0/\HT.sIx xs.length xs.length hi=xs.length)->Q (.ref a) H)/\(¬(HT.sIx xs.length 0 lo=0/\HT.sIx xs.length xs.length hi=xs.length)->∀p,H p=none->Q (.ref p) (upd H p (.tup (cutV xs lo hi))))
theorem sl_W{X:Cx}{K:qB}(hK:X.K=K):SlR X (rSlW K):=by
 subst hK
 intro pins s σ H x v vl vu lo hi sl Q I rx hs pl pu h
 obtain⟨a,xs,rfl,hx,q1,q2⟩:=h
 by_cases hw:HT.sIx xs.length 0 lo=0/\HT.sIx xs.length xs.length hi=xs.length
 ·cases rx
  obtain⟨its,r,ht,hz⟩:=I.tuple hx
  have hlen:its.toArray.size=xs.length:=by rw[qQ];exact r.length.symm
  refine⟨"tuple",_,qAZ.lookup,ht.typeIs,?_⟩
  exact HT.getItem_tuple_whole ht hs pl pu (by rw[hlen];exact hw) ⟨.ref a,H,I,rfl,q1 hw⟩
 ·exact zaqo pins s σ H _ v vl vu lo hi sl Q I rx hs pl pu ⟨a,xs,rfl,hx,hw,q2 hw⟩
noncomputable def eSlT(a:EF)(l h:PF'):EF:=λenv=>(a env).bind λx=>(l env).bind λlo=>(h env).bind λhi=>match x.d with
 | .tuple ds=>some ⟨.tuple (cutD ds lo hi),false,x.bs⟩
 | _=>none
theorem zafy{K:qB}{te:TE}{tl th:TO}{f:EF}{fl fh:PF'}(h1:SE te f)(h2:SPt tl fl)(h3:SPt th fh):SE (tSl (rSlW K) te tl th) (eSlT f fl fh):=by
 intro fx H0 env σ H h rr hr Q q
 unfold eSlT at hr
 obtain⟨⟨d,frd,bs⟩,ex,hr⟩:=qA.mp hr
 obtain⟨lo,el,hr⟩:=qA.mp hr
 obtain⟨hi,eh,hr⟩:=qA.mp hr
 cases d with
 | tuple ds=>
  cases hr
  refine h1 fx H0 env σ H h _ ex _ λv H1 s1 v1=>h2 fx H0 env σ H1 (h.up s1) _ el _ λH2 s2=>h3 fx H0 env σ H2 (h.up (s1.trans s2)) _ eh _ λH3 s3=>?_
  have v3:=(v1.later (Same.refl _) (s2.trans s3) λ_ z=>z).rp
  have t3:=(s1.trans s2).trans s3
  obtain⟨p,xs,rfl,hp,r⟩:=zcr v3
  refine⟨p,xs,rfl,SqT.of (zdj hp),λhw=>q _ _ t3 ⟨?_,λz=>by cases z⟩,λ_ l hl=>q _ _ (t3.trans (Same.new hl)) ⟨?_,λz=>by cases z⟩⟩
  ·have e:cutD ds lo hi=ds:=by
    unfold cutD
    rw[r.length,hw.1,hw.2,List.drop_zero,Nat.sub_zero,qC0 (by rw[r.length];exact qL _)]
   show Rp _ (.tuple (cutD ds lo hi)) _
   rw[e]
   exact v3
  ·have hA:=(h.up t3).lims bs
   exact zlq hl (zes hA hl) (r.cut lo hi)
 | _=>cases hr
end L2
namespace PySem
open Sem (wp)
end PySem
namespace L2
open PySem PySem.Spec PyProof.Rows
end L2
namespace PySem
open Sem (wp)
end PySem
namespace L2
open PySem PySem.Spec PyProof.Rows
theorem zajy(t b:Addr)(items items2:Array Value)(n n2:Nat)(dd dd2:Option Addr)(sl sl2:Array (Option Value))(hc0:items.isEmpty=true) :
  Meets (Builtin.«tuple.__add__» ⟨[.ref t,.ref b],[]⟩) (λ_ R s=>s.heap.get? t=some {cls:=.type "tuple",dict:=dd,data:=.seq items n,slots:=sl}/\s.heap.get? b=some {cls:=.type "tuple",dict:=dd2,data:=.seq items2 n2,slots:=sl2}/\R (.ok (.ret (.ref b))) s):=
 .of_wp λprog w A R s h=>by
  obtain⟨hp,g,d,tk,os⟩:=s;obtain⟨hl,hb,h⟩:=h
  have f2:=sub_tuple_tuple
  wp_walk using qBf hl,qBf hb
  exact⟨_,rfl,h⟩
noncomputable def zarx(K:qB):R2:=λx y H Q=>zais K x y H Q\/∃a b ys,x=.ref a/\y=.ref b/\SqT K H a []/\SqT K H b ys/\Q y H
theorem zaoj{X:Cx}{K:qB}(hK:X.K=K):OpR X (binaryOp .Add) (zarx K):=by
 subst hK
 intro pins s σ H x y v u Q I rx ry h
 rcases h with h|⟨a,b,ys,rfl,rfl,ha,hb,q⟩
 ·exact zaeg pins s σ H x y v u Q I rx ry h
 ·cases rx
  cases ry
  obtain⟨its,r1,p1,_⟩:=I.tuple ha
  obtain⟨its2,r2,p2,_⟩:=I.tuple hb
  cases r1
  obtain⟨⟨cls,dd,data,sl⟩,ho,hc,n,hd⟩:=id p1
  obtain⟨⟨cls2,dd2,data2,sl2⟩,ho2,hc2,n2,hd2⟩:=id p2
  simp only at hc hd hc2 hd2
  subst hc hd hc2 hd2
  exact concat_meets ⟨_,ho,rfl⟩ ⟨_,ho2,rfl⟩ qCr seq_tuple_add qB1 qBy (qBs _ _)
   (zajy a b _ its2.toArray n n2 dd dd2 sl sl2 (by rfl)) ⟨ho,ho2,⟨.ref b,H,I,rfl,q⟩⟩
noncomputable def addE:OF
 | .tuple [],.tuple ys=>some (.tuple ys,false)
 | x,y=>addD x y
theorem zaok{K:qB}:SO (zarx K) addE:=by
 intro A H x y dx dy hA rx ry d fr e Q q
 unfold addE at e
 split at e
 ·cases e
  obtain⟨a,xs,rfl,ha,r⟩:=zcr rx
  obtain⟨b,ys',rfl,hb,r'⟩:=zcr ry
  have:xs=[]:=by unfold Rps at r;exact r
  subst this
  exact .inr ⟨a,b,_,rfl,rfl,SqT.of (zdj ha),SqT.of (zdj hb),q _ H (Same.refl _) ry λz=>by cases z⟩
 ·exact .inl (zee A H x y dx dy hA rx ry d fr e Q q)
noncomputable def DnX(P:Program)(w:World)(K:qB)(mg:Str->Option Value)(base:Heap)(x:Str)(ps:List Str)(k:Nat)(sp:Sp):Prop:=
 ∃f fd,FnOk P w K mg base (CXE P w) k f fd ps sp/\mg x=some (.ref f)/\qS K (.ref f)=true/\zom K fd ps []
section
variable{X:Cx}
theorem zkj{x:Str}{p pos:Pos}{e:Expr}{es:List Expr}{t:TA}{ps:List Str}{k:Nat}{sp:Sp}{E:XK}(D:DnX X.prog X.w X.K X.mg X.base x ps k sp)(hx:zrl (CXE X.prog X.w) X E)(hr:Room k X.A)(hg:Gl X x)(ha:Bx (PA X (e::es) t))
  (hdb:(x==("__debug__":Str))=false)(he:starEach (e::es) X.env=(false,eval e X.env)::starEach es X.env)(hpl:(backTo pos (starEach es X.env)).any (·.1)=false) :
  Bx (PE X (.Call (.Name x p) (e::es) [] pos) (tCall sp [] E t)):=by
 obtain⟨f,fd,F,hm,hk,hb⟩:=D
 exact⟨zadn F hr hg hm hk hb .nil hx ha.out hdb he hpl⟩
noncomputable def XcOk(P:Program)(w:World)(K:qB)(mg:Str->Option Value)(base:Heap)(x:Str)(C:Addr):Prop:=
 ∃f fd,XMk K C f/\FnOk P w K mg base CX0 1 f fd ["self","at"] (spI C)/\zom K fd ["self","at"] []/\mg x=some (.ref C)/\PySem.W.findIn K (.ref C) "__class__"=some (some (.builtin "object.__class__"))/\PySem.W.exmOne K (.ref C) (.ref C)=some true
theorem zvo{E:XK}{C:Addr}{x:Str}{np cpos pos:Pos}{a:Expr}{te:TE}(M:XcOk X.prog X.w X.K X.mg X.base x C)(hr:Room 2 X.A)(hex:X.ex=[])(hc:X.calm=true)(hx:Lvs X E)(hg:Gl X x)(ha:Bx (PE X a te))
  (hdb:(x==("__debug__":Str))=false) (he:starEach [a] X.env=[(false,eval a X.env)]):Bx (PS X (.Raise (some (.Call (.Name x np) [a] [] cpos)) none pos) (zaeq C E te)):=by
 obtain⟨f,fd,M,F,hb,hm,_⟩:=M
 exact⟨zaiv M F hr hb hex hc hx hg hm ha.out hdb he⟩
end
theorem zalw{P:Program}{w:World}{K:qB}{mg:Str->Option Value}{base:Heap}{N:List Str}{qual:Str}{scope:Scope}{f:Addr}{cd:Value}{A:Around}{outer:List Env}{s:Shared}{H:Hp}{E:XK}(h0k:HOk P w H s.heap) :
  Lvs (cxOf (CXE P w) P w K mg base N qual scope f cd A outer s H E) (StX H E):=λpins σ H1 s1 e C dx I F q=>zalk I h0k F q
structure ErrAt(H:Hp)(e C dx:Addr)(d:PyData):Prop where
 ex:∃tv,H e=some (.ext (xeD e C dx tv))
 at_:∃v,H dx=some (.xd [("at",v)])/\∀H',Rp H' d v
theorem ErrAt.up{H H':Hp}{e C dx:Addr}{d:PyData}(h:ErrAt H e C dx d)(s:Same H H'):ErrAt H' e C dx d:=
 ⟨let⟨tv,z⟩:=h.ex;⟨tv,s _ _ z⟩,let⟨v,z,r⟩:=h.at_;⟨v,s _ _ z,r⟩⟩
noncomputable def SEe(j:Nat)(C:Addr)(d:PyData)(te:TE)(f:EF):Prop:=∀(fx:Addr->Prop)(H0:Hp)(env:DEnv)(σ:St)(H:Hp)(e dx:Addr),EnvOk fx H0 env σ H->σ[j]?=some (some (.ref e))->ErrAt H e C dx d->∀r,f env=some r->∀Q:VK,(∀v H',Same H H'->ValOk (lim fx env σ r.bs) H H' r v->Q v H')->te σ H Q
noncomputable def SAe(j:Nat)(C:Addr)(d:PyData)(ta:TA)(f:AF):Prop:=∀(fx:Addr->Prop)(H0:Hp)(env:DEnv)(σ:St)(H:Hp)(e dx:Addr),EnvOk fx H0 env σ H->σ[j]?=some (some (.ref e))->ErrAt H e C dx d->∀rs,f env=some rs->∀Q:List V->Hp->Prop,
 (∀vs H',Same H H'->Paired (λr v=>ValOk (lim fx env σ r.bs) H H' r v) rs vs->Q vs H')->ta σ H Q
noncomputable def SSe(j:Nat)(C:Addr)(d:PyData)(ts:TS)(F:SF):Prop:=∀(fx:Addr->Prop)(H0:Hp)(env:DEnv)(σ:St)(H:Hp)(D:Ends)(e dx:Addr),EnvOk fx H0 env σ H->σ[j]?=some (some (.ref e))->ErrAt H0 e C dx d->∀o,F env=some o->SatK fx H0 (λk=>k=j) σ D o->ts D σ H
section
variable{j:Nat}{C:Addr}{d:PyData}
theorem zary{ta:TA}{f:AF}(h:SA ta f):SAe j C d ta f:=λfx H0 env σ H e dx hE _ _=>h fx H0 env σ H hE
theorem zarz:SEe j C d (tXat C (tVar j)) (eC d):=by
 intro fx H0 env σ H e dx h hj he r hr Q q
 cases hr
 obtain⟨tv,he1⟩:=he.ex
 obtain⟨v,hd,rv⟩:=he.at_
 exact⟨_,hj,e,dx,tv,v,rfl,he1,hd,q v H (Same.refl _) ⟨rv _,λz=>by cases z⟩⟩
theorem zafz{K:qB}{c:Addr}{b:Bool}(hk:PySem.W.kitOne K (.ref C) (.ref c)=some b):SEe j C d (tCB (rIsX K C) (tCons (tVar j) (tCons (tC (.ref c)) tNil))) (eC (.bool b)):=by
 intro fx H0 env σ H e dx h hj he r hr Q q
 cases hr
 obtain⟨tv,he1⟩:=he.ex
 exact⟨_,hj,e,dx,tv,b,he1,q _ H (Same.refl _) ⟨zam,λz=>by cases z⟩,.inl ⟨c,rfl,hk⟩⟩
theorem zaol{K:qB}{n:String}{b:Bool}(hk:PySem.W.kitOne K (.ref C) (.type n)=some b):SEe j C d (tCB (rIsX K C) (tCons (tVar j) (tCons (tC (.ty n)) tNil))) (eC (.bool b)):=by
 intro fx H0 env σ H e dx h hj he r hr Q q
 cases hr
 obtain⟨tv,he1⟩:=he.ex
 exact⟨_,hj,e,dx,tv,b,he1,q _ H (Same.refl _) ⟨zam,λz=>by cases z⟩,.inr (.inl ⟨n,rfl,hk⟩)⟩
theorem zaom:SAe j C d tNil aNil:=zary zaj
theorem zox{te:TE}{ta:TA}{f:EF}{g:AF}(h1:SEe j C d te f)(h2:SAe j C d ta g):SAe j C d (tCons te ta) (zaa f g):=by
 intro fx H0 env σ H e dx h hj he rs hr Q q
 unfold zaa at hr
 obtain⟨x,ex,hr⟩:=qA.mp hr
 obtain⟨xs,exs,rfl⟩:=qG.mp hr
 exact h1 fx H0 env σ H e dx h hj he x ex _ λv H1 s1 v1=>h2 fx H0 env σ H1 e dx (h.up s1) hj (he.up s1) xs exs _ λvs H2 s2 vs2=>q (v::vs) H2 (s1.trans s2)
  (.cons (v1.later (Same.refl _) s2 λ_ z=>z) (Paired.mapP vs2 λ_ _ z=>z.later s1 (Same.refl _) λ_ y=>y))
theorem zaon{ta:TA}{f:AF}(ha:SAe j C d ta f):SEe j C d (tTup ta) (eTup f):=by
 intro fx H0 env σ H e dx h hj he rr hr Q q
 unfold eTup at hr
 obtain⟨rs,er,hr⟩:=qA.mp hr
 split at hr
 ·rename_i hl
  cases hr
  refine ha fx H0 env σ H e dx h hj he rs er _ λvs H1 s1 v1=>?_
  have r:=zgc (λi hi=>hi) v1
  have hA:=(h.up s1).lims (bss rs)
  refine⟨zhb (by rw[<- r.length,zhd];exact hl),λp hp=>q _ _ (s1.trans (Same.new hp)) ⟨zlq hp (zes hA hp) r,λz=>by cases z⟩⟩
 ·cases hr
theorem zaoo{te:TE}{f:EF}{i:Nat}(h1:SEe j C d te f)(hJ:¬i=j):SSe j C d (tAsg te (gName i)) (sSet i f):=by
 intro fx H0 env σ H D e dx h hj he o er q
 unfold sSet at er
 obtain⟨r,er',rfl⟩:=qG.mp er
 exact h1 fx H0 env σ H e dx h hj (he.up h.base) r er' _ λv H' s hv=>q _ H' (h.put s hv i) λk hk=>qf λz=>hJ (by rw[z];exact hk)
end
noncomputable def zaul(CS:List Str)(i j:Nat)(w:Str)(n:Nat)(g:GFX)(f:AF)(hd:Str->PyData->SF):SF:=λenv=>(f env).bind λrs=>if rs.length=n then(g (zge rs)).bind λr=>match r with
 | .ok d fr=>some (.nx (putV env i ⟨.tuple [.str w,d],false,bss rs⟩))
 | .rx c d=>if c∈CS then(hd c d (env.set j .no)).bind λo=>match o with
  | .nx e=>some (.nx (e.set j .no))
  | _=>none else none else none
theorem EnvOk.setNo{fx:Addr->Prop}{H0:Hp}{env:DEnv}{σ:St}{H:Hp}(h:EnvOk fx H0 env σ H)(i:Nat)(v:Option V):EnvOk fx H0 (env.set i .no) (σ.set i v) H:=by
 have oN:∀b,own (env.set i .no) (σ.set i v) b->own env σ b:=λb ⟨k,d,h1,h2⟩=>by
  rcases zcf h1 with⟨_,z⟩|⟨n,z⟩
  ·cases z
  ·exact⟨k,d,z,by rw[qf (λy=>n y.symm)]at h2;exact h2⟩
 refine⟨by rw[qAH,qAH];exact h.len,λk d e=>?_,λk d e=>?_,λk l d d' a e1 e2 z1 z2=>?_,h.base,h.fxs⟩
 ·rcases zcf e with⟨_,z⟩|⟨n,z⟩
  ·cases z
  ·obtain⟨u,g1,g2⟩:=h.pl k d z
   exact⟨u,by rw[qf (λy=>n y.symm)];exact g1,Rp.same (Offs.sub λb y=>y.imp id (oN b)) _ g2⟩
 ·rcases zcf e with⟨_,z⟩|⟨n,z⟩
  ·cases z
  ·obtain⟨a,g1,g2,g3,g4⟩:=h.ac k d z
   exact⟨a,by rw[qf (λy=>n y.symm)];exact g1,g2,g3,g4.same (Offs.sub λb y=>y.imp id (oN b)) λo z=>z⟩
 ·rcases zcf e1 with⟨_,z⟩|⟨n1,y1⟩
  ·cases z
  ·rcases zcf e2 with⟨_,z⟩|⟨n2,y2⟩
   ·cases z
   ·rw[qf (λy=>n1 y.symm)]at z1
    rw[qf (λy=>n2 y.symm)]at z2
    exact h.inj k l d d' a y1 y2 z1 z2
theorem zasa{cl:Str->Addr}{CS:List Str}{fx:Addr->Prop}{H0:Hp}{env:DEnv}{σ:St}{H1:Hp}{D:Ends}{j:Nat}{hd:Str->PyData->SF}{ts:Addr->TS}{c:Str}{d:PyData}{o:Out}
  (h1:EnvOk fx H0 env σ H1) (hj:j<env.length) (hc:c∈CS) (hs:∀c∈CS,∀d,SSe j (cl c) d (ts (cl c)) (hd c d)) (e:((hd c d (env.set j .no)).bind λo=>match o with|.nx e=>some (Out.nx (e.set j .no))|_=>none)=some o) (q:Sat fx H0 D o) :
  ∀k od H',RX H1 (cl c) d k od H'->tErr (λC=>∃c∈CS,C=cl c) ts j D σ H1 k od H':=by
 rintro k od H2 ⟨rfl,s2,fl,dx,v,rfl,hdx,rp⟩
 obtain⟨o1,e1,e⟩:=qA.mp e
 refine⟨cl c,dx,rfl,⟨c,hc,rfl⟩,rfl,λea H3 q1 q2 ⟨tv,hea⟩=>?_⟩
 have s3:Same H1 H3:=λb o z=>q1 b o z (s2 b o z)
 have hd3:H3 dx=some (.xd [("at",v)]):=q2 _ _ hdx (λφ z=>by cases z)
 have h3:EnvOk fx H0 (env.set j .no) (σ.set j (some (.ref ea))) H3:=(h1.up s3).setNo j _
 have noown:∀b u,H3 b=some u->(∀xs,u≠.lst xs)->(∀xs,u≠.dK xs)->¬own (env.set j .no) (σ.set j (some (.ref ea))) b:=λb u hb n1 n2 ⟨k,d',y1,y2⟩=>by
  obtain⟨a,g1,g2,g3,g4⟩:=h3.ac k d' y1
  rw[y2]at g1
  cases g1
  cases d' with
  | list ds=>obtain⟨ys,z1,_⟩:=g4;rw[hb]at z1;cases z1;exact n1 _ rfl
  | dict ds=>obtain⟨ys,z1,_⟩:=g4;rw[hb]at z1;cases z1;exact n2 _ rfl
  | _=>exact g4.elim
 refine hs c hc d fx _ _ _ H3 _ ea dx h3.rebase (qAI (by rw[<- h1.len];exact hj)) ⟨⟨tv,by rw[Offs.get (noown _ _ hea (λ_ z=>by cases z) (λ_ z=>by cases z))];exact hea⟩,v,by rw[Offs.get (noown _ _ hd3 (λ_ z=>by cases z) (λ_ z=>by cases z))];exact hd3,λH'=>zpi fl rp⟩ o1 e1 ?_
 cases o1 with
 | nx e2=>
  cases e
  exact λσ' H' h' k=>q _ _ ((h'.unbase h3.floor).setNo j none)
 | bk e2=>cases e
 | ct e2=>cases e
 | rt d2 fr=>cases e
noncomputable def xcB(C:Addr)(cd:ClassData)(sl:Array (Option Value)):Bool:=match cd.mro,sl.toList with
 | .ref C'::bm,[_,_,_,_,some (.builtin n),_]=>C'==C&&!cd.hasDel&&cd.hasDict&&n=="ValueError.__new__"&&bm.contains (.type "ValueError")&&bm.contains (.type "BaseException")&&!bm.contains (.type "AttributeError")&&!bm.contains (.type "NameError")&&zdw bm
 | _,_=>false
theorem zajz{K:qB}{C:Addr}{dd:Option Addr}{cd:ClassData}{sl:Array (Option Value)}(l:K.lookup C=some ⟨.type "type",dd,.cls cd,sl⟩)(h:xcB C cd sl=true):xcIn K C=true/\xcR K C=true:=by
 unfold xcB at h
 unfold xcIn xcR
 rw[l]
 split at h
 ·rename_i C' bm a0 a1 a2 a3 n a5 hm hs
  obtain⟨nm,bs,mro,ns,qn,hd,sn,sub,ab,col,del⟩:=cd
  obtain⟨sl⟩:=sl
  dsimp only at hm hs
  subst hm
  have hs:sl=[a0,a1,a2,a3,some (.builtin n),a5]:=hs
  subst hs
  rw[qx]at h
  exact h
 ·cases h
section
variable{K:qB}{C c:Addr}
theorem ztj{b:Bool}(h1:PySem.W.isClsIn K c=true)(h2:PySem.W.typeIn K (.ref c)=some (.type "type"))(h3:PySem.W.subIn K (.ref C) (.ref c)=some b):PySem.W.kitCls K (.ref C) (.ref c)=some b:=by
 unfold PySem.W.kitCls
 dsimp only
 have h1:(PySem.W.clsIn K c).isSome=true:=h1
 rw[if_pos (by rw[h1,h2];rfl)]
 exact h3
theorem zalx(h1:PySem.W.isClsIn K c=true)(h2:PySem.W.typeIn K (.ref c)=some (.type "type"))(h3:PySem.W.subIn K (.ref C) (.ref c)=some true):PySem.W.kitOne K (.ref C) (.ref c)=some true:=by
 unfold PySem.W.kitOne
 split
 ·rfl
 ·exact ztj h1 h2 h3
theorem zaly(h0:PySem.W.subIn K (.ref C) (.ref C)=some true)(h1:PySem.W.isClsIn K c=true)(h2:PySem.W.typeIn K (.ref c)=some (.type "type"))(h3:PySem.W.subIn K (.ref C) (.ref c)=some false):PySem.W.kitOne K (.ref C) (.ref c)=some false:=by
 unfold PySem.W.kitOne
 split
 ·rename_i e
  have e:C=c:=Value.ref.inj (beq_iff_eq.mp e)
  rw[<- e,h0]at h3
  cases h3
 ·exact ztj h1 h2 h3
theorem zalz(h3:PySem.W.subIn K (.ref C) (.type "ValueError")=some true):PySem.W.kitOne K (.ref C) (.type "ValueError")=some true:=by
 unfold PySem.W.kitOne
 rw[if_neg (by intro e;cases beq_iff_eq.mp e)]
 unfold PySem.W.kitCls
 dsimp only
 rw[if_pos (show PySem.W.kitMeta "ValueError"=true by decide +kernel)]
 exact h3
theorem zama(hb:PySem.W.subIn K (.ref C) (.type "BaseException")=some true)(h1:PySem.W.isClsIn K C=true)(h2:PySem.W.typeIn K (.ref C)=some (.type "type"))(h3:PySem.W.subIn K (.ref C) (.ref C)=some true):PySem.W.exmOne K (.ref C) (.ref C)=some true:=by
 unfold PySem.W.exmOne
 rw[hb,if_pos (by rfl)]
 exact ztj h1 h2 h3
end
structure XKit(P:Program)(w:World)(K:qB)(mg:Str->Option Value)(base:Heap)(cl:Str->Addr)(CS KS:List Str)(B:Str):Prop where
 ok:∀c∈CS,XcOk P w K mg base c (cl c)
 ex:∀c∈CS,PySem.W.exmOne K (.ref (cl c)) (.ref (cl B))=some true
 kit:∀c∈CS,∀k∈KS,PySem.W.kitOne K (.ref (cl c)) (.ref (cl k))=some (decide (c=k))
 val:∀c∈CS,PySem.W.kitOne K (.ref (cl c)) (.type "ValueError")=some true
 mgk:∀k∈KS,mg k=some (.ref (cl k))
 mgB:mg B=some (.ref (cl B))
 mgV:mg "ValueError"=none
theorem zpw{p:Str->Prop}:∀c∈([]:List Str),p c:=λc h=>absurd h (by simp)
theorem zfj{p:Str->Prop}{a:Str}{l:List Str}(h:p a)(t:∀c∈l,p c):∀c∈a::l,p c:=λc hc=>(qc.mp hc).elim (λe=>e▸h) (t c)
section
variable{K:qB}{C c B:Addr}{a b:Str}
theorem kd_t(h:PySem.W.kitOne K (.ref C) (.ref c)=some true)(e:a=b):PySem.W.kitOne K (.ref C) (.ref c)=some (decide (a=b)):=by rw[h,decide_eq_true e]
theorem kd_f(h:PySem.W.kitOne K (.ref C) (.ref c)=some false)(e:a≠b):PySem.W.kitOne K (.ref C) (.ref c)=some (decide (a=b)):=by rw[h,decide_eq_false e]
theorem zamb(hb:PySem.W.subIn K (.ref B) (.type "BaseException")=some true)(h1:PySem.W.isClsIn K B=true)(h2:PySem.W.typeIn K (.ref B)=some (.type "type"))(h3:PySem.W.subIn K (.ref C) (.ref B)=some true):PySem.W.exmOne K (.ref C) (.ref B)=some true:=by
 unfold PySem.W.exmOne
 rw[hb,if_pos (by rfl)]
 exact ztj h1 h2 h3
end
section
variable{X:Cx}
theorem zaag{x:Str}{C:Addr}{pos:Pos}(hg:Gl X x)(hm:X.mg x=some (.ref C))(hd:(x==("__debug__":Str))=false):Bx (PE X (.Name x pos) (tC (.ref C))):=⟨zaog hg hm hd⟩
theorem zaop{C f:Addr}{o:Expr}{pos:Pos}{te:TE}(M:XMk X.K C f)(ho:Bx (PE X o te))(hb:attributeBase o "at" X.env (eval o X.env)=eval o X.env):Bx (PE X (.Attribute o "at" pos) (tXat C te)):=⟨zark M ho.out hb⟩
theorem zpx{K:qB}{C f:Addr}(hK:X.K=K)(M:XMk K C f)(ha:PySem.W.findIn K (.ref C) "__class__"=some (some (.builtin "object.__class__"))):CallR X (.builtin "isinstance") (rIsX K C):=by
 subst hK;exact zajj M ha
theorem zaka{K:qB}{C f:Addr}{o:Expr}{pos:Pos}{te:TE}(hK:X.K=K)(M:XMk K C f)(ho:Bx (PE X o te))(hb:attributeBase o "at" X.env (eval o X.env)=eval o X.env):Bx (PE X (.Attribute o "at" pos) (tXat C te)):=by
 subst hK;exact zaop M ho hb
end
noncomputable abbrev TbH(P:Addr)(q:Str)(H:Hp):Prop:=H P=some (.tabO q)
noncomputable def SEb(P:Addr)(q:Str)(te:TE)(f:EF):Prop:=∀(fx:Addr->Prop)(H0:Hp)(env:DEnv)(σ:St)(H:Hp),TbH P q H->EnvOk fx H0 env σ H->∀r,f env=some r->∀Q:VK,(∀v H',Same H H'->ValOk (lim fx env σ r.bs) H H' r v->Q v H')->te σ H Q
noncomputable def STb(P:Addr)(q:Str)(tt:TT)(f:TF):Prop:=∀(fx:Addr->Prop)(H0:Hp)(env:DEnv)(σ:St)(H:Hp),TbH P q H->EnvOk fx H0 env σ H->∀b,f env=some b->∀Q:Bool->Hp->Prop,(∀H',Same H H'->Q b H')->tt σ H Q
noncomputable def SSb(P:Addr)(q:Str)(ts:TS)(F:SF):Prop:=∀(fx:Addr->Prop)(H0:Hp)(env:DEnv)(σ:St)(H:Hp)(D:Ends),TbH P q H0->EnvOk fx H0 env σ H->∀o,F env=some o->Sat fx H0 D o->ts D σ H
section
variable{P:Addr}{q:Str}
theorem zrt{te:TE}{f:EF}(h:SE te f):SEb P q te f:=λfx H0 env σ H _ hE=>h fx H0 env σ H hE
theorem zasb{tt:TT}{f:TF}(h:ST tt f):STb P q tt f:=λfx H0 env σ H _ hE=>h fx H0 env σ H hE
theorem zcd{ts:TS}{F:SF}(h:SS ts F):SSb P q ts F:=λfx H0 env σ H D _ hE=>h fx H0 env σ H D hE
theorem zru{r:R2}{f:OF}{ta tb:TE}{fa fb:EF}(ho:SO r f)(ha:SEb P q ta fa)(hb:SEb P q tb fb):SEb P q (tOp r ta tb) (eOp f fa fb):=by
 intro fx H0 env σ H hT h rr hr Q qq
 unfold eOp at hr
 obtain⟨x,ex,hr⟩:=qA.mp hr
 obtain⟨y,ey,hr⟩:=qA.mp hr
 obtain⟨⟨d,fr⟩,ez,hr⟩:=qA.mp hr
 cases hr
 refine ha fx H0 env σ H hT h x ex _ λv H1 s1 v1=>hb fx H0 env σ H1 (s1 _ _ hT) (h.up s1) y ey _ λu H2 s2 v2=>?_
 have l1:∀b,lim fx env σ (x.bs++y.bs) b->lim fx env σ x.bs b:=zlp λi hi=>qu _ hi
 have l2:∀b,lim fx env σ (x.bs++y.bs) b->lim fx env σ y.bs b:=zlp λi hi=>qb _ hi
 refine ho (lim fx env σ (x.bs++y.bs)) H2 v u x.d y.d ((h.up (s1.trans s2)).lims _) (v1.later (Same.refl _) s2 l1).rp (v2.later (Same.refl _) (Same.refl _) l2).rp d fr ez _ λw H3 s3 rp fr3=>qq w H3 ((s1.trans s2).trans s3) ⟨znh rp,λe=>?_⟩
 obtain⟨a,g1,g2,g3⟩:=fr3 e
 refine⟨a,g1,(s1.trans s2).free g2,?_⟩
 have nf:zff d=false:=by cases d<;>first|rfl|exact g3.elim
 show zhp (Offs (λb=>lim fx env σ (bsOf d (x.bs++y.bs)) b\/b=a) H3) H3 a d
 rw[show bsOf d (x.bs++y.bs)=x.bs++y.bs by unfold bsOf;rw[if_neg (by rw[nf];decide)]]
 exact g3
theorem zaga{te:TE}{f:EF}(h:SEb P q te f):STb P q (tTest te) (zbt f):=by
 intro fx H0 env σ H hT hE b hb Q qq
 unfold zbt at hb
 obtain⟨⟨d,fr,bs⟩,e,hb⟩:=qA.mp hb
 cases d with
 | bool c=>
  have hb:some c=some b:=hb
  cases hb
  refine h fx H0 env σ H hT hE _ e _ λv H' s v1=>?_
  cases ziz v1.rp
  exact⟨_,rfl,qq H' s⟩
 | _=>cases hb
theorem zaoq{K:qB}{te:TE}{f:EF}(h:SEb P q te f):STb P q (λσ H Q=>te σ H λx H1=>∃k,TruV K x H1 k/\Q k H1) (tTru f):=by
 intro fx H0 env σ H hT hE b hb Q qq
 unfold tTru at hb
 obtain⟨r,e,hb⟩:=qA.mp hb
 exact h fx H0 env σ H hT hE _ e _ λv H' s v1=>⟨b,zarl (Rp.same (Offs.same _ _) _ v1.rp) hb,qq H' s⟩
theorem zasc{t u:TT}{f g:TF}(h:STb P q t f)(k:STb P q u g):STb P q (tOr t u) (tOrF f g):=by
 intro fx H0 env σ H hT hE b hb Q qq
 unfold tOrF at hb
 obtain⟨c,e,hb⟩:=qA.mp hb
 refine h fx H0 env σ H hT hE c e _ λH' s=>?_
 cases c with
 | true=>cases hb;exact iteT (qq H' s)
 | false=>exact iteF (k fx H0 env σ H' (s _ _ hT) (hE.up s) b hb _ λH2 s2=>qq H2 (s.trans s2))
theorem zaor{t:TT}{f:TF}(h:STb P q t f):STb P q (tNot t) (zhc f):=by
 intro fx H0 env σ H hT hE b hb Q qq
 unfold zhc at hb
 obtain⟨c,e,rfl⟩:=qG.mp hb
 exact h fx H0 env σ H hT hE c e _ λH' s=>qq H' s
theorem zby{t u:TS}{f g:SF}(h1:SSb P q t f)(h2:SSb P q u g):SSb P q (tSeq t u) (sSeq f g):=by
 intro fx H0 env σ H D hT h o e qq
 unfold sSeq at e
 obtain⟨o1,e1,e⟩:=qA.mp e
 refine h1 fx H0 env σ H _ hT h o1 e1 ?_
 cases o1 with
 | nx env'=>exact λσ' H' h'=>h2 fx H0 env' σ' H' D hT h' o e qq
 | bk env'=>cases e;exact qq
 | ct env'=>cases e;exact qq
 | rt d fr=>cases e;exact qq
theorem zrv{tc:TT}{t u:TS}{c:TF}{f g:SF}(hc:STb P q tc c)(h1:SSb P q t f)(h2:SSb P q u g):SSb P q (tIfS tc t u) (sIf c f g):=by
 intro fx H0 env σ H D hT h o e qq
 unfold sIf at e
 obtain⟨b,eb,e⟩:=qA.mp e
 refine hc fx H0 env σ H (h.base _ _ hT) h b eb _ λH' s=>?_
 cases b with
 | true=>exact iteT (h1 fx H0 env σ H' D hT (h.up s) o e qq)
 | false=>exact iteF (h2 fx H0 env σ H' D hT (h.up s) o e qq)
theorem zaos{te:TE}{f:EF}(h1:SEb P q te f):SSb P q (tRet te) (sRet f):=by
 intro fx H0 env σ H D hT h o e qq
 unfold sRet at e
 obtain⟨r,er,rfl⟩:=qG.mp e
 refine h1 fx H0 env σ H (h.base _ _ hT) h r er _ λv H' s hv=>qq v H' (h.base.trans s) ⟨Rp.same (Offs.sub λb z=>.inl z) _ hv.rp,λz=>?_⟩
 obtain⟨a,g1,g2,g3⟩:=hv.fr z
 exact⟨a,g1,h.base.free g2,g3.same (Offs.sub λb y=>y.imp (λw=>.inl w) id) λo w=>w⟩
noncomputable def spDT(P:Addr)(q:Str)(n:Nat)(g:GF):Sp:=λvs H Q E=>TbH P q H/\spD n g vs H Q E
theorem zakb{n:Nat}{g:GF}{ta:TA}{f:AF}(ha:SA ta f):SEb P q (tCall (spDT P q n g) [] E0 ta) (zas n g f):=by
 intro fx H0 env σ H hT h rr hr Q qq
 unfold zas at hr
 obtain⟨rs,er,hr⟩:=qA.mp hr
 split at hr
 ·rename_i hn
  obtain⟨⟨d,fr⟩,ez,hr⟩:=qA.mp hr
  cases hr
  refine ha fx H0 env σ H h rs er _ λvs H1 s1 v1=>?_
  have hA:=(h.up s1).lims (bss rs)
  refine⟨s1 _ _ hT,lim fx env σ (bss rs),zge rs,d,fr,by rw[zhd];exact hn,hA,?_,ez,λv H2 s2 rt=>qq v H2 (s1.trans s2) ⟨znh rt.1,λe=>?_⟩⟩
  ·rw[qAB];exact zgc (λi hi=>hi) v1
  ·obtain⟨a,g1,g2,g3⟩:=rt.2 e
   refine⟨a,g1,s1.free g2,?_⟩
   have nf:zff d=false:=by cases d<;>first|rfl|exact g3.elim
   show zhp (Offs (λb=>lim fx env σ (bsOf d (bss rs)) b\/b=a) H2) H2 a d
   rw[show bsOf d (bss rs)=bss rs by unfold bsOf;rw[if_neg (by rw[nf];decide)]]
   exact g3
 ·cases hr
theorem zaty{N:List Str}{n:Nat}{f:SF}{t:TS}(hs:SSb P q t f){vs:List V}{H:Hp}{Q:VK}{E:XK}(h:spDT P q n (fnD N.length f) vs H Q E):t {nx:=λ_ H'=>Q .non H',rt:=Q} (zgi N vs) H:=by
 obtain⟨hT,fx,ds,d,fr,hn,hf,r,g,k⟩:=h
 unfold fnD at g
 split at g
 ·rename_i d' fr' eo
  cases g
  exact hs fx H _ _ H _ hT (zgf hf r) _ eo λv H' s rt=>k v H' s rt
 ·rename_i e' eo
  cases g
  exact hs fx H _ _ H _ hT (zgf hf r) _ eo λσ' H' h'=>k .non H' h'.base ⟨zgt,λz=>by cases z⟩
 ·cases g
end
noncomputable def zakc:HO->Bool
 | .lst _=>true
 | .tup _=>true
 | .dK _=>true
 | _=>false
mutual
theorem zagb{G G':Hp}(h:∀b o,G b=some o->zakc o=true->G' b=some o):∀(d:PyData){v:V},Rp G d v->Rp G' d v
 | .none,v,r=>by unfold Rp at r ⊢;exact r
 | .bool b,v,r=>by unfold Rp at r ⊢;exact r
 | .int i,v,r=>by unfold Rp at r ⊢;exact r
 | .str x,v,r=>by unfold Rp at r ⊢;exact r
 | .list ds,v,r=>by
  unfold Rp at r ⊢
  obtain⟨a,xs,h1,h2,h3⟩:=r
  exact⟨a,xs,h1,h a _ h2 rfl,rps_dat h ds h3⟩
 | .tuple ds,v,r=>by
  unfold Rp at r ⊢
  obtain⟨a,xs,h1,h2,h3⟩:=r
  exact⟨a,xs,h1,h a _ h2 rfl,rps_dat h ds h3⟩
 | .dict ds,v,r=>by
  unfold Rp at r ⊢
  obtain⟨a,xs,h1,h2,h3⟩:=r
  exact⟨a,xs,h1,h a _ h2 rfl,rpd_dat h ds h3⟩
theorem rps_dat{G G':Hp}(h:∀b o,G b=some o->zakc o=true->G' b=some o):∀(ds:List PyData){vs:List V},Rps G ds vs->Rps G' ds vs
 | [],vs,r=>by unfold Rps at r ⊢;exact r
 | d::ds,vs,r=>by
  unfold Rps at r ⊢
  obtain⟨v,vs',h1,h2,h3⟩:=r
  exact⟨v,vs',h1,zagb h d h2,rps_dat h ds h3⟩
theorem rpd_dat{G G':Hp}(h:∀b o,G b=some o->zakc o=true->G' b=some o):∀(ds:List (PyData×PyData)){vs:List (Key×V)},Rpd G ds vs->Rpd G' ds vs
 | [],vs,r=>by unfold Rpd at r ⊢;exact r
 | (k,d)::ds,vs,r=>by
  unfold Rpd at r ⊢
  obtain⟨k',v,vs',h1,h0,h2,h3⟩:=r
  exact⟨k',v,vs',h1,h0,zagb h d h2,rpd_dat h ds h3⟩
end
noncomputable def ResW(cl:Str->Addr)(H:Hp)(Q:VK)(E:XK):ResX->Prop
 | .ok _ _=>∀v H',Same H H'->Q v H'
 | .rx c d=>∀k od H',RX H (cl c) d k od H'->E k od H'
noncomputable def tolD(cl:Str->Addr)(g:ResX->Option PyData):(Hp->VK->XK->Prop)->Hp->VK->Prop:=λR H Q=>∃(fx:Addr->Prop)(r:ResX)(d:PyData),(∀b,fx b->∃o,H b=some o)/\(∀H' Q' E',Same H H'->ResW cl H' Q' E' r->R H' Q' E')/\g r=some d/\∀v H',Same H H'->Rp (Offs fx H') d v->Q v H'
noncomputable def zakd:List Nat->AF
 | []=>aNil
 | j::js=>zaa (eVar j) (zakd js)
noncomputable def zaot:List Nat->TA
 | []=>tNil
 | j::js=>tCons (tVar j) (zaot js)
theorem zagc:∀js:List Nat,SA (zaot js) (zakd js)
 | []=>zaj
 | j::js=>zab (zac j) (zagc js)
theorem zvp:∀(js:List Nat){σ:St}{H:Hp}{Q:List V->Hp->Prop},zaot js σ H Q->∃vs:List V,(js.map λj=>σ[j]?)=vs.map (λv=>some (some v))/\Q vs H
 | [],σ,H,Q,h=>⟨[],rfl,h⟩
 | j::js,σ,H,Q,h=>by
  obtain⟨v,e,h⟩:=h
  obtain⟨vs,e2,h2⟩:=zvp js h
  exact⟨v::vs,by rw[qd,qd,e,e2],h2⟩
noncomputable def zlg(js:List Nat)(n:Nat)(gf:GFX)(a:AF)(g:ResX->Option PyData):EF:=λenv=>(zakd js env).bind λcs=>(a ((zge cs).map .pl)).bind λrs=>if rs.length=n then(gf (zge rs)).bind λr=>(g r).map λd=>⟨d,false,bsOf d (bss cs)⟩else none
theorem zaou{fx:Addr->Prop}{H:Hp}{ds:List PyData}{vs:List V}(hf:∀b,fx b->∃o,H b=some o)(r:Rps (Offs fx H) ds vs):EnvOk fx H (ds.map .pl) (vs.map some) H:=by
 have:=zgf (N:=List.replicate ds.length ("":Str)) hf r
 unfold zle zgi at this
 rw[qAT,Nat.sub_self,<- r.length,Nat.sub_self]at this
 simpa using this
theorem zij{P:Addr}{q:Str}{cl:Str->Addr}{js:List Nat}{n:Nat}{gf:GFX}{ta:TA}{a:AF}{g:ResX->Option PyData}(ha:SA ta a) :
  SEb P q (zafg P q js (λH E=>tCall (spX cl n gf) [] (StX H E) ta) (tolD cl g)) (zlg js n gf a g):=by
 intro fx H0 env σ H hT h rr hr Q qq
 unfold zlg at hr
 obtain⟨cs,ec,hr⟩:=qA.mp hr
 obtain⟨rs,er,hr⟩:=qA.mp hr
 split at hr
 ·rename_i hn
  obtain⟨r,eg,hr⟩:=qA.mp hr
  obtain⟨d,ed,rfl⟩:=qG.mp hr
  refine⟨hT,?_⟩
  obtain⟨vs,ev,Hx,sx,hv⟩:=zvp js (zagc js fx H0 env σ H h cs ec (λvs H'=>∃Hx,Same H Hx/\Hx=H'/\Rps (Offs (lim fx env σ (bss cs)) H') (zge cs) vs) λvs H' s v1=>⟨H',s,rfl,zgc (λi hi=>hi) v1⟩)
  obtain⟨rfl,hv⟩:=hv
  refine⟨vs,ev,λH1 hH1=>?_⟩
  have s1:Same Hx H1:=by
   rcases hH1 with rfl|⟨c,nc,rfl⟩
   ·exact Same.refl _
   ·exact λb o e=>by rw[zar (λz=>by rw[z,nc]at e;cases e)];exact e
  have hT1:H1 P=some (.tabO q):=s1 _ _ hT
  have hA:=(h.up s1).lims (bss cs)
  let fx':Addr->Prop:=λb=>lim fx env σ (bss cs) b/\hidB P H1 b=false
  have fxs:∀b,fx' b->∃o,hidP P H1 b=some o:=λb ⟨z1,z2⟩=>by
   obtain⟨o,e⟩:=hA b z1
   exact⟨o,by unfold hidP;rw[z2];exact e⟩
  have dat:∀(H':Hp),Same (hidP P H1) H'->∀b o,Offs (lim fx env σ (bss cs)) Hx b=some o->zakc o=true->Offs fx' H' b=some o:=λH' s' b o e hd=>by
   obtain⟨nl,e⟩:=Offs.of e
   have e1:=s1 _ _ e
   have nb:b≠P:=λz=>by rw[z,hT1]at e1;cases e1;cases hd
   rw[Offs.get (λz=>nl z.1)]
   exact s' _ _ (zmm e1 nb (λz=>by rw[z]at hd;cases hd))
  refine⟨λH' Q' E'=>Same (hidP P H1) H'/\ResW cl H' Q' E' r,λH' Q' E' ⟨s',rw'⟩=>?_,fx',r,d,fxs,λH' Q' E' s' w=>⟨s',w⟩,ed,λv H' s' rp hn'=>?_⟩
  ·have hE:=zaou (fx:=fx') (H:=H') (λb z=>let⟨o,e⟩:=fxs b z;⟨o,s' _ _ e⟩) (rps_dat (dat H' s') _ hv)
   refine ha fx' H' _ _ H' hE rs er _ λws H2 s2 v2=>?_
   refine⟨lim fx' ((zge cs).map .pl) (vs.map some) (bss rs),zge rs,r,by rw[zhd];exact hn,(hE.up s2).lims _,by rw[qAB];exact zgc (λi hi=>hi) v2,eg,?_⟩
   cases r with
   | ok d' fr'=>exact λv H3 s3 _=>rw' v H3 (s2.trans s3)
   | rx c d'=>exact λk od H3 z=>RX.stx (H0:=H') rw' (RX.base s2 z)
  ·have key:∀b o,H' b=some o->resP P H1 H' b=some o:=λb o e=>by
    cases hb:hidB P H1 b with
    | true=>rw[hn' b hb]at e;cases e
    | false=>rw[zmn hb];exact e
   refine qq v _ (λb o e=>?_) ⟨znh (zagb (λb o e _=>?_) _ rp),λz=>by cases z⟩
   ·have e1:=s1 _ _ e
    cases hb:hidB P H1 b with
    | true=>rw[zafb hb];exact e1
    | false=>exact key b o (s' _ _ (by unfold hidP;rw[hb];exact e1))
   ·obtain⟨nf,e⟩:=Offs.of e
    have hb:hidB P H1 b=false:=by
     cases z:hidB P H1 b with
     | false=>rfl
     | true=>rw[hn' b z]at e;cases e
    rw[Offs.get (λz=>nf ⟨z,hb⟩)]
    exact key b o e
 ·cases hr
theorem zrw{env:Env}:∀(l:List (Str×NameKind))(acc:List (Str×Addr)),(∀p∈l,p.2=.free->∃c,env.cells.lookup p.1=some c)->
  (forIn l acc (λ(x:Str×NameKind) (r:List (Str×Addr))=>match x with|(name,kind)=>if(kind==NameKind.free)=true then do let c <- cellOf env name;pure (ForInStep.yield ((name,c)::r))else pure (ForInStep.yield r)):Sem (List (Str×Addr))) =
   pure ((l.filterMap λp=>if p.2==.free then(env.cells.lookup p.1).map λc=>(p.1,c)else none).reverse++acc)
 | [],acc,_=>rfl
 | (x,k)::l,acc,h=>by
  rw[qB5,qBp]
  have ih:=λacc=>zrw (env:=env) l acc λp hp=>h p (qK _ hp)
  cases hk:(k==NameKind.free)with
  | true=>
   obtain⟨c,e⟩:=h (x,k) (by simp) (by simpa using hk)
   have e2:cellOf env x=pure c:=by
    have e':env.cells.lookup x=some c:=e
    unfold cellOf
    rw[e']
   dsimp only
   rw[hk,if_pos rfl,if_pos rfl,e2,pure_bind,pure_bind]
   dsimp only
   rw[ih,show env.cells.lookup x=some c from e]
   simp
  | false=>
   dsimp only
   rw[hk,if_neg (by decide),if_neg (by decide),pure_bind]
   exact ih acc
theorem zacg{sc:Scope}{env:Env}(h:∀p∈sc.names,p.2=.free->∃c,env.cells.lookup p.1=some c):closureFor sc env=pure (clF sc env):=by
 unfold closureFor clF
 have:=zrw (env:=env) sc.names [] h
 rw[qAB]at this
 show(forIn sc.names [] _ >>=λr=>pure r)=_
 rw[bind_pure]
 exact this
noncomputable def DnT(P:Program)(w:World)(K:qB)(mg:Str->Option Value)(base:Heap)(x pr:Str)(k j:Nat)(tol:(Hp->VK->XK->Prop)->Hp->VK->Prop):Prop:=
 ∃f fd,ToldOk P w K mg base k j f fd pr tol/\mg x=some (.ref f)/\qS K (.ref f)=true/\zom K fd [pr] []
section
variable{X:Cx}
noncomputable def frB(sc so:Scope):Bool:=sc.names.all λq=>(q.2 != .free)||(so.names.lookup q.1==some .cell)
theorem frB.of{sc so:Scope}(h:frB sc so=true):∀q∈sc.names,q.2=.free->so.names.lookup q.1=some .cell:=λq hq hf=>by
 have:=qAV.mp h q hq
 rw[hf]at this
 simpa using this
theorem zik{k j:Nat}{c P:Addr}{pr:Str}{tol:(Hp->VK->XK->Prop)->Hp->VK->Prop}{tn:Str}{p lp pos:Pos}{params:Arguments}{body:Expr}{scope:Scope}{NB:List Str}{js:List Nat}{tb:Hp->XK->TE}
  (D:DnT X.prog X.w X.K X.mg X.base tn pr k (j+1) tol)(hr:Room k X.A)(hg:Gl X tn)(hcode:X.env.code=.ref c)(C:PySem.W.CodeHd X.base c P)(hbm:BM X.mg X.base)(S:LamScope NB scope)(hdef:defaultsOf params X.env=([],[]))
  (hbind:∀(cl:List (Str×Addr)) (pm cd ctv:Value),bindArgs (PySem.W.kla_fn "<lambda>" (lamQ X) params body scope cl pm cd ctv) ⟨[],[]⟩=pure [])
  (hfr:frB scope X.env.scope=true)
  (hjs:js.map (λi=>X.N[i]?)=NB.map some)
  (hB:∀(A:Around)(outer:List Env)(s:Shared)(H:Hp)(E:XK)(g c':Addr)(cl:List (Str×Addr)),Room j (A.deeper (PySem.W.envX (lamQ X) scope s.heap.objs.size g (.ref c') cl))->HOk X.prog X.w H s.heap->Bx (PE (ztc (CXE X.prog X.w) X.prog X.w X.K X.mg X.base NB (lamQ X) scope g (.ref c') cl A outer s H E) body (tb H E)))
  (hdb:(tn==("__debug__":Str))=false)(he:starEach [.Lambda params body scope lp] X.env=(false,eval (.Lambda params body scope lp) X.env)::starEach [] X.env)(hpl:(backTo pos (starEach [] X.env)).any (·.1)=false) :
  Bx (PE X (.Call (.Name tn p) [.Lambda params body scope lp] [] pos) (zafg P (lamQ X) js tb tol)):=by
 obtain⟨f,fd,T,hm,hk,hb⟩:=D
 have hfree:∀q∈scope.names,q.2=.free->X.env.kindOf q.1=some .cell:=frB.of hfr
 refine⟨λpins s σ H Q I h=>?_⟩
 exact zaji T hr hg hm hk hb hcode C hbm S (zacg λp hp hf=>I.ok.has p.1 (.inl (hfree p hp hf))) hdef hbind hfree hjs (λA outer s H E g c' cl rm ok=>(hB A outer s H E g c' cl rm ok).out) hdb he hpl pins s σ H Q I h
theorem zake{cl:Str->Addr}{CS KS:List Str}{g:Addr}{k i:Nat}{R:Hp->VK->XK->Prop}{an n cn:Str}{p cpos pos epos hpos cp:Pos}{st0:Stmt}{suite:List Stmt}{ts:Addr->TS}{j:Nat}
  (As:Asks X.prog X.w X.K X.mg X.base (CXE X.prog X.w) k X.fs X.s₀ X.H₀ g R)(XK:XKit X.prog X.w X.K X.mg X.base cl CS KS cn)(hex0:X.ex=[])(hr:Room k X.A)(hg:PySem.W.FnAt g X.s₀.heap)(hn0:X.H₀ g=none)
  (hi:X.N[i]?=some an)(hv:visB X.env.scope an=true)
  (hN:X.N.Nodup)(hj:X.N[j]?=some n)(hn:X.env.scope.names.lookup n=some .local)
  (hst:X.stack=X.env::X.outer)(hfr:X.env.frame=some X.env.locals)(hgc:Gl X cn)
  (hs:∀C e f,XMk X.K C f->PySem.W.findIn X.K (.ref C) "__class__"=some (some (.builtin "object.__class__"))->Bx (PSs (X.hold e) (st0::suite) (ts C)))
  (hdb:(an==("__debug__":Str))=false)(hda:(an==("__classdict__":Str))=false)(hdc:(cn==("__debug__":Str))=false)
  (hsw:swapsWith (.Call (.Name an p) [] [] cpos) none epos.line X.env=pure false) :
  Bx (PS X (.Try [.Expr (.Call (.Name an p) [] [] cpos) epos] [.ExceptHandler (some (.Name cn cp)) (some n) (st0::suite) hpos] [] [] pos) (zaod (λC=>∃c∈CS,C=cl c) g R ts i j)):=by
 refine⟨zaoe As hex0 hr hg hn0 hi (visB.of hv) hN hj hn hst hfr hgc XK.mgB (λC ⟨c,hc,e⟩=>by subst e;exact XK.ex c hc) (λC ⟨c,hc,e⟩ ea=>?_) hdb hda hdc hsw⟩
 subst e
 obtain⟨f2,_,M,_,_,_,hcl,_⟩:=XK.ok c hc
 exact(hs _ ea f2 M hcl).out
end
noncomputable def zakf(CS:List Str)(j:Nat)(r:ResX)(hd:Str->PyData->SF):SF:=λenv=>match r with
 | .ok _ _=>some (.nx env)
 | .rx c d=>if c∈CS then(hd c d (env.set j .no)).bind λo=>match o with
  | .nx e=>some (.nx (e.set j .no))
  | _=>none else none
noncomputable def zakg(n i j:Nat)(CS:List Str)(E0:EF)(hd:Str->PyData->SF):ResX->Option PyData:=λr=>match(sSeq (sSet i E0) (sSeq (zakf CS j r hd) (zpm i))) (List.replicate n .no)with
 | some (.rt d _)=>some d
 | _=>none
theorem zasd{cl:Str->Addr}{CS:List Str}{N:List Str}{i j:Nat}{te0:TE}{E0:EF}{ts:Addr->TS}{hd:Str->PyData->SF}(hi:i≠0)(hj:j<N.length)(hN:1<=N.length)(h0:SE te0 E0)(hs:∀c∈CS,∀d,SSe j (cl c) d (ts (cl c)) (hd c d)){H:Hp}{g:Addr}{R:Hp->VK->XK->Prop}{Q:VK}
  (h:tolD cl (zakg N.length i j CS E0 hd) R H Q):tSeq (tAsg te0 (gName i)) (tSeq (zaod (λC=>∃c∈CS,C=cl c) g R ts 0 j) (tRet (tVar i))) {nx:=λ_ H'=>Q .non H',rt:=Q} (zgi N [.ref g]) H:=by
 obtain⟨fx,r,d,hf,hR,hg,hq⟩:=h
 unfold zakg at hg
 split at hg
 ·rename_i d' fr eo
  cases hg
  have hl:(zgi N [V.ref g]).length=N.length:=by
   unfold zgi
   rw[qM,qF,qAT]
   show 1+(N.length - 1)=N.length
   omega
  have no:∀(k:Nat)(sl:Sl),(List.replicate N.length Sl.no)[k]?=some sl->sl=.no:=λk sl e=>qBT (qAj e)
  have hE:EnvOk fx H (List.replicate N.length .no) (zgi N [.ref g]) H:=⟨by rw[qAT,hl],λk d e=>by(have:=no k _ e;cases this),λk d e=>by(have:=no k _ e;cases this),λk l d e a h1=>by(have:=no k _ h1;cases this),Same.refl _,hf⟩
  unfold sSeq at eo
  obtain⟨o1,e1,eo⟩:=qA.mp eo
  refine zaoi (J:=λk=>k=0) h0 hi fx H _ _ H _ hE o1 e1 ?_
  cases o1 with
  | nx env1=>
   intro σ1 H1 hE1 hk1
   have hl1:env1.length=N.length:=by
    unfold sSet at e1
    obtain⟨r1,_,e1⟩:=qG.mp e1
    cases e1
    have:=hE1.len
    unfold putV
    rw[qAH]
    have fz:∀(bs:List Nat)(env:DEnv),(frzs env bs).length=env.length:=λbs=>by
     induction bs with
     | nil=>intro env;rfl
     | cons b bs ih=>intro env;show(frzs (frz1 env b) bs).length=_;rw[ih,zzv]
    rw[fz,qAT]
   dsimp only at eo
   obtain⟨o2,e2,eo⟩:=qA.mp eo
   have hv:σ1[0]?=some (some (.ref g)):=(hk1 0 rfl).trans rfl
   have beh:∀env2 σ2 H2,EnvOk fx H env2 σ2 H2->zpm i env2=some (.rt d fr)->(tRet (tVar i)) {nx:=λ_ H'=>Q .non H',rt:=Q} σ2 H2:=λenv2 σ2 H2 hE2 e3=>znk fx H env2 σ2 H2 _ hE2 _ e3 λv H3 s3 rt=>hq v H3 s3 rt.1
   refine⟨hv,hR H1 _ _ hE1.base ?_⟩
   unfold zakf at e2
   cases r with
   | ok d0 f0=>
    cases e2
    exact λv H2 s2=>beh env1 σ1 H2 (hE1.up s2) eo
   | rx c d0=>
    dsimp only at e2
    split at e2
    ·rename_i hc
     refine zasa (D:={nx:=λσ' H'=>(tRet (tVar i)) {nx:=λ_ H'=>Q .non H',rt:=Q} σ' H',rt:=Q}) hE1 (by rw[hl1];exact hj) hc hs e2 ?_
     obtain⟨o3,_,e2⟩:=qA.mp e2
     cases o3 with
     | nx env3=>cases e2;exact λσ3 H3 hE3=>beh _ σ3 H3 hE3 eo
     | bk _=>cases e2
     | ct _=>cases e2
     | rt _ _=>cases e2
    ·cases e2
  | bk _=>unfold sSet at e1;obtain⟨_,_,e1⟩:=qG.mp e1;cases e1
  | ct _=>unfold sSet at e1;obtain⟨_,_,e1⟩:=qG.mp e1;cases e1
  | rt _ _=>unfold sSet at e1;obtain⟨_,_,e1⟩:=qG.mp e1;cases e1
 ·cases hg
theorem zase{P:Program}{w:World}{K:qB}{mg:Str->Option Value}{base:Heap}{x qual:Str}{st:Stmt}{f c:Addr}{fd:qt}{N ps:List Str}{k:Nat}{sp:Sp}(Fu:Fun K x qual st f fd)(S:FnScope N ps (zai st))(len:∀vs H Q E,sp vs H Q E->vs.length=ps.length)(hc:fd.code=.ref c)
  (hbody:∀(A:Around)(outer:List Env)(s:Shared)(H:Hp)(vs:List V)(Q:VK)(E:XK),Room k (A.deeper (envOfC qual (zai st) s.heap.objs.size f (.ref c)))->sp vs H Q E->
   ∃t,PSs (cxOf CX0 P w K mg base N qual (zai st) f (.ref c) A outer s H E).nox (zbd st) t/\t {nx:=λ_ H'=>Q .non H',rt:=Q} (zgi N vs) H):FnOk P w K mg base CX0 (k+1) f fd ps sp:=by
 refine⟨len,λA outer s H args us vs Q E hr e0 hb r hsp=>?_⟩
 obtain⟨oc,od,kV,doc,pm,an,cdv,ct,osl,rfl,lk,hcd⟩:=Fu.ex
 have hc':cdv=.ref c:=hc
 subst hc'
 have KX:K.In s.heap:=e0.mod.kin.keeps λb o e=>(e0.bs b o e).1
 refine qBk hr.depth (KX _ _ lk) rfl S.co S.gen rfl (qBl KX hcd) (hb _ _ _ _ (qBR S.kind (λ⟨n,v⟩ hy=>?_) λenv he s1 x=>?_))
 ·rcases S.par n (qA9 hy).1 with q|q
  ·exact .inl q
  ·exact .inr ⟨q,qBD _ _ _ (.inl q)⟩
 ·subst he
  obtain⟨t,ht,hq⟩:=hbody A outer s H vs Q E (hr.deeper _) hsp
  have I:=zlz (CX:=CX0) (E:=E) S hr.hd e0 (len _ _ _ _ hsp) r x
  refine⟨(e0.mod.nolimit.keeps λb o e=>(e0.bs b o e).1).keeps x.toInCall.keep,qCk (qA7 (ht [] s1 (zgi N vs) H _ (I.wish _) hq) (λfl s' hs=>?_) λe s' hs=>hs.elim)⟩
  cases fl with
  | ret u=>obtain⟨v,σ',H',J,rv,q⟩:=hs;exact⟨v,H',J.os,J.bare,J.base,J.hok,rv,q⟩
  | next=>obtain⟨σ',H',J,q⟩:=hs;exact⟨.non,H',J.os,J.bare,J.base,J.hok,rfl,q⟩
  | brk=>obtain⟨_,_,_,q⟩:=hs;exact q.elim
  | cont=>obtain⟨_,_,_,q⟩:=hs;exact q.elim
theorem zakh{P:Addr}{q:Str}{n:Nat}{g:GF}{vs:List V}{H:Hp}{Q:VK}{E:XK}(h:spDT P q n g vs H Q E):vs.length=n:=zcn h.2
noncomputable def zaah(K:qB)(P:Addr)(q:Str):Sp:=λvs H Q _=>∃(a:Addr)(ns:List Int),vs=[.ref a]/\SqL K H a (ns.map V.int)/\TbH P q H/\∀H',Same H H'->Q (.bl true) H'
theorem zaki{P:Addr}{q:Str}{t:TS}{F:SF}(hs:SSb P q t F){env:DEnv}{σ:St}{H1:Hp}{Q:VK}{nx:St->Hp->Prop}(hT:TbH P q H1)(hE:EnvOk (λ_=>False) H1 env σ H1)(e:F env=some (.rt (.bool true) false))(k:∀H',Same H1 H'->Q (.bl true) H'):t {nx:=nx,rt:=Q} σ H1:=by
 refine hs _ H1 env σ H1 _ hT hE _ e λv H s rt=>?_
 rw[show v=.bl true from ziz rt.1]
 exact k H s
theorem zaov{P:Program}{w:World}{K:qB}{mg mb:Str->Option Value}{CX:CXT}{k:Nat}{fa a c TP:Addr}{q:Str}{fd:qt}{x:Str}{sp:Sp}{s₁:Shared}{vs:List Value}{ns:List Int}
  (KX:K.In s₁.heap)(hns:s₁.heap.Ns qN mg)(hb:s₁.heap.Ns builtinsNs mb)(hbb:∀x:Str,x≠"__name__"->mb x=bootBuiltins x)(hlim:s₁.heap.NoLimit)(hg:s₁.gens=#[])
  (ha:s₁.heap.get? a=some {cls:=.type "list",data:=.seq vs.toArray}) (hi:IntsAre vs ns) (hl:ns.length<=qV) (hr:Room k callerA)
  (hT:PySem.W.CodeHd s₁.heap c TP)(hT0:s₁.heap.get? TP=some (PySem.W.tabObj #[]))(nT:PySem.W.noTabs K=true)(hbm:BM mg s₁.heap)
  (F:∀base:Heap,K.In base->base.Ns qN mg->BM mg base->PySem.W.CodeHd base c TP->FnOk P w K mg base CX k fa fd [x] sp)(hbind:∀(s:Shared) (u:Value),BindsTo s fd ⟨[u],[]⟩ [(x,u)])
  (hsp:∀H:Hp,TbH TP q H->SqL K H a (ns.map V.int)->sp [.ref a] H (λv H'=>v=.bl true/\TbH TP q H') λ_ _ _=>False)
  (hCX:∀H e s',CX [] H s₁ (λ_ _ _=>False) e s'->False) :
  codeAny (model P w) callerA (.call (.ref fa) ⟨[.ref a],[]⟩) (λr s'=>r=.ok (.ret (.bool true))/\OldK s₁.heap s'.heap/\s'.os=s₁.os/\AllBare s'.gens) s₁:=by
 have rv:=zup hi
 have lenV:=hi.length
 have naT:a≠TP:=λz=>by rw[z,hT0]at ha;cases ha
 have KT:K.lookup TP=none:=by
  cases e:K.lookup TP with
  | none=>rfl
  | some o=>
   have e1:=KX _ _ e
   rw[hT0]at e1
   cases e1
   have h2:=qAV.mp nT _ (PySem.W.mem_of_lookupK e)
   exact absurd (show false=true from h2) qP
 have core:∀H:Hp,TbH TP q H->SqL K H a (ns.map V.int)->HOk P w H s₁.heap->(∀b,H b≠none->b=a\/b=TP)->(H a≠none->K.lookup a=none/\∃o xs,H a=some (.frz o (.lst xs)))->
   codeAny (model P w) callerA (.call (.ref fa) ⟨[.ref a],[]⟩) (λr s'=>r=.ok (.ret (.bool true))/\OldK s₁.heap s'.heap/\s'.os=s₁.os/\AllBare s'.gens) s₁:=by
  intro H hTb hS hok hA hK
  have free:∀{b:Addr}{o:Obj},s₁.heap.get? b=some o->(∀xs n,o.data≠.seq xs n)->(∀vs,o.data≠.fields vs\/o.cls≠.none)->H b=none:=λ{b o} e n1 n2=>by
   cases z:H b with
   | none=>rfl
   | some u=>
    rcases hA b (by rw[z];simp)with rfl|rfl
    ·rw[ha]at e;cases e;exact absurd rfl (n1 _ _)
    ·rw[hT0]at e;cases e;exact(n2 #[]).elim (λy=>absurd rfl y) (λy=>absurd rfl y)
  have nsK:∀{b:Addr}{m:Str->Option Value},s₁.heap.Ns b m->(hidT s₁.heap H).Ns b m:=λ{b m} ⟨o,es,ep,e,d,r⟩=>⟨o,es,ep,zou e (free e (λxs n z=>by rw[d]at z;cases z) (λvs=>.inl λz=>by rw[d]at z;cases z)),d,r⟩
  have hKb:K.In (hidT s₁.heap H):=λb o e=>zou (KX b o e) (by
   cases z:H b with
   | none=>rfl
   | some u=>
    rcases hA b (by rw[z];simp)with rfl|rfl
    ·rw[(hK (by rw[z];simp)).1]at e;cases e
    ·rw[KT]at e;cases e)
  have hM:Mod K mg (hidT s₁.heap H):=⟨hKb,nsK hns,⟨mb,nsK hb,hbb⟩,let⟨mc,h1,h2⟩:=hlim;⟨mc,nsK h1,h2⟩⟩
  have hBM:BM mg (hidT s₁.heap H):=by
   obtain⟨bm,ob,b1,b2,b3,b4,b5,b6⟩:=hbm
   exact⟨bm,ob,b1,b2,zou b3 (free b3 (λxs n z=>by rw[b6]at z;cases z) (λvs=>.inl λz=>by rw[b6]at z;cases z)),b4,b5,b6⟩
  have hCd:PySem.W.CodeHd (hidT s₁.heap H) c TP:=by
   obtain⟨o,vs',file,tf,flags,tg,inF,text,tt,e1,e2,e3,r⟩:=hT
   exact⟨o,vs',file,tf,flags,tg,inF,text,tt,zou e1 (free e1 (λxs n z=>by rw[e3]at z;cases z) (λvs=>.inr λz=>by rw[e2]at z;cases z)),e2,e3,r⟩
  have e0:Env0 P w K mg (hidT s₁.heap H) callerA [] s₁ H:=⟨rfl,hM,λb o e=>zamt e,Nat.le_of_eq (zadd _ _),trivial,λb hb=>absurd (show b∈([]:List Addr)from hb) (by simp),hok,.of_eq hg⟩
  refine qBc ((F _ hKb (nsK hns) hBM hCd).run callerA [] s₁ H ⟨[.ref a],[]⟩ [.ref a] [.ref a] _ _ hr e0 (hbind s₁ (.ref a)) (.cons rfl .nil) (hsp H hTb hS)) λr s' h=>?_
  cases r with
  | error e=>exact(hCX H e s' h).elim
  | ok fl=>
   cases fl with
   | next=>exact False.elim h
   | brk=>exact False.elim h
   | cont=>exact False.elim h
   | ret u=>
    obtain⟨v,H',os,bare,un,hok',r',qv,qT⟩:=h
    subst qv
    obtain rfl:u=Value.bool true:=r'
    have kept:∀b o,s₁.heap.get? b=some o->b≠TP->s'.heap.get? b=some o:=λb o e nb=>by
     cases z:H b with
     | none=>exact un.keep b o e z (by intro z;exact absurd (show b∈([]:List Addr)from z) (by simp)) (by simp)
     | some u=>
      rcases hA b (by rw[z];simp)with rfl|rfl
      ·obtain⟨_,ob,xs,z'⟩:=hK (by rw[z];simp)
       have z2:=un.frzs b ob _ z'
       obtain⟨e1,_⟩:=hok b _ z'
       obtain⟨e2,_⟩:=hok' b _ z2
       rw[e]at e1;cases e1
       exact e2
      ·exact absurd rfl nb
    obtain⟨ps,hps,_⟩:=hok' TP _ qT
    refine⟨rfl,⟨λb o e=>?_,λb o e=>?_⟩,os,bare⟩
    ·by_cases nb:b=TP
     ·subst nb
      rw[hT0]at e
      cases e
      exact .inr (.inl ⟨(hT.tab hT0).isCodeTable,rfl,#[],ps,rfl,by rw[Array.empty_append];exact hps⟩)
     ·exact .inl (kept b o e nb)
    ·by_cases nb:b=TP
     ·exact⟨_,by rw[nb];exact hps⟩
     ·exact⟨o,kept b o e nb⟩
 have tabOk:∀H:Hp,zdv P w H s₁.heap TP (.tabO q):=λH=>⟨#[],hT0,trivial,λpos cv h=>by cases h⟩
 cases hk:K.lookup a with
 | some o=>
  have e:=KX a o hk
  rw[ha]at e
  cases e
  refine core (λb=>if b=TP then some (.tabO q)else none) (if_pos rfl) (.inr ⟨_,vs.toArray,_,hk,rfl,rfl,rfl,by rw[qQ,lenV];exact hl,by simpa using rv⟩) (λb u z=>?_) (λb z=>?_) λz=>?_
  ·by_cases nb:b=TP
   ·subst nb;have z':=(if_pos rfl).symm.trans z;cases z';exact tabOk _
   ·have z':=(if_neg nb).symm.trans z;cases z'
  ·by_cases nb:b=TP
   ·exact .inr nb
   ·exact absurd (if_neg nb) z
  ·exact absurd (if_neg naT) z
 | none=>
  refine core (λb=>if b=TP then some (.tabO q)else if b=a then some (.frz {cls:=.type "list",data:=.seq vs.toArray} (.lst (ns.map V.int)))else none) (if_pos rfl) (.inl (.inr ⟨{cls:=.type "list",data:=.seq vs.toArray},(if_neg naT).trans (if_pos rfl)⟩)) (λb u z=>?_) (λb z=>?_) λ_=>⟨hk,_,_,(if_neg naT).trans (if_pos rfl)⟩
  ·by_cases nb:b=TP
   ·subst nb;have z':=(if_pos rfl).symm.trans z;cases z';exact tabOk _
   ·have z:=(if_neg nb).symm.trans z
    by_cases hb:b=a
    ·have z':=(if_pos hb).symm.trans z
     cases z'
     subst hb
     exact⟨ha,by rw[qF];exact hl,vs,_,rv,ha⟩
    ·have z':=(if_neg hb).symm.trans z
     cases z'
  ·by_cases nb:b=TP
   ·exact .inr nb
   ·by_cases hb:b=a
    ·exact .inl hb
    ·exact absurd ((if_neg nb).trans (if_neg hb)) z
noncomputable abbrev recDef(q:Program)(tx:Str)(dt:DefRec):Prop:=(recsOf q).find? (λe=>e.name==tx)=some dt
theorem walk_tab{l:PySem.W.OpenLaw}{n k:Nat}{q:Program}{loose:List Str}{XP:(Str->Option Value)->Heap->Prop}{YP:World->Heap->Prop}{d dt:DefRec}{K:Params->qB}{x tx lq:Str}{c TP:Addr}
  (hn:l.most=some n)(hn2:n<=qV)(hdf:d.params.defaults=[])(hr:Room k callerA)
  (hY:∀(w:World) (h:Heap),YP w h->(K w.params).In h)
  (hrec:recDef q tx dt)(hti:∀w:World,PySem.W.tabIn (K w.params) tx=some (c,TP))(hnt:∀w:World,PySem.W.noTabs (K w.params)=true)
  (F:∀(w:World)(mg:Str->Option Value)(fa:Addr)(h:Heap),(K w.params).In h->h.Ns qN mg->mg d.name=some (.ref fa)->
   ∃fd:qt,(∀(s:Shared)(u:Value),BindsTo s fd ⟨[u],[]⟩ [(x,u)])/\
    ∀base:Heap,(K w.params).In base->base.Ns qN mg->BM mg base->PySem.W.CodeHd base c TP->FnOk l.prog w (K w.params) mg base CX0 k fa fd [x] (zaah (K w.params) TP lq)) :
  PySem.W.WalkO q loose XP YP l.row.toRowW d [] (λf vs=>PySem.call f vs):=by
 refine Att.attach_call hn hdf λw s₀ s₁ mg mb fa o pm cd doc a vs ns G Y ho hd hcd hmg hobj hints hlen hg=>?_
 have KX:=hY w _ Y
 obtain⟨fd,hb,hF⟩:=F w mg fa _ KX G.T.g hmg
 obtain⟨t1,t2⟩:=PySem.W.tab_of (x:=tx) G.T KX hrec (hti w)
 obtain⟨bm,ob,b1,b2,b3,b4,b5,b6⟩:=G.T.bmain
 exact zaov (q:=lq) KX G.T.g G.T.b G.T.builtins G.T.nolimit hg hobj hints (qAM hlen hn2) hr t1 t2 (hnt w) ⟨bm,ob,b1,b2,b3,b4,b5,b6⟩ hF hb (λH hT hS=>⟨a,ns,rfl,hS,hT,λH' s'=>⟨rfl,s' _ _ hT⟩⟩) λH e s' z=>z.elim
section
variable{X:Cx}
theorem bpaC{e:Expr}{es:List Expr}{te:TE}{t:TA}(h1:Bx (PE X e te))(h2:Bx (PA X es t))(h3:isStar e=false:=by rfl):Bx (PA X (e::es) (tCons te t)):=zao h1 h2 h3
theorem bpeD{x:Str}{p pos:Pos}{e:Expr}{es:List Expr}{t:TA}{ps:List Str}{k m:Nat}{sp:Sp}(D:Dn X.prog X.w X.K X.mg X.base x ps k sp)(hr:Room m X.A)(ha:Bx (PA X (e::es) t))(hm:k<=m:=by decide)(hg:Gl X x:=by rfl)(hd:(x==("__debug__":Str))=false:=by decide)
  (hs:isStar e=false:=by rfl) (hp:((backTo pos (starEach es X.env)).any λx=>x.1)=false:=by rfl):Bx (PE X (.Call (.Name x p) (e::es) [] pos) (tCall sp [] E0 t)):=zig D (hr.mono hm) hg ha hd (zan hs) hp
theorem bpeB{x:Str}{p pos:Pos}{e:Expr}{es:List Expr}{t:TA}{id:String}{r:List V->Hp->VK->Prop}(hc:CallR X (.builtin id) r)(hm:X.mg x=none)(hb:bootBuiltins x=some (.builtin id))(ha:Bx (PA X (e::es) t))(hg:Gl X x:=by rfl)(h1:x≠("__name__":Str):=by decide)(h2:(x==("__debug__":Str))=false:=by decide)
  (hs:isStar e=false:=by rfl) (hp:((backTo pos (starEach es X.env)).any λx=>x.1)=false:=by rfl):Bx (PE X (.Call (.Name x p) (e::es) [] pos) (tCB r t)):=zpr hc hg hm hb ha h1 h2 (zan hs) hp
theorem bpeT{x:Str}{p pos:Pos}{e:Expr}{es:List Expr}{t:TA}{T:String}{r:List V->Hp->VK->Prop}(hc:CallR X (.type T) r)(hm:X.mg x=none)(hb:bootBuiltins x=some (.type T))(ha:Bx (PA X (e::es) t))(hg:Gl X x:=by rfl)(h1:x≠("__name__":Str):=by decide)(h2:(x==("__debug__":Str))=false:=by decide)
  (hs:isStar e=false:=by rfl) (hp:((backTo pos (starEach es X.env)).any λx=>x.1)=false:=by rfl):Bx (PE X (.Call (.Name x p) (e::es) [] pos) (tCB r t)):=znn hc hg hm hb ha h1 h2 (zan hs) hp
theorem bpsS{pos:Pos}{i:Nat}{x:Str}{e:Expr}{te:TE}{pos':Pos}(hN:X.N.Nodup)(hi:X.N[i]?=some x)(hl:Loc X.env.scope x)(he:Bx (PE X e te))(hs:swapsWith e (some (.Name x pos')) pos.line X.env=pure false:=by rfl)(hf:X.fn x=true\/X.env.scope.names.lookup x=some .local:=by exact .inl rfl):Bx (PS X (.Assign [.Name x pos'] e pos) (tAsg te (gName i))):=zhg hN hi hl he hs hf
theorem bpeX{a b:Expr}{ta tb:TE}{pos:Pos}{r:R2}(hr:IxR X r)(h1:Bx (PE X a ta))(h2:Bx (PE X b tb))(hp:PlainIx b:=by exact λ_ _=>rfl):Bx (PE X (.Subscript a b pos) (tOp r ta tb)):=zhv hr h1 h2 hp
theorem bpgN{pos:Pos}{i:Nat}{x:Str}(hN:X.N.Nodup)(hi:X.N[i]?=some x)(hl:Loc X.env.scope x)(hf:X.fn x=true\/X.env.scope.names.lookup x=some .local:=by first|exact .inl rfl|exact .inr rfl|assumption):Bx (PG X (.Name x pos) (gName i)):=zhw hN hi hl hf
end
end L2
namespace Bc
open PySem L2
noncomputable def zil:SF:=(sRet (zif ["name","elders"] [] (zav (eVar 0)) (gT 2 (zbu 0 (zbu 1 zja))) zfd (eVar 0)))
noncomputable def zim:GF:=fnD 1 zil
noncomputable def zfk:SF:=(sSeq (sSet 2 (zas 1 zim (zaa (eVar 0) aNil)))
  (sFor (zav (eVar 1)) (gN 3)
  (sIf (zbt (eOp (inD true) (eVar 3) (eVar 2))) zzw sNil)))
noncomputable def zfl:GF:=fnD 4 zfk
noncomputable def zrx:SF:=(sSeq (sSet 1 zajd)
  (sSeq (sFor (zav (eVar 0)) (gT 2 (zbu 2 (zbu 3 zja)))
  (sSeq (sSet 4 (eD1 (eVar 2) (eC (.bool true))))
  (sSeq (sFor (zav (eVar 3)) (gN 5)
  (sUpd 4 (zcc 1 (eVar 5))))
  (sPut 1 (eVar 2) (eVar 4)))))
  (zpm 1)))
noncomputable def zdz:GF:=fnD 6 zrx
noncomputable def zvq:SF:=(sSeq (sSet 2 (eLst aNil))
  (sSeq (sFor (zzy (zaa (eVar 1) aNil)) (gT 2 (zbu 3 (zbu 4 zja)))
  (sSeq (sSet 5 (eSl (eVar 1) zdy (zbo (eVar 3))))
  (sSeq (sSet 6 (eOp zdp (eIxV 0 (eVar 3)) (eC (.int 5))))
  (sSeq (sSet 7 (eLst aNil))
  (sSeq (sFor (zfg (zaa (eCB minD (zaa (eOp modD (eIxV 0 (eVar 3)) (eC (.int 5))) (zaa (eVar 3) aNil))) aNil)) (gN 8)
  (sSeq (sSet 9 (eOp modD (eVar 6) (eCB lenD (zaa (eVar 5) aNil))))
  (sSeq (sSet 6 (eOp zdp (eVar 6) (eCB lenD (zaa (eVar 5) aNil))))
  (zhf 7 5 (eVar 9)))))
  (sApp 2 (eTup (zaa (eVar 4) (zaa (eVar 7) aNil)))))))))
  (zpm 2)))
noncomputable def zkk:GF:=fnD 10 zvq
noncomputable def zaai:SF:=(sSeq (sSet 1 zajd)
  (sSeq (sFor (zav (eVar 0)) (gT 2 (zbu 2 (zbu 3 zja)))
  (sSeq (sSet 4 (eLst (zaa (eVar 2) aNil)))
  (sSeq (sFor (zav (eVar 3)) (gN 5)
  (sFor (zav (zcc 1 (eVar 5))) (gN 6)
  (sIf (zbt (eOp (inD true) (eVar 6) (eVar 4))) (sApp 4 (eVar 6)) sNil)))
  (sPut 1 (eVar 2) (eVar 4)))))
  (zpm 1)))
noncomputable def zmq:GF:=fnD 7 zaai
theorem zod{α:Type}{enc out:α->PyData}{g:GT}{t:TF}{e:EF}{env:DEnv}(p:α->Bool):∀{l:List α},(∀x∈l,∃e1,g (enc x) env=some e1/\t e1=some (p x)/\(p x=true->∃r,e e1=some r/\r.d=out x))->
  zfc g t e env (l.map enc)=some ((l.filter p).map out)
 | [],_=>rfl
 | x::l,h=>by
  obtain⟨e1,h1,h2,h3⟩:=h x qm
  have ih:=zod (l:=l) p λy hy=>h y (qK _ hy)
  rw[qd]
  unfold zfc
  rw[h1,qE,h2,qE]
  cases hp:p x with
  | false=>
   rw[if_neg qP,ih,List.filter_cons,hp];rfl
  | true=>
   obtain⟨r,h4,h5⟩:=h3 hp
   rw[if_pos rfl,h4,qE,ih,List.filter_cons,hp]
   simp[h5]
theorem zem{α:Type}{enc out:α->PyData}{g:GT}{t:TF}{e:EF}{env:DEnv}{l:List α}(h:∀x∈l,∃e1,g (enc x) env=some e1/\t e1=some true/\∃r,e e1=some r/\r.d=out x):zfc g t e env (l.map enc)=some (l.map out):=by
 have q:=zod (enc:=enc) (out:=out) (g:=g) (t:=t) (e:=e) (env:=env) (λ_=>true) (l:=l) λx hx=>let⟨e1,h1,h2,h3⟩:=h x hx;⟨e1,h1,h2,λ_=>h3⟩
 rw[q]
 congr 2
 exact List.filter_eq_self.mpr λ_ _=>rfl
theorem zaaj{α:Type}{enc:α->PyData}{g:GT}{body:SF}(I:List α->DEnv->Prop)(all:List α):∀(l pre:List α)(env:DEnv),pre++l=all->I pre env->
  (∀pre x post env,pre++x::post=all->I pre env->∃e1 e2,g (enc x) env=some e1/\(body e1=some (.nx e2)\/body e1=some (.ct e2))/\I (pre++[x]) e2)->∃env',forL g body (l.map enc) env=some (.nx env')/\I all env'
 | [],pre,env,hall,h0,hs=>by
  rw[qAB]at hall
  subst hall
  exact⟨env,rfl,h0⟩
 | x::l,pre,env,hall,h0,hs=>by
  obtain⟨e1,e2,h1,h2,h3⟩:=hs pre x l env hall h0
  obtain⟨env',h4,h5⟩:=zaaj I all l (pre++[x]) e2 (by rw[<- hall];simp) h3 hs
  refine⟨env',?_,h5⟩
  rw[qd]
  unfold forL
  rw[h1,qE]
  rcases h2 with h2|h2<;>rw[h2,qE]<;>exact h4
theorem zcv{α:Type}{enc:α->PyData}{g:GT}{body:SF}{l:List α}{env:DEnv}(I:List α->DEnv->Prop)(h0:I [] env)(hs:∀pre x post env,pre++x::post=l->I pre env->∃e1 e2,g (enc x) env=some e1/\(body e1=some (.nx e2)\/body e1=some (.ct e2))/\I (pre++[x]) e2) :
  ∃env',forL g body (l.map enc) env=some (.nx env')/\I l env':=zaaj I l l [] env rfl h0 hs
theorem zvr{α:Type}{enc:α->PyData}{g:GT}{body:SF}(p:α->Bool)(d:PyData)(fr:Bool)(I:DEnv->Prop):∀(l:List α)(env:DEnv),I env->
  (∀x∈l,∀env,I env->∃e1,g (enc x) env=some e1/\(p x=true->∃e2,body e1=some (.nx e2)/\I e2)/\(p x=false->body e1=some (.rt d fr)))->
  (l.all p=true->∃env',forL g body (l.map enc) env=some (.nx env')/\I env')/\(l.all p=false->forL g body (l.map enc) env=some (.rt d fr))
 | [],env,h0,hs=>⟨λ_=>⟨env,rfl,h0⟩,λh=>by simp at h⟩
 | x::l,env,h0,hs=>by
  obtain⟨e1,h1,h2,h3⟩:=hs x qm env h0
  rw[qd,qAy]
  unfold forL
  rw[h1,qE]
  cases hp:p x with
  | false=>
   rw[h3 hp,qE]
   exact⟨λh=>by simp at h,λ_=>rfl⟩
  | true=>
   obtain⟨e2,h4,h5⟩:=h2 hp
   rw[h4,qE]
   exact zvr p d fr I l e2 h5 λy hy=>hs y (qK _ hy)
noncomputable def zco(cs:List Int):PyData:=.list (cs.map .int)
theorem zaak{H:Hp}:∀(cs:List Int),Rps H (cs.map .int) (cs.map .int)
 | []=>zej
 | c::cs=>zdx zae (zaak cs)
noncomputable def envL(n:Nat)(cs:List Int):DEnv:=.no::.pl (zco cs)::List.replicate n .no
theorem zaow{H1:Hp}{a pc:Addr}{cs:List Int}{n:Nat}(e:H1 pc=some (.lst (cs.map .int))):EnvOk (λ_=>False) H1 (envL n cs) (some (.ref a)::some (.ref pc)::List.replicate n none) H1:=by
 have no:∀(i:Nat)(d:PyData),(envL n cs)[i]?≠some (Sl.ac d):=λi d=>by
  unfold envL
  cases i with
  | zero=>simp
  | succ i=>cases i with
   | zero=>simp
   | succ i=>simp[qBa]
 refine⟨by unfold envL;simp,λi d h=>?_,λi d h=>absurd h (no i d),λi j d e a h=>absurd h (no i d),Same.refl _,λb z=>z.elim⟩
 unfold envL at h
 cases i with
 | zero=>simp at h
 | succ i=>cases i with
  | zero=>
   simp at h
   subst h
   refine⟨.ref pc,rfl,zic ?_ (zaak cs)⟩
   rw[Offs.get]
   ·exact e
   ·rintro(z|⟨j,d',z,_⟩)
    ·exact z
    ·exact no j d' z
  | succ i=>simp[qBa]at h
theorem zap{f g:SF}{env e1:DEnv}{o:Option Out}(h:f env=some (.nx e1))(k:g e1=o):sSeq f g env=o:=by unfold sSeq;rw[h];exact k
theorem zasf{f g:SF}{env:DEnv}{d:PyData}{fr:Bool}(h:f env=some (.rt d fr)):sSeq f g env=some (.rt d fr):=by unfold sSeq;rw[h];rfl
theorem for_list{f:EF}{g:GT}{b:SF}{env:DEnv}{ds:List PyData}{fr:Bool}{bs:List Nat}{o:Option Out}(h:f env=some ⟨.list ds,fr,bs⟩)(k:forL g b ds (frzs env bs)=o):sFor (zav f) g b env=o:=by
 unfold sFor zav;rw[h];exact k
theorem zin{f:IF'}{g:GT}{b:SF}{env:DEnv}{ds:List PyData}{bs:List Nat}{o:Option Out}(h:f env=some (ds,bs))(k:forL g b ds (frzs env bs)=o):sFor f g b env=o:=by
 unfold sFor;rw[h];exact k
theorem if_t{c:TF}{f g:SF}{env:DEnv}{o:Option Out}(h:c env=some true)(k:f env=o):sIf c f g env=o:=by unfold sIf;rw[h];exact k
theorem if_f{c:TF}{f g:SF}{env:DEnv}{o:Option Out}(h:c env=some false)(k:g env=o):sIf c f g env=o:=by unfold sIf;rw[h];exact k
theorem zbs{i:Nat}{f:EF}{env:DEnv}{r:Val}(h:f env=some r):sSet i f env=some (.nx (putV env i r)):=by unfold sSet;rw[h];rfl
theorem zagd{f:EF}{env:DEnv}{r:Val}(h:f env=some r):zabz f env=some (.nx env):=by unfold zabz;rw[h];rfl
theorem zjp{f:EF}{env:DEnv}{d:PyData}{fr:Bool}{bs:List Nat}(h:f env=some ⟨d,fr,bs⟩):sRet f env=some (.rt d fr):=by unfold sRet;rw[h];rfl
theorem zbj{n:Nat}{g:GF}{f:AF}{env:DEnv}{rs:List Val}{d:PyData}{fr:Bool}(h:f env=some rs)(hn:rs.length=n)(k:g (zge rs)=some (d,fr)):zas n g f env=some ⟨d,fr,bsOf d (bss rs)⟩:=by
 unfold zas;rw[h,qE,if_pos hn,k];rfl
theorem zkl{own:List Str}{fr:List Nat}{fi:IF'}{g:GT}{t:TF}{e:EF}{env:DEnv}{ds:List PyData}{bs:List Nat}{rs:List PyData}(h:fi env=some (ds,bs))(hl:ds.length<100000)(k:zfc g t e (envB own fr env) ds=some rs) :
  zif own fr fi g t e env=some ⟨.list rs,true,if zef rs=true then[]else bs++capA fr env⟩:=by
 unfold zif;rw[h,qE,if_pos hl,k];rfl
theorem zio{n:Nat}{f:SF}{ds:List PyData}{env:DEnv}{d:PyData}{fr:Bool}(h:zle n ds=env)(e:f env=some (.rt d fr)):fnD n f ds=some (d,fr):=by
 unfold fnD;rw[h,e]
theorem zage(n:Int):neD (.int n) (.int n)=some (.bool false,false):=by
 have e:qAx (.int n) (.int n)=true:=by unfold qAx;exact beq_self_eq_true n
 show some (PyData.bool (!PyData.eqv (.int n) (.int n)),false)=_
 rw[e];rfl
theorem zvs(n:Bool):neD (.bool n) (.bool n)=some (.bool false,false):=by cases n<;>rfl
noncomputable def zad(xs:List Str):PyData:=.list (xs.map .str)
noncomputable def rowD(p:Str×List Str):PyData:=.tuple [.str p.1,zad p.2]
noncomputable def webD(W:Web):PyData:=.list (W.map rowD)
theorem zach(xs:List Str):zef (xs.map .str)=true:=by
 unfold zef
 rw[List.all_map]
 exact qAV.mpr λ_ _=>rfl
theorem zakj(xs:List Str)(x:Str):((xs.map PyData.str).any λe=>qAx e (.str x))=decide (x∈xs):=by
 rw[qCO,qAs,qBQ,decide_eq_true_iff]
 constructor
 ·rintro⟨y,hy,h⟩
  have:y=x:=by simpa [qAx]using h
  rw[<- this];exact hy
 ·exact λh=>⟨x,h,by simp[qAx]⟩
theorem zpy(b:Bool)(xs:List Str)(x:Str):inD b (.str x) (zad xs)=some (.bool (if b then !decide (x∈xs)else decide (x∈xs)),false):=by
 unfold inD zad
 simp only[zid]
 rw[if_pos ⟨rfl,zach xs⟩,zakj]
theorem zry{W:Web}(hl:W.length<100000):zim [webD W]=some (zad (nm W),true):=by
 have c:zfc (gT 2 (zbu 0 (zbu 1 zja))) zfd (eVar 0) [.no,.no] (W.map rowD)=some (W.map λp=>PyData.str p.1):=zem λp _=>⟨[.pl (.str p.1),.pl (zad p.2)],rfl,rfl,⟨.str p.1,false,[]⟩,rfl,rfl⟩
 have e:zil [.pl (webD W)]=some (.rt (zad (nm W)) true):=by
  unfold zil sRet zif zav
  simp only[eVar,qAD,qE,webD,zid,qAi,qF]
  rw[if_pos hl]
  show Option.map _ (Option.map _ (zfc _ _ _ [.no,.no] _))=_
  rw[c]
  unfold zad nm
  simp
 show(match zil [.pl (webD W)]with|some (.rt d fr)=>some (d,fr)|some (.nx _)=>some (.none,false)|_=>none)=_
 rw[e]
theorem zmr{W:Web}(hl:W.length<100000){ns:List Str}(h:∀n∈ns,n∈nm W):zfl [webD W,zad ns]=some (.none,false):=by
 have l:∃env',forL (gN 3) (sIf (zbt (eOp (inD true) (eVar 3) (eVar 2))) zzw sNil) (ns.map .str) [.pl (webD W),.pl (zad ns),.ac (zad (nm W)),.no]=some (.nx env')/\True:=by
  refine zcv (λ_ env=>∃s,env=[.pl (webD W),.pl (zad ns),.ac (zad (nm W)),s]) ⟨_,rfl⟩ ?_ |>.imp λ_ q=>⟨q.1,trivial⟩
  rintro pre x post env hx ⟨s,rfl⟩
  have hm:=h x (by rw[<- hx];simp)
  refine⟨_,[.pl (webD W),.pl (zad ns),.ac (zad (nm W)),.pl (.str x)],rfl,.inl ?_,_,rfl⟩
  simp[sIf,zbt,eOp,eVar,sNil,zpy,hm,bsOf,zff]
 obtain⟨env',l,_⟩:=l
 have e:zfk [.pl (webD W),.pl (zad ns),.no,.no]=some (.nx env'):=by
  unfold zfk sSeq sSet zas sFor zav
  simp only[zaa,aNil,eVar,qAD,qAE,qE,qAi,zge,qd,qCN,qAQ,qBI,zry hl,if_true]
  simp[putV,frzs,bsOf,zad,zff,bss,slOf,zid]
  exact l
 show(match zfk [.pl (webD W),.pl (zad ns),.no,.no]with|some (.rt d fr)=>some (d,fr)|some (.nx _)=>some (.none,false)|_=>none)=_
 rw[e]
noncomputable def insS(ks:List Str)(k:Str):List Str:=if k∈ks then ks else ks++[k]
noncomputable def upL(acc:List (Str×List Str))(e:Str):List Str:=(acc.lookup e).getD []
noncomputable def zjg(acc:List (Str×List Str))(p:Str×List Str):List (Str×List Str):=acc++[(p.1,p.2.foldl (λks e=>(upL acc e).foldl insS ks) [p.1])]
noncomputable def ups(W:Web):List (Str×List Str):=W.foldl zjg []
noncomputable def up(W:Web)(n:Str):List Str:=upL (ups W) n
theorem zjh(W:Web)(p:Str×List Str):ups (W++[p])=zjg (ups W) p:=by unfold ups;rw[qBz];rfl
theorem zakk{ks:List Str}{k x:Str}:x∈insS ks k↔x∈ks\/x=k:=by
 unfold insS
 split
 ·rename_i h
  exact⟨.inl,λz=>z.elim id λe=>e▸h⟩
 ·simp
theorem zms{x:Str}:∀{ms ks:List Str},x∈ms.foldl insS ks↔x∈ks\/x∈ms
 | [],ks=>by simp
 | m::ms,ks=>by
  rw[qBb,zms,zakk]
  simp[or_assoc]
theorem zaox{ks:List Str}{k:Str}(h:ks.Nodup):(insS ks k).Nodup:=by
 unfold insS
 split
 ·exact h
 ·rename_i hk;exact zxw h hk
theorem ztk:∀{ms ks:List Str},ks.Nodup->(ms.foldl insS ks).Nodup
 | [],_,h=>h
 | _::ms,_,h=>ztk (ms:=ms) (zaox h)
theorem zpz{acc:List (Str×List Str)}{x:Str}:∀{es ks:List Str},x∈es.foldl (λks e=>(upL acc e).foldl insS ks) ks↔x∈ks\/∃e∈es,x∈upL acc e
 | [],ks=>by simp
 | e::es,ks=>by
  rw[qBb,zpz,zms]
  simp[or_assoc]
theorem zaal{acc:List (Str×List Str)}:∀{es ks:List Str},ks.Nodup->(es.foldl (λks e=>(upL acc e).foldl insS ks) ks).Nodup
 | [],_,h=>h
 | _::es,_,h=>zaal (es:=es) (ztk h)
theorem zgr{l:List (Str×List Str)}{n:Str}{p:Str×List Str}:(l++[p]).lookup n=(l.lookup n).or (if n==p.1 then some p.2 else none):=by
 induction l with
 | nil=>
  obtain⟨a,b⟩:=p
  show List.lookup n [(a,b)]=_
  rw[q9]
  cases n==a<;>rfl
 | cons q l ih=>
  obtain⟨a,b⟩:=q
  rw[qCU,q9,q9]
  cases n==a with
  | true=>rfl
  | false=>exact ih
theorem zqa{α:Type}{P:List α->Prop}(h0:P [])(hs:∀l x,P l->P (l++[x])):∀l,P l:=by
 intro l
 have:∀n (l:List α),l.length=n->P l:=by
  intro n
  induction n with
  | zero=>intro l e;rw[qBZ.mp e];exact h0
  | succ n ih=>
   intro l e
   have hne:l≠[]:=λz=>by rw[z]at e;cases e
   rw[<- List.dropLast_concat_getLast hne]
   exact hs _ _ (ih _ (by rw[List.length_dropLast,e];rfl))
 exact this _ l rfl
theorem zgd:∀(W:Web),(ups W).map (·.1)=nm W:=by
 refine zqa rfl λW p ih=>?_
 rw[zjh]
 unfold zjg nm
 rw[qAG,qAG,ih]
 rfl
theorem zlt(W:Web)(p:Str×List Str):nm (W++[p])=nm W++[p.1]:=by unfold nm;rw[qAG];rfl
theorem zfq{W:Web}{p:Str×List Str}(h:WebOk (W++[p])):WebOk W/\p.1∉nm W/\(∀e∈p.2,e∈nm W)/\p.2.length<=4:=by
 have hp:(W++[p])[W.length]?=some p:=by simp
 refine⟨⟨?_,λi n es e=>?_,λq hq=>h.few q (qu _ hq),?_⟩,?_,λe he=>?_,h.few p (by simp)⟩
 ·have:=h.nd;rw[zlt]at this;exact(qBA.mp this).1
 ·have hi:i<W.length:=(qU.mp e).1
  have q:=h.el i n es (by rw[qAN hi];exact e)
  rw[qAt (by omega)]at q
  exact q
 ·have:=h.len;simp at this;omega
 ·have:=h.nd
  rw[zlt]at this
  intro hm
  exact(qBA.mp this).2.2 p.1 hm p.1 (by simp) rfl
 ·have q:=h.el W.length p.1 p.2 hp e he
  rw[qAt (qL _),qCT]at q
  exact q
theorem zhi{l:List (Str×List Str)}{n:Str}(h:n∈l.map (·.1)):∃ks,l.lookup n=some ks/\(n,ks)∈l:=by
 induction l with
 | nil=>simp at h
 | cons q l ih=>
  obtain⟨a,b⟩:=q
  rw[q9]
  cases e:n==a with
  | true=>rw[eq_of_beq e];exact⟨b,rfl,qm⟩
  | false=>
   have hn:n≠a:=beq_eq_false_iff_ne.mp e
   rcases qc.mp h with z|z
   ·exact absurd z hn
   ·obtain⟨ks,h1,h2⟩:=ih z
    exact⟨ks,h1,qK _ h2⟩
theorem zno{W:Web}{p:Str×List Str}{m:Str}(h:m∈nm W):up (W++[p]) m=up W m:=by
 unfold up upL
 rw[zjh]
 unfold zjg
 obtain⟨ks,e,_⟩:=zhi (l:=ups W) (n:=m) (by rw[zgd];exact h)
 rw[zgr,e]
 rfl
theorem zqb{l:List (Str×List Str)}{n:Str}(h:n∉l.map (·.1)):l.lookup n=none:=by
 induction l with
 | nil=>rfl
 | cons q l ih=>
  obtain⟨a,b⟩:=q
  rw[q9]
  have h1:n≠a:=λz=>h (by simp[z])
  rw[beq_eq_false_iff_ne.mpr h1]
  exact ih λz=>h (qK _ z)
theorem zamc{W:Web}{p:Str×List Str}(h:p.1∉nm W):up (W++[p]) p.1=p.2.foldl (λks e=>(upL (ups W) e).foldl insS ks) [p.1]:=by
 unfold up upL
 rw[zjh]
 unfold zjg
 rw[zgr,zqb (by rw[zgd];exact h)]
 simp[upL]
theorem zasg{W:Web}{n:Str}{es:List Str}(h:(n,es)∈W):n∈nm W:=qAY.mpr ⟨_,h,rfl⟩
theorem ztl{W:Web}(h:WebOk W){n:Str}{es:List Str}(hm:(n,es)∈W):∀e∈es,e∈nm W:=λe he=>by
 obtain⟨i,hi,e'⟩:=qBo hm
 have q:=h.el i n es (by rw[qH hi,e']) e he
 obtain⟨p,h1,h2⟩:=qAY.mp q
 exact qAY.mpr ⟨p,qAO h1,h2⟩
theorem zamd{x:Str}:∀{W:Web},WebOk W->∀{n:Str}{es:List Str},(n,es)∈W->(x∈up W n↔x=n\/∃e∈es,x∈up W e):=by
 intro W
 refine zqa (P:=λW=>WebOk W->∀{n:Str}{es:List Str},(n,es)∈W->(x∈up W n↔x=n\/∃e∈es,x∈up W e)) (λ_ n es h=>nomatch h) (λW p ih h n es hm=>?_) W
 obtain⟨hW,hp,hel,_⟩:=zfq h
 rcases qX.mp hm with hm|hm
 ·rw[zno (zasg hm),ih hW hm]
  have:(∃e∈es,x∈up W e)↔∃e∈es,x∈up (W++[p]) e:=by
   constructor
   ·rintro⟨e,he,hx⟩;exact⟨e,he,by rw[zno (ztl hW hm e he)];exact hx⟩
   ·rintro⟨e,he,hx⟩;exact⟨e,he,by rw[zno (ztl hW hm e he)]at hx;exact hx⟩
  rw[this]
 ·have e:(n,es)=p:=by simpa using hm
  subst e
  rw[zamc hp,zpz]
  have:(∃e∈es,x∈upL (ups W) e)↔∃e∈es,x∈up (W++[(n,es)]) e:=by
   constructor
   ·rintro⟨e,he,hx⟩;exact⟨e,he,by rw[zno (hel e he)];exact hx⟩
   ·rintro⟨e,he,hx⟩;exact⟨e,he,by rw[zno (hel e he)]at hx;exact hx⟩
  rw[this]
  simp
theorem zaoy{W:Web}(h:WebOk W){n:Str}(hn:n∈nm W):n∈up W n:=by
 obtain⟨⟨m,es⟩,h1,h2⟩:=qAY.mp hn
 cases h2
 exact(zamd h h1).mpr (.inl rfl)
theorem zvt:∀{W:Web},WebOk W->∀{n x:Str},x∈up W n->x∈nm W:=by
 intro W
 refine zqa (P:=λW=>WebOk W->∀{n x:Str},x∈up W n->x∈nm W) (λ_ n x h=>by simp[up,ups,upL]at h) (λW p ih h n x hx=>?_) W
 obtain⟨hW,hp,hel,_⟩:=zfq h
 rw[zlt]
 by_cases hn:n∈nm W
 ·rw[zno hn]at hx
  exact qu _ (ih hW hx)
 ·by_cases e:n=p.1
  ·rw[e,zamc hp,zpz]at hx
   rcases hx with hx|⟨e',_,hx⟩
   ·exact qb _ (by simpa using hx)
   ·exact qu _ (ih hW hx)
  ·unfold up upL at hx
   rw[zjh]at hx
   unfold zjg at hx
   rw[zgr,zqb (by rw[zgd];exact hn),beq_eq_false_iff_ne.mpr e]at hx
   simp at hx
theorem zatz:∀{W:Web}{n:Str},(up W n).Nodup:=by
 intro W
 refine zqa (P:=λW=>∀{n:Str},(up W n).Nodup) (λ{n}=>by simp[up,ups,upL]) (λW p ih n=>?_) W
 unfold up upL
 rw[zjh]
 unfold zjg
 rw[zgr]
 cases e:(ups W).lookup n with
 | some ks=>
  have q:=ih (n:=n)
  unfold up upL at q
  rw[e]at q
  exact q
 | none=>
  show((if n==p.1 then some _ else none).getD []).Nodup
  split
  ·exact zaal (by simp)
  ·exact qCn
theorem zagf{W:Web}(h:WebOk W)(n:Str):(up W n).length<=12:=by
 have:=zjx _ (nm W) (zatz (W:=W) (n:=n)) λx hx=>zvt h hx
 have:=zrp h
 omega
noncomputable def dS(f:List Str->PyData)(l:List (Str×List Str)):List (PyData×PyData):=l.map λp=>(.str p.1,f p.2)
theorem zlu(f:List Str->PyData)(n:Str):∀l:List (Str×List Str),zmi (dS f l) (Sum.inr n)=(l.lookup n).map f
 | []=>rfl
 | (a,b)::l=>by
  have ih:=zlu f n l
  show(if keyD (.str a)=some (Sum.inr n)then some (f b)else zmi (dS f l) (Sum.inr n))=_
  rw[q9]
  by_cases e:a=n
  ·subst e;rw[if_pos (show keyD (.str a)=some (Sum.inr a)from rfl),beq_self_eq_true];rfl
  ·rw[if_neg (show ¬keyD (.str a)=some (Sum.inr n)from λz=>e (qB7 (qZ z))),beq_eq_false_iff_ne.mpr (qAo e)]
   exact ih
theorem zagg(f:List Str->PyData){l:List (Str×List Str)}{n:Str}{ks:List Str}(h:n∉l.map (·.1)):zre (dS f l) (.str n) (f ks)=dS f (l++[(n,ks)]):=by
 unfold zre dS
 rw[if_neg,qAG]
 ·rfl
 ·intro z
  rw[qCO,qBQ]at z
  obtain⟨p,hp,e⟩:=z
  have e:=of_decide_eq_true e
  exact h (qAY.mpr ⟨p,hp,qB7 (qZ e)⟩)
noncomputable def zhq(ks:List Str):List (PyData×PyData):=ks.map λk=>(.str k,.bool true)
noncomputable def zbk(ks:List Str):PyData:=.dict (zhq ks)
theorem zvu(x:Str):∀ks:List Str,zyc (zhq ks) (Sum.inr x)=decide (x∈ks)
 | []=>by simp[zhq,zyc,zmi]
 | k::ks=>by
  have ih:=zvu x ks
  unfold zyc at ih ⊢
  show(if keyD (.str k)=some (Sum.inr x)then some (PyData.bool true)else zmi (zhq ks) (Sum.inr x)).isSome=_
  by_cases e:k=x
  ·subst e;rw[if_pos (show keyD (.str k)=some (Sum.inr k)from rfl)];simp
  ·rw[if_neg (show ¬keyD (.str k)=some (Sum.inr x)from λz=>e (qB7 (qZ z))),ih]
   have:¬x=k:=λz=>e z.symm
   simp[this]
theorem zagh(ks:List Str)(k:Str):zre (zhq ks) (.str k) (.bool true)=zhq (insS ks k):=by
 have ha:((zhq ks).any λkv=>decide (keyD kv.1=keyD (.str k)))=decide (k∈ks):=by
  unfold zhq
  rw[qCO,qAs,qBQ,decide_eq_true_iff]
  constructor
  ·rintro⟨y,hy,h⟩
   have h:=of_decide_eq_true h
   have:y=k:=qB7 (qZ h)
   rw[<- this];exact hy
  ·exact λh=>⟨k,h,decide_eq_true rfl⟩
 unfold zre insS
 rw[ha]
 by_cases hk:k∈ks
 ·rw[if_pos (decide_eq_true hk),if_pos hk]
  unfold zhq
  rw[qBt]
  refine qBn λy _=>?_
  show(if keyD (PyData.str y)=keyD (.str k)then(PyData.str y,PyData.bool true)else(PyData.str y,PyData.bool true))=_
  split<;>rfl
 ·rw[if_neg (by simpa using hk),if_neg hk]
  unfold zhq
  rw[qAG];rfl
theorem zlv:∀(ms ks:List Str),zlr (zhq ks) (zhq ms)=zhq (ms.foldl insS ks)
 | [],_=>rfl
 | m::ms,ks=>by
  show zlr (zre (zhq ks) (.str m) (.bool true)) (zhq ms)=_
  rw[zagh,zlv ms];rfl
theorem zaam{α:Type}{pre post:List α}{x:α}{l:List α}(h:pre++x::post=l):l=(pre++[x])++post:=by rw[<- h];simp
theorem zvv:∀{post W:Web},WebOk (W++post)->WebOk W:=by
 intro post
 refine zqa (P:=λpost=>∀{W:Web},WebOk (W++post)->WebOk W) (λ{W} h=>by rwa [qAB]at h) (λpost p ih W h=>?_) post
 rw[<- qAX]at h
 exact ih (zfq h).1
theorem zrz{W:Web}(h:WebOk W):zdz [webD W]=some (.dict (dS zbk (ups W)),true):=by
 have inner:∀(V:Web)(p:Str×List Str)(es pre:List Str)(s5:Sl),WebOk (V++[p])->pre++es=p.2->
   ∃s5',forL (gN 5) (sUpd 4 (zcc 1 (eVar 5))) (es.map .str) [.pl (webD W),.ac (.dict (dS zbk (ups V))),.pl (.str p.1),.pl (zad p.2),.ac (zbk (pre.foldl (λks e=>(upL (ups V) e).foldl insS ks) [p.1])),s5] =
    some (.nx [.pl (webD W),.ac (.dict (dS zbk (ups V))),.pl (.str p.1),.pl (zad p.2),.ac (zbk (p.2.foldl (λks e=>(upL (ups V) e).foldl insS ks) [p.1])),s5']):=by
  intro V p es
  induction es with
  | nil=>intro pre s5 _ e;rw[qAB]at e;subst e;exact⟨s5,rfl⟩
  | cons e es ih=>
   intro pre s5 hV hp
   obtain⟨hV',hn,hel,hfew⟩:=zfq hV
   have he:e∈nm V:=hel e (by rw[<- hp];simp)
   obtain⟨ks,lk,_⟩:=zhi (l:=ups V) (n:=e) (by rw[zgd];exact he)
   have eup:upL (ups V) e=ks:=by unfold upL;rw[lk];rfl
   have l1:ks.length<=12:=by rw[<- eup];exact zagf hV' e
   have sub:∀x∈pre.foldl (λks e=>(upL (ups V) e).foldl insS ks) [p.1],x∈nm (V++[p]):=λx hx=>by
    rw[zlt]
    rcases zpz.mp hx with z|⟨e',_,z⟩
    ·exact qb _ (by simpa using z)
    ·exact qu _ (zvt hV' z)
   have l2:(pre.foldl (λks e=>(upL (ups V) e).foldl insS ks) [p.1]).length<=12:=by
    have:=zjx _ _ (zaal (acc:=ups V) (es:=pre) (ks:=[p.1]) (by simp)) sub
    have:=zrp hV
    omega
   obtain⟨s5',q⟩:=ih (pre++[e]) (.pl (.str e)) hV (by rw[<- hp];simp)
   refine⟨s5',?_⟩
   rw[qd]
   unfold forL
   simp only[gN,qE,qBX,qBW]
   have b:sUpd 4 (zcc 1 (eVar 5)) [.pl (webD W),.ac (.dict (dS zbk (ups V))),.pl (.str p.1),.pl (zad p.2),.ac (zbk (pre.foldl (λks e=>(upL (ups V) e).foldl insS ks) [p.1])),.pl (.str e)] =
     some (.nx [.pl (webD W),.ac (.dict (dS zbk (ups V))),.pl (.str p.1),.pl (zad p.2),.ac (zbk ((pre++[e]).foldl (λks e=>(upL (ups V) e).foldl insS ks) [p.1])),.pl (.str e)]):=by
    have lz:(zhq (pre.foldl (λks e=>(upL (ups V) e).foldl insS ks) [p.1])).length+(zhq ks).length<=100000:=by unfold zhq;rw[qF,qF];omega
    simp only[sUpd,zbk,zcc,eVar,qAE,qAD,qE,keyD,zlu,lk,qAi]
    rw[if_pos ⟨lz,by simp⟩,zlv]
    simp[frzs,qBz,eup]
   rw[b,qE]
   exact q
 have outer:∃env',forL (gT 2 (zbu 2 (zbu 3 zja))) (sSeq (sSet 4 (eD1 (eVar 2) (eC (.bool true)))) (sSeq (sFor (zav (eVar 3)) (gN 5) (sUpd 4 (zcc 1 (eVar 5)))) (sPut 1 (eVar 2) (eVar 4)))) (W.map rowD) [.pl (webD W),.ac (.dict []),.no,.no,.no,.no]=some (.nx env')/\
   ∃s2 s3 s4 s5,env'=[.pl (webD W),.ac (.dict (dS zbk (ups W))),s2,s3,s4,s5]:=by
  refine zcv (λpre env=>∃s2 s3 s4 s5,env=[.pl (webD W),.ac (.dict (dS zbk (ups pre))),s2,s3,s4,s5]) ⟨_,_,_,_,rfl⟩ ?_
  rintro pre p post env hp ⟨s2,s3,s4,s5,rfl⟩
  have hV:WebOk (pre++[p]):=zvv (post:=post) (by rw[<- zaam hp];exact h)
  obtain⟨hV',hn,hel,hfew⟩:=zfq hV
  obtain⟨s5',q⟩:=inner pre p p.2 [] s5 hV rfl
  refine⟨[.pl (webD W),.ac (.dict (dS zbk (ups pre))),.pl (.str p.1),.pl (zad p.2),s4,s5],[.pl (webD W),.ac (.dict (dS zbk (ups (pre++[p])))),.pl (.str p.1),.pl (zad p.2),.pl (zbk (p.2.foldl (λks e=>(upL (ups pre) e).foldl insS ks) [p.1])),s5'],rfl,.inl ?_,_,_,_,_,rfl⟩
  have lz:(dS zbk (ups pre)).length<100000:=by
   unfold dS
   rw[qF,<- qF (f:=(·.1)),zgd]
   have:=zrp hV'
   omega
  have st:sSet 4 (eD1 (eVar 2) (eC (.bool true))) [.pl (webD W),.ac (.dict (dS zbk (ups pre))),.pl (.str p.1),.pl (zad p.2),s4,s5]=some (.nx [.pl (webD W),.ac (.dict (dS zbk (ups pre))),.pl (.str p.1),.pl (zad p.2),.ac (zbk [p.1]),s5]):=by
   simp[sSet,eD1,eVar,eC,keyD,putV,frzs,slOf,zbk,zhq]
  have pt:sPut 1 (eVar 2) (eVar 4) [.pl (webD W),.ac (.dict (dS zbk (ups pre))),.pl (.str p.1),.pl (zad p.2),.ac (zbk (p.2.foldl (λks e=>(upL (ups pre) e).foldl insS ks) [p.1])),s5'] =
    some (.nx [.pl (webD W),.ac (.dict (dS zbk (ups (pre++[p])))),.pl (.str p.1),.pl (zad p.2),.pl (zbk (p.2.foldl (λks e=>(upL (ups pre) e).foldl insS ks) [p.1])),s5']):=by
   simp only[sPut,eVar,qAE,qAD,qE,keyD]
   rw[if_pos ⟨lz,by simp⟩,zagg zbk (by rw[zgd];exact hn),zjh]
   simp[frzs,frz1,zjg]
  exact zap st (zap (for_list rfl q) pt)
 obtain⟨env',hl,s2,s3,s4,s5,rfl⟩:=outer
 exact zio (env:=[.pl (webD W),.no,.no,.no,.no,.no]) rfl (zap rfl (zap (for_list rfl hl) rfl))
theorem zagi{W:Web}{A B C:Sl}{D E:Sl}:∀(ms ks:List Str)(s6:Sl),ks.length+ms.length<100000->∃s6',forL (gN 6) (sIf (zbt (eOp (inD true) (eVar 6) (eVar 4))) (sApp 4 (eVar 6)) sNil) (ms.map .str) [A,B,C,D,.ac (zad ks),E,s6]=some (.nx [A,B,C,D,.ac (zad (ms.foldl insS ks)),E,s6'])
 | [],ks,s6,_=>⟨s6,rfl⟩
 | m::ms,ks,s6,hl=>by
  have step:sIf (zbt (eOp (inD true) (eVar 6) (eVar 4))) (sApp 4 (eVar 6)) sNil [A,B,C,D,.ac (zad ks),E,.pl (.str m)]=some (.nx [A,B,C,D,.ac (zad (insS ks m)),E,.pl (.str m)]):=by
   by_cases hm:m∈ks
   ·refine if_f ?_ ?_
    ·simp[zbt,eOp,eVar,zpy,hm]
    ·rw[show insS ks m=ks from if_pos hm];rfl
   ·refine if_t ?_ ?_
    ·simp[zbt,eOp,eVar,zpy,hm]
    ·have lz:(ks.map PyData.str).length<100000:=by rw[qF];simp at hl;omega
     simp only[sApp,zad,eVar,qAE,qAD,qE]
     rw[if_pos ⟨lz,by simp⟩]
     simp[frzs,insS,hm]
  have hl2:(insS ks m).length+ms.length<100000:=by
   have:(insS ks m).length<=ks.length+1:=by unfold insS;split<;>simp
   simp at hl;omega
  obtain⟨s6',q⟩:=zagi (W:=W) ms (insS ks m) (.pl (.str m)) hl2
  refine⟨s6',?_⟩
  rw[qd]
  unfold forL
  simp only[gN,qE,qBX,qBW]
  rw[step,qE]
  exact q
theorem zakl{W:Web}(h:WebOk W):zmq [webD W]=some (.dict (dS zad (ups W)),true):=by
 have inner:∀(V:Web)(p:Str×List Str)(es pre:List Str)(s5 s6:Sl),WebOk (V++[p])->pre++es=p.2->
   ∃s5' s6',forL (gN 5) (sFor (zav (zcc 1 (eVar 5))) (gN 6) (sIf (zbt (eOp (inD true) (eVar 6) (eVar 4))) (sApp 4 (eVar 6)) sNil)) (es.map .str) [.pl (webD W),.ac (.dict (dS zad (ups V))),.pl (.str p.1),.pl (zad p.2),.ac (zad (pre.foldl (λks e=>(upL (ups V) e).foldl insS ks) [p.1])),s5,s6] =
    some (.nx [.pl (webD W),.ac (.dict (dS zad (ups V))),.pl (.str p.1),.pl (zad p.2),.ac (zad (p.2.foldl (λks e=>(upL (ups V) e).foldl insS ks) [p.1])),s5',s6']):=by
  intro V p es
  induction es with
  | nil=>intro pre s5 s6 _ e;rw[qAB]at e;subst e;exact⟨s5,s6,rfl⟩
  | cons e es ih=>
   intro pre s5 s6 hV hp
   obtain⟨hV',hn,hel,hfew⟩:=zfq hV
   have he:e∈nm V:=hel e (by rw[<- hp];simp)
   obtain⟨ks,lk,_⟩:=zhi (l:=ups V) (n:=e) (by rw[zgd];exact he)
   have eup:upL (ups V) e=ks:=by unfold upL;rw[lk];rfl
   have l1:ks.length<=12:=by rw[<- eup];exact zagf hV' e
   have sub:∀x∈pre.foldl (λks e=>(upL (ups V) e).foldl insS ks) [p.1],x∈nm (V++[p]):=λx hx=>by
    rw[zlt]
    rcases zpz.mp hx with z|⟨e',_,z⟩
    ·exact qb _ (by simpa using z)
    ·exact qu _ (zvt hV' z)
   have l2:(pre.foldl (λks e=>(upL (ups V) e).foldl insS ks) [p.1]).length<=12:=by
    have:=zjx _ _ (zaal (acc:=ups V) (es:=pre) (ks:=[p.1]) (by simp)) sub
    have:=zrp hV
    omega
   obtain⟨s6',q1⟩:=zagi (W:=W) (A:=.pl (webD W)) (B:=.ac (.dict (dS zad (ups V)))) (C:=.pl (.str p.1)) (D:=.pl (zad p.2)) (E:=.pl (.str e)) ks (pre.foldl (λks e=>(upL (ups V) e).foldl insS ks) [p.1]) s6 (by omega)
   obtain⟨s5',s6'',q⟩:=ih (pre++[e]) (.pl (.str e)) s6' hV (by rw[<- hp];simp)
   refine⟨s5',s6'',?_⟩
   rw[qd]
   unfold forL
   simp only[gN,qE,qBX,qBW]
   have gd:zcc 1 (eVar 5) [.pl (webD W),.ac (.dict (dS zad (ups V))),.pl (.str p.1),.pl (zad p.2),.ac (zad (pre.foldl (λks e=>(upL (ups V) e).foldl insS ks) [p.1])),.pl (.str e),s6]=some ⟨zad ks,false,[]⟩:=by
    simp[zcc,eVar,keyD,zlu,lk]
   rw[for_list gd q1,qE]
   rw[qBz,qBb,List.foldl_nil,eup]at q
   exact q
 have outer:∃env',forL (gT 2 (zbu 2 (zbu 3 zja))) (sSeq (sSet 4 (eLst (zaa (eVar 2) aNil))) (sSeq (sFor (zav (eVar 3)) (gN 5) (sFor (zav (zcc 1 (eVar 5))) (gN 6) (sIf (zbt (eOp (inD true) (eVar 6) (eVar 4))) (sApp 4 (eVar 6)) sNil))) (sPut 1 (eVar 2) (eVar 4)))) (W.map rowD) [.pl (webD W),.ac (.dict []),.no,.no,.no,.no,.no]=some (.nx env')/\
   ∃s2 s3 s4 s5 s6,env'=[.pl (webD W),.ac (.dict (dS zad (ups W))),s2,s3,s4,s5,s6]:=by
  refine zcv (λpre env=>∃s2 s3 s4 s5 s6,env=[.pl (webD W),.ac (.dict (dS zad (ups pre))),s2,s3,s4,s5,s6]) ⟨_,_,_,_,_,rfl⟩ ?_
  rintro pre p post env hp ⟨s2,s3,s4,s5,s6,rfl⟩
  have hV:WebOk (pre++[p]):=zvv (post:=post) (by rw[<- zaam hp];exact h)
  obtain⟨hV',hn,hel,hfew⟩:=zfq hV
  obtain⟨s5',s6',q⟩:=inner pre p p.2 [] s5 s6 hV rfl
  refine⟨[.pl (webD W),.ac (.dict (dS zad (ups pre))),.pl (.str p.1),.pl (zad p.2),s4,s5,s6],[.pl (webD W),.ac (.dict (dS zad (ups (pre++[p])))),.pl (.str p.1),.pl (zad p.2),.pl (zad (p.2.foldl (λks e=>(upL (ups pre) e).foldl insS ks) [p.1])),s5',s6'],rfl,.inl ?_,_,_,_,_,_,rfl⟩
  have lz:(dS zad (ups pre)).length<100000:=by
   unfold dS
   rw[qF,<- qF (f:=(·.1)),zgd]
   have:=zrp hV'
   omega
  have pt:sPut 1 (eVar 2) (eVar 4) [.pl (webD W),.ac (.dict (dS zad (ups pre))),.pl (.str p.1),.pl (zad p.2),.ac (zad (p.2.foldl (λks e=>(upL (ups pre) e).foldl insS ks) [p.1])),s5',s6'] =
    some (.nx [.pl (webD W),.ac (.dict (dS zad (ups (pre++[p])))),.pl (.str p.1),.pl (zad p.2),.pl (zad (p.2.foldl (λks e=>(upL (ups pre) e).foldl insS ks) [p.1])),s5',s6']):=by
   simp only[sPut,eVar,qAE,qAD,qE,keyD]
   rw[if_pos ⟨lz,by simp⟩,zagg zad (by rw[zgd];exact hn),zjh]
   simp[frzs,frz1,zjg]
  exact zap rfl (zap (for_list rfl q) pt)
 obtain⟨env',hl,s2,s3,s4,s5,s6,rfl⟩:=outer
 exact zio (env:=[.pl (webD W),.no,.no,.no,.no,.no,.no]) rfl (zap rfl (zap (for_list rfl hl) rfl))
noncomputable def ltr(i:Int):Str:=⟨#[97+i.toNat]⟩
noncomputable def Low(x:Str):Prop:=∀c∈x.cps.toList,c<128
theorem zkm{x:Str}(h:Low x):qAe x=true:=by
 unfold qAe
 rw[<- Array.all_toList,qAV]
 intro c hc
 have:=h c hc
 exact decide_eq_true (by omega)
theorem zji(a b:Str):(a++b).cps.toList=a.cps.toList++b.cps.toList:=by
 show(a.cps++b.cps).toList=_
 simp
theorem Low.app{a b:Str}(h1:Low a)(h2:Low b):Low (a++b):=λc hc=>by
 rw[zji]at hc
 exact(qX.mp hc).elim (h1 c) (h2 c)
theorem Low.slice{x:Str}(h:Low x)(l u:Option Int):Low (Txt.slice x l u):=λc hc=>by
 unfold Txt.slice at hc
 split at hc
 ·exact h c hc
 ·have hc:c∈(List.filterMap (x.cps[·]?) (Builtin.Str.strSliceIndices l u 1 x.length)):=by simpa using hc
  obtain⟨i,_,e⟩:=qBY.mp hc
  exact h c (by
   have:=qC3 e
   simpa using this)
theorem Low.ltr{i:Int}(h0:0<=i)(h1:i<26):Low (ltr i):=λc hc=>by
 have:c=97+i.toNat:=by simpa [Bc.ltr]using hc
 omega
theorem zvw(c:Nat):∀(n:Nat)(acc:Array Nat),((List.replicate n #[c]).foldl (·++·) acc).toList=acc.toList++List.replicate n c
 | 0,acc=>by simp
 | n+1,acc=>by
  rw[qBm,qBb,zvw c n,qBm]
  simp
theorem zmt{c:Nat}{n:Int}(h:0<=n):(Txt.mul ⟨#[c]⟩ n).cps.toList=List.replicate n.toNat c:=by
 unfold Txt.mul
 split
 ·have:n.toNat=0:=by omega
  rw[this];rfl
 ·split
  ·rename_i h1 h2
   have:n=1:=by
    rcases qBr.mp h2 with z|z
    ·exact eq_of_beq z
    ·exact absurd z (by simp[Str.length])
   subst this
   rfl
  ·rw[zvw];rfl
theorem Low.mul{c:Nat}(hc:c<128){n:Int}(h:0<=n):Low (Txt.mul ⟨#[c]⟩ n):=λd hd=>by
 rw[zmt h]at hd
 rw[qBT hd];exact hc
theorem zagj{c:Nat}{n:Int}(h:0<=n):(Txt.mul ⟨#[c]⟩ n).length=n.toNat:=by
 have:=congrArg List.length (zmt (c:=c) h)
 rw[qAT]at this
 simpa [Str.length]using this
noncomputable def zjj(md o st:Int)(stem:Str)(at_:Int)(k:Nat):Str:=
 if md=0 then Txt.slice stem none (some at_)++ltr ((o+st * k) % 26)++Txt.slice stem (some at_) none
 else if md=1 then Txt.slice stem none (some (k * st % (stem.length+1)))++ltr ((o+st * k) % 26)
 else Txt.mul (ltr ((o+k / 8) % 26)) (1+k * st % 8)
theorem zagk{i j:Int}(h0:0<=i)(h1:0<=j)(h:ltr i=ltr j):i=j:=by
 unfold ltr at h
 have:#[97+i.toNat]=#[97+j.toNat]:=by injection h
 have:97+i.toNat=97+j.toNat:=by simpa using this
 omega
theorem zvx:∀st∈([1,3,5,7,9,11,15,17]:List Nat),∀a<16,∀b<16,st * a % 26=st * b % 26->a=b:=by decide +kernel
theorem zaan{o st:Int}(hs:st∈([1,3,5,7,9,11,15,17]:List Int)){a b:Nat}(ha:a<16)(hb:b<16)(h:(o+st * a) % 26=(o+st * b) % 26):a=b:=by
 have h2:=Int.emod_add_cancel_left.mp h
 simp only[qc,qB2,or_false]at hs
 rcases hs with rfl|rfl|rfl|rfl|rfl|rfl|rfl|rfl
 ·exact zvx 1 (by decide) a ha b hb (by exact_mod_cast h2)
 ·exact zvx 3 (by decide) a ha b hb (by exact_mod_cast h2)
 ·exact zvx 5 (by decide) a ha b hb (by exact_mod_cast h2)
 ·exact zvx 7 (by decide) a ha b hb (by exact_mod_cast h2)
 ·exact zvx 9 (by decide) a ha b hb (by exact_mod_cast h2)
 ·exact zvx 11 (by decide) a ha b hb (by exact_mod_cast h2)
 ·exact zvx 15 (by decide) a ha b hb (by exact_mod_cast h2)
 ·exact zvx 17 (by decide) a ha b hb (by exact_mod_cast h2)
theorem zaoz{x y:Int}(hx:0<=x)(hy:0<=y)(h:97+x.toNat=97+y.toNat):x=y:=by omega
theorem zash{x y:Int}(hx:0<=x)(hy:0<=y)(h:(1+x).toNat=(1+y).toNat):x=y:=by omega
theorem zagl{x:Int}(hx:0<=x):(1+x).toNat=x.toNat+1:=by omega
theorem tab8:∀st∈([1,3,5,7,9,11,15,17]:List Nat),∀a<16,∀b<16,a / 8=b / 8->a * st % 8=b * st % 8->a=b:=by decide +kernel
theorem zagm{o st:Int}(hs:st∈([1,3,5,7,9,11,15,17]:List Int)){a b:Nat}(ha:a<16)(hb:b<16)(h:(o+(a:Int) / 8) % 26=(o+(b:Int) / 8) % 26)(h2:(a:Int) * st % 8=b * st % 8):a=b:=by
 have q1:a / 8=b / 8:=by omega
 simp only[qc,qB2,or_false]at hs
 rcases hs with rfl|rfl|rfl|rfl|rfl|rfl|rfl|rfl
 ·exact tab8 1 (by decide) a ha b hb q1 (by exact_mod_cast h2)
 ·exact tab8 3 (by decide) a ha b hb q1 (by exact_mod_cast h2)
 ·exact tab8 5 (by decide) a ha b hb q1 (by exact_mod_cast h2)
 ·exact tab8 7 (by decide) a ha b hb q1 (by exact_mod_cast h2)
 ·exact tab8 9 (by decide) a ha b hb q1 (by exact_mod_cast h2)
 ·exact tab8 11 (by decide) a ha b hb q1 (by exact_mod_cast h2)
 ·exact tab8 15 (by decide) a ha b hb q1 (by exact_mod_cast h2)
 ·exact tab8 17 (by decide) a ha b hb q1 (by exact_mod_cast h2)
theorem zagn{md o st at_:Int}{stem:Str}(hs:st∈([1,3,5,7,9,11,15,17]:List Int))(ho:0<=o){a b:Nat}(ha:a<16)(hb:b<16)(h:zjj md o st stem at_ a=zjj md o st stem at_ b):a=b:=by
 have st0:0<=st:=by
  simp only[qc,qB2,or_false]at hs
  rcases hs with rfl|rfl|rfl|rfl|rfl|rfl|rfl|rfl<;>decide
 have n26:∀z:Int,0<=z % 26:=λz=>qAC z (by decide)
 unfold zjj at h
 by_cases h0:md=0
 ·rw[if_pos h0,if_pos h0]at h
  have q:=congrArg (λx:Str=>x.cps.toList) h
  simp only[zji]at q
  have q2:=List.append_cancel_right q
  have q3:=List.append_cancel_left q2
  have q4:ltr ((o+st * a) % 26)=ltr ((o+st * b) % 26):=by
   unfold ltr at q3 ⊢
   congr 1
   exact Array.toList_inj.mp q3
  exact zaan hs ha hb (zagk (n26 _) (n26 _) q4)
 ·rw[if_neg h0,if_neg h0]at h
  by_cases h1:md=1
  ·rw[if_pos h1,if_pos h1]at h
   have q:=congrArg (λx:Str=>x.cps.toList) h
   simp only[zji]at q
   have q3:=(List.append_inj' q (by simp[ltr])).2
   have q4:ltr ((o+st * a) % 26)=ltr ((o+st * b) % 26):=by
    unfold ltr at q3 ⊢
    congr 1
    exact Array.toList_inj.mp q3
   exact zaan hs ha hb (zagk (n26 _) (n26 _) q4)
  ·rw[if_neg h1,if_neg h1]at h
   have m8:∀z:Int,0<=z % 8:=λz=>qAC z (by decide)
   have q:(Txt.mul (ltr ((o+(a:Int) / 8) % 26)) (1+a * st % 8)).cps.toList=(Txt.mul (ltr ((o+(b:Int) / 8) % 26)) (1+b * st % 8)).cps.toList:=by rw[h]
   have ea:∀k:Nat,(Txt.mul (ltr ((o+(k:Int) / 8) % 26)) (1+k * st % 8)).cps.toList=List.replicate (1+(k:Int) * st % 8).toNat (97+((o+(k:Int) / 8) % 26).toNat):=λk=>zmt (by have:=m8 (k * st);omega)
   rw[ea a,ea b]at q
   have ql:=congrArg List.length q
   rw[qAT,qAT]at ql
   have w1:=m8 (a * st)
   have w2:=m8 (b * st)
   have hh:(97+((o+(a:Int) / 8) % 26).toNat)=(97+((o+(b:Int) / 8) % 26).toNat):=by
    have c1:(1+(a:Int) * st % 8).toNat=((a:Int) * st % 8).toNat+1:=zagl w1
    have c2:(1+(b:Int) * st % 8).toNat=((b:Int) * st % 8).toNat+1:=zagl w2
    rw[c1,c2,qBm,qBm]at q
    exact(List.cons.inj q).1
   have z1:=n26 (o+(a:Int) / 8)
   have z2:=n26 (o+(b:Int) / 8)
   exact zagm (o:=o) hs ha hb (zaoz z1 z2 hh) (zash w1 w2 ql)
theorem zqc{α:Type}{f:Nat->α}{n:Nat}(h:∀a b,a<n->b<n->f a=f b->a=b):((List.range n).map f).Nodup:=by
 rw[List.nodup_iff_pairwise_ne,List.pairwise_map]
 refine List.Pairwise.imp_of_mem ?_ (List.pairwise_lt_range (n:=n))
 intro a b ha hb hab e
 have:=h a b (qAq.mp ha) (qAq.mp hb) e
 omega
theorem zago{md o st at_:Int}{stem:Str}(hl:Low stem)(ho:0<=o)(hst:0<=st)(k:Nat):Low (zjj md o st stem at_ k):=by
 have n26:∀z:Int,0<=z % 26/\z % 26<26:=λz=>⟨qAC z (by decide),qAF z (by decide)⟩
 unfold zjj
 split
 ·exact((hl.slice _ _).app (Low.ltr (n26 _).1 (n26 _).2)).app (hl.slice _ _)
 ·split
  ·exact(hl.slice _ _).app (Low.ltr (n26 _).1 (n26 _).2)
  ·have:=qAC ((k:Int) * st) (show(8:Int)≠0 by decide)
   exact Low.mul (by have:=n26 (o+(k:Int) / 8);omega) (by omega)
noncomputable abbrev vi(i:Int):Val:=⟨.int i,false,[]⟩
noncomputable abbrev vs(x:Str):Val:=⟨.str x,false,[]⟩
noncomputable abbrev vb(b:Bool):Val:=⟨.bool b,false,[]⟩
section
variable{a b:EF}{env:DEnv}{i j:Int}
theorem zgs(ha:a env=some (vi i))(hb:b env=some (vi j))(h:0<j):eOp modD a b env=some (vi (i % j)):=by
 unfold eOp;rw[ha,hb];simp[modD,intD,h,bsOf,zff]
theorem zlh(ha:a env=some (vi i))(hb:b env=some (vi j))(h:0<j)(h2:j<1073741824):eOp zdp a b env=some (vi (i / j)):=by
 unfold eOp;rw[ha,hb];simp[zdp,intD,h,h2,bsOf,zff]
theorem ztm(ha:a env=some (vi i))(hb:b env=some (vi j)):eOp addD a b env=some (vi (i+j)):=by
 unfold eOp;rw[ha,hb];simp[addD,bsOf,zff]
theorem zapa(ha:a env=some (vi i))(hb:b env=some (vi j))(h:(-(2 ^ 64)<i/\i<2 ^ 64)\/(-(2 ^ 64)<j/\j<2 ^ 64)):eOp mulD a b env=some (vi (i * j)):=by
 unfold eOp;rw[ha,hb]
 simp only[qE,mulD]
 rw[if_pos h];simp[bsOf,zff]
theorem zvy(ha:a env=some (vi i))(hb:b env=some (vi j)):eOp eqD a b env=some (vb (i==j)):=by
 unfold eOp;rw[ha,hb];rfl
theorem zagp{x y:Str}(ha:a env=some (vs x))(hb:b env=some (vs y))(h:x.length+y.length<=100000):eOp addD a b env=some (vs (x++y)):=by
 unfold eOp;rw[ha,hb]
 simp only[qE,addD]
 rw[if_pos h];simp[bsOf,zff]
theorem zame{x:Str}(ha:a env=some (vs x))(hb:b env=some (vi j))(h:x.length<=1000/\-1000<=j/\j<=1000):eOp mulD a b env=some (vs (Txt.mul x j)):=by
 unfold eOp;rw[ha,hb]
 simp only[qE,mulD]
 rw[if_pos h];simp[bsOf,zff]
theorem zapb{x:Str}{l h:PF'}{lo hi:Option Int}(ha:a env=some (vs x))(hl:l env=some lo)(hh:h env=some hi)(hz:x.length<=100000):eSl a l h env=some (vs (Txt.slice x lo hi)):=by
 unfold eSl;rw[ha,hl,hh]
 simp only[qE,slD]
 rw[if_pos hz];simp[bsOf,zff]
theorem zli(ha:a env=some (vi i)):zbo a env=some (some i):=by unfold zbo;rw[ha];rfl
theorem ziq{c:Bool}(ha:a env=some (vb c)):zbt a env=some c:=by unfold zbt;rw[ha];rfl
theorem zen{r:Val}(ha:a env=some r):zaa a aNil env=some [r]:=by unfold zaa aNil;rw[ha];rfl
theorem zamf{x:Str}(ha:a env=some (vs x))(hz:x.length<=100000):eCB lenD (zaa a aNil) env=some (vi x.length):=by
 unfold eCB
 rw[zen ha]
 simp[zge,lenD,hz,bsOf,zff]
theorem zqd{ds:List PyData}{fr:Bool}{bs:List Nat}(ha:a env=some ⟨.list ds,fr,bs⟩):eCB lenD (zaa a aNil) env=some (vi ds.length):=by
 unfold eCB
 rw[zen ha]
 simp[zge,lenD,bsOf,zff]
theorem zaci{k n:Nat}{b:EF}{ds:List PyData}{d:PyData}(he:env[k]?=some (.pl (.list ds)))(hb:b env=some (vi (n:Int)))(hd:ds[n]?=some d):eIxV k b env=some ⟨d,false,[]⟩:=by
 unfold eIxV
 rw[he]
 unfold eOp eVar
 rw[he,hb]
 simp only[qE,ixD]
 rw[znc hd]
 simp[bsOf]
end
noncomputable def abc:Str:="abcdefghijklmnopqrstuvwxyz"
theorem zapc:(List.range 26).all (λi=>abc.cps.toList[i]?==some (97+i))=true:=by decide +kernel
theorem zapd:abc.length=26:=by decide +kernel
theorem zasi{i:Int}(h0:0<=i)(h1:i<26):atI abc.cps.toList i=some (97+i.toNat):=by
 have q:=qAV.mp zapc i.toNat (qAq.mpr (by omega))
 have e:((i.toNat:Nat):Int)=i:=by omega
 rw[<- e]
 have z:=znc (eq_of_beq q)
 rw[e]at z ⊢
 exact z
theorem zape{k:Nat}{b:EF}{env:DEnv}{i:Int}(he:env[k]?=some (.pl (.str abc)))(hb:b env=some (vi i))(h0:0<=i)(h1:i<26):eIxV k b env=some (vs (ltr i)):=by
 unfold eIxV
 rw[he]
 unfold eOp eVar
 rw[he,hb]
 simp only[qE,ixD]
 rw[if_pos (by rw[zapd];decide),zasi h0 h1]
 simp[bsOf,zff,ltr]
theorem zapf{i:Int}(h0:0<=i)(h1:i<8):∃st:Int,atI [PyData.int 1,.int 3,.int 5,.int 7,.int 9,.int 11,.int 15,.int 17] i=some (.int st)/\st∈([1,3,5,7,9,11,15,17]:List Int):=by
 rcases(show i=0\/i=1\/i=2\/i=3\/i=4\/i=5\/i=6\/i=7 by omega)with rfl|rfl|rfl|rfl|rfl|rfl|rfl|rfl
 all_goals exact⟨_,rfl,by decide⟩
theorem zvz{i:Nat}{f:EF}{env:DEnv}{ds:List PyData}{d:PyData}{fr:Bool}(he:env[i]?=some (.ac (.list ds)))(hf:f env=some ⟨d,fr,[]⟩)(hl:ds.length<100000):sApp i f env=some (.nx (env.set i (.ac (.list (ds++[d]))))):=by
 unfold sApp
 rw[he]
 simp only
 rw[hf]
 simp only[qE]
 rw[if_pos ⟨hl,by simp⟩];rfl
theorem zqe(n:Nat):zpo 0 n=(List.range n).map (λ(k:Nat)=>PyData.int (k:Int)):=by
 unfold zpo
 refine qBn λk _=>?_
 show PyData.int (0+(k:Int))=_
 rw[Int.zero_add]
theorem ztn(a b:Str):(a++b).length=a.length+b.length:=by
 have:=congrArg List.length (zji a b)
 rw[qM]at this
 simpa [Str.length]using this
theorem zagq:WebOk []:=⟨qCn,λi n es e=>by simp at e,λp hp=>by simp at hp,by simp⟩
theorem zagr{W:Web}{p:Str×List Str}(h:WebOk W)(hn:p.1∉nm W)(he:∀e∈p.2,e∈nm W)(hf:p.2.length<=4)(hl:W.length<12):WebOk (W++[p]):=by
 refine⟨by rw[zlt];exact zxw h.nd hn,λi n es e=>?_,λq hq=>?_,by simp;omega⟩
 ·by_cases hi:i<W.length
  ·rw[qAN hi]at e
   rw[qAt (by omega)]
   exact h.el i n es e
  ·rw[qAU (by omega)]at e
   have hi2:i - W.length=0:=by
    have:=(qU.mp e).1
    simp at this;omega
   rw[hi2]at e
   cases e
   have:i=W.length:=by omega
   subst this
   rw[qAt (qL _),qCT]
   exact he
 ·rcases qX.mp hq with hq|hq
  ·exact h.few q hq
  ·rw[qAL.mp hq];exact hf
theorem zto(ds:List PyData)(k:Nat)(h:k<=ds.length):cutD ds none (some (k:Int))=ds.take k:=by
 unfold cutD
 have e1:HT.sIx ds.length 0 none=0:=rfl
 rw[e1,HT.sIx_nat]
 simp
theorem zaao{α:Type}(enc:α->PyData)(l:List α):zsz (l.map enc)=(l.zipIdx).map λ(p:α×Nat)=>PyData.tuple [.int (p.2:Int),enc p.1]:=by
 unfold zsz
 rw[List.zipIdx_map,qBt];rfl
theorem zasj{α:Type}{l:List α}(nd:l.Nodup){i j:Nat}{hi:i<l.length}{hj:j<l.length}(e:l[i]=l[j]):i=j:=by
 rcases Nat.lt_trichotomy i j with h|h|h
 ·exact absurd e (qCm.mp nd i j hi hj h)
 ·exact h
 ·exact absurd e.symm (qCm.mp nd j i hj hi h)
theorem znp{α:Type}:∀(l:List α)(i:Nat)(h:i<l.length),(l[i]::l.eraseIdx i).Perm l
 | [],_,h=>by simp at h
 | a::l,0,_=>qCP _
 | a::l,i+1,h=>by
  have hi:i<l.length:=by simpa using h
  have ih:=znp l i hi
  show(l[i]::a::l.eraseIdx i).Perm (a::l)
  exact(List.Perm.swap a l[i] _).trans (List.Perm.cons a ih)
theorem zqf{α β:Type}(f:α->β):∀(l:List α)(i:Nat),(l.map f).eraseIdx i=(l.eraseIdx i).map f
 | [],_=>rfl
 | _::_,0=>rfl
 | a::l,i+1=>by
  show f a::(l.map f).eraseIdx i=f a::(l.eraseIdx i).map f
  rw[zqf f l i]
theorem zwa{A B C:Sl}{kk:Nat}{nn:Sl}{xs:List Str}(hx:xs.length<=12):∀(t:Nat)(ls es:List Str)(rs:Int)(s8 s9:Sl),(es++ls).Perm xs->t+es.length<=4->t<=ls.length->
  ∃es' s5 s6 s8' s9',forL (gN 8) (sSeq (sSet 9 (eOp modD (eVar 6) (eCB lenD (zaa (eVar 5) aNil)))) (sSeq (sSet 6 (eOp zdp (eVar 6) (eCB lenD (zaa (eVar 5) aNil)))) (zhf 7 5 (eVar 9)))) ((List.range' es.length t).map λ(k:Nat)=>PyData.int (k:Int)) [A,B,C,.pl (.int (kk:Int)),nn,.ac (zad ls),.pl (.int rs),.ac (zad es),s8,s9] =
   some (.nx [A,B,C,.pl (.int (kk:Int)),nn,s5,s6,.ac (zad es'),s8',s9'])/\es'.Nodup=es'.Nodup/\(∃ls',(es'++ls').Perm xs)/\es'.length=t+es.length
 | 0,ls,es,rs,s8,s9,pm,_,_=>⟨es,_,_,s8,s9,rfl,rfl,⟨ls,pm⟩,by simp⟩
 | t+1,ls,es,rs,s8,s9,pm,h4,hl=>by
  have hls:0<ls.length:=by omega
  have pl:=pm.length_eq
  rw[qM]at pl
  have a0:=qAC rs (show((ls.length:Nat):Int)≠0 by omega)
  have a1:=qAF rs (show(0:Int)<((ls.length:Nat):Int) by omega)
  have hk:(rs % ((ls.length:Nat):Int)).toNat<ls.length:=by omega
  have e9:((rs % ((ls.length:Nat):Int)).toNat:Int)=rs % ((ls.length:Nat):Int):=by omega
  generalize eA:(rs % ((ls.length:Nat):Int)).toNat=at_ at hk e9
  have pm2:((es++[ls[at_]])++ls.eraseIdx at_).Perm xs:=by
   refine List.Perm.trans ?_ pm
   rw[qAX]
   exact qCi es (znp ls at_ hk)
  obtain⟨es',s5,s6,s8',s9',q,_,hp,hlen⟩:=zwa (A:=A) (B:=B) (C:=C) (kk:=kk) (nn:=nn) hx t (ls.eraseIdx at_) (es++[ls[at_]]) (rs / ((ls.length:Nat):Int)) (.pl (.int (es.length:Int))) (.pl (.int (at_:Int))) pm2 (by simp;omega) (by rw[qCh hk];omega)
  refine⟨es',s5,s6,s8',s9',?_,rfl,hp,by rw[hlen];simp;omega⟩
  rw[List.range'_succ,qd]
  unfold forL
  simp only[gN,qE,qBX,qBW]
  have st1:sSet 9 (eOp modD (eVar 6) (eCB lenD (zaa (eVar 5) aNil))) [A,B,C,.pl (.int (kk:Int)),nn,.ac (zad ls),.pl (.int rs),.ac (zad es),.pl (.int (es.length:Int)),s9]=some (.nx [A,B,C,.pl (.int (kk:Int)),nn,.ac (zad ls),.pl (.int rs),.ac (zad es),.pl (.int (es.length:Int)),.pl (.int (at_:Int))]):=by
   have:=zbs (i:=9) (zgs (a:=eVar 6) (env:=[A,B,C,.pl (.int (kk:Int)),nn,.ac (zad ls),.pl (.int rs),.ac (zad es),.pl (.int (es.length:Int)),s9]) rfl (zqd (a:=eVar 5) rfl) (by rw[qF];omega))
   rw[this,qF,<- e9];rfl
  have st2:sSet 6 (eOp zdp (eVar 6) (eCB lenD (zaa (eVar 5) aNil))) [A,B,C,.pl (.int (kk:Int)),nn,.ac (zad ls),.pl (.int rs),.ac (zad es),.pl (.int (es.length:Int)),.pl (.int (at_:Int))]=some (.nx [A,B,C,.pl (.int (kk:Int)),nn,.ac (zad ls),.pl (.int (rs / ((ls.length:Nat):Int))),.ac (zad es),.pl (.int (es.length:Int)),.pl (.int (at_:Int))]):=by
   have:=zbs (i:=6) (zlh (a:=eVar 6) (env:=[A,B,C,.pl (.int (kk:Int)),nn,.ac (zad ls),.pl (.int rs),.ac (zad es),.pl (.int (es.length:Int)),.pl (.int (at_:Int))]) rfl (zqd (a:=eVar 5) rfl) (by rw[qF];omega) (by rw[qF];omega))
   rw[this,qF];rfl
  have st3:zhf 7 5 (eVar 9) [A,B,C,.pl (.int (kk:Int)),nn,.ac (zad ls),.pl (.int (rs / ((ls.length:Nat):Int))),.ac (zad es),.pl (.int (es.length:Int)),.pl (.int (at_:Int))]=some (.nx [A,B,C,.pl (.int (kk:Int)),nn,.ac (zad (ls.eraseIdx at_)),.pl (.int (rs / ((ls.length:Nat):Int))),.ac (zad (es++[ls[at_]])),.pl (.int (es.length:Int)),.pl (.int (at_:Int))]):=by
   simp only[zhf,zad,eVar,qAE,qAD,qE]
   rw[if_pos ⟨by omega,by omega,by rw[qF];omega,by decide⟩,qBB,qR,qH hk]
   simp[zqf]
  rw[zap st1 (zap st2 st3),qE]
  rw[show(es++[ls[at_]]).length=es.length+1 by simp]at q
  exact q
theorem zags{cs:List Int}{xs:List Str}(hle:xs.length<=cs.length)(h12:xs.length<=12)(nd:xs.Nodup):∃W,zkk [zco cs,zad xs]=some (webD W,true)/\nm W=xs/\WebOk W:=by
 have loop:∃env',forL (gT 2 (zbu 3 (zbu 4 zja))) (sSeq (sSet 5 (eSl (eVar 1) zdy (zbo (eVar 3))))
  (sSeq (sSet 6 (eOp zdp (eIxV 0 (eVar 3)) (eC (.int 5))))
  (sSeq (sSet 7 (eLst aNil))
  (sSeq (sFor (zfg (zaa (eCB minD (zaa (eOp modD (eIxV 0 (eVar 3)) (eC (.int 5))) (zaa (eVar 3) aNil))) aNil)) (gN 8)
  (sSeq (sSet 9 (eOp modD (eVar 6) (eCB lenD (zaa (eVar 5) aNil))))
  (sSeq (sSet 6 (eOp zdp (eVar 6) (eCB lenD (zaa (eVar 5) aNil))))
  (zhf 7 5 (eVar 9)))))
  (sApp 2 (eTup (zaa (eVar 4) (zaa (eVar 7) aNil)))))))) ((xs.zipIdx).map λ(p:Str×Nat)=>PyData.tuple [.int (p.2:Int),.str p.1]) [.pl (zco cs),.pl (zad xs),.ac (webD []),.no,.no,.no,.no,.no,.no,.no]=some (.nx env')/\
   ∃W s3 s4 s5 s6 s7 s8 s9,env'=[.pl (zco cs),.pl (zad xs),.ac (webD W),s3,s4,s5,s6,s7,s8,s9]/\nm W=(xs.zipIdx).map (λp:Str×Nat=>p.1)/\WebOk W:=by
  refine zcv (λpre env=>∃W s3 s4 s5 s6 s7 s8 s9,env=[.pl (zco cs),.pl (zad xs),.ac (webD W),s3,s4,s5,s6,s7,s8,s9]/\nm W=pre.map (λp:Str×Nat=>p.1)/\WebOk W) ⟨[],_,_,_,_,_,_,_,rfl,rfl,zagq⟩ ?_
  rintro pre ⟨n,i⟩ post env hp ⟨W,s3,s4,s5,s6,s7,s8,s9,rfl,hnm,ok⟩
  have hz:(xs.zipIdx)[pre.length]?=some (n,i):=by rw[<- hp];simp
  rw[qDE]at hz
  have hi:i=pre.length/\xs[pre.length]?=some n:=by
   cases e:xs[pre.length]? with
   | none=>rw[e]at hz;cases hz
   | some y=>rw[e]at hz;simp at hz;exact⟨by omega,by rw[hz.1]⟩
  obtain⟨rfl,hn⟩:=hi
  have hix:pre.length<xs.length:=(qU.mp hn).1
  have hic:pre.length<cs.length:=by omega
  have hpre:pre.map (λp:Str×Nat=>p.1)=xs.take pre.length:=by
   have e1:(xs.zipIdx).map (λp:Str×Nat=>p.1)=xs:=qDJ 0 xs
   have e2:=congrArg (λl:List (Str×Nat)=>(l.map (λp:Str×Nat=>p.1)).take pre.length) hp
   simp only[e1]at e2
   rw[<- e2,qAG,qAt (by simp),<- qBL,qCT]
  have hWl:W.length=pre.length:=by
   have:=congrArg List.length hnm
   unfold nm at this
   simpa using this
  have gc:∀{env:DEnv},env[0]?=some (.pl (zco cs))->env[3]?=some (.pl (.int (pre.length:Int)))->eIxV 0 (eVar 3) env=some (vi cs[pre.length]):=λ{env} h0 h3=>
   zaci (ds:=cs.map .int) h0 (by unfold eVar;rw[h3]) (by rw[qR,qH hic];rfl)
  have m5:=qAC cs[pre.length] (show(5:Int)≠0 by decide)
  have m5':=qAF cs[pre.length] (show(0:Int)<5 by decide)
  generalize eN:(if((pre.length:Nat):Int)<cs[pre.length] % 5 then((pre.length:Nat):Int)else cs[pre.length] % 5)=N
  have hN:0<=N/\N<=pre.length/\N<=4:=by rw[<- eN];split<;>omega
  have tl:(xs.take pre.length).length=pre.length:=by rw[qAK];omega
  obtain⟨es,s5',s6',s8',s9',q,_,⟨ls,pm⟩,hes⟩:=zwa (A:=.pl (zco cs)) (B:=.pl (zad xs)) (C:=.ac (webD W)) (kk:=pre.length) (nn:=.pl (.str n)) (xs:=xs.take pre.length) (by omega) N.toNat (xs.take pre.length) [] (cs[pre.length] / 5) s8 s9 (qCP _) (by simp;omega) (by omega)
  have ndT:(xs.take pre.length).Nodup:=nd.sublist (qCL _ _)
  have ndE:es.Nodup:=(qBA.mp (pm.nodup_iff.mpr ndT)).1
  have subE:∀e∈es,e∈nm W:=λe he=>by rw[hnm,hpre];exact pm.mem_iff.mp (qu _ he)
  have nW:n∉nm W:=by
   rw[hnm,hpre]
   intro hm
   obtain⟨j,hj,ej⟩:=qBo hm
   rw[List.getElem_take]at ej
   obtain⟨hh,en⟩:=qU.mp hn
   have:=zasj nd (ej.trans en.symm)
   rw[tl]at hj
   omega
  refine⟨_,[.pl (zco cs),.pl (zad xs),.ac (webD (W++[(n,es)])),.pl (.int (pre.length:Int)),.pl (.str n),s5',s6',.pl (zad es),s8',s9'],rfl,.inl ?_,W++[(n,es)],_,_,_,_,_,_,_,rfl,by rw[zlt,hnm];simp,zagr ok nW subE (by rw[hes];simp;omega) (by omega)⟩
  have st5:sSet 5 (eSl (eVar 1) zdy (zbo (eVar 3))) [.pl (zco cs),.pl (zad xs),.ac (webD W),.pl (.int (pre.length:Int)),.pl (.str n),s5,s6,s7,s8,s9]=some (.nx [.pl (zco cs),.pl (zad xs),.ac (webD W),.pl (.int (pre.length:Int)),.pl (.str n),.ac (zad (xs.take pre.length)),s6,s7,s8,s9]):=by
   have:eSl (eVar 1) zdy (zbo (eVar 3)) [.pl (zco cs),.pl (zad xs),.ac (webD W),.pl (.int (pre.length:Int)),.pl (.str n),s5,s6,s7,s8,s9]=some ⟨zad (xs.take pre.length),true,[]⟩:=by
    simp only[eSl,eVar,zdy,zbo,qAE,qAD,qE,zad,slD]
    rw[zto _ _ (by rw[qF];omega),<- qBL]
    simp[bsOf,zff]
   exact zbs this
  refine zap st5 (zap (zbs (r:=vi _) (zlh (gc rfl rfl) rfl (by decide) (by decide))) (zap rfl (zap (zin (ds:=(List.range' ([]:List Str).length N.toNat).map λ(k:Nat)=>PyData.int (k:Int)) (bs:=[]) ?_ q) ?_)))
  ·have:eCB minD (zaa (eOp modD (eIxV 0 (eVar 3)) (eC (.int 5))) (zaa (eVar 3) aNil)) [.pl (zco cs),.pl (zad xs),.ac (webD W),.pl (.int (pre.length:Int)),.pl (.str n),.ac (zad (xs.take pre.length)),.pl (.int (cs[pre.length] / 5)),.ac (.list []),s8,s9]=some (vi N):=by
    unfold eCB zaa
    rw[zgs (gc rfl rfl) (j:=5) rfl (by decide)]
    show((minD [.int (cs[pre.length] % 5),.int ((pre.length:Nat):Int)]).bind λz=>some (⟨z.1,z.2,bsOf z.1 _⟩:Val))=_
    unfold minD
    simp only[qE]
    rw[eN];rfl
   show zfg _ [.pl (zco cs),.pl (zad xs),.ac (webD W),.pl (.int (pre.length:Int)),.pl (.str n),.ac (zad (xs.take pre.length)),.pl (.int (cs[pre.length] / 5)),.ac (.list []),s8,s9]=_
   unfold zfg
   rw[zen this]
   simp only[qE]
   rw[if_pos ⟨by omega,by omega⟩,zqe,qDD]
   rfl
  ·have lz:(W.map rowD).length<100000:=by rw[qF];omega
   simp only[sApp,webD,eTup,zaa,aNil,eVar,qAE,qAD,qE,qAi,zge,bss]
   rw[if_pos (by simp)]
   simp only[qE]
   rw[if_pos ⟨lz,by simp⟩]
   simp[frzs,frz1,rowD,zad]
 obtain⟨env',hl,W,s3,s4,s5,s6,s7,s8,s9,rfl,hnm,ok⟩:=loop
 refine⟨W,zio (env:=[.pl (zco cs),.pl (zad xs),.no,.no,.no,.no,.no,.no,.no,.no]) rfl (zap rfl (zap (zin (ds:=(xs.zipIdx).map λ(p:Str×Nat)=>PyData.tuple [.int (p.2:Int),.str p.1]) (bs:=[]) ?_ hl) rfl)),hnm.trans (qDJ 0 xs),ok⟩
 unfold zzy
 rw[zen (r:=⟨zad xs,false,[]⟩) rfl]
 simp only[qE,zad]
 rw[zaao]
section
variable{a b:EF}{env:DEnv}{x y:Str}
theorem e_in{neg:Bool}{xs:List Str}{fr:Bool}{bs:List Nat}(ha:a env=some (vs x))(hb:b env=some ⟨zad xs,fr,bs⟩):eOp (inD neg) a b env=some (vb (if neg then !decide (x∈xs)else decide (x∈xs))):=by
 unfold eOp;rw[ha,hb];simp[zpy,bsOf,zff]
theorem zagt{k:Nat}{kvs:List (PyData×PyData)}{d:PyData}(he:env[k]?=some (.pl (.dict kvs))\/env[k]?=some (.ac (.dict kvs)))(hb:b env=some (vs y))(hd:zmi kvs (Sum.inr y)=some d):zcc k b env=some ⟨d,false,[]⟩:=by
 unfold zcc
 rcases he with he|he<;>rw[he]<;>simp only<;>rw[hb]<;>simp[keyD,hd]
theorem zamg{neg:Bool}{ks:List Str}{fr:Bool}{bs:List Nat}(ha:a env=some (vs x))(hb:b env=some ⟨zbk ks,fr,bs⟩):eDIn neg a b env=some (vb (if neg then !decide (x∈ks)else decide (x∈ks))):=by
 unfold eDIn;rw[ha,hb];simp[zbk,keyD,zvu]
end
theorem zwb{n:Str}{es:List Str}:∀{W:Web},W.lookup n=some es->W[(nm W).idxOf n]?=some (n,es)
 | [],h=>by cases h
 | (a,b)::W,h=>by
  rw[q9]at h
  show((a,b)::W)[(a::nm W).idxOf n]?=_
  rw[List.idxOf_cons]
  cases e:n==a with
  | true=>
   rw[e]at h
   cases h
   rw[<- eq_of_beq e]
   simp
  | false=>
   rw[e]at h
   have hne:(a==n)=false:=by
    have:=beq_eq_false_iff_ne.mp e
    exact beq_eq_false_iff_ne.mpr (qAo this)
   rw[hne]
   simpa using zwb (W:=W) h
theorem zakm{l:List Str}{n:Nat}{x:Str}(h:x∈l.take n):l.idxOf x<n:=by
 have:l.idxOf x=(l.take n).idxOf x:=by
  conv=>lhs;rw[<- qC5 n l]
  rw[List.idxOf_append,if_pos h]
 rw[this]
 have h2:=List.idxOf_lt_length_of_mem h
 rw[qAK]at h2
 omega
theorem zamh{W:Web}(h:WebOk W){n e:Str}(he:e∈upL W n):e∈nm W/\(nm W).idxOf e<(nm W).idxOf n:=by
 unfold upL at he
 cases hl:W.lookup n with
 | none=>rw[hl]at he;simp at he
 | some es=>
  rw[hl]at he
  have hi:=zwb hl
  have q:=h.el _ _ _ hi e he
  have:nm (W.take ((nm W).idxOf n))=(nm W).take ((nm W).idxOf n):=by unfold nm;rw[qBL]
  rw[this]at q
  exact⟨qAO q,zakm q⟩
theorem zagu{W:Web}{n:Str}(h:n∈nm W):∃es,W.lookup n=some es/\(n,es)∈W:=zhi (l:=W) (n:=n) h
theorem zagv{W:Web}(h:WebOk W){n x:Str}(hn:n∈nm W):x∈up W n↔x=n\/∃e∈upL W n,x∈up W e:=by
 obtain⟨es,hl,hm⟩:=zagu hn
 rw[zamd h hm]
 unfold upL
 rw[hl];rfl
theorem zkz{W:Web}{n:Str}(h:n∈nm W):(ups W).lookup n=some (up W n):=by
 obtain⟨ks,e,_⟩:=zhi (l:=ups W) (n:=n) (by rw[zgd];exact h)
 unfold up upL
 rw[e];rfl
theorem zaz{a:EF}{f:AF}{env:DEnv}{r:Val}{rs:List Val}(ha:a env=some r)(hf:f env=some rs):zaa a f env=some (r::rs):=by unfold zaa;rw[ha,hf];rfl
theorem zaap{f:EF}{env:DEnv}{c:Bool}(h:f env=some (vb c)):zhc (tTru f) env=some (!c):=by unfold zhc tTru;rw[h];rfl
theorem zakn(cs:List Int)(a b:Nat)(h:b<=cs.length)(hab:a<=b):cutD (cs.map .int) (some (a:Int)) (some (b:Int))=((cs.drop a).take (b - a)).map .int:=by
 unfold cutD
 have e1:min a cs.length=a:=by omega
 have e2:min b cs.length=b:=by omega
 rw[HT.sIx_nat,HT.sIx_nat,qF,e1,e2,<- qBj,<- qBL]
theorem zwc{env:DEnv}{cs:List Int}{b:EF}{n:Nat}(h1:env[1]?=some (.pl (zco cs)))(hb:b env=some (vi (n:Int)))(hn:n<cs.length):eIxV 1 b env=some (vi (cs[n]'hn)):=
 zaci (ds:=cs.map .int) h1 hb (by rw[qR,qH hn];rfl)
theorem zako{W:Web}:zfc (gT 2 (zbu 0 (zbu 1 zja))) zfd (eTup (zaa (eVar 0) (zaa (eCB zkb (zaa (eVar 1) aNil)) aNil))) [.no,.no] (W.map rowD)=some (W.map rowD):=
 zem λp _=>⟨[.pl (.str p.1),.pl (zad p.2)],rfl,rfl,⟨rowD p,false,[]⟩,rfl,rfl⟩
theorem ztp:∀(xs:List Str),(∀x∈xs,qAe x=true)->qAc (xs.map .str)=true/\qAp (xs.map .str)=0
 | [],_=>⟨rfl,rfl⟩
 | x::xs,h=>by
  obtain⟨h1,h2⟩:=ztp xs λy hy=>h y (qK _ hy)
  rw[qd]
  refine⟨?_,?_⟩
  ·show(qAe x&&qAc (xs.map .str))=true
   rw[h x qm,h1];rfl
  ·show max 0 (qAp (xs.map .str))=0
   rw[h2];rfl
theorem zaaq:∀(W:Web),(∀p∈W,qAe p.1=true/\∀e∈p.2,qAe e=true)->qAc (W.map rowD)=true/\qAp (W.map rowD)<=2
 | [],_=>⟨rfl,qAv _⟩
 | p::r,h=>by
  obtain⟨h1,h2⟩:=zaaq r λq hq=>h q (qK _ hq)
  obtain⟨g1,g2⟩:=h p qm
  obtain⟨l1,l2⟩:=ztp p.2 g2
  rw[qd]
  constructor
  ·show((qAe p.1&&(qAc (p.2.map .str)&&true))&&qAc (r.map rowD))=true
   rw[g1,l1,h1];rfl
  ·show max (max 0 (max (qAp (p.2.map .str)+1) 0)+1) (qAp (r.map rowD))<=2
   rw[l2]
   omega
theorem zacj{W:Web}(h:∀p∈W,qAe p.1=true/\∀e∈p.2,qAe e=true):qAb (webD W)=true:=by
 obtain⟨h1,h2⟩:=zaaq W h
 unfold qAb webD
 rw[qx]
 refine⟨h1,decide_eq_true ?_⟩
 show qAp (W.map rowD)+1<=64
 omega
theorem zapg{W:Web}(h:WebOk W)(hl:∀x∈nm W,Low x):∀p∈W,qAe p.1=true/\∀e∈p.2,qAe e=true:=λp hp=>
 ⟨zkm (hl _ (qAY.mpr ⟨p,hp,rfl⟩)),λe he=>zkm (hl e (ztl h (n:=p.1) (es:=p.2) hp e he))⟩
theorem zask{W:Web}(h:WebOk W)(hl:∀x∈nm W,Low x):eqD (webD W) (webD W)=some (.bool true,false):=by
 have s:=zacj (zapg h hl)
 unfold eqD eqOk
 rw[s,qCJ,qAk,if_pos rfl,qB0 _ (qAn s)]
noncomputable def znq:SF:=(sSeq (sIf (tTru (eIsi "tuple" (eVar 0))) (sRet (eCB zkb (zaa (eVar 0) aNil))) sNil)
  (sRet (eLst (zaa (eVar 0) aNil))))
noncomputable def zbf:GF:=fnD 1 znq
noncomputable def zwd:SF:=(sSeq (sSet 2 zajd)
  (sSeq (sFor (zav (zas 1 zbf (zaa (eVar 1) aNil))) (gN 3)
  (sUpd 2 (zcc 0 (eVar 3))))
  (zpm 2)))
noncomputable def zkn:GF:=fnD 4 zwd
theorem zaar{W:Web}(h:WebOk W):∀(m:Nat){k n e:Str},(nm W).idxOf k<m->k∈nm W->n∈up W k->e∈up W n->e∈up W k
 | 0,_,_,_,hm,_,_,_=>absurd hm (Nat.not_lt_zero _)
 | m+1,k,n,e,hm,hk,hn,he=>by
  rcases(zagv h hk).mp hn with rfl|⟨e',he',hn'⟩
  ·exact he
  ·obtain⟨g1,g2⟩:=zamh h he'
   exact(zagv h hk).mpr (.inr ⟨e',he',zaar h m (by omega) g1 hn' he⟩)
theorem zqg{α:Type}(f:α->Bool):∀(l:List α),zpl (l.map λx=>.bool (f x))=some (l.map f)
 | []=>rfl
 | x::l=>by
  show(zpl (l.map λx=>.bool (f x))).map _=_
  rw[zqg f l];rfl
theorem zasl{α:Type}{f:α->Bool}{l:List α}{a:EF}{env:DEnv}{fr:Bool}{bs:List Nat}(ha:a env=some ⟨.list (l.map λx=>.bool (f x)),fr,bs⟩):eCB (anyD λbs=>bs.all id) (zaa a aNil) env=some (vb (l.all f)):=by
 unfold eCB
 rw[zen ha,qE]
 show((zpl (l.map λx=>.bool (f x))).map _).bind _=_
 rw[zqg]
 simp only[qAi,qE,List.all_map]
 rfl
theorem zqh{α:Type}{enc:α->PyData}{out:α->List PyData}{g:GT}{t:TF}{f2:IF'}{g2:GT}{t2:TF}{e:EF}{env:DEnv}:∀{l:List α},(∀x∈l,∃e1,g (enc x) env=some e1/\t e1=some true/\innL f2 g2 t2 e e1=some (out x))->
  zkh g t f2 g2 t2 e env (l.map enc)=some (l.flatMap out)
 | [],_=>rfl
 | x::l,h=>by
  obtain⟨e1,h1,h2,h3⟩:=h x qm
  have ih:=zqh (l:=l) λy hy=>h y (qK _ hy)
  rw[qd]
  unfold zkh
  rw[h1,qE,h2,qE,if_pos rfl,h3,qE,ih,List.flatMap_cons]
  rfl
theorem zakp{own:List Str}{fr:List Nat}{fi:IF'}{g:GT}{t:TF}{f2:IF'}{g2:GT}{t2:TF}{e:EF}{env:DEnv}{ds:List PyData}{bs:List Nat}{rs:List PyData}(h:fi env=some (ds,bs))(hl:ds.length<300)(k:zkh g t f2 g2 t2 e (envB own fr env) ds=some rs) :
  zvh own fr fi g t f2 g2 t2 e env=some ⟨.list rs,true,if zef rs=true then[]else bs++capA fr env⟩:=by
 unfold zvh;rw[h,qE,if_pos hl,k];rfl
noncomputable def zko:SF:=(sRet (zvh ["arm","name"] [] (zav (eVar 0)) (gN 0) zfd (zav (zas 1 zbf (zaa (eVar 0) aNil))) (gN 1) zfd (eVar 1)))
noncomputable def zci:GF:=fnD 1 zko
noncomputable def zkp:SF:=(sRet (zif ["arm"] [0] (zav (eVar 1)) (gN 0) zfd (zas 2 zkn (zaa (eVar 1) (zaa (eVar 0) aNil)))))
noncomputable def zcw:GF:=fnD 2 zkp
noncomputable def zoe:SF:=(sRet (eCB (anyD λbs=>bs.all id) (zaa (zif ["kind","roof"] [] (zace (zaa (eVar 0) (zaa (eVar 1) aNil))) (gT 2 (zbu 0 (zbu 1 zja))) zfd (eDIn false (eVar 0) (eVar 1))) aNil)))
noncomputable def zew:GF:=fnD 2 zoe
noncomputable def zqi:SF:=(sRet (eAnd (eOp neD (eVar 1) (eVar 2)) (eCB (anyD λbs=>bs.all id) (zaa (zif ["low","high"] [0] (zace (zaa (eVar 1) (zaa (eVar 2) aNil))) (gT 2 (zbu 0 (zbu 1 zja))) zfd (eDIn false (eVar 1) (zcc 2 (eVar 0)))) aNil))))
noncomputable def zfr:GF:=fnD 3 zqi
noncomputable def zhj:SF:=(sSeq (sSet 2 (eC (.str "abcdefghijklmnopqrstuvwxyz")))
  (sSeq (sSet 3 (eOp ixD (eTup (zaa (eC (.int 1)) (zaa (eC (.int 3)) (zaa (eC (.int 5)) (zaa (eC (.int 7)) (zaa (eC (.int 9)) (zaa (eC (.int 11)) (zaa (eC (.int 15)) (zaa (eC (.int 17)) aNil))))))))) (eOp modD (eOp zdp (eVar 1) (eC (.int 3))) (eC (.int 8)))))
  (sSeq (sSet 4 (eOp modD (eOp zdp (eVar 1) (eC (.int 24))) (eC (.int 26))))
  (sSeq (sSet 5 (eOp mulD (eIxV 2 (eOp modD (eOp zdp (eVar 1) (eC (.int 624))) (eC (.int 26)))) (eOp modD (eOp zdp (eVar 1) (eC (.int 16224))) (eC (.int 8)))))
  (sSeq (sSet 6 (eOp modD (eOp zdp (eVar 1) (eC (.int 129792))) (eOp addD (eCB lenD (zaa (eVar 5) aNil)) (eC (.int 1)))))
  (sSeq (sSet 7 (eLst aNil))
  (sSeq (sFor (zfg (zaa (eVar 0) aNil)) (gN 8)
  (sSeq (sSet 9 (eIxV 2 (eOp modD (eOp addD (eVar 4) (eOp mulD (eVar 3) (eVar 8))) (eC (.int 26)))))
  (sIf (zbt (eOp eqD (eOp modD (eVar 1) (eC (.int 3))) (eC (.int 0)))) (sApp 7 (eOp addD (eOp addD (eSl (eVar 5) zdy (zbo (eVar 6))) (eVar 9)) (eSl (eVar 5) (zbo (eVar 6)) zdy))) (sIf (zbt (eOp eqD (eOp modD (eVar 1) (eC (.int 3))) (eC (.int 1)))) (sApp 7 (eOp addD (eSl (eVar 5) zdy (zbo (eOp modD (eOp mulD (eVar 8) (eVar 3)) (eOp addD (eCB lenD (zaa (eVar 5) aNil)) (eC (.int 1)))))) (eVar 9))) (sApp 7 (eOp mulD (eIxV 2 (eOp modD (eOp addD (eVar 4) (eOp zdp (eVar 8) (eC (.int 8)))) (eC (.int 26)))) (eOp addD (eC (.int 1)) (eOp modD (eOp mulD (eVar 8) (eVar 3)) (eC (.int 8))))))))))
  (sSeq (sIf (zbt (eOp eqD (eOp modD (eOp zdp (eVar 1) (eC (.int 1038336))) (eC (.int 6))) (eC (.int 5)))) (sSeq (sSet 10 (eLst (zaa (eC (.str "none")) (zaa (eC (.str "rule")) (zaa (eC (.str "quarrel")) (zaa (eC (.str "near")) (zaa (eC (.str "far")) (zaa (eC (.str "out")) aNil))))))))
  (sSeq (sSet 11 (eOp modD (eOp zdp (eVar 1) (eC (.int 6230016))) (eC (.int 6))))
  (sSet 7 (eSl (eOp addD (eOp addD (eSl (eVar 10) (zbo (eVar 11)) zdy) (eSl (eVar 10) zdy (zbo (eVar 11)))) (eSl (eVar 7) (zbo (eC (.int 6))) zdy)) zdy (zbo (eVar 0)))))) sNil)
  (zpm 7)))))))))
noncomputable def zdu:GF:=fnD 12 zhj
noncomputable def zsa:SF:=(sSeq (sFor (zvk (zaa (eVar 1) aNil)) (gT 2 (zbu 3 (zbu 4 zja)))
  (sIf (zhc (tTru (eCB (anyD λbs=>bs.any id) (zaa (zif ["_law_name"] [0,4] (zav (zas 1 zbf (zaa (eIxV 2 (eVar 3)) aNil))) (gN 0) zfd (eOp (inD false) (eVar 2) (zcc 1 (eVar 0)))) aNil)))) (sRet (eC (.bool false))) sNil))
  (sRet (eC (.bool true))))
noncomputable def zcq:GF:=fnD 5 zsa
noncomputable def zeo:SFX:=(xSeq (xOf (sSet 2 (zas 1 zim (zaa (eVar 0) aNil))))
  (xFor (zav (eVar 1)) (gN 3)
  (xIf (zbt (eOp (inD true) (eVar 3) (eVar 2))) (zml "NoKind" (eVar 3)) (xOf sNil))))
noncomputable def zdm:GFX:=fnX 4 zeo
noncomputable def zami:SF:=(sSeq (sIf (zbt (eOp neD (eCB lenD (zaa (eVar 2) aNil)) (eCB lenD (zaa (eVar 1) aNil)))) zzw sNil)
  (sSeq (zabz (zas 2 zfl (zaa (eVar 0) (zaa (eOp addD (eCB zkb (zaa (eVar 1) aNil)) (zas 1 zci (zaa (eVar 2) aNil))) aNil))))
  (sRet (zas 2 zew (zaa (eVar 1) (zaa (zas 2 zcw (zaa (zas 1 zdz (zaa (eVar 0) aNil)) (zaa (eVar 2) aNil))) aNil))))))
noncomputable def zmu:GF:=fnD 3 zami
noncomputable def zaas:SF:=(sSeq (zabz (zas 2 zfl (zaa (eVar 0) (zaa (eOp addD (eCB zkb (zaa (eVar 1) aNil)) (eCB zkb (zaa (eVar 2) aNil))) aNil))))
  (sRet (eAnd (eOp eqD (eCB lenD (zaa (eVar 1) aNil)) (eCB lenD (zaa (eVar 2) aNil))) (zas 3 zfr (zaa (zas 1 zdz (zaa (eVar 0) aNil)) (zaa (eVar 1) (zaa (eVar 2) aNil)))))))
noncomputable def zbl:GF:=fnD 3 zaas
noncomputable def zmv:SF:=(sSeq (sSet 2 (eCB zkb (zaa (eVar 1) aNil)))
  (sSeq (sSet 3 (eOp zdp (eVar 0) (eCB lenD (zaa (eVar 1) aNil))))
  (sSeq (sSet 4 (eLst aNil))
  (sSeq (sFor (zfg (zaa (eOp addD (eC (.int 1)) (eOp modD (eVar 0) (eCB lenD (zaa (eVar 1) aNil)))) aNil)) (gN 5)
  (sSeq (sSet 6 (eOp modD (eVar 3) (eCB lenD (zaa (eVar 2) aNil))))
  (sSeq (sSet 3 (eOp zdp (eVar 3) (eCB lenD (zaa (eVar 2) aNil))))
  (zhf 4 2 (eVar 6)))))
  (sRet (eCB zkc (zaa (eVar 4) aNil)))))))
noncomputable def zea:GF:=fnD 7 zmv
noncomputable def zqj:SF:=(sSeq (sSet 3 (eVar 0))
  (sSeq (sSet 4 (eLst aNil))
  (sSeq (sFor (zfg (zaa (eVar 2) aNil)) (gN 5)
  (sSeq (sApp 4 (eIxV 1 (eOp modD (eVar 3) (eCB lenD (zaa (eVar 1) aNil)))))
  (sSet 3 (eOp zdp (eVar 3) (eCB lenD (zaa (eVar 1) aNil))))))
  (sRet (eCB zkc (zaa (eVar 4) aNil))))))
noncomputable def zeu:GF:=fnD 6 zqj
noncomputable def zlj:SF:=(sSeq (sSet 3 (eLst aNil))
  (sSeq (sFor (zfg (zaa (eVar 2) aNil)) (gN 4)
  (sSeq (sSet 5 (zas 2 zea (zaa (eOp zdp (eIxV 0 (eVar 4)) (eC (.int 2))) (zaa (eVar 1) aNil))))
  (sSeq (sIf (zbt (eOp eqD (eOp modD (eIxV 0 (eVar 4)) (eC (.int 2))) (eC (.int 0)))) (sSet 5 (eIxV 5 (eC (.int 0)))) sNil)
  (sApp 3 (eVar 5)))))
  (sRet (eCB zkc (zaa (eVar 3) aNil)))))
noncomputable def zdn:GF:=fnD 6 zlj
noncomputable def zmw:SF:=(sRet (eOp addD (eOp addE (eSlT (eVar 0) zdy (zbo (eVar 1))) (eTup (zaa (eVar 2) aNil))) (eSlT (eVar 0) (zbo (eOp addD (eVar 1) (eC (.int 1)))) zdy)))
noncomputable def zbm:GF:=fnD 3 zmw
noncomputable def zbb:ResX->Option PyData:=(zakg 3 2 1 ["NoCall","NoKind"] (eTup (zaa (eC (.str "no refusal")) aNil)) (λxc xd=>(sSet 2 (eTup (zaa (eC (.bool (decide (xc="NoCall")))) (zaa (eC (.bool (decide (xc="NoKind")))) (zaa (eC (.bool true)) (zaa (eC xd) aNil))))))))
noncomputable def zof:SF:=(sSeq (sFor (zav (eVar 2)) (gN 3)
  (sFor (zav (eVar 2)) (gN 4)
  (sSeq (sSet 5 (eAnd (eOp neD (eVar 3) (eVar 4)) (zas 3 zcq (zaa (eVar 1) (zaa (eVar 4) (zaa (eVar 3) aNil))))))
  (sSeq (sSet 6 (zas 3 zbl (zaa (eVar 0) (zaa (eVar 3) (zaa (eVar 4) aNil)))))
  (sSeq (sIf (tOrF (zhc (tTru (eIsi "bool" (eVar 6)))) (zbt (eOp neD (eVar 6) (eVar 5)))) (sRet (eC (.bool false))) sNil)
  (sSeq (sIf (zjt (tTru (eVar 6)) (tTru (zas 3 zbl (zaa (eVar 0) (zaa (eVar 4) (zaa (eVar 3) aNil)))))) (sRet (eC (.bool false))) sNil)
  (sFor (zav (eVar 2)) (gN 7)
  (sIf (zjt (tTru (eVar 6)) (zjt (tTru (zas 3 zbl (zaa (eVar 0) (zaa (eVar 4) (zaa (eVar 7) aNil))))) (zhc (tTru (zas 3 zbl (zaa (eVar 0) (zaa (eVar 3) (zaa (eVar 7) aNil)))))))) (sRet (eC (.bool false))) sNil))))))))
  (sRet (eC (.bool true))))
noncomputable def zgg:GF:=fnD 8 zof
noncomputable def zsb:SFX:=(xSeq (xIf (zbt (eOp neD (eCB lenD (zaa (eVar 2) aNil)) (eCB lenD (zaa (eVar 1) aNil)))) (zml "NoCall" (eC .none)) (xOf sNil))
  (xSeq (zaez 2 zdm (zaa (eVar 0) (zaa (eOp addD (eCB zkb (zaa (eVar 1) aNil)) (zas 1 zci (zaa (eVar 2) aNil))) aNil)))
  (xOf (sRet (zas 2 zew (zaa (eVar 1) (zaa (zas 2 zcw (zaa (zas 1 zdz (zaa (eVar 0) aNil)) (zaa (eVar 2) aNil))) aNil)))))))
noncomputable def zex:GFX:=fnX 3 zsb
noncomputable def zog:SFX:=(xSeq (zaez 2 zdm (zaa (eVar 0) (zaa (eOp addD (eCB zkb (zaa (eVar 1) aNil)) (eCB zkb (zaa (eVar 2) aNil))) aNil)))
  (xOf (sRet (eAnd (eOp eqD (eCB lenD (zaa (eVar 1) aNil)) (eCB lenD (zaa (eVar 2) aNil))) (zas 3 zfr (zaa (zas 1 zdz (zaa (eVar 0) aNil)) (zaa (eVar 1) (zaa (eVar 2) aNil))))))))
noncomputable def zey:GFX:=fnX 3 zog
noncomputable def zir:SF:=(sSeq (sSet 5 (eOp modD (eIxV 3 (eC (.int 0))) (eCB lenD (zaa (eVar 1) aNil))))
  (sSeq (sSet 6 (eOp modD (eIxV 3 (eC (.int 1))) (eCB lenD (zaa (eVar 1) aNil))))
  (sSeq (sSet 7 (eIxV 4 (eC (.int 1))))
  (sSeq (sIf (zbt (eOp eqD (eOp modD (eIxV 3 (eC (.int 2))) (eC (.int 2))) (eC (.int 1)))) (sSet 7 (eCB zkc (zaa (eOp addD (zas 1 zbf (zaa (eIxV 2 (eVar 6)) aNil)) (eLst (zaa (eIxV 4 (eC (.int 1))) aNil))) aNil))) sNil)
  (sSeq (sSet 8 (zas 3 zbm (zaa (eVar 2) (zaa (eVar 6) (zaa (eVar 7) aNil)))))
  (sSeq (sSet 9 (zas 3 zbm (zaa (eVar 1) (zaa (eVar 5) (zaa (eIxV 4 (eC (.int 0))) aNil)))))
  (sSeq (sSet 10 (eOp addD (eVar 8) (eTup (zaa (eIxV 4 (eC (.int 0))) aNil))))
  (sSeq (sIf (zbt (eOp neD (zlg [0,9,10] 3 zex (zaa (eVar 0) (zaa (eVar 1) (zaa (eVar 2) aNil))) zbb) (eTup (zaa (eC (.bool true)) (zaa (eC (.bool false)) (zaa (eC (.bool true)) (zaa (eC .none) aNil))))))) (sRet (eC (.bool false))) sNil)
  (sSeq (sIf (zbt (eOp neD (zlg [0,1,2] 3 zex (zaa (eVar 0) (zaa (eVar 1) (zaa (eSlT (eVar 2) (zbo (eC (.int 1))) zdy) aNil))) zbb) (eTup (zaa (eC (.bool true)) (zaa (eC (.bool false)) (zaa (eC (.bool true)) (zaa (eC .none) aNil))))))) (sRet (eC (.bool false))) sNil)
  (sSeq (sIf (zbt (eOp neD (zlg [0,8,9] 3 zex (zaa (eVar 0) (zaa (eVar 2) (zaa (eVar 1) aNil))) zbb) (eTup (zaa (eC (.bool false)) (zaa (eC (.bool true)) (zaa (eC (.bool true)) (zaa (eIxV 4 (eC (.int 0))) aNil))))))) (sRet (eC (.bool false))) sNil)
  (sSeq (sIf (zbt (eOp neD (zlg [0,1,8] 3 zex (zaa (eVar 0) (zaa (eVar 1) (zaa (eVar 2) aNil))) zbb) (eTup (zaa (eC (.bool false)) (zaa (eC (.bool true)) (zaa (eC (.bool true)) (zaa (eIxV 4 (eC (.int 1))) aNil))))))) (sRet (eC (.bool false))) sNil)
  (sSeq (sIf (zbt (eOp neD (zlg [0,1,9] 3 zey (zaa (eVar 0) (zaa (eVar 1) (zaa (eVar 2) aNil))) zbb) (eTup (zaa (eC (.bool false)) (zaa (eC (.bool true)) (zaa (eC (.bool true)) (zaa (eIxV 4 (eC (.int 0))) aNil))))))) (sRet (eC (.bool false))) sNil)
  (sRet (eOp eqD (zlg [0,1,4,6,9] 3 zey (zaa (eVar 0) (zaa (zas 3 zbm (zaa (eVar 1) (zaa (eVar 3) (zaa (eIxV 2 (eC (.int 1))) aNil)))) (zaa (eVar 4) aNil))) zbb) (eTup (zaa (eC (.bool false)) (zaa (eC (.bool true)) (zaa (eC (.bool true)) (zaa (eIxV 4 (eC (.int 1))) aNil)))))))))))))))))))
noncomputable def zcx:GF:=fnD 11 zir
theorem zaat:bootBuiltins "all"=some (.builtin "all"):=by decide +kernel
theorem zakq:bootBuiltins "any"=some (.builtin "any"):=by decide +kernel
theorem zwe:bootBuiltins "bool"=some (.type "bool"):=by decide +kernel
theorem zcj:bootBuiltins "isinstance"=some (.builtin "isinstance"):=by decide +kernel
theorem zbr:bootBuiltins "len"=some (.builtin "len"):=by decide +kernel
theorem zep:bootBuiltins "list"=some (.type "list"):=by decide +kernel
theorem zakr:bootBuiltins "min"=some (.builtin "min"):=by decide +kernel
theorem zfs:bootBuiltins "tuple"=some (.type "tuple"):=by decide +kernel
theorem zata:bootBuiltins "zip"=some (.type "zip"):=by decide +kernel
noncomputable def top(i:Nat):Stmt:=PySem.Challenge.pw_bestcalls_k12_fits_and_nearer.main.body.getD i (.Pass ⟨0,0,0,0⟩)
structure Txt(mg:Str->Option Value):Prop where
 all:mg "all"=none
 any:mg "any"=none
 bool:mg "bool"=none
 enumerate:mg "enumerate"=none
 isinstance:mg "isinstance"=none
 len:mg "len"=none
 list:mg "list"=none
 min:mg "min"=none
 range:mg "range"=none
 tuple:mg "tuple"=none
 zip:mg "zip"=none
noncomputable abbrev zgv:Stmt:=top 5
noncomputable abbrev zsc:List Str:=["web"]
theorem zym:zsc.Nodup:=by decide +kernel
theorem zyn:FnScope zsc ["web"] (zai zgv):=⟨rfl,rfl,rfl,zym,rfl,by decide +kernel,by decide +kernel⟩
noncomputable abbrev zgw:Stmt:=top 6
noncomputable abbrev zsd:List Str:=["arm"]
theorem zyo:zsd.Nodup:=by decide +kernel
theorem zyp:FnScope zsd ["arm"] (zai zgw):=⟨rfl,rfl,rfl,zyo,rfl,by decide +kernel,by decide +kernel⟩
noncomputable abbrev zeb:Stmt:=top 7
noncomputable abbrev zmx:List Str:=["web","names","known","name"]
theorem zib:zmx.Nodup:=by decide +kernel
theorem zrf:FnScope zmx ["web","names"] (zai zeb):=⟨rfl,rfl,rfl,zib,rfl,by decide +kernel,by decide +kernel⟩
noncomputable abbrev zgx:Stmt:=top 8
noncomputable abbrev zse:List Str:=["web","roofs","name","elders","roof","elder"]
theorem zft:zse.Nodup:=by decide +kernel
theorem zyq:FnScope zse ["web"] (zai zgx):=⟨rfl,rfl,rfl,zft,rfl,by decide +kernel,by decide +kernel⟩
noncomputable abbrev zis:Stmt:=top 9
noncomputable abbrev zwf:List Str:=["roofs","arm","roof","name"]
theorem znr:zwf.Nodup:=by decide +kernel
theorem zack:FnScope zwf ["roofs","arm"] (zai zis):=⟨rfl,rfl,rfl,znr,rfl,by decide +kernel,by decide +kernel⟩
noncomputable abbrev zcy:Stmt:=top 11
noncomputable abbrev zkq:List Str:=["call"]
theorem zoo:zkq.Nodup:=by decide +kernel
theorem zop:FnScope zkq ["call"] (zai zcy):=⟨rfl,rfl,rfl,zoo,rfl,by decide +kernel,by decide +kernel⟩
noncomputable abbrev zcz:Stmt:=top 12
noncomputable abbrev zkr:List Str:=["roofs","call"]
theorem zoq:zkr.Nodup:=by decide +kernel
theorem zor:FnScope zkr ["roofs","call"] (zai zcz):=⟨rfl,rfl,rfl,zoq,rfl,by decide +kernel,by decide +kernel⟩
noncomputable abbrev zez:Stmt:=top 13
noncomputable abbrev zoh:List Str:=["kinds","call_roofs"]
theorem ztq:zoh.Nodup:=by decide +kernel
theorem ztr:FnScope zoh ["kinds","call_roofs"] (zai zez):=⟨rfl,rfl,rfl,ztq,rfl,by decide +kernel,by decide +kernel⟩
noncomputable abbrev zfu:Stmt:=top 14
noncomputable abbrev zqk:List Str:=["roofs","one","other"]
theorem zwg:zqk.Nodup:=by decide +kernel
theorem zwh:FnScope zqk ["roofs","one","other"] (zai zfu):=⟨rfl,rfl,rfl,zwg,rfl,by decide +kernel,by decide +kernel⟩
noncomputable abbrev zsf:Stmt:=top 15
noncomputable abbrev zamj:List Str:=["web","kinds","call"]
theorem zaph:zamj.Nodup:=by decide +kernel
theorem zapi:FnScope zamj ["web","kinds","call"] (zai zsf):=⟨rfl,rfl,rfl,zaph,rfl,by decide +kernel,by decide +kernel⟩
noncomputable abbrev zla:Stmt:=top 16
noncomputable abbrev zaau:List Str:=["web","one","other"]
theorem zagw:zaau.Nodup:=by decide +kernel
theorem zagx:FnScope zaau ["web","one","other"] (zai zla):=⟨rfl,rfl,rfl,zagw,rfl,by decide +kernel,by decide +kernel⟩
noncomputable abbrev zfv:Stmt:=top 18
noncomputable abbrev zql:List Str:=["_law_script","_law_many","_law_seed","_law_cell","_law_found","_law_k"]
theorem zfa:zql.Nodup:=by decide +kernel
theorem zwi:FnScope zql ["_law_script","_law_many"] (zai zfv):=⟨rfl,rfl,rfl,zfa,rfl,by decide +kernel,by decide +kernel⟩
noncomputable abbrev zfw:Stmt:=top 19
noncomputable abbrev zqm:List Str:=["_law_many","_law_cell","_law_letters","_law_step","_law_origin","_law_stem","_law_at","_law_names_here","_law_k","_law_sign","_law_own","_law_turn"]
theorem zbn:zqm.Nodup:=by decide +kernel
theorem zwj:FnScope zqm ["_law_many","_law_cell"] (zai zfw):=⟨rfl,rfl,rfl,zbn,rfl,by decide +kernel,by decide +kernel⟩
noncomputable abbrev zit:Stmt:=top 20
noncomputable abbrev zwk:List Str:=["_law_cells","_law_names_here","_law_web_here","_law_k","_law_name","_law_left","_law_rest","_law_elders","_law_turn","_law_at"]
theorem zdo:zwk.Nodup:=by decide +kernel
theorem zacl:FnScope zwk ["_law_cells","_law_names_here"] (zai zit):=⟨rfl,rfl,rfl,zdo,rfl,by decide +kernel,by decide +kernel⟩
noncomputable abbrev zlb:Stmt:=top 21
noncomputable abbrev zaav:List Str:=["_law_web_here","_law_up_here","_law_name","_law_elders","_law_own","_law_elder","_law_one"]
theorem zhk:zaav.Nodup:=by decide +kernel
theorem zagy:FnScope zaav ["_law_web_here"] (zai zlb):=⟨rfl,rfl,rfl,zhk,rfl,by decide +kernel,by decide +kernel⟩
noncomputable abbrev ziu:Stmt:=top 22
noncomputable abbrev zwl:List Str:=["_law_cell","_law_names_here","_law_left","_law_rest","_law_arm_here","_law_turn","_law_at"]
theorem zfx:zwl.Nodup:=by decide +kernel
theorem zacm:FnScope zwl ["_law_cell","_law_names_here"] (zai ziu):=⟨rfl,rfl,rfl,zfx,rfl,by decide +kernel,by decide +kernel⟩
noncomputable abbrev zfy:Stmt:=top 23
noncomputable abbrev zqn:List Str:=["_law_cell","_law_names_here","_law_places","_law_rest","_law_kinds_here","_law_place"]
theorem zgh:zqn.Nodup:=by decide +kernel
theorem zwm:FnScope zqn ["_law_cell","_law_names_here","_law_places"] (zai zfy):=⟨rfl,rfl,rfl,zgh,rfl,by decide +kernel,by decide +kernel⟩
noncomputable abbrev zgy:Stmt:=top 24
noncomputable abbrev zsg:List Str:=["_law_cells","_law_names_here","_law_places","_law_call_here","_law_place","_law_arm_here"]
theorem zhl:zsg.Nodup:=by decide +kernel
theorem zyr:FnScope zsg ["_law_cells","_law_names_here","_law_places"] (zai zgy):=⟨rfl,rfl,rfl,zhl,rfl,by decide +kernel,by decide +kernel⟩
noncomputable abbrev zfz:Stmt:=top 25
noncomputable abbrev zqo:List Str:=["_law_arm_here"]
theorem zwn:zqo.Nodup:=by decide +kernel
theorem zwo:FnScope zqo ["_law_arm_here"] (zai zfz):=⟨rfl,rfl,rfl,zwn,rfl,by decide +kernel,by decide +kernel⟩
noncomputable abbrev zgz:Stmt:=top 26
noncomputable abbrev zsh:List Str:=["_law_up_here","_law_kinds_here","_law_call_here","_law_k","_law_kind"]
theorem zlw:zsh.Nodup:=by decide +kernel
theorem zys:FnScope zsh ["_law_up_here","_law_kinds_here","_law_call_here"] (zai zgz):=⟨rfl,rfl,rfl,zlw,rfl,by decide +kernel,by decide +kernel⟩
noncomputable abbrev ziv:Stmt:=top 27
noncomputable abbrev zwp:List Str:=["_law_row","_law_at","_law_thing"]
theorem zacn:zwp.Nodup:=by decide +kernel
theorem zaco:FnScope zwp ["_law_row","_law_at","_law_thing"] (zai ziv):=⟨rfl,rfl,rfl,zacn,rfl,by decide +kernel,by decide +kernel⟩
noncomputable abbrev zha:Stmt:=top 28
noncomputable abbrev zsi:List Str:=["_law_ask","e","_law_told_here"]
theorem zjk:zsi.Nodup:=by decide +kernel
theorem zyt:FnScope zsi ["_law_ask"] (zai zha):=⟨rfl,rfl,rfl,zjk,rfl,by decide +kernel,by decide +kernel⟩
noncomputable abbrev zfb:Stmt:=top 29
noncomputable abbrev zoi:List Str:=["_law_web_here","_law_up_here","_law_rows","_law_one","_law_other","_law_due","_law_found","_law_third"]
theorem zec:zoi.Nodup:=by decide +kernel
theorem zts:FnScope zoi ["_law_web_here","_law_up_here","_law_rows"] (zai zfb):=⟨rfl,rfl,rfl,zec,rfl,by decide +kernel,by decide +kernel⟩
noncomputable abbrev zed:Stmt:=top 30
noncomputable abbrev zmy:List Str:=["_law_web_here","_law_kinds_here","_law_call_here","_law_cells","_law_odd","_law_at","_law_by","_law_arm_here","_law_worse","_law_strange","_law_long"]
theorem zce:zmy.Nodup:=by decide +kernel
theorem zrg:FnScope zmy ["_law_web_here","_law_kinds_here","_law_call_here","_law_cells","_law_odd"] (zai zed):=⟨rfl,rfl,rfl,zce,rfl,by decide +kernel,by decide +kernel⟩
noncomputable abbrev ztt:Stmt:=top 31
noncomputable abbrev zasm:List Str:=["_law_script","_law_cells","_law_names_here","_law_stand","_law_odd","_law_places","_law_web_here","_law_handed","_law_up_here","_law_rows","_law_call_here","_law_kinds_here","_law_asked","_law_found","_law_over"]
theorem zgn:zasm.Nodup:=by decide +kernel
theorem zasn:FnScope zasm ["_law_script"] (zai ztt):=⟨rfl,rfl,rfl,zgn,rfl,by decide +kernel,by decide +kernel⟩
noncomputable abbrev zjq:Stmt:=top 7
noncomputable abbrev zjr:List Str:=["web","names","known","name"]
theorem zga:zjr.Nodup:=by decide +kernel
theorem zns:FnScope zjr ["web","names"] (zai zjq):=⟨rfl,rfl,rfl,zga,rfl,by decide +kernel,by decide +kernel⟩
noncomputable abbrev zwq:Stmt:=top 15
noncomputable abbrev zwr:List Str:=["web","kinds","call"]
theorem zacp:zwr.Nodup:=by decide +kernel
theorem zacq:FnScope zwr ["web","kinds","call"] (zai zwq):=⟨rfl,rfl,rfl,zacp,rfl,by decide +kernel,by decide +kernel⟩
noncomputable abbrev zqp:Stmt:=top 16
noncomputable abbrev zqq:List Str:=["web","one","other"]
theorem zws:zqq.Nodup:=by decide +kernel
theorem zwt:FnScope zqq ["web","one","other"] (zai zqp):=⟨rfl,rfl,rfl,zws,rfl,by decide +kernel,by decide +kernel⟩
theorem zlk:(["name","elders"]:List Str).Nodup:=by decide +kernel
theorem zhm:(["arm","name"]:List Str).Nodup:=by decide +kernel
theorem zlx:(["arm","roofs"]:List Str).Nodup:=by decide +kernel
theorem zjs:(["kind","roof"]:List Str).Nodup:=by decide +kernel
theorem zks:(["low","high","roofs"]:List Str).Nodup:=by decide +kernel
theorem zrh:(["_law_name","_law_up_here","_law_kind"]:List Str).Nodup:=by decide +kernel
theorem zwu:(["_law_name","_law_elders"]:List Str).Nodup:=by decide +kernel
theorem zagz:(["_law_cell","_law_stand","_law_places"]:List Str).Nodup:=by decide +kernel
theorem zaha:(["_law_arm_here"]:List Str).Nodup:=by decide +kernel
theorem zahb:(["_law_name","_law_cells","_law_up_here"]:List Str).Nodup:=by decide +kernel
section
variable(P:Program)(w:World)(K:qB)(mg:Str->Option Value)(base:Heap)
noncomputable abbrev znt:Prop:=Dn P w K mg base "names_of" ["web"] 1 (spD 1 zim)
noncomputable abbrev znu:Prop:=Dn P w K mg base "names_in" ["arm"] 1 (spD 1 zbf)
noncomputable abbrev zjl:Prop:=Dn P w K mg base "check_kinds" ["web","names"] 2 (spD 2 zfl)
noncomputable abbrev ziw:Prop:=Dn P w K mg base "roofs_of" ["web"] 1 (spD 1 zdz)
noncomputable abbrev zwv:Prop:=Dn P w K mg base "roof_of" ["roofs","arm"] 2 (spD 2 zkn)
noncomputable abbrev zhn:Prop:=Dn P w K mg base "names_in_call" ["call"] 2 (spD 1 zci)
noncomputable abbrev zho:Prop:=Dn P w K mg base "roofs_in_call" ["roofs","call"] 3 (spD 2 zcw)
noncomputable abbrev zkt:Prop:=Dn P w K mg base "fits_under" ["kinds","call_roofs"] 1 (spD 2 zew)
noncomputable abbrev zly:Prop:=Dn P w K mg base "is_nearer" ["roofs","one","other"] 1 (spD 3 zfr)
noncomputable abbrev zamk:Prop:=Dn P w K mg base "fits" ["web","kinds","call"] 4 (spD 3 zmu)
noncomputable abbrev zaaw:Prop:=Dn P w K mg base "nearer" ["web","one","other"] 3 (spD 3 zbl)
noncomputable abbrev zqr:Prop:=Dn P w K mg base "_law_names" ["_law_many","_law_cell"] 1 (spD 2 zdu)
noncomputable abbrev zww:Prop:=Dn P w K mg base "_law_web" ["_law_cells","_law_names_here"] 1 (spD 2 zkk)
noncomputable abbrev zaax:Prop:=Dn P w K mg base "_law_up" ["_law_web_here"] 1 (spD 1 zmq)
noncomputable abbrev zwx:Prop:=Dn P w K mg base "_law_arm" ["_law_cell","_law_names_here"] 1 (spD 2 zea)
noncomputable abbrev zqs:Prop:=Dn P w K mg base "_law_kinds" ["_law_cell","_law_names_here","_law_places"] 1 (spD 3 zeu)
noncomputable abbrev zsj:Prop:=Dn P w K mg base "_law_call" ["_law_cells","_law_names_here","_law_places"] 2 (spD 3 zdn)
noncomputable abbrev zjm:Prop:=Dn P w K mg base "_law_parts" ["_law_arm_here"] 1 (spD 1 zbf)
noncomputable abbrev znv:Prop:=Dn P w K mg base "_law_fits" ["_law_up_here","_law_kinds_here","_law_call_here"] 2 (spD 3 zcq)
noncomputable abbrev zwy:Prop:=Dn P w K mg base "_law_put" ["_law_row","_law_at","_law_thing"] 1 (spD 3 zbm)
noncomputable abbrev zsk(cl:Str->Addr):Prop:=DnT P w K mg base "_law_told" "_law_ask" 6 5 (tolD cl zbb)
noncomputable abbrev zoj:Prop:=Dn P w K mg base "_law_orders" ["_law_web_here","_law_up_here","_law_rows"] 4 (spD 3 zgg)
noncomputable abbrev zgk(cl:Str->Addr):Prop:=DnX P w K mg base "check_kinds" ["web","names"] 3 (spX cl 2 zdm)
noncomputable abbrev zwz(cl:Str->Addr):Prop:=DnX P w K mg base "fits" ["web","kinds","call"] 4 (spX cl 3 zex)
noncomputable abbrev zqt(cl:Str->Addr):Prop:=DnX P w K mg base "nearer" ["web","one","other"] 4 (spX cl 3 zey)
noncomputable abbrev zmz(PT:Addr):Prop:=Dn P w K mg base "_law_refused" ["_law_web_here","_law_kinds_here","_law_call_here","_law_cells","_law_odd"] 7 (spDT PT (("_law_refused":Str)++".<locals>."++"<lambda>") 5 zcx)
end
section
variable{P:Program}{w:World}{K:qB}{mg:Str->Option Value}{base:Heap}
theorem zyu {f:Addr} {fd:qt} (F:Fun K "names_of" "names_of" zgv f fd) (T:Txt mg)  : FnOk P w K mg base CX0 1 f fd ["web"] (spD 1 zim):=by
 refine F.ok zyn (λvs H Q E h=>zcn h) (λcdv A outer s H vs Q E hr h=>?_)
 have hu:=zfn hr
 apply Exists.intro
 apply And.intro
 ·refine' Bx.out (zak (zba (zih (zek (N':=["name","elders"]) (own:=["name","elders"]) (fr:=[]) (by kernel_rfl)) rfl (zbq (K:=K) rfl (bv 0)) ?hb1 (by intro _;rfl))))
  case hb1=>(intro cl C s H fp;refine'⟨Bx.out (zhz (K:=K) (n:=2) rfl rfl (zcb (bpgN (i:=0) zlk rfl (Or.inl rfl)) (zcb (bpgN (i:=1) zlk rfl (Or.inl rfl)) zhy (by rfl)) (by rfl)) (by rfl) (by rfl)),Bx.out zhh,Bx.out (bv 0)⟩)
 exact fn_d (f:=zil) ((zcg (zjd (zeh (zac 0)) (zoc (zcs (zcs zkd))) (zaab (zhu (by decide) (zhu (by decide) ztf))) zkg (zac 0)))) h
theorem zyv {f:Addr} {fd:qt} (F:Fun K "names_in" "names_in" zgw f fd) (T:Txt mg)  : FnOk P w K mg base CX0 1 f fd ["arm"] (spD 1 zbf):=by
 refine F.ok zyp (λvs H Q E h=>zcn h) (λcdv A outer s H vs Q E hr h=>?_)
 have hu:=zfn hr
 apply Exists.intro
 apply And.intro
 ·refine' Bx.out (zah (zdr (zcp (K:=K) rfl (bpeB (zmf (K:=K) rfl) T.isinstance zcj (bpaC (bv 0) (bpaC (zmp (v:=.ty "tuple") (by rfl) T.tuple zfs rfl (by decide) (by decide)) zaf))) (λ_=>rfl)) (zak (zba (bpeT (zdk (K:=K) rfl) T.list zep (bpaC (bv 0) zaf)))) zbp)
 (zak (zba (zfi (bpaC (bv 0) zaf)))))
 exact fn_d (f:=znq) ((zaw (zld (zka (zzt (zac 0) zva)) (zcg (zda zia (zab (zac 0) zaj))) zeg) (zcg (zht (zab (zac 0) zaj))))) h
theorem zri{f:Addr}{fd:qt}(F:Fun K "check_kinds" "check_kinds" zeb f fd)(T:Txt mg)(D_names_of:znt P w K mg base):FnOk P w K mg base CX0 2 f fd ["web","names"] (spD 2 zfl):=by
 refine F.ok zrf (λvs H Q E h=>zcn h) (λcdv A outer s H vs Q E hr h=>?_)
 have hu:=zfn hr
 apply Exists.intro
 apply And.intro
 ·refine' Bx.out (zah (bpsS (i:=2) zib rfl (Or.inl rfl) (bpeD D_names_of hr (bpaC (bv 0) zaf)))
 (zak (zcu qp rfl (zbq (K:=K) rfl (bv 1)) (bpgN (i:=3) zib rfl (Or.inl rfl))
  (zak (zdr (zck (zpf (K:=K) rfl) (bv 3) (bv 2) (by rfl)) (zak zvl) zbp)) (by intro _;rfl))))
 exact fn_d (f:=zfk) ((zaw (zax (zay (zab (zac 0) zaj))) (zfh (zeh (zac 1)) zch (zld (st_t (zau zaja (zac 3) (zac 2))) zzx zeg)))) h
theorem zyw {f:Addr} {fd:qt} (F:Fun K "roofs_of" "roofs_of" zgx f fd) (T:Txt mg)  : FnOk P w K mg base CX0 1 f fd ["web"] (spD 1 zdz):=by
 refine F.ok zyq (λvs H Q E h=>zcn h) (λcdv A outer s H vs Q E hr h=>?_)
 have hu:=zfn hr
 apply Exists.intro
 apply And.intro
 ·refine' Bx.out (zah (bpsS (i:=1) zft rfl (Or.inl rfl) zpu)
 (zah (zcu qp rfl (zbq (K:=K) rfl (bv 0)) (zhz (K:=K) (n:=2) rfl rfl (zcb (bpgN (i:=2) zft rfl (Or.inl rfl)) (zcb (bpgN (i:=3) zft rfl (Or.inl rfl)) zhy (by rfl)) (by rfl)) (by rfl) (by rfl))
  (zah (bpsS (i:=4) zft rfl (Or.inl rfl) (zajx (zaft (bv 2) zbz zajw) rfl rfl (by simp) (by decide)))
 (zah (zcu qp rfl (zbq (K:=K) rfl (bv 3)) (bpgN (i:=5) zft rfl (Or.inl rfl))
  (zak (zdf (zfp (K:=K) rfl qCf qCa qCZ zuq (bv 4) (bpaC (zjf hu (bv 1) (bv 5) (λ_ _=>rfl)) zaf) (by rfl) (by rfl) (by rfl) (zan (by rfl)) (by rfl)) (by rfl))) (by intro _;rfl))
 (zak (zaaf hu (bv 1) (bv 2) (bv 4) rfl)))) (by intro _;rfl))
 (zak (zba (bv 1)))))
 exact fn_d (f:=zrx) ((zaw (zax zyd) (zaw (zfh (zeh (zac 0)) (zoc (zcs (zcs zkd))) (zaw (zax (zatr (zac 2) (se_c λ_=>zam))) (zaw (zfh (zeh (zac 3)) zch (zalq (zje (zac 5)))) (zalp (zac 2) (zac 4))))) znk))) h
theorem zacr{f:Addr}{fd:qt}(F:Fun K "roof_of" "roof_of" zis f fd)(T:Txt mg)(D_names_in:znu P w K mg base):FnOk P w K mg base CX0 2 f fd ["roofs","arm"] (spD 2 zkn):=by
 refine F.ok zack (λvs H Q E h=>zcn h) (λcdv A outer s H vs Q E hr h=>?_)
 have hu:=zfn hr
 apply Exists.intro
 apply And.intro
 ·refine' Bx.out (zah (bpsS (i:=2) znr rfl (Or.inl rfl) zpu)
 (zah (zcu qp rfl (zbq (K:=K) rfl (bpeD D_names_in hr (bpaC (bv 1) zaf))) (bpgN (i:=3) znr rfl (Or.inl rfl))
  (zak (zdf (zfp (K:=K) rfl qCf qCa qCZ zuq (bv 2) (bpaC (zjf hu (bv 0) (bv 3) (λ_ _=>rfl)) zaf) (by rfl) (by rfl) (by rfl) (zan (by rfl)) (by rfl)) (by rfl))) (by intro _;rfl))
 (zak (zba (bv 2)))))
 exact fn_d (f:=zwd) ((zaw (zax zyd) (zaw (zfh (zeh (zay (zab (zac 1) zaj))) zch (zalq (zje (zac 3)))) znk))) h
theorem zos{f:Addr}{fd:qt}(F:Fun K "names_in_call" "names_in_call" zcy f fd)(T:Txt mg)(D_names_in:znu P w K mg base):FnOk P w K mg base CX0 2 f fd ["call"] (spD 1 zci):=by
 refine F.ok zop (λvs H Q E h=>zcn h) (λcdv A outer s H vs Q E hr h=>?_)
 have hu:=zfn hr
 apply Exists.intro
 apply And.intro
 ·refine' Bx.out (zak (zba (zafv (zek (N':=["arm","name"]) (own:=["arm","name"]) (fr:=[]) (by kernel_rfl)) rfl (zbq (K:=K) rfl (bv 0)) ?hb1 (by intro _;rfl) (by intro _ _;rfl))))
  case hb1=>(intro cl C s H fp;refine'⟨Bx.out (bpgN (i:=0) zhm rfl (Or.inl rfl)),Bx.out zhh,Bx.out (zbq (K:=K) rfl (bpeD D_names_in hr (bpaC (bv 0) zaf))),Bx.out (bpgN (i:=1) zhm rfl (Or.inl rfl)),Bx.out zhh,Bx.out (bv 1)⟩)
 exact fn_d (f:=zko) ((zcg (zajp (k:=1) (zeh (zac 0)) zch (zafl (by decide) (by decide)) (by decide) zkg (zeh (zay (zab (zac 0) zaj))) zch (zafl (by decide) (by decide)) zkg (zac 1)))) h
theorem zot{f:Addr}{fd:qt}(F:Fun K "roofs_in_call" "roofs_in_call" zcz f fd)(T:Txt mg)(D_roof_of:zwv P w K mg base):FnOk P w K mg base CX0 3 f fd ["roofs","call"] (spD 2 zcw):=by
 refine F.ok zor (λvs H Q E h=>zcn h) (λcdv A outer s H vs Q E hr h=>?_)
 have hu:=zfn hr
 apply Exists.intro
 apply And.intro
 ·refine' Bx.out (zak (zba (zih (zek (N':=["arm","roofs"]) (own:=["arm"]) (fr:=[0]) (by kernel_rfl)) rfl (zbq (K:=K) rfl (bv 1)) ?hb1 (by intro _;rfl))))
  case hb1=>(intro cl C s H fp;refine'⟨Bx.out (bpgN (i:=0) zlx rfl (Or.inl rfl)),Bx.out zhh,Bx.out (bpeD D_roof_of hr (bpaC (bv 1) (bpaC (bv 0) zaf)))⟩)
 exact fn_d (f:=zkp) ((zcg (zjd (zeh (zac 1)) zch (zpp (by decide)) zkg (zay (zab (zac 1) (zab (zac 0) zaj)))))) h
theorem ztu {f:Addr} {fd:qt} (F:Fun K "fits_under" "fits_under" zez f fd) (T:Txt mg)  : FnOk P w K mg base CX0 1 f fd ["kinds","call_roofs"] (spD 2 zew):=by
 refine F.ok ztr (λvs H Q E h=>zcn h) (λcdv A outer s H vs Q E hr h=>?_)
 have hu:=zfn hr
 apply Exists.intro
 apply And.intro
 ·refine' Bx.out (zak (zba (bpeB (zur (K:=K) rfl rfl) T.all zaat (bpaC (zih (zek (N':=["kind","roof"]) (own:=["kind","roof"]) (fr:=[]) (by kernel_rfl)) rfl (zafu (K:=K) rfl rfl T.zip (bpaC (bv 0) (bpaC (bv 1) zaf)) (by rfl) (by rfl)) ?hb1 (by intro _;rfl)) zaf))))
  case hb1=>(intro cl C s H fp;refine'⟨Bx.out (zhz (K:=K) (n:=2) rfl rfl (zcb (bpgN (i:=0) zjs rfl (Or.inl rfl)) (zcb (bpgN (i:=1) zjs rfl (Or.inl rfl)) zhy (by rfl)) (by rfl)) (by rfl) (by rfl)),Bx.out zhh,Bx.out (zafx (zafw hu (bv 0) (bv 1)) (by rfl))⟩)
 exact fn_d (f:=zoe) ((zcg (zda zaev (zab (zjd (zalv (zab (zac 0) (zab (zac 1) zaj))) (zoc (zcs (zcs zkd))) (zaab (zhu (by decide) (zhu (by decide) ztf))) zkg (zalo (zac 0) (zac 1))) zaj)))) h
theorem zxa {f:Addr} {fd:qt} (F:Fun K "is_nearer" "is_nearer" zfu f fd) (T:Txt mg)  : FnOk P w K mg base CX0 1 f fd ["roofs","one","other"] (spD 3 zfr):=by
 refine F.ok zwh (λvs H Q E h=>zcn h) (λcdv A outer s H vs Q E hr h=>?_)
 have hu:=zfn hr
 apply Exists.intro
 apply And.intro
 ·refine' Bx.out (zak (zba (zpt (zhx (zkf (K:=K) rfl hr.units) (bv 1) (bv 2) (zdt _)) (zps (bpeB (zur (K:=K) rfl rfl) T.all zaat (bpaC (zih (zek (N':=["low","high","roofs"]) (own:=["low","high"]) (fr:=[0]) (by kernel_rfl)) rfl (zafu (K:=K) rfl rfl T.zip (bpaC (bv 1) (bpaC (bv 2) zaf)) (by rfl) (by rfl)) ?hb1 (by intro _;rfl)) zaf))))))
  case hb1=>(intro cl C s H fp;refine'⟨Bx.out (zhz (K:=K) (n:=2) rfl rfl (zcb (bpgN (i:=0) zks rfl (Or.inl rfl)) (zcb (bpgN (i:=1) zks rfl (Or.inl rfl)) zhy (by rfl)) (by rfl)) (by rfl) (by rfl)),Bx.out zhh,Bx.out (zafx (zafw hu (bv 1) (zjf hu (bv 2) (bv 0) (λ_ _=>rfl))) (by rfl))⟩)
 exact fn_d (f:=zqi) ((zcg (zuy (zau zpk (zac 1) (zac 2)) (zda zaev (zab (zjd (zalv (zab (zac 1) (zab (zac 2) zaj))) (zoc (zcs (zcs zkd))) (zaab (zhu (by decide) (zhu (by decide) ztf))) zkg (zalo (zac 1) (zje (zac 0)))) zaj))))) h
theorem zapj{f:Addr}{fd:qt}(F:Fun K "fits" "fits" zsf f fd)(T:Txt mg)(D_check_kinds:zjl P w K mg base)(D_fits_under:zkt P w K mg base)(D_names_in_call:zhn P w K mg base)(D_roofs_in_call:zho P w K mg base)(D_roofs_of:ziw P w K mg base):FnOk P w K mg base CX0 4 f fd ["web","kinds","call"] (spD 3 zmu):=by
 refine F.ok zapi (λvs H Q E h=>zcn h) (λcdv A outer s H vs Q E hr h=>?_)
 have hu:=zfn hr
 apply Exists.intro
 apply And.intro
 ·refine' Bx.out (zah (zdr (zck (zkf (K:=K) rfl hr.units) (bpeB (zbg (K:=K) rfl) T.len zbr (bpaC (bv 2) zaf)) (bpeB (zbg (K:=K) rfl) T.len zbr (bpaC (bv 1) zaf)) (zdt _)) (zak zvl) zbp)
 (zah (zdf (bpeD D_check_kinds hr (bpaC (bv 0) (bpaC (zat (zbh (K:=K) rfl) (bpeT (zdk (K:=K) rfl) T.list zep (bpaC (bv 1) zaf)) (bpeD D_names_in_call hr (bpaC (bv 2) zaf))) zaf))) (by rfl))
 (zak (zba (bpeD D_fits_under hr (bpaC (bv 1) (bpaC (bpeD D_roofs_in_call hr (bpaC (bpeD D_roofs_of hr (bpaC (bv 0) zaf)) (bpaC (bv 2) zaf))) zaf)))))))
 exact fn_d (f:=zami) ((zaw (zld (st_t (zau zpk (zda zel (zab (zac 2) zaj)) (zda zel (zab (zac 1) zaj)))) zzx zeg) (zaw (zaey (zay (zab (zac 0) (zab (zau zee (zda zia (zab (zac 1) zaj)) (zay (zab (zac 2) zaj))) zaj)))) (zcg (zay (zab (zac 1) (zab (zay (zab (zay (zab (zac 0) zaj)) (zab (zac 2) zaj))) zaj))))))) h
theorem zahc{f:Addr}{fd:qt}(F:Fun K "nearer" "nearer" zla f fd)(T:Txt mg)(D_check_kinds:zjl P w K mg base)(D_is_nearer:zly P w K mg base)(D_roofs_of:ziw P w K mg base):FnOk P w K mg base CX0 3 f fd ["web","one","other"] (spD 3 zbl):=by
 refine F.ok zagx (λvs H Q E h=>zcn h) (λcdv A outer s H vs Q E hr h=>?_)
 have hu:=zfn hr
 apply Exists.intro
 apply And.intro
 ·refine' Bx.out (zah (zdf (bpeD D_check_kinds hr (bpaC (bv 0) (bpaC (zat (zbh (K:=K) rfl) (bpeT (zdk (K:=K) rfl) T.list zep (bpaC (bv 1) zaf)) (bpeT (zdk (K:=K) rfl) T.list zep (bpaC (bv 2) zaf))) zaf))) (by rfl))
 (zak (zba (zpt (zhx (zlf (K:=K) rfl hr.units) (bpeB (zbg (K:=K) rfl) T.len zbr (bpaC (bv 1) zaf)) (bpeB (zbg (K:=K) rfl) T.len zbr (bpaC (bv 2) zaf)) (zdt _)) (zps (bpeD D_is_nearer hr (bpaC (bpeD D_roofs_of hr (bpaC (bv 0) zaf)) (bpaC (bv 1) (bpaC (bv 2) zaf)))))))))
 exact fn_d (f:=zaas) ((zaw (zaey (zay (zab (zac 0) (zab (zau zee (zda zia (zab (zac 1) zaj)) (zda zia (zab (zac 2) zaj))) zaj)))) (zcg (zuy (zau zrd (zda zel (zab (zac 1) zaj)) (zda zel (zab (zac 2) zaj))) (zay (zab (zay (zab (zac 0) zaj)) (zab (zac 1) (zab (zac 2) zaj)))))))) h
theorem zxb {f:Addr} {fd:qt} (F:Fun K "_law_names" "_law_names" zfw f fd) (T:Txt mg)  : FnOk P w K mg base CX0 1 f fd ["_law_many","_law_cell"] (spD 2 zdu):=by
 refine F.ok zwj (λvs H Q E h=>zcn h) (λcdv A outer s H vs Q E hr h=>?_)
 have hu:=zfn hr
 apply Exists.intro
 apply And.intro
 ·refine' Bx.out (zah (bpsS (i:=2) zbn rfl (Or.inl rfl) zki)
 (zah (bpsS (i:=3) zbn rfl (Or.inl rfl) (bpeX (zdh (K:=K) rfl) (zfo (bpaC zal (bpaC zal (bpaC zal (bpaC zal (bpaC zal (bpaC zal (bpaC zal (bpaC zal zaf))))))))) (zat zcl (zat zei (bv 1) zal) zal)))
 (zah (bpsS (i:=4) zbn rfl (Or.inl rfl) (zat zcl (zat zei (bv 1) zal) zal))
 (zah (bpsS (i:=5) zbn rfl (Or.inl rfl) (zat ziy (bpeX (zdh (K:=K) rfl) (bv 2) (zat zcl (zat zei (bv 1) zal) zal)) (zat zcl (zat zei (bv 1) zal) zal)))
 (zah (bpsS (i:=6) zbn rfl (Or.inl rfl) (zat zcl (zat zei (bv 1) zal) (zat (zbh (K:=K) rfl) (bpeB (zbg (K:=K) rfl) T.len zbr (bpaC (bv 5) zaf)) zal)))
 (zah (bpsS (i:=7) zbn rfl (Or.inl rfl) (zfi zaf))
 (zah (zcu qp rfl (zii rfl T.range (bpaC (bv 0) zaf) (by rfl)) (bpgN (i:=8) zbn rfl (Or.inl rfl))
  (zah (bpsS (i:=9) zbn rfl (Or.inl rfl) (bpeX (zdh (K:=K) rfl) (bv 2) (zat zcl (zat (zbh (K:=K) rfl) (bv 4) (zat ziy (bv 3) (bv 8))) zal)))
 (zak (zdr (zck (zlf (K:=K) rfl hr.units) (zat zcl (bv 1) zal) zal (zdt _)) (zak (zdf (zfp (K:=K) rfl qr qz qy zdg (bv 7) (bpaC (zat (zbh (K:=K) rfl) (zat (zbh (K:=K) rfl) (zca (zme (K:=K) rfl) (bv 5) zer (zbx (bv 6))) (bv 9)) (zca (zme (K:=K) rfl) (bv 5) (zbx (bv 6)) zer)) zaf) (by rfl) (by rfl) (by rfl) (zan (by rfl)) (by rfl)) (by rfl))) (zak (zdr (zck (zlf (K:=K) rfl hr.units) (zat zcl (bv 1) zal) zal (zdt _)) (zak (zdf (zfp (K:=K) rfl qr qz qy zdg (bv 7) (bpaC (zat (zbh (K:=K) rfl) (zca (zme (K:=K) rfl) (bv 5) zer (zbx (zat zcl (zat ziy (bv 8) (bv 3)) (zat (zbh (K:=K) rfl) (bpeB (zbg (K:=K) rfl) T.len zbr (bpaC (bv 5) zaf)) zal)))) (bv 9)) zaf) (by rfl) (by rfl) (by rfl) (zan (by rfl)) (by rfl)) (by rfl))) (zak (zdf (zfp (K:=K) rfl qr qz qy zdg (bv 7) (bpaC (zat ziy (bpeX (zdh (K:=K) rfl) (bv 2) (zat zcl (zat (zbh (K:=K) rfl) (bv 4) (zat zei (bv 8) zal)) zal)) (zat (zbh (K:=K) rfl) zal (zat zcl (zat ziy (bv 8) (bv 3)) zal))) zaf) (by rfl) (by rfl) (by rfl) (zan (by rfl)) (by rfl)) (by rfl)))))))) (by intro _;rfl))
 (zah (zdr (zck (zlf (K:=K) rfl hr.units) (zat zcl (zat zei (bv 1) zal) zal) zal (zdt _)) (zah (bpsS (i:=10) zbn rfl (Or.inl rfl) (zfi (bpaC zki (bpaC zki (bpaC zki (bpaC zki (bpaC zki (bpaC zki zaf))))))))
 (zah (bpsS (i:=11) zbn rfl (Or.inl rfl) (zat zcl (zat zei (bv 1) zal) zal))
 (zak (bpsS (i:=7) zbn rfl (Or.inl rfl) (zca (zme (K:=K) rfl) (zat (zbh (K:=K) rfl) (zat (zbh (K:=K) rfl) (zca (zme (K:=K) rfl) (bv 10) (zbx (bv 11)) zer) (zca (zme (K:=K) rfl) (bv 10) zer (zbx (bv 11)))) (zca (zme (K:=K) rfl) (bv 7) (zbx zal) zer)) zer (zbx (bv 0))))))) zbp)
 (zak (zba (bv 7)))))))))))
 exact fn_d (f:=zhj) ((zaw (zax (se_c λ_=>zdi)) (zaw (zax (zau zajb (zjo (zab (se_c λ_=>zae) (zab (se_c λ_=>zae) (zab (se_c λ_=>zae) (zab (se_c λ_=>zae) (zab (se_c λ_=>zae) (zab (se_c λ_=>zae) (zab (se_c λ_=>zae) (zab (se_c λ_=>zae) zaj))))))))) (zau zdd (zau zet (zac 1) (se_c λ_=>zae)) (se_c λ_=>zae)))) (zaw (zax (zau zdd (zau zet (zac 1) (se_c λ_=>zae)) (se_c λ_=>zae))) (zaw (zax (zau zuv (zbw (zau zdd (zau zet (zac 1) (se_c λ_=>zae)) (se_c λ_=>zae))) (zau zdd (zau zet (zac 1) (se_c λ_=>zae)) (se_c λ_=>zae)))) (zaw (zax (zau zdd (zau zet (zac 1) (se_c λ_=>zae)) (zau zee (zda zel (zab (zac 5) zaj)) (se_c λ_=>zae)))) (zaw (zax (zht zaj)) (zaw (zfh (zke (zab (zac 0) zaj)) zch (zaw (zax (zbw (zau zdd (zau zee (zac 4) (zau zuv (zac 3) (zac 8))) (se_c λ_=>zae)))) (zld (st_t (zau zrd (zau zdd (zac 1) (se_c λ_=>zae)) (se_c λ_=>zae))) (zpn (zau zee (zau zee (zni (zac 5) zgj (zct (zac 6))) (zac 9)) (zni (zac 5) (zct (zac 6)) zgj))) (zld (st_t (zau zrd (zau zdd (zac 1) (se_c λ_=>zae)) (se_c λ_=>zae))) (zpn (zau zee (zni (zac 5) zgj (zct (zau zdd (zau zuv (zac 8) (zac 3)) (zau zee (zda zel (zab (zac 5) zaj)) (se_c λ_=>zae))))) (zac 9))) (zpn (zau zuv (zbw (zau zdd (zau zee (zac 4) (zau zet (zac 8) (se_c λ_=>zae))) (se_c λ_=>zae))) (zau zee (se_c λ_=>zae) (zau zdd (zau zuv (zac 8) (zac 3)) (se_c λ_=>zae))))))))) (zaw (zld (st_t (zau zrd (zau zdd (zau zet (zac 1) (se_c λ_=>zae)) (se_c λ_=>zae)) (se_c λ_=>zae))) (zaw (zax (zht (zab (se_c λ_=>zdi) (zab (se_c λ_=>zdi) (zab (se_c λ_=>zdi) (zab (se_c λ_=>zdi) (zab (se_c λ_=>zdi) (zab (se_c λ_=>zdi) zaj)))))))) (zaw (zax (zau zdd (zau zet (zac 1) (se_c λ_=>zae)) (se_c λ_=>zae))) (zax (zni (zau zee (zau zee (zni (zac 10) (zct (zac 11)) zgj) (zni (zac 10) zgj (zct (zac 11)))) (zni (zac 7) (zct (se_c λ_=>zae)) zgj)) zgj (zct (zac 0)))))) zeg) znk))))))))) h
theorem zacs {f:Addr} {fd:qt} (F:Fun K "_law_web" "_law_web" zit f fd) (T:Txt mg)  : FnOk P w K mg base CX0 1 f fd ["_law_cells","_law_names_here"] (spD 2 zkk):=by
 refine F.ok zacl (λvs H Q E h=>zcn h) (λcdv A outer s H vs Q E hr h=>?_)
 have hu:=zfn hr
 apply Exists.intro
 apply And.intro
 ·refine' Bx.out (zah (bpsS (i:=2) zdo rfl (Or.inl rfl) (zfi zaf))
 (zah (zcu qp rfl (zvm (K:=K) rfl rfl T.enumerate (bpaC (bv 1) zaf) (by rfl)) (zhz (K:=K) (n:=2) rfl rfl (zcb (bpgN (i:=3) zdo rfl (Or.inl rfl)) (zcb (bpgN (i:=4) zdo rfl (Or.inl rfl)) zhy (by rfl)) (by rfl)) (by rfl) (by rfl))
  (zah (bpsS (i:=5) zdo rfl (Or.inl rfl) (zca (zme (K:=K) rfl) (bv 1) zer (zbx (bv 3))))
 (zah (bpsS (i:=6) zdo rfl (Or.inl rfl) (zat zei (bpeX (zdh (K:=K) rfl) (bv 0) (bv 3)) zal))
 (zah (bpsS (i:=7) zdo rfl (Or.inl rfl) (zfi zaf))
 (zah (zcu qp rfl (zii rfl T.range (bpaC (bpeB (zadj rfl) T.min zakr (bpaC (zat zcl (bpeX (zdh (K:=K) rfl) (bv 0) (bv 3)) zal) (bpaC (bv 3) zaf))) zaf) (by rfl)) (bpgN (i:=8) zdo rfl (Or.inl rfl))
  (zah (bpsS (i:=9) zdo rfl (Or.inl rfl) (zat zcl (bv 6) (bpeB (zbg (K:=K) rfl) T.len zbr (bpaC (bv 5) zaf))))
 (zah (bpsS (i:=6) zdo rfl (Or.inl rfl) (zat zei (bv 6) (bpeB (zbg (K:=K) rfl) T.len zbr (bpaC (bv 5) zaf))))
 (zak (zdf (zfp (K:=K) rfl qr qz qy zdg (bv 7) (bpaC (zfp (K:=K) rfl qr qCv qCu zzl (bv 5) (bpaC (bv 9) zaf) (by rfl) (by rfl) (by rfl) (zan (by rfl)) (by rfl)) zaf) (by rfl) (by rfl) (by rfl) (zan (by rfl)) (by rfl)) (by rfl))))) (by intro _;rfl))
 (zak (zdf (zfp (K:=K) rfl qr qz qy zdg (bv 2) (bpaC (zfo (bpaC (bv 4) (bpaC (bv 7) zaf))) zaf) (by rfl) (by rfl) (by rfl) (zan (by rfl)) (by rfl)) (by rfl))))))) (by intro _;rfl))
 (zak (zba (bv 2)))))
 exact fn_d (f:=zvq) ((zaw (zax (zht zaj)) (zaw (zfh (zafr (zab (zac 1) zaj)) (zoc (zcs (zcs zkd))) (zaw (zax (zni (zac 1) zgj (zct (zac 3)))) (zaw (zax (zau zet (zbw (zac 3)) (se_c λ_=>zae))) (zaw (zax (zht zaj)) (zaw (zfh (zke (zab (zda zarn (zab (zau zdd (zbw (zac 3)) (se_c λ_=>zae)) (zab (zac 3) zaj))) zaj)) zch (zaw (zax (zau zdd (zac 6) (zda zel (zab (zac 5) zaj)))) (zaw (zax (zau zet (zac 6) (zda zel (zab (zac 5) zaj)))) (zvg (zac 9))))) (zpn (zjo (zab (zac 4) (zab (zac 7) zaj))))))))) znk))) h
theorem zahd {f:Addr} {fd:qt} (F:Fun K "_law_up" "_law_up" zlb f fd) (T:Txt mg)  : FnOk P w K mg base CX0 1 f fd ["_law_web_here"] (spD 1 zmq):=by
 refine F.ok zagy (λvs H Q E h=>zcn h) (λcdv A outer s H vs Q E hr h=>?_)
 have hu:=zfn hr
 apply Exists.intro
 apply And.intro
 ·refine' Bx.out (zah (bpsS (i:=1) zhk rfl (Or.inl rfl) zpu)
 (zah (zcu qp rfl (zbq (K:=K) rfl (bv 0)) (zhz (K:=K) (n:=2) rfl rfl (zcb (bpgN (i:=2) zhk rfl (Or.inl rfl)) (zcb (bpgN (i:=3) zhk rfl (Or.inl rfl)) zhy (by rfl)) (by rfl)) (by rfl) (by rfl))
  (zah (bpsS (i:=4) zhk rfl (Or.inl rfl) (zfi (bpaC (bv 2) zaf)))
 (zah (zcu qp rfl (zbq (K:=K) rfl (bv 3)) (bpgN (i:=5) zhk rfl (Or.inl rfl))
  (zak (zcu qp rfl (zbq (K:=K) rfl (zjf hu (bv 1) (bv 5) (λ_ _=>rfl))) (bpgN (i:=6) zhk rfl (Or.inl rfl))
  (zak (zdr (zck (zpf (K:=K) rfl) (bv 6) (bv 4) (by rfl)) (zak (zdf (zfp (K:=K) rfl qr qz qy zdg (bv 4) (bpaC (bv 6) zaf) (by rfl) (by rfl) (by rfl) (zan (by rfl)) (by rfl)) (by rfl))) zbp)) (by intro _;rfl))) (by intro _;rfl))
 (zak (zaaf hu (bv 1) (bv 2) (bv 4) rfl)))) (by intro _;rfl))
 (zak (zba (bv 1)))))
 exact fn_d (f:=zaai) ((zaw (zax zyd) (zaw (zfh (zeh (zac 0)) (zoc (zcs (zcs zkd))) (zaw (zax (zht (zab (zac 2) zaj))) (zaw (zfh (zeh (zac 3)) zch (zfh (zeh (zje (zac 5))) zch (zld (st_t (zau zaja (zac 6) (zac 4))) (zpn (zac 6)) zeg))) (zalp (zac 2) (zac 4))))) znk))) h
theorem zact {f:Addr} {fd:qt} (F:Fun K "_law_arm" "_law_arm" ziu f fd) (T:Txt mg)  : FnOk P w K mg base CX0 1 f fd ["_law_cell","_law_names_here"] (spD 2 zea):=by
 refine F.ok zacm (λvs H Q E h=>zcn h) (λcdv A outer s H vs Q E hr h=>?_)
 have hu:=zfn hr
 apply Exists.intro
 apply And.intro
 ·refine' Bx.out (zah (bpsS (i:=2) zfx rfl (Or.inl rfl) (bpeT (zdk (K:=K) rfl) T.list zep (bpaC (bv 1) zaf)))
 (zah (bpsS (i:=3) zfx rfl (Or.inl rfl) (zat zei (bv 0) (bpeB (zbg (K:=K) rfl) T.len zbr (bpaC (bv 1) zaf))))
 (zah (bpsS (i:=4) zfx rfl (Or.inl rfl) (zfi zaf))
 (zah (zcu qp rfl (zii rfl T.range (bpaC (zat (zbh (K:=K) rfl) zal (zat zcl (bv 0) (bpeB (zbg (K:=K) rfl) T.len zbr (bpaC (bv 1) zaf)))) zaf) (by rfl)) (bpgN (i:=5) zfx rfl (Or.inl rfl))
  (zah (bpsS (i:=6) zfx rfl (Or.inl rfl) (zat zcl (bv 3) (bpeB (zbg (K:=K) rfl) T.len zbr (bpaC (bv 2) zaf))))
 (zah (bpsS (i:=3) zfx rfl (Or.inl rfl) (zat zei (bv 3) (bpeB (zbg (K:=K) rfl) T.len zbr (bpaC (bv 2) zaf))))
 (zak (zdf (zfp (K:=K) rfl qr qz qy zdg (bv 4) (bpaC (zfp (K:=K) rfl qr qCv qCu zzl (bv 2) (bpaC (bv 6) zaf) (by rfl) (by rfl) (by rfl) (zan (by rfl)) (by rfl)) zaf) (by rfl) (by rfl) (by rfl) (zan (by rfl)) (by rfl)) (by rfl))))) (by intro _;rfl))
 (zak (zba (bpeT (zhe (K:=K) rfl) T.tuple zfs (bpaC (bv 4) zaf))))))))
 exact fn_d (f:=zmv) ((zaw (zax (zda zia (zab (zac 1) zaj))) (zaw (zax (zau zet (zac 0) (zda zel (zab (zac 1) zaj)))) (zaw (zax (zht zaj)) (zaw (zfh (zke (zab (zau zee (se_c λ_=>zae) (zau zdd (zac 0) (zda zel (zab (zac 1) zaj)))) zaj)) zch (zaw (zax (zau zdd (zac 3) (zda zel (zab (zac 2) zaj)))) (zaw (zax (zau zet (zac 3) (zda zel (zab (zac 2) zaj)))) (zvg (zac 6))))) (zcg (zda zmj (zab (zac 4) zaj)))))))) h
theorem zxc {f:Addr} {fd:qt} (F:Fun K "_law_kinds" "_law_kinds" zfy f fd) (T:Txt mg)  : FnOk P w K mg base CX0 1 f fd ["_law_cell","_law_names_here","_law_places"] (spD 3 zeu):=by
 refine F.ok zwm (λvs H Q E h=>zcn h) (λcdv A outer s H vs Q E hr h=>?_)
 have hu:=zfn hr
 apply Exists.intro
 apply And.intro
 ·refine' Bx.out (zah (bpsS (i:=3) zgh rfl (Or.inl rfl) (bv 0))
 (zah (bpsS (i:=4) zgh rfl (Or.inl rfl) (zfi zaf))
 (zah (zcu qp rfl (zii rfl T.range (bpaC (bv 2) zaf) (by rfl)) (bpgN (i:=5) zgh rfl (Or.inl rfl))
  (zah (zdf (zfp (K:=K) rfl qr qz qy zdg (bv 4) (bpaC (bpeX (zdh (K:=K) rfl) (bv 1) (zat zcl (bv 3) (bpeB (zbg (K:=K) rfl) T.len zbr (bpaC (bv 1) zaf)))) zaf) (by rfl) (by rfl) (by rfl) (zan (by rfl)) (by rfl)) (by rfl))
 (zak (bpsS (i:=3) zgh rfl (Or.inl rfl) (zat zei (bv 3) (bpeB (zbg (K:=K) rfl) T.len zbr (bpaC (bv 1) zaf)))))) (by intro _;rfl))
 (zak (zba (bpeT (zhe (K:=K) rfl) T.tuple zfs (bpaC (bv 4) zaf)))))))
 exact fn_d (f:=zqj) ((zaw (zax (zac 0)) (zaw (zax (zht zaj)) (zaw (zfh (zke (zab (zac 2) zaj)) zch (zaw (zpn (zbw (zau zdd (zac 3) (zda zel (zab (zac 1) zaj))))) (zax (zau zet (zac 3) (zda zel (zab (zac 1) zaj)))))) (zcg (zda zmj (zab (zac 4) zaj))))))) h
theorem zyx{f:Addr}{fd:qt}(F:Fun K "_law_call" "_law_call" zgy f fd)(T:Txt mg)(D_law_arm:zwx P w K mg base):FnOk P w K mg base CX0 2 f fd ["_law_cells","_law_names_here","_law_places"] (spD 3 zdn):=by
 refine F.ok zyr (λvs H Q E h=>zcn h) (λcdv A outer s H vs Q E hr h=>?_)
 have hu:=zfn hr
 apply Exists.intro
 apply And.intro
 ·refine' Bx.out (zah (bpsS (i:=3) zhl rfl (Or.inl rfl) (zfi zaf))
 (zah (zcu qp rfl (zii rfl T.range (bpaC (bv 2) zaf) (by rfl)) (bpgN (i:=4) zhl rfl (Or.inl rfl))
  (zah (bpsS (i:=5) zhl rfl (Or.inl rfl) (bpeD D_law_arm hr (bpaC (zat zei (bpeX (zdh (K:=K) rfl) (bv 0) (bv 4)) zal) (bpaC (bv 1) zaf))))
 (zah (zdr (zck (zlf (K:=K) rfl hr.units) (zat zcl (bpeX (zdh (K:=K) rfl) (bv 0) (bv 4)) zal) zal (zdt _)) (zak (bpsS (i:=5) zhl rfl (Or.inl rfl) (bpeX (zdh (K:=K) rfl) (bv 5) zal))) zbp)
 (zak (zdf (zfp (K:=K) rfl qr qz qy zdg (bv 3) (bpaC (bv 5) zaf) (by rfl) (by rfl) (by rfl) (zan (by rfl)) (by rfl)) (by rfl))))) (by intro _;rfl))
 (zak (zba (bpeT (zhe (K:=K) rfl) T.tuple zfs (bpaC (bv 3) zaf))))))
 exact fn_d (f:=zlj) ((zaw (zax (zht zaj)) (zaw (zfh (zke (zab (zac 2) zaj)) zch (zaw (zax (zay (zab (zau zet (zbw (zac 4)) (se_c λ_=>zae)) (zab (zac 1) zaj)))) (zaw (zld (st_t (zau zrd (zau zdd (zbw (zac 4)) (se_c λ_=>zae)) (se_c λ_=>zae))) (zax (zbw (se_c λ_=>zae))) zeg) (zpn (zac 5))))) (zcg (zda zmj (zab (zac 3) zaj)))))) h
theorem zxd {f:Addr} {fd:qt} (F:Fun K "_law_parts" "_law_parts" zfz f fd) (T:Txt mg)  : FnOk P w K mg base CX0 1 f fd ["_law_arm_here"] (spD 1 zbf):=by
 refine F.ok zwo (λvs H Q E h=>zcn h) (λcdv A outer s H vs Q E hr h=>?_)
 have hu:=zfn hr
 apply Exists.intro
 apply And.intro
 ·refine' Bx.out (zah (zdr (zcp (K:=K) rfl (bpeB (zmf (K:=K) rfl) T.isinstance zcj (bpaC (bv 0) (bpaC (zmp (v:=.ty "tuple") (by rfl) T.tuple zfs rfl (by decide) (by decide)) zaf))) (λ_=>rfl)) (zak (zba (bpeT (zdk (K:=K) rfl) T.list zep (bpaC (bv 0) zaf)))) zbp)
 (zak (zba (zfi (bpaC (bv 0) zaf)))))
 exact fn_d (f:=znq) ((zaw (zld (zka (zzt (zac 0) zva)) (zcg (zda zia (zab (zac 0) zaj))) zeg) (zcg (zht (zab (zac 0) zaj))))) h
theorem zyy{f:Addr}{fd:qt}(F:Fun K "_law_fits" "_law_fits" zgz f fd)(T:Txt mg)(D_law_parts:zjm P w K mg base):FnOk P w K mg base CX0 2 f fd ["_law_up_here","_law_kinds_here","_law_call_here"] (spD 3 zcq):=by
 refine F.ok zys (λvs H Q E h=>zcn h) (λcdv A outer s H vs Q E hr h=>?_)
 have hu:=zfn hr
 apply Exists.intro
 apply And.intro
 ·refine' Bx.out (zah (zcu qp rfl (zvm (K:=K) rfl rfl T.enumerate (bpaC (bv 1) zaf) (by rfl)) (zhz (K:=K) (n:=2) rfl rfl (zcb (bpgN (i:=3) zlw rfl (Or.inl rfl)) (zcb (bpgN (i:=4) zlw rfl (Or.inr rfl)) zhy (by rfl)) (by rfl)) (by rfl) (by rfl))
  (zak (zdr (znm (zcp (K:=K) rfl (bpeB (zaeh (K:=K) rfl rfl) T.any zakq (bpaC (zih (zek (N':=["_law_name","_law_up_here","_law_kind"]) (own:=["_law_name"]) (fr:=[0,4]) (by kernel_rfl)) rfl (zbq (K:=K) rfl (bpeD D_law_parts hr (bpaC (bpeX (zdh (K:=K) rfl) (bv 2) (bv 3)) zaf))) ?hb1 (by intro _;rfl)) zaf)) (λ_=>rfl))) (zak (zba zbz)) zbp)) (by intro _;rfl))
 (zak (zba zbz)))
  case hb1=>(intro cl C s H fp;refine'⟨Bx.out (bpgN (i:=0) zrh rfl (Or.inl rfl)),Bx.out zhh,Bx.out (zhx (zarf (K:=K) rfl) (bv 2) (zjf hu (bv 1) (bv 0) (λ_ _=>rfl)) (by rfl))⟩)
 exact fn_d (f:=zsa) ((zaw (zfh (zaad (zab (zac 1) zaj)) (zoc (zcs (zcs zkd))) (zld (zux (zka (zda zaev (zab (zjd (zeh (zay (zab (zbw (zac 3)) zaj))) zch (zpp (by decide)) zkg (zau zaja (zac 2) (zje (zac 0)))) zaj)))) (zcg (se_c λ_=>zam)) zeg)) (zcg (se_c λ_=>zam)))) h
theorem zacu {f:Addr} {fd:qt} (F:Fun K "_law_put" "_law_put" ziv f fd) (T:Txt mg)  : FnOk P w K mg base CX0 1 f fd ["_law_row","_law_at","_law_thing"] (spD 3 zbm):=by
 refine F.ok zaco (λvs H Q E h=>zcn h) (λcdv A outer s H vs Q E hr h=>?_)
 have hu:=zfn hr
 apply Exists.intro
 apply And.intro
 ·refine' Bx.out (zak (zba (zat (zbh (K:=K) rfl) (zat (zaoj (K:=K) rfl) (zca (sl_W (K:=K) rfl) (bv 0) zer (zbx (bv 1))) (zfo (bpaC (bv 2) zaf))) (zca (sl_W (K:=K) rfl) (bv 0) (zbx (zat (zbh (K:=K) rfl) (bv 1) zal)) zer))))
 exact fn_d (f:=zmw) ((zcg (zau zee (zau zaok (zafy (zac 0) zgj (zct (zac 1))) (zjo (zab (zac 2) zaj))) (zafy (zac 0) (zct (zau zee (zac 1) (se_c λ_=>zae))) zgj)))) h
theorem zyz{f:Addr}{fd:qt}{cl:Str->Addr}(F:Fun K "_law_told" "_law_told" zha f fd)(T:Txt mg)(XK:XKit P w K mg base cl ["NoCall","NoKind"] ["NoCall","NoKind"] "CallError"):ToldOk P w K mg base 6 5 f fd "_law_ask" (tolD cl zbb):=by
 refine zaoc F zyt (λcdv A outer s H g R Q hr h0k hg hn ha ht=>?_)
 have hu:=zfn hr
 apply Exists.intro
 apply And.intro
 ·refine' Bx.out (zah (bpsS (i:=2) zjk rfl (Or.inl rfl) (zfo (bpaC zki zaf)))
 (zah (zake (i:=0) (j:=1) ha XK rfl (hr.mono (by decide)) hg hn rfl rfl zjk rfl rfl rfl rfl (by rfl) (λ_ _ _ hxm hxcl=>(zak (bpsS (i:=2) zjk rfl (Or.inl rfl) (zfo (bpaC (bpeB (zpx (K:=K) rfl hxm hxcl) T.isinstance zcj (bpaC (bv 1) (bpaC (zaag (by rfl) (XK.mgk "NoCall" (by decide)) (by decide)) zaf))) (bpaC (bpeB (zpx (K:=K) rfl hxm hxcl) T.isinstance zcj (bpaC (bv 1) (bpaC (zaag (by rfl) (XK.mgk "NoKind" (by decide)) (by decide)) zaf))) (bpaC (bpeB (zpx (K:=K) rfl hxm hxcl) T.isinstance zcj (bpaC (bv 1) (bpaC (zmp (v:=.ty "ValueError") (by rfl) XK.mgV zjz rfl (by decide) (by decide)) zaf))) (bpaC (zaka (K:=K) rfl hxm (bv 1) (by rfl)) zaf)))))))) (by decide) (by decide) (by decide) (by rfl))
 (zak (zba (bv 2)))))
 exact(zasd (cl:=cl) (by decide) (by decide) (by decide) (zjo (zab (se_c λ_=>zdi) zaj)) (by intro xc hxc xd;exact(zaoo (i:=2) (j:=1) (zaon (zox (zafz (XK.kit xc hxc "NoCall" (by decide))) (zox (zafz (XK.kit xc hxc "NoKind" (by decide))) (zox (zaol (XK.val xc hxc)) (zox zarz zaom))))) (by decide)))) ht
theorem ztv{f:Addr}{fd:qt}(F:Fun K "_law_orders" "_law_orders" zfb f fd)(T:Txt mg)(D_law_fits:znv P w K mg base)(D_nearer:zaaw P w K mg base):FnOk P w K mg base CX0 4 f fd ["_law_web_here","_law_up_here","_law_rows"] (spD 3 zgg):=by
 refine F.ok zts (λvs H Q E h=>zcn h) (λcdv A outer s H vs Q E hr h=>?_)
 have hu:=zfn hr
 apply Exists.intro
 apply And.intro
 ·refine' Bx.out (zah (zcu qp rfl (zbq (K:=K) rfl (bv 2)) (bpgN (i:=3) zec rfl (Or.inl rfl))
  (zak (zcu qp rfl (zbq (K:=K) rfl (bv 2)) (bpgN (i:=4) zec rfl (Or.inl rfl))
  (zah (bpsS (i:=5) zec rfl (Or.inl rfl) (zpt (zhx (zkf (K:=K) rfl hr.units) (bv 3) (bv 4) (zdt _)) (zps (bpeD D_law_fits hr (bpaC (bv 1) (bpaC (bv 4) (bpaC (bv 3) zaf)))))))
 (zah (bpsS (i:=6) zec rfl (Or.inl rfl) (bpeD D_nearer hr (bpaC (bv 0) (bpaC (bv 3) (bpaC (bv 4) zaf)))))
 (zah (zdr (zafs (znm (zcp (K:=K) rfl (bpeB (zmf (K:=K) rfl) T.isinstance zcj (bpaC (bv 6) (bpaC (zmp (v:=.ty "bool") (by rfl) T.bool zwe rfl (by decide) (by decide)) zaf))) (λ_=>rfl))) (zyj (zck (zkf (K:=K) rfl hr.units) (bv 6) (bv 5) (zdt _)))).pt (zak (zba zbz)) zbp)
 (zah (zdr (zyl (zcp (K:=K) rfl (bv 6) (λ_=>rfl)) (zaae (zcp (K:=K) rfl (bpeD D_nearer hr (bpaC (bv 0) (bpaC (bv 4) (bpaC (bv 3) zaf)))) (λ_=>rfl)))).pt (zak (zba zbz)) zbp)
 (zak (zcu qp rfl (zbq (K:=K) rfl (bv 2)) (bpgN (i:=7) zec rfl (Or.inl rfl))
  (zak (zdr (zyl (zcp (K:=K) rfl (bv 6) (λ_=>rfl)) (zyl (zcp (K:=K) rfl (bpeD D_nearer hr (bpaC (bv 0) (bpaC (bv 4) (bpaC (bv 7) zaf)))) (λ_=>rfl)) (zaae (znm (zcp (K:=K) rfl (bpeD D_nearer hr (bpaC (bv 0) (bpaC (bv 3) (bpaC (bv 7) zaf)))) (λ_=>rfl)))))).pt (zak (zba zbz)) zbp)) (by intro _;rfl))))))) (by intro _;rfl))) (by intro _;rfl))
 (zak (zba zbz)))
 exact fn_d (f:=zof) ((zaw (zfh (zeh (zac 2)) zch (zfh (zeh (zac 2)) zch (zaw (zax (zuy (zau zpk (zac 3) (zac 4)) (zay (zab (zac 1) (zab (zac 4) (zab (zac 3) zaj)))))) (zaw (zax (zay (zab (zac 0) (zab (zac 3) (zab (zac 4) zaj))))) (zaw (zld (zarm (zux (zka (zzt (zac 6) zzu))) (st_t (zau zpk (zac 6) (zac 5)))) (zcg (se_c λ_=>zam)) zeg) (zaw (zld (zaeu (zka (zac 6)) (zka (zay (zab (zac 0) (zab (zac 4) (zab (zac 3) zaj)))))) (zcg (se_c λ_=>zam)) zeg) (zfh (zeh (zac 2)) zch (zld (zaeu (zka (zac 6)) (zaeu (zka (zay (zab (zac 0) (zab (zac 4) (zab (zac 7) zaj))))) (zux (zka (zay (zab (zac 0) (zab (zac 3) (zab (zac 7) zaj)))))))) (zcg (se_c λ_=>zam)) zeg)))))))) (zcg (se_c λ_=>zam)))) h
theorem znw{f:Addr}{fd:qt}{cl:Str->Addr}(F:Fun K "check_kinds" "check_kinds" zjq f fd)(T:Txt mg)(D_names_of:znt P w K mg base)(X_NoKind:XcOk P w K mg base "NoKind" (cl "NoKind")):FnOk P w K mg base (CXE P w) 3 f fd ["web","names"] (spX cl 2 zdm):=by
 refine zaen F zns (λvs H Q E h=>zyg h) (λcdv A outer s H vs Q E hr h0k h=>?_)
 have hu:=zfn hr
 apply Exists.intro
 apply And.intro
 ·refine' Bx.out (zah (bpsS (i:=2) zga rfl (Or.inl rfl) (bpeD D_names_of hr (bpaC (bv 0) zaf)))
 (zak (zcu PassesOwn.leaving rfl (zbq (K:=K) rfl (bv 1)) (bpgN (i:=3) zga rfl (Or.inl rfl))
  (zak (zdr (zck (zpf (K:=K) rfl) (bv 3) (bv 2) (by rfl)) (zak (zvo (C:=cl "NoKind") X_NoKind (hr.mono (by decide)) rfl rfl (zalw h0k) (by rfl) (bv 3) (by decide) (by rfl))) zbp)) (by intro _;rfl))))
 exact fn_x (f:=zeo) ((zta (zvc (zax (zay (zab (zac 0) zaj)))) (zanz (zeh (zac 1)) zch (zalr (st_t (zau zaja (zac 3) (zac 2))) (zvd (zac 3)) (zvc zeg))))) h
theorem zacv{f:Addr}{fd:qt}{cl:Str->Addr}(F:Fun K "fits" "fits" zwq f fd)(T:Txt mg)(D_check_kinds__X:zgk P w K mg base cl)(D_fits_under:zkt P w K mg base)(D_names_in_call:zhn P w K mg base)(D_roofs_in_call:zho P w K mg base)(D_roofs_of:ziw P w K mg base)(X_NoCall:XcOk P w K mg base "NoCall" (cl "NoCall")):FnOk P w K mg base (CXE P w) 4 f fd ["web","kinds","call"] (spX cl 3 zex):=by
 refine zaen F zacq (λvs H Q E h=>zyg h) (λcdv A outer s H vs Q E hr h0k h=>?_)
 have hu:=zfn hr
 apply Exists.intro
 apply And.intro
 ·refine' Bx.out (zah (zdr (zck (zkf (K:=K) rfl hr.units) (bpeB (zbg (K:=K) rfl) T.len zbr (bpaC (bv 2) zaf)) (bpeB (zbg (K:=K) rfl) T.len zbr (bpaC (bv 1) zaf)) (zdt _)) (zak (zvo (C:=cl "NoCall") X_NoCall (hr.mono (by decide)) rfl rfl (zalw h0k) (by rfl) zyk (by decide) (by rfl))) zbp)
 (zah (zdf (zkj D_check_kinds__X (zaem h0k) (hr.mono (by decide)) (by rfl) (bpaC (bv 0) (bpaC (zat (zbh (K:=K) rfl) (bpeT (zdk (K:=K) rfl) T.list zep (bpaC (bv 1) zaf)) (bpeD D_names_in_call hr (bpaC (bv 2) zaf))) zaf)) (by decide) (zan (by rfl)) (by rfl)) (by rfl))
 (zak (zba (bpeD D_fits_under hr (bpaC (bv 1) (bpaC (bpeD D_roofs_in_call hr (bpaC (bpeD D_roofs_of hr (bpaC (bv 0) zaf)) (bpaC (bv 2) zaf))) zaf)))))))
 exact fn_x (f:=zsb) ((zta (zalr (st_t (zau zpk (zda zel (zab (zac 2) zaj)) (zda zel (zab (zac 1) zaj)))) (zvd (se_c λ_=>zgt)) (zvc zeg)) (zta (zaaa (zab (zac 0) (zab (zau zee (zda zia (zab (zac 1) zaj)) (zay (zab (zac 2) zaj))) zaj))) (zvc (zcg (zay (zab (zac 1) (zab (zay (zab (zay (zab (zac 0) zaj)) (zab (zac 2) zaj))) zaj)))))))) h
theorem zxe{f:Addr}{fd:qt}{cl:Str->Addr}(F:Fun K "nearer" "nearer" zqp f fd)(T:Txt mg)(D_check_kinds__X:zgk P w K mg base cl)(D_is_nearer:zly P w K mg base)(D_roofs_of:ziw P w K mg base):FnOk P w K mg base (CXE P w) 4 f fd ["web","one","other"] (spX cl 3 zey):=by
 refine zaen F zwt (λvs H Q E h=>zyg h) (λcdv A outer s H vs Q E hr h0k h=>?_)
 have hu:=zfn hr
 apply Exists.intro
 apply And.intro
 ·refine' Bx.out (zah (zdf (zkj D_check_kinds__X (zaem h0k) (hr.mono (by decide)) (by rfl) (bpaC (bv 0) (bpaC (zat (zbh (K:=K) rfl) (bpeT (zdk (K:=K) rfl) T.list zep (bpaC (bv 1) zaf)) (bpeT (zdk (K:=K) rfl) T.list zep (bpaC (bv 2) zaf))) zaf)) (by decide) (zan (by rfl)) (by rfl)) (by rfl))
 (zak (zba (zpt (zhx (zlf (K:=K) rfl hr.units) (bpeB (zbg (K:=K) rfl) T.len zbr (bpaC (bv 1) zaf)) (bpeB (zbg (K:=K) rfl) T.len zbr (bpaC (bv 2) zaf)) (zdt _)) (zps (bpeD D_is_nearer hr (bpaC (bpeD D_roofs_of hr (bpaC (bv 0) zaf)) (bpaC (bv 1) (bpaC (bv 2) zaf)))))))))
 exact fn_x (f:=zog) ((zta (zaaa (zab (zac 0) (zab (zau zee (zda zia (zab (zac 1) zaj)) (zda zia (zab (zac 2) zaj))) zaj))) (zvc (zcg (zuy (zau zrd (zda zel (zab (zac 1) zaj)) (zda zel (zab (zac 2) zaj))) (zay (zab (zay (zab (zac 0) zaj)) (zab (zac 1) (zab (zac 2) zaj))))))))) h
theorem zrj{f cT PT:Addr}{fd:qt}{cl:Str->Addr}(F:Fun K "_law_refused" "_law_refused" zed f fd)(T:Txt mg)(D_law_parts:zjm P w K mg base)(D_law_put:zwy P w K mg base)(D_law_told:zsk P w K mg base cl)(D_fits__X:zwz P w K mg base cl)(D_nearer__X:zqt P w K mg base cl)(hcd:fd.code=.ref cT)(HC:PySem.W.CodeHd base cT PT)(hbm:BM mg base):FnOk P w K mg base CX0 7 f fd ["_law_web_here","_law_kinds_here","_law_call_here","_law_cells","_law_odd"] (spDT PT (("_law_refused":Str)++".<locals>."++"<lambda>") 5 zcx):=by
 refine zase F zrg (λvs H Q E h=>zakh h) hcd (λA outer s H vs Q E hr h=>?_)
 have hu:=zfn hr
 apply Exists.intro
 apply And.intro
 ·refine' Bx.out (zah (bpsS (i:=5) zce rfl (Or.inl rfl) (zat zcl (bpeX (zdh (K:=K) rfl) (bv 3) zal) (bpeB (zbg (K:=K) rfl) T.len zbr (bpaC (bv 1) zaf))))
 (zah (bpsS (i:=6) zce rfl (Or.inr rfl) (zat zcl (bpeX (zdh (K:=K) rfl) (bv 3) zal) (bpeB (zbg (K:=K) rfl) T.len zbr (bpaC (bv 1) zaf))))
 (zah (bpsS (i:=7) zce rfl (Or.inl rfl) (bpeX (zdh (K:=K) rfl) (bv 4) zal))
 (zah (zdr (zck (zlf (K:=K) rfl hr.units) (zat zcl (bpeX (zdh (K:=K) rfl) (bv 3) zal) zal) zal (zdt _)) (zak (bpsS (i:=7) zce rfl (Or.inl rfl) (bpeT (zhe (K:=K) rfl) T.tuple zfs (bpaC (zat (zbh (K:=K) rfl) (bpeD D_law_parts hr (bpaC (bpeX (zdh (K:=K) rfl) (bv 2) (bv 6)) zaf)) (zfi (bpaC (bpeX (zdh (K:=K) rfl) (bv 4) zal) zaf))) zaf)))) zbp)
 (zah (bpsS (i:=8) zce rfl (Or.inr rfl) (bpeD D_law_put hr (bpaC (bv 2) (bpaC (bv 6) (bpaC (bv 7) zaf)))))
 (zah (bpsS (i:=9) zce rfl (Or.inr rfl) (bpeD D_law_put hr (bpaC (bv 1) (bpaC (bv 5) (bpaC (bpeX (zdh (K:=K) rfl) (bv 4) zal) zaf)))))
 (zah (bpsS (i:=10) zce rfl (Or.inr rfl) (zat (zbh (K:=K) rfl) (bv 8) (zfo (bpaC (bpeX (zdh (K:=K) rfl) (bv 4) zal) zaf))))
 (zah (zdr (zck (zkf (K:=K) rfl hr.units) (zik (NB:=["_law_web_here","_law_strange","_law_long"]) (js:=[0,9,10]) D_law_told (hr.mono (by decide)) (by rfl) rfl HC hbm ⟨rfl,rfl,rfl,by decide,by decide⟩ rfl (by intros;rfl) (by rfl) (by rfl) (λ_ _ _ _ _ _ _ _ hr h0k=>(zkj D_fits__X (znl h0k) (hr.mono (by decide)) (by rfl) (bpaC (bv 0) (bpaC (bv 1) (bpaC (bv 2) zaf))) (by decide) (zan (by rfl)) (by rfl))) (by decide) (zan (by rfl)) (by rfl)) (zfo (bpaC zbz (bpaC zbz (bpaC zbz (bpaC zyk zaf))))) (zdt _)) (zak (zba zbz)) zbp)
 (zah (zdr (zck (zkf (K:=K) rfl hr.units) (zik (NB:=["_law_web_here","_law_kinds_here","_law_call_here"]) (js:=[0,1,2]) D_law_told (hr.mono (by decide)) (by rfl) rfl HC hbm ⟨rfl,rfl,rfl,by decide,by decide⟩ rfl (by intros;rfl) (by rfl) (by rfl) (λ_ _ _ _ _ _ _ _ hr h0k=>(zkj D_fits__X (znl h0k) (hr.mono (by decide)) (by rfl) (bpaC (bv 0) (bpaC (bv 1) (bpaC (zca (sl_W (K:=K) rfl) (bv 2) (zbx zal) zer) zaf))) (by decide) (zan (by rfl)) (by rfl))) (by decide) (zan (by rfl)) (by rfl)) (zfo (bpaC zbz (bpaC zbz (bpaC zbz (bpaC zyk zaf))))) (zdt _)) (zak (zba zbz)) zbp)
 (zah (zdr (zck (zkf (K:=K) rfl hr.units) (zik (NB:=["_law_web_here","_law_worse","_law_strange"]) (js:=[0,8,9]) D_law_told (hr.mono (by decide)) (by rfl) rfl HC hbm ⟨rfl,rfl,rfl,by decide,by decide⟩ rfl (by intros;rfl) (by rfl) (by rfl) (λ_ _ _ _ _ _ _ _ hr h0k=>(zkj D_fits__X (znl h0k) (hr.mono (by decide)) (by rfl) (bpaC (bv 0) (bpaC (bv 2) (bpaC (bv 1) zaf))) (by decide) (zan (by rfl)) (by rfl))) (by decide) (zan (by rfl)) (by rfl)) (zfo (bpaC zbz (bpaC zbz (bpaC zbz (bpaC (bpeX (zdh (K:=K) rfl) (bv 4) zal) zaf))))) (zdt _)) (zak (zba zbz)) zbp)
 (zah (zdr (zck (zkf (K:=K) rfl hr.units) (zik (NB:=["_law_web_here","_law_kinds_here","_law_worse"]) (js:=[0,1,8]) D_law_told (hr.mono (by decide)) (by rfl) rfl HC hbm ⟨rfl,rfl,rfl,by decide,by decide⟩ rfl (by intros;rfl) (by rfl) (by rfl) (λ_ _ _ _ _ _ _ _ hr h0k=>(zkj D_fits__X (znl h0k) (hr.mono (by decide)) (by rfl) (bpaC (bv 0) (bpaC (bv 1) (bpaC (bv 2) zaf))) (by decide) (zan (by rfl)) (by rfl))) (by decide) (zan (by rfl)) (by rfl)) (zfo (bpaC zbz (bpaC zbz (bpaC zbz (bpaC (bpeX (zdh (K:=K) rfl) (bv 4) zal) zaf))))) (zdt _)) (zak (zba zbz)) zbp)
 (zah (zdr (zck (zkf (K:=K) rfl hr.units) (zik (NB:=["_law_web_here","_law_kinds_here","_law_strange"]) (js:=[0,1,9]) D_law_told (hr.mono (by decide)) (by rfl) rfl HC hbm ⟨rfl,rfl,rfl,by decide,by decide⟩ rfl (by intros;rfl) (by rfl) (by rfl) (λ_ _ _ _ _ _ _ _ hr h0k=>(zkj D_nearer__X (znl h0k) (hr.mono (by decide)) (by rfl) (bpaC (bv 0) (bpaC (bv 1) (bpaC (bv 2) zaf))) (by decide) (zan (by rfl)) (by rfl))) (by decide) (zan (by rfl)) (by rfl)) (zfo (bpaC zbz (bpaC zbz (bpaC zbz (bpaC (bpeX (zdh (K:=K) rfl) (bv 4) zal) zaf))))) (zdt _)) (zak (zba zbz)) zbp)
 (zak (zba (zhx (zlf (K:=K) rfl hr.units) (zik (NB:=["_law_web_here","_law_kinds_here","_law_odd","_law_by","_law_strange"]) (js:=[0,1,4,6,9]) D_law_told (hr.mono (by decide)) (by rfl) rfl HC hbm ⟨rfl,rfl,rfl,by decide,by decide⟩ rfl (by intros;rfl) (by rfl) (by rfl) (λ_ _ _ _ _ _ _ _ hr h0k=>(zkj D_nearer__X (znl h0k) (hr.mono (by decide)) (by rfl) (bpaC (bv 0) (bpaC (bpeD D_law_put hr (bpaC (bv 1) (bpaC (bv 3) (bpaC (bpeX (zdh (K:=K) rfl) (bv 2) zal) zaf)))) (bpaC (bv 4) zaf))) (by decide) (zan (by rfl)) (by rfl))) (by decide) (zan (by rfl)) (by rfl)) (zfo (bpaC zbz (bpaC zbz (bpaC zbz (bpaC (bpeX (zdh (K:=K) rfl) (bv 4) zal) zaf))))) (zdt _))))))))))))))))
 exact zaty (f:=zir) ((zby (zcd (zax (zau zdd (zbw (se_c λ_=>zae)) (zda zel (zab (zac 1) zaj))))) (zby (zcd (zax (zau zdd (zbw (se_c λ_=>zae)) (zda zel (zab (zac 1) zaj))))) (zby (zcd (zax (zbw (se_c λ_=>zae)))) (zby (zcd (zld (st_t (zau zrd (zau zdd (zbw (se_c λ_=>zae)) (se_c λ_=>zae)) (se_c λ_=>zae))) (zax (zda zmj (zab (zau zee (zay (zab (zbw (zac 6)) zaj)) (zht (zab (zbw (se_c λ_=>zae)) zaj))) zaj))) zeg)) (zby (zcd (zax (zay (zab (zac 2) (zab (zac 6) (zab (zac 7) zaj)))))) (zby (zcd (zax (zay (zab (zac 1) (zab (zac 5) (zab (zbw (se_c λ_=>zae)) zaj)))))) (zby (zcd (zax (zau zee (zac 8) (zjo (zab (zbw (se_c λ_=>zae)) zaj))))) (zby (zrv (zaga (zru zpk (zij (cl:=cl) (zab (zac 0) (zab (zac 1) (zab (zac 2) zaj)))) (zrt (zjo (zab (se_c λ_=>zam) (zab (se_c λ_=>zam) (zab (se_c λ_=>zam) (zab (se_c λ_=>zgt) zaj)))))))) (zcd (zcg (se_c λ_=>zam))) (zcd zeg)) (zby (zrv (zaga (zru zpk (zij (cl:=cl) (zab (zac 0) (zab (zac 1) (zab (zafy (zac 2) (zct (se_c λ_=>zae)) zgj) zaj)))) (zrt (zjo (zab (se_c λ_=>zam) (zab (se_c λ_=>zam) (zab (se_c λ_=>zam) (zab (se_c λ_=>zgt) zaj)))))))) (zcd (zcg (se_c λ_=>zam))) (zcd zeg)) (zby (zrv (zaga (zru zpk (zij (cl:=cl) (zab (zac 0) (zab (zac 2) (zab (zac 1) zaj)))) (zrt (zjo (zab (se_c λ_=>zam) (zab (se_c λ_=>zam) (zab (se_c λ_=>zam) (zab (zbw (se_c λ_=>zae)) zaj)))))))) (zcd (zcg (se_c λ_=>zam))) (zcd zeg)) (zby (zrv (zaga (zru zpk (zij (cl:=cl) (zab (zac 0) (zab (zac 1) (zab (zac 2) zaj)))) (zrt (zjo (zab (se_c λ_=>zam) (zab (se_c λ_=>zam) (zab (se_c λ_=>zam) (zab (zbw (se_c λ_=>zae)) zaj)))))))) (zcd (zcg (se_c λ_=>zam))) (zcd zeg)) (zby (zrv (zaga (zru zpk (zij (cl:=cl) (zab (zac 0) (zab (zac 1) (zab (zac 2) zaj)))) (zrt (zjo (zab (se_c λ_=>zam) (zab (se_c λ_=>zam) (zab (se_c λ_=>zam) (zab (zbw (se_c λ_=>zae)) zaj)))))))) (zcd (zcg (se_c λ_=>zam))) (zcd zeg)) (zaos (zru zrd (zij (cl:=cl) (zab (zac 0) (zab (zay (zab (zac 1) (zab (zac 3) (zab (zbw (se_c λ_=>zae)) zaj)))) (zab (zac 4) zaj)))) (zrt (zjo (zab (se_c λ_=>zam) (zab (se_c λ_=>zam) (zab (se_c λ_=>zam) (zab (zbw (se_c λ_=>zae)) zaj))))))))))))))))))))) h
end
inductive Arm where
 | one (n:Str)
 | many (ns:List Str)
noncomputable def Arm.parts:Arm->List Str
 | .one n=>[n]
 | .many ns=>ns
noncomputable def armD:Arm->PyData
 | .one n=>.str n
 | .many ns=>.tuple (ns.map .str)
noncomputable def zbc(c:List Arm):PyData:=.tuple (c.map armD)
noncomputable def zag(ks:List Str):PyData:=.tuple (ks.map .str)
theorem zeq(a:Arm):zbf [armD a]=some (zad a.parts,true):=by
 cases a with
 | one n=>rfl
 | many ns=>rfl
theorem zqu{c:List Arm}(hc:c.length<300)(ha:∀a∈c,a.parts.length<300):zci [zbc c]=some (zad (c.flatMap Arm.parts),true):=by
 have k:zkh (gN 0) zfd (zav (zas 1 zbf (zaa (eVar 0) aNil))) (gN 1) zfd (eVar 1) [.no,.no] (c.map armD)=some (c.flatMap λa=>a.parts.map .str):=by
  refine zqh λa hm=>⟨[.pl (armD a),.no],rfl,rfl,?_⟩
  have e:zav (zas 1 zbf (zaa (eVar 0) aNil)) [.pl (armD a),.no]=some (a.parts.map .str,[]):=by
   unfold zav
   rw[zbj (n:=1) (rs:=[⟨armD a,false,[]⟩]) rfl rfl (zeq a)]
   rfl
  unfold innL
  rw[e]
  show(if(a.parts.map PyData.str).length<300 then zfc (gN 1) zfd (eVar 1) [.pl (armD a),.no] (a.parts.map .str)else none)=_
  rw[if_pos (by rw[qF];exact ha a hm)]
  exact zem λx _=>⟨[.pl (armD a),.pl (.str x)],rfl,rfl,vs x,rfl,rfl⟩
 have fl:(c.flatMap λa=>a.parts.map PyData.str)=(c.flatMap Arm.parts).map .str:=by
  rw[List.map_flatMap]
 rw[fl]at k
 exact zio (env:=[.pl (zbc c)]) rfl (zjp (zakp (own:=["arm","name"]) (fr:=[]) (fi:=zav (eVar 0)) (ds:=c.map armD) (bs:=[]) rfl (by rw[qF];exact hc) k))
noncomputable def upA(W:Web)(a:Arm):List Str:=a.parts.foldl (λks n=>(up W n).foldl insS ks) []
theorem zza{W:Web}{a:Arm}{x:Str}:x∈upA W a↔∃n∈a.parts,x∈up W n:=by
 unfold upA
 have:∀(l ks:List Str),x∈l.foldl (λks n=>(up W n).foldl insS ks) ks↔x∈ks\/∃n∈l,x∈up W n:=by
  intro l
  induction l with
  | nil=>intro ks;simp
  | cons n l ih=>intro ks;rw[qBb,ih,zms];simp[or_assoc]
 rw[this];simp
theorem zacw{W:Web}(h:WebOk W){a:Arm}(hk:∀n∈a.parts,n∈nm W):zkn [.dict (dS zbk (ups W)),armD a]=some (zbk (upA W a),true):=by
 have nd:∀(l ks:List Str),ks.Nodup->(∀x∈ks,x∈nm W)->(l.foldl (λks n=>(up W n).foldl insS ks) ks).Nodup/\∀x∈l.foldl (λks n=>(up W n).foldl insS ks) ks,x∈nm W:=by
  intro l
  induction l with
  | nil=>intro ks h1 h2;exact⟨h1,h2⟩
  | cons n l ih=>
   intro ks h1 h2
   refine ih _ (ztk h1) λx hx=>?_
   rcases zms.mp hx with z|z
   ·exact h2 x z
   ·exact zvt h z
 obtain⟨env',lp,s3,rfl⟩:=zcv (enc:=PyData.str) (g:=gN 3) (body:=sUpd 2 (zcc 0 (eVar 3))) (l:=a.parts) (env:=[.pl (.dict (dS zbk (ups W))),.pl (armD a),.ac (zbk []),.no])
  (λpre env=>∃s3,env=[.pl (.dict (dS zbk (ups W))),.pl (armD a),.ac (zbk (pre.foldl (λks n=>(up W n).foldl insS ks) [])),s3]) ⟨_,rfl⟩ (by
   rintro pre n post env hp ⟨s3,rfl⟩
   have hn:n∈nm W:=hk n (by rw[<- hp];simp)
   refine⟨[.pl (.dict (dS zbk (ups W))),.pl (armD a),.ac (zbk (pre.foldl (λks n=>(up W n).foldl insS ks) [])),.pl (.str n)],[.pl (.dict (dS zbk (ups W))),.pl (armD a),.ac (zbk ((pre++[n]).foldl (λks n=>(up W n).foldl insS ks) [])),.pl (.str n)],rfl,.inl ?_,_,rfl⟩
   ·have l1:=zagf h n
    obtain⟨n1,n2⟩:=nd pre [] qCn (by simp)
    have l2:=zjx _ _ n1 n2
    have l3:=zrp h
    have lz:(zhq (pre.foldl (λks n=>(up W n).foldl insS ks) [])).length+(zhq (up W n)).length<=100000:=by unfold zhq;rw[qF,qF];omega
    simp only[sUpd,zbk,zcc,eVar,qAE,qAD,qE,keyD,zlu,zkz hn,qAi]
    rw[if_pos ⟨lz,by simp⟩,zlv,qBz]
    simp[frzs])
 exact zio (env:=[.pl (.dict (dS zbk (ups W))),.pl (armD a),.no,.no]) rfl (zap rfl (zap (for_list (zbj (n:=1) (rs:=[⟨armD a,false,[]⟩]) rfl rfl (zeq a)) lp) rfl))
theorem zqv{W:Web}(h:WebOk W){c:List Arm}(hc:c.length<300)(hk:∀a∈c,∀n∈a.parts,n∈nm W):zcw [.dict (dS zbk (ups W)),zbc c]=some (.list (c.map λa=>zbk (upA W a)),true):=by
 have k:zfc (gN 0) zfd (zas 2 zkn (zaa (eVar 1) (zaa (eVar 0) aNil))) [.no,.pl (.dict (dS zbk (ups W)))] (c.map armD)=some (c.map λa=>zbk (upA W a)):=
  zem λa hm=>⟨[.pl (armD a),.pl (.dict (dS zbk (ups W)))],rfl,rfl,_,zbj (n:=2) (rs:=[⟨.dict (dS zbk (ups W)),false,[]⟩,⟨armD a,false,[]⟩]) rfl rfl (zacw h (hk a hm)),rfl⟩
 exact zio (env:=[.pl (.dict (dS zbk (ups W))),.pl (zbc c)]) rfl (zjp (zkl (own:=["arm"]) (fr:=[0]) (fi:=zav (eVar 1)) (ds:=c.map armD) (bs:=[]) rfl (by rw[qF];omega) k))
theorem zaay{α β:Type}(f:α->PyData)(g:β->PyData)(l:List α)(r:List β):List.zipWith (λd e=>PyData.tuple [d,e]) (l.map f) (r.map g)=(l.zip r).map λz=>PyData.tuple [f z.1,g z.2]:=by
 induction l generalizing r with
 | nil=>rfl
 | cons a l ih=>cases r with
  | nil=>rfl
  | cons b r=>rw[qd,qd,List.zipWith_cons_cons,ih,qA4,qd]
noncomputable def fitB(W:Web)(ks:List Str)(c:List Arm):Bool:=(ks.zip c).all λz=>decide (z.1∈upA W z.2)
theorem zxf{W:Web}{ks:List Str}{c:List Arm}(hc:c.length<300):zew [zag ks,.list (c.map λa=>zbk (upA W a))]=some (.bool (fitB W ks c),false):=by
 have it:zace (zaa (eVar 0) (zaa (eVar 1) aNil)) [.pl (zag ks),.pl (.list (c.map λa=>zbk (upA W a)))]=some ((ks.zip c).map λz=>PyData.tuple [.str z.1,zbk (upA W z.2)],[]):=by
  show some (List.zipWith (λd e=>PyData.tuple [d,e]) (ks.map .str) (c.map λa=>zbk (upA W a)),[]++[])=_
  rw[zaay];rfl
 have k:zfc (gT 2 (zbu 0 (zbu 1 zja))) zfd (eDIn false (eVar 0) (eVar 1)) [.no,.no] ((ks.zip c).map λz=>PyData.tuple [.str z.1,zbk (upA W z.2)])=some ((ks.zip c).map λz=>.bool (decide (z.1∈upA W z.2))):=
  zem λz _=>⟨[.pl (.str z.1),.pl (zbk (upA W z.2))],rfl,rfl,vb (decide (z.1∈upA W z.2)),zamg (neg:=false) (fr:=false) (bs:=[]) rfl rfl,rfl⟩
 have lz:(ks.zip c).length<=c.length:=by rw[List.length_zip];exact Nat.min_le_right _ _
 exact zio (env:=[.pl (zag ks),.pl (.list (c.map λa=>zbk (upA W a)))]) rfl (zjp (bs:=[]) (zasl (zkl (own:=["kind","roof"]) (fr:=[]) it (by rw[qF];omega) k)))
noncomputable def zbv(W:Web)(ks ls:List Str):Bool:=!(ks==ls)&&(ks.zip ls).all λz=>decide (z.2∈up W z.1)
theorem zaaz:∀(a b:List Str),PyData.eqvAll (a.map .str) (b.map .str)=(a==b)
 | [],[]=>rfl
 | [],_::_=>rfl
 | _::_,[]=>rfl
 | x::a,y::b=>by
  show(qAx (.str x) (.str y)&&PyData.eqvAll (a.map .str) (b.map .str))=_
  rw[zaaz a b]
  show((x==y)&&(a==b))=_
  rfl
noncomputable def LowS(ks:List Str):Prop:=∀k∈ks,qAe k=true
theorem zok{ks:List Str}(h:LowS ks):qAb (zag ks)=true:=by
 obtain⟨h1,h2⟩:=ztp ks h
 unfold qAb zag
 rw[qx]
 refine⟨h1,decide_eq_true ?_⟩
 show qAp (ks.map .str)+1<=64
 omega
theorem zaba{ks ls:List Str}(h1:LowS ks)(h2:LowS ls):neD (zag ks) (zag ls)=some (.bool (!(ks==ls)),false):=by
 unfold neD eqOk
 rw[zok h1,zok h2,qCJ,qAk,if_pos rfl]
 show some (PyData.bool (!PyData.eqvAll (ks.map .str) (ls.map .str)),false)=_
 rw[zaaz]
theorem zzb{W:Web}(h:WebOk W){ks ls:List Str}(h1:LowS ks)(h2:LowS ls)(hk:∀k∈ks,k∈nm W)(hl:ks.length<300):zfr [.dict (dS zbk (ups W)),zag ks,zag ls]=some (.bool (zbv W ks ls),false):=by
 have it:zace (zaa (eVar 1) (zaa (eVar 2) aNil)) [.pl (.dict (dS zbk (ups W))),.pl (zag ks),.pl (zag ls)]=some ((ks.zip ls).map λz=>PyData.tuple [.str z.1,.str z.2],[]):=by
  show some (List.zipWith (λd e=>PyData.tuple [d,e]) (ks.map .str) (ls.map .str),[]++[])=_
  rw[zaay];rfl
 have k:zfc (gT 2 (zbu 0 (zbu 1 zja))) zfd (eDIn false (eVar 1) (zcc 2 (eVar 0))) [.no,.no,.pl (.dict (dS zbk (ups W)))] ((ks.zip ls).map λz=>PyData.tuple [.str z.1,.str z.2])=some ((ks.zip ls).map λz=>.bool (decide (z.2∈up W z.1))):=
  zem λz hz=>⟨[.pl (.str z.1),.pl (.str z.2),.pl (.dict (dS zbk (ups W)))],rfl,rfl,vb (decide (z.2∈up W z.1)),zamg (neg:=false) (fr:=false) (bs:=[]) rfl (zagt (d:=zbk (up W z.1)) (.inl rfl) rfl (by rw[zlu,zkz (hk z.1 (qA9 hz).1)];rfl)),rfl⟩
 have lz:(ks.zip ls).length<=ks.length:=by rw[List.length_zip];exact Nat.min_le_left _ _
 have e1:eOp neD (eVar 1) (eVar 2) [.pl (.dict (dS zbk (ups W))),.pl (zag ks),.pl (zag ls)]=some (vb (!(ks==ls))):=by
  show((neD (zag ks) (zag ls)).bind λz=>some (⟨z.1,z.2,bsOf z.1 ([]++[])⟩:Val))=_
  rw[zaba h1 h2];rfl
 have e2:=zasl (f:=λz:Str×Str=>decide (z.2∈up W z.1)) (zkl (own:=["low","high"]) (fr:=[0]) it (by rw[qF];omega) k)
 refine zio (env:=[.pl (.dict (dS zbk (ups W))),.pl (zag ks),.pl (zag ls)]) rfl (zjp (bs:=[]) ?_)
 unfold eAnd
 rw[e1,qE]
 unfold zbv
 cases ks==ls with
 | true=>rfl
 | false=>exact e2
structure CallOk(W:Web)(c:List Arm):Prop where
 len:c.length<300
 few:∀a∈c,a.parts.length<300
 kinds:∀a∈c,∀n∈a.parts,n∈nm W
theorem zaua{α:Type}{f:α->Bool}{l:List α}{a:EF}{env:DEnv}{fr:Bool}{bs:List Nat}(ha:a env=some ⟨.list (l.map λx=>.bool (f x)),fr,bs⟩):eCB (anyD λbs=>bs.any id) (zaa a aNil) env=some (vb (l.any f)):=by
 unfold eCB
 rw[zen ha,qE]
 show((zpl (l.map λx=>.bool (f x))).map _).bind _=_
 rw[zqg]
 simp only[qAi,qE,qCO]
 rfl
noncomputable def Two(x:Str):Prop:=∃a b,∀c∈x.cps.toList,c=a\/c=b
theorem zqw{x:Str}{l u:Option Int}{c:Nat}(h:c∈(Txt.slice x l u).cps.toList):c∈x.cps.toList:=by
 unfold Txt.slice at h
 split at h
 ·exact h
 ·have h:c∈(List.filterMap (x.cps[·]?) (Builtin.Str.strSliceIndices l u 1 x.length)):=by simpa using h
  obtain⟨i,_,e⟩:=qBY.mp h
  have:=qC3 e
  simpa using this
theorem zxg{a b:EF}{env:DEnv}{x y:List Str}{f1 f2:Bool}{b1 b2:List Nat}(ha:a env=some ⟨zad x,f1,b1⟩)(hb:b env=some ⟨zad y,f2,b2⟩)(h:x.length+y.length<=100000):eOp addD a b env=some ⟨zad (x++y),true,b1++b2⟩:=by
 unfold eOp
 rw[ha,hb]
 show((if(x.map PyData.str).length+(y.map PyData.str).length<=100000 then some (PyData.list (x.map .str++y.map .str),true)else none).bind λz=>some (⟨z.1,z.2,bsOf z.1 (b1++b2)⟩:Val))=_
 rw[if_pos (by rw[qF,qF];exact h),<- qAG]
 rfl
theorem zahe{a:EF}{l h:PF'}{env:DEnv}{x y:List Str}{f:Bool}{bs:List Nat}{lo hi:Option Int}(ha:a env=some ⟨zad x,f,bs⟩)(hl:l env=some lo)(hh:h env=some hi)(e:cutD (x.map .str) lo hi=y.map .str):eSl a l h env=some ⟨zad y,true,bs⟩:=by
 unfold eSl
 rw[ha,hl,hh]
 show(some (PyData.list (cutD (x.map .str) lo hi),true)).bind (λz=>some (⟨z.1,z.2,bsOf z.1 bs⟩:Val))=_
 rw[e]
 rfl
theorem zahf{md o st at_:Int}{stem:Str}(h:∃a,∀x∈stem.cps.toList,x=a)(hst:0<=st)(k:Nat):Two (zjj md o st stem at_ k):=by
 obtain⟨a,ha⟩:=h
 have l1:∀(z:Int)(x:Nat),x∈(ltr z).cps.toList->x=97+z.toNat:=λz x hx=>by unfold ltr at hx;simpa using hx
 unfold zjj
 split
 ·refine⟨a,97+((o+st * k) % 26).toNat,λx hx=>?_⟩
  rw[zji,zji]at hx
  rcases qX.mp hx with hx|hx
  ·rcases qX.mp hx with hx|hx
   ·exact .inl (ha x (zqw hx))
   ·exact .inr (l1 _ x hx)
  ·exact .inl (ha x (zqw hx))
 ·split
  ·refine⟨a,97+((o+st * k) % 26).toNat,λx hx=>?_⟩
   rw[zji]at hx
   rcases qX.mp hx with hx|hx
   ·exact .inl (ha x (zqw hx))
   ·exact .inr (l1 _ x hx)
  ·refine⟨97+((o+(k:Int) / 8) % 26).toNat,0,λx hx=>.inl ?_⟩
   unfold ltr at hx
   have:=qAC ((k:Int) * st) (show(8:Int)≠0 by decide)
   rw[zmt (by omega)]at hx
   exact qBT hx
noncomputable def zdq:List Str:=["none","rule","quarrel","near","far","out"]
theorem znx{x:Str}{a b c:Nat}(h1:a∈x.cps.toList)(h2:b∈x.cps.toList)(h3:c∈x.cps.toList)(n1:a≠b)(n2:a≠c)(n3:b≠c):¬Two x:=by
 rintro⟨p,q,h⟩
 have:=h a h1
 have:=h b h2
 have:=h c h3
 omega
theorem zacx:∀x∈zdq,¬Two x:=by
 intro x hx
 unfold zdq at hx
 simp only[qc,qAu,or_false]at hx
 rcases hx with rfl|rfl|rfl|rfl|rfl|rfl
 ·exact znx (a:=110) (b:=111) (c:=101) (by decide +kernel) (by decide +kernel) (by decide +kernel) (by decide) (by decide) (by decide)
 ·exact znx (a:=114) (b:=117) (c:=108) (by decide +kernel) (by decide +kernel) (by decide +kernel) (by decide) (by decide) (by decide)
 ·exact znx (a:=113) (b:=117) (c:=97) (by decide +kernel) (by decide +kernel) (by decide +kernel) (by decide) (by decide) (by decide)
 ·exact znx (a:=110) (b:=101) (c:=97) (by decide +kernel) (by decide +kernel) (by decide +kernel) (by decide) (by decide) (by decide)
 ·exact znx (a:=102) (b:=97) (c:=114) (by decide +kernel) (by decide +kernel) (by decide +kernel) (by decide) (by decide) (by decide)
 ·exact znx (a:=111) (b:=117) (c:=116) (by decide +kernel) (by decide +kernel) (by decide +kernel) (by decide) (by decide) (by decide)
theorem zaks:zdq.Nodup:=by decide +kernel
theorem zahg:∀x∈zdq,Low x:=by
 intro x hx
 unfold zdq at hx
 simp only[qc,qAu,or_false]at hx
 unfold Low
 rcases hx with rfl|rfl|rfl|rfl|rfl|rfl<;>decide +kernel
theorem ztw(ds:List PyData)(k:Nat):cutD ds (some (k:Int)) none=ds.drop k:=by
 unfold cutD
 have e1:HT.sIx ds.length ds.length none=ds.length:=rfl
 rw[e1,HT.sIx_nat]
 rcases Nat.le_total k ds.length with h|h
 ·rw[Nat.min_eq_left h,qC0 (by rw[qAP];exact qL _)]
 ·rw[Nat.min_eq_right h,qBP,List.drop_of_length_le h,List.take_nil]
theorem zahh:∀x∈zdq,x.length<=20:=by decide +kernel
theorem ztx{m c:Int}(m0:0<=m)(m16:m<=16)(c0:0<=c):∃xs:List Str,zdu [.int m,.int c]=some (zad xs,true)/\xs.length=m.toNat/\xs.Nodup/\∀x∈xs,Low x/\x.length<=20:=by
 have md:∀(z j:Int),0<j->0<=z % j/\z % j<j:=λz j hj=>⟨qAC z (by omega),qAF z hj⟩
 have i8:=md (c / 3) 8 (by decide)
 obtain⟨st,hst,hmem⟩:=zapf i8.1 i8.2
 have st0:0<=st/\st<100:=by
  simp only[qc,qB2,or_false]at hmem
  rcases hmem with rfl|rfl|rfl|rfl|rfl|rfl|rfl|rfl<;>decide
 have o26:=md (c / 24) 26 (by decide)
 have j26:=md (c / 624) 26 (by decide)
 have n8:=md (c / 16224) 8 (by decide)
 have lowS:Low (Txt.mul (ltr (c / 624 % 26)) (c / 16224 % 8)):=Low.mul (by omega) n8.1
 have lenS:(Txt.mul (ltr (c / 624 % 26)) (c / 16224 % 8)).length<=7:=by unfold ltr;rw[zagj n8.1];omega
 have s3:sSet 3 (eOp ixD (eTup (zaa (eC (.int 1)) (zaa (eC (.int 3)) (zaa (eC (.int 5)) (zaa (eC (.int 7)) (zaa (eC (.int 9)) (zaa (eC (.int 11)) (zaa (eC (.int 15)) (zaa (eC (.int 17)) aNil))))))))) (eOp modD (eOp zdp (eVar 1) (eC (.int 3))) (eC (.int 8)))) [.pl (.int m),.pl (.int c),.pl (.str abc),.no,.no,.no,.no,.no,.no,.no,.no,.no]=some (.nx [.pl (.int m),.pl (.int c),.pl (.str abc),.pl (.int st),.no,.no,.no,.no,.no,.no,.no,.no]):=by
  refine zbs (r:=vi st) ?_
  unfold eOp
  show((some (⟨.tuple [PyData.int 1,.int 3,.int 5,.int 7,.int 9,.int 11,.int 15,.int 17],false,[]⟩:Val)).bind λx=>((some (vi (c / 3 % 8))).bind λy=>(ixD x.d y.d).bind λz=>some (⟨z.1,z.2,bsOf z.1 (x.bs++y.bs)⟩:Val)))=_
  simp only[qE,ixD]
  rw[hst];rfl
 have s5:sSet 5 (eOp mulD (eIxV 2 (eOp modD (eOp zdp (eVar 1) (eC (.int 624))) (eC (.int 26)))) (eOp modD (eOp zdp (eVar 1) (eC (.int 16224))) (eC (.int 8)))) [.pl (.int m),.pl (.int c),.pl (.str abc),.pl (.int st),.pl (.int (c / 24 % 26)),.no,.no,.no,.no,.no,.no,.no] =
   some (.nx [.pl (.int m),.pl (.int c),.pl (.str abc),.pl (.int st),.pl (.int (c / 24 % 26)),.pl (.str (Txt.mul (ltr (c / 624 % 26)) (c / 16224 % 8))),.no,.no,.no,.no,.no,.no]):=
  zbs (r:=vs _) (zame (zape rfl rfl j26.1 j26.2) rfl ⟨by show 1<=1000;decide,by omega,by omega⟩)
 have oneS:∃a,∀x∈(Txt.mul (ltr (c / 624 % 26)) (c / 16224 % 8)).cps.toList,x=a:=⟨_,λx hx=>by
  unfold ltr at hx
  rw[zmt n8.1]at hx
  exact qBT hx⟩
 generalize hO:c / 24 % 26=o at o26 s5
 generalize Txt.mul (ltr (c / 624 % 26)) (c / 16224 % 8)=stem at lowS lenS s5 oneS
 clear j26 n8 i8
 have s6:∃at_:Int,sSet 6 (eOp modD (eOp zdp (eVar 1) (eC (.int 129792))) (eOp addD (eCB lenD (zaa (eVar 5) aNil)) (eC (.int 1)))) [.pl (.int m),.pl (.int c),.pl (.str abc),.pl (.int st),.pl (.int o),.pl (.str stem),.no,.no,.no,.no,.no,.no]=some (.nx [.pl (.int m),.pl (.int c),.pl (.str abc),.pl (.int st),.pl (.int o),.pl (.str stem),.pl (.int at_),.no,.no,.no,.no,.no]):=
  ⟨_,zbs (r:=vi _) (zgs rfl (ztm (zamf rfl (by omega)) rfl) (by omega))⟩
 obtain⟨at_,s6⟩:=s6
 have loop:∃env',forL (gN 8) (sSeq (sSet 9 (eIxV 2 (eOp modD (eOp addD (eVar 4) (eOp mulD (eVar 3) (eVar 8))) (eC (.int 26)))))
  (sIf (zbt (eOp eqD (eOp modD (eVar 1) (eC (.int 3))) (eC (.int 0)))) (sApp 7 (eOp addD (eOp addD (eSl (eVar 5) zdy (zbo (eVar 6))) (eVar 9)) (eSl (eVar 5) (zbo (eVar 6)) zdy))) (sIf (zbt (eOp eqD (eOp modD (eVar 1) (eC (.int 3))) (eC (.int 1)))) (sApp 7 (eOp addD (eSl (eVar 5) zdy (zbo (eOp modD (eOp mulD (eVar 8) (eVar 3)) (eOp addD (eCB lenD (zaa (eVar 5) aNil)) (eC (.int 1)))))) (eVar 9))) (sApp 7 (eOp mulD (eIxV 2 (eOp modD (eOp addD (eVar 4) (eOp zdp (eVar 8) (eC (.int 8)))) (eC (.int 26)))) (eOp addD (eC (.int 1)) (eOp modD (eOp mulD (eVar 8) (eVar 3)) (eC (.int 8)))))))))
   ((List.range m.toNat).map λ(k:Nat)=>PyData.int (k:Int)) [.pl (.int m),.pl (.int c),.pl (.str abc),.pl (.int st),.pl (.int o),.pl (.str stem),.pl (.int at_),.ac (.list []),.no,.no,.no,.no]=some (.nx env')/\
   ∃s8 s9,env'=[.pl (.int m),.pl (.int c),.pl (.str abc),.pl (.int st),.pl (.int o),.pl (.str stem),.pl (.int at_),.ac (zad ((List.range m.toNat).map (zjj (c % 3) o st stem at_))),s8,s9,.no,.no]:=by
  refine zcv (λpre env=>∃s8 s9,env=[.pl (.int m),.pl (.int c),.pl (.str abc),.pl (.int st),.pl (.int o),.pl (.str stem),.pl (.int at_),.ac (zad (pre.map (zjj (c % 3) o st stem at_))),s8,s9,.no,.no]) ⟨_,_,rfl⟩ ?_
  rintro pre k post env hk ⟨s8,s9,rfl⟩
  have hkm:k<m.toNat:=qAq.mp (by rw[<- hk];simp)
  have hpl:pre.length<100:=by
   have:=congrArg List.length hk
   simp at this
   omega
  have b1:0<=st * (k:Int):=qCw st0.1 (Int.natCast_nonneg _)
  have s26:=md (o+st * (k:Int)) 26 (by decide)
  have sl:∀a b,(Txt.slice stem a b).length<=7:=λa b=>qAM (Txt.slice_le stem a b) lenS
  have lz:stem.length<=100000:=qAM lenS (by decide)
  have l1:(ltr ((o+st * (k:Int)) % 26)).length=1:=rfl
  refine⟨_,[.pl (.int m),.pl (.int c),.pl (.str abc),.pl (.int st),.pl (.int o),.pl (.str stem),.pl (.int at_),.ac (zad ((pre++[k]).map (zjj (c % 3) o st stem at_))),.pl (.int (k:Int)),.pl (.str (ltr ((o+st * (k:Int)) % 26))),.no,.no],rfl,.inl ?_,_,_,rfl⟩
  refine zap (zbs (r:=vs _) (zape rfl (zgs (ztm rfl (zapa rfl rfl (.inl ⟨by omega,by omega⟩))) rfl (by decide)) s26.1 s26.2)) ?_
  have fin:∀x:Str,x=zjj (c % 3) o st stem at_ k->(PyData.list ((pre.map (zjj (c % 3) o st stem at_)).map PyData.str++[.str x]))=zad ((pre++[k]).map (zjj (c % 3) o st stem at_)):=λx e=>by
   unfold zad
   rw[qAG,qAG,e];rfl
  have lp:((pre.map (zjj (c % 3) o st stem at_)).map PyData.str).length<100000:=by rw[qF,qF];exact qDC hpl (by decide)
  by_cases h0:c % 3=0
  ·refine if_t (ziq (by rw[zvy (zgs rfl rfl (by decide)) rfl];rw[h0];rfl)) ?_
   have z1:=sl none (some at_)
   have z2:=sl (some at_) none
   refine(zvz rfl (zagp (zagp (zapb rfl rfl (zli rfl) lz) rfl (by omega)) (zapb rfl (zli rfl) rfl lz) (by rw[ztn];omega)) lp).trans ?_
   rw[fin _ (by unfold zjj;rw[if_pos h0])];rfl
  ·refine if_f (ziq (by rw[zvy (zgs rfl rfl (by decide)) rfl];rw[beq_eq_false_iff_ne.mpr h0])) ?_
   by_cases h1:c % 3=1
   ·refine if_t (ziq (by rw[zvy (zgs rfl rfl (by decide)) rfl];rw[h1];rfl)) ?_
    have z1:=sl none (some ((k:Int) * st % ((stem.length:Int)+1)))
    refine(zvz rfl (zagp (zapb rfl rfl (zli (zgs (zapa rfl rfl (.inr ⟨by omega,by omega⟩)) (ztm (zamf rfl lz) rfl) (by omega))) lz) rfl (by omega)) lp).trans ?_
    rw[fin _ (by unfold zjj;rw[if_neg h0,if_pos h1])];rfl
   ·refine if_f (ziq (by rw[zvy (zgs rfl rfl (by decide)) rfl];rw[beq_eq_false_iff_ne.mpr h1])) ?_
    have t26:=md (o+(k:Int) / 8) 26 (by decide)
    have u8:=md ((k:Int) * st) 8 (by decide)
    refine(zvz rfl (zame (zape rfl (zgs (ztm rfl (zlh rfl rfl (by decide) (by decide))) rfl (by decide)) t26.1 t26.2) (ztm rfl (zgs (zapa rfl rfl (.inr ⟨by omega,by omega⟩)) rfl (by decide))) ⟨by show 1<=1000;decide,by omega,by omega⟩) lp).trans ?_
    rw[fin _ (by unfold zjj;rw[if_neg h0,if_neg h1])];rfl
 obtain⟨env',hl,s8,s9,rfl⟩:=loop
 generalize hN:(List.range m.toNat).map (zjj (c % 3) o st stem at_)=xs at hl
 have lx:xs.length=m.toNat:=by rw[<- hN];simp
 have nx:xs.Nodup:=by rw[<- hN];exact zqc λa b ha hb e=>zagn hmem o26.1 (by omega) (by omega) e
 have lo:∀x∈xs,Low x/\x.length<=20:=λx hx=>by
  rw[<- hN]at hx
  obtain⟨j,_,rfl⟩:=qAY.mp hx
  refine⟨zago lowS o26.1 st0.1 j,?_⟩
  have sl:∀a b,(Txt.slice stem a b).length<=7:=λa b=>qAM (Txt.slice_le stem a b) lenS
  have l1:∀i,(ltr i).length=1:=λ_=>rfl
  unfold zjj
  split
  ·rw[ztn,ztn,l1]
   have h1:=sl none (some at_);have h2:=sl (some at_) none
   omega
  ·split
   ·rw[ztn,l1]
    have h1:=sl none (some ((j:Int) * st % ((stem.length:Int)+1)))
    omega
   ·have u8:=md ((j:Int) * st) 8 (by decide)
    unfold ltr
    rw[zagj (by omega)]
    omega
 have tw:∀x∈xs,Two x:=λx hx=>by
  rw[<- hN]at hx
  obtain⟨j,_,rfl⟩:=qAY.mp hx
  exact zahf oneS st0.1 j
 have it:zfg (zaa (eVar 0) aNil) [.pl (.int m),.pl (.int c),.pl (.str abc),.pl (.int st),.pl (.int o),.pl (.str stem),.pl (.int at_),.ac (.list []),.no,.no,.no,.no]=some ((List.range m.toNat).map λ(k:Nat)=>PyData.int (k:Int),[]):=by
  unfold zfg
  rw[zen (r:=vi m) rfl]
  simp only[qE]
  rw[if_pos ⟨by omega,by omega⟩,zqe]
 have run:∀o',(sSeq (sIf (zbt (eOp eqD (eOp modD (eOp zdp (eVar 1) (eC (.int 1038336))) (eC (.int 6))) (eC (.int 5)))) (sSeq (sSet 10 (eLst (zaa (eC (.str "none")) (zaa (eC (.str "rule")) (zaa (eC (.str "quarrel")) (zaa (eC (.str "near")) (zaa (eC (.str "far")) (zaa (eC (.str "out")) aNil))))))))
  (sSeq (sSet 11 (eOp modD (eOp zdp (eVar 1) (eC (.int 6230016))) (eC (.int 6))))
  (sSet 7 (eSl (eOp addD (eOp addD (eSl (eVar 10) (zbo (eVar 11)) zdy) (eSl (eVar 10) zdy (zbo (eVar 11)))) (eSl (eVar 7) (zbo (eC (.int 6))) zdy)) zdy (zbo (eVar 0)))))) sNil)
  (zpm 7)) [.pl (.int m),.pl (.int c),.pl (.str abc),.pl (.int st),.pl (.int o),.pl (.str stem),.pl (.int at_),.ac (zad xs),s8,s9,.no,.no]=o'->(zhj [.pl (.int m),.pl (.int c),.no,.no,.no,.no,.no,.no,.no,.no,.no,.no]=o'):=λo' e=>
  zap rfl (zap s3 (zap (e1:=[.pl (.int m),.pl (.int c),.pl (.str abc),.pl (.int st),.pl (.int o),.no,.no,.no,.no,.no,.no,.no]) (by rw[<- hO];rfl) (zap s5 (zap s6 (zap rfl (zap (zin it hl) e))))))
 have t1:zbt (eOp eqD (eOp modD (eOp zdp (eVar 1) (eC (.int 1038336))) (eC (.int 6))) (eC (.int 5))) [.pl (.int m),.pl (.int c),.pl (.str abc),.pl (.int st),.pl (.int o),.pl (.str stem),.pl (.int at_),.ac (zad xs),s8,s9,.no,.no]=some (c / 1038336 % 6==5):=ziq (zvy (zgs (zlh rfl rfl (by decide) (by decide)) rfl (by decide)) rfl)
 cases hb:(c / 1038336 % 6==5)with
 | false=>
  rw[hb]at t1
  exact⟨xs,zio (env:=[.pl (.int m),.pl (.int c),.no,.no,.no,.no,.no,.no,.no,.no,.no,.no]) rfl (run _ (zap (if_f t1 rfl) rfl)),lx,nx,lo⟩
 | true=>
  rw[hb]at t1
  have m6:=md (c / 6230016) 6 (by decide)
  obtain⟨q,hq,q6⟩:∃q:Nat,c / 6230016 % 6=(q:Int)/\q<=6:=⟨(c / 6230016 % 6).toNat,by omega,by omega⟩
  have e11:sSet 11 (eOp modD (eOp zdp (eVar 1) (eC (.int 6230016))) (eC (.int 6))) [.pl (.int m),.pl (.int c),.pl (.str abc),.pl (.int st),.pl (.int o),.pl (.str stem),.pl (.int at_),.ac (zad xs),s8,s9,.ac (zad zdq),.no]=some (.nx [.pl (.int m),.pl (.int c),.pl (.str abc),.pl (.int st),.pl (.int o),.pl (.str stem),.pl (.int at_),.ac (zad xs),s8,s9,.ac (zad zdq),.pl (.int (q:Int))]):=by
   rw[<- hq]
   exact zbs (r:=vi _) (zgs (zlh rfl rfl (by decide) (by decide)) rfl (by decide))
  have cutW1:cutD (zdq.map .str) (some (q:Int)) none=(zdq.drop q).map .str:=by rw[ztw,qBj]
  have cutW2:cutD (zdq.map .str) none (some (q:Int))=(zdq.take q).map .str:=by rw[zto _ _ (by simpa [zdq]using q6),qBL]
  have cutX:cutD (xs.map .str) (some ((6:Nat):Int)) none=(xs.drop 6).map .str:=by rw[ztw,qBj]
  have lW:(zdq.drop q++zdq.take q).length=6:=by rw[qM,qAP,qAK];show 6 - q+min q 6=6;omega
  have lR:((zdq.drop q++zdq.take q)++xs.drop 6).length>=m.toNat:=by rw[qM,lW,qAP,lx];omega
  have cutM:cutD (((zdq.drop q++zdq.take q)++xs.drop 6).map .str) none (some (m.toNat:Int))=(((zdq.drop q++zdq.take q)++xs.drop 6).take m.toNat).map .str:=by rw[zto _ _ (by rw[qF];exact lR),qBL]
  have hm:(m.toNat:Int)=m:=by omega
  rw[hm]at cutM
  have wl:(zdq.drop q).length+(zdq.take q).length<=100000:=by rw[<- qM,lW];decide
  have a12:eOp addD (eSl (eVar 10) (zbo (eVar 11)) zdy) (eSl (eVar 10) zdy (zbo (eVar 11))) [.pl (.int m),.pl (.int c),.pl (.str abc),.pl (.int st),.pl (.int o),.pl (.str stem),.pl (.int at_),.ac (zad xs),s8,s9,.ac (zad zdq),.pl (.int (q:Int))]=some ⟨zad (zdq.drop q++zdq.take q),true,[10]++[10]⟩:=
   zxg (zahe (x:=zdq) (f:=false) (bs:=[10]) rfl (zli (i:=(q:Int)) rfl) rfl cutW1) (zahe (x:=zdq) (f:=false) (bs:=[10]) rfl rfl (zli (i:=(q:Int)) rfl) cutW2) wl
  have a3:eSl (eVar 7) (zbo (eC (.int 6))) zdy [.pl (.int m),.pl (.int c),.pl (.str abc),.pl (.int st),.pl (.int o),.pl (.str stem),.pl (.int at_),.ac (zad xs),s8,s9,.ac (zad zdq),.pl (.int (q:Int))]=some ⟨zad (xs.drop 6),true,[7]⟩:=zahe (x:=xs) (f:=false) (bs:=[7]) rfl (zli (i:=((6:Nat):Int)) rfl) rfl cutX
  have a4:=zahe (l:=zdy) (h:=zbo (eVar 0)) (zxg a12 a3 (by rw[lW,qAP,lx];omega)) rfl (zli (i:=m) rfl) cutM
  refine⟨((zdq.drop q++zdq.take q)++xs.drop 6).take m.toNat,zio (env:=[.pl (.int m),.pl (.int c),.no,.no,.no,.no,.no,.no,.no,.no,.no,.no]) rfl (run _ (zap (if_t t1 (zap rfl (zap e11 (zbs a4)))) rfl)),by rw[qAK];omega,?_,λx hx=>?_⟩
  ·refine List.Nodup.sublist (qCL _ _) ?_
   have pw:(zdq.drop q++zdq.take q).Perm zdq:=by
    have:=List.perm_append_comm (l₁:=zdq.drop q) (l₂:=zdq.take q)
    rwa [qC5]at this
   refine qBA.mpr ⟨pw.nodup_iff.mpr zaks,nx.sublist (List.drop_sublist _ _),λa ha b hb e=>?_⟩
   subst e
   exact zacx a (pw.mem_iff.mp ha) (tw a (qA8 hb))
  ·rcases qX.mp (qAO hx)with z|z
   ·have hw:x∈zdq:=?_
    exact⟨zahg x hw,zahh x hw⟩
    rcases qX.mp z with z|z
    ·exact qA8 z
    ·exact qAO z
   ·exact lo x (qA8 z)
theorem zahi{α:Type}(enc:α->PyData)(l:List α):zsz (l.map enc)=((List.range l.length).zip l).map λz=>PyData.tuple [.int (z.1:Nat),enc z.2]:=by
 rw[zaao]
 have:∀(l:List α)(k:Nat),(l.zipIdx k).map (λ(p:α×Nat)=>PyData.tuple [.int (p.2:Int),enc p.1])=(((List.range l.length).map (·+k)).zip l).map λz=>PyData.tuple [.int (z.1:Nat),enc z.2]:=by
  intro l
  induction l with
  | nil=>intro k;rfl
  | cons x l ih=>
   intro k
   rw[qCS,qd,ih,qAQ,qC1,qd,qA4,qd,qCR]
   congr 3
   rw[qBt]
   refine qBn λj _=>?_
   show j+(k+1)=j+1+k
   omega
 rw[this l 0]
 simp
theorem zsl{W:Web}(h:WebOk W){ks:List Str}{c:List Arm}(hc:CallOk W c)(hl:ks.length<=c.length):zcq [.dict (dS zad (ups W)),zag ks,zbc c]=some (.bool (fitB W ks c),false):=by
 have it:zvk (zaa (eVar 1) aNil) [.pl (.dict (dS zad (ups W))),.pl (zag ks),.pl (zbc c),.no,.no]=some (((List.range ks.length).zip ks).map λz=>PyData.tuple [.int (z.1:Nat),.str z.2],[]):=by
  show some (zsz (ks.map .str),[])=_
  rw[zahi]
 have key:=zvr (enc:=λz:Nat×Str=>PyData.tuple [.int (z.1:Nat),.str z.2]) (g:=gT 2 (zbu 3 (zbu 4 zja))) (body:=sIf (zhc (tTru (eCB (anyD λbs=>bs.any id) (zaa (zif ["_law_name"] [0,4] (zav (zas 1 zbf (zaa (eIxV 2 (eVar 3)) aNil))) (gN 0) zfd (eOp (inD false) (eVar 2) (zcc 1 (eVar 0)))) aNil)))) (sRet (eC (.bool false))) sNil)
  (λz=>(c[z.1]?).elim false λa=>decide (z.2∈upA W a)) (.bool false) false (λenv=>∃s3 s4,env=[.pl (.dict (dS zad (ups W))),.pl (zag ks),.pl (zbc c),s3,s4]) ((List.range ks.length).zip ks) [.pl (.dict (dS zad (ups W))),.pl (zag ks),.pl (zbc c),.no,.no] ⟨_,_,rfl⟩ (by
   rintro⟨i,k⟩ hz env ⟨s3,s4,rfl⟩
   have hi:i<c.length:=by
    have:=qAq.mp (qA9 hz).1
    omega
   have ha:c[i]∈c:=qA3 _
   refine⟨[.pl (.dict (dS zad (ups W))),.pl (zag ks),.pl (zbc c),.pl (.int (i:Nat)),.pl (.str k)],rfl,?_⟩
   have ix:eIxV 2 (eVar 3) [.pl (.dict (dS zad (ups W))),.pl (zag ks),.pl (zbc c),.pl (.int (i:Nat)),.pl (.str k)]=some ⟨armD c[i],false,[]⟩:=by
    show((ixD (.tuple (c.map armD)) (.int (i:Nat))).bind λz=>some (⟨z.1,z.2,bsOf z.1 ([]++[])⟩:Val))=_
    simp only[ixD]
    rw[znc (v:=armD c[i]) (by rw[qR,qH hi];rfl)]
    simp only[qAi,qE]
    cases c[i]<;>rfl
   have itp:zav (zas 1 zbf (zaa (eIxV 2 (eVar 3)) aNil)) [.pl (.dict (dS zad (ups W))),.pl (zag ks),.pl (zbc c),.pl (.int (i:Nat)),.pl (.str k)]=some (c[i].parts.map .str,[]):=by
    unfold zav
    rw[zbj (n:=1) (rs:=[⟨armD c[i],false,[]⟩]) (zen ix) rfl (zeq c[i])]
    rfl
   have k2:zfc (gN 0) zfd (eOp (inD false) (eVar 2) (zcc 1 (eVar 0))) [.no,.pl (.dict (dS zad (ups W))),.pl (.str k)] (c[i].parts.map .str)=some (c[i].parts.map λn=>.bool (decide (k∈up W n))):=
    zem λn hn=>⟨[.pl (.str n),.pl (.dict (dS zad (ups W))),.pl (.str k)],rfl,rfl,vb (decide (k∈up W n)),e_in (neg:=false) (fr:=false) (bs:=[]) rfl (zagt (d:=zad (up W n)) (.inl rfl) rfl (by rw[zlu,zkz (hc.kinds _ ha n hn)];rfl)),rfl⟩
   have t:=zaap (zaua (f:=λn:Str=>decide (k∈up W n)) (zkl (own:=["_law_name"]) (fr:=[0,4]) itp (by rw[qF];have:=hc.few _ ha;omega) k2))
   have ev:(c[i].parts.any λn=>decide (k∈up W n))=decide (k∈upA W c[i]):=by
    rw[qAs,qBQ,decide_eq_true_iff,zza]
    exact⟨λ⟨n,h1,h2⟩=>⟨n,h1,of_decide_eq_true h2⟩,λ⟨n,h1,h2⟩=>⟨n,h1,decide_eq_true h2⟩⟩
   rw[ev]at t
   have pe:((c[i]?).elim false λa=>decide (k∈upA W a))=decide (k∈upA W c[i]):=by rw[qH hi];rfl
   constructor
   ·intro hp
    have hp:((c[i]?).elim false λa=>decide (k∈upA W a))=true:=hp
    rw[pe]at hp
    rw[hp]at t
    exact⟨_,if_f t rfl,_,_,rfl⟩
   ·intro hp
    have hp:((c[i]?).elim false λa=>decide (k∈upA W a))=false:=hp
    rw[pe]at hp
    rw[hp]at t
    exact if_t t rfl)
 have same:(((List.range ks.length).zip ks).all λz=>(c[z.1]?).elim false λa=>decide (z.2∈upA W a))=fitB W ks c:=by
  have gen:∀(ks:List Str)(c:List Arm)(m:Nat)(cc:List Arm),ks.length<=c.length->(∀j,cc[m+j]?=c[j]?)->((((List.range ks.length).map (·+m)).zip ks).all λz=>(cc[z.1]?).elim false λa=>decide (z.2∈upA W a))=fitB W ks c:=by
   intro ks
   induction ks with
   | nil=>intro c m cc _ _;rfl
   | cons k ks ih=>
    intro c m cc hle hcc
    cases c with
    | nil=>simp at hle
    | cons a c=>
     have h0:=hcc 0
     rw[Nat.add_zero]at h0
     have r:=ih c (m+1) cc (by simpa using hle) λj=>by
      have:=hcc (j+1)
      rw[qAE]at this
      rw[<- this]
      congr 1
      omega
     unfold fitB at r ⊢
     rw[qAQ,qC1,qd,qA4,qAy,qA4,qAy,<- r,qCR,h0]
     congr 1
     rw[qBt]
     congr 2
     refine qBn λj _=>?_
     show j+1+m=j+(m+1)
     omega
  have:=gen ks c 0 c hl λj=>by rw[qCR]
  simpa using this
 rw[same]at key
 cases hb:fitB W ks c with
 | true=>
  obtain⟨env',lp,s3,s4,rfl⟩:=key.1 hb
  exact zio (env:=[.pl (.dict (dS zad (ups W))),.pl (zag ks),.pl (zbc c),.no,.no]) rfl (zap (zin it lp) rfl)
 | false=>exact zio (env:=[.pl (.dict (dS zad (ups W))),.pl (zag ks),.pl (zbc c),.no,.no]) rfl (zasf (zin it (key.2 hb)))
noncomputable def Hd(d:PyData)(s:Sl):Prop:=s=.pl d\/s=.ac d
theorem e_hd{env:DEnv}{i:Nat}{d:PyData}{s:Sl}(h:env[i]?=some s)(hs:Hd d s):∃bs,eVar i env=some ⟨d,false,bs⟩:=by
 unfold eVar
 rw[h]
 rcases hs with rfl|rfl
 ·exact⟨_,rfl⟩
 ·exact⟨_,rfl⟩
theorem zty{W:Web}(lo:∀x∈nm W,Low x){ks:List Str}(h:∀k∈ks,k∈nm W):LowS ks:=λk hk=>zkm (lo k (h k hk))
theorem zahj{W:Web}(h:WebOk W):∀(m:Nat){x y:Str},(nm W).idxOf y<m->y∈nm W->x∈up W y->x=y\/(nm W).idxOf x<(nm W).idxOf y
 | 0,_,_,hm,_,_=>absurd hm (Nat.not_lt_zero _)
 | m+1,x,y,hm,hy,hx=>by
  rcases(zagv h hy).mp hx with rfl|⟨e,he,hxe⟩
  ·exact .inl rfl
  ·obtain⟨g1,g2⟩:=zamh h he
   rcases zahj h m (by omega) g1 hxe with rfl|hlt
   ·exact .inr g2
   ·exact .inr (by omega)
theorem zapk{W:Web}(h:WebOk W){x y:Str}(hx:x∈nm W)(hy:y∈nm W)(h1:x∈up W y)(h2:y∈up W x):x=y:=by
 rcases zahj h _ (qCX _) hy h1 with e|e
 ·exact e
 ·rcases zahj h _ (qCX _) hx h2 with e'|e'
  ·exact e'.symm
  ·omega
noncomputable def geB(W:Web)(a b:List Str):Bool:=(a.zip b).all λz=>decide (z.2∈up W z.1)
theorem ztz{W:Web}{a b:List Str}:zbv W a b=(!(a==b)&&geB W a b):=rfl
theorem zabb{W:Web}(h:WebOk W):∀{a b c:List Str},a.length=b.length->b.length=c.length->(∀k∈a,k∈nm W)->geB W a b=true->geB W b c=true->geB W a c=true
 | [],_,_,_,_,_,_,_=>rfl
 | x::a,[],_,e,_,_,_,_=>by cases e
 | x::a,y::b,[],_,e,_,_,_=>by cases e
 | x::a,y::b,z::c,e1,e2,hk,h1,h2=>by
  unfold geB at h1 h2 ⊢
  simp only[qA4,qAy,qx,decide_eq_true_eq]at h1 h2 ⊢
  exact⟨zaar h _ (qCX _) (hk x qm) h1.1 h2.1,zabb h (by simpa using e1) (by simpa using e2) (λk hk'=>hk k (qK _ hk')) h1.2 h2.2⟩
theorem zahk{W:Web}(h:WebOk W):∀{a b:List Str},a.length=b.length->(∀k∈a,k∈nm W)->(∀k∈b,k∈nm W)->geB W a b=true->geB W b a=true->a=b
 | [],[],_,_,_,_,_=>rfl
 | [],y::b,e,_,_,_,_=>by cases e
 | x::a,[],e,_,_,_,_=>by cases e
 | x::a,y::b,e,ha,hb,h1,h2=>by
  unfold geB at h1 h2
  simp only[qA4,qAy,qx,decide_eq_true_eq]at h1 h2
  rw[zapk h (ha x qm) (hb y qm) h2.1 h1.1,zahk h (by simpa using e) (λk hk=>ha k (qK _ hk)) (λk hk=>hb k (qK _ hk)) h1.2 h2.2]
noncomputable abbrev Rule:=Str×List Str
structure OrdOk(W:Web)(p:Nat)(S:List Rule):Prop where
 kinds:∀r∈S,∀k∈r.2,k∈nm W
 size:∀r∈S,r.2.length=p
theorem zakt{W:Web}{a:List Str}:zbv W a a=false:=by rw[ztz,beq_self_eq_true];rfl
theorem zapl{W:Web}(h:WebOk W){p:Nat}{S:List Rule}(ok:OrdOk W p S){a b c:Rule}(ha:a∈S)(hb:b∈S)(hc:c∈S)(h1:zbv W a.2 b.2=true)(h2:zbv W b.2 c.2=true):zbv W a.2 c.2=true:=by
 rw[ztz,qx]at h1 h2 ⊢
 have g:=zabb h ((ok.size a ha).trans (ok.size b hb).symm) ((ok.size b hb).trans (ok.size c hc).symm) (ok.kinds a ha) h1.2 h2.2
 refine⟨?_,g⟩
 rw[Bool.not_eq_true',beq_eq_false_iff_ne]
 intro e
 have g2:=h2.2
 rw[<- e]at g2
 have:=zahk h ((ok.size a ha).trans (ok.size b hb).symm) (ok.kinds a ha) (ok.kinds b hb) h1.2 g2
 have n1:=h1.1
 rw[this,beq_self_eq_true]at n1
 cases n1
theorem zaku{d:PyData}(s:qAb d=true):eqD d d=some (.bool true,false):=by
 unfold eqD eqOk
 rw[s,qCJ,qAk,if_pos rfl,qB0 _ (qAn s)]
theorem zakv{d:PyData}(s:qAb d=true):neD d d=some (.bool false,false):=by
 unfold neD eqOk
 rw[s,qCJ,qAk,if_pos rfl,qB0 _ (qAn s)]
 rfl
theorem zaub{a b:EF}{env:DEnv}{d:PyData}{f1 f2:Bool}{b1 b2:List Nat}(ha:a env=some ⟨d,f1,b1⟩)(hb:b env=some ⟨d,f2,b2⟩)(s:qAb d=true):zbt (eOp neD a b) env=some false:=by
 refine ziq ?_
 unfold eOp;rw[ha,hb]
 simp only[qE]
 rw[zakv s];rfl
theorem zauc{a b:EF}{env:DEnv}{d:PyData}{f1 f2:Bool}{b1 b2:List Nat}(ha:a env=some ⟨d,f1,b1⟩)(hb:b env=some ⟨d,f2,b2⟩)(s:qAb d=true):eOp eqD a b env=some (vb true):=by
 unfold eOp;rw[ha,hb]
 simp only[qE]
 rw[zaku s];rfl
theorem zaso{w:OF}{a b:EF}{env:DEnv}{x y:Val}{z:PyData}{fr:Bool}(ha:a env=some x)(hb:b env=some y)(hw:w x.d y.d=some (z,fr)):eOp w a b env=some ⟨z,fr,bsOf z (x.bs++y.bs)⟩:=by
 unfold eOp;rw[ha,qE,hb,qE,hw];rfl
theorem zapm{neg:Bool}{i j:Nat}{env:DEnv}{x:Str}{xs:List Str}{s:Sl}(hi:env[i]?=some (.pl (.str x)))(hj:env[j]?=some s)(hs:Hd (zad xs) s):zbt (eOp (inD neg) (eVar i) (eVar j)) env=some (if neg then !decide (x∈xs)else decide (x∈xs)):=by
 obtain⟨bs,e⟩:=e_hd hj hs
 have ei:eVar i env=some (vs x):=by unfold eVar;rw[hi]
 exact ziq (zaso ei e (zpy neg xs x))
theorem zahl:∀c<128,∀q∈[34,39],(Builtin.Str.reprChar q c).length<=4:=by decide +kernel
noncomputable def zgl(W:Web)(ns:List Str):Option Str:=ns.find? λn=>!decide (n∈nm W)
theorem zsm{W:Web}:∀(ns:List Str)(all:List Str)(s:Sl),(∀x∈ns,x∉nm W->atD (.str x)=true)->∃s',zyf (gN 3) (xIf (zbt (eOp (inD true) (eVar 3) (eVar 2))) (zml "NoKind" (eVar 3)) (xOf sNil)) (ns.map .str) [.pl (webD W),.pl (zad all),.ac (zad (nm W)),s] =
  (match zgl W ns with|none=>some (.ok (.nx [.pl (webD W),.pl (zad all),.ac (zad (nm W)),s']))|some x=>some (.rx "NoKind" (.str x)))
 | [],all,s,_=>⟨s,rfl⟩
 | n::ns,all,s,h=>by
  have t:=zapm (neg:=true) (i:=3) (j:=2) (env:=[.pl (webD W),.pl (zad all),.ac (zad (nm W)),.pl (.str n)]) (x:=n) (xs:=nm W) rfl rfl (.inr rfl)
  by_cases hm:n∈nm W
  ·obtain⟨s',e⟩:=zsm ns all (.pl (.str n)) λx hx=>h x (qK _ hx)
   refine⟨s',?_⟩
   have b:xIf (zbt (eOp (inD true) (eVar 3) (eVar 2))) (zml "NoKind" (eVar 3)) (xOf sNil) [.pl (webD W),.pl (zad all),.ac (zad (nm W)),.pl (.str n)]=some (.ok (.nx [.pl (webD W),.pl (zad all),.ac (zad (nm W)),.pl (.str n)])):=by
    unfold xIf
    rw[t,qE,if_neg (by simp[hm])]
    rfl
   have f:zgl W (n::ns)=zgl W ns:=by unfold zgl;rw[qA0];simp[hm]
   rw[f,<- e]
   show((xIf _ _ _ [.pl (webD W),.pl (zad all),.ac (zad (nm W)),.pl (.str n)]).bind _)=_
   rw[b];rfl
  ·refine⟨s,?_⟩
   have b:xIf (zbt (eOp (inD true) (eVar 3) (eVar 2))) (zml "NoKind" (eVar 3)) (xOf sNil) [.pl (webD W),.pl (zad all),.ac (zad (nm W)),.pl (.str n)]=some (.rx "NoKind" (.str n)):=by
    unfold xIf
    rw[t,qE,if_pos (by simp[hm])]
    show(if atD (.str n)=true then some (OutX.rx "NoKind" (.str n))else none)=_
    rw[if_pos (h n (by simp) hm)]
   have f:zgl W (n::ns)=some n:=by unfold zgl;rw[qA0];simp[hm]
   rw[f]
   show((xIf _ _ _ [.pl (webD W),.pl (zad all),.ac (zad (nm W)),.pl (.str n)]).bind _)=_
   rw[b];rfl
theorem zll{W:Web}(hl:W.length<100000){ns:List Str}(h:∀x∈ns,x∉nm W->atD (.str x)=true):zdm [webD W,zad ns]=some (match zgl W ns with|none=>.ok .none false|some x=>.rx "NoKind" (.str x)):=by
 obtain⟨s',e⟩:=zsm (W:=W) ns ns .no h
 have f:zeo [.pl (webD W),.pl (zad ns),.no,.no]=zyf (gN 3) (xIf (zbt (eOp (inD true) (eVar 3) (eVar 2))) (zml "NoKind" (eVar 3)) (xOf sNil)) (ns.map .str) [.pl (webD W),.pl (zad ns),.ac (zad (nm W)),.no]:=by
  unfold zeo xSeq xOf
  rw[zbs (zbj (n:=1) (rs:=[⟨webD W,false,[]⟩]) rfl rfl (zry hl))]
  rfl
 unfold zdm fnX
 show(match zeo [.pl (webD W),.pl (zad ns),.no,.no]with|some (.ok (.rt d fr))=>some (ResX.ok d fr)|some (.ok (.nx _))=>some (.ok .none false)|some (.rx c d)=>some (.rx c d)|_=>none)=_
 rw[f,e]
 cases zgl W ns<;>rfl
theorem zapn{f g:SFX}{env e1:DEnv}{o:Option OutX}(h:f env=some (.ok (.nx e1)))(k:g e1=o):xSeq f g env=o:=by unfold xSeq;rw[h];exact k
theorem zzc{f g:SFX}{env:DEnv}{c:Str}{d:PyData}(h:f env=some (.rx c d)):xSeq f g env=some (.rx c d):=by unfold xSeq;rw[h];rfl
theorem zaud{t:TF}{f g:SFX}{env:DEnv}{o:Option OutX}(h:t env=some true)(k:f env=o):xIf t f g env=o:=by unfold xIf;rw[h];exact k
theorem zaue{t:TF}{f g:SFX}{env:DEnv}{o:Option OutX}(h:t env=some false)(k:g env=o):xIf t f g env=o:=by unfold xIf;rw[h];exact k
theorem zasp{f:SF}{env:DEnv}{o:Out}(h:f env=some o):xOf f env=some (.ok o):=by unfold xOf;rw[h];rfl
theorem zahm{c:Str}{f:EF}{env:DEnv}{r:Val}(h:f env=some r)(ha:atD r.d=true):zml c f env=some (.rx c r.d):=by unfold zml;rw[h,qE,if_pos ha]
theorem zabc{n:Nat}{g:GFX}{f:AF}{env:DEnv}{rs:List Val}{c:Str}{d:PyData}(h:f env=some rs)(hn:rs.length=n)(k:g (zge rs)=some (.rx c d)):zaez n g f env=some (.rx c d):=by unfold zaez;rw[h,qE,if_pos hn,k];rfl
theorem zahn{n:Nat}{f:SFX}{ds:List PyData}{env:DEnv}{c:Str}{d:PyData}(h:zle n ds=env)(e:f env=some (.rx c d)):fnX n f ds=some (.rx c d):=by unfold fnX;rw[h,e]
theorem zapo(a b:Nat):neD (.int (a:Int)) (.int (b:Int))=some (.bool (!decide (a=b)),false):=by
 by_cases e:a=b
 ·subst e
  rw[zage,decide_eq_true rfl];rfl
 ·have:(a:Int)≠(b:Int):=λz=>e (Int.ofNat.inj z)
  rw[decide_eq_false e]
  show some (PyData.bool (!((a:Int)==(b:Int))),false)=_
  rw[beq_eq_false_iff_ne.mpr this]
noncomputable def shN(k:Nat)(d:PyData):Prop:=PyData.canLay0 d=true/\PyData.depth d<=k
theorem zaml{k:Nat}:∀{ds:List PyData},(∀d∈ds,shN k d)->qAc ds=true/\qAp ds<=k
 | [],_=>⟨by unfold qAc;rfl,by unfold qAp;omega⟩
 | d::ds,h=>by
  obtain⟨h1,h2⟩:=h d (by simp)
  obtain⟨h3,h4⟩:=zaml λx hx=>h x (qK _ hx)
  unfold qAc qAp
  exact⟨by rw[h1,h3];rfl,by omega⟩
theorem zamm{k:Nat}{ds:List PyData}(h:∀d∈ds,shN k d):shN (k+1) (.tuple ds):=by
 obtain⟨h1,h2⟩:=zaml h
 unfold shN PyData.canLay0 PyData.depth
 exact⟨h1,by omega⟩
theorem zny{k:Nat}{b:Bool}:shN k (.bool b):=by unfold shN PyData.canLay0 PyData.depth;exact⟨rfl,by omega⟩
theorem zapp{k:Nat}:shN k .none:=by unfold shN PyData.canLay0 PyData.depth;exact⟨rfl,by omega⟩
theorem zasq{k:Nat}{x:Str}(h:qAe x=true):shN k (.str x):=by unfold shN PyData.canLay0 PyData.depth;exact⟨h,by omega⟩
theorem zamn{k:Nat}:∀d∈([]:List PyData),shN k d:=λd h=>by cases h
theorem zku{k:Nat}{d:PyData}{ds:List PyData}(h:shN k d)(t:∀x∈ds,shN k x):∀x∈d::ds,shN k x:=λx hx=>(qc.mp hx).elim (λe=>e▸h) (t x)
theorem zxh{k:Nat}{d:PyData}(h:shN k d)(hk:k<=64):qAb d=true:=by
 unfold qAb
 rw[h.1,decide_eq_true (qAM h.2 hk)];rfl
theorem zabd(d:PyData):bsOf d []=[]:=by unfold bsOf;split<;>rfl
theorem zamo{k n:Nat}{b:EF}{env:DEnv}{ds:List PyData}{d:PyData}(he:env[k]?=some (.pl (.tuple ds)))(hb:b env=some (vi (n:Int)))(hd:ds[n]?=some d):eIxV k b env=some ⟨d,false,[]⟩:=by
 unfold eIxV
 rw[he]
 unfold eOp eVar
 rw[he]
 simp only[qE,hb]
 show((atI ds (n:Int)).map λd=>(d,false)).bind _=_
 rw[znc hd]
 show some (⟨d,false,bsOf d ([]++[])⟩:Val)=_
 rw[qAB,zabd]
theorem zasr{a b:EF}{env:DEnv}{x y:List PyData}{f1 f2:Bool}(ha:a env=some ⟨.tuple x,f1,[]⟩)(hb:b env=some ⟨.tuple y,f2,[]⟩)(h:x.length+y.length<=100000):eOp addE a b env=some ⟨.tuple (x++y),false,[]⟩:=by
 unfold eOp
 rw[ha,hb]
 show(addE (.tuple x) (.tuple y)).bind (λz=>some (⟨z.1,z.2,bsOf z.1 ([]++[])⟩:Val))=_
 have e:addE (.tuple x) (.tuple y)=some (.tuple (x++y),false):=by
  cases x with
  | nil=>rfl
  | cons p x=>exact if_pos ⟨rfl,h⟩
 rw[e,qE,qAB,zabd]
theorem zamp{a b:EF}{env:DEnv}{x y:List PyData}{f1 f2:Bool}(ha:a env=some ⟨.tuple x,f1,[]⟩)(hb:b env=some ⟨.tuple y,f2,[]⟩)(h:x.length+y.length<=100000)(hx:x≠[]):eOp addD a b env=some ⟨.tuple (x++y),false,[]⟩:=by
 unfold eOp
 rw[ha,hb]
 show(addD (.tuple x) (.tuple y)).bind (λz=>some (⟨z.1,z.2,bsOf z.1 ([]++[])⟩:Val))=_
 have e:addD (.tuple x) (.tuple y)=some (.tuple (x++y),false):=by
  cases x with
  | nil=>exact absurd rfl hx
  | cons p x=>exact if_pos ⟨rfl,h⟩
 rw[e,qE,qAB,zabd]
theorem zapq{a:EF}{l h:PF'}{env:DEnv}{ds es:List PyData}{f:Bool}{lo hi:Option Int}(ha:a env=some ⟨.tuple ds,f,[]⟩)(hl:l env=some lo)(hh:h env=some hi)(e:cutD ds lo hi=es):eSlT a l h env=some ⟨.tuple es,false,[]⟩:=by
 unfold eSlT
 rw[ha,hl,hh]
 show some (⟨.tuple (cutD ds lo hi),false,[]⟩:Val)=_
 rw[e]
noncomputable def putA(c:List Arm)(k:Nat)(a:Arm):List Arm:=c.take k++[a]++c.drop (k+1)
theorem zakw{c:List Arm}{k:Nat}{a:Arm}(h:k<c.length):(putA c k a).length=c.length:=by
 unfold putA
 rw[qM,qM,qAK,qAP]
 simp only[qAQ,qBI]
 omega
theorem zabe{c:List Arm}{k:Nat}{a x:Arm}(h:x∈putA c k a):x=a\/x∈c:=by
 unfold putA at h
 rcases qX.mp h with h|h
 ·rcases qX.mp h with h|h
  ·exact .inr (qAO h)
  ·exact .inl (by simpa using h)
 ·exact .inr (qA8 h)
theorem zacy{l1 l2:List Str}{x:Str}{p:Str->Bool}(h1:∀y∈l1,p y=false)(h2:p x=true):(l1++x::l2).find? p=some x:=by
 rw[List.find?_append,List.find?_eq_none.mpr λy hy=>by rw[h1 y hy];decide,qA0,h2];rfl
theorem znz(ks:List Str):zag ks=zbc (ks.map .one):=by unfold zag zbc;rw[qBt];rfl
theorem zzd{W:Web}{ks:List Str}(h:∀k∈ks,k∈nm W)(hl:ks.length<300):CallOk W (ks.map .one):=
 ⟨by rw[qF];exact hl,λa ha=>by obtain⟨k,_,rfl⟩:=qAY.mp ha;show 1<300;decide,λa ha n hn=>by obtain⟨k,hk,rfl⟩:=qAY.mp ha;rw[qAL.mp hn];exact h k hk⟩
theorem zze{k:Nat}{env:DEnv}{ks:List Str}(he:env[k]?=some (.pl (zag ks))):eCB zkb (zaa (eVar k) aNil) env=some ⟨zad ks,true,[]⟩:=by
 unfold eCB
 rw[zen (r:=⟨zag ks,false,[]⟩) (by unfold eVar;rw[he])]
 rfl
theorem zakx{k:Nat}{env:DEnv}{c:List Arm}(he:env[k]?=some (.pl (zbc c)))(hc:c.length<300)(ha:∀a∈c,a.parts.length<300):zas 1 zci (zaa (eVar k) aNil) env=some ⟨zad (c.flatMap Arm.parts),true,[]⟩:=
 zbj (n:=1) (rs:=[⟨zbc c,false,[]⟩]) (zen (by unfold eVar;rw[he])) rfl (zqu hc ha)
theorem zaky{c:List Arm}{n:Nat}(h:∀a∈c,a.parts.length<=n):(c.flatMap Arm.parts).length<=n * c.length:=by
 induction c with
 | nil=>simp
 | cons a c ih=>
  rw[List.flatMap_cons,qM,qAQ,Nat.mul_succ]
  have h1:=h a (by simp)
  have h2:=ih λb hb=>h b (qK _ hb)
  omega
noncomputable abbrev fiE(W:Web)(ks:List Str)(c:List Arm):DEnv:=[.pl (webD W),.pl (zag ks),.pl (zbc c)]
theorem zaho{W:Web}{ks:List Str}{c:List Arm}:zbt (eOp neD (eCB lenD (zaa (eVar 2) aNil)) (eCB lenD (zaa (eVar 1) aNil))) (fiE W ks c)=some (!decide (c.length=ks.length)):=by
 refine ziq ?_
 unfold eOp
 show((neD (.int ((c.map armD).length:Nat)) (.int ((ks.map PyData.str).length:Nat))).bind λz=>some (⟨z.1,z.2,bsOf z.1 ([]++[])⟩:Val))=_
 rw[zapo,qF,qF];rfl
theorem zahp{W:Web}{ks:List Str}{c:List Arm}(hk:ks.length<=300)(hc:c.length<300)(ha:∀a∈c,a.parts.length<300) :
  zaa (eVar 0) (zaa (eOp addD (eCB zkb (zaa (eVar 1) aNil)) (zas 1 zci (zaa (eVar 2) aNil))) aNil) (fiE W ks c)=some [⟨webD W,false,[]⟩,⟨zad (ks++c.flatMap Arm.parts),true,[]⟩]:=by
 refine zaz rfl (zen ?_)
 have hl:(c.flatMap Arm.parts).length<=300 * c.length:=zaky λa h=>qBh (ha a h)
 have hm:300 * c.length<=300 * 300:=Nat.mul_le_mul_left _ (qBh hc)
 exact zxg (zze rfl) (zakx rfl hc ha) (by omega)
theorem zass{W:Web}(h:WebOk W){ks:List Str}{c:List Arm}(hc:CallOk W c):sRet (zas 2 zew (zaa (eVar 1) (zaa (zas 2 zcw (zaa (zas 1 zdz (zaa (eVar 0) aNil)) (zaa (eVar 2) aNil))) aNil))) (fiE W ks c)=some (.rt (.bool (fitB W ks c)) false):=
 zjp (zbj (n:=2) (rs:=[⟨zag ks,false,[]⟩,⟨.list (c.map λa=>zbk (upA W a)),true,[]⟩]) (zaz rfl (zen (zbj (n:=2) (rs:=[⟨.dict (dS zbk (ups W)),true,[]⟩,⟨zbc c,false,[]⟩]) (zaz (zbj (n:=1) (rs:=[⟨webD W,false,[]⟩]) rfl rfl (zrz h)) rfl) rfl (zqv h hc.len hc.kinds)))) rfl (zxf hc.len))
theorem zabf{W:Web}(h:WebOk W)(hw:W.length<100000){ks:List Str}{c:List Arm}(hc:CallOk W c)(hl:c.length=ks.length)(hk:∀k∈ks,k∈nm W):zmu [webD W,zag ks,zbc c]=some (.bool (fitB W ks c),false):=by
 have t1:=zaho (W:=W) (ks:=ks) (c:=c)
 rw[decide_eq_true hl]at t1
 have hcl:=hc.len
 refine zio (env:=fiE W ks c) rfl (zap (if_f t1 rfl) (zap (zagd (zbj (n:=2) (zahp (by omega) hc.len hc.few) rfl (zmr hw λn hn=>?_))) (zass h hc)))
 rcases qX.mp hn with z|z
 ·exact hk n z
 ·obtain⟨a,ha,z⟩:=qBO.mp z
  exact hc.kinds a ha n z
theorem zqx{W:Web}{ks:List Str}{c:List Arm}(hl:c.length≠ks.length):zex [webD W,zag ks,zbc c]=some (.rx "NoCall" .none):=by
 have t1:=zaho (W:=W) (ks:=ks) (c:=c)
 rw[decide_eq_false hl]at t1
 exact zahn (env:=fiE W ks c) rfl (zzc (zaud t1 (zahm (r:=⟨.none,false,[]⟩) rfl rfl)))
theorem zol{W:Web}(hw:W.length<100000){ks:List Str}{c:List Arm}(hl:c.length=ks.length)(hc:c.length<300)(ha:∀a∈c,a.parts.length<300){x:Str}(hf:zgl W (ks++c.flatMap Arm.parts)=some x)(hat:∀y∈ks++c.flatMap Arm.parts,y∉nm W->atD (.str y)=true) :
  zex [webD W,zag ks,zbc c]=some (.rx "NoKind" (.str x)):=by
 have t1:=zaho (W:=W) (ks:=ks) (c:=c)
 rw[decide_eq_true hl]at t1
 have g:=zll hw hat
 rw[hf]at g
 exact zahn (env:=fiE W ks c) rfl (zapn (zaue t1 (zasp rfl)) (zzc (zabc (n:=2) (zahp (by omega) hc ha) rfl g)))
noncomputable abbrev neE(W:Web)(a b:List Str):DEnv:=[.pl (webD W),.pl (zag a),.pl (zag b)]
theorem zahq{W:Web}{a b:List Str}(ha:a.length<=300)(hb:b.length<=300) :
  zaa (eVar 0) (zaa (eOp addD (eCB zkb (zaa (eVar 1) aNil)) (eCB zkb (zaa (eVar 2) aNil))) aNil) (neE W a b)=some [⟨webD W,false,[]⟩,⟨zad (a++b),true,[]⟩]:=
 zaz rfl (zen (zxg (zze rfl) (zze rfl) (by omega)))
theorem zacz{W:Web}(h:WebOk W)(hw:W.length<100000){a b:List Str}(ha:∀k∈a,k∈nm W)(hb:∀k∈b,k∈nm W)(la:LowS a)(lb:LowS b)(hl:a.length=b.length)(h3:a.length<300):zbl [webD W,zag a,zag b]=some (.bool (zbv W a b),false):=by
 have e1:eOp eqD (eCB lenD (zaa (eVar 1) aNil)) (eCB lenD (zaa (eVar 2) aNil)) (neE W a b)=some (vb true):=by
  show((eqD (.int ((a.map PyData.str).length:Nat)) (.int ((b.map PyData.str).length:Nat))).bind λz=>some (⟨z.1,z.2,bsOf z.1 ([]++[])⟩:Val))=_
  rw[qF,qF,hl]
  show some (vb ((b.length:Int)==(b.length:Int)))=_
  rw[beq_self_eq_true]
 have e2:zas 3 zfr (zaa (zas 1 zdz (zaa (eVar 0) aNil)) (zaa (eVar 1) (zaa (eVar 2) aNil))) (neE W a b)=some (vb (zbv W a b)):=
  zbj (n:=3) (rs:=[⟨.dict (dS zbk (ups W)),true,[]⟩,⟨zag a,false,[]⟩,⟨zag b,false,[]⟩]) (zaz (zbj (n:=1) (rs:=[⟨webD W,false,[]⟩]) rfl rfl (zrz h)) rfl) rfl (zzb h la lb ha h3)
 refine zio (env:=neE W a b) rfl (zap (zagd (zbj (n:=2) (zahq (by omega) (by omega)) rfl (zmr hw λn hn=>(qX.mp hn).elim (ha n) (hb n)))) (zjp (bs:=[]) (fr:=false) ?_))
 unfold eAnd
 rw[e1,qE]
 exact e2
theorem zlm{W:Web}(hw:W.length<100000){a b:List Str}(ha:a.length<=300)(hb:b.length<=300){x:Str}(hf:zgl W (a++b)=some x)(hat:∀y∈a++b,y∉nm W->atD (.str y)=true):zey [webD W,zag a,zag b]=some (.rx "NoKind" (.str x)):=by
 have g:=zll hw hat
 rw[hf]at g
 exact zahn (env:=neE W a b) rfl (zzc (zabc (n:=2) (zahq ha hb) rfl g))
theorem zabg{c:Str}{d:PyData}(hc:c∈(["NoCall","NoKind"]:List Str)):zbb (.rx c d)=some (.tuple [.bool (decide (c="NoCall")),.bool (decide (c="NoKind")),.bool true,d]):=by
 have e:(sSeq (sSet 2 (eTup (zaa (eC (.str "no refusal")) aNil))) (sSeq (zakf ["NoCall","NoKind"] 1 (.rx c d) (λxc xd=>(sSet 2 (eTup (zaa (eC (.bool (decide (xc="NoCall")))) (zaa (eC (.bool (decide (xc="NoKind")))) (zaa (eC (.bool true)) (zaa (eC xd) aNil)))))))) (zpm 2))) (List.replicate 3 .no)=some (.rt (.tuple [.bool (decide (c="NoCall")),.bool (decide (c="NoKind")),.bool true,d]) false):=by
  refine zap (e1:=[.no,.no,.pl (.tuple [.str "no refusal"])]) rfl (zap (e1:=[.no,.no,.pl (.tuple [.bool (decide (c="NoCall")),.bool (decide (c="NoKind")),.bool true,d])]) ?_ rfl)
  unfold zakf
  dsimp only
  rw[if_pos hc]
  rfl
 unfold zbb zakg
 rw[e]
theorem zqy:zbb (.rx "NoCall" .none)=some (.tuple [.bool true,.bool false,.bool true,.none]):=by
 rw[zabg (by decide +kernel),decide_eq_true rfl,decide_eq_false (by decide +kernel)]
theorem zna(x:Str):zbb (.rx "NoKind" (.str x))=some (.tuple [.bool false,.bool true,.bool true,.str x]):=by
 rw[zabg (by decide +kernel),decide_eq_false (show ¬("NoKind":Str)="NoCall" by decide +kernel),decide_eq_true (show("NoKind":Str)="NoKind"from rfl)]
theorem zakz{x:Str}(h:Low x)(hl:x.length<=20):(reprText x).length<=1000:=by
 have hq:reprQuote x∈[34,39]:=by unfold reprQuote;split<;>simp
 have fold:∀(l:List Nat)(a:Array Nat),(∀c∈l,c<128)->(l.foldl (λout c=>out++(Builtin.Str.reprChar (reprQuote x) c).toArray) a).size<=a.size+4 * l.length:=by
  intro l
  induction l with
  | nil=>intro a _;simp
  | cons c l ih=>
   intro a hc
   rw[qBb]
   have h1:=ih (a++(Builtin.Str.reprChar (reprQuote x) c).toArray) λc' hc'=>hc c' (qK _ hc')
   have h2:=zahl c (hc c (by simp)) _ hq
   rw[Array.size_append]at h1
   simp only[qQ,qAQ]at h1 ⊢
   omega
 show((x.cps.foldl (λout c=>out++(Builtin.Str.reprChar (reprQuote x) c).toArray) #[reprQuote x]).push (reprQuote x)).size<=1000
 rw[Array.size_push,<- Array.foldl_toList]
 have h1:=fold x.cps.toList #[reprQuote x] λc hc=>h c (by first|exact hc|exact qC8.mp hc|exact Array.mem_toList.mp hc)
 have h2:x.cps.toList.length=x.length:=rfl
 have h3:(#[reprQuote x]:Array Nat).size=1:=rfl
 omega
theorem zabh{x:Str}(h:Low x/\x.length<=20):atD (.str x)=true:=decide_eq_true (zakz h.1 h.2)
theorem zabi{env:DEnv}{k:Nat}{xs:List Str}{s:Sl}(he:env[k]?=some s)(hs:s=.pl (zad xs)\/s=.ac (zad xs)):eCB lenD (zaa (eVar k) aNil) env=some (vi ((xs.length:Nat):Int)):=by
 rcases hs with rfl|rfl
 ·rw[zqd (ds:=xs.map .str) (fr:=false) (bs:=[]) (by unfold eVar;rw[he];rfl),qF]
 ·rw[zqd (ds:=xs.map .str) (fr:=false) (bs:=[k]) (by unfold eVar;rw[he];rfl),qF]
theorem zahr{a:EF}{env:DEnv}{i:Int}{bs:List Nat}(ha:a env=some ⟨.int i,false,bs⟩)(h1:-4611686018427387904<=i)(h2:i<4611686018427387904):zfg (zaa a aNil) env=some ((List.range i.toNat).map (λ(k:Nat)=>PyData.int (k:Int)),[]):=by
 unfold zfg
 rw[zen ha]
 simp only[qE]
 rw[if_pos ⟨h1,h2⟩,zqe]
theorem zahs{c:Int}{xs:List Str}{p:Nat}(hp:p<=3)(hx:0<xs.length)(hx2:xs.length<=1000):∃ks,zeu [.int c,zad xs,.int (p:Int)]=some (zag ks,false)/\ks.length=p/\∀x∈ks,x∈xs:=by
 have lp:∃env',forL (gN 5) (sSeq (sApp 4 (eIxV 1 (eOp modD (eVar 3) (eCB lenD (zaa (eVar 1) aNil))))) (sSet 3 (eOp zdp (eVar 3) (eCB lenD (zaa (eVar 1) aNil))))) ((List.range p).map λ(k:Nat)=>PyData.int (k:Int)) [.pl (.int c),.pl (zad xs),.pl (.int (p:Int)),.pl (.int c),.ac (zad []),.no]=some (.nx env')/\
   ∃(ks:List Str)(r:Int)(s5:Sl),env'=[.pl (.int c),.pl (zad xs),.pl (.int (p:Int)),.pl (.int r),.ac (zad ks),s5]/\ks.length=(List.range p).length/\∀x∈ks,x∈xs:=by
  refine zcv (λpre env=>∃(ks:List Str)(r:Int)(s5:Sl),env=[.pl (.int c),.pl (zad xs),.pl (.int (p:Int)),.pl (.int r),.ac (zad ks),s5]/\ks.length=pre.length/\∀x∈ks,x∈xs) ⟨[],c,_,rfl,rfl,λx z=>(nomatch z)⟩ ?_
  rintro pr k po env hk ⟨ks,r,s5,rfl,kl,kx⟩
  have hl:pr.length<p:=by
   have:=congrArg List.length hk
   simp at this
   omega
  have a0:=qAC r (show((xs.length:Nat):Int)≠0 by omega)
  have a1:=qAF r (show(0:Int)<((xs.length:Nat):Int) by omega)
  obtain⟨j,hj⟩:=qB3 a0
  have hjx:j<xs.length:=by omega
  have ix:eIxV 1 (eOp modD (eVar 3) (eCB lenD (zaa (eVar 1) aNil))) [.pl (.int c),.pl (zad xs),.pl (.int (p:Int)),.pl (.int r),.ac (zad ks),.pl (.int (k:Int))]=some (vs xs[j]):=
   zaci (ds:=xs.map .str) (n:=j) rfl (by rw[zgs rfl (zabi (xs:=xs) rfl (.inl rfl)) (by omega)];congr 2) (by rw[qR,qH hjx];rfl)
  refine⟨_,[.pl (.int c),.pl (zad xs),.pl (.int (p:Int)),.pl (.int (r / ((xs.length:Nat):Int))),.ac (zad (ks++[xs[j]])),.pl (.int (k:Int))],rfl,.inl (zap (e1:=[.pl (.int c),.pl (zad xs),.pl (.int (p:Int)),.pl (.int r),.ac (zad (ks++[xs[j]])),.pl (.int (k:Int))]) ?_ (zbs (r:=vi _) (zlh rfl (zabi (xs:=xs) rfl (.inl rfl)) (by omega) (by omega)))),ks++[xs[j]],_,_,rfl,by rw[qM,qM,kl];rfl,λx hx=>(qX.mp hx).elim (kx x) λz=>by(rw[qAL.mp z];exact qA3 _)⟩
  refine(zvz (ds:=ks.map .str) rfl ix (by rw[qF];omega)).trans ?_
  have er:zad (ks++[xs[j]])=.list (ks.map .str++[.str xs[j]]):=by unfold zad;rw[qAG];rfl
  rw[er];rfl
 obtain⟨env',lp,ks,r,s5,rfl,kl,kx⟩:=lp
 rw[List.length_range]at kl
 refine⟨ks,zio (env:=[.pl (.int c),.pl (zad xs),.pl (.int (p:Int)),.no,.no,.no]) rfl (zap (e1:=[.pl (.int c),.pl (zad xs),.pl (.int (p:Int)),.pl (.int c),.no,.no]) rfl (zap (e1:=[.pl (.int c),.pl (zad xs),.pl (.int (p:Int)),.pl (.int c),.ac (zad []),.no]) rfl (zap (zin (ds:=(List.range p).map λ(k:Nat)=>PyData.int (k:Int)) (bs:=[]) ?_ lp) (zjp (bs:=[4]) (fr:=false) ?_)))),kl,kx⟩
 ·have it:=zahr (a:=eVar 2) (env:=[.pl (.int c),.pl (zad xs),.pl (.int (p:Int)),.pl (.int c),.ac (zad []),.no]) (i:=(p:Int)) (bs:=[]) rfl (by omega) (by omega)
  rw[qBB]at it
  exact it
 ·unfold eCB
  rw[zen (r:=⟨zad ks,false,[4]⟩) rfl]
  rfl
theorem zqz{A B:Sl}{xs:List Str}(hx:xs.length<=12):∀(t:Nat)(ls es:List Str)(rs:Int)(s5 s6:Sl),(es++ls).Perm xs->t<=ls.length->
  ∃es' s2 s3 s5' s6',forL (gN 5) (sSeq (sSet 6 (eOp modD (eVar 3) (eCB lenD (zaa (eVar 2) aNil)))) (sSeq (sSet 3 (eOp zdp (eVar 3) (eCB lenD (zaa (eVar 2) aNil)))) (zhf 4 2 (eVar 6)))) ((List.range' es.length t).map λ(k:Nat)=>PyData.int (k:Int)) [A,B,.ac (zad ls),.pl (.int rs),.ac (zad es),s5,s6] =
   some (.nx [A,B,s2,s3,.ac (zad es'),s5',s6'])/\(∃ls',(es'++ls').Perm xs)/\es'.length=t+es.length
 | 0,ls,es,rs,s5,s6,pm,_=>⟨es,_,_,s5,s6,rfl,⟨ls,pm⟩,by simp⟩
 | t+1,ls,es,rs,s5,s6,pm,hl=>by
  have hls:0<ls.length:=by omega
  have pl:=pm.length_eq
  rw[qM]at pl
  have a0:=qAC rs (show((ls.length:Nat):Int)≠0 by omega)
  have a1:=qAF rs (show(0:Int)<((ls.length:Nat):Int) by omega)
  have hk:(rs % ((ls.length:Nat):Int)).toNat<ls.length:=by omega
  have e9:((rs % ((ls.length:Nat):Int)).toNat:Int)=rs % ((ls.length:Nat):Int):=by omega
  generalize eA:(rs % ((ls.length:Nat):Int)).toNat=at_ at hk e9
  have pm2:((es++[ls[at_]])++ls.eraseIdx at_).Perm xs:=by
   refine List.Perm.trans ?_ pm
   rw[qAX]
   exact qCi es (znp ls at_ hk)
  obtain⟨es',s2,s3,s5',s6',q,hp,hlen⟩:=zqz (A:=A) (B:=B) hx t (ls.eraseIdx at_) (es++[ls[at_]]) (rs / ((ls.length:Nat):Int)) (.pl (.int (es.length:Int))) (.pl (.int (at_:Int))) pm2 (by rw[qCh hk];omega)
  refine⟨es',s2,s3,s5',s6',?_,hp,by rw[hlen];simp;omega⟩
  rw[List.range'_succ,qd]
  unfold forL
  simp only[gN,qE,qBX,qBW]
  have st1:sSet 6 (eOp modD (eVar 3) (eCB lenD (zaa (eVar 2) aNil))) [A,B,.ac (zad ls),.pl (.int rs),.ac (zad es),.pl (.int (es.length:Int)),s6]=some (.nx [A,B,.ac (zad ls),.pl (.int rs),.ac (zad es),.pl (.int (es.length:Int)),.pl (.int (at_:Int))]):=by
   have:=zbs (i:=6) (zgs (a:=eVar 3) (env:=[A,B,.ac (zad ls),.pl (.int rs),.ac (zad es),.pl (.int (es.length:Int)),s6]) rfl (zqd (a:=eVar 2) rfl) (by rw[qF];omega))
   rw[this,qF,<- e9];rfl
  have st2:sSet 3 (eOp zdp (eVar 3) (eCB lenD (zaa (eVar 2) aNil))) [A,B,.ac (zad ls),.pl (.int rs),.ac (zad es),.pl (.int (es.length:Int)),.pl (.int (at_:Int))]=some (.nx [A,B,.ac (zad ls),.pl (.int (rs / ((ls.length:Nat):Int))),.ac (zad es),.pl (.int (es.length:Int)),.pl (.int (at_:Int))]):=by
   have:=zbs (i:=3) (zlh (a:=eVar 3) (env:=[A,B,.ac (zad ls),.pl (.int rs),.ac (zad es),.pl (.int (es.length:Int)),.pl (.int (at_:Int))]) rfl (zqd (a:=eVar 2) rfl) (by rw[qF];omega) (by rw[qF];omega))
   rw[this,qF];rfl
  have st3:zhf 4 2 (eVar 6) [A,B,.ac (zad ls),.pl (.int (rs / ((ls.length:Nat):Int))),.ac (zad es),.pl (.int (es.length:Int)),.pl (.int (at_:Int))]=some (.nx [A,B,.ac (zad (ls.eraseIdx at_)),.pl (.int (rs / ((ls.length:Nat):Int))),.ac (zad (es++[ls[at_]])),.pl (.int (es.length:Int)),.pl (.int (at_:Int))]):=by
   simp only[zhf,zad,eVar,qAE,qAD,qE]
   rw[if_pos ⟨by omega,by omega,by rw[qF];omega,by decide⟩,qBB,qR,qH hk]
   simp[zqf]
  rw[zap st1 (zap st2 st3),qE]
  rw[show(es++[ls[at_]]).length=es.length+1 by simp]at q
  exact q
theorem zapr{c:Int}{xs:List Str}(h0:0<xs.length)(h12:xs.length<=12):∃ar,zea [.int c,zad xs]=some (zag ar,false)/\(∀x∈ar,x∈xs)/\ar.length<=12/\ar≠[]:=by
 have m4:=qAC c (show((xs.length:Nat):Int)≠0 by omega)
 have m4':=qAF c (show(0:Int)<((xs.length:Nat):Int) by omega)
 generalize eN:1+c % ((xs.length:Nat):Int)=N
 have hN:1<=N/\N<=xs.length:=by omega
 obtain⟨es,s2,s3,s5,s6,q,⟨ls,pm⟩,hes⟩:=zqz (A:=.pl (.int c)) (B:=.pl (zad xs)) h12 N.toNat xs [] (c / ((xs.length:Nat):Int)) .no .no (qCP _) (by omega)
 have hes:es.length=N.toNat:=by simpa using hes
 refine⟨es,zio (env:=[.pl (.int c),.pl (zad xs),.no,.no,.no,.no,.no]) rfl (zap (e1:=[.pl (.int c),.pl (zad xs),.ac (zad xs),.no,.no,.no,.no]) rfl (zap (zbs (r:=vi _) (zlh rfl (zabi (xs:=xs) rfl (.inl rfl)) (by omega) (by omega))) (zap rfl (zap (zin (ds:=(List.range' ([]:List Str).length N.toNat).map λ(k:Nat)=>PyData.int (k:Int)) (bs:=[]) ?_ q) (zjp (bs:=[4]) (fr:=false) ?_))))),λx hx=>pm.mem_iff.mp (qu _ hx),by omega,λz=>by rw[z]at hes;simp at hes;omega⟩
 ·have it:=zahr (a:=eOp addD (eC (.int 1)) (eOp modD (eVar 0) (eCB lenD (zaa (eVar 1) aNil)))) (env:=[.pl (.int c),.pl (zad xs),.ac (zad xs),.pl (.int (c / ((xs.length:Nat):Int))),.ac (.list []),.no,.no]) (i:=N) (bs:=[]) (by rw[<- eN];exact ztm rfl (zgs rfl (zabi (xs:=xs) rfl (.inl rfl)) (by omega))) (by omega) (by omega)
  rw[qDD]at it
  exact it
 ·unfold eCB
  rw[zen (r:=⟨zad es,false,[4]⟩) rfl]
  rfl
structure Cl12(xs:List Str)(c:List Arm):Prop where
 kinds:∀a∈c,∀n∈a.parts,n∈xs
 few:∀a∈c,a.parts.length<=12
 some:∀a∈c,a.parts≠[]
theorem zala{cs:List Int}{xs:List Str}{p:Nat}(hp:p<=3)(hc:cs.length=3)(h0:0<xs.length)(h12:xs.length<=12):∃c,zdn [zco cs,zad xs,.int (p:Int)]=some (zbc c,false)/\c.length=p/\Cl12 xs c:=by
 have lp:∃env',forL (gN 4) (sSeq (sSet 5 (zas 2 zea (zaa (eOp zdp (eIxV 0 (eVar 4)) (eC (.int 2))) (zaa (eVar 1) aNil))))
  (sSeq (sIf (zbt (eOp eqD (eOp modD (eIxV 0 (eVar 4)) (eC (.int 2))) (eC (.int 0)))) (sSet 5 (eIxV 5 (eC (.int 0)))) sNil)
  (sApp 3 (eVar 5)))) ((List.range p).map λ(k:Nat)=>PyData.int (k:Int)) [.pl (zco cs),.pl (zad xs),.pl (.int (p:Int)),.ac (.list []),.no,.no]=some (.nx env')/\
   ∃(c:List Arm)(s4 s5:Sl),env'=[.pl (zco cs),.pl (zad xs),.pl (.int (p:Int)),.ac (.list (c.map armD)),s4,s5]/\c.length=(List.range p).length/\Cl12 xs c:=by
  refine zcv (λpre env=>∃(c:List Arm)(s4 s5:Sl),env=[.pl (zco cs),.pl (zad xs),.pl (.int (p:Int)),.ac (.list (c.map armD)),s4,s5]/\c.length=pre.length/\Cl12 xs c) ⟨[],_,_,rfl,rfl,λa z=>(nomatch z),λa z=>(nomatch z),λa z=>(nomatch z)⟩ ?_
  rintro pre k post env hk ⟨c,s4,s5,rfl,cl,ok⟩
  have hkp:k<p:=qAq.mp (by rw[<- hk];simp)
  have hpl:pre.length<p:=by
   have:=congrArg List.length hk
   simp at this
   omega
  have hkc:k<cs.length:=by omega
  have ix:∀{s5:Sl},eIxV 0 (eVar 4) [.pl (zco cs),.pl (zad xs),.pl (.int (p:Int)),.ac (.list (c.map armD)),.pl (.int (k:Int)),s5]=some (vi cs[k]):=λ{s5}=>zaci (ds:=cs.map .int) (n:=k) rfl rfl (by rw[qR,qH hkc];rfl)
  obtain⟨ar,ga,ax,al,ane⟩:=zapr (c:=cs[k] / 2) h0 h12
  have e5:sSet 5 (zas 2 zea (zaa (eOp zdp (eIxV 0 (eVar 4)) (eC (.int 2))) (zaa (eVar 1) aNil))) [.pl (zco cs),.pl (zad xs),.pl (.int (p:Int)),.ac (.list (c.map armD)),.pl (.int (k:Int)),s5]=some (.nx [.pl (zco cs),.pl (zad xs),.pl (.int (p:Int)),.ac (.list (c.map armD)),.pl (.int (k:Int)),.pl (zag ar)]):=
   zbs (r:=⟨zag ar,false,[]⟩) (zbj (n:=2) (rs:=[vi (cs[k] / 2),⟨zad xs,false,[]⟩]) (zaz (zlh ix rfl (by decide) (by decide)) (zen rfl)) rfl ga)
  have t1:zbt (eOp eqD (eOp modD (eIxV 0 (eVar 4)) (eC (.int 2))) (eC (.int 0))) [.pl (zco cs),.pl (zad xs),.pl (.int (p:Int)),.ac (.list (c.map armD)),.pl (.int (k:Int)),.pl (zag ar)]=some (cs[k] % 2==0):=ziq (zvy (zgs ix rfl (by decide)) rfl)
  have fin:∀(a:Arm),a.parts≠[]->(∀n∈a.parts,n∈xs)->a.parts.length<=12->Cl12 xs (c++[a]):=λa h1 h2 h3=>
   ⟨λb hb=>(qX.mp hb).elim (ok.kinds b) λz=>by(rw[qAL.mp z];exact h2),λb hb=>(qX.mp hb).elim (ok.few b) λz=>by(rw[qAL.mp z];exact h3),λb hb=>(qX.mp hb).elim (ok.some b) λz=>by(rw[qAL.mp z];exact h1)⟩
  have app:∀(a:Arm),sApp 3 (eVar 5) [.pl (zco cs),.pl (zad xs),.pl (.int (p:Int)),.ac (.list (c.map armD)),.pl (.int (k:Int)),.pl (armD a)]=some (.nx [.pl (zco cs),.pl (zad xs),.pl (.int (p:Int)),.ac (.list ((c++[a]).map armD)),.pl (.int (k:Int)),.pl (armD a)]):=λa=>by
   refine(zvz (ds:=c.map armD) (d:=armD a) (fr:=false) rfl rfl (by rw[qF];omega)).trans ?_
   rw[qAG];rfl
  have ln:∀a:Arm,(c++[a]).length=(pre++[k]).length:=λa=>by rw[qM,qM,cl];rfl
  cases hb:(cs[k] % 2==0)with
  | true=>
   rw[hb]at t1
   obtain⟨x,r,rfl⟩:=List.exists_cons_of_ne_nil ane
   exact⟨_,_,rfl,.inl (zap e5 (zap (e1:=[.pl (zco cs),.pl (zad xs),.pl (.int (p:Int)),.ac (.list (c.map armD)),.pl (.int (k:Int)),.pl (armD (.one x))]) (if_t t1 (zbs (r:=vs x) (zamo (ds:=(x::r).map .str) (n:=0) rfl rfl rfl))) (app (.one x)))),c++[.one x],_,_,rfl,ln _,fin _ (by simp[Arm.parts]) (λn hn=>by rw[qAL.mp hn];exact ax x (by simp)) (by show 1<=12;decide)⟩
  | false=>
   rw[hb]at t1
   exact⟨_,_,rfl,.inl (zap e5 (zap (e1:=[.pl (zco cs),.pl (zad xs),.pl (.int (p:Int)),.ac (.list (c.map armD)),.pl (.int (k:Int)),.pl (armD (.many ar))]) (if_f t1 rfl) (app (.many ar)))),c++[.many ar],_,_,rfl,ln _,fin (.many ar) ane ax al⟩
 obtain⟨env',lp,c,s4,s5,rfl,cl,ok⟩:=lp
 rw[List.length_range]at cl
 refine⟨c,zio (env:=[.pl (zco cs),.pl (zad xs),.pl (.int (p:Int)),.no,.no,.no]) rfl (zap (e1:=[.pl (zco cs),.pl (zad xs),.pl (.int (p:Int)),.ac (.list []),.no,.no]) rfl (zap (zin (ds:=(List.range p).map λ(k:Nat)=>PyData.int (k:Int)) (bs:=[]) ?_ lp) (zjp (bs:=[3]) (fr:=false) ?_))),cl,ok⟩
 ·have it:=zahr (a:=eVar 2) (env:=[.pl (zco cs),.pl (zad xs),.pl (.int (p:Int)),.ac (.list []),.no,.no]) (i:=(p:Int)) (bs:=[]) rfl (by omega) (by omega)
  rw[qBB]at it
  exact it
 ·unfold eCB
  rw[zen (r:=⟨.list (c.map armD),false,[3]⟩) rfl]
  rfl
theorem zaht{ds:List PyData}{k:Nat}{d:PyData}(hk:k<ds.length)(hl:ds.length<=100):zbm [.tuple ds,.int (k:Int),d]=some (.tuple (ds.take k++[d]++ds.drop (k+1)),false):=by
 have s1:eSlT (eVar 0) zdy (zbo (eVar 1)) [.pl (.tuple ds),.pl (.int (k:Int)),.pl d]=some ⟨.tuple (ds.take k),false,[]⟩:=zapq (ds:=ds) (f:=false) (lo:=none) (hi:=some (k:Int)) rfl rfl rfl (zto _ _ (by omega))
 have s2:eSlT (eVar 0) (zbo (eOp addD (eVar 1) (eC (.int 1)))) zdy [.pl (.tuple ds),.pl (.int (k:Int)),.pl d]=some ⟨.tuple (ds.drop (k+1)),false,[]⟩:=zapq (ds:=ds) (f:=false) (lo:=some ((k+1:Nat):Int)) (hi:=none) rfl (zli (i:=((k+1:Nat):Int)) ((ztm (i:=(k:Int)) (j:=1) rfl rfl).trans (by rw[show(k:Int)+1=((k+1:Nat):Int) by omega]))) rfl (ztw _ _)
 have s3:=zasr (a:=eSlT (eVar 0) zdy (zbo (eVar 1))) (b:=eTup (zaa (eVar 2) aNil)) (y:=[d]) (f2:=false) s1 rfl (by rw[qAK];show _+1<=100000;omega)
 have s4:=zamp s3 s2 (by rw[qM,qAK,qAP];show _+1+_<=100000;omega) (by simp)
 exact zio (env:=[.pl (.tuple ds),.pl (.int (k:Int)),.pl d]) rfl (zjp s4)
noncomputable def putK(ks:List Str)(k:Nat)(o:Str):List Str:=ks.take k++[o]++ks.drop (k+1)
theorem zamq{ks:List Str}{k:Nat}{o:Str}(hk:k<ks.length)(hl:ks.length<=100):zbm [zag ks,.int (k:Int),.str o]=some (zag (putK ks k o),false):=by
 have:=zaht (ds:=ks.map .str) (d:=.str o) (k:=k) (by rw[qF];exact hk) (by rw[qF];exact hl)
 unfold zag putK
 rw[this,qAG,qAG,qBL,qBj];rfl
theorem zast{c:List Arm}{k:Nat}{a:Arm}(hk:k<c.length)(hl:c.length<=100):zbm [zbc c,.int (k:Int),armD a]=some (zbc (putA c k a),false):=by
 have:=zaht (ds:=c.map armD) (d:=armD a) (k:=k) (by rw[qF];exact hk) (by rw[qF];exact hl)
 unfold zbc putA
 rw[this,qAG,qAG,qBL,qBj];rfl
theorem zabj{ks:List Str}{k:Nat}{o:Str}(h:k<ks.length):(putK ks k o).length=ks.length:=by
 unfold putK
 rw[qM,qM,qAK,qAP]
 show _+1+_=_
 omega
theorem zabk{ks:List Str}{k:Nat}{o x:Str}(h:x∈putK ks k o):x=o\/x∈ks:=by
 unfold putK at h
 rcases qX.mp h with z|z
 ·rcases qX.mp z with z|z
  ·exact .inr (qAO z)
  ·exact .inl (qAL.mp z)
 ·exact .inr (qA8 z)
theorem zxi{f:OF}{a b:EF}{env:DEnv}{x y:PyData}{f1 f2:Bool}{b1 b2:List Nat}{c:Bool}(ha:a env=some ⟨x,f1,b1⟩)(hb:b env=some ⟨y,f2,b2⟩)(h:f x y=some (.bool c,false)):eOp f a b env=some (vb c):=by
 unfold eOp;rw[ha,hb];simp only[qE];rw[h];rfl
theorem zoa{js:List Nat}{n:Nat}{gf:GFX}{a:AF}{g:ResX->Option PyData}{env:DEnv}{cs rs:List Val}{r:ResX}{d:PyData}(h1:zakd js env=some cs)(h2:a ((zge cs).map .pl)=some rs)(hn:rs.length=n)(h3:gf (zge rs)=some r)(h4:g r=some d):zlg js n gf a g env=some ⟨d,false,bsOf d (bss cs)⟩:=by
 unfold zlg
 rw[h1,qE,h2,qE,if_pos hn,h3,qE,h4];rfl
theorem zoy{W:Web}{l1 l2:List Str}{x:Str}(h1:∀y∈l1,y∈nm W)(h2:x∉nm W):zgl W (l1++x::l2)=some x:=
 zacy (λy hy=>by rw[decide_eq_true (h1 y hy)];rfl) (by rw[decide_eq_false h2];rfl)
noncomputable abbrev zgm(W:Web)(ks:List Str)(c:List Arm)(z0 z1 z2:Int)(o0 o1:Str)(s5 s6 s7 s8 s9 s10:Sl):DEnv:=[.pl (webD W),.pl (zag ks),.pl (zbc c),.pl (zco [z0,z1,z2]),.pl (zad [o0,o1]),s5,s6,s7,s8,s9,s10]
noncomputable abbrev tupC:EF:=eTup (zaa (eC (.bool true)) (zaa (eC (.bool false)) (zaa (eC (.bool true)) (zaa (eC .none) aNil))))
theorem zasu:qAb (.tuple [.bool true,.bool false,.bool true,.none])=true:=zxh (k:=1) (zamm (zku zny (zku zny (zku zny (zku zapp zamn))))) (by decide)
theorem zalb{x:Str}(h:qAe x=true):qAb (.tuple [.bool false,.bool true,.bool true,.str x])=true:=zxh (k:=1) (zamm (zku zny (zku zny (zku zny (zku (zasq h) zamn))))) (by decide)
theorem zra{e b:EF}{env:DEnv}{d:PyData}{b1 b2:List Nat}(ha:e env=some ⟨d,false,b1⟩)(hb:b env=some ⟨d,false,b2⟩)(s:qAb d=true):sIf (zbt (eOp neD e b)) (sRet (eC (.bool false))) sNil env=some (.nx env):=if_f (zaub ha hb s) rfl
structure Rf12(W:Web)(ks:List Str)(c:List Arm)(o0 o1:Str):Prop where
 w:WebOk W
 wl:W.length<100000
 kn:∀k∈ks,k∈nm W
 ok:Cl12 (nm W) c
 len:c.length=ks.length
 p1:1<=ks.length
 p3:ks.length<=3
 n0:o0∉nm W
 n1:o1∉nm W
 a0:atD (.str o0)=true
 a1:atD (.str o1)=true
 l0:qAe o0=true
 l1:qAe o1=true
section
variable{W:Web}{ks:List Str}{c:List Arm}{o0 o1:Str}
theorem Rf12.at_(r:Rf12 W ks c o0 o1){l:List Str}(h:∀y∈l,y=o0\/y=o1\/y∈nm W):∀y∈l,y∉nm W->atD (.str y)=true:=λy hy n=>by
 rcases h y hy with rfl|rfl|z
 ·exact r.a0
 ·exact r.a1
 ·exact absurd z n
theorem Rf12.put(r:Rf12 W ks c o0 o1){by_:Nat}(hb:by_<c.length){A:Arm}{pre:List Str}(hA:A.parts=pre++[o1])(hp:∀y∈pre,y∈nm W)(hl:A.parts.length<=13) :
  (∀a∈putA c by_ A,a.parts.length<300)/\(∀y∈(putA c by_ A).flatMap Arm.parts,y=o0\/y=o1\/y∈nm W)/\∃l1 l2,(putA c by_ A).flatMap Arm.parts=l1++o1::l2/\∀y∈l1,y∈nm W:=by
 refine⟨λa ha=>?_,λy hy=>?_,?_⟩
 ·rcases zabe ha with rfl|z
  ·omega
  ·have:=r.ok.few a z;omega
 ·obtain⟨a,ha,hy2⟩:=qBO.mp hy
  rcases zabe ha with e|z
  ·rw[e,hA]at hy2
   rcases qX.mp hy2 with z|z
   ·exact .inr (.inr (hp y z))
   ·exact .inr (.inl (qAL.mp z))
  ·exact .inr (.inr (r.ok.kinds a z y hy2))
 ·refine⟨(c.take by_).flatMap Arm.parts++pre,(c.drop (by_+1)).flatMap Arm.parts,?_,λy hy=>?_⟩
  ·unfold putA
   rw[qDK,qDK]
   show(c.take by_).flatMap Arm.parts++(A.parts++[])++_=_
   rw[hA]
   simp
  ·rcases qX.mp hy with z|z
   ·obtain⟨a,ha,hy⟩:=qBO.mp z
    exact r.ok.kinds a (qAO ha) y hy
   ·exact hp y z
theorem zzf(r:Rf12 W ks c o0 o1)(z0 z1 z2:Int):zcx [webD W,zag ks,zbc c,zco [z0,z1,z2],zad [o0,o1]]=some (.bool true,false):=by
 have p1:=r.p1
 have p3:=r.p3
 have hlen:=r.len
 have lenK:∀{s5 s6 s7 s8 s9 s10:Sl},eCB lenD (zaa (eVar 1) aNil) (zgm W ks c z0 z1 z2 o0 o1 s5 s6 s7 s8 s9 s10)=some (vi ((ks.length:Nat):Int)):=λ{s5 s6 s7 s8 s9 s10}=>by
  show some (vi (((ks.map PyData.str).length:Nat):Int))=_
  rw[qF]
 have md:∀z:Int,∃k:Nat,z % ((ks.length:Nat):Int)=(k:Int)/\k<ks.length:=λz=>by
  have a0:=qAC z (show((ks.length:Nat):Int)≠0 by omega)
  have a1:=qAF z (show(0:Int)<((ks.length:Nat):Int) by omega)
  exact⟨(z % ((ks.length:Nat):Int)).toNat,by omega,by omega⟩
 obtain⟨at_,ea,ha⟩:=md z0
 obtain⟨by_,eb,hb⟩:=md z1
 have hbc:by_<c.length:=by omega
 have e5:sSet 5 (eOp modD (eIxV 3 (eC (.int 0))) (eCB lenD (zaa (eVar 1) aNil))) (zgm W ks c z0 z1 z2 o0 o1 .no .no .no .no .no .no)=some (.nx (zgm W ks c z0 z1 z2 o0 o1 (.pl (.int (at_:Int))) .no .no .no .no .no)):=by
  refine(zbs (r:=vi _) (zgs (i:=z0) rfl lenK (by omega))).trans ?_
  rw[ea];rfl
 have e6:sSet 6 (eOp modD (eIxV 3 (eC (.int 1))) (eCB lenD (zaa (eVar 1) aNil))) (zgm W ks c z0 z1 z2 o0 o1 (.pl (.int (at_:Int))) .no .no .no .no .no)=some (.nx (zgm W ks c z0 z1 z2 o0 o1 (.pl (.int (at_:Int))) (.pl (.int (by_:Int))) .no .no .no .no)):=by
  refine(zbs (r:=vi _) (zgs (i:=z1) rfl lenK (by omega))).trans ?_
  rw[eb];rfl
 obtain⟨A,pre,hA,hpre,hAl,e7⟩:∃(A:Arm)(pre:List Str),A.parts=pre++[o1]/\(∀y∈pre,y∈nm W)/\A.parts.length<=13/\
   sSeq (sSet 7 (eIxV 4 (eC (.int 1)))) (sSeq (sIf (zbt (eOp eqD (eOp modD (eIxV 3 (eC (.int 2))) (eC (.int 2))) (eC (.int 1)))) (sSet 7 (eCB zkc (zaa (eOp addD (zas 1 zbf (zaa (eIxV 2 (eVar 6)) aNil)) (eLst (zaa (eIxV 4 (eC (.int 1))) aNil))) aNil))) sNil) sNil) (zgm W ks c z0 z1 z2 o0 o1 (.pl (.int (at_:Int))) (.pl (.int (by_:Int))) .no .no .no .no)=some (.nx (zgm W ks c z0 z1 z2 o0 o1 (.pl (.int (at_:Int))) (.pl (.int (by_:Int))) (.pl (armD A)) .no .no .no)):=by
  have t1:zbt (eOp eqD (eOp modD (eIxV 3 (eC (.int 2))) (eC (.int 2))) (eC (.int 1))) (zgm W ks c z0 z1 z2 o0 o1 (.pl (.int (at_:Int))) (.pl (.int (by_:Int))) (.pl (.str o1)) .no .no .no)=some (z2 % 2==1):=ziq (zvy (zgs (i:=z2) rfl rfl (by decide)) rfl)
  cases hz:(z2 % 2==1)with
  | false=>
   rw[hz]at t1
   exact⟨.one o1,[],rfl,λy z=>(nomatch z),by show 1<=13;decide,zap (e1:=zgm W ks c z0 z1 z2 o0 o1 (.pl (.int (at_:Int))) (.pl (.int (by_:Int))) (.pl (.str o1)) .no .no .no) rfl (zap (if_f t1 rfl) rfl)⟩
  | true=>
   rw[hz]at t1
   have few:=r.ok.few c[by_] (qA3 _)
   have ix:eIxV 2 (eVar 6) (zgm W ks c z0 z1 z2 o0 o1 (.pl (.int (at_:Int))) (.pl (.int (by_:Int))) (.pl (.str o1)) .no .no .no)=some ⟨armD c[by_],false,[]⟩:=zamo (ds:=c.map armD) (n:=by_) rfl rfl (by rw[qR,qH hbc];rfl)
   have ni:zas 1 zbf (zaa (eIxV 2 (eVar 6)) aNil) (zgm W ks c z0 z1 z2 o0 o1 (.pl (.int (at_:Int))) (.pl (.int (by_:Int))) (.pl (.str o1)) .no .no .no)=some ⟨zad c[by_].parts,true,[]⟩:=zbj (n:=1) (rs:=[⟨armD c[by_],false,[]⟩]) (zen ix) rfl (zeq _)
   have ad:=zxg (b:=eLst (zaa (eIxV 4 (eC (.int 1))) aNil)) (y:=[o1]) (f2:=true) (b2:=[]) ni rfl (by show _+1<=100000;omega)
   refine⟨.many (c[by_].parts++[o1]),c[by_].parts,rfl,λy hy=>r.ok.kinds _ (qA3 _) y hy,by show(c[by_].parts++[o1]).length<=13;rw[qM];show _+1<=13;omega,zap (e1:=zgm W ks c z0 z1 z2 o0 o1 (.pl (.int (at_:Int))) (.pl (.int (by_:Int))) (.pl (.str o1)) .no .no .no) rfl (zap (if_t t1 (zbs (r:=⟨zag (c[by_].parts++[o1]),false,[]⟩) ?_)) rfl)⟩
   unfold eCB
   rw[zen ad]
   rfl
 obtain⟨w1,w2,l1,l2,w3,w4⟩:=r.put hbc hA hpre hAl
 have wl:=zakw (a:=A) hbc
 have sl:=zabj (o:=o0) ha
 have e8:sSet 8 (zas 3 zbm (zaa (eVar 2) (zaa (eVar 6) (zaa (eVar 7) aNil)))) (zgm W ks c z0 z1 z2 o0 o1 (.pl (.int (at_:Int))) (.pl (.int (by_:Int))) (.pl (armD A)) .no .no .no)=some (.nx (zgm W ks c z0 z1 z2 o0 o1 (.pl (.int (at_:Int))) (.pl (.int (by_:Int))) (.pl (armD A)) (.pl (zbc (putA c by_ A))) .no .no)):=
  zbs (r:=⟨zbc (putA c by_ A),false,[]⟩) (zbj (n:=3) (rs:=[⟨zbc c,false,[]⟩,vi (by_:Int),⟨armD A,false,[]⟩]) rfl rfl (zast hbc (by omega)))
 have e9:sSet 9 (zas 3 zbm (zaa (eVar 1) (zaa (eVar 5) (zaa (eIxV 4 (eC (.int 0))) aNil)))) (zgm W ks c z0 z1 z2 o0 o1 (.pl (.int (at_:Int))) (.pl (.int (by_:Int))) (.pl (armD A)) (.pl (zbc (putA c by_ A))) .no .no)=some (.nx (zgm W ks c z0 z1 z2 o0 o1 (.pl (.int (at_:Int))) (.pl (.int (by_:Int))) (.pl (armD A)) (.pl (zbc (putA c by_ A))) (.pl (zag (putK ks at_ o0))) .no)):=
  zbs (r:=⟨zag (putK ks at_ o0),false,[]⟩) (zbj (n:=3) (rs:=[⟨zag ks,false,[]⟩,vi (at_:Int),vs o0]) rfl rfl (zamq ha (by omega)))
 have e10:sSet 10 (eOp addD (eVar 8) (eTup (zaa (eIxV 4 (eC (.int 0))) aNil))) (zgm W ks c z0 z1 z2 o0 o1 (.pl (.int (at_:Int))) (.pl (.int (by_:Int))) (.pl (armD A)) (.pl (zbc (putA c by_ A))) (.pl (zag (putK ks at_ o0))) .no)=some (.nx (zgm W ks c z0 z1 z2 o0 o1 (.pl (.int (at_:Int))) (.pl (.int (by_:Int))) (.pl (armD A)) (.pl (zbc (putA c by_ A))) (.pl (zag (putK ks at_ o0))) (.pl (zbc (putA c by_ A++[.one o0]))))):=by
  have ne:(putA c by_ A).map armD≠[]:=λz=>by
   have h0:((putA c by_ A).map armD).length=0:=by rw[z];rfl
   rw[qF,wl]at h0
   omega
  refine(zbs (zamp (a:=eVar 8) (b:=eTup (zaa (eIxV 4 (eC (.int 0))) aNil)) (x:=(putA c by_ A).map armD) (y:=[.str o0]) (f1:=false) (f2:=false) rfl rfl (by rw[qF,wl];show _+1<=100000;omega) ne)).trans ?_
  have:zbc (putA c by_ A++[.one o0])=.tuple ((putA c by_ A).map armD++[.str o0]):=by unfold zbc;rw[qAG];rfl
  rw[this];rfl
 have sFirst:∀l:List Str,zgl W (putK ks at_ o0++l)=some o0:=λl=>by
  unfold putK
  rw[qAX,qAX]
  exact zoy (λy hy=>r.kn y (qAO hy)) r.n0
 have sMem:∀y∈putK ks at_ o0,y=o0\/y=o1\/y∈nm W:=λy hy=>(zabk hy).imp id λz=>.inr (r.kn y z)
 have tC:=zqy
 have t1:=zra (env:=zgm W ks c z0 z1 z2 o0 o1 (.pl (.int (at_:Int))) (.pl (.int (by_:Int))) (.pl (armD A)) (.pl (zbc (putA c by_ A))) (.pl (zag (putK ks at_ o0))) (.pl (zbc (putA c by_ A++[.one o0])))) (b:=tupC) (b2:=[]) (zoa (js:=[0,9,10]) (n:=3) (a:=zaa (eVar 0) (zaa (eVar 1) (zaa (eVar 2) aNil))) (cs:=[⟨webD W,false,[]⟩,⟨zag (putK ks at_ o0),false,[]⟩,⟨zbc (putA c by_ A++[.one o0]),false,[]⟩]) (rs:=[⟨webD W,false,[]⟩,⟨zag (putK ks at_ o0),false,[]⟩,⟨zbc (putA c by_ A++[.one o0]),false,[]⟩]) rfl rfl rfl (zqx (by rw[qM,wl,sl];show _+1≠_;omega)) zqy) rfl zasu
 have hsl:eSlT (eVar 2) (zbo (eC (.int 1))) zdy [.pl (webD W),.pl (zag ks),.pl (zbc c)]=some ⟨zbc (c.drop 1),false,[]⟩:=zapq (ds:=c.map armD) (f:=false) (lo:=some ((1:Nat):Int)) (hi:=none) rfl rfl rfl (by rw[ztw,qBj])
 have t2:=zra (env:=zgm W ks c z0 z1 z2 o0 o1 (.pl (.int (at_:Int))) (.pl (.int (by_:Int))) (.pl (armD A)) (.pl (zbc (putA c by_ A))) (.pl (zag (putK ks at_ o0))) (.pl (zbc (putA c by_ A++[.one o0])))) (b:=tupC) (b2:=[]) (zoa (js:=[0,1,2]) (n:=3) (a:=zaa (eVar 0) (zaa (eVar 1) (zaa (eSlT (eVar 2) (zbo (eC (.int 1))) zdy) aNil))) (cs:=[⟨webD W,false,[]⟩,⟨zag ks,false,[]⟩,⟨zbc c,false,[]⟩]) (rs:=[⟨webD W,false,[]⟩,⟨zag ks,false,[]⟩,⟨zbc (c.drop 1),false,[]⟩]) rfl (zaz rfl (zaz rfl (zen hsl))) rfl (zqx (by rw[qAP];omega)) zqy) rfl zasu
 have t3:=zra (env:=zgm W ks c z0 z1 z2 o0 o1 (.pl (.int (at_:Int))) (.pl (.int (by_:Int))) (.pl (armD A)) (.pl (zbc (putA c by_ A))) (.pl (zag (putK ks at_ o0))) (.pl (zbc (putA c by_ A++[.one o0])))) (b:=eTup (zaa (eC (.bool false)) (zaa (eC (.bool true)) (zaa (eC (.bool true)) (zaa (eIxV 4 (eC (.int 0))) aNil))))) (b2:=[]) (zoa (js:=[0,8,9]) (n:=3) (a:=zaa (eVar 0) (zaa (eVar 2) (zaa (eVar 1) aNil))) (cs:=[⟨webD W,false,[]⟩,⟨zbc (putA c by_ A),false,[]⟩,⟨zag (putK ks at_ o0),false,[]⟩]) (rs:=[⟨webD W,false,[]⟩,⟨zag (putK ks at_ o0),false,[]⟩,⟨zbc (putA c by_ A),false,[]⟩]) rfl rfl rfl (zol r.wl (by rw[wl,sl];exact hlen) (by rw[wl];omega) w1 (sFirst _) (r.at_ λy hy=>(qX.mp hy).elim (sMem y) (w2 y))) (zna o0)) rfl (zalb r.l0)
 have t4:=zra (env:=zgm W ks c z0 z1 z2 o0 o1 (.pl (.int (at_:Int))) (.pl (.int (by_:Int))) (.pl (armD A)) (.pl (zbc (putA c by_ A))) (.pl (zag (putK ks at_ o0))) (.pl (zbc (putA c by_ A++[.one o0])))) (b:=eTup (zaa (eC (.bool false)) (zaa (eC (.bool true)) (zaa (eC (.bool true)) (zaa (eIxV 4 (eC (.int 1))) aNil))))) (b2:=[]) (zoa (js:=[0,1,8]) (n:=3) (a:=zaa (eVar 0) (zaa (eVar 1) (zaa (eVar 2) aNil))) (cs:=[⟨webD W,false,[]⟩,⟨zag ks,false,[]⟩,⟨zbc (putA c by_ A),false,[]⟩]) (rs:=[⟨webD W,false,[]⟩,⟨zag ks,false,[]⟩,⟨zbc (putA c by_ A),false,[]⟩]) rfl rfl rfl (zol r.wl (by rw[wl];exact hlen) (by rw[wl];omega) w1 (by rw[w3,<- qAX];exact zoy (λy hy=>(qX.mp hy).elim (r.kn y) (w4 y)) r.n1) (r.at_ λy hy=>(qX.mp hy).elim (λz=>.inr (.inr (r.kn y z))) (w2 y))) (zna o1)) rfl (zalb r.l1)
 have t5:=zra (env:=zgm W ks c z0 z1 z2 o0 o1 (.pl (.int (at_:Int))) (.pl (.int (by_:Int))) (.pl (armD A)) (.pl (zbc (putA c by_ A))) (.pl (zag (putK ks at_ o0))) (.pl (zbc (putA c by_ A++[.one o0])))) (b:=eTup (zaa (eC (.bool false)) (zaa (eC (.bool true)) (zaa (eC (.bool true)) (zaa (eIxV 4 (eC (.int 0))) aNil))))) (b2:=[]) (zoa (js:=[0,1,9]) (n:=3) (a:=zaa (eVar 0) (zaa (eVar 1) (zaa (eVar 2) aNil))) (cs:=[⟨webD W,false,[]⟩,⟨zag ks,false,[]⟩,⟨zag (putK ks at_ o0),false,[]⟩]) (rs:=[⟨webD W,false,[]⟩,⟨zag ks,false,[]⟩,⟨zag (putK ks at_ o0),false,[]⟩]) rfl rfl rfl (zlm r.wl (by omega) (by rw[sl];omega) (by
  unfold putK
  rw[qAX,<- qAX]
  exact zoy (l2:=ks.drop (at_+1)) (λy hy=>(qX.mp hy).elim (r.kn y) λz=>r.kn y (qAO z)) r.n0) (r.at_ λy hy=>(qX.mp hy).elim (λz=>.inr (.inr (r.kn y z))) (sMem y))) (zna o0)) rfl (zalb r.l0)
 have pl:=zabj (o:=o1) hb
 have t6:=zoa (env:=zgm W ks c z0 z1 z2 o0 o1 (.pl (.int (at_:Int))) (.pl (.int (by_:Int))) (.pl (armD A)) (.pl (zbc (putA c by_ A))) (.pl (zag (putK ks at_ o0))) (.pl (zbc (putA c by_ A++[.one o0])))) (js:=[0,1,4,6,9]) (n:=3) (gf:=zey) (a:=zaa (eVar 0) (zaa (zas 3 zbm (zaa (eVar 1) (zaa (eVar 3) (zaa (eIxV 2 (eC (.int 1))) aNil)))) (zaa (eVar 4) aNil))) (g:=zbb) (cs:=[⟨webD W,false,[]⟩,⟨zag ks,false,[]⟩,⟨zad [o0,o1],false,[]⟩,vi (by_:Int),⟨zag (putK ks at_ o0),false,[]⟩]) (rs:=[⟨webD W,false,[]⟩,⟨zag (putK ks by_ o1),false,[]⟩,⟨zag (putK ks at_ o0),false,[]⟩]) rfl (zaz rfl (zaz (zbj (n:=3) (rs:=[⟨zag ks,false,[]⟩,vi (by_:Int),vs o1]) rfl rfl (zamq hb (by omega))) (zen rfl))) rfl (zlm r.wl (by rw[pl];omega) (by rw[sl];omega) (by
  unfold putK
  rw[qAX,qAX]
  exact zoy (λy hy=>r.kn y (qAO hy)) r.n1) (r.at_ λy hy=>(qX.mp hy).elim (λz=>(zabk z).elim (λw=>.inr (.inl w)) λw=>.inr (.inr (r.kn y w))) (sMem y))) (zna o1)
 refine zio (env:=zgm W ks c z0 z1 z2 o0 o1 .no .no .no .no .no .no) rfl (zap e5 (zap e6 ?_))
 have cut2:∀{a b d:SF}{env e1:DEnv}{o:Option Out},sSeq a (sSeq b sNil) env=some (.nx e1)->d e1=o->sSeq a (sSeq b d) env=o:=λ{a b d env e1 o} h k=>by
  unfold sSeq at h ⊢
  obtain⟨o1,z1,h⟩:=qA.mp h
  rw[z1,qE]
  cases o1 with
  | nx e2=>
   dsimp only at h ⊢
   obtain⟨o2,z2,h⟩:=qA.mp h
   rw[z2,qE]
   cases o2 with
   | nx e3=>cases h;exact k
   | bk _=>cases h
   | ct _=>cases h
   | rt _ _=>cases h
  | bk _=>cases h
  | ct _=>cases h
  | rt _ _=>cases h
 refine cut2 e7 (zap e8 (zap e9 (zap e10 (zap t1 (zap t2 (zap t3 (zap t4 (zap t5 (zjp (bs:=[]) (fr:=false) ?_)))))))))
 exact zauc t6 (b2:=[]) (f2:=false) rfl (zalb r.l1)
end
theorem zabl{W:Web}:∀(b a:List Str),fitB W b (a.map .one)=geB W a b
 | [],a=>by cases a<;>rfl
 | y::b,[]=>rfl
 | y::b,x::a=>by
  have ih:=zabl (W:=W) b a
  show(decide (y∈upA W (.one x))&&fitB W b (a.map .one))=(decide (y∈up W x)&&geB W a b)
  rw[ih]
  congr 1
  rw[qAs,decide_eq_true_eq,decide_eq_true_eq,zza]
  constructor
  ·rintro⟨n,hn,h⟩
   rw[qAL.mp hn]at h
   exact h
  ·exact λh=>⟨x,by simp[Arm.parts],h⟩
theorem zahu{f g:TF}{env:DEnv}{b:Bool}(h1:f env=some false)(h2:g env=some b):tOrF f g env=some b:=by unfold tOrF;rw[h1];exact h2
structure Rw12(W:Web)(p:Nat)(R:List (List Str)):Prop where
 w:WebOk W
 wl:W.length<100000
 kn:∀ks∈R,∀k∈ks,k∈nm W
 sz:∀ks∈R,ks.length=p
 p3:p<=3
 low:∀x∈nm W,Low x
noncomputable abbrev znb(R:List (List Str)):PyData:=.list (R.map zag)
section
variable{W:Web}{p:Nat}{R:List (List Str)}
theorem Rw12.near(r:Rw12 W p R){a b:List Str}(ha:a∈R)(hb:b∈R):zbl [webD W,zag a,zag b]=some (.bool (zbv W a b),false):=
 zacz r.w r.wl (r.kn a ha) (r.kn b hb) (zty r.low (r.kn a ha)) (zty r.low (r.kn b hb)) (by rw[r.sz a ha,r.sz b hb]) (by have:=r.sz a ha;have:=r.p3;omega)
theorem Rw12.tr(r:Rw12 W p R){a b c:List Str}(ha:a∈R)(hb:b∈R)(hc:c∈R)(h1:zbv W a b=true)(h2:zbv W b c=true):zbv W a c=true:=
 zapl (S:=R.map λks=>(("":Str),ks)) (a:=("",a)) (b:=("",b)) (c:=("",c)) r.w ⟨λq hq=>by obtain⟨ks,hk,rfl⟩:=qAY.mp hq;exact r.kn ks hk,λq hq=>by obtain⟨ks,hk,rfl⟩:=qAY.mp hq;exact r.sz ks hk⟩ (qAY.mpr ⟨a,ha,rfl⟩) (qAY.mpr ⟨b,hb,rfl⟩) (qAY.mpr ⟨c,hc,rfl⟩) h1 h2
theorem Rw12.as(r:Rw12 W p R){a b:List Str}(ha:a∈R)(hb:b∈R)(h1:zbv W a b=true):zbv W b a=false:=by
 cases h2:zbv W b a with
 | false=>rfl
 | true=>have:=r.tr ha hb ha h1 h2;rw[zakt]at this;cases this
noncomputable abbrev orE(W:Web)(R:List (List Str))(s3 s4 s5 s6 s7:Sl):DEnv:=[.pl (webD W),.pl (.dict (dS zad (ups W))),.pl (znb R),s3,s4,s5,s6,s7]
theorem Rw12.call(r:Rw12 W p R){a b:List Str}(ha:a∈R)(hb:b∈R){s3 s4 s5 s6 s7:Sl}{i j:Nat}(hi:eVar i (orE W R s3 s4 s5 s6 s7)=some ⟨zag a,false,[]⟩)(hj:eVar j (orE W R s3 s4 s5 s6 s7)=some ⟨zag b,false,[]⟩):zas 3 zbl (zaa (eVar 0) (zaa (eVar i) (zaa (eVar j) aNil))) (orE W R s3 s4 s5 s6 s7)=some (vb (zbv W a b)):=
 zbj (n:=3) (rs:=[⟨webD W,false,[]⟩,⟨zag a,false,[]⟩,⟨zag b,false,[]⟩]) (zaz rfl (zaz hi (zen hj))) rfl (r.near ha hb)
theorem zahv{f:EF}{env:DEnv}{c:Bool}(h:f env=some (vb c)):tTru f env=some c:=by unfold tTru;rw[h];rfl
theorem zada(r:Rw12 W p R):zgg [webD W,.dict (dS zad (ups W)),znb R]=some (.bool true,false):=by
 have inner3:∀(a b:List Str),a∈R->b∈R->∀s7:Sl,∃env',forL (gN 7) (sIf (zjt (tTru (eVar 6)) (zjt (tTru (zas 3 zbl (zaa (eVar 0) (zaa (eVar 4) (zaa (eVar 7) aNil))))) (zhc (tTru (zas 3 zbl (zaa (eVar 0) (zaa (eVar 3) (zaa (eVar 7) aNil)))))))) (sRet (eC (.bool false))) sNil) (R.map zag) (orE W R (.pl (zag a)) (.pl (zag b)) (.pl (.bool (zbv W a b))) (.pl (.bool (zbv W a b))) s7)=some (.nx env')/\∃s7,env'=orE W R (.pl (zag a)) (.pl (zag b)) (.pl (.bool (zbv W a b))) (.pl (.bool (zbv W a b))) s7:=by
  intro a b ha hb s7
  refine zcv (λpre env=>∃s7,env=orE W R (.pl (zag a)) (.pl (zag b)) (.pl (.bool (zbv W a b))) (.pl (.bool (zbv W a b))) s7) ⟨_,rfl⟩ ?_
  rintro pre t post env hp ⟨s7,rfl⟩
  have ht:t∈R:=by rw[<- hp];simp
  refine⟨_,orE W R (.pl (zag a)) (.pl (zag b)) (.pl (.bool (zbv W a b))) (.pl (.bool (zbv W a b))) (.pl (zag t)),rfl,.inl (if_f ?_ rfl),_,rfl⟩
  have c1:=r.call hb ht (s3:=.pl (zag a)) (s4:=.pl (zag b)) (s5:=.pl (.bool (zbv W a b))) (s6:=.pl (.bool (zbv W a b))) (s7:=.pl (zag t)) (i:=4) (j:=7) rfl rfl
  have c2:=r.call ha ht (s3:=.pl (zag a)) (s4:=.pl (zag b)) (s5:=.pl (.bool (zbv W a b))) (s6:=.pl (.bool (zbv W a b))) (s7:=.pl (zag t)) (i:=3) (j:=7) rfl rfl
  have t1:tTru (eVar 6) (orE W R (.pl (zag a)) (.pl (zag b)) (.pl (.bool (zbv W a b))) (.pl (.bool (zbv W a b))) (.pl (zag t)))=some (zbv W a b):=rfl
  show zjt (tTru (eVar 6)) (zjt (tTru (zas 3 zbl (zaa (eVar 0) (zaa (eVar 4) (zaa (eVar 7) aNil))))) (zhc (tTru (zas 3 zbl (zaa (eVar 0) (zaa (eVar 3) (zaa (eVar 7) aNil))))))) (orE W R (.pl (zag a)) (.pl (zag b)) (.pl (.bool (zbv W a b))) (.pl (.bool (zbv W a b))) (.pl (zag t)))=some false
  unfold zjt
  rw[t1,qE]
  cases h1:zbv W a b with
  | false=>rfl
  | true=>
   rw[h1]at c1 c2
   rw[if_pos rfl,zahv c1,qE]
   cases h2:zbv W b t with
   | false=>rfl
   | true=>rw[if_pos rfl,zaap c2,r.tr ha hb ht h1 h2];rfl
 have inner2:∀(a:List Str),a∈R->∀s4 s5 s6 s7:Sl,∃env',forL (gN 4) (sSeq (sSet 5 (eAnd (eOp neD (eVar 3) (eVar 4)) (zas 3 zcq (zaa (eVar 1) (zaa (eVar 4) (zaa (eVar 3) aNil))))))
  (sSeq (sSet 6 (zas 3 zbl (zaa (eVar 0) (zaa (eVar 3) (zaa (eVar 4) aNil)))))
  (sSeq (sIf (tOrF (zhc (tTru (eIsi "bool" (eVar 6)))) (zbt (eOp neD (eVar 6) (eVar 5)))) (sRet (eC (.bool false))) sNil)
  (sSeq (sIf (zjt (tTru (eVar 6)) (tTru (zas 3 zbl (zaa (eVar 0) (zaa (eVar 4) (zaa (eVar 3) aNil)))))) (sRet (eC (.bool false))) sNil)
  (sFor (zav (eVar 2)) (gN 7)
  (sIf (zjt (tTru (eVar 6)) (zjt (tTru (zas 3 zbl (zaa (eVar 0) (zaa (eVar 4) (zaa (eVar 7) aNil))))) (zhc (tTru (zas 3 zbl (zaa (eVar 0) (zaa (eVar 3) (zaa (eVar 7) aNil)))))))) (sRet (eC (.bool false))) sNil)))))) (R.map zag) (orE W R (.pl (zag a)) s4 s5 s6 s7)=some (.nx env')/\∃s4 s5 s6 s7,env'=orE W R (.pl (zag a)) s4 s5 s6 s7:=by
  intro a ha s4 s5 s6 s7
  refine zcv (λpre env=>∃s4 s5 s6 s7,env=orE W R (.pl (zag a)) s4 s5 s6 s7) ⟨_,_,_,_,rfl⟩ ?_
  rintro pre b post env hp ⟨s4,s5,s6,s7,rfl⟩
  have hb:b∈R:=by rw[<- hp];simp
  have la:LowS a:=zty r.low (r.kn a ha)
  have lb:LowS b:=zty r.low (r.kn b hb)
  have sza:=r.sz a ha
  have szb:=r.sz b hb
  have hp3:=r.p3
  have e5:sSet 5 (eAnd (eOp neD (eVar 3) (eVar 4)) (zas 3 zcq (zaa (eVar 1) (zaa (eVar 4) (zaa (eVar 3) aNil))))) (orE W R (.pl (zag a)) (.pl (zag b)) s5 s6 s7)=some (.nx (orE W R (.pl (zag a)) (.pl (zag b)) (.pl (.bool (zbv W a b))) s6 s7)):=by
   refine zbs (r:=vb (zbv W a b)) ?_
   have f1:eOp neD (eVar 3) (eVar 4) (orE W R (.pl (zag a)) (.pl (zag b)) s5 s6 s7)=some (vb (!(a==b))):=zxi (x:=zag a) (y:=zag b) (f1:=false) (f2:=false) (b1:=[]) (b2:=[]) rfl rfl (zaba la lb)
   have gf:=zsl (W:=W) r.w (ks:=b) (c:=a.map .one) (zzd (r.kn a ha) (by omega)) (by rw[qF];omega)
   rw[zabl,<- znz]at gf
   have f2:zas 3 zcq (zaa (eVar 1) (zaa (eVar 4) (zaa (eVar 3) aNil))) (orE W R (.pl (zag a)) (.pl (zag b)) s5 s6 s7)=some (vb (geB W a b)):=zbj (n:=3) (rs:=[⟨.dict (dS zad (ups W)),false,[]⟩,⟨zag b,false,[]⟩,⟨zag a,false,[]⟩]) rfl rfl gf
   unfold eAnd
   rw[f1,qE,ztz]
   show(if(!(a==b))=true then zas 3 zcq (zaa (eVar 1) (zaa (eVar 4) (zaa (eVar 3) aNil))) (orE W R (.pl (zag a)) (.pl (zag b)) s5 s6 s7)else some ⟨.bool false,false,[]⟩)=_
   cases h:(!(a==b))with
   | true=>rw[if_pos rfl,f2];rfl
   | false=>rfl
  have e6:sSet 6 (zas 3 zbl (zaa (eVar 0) (zaa (eVar 3) (zaa (eVar 4) aNil)))) (orE W R (.pl (zag a)) (.pl (zag b)) (.pl (.bool (zbv W a b))) s6 s7)=some (.nx (orE W R (.pl (zag a)) (.pl (zag b)) (.pl (.bool (zbv W a b))) (.pl (.bool (zbv W a b))) s7)):=zbs (r:=vb (zbv W a b)) (r.call ha hb rfl rfl)
  have t1:tOrF (zhc (tTru (eIsi "bool" (eVar 6)))) (zbt (eOp neD (eVar 6) (eVar 5))) (orE W R (.pl (zag a)) (.pl (zag b)) (.pl (.bool (zbv W a b))) (.pl (.bool (zbv W a b))) s7)=some false:=zahu rfl (ziq (zxi (x:=.bool (zbv W a b)) (y:=.bool (zbv W a b)) (f1:=false) (f2:=false) (b1:=[]) (b2:=[]) rfl rfl (zvs _)))
  have t2:zjt (tTru (eVar 6)) (tTru (zas 3 zbl (zaa (eVar 0) (zaa (eVar 4) (zaa (eVar 3) aNil))))) (orE W R (.pl (zag a)) (.pl (zag b)) (.pl (.bool (zbv W a b))) (.pl (.bool (zbv W a b))) s7)=some false:=by
   have c1:=r.call hb ha (s3:=.pl (zag a)) (s4:=.pl (zag b)) (s5:=.pl (.bool (zbv W a b))) (s6:=.pl (.bool (zbv W a b))) (s7:=s7) (i:=4) (j:=3) rfl rfl
   have t0:tTru (eVar 6) (orE W R (.pl (zag a)) (.pl (zag b)) (.pl (.bool (zbv W a b))) (.pl (.bool (zbv W a b))) s7)=some (zbv W a b):=rfl
   unfold zjt
   rw[t0,qE]
   cases h1:zbv W a b with
   | false=>rfl
   | true=>rw[h1]at c1;rw[if_pos rfl,zahv c1,r.as ha hb h1]
  obtain⟨env',l3,s7',rfl⟩:=inner3 a b ha hb s7
  exact⟨_,_,rfl,.inl (zap e5 (zap e6 (zap (if_f t1 rfl) (zap (if_f t2 rfl) (zin (ds:=R.map zag) (bs:=[]) rfl l3))))),_,_,_,_,rfl⟩
 have outer:∃env',forL (gN 3) (sFor (zav (eVar 2)) (gN 4)
  (sSeq (sSet 5 (eAnd (eOp neD (eVar 3) (eVar 4)) (zas 3 zcq (zaa (eVar 1) (zaa (eVar 4) (zaa (eVar 3) aNil))))))
  (sSeq (sSet 6 (zas 3 zbl (zaa (eVar 0) (zaa (eVar 3) (zaa (eVar 4) aNil)))))
  (sSeq (sIf (tOrF (zhc (tTru (eIsi "bool" (eVar 6)))) (zbt (eOp neD (eVar 6) (eVar 5)))) (sRet (eC (.bool false))) sNil)
  (sSeq (sIf (zjt (tTru (eVar 6)) (tTru (zas 3 zbl (zaa (eVar 0) (zaa (eVar 4) (zaa (eVar 3) aNil)))))) (sRet (eC (.bool false))) sNil)
  (sFor (zav (eVar 2)) (gN 7)
  (sIf (zjt (tTru (eVar 6)) (zjt (tTru (zas 3 zbl (zaa (eVar 0) (zaa (eVar 4) (zaa (eVar 7) aNil))))) (zhc (tTru (zas 3 zbl (zaa (eVar 0) (zaa (eVar 3) (zaa (eVar 7) aNil)))))))) (sRet (eC (.bool false))) sNil))))))) (R.map zag) (orE W R .no .no .no .no .no)=some (.nx env')/\∃s3 s4 s5 s6 s7,env'=orE W R s3 s4 s5 s6 s7:=by
  refine zcv (λpre env=>∃s3 s4 s5 s6 s7,env=orE W R s3 s4 s5 s6 s7) ⟨_,_,_,_,_,rfl⟩ ?_
  rintro pre a post env hp ⟨s3,s4,s5,s6,s7,rfl⟩
  have ha:a∈R:=by rw[<- hp];simp
  obtain⟨env',l2,s4',s5',s6',s7',rfl⟩:=inner2 a ha s4 s5 s6 s7
  exact⟨_,_,rfl,.inl (zin (ds:=R.map zag) (bs:=[]) rfl l2),_,_,_,_,_,rfl⟩
 obtain⟨env',lo,s3,s4,s5,s6,s7,rfl⟩:=outer
 exact zio (env:=orE W R .no .no .no .no .no) rfl (zap (zin (ds:=R.map zag) (bs:=[]) rfl lo) rfl)
end
noncomputable def zxj:SF:=(sSeq (sSet 2 (zas 2 zdu (zaa (eOp addD (eC (.int 3)) (eOp modD (eIxV 1 (eC (.int 0))) (eC (.int 8)))) (zaa (eIxV 1 (eC (.int 1))) aNil))))
  (sSeq (sSet 3 (eSl (eVar 2) zdy (zbo (eNeg (eC (.int 2))))))
  (sSeq (sSet 4 (eLst (zaa (eIxV 2 (eNeg (eC (.int 2)))) (zaa (eIxV 2 (eNeg (eC (.int 1)))) aNil))))
  (sSeq (sIf (zbt (eOp eqD (eOp modD (eIxV 1 (eC (.int 2))) (eC (.int 2))) (eC (.int 1)))) (sSet 4 (eLst (zaa (eIxV 2 (eNeg (eC (.int 1)))) (zaa (eIxV 2 (eNeg (eC (.int 2)))) aNil)))) sNil)
  (sSeq (sSet 5 (eOp addD (eC (.int 1)) (eOp modD (eOp zdp (eIxV 1 (eC (.int 2))) (eC (.int 2))) (eC (.int 3)))))
  (sSeq (sSet 6 (zas 2 zkk (zaa (eSl (eVar 1) (zbo (eC (.int 14))) (zbo (eC (.int 22)))) (zaa (eVar 3) aNil))))
  (sSeq (sSet 7 (zif ["_law_name","_law_elders"] [] (zav (eVar 6)) (gT 2 (zbu 0 (zbu 1 zja))) zfd (eTup (zaa (eVar 0) (zaa (eCB zkb (zaa (eVar 1) aNil)) aNil)))))
  (sSeq (sSet 8 (zas 1 zmq (zaa (eVar 6) aNil)))
  (sSeq (sSet 9 (zif ["_law_cell"] [3,5] (zav (eSl (eVar 1) (zbo (eC (.int 3))) (zbo (eC (.int 6))))) (gN 0) zfd (zas 3 zeu (zaa (eVar 0) (zaa (eVar 1) (zaa (eVar 2) aNil))))))
  (sSeq (sSet 10 (zas 3 zdn (zaa (eSl (eVar 1) (zbo (eC (.int 6))) (zbo (eC (.int 9)))) (zaa (eVar 3) (zaa (eVar 5) aNil)))))
  (sSeq (sFor (zav (eVar 9)) (gN 11)
  (sFor (zav (eLst (zaa (eVar 10) (zaa (eVar 11) (zaa (eIxV 9 (eC (.int 0))) aNil))))) (gN 12)
  (sSeq (sSet 13 (zas 3 zmu (zaa (eVar 7) (zaa (eVar 11) (zaa (eVar 12) aNil)))))
  (sIf (tOrF (zhc (tTru (eIsi "bool" (eVar 13)))) (zbt (eOp neD (eVar 13) (zas 3 zcq (zaa (eVar 8) (zaa (eVar 11) (zaa (eVar 12) aNil))))))) (sRet (eC (.bool false))) sNil))))
  (sSeq (sIf (tOrF (zhc (tTru (zas 3 zgg (zaa (eVar 7) (zaa (eVar 8) (zaa (eVar 9) aNil)))))) (zhc (tTru (zas 5 zcx (zaa (eVar 7) (zaa (eIxV 9 (eC (.int 1))) (zaa (eVar 10) (zaa (eSl (eVar 1) (zbo (eC (.int 9))) (zbo (eC (.int 12)))) (zaa (eVar 4) aNil))))))))) (sRet (eC (.bool false))) sNil)
  (sSeq (sSet 14 (zif ["_law_name"] [1,8] (zav (zif ["_law_arm_here"] [] (zav (eVar 10)) (gN 0) zfd (eOp ixD (zas 1 zbf (zaa (eVar 0) aNil)) (eC (.int 0))))) (gN 0) zfd (eOp ixD (zcc 2 (eVar 0)) (eOp modD (eIxV 1 (eC (.int 12))) (eCB lenD (zaa (zcc 2 (eVar 0)) aNil))))))
  (sRet (eAnd (eOp (isCD false) (zas 3 zmu (zaa (eVar 7) (zaa (eCB zkc (zaa (eVar 14) aNil)) (zaa (eVar 10) aNil)))) (eC (.bool true))) (eOp eqD (eVar 7) (eVar 6)))))))))))))))))
theorem zasv(ys:List Str)(x y:Str):cutD ((ys++[x,y]).map PyData.str) none (some (-2))=ys.map .str:=by
 unfold cutD
 have e1:HT.sIx ((ys++[x,y]).map PyData.str).length 0 none=0:=rfl
 have e2:HT.sIx ((ys++[x,y]).map PyData.str).length ((ys++[x,y]).map PyData.str).length (some (-2))=ys.length:=by
  unfold HT.sIx
  simp
  omega
 rw[e1,e2]
 simp
theorem zauf(ys:List Str)(x y:Str):atI ((ys++[x,y]).map PyData.str) (-2)=some (.str x):=by
 have e:ixN ((ys++[x,y]).map PyData.str).length (-2)=some ys.length:=by
  unfold ixN
  simp
  omega
 unfold atI
 rw[e]
 simp
theorem zaug(ys:List Str)(x y:Str):atI ((ys++[x,y]).map PyData.str) (-1)=some (.str y):=by
 have e:ixN ((ys++[x,y]).map PyData.str).length (-1)=some (ys.length+1):=by
  unfold ixN
  simp
  omega
 unfold atI
 rw[e]
 simp
theorem zasw{xs:List Str}(h:2<=xs.length):∃ys x y,xs=ys++[x,y]:=by
 refine⟨xs.take (xs.length - 2),xs[xs.length - 2]'(by omega),xs[xs.length - 1]'(by omega),?_⟩
 apply List.ext_getElem
 ·simp;omega
 ·intro i h1 h2
  by_cases a:i<xs.length - 2
  ·rw[List.getElem_append_left (by simp;omega)]
   simp
  ·rw[List.getElem_append_right (by simp;omega)]
   have:i=xs.length - 2\/i=xs.length - 1:=by omega
   rcases this with rfl|rfl
   ·simp
   ·have e:xs.length - 1 - (xs.take (xs.length - 2)).length=1:=by simp;omega
    simp only[e]
    rfl
noncomputable def zhr(a:Arm):Str:=a.parts.headD ""
theorem zrb{a:Arm}(h:a.parts≠[]):zhr a∈a.parts/\∃l,a.parts=zhr a::l:=by
 unfold zhr
 cases e:a.parts with
 | nil=>exact absurd e h
 | cons x l=>exact⟨by simp,l,rfl⟩
noncomputable abbrev E12(cs:List Int)(s2 s3 s4 s5 s6 s7 s8 s9 s10 s11 s12 s13 s14:Sl):DEnv:=[.no,.pl (zco cs),s2,s3,s4,s5,s6,s7,s8,s9,s10,s11,s12,s13,s14]
theorem zalc{cs:List Int}(hl:cs.length=24)(a b:Nat)(x:EF)(y:EF)(env:DEnv)(hb:b<=24)(hab:a<=b)(he:env[1]?=some (.pl (zco cs)))(hx:x env=some (vi (a:Int)))(hy:y env=some (vi (b:Int))):eSl (eVar 1) (zbo x) (zbo y) env=some ⟨zco ((cs.drop a).take (b - a)),true,[]⟩:=by
 unfold eSl
 have ee:eVar 1 env=some ⟨zco cs,false,[]⟩:=by unfold eVar;rw[he]
 rw[ee,zli hx,zli hy]
 show some (⟨.list (cutD (cs.map .int) (some (a:Int)) (some (b:Int))),true,[]⟩:Val)=_
 rw[zakn cs a b (by omega) hab];rfl
theorem zabm{α:Type}{l:List α}(h:l.length=3):∃a b c,l=[a,b,c]:=by
 match l,h with
 | [a,b,c],_=>exact⟨a,b,c,rfl⟩
theorem zauh{cs:List Int}(h2:2<cs.length)(st:List Str)(x y:Str):∃o0 o1,((o0=x/\o1=y)\/(o0=y/\o1=x))/\∀rest:SF,(sSeq (sSet 4 (eLst (zaa (eIxV 2 (eNeg (eC (.int 2)))) (zaa (eIxV 2 (eNeg (eC (.int 1)))) aNil))))
  (sSeq (sIf (zbt (eOp eqD (eOp modD (eIxV 1 (eC (.int 2))) (eC (.int 2))) (eC (.int 1)))) (sSet 4 (eLst (zaa (eIxV 2 (eNeg (eC (.int 1)))) (zaa (eIxV 2 (eNeg (eC (.int 2)))) aNil)))) sNil) rest)) (E12 cs (.pl (zad (st++[x,y]))) (.ac (zad st)) .no .no .no .no .no .no .no .no .no .no .no)=rest (E12 cs (.pl (zad (st++[x,y]))) (.ac (zad st)) (.ac (zad [o0,o1])) .no .no .no .no .no .no .no .no .no .no):=by
 have i2:∀s4:Sl,eIxV 2 (eNeg (eC (.int 2))) (E12 cs (.pl (zad (st++[x,y]))) (.ac (zad st)) s4 .no .no .no .no .no .no .no .no .no .no)=some (vs x):=λs4=>by
  show((ixD (.list ((st++[x,y]).map PyData.str)) (.int (-2))).bind λz=>some (⟨z.1,z.2,bsOf z.1 ([]++[])⟩:Val))=_
  unfold ixD
  simp only[zauf,qAi,qE]
  rfl
 have i1:∀s4:Sl,eIxV 2 (eNeg (eC (.int 1))) (E12 cs (.pl (zad (st++[x,y]))) (.ac (zad st)) s4 .no .no .no .no .no .no .no .no .no .no)=some (vs y):=λs4=>by
  show((ixD (.list ((st++[x,y]).map PyData.str)) (.int (-1))).bind λz=>some (⟨z.1,z.2,bsOf z.1 ([]++[])⟩:Val))=_
  unfold ixD
  simp only[zaug,qAi,qE]
  rfl
 have s1:sSet 4 (eLst (zaa (eIxV 2 (eNeg (eC (.int 2)))) (zaa (eIxV 2 (eNeg (eC (.int 1)))) aNil))) (E12 cs (.pl (zad (st++[x,y]))) (.ac (zad st)) .no .no .no .no .no .no .no .no .no .no .no)=some (.nx (E12 cs (.pl (zad (st++[x,y]))) (.ac (zad st)) (.ac (zad [x,y])) .no .no .no .no .no .no .no .no .no .no)):=by
  refine zbs (r:=⟨zad [x,y],true,[]⟩) ?_
  unfold eLst
  rw[zaz (i2 _) (zen (i1 _))]
  rfl
 have s2:sSet 4 (eLst (zaa (eIxV 2 (eNeg (eC (.int 1)))) (zaa (eIxV 2 (eNeg (eC (.int 2)))) aNil))) (E12 cs (.pl (zad (st++[x,y]))) (.ac (zad st)) (.ac (zad [x,y])) .no .no .no .no .no .no .no .no .no .no)=some (.nx (E12 cs (.pl (zad (st++[x,y]))) (.ac (zad st)) (.ac (zad [y,x])) .no .no .no .no .no .no .no .no .no .no)):=by
  refine zbs (r:=⟨zad [y,x],true,[]⟩) ?_
  unfold eLst
  rw[zaz (i1 _) (zen (i2 _))]
  rfl
 have tc:zbt (eOp eqD (eOp modD (eIxV 1 (eC (.int 2))) (eC (.int 2))) (eC (.int 1))) (E12 cs (.pl (zad (st++[x,y]))) (.ac (zad st)) (.ac (zad [x,y])) .no .no .no .no .no .no .no .no .no .no)=some ((cs[2] % 2==1)):=
  ziq (zvy (zgs (zwc (n:=2) rfl rfl h2) rfl (by decide)) rfl)
 cases hc:(cs[2] % 2==1)with
 | true=>
  rw[hc]at tc
  exact⟨y,x,.inr ⟨rfl,rfl⟩,λrest=>zap s1 (zap (if_t tc s2) rfl)⟩
 | false=>
  rw[hc]at tc
  exact⟨x,y,.inl ⟨rfl,rfl⟩,λrest=>zap s1 (zap (if_f tc rfl) rfl)⟩
theorem zamr{a b:EF}{env:DEnv}{xs:List Str}{fr:Bool}{bs:List Nat}{j:Nat}{x:Str}(ha:a env=some ⟨zad xs,fr,bs⟩)(hb:b env=some (vi (j:Int)))(h:xs[j]?=some x):eOp ixD a b env=some (vs x):=by
 unfold eOp
 rw[ha,hb]
 show((ixD (.list (xs.map .str)) (.int (j:Int))).bind λz=>some (⟨z.1,z.2,bsOf z.1 _⟩:Val))=_
 unfold ixD
 have e:atI (xs.map PyData.str) (j:Int)=some (.str x):=znc (by rw[qR,h];rfl)
 simp only[e,qAi,qE]
 rfl
theorem zahw{f:EF}{env:DEnv}{r:Val}{ds:List PyData}(h:f env=some r)(hd:zid r.d=some ds):zav f env=some (ds,r.bs):=by unfold zav;rw[h,qE,hd];rfl
theorem ok12{W:Web}{c:List Arm}(h:Cl12 (nm W) c)(hl:c.length<=3):CallOk W c:=
 ⟨by omega,λa ha=>by have:=h.few a ha;omega,λa ha n hn=>h.kinds a ha n hn⟩
noncomputable abbrev zxk:SF:=(sSeq (sSet 13 (zas 3 zmu (zaa (eVar 7) (zaa (eVar 11) (zaa (eVar 12) aNil)))))
  (sIf (tOrF (zhc (tTru (eIsi "bool" (eVar 13)))) (zbt (eOp neD (eVar 13) (zas 3 zcq (zaa (eVar 8) (zaa (eVar 11) (zaa (eVar 12) aNil))))))) (sRet (eC (.bool false))) sNil))
section
variable{cs:List Int}{p:Nat}{N st od:List Str}{W:Web}{R:List (List Str)}{c:List Arm}
noncomputable abbrev L12(cs:List Int)(p:Nat)(N st od:List Str)(W:Web)(R:List (List Str))(c:List Arm)(s11 s12 s13 s14:Sl):DEnv:=E12 cs (.pl (zad N)) (.pl (zad st)) (.ac (zad od)) (.pl (.int (p:Int))) (.pl (webD W)) (.ac (webD W)) (.ac (.dict (dS zad (ups W)))) (.pl (znb R)) (.pl (zbc c)) s11 s12 s13 s14
theorem zaps(ok:WebOk W)(hw:W.length<100000)(hp:p<=3)(hc:Cl12 (nm W) c)(hcl:c.length=p)(hR:∀ks∈R,ks.length=p/\∀k∈ks,k∈nm W){b:List Str}(hb:R[0]?=some b){a:List Str}(ha:a∈R)(s12 s13:Sl) :
  ∃s12' s13',sFor (zav (eLst (zaa (eVar 10) (zaa (eVar 11) (zaa (eIxV 9 (eC (.int 0))) aNil))))) (gN 12) zxk (L12 cs p N st od W R c (.pl (zag a)) s12 s13 .no)=some (.nx (L12 cs p N st od W R c (.pl (zag a)) s12' s13' .no)):=by
 have hbR:b∈R:=qAj hb
 have ib:eIxV 9 (eC (.int 0)) (L12 cs p N st od W R c (.pl (zag a)) s12 s13 .no)=some ⟨zag b,false,[]⟩:=
  zaci (ds:=R.map zag) (n:=0) rfl rfl (by rw[qR,hb];rfl)
 have it:zav (eLst (zaa (eVar 10) (zaa (eVar 11) (zaa (eIxV 9 (eC (.int 0))) aNil)))) (L12 cs p N st od W R c (.pl (zag a)) s12 s13 .no)=some ([c,a.map .one,b.map .one].map zbc,[]):=by
  have el:eLst (zaa (eVar 10) (zaa (eVar 11) (zaa (eIxV 9 (eC (.int 0))) aNil))) (L12 cs p N st od W R c (.pl (zag a)) s12 s13 .no)=some ⟨.list [zbc c,zag a,zag b],true,[]⟩:=by
   unfold eLst
   rw[zaz (r:=⟨zbc c,false,[]⟩) rfl (zaz (r:=⟨zag a,false,[]⟩) rfl (zen ib))]
   rfl
  unfold zav
  rw[el,znz,znz]
  rfl
 have key:=zcv (enc:=zbc) (g:=gN 12) (body:=zxk) (l:=[c,a.map .one,b.map .one]) (env:=L12 cs p N st od W R c (.pl (zag a)) s12 s13 .no) (λ_ env=>∃s12' s13',env=L12 cs p N st od W R c (.pl (zag a)) s12' s13' .no) ⟨_,_,rfl⟩ (by
  rintro pre z post env hp' ⟨s12,s13,rfl⟩
  have hz:z=c\/z=a.map .one\/z=b.map .one:=by
   have:z∈[c,a.map Arm.one,b.map Arm.one]:=by rw[<- hp'];simp
   simpa using this
  have hzl:z.length=p:=by
   rcases hz with rfl|rfl|rfl
   ·exact hcl
   ·rw[qF];exact(hR a ha).1
   ·rw[qF];exact(hR b hbR).1
  have hzo:CallOk W z:=by
   rcases hz with rfl|rfl|rfl
   ·exact ok12 hc (by omega)
   ·exact zzd (hR a ha).2 (by rw[(hR a ha).1];omega)
   ·exact zzd (hR b hbR).2 (by rw[(hR b hbR).1];omega)
  have la:=(hR a ha).1
  refine⟨_,L12 cs p N st od W R c (.pl (zag a)) (.pl (zbc z)) (.pl (.bool (fitB W a z))) .no,rfl,.inl ?_,_,_,rfl⟩
  have e13:sSet 13 (zas 3 zmu (zaa (eVar 7) (zaa (eVar 11) (zaa (eVar 12) aNil)))) (L12 cs p N st od W R c (.pl (zag a)) (.pl (zbc z)) s13 .no)=some (.nx (L12 cs p N st od W R c (.pl (zag a)) (.pl (zbc z)) (.pl (.bool (fitB W a z))) .no)):=
   zbs (r:=vb (fitB W a z)) (zbj (n:=3) (rs:=[⟨webD W,false,[7]⟩,⟨zag a,false,[]⟩,⟨zbc z,false,[]⟩]) rfl rfl (zabf ok hw hzo (by omega) (hR a ha).2))
  have f2:zas 3 zcq (zaa (eVar 8) (zaa (eVar 11) (zaa (eVar 12) aNil))) (L12 cs p N st od W R c (.pl (zag a)) (.pl (zbc z)) (.pl (.bool (fitB W a z))) .no)=some (vb (fitB W a z)):=
   zbj (n:=3) (rs:=[⟨.dict (dS zad (ups W)),false,[8]⟩,⟨zag a,false,[]⟩,⟨zbc z,false,[]⟩]) rfl rfl (zsl ok hzo (by omega))
  exact zap e13 (if_f (zahu rfl (ziq (zxi (x:=.bool (fitB W a z)) (y:=.bool (fitB W a z)) (f1:=false) (f2:=false) (b1:=[]) (b2:=[]) rfl f2 (zvs _)))) rfl))
 obtain⟨env',k,s12',s13',rfl⟩:=key
 exact⟨s12',s13',zin it k⟩
theorem zasx(ok:WebOk W)(hw:W.length<100000)(hp:p<=3)(hc:Cl12 (nm W) c)(hcl:c.length=p)(hR:∀ks∈R,ks.length=p/\∀k∈ks,k∈nm W){b:List Str}(hb:R[0]?=some b) :
  ∃s11 s12 s13,forL (gN 11) (sFor (zav (eLst (zaa (eVar 10) (zaa (eVar 11) (zaa (eIxV 9 (eC (.int 0))) aNil))))) (gN 12) zxk) (R.map zag) (L12 cs p N st od W R c .no .no .no .no)=some (.nx (L12 cs p N st od W R c s11 s12 s13 .no)):=by
 have key:=zcv (enc:=zag) (g:=gN 11) (body:=sFor (zav (eLst (zaa (eVar 10) (zaa (eVar 11) (zaa (eIxV 9 (eC (.int 0))) aNil))))) (gN 12) zxk) (l:=R) (env:=L12 cs p N st od W R c .no .no .no .no) (λ_ env=>∃s11 s12 s13,env=L12 cs p N st od W R c s11 s12 s13 .no) ⟨_,_,_,rfl⟩ (by
  rintro pre a post env hp' ⟨s11,s12,s13,rfl⟩
  have ha:a∈R:=by rw[<- hp'];simp
  obtain⟨s12',s13',k⟩:=zaps (cs:=cs) (N:=N) (st:=st) (od:=od) ok hw hp hc hcl hR hb ha s12 s13
  exact⟨_,_,rfl,.inl k,_,_,_,rfl⟩)
 obtain⟨env',k,s11,s12,s13,rfl⟩:=key
 exact⟨s11,s12,s13,k⟩
theorem zasy(hl:cs.length=24)(ok:WebOk W)(hp:p<=3)(hc:Cl12 (nm W) c)(hcl:c.length=p)(s11 s12 s13:Sl):∃ov:List Str,ov.length=p/\(∀k∈ov,k∈nm W)/\fitB W ov c=true/\
  sSet 14 (zif ["_law_name"] [1,8] (zav (zif ["_law_arm_here"] [] (zav (eVar 10)) (gN 0) zfd (eOp ixD (zas 1 zbf (zaa (eVar 0) aNil)) (eC (.int 0))))) (gN 0) zfd (eOp ixD (zcc 2 (eVar 0)) (eOp modD (eIxV 1 (eC (.int 12))) (eCB lenD (zaa (zcc 2 (eVar 0)) aNil))))) (L12 cs p N st od W R c s11 s12 s13 .no)=some (.nx (L12 cs p N st od W R c s11 s12 s13 (.ac (zad ov)))):=by
 have H:∀n:Str,∃u:Str,n∈nm W->u∈up W n/\eOp ixD (zcc 2 (eVar 0)) (eOp modD (eIxV 1 (eC (.int 12))) (eCB lenD (zaa (zcc 2 (eVar 0)) aNil))) [.pl (.str n),.pl (zco cs),.pl (.dict (dS zad (ups W)))]=some (vs u):=λn=>by
  by_cases hn:n∈nm W
  ·have hs:=zaoy ok hn
   have h0:0<(up W n).length:=qC2 hs
   have a0:=qAC (cs[12]'(by omega)) (show(((up W n).length:Nat):Int)≠0 by omega)
   have a1:=qAF (cs[12]'(by omega)) (show(0:Int)<(((up W n).length:Nat):Int) by omega)
   obtain⟨j,hj⟩:=qB3 a0
   have hjl:j<(up W n).length:=by omega
   have dg:zcc 2 (eVar 0) [.pl (.str n),.pl (zco cs),.pl (.dict (dS zad (ups W)))]=some ⟨zad (up W n),false,[]⟩:=zagt (y:=n) (.inl rfl) rfl (by rw[zlu,zkz hn];rfl)
   refine⟨(up W n)[j],λ_=>⟨qA3 _,zamr (xs:=up W n) (j:=j) dg ?_ (qH hjl)⟩⟩
   have el:eCB lenD (zaa (zcc 2 (eVar 0)) aNil) [.pl (.str n),.pl (zco cs),.pl (.dict (dS zad (ups W)))]=some (vi (((up W n).length:Nat):Int)):=by
    rw[zqd (ds:=(up W n).map .str) (fr:=false) (bs:=[]) dg,qF]
   rw[zgs (zwc (n:=12) rfl rfl (by omega)) el (by omega)]
   congr 2
  ·exact⟨n,λz=>absurd z hn⟩
 obtain⟨u,hu⟩:=qCY H
 have hn:∀a∈c,zhr a∈nm W:=λa ha=>hc.kinds a ha _ (zrb (hc.some a ha)).1
 refine⟨c.map λa=>u (zhr a),by rw[qF];exact hcl,?_,?_,?_⟩
 ·intro k hk
  obtain⟨a,ha,rfl⟩:=qAY.mp hk
  exact zvt ok (hu _ (hn a ha)).1
 ·unfold fitB
  rw[qAV]
  intro z hz
  have:∀l:List Arm,z∈(l.map λa=>u (zhr a)).zip l->z.2∈l/\z.1=u (zhr z.2):=by
   intro l
   induction l with
   | nil=>intro h;simp at h
   | cons a l ih=>
    intro h
    rw[qd,qA4,qc]at h
    rcases h with rfl|h
    ·exact⟨by simp,rfl⟩
    ·exact⟨qK _ (ih h).1,(ih h).2⟩
  obtain⟨h1,h2⟩:=this c hz
  rw[decide_eq_true_eq,zza]
  exact⟨zhr z.2,(zrb (hc.some _ h1)).1,by rw[h2];exact(hu _ (hn _ h1)).1⟩
 ·have cm1:zfc (gN 0) zfd (eOp ixD (zas 1 zbf (zaa (eVar 0) aNil)) (eC (.int 0))) [.no] (c.map armD)=some (c.map λa=>.str (zhr a)):=
   zem (enc:=armD) (out:=λa=>.str (zhr a)) λa ha=>⟨[.pl (armD a)],rfl,rfl,vs (zhr a),by
    obtain⟨l,el⟩:=(zrb (hc.some a ha)).2
    exact zamr (xs:=a.parts) (fr:=true) (bs:=[]) (j:=0) (zbj (n:=1) (rs:=[⟨armD a,false,[]⟩]) rfl rfl (zeq a)) rfl (by rw[el];rfl),rfl⟩
  have ce:=zkl (own:=["_law_arm_here"]) (fr:=[]) (fi:=zav (eVar 10)) (env:=L12 cs p N st od W R c s11 s12 s13 .no) (bs:=[]) rfl (by rw[qF];omega) cm1
  have e0:(if zef (c.map λa=>PyData.str (zhr a))=true then([]:List Nat)else[]++capA [] (L12 cs p N st od W R c s11 s12 s13 .no))=[]:=by split<;>rfl
  rw[e0]at ce
  have it:zav (zif ["_law_arm_here"] [] (zav (eVar 10)) (gN 0) zfd (eOp ixD (zas 1 zbf (zaa (eVar 0) aNil)) (eC (.int 0)))) (L12 cs p N st od W R c s11 s12 s13 .no)=some (c.map λa=>PyData.str (zhr a),[]):=by
   exact zahw ce rfl
  have cm2:zfc (gN 0) zfd (eOp ixD (zcc 2 (eVar 0)) (eOp modD (eIxV 1 (eC (.int 12))) (eCB lenD (zaa (zcc 2 (eVar 0)) aNil)))) [.no,.pl (zco cs),.pl (.dict (dS zad (ups W)))] (c.map λa=>PyData.str (zhr a))=some (c.map λa=>.str (u (zhr a))):=
   zem (enc:=λa=>PyData.str (zhr a)) (out:=λa=>.str (u (zhr a))) λa ha=>⟨[.pl (.str (zhr a)),.pl (zco cs),.pl (.dict (dS zad (ups W)))],rfl,rfl,vs (u (zhr a)),(hu _ (hn a ha)).2,rfl⟩
  have co:=zkl (own:=["_law_name"]) (fr:=[1,8]) it (by rw[qF];omega) cm2
  have fl:zef (c.map λa=>PyData.str (u (zhr a)))=true:=by
   unfold zef
   rw[qAV]
   intro d hd
   obtain⟨a,_,rfl⟩:=qAY.mp hd
   rfl
  rw[if_pos fl]at co
  have em:(c.map λa=>PyData.str (u (zhr a)))=(c.map λa=>u (zhr a)).map .str:=by rw[qBt];rfl
  rw[em]at co
  exact zbs co
end
theorem zald{cs:List Int}(hl:cs.length=24)(h0:∀c∈cs,0<=c):zxj (envL 13 cs)=some (.rt (.bool true) false):=by
 have g1:0<=cs[1]'(by omega):=h0 _ (qA3 _)
 have m0:=qAC (cs[0]'(by omega)) (show(8:Int)≠0 by decide)
 have m1:=qAF (cs[0]'(by omega)) (show(0:Int)<8 by decide)
 obtain⟨xs,gx,lx,nx,lox⟩:=ztx (m:=3+cs[0]'(by omega) % 8) (c:=cs[1]'(by omega)) (by omega) (by omega) g1
 obtain⟨st,x,y,rfl⟩:=zasw (xs:=xs) (by omega)
 have hst:1<=st.length/\st.length<=8:=by
  rw[qM]at lx
  simp only[qAQ,qBI]at lx
  omega
 have nst:st.Nodup:=(qBA.mp nx).1
 have lo:∀z∈st,Low z:=λz h=>(lox z (qu _ h)).1
 have lo0:=lox x (qb _ (by simp))
 have lo1:=lox y (qb _ (by simp))
 have nox:x∉st:=λz=>(qBA.mp nx).2.2 x z x (by simp) rfl
 have noy:y∉st:=λz=>(qBA.mp nx).2.2 y z y (by simp) rfl
 have e2:sSet 2 (zas 2 zdu (zaa (eOp addD (eC (.int 3)) (eOp modD (eIxV 1 (eC (.int 0))) (eC (.int 8)))) (zaa (eIxV 1 (eC (.int 1))) aNil))) (envL 13 cs)=some (.nx (E12 cs (.ac (zad (st++[x,y]))) .no .no .no .no .no .no .no .no .no .no .no .no)):=
  zbs (r:=⟨zad (st++[x,y]),true,[]⟩) (zbj (n:=2) (rs:=[vi (3+cs[0]'(by omega) % 8),vi (cs[1]'(by omega))]) (zaz (ztm rfl (zgs (zwc (n:=0) rfl rfl (by omega)) rfl (by decide))) (zen (zwc (n:=1) rfl rfl (by omega)))) rfl gx)
 have e3:sSet 3 (eSl (eVar 2) zdy (zbo (eNeg (eC (.int 2))))) (E12 cs (.ac (zad (st++[x,y]))) .no .no .no .no .no .no .no .no .no .no .no .no)=some (.nx (E12 cs (.pl (zad (st++[x,y]))) (.ac (zad st)) .no .no .no .no .no .no .no .no .no .no .no)):=
  zbs (r:=⟨zad st,true,[2]⟩) (zahe (x:=st++[x,y]) (f:=false) (bs:=[2]) (lo:=none) (hi:=some (-2)) rfl rfl rfl (zasv st x y))
 obtain⟨o0,o1,ho,eo⟩:=zauh (cs:=cs) (by omega) st x y
 have ho0:o0∉st/\Low o0/\o0.length<=20:=by
  rcases ho with⟨rfl,rfl⟩|⟨rfl,rfl⟩
  ·exact⟨nox,lo0⟩
  ·exact⟨noy,lo1⟩
 have ho1:o1∉st/\Low o1/\o1.length<=20:=by
  rcases ho with⟨rfl,rfl⟩|⟨rfl,rfl⟩
  ·exact⟨noy,lo1⟩
  ·exact⟨nox,lo0⟩
 have p0:=qAC (cs[2]'(by omega) / 2) (show(3:Int)≠0 by decide)
 have p1:=qAF (cs[2]'(by omega) / 2) (show(0:Int)<3 by decide)
 obtain⟨p,hp⟩:=qB3 (show 0<=1+cs[2]'(by omega) / 2 % 3 by omega)
 have hpr:1<=p/\p<=3:=by omega
 have e5:sSet 5 (eOp addD (eC (.int 1)) (eOp modD (eOp zdp (eIxV 1 (eC (.int 2))) (eC (.int 2))) (eC (.int 3)))) (E12 cs (.pl (zad (st++[x,y]))) (.ac (zad st)) (.ac (zad [o0,o1])) .no .no .no .no .no .no .no .no .no .no)=some (.nx (E12 cs (.pl (zad (st++[x,y]))) (.ac (zad st)) (.ac (zad [o0,o1])) (.pl (.int (p:Int))) .no .no .no .no .no .no .no .no .no)):=by
  refine zbs (r:=vi (p:Int)) ?_
  rw[ztm rfl (zgs (zlh (zwc (n:=2) rfl rfl (by omega)) rfl (by decide) (by decide)) rfl (by decide))]
  exact congrArg (λz=>some (vi z)) hp
 obtain⟨W,gw,hnm,ok⟩:=zags (cs:=(cs.drop 14).take 8) (xs:=st) (by rw[qAK,qAP];omega) (by omega) nst
 have low:∀z∈nm W,Low z:=by rw[hnm];exact lo
 have hW:W.length<100000:=by
  have:=congrArg List.length hnm
  unfold nm at this
  rw[qF]at this
  omega
 have e6:sSet 6 (zas 2 zkk (zaa (eSl (eVar 1) (zbo (eC (.int 14))) (zbo (eC (.int 22)))) (zaa (eVar 3) aNil))) (E12 cs (.pl (zad (st++[x,y]))) (.ac (zad st)) (.ac (zad [o0,o1])) (.pl (.int (p:Int))) .no .no .no .no .no .no .no .no .no)=some (.nx (E12 cs (.pl (zad (st++[x,y]))) (.pl (zad st)) (.ac (zad [o0,o1])) (.pl (.int (p:Int))) (.ac (webD W)) .no .no .no .no .no .no .no .no)):=
  zbs (r:=⟨webD W,true,[3]⟩) (zbj (n:=2) (rs:=[⟨zco ((cs.drop 14).take 8),true,[]⟩,⟨zad st,false,[3]⟩]) (zaz (zalc hl 14 22 _ _ _ (by decide) (by decide) rfl rfl rfl) (zen rfl)) rfl gw)
 have e7:sSet 7 (zif ["_law_name","_law_elders"] [] (zav (eVar 6)) (gT 2 (zbu 0 (zbu 1 zja))) zfd (eTup (zaa (eVar 0) (zaa (eCB zkb (zaa (eVar 1) aNil)) aNil)))) (E12 cs (.pl (zad (st++[x,y]))) (.pl (zad st)) (.ac (zad [o0,o1])) (.pl (.int (p:Int))) (.ac (webD W)) .no .no .no .no .no .no .no .no)=some (.nx (E12 cs (.pl (zad (st++[x,y]))) (.pl (zad st)) (.ac (zad [o0,o1])) (.pl (.int (p:Int))) (.pl (webD W)) (.ac (webD W)) .no .no .no .no .no .no .no)):=by
  have fl:zef (W.map rowD)=false:=by
   cases W with
   | nil=>have:=congrArg List.length hnm;simp[nm]at this;omega
   | cons p W=>rfl
  have:=zbs (i:=7) (zkl (own:=["_law_name","_law_elders"]) (fr:=[]) (fi:=zav (eVar 6)) (env:=E12 cs (.pl (zad (st++[x,y]))) (.pl (zad st)) (.ac (zad [o0,o1])) (.pl (.int (p:Int))) (.ac (webD W)) .no .no .no .no .no .no .no .no) (ds:=W.map rowD) (bs:=[6]) rfl (by rw[qF];omega) zako)
  rw[this,fl]
  rfl
 have e8:sSet 8 (zas 1 zmq (zaa (eVar 6) aNil)) (E12 cs (.pl (zad (st++[x,y]))) (.pl (zad st)) (.ac (zad [o0,o1])) (.pl (.int (p:Int))) (.pl (webD W)) (.ac (webD W)) .no .no .no .no .no .no .no)=some (.nx (E12 cs (.pl (zad (st++[x,y]))) (.pl (zad st)) (.ac (zad [o0,o1])) (.pl (.int (p:Int))) (.pl (webD W)) (.ac (webD W)) (.ac (.dict (dS zad (ups W)))) .no .no .no .no .no .no)):=
  zbs (r:=⟨.dict (dS zad (ups W)),true,[]⟩) (zbj (n:=1) (rs:=[⟨webD W,false,[]⟩]) (zen rfl) rfl (zakl ok))
 have H:∀c:Int,∃ks,zeu [.int c,zad st,.int (p:Int)]=some (zag ks,false)/\ks.length=p/\∀k∈ks,k∈st:=λc=>zahs hpr.2 (by omega) (by omega)
 obtain⟨f,hf⟩:=qCY H
 obtain⟨d0,d1,d2,hd⟩:=zabm (l:=(cs.drop 3).take 3) (by rw[qAK,qAP];omega)
 obtain⟨z0,z1,z2,hz⟩:=zabm (l:=(cs.drop 9).take 3) (by rw[qAK,qAP];omega)
 have hR:∀ks∈[f d0,f d1,f d2],ks.length=p/\∀k∈ks,k∈nm W:=by
  intro ks hk
  rw[hnm]
  have:ks=f d0\/ks=f d1\/ks=f d2:=by simpa using hk
  rcases this with rfl|rfl|rfl<;>exact⟨(hf _).2.1,(hf _).2.2⟩
 have e9:sSet 9 (zif ["_law_cell"] [3,5] (zav (eSl (eVar 1) (zbo (eC (.int 3))) (zbo (eC (.int 6))))) (gN 0) zfd (zas 3 zeu (zaa (eVar 0) (zaa (eVar 1) (zaa (eVar 2) aNil))))) (E12 cs (.pl (zad (st++[x,y]))) (.pl (zad st)) (.ac (zad [o0,o1])) (.pl (.int (p:Int))) (.pl (webD W)) (.ac (webD W)) (.ac (.dict (dS zad (ups W)))) .no .no .no .no .no .no)=some (.nx (E12 cs (.pl (zad (st++[x,y]))) (.pl (zad st)) (.ac (zad [o0,o1])) (.pl (.int (p:Int))) (.pl (webD W)) (.ac (webD W)) (.ac (.dict (dS zad (ups W)))) (.ac (znb [f d0,f d1,f d2])) .no .no .no .no .no)):=by
  have es:=zalc hl 3 6 (eC (.int 3)) (eC (.int 6)) (E12 cs (.pl (zad (st++[x,y]))) (.pl (zad st)) (.ac (zad [o0,o1])) (.pl (.int (p:Int))) (.pl (webD W)) (.ac (webD W)) (.ac (.dict (dS zad (ups W)))) .no .no .no .no .no .no) (by decide) (by decide) rfl rfl rfl
  rw[hd]at es
  have it:zav (eSl (eVar 1) (zbo (eC (.int 3))) (zbo (eC (.int 6)))) (E12 cs (.pl (zad (st++[x,y]))) (.pl (zad st)) (.ac (zad [o0,o1])) (.pl (.int (p:Int))) (.pl (webD W)) (.ac (webD W)) (.ac (.dict (dS zad (ups W)))) .no .no .no .no .no .no)=some ([d0,d1,d2].map .int,[]):=zahw es rfl
  have cm:zfc (gN 0) zfd (zas 3 zeu (zaa (eVar 0) (zaa (eVar 1) (zaa (eVar 2) aNil)))) [.no,.pl (zad st),.pl (.int (p:Int))] ([d0,d1,d2].map .int)=some ([d0,d1,d2].map λc=>zag (f c)):=
   zem λc _=>⟨[.pl (.int c),.pl (zad st),.pl (.int (p:Int))],rfl,rfl,⟨zag (f c),false,bsOf (zag (f c)) []⟩,zbj (n:=3) (rs:=[⟨.int c,false,[]⟩,⟨zad st,false,[]⟩,⟨.int (p:Int),false,[]⟩]) rfl rfl (hf c).1,rfl⟩
  have co:=zkl (own:=["_law_cell"]) (fr:=[3,5]) it (show(3:Nat)<100000 by decide) cm
  have e0:(if zef ([d0,d1,d2].map λc=>zag (f c))=true then([]:List Nat)else[]++capA [3,5] (E12 cs (.pl (zad (st++[x,y]))) (.pl (zad st)) (.ac (zad [o0,o1])) (.pl (.int (p:Int))) (.pl (webD W)) (.ac (webD W)) (.ac (.dict (dS zad (ups W)))) .no .no .no .no .no .no))=[]:=by split<;>rfl
  rw[e0]at co
  exact zbs co
 obtain⟨c,gc,hcl,hc⟩:=zala (cs:=(cs.drop 6).take 3) (xs:=st) (p:=p) hpr.2 (by rw[qAK,qAP];omega) (by omega) (by omega)
 have hc':Cl12 (nm W) c:=by rw[hnm];exact hc
 have e10:sSet 10 (zas 3 zdn (zaa (eSl (eVar 1) (zbo (eC (.int 6))) (zbo (eC (.int 9)))) (zaa (eVar 3) (zaa (eVar 5) aNil)))) (E12 cs (.pl (zad (st++[x,y]))) (.pl (zad st)) (.ac (zad [o0,o1])) (.pl (.int (p:Int))) (.pl (webD W)) (.ac (webD W)) (.ac (.dict (dS zad (ups W)))) (.ac (znb [f d0,f d1,f d2])) .no .no .no .no .no)=some (.nx (E12 cs (.pl (zad (st++[x,y]))) (.pl (zad st)) (.ac (zad [o0,o1])) (.pl (.int (p:Int))) (.pl (webD W)) (.ac (webD W)) (.ac (.dict (dS zad (ups W)))) (.ac (znb [f d0,f d1,f d2])) (.pl (zbc c)) .no .no .no .no)):=by
  have:=zbs (i:=10) (zbj (n:=3) (g:=zdn) (rs:=[⟨zco ((cs.drop 6).take 3),true,[]⟩,⟨zad st,false,[]⟩,⟨.int (p:Int),false,[]⟩]) (zaz (zalc hl 6 9 (eC (.int 6)) (eC (.int 9)) (E12 cs (.pl (zad (st++[x,y]))) (.pl (zad st)) (.ac (zad [o0,o1])) (.pl (.int (p:Int))) (.pl (webD W)) (.ac (webD W)) (.ac (.dict (dS zad (ups W)))) (.ac (znb [f d0,f d1,f d2])) .no .no .no .no .no) (by decide) (by decide) rfl rfl rfl) (zaz (a:=eVar 3) rfl (zen (a:=eVar 5) rfl))) rfl gc)
  rw[show bss ([⟨zco ((cs.drop 6).take 3),true,[]⟩,⟨zad st,false,[]⟩,⟨.int (p:Int),false,[]⟩]:List Val)=[]from rfl,zabd]at this
  exact this
 obtain⟨s11,s12,s13,lp⟩:=zasx (cs:=cs) (p:=p) (N:=st++[x,y]) (st:=st) (od:=[o0,o1]) (R:=[f d0,f d1,f d2]) ok hW hpr.2 hc' hcl hR (b:=f d0) rfl
 obtain⟨ov,ovl,ovn,ovf,e14⟩:=zasy (cs:=cs) (N:=st++[x,y]) (st:=st) (od:=[o0,o1]) (R:=[f d0,f d1,f d2]) hl ok hpr.2 hc' hcl s11 s12 s13
 have r:Rw12 W p [f d0,f d1,f d2]:=⟨ok,hW,λks h=>(hR ks h).2,λks h=>(hR ks h).1,hpr.2,low⟩
 have r1:=hR (f d1) (by simp)
 have q:Rf12 W (f d1) c o0 o1:=⟨ok,hW,r1.2,hc',by rw[hcl,r1.1],by rw[r1.1];exact hpr.1,by rw[r1.1];exact hpr.2,by rw[hnm];exact ho0.1,by rw[hnm];exact ho1.1,zabh ho0.2,zabh ho1.2,zkm ho0.2.1,zkm ho1.2.1⟩
 have t1:zhc (tTru (zas 3 zgg (zaa (eVar 7) (zaa (eVar 8) (zaa (eVar 9) aNil))))) (L12 cs p (st++[x,y]) st [o0,o1] W [f d0,f d1,f d2] c s11 s12 s13 .no)=some false:=
  zaap (c:=true) (zbj (n:=3) (rs:=[⟨webD W,false,[7]⟩,⟨.dict (dS zad (ups W)),false,[8]⟩,⟨znb [f d0,f d1,f d2],false,[]⟩]) rfl rfl (zada r))
 have t2:zhc (tTru (zas 5 zcx (zaa (eVar 7) (zaa (eIxV 9 (eC (.int 1))) (zaa (eVar 10) (zaa (eSl (eVar 1) (zbo (eC (.int 9))) (zbo (eC (.int 12)))) (zaa (eVar 4) aNil))))))) (L12 cs p (st++[x,y]) st [o0,o1] W [f d0,f d1,f d2] c s11 s12 s13 .no)=some false:=by
  have es:=zalc hl 9 12 (eC (.int 9)) (eC (.int 12)) (L12 cs p (st++[x,y]) st [o0,o1] W [f d0,f d1,f d2] c s11 s12 s13 .no) (by decide) (by decide) rfl rfl rfl
  rw[hz]at es
  have ix:eIxV 9 (eC (.int 1)) (L12 cs p (st++[x,y]) st [o0,o1] W [f d0,f d1,f d2] c s11 s12 s13 .no)=some ⟨zag (f d1),false,[]⟩:=zaci (ds:=[f d0,f d1,f d2].map zag) (n:=1) rfl rfl rfl
  exact zaap (c:=true) (zbj (n:=5) (rs:=[⟨webD W,false,[7]⟩,⟨zag (f d1),false,[]⟩,⟨zbc c,false,[]⟩,⟨zco [z0,z1,z2],true,[]⟩,⟨zad [o0,o1],false,[4]⟩]) (zaz rfl (zaz ix (zaz rfl (zaz es (zen rfl))))) rfl (zzf q z0 z1 z2))
 have er:eAnd (eOp (isCD false) (zas 3 zmu (zaa (eVar 7) (zaa (eCB zkc (zaa (eVar 14) aNil)) (zaa (eVar 10) aNil)))) (eC (.bool true))) (eOp eqD (eVar 7) (eVar 6)) (L12 cs p (st++[x,y]) st [o0,o1] W [f d0,f d1,f d2] c s11 s12 s13 (.ac (zad ov)))=some (vb true):=by
  have gf:=zabf ok hW (ok12 hc' (by omega)) (show c.length=ov.length by omega) ovn
  rw[ovf]at gf
  have et:eCB zkc (zaa (eVar 14) aNil) (L12 cs p (st++[x,y]) st [o0,o1] W [f d0,f d1,f d2] c s11 s12 s13 (.ac (zad ov)))=some ⟨zag ov,false,bsOf (zag ov) [14]⟩:=rfl
  have f1:eOp (isCD false) (zas 3 zmu (zaa (eVar 7) (zaa (eCB zkc (zaa (eVar 14) aNil)) (zaa (eVar 10) aNil)))) (eC (.bool true)) (L12 cs p (st++[x,y]) st [o0,o1] W [f d0,f d1,f d2] c s11 s12 s13 (.ac (zad ov)))=some (vb true):=
   zxi (x:=.bool true) (y:=.bool true) (f2:=false) (b2:=[]) (zbj (n:=3) (rs:=[⟨webD W,false,[7]⟩,⟨zag ov,false,bsOf (zag ov) [14]⟩,⟨zbc c,false,[]⟩]) (zaz rfl (zaz et (zen rfl))) rfl gf) rfl rfl
  have f2:eOp eqD (eVar 7) (eVar 6) (L12 cs p (st++[x,y]) st [o0,o1] W [f d0,f d1,f d2] c s11 s12 s13 (.ac (zad ov)))=some (vb true):=
   zxi (x:=webD W) (y:=webD W) (f1:=false) (f2:=false) (b1:=[7]) (b2:=[]) rfl rfl (zask ok low)
  unfold eAnd
  rw[f1,f2]
  rfl
 have fo:sFor (zav (eVar 9)) (gN 11) (sFor (zav (eLst (zaa (eVar 10) (zaa (eVar 11) (zaa (eIxV 9 (eC (.int 0))) aNil))))) (gN 12) zxk) (E12 cs (.pl (zad (st++[x,y]))) (.pl (zad st)) (.ac (zad [o0,o1])) (.pl (.int (p:Int))) (.pl (webD W)) (.ac (webD W)) (.ac (.dict (dS zad (ups W)))) (.ac (znb [f d0,f d1,f d2])) (.pl (zbc c)) .no .no .no .no)=some (.nx (L12 cs p (st++[x,y]) st [o0,o1] W [f d0,f d1,f d2] c s11 s12 s13 .no)):=
  zin (ds:=[f d0,f d1,f d2].map zag) (bs:=[9]) rfl lp
 exact zap e2 (zap e3 ((eo _).trans (zap e5 (zap e6 (zap e7 (zap e8 (zap e9 (zap e10 (zap fo (zap (if_f (zahu t1 t2) rfl) (zap e14 (zjp er))))))))))))
section
variable{P:Program}{w:World}{K:qB}{mg:Str->Option Value}{base:Heap}
theorem zaui{s k:Int}(h1:0<=s)(h2:s<2147483647)(h3:0<=k)(h4:k<=64):0<=s * (k+2)+7919 * k * k+11/\s * (k+2)+7919 * k * k+11<200000000000:=by
 have a1:0<=s * (k+2):=qCw h1 (by omega)
 have a2:s * (k+2)<=2147483647 * 66:=Int.mul_le_mul (by omega) (by omega) (by omega) (by omega)
 have a3:0<=7919 * k * k:=qCw (by omega) h3
 have a4:7919 * k * k<=7919 * 64 * 64:=Int.mul_le_mul (by omega) h4 h3 (by omega)
 omega
noncomputable def zzg(K:qB):Sp:=λvs H Q _=>∃(a:Addr)(ns:List Int)(m:Int),vs=[.ref a,.int m]/\SqL K H a (ns.map .int)/\0<=m/\m<=64/\
 ∀p H' (cs:List Int),H p=none->Same H H'->H' p=some (.lst (cs.map .int))->cs.length=m.toNat->(∀c∈cs,0<=c/\c<1000000000000)->Q (.ref p) H'
theorem zxl{f:Addr}{fd:qt}(F:Fun K "_law_draws" "_law_draws" zfv f fd)(T:Txt mg):FnOk P w K mg base CX0 1 f fd ["_law_script","_law_many"] (zzg K):=by
 refine F.ok zwi (λvs H Q E h=>?_) (λcdv A outer s H vs Q E hr h=>?_)
 ·obtain⟨a,ns,m,rfl,_⟩:=h
  rfl
 ·obtain⟨a,ns,m,rfl,hS,h0,h64,k⟩:=h
  apply Exists.intro
  apply And.intro
  ·refine'(zkv (zzh (i:=2) (hf:=Or.inl rfl) zfa rfl (Or.inl rfl) zhs)
 (zkv (zadg qp rfl (zait (K:=K) rfl (zzk (zme (K:=K) rfl) (pv 0) zadq (zadr zhs))) (zxo (i:=3) (hf:=Or.inl rfl) zfa rfl (Or.inl rfl))
  (zln (zzh (i:=2) (hf:=Or.inl rfl) zfa rfl (Or.inl rfl) (zlc zcl (zlc (zbh (K:=K) rfl) (zlc ziy (pv 2) zhs) (zlc zcl (pv 3) zhs)) zhs))))
 (zkv (zzh (i:=4) (hf:=Or.inl rfl) zfa rfl (Or.inl rfl) (zalg zob))
 (zkv (zadg qp rfl (zuc rfl T.range (zju (pv 1) zob)) (zxo (i:=5) (hf:=Or.inl rfl) zfa rfl (Or.inl rfl))
  (zln (zaqf (zadi zath (pv 5) (zzj (zbg (K:=K) rfl) (by rfl) T.len zbr (zju (pv 0) zob)) (zdt _)) (zln (zsp (zaei (K:=K) rfl qr qz qy zdg (pv 4) (zju (zlc zcl (zaqq (zdh (K:=K) rfl) (pv 0) (pv 5) (λ_ _=>rfl)) (zlc zalf zhs zhs)) zob)))) (zln (zsp (zaei (K:=K) rfl qr qz qy zdg (pv 4) (zju (zlc zei (zlc zcl (zlc zalf (zlc (zbh (K:=K) rfl) (zlc (zbh (K:=K) rfl) (zlc ziy (pv 2) (zlc (zbh (K:=K) rfl) (pv 5) zhs)) (zlc ziy (zlc ziy zhs (pv 5)) (pv 5))) zhs) zhs) zhs) zhs) zob)))))))
 (zln (zale (pv 4)))))))
  refine⟨_,rfl,_,rfl,a,_,rfl,hS,λp hp=>⟨p,rfl,⟨_,SqL.of zaq⟩,L2.for_list (xs:=cutV (ns.map V.int) none (some 63)) (λi σ H1=>∃(sd:Int)(v3:Option V),σ=[some (.ref a),some (.int m),some (.int sd),v3,none,none]/\H1=upd H p (.lst (cutV (ns.map V.int) none (some 63)))/\0<=sd/\sd<2147483647)
   ⟨7,none,rfl,rfl,by decide,by decide⟩ (λi σ H1 _ ⟨_,_,_,e,_⟩=>e▸SqL.of zaq) ?_ ?_⟩⟩
  ·rintro i x σ H1 hi ⟨sd,v3,rfl,rfl,b0,b1⟩
   obtain⟨z,rfl⟩:∃z,x=V.int z:=by
    have hm:=qAj hi
    unfold cutV at hm
    obtain⟨z,_,e⟩:=qAY.mp (qA8 (qAO hm))
    exact⟨z,e.symm⟩
   refine⟨_,rfl,.inl ⟨by omega,by omega⟩,_,rfl,_,_,rfl,rfl,(by show(0:Int)<2147483629;decide),_,_,rfl,rfl,(by show(0:Int)<2147483647;decide),?_⟩
   exact⟨_,_,rfl,rfl,qAC _ (by decide),qAF _ (by decide)⟩
  ·rintro σ H1 ⟨sd,v3,rfl,rfl,b0,b1⟩
   refine⟨qAv _,λq hq=>?_⟩
   have hqH:H q=none:=(Same.new hp).free hq
   have sH:∀o,Same H (upd (upd H p (.lst (cutV (ns.map V.int) none (some 63)))) q o):=λo=>(Same.new hp).upd hqH
   refine⟨_,rfl,m,rfl,by omega,by omega,L2.for_range (n:=m.toNat) (λi σ H2=>∃(cs:List Int)(v5:Option V),σ=[some (.ref a),some (.int m),some (.int sd),v3,some (.ref q),v5]/\H2=upd (upd H p (.lst (cutV (ns.map V.int) none (some 63)))) q (.lst (cs.map .int))/\cs.length=i/\∀c∈cs,0<=c/\c<1000000000000)
    ⟨[],none,rfl,rfl,rfl,λ_ h=>nomatch h⟩ ?_ ?_⟩
   ·rintro i σ H2 hi ⟨cs,v5,rfl,rfl,hc,hp0⟩
    have hi64:(i:Int)<=64:=by omega
    refine⟨_,rfl,_,rfl,_,_,rfl,.inl ⟨_,(sH _).seq hS,rfl⟩,_,_,rfl,rfl,_,rfl,?_⟩
    have lz:(cs.map V.int).length<qV:=by rw[qF,hc];exact qBv (show i<=64 by omega) (by decide)
    have fin:∀v:Int,0<=v->v<1000000000000->∃(cs':List Int)(v5:Option V),[some (.ref a),some (.int m),some (.int sd),v3,some (.ref q),some (.int (0+(i:Int)))]=[some (.ref a),some (.int m),some (.int sd),v3,some (.ref q),v5]/\
      upd (upd (upd H p (.lst (cutV (ns.map V.int) none (some 63)))) q (.lst (cs.map .int))) q (.lst (cs.map V.int++[.int v]))=upd (upd H p (.lst (cutV (ns.map V.int) none (some 63)))) q (.lst (cs'.map .int))/\cs'.length=i+1/\∀c∈cs',0<=c/\c<1000000000000:=λv hv hv2=>by
     refine⟨cs++[v],_,rfl,?_,by simp[hc],λc h=>?_⟩
     ·rw[zams,qAG];rfl
     ·rcases qX.mp h with h|h
      ·exact hp0 c h
      ·rw[qAL.mp h];exact⟨hv,hv2⟩
    refine ite2 (λh=>?_) (λh=>?_)
    ·have h:(0:Int)+i<((ns.map V.int).length:Nat):=of_decide_eq_true h
     rw[qF]at h
     have hin:i<ns.length:=by omega
     have ga:atI (ns.map V.int) (0+(i:Int))=some (.int ns[i]):=by
      rw[Int.zero_add]
      exact znc (by rw[qR,qH hin];rfl)
     refine⟨_,rfl,.inl ⟨rfl,_,SqL.of zaq⟩,_,rfl,_,rfl,_,_,.inl ((sH _).seq hS),ga,_,_,rfl,rfl,⟨by decide,by decide,by decide⟩,_,_,rfl,rfl,(by show(0:Int)<10 ^ 12;decide),q,_,_,rfl,rfl,zaq,lz,?_⟩
     exact fin _ (qAC _ (by decide)) (qAF _ (by decide))
    ·obtain⟨d1,d2⟩:=zaui (s:=sd) (k:=0+(i:Int)) b0 b1 (by omega) (by omega)
     refine⟨_,rfl,.inl ⟨rfl,_,SqL.of zaq⟩,_,rfl,_,rfl,.inl ⟨by omega,by omega⟩,_,rfl,.inl ⟨by decide,by decide⟩,_,rfl,.inr ⟨by omega,by omega⟩,?_⟩
     refine⟨_,_,rfl,rfl,⟨by decide,by decide,?_⟩,_,_,rfl,rfl,(by show(0:Int)<2147483647;decide),_,_,rfl,rfl,⟨by decide,by decide⟩,q,_,_,rfl,rfl,zaq,lz,?_⟩
     ·show(sd * (0+(i:Int)+2)+7919 * (0+(i:Int)) * (0+(i:Int))+11).natAbs<2 ^ 64
      omega
     ·refine fin _ (Int.ediv_nonneg (qAC _ (by decide)) (by decide)) ?_
      have h9:∀z:Int,z % 2147483647 / 7<1000000000000:=λz=>by have:=qAF z (show(0:Int)<2147483647 by decide);omega
      exact h9 _
   ·rintro σ H2 ⟨cs,v5,rfl,rfl,hc,hp0⟩
    exact⟨_,rfl,k q _ cs hqH (sH _) zaq hc hp0⟩
end
section
variable{P:Program}{w:World}{K:qB}{mg:Str->Option Value}{base:Heap}
noncomputable def zaum(K:qB):Sp:=λvs H Q _=>∃(a:Addr)(ns:List Int),vs=[.ref a]/\SqL K H a (ns.map V.int)/\∀H',Q (.bl true) H'
theorem zasz{f PT:Addr}{fd:qt}(F:Fun K "law" "law" ztt f fd)(T:Txt mg)(D_law_call:zsj P w K mg base)(D_law_draws:Dn P w K mg base "_law_draws" ["_law_script","_law_many"] 1 (zzg K))(D_law_fits:znv P w K mg base)(D_law_kinds:zqs P w K mg base)(D_law_names:zqr P w K mg base)(D_law_orders:zoj P w K mg base)(D_law_parts:zjm P w K mg base)(D_law_refused:zmz P w K mg base PT)(D_law_up:zaax P w K mg base)(D_law_web:zww P w K mg base)(D_fits:zamk P w K mg base):FnOk P w K mg base CX0 8 f fd ["_law_script"] (zaah K PT (("_law_refused":Str)++".<locals>."++"<lambda>")):=by
 refine F.ok zasn (λvs H Q E h=>?_) (λcdv A outer s H vs Q E hr h=>?_)
 ·obtain⟨a,ns,rfl,_⟩:=h
  rfl
 ·obtain⟨a,ns,rfl,hS,hTb,k⟩:=h
  have hu:=zfn hr
  apply Exists.intro
  apply And.intro
  ·refine' Bx.out (zah (zhg (i:=1) zgn rfl (Or.inr rfl) (zig D_law_draws (hr.mono (by decide)) (by rfl) (zao (bv 0) (zao zal zaf (by rfl)) (by rfl)) (by decide) (zan (by rfl)) (by rfl)) (by rfl) (.inl rfl))
 (zah (zhg (i:=2) zgn rfl (Or.inl rfl) (zig D_law_names (hr.mono (by decide)) (by rfl) (zao (zat (zbh (K:=K) rfl) zal (zat zcl (zhv (zdh (K:=K) rfl) (bv 1) zal (λ_ _=>rfl)) zal)) (zao (zhv (zdh (K:=K) rfl) (bv 1) zal (λ_ _=>rfl)) zaf (by rfl)) (by rfl)) (by decide) (zan (by rfl)) (by rfl)) (by rfl) (.inl rfl))
 (zah (zhg (i:=3) zgn rfl (Or.inr rfl) (zca (zme (K:=K) rfl) (bv 2) zer (zbx (zvn zue zal))) (by rfl) (.inl rfl))
 (zah (zhg (i:=4) zgn rfl (Or.inl rfl) (zfi (zao (zhv (zdh (K:=K) rfl) (bv 2) (zvn zue zal) (λ_ _=>rfl)) (zao (zhv (zdh (K:=K) rfl) (bv 2) (zvn zue zal) (λ_ _=>rfl)) zaf (by rfl)) (by rfl))) (by rfl) (.inl rfl))
 (zah (zdr (zck (zlf (K:=K) rfl hr.units) (zat zcl (zhv (zdh (K:=K) rfl) (bv 1) zal (λ_ _=>rfl)) zal) zal (zdt _)) (zak (zhg (i:=4) zgn rfl (Or.inl rfl) (zfi (zao (zhv (zdh (K:=K) rfl) (bv 2) (zvn zue zal) (λ_ _=>rfl)) (zao (zhv (zdh (K:=K) rfl) (bv 2) (zvn zue zal) (λ_ _=>rfl)) zaf (by rfl)) (by rfl))) (by rfl) (.inl rfl))) zbp)
 (zah (zhg (i:=5) zgn rfl (Or.inr rfl) (zat (zbh (K:=K) rfl) zal (zat zcl (zat zei (zhv (zdh (K:=K) rfl) (bv 1) zal (λ_ _=>rfl)) zal) zal)) (by rfl) (.inl rfl))
 (zah (zhg (i:=6) zgn rfl (Or.inl rfl) (zig D_law_web (hr.mono (by decide)) (by rfl) (zao (zca (zme (K:=K) rfl) (bv 1) (zbx zal) (zbx zal)) (zao (bv 3) zaf (by rfl)) (by rfl)) (by decide) (zan (by rfl)) (by rfl)) (by rfl) (.inl rfl))
 (zah (zpv (i:=7) (zek (N':=["_law_name","_law_elders"]) (own:=["_law_name","_law_elders"]) (fr:=[]) (by kernel_rfl)) rfl (zbq (K:=K) rfl (bv 6)) ?hb1 (by rfl) zgn rfl rfl (by intro _;rfl))
 (zah (zhg (i:=8) zgn rfl (Or.inr rfl) (zig D_law_up (hr.mono (by decide)) (by rfl) (zao (bv 6) zaf (by rfl)) (by decide) (zan (by rfl)) (by rfl)) (by rfl) (.inl rfl))
 (zah (zpv (i:=9) (zek (N':=["_law_cell","_law_stand","_law_places"]) (own:=["_law_cell"]) (fr:=[3,5]) (by kernel_rfl)) rfl (zbq (K:=K) rfl (zca (zme (K:=K) rfl) (bv 1) (zbx zal) (zbx zal))) ?hb2 (by rfl) zgn rfl rfl (by intro _;rfl))
 (zah (zhg (i:=10) zgn rfl (Or.inl rfl) (zig D_law_call (hr.mono (by decide)) (by rfl) (zao (zca (zme (K:=K) rfl) (bv 1) (zbx zal) (zbx zal)) (zao (bv 3) (zao (bv 5) zaf (by rfl)) (by rfl)) (by rfl)) (by decide) (zan (by rfl)) (by rfl)) (by rfl) (.inl rfl))
 (zah (zcu qp rfl (zbq (K:=K) rfl (bv 9)) (zhw (i:=11) zgn rfl (Or.inl rfl) (.inl rfl))
  (zak (zcu qp rfl (zbq (K:=K) rfl (zfi (zao (bv 10) (zao (bv 11) (zao (zhv (zdh (K:=K) rfl) (bv 9) zal (λ_ _=>rfl)) zaf (by rfl)) (by rfl)) (by rfl)))) (zhw (i:=12) zgn rfl (Or.inl rfl) (.inl rfl))
  (zah (zhg (i:=13) zgn rfl (Or.inl rfl) (zig D_fits (hr.mono (by decide)) (by rfl) (zao (bv 7) (zao (bv 11) (zao (bv 12) zaf (by rfl)) (by rfl)) (by rfl)) (by decide) (zan (by rfl)) (by rfl)) (by rfl) (.inl rfl))
 (zak (zdr (zafs (znm (zcp (K:=K) rfl (zpr (zmf (K:=K) rfl) (by rfl) T.isinstance zcj (zao (bv 13) (zao (zmp (v:=.ty "bool") (by rfl) T.bool zwe rfl (by decide) (by decide)) zaf (by rfl)) (by rfl)) (by decide) (by decide) (zan (by rfl)) (by rfl)) (λ_=>rfl))) (zyj (zck (zkf (K:=K) rfl hr.units) (bv 13) (zig D_law_fits (hr.mono (by decide)) (by rfl) (zao (bv 8) (zao (bv 11) (zao (bv 12) zaf (by rfl)) (by rfl)) (by rfl)) (by decide) (zan (by rfl)) (by rfl)) (zdt _)))).pt (zak (zba zbz)) zbp))) (by intro _;rfl))) (by intro _;rfl))
 (zah (zdr (zafs (znm (zcp (K:=K) rfl (zig D_law_orders (hr.mono (by decide)) (by rfl) (zao (bv 7) (zao (bv 8) (zao (bv 9) zaf (by rfl)) (by rfl)) (by rfl)) (by decide) (zan (by rfl)) (by rfl)) (λ_=>rfl))) (zyj (znm (zcp (K:=K) rfl (zig D_law_refused (hr.mono (by decide)) (by rfl) (zao (bv 7) (zao (zhv (zdh (K:=K) rfl) (bv 9) zal (λ_ _=>rfl)) (zao (bv 10) (zao (zca (zme (K:=K) rfl) (bv 1) (zbx zal) (zbx zal)) (zao (bv 4) zaf (by rfl)) (by rfl)) (by rfl)) (by rfl)) (by rfl)) (by decide) (zan (by rfl)) (by rfl)) (λ_=>rfl))))).pt (zak (zba zbz)) zbp)
 (zah (zpv (i:=14) (zek (N':=["_law_name","_law_cells","_law_up_here"]) (own:=["_law_name"]) (fr:=[1,8]) (by kernel_rfl)) rfl (zbq (K:=K) rfl (zih (zek (N':=["_law_arm_here"]) (own:=["_law_arm_here"]) (fr:=[]) (by kernel_rfl)) rfl (zbq (K:=K) rfl (bv 10)) ?hb3 (by intro _;rfl))) ?hb4 (by rfl) zgn rfl rfl (by intro _;rfl))
 (zak (zba (zpt (zhx zaru (zig D_fits (hr.mono (by decide)) (by rfl) (zao (bv 7) (zao (znn (zhe (K:=K) rfl) (by rfl) T.tuple zfs (zao (bv 14) zaf (by rfl)) (by decide) (by decide) (zan (by rfl)) (by rfl)) (zao (bv 10) zaf (by rfl)) (by rfl)) (by rfl)) (by decide) (zan (by rfl)) (by rfl)) zbz (zdt _)) (zps (zhx (zlf (K:=K) rfl hr.units) (bv 7) (bv 6) (zdt _))))))))))))))))))))
   case hb1=>(intro cl C s H fp;refine'⟨Bx.out (zhz (K:=K) (n:=2) rfl rfl (zcb (zhw (i:=0) zwu rfl (Or.inl rfl) (by first|exact .inl rfl|exact .inr rfl|assumption)) (zcb (zhw (i:=1) zwu rfl (Or.inl rfl) (by first|exact .inl rfl|exact .inr rfl|assumption)) zhy (by rfl)) (by rfl)) (by rfl) (by rfl)),Bx.out zhh,Bx.out (zfo (zao (bv 0) (zao (znn (zdk (K:=K) rfl) (by rfl) T.list zep (zao (bv 1) zaf (by rfl)) (by decide) (by decide) (zan (by rfl)) (by rfl)) zaf (by rfl)) (by rfl)))⟩)
   case hb2=>(intro cl C s H fp;refine'⟨Bx.out (zhw (i:=0) zagz rfl (Or.inl rfl) (by first|exact .inl rfl|exact .inr rfl|assumption)),Bx.out zhh,Bx.out (zig D_law_kinds (hr.mono (by decide)) (by rfl) (zao (bv 0) (zao (bv 1) (zao (bv 2) zaf (by rfl)) (by rfl)) (by rfl)) (by decide) (zan (by rfl)) (by rfl))⟩)
   case hb3=>(intro cl C s H fp;refine'⟨Bx.out (zhw (i:=0) zaha rfl (Or.inl rfl) (by first|exact .inl rfl|exact .inr rfl|assumption)),Bx.out zhh,Bx.out (zhv (zdh (K:=K) rfl) (zig D_law_parts (hr.mono (by decide)) (by rfl) (zao (bv 0) zaf (by rfl)) (by decide) (zan (by rfl)) (by rfl)) zal (λ_ _=>rfl))⟩)
   case hb4=>(intro cl C s H fp;refine'⟨Bx.out (zhw (i:=0) zahb rfl (Or.inl rfl) (by first|exact .inl rfl|exact .inr rfl|assumption)),Bx.out zhh,Bx.out (zhv (zdh (K:=K) rfl) (zjf hu (bv 2) (bv 0) (λ_ _=>rfl)) (zat zcl (zhv (zdh (K:=K) rfl) (bv 1) zal (λ_ _=>rfl)) (zpr (zbg (K:=K) rfl) (by rfl) T.len zbr (zao (zjf hu (bv 2) (bv 0) (λ_ _=>rfl)) zaf (by rfl)) (by decide) (by decide) (zan (by rfl)) (by rfl))) (λ_ _=>rfl))⟩)
  refine⟨_,rfl,a,ns,24,rfl,hS,by decide,by decide,λpc H1 cs hpc s1 e1 lc p1=>?_⟩
  exact zaki (hT:=s1 _ _ hTb) (F:=zxj) ((zby (zcd (zax (zay (zab (zau zee (se_c λ_=>zae) (zau zdd (zbw (se_c λ_=>zae)) (se_c λ_=>zae))) (zab (zbw (se_c λ_=>zae)) zaj))))) (zby (zcd (zax (zni (zac 2) zgj (zct (zvf (se_c λ_=>zae)))))) (zby (zcd (zax (zht (zab (zbw (zvf (se_c λ_=>zae))) (zab (zbw (zvf (se_c λ_=>zae))) zaj))))) (zby (zcd (zld (st_t (zau zrd (zau zdd (zbw (se_c λ_=>zae)) (se_c λ_=>zae)) (se_c λ_=>zae))) (zax (zht (zab (zbw (zvf (se_c λ_=>zae))) (zab (zbw (zvf (se_c λ_=>zae))) zaj)))) zeg)) (zby (zcd (zax (zau zee (se_c λ_=>zae) (zau zdd (zau zet (zbw (se_c λ_=>zae)) (se_c λ_=>zae)) (se_c λ_=>zae))))) (zby (zcd (zax (zay (zab (zni (zac 1) (zct (se_c λ_=>zae)) (zct (se_c λ_=>zae))) (zab (zac 3) zaj))))) (zby (zcd (zax (zjd (zeh (zac 6)) (zoc (zcs (zcs zkd))) (zaab (zhu (by decide) (zhu (by decide) ztf))) zkg (zjo (zab (zac 0) (zab (zda zia (zab (zac 1) zaj)) zaj)))))) (zby (zcd (zax (zay (zab (zac 6) zaj)))) (zby (zcd (zax (zjd (zeh (zni (zac 1) (zct (se_c λ_=>zae)) (zct (se_c λ_=>zae)))) zch (zpp (by decide)) zkg (zay (zab (zac 0) (zab (zac 1) (zab (zac 2) zaj))))))) (zby (zcd (zax (zay (zab (zni (zac 1) (zct (se_c λ_=>zae)) (zct (se_c λ_=>zae))) (zab (zac 3) (zab (zac 5) zaj)))))) (zby (zcd (zfh (zeh (zac 9)) zch (zfh (zeh (zht (zab (zac 10) (zab (zac 11) (zab (zbw (se_c λ_=>zae)) zaj))))) zch (zaw (zax (zay (zab (zac 7) (zab (zac 11) (zab (zac 12) zaj))))) (zld (zarm (zux (zka (zzt (zac 13) zzu))) (st_t (zau zpk (zac 13) (zay (zab (zac 8) (zab (zac 11) (zab (zac 12) zaj))))))) (zcg (se_c λ_=>zam)) zeg))))) (zby (zrv (zasc (zasb (zux (zka (zay (zab (zac 7) (zab (zac 8) (zab (zac 9) zaj))))))) (zaor (zaoq (zakb (zab (zac 7) (zab (zbw (se_c λ_=>zae)) (zab (zac 10) (zab (zni (zac 1) (zct (se_c λ_=>zae)) (zct (se_c λ_=>zae))) (zab (zac 4) zaj))))))))) (zcd (zcg (se_c λ_=>zam))) (zcd zeg)) (zby (zcd (zax (zjd (zeh (zjd (zeh (zac 10)) zch (zpp (by decide)) zkg (zau zajb (zay (zab (zac 0) zaj)) (se_c λ_=>zae)))) zch (zpp (by decide)) zkg (zau zajb (zje (zac 0)) (zau zdd (zbw (se_c λ_=>zae)) (zda zel (zab (zje (zac 0)) zaj))))))) (zcd (zcg (zuy (zau zatw (zay (zab (zac 7) (zab (zda zmj (zab (zac 14) zaj)) (zab (zac 10) zaj)))) (se_c λ_=>zam)) (zau zrd (zac 7) (zac 6))))))))))))))))))) (zaow (n:=13) e1) (zald lc (λc h=>(p1 c h).1)) (λH2 s2=>k H2 (s1.trans s2))
end
theorem us_s{us:List Value}{n:Nat}(h:us.length=n+1):∃a t,us=a::t/\t.length=n:=by
 cases us with
 | nil=>cases h
 | cons a t=>exact⟨a,t,rfl,Nat.succ.inj h⟩
theorem us_1{us:List Value}(h:us.length=1):∃a0,us=[a0]:=by
 obtain⟨a,t,rfl,h2⟩:=us_s h
 cases qBZ.mp h2
 exact⟨a,rfl⟩
theorem us_2{us:List Value}(h:us.length=2):∃a0 a1,us=[a0,a1]:=by
 obtain⟨a0,t,rfl,h2⟩:=us_s h
 obtain⟨a1,rfl⟩:=us_1 h2
 exact⟨a0,a1,rfl⟩
theorem us_3{us:List Value}(h:us.length=3):∃a0 a1 a2,us=[a0,a1,a2]:=by
 obtain⟨a0,t,rfl,h2⟩:=us_s h
 obtain⟨a1,a2,rfl⟩:=us_2 h2
 exact⟨a0,a1,a2,rfl⟩
theorem us_4{us:List Value}(h:us.length=4):∃a0 a1 a2 a3,us=[a0,a1,a2,a3]:=by
 obtain⟨a0,t,rfl,h2⟩:=us_s h
 obtain⟨a1,a2,a3,rfl⟩:=us_3 h2
 exact⟨a0,a1,a2,a3,rfl⟩
theorem us_5{us:List Value}(h:us.length=5):∃a0 a1 a2 a3 a4,us=[a0,a1,a2,a3,a4]:=by
 obtain⟨a0,t,rfl,h2⟩:=us_s h
 obtain⟨a1,a2,a3,a4,rfl⟩:=us_4 h2
 exact⟨a0,a1,a2,a3,a4,rfl⟩
theorem all_mk{l:PySem.W.OpenLaw}{w:World}{K:qB}{h:Heap}{mg:Str->Option Value}{fa f1 f2 f3 f4 f5 f6 f7 f8 f9 f10 f11 f12 f13 f14 f15 f16 f17 f18 f19 f20 f21 f22 f23 f24 f25:Addr}(X:K.In h)(G:h.Ns qN mg)(hfa:mg "law"=some (.ref fa))
  {od1 an1 od2 an2 od3 an3 od4 an4 od5 an5 od6 an6 od7 an7 od8 an8 od9 an9 od10 an10 od11 an11 od12 an12 od13 an13 od14 an14 od15 an15 od16 an16 od17 an17 od18 an18 od19 an19 od20 an20 od21 an21 od22 an22 od23 an23 od24 an24 od25 an25:Option Addr}{sl1 sl2 sl3 sl4 sl5 sl6 sl7 sl8 sl9 sl10 sl11 sl12 sl13 sl14 sl15 sl16 sl17 sl18 sl19 sl20 sl21 sl22 sl23 sl24 sl25:Array (Option Value)}{oc1 kV1 dc1 pm1 cd1 ct1 oc2 kV2 dc2 pm2 cd2 ct2 oc3 kV3 dc3 pm3 cd3 ct3 oc4 kV4 dc4 pm4 cd4 ct4 oc5 kV5 dc5 pm5 cd5 ct5 oc6 kV6 dc6 pm6 cd6 ct6 oc7 kV7 dc7 pm7 cd7 ct7 oc8 kV8 dc8 pm8 cd8 ct8 oc9 kV9 dc9 pm9 cd9 ct9 oc10 kV10 dc10 pm10 cd10 ct10 oc11 kV11 dc11 pm11 cd11 ct11 oc12 kV12 dc12 pm12 cd12 ct12 oc13 kV13 dc13 pm13 cd13 ct13 oc14 kV14 dc14 pm14 cd14 ct14 oc15 kV15 dc15 pm15 cd15 ct15 oc16 kV16 dc16 pm16 cd16 ct16 oc17 kV17 dc17 pm17 cd17 ct17 oc18 kV18 dc18 pm18 cd18 ct18 oc19 kV19 dc19 pm19 cd19 ct19 oc20 kV20 dc20 pm20 cd20 ct20 oc21 kV21 dc21 pm21 cd21 ct21 oc22 kV22 dc22 pm22 cd22 ct22 oc23 kV23 dc23 pm23 cd23 ct23 oc24 kV24 dc24 pm24 cd24 ct24 oc25 kV25 dc25 pm25 cd25 ct25:Value}
  (a1:qW K qN "names_of"=some (some (.ref f1)))(l1:K.lookup f1=some ⟨oc1,od1,.func (qh "names_of" "names_of" (zbi zgv) (zbd zgv) (zai zgv) .none kV1 dc1 pm1 an1 cd1 ct1),sl1⟩)(c1:qe K cd1 "names_of"=true)(k1:qS K (.ref f1)=true)
  (a2:qW K qN "names_in"=some (some (.ref f2)))(l2:K.lookup f2=some ⟨oc2,od2,.func (qh "names_in" "names_in" (zbi zgw) (zbd zgw) (zai zgw) .none kV2 dc2 pm2 an2 cd2 ct2),sl2⟩)(c2:qe K cd2 "names_in"=true)(k2:qS K (.ref f2)=true)
  (a3:qW K qN "check_kinds"=some (some (.ref f3)))(l3:K.lookup f3=some ⟨oc3,od3,.func (qh "check_kinds" "check_kinds" (zbi zeb) (zbd zeb) (zai zeb) .none kV3 dc3 pm3 an3 cd3 ct3),sl3⟩)(c3:qe K cd3 "check_kinds"=true)(k3:qS K (.ref f3)=true)
  (a4:qW K qN "roofs_of"=some (some (.ref f4)))(l4:K.lookup f4=some ⟨oc4,od4,.func (qh "roofs_of" "roofs_of" (zbi zgx) (zbd zgx) (zai zgx) .none kV4 dc4 pm4 an4 cd4 ct4),sl4⟩)(c4:qe K cd4 "roofs_of"=true)(k4:qS K (.ref f4)=true)
  (a5:qW K qN "roof_of"=some (some (.ref f5)))(l5:K.lookup f5=some ⟨oc5,od5,.func (qh "roof_of" "roof_of" (zbi zis) (zbd zis) (zai zis) .none kV5 dc5 pm5 an5 cd5 ct5),sl5⟩)(c5:qe K cd5 "roof_of"=true)(k5:qS K (.ref f5)=true)
  (a6:qW K qN "names_in_call"=some (some (.ref f6)))(l6:K.lookup f6=some ⟨oc6,od6,.func (qh "names_in_call" "names_in_call" (zbi zcy) (zbd zcy) (zai zcy) .none kV6 dc6 pm6 an6 cd6 ct6),sl6⟩)(c6:qe K cd6 "names_in_call"=true)(k6:qS K (.ref f6)=true)
  (a7:qW K qN "roofs_in_call"=some (some (.ref f7)))(l7:K.lookup f7=some ⟨oc7,od7,.func (qh "roofs_in_call" "roofs_in_call" (zbi zcz) (zbd zcz) (zai zcz) .none kV7 dc7 pm7 an7 cd7 ct7),sl7⟩)(c7:qe K cd7 "roofs_in_call"=true)(k7:qS K (.ref f7)=true)
  (a8:qW K qN "fits_under"=some (some (.ref f8)))(l8:K.lookup f8=some ⟨oc8,od8,.func (qh "fits_under" "fits_under" (zbi zez) (zbd zez) (zai zez) .none kV8 dc8 pm8 an8 cd8 ct8),sl8⟩)(c8:qe K cd8 "fits_under"=true)(k8:qS K (.ref f8)=true)
  (a9:qW K qN "is_nearer"=some (some (.ref f9)))(l9:K.lookup f9=some ⟨oc9,od9,.func (qh "is_nearer" "is_nearer" (zbi zfu) (zbd zfu) (zai zfu) .none kV9 dc9 pm9 an9 cd9 ct9),sl9⟩)(c9:qe K cd9 "is_nearer"=true)(k9:qS K (.ref f9)=true)
  (a10:qW K qN "fits"=some (some (.ref f10)))(l10:K.lookup f10=some ⟨oc10,od10,.func (qh "fits" "fits" (zbi zsf) (zbd zsf) (zai zsf) .none kV10 dc10 pm10 an10 cd10 ct10),sl10⟩)(c10:qe K cd10 "fits"=true)(k10:qS K (.ref f10)=true)
  (a11:qW K qN "nearer"=some (some (.ref f11)))(l11:K.lookup f11=some ⟨oc11,od11,.func (qh "nearer" "nearer" (zbi zla) (zbd zla) (zai zla) .none kV11 dc11 pm11 an11 cd11 ct11),sl11⟩)(c11:qe K cd11 "nearer"=true)(k11:qS K (.ref f11)=true)
  (a12:qW K qN "_law_draws"=some (some (.ref f12)))(l12:K.lookup f12=some ⟨oc12,od12,.func (qh "_law_draws" "_law_draws" (zbi zfv) (zbd zfv) (zai zfv) .none kV12 dc12 pm12 an12 cd12 ct12),sl12⟩)(c12:qe K cd12 "_law_draws"=true)(k12:qS K (.ref f12)=true)
  (a13:qW K qN "_law_names"=some (some (.ref f13)))(l13:K.lookup f13=some ⟨oc13,od13,.func (qh "_law_names" "_law_names" (zbi zfw) (zbd zfw) (zai zfw) .none kV13 dc13 pm13 an13 cd13 ct13),sl13⟩)(c13:qe K cd13 "_law_names"=true)(k13:qS K (.ref f13)=true)
  (a14:qW K qN "_law_web"=some (some (.ref f14)))(l14:K.lookup f14=some ⟨oc14,od14,.func (qh "_law_web" "_law_web" (zbi zit) (zbd zit) (zai zit) .none kV14 dc14 pm14 an14 cd14 ct14),sl14⟩)(c14:qe K cd14 "_law_web"=true)(k14:qS K (.ref f14)=true)
  (a15:qW K qN "_law_up"=some (some (.ref f15)))(l15:K.lookup f15=some ⟨oc15,od15,.func (qh "_law_up" "_law_up" (zbi zlb) (zbd zlb) (zai zlb) .none kV15 dc15 pm15 an15 cd15 ct15),sl15⟩)(c15:qe K cd15 "_law_up"=true)(k15:qS K (.ref f15)=true)
  (a16:qW K qN "_law_arm"=some (some (.ref f16)))(l16:K.lookup f16=some ⟨oc16,od16,.func (qh "_law_arm" "_law_arm" (zbi ziu) (zbd ziu) (zai ziu) .none kV16 dc16 pm16 an16 cd16 ct16),sl16⟩)(c16:qe K cd16 "_law_arm"=true)(k16:qS K (.ref f16)=true)
  (a17:qW K qN "_law_kinds"=some (some (.ref f17)))(l17:K.lookup f17=some ⟨oc17,od17,.func (qh "_law_kinds" "_law_kinds" (zbi zfy) (zbd zfy) (zai zfy) .none kV17 dc17 pm17 an17 cd17 ct17),sl17⟩)(c17:qe K cd17 "_law_kinds"=true)(k17:qS K (.ref f17)=true)
  (a18:qW K qN "_law_call"=some (some (.ref f18)))(l18:K.lookup f18=some ⟨oc18,od18,.func (qh "_law_call" "_law_call" (zbi zgy) (zbd zgy) (zai zgy) .none kV18 dc18 pm18 an18 cd18 ct18),sl18⟩)(c18:qe K cd18 "_law_call"=true)(k18:qS K (.ref f18)=true)
  (a19:qW K qN "_law_parts"=some (some (.ref f19)))(l19:K.lookup f19=some ⟨oc19,od19,.func (qh "_law_parts" "_law_parts" (zbi zfz) (zbd zfz) (zai zfz) .none kV19 dc19 pm19 an19 cd19 ct19),sl19⟩)(c19:qe K cd19 "_law_parts"=true)(k19:qS K (.ref f19)=true)
  (a20:qW K qN "_law_fits"=some (some (.ref f20)))(l20:K.lookup f20=some ⟨oc20,od20,.func (qh "_law_fits" "_law_fits" (zbi zgz) (zbd zgz) (zai zgz) .none kV20 dc20 pm20 an20 cd20 ct20),sl20⟩)(c20:qe K cd20 "_law_fits"=true)(k20:qS K (.ref f20)=true)
  (a21:qW K qN "_law_put"=some (some (.ref f21)))(l21:K.lookup f21=some ⟨oc21,od21,.func (qh "_law_put" "_law_put" (zbi ziv) (zbd ziv) (zai ziv) .none kV21 dc21 pm21 an21 cd21 ct21),sl21⟩)(c21:qe K cd21 "_law_put"=true)(k21:qS K (.ref f21)=true)
  (a22:qW K qN "_law_told"=some (some (.ref f22)))(l22:K.lookup f22=some ⟨oc22,od22,.func (qh "_law_told" "_law_told" (zbi zha) (zbd zha) (zai zha) .none kV22 dc22 pm22 an22 cd22 ct22),sl22⟩)(c22:qe K cd22 "_law_told"=true)(k22:qS K (.ref f22)=true)
  (a23:qW K qN "_law_orders"=some (some (.ref f23)))(l23:K.lookup f23=some ⟨oc23,od23,.func (qh "_law_orders" "_law_orders" (zbi zfb) (zbd zfb) (zai zfb) .none kV23 dc23 pm23 an23 cd23 ct23),sl23⟩)(c23:qe K cd23 "_law_orders"=true)(k23:qS K (.ref f23)=true)
  (a24:qW K qN "_law_refused"=some (some (.ref f24)))(l24:K.lookup f24=some ⟨oc24,od24,.func (qh "_law_refused" "_law_refused" (zbi zed) (zbd zed) (zai zed) .none kV24 dc24 pm24 an24 cd24 ct24),sl24⟩)(c24:qe K cd24 "_law_refused"=true)(k24:qS K (.ref f24)=true)
  (a25:qW K qN "law"=some (some (.ref f25)))(l25:K.lookup f25=some ⟨oc25,od25,.func (qh "law" "law" (zbi ztt) (zbd ztt) (zai ztt) .none kV25 dc25 pm25 an25 cd25 ct25),sl25⟩)(c25:qe K cd25 "law"=true)(k25:qS K (.ref f25)=true)
  {y0 y1 y2 fI:Addr}{xoc xkV xdc xpm xcd xct:Value}{xod xan:Option Addr}{xsl:Array (Option Value)}
  {xdd0:Option Addr}{xsl0:Array (Option Value)}{xcdt0:ClassData}
  {xdd1:Option Addr}{xsl1:Array (Option Value)}{xcdt1:ClassData}
  (xa0:qW K qN "NoCall"=some (some (.ref y0)))
  (xp0:PySem.W.isClsIn K y0=true)
  (xq0:PySem.W.typeIn K (.ref y0)=some (.type "type"))
  (xa1:qW K qN "NoKind"=some (some (.ref y1)))
  (xp1:PySem.W.isClsIn K y1=true)
  (xq1:PySem.W.typeIn K (.ref y1)=some (.type "type"))
  (xa2:qW K qN "CallError"=some (some (.ref y2)))
  (xp2:PySem.W.isClsIn K y2=true)
  (xq2:PySem.W.typeIn K (.ref y2)=some (.type "type"))
  (xz:qW K qN "ValueError"=some none)
  (xi0:PySem.W.findIn K (.ref y0) "__init__"=some (some (.ref fI)))
  (xi1:PySem.W.findIn K (.ref y1) "__init__"=some (some (.ref fI)))
  (xl:K.lookup fI=some ⟨xoc,xod,.func (qh "__init__" "CallError.__init__" (zbi (zsu (top 1) 0)) (zbd (zsu (top 1) 0)) (zai (zsu (top 1) 0)) .none xkV xdc xpm xan xcd xct),xsl⟩)
  (xc:qe K xcd "CallError.__init__"=true)
  (xk:qS K (.ref fI)=true)
  (xf:PySem.W.isFn K (.ref fI)=true)
  (xlc0:K.lookup y0=some ⟨.type "type",xdd0,.cls xcdt0,xsl0⟩)
  (xb0:xcB y0 xcdt0 xsl0=true)
  (xkp0:qS K (.ref y0)=true)
  (xsa0:PySem.W.findIn K (.ref y0) "__setattr__"=some (some (.builtin "object.__setattr__")))
  (xat0:PySem.W.findIn K (.ref y0) "at"=some (none))
  (xga0:PySem.W.findIn K (.ref y0) "__getattribute__"=some (some (.builtin "BaseException.__getattribute__")))
  (xgh0:PySem.W.findIn K (.ref y0) "__getattr__"=some (none))
  (xcl0:PySem.W.findIn K (.ref y0) "__class__"=some (some (.builtin "object.__class__")))
  (xs0_b:PySem.W.subIn K (.ref y0) (.type "BaseException")=some true)
  (xs0_v:PySem.W.subIn K (.ref y0) (.type "ValueError")=some true)
  (xs0_s:PySem.W.subIn K (.ref y0) (.ref y0)=some true)
  (xs0_B:PySem.W.subIn K (.ref y0) (.ref y2)=some true)
  (xs0_1:PySem.W.subIn K (.ref y0) (.ref y1)=some false)
  (xlc1:K.lookup y1=some ⟨.type "type",xdd1,.cls xcdt1,xsl1⟩)
  (xb1:xcB y1 xcdt1 xsl1=true)
  (xkp1:qS K (.ref y1)=true)
  (xsa1:PySem.W.findIn K (.ref y1) "__setattr__"=some (some (.builtin "object.__setattr__")))
  (xat1:PySem.W.findIn K (.ref y1) "at"=some (none))
  (xga1:PySem.W.findIn K (.ref y1) "__getattribute__"=some (some (.builtin "BaseException.__getattribute__")))
  (xgh1:PySem.W.findIn K (.ref y1) "__getattr__"=some (none))
  (xcl1:PySem.W.findIn K (.ref y1) "__class__"=some (some (.builtin "object.__class__")))
  (xs1_b:PySem.W.subIn K (.ref y1) (.type "BaseException")=some true)
  (xs1_v:PySem.W.subIn K (.ref y1) (.type "ValueError")=some true)
  (xs1_s:PySem.W.subIn K (.ref y1) (.ref y1)=some true)
  (xs1_B:PySem.W.subIn K (.ref y1) (.ref y2)=some true)
  (xs1_0:PySem.W.subIn K (.ref y1) (.ref y0)=some false)
  (xBb:PySem.W.subIn K (.ref y2) (.type "BaseException")=some true)
  {cT PT:Addr}(hti:PySem.W.tabIn K "_law_refused"=some (cT,PT))
  (z1:qW K qN "all"=some none)(z2:qW K qN "any"=some none)(z3:qW K qN "bool"=some none)(z4:qW K qN "enumerate"=some none)(z5:qW K qN "isinstance"=some none)(z6:qW K qN "len"=some none)(z7:qW K qN "list"=some none)(z8:qW K qN "min"=some none)(z9:qW K qN "range"=some none)(z10:qW K qN "tuple"=some none)(z11:qW K qN "zip"=some none) :
  ∃fd:qt,(∀(s:Shared)(v:Value),BindsTo s fd ⟨[v],[]⟩ [("_law_script",v)])/\∀base:Heap,K.In base->base.Ns qN mg->BM mg base->PySem.W.CodeHd base cT PT->FnOk l.prog w K mg base CX0 8 fa fd ["_law_script"] (zaah K PT (("_law_refused":Str)++".<locals>."++"<lambda>")):=by
 have e:=hfa.symm.trans (qY X G a25)
 cases e
 have T:Txt mg:=⟨qAR X G z1,qAR X G z2,qAR X G z3,qAR X G z4,qAR X G z5,qAR X G z6,qAR X G z7,qAR X G z8,qAR X G z9,qAR X G z10,qAR X G z11⟩
 have F1:=zdb (st:=zgv) l1 c1 k1
 have b1:=F1.binds (ps:=["web"]) λ_ _ _ _ _ _ us hl=>by obtain⟨_,rfl⟩:=us_1 hl;rfl
 have F2:=zdb (st:=zgw) l2 c2 k2
 have b2:=F2.binds (ps:=["arm"]) λ_ _ _ _ _ _ us hl=>by obtain⟨_,rfl⟩:=us_1 hl;rfl
 have F3:=zdb (st:=zeb) l3 c3 k3
 have b3:=F3.binds (ps:=["web","names"]) λ_ _ _ _ _ _ us hl=>by obtain⟨_,_,rfl⟩:=us_2 hl;rfl
 have F4:=zdb (st:=zgx) l4 c4 k4
 have b4:=F4.binds (ps:=["web"]) λ_ _ _ _ _ _ us hl=>by obtain⟨_,rfl⟩:=us_1 hl;rfl
 have F5:=zdb (st:=zis) l5 c5 k5
 have b5:=F5.binds (ps:=["roofs","arm"]) λ_ _ _ _ _ _ us hl=>by obtain⟨_,_,rfl⟩:=us_2 hl;rfl
 have F6:=zdb (st:=zcy) l6 c6 k6
 have b6:=F6.binds (ps:=["call"]) λ_ _ _ _ _ _ us hl=>by obtain⟨_,rfl⟩:=us_1 hl;rfl
 have F7:=zdb (st:=zcz) l7 c7 k7
 have b7:=F7.binds (ps:=["roofs","call"]) λ_ _ _ _ _ _ us hl=>by obtain⟨_,_,rfl⟩:=us_2 hl;rfl
 have F8:=zdb (st:=zez) l8 c8 k8
 have b8:=F8.binds (ps:=["kinds","call_roofs"]) λ_ _ _ _ _ _ us hl=>by obtain⟨_,_,rfl⟩:=us_2 hl;rfl
 have F9:=zdb (st:=zfu) l9 c9 k9
 have b9:=F9.binds (ps:=["roofs","one","other"]) λ_ _ _ _ _ _ us hl=>by obtain⟨_,_,_,rfl⟩:=us_3 hl;rfl
 have F10:=zdb (st:=zsf) l10 c10 k10
 have b10:=F10.binds (ps:=["web","kinds","call"]) λ_ _ _ _ _ _ us hl=>by obtain⟨_,_,_,rfl⟩:=us_3 hl;rfl
 have F11:=zdb (st:=zla) l11 c11 k11
 have b11:=F11.binds (ps:=["web","one","other"]) λ_ _ _ _ _ _ us hl=>by obtain⟨_,_,_,rfl⟩:=us_3 hl;rfl
 have F12:=zdb (st:=zfv) l12 c12 k12
 have b12:=F12.binds (ps:=["_law_script","_law_many"]) λ_ _ _ _ _ _ us hl=>by obtain⟨_,_,rfl⟩:=us_2 hl;rfl
 have F13:=zdb (st:=zfw) l13 c13 k13
 have b13:=F13.binds (ps:=["_law_many","_law_cell"]) λ_ _ _ _ _ _ us hl=>by obtain⟨_,_,rfl⟩:=us_2 hl;rfl
 have F14:=zdb (st:=zit) l14 c14 k14
 have b14:=F14.binds (ps:=["_law_cells","_law_names_here"]) λ_ _ _ _ _ _ us hl=>by obtain⟨_,_,rfl⟩:=us_2 hl;rfl
 have F15:=zdb (st:=zlb) l15 c15 k15
 have b15:=F15.binds (ps:=["_law_web_here"]) λ_ _ _ _ _ _ us hl=>by obtain⟨_,rfl⟩:=us_1 hl;rfl
 have F16:=zdb (st:=ziu) l16 c16 k16
 have b16:=F16.binds (ps:=["_law_cell","_law_names_here"]) λ_ _ _ _ _ _ us hl=>by obtain⟨_,_,rfl⟩:=us_2 hl;rfl
 have F17:=zdb (st:=zfy) l17 c17 k17
 have b17:=F17.binds (ps:=["_law_cell","_law_names_here","_law_places"]) λ_ _ _ _ _ _ us hl=>by obtain⟨_,_,_,rfl⟩:=us_3 hl;rfl
 have F18:=zdb (st:=zgy) l18 c18 k18
 have b18:=F18.binds (ps:=["_law_cells","_law_names_here","_law_places"]) λ_ _ _ _ _ _ us hl=>by obtain⟨_,_,_,rfl⟩:=us_3 hl;rfl
 have F19:=zdb (st:=zfz) l19 c19 k19
 have b19:=F19.binds (ps:=["_law_arm_here"]) λ_ _ _ _ _ _ us hl=>by obtain⟨_,rfl⟩:=us_1 hl;rfl
 have F20:=zdb (st:=zgz) l20 c20 k20
 have b20:=F20.binds (ps:=["_law_up_here","_law_kinds_here","_law_call_here"]) λ_ _ _ _ _ _ us hl=>by obtain⟨_,_,_,rfl⟩:=us_3 hl;rfl
 have F21:=zdb (st:=ziv) l21 c21 k21
 have b21:=F21.binds (ps:=["_law_row","_law_at","_law_thing"]) λ_ _ _ _ _ _ us hl=>by obtain⟨_,_,_,rfl⟩:=us_3 hl;rfl
 have F22:=zdb (st:=zha) l22 c22 k22
 have b22:=F22.binds (ps:=["_law_ask"]) λ_ _ _ _ _ _ us hl=>by obtain⟨_,rfl⟩:=us_1 hl;rfl
 have F23:=zdb (st:=zfb) l23 c23 k23
 have b23:=F23.binds (ps:=["_law_web_here","_law_up_here","_law_rows"]) λ_ _ _ _ _ _ us hl=>by obtain⟨_,_,_,rfl⟩:=us_3 hl;rfl
 have F24:=zdb (st:=zed) l24 c24 k24
 have b24:=F24.binds (ps:=["_law_web_here","_law_kinds_here","_law_call_here","_law_cells","_law_odd"]) λ_ _ _ _ _ _ us hl=>by obtain⟨_,_,_,_,_,rfl⟩:=us_5 hl;rfl
 have F25:=zdb (st:=ztt) l25 c25 k25
 refine⟨qh "law" "law" (zbi ztt) (zbd ztt) (zai ztt) .none kV25 dc25 pm25 an25 cd25 ct25,λs v=>.of_eq rfl,λbase _ _ hbm HC=>?_⟩
 have XF:=zdb (st:=zsu (top 1) 0) xl xc xk
 have xv:=qAR X G xz
 obtain⟨cl,cl0,cl1,cl2⟩:∃cl:Str->Addr,cl "NoCall"=y0/\cl "NoKind"=y1/\cl "CallError"=y2:=⟨λs=>if s="NoCall"then y0 else if s="NoKind"then y1 else if s="CallError"then y2 else 0,rfl,rfl,rfl⟩
 have XM0:XMk K y0 fI:=⟨(zajz xlc0 xb0).1,(zajz xlc0 xb0).2,xi0,xf,xkp0,xsa0,xat0,xga0,xgh0⟩
 have X_NoCall:XcOk l.prog w K mg base "NoCall" (cl "NoCall"):=by rw[cl0];exact⟨fI,_,XM0,zaes XF XM0 xv rfl rfl (by decide) (λ_=>⟨_,rfl⟩),XF.binds (ps:=["self","at"]) (λ_ _ _ _ _ _ us hl=>by obtain⟨_,_,rfl⟩:=us_2 hl;rfl),qY X G xa0,xcl0,zama xs0_b xp0 xq0 xs0_s⟩
 have XM1:XMk K y1 fI:=⟨(zajz xlc1 xb1).1,(zajz xlc1 xb1).2,xi1,xf,xkp1,xsa1,xat1,xga1,xgh1⟩
 have X_NoKind:XcOk l.prog w K mg base "NoKind" (cl "NoKind"):=by rw[cl1];exact⟨fI,_,XM1,zaes XF XM1 xv rfl rfl (by decide) (λ_=>⟨_,rfl⟩),XF.binds (ps:=["self","at"]) (λ_ _ _ _ _ _ us hl=>by obtain⟨_,_,rfl⟩:=us_2 hl;rfl),qY X G xa1,xcl1,zama xs1_b xp1 xq1 xs1_s⟩
 have XK_law_told:XKit l.prog w K mg base cl ["NoCall","NoKind"] ["NoCall","NoKind"] "CallError":=by
  refine⟨(zfj X_NoCall (zfj X_NoKind zpw)),?_,?_,?_,?_,?_,xv⟩
  ·rw[cl2];exact(zfj (by rw[cl0];exact zamb xBb xp2 xq2 xs0_B) (zfj (by rw[cl1];exact zamb xBb xp2 xq2 xs1_B) zpw))
  ·exact(zfj (zfj (by rw[cl0];exact kd_t (zalx xp0 xq0 xs0_s) rfl) (zfj (by rw[cl0,cl1];exact kd_f (zaly xs0_s xp1 xq1 xs0_1) (by decide)) zpw)) (zfj (zfj (by rw[cl1,cl0];exact kd_f (zaly xs1_s xp0 xq0 xs1_0) (by decide)) (zfj (by rw[cl1];exact kd_t (zalx xp1 xq1 xs1_s) rfl) zpw)) zpw))
  ·exact(zfj (by rw[cl0];exact zalz xs0_v) (zfj (by rw[cl1];exact zalz xs1_v) zpw))
  ·exact(zfj (by rw[cl0];exact qY X G xa0) (zfj (by rw[cl1];exact qY X G xa1) zpw))
  ·rw[cl2];exact qY X G xa2
 have D_names_of:znt l.prog w K mg base:=⟨f1,_,zyu F1 T , qY X G a1,k1,b1⟩
 have D_names_in:znu l.prog w K mg base:=⟨f2,_,zyv F2 T , qY X G a2,k2,b2⟩
 have D_check_kinds:zjl l.prog w K mg base:=⟨f3,_,zri F3 T D_names_of,qY X G a3,k3,b3⟩
 have D_roofs_of:ziw l.prog w K mg base:=⟨f4,_,zyw F4 T , qY X G a4,k4,b4⟩
 have D_roof_of:zwv l.prog w K mg base:=⟨f5,_,zacr F5 T D_names_in,qY X G a5,k5,b5⟩
 have D_names_in_call:zhn l.prog w K mg base:=⟨f6,_,zos F6 T D_names_in,qY X G a6,k6,b6⟩
 have D_roofs_in_call:zho l.prog w K mg base:=⟨f7,_,zot F7 T D_roof_of,qY X G a7,k7,b7⟩
 have D_fits_under:zkt l.prog w K mg base:=⟨f8,_,ztu F8 T , qY X G a8,k8,b8⟩
 have D_is_nearer:zly l.prog w K mg base:=⟨f9,_,zxa F9 T , qY X G a9,k9,b9⟩
 have D_fits:zamk l.prog w K mg base:=⟨f10,_,zapj F10 T D_check_kinds D_fits_under D_names_in_call D_roofs_in_call D_roofs_of,qY X G a10,k10,b10⟩
 have D_nearer:zaaw l.prog w K mg base:=⟨f11,_,zahc F11 T D_check_kinds D_is_nearer D_roofs_of,qY X G a11,k11,b11⟩
 have D_law_draws:Dn l.prog w K mg base "_law_draws" ["_law_script","_law_many"] 1 (zzg K):=⟨f12,_,zxl F12 T , qY X G a12,k12,b12⟩
 have D_law_names:zqr l.prog w K mg base:=⟨f13,_,zxb F13 T , qY X G a13,k13,b13⟩
 have D_law_web:zww l.prog w K mg base:=⟨f14,_,zacs F14 T , qY X G a14,k14,b14⟩
 have D_law_up:zaax l.prog w K mg base:=⟨f15,_,zahd F15 T , qY X G a15,k15,b15⟩
 have D_law_arm:zwx l.prog w K mg base:=⟨f16,_,zact F16 T , qY X G a16,k16,b16⟩
 have D_law_kinds:zqs l.prog w K mg base:=⟨f17,_,zxc F17 T , qY X G a17,k17,b17⟩
 have D_law_call:zsj l.prog w K mg base:=⟨f18,_,zyx F18 T D_law_arm,qY X G a18,k18,b18⟩
 have D_law_parts:zjm l.prog w K mg base:=⟨f19,_,zxd F19 T , qY X G a19,k19,b19⟩
 have D_law_fits:znv l.prog w K mg base:=⟨f20,_,zyy F20 T D_law_parts,qY X G a20,k20,b20⟩
 have D_law_put:zwy l.prog w K mg base:=⟨f21,_,zacu F21 T , qY X G a21,k21,b21⟩
 have D_law_told:zsk l.prog w K mg base cl:=⟨f22,_,zyz (cl:=cl) F22 T XK_law_told,qY X G a22,k22,b22⟩
 have D_law_orders:zoj l.prog w K mg base:=⟨f23,_,ztv F23 T D_law_fits D_nearer,qY X G a23,k23,b23⟩
 have D_check_kinds__X:zgk l.prog w K mg base cl:=⟨f3,_,znw (cl:=cl) F3 T D_names_of X_NoKind,qY X G a3,k3,b3⟩
 have D_fits__X:zwz l.prog w K mg base cl:=⟨f10,_,zacv (cl:=cl) F10 T D_check_kinds__X D_fits_under D_names_in_call D_roofs_in_call D_roofs_of X_NoCall,qY X G a10,k10,b10⟩
 have D_nearer__X:zqt l.prog w K mg base cl:=⟨f11,_,zxe (cl:=cl) F11 T D_check_kinds__X D_is_nearer D_roofs_of,qY X G a11,k11,b11⟩
 have D_law_refused:zmz l.prog w K mg base PT:=⟨f24,_,zrj (cl:=cl) F24 T D_law_parts D_law_put D_law_told D_fits__X D_nearer__X (PySem.W.law_code (x:="_law_refused") X G hti (qY X G a24) (X _ _ l24) rfl) HC hbm,qY X G a24,k24,b24⟩
 exact zasz F25 T D_law_call D_law_draws D_law_fits D_law_kinds D_law_names D_law_orders D_law_parts D_law_refused D_law_up D_law_web D_fits
theorem tab_mk{K:qB}{x:Str}{f c P:Addr}{o o2:Value}{d d2:Option Addr}{fd:qt}{sl sl2:Array (Option Value)}{vs:Array Value}(h1:qW K qN x=some (some (.ref f)))(h2:K.lookup f=some ⟨o,d,.func fd,sl⟩)(h3:fd.code=.ref c)(h4:K.lookup c=some ⟨o2,d2,.fields vs,sl2⟩)(h5:(vs[11]?:Option Value)=some (.ref P)):PySem.W.tabIn K x=some (c,P):=by
 unfold PySem.W.tabIn
 simp only[h1,h2,h3,h4,h5]
theorem walk{l:PySem.W.OpenLaw}{q:Program}{loose:List Str}{XP:(Str->Option Value)->Heap->Prop}{YP:World->Heap->Prop}{d dt:DefRec}{K:Params->qB}{cT PT:Addr}(hn:l.most=some 63)(hdf:d.params.defaults=[])
  (hY:∀(w:World) (h:Heap),YP w h->(K w.params).In h)
  (hrec:L2.recDef q "_law_refused" dt)(hti:∀w:World,PySem.W.tabIn (K w.params) "_law_refused"=some (cT,PT))(hnt:∀w:World,PySem.W.noTabs (K w.params)=true)
  (F:∀(w:World)(mg:Str->Option Value)(fa:Addr)(h:Heap),(K w.params).In h->h.Ns qN mg->mg d.name=some (.ref fa)->
   ∃fd:qt,(∀(s:Shared)(u:Value),BindsTo s fd ⟨[u],[]⟩ [("_law_script",u)])/\∀base:Heap,(K w.params).In base->base.Ns qN mg->BM mg base->PySem.W.CodeHd base cT PT->FnOk l.prog w (K w.params) mg base CX0 8 fa fd ["_law_script"] (zaah (K w.params) PT (("_law_refused":Str)++".<locals>."++"<lambda>"))) :
  PySem.W.WalkO q loose XP YP l.row.toRowW d [] (λf vs=>PySem.call f vs):=
 L2.walk_tab (n:=63) (k:=8) (x:="_law_script") hn (by decide) hdf ⟨rfl,by decide,by decide,rfl⟩ hY hrec hti hnt F
end Bc
theorem PySem.W.Fast.te1745801952628785915:True:=trivial
noncomputable def PySem.W.Fast.tw10805290185903544163:PySem.Program:=PySem.Challenge.pw_bestcalls_k12_fits_and_nearer
theorem PySem.W.Fast.te10805290185903544163:PySem.Challenge.pw_bestcalls_k12_fits_and_nearer=PySem.W.Fast.tw10805290185903544163:=rfl
open PySem PySem.W PyProof.Rows
set_option maxRecDepth 100000 in
set_option maxHeartbeats 0 in
theorem PySem.Challenge.cw_bestcalls_k12_fits_and_nearer_holds : PySem.Challenge.rw_bestcalls_k12_fits_and_nearer.Holds := by
 w_on;o_law;k_head;(case hw=>w_witness2)
 k_fill
 refine' Bc.walk (l:=PySem.Challenge.rw_bestcalls_k12_fits_and_nearer) rfl rfl (λw h Y=>PySem.W.km_in_of Y) ?hrec ?hti ?hnt ?F
 case hrec=>rfl
 case hti=>intro w;refine' Bc.tab_mk ?h1 ?h2 ?h3 ?h4 ?h5;(case h1=>k_is);(case h2=>k_is);(case h3=>rfl);(case h4=>k_is);(case h5=>rfl)
 case hnt=>intro w;kernel_rfl
 case F=>
  intro w mg fa h KX G hmg
  refine' Bc.all_mk KX G hmg ?a1 ?l1 ?c1 ?k1 ?a2 ?l2 ?c2 ?k2 ?a3 ?l3 ?c3 ?k3 ?a4 ?l4 ?c4 ?k4 ?a5 ?l5 ?c5 ?k5 ?a6 ?l6 ?c6 ?k6 ?a7 ?l7 ?c7 ?k7 ?a8 ?l8 ?c8 ?k8 ?a9 ?l9 ?c9 ?k9 ?a10 ?l10 ?c10 ?k10 ?a11 ?l11 ?c11 ?k11 ?a12 ?l12 ?c12 ?k12 ?a13 ?l13 ?c13 ?k13 ?a14 ?l14 ?c14 ?k14 ?a15 ?l15 ?c15 ?k15 ?a16 ?l16 ?c16 ?k16 ?a17 ?l17 ?c17 ?k17 ?a18 ?l18 ?c18 ?k18 ?a19 ?l19 ?c19 ?k19 ?a20 ?l20 ?c20 ?k20 ?a21 ?l21 ?c21 ?k21 ?a22 ?l22 ?c22 ?k22 ?a23 ?l23 ?c23 ?k23 ?a24 ?l24 ?c24 ?k24 ?a25 ?l25 ?c25 ?k25 ?xa0 ?xp0 ?xq0 ?xa1 ?xp1 ?xq1 ?xa2 ?xp2 ?xq2 ?xz ?xi0 ?xi1 ?xl ?xc ?xk ?xf ?xlc0 ?xb0 ?xkp0 ?xsa0 ?xat0 ?xga0 ?xgh0 ?xcl0 ?xs0_b ?xs0_v ?xs0_s ?xs0_B ?xs0_1 ?xlc1 ?xb1 ?xkp1 ?xsa1 ?xat1 ?xga1 ?xgh1 ?xcl1 ?xs1_b ?xs1_v ?xs1_s ?xs1_B ?xs1_0 ?xBb ?hti ?z1 ?z2 ?z3 ?z4 ?z5 ?z6 ?z7 ?z8 ?z9 ?z10 ?z11
  (case a1=>k_is)
  (case l1=>k_is)
  (case c1=>k_is)
  (case k1=>k_is)
  (case a2=>k_is)
  (case l2=>k_is)
  (case c2=>k_is)
  (case k2=>k_is)
  (case a3=>k_is)
  (case l3=>k_is)
  (case c3=>k_is)
  (case k3=>k_is)
  (case a4=>k_is)
  (case l4=>k_is)
  (case c4=>k_is)
  (case k4=>k_is)
  (case a5=>k_is)
  (case l5=>k_is)
  (case c5=>k_is)
  (case k5=>k_is)
  (case a6=>k_is)
  (case l6=>k_is)
  (case c6=>k_is)
  (case k6=>k_is)
  (case a7=>k_is)
  (case l7=>k_is)
  (case c7=>k_is)
  (case k7=>k_is)
  (case a8=>k_is)
  (case l8=>k_is)
  (case c8=>k_is)
  (case k8=>k_is)
  (case a9=>k_is)
  (case l9=>k_is)
  (case c9=>k_is)
  (case k9=>k_is)
  (case a10=>k_is)
  (case l10=>k_is)
  (case c10=>k_is)
  (case k10=>k_is)
  (case a11=>k_is)
  (case l11=>k_is)
  (case c11=>k_is)
  (case k11=>k_is)
  (case a12=>k_is)
  (case l12=>k_is)
  (case c12=>k_is)
  (case k12=>k_is)
  (case a13=>k_is)
  (case l13=>k_is)
  (case c13=>k_is)
  (case k13=>k_is)
  (case a14=>k_is)
  (case l14=>k_is)
  (case c14=>k_is)
  (case k14=>k_is)
  (case a15=>k_is)
  (case l15=>k_is)
  (case c15=>k_is)
  (case k15=>k_is)
  (case a16=>k_is)
  (case l16=>k_is)
  (case c16=>k_is)
  (case k16=>k_is)
  (case a17=>k_is)
  (case l17=>k_is)
  (case c17=>k_is)
  (case k17=>k_is)
  (case a18=>k_is)
  (case l18=>k_is)
  (case c18=>k_is)
  (case k18=>k_is)
  (case a19=>k_is)
  (case l19=>k_is)
  (case c19=>k_is)
  (case k19=>k_is)
  (case a20=>k_is)
  (case l20=>k_is)
  (case c20=>k_is)
  (case k20=>k_is)
  (case a21=>k_is)
  (case l21=>k_is)
  (case c21=>k_is)
  (case k21=>k_is)
  (case a22=>k_is)
  (case l22=>k_is)
  (case c22=>k_is)
  (case k22=>k_is)
  (case a23=>k_is)
  (case l23=>k_is)
  (case c23=>k_is)
  (case k23=>k_is)
  (case a24=>k_is)
  (case l24=>k_is)
  (case c24=>k_is)
  (case k24=>k_is)
  (case a25=>k_is)
  (case l25=>k_is)
  (case c25=>k_is)
  (case k25=>k_is)
  (case xa0=>k_is)
  (case xp0=>k_is)
  (case xq0=>k_is)
  (case xa1=>k_is)
  (case xp1=>k_is)
  (case xq1=>k_is)
  (case xa2=>k_is)
  (case xp2=>k_is)
  (case xq2=>k_is)
  (case xz=>k_is)
  (case xi0=>k_is)
  (case xi1=>k_is)
  (case xl=>k_is)
  (case xc=>k_is)
  (case xk=>k_is)
  (case xf=>k_is)
  (case xlc0=>k_is)
  (case xb0=>rfl)
  (case xkp0=>k_is)
  (case xsa0=>k_is)
  (case xat0=>k_is)
  (case xga0=>k_is)
  (case xgh0=>k_is)
  (case xcl0=>k_is)
  (case xs0_b=>k_is)
  (case xs0_v=>k_is)
  (case xs0_s=>k_is)
  (case xs0_B=>k_is)
  (case xs0_1=>k_is)
  (case xlc1=>k_is)
  (case xb1=>rfl)
  (case xkp1=>k_is)
  (case xsa1=>k_is)
  (case xat1=>k_is)
  (case xga1=>k_is)
  (case xgh1=>k_is)
  (case xcl1=>k_is)
  (case xs1_b=>k_is)
  (case xs1_v=>k_is)
  (case xs1_s=>k_is)
  (case xs1_B=>k_is)
  (case xs1_0=>k_is)
  (case xBb=>k_is)
  (case hti=>refine' Bc.tab_mk ?h1 ?h2 ?h3 ?h4 ?h5;(case h1=>k_is);(case h2=>k_is);(case h3=>rfl);(case h4=>k_is);(case h5=>rfl))
  (case z1=>k_is)
  (case z2=>k_is)
  (case z3=>k_is)
  (case z4=>k_is)
  (case z5=>k_is)
  (case z6=>k_is)
  (case z7=>k_is)
  (case z8=>k_is)
  (case z9=>k_is)
  (case z10=>k_is)
  (case z11=>k_is)
